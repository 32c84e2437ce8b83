import PyProof.Rows.All
import Wide.All
import OpenK.AllK
import Wide.FinOn
import Lean
import PyProof.EqAt
import PyProof.EqKinds
import PyProof.TupleCall
import PySem.Syntax
import KE.KNestM
import KE.KLam
import PyProof.NeKinds
import PyProof.IsRules
import PyProof.Rows.StrRev
import KE.KSortTup
import PyProof.Rows.ZipGen
import PyProof.EnumIter
import KE.KRevIter
import KE.KDictList
import KE.KIntText
import PyProof.Rows.StrNews
import PyProof.Rows.StrJoin2
import PyProof.Rows.FStr
import PyProof.StrWalks
import PyProof.StrLawsTight
import KE.KSort
import PyProof.Rows.SetFrom
import KE.KDictSum
import PyProof.ExcInit
import PyProof.ExcClass3
import PyProof.ExcBaseAll.ValueError
import PyProof.ExcAttrAll.ValueError
import PyProof.ExcArgsOwn
import PySem.SetOps
import PyProof.TupleOfGen
import PyProof.MinMaxWalk
import PyProof.FactsAll.tuple_2
import KE.KMinBuiltin
import PyProof.Rows.CallKwBuiltin
import PyProof.RaisesMany
import PyProof.RulesDel
import PyProof.RulesAs
import PyProof.IsiTuple
import PyProof.StrLawsChain
import PySem.Challenge.RW_pactboards_k21_texts_refused
local macro_rules|`(tactic| nofun)=>`(tactic| decide +kernel)
local macro_rules|`(tactic| ext)=>`(tactic| first|decide|lia|omega)
set_option compiler.extract_closed false
set_option genSizeOf false
set_option Elab.async false
set_option linter.all false
set_option maxRecDepth 100000
set_option maxHeartbeats 4000000
open And renaming intro->aB
open Array renaming find?_toList->vH,forIn_toList->ox,getElem?_eq_some_iff->dy,getElem?_toList->mJ,length_toList->nA,toList->Cs,toList_append->ic,toList_inj->pV
open Bool renaming and_eq_true->aO,and_true->sS,decide_and->qO,eq_iff_iff->Ab,false_and->ng,false_eq_true->bf,false_ne_true->bx,false_or->Cv,not_eq_true'->xB,not_true->iA,or_eq_false_iff->ve,or_eq_true->ky,or_false->sL,or_true->pI,true_and->sQ,true_or->Du
open Classical renaming choose->lB,choose_spec->iN,propDecidable->qP
open False renaming elim->bV
open ForInStep renaming yield->i9
open Int renaming add_le_add_right->vK,emod_lt_of_pos->eJ,emod_nonneg->fG,le_of_lt->Gs,le_trans->Gy,max_eq_right->zY,min_eq_left->AQ,mul_one->HX,not_lt->wZ,ofNat_le->Gv,toNat_natCast->bI,toNat_of_nonneg->iu,zero_add->Gu
open List renaming all_cons->bG,all_eq_true->cJ,all_map->t7,all_nil->t9,any_cons->cN,append_assoc->cL,append_cons->xZ,append_inj_left'->uS,append_nil->bH,contains_cons->c_,contains_iff_mem->mS,drop_drop->rP,drop_eq_getElem_cons->bR,drop_left->li,drop_length->e_,drop_nil->CB,drop_zero->fU,ext_getElem?->pE,filterMap_cons->fO,find?->Ib,find?_cons->dC,forIn_cons->df,forIn_nil->AS,getElem?_append_left->aJ,getElem?_append_right->bo,getElem?_drop->oF,getElem?_eq_getElem->ar,getElem?_eq_none->dq,getElem?_eq_some_iff->aq,getElem?_inj->pF,getElem?_map->aG,getElem?_of_mem->kl,getElem?_range->ig,getElem?_replicate->iK,getElem?_set_ne->bn,getElem?_set_self->bC,getElem?_take_of_lt->eM,getElem?_zipWith->mR,getElem_mem->cR,getElem_toArray->kn,length->cw,length_append->aS,length_cons->cQ,length_drop->bE,length_eq_zero_iff->iM,length_map->ai,length_nil->fC,length_pos_iff->kJ,length_range->xD,length_replicate->gH,length_set->dO,length_singleton->bL,length_take->bj,length_zipWith->vO,lookup->u_,lookup_cons->qe,lookup_cons_self->gK,map->AW,map_append->bh,map_cons->aN,map_const'->Ah,map_drop->kg,map_map->iQ,map_nil->pz,map_take->oA,mem_append->aZ,mem_append_left->gT,mem_append_right->bT,mem_cons->aI,mem_cons_of_mem->bb,mem_cons_self->bO,mem_map->cZ,mem_of_getElem?->aX,mem_of_mem_drop->fH,mem_of_mem_take->dU,mem_or_eq_of_mem_set->ie,mem_range->fT,mem_singleton->aC,nodup_append->xm,nodup_cons->mH,nodup_nil->AV,not_mem_nil->dS,of_mem_zip->mI,range->dI,range_succ->Af,range_succ_eq_map->my,replicate->db,set_set->Dz,size_toArray->aM,sum_cons->sT,take_left->lj,take_length->dj,take_nil->Cz,take_of_length_le->eX,take_succ->gU,zipIdx_cons->x9,zipIdx_nil->Ad
open List.cons renaming inj->gc
open Nat renaming add_assoc->oE,add_sub_cancel_left->mv,add_zero->uO,le_of_eq->uM,le_of_lt->uG,le_of_not_lt->qH,le_refl->az,le_succ->Ia,le_succ_of_le->xY,le_trans->bv,lt_irrefl->cP,lt_of_le_of_lt->xC,lt_of_lt_of_le->bp,lt_of_sub_eq_succ->vf,lt_succ_of_lt->iY,lt_succ_self->Aa,lt_trichotomy->pW,min_eq_left->qZ,min_eq_right->zX,min_le_right->qG,mul_add->Ic,mul_le_mul_left->wb,mul_le_mul_right->g8,ne_of_gt->gr,ne_of_lt->cv,sub_self->mM,sub_zero->GC,succ_mul->pX,zero_le->bJ
open Nat.succ renaming inj->lP
open Ne renaming symm->dP
open Option renaming getD_some->pG,isNone_iff_eq_none->g9,isSome_iff_exists->rN,isSome_map->oD,isSome_some->u8,map_eq_some_iff->dY,map_some->km
open Option.some renaming inj->bq
open PyProof.Rows renaming AllBare->kL,IntsAre->py,IsTup->Dn,args_tuple_getitem->Ct,callWith_type1->eP,call_isinstance_of->CD,entry_tuple_getitem->AR,envOfC->eU,slot_tuple_getitem->dm,subscriptTail_builtinR->xj
open PySem renaming Addr->af,Arguments->v8,Around->br,BindsTo->pr,Builtin->AU,CmpOp->mZ,DictEntry->pB,Expr->Gx,Fin->xy,FuncData->bU,Heap->bu,HeapKind->z_,IsPair->iq,IsPart->oW,IsTupleKey->Cy,IsZip->nL,Keyword->eR,Model->vZ,NameKind->ff,Operator->uI,Paired->iX,Params->Cu,PassesOwn->pq,Scope->dw,Shared->ae,Spec->dv,Str->kN,Value->ac,Within->Cq,World->bw,assign->mG,assignEach->dH,atKey->m3,attributeBase->cY,backTo->di,backToKw->ke,behindInMarks->fY,binaryOp->eN,bindArgs->lX,bindC->v7,bindL->v6,bootBuiltins->cS,builtinOwn->qL,builtinsNs->qC,cLine->dZ,call->rb,callSpecial?->xt,call_meets->lZ,callerA->pA,cellsFrom->dD,classOwn->uQ,closureFor->uN,codeAny->kc,codeAny_builtin->tP,codeAny_call_builtin->o6,codeAny_call_builtin_code->vc,codeAny_call_function->xW,codeAny_compStart_list->xq,codeAny_handlers_test->yA,codeAny_mono->iB,compPost->m5,compareOp->cz,comprehension->vL,concat_meets->wY,entryFor_of_tree->GB,entryOfKey->qB,eqIsQuiet->pD,eqIsQuiet_byValue->Dv,excClassObj->fo,excMatches->uR,field->uP,foldedSetIterable->cX,getItem->nC,holding->nB,intKind->pk,intText?->m6,isInstance->kI,isSubtype_tuple_tuple->oy,isType->xA,keywordEach->fP,lastMarks->v5,letOwnedTupleGo->lz,loadHead->Ae,mainGlobals->bN,mem_of_lookup->d7,model->aK,noFill_tuple_add->sj,noteFrame->iZ,notedBy->DA,numAt->Dx,pushCells->v_,pushCells_keeps->tN,putAt->sM,pyNext->uH,raiseStmt->pH,rawInt->gx,recursionLimit->oV,relabel->iR,seqIndex_neg->xb,seqIndex_of->zZ,seqItems?->Gz,seq_tuple_add->vJ,setFlight->sB,setItem->qY,sizeLine_eq->sJ,size_of_entries->tM,sliceBounds->oY,slot_list_getitem->Dr,specialOf->sy,standAt->pp,starEach->av,storedH->pC,swapsWith->eW,sysModules->fA,theTreesLotGoes->H_,tupleKind->si,tupleKind_room_in1->qI,typeIs_str->kH,typeLookup->cW,unaryOp->Dq,unbindBehindTheSuite->Ag,valueAt->rf,wpAny->aD,wpAny_Assign_Name->Dp,wpAny_Call_Name_kw->fB,wpAny_Name->Cr,wpAny_Try_except->GD,wpAny_assign_Name->Do,wpAny_attempt->mL,wpAny_bind->aa,wpAny_call->io,wpAny_callSpecial?_slot->cV,wpAny_call_entry->d6,wpAny_comprehension_free->vN,wpAny_eqBool_int->Gq,wpAny_execs_cons->mY,wpAny_execs_nil->gR,wpAny_field->b9,wpAny_forIn_list->m4,wpAny_getItem_heap->Cw,wpAny_handleBy_cons->AX,wpAny_holding->cB,wpAny_isInstance->iC,wpAny_isSubtype_exc->gq,wpAny_letGo->sO,wpAny_load->qD,wpAny_loadPart->ir,wpAny_loadPart'->iP,wpAny_loadPart_at->eE,wpAny_mkText->xz,wpAny_mono->cc,wpAny_newFunctionEnv_cells->uL,wpAny_newObj_type->eD,wpAny_onRaise->mK,wpAny_passesOwn->gS,wpAny_pure->ah,wpAny_pyHash_int->Gp,wpAny_pyIter_enum->Dy,wpAny_pyIter_list->rg,wpAny_pyIter_tuple->l_,wpAny_pyIter_zip->GA,wpAny_ret_mkInt->HZ,wpAny_rule->e8,wpAny_seqItems->eV,wpAny_sequenceKey->q_,wpAny_setField->fD,wpAny_setField_rec->gN,wpAny_specialOf->nK,wpAny_standAt->fX,wpAny_throw->Ac,wpAny_truthy_bool->dN,wpAny_tupleItemsOf->qJ,wpAny_typeOf->w_,wpAny_typeOf_ref->iD,wpAny_updateSeq_pair->o0
open PySem.Around renaming under->sK
open PySem.Builtin.ObjectAttr renaming find->nD,refuseIfOverridden->kT
open PySem.Builtin.Slice renaming sliceAdjust->kf,sliceApplied->ou,slicePlaces->gE
open PySem.Builtin.SmallTypes renaming nextOf->b6,ownedTupleHandOut->lf,ownedTupleIsFree->eI
open PySem.Builtin.Str renaming glued->cK,occurrences->kS,occurrences->mB,strKind->mr
open PySem.Builtin.Tuple renaming tupleExact->gM,tupleHashOf->du,tupleItemsOf->i8
open PySem.Calls renaming Name_function_global->qX
open PySem.Challenge renaming pw_pactboards_k21_texts_refused->i_
open PySem.Code renaming frames->Gr,isFrame->t6,quiet_builtin->oG
open PySem.EntryCells renaming newEntry->sA
open PySem.F renaming args_str_split_2->pU,args_tuple_add_2->lA,args_tuple_iterator_next_1->su,args_zip_next_1->AT,entry_str_split->qK,entry_tuple_add->lO,entry_tuple_iterator_next->sR,entry_zip_next->CC,excBase_ValueError->oz,plainAttrs_list->rO,plainAttrs_str->fZ,slot_dict_len->Dw,slot_dict_setitem->xX,slot_enumerate_next->wa,slot_list_append->rj,slot_str_split->rz,slot_tuple_add->lY,slot_tuple_eq->nh,slot_tuple_hash->mj,slot_tuple_iterator_next->ib,slot_zip_next->ni,typeOf_object_class->nF,type_list_append->rm
open PySem.Heap renaming ExtBut->va,SameBut->eL,get?_none_of_le->nc,get?_push_of_some->aw,get?_push_size->aR,get?_update_other->b_,get?_update_self->bK,lt_size->aL,size_push->dA
open PySem.Heap.SameBut renaming update->dQ
open PySem.NameKind renaming cell->g_,free->cf
open PySem.Obj renaming data_mapDict->mq,data_mapDictKeys->ku,data_mapFields->xx,isFreed_of_dict->kM,mapFields->cE,mapSeq->oX
open PySem.Paired renaming length->fF,snoc->mQ
open PySem.PassesOwn renaming never->lQ
open PySem.ScopeKind renaming function->tQ
open PySem.SeqAt renaming EqAt->Gw
open PySem.SeqAt.EqAt renaming int_str->sH,str_int->sI
open PySem.Shared renaming heap->t8
open PySem.Str renaming append_assoc->fQ,cps_append->gZ,empty->tZ,ext'->vP,join->f_,length->so,length_append->bD,length_append->x_,ofString->ag
open PySem.StrLaws renaming glued_eq_join->cF,join_length_le->iO,join_split->o7
open PySem.Txt renaming join->bM,join->sx,partition->dF,partition->oH,rpartition->b8,rpartition->nG,split->au,split->gJ,startswith->bX,startswith->sw
open PySem.Value renaming bool->eG,builtin->gF,float->Dm,int->iE,isInt->qd,isStrOf->AO,none->bF,ref->ax,str->iF,type->fK
open PySem.Value.type renaming inj->vb
open PySem.W renaming Frag->aj,OpenLaw->pT,WalkO->rc,callWith_K->ip,cellsFrom_some->iJ,codeHdIn->oZ,codeIn->kG,codeRec_of->uK,findIn->wX,fnOf->dX,instObj->pS,keepIn->fN,kia_one->da,kitOne->fM,kitx_dict->u7,kitx_list->ot,kitx_tuple->uJ,kla_obj->v9,lookIn->qF,methodObj->oq,mg_none_of->cA,mg_of->rB,nsIn->iL,plainGet->vI
open PySem.W.WData renaming int->HY
open PySem.W.WShape renaming has->Dt
open Sum renaming inl->kR,inr->pR
open True renaming intro->fj
noncomputable section
noncomputable def aE:=@if_pos
noncomputable def aA:=@if_neg
noncomputable def aV:=@decide_eq_false
noncomputable def aP:=@decide_eq_true
noncomputable def bc:=@absurd
noncomputable def bS:=@congrArg
namespace L2
open PySem PySem.Spec PyProof.Rows
noncomputable abbrev Key:=Sum Int Str
def rK:Key->ac->Bool
 | .inl k,v=>qd k v
 | .inr x,v=>AO x v
def JL(w:bw):Key->Int
 | .inl k=>hashInt k
 | .inr x=>hashStr w x
theorem fu:∀{k:Key}{v:ac},rK k v=true->(∃i t,k=kR i/\v=iE i t)\/(∃x t,k=pR x/\v=iF x t)
 | .inl i,v,h=>by obtain⟨t,e⟩:=ac.isInt_shape (k:=i) (v:=v) h;exact .inl ⟨i,t,rfl,e⟩
 | .inr x,v,h=>by obtain⟨t,e⟩:=ac.isStrOf_shape (x:=x) (v:=v) h;exact .inr ⟨x,t,rfl,e⟩
theorem Zf(i:Int)(t:Tok):rK (.inl i) (.int i t)=true:=by simp[rK,qd]
theorem RA(x:Str)(t:Tok):rK (.inr x) (.str x t)=true:=by simp[rK,AO]
theorem RX(a b:Int):decide ((kR a:Key)=kR b)=(a == b):=by
 by_cases e:a=b
 ·subst e;simp
 ·have h:¬ (kR a:Key)=kR b:=λq=>e (kR.inj q);rw[aV h];exact (beq_eq_false_iff_ne.mpr e).symm
theorem RT(a b:Str):decide ((pR a:Key)=pR b)=decide (a=b):=by
 by_cases e:a=b
 ·subst e;simp
 ·have h:¬ (pR a:Key)=pR b:=λq=>e (pR.inj q);rw[aV h,aV e]
theorem WI(a:Int)(b:Str):decide ((kR a:Key)=pR b)=false:=aV (λq=>(by cases q))
theorem Wi(a:Str)(b:Int):decide ((pR a:Key)=kR b)=false:=aV (λq=>(by cases q))
def gy(prog:Program)(w:bw):PySem.KeyKind prog w Key where
 is:=rK
 hash:=JL w
 inj:=λv a b l g=>by
  rcases fu l with ⟨i,t,rfl,rfl⟩|⟨x,t,rfl,rfl⟩
  ·rcases fu g with ⟨j,u,rfl,e⟩|⟨y,u,rfl,e⟩
   ·injection e with e1 _;rw[e1]
   ·cases e
  ·rcases fu g with ⟨j,u,rfl,e⟩|⟨y,u,rfl,e⟩
   ·cases e
   ·injection e with e1 _;rw[e1]
 byValue:=λk v h=>by rcases fu h with ⟨i,t,rfl,rfl⟩|⟨x,t,rfl,rfl⟩<;>rfl
 pyHash:=λc h=>by
  rcases fu c with ⟨i,t,rfl,rfl⟩|⟨x,t,rfl,rfl⟩
  ·exact Gp h
  ·exact wpAny_pyHash_str h
 eqBool:=λhu c h=>by
  rcases fu hu with ⟨i,t,rfl,rfl⟩|⟨x,t,rfl,rfl⟩
  ·rcases fu c with ⟨j,u,rfl,rfl⟩|⟨y,u,rfl,rfl⟩
   ·rw[RX]at h;exact Gq h
   ·rw[WI]at h;exact sH i t y u _ _ _ _ h
  ·rcases fu c with ⟨j,u,rfl,rfl⟩|⟨y,u,rfl,rfl⟩
   ·rw[Wi]at h;exact sI x t j u _ _ _ _ h
   ·rw[RT]at h;exact wpAny_eqBool_str h
 «strs»:=λk x t v h=>by
  rcases fu h with ⟨i,u,rfl,e⟩|⟨y,u,rfl,e⟩
  ·cases e
  ·injection e with e1 _
   subst e1;cases v<;>rfl
theorem Wf(prog:Program)(w:bw)(i:Int)(t:Tok):(gy prog w).is (.inl i) (.int i t)=true:=Zf i t
theorem Wr(prog:Program)(w:bw)(x:Str)(t:Tok):(gy prog w).is (.inr x) (.str x t)=true:=RA x t
inductive V where
 |non|bl (b:Bool)|int (i:Int)|str (x:Str)|byt (b:Array UInt8)|flt (b:UInt64)|ref (a:af)|ty (n:String)
 deriving DecidableEq
noncomputable def RelV:V->ac->Prop
 | .non,u=>u=bF
 | .bl b,u=>u=eG b
 | .int i,u=>∃t,u=iE i t
 | .str x,u=>∃t,u=iF x t
 | .byt b,u=>∃t,u=ac.bytes b t
 | .flt b,u=>∃t,u=Dm b t
 | .ref a,u=>u=ax a
 | .ty n,u=>u=fK n
abbrev cU:List V->List ac->Prop:=iX RelV
theorem cU.length{xs:List V}{b:List ac}(r:cU xs b):xs.length=b.length:=fF r
theorem cU.get{xs:List V}{b:List ac}{i:Nat}{x:V}(h:cU xs b)(e:xs[i]?=some x):∃u,b[i]?=some u/\RelV x u:=by
 induction h generalizing i with
 |nil=>cases e
 |cons r t ih=>cases i with
  |zero=>cases e;exact⟨_,rfl,r⟩
  |succ i=>exact ih e
theorem cU.set{x:V}{u:ac}(r:RelV x u){xs:List V}{b:List ac}(i:Nat)(h:cU xs b):cU (xs.set i x) (b.set i u):=by
 induction h generalizing i with
 |nil=>exact .nil
 |cons q t ih=>cases i with
  |zero=>exact .cons r t
  |succ i=>exact .cons q (ih i)
theorem cU.append{xs ys:List V}{c b:List ac}(h:cU xs c)(q:cU ys b):cU (xs++ys) (c++b):=by
 induction h with
 |nil=>exact q
 |cons r t ih=>exact .cons r ih
theorem cU.take:∀{xs:List V}{b:List ac}(n:Nat),cU xs b->cU (xs.take n) (b.take n)
 |_,_,0,_=>.nil
 |_,_,_+1,.nil=>.nil
 |_,_,n+1,.cons r t=>.cons r (cU.take n t)
theorem cU.drop:∀{xs:List V}{b:List ac}(n:Nat),cU xs b->cU (xs.drop n) (b.drop n)
 |_,_,0,r=>r
 |_,_,_+1,.nil=>.nil
 |_,_,n+1,.cons _ t=>cU.drop n t
def nY:Option V->Option ac->Prop
 |some v,some u=>RelV v u
 |none,none=>True
 |_,_=>False
def KV{κ:Type}:List (κ×V)->List (κ×ac)->Prop:=iX λ(p:κ×V)(q:κ×ac)=>p.1=q.1/\RelV p.2 q.2
def kV:Key->V
 | .inl i=>.int i
 | .inr x=>.str x
inductive HO where
 |lst (xs:List V)
 |tup (xs:List V)
 |dK (bA:List (Key×V))|dT (bA:List (List Key×V))
 |set (S:Int->Bool) (n:Nat)
 |ins (C dx:af) (fs:List (Str×V))
 |own (x:af)
 |xd (fs:List (Str×V))
 |met (f x:af)
 |rng (lo hi:Int)
 |frz (o:Obj) (u:HO)
 |tbl (ps:Array ac)
 |ext (φ:bu->Prop)
noncomputable abbrev Hp:=af->Option HO
noncomputable def eB(H:Hp)(a:af)(o:HO):Hp:=λb=>if b=a then some o else H b
theorem iI{H:Hp}{a:af}{o:HO}:eB H a o a=some o:=by unfold eB;rw[aE rfl]
theorem fR{H:Hp}{a b:af}{o:HO}(h:b≠a):eB H a o b=H b:=by unfold eB;rw[aA h]
theorem Si{H:Hp}{a b:af}{o u:HO}(h:H a=some o)(h':H b=some u)(d:o≠u):a≠b:=by intro e;subst e;rw[h]at h';exact d (bq h')
theorem p9{H:Hp}{a b:af}{o:HO}(h:H a=some o)(h':H b=none):a≠b:=by intro e;subst e;rw[h]at h';cases h'
noncomputable def gY(h:bu)(a:af)(its:Array ac):Prop:=∃o,h.get? a=some o/\o.cls=.type "tuple"/\(∃n,o.data=.seq its n)/\o.dict=none
theorem gY.is{h:bu}{a:af}{its:Array ac}(p:gY h a its):Dn h a its:=by obtain ⟨o,e,c,d,_⟩:=p;exact ⟨o,e,c,d⟩
theorem gY.lt{h:bu}{a:af}{its:Array ac}(p:gY h a its):a < h.objs.size:=p.is.lt
theorem gY.new(h:bu)(its:Array ac):gY (h.push { cls:=.type "tuple",data:=.seq its }) h.objs.size its:=⟨_,aR _ rfl,rfl,⟨_,rfl⟩,rfl⟩
section
variable(P:Program)(w:bw)
def dz(H:Hp)(h:bu)(a:af):HO->Prop
 | .lst xs=>xs.length<=sizeLine/\∃(its:List ac)(n:Nat),cU xs its/\h.get? a=some { cls:=.type "list",data:=.seq its.toArray n }
 | .tup xs=>xs.length<=sizeLine/\∃its:List ac,cU xs its/\gY h a its.toArray
 | .dK bA=>bA.length<=sizeLine/\(a == fA)=false/\∃c,KV bA c/\h.DictOf (gy P w) a c
 | .dT bA => bA.length <= sizeLine /\ (a == fA) = false /\ ∃xs : List (List Key×af×ac),
   iX (λ(p:List Key×V)(q:List Key×af×ac)=>p.1=q.1/\H q.2.1=some (.tup (p.1.map kV))/\RelV p.2 q.2.2) bA xs /\
   ∃o E G,h.get? a=some o/\o.ExactDict/\o.data=.dict E G/\E.toList=xs.map (qB (si (gy P w)))/\(xs.map (·.1)).Nodup
 | .set S n=>h.SetOf (pk P w) a S n
 | .ins C dx fs => H dx = some (.own a) /\ fs.length <= 1000 /\ dx ≠ a /\ h.get? a = some (pS C dx) /\
   ∃b,h.Ns1 dx b/\(∀f,nY (fs.lookup f) (b f))/\Cq b (fs.map (·.1))
 | .own _=>∃o,h.get? a=some o
 | .xd fs=>∃b,h.Ns1 a b/\∀f,nY (fs.lookup f) (b f)
 | .rng lo hi=>∃t u v,h.get? a=some { cls:=.type "range",data:=.fields #[.int lo t,.int hi u,.int 1 v] }
 | .frz o u=>h.get? a=some o/\dz H h a u
 | .tbl ps=>h.get? a=some { cls:=.none,data:=.fields ps }
 | .met f x=>h.get? a=some (oq (.ref f) (.ref x))
 | .ext φ=>φ h/\(∃o,h.get? a=some o)/\∀l g:bu,φ l->(∀o,l.get? a=some o->g.get? a=some o)->φ g
def mD(H:Hp)(h:bu):Prop:=∀a o,H a=some o->dz P w H h a o
end
section
variable{P:Program}{w:bw}{H H':Hp}{h h':bu}{a:af}{o:HO}
theorem dz.lt(x:dz P w H h a o):a < h.objs.size:=by
 cases o with
 |lst xs=>obtain⟨_,_,_,_,e⟩:=x;exact aL e
 |tup xs=>obtain⟨_,_,_,p⟩:=x;exact p.lt
 |dK bA=>obtain⟨_,_,_,_,o,_,_,e,_⟩:=x;exact aL e
 |dT bA=>obtain⟨_,_,_,_,o,_,_,e,_⟩:=x;exact aL e
 |set S n=>obtain⟨o,_,_,_,e,_⟩:=x;exact aL e
 |ins C dx fs=>obtain⟨_,_,_,e,_⟩:=x;exact aL e
 |own y=>obtain⟨_,e⟩:=x;exact aL e
 |xd fs=>obtain⟨_,⟨_,_,_,e,_⟩,_⟩:=x;exact aL e
 |rng lo hi=>obtain⟨_,_,_,e⟩:=x;exact aL e
 |frz ob u=>obtain⟨e,_⟩:=x;exact aL e
 |tbl ps=>exact aL (show h.get? a=some _ from x)
 |met f y=>exact aL (show h.get? a=some _ from x)
 |ext φ=>obtain⟨_,⟨_,e⟩,_⟩:=x;exact aL e
theorem iX.mapP{α β:Type}{F G:α->β->Prop}{l₁:List α}{l₂:List β}(h:iX F l₁ l₂)(f:∀a b,F a b->G a b):iX G l₁ l₂:=by
 induction h with
 |nil=>exact .nil
 |cons r t ih=>exact .cons (f _ _ r) ih
theorem dz.stay(x:dz P w H h a o)(k:∀b u,(b=a\/H b=some (.own a))->h.get? b=some u->h'.get? b=some u)
  (L:∀b,H b=some (.own a)->H' b=some (.own a)) (J:∀b xs,H b=some (.tup xs)->H' b=some (.tup xs)):dz P w H' h' a o:=by
 induction o with
 |lst xs=>obtain⟨z,its,n,r,e⟩:=x;exact⟨z,its,n,r,k _ _ (.inl rfl) e⟩
 |tup xs=>obtain⟨z,its,r,ob,e,c⟩:=x;exact⟨z,its,r,ob,k _ _ (.inl rfl) e,c⟩
 |dK bA=>obtain⟨z,y,I,r,ob,g,l,e,c⟩:=x;exact⟨z,y,I,r,ob,g,l,k _ _ (.inl rfl) e,c⟩
 |dT bA=>
  obtain⟨z,y,xs,r,ob,g,l,e,c⟩:=x;exact⟨z,y,xs,iX.mapP r λp q z=>⟨z.1,J _ _ z.2.1,z.2.2⟩,ob,g,l,k _ _ (.inl rfl) e,c⟩
 |set S n=>obtain⟨ob,g,l,t,e,c⟩:=x;exact⟨ob,g,l,t,k _ _ (.inl rfl) e,c⟩
 |ins C dx fs=>
  obtain⟨d,z,ne,e,G,⟨E,g,l,O,c⟩,r⟩:=x;exact⟨L _ d,z,ne,k _ _ (.inl rfl) e,G,⟨E,g,l,k _ _ (.inr d) O,c⟩,r⟩
 |own y=>obtain⟨ob,e⟩:=x;exact⟨ob,k _ _ (.inl rfl) e⟩
 |xd fs=>obtain⟨G,⟨E,g,l,e,c⟩,r⟩:=x;exact⟨G,⟨E,g,l,k _ _ (.inl rfl) e,c⟩,r⟩
 |rng lo hi=>obtain⟨t,u,v,e⟩:=x;exact⟨t,u,v,k _ _ (.inl rfl) e⟩
 |frz ob u ih=>obtain⟨e,q⟩:=x;exact⟨k _ _ (.inl rfl) e,ih q⟩
 |tbl ps=>
  have e:h.get? a=some { cls:=.none,data:=.fields ps }:=x
  show h'.get? a=some { cls:=.none,data:=.fields ps };exact k a _ (.inl rfl) e
 |met f y=>
  have e:h.get? a=some (oq (.ref f) (.ref y)):=x
  show h'.get? a=some (oq (.ref f) (.ref y));exact k a _ (.inl rfl) e
 |ext φ=>obtain⟨p,⟨o,e⟩,st⟩:=x;exact⟨st _ _ p λo q=>k _ _ (.inl rfl) q,⟨o,k _ _ (.inl rfl) e⟩,st⟩
theorem mD.lt(x:mD P w H h)(e:H a=some o):a < h.objs.size:=(x a o e).lt
theorem mD.fresh(x:mD P w H h)(e:h.objs.size<=a):H a=none:=by
 cases q:H a with
 |none=>rfl
 |some u=>exact bc (bp (x.lt q) e) (cP _)
theorem mD.kept(x:mD P w H h)(k:∀b u,h.get? b=some u->h'.get? b=some u):mD P w H h':=λa o e=>
 (x a o e).stay (λb u _ q=>k b u q) (λ_ q=>q) λ_ _ q=>q
theorem mD.laid(x:mD P w H h)(k:∀b u,h.get? b=some u->h'.get? b=some u)(C:h.objs.size<=a)(new:dz P w (eB H a o) h' a o):mD P w (eB H a o) h':=λb u e=>by
 have g:=x.fresh C;by_cases l:b=a
 ·subst l;rw[iI]at e;cases e;exact new
 ·rw[fR l]at e;exact (x b u e).stay (λc v _ q=>k c v q) (λc q=>by rw[fR (p9 q g)];exact q) λc xs q=>by rw[fR (p9 q g)];exact q
end
noncomputable def Rd(H:Hp)(a:af)(u:HO):Prop:=H a=some u\/∃o,H a=some (.frz o u)
theorem Rd.ok{P:Program}{w:bw}{H:Hp}{h:bu}{a:af}{u:HO}(r:Rd H a u)(x:mD P w H h):dz P w H h a u:=by
 rcases r with r|⟨o,r⟩
 ·exact x a u r
 ·obtain⟨_,q⟩:=x a _ r;exact q
noncomputable def EI:Option HO->Prop
 |some (.lst _)=>True
 |some (.dK _)=>True
 |some (.dT _)=>True
 |some (.set _ _)=>True
 |some (.ins _ _ _)=>True
 |some (.ext _)=>True
 |_=>False
section
variable{P:Program}{w:bw}{H:Hp}{h h':bu}{x e:af}{o':HO}
theorem mD.write(ok:mD P w H h)(C:EI (H x))(L:e=x\/H e=some (.own x))(k:∀b u,b≠e->h.get? b=some u->h'.get? b=some u)(I:∃u,h'.get? e=some u)
  (new:dz P w (eB H x o') h' x o'):mD P w (eB H x o') h':=λb u q=>by
 have l:∀c y,H c=some (.own y)->c≠x:=λc y r z=>by subst z;rw[r]at C;exact C
 have o:∀c xs,H c=some (.tup xs)->c≠x:=λc xs r z=>by subst z;rw[r]at C;exact C
 by_cases G:b=x
 ·subst G;rw[iI]at q;cases q;exact new
 ·rw[fR G]at q;by_cases g:b=e
  ·have J : H b = some (.own x) := by
     rcases L with z|z
     ·exact bc (g.trans z) G
     ·rw[g];exact z
   rw[q]at J;cases J;obtain⟨v,O⟩:=I;exact⟨v,by rw[g];exact O⟩
  ·refine (ok b u q).stay (λc v E r=>k c v ?_ r) (λc r=>by rw[fR (l c b r)];exact r) λc xs r=>by rw[fR (o c xs r)];exact r
   rcases E with rfl|E
   ·exact g
   ·rintro rfl
    rcases L with z|z
    ·exact l c b E z
    ·rw[E]at z;cases z;exact G rfl
end
structure Un(fs ex:List af)(H H':Hp)(h h':bu):Prop where
 keep:∀b o,h.get? b=some o->H b=none->b∉fs->b∉ex->h'.get? b=some o
 slot:∀b o,h.get? b=some o->H b=none->b∈fs->b∉ex->∃sl,h'.get? b=some { o with slots:=sl }
 free:∀b o,h.get? b=some o->H b=none->b∉ex->H' b=none
 there:∀b o,h.get? b=some o->b∉ex->∃o',h'.get? b=some o'
 tups:∀b xs,H b=some (.tup xs)->H' b=some (.tup xs)
 frzs:∀b o u,H b=some (.frz o u)->H' b=some (.frz o u)
 tbls:∀b ps,H b=some (.tbl ps)->∃more,H' b=some (.tbl (ps++more))
section
variable{fs gg ex gA:List af}{H H1 H2:Hp}{h h1 h2 h':bu}{a x e:af}{o:HO}
theorem Un.any(u:Un fs ex H H1 h h1){b:af}{ob:Obj}(q:h.get? b=some ob)(n:H b=none)(c:b∉ex):∃l,h1.get? b=some { ob with slots:=l }:=by
 by_cases g:b∈fs
 ·exact u.slot b ob q n g c
 ·exact⟨ob.slots,u.keep b ob q n g c⟩
theorem Un.kept(k:∀b u,h.get? b=some u->h'.get? b=some u):Un fs ex H H h h':=
 ⟨λb ob q _ _ _=>k b ob q,λb ob q _ _ _=>⟨ob.slots,k b ob q⟩,λ_ _ _ n _=>n,λb ob q _=>⟨ob,k b ob q⟩,λ_ _ q=>q,λ_ _ _ q=>q,λ_ ps q=>⟨#[],by rw[q];simp⟩⟩
theorem Un.refl:Un fs ex H H h h:=Un.kept λ_ _ q=>q
theorem Un.laid(k:∀b u,h.get? b=some u->h'.get? b=some u)(g:h.objs.size<=a)(c:H a=none):Un fs ex H (eB H a o) h h' where
 keep:=λb u q _ _ _=>k b u q
 slot:=λb u q _ _ _=>⟨u.slots,k b u q⟩
 free:=λb u q n _=>by rw[fR (cv (bp (aL q) g))];exact n
 there:=λb u q _=>⟨u,k b u q⟩
 tups:=λb xs q=>by rw[fR (p9 q c)];exact q
 frzs:=λb u xs q=>by rw[fR (p9 q c)];exact q
 tbls:=λb ps q=>⟨#[],by rw[fR (p9 q c),q];simp⟩
theorem Un.write(g:EI (H x))(I:e=x\/H e=some (.own x))(k:∀b u,b≠e->h.get? b=some u->h'.get? b=some u)(v:∃u,h'.get? e=some u):Un fs ex H (eB H x o) h h':=by
 have C:∀b,H b=none->b≠x:=λb n z=>by subst z;rw[n]at g;exact g
 have E:∀b,H b=none->b≠e:=λb n z=>by
  subst z;rcases I with r|r
  ·exact C b n r
  ·rw[n]at r;cases r
 have l:∀b u,H b=some u->¬ EI (some u)->b≠x:=λb u q G z=>by subst z;rw[q]at g;exact G g
 refine⟨λb u q n _ _=>k b u (E b n) q,λb u q n _ _=>⟨u.slots,k b u (E b n) q⟩,λb u q n _=>by rw[fR (C b n)];exact n,λb u q _=>?_,
  λb xs q=>by rw[fR (l b _ q λz=>z)];exact q,λb u xs q=>by rw[fR (l b _ q λz=>z)];exact q,λb ps q=>⟨#[],by rw[fR (l b _ q λz=>z),q];simp⟩⟩
 by_cases c:b=e
 ·subst c;exact v
 ·exact⟨u,k b u c q⟩
end
noncomputable def trk(h:bu)(H:Hp):List af:=(dI h.objs.size).filter λa=>(H a).isSome
def r_(h:bu)(H:Hp):bu:=PySem.W.hideAll h (trk h H)
theorem S0(h:bu)(H:Hp):(r_ h H).objs.size=h.objs.size:=PySem.W.hideAll_size _ _
theorem UG{h:bu}{H:Hp}{b:af}{o:Obj}(e:h.get? b=some o)(n:H b=none):(r_ h H).get? b=some o:=
 PySem.W.hideAll_get _ e λc=>by have q:(H b).isSome=true:=(List.mem_filter.mp c).2;rw[n]at q;simp at q
theorem Qao{h:bu}{H:Hp}{b:af}{o:Obj}(e:(r_ h H).get? b=some o):h.get? b=some o/\H b=none:=by
 have c:h.get? b=some o:=PySem.W.of_hideAll (trk h H) e;refine⟨c,?_⟩;cases q:H b with
 |none=>rfl
 |some x=>
  have g:b∈trk h H:=List.mem_filter.mpr ⟨fT.mpr (aL c),by simp[q]⟩;have z:(r_ h H).get? b=none:=PySem.W.hideAll_none (trk h H) g;rw[z]at e;cases e
noncomputable def zB(g h:bu)(L:af):List (af×Obj):=(dI h.objs.size).filterMap λa=>if a=L\/(g.get? a).isSome=true then none else (h.get? a).map λo=>(a,o)
def dB(g h:bu)(L d:af):List (af×Obj):=(zB g h L).filter λp=>decide (p.1≠d)
structure Mod(K:aj)(mg:Str->Option ac)(base:bu):Prop where
 kin:K.In base
 glob:base.Ns bN mg
 blt:∃mb,base.Ns qC mb/\∀x:Str,x≠"__name__"->mb x=cS x
 nolimit:base.NoLimit
structure Cx where
 prog:Program
 w:bw
 K:aj
 mg:Str->Option ac
 base:bu
 A:br
 N:List Str
 s₀:ae
 H₀:Hp
 env:Env
 outer:List Env
 stack:List Env
 ex:List af
 fn:Str->Bool
 calm:Bool
 pn:List (af×Obj)
 xe:ac->ae->Prop
noncomputable def sG(l:List Env):List af:=l.filterMap (·.frame)
abbrev Cx.fs(X:Cx):List af:=sG X.outer
noncomputable def xK(sc:dw)(x:Str):Prop:=sc.names.lookup x=some .local\/sc.names.lookup x=some .cell\/sc.names.lookup x=some .free
noncomputable def Loc(sc:dw)(x:Str):Prop:=sc.names.lookup x=some .local\/sc.names.lookup x=some .cell
noncomputable def Look(env:Env)(h:bu)(m:Str->Option ac)(x:Str)(u:ac):Prop:=
 (env.kindOf x=some .local/\m x=some u)\/((env.kindOf x=some .cell\/env.kindOf x=some .free)/\∃c,env.cells.lookup x=some c/\h.IsCell c (some u))
structure Cx.Ok(X:Cx):Prop where
 mod:Mod X.K X.mg X.base
 kind:X.env.scope.kind=.function
 glob:X.env.globals=bN
 blt:X.env.builtins=qC
 above:X.s₀.heap.objs.size<=X.env.locals
 inj:∀x y c,X.env.cells.lookup x=some c->X.env.cells.lookup y=some c->x=y
 has:∀x,(X.env.kindOf x=some .cell\/X.env.kindOf x=some .free)->∃c,X.env.cells.lookup x=some c
 cab:∀x c,X.fn x=true->X.env.cells.lookup x=some c->X.s₀.heap.objs.size<=c
 hd:X.calm=true->X.A.handled=none
 frames:X.A.frames=some X.stack
 stk:X.stack=X.outer\/(X.stack=X.env::X.outer/\X.env.frame=some X.env.locals)
 exf:∀b∈X.ex,b≠X.env.locals/\∀x c,X.env.cells.lookup x=some c->c≠b
 bs:∀b o,X.base.get? b=some o->X.s₀.heap.get? b=some o/\X.H₀ b=none
 bsz:X.base.objs.size<=X.s₀.heap.objs.size
 noex:∀b o,X.base.get? b=some o->b∉X.ex
 exfs:∀b∈X.ex,b∉X.fs
 funs:X.s₀.heap.FunFrames X.base X.outer
 frf:∀b∈X.fs,X.H₀ b=none
structure Inv(X:Cx)(ao:List (af×Obj))(σ:List (Option V))(H:Hp)(s:ae):Prop where
 ok:X.Ok
 os:s.os=X.s₀.os
 bare:kL s.gens
 base:Un X.fs X.ex X.H₀ H X.s₀.heap s.heap
 loc:∃m,s.heap.Ns X.env.locals m/\∀(i:Nat)(x:Str)(v:V),X.N[i]?=some x->σ[i]?=some (some v)->xK X.env.scope x->∃u,RelV v u/\Look X.env s.heap m x u
 cell:∀x c,X.env.cells.lookup x=some c->∃v,s.heap.IsCell c v
 free:H X.env.locals=none
 freeC:∀x c,X.env.cells.lookup x=some c->H c=none
 pin:∀p∈X.pn++ao,s.heap.get? p.1=some p.2/\H p.1=none/\p.1≠X.env.locals/\p.1∉X.fs/\∀v,p.2.data≠.cell v
 hok:mD X.prog X.w H s.heap
 len:σ.length=X.N.length
section
variable{X:Cx}{ao:List (af×Obj)}{σ:List (Option V)}{H H':Hp}{s:ae}{h':bu}
theorem Cx.Ok.nofr(ok:X.Ok){b:af}{o:Obj}(e:X.base.get? b=some o):b∉X.fs:=λc=>by have:=(ok.funs.mem c).1;rw[e]at this;cases this
theorem Inv.bs(I:Inv X ao σ H s):∀b o,X.base.get? b=some o->s.heap.get? b=some o/\H b=none:=λb o e=>
 ⟨I.base.keep b o (I.ok.bs b o e).1 (I.ok.bs b o e).2 (I.ok.nofr e) (I.ok.noex b o e),I.base.free b o (I.ok.bs b o e).1 (I.ok.bs b o e).2 (I.ok.noex b o e)⟩
theorem Inv.bk(I:Inv X ao σ H s):∀b o,X.base.get? b=some o->s.heap.get? b=some o:=λb o e=>(I.bs b o e).1
theorem Inv.mod(I:Inv X ao σ H s):Mod X.K X.mg X.base:=I.ok.mod
theorem Inv.kIn(I:Inv X ao σ H s):X.K.In s.heap:=I.ok.mod.kin.keeps I.bk
theorem Inv.lt(I:Inv X ao σ H s):X.env.locals < s.heap.objs.size:=by obtain ⟨_,b,_⟩:=I.loc;exact b.lt
theorem Inv.sz(I:Inv X ao σ H s):X.s₀.heap.objs.size<=s.heap.objs.size:=bv I.ok.above (uG I.lt)
theorem Inv.nofs(I:Inv X ao σ H s){a:af}(h:s.heap.objs.size<=a):a∉X.fs:=λc=>by obtain⟨_,o,b,_⟩:=I.ok.funs.mem c;exact bc (bp (aL b) (bv I.sz h)) (cP _)
theorem Inv.cne(I:Inv X ao σ H s):∀x c,X.env.cells.lookup x=some c->c≠X.env.locals:=λx c e z=>by obtain⟨v,o,h,hd⟩:=I.cell x c e;obtain⟨m,⟨o',l,u,b,g,_⟩,_⟩:=I.loc;rw[z,b]at h;cases h;rw[g]at hd;cases hd
theorem Inv.funs(I:Inv X ao σ H s):s.heap.FunFrames X.base X.outer:=by
 have all:∀(l:List Env),(∀b∈sG l,b∈X.fs)->X.s₀.heap.FunFrames X.base l->s.heap.FunFrames X.base l:=by
  intro l
  induction l with
  |nil=>intro _ _;trivial
  |cons env r ih=>
   intro hs E;obtain⟨G,⟨L,o,c,C,v,hd⟩,u⟩:=E;have h:L∈X.fs:=hs L (by unfold sG;rw[fO,c];exact bO);obtain⟨J,e⟩:=I.base.slot L o v (I.ok.frf L h) h λz=>I.ok.exfs L z h;exact⟨G,⟨L,_,c,C,e,hd⟩,ih (λb g=>hs b (by unfold sG;rw[fO,c];exact bb _ g)) u⟩
 exact all X.outer (λ_ g=>g) I.ok.funs
theorem Inv.stack(I:Inv X ao σ H s):s.heap.FunFrames X.base X.stack:=by
 rcases I.ok.stk with e|⟨e,c⟩
 ·rw[e];exact I.funs
 ·rw[e];obtain⟨m,b,_⟩:=I.loc;refine .cons (by rw[I.ok.kind];decide) c b ?_ I.funs;exact nc (bv I.ok.bsz I.ok.above)
theorem Inv.stkSub(I:Inv X ao σ H s):∀b∈sG X.stack,b∈X.env.locals::X.fs:=λb c=>by
 rcases I.ok.stk with e|⟨e,g⟩
 ·rw[e]at c;exact bb _ c
 ·rw[e]at c;unfold sG at c;rw[fO,g]at c;exact c
theorem Inv.stkFree(I:Inv X ao σ H s):∀b∈sG X.stack,H b=none:=λb c=>by
 rcases aI.mp (I.stkSub b c) with e|c
 ·rw[e];exact I.free
 ·obtain⟨_,o,g,_⟩:=I.ok.funs.mem c;exact I.base.free b o g (I.ok.frf b c) λz=>I.ok.exfs b z c
theorem Inv.step{g':Array GenState}{t':Nat}{d':Drawn}{ch:List af}(I:Inv X ao σ H s)
  (C:∀b∈ch,(b∈X.ex\/X.s₀.heap.objs.size<=b)/\b≠X.env.locals/\(∀x c,X.env.cells.lookup x=some c->c≠b)/\∀p∈X.pn++ao,p.1≠b)
  (keep:∀b o,b≠X.env.locals->b∉X.fs->b∉ch->s.heap.get? b=some o->H b=none->h'.get? b=some o)
  (slot:∀b o,b≠X.env.locals->b∈X.fs->b∉ch->s.heap.get? b=some o->H b=none->∃sl,h'.get? b=some { o with slots:=sl }) (free:∀b o,b∉ch->s.heap.get? b=some o->H b=none->H' b=none)
  (there:∀b o,b∉ch->s.heap.get? b=some o->∃o',h'.get? b=some o')
  (tups:∀b xs,H b=some (.tup xs)->H' b=some (.tup xs)) (frzs:∀b o u,H b=some (.frz o u)->H' b=some (.frz o u)) (tbls:∀b ps,H b=some (.tbl ps)->∃more,H' b=some (.tbl (ps++more)))
  (ns:∀m,s.heap.Ns X.env.locals m->h'.Ns X.env.locals m) (hok:mD X.prog X.w H' h') (hg:kL g'):
  Inv X ao σ H' { s with heap:=h',gens:=g',drawn:=d',toks:=t' }:=by
 have Q:∀b o,X.s₀.heap.get? b=some o->b≠X.env.locals:=λb o e=>cv (bp (aL e) I.ok.above);have G:∀b o,X.s₀.heap.get? b=some o->b∉X.ex->b∉ch:=λb o e g L=>by
  rcases (C b L).1 with z|z
  ·exact g z
  ·exact bc (bp (aL e) z) (cP _)
 have E:∀x c,X.env.cells.lookup x=some c->∀v,s.heap.IsCell c v->h'.IsCell c v:=λx c e v pq1=>by
  obtain⟨o,O,hd⟩:=pq1;have h:c∉ch:=λz=>(C c z).2.2.1 x c e rfl;by_cases hc:c∈X.fs
  ·obtain⟨sl,q⟩:=slot c o (I.cne x c e) hc h O (I.freeC x c e);exact⟨_,q,hd⟩
  ·exact⟨o,keep c o (I.cne x c e) hc h O (I.freeC x c e),hd⟩
 refine⟨I.ok,I.os,hg,⟨λb o e n L g=>?_,λb o e n L g=>?_,λb o e n g=>?_,λb o e g=>?_,λb xs e=>tups b xs (I.base.tups b xs e),λb o xs e=>frzs b o xs (I.base.frzs b o xs e),λb ps e=>?_⟩,?_,λx c e=>?_,?_,λx c e=>?_,λp hp=>?_,hok,I.len⟩
 ·exact keep b o (Q b o e) L (G b o e g) (I.base.keep b o e n L g) (I.base.free b o e n g)
 ·obtain⟨sl,J⟩:=I.base.slot b o e n L g;obtain⟨Y,U⟩:=slot b _ (Q b o e) L (G b o e g) J (I.base.free b o e n g);exact⟨Y,U⟩
 ·obtain⟨o',J⟩:=I.base.there b o e g;exact free b o' (G b o e g) J (I.base.free b o e n g)
 ·obtain⟨o',J⟩:=I.base.there b o e g;exact there b o' (G b o e g) J
 ·obtain⟨g,J⟩:=I.base.tbls b ps e;obtain⟨c,U⟩:=tbls b _ J;exact⟨g++c,by rw[U,Array.append_assoc]⟩
 ·obtain⟨m,b,g⟩:=I.loc;refine⟨m,ns m b,λi x v J U h=>?_⟩;obtain⟨u,r,l⟩:=g i x v J U h;refine⟨u,r,?_⟩;rcases l with l|⟨k,c,e,z⟩
  ·exact .inl l
  ·exact .inr ⟨k,c,e,E x c e _ z⟩
 ·obtain⟨v,z⟩:=I.cell x c e;exact⟨v,E x c e v z⟩
 ·obtain⟨m,⟨o,_,_,O,_⟩,_⟩:=I.loc;exact free _ o (λz=>(C _ z).2.1 rfl) O I.free
 ·obtain⟨v,o,O,hd⟩:=I.cell x c e;exact free c o (λz=>(C c z).2.2.1 x c e rfl) O (I.freeC x c e)
 ·obtain⟨e,n,ne,b,d⟩:=I.pin p hp;have h:p.1∉ch:=λz=>(C p.1 z).2.2.2 p hp rfl;exact⟨keep p.1 p.2 ne b h e n,free p.1 p.2 h e n,ne,b,d⟩
theorem Inv.un{t':Nat}(I:Inv X ao σ H s)(u:Un X.fs [] H H' s.heap h')(g:mD X.prog X.w H' h'):Inv X ao σ H' { s with heap:=h',toks:=t' }:=by
 obtain⟨m,⟨o,Q,U,C,r⟩,_⟩:=id I.loc;obtain⟨L,J⟩:=u.any C I.free (by simp);exact I.step (g':=s.gens) (d':=s.drawn) (ch:=[]) (λ_ z=>(by cases z)) (λb o _ h _ e n=>u.keep b o e n h (by simp)) (λb o _ h _ e n=>u.slot b o e n h (by simp)) (λb o _ e n=>u.free b o e n (by simp)) (λb o _ e=>u.there b o e (by simp)) u.tups u.frzs u.tbls (λO G=>by obtain⟨o',l,v,c,E⟩:=G;rw[C]at c;cases c;exact⟨_,l,v,J,E⟩) g I.bare
theorem Inv.call{g':Array GenState}{t':Nat}{d':Drawn}{ch:List af}(I:Inv X ao σ H s)(u:Un (sG X.stack) ch H H' s.heap h')(v:mD X.prog X.w H' h')(Q:kL g')
  (l:∀b∈ch,(b∈X.ex\/X.s₀.heap.objs.size<=b)/\b≠X.env.locals/\(∀x c,X.env.cells.lookup x=some c->c≠b)/\∀p∈X.pn++ao,p.1≠b):
  Inv X ao σ H' { s with heap:=h',gens:=g',drawn:=d',toks:=t' }:=by
 obtain⟨m,⟨o,es,ep,J,r⟩,_⟩:=id I.loc;obtain⟨Y,C⟩:=u.any J I.free λz=>(l _ z).2.1 rfl;exact I.step (ch:=ch) l (λb o C U g e n=>u.keep b o e n (λz=>(aI.mp (I.stkSub b z)).elim C U) g) (λb o _ _ g e n=>u.any e n g) (λb o g e n=>u.free b o e n g) (λb o g e=>u.there b o e g) u.tups u.frzs u.tbls (λm' O=>by obtain⟨o',E,G,h,L⟩:=O;rw[J]at h;cases h;exact⟨_,E,G,C,L⟩) v Q
theorem Inv.turned{t':Nat}{g:af}(I:Inv X ao σ H s)(k:∀b o,b≠g->s.heap.get? b=some o->h'.get? b=some o)(G:H g=none)(C:g≠X.env.locals)
  (U:g∈X.ex\/X.s₀.heap.objs.size<=g) (Q:∀x c,X.env.cells.lookup x=some c->c≠g) (O:∀p∈X.pn++ao,p.1≠g):Inv X ao σ H { s with heap:=h',toks:=t' }:=by
 have l:∀b u,H b=some u->b≠g:=λb u e z=>by rw[z,G]at e;cases e
 refine I.step (g':=s.gens) (d':=s.drawn) (ch:=[g]) (λb L=>?_) (λb o _ _ h e _=>k b o (λz=>h (by simp[z])) e) (λb o _ _ h e _=>⟨o.slots,k b o (λz=>h (by simp[z])) e⟩) (λ_ _ _ _ n=>n)
  (λb o h e=>⟨o,k b o (λz=>h (by simp[z])) e⟩) (λ_ _ e=>e) (λ_ _ _ e=>e) (λb ps e=>⟨#[],by rw[e];simp⟩) (λm J=>?_) (λb u e=>?_) I.bare
 ·have e:b=g:=by simpa using L
  subst e;exact⟨U,C,Q,O⟩
 ·obtain⟨o,Y,b,E,r⟩:=J;exact⟨o,Y,b,k _ o (dP C) E,r⟩
 ·refine (I.hok b u e).stay (λc v h q=>k c v ?_ q) (λ_ q=>q) λ_ _ q=>q;rcases h with z|z
  ·rw[z];exact l b u e
  ·exact l c _ z
theorem Inv.tok(I:Inv X ao σ H s)(t:Nat):Inv X ao σ H { s with toks:=t }:=I.un (h':=s.heap) (t':=t) Un.refl I.hok
theorem Inv.kept{t':Nat}(I:Inv X ao σ H s)(k:∀b u,s.heap.get? b=some u->h'.get? b=some u):Inv X ao σ H { s with heap:=h',toks:=t' }:=I.un (Un.kept k) (I.hok.kept k)
theorem Inv.laid{a:af}{o:HO}{t':Nat}(I:Inv X ao σ H s)(k:∀b u,s.heap.get? b=some u->h'.get? b=some u)(c:s.heap.objs.size<=a)(new:dz X.prog X.w (eB H a o) h' a o):
  Inv X ao σ (eB H a o) { s with heap:=h',toks:=t' }:=I.un (Un.laid k c (I.hok.fresh c)) (I.hok.laid k c new)
theorem Inv.write{x e:af}{o:HO}{t':Nat}(I:Inv X ao σ H s)(g:EI (H x))(h:e=x\/H e=some (.own x))(k:∀b u,b≠e->s.heap.get? b=some u->h'.get? b=some u)(c:∃u,h'.get? e=some u)
  (new:dz X.prog X.w (eB H x o) h' x o):Inv X ao σ (eB H x o) { s with heap:=h',toks:=t' }:=I.un (Un.write g h k c) (I.hok.write g h k c new)
theorem Inv.pins_of{b:List (af×Obj)}(I:Inv X ao σ H s)(h:∀p∈b,s.heap.get? p.1=some p.2/\H p.1=none/\p.1≠X.env.locals/\p.1∉X.fs/\∀v,p.2.data≠.cell v):Inv X b σ H s:=
 ⟨I.ok,I.os,I.bare,I.base,I.loc,I.cell,I.free,I.freeC,λp c=>(aZ.mp c).elim (λz=>I.pin p (gT _ z)) (h p),I.hok,I.len⟩
theorem Oo{N:List Str}(c:N.Nodup){i j:Nat}{x:Str}(a:N[i]?=some x)(b:N[j]?=some x):i=j:=by obtain⟨o,h⟩:=aq.mp a;obtain⟨l,g⟩:=aq.mp b;exact (List.getElem_inj c).mp (h.trans g.symm)
theorem ON{M:vZ}{A:br}{E:ac->ae->Prop}{i:Nat}{x:Str}{v:V}{u:ac}{Q:Unit->ae->Prop}(I:Inv X ao σ H s)(hN:X.N.Nodup)(hi:X.N[i]?=some x)(G:Loc X.env.scope x)(r:RelV v u)
  (h:∀s',Inv X ao (σ.set i (some v)) H s'->(∃a,eL a s.heap s'.heap/\(a=X.env.locals\/X.env.cells.lookup x=some a))->Q () s') (hf:X.fn x=true\/X.env.scope.names.lookup x=some .local:=by first|exact .inl rfl|exact .inr rfl|assumption):aD M A (storeName X.env x u) Q E s:=by
 obtain⟨m,hn,hl⟩:=id I.loc;have hcls:(X.env.scope.kind == .class||(X.env.scope.kind == .module&&X.env.locals != X.env.globals))=false:=by rw[I.ok.kind];rfl
 have hiσ:i < σ.length:=by rw[I.len];exact (aq.mp hi).1
 have cne:=I.cne;have g:∀{a:af}{h':bu},(∃o,s.heap.get? a=some o/\H a=none)->eL a s.heap h'->mD X.prog X.w H h':=λ{a h'}ha hs b ob e=>by
  obtain⟨_,_,J⟩:=ha;refine (I.hok b ob e).stay (λc w' C q=>(hs.2 c ?_).trans q) (λ_ q=>q) λ_ _ q=>q
  rintro rfl
  rcases C with rfl|C
  ·rw[J]at e;cases e
  ·rw[J]at C;cases C
 rcases G with O|O
 ·refine wpAny_storeName_local O hn (λh' C hs=>?_) hcls;obtain⟨E,_,_,v,_⟩:=id hn;refine h _ ⟨I.ok,I.os,I.bare,⟨λb o e n hb G=>?_,λb o e n hb G=>?_,I.base.free,λb o e G=>?_,I.base.tups,I.base.frzs,I.base.tbls⟩,⟨_,C,λj y v' l L e3=>?_⟩,λy c e=>?_,I.free,I.freeC,λp hp=>?_,g ⟨E,v,I.free⟩ hs,by simpa using I.len⟩ ⟨_,hs,.inl rfl⟩
  ·exact (hs.2 b (cv (bp (aL e) I.ok.above))).trans (I.base.keep b o e n hb G)
  ·obtain⟨sl,l⟩:=I.base.slot b o e n hb G;exact⟨sl,(hs.2 b (cv (bp (aL e) I.ok.above))).trans l⟩
  ·obtain⟨o',l⟩:=I.base.there b o e G;exact⟨o',(hs.2 b (cv (bp (aL e) I.ok.above))).trans l⟩
  ·by_cases U:j=i
   ·subst U;rw[hi]at l;cases l;rw[bC hiσ]at L;cases L;exact⟨u,r,.inl ⟨O,by simp⟩⟩
   ·rw[bn (dP U)]at L;obtain⟨u',r',q⟩:=hl j y v' l L e3;refine⟨u',r',?_⟩;rcases q with ⟨k,e⟩|⟨k,c,e,z⟩
    ·refine .inl ⟨k,?_⟩;have:y≠x:=λe=>U (Oo hN l (e ▸ hi));simp[this,e]
    ·exact .inr ⟨k,c,e,z.sameBut hs (cne y c e)⟩
  ·obtain⟨w',z⟩:=I.cell y c e;exact⟨w',z.sameBut hs (cne y c e)⟩
  ·obtain⟨e,n,ne,nf,d⟩:=I.pin p hp;exact⟨(hs.2 p.1 ne).trans e,n,ne,nf,d⟩
 ·have Y : X.fn x = true := by
    rcases hf with z|z
    ·exact z
    ·rw[z]at O;cases O
  obtain⟨c,C⟩:=I.ok.has x (.inl O);obtain⟨w',z⟩:=I.cell x c C;refine wpAny_storeName_cell I.ok.kind O C z (λh' J hs=>?_);obtain⟨oc,E,v⟩:=id z;refine h { s with heap:=h' } ⟨I.ok,I.os,I.bare,⟨λb o e n hb G=>?_,λb o e n hb G=>?_,I.base.free,λb o e G=>?_,I.base.tups,I.base.frzs,I.base.tbls⟩,⟨m,hn.sameBut hs (dP (cne x c C)),λj y v' l L e3=>?_⟩,λy Q e=>?_,I.free,I.freeC,λp hp=>?_,g ⟨oc,E,I.freeC x c C⟩ hs,by simpa using I.len⟩ ⟨c,hs,.inr C⟩
  ·exact (hs.2 b (cv (bp (aL e) (I.ok.cab x c Y C)))).trans (I.base.keep b o e n hb G)
  ·obtain⟨sl,l⟩:=I.base.slot b o e n hb G;exact⟨sl,(hs.2 b (cv (bp (aL e) (I.ok.cab x c Y C)))).trans l⟩
  ·obtain⟨o',l⟩:=I.base.there b o e G;exact⟨o',(hs.2 b (cv (bp (aL e) (I.ok.cab x c Y C)))).trans l⟩
  ·by_cases U:j=i
   ·subst U;rw[hi]at l;cases l;rw[bC hiσ]at L;cases L;exact⟨u,r,.inr ⟨.inl O,c,C,J⟩⟩
   ·rw[bn (dP U)]at L;obtain⟨u',r',q⟩:=hl j y v' l L e3;refine⟨u',r',?_⟩;rcases q with q|⟨k,Q,e,b⟩
    ·exact .inl q
    ·refine .inr ⟨k,Q,e,b.sameBut hs ?_⟩
     rintro rfl
     exact U (Oo hN l (I.ok.inj _ _ _ e C ▸ hi))
  ·by_cases H:Q=c
   ·subst H;exact⟨_,J⟩
   ·obtain⟨g,b⟩:=I.cell y Q e;exact⟨g,b.sameBut hs H⟩
  ·obtain⟨e,n,ne,nf,d⟩:=I.pin p hp;refine⟨(hs.2 p.1 ?_).trans e,n,ne,nf,d⟩;intro q;rw[q,E]at e;have b:oc=p.2:=bq e;exact d w' (by rw[<- b];exact v)
theorem EN{M:vZ}{A:br}{E:ac->ae->Prop}{i:Nat}{x:Str}{v:V}{u:ac}{Q:Unit->ae->Prop}(I:Inv X ao σ H s)(l:X.N.Nodup)(c:X.N[i]?=some x)(b:Loc X.env.scope x)(r:RelV v u)
  (h:∀s',Inv X ao (σ.set i (some v)) H s'->Q () s') (g:X.fn x=true\/X.env.scope.names.lookup x=some .local:=by first|exact .inl rfl|exact .inr rfl|assumption):aD M A (storeName X.env x u) Q E s:=
 ON I l c b r (λs' o _=>h s' o) g
theorem Inv.call'{s':ae}{ch:List af}(I:Inv X ao σ H s)(l:s'.os=s.os)(u:Un (sG X.stack) ch H H' s.heap s'.heap)(g:mD X.prog X.w H' s'.heap)(o:kL s'.gens)
  (h:∀b∈ch,(b∈X.ex\/X.s₀.heap.objs.size<=b)/\b≠X.env.locals/\(∀x c,X.env.cells.lookup x=some c->c≠b)/\∀p∈X.pn++ao,p.1≠b):Inv X ao σ H' s':=by
 obtain⟨h',g',d',t',o'⟩:=s';have e:o'=s.os:=l;subst e;exact I.call (g':=g') (t':=t') (d':=d') u g o h
end
abbrev XK:=ac->Option af->Hp->Prop
noncomputable abbrev St:=List (Option V)
abbrev VK:=V->Hp->Prop
abbrev TE:=St->Hp->VK->Prop
abbrev TT:=St->Hp->(Bool->Hp->Prop)->Prop
abbrev TA:=St->Hp->(List V->Hp->Prop)->Prop
structure Ends where
 nx:St->Hp->Prop
 rt:VK
 bk:St->Hp->Prop:=λ_ _=>False
 ct:St->Hp->Prop:=λ_ _=>False
abbrev TS:=Ends->St->Hp->Prop
def EP(X:Cx)(b:List (af×Obj))(σ:St)(Q:VK)(u:ac)(s':ae):Prop:=∃v c,Inv X b σ c s'/\RelV v u/\Q v c
noncomputable def TP(X:Cx)(c:List (af×Obj))(σ:St)(Q:Bool->Hp->Prop)(b:Bool)(s':ae):Prop:=∃g,Inv X c σ g s'/\Q b g
def AP(X:Cx)(b:List (af×Obj))(σ:St)(Q:List V->Hp->Prop)(h:List ac)(s':ae):Prop:=∃c g,Inv X b σ g s'/\cU c h/\Q c g
def SP(X:Cx)(b:List (af×Obj))(D:Ends)(f:Flow)(s':ae):Prop:=
 match f with
 | .next=>∃σ' c,Inv X b σ' c s'/\D.nx σ' c
 | .brk=>∃σ' c,Inv X b σ' c s'/\D.bk σ' c
 | .cont=>∃σ' c,Inv X b σ' c s'/\D.ct σ' c
 | .ret u=>∃v σ' c,Inv X b σ' c s'/\RelV v u/\D.rt v c
def PE(X:Cx)(e:Expr)(t:TE):Prop:=
 ∀(ao:List (af×Obj))(s:ae)(σ:St)(H:Hp)(Q:VK),Inv X ao σ H s->t σ H Q->aD (aK X.prog X.w) X.A (eval e X.env) (EP X ao σ Q) X.xe s
def PT(X:Cx)(e:Expr)(t:TT):Prop:=
 ∀(ao:List (af×Obj))(s:ae)(σ:St)(H:Hp)(Q:Bool->Hp->Prop),Inv X ao σ H s->t σ H Q->aD (aK X.prog X.w) X.A (isTrue e X.env (eval e X.env)) (TP X ao σ Q) X.xe s
def PW(X:Cx)(e:Expr)(t:TT):Prop:=
 ∀(whole:Sem ac)(ao:List (af×Obj))(s:ae)(σ:St)(H:Hp)(Q:Bool->Hp->Prop),Inv X ao σ H s->t σ H Q->aD (aK X.prog X.w) X.A (isTrue e X.env whole) (TP X ao σ Q) X.xe s
theorem PW.pt{X:Cx}{e:Expr}{t:TT}(h:PW X e t):PT X e t:=h _
def PA(X:Cx)(b:List Expr)(t:TA):Prop:=
 ∀(pos:Pos)(ao:List (af×Obj))(s:ae)(σ:St)(H:Hp)(Q:List V->Hp->Prop),Inv X ao σ H s->t σ H Q->aD (aK X.prog X.w) X.A (spliced (di pos (av b X.env))) (AP X ao σ Q) X.xe s
def PS(X:Cx)(st:Stmt)(t:TS):Prop:=
 ∀(ao:List (af×Obj))(s:ae)(σ:St)(H:Hp)(D:Ends),Inv X ao σ H s->t D σ H->aD (aK X.prog X.w) X.A (exec st X.env) (SP X ao D) X.xe s
def PSs(X:Cx)(st:List Stmt)(t:TS):Prop:=
 ∀(ao:List (af×Obj))(s:ae)(σ:St)(H:Hp)(D:Ends),Inv X ao σ H s->t D σ H->aD (aK X.prog X.w) X.A (execs st X.env) (SP X ao D) X.xe s
theorem fE{α:Type}{t:Sem α}{Q b:α->ae->Prop}{M:vZ}{A:br}{E:ac->ae->Prop}{s:ae}(h:aD M A t Q E s)(c:∀a s,Q a s->b a s):aD M A t b E s:=cc h c λ_ _ x=>x
section
variable{X:Cx}
noncomputable def By(i:Nat):TE:=λσ H Q=>∃v,σ[i]?=some (some v)/\Q v H
noncomputable def tC(v:V):TE:=λ_ H Q=>Q v H
theorem xF{i:Nat}{x:Str}{pos:Pos}(Y:X.N[i]?=some x)(J:xK X.env.scope x)(hd:(x == ("__debug__":Str))=false:=by decide)(E:(x == ("__classdict__":Str))=false:=by decide):PE X (.Name x pos) (By i):=by
 intro C s σ H Q I h;obtain⟨v,e,h⟩:=h;obtain⟨m,L,U⟩:=I.loc;obtain⟨u,r,l⟩:=U i x v Y e J;have o:EP X C σ Q u s:=⟨v,H,I,r,h⟩
 rcases l with ⟨g,O⟩|⟨g,c,G,b⟩
 ·exact Cr (wpAny_loadName_local I.ok.kind g L O o) hd
 ·rcases g with g|g
  ·exact Cr (wpAny_loadName_cell I.ok.kind g G b o) hd
  ·exact Cr (wpAny_loadName_free I.ok.kind g G b o E) hd
theorem XA{i j pos}:PE X (.Constant (.int i) j pos) (tC (.int i)):=λ_ _ _ H _ I h=>wpAny_Constant_int ⟨.int i,H,I.tok _,⟨_,rfl⟩,h⟩
theorem Tf{b j pos}:PE X (.Constant (.bool b) j pos) (tC (.bl b)):=λ_ _ _ H _ I h=>Constant_bool ⟨.bl b,H,I,rfl,h⟩
theorem WY{j pos}:PE X (.Constant .none j pos) (tC .non):=λ_ _ _ H _ I h=>Constant_none ⟨.non,H,I,rfl,h⟩
theorem W4{x j pos}:PE X (.Constant (.str x) j pos) (tC (.str x)):=λ_ _ _ H _ I h=>Calls.Constant_str ⟨.str x,H,I.tok _,⟨_,rfl⟩,h⟩
noncomputable def Gl(X:Cx)(x:Str):Prop:=X.env.kindOf x=some .globalImplicit
theorem AI{E:ac->ae->Prop}{b:List (af×Obj)}{s:ae}{σ:St}{H:Hp}{x:Str}{u:ac}{pos:Pos}{Q:ac->ae->Prop}(I:Inv X b σ H s)(g:Gl X x)(c:X.mg x=some u)(h:Q u s)
  (hd:(x == ("__debug__":Str))=false:=by decide):aD (aK X.prog X.w) X.A (eval (.Name x pos) X.env) Q E s:=
 qX I.ok.kind g (Calls.loadGlobal_global (by rw[I.ok.glob];exact I.mod.glob.keeps I.bk) c h) hd
theorem A4{E:ac->ae->Prop}{b:List (af×Obj)}{s:ae}{σ:St}{H:Hp}{x:Str}{u:ac}{pos:Pos}{Q:ac->ae->Prop}(I:Inv X b σ H s)(o:Gl X x)(l:X.mg x=none)(c:cS x=some u)(h:Q u s)
  (g:x≠"__name__":=by decide) (hd:(x == ("__debug__":Str))=false:=by decide):aD (aK X.prog X.w) X.A (eval (.Name x pos) X.env) Q E s:=by
 obtain⟨G,C,v⟩:=I.mod.blt;exact qX I.ok.kind o (Calls.loadGlobal_builtin (by rw[I.ok.glob];exact I.mod.glob.keeps I.bk) l (by rw[I.ok.blt];exact C.keeps I.bk) ((v x g).trans c) h) hd
theorem LZ{x:Str}{v:V}{u:ac}{pos:Pos}(c:Gl X x)(b:X.mg x=some u)(r:RelV v u)(hd:(x == ("__debug__":Str))=false:=by decide):PE X (.Name x pos) (tC v):=
 λ_ _ _ H _ I h=>AI I c b ⟨v,H,I,r,h⟩ hd
theorem Qu{x:Str}{v:V}{u:ac}{pos:Pos}(l:Gl X x)(g:X.mg x=none)(b:cS x=some u)(r:RelV v u)(c:x≠"__name__":=by decide)(hd:(x == ("__debug__":Str))=false:=by decide):PE X (.Name x pos) (tC v):=
 λ_ _ _ H _ I h=>A4 I l g b ⟨v,H,I,r,h⟩ c hd
variable{a b:Expr}{ta tb:TE}{pos:Pos}
variable{tA eO:TT}{dB:List Expr}
noncomputable def Ba(t u:TT):TT:=λσ H Q=>t σ H λc g=>if c=true then u σ g Q else Q false g
noncomputable def tOr(t u:TT):TT:=λσ H Q=>t σ H λc g=>if c=true then Q true g else u σ g Q
noncomputable def A_(t:TT):TT:=λσ H Q=>t σ H λc g=>Q (!c) g
theorem RY(l:PT X a tA):PW X (.BoolOp .And [a] pos) tA:=by
 intro wh g s σ H Q I h;refine isTrue_and (fE (l g s σ H Q I h) λc o e=>?_);cases c with
 |true=>exact isTrue_and_nil e
 |false=>exact e
theorem US(l:PT X a tA):PW X (.BoolOp .Or [a] pos) tA:=by
 intro wh g s σ H Q I h;refine isTrue_or (fE (l g s σ H Q I h) λc o e=>?_);cases c with
 |false=>exact isTrue_or_nil e
 |true=>exact e
theorem V3(G:PT X a tA)(E:PW X (.BoolOp .And (b::dB) pos) eO):PW X (.BoolOp .And (a::b::dB) pos) (Ba tA eO):=by
 intro wh g s σ H Q I h;refine isTrue_and (fE (G g s σ H _ I h) λc C l=>?_);obtain⟨v,u,o⟩:=l;cases c with
 |true=>exact E wh g C σ v Q u o
 |false=>exact⟨v,u,o⟩
theorem Z0(G:PT X a tA)(E:PW X (.BoolOp .Or (b::dB) pos) eO):PW X (.BoolOp .Or (a::b::dB) pos) (tOr tA eO):=by
 intro wh g s σ H Q I h;refine isTrue_or (fE (G g s σ H _ I h) λc C l=>?_);obtain⟨v,u,o⟩:=l;cases c with
 |true=>exact⟨v,u,o⟩
 |false=>exact E wh g C σ v Q u o
theorem YW(l:PT X a tA):PT X (.UnaryOp .Not a pos) (A_ tA):=by intro g s σ H Q I h;exact isTrue_not (l g s σ H (λc o=>Q (!c) o) I h)
noncomputable def Ee(ta tb:TE):TE:=λσ H Q=>ta σ H λx g=>∃c,x=.bl c/\if c=true then tb σ g Q else Q (.bl false) g
noncomputable def L8(ta tb:TE):TE:=λσ H Q=>ta σ H λx g=>∃c,x=.bl c/\if c=true then Q (.bl true) g else tb σ g Q
noncomputable def E1(ta:TE):TE:=λσ H Q=>ta σ H λx g=>∃c,x=.bl c/\Q (.bl (!c)) g
theorem VG{op}{t:TE}(h:PE X a t):PE X (.BoolOp op [a] pos) t:=λc s σ H Q I g=>BoolOp_one (h c s σ H Q I g)
theorem VN(L:PE X a ta)(J:PE X (.BoolOp .And (b::dB) pos) tb):PE X (.BoolOp .And (a::b::dB) pos) (Ee ta tb):=by
 intro g s σ H Q I h;refine BoolOp_and (fE (L g s σ H _ I h) λv E o=>?_);obtain⟨x,C,u,G,l⟩:=o;obtain⟨c,rfl,l⟩:=l;cases G;refine dN ?_;cases c with
 |true=>exact J g E σ C Q u l
 |false=>exact⟨.bl false,C,u,rfl,l⟩
theorem ZD(L:PE X a ta)(J:PE X (.BoolOp .Or (b::dB) pos) tb):PE X (.BoolOp .Or (a::b::dB) pos) (L8 ta tb):=by
 intro g s σ H Q I h;refine BoolOp_or (fE (L g s σ H _ I h) λv E o=>?_);obtain⟨x,C,u,G,l⟩:=o;obtain⟨c,rfl,l⟩:=l;cases G;refine dN ?_;cases c with
 |false=>exact J g E σ C Q u l
 |true=>exact⟨.bl true,C,u,rfl,l⟩
theorem Yt(C:PE X a ta):PE X (.UnaryOp .Not a pos) (E1 ta):=by intro g s σ H Q I h;refine UnaryOp_ (fE (C g s σ H _ I h) λv J o=>?_);obtain⟨x,G,E,u,l⟩:=o;obtain⟨c,rfl,l⟩:=l;cases u;exact not_of (dN ⟨.bl (!c),G,E,rfl,l⟩)
end
def iW(K:aj)(H:Hp)(a:af)(xs:List V):Prop:=
 Rd H a (.lst xs) \/
  ∃(o:Obj)(its:Array ac)(n:Nat),K.lookup a=some o/\o.cls=.type "list"/\o.dict=none/\o.data=.seq its n/\its.size<=sizeLine/\cU xs its.toList
def kz(K:aj)(H:Hp)(a:af)(xs:List V):Prop:=
 Rd H a (.tup xs) \/
  ∃(o:Obj)(its:Array ac)(n:Nat),K.lookup a=some o/\o.cls=.type "tuple"/\o.dict=none/\o.data=.seq its n/\its.size<=sizeLine/\cU xs its.toList
noncomputable def K9:ac->Option V
 | .none=>some .non
 | .bool b=>some (.bl b)
 | .int i _=>some (.int i)
 | .str x _=>some (.str x)
 | .bytes b _=>some (.byt b)
 | .float b _=>some (.flt b)
 | .ref a=>some (.ref a)
 | .type n=>some (.ty n)
 |_=>none
theorem RelV.abs{x:V}{u:ac}(r:RelV x u):K9 u=some x:=by
 cases x with
 |non=>cases r;rfl
 |bl _=>cases r;rfl
 |int _=>obtain⟨t,rfl⟩:=r;rfl
 |str _=>obtain⟨t,rfl⟩:=r;rfl
 |byt _=>obtain⟨t,rfl⟩:=r;rfl
 |flt _=>obtain⟨t,rfl⟩:=r;rfl
 |ref _=>cases r;rfl
 |ty _=>cases r;rfl
theorem RelV.inj{x y:V}{u:ac}(r:RelV x u)(q:RelV y u):x=y:=bq (r.abs.symm.trans q.abs)
theorem cU.inj{xs ys:List V}{b:List ac}(h:cU xs b)(q:cU ys b):xs=ys:=by
 induction h generalizing ys with
 |nil=>cases q;rfl
 |cons r t ih=>cases q with|cons r' t'=>rw[r.inj r',ih t']
section
variable{X:Cx}{ao:List (af×Obj)}{σ:St}{H:Hp}{s:ae}{a:af}{xs ys:List V}
theorem iW.of{K:aj}(h:H a=some (.lst xs)):iW K H a xs:=.inl (.inl h)
theorem kz.of{K:aj}(h:H a=some (.tup xs)):kz K H a xs:=.inl (.inl h)
theorem Inv.list(I:Inv X ao σ H s)(h:iW X.K H a xs):∃its:List ac,cU xs its/\PlainL s.heap a its.toArray/\xs.length<=sizeLine:=by
 rcases h with h|⟨o,its,n,b,c,hd,hs,hz,r⟩
 ·obtain⟨z,its,n,r,e⟩:=h.ok I.hok;exact⟨its,r,⟨_,n,e,rfl,rfl,rfl⟩,z⟩
 ·refine⟨its.toList,r,⟨o,n,I.kIn a o b,c,hd,by simpa using hs⟩,?_⟩;have e:=r.length;simp only[nA]at e;ext
theorem Inv.tupleD(I:Inv X ao σ H s)(h:kz X.K H a xs):∃its:List ac,cU xs its/\gY s.heap a its.toArray/\xs.length<=sizeLine:=by
 rcases h with h|⟨o,its,n,b,c,hd,hs,hz,r⟩
 ·obtain⟨z,its,r,p⟩:=h.ok I.hok;exact⟨its,r,p,z⟩
 ·refine⟨its.toList,r,⟨o,I.kIn a o b,c,⟨n,by simpa using hs⟩,hd⟩,?_⟩;have e:=r.length;simp only[nA]at e;ext
theorem Inv.tuple(I:Inv X ao σ H s)(h:kz X.K H a xs):∃its:List ac,cU xs its/\Dn s.heap a its.toArray/\xs.length<=sizeLine:=by obtain ⟨its,r,p,z⟩:=I.tupleD h;exact ⟨its,r,p.is,z⟩
theorem Inv.list_inj(I:Inv X ao σ H s)(h:iW X.K H a xs)(h':iW X.K H a ys):xs=ys:=by
 obtain⟨its,r,⟨o,n,e,_,_,d⟩,_⟩:=I.list h;obtain⟨its',c,⟨o',g,b,_,_,d'⟩,_⟩:=I.list h';rw[e]at b;cases b;rw[d]at d';injection d' with d1 _
 have:its=its':=by simpa using bS Cs d1
 subst this;exact r.inj c
theorem Inv.tuple_inj(I:Inv X ao σ H s)(h:kz X.K H a xs)(h':kz X.K H a ys):xs=ys:=by
 obtain⟨its,r,⟨o,e,_,n,d⟩,_⟩:=I.tuple h;obtain⟨its',c,⟨o',b,_,g,d'⟩,_⟩:=I.tuple h';rw[e]at b;cases b;rw[d]at d';injection d' with d1 _
 have:its=its':=by simpa using bS Cs d1
 subst this;exact r.inj c
end
noncomputable abbrev Cx.wish(X:Cx)(E:ac->ae->Prop):Cx:={ X with xe:=E }
abbrev Cx.nox(X:Cx):Cx:=X.wish λ_ _=>False
theorem Cx.Ok.wish{X:Cx}(ok:X.Ok)(E:ac->ae->Prop):(X.wish E).Ok:=
 ⟨ok.mod,ok.kind,ok.glob,ok.blt,ok.above,ok.inj,ok.has,ok.cab,ok.hd,ok.frames,ok.stk,ok.exf,ok.bs,ok.bsz,ok.noex,ok.exfs,ok.funs,ok.frf⟩
theorem Cx.Ok.unwish{X:Cx}{E:ac->ae->Prop}(ok:(X.wish E).Ok):X.Ok:=
 ⟨ok.mod,ok.kind,ok.glob,ok.blt,ok.above,ok.inj,ok.has,ok.cab,ok.hd,ok.frames,ok.stk,ok.exf,ok.bs,ok.bsz,ok.noex,ok.exfs,ok.funs,ok.frf⟩
section
variable{X:Cx}{ao:List (af×Obj)}{σ:St}{H:Hp}{s:ae}{E:ac->ae->Prop}
theorem Inv.wish(I:Inv X ao σ H s)(E:ac->ae->Prop):Inv (X.wish E) ao σ H s:=⟨I.ok.wish E,I.os,I.bare,I.base,I.loc,I.cell,I.free,I.freeC,I.pin,I.hok,I.len⟩
theorem Inv.unwish(I:Inv (X.wish E) ao σ H s):Inv X ao σ H s:=⟨I.ok.unwish,I.os,I.bare,I.base,I.loc,I.cell,I.free,I.freeC,I.pin,I.hok,I.len⟩
theorem SP.unwish{D:Ends}{f:Flow}{s':ae}(h:SP (X.wish E) ao D f s'):SP X ao D f s':=by
 cases f with
 |next=>obtain⟨σ',b,I,q⟩:=h;exact⟨σ',b,I.unwish,q⟩
 |brk=>obtain⟨σ',b,I,q⟩:=h;exact⟨σ',b,I.unwish,q⟩
 |cont=>obtain⟨σ',b,I,q⟩:=h;exact⟨σ',b,I.unwish,q⟩
 |ret u=>obtain⟨v,σ',b,I,r,q⟩:=h;exact⟨v,σ',b,I.unwish,r,q⟩
theorem PSs.nox{st:List Stmt}{t:TS}(h:PSs X.nox st t):PSs X st t:=λao s σ H D I b=>
 cc (h ao s σ H D (I.wish _) b) (λ_ _ q=>q.unwish) λ_ _ z=>bV z
end
section
variable{X:Cx}{st:Stmt}{dB:List Stmt}{t u:TS}{e:Expr}{te:TE}{pos:Pos}
noncomputable def Ed:TS:=λD σ H=>D.nx σ H
noncomputable def L9(t u:TS):TS:=λD σ H=>t { D with nx:=u D } σ H
theorem HD:PSs X [] Ed:=λ_ _ σ H _ I h=>gR ⟨σ,H,I,h⟩
theorem E5(l:PS X st t)(g:PSs X dB u):PSs X (st::dB) (L9 t u):=by
 intro b s σ H D I h;refine mY (fE (l b s σ H { D with nx:=u D } I h) λf c q=>?_);cases f with
 |next=>
  obtain⟨σ',C,o,q⟩:=q;exact g b c σ' C D o q
 |ret v=>exact q
 |brk=>exact q
 |cont=>exact q
theorem Inv.quiet{b:List (af×Obj)}{σ:St}{H:Hp}{s:ae}(I:Inv X b σ H s):interactive X.env=false:=by simp[interactive,I.ok.kind]
noncomputable def DV(te:TE):TS:=λD σ H=>te σ H λ_ b=>D.nx σ b
theorem O_(l:PE X e te)(hs:eW e none pos.line X.env=pure false:=by rfl):PS X (.Expr e pos) (DV te):=by intro b s σ H D I h;exact wpAny_Expr_any (fE (l b s σ H _ I h) λv E c=>by obtain⟨x,C,o,G,g⟩:=c;exact⟨σ,C,o,g⟩) I.quiet hs
noncomputable def Jp(te:TE):TS:=λD σ H=>te σ H D.rt
theorem Lc(o:PE X e te):PS X (.Return (some e) pos) (Jp te):=by intro c s σ H D I h;exact wpAny_Return_some (fE (o c s σ H _ I h) λv G b=>by obtain⟨x,E,C,g,l⟩:=b;exact⟨x,σ,E,C,g,l⟩)
noncomputable def MC(c:TT)(t u:TS):TS:=λD σ H=>c σ H λb g=>if b=true then t D σ g else u D σ g
theorem OG{c:Expr}{a b:List Stmt}{o:TT}(J:PT X c o)(O:PSs X a t)(L:PSs X b u):PS X (.If c a b pos) (MC o t u):=by
 intro g s σ H D I h;refine wpAny_If (fE (J g s σ H _ I h) λd v l=>?_);obtain⟨G,E,C⟩:=l;cases d with
 |true=>exact O g v σ G D E C
 |false=>exact L g v σ G D E C
noncomputable def BF:TS:=λ_ _ _=>False
theorem V9:PS X st BF:=λ_ _ _ _ _ _ h=>h.elim
end
abbrev TG:=V->St->Hp->(St->Hp->Prop)->Prop
abbrev y9:=List V->St->Hp->(St->Hp->Prop)->Prop
def PG(X:Cx)(b:Expr)(t:TG):Prop:=
 ∀(ao:List (af×Obj))(s:ae)(σ:St)(H:Hp)(v:V)(u:ac)(Q:St->Hp->Prop),Inv X ao σ H s->RelV v u->t v σ H Q ->
  aD (aK X.prog X.w) X.A (mG b X.env u) (λ_ s'=>∃σ' H',Inv X ao σ' H' s'/\Q σ' H') X.xe s
def PGs(X:Cx)(b:List Expr)(t:y9):Prop:=
 ∀(ao:List (af×Obj))(s:ae)(σ:St)(H:Hp)(vs:List V)(us:List ac)(Q:St->Hp->Prop),Inv X ao σ H s->cU vs us->t vs σ H Q ->
  aD (aK X.prog X.w) X.A (assignInOrder ((dH b X.env).map (·.2)) us) (λ_ s'=>∃σ' H',Inv X ao σ' H' s'/\Q σ' H') X.xe s
abbrev zv:=V->V->V->Hp->(Hp->Prop)->Prop
def PSet(X:Cx)(t:zv):Prop:=
 ∀(ao:List (af×Obj))(s:ae)(σ:St)(H:Hp)(o i v:V)(ov iv u:ac)(Q:Hp->Prop),Inv X ao σ H s->RelV o ov->RelV i iv->RelV v u->t o i v H Q ->
  aD (aK X.prog X.w) X.A (qY ov iv u) (λ_ s'=>∃b,Inv X ao σ b s'/\Q b) X.xe s
section
variable{X:Cx}{pos:Pos}
noncomputable def tE(i:Nat):TG:=λv σ H Q=>Q (σ.set i (some v)) H
theorem Tj{i:Nat}{x:Str}(o:X.N.Nodup)(g:X.N[i]?=some x)(c:Loc X.env.scope x)(l:X.fn x=true\/X.env.scope.names.lookup x=some .local:=by first|exact .inl rfl|exact .inr rfl|assumption):PG X (.Name x pos) (tE i):=by intro b s σ H v u Q I r h;exact Do (EN I o g c r (λs' C=>⟨_,H,C,h⟩) l)
noncomputable def J3:y9:=λb σ H Q=>b=[]/\Q σ H
noncomputable def ES(t:TG)(u:y9):y9:=λb σ H Q=>∃v r,b=v::r/\t v σ H λσ' c=>u r σ' c Q
theorem X8:PGs X [] J3:=by intro b s σ H c g Q I r h;obtain⟨e,h⟩:=h;subst e;cases r;exact assignInOrder_nil ⟨σ,H,I,h⟩
theorem TN{e:Expr}{g:List Expr}{t:TG}{u:y9}(E:PG X e t)(C:PGs X g u)
  (hs:(dH (e::g) X.env).map (·.2)=mG e X.env::(dH g X.env).map (·.2):=by rfl):PGs X (e::g) (ES t u):=by
 intro b s σ H O Y Q I r h;obtain⟨v,U,G,h⟩:=h;subst G;cases r with
 |cons r rr=>
  rw[hs];refine assignInOrder_cons (fE (E b s σ H _ _ _ I r h) λ_ l c=>?_);obtain⟨σ1,L,J,o⟩:=c;exact C b l σ1 L _ _ Q J rr o
def K4(K:aj)(n:Nat)(t:y9):TG:=λv σ H Q=>∃a xs,v=.ref a/\kz K H a xs/\xs.length=n/\t xs σ H Q
theorem Rv{g:List Expr}{k:Nat}{t:y9}{n:Nat}(Y:X.calm=true)(h:PGs X g t)
  (O:(dH g X.env).length=n:=by rfl) (C:(dH g X.env).findIdx? (·.1)=none:=by rfl):PG X (.Tuple g k pos) (K4 X.K n t):=by
 intro c s σ H v u Q I r l;obtain⟨a,xs,e1,L,U,l⟩:=l;subst e1;cases r;obtain⟨its,E,J,hz⟩:=I.tuple L;refine assign_Tuple_tuple (I.ok.hd Y) J (by simp[O,<- U,E.length]) C λh' G=>?_;have I1:Inv X c σ H { s with heap:=h' }:=I.kept (t':=s.toks) λb o e=>G b o (cv (aL e)) e;exact h c _ σ H xs _ Q I1 (by simpa using E) l
noncomputable def JW(to b:TE)(t:zv):TG:=λv σ H Q=>to σ H λo h=>b σ h λi g=>t o i v g λc=>Q σ c
theorem Y3{o i:Expr}{to G:TE}{t:zv}(ho:PE X o to)(hi:PE X i G)(hs:PSet X t)
  (ha:∀v,mG (.Subscript o i pos) X.env v=(do
   let c <- nB [v] (eval o X.env)
   let E <- nB [v,c] (eval i X.env)
   pp pos
   nB [v,c,E] (qY c E v)
   release [v,c,E] []):=by intro _;rfl):PG X (.Subscript o i pos) (JW to G t):=by
 intro b s σ H v u Q I r h;rw[ha];refine aa (cB (fE (ho b s σ H _ I h) λc J C=>?_));obtain⟨x,H1,I1,O,q1⟩:=C;refine aa (cB (fE (hi b J σ H1 _ I1 q1) λE s2 l=>?_));obtain⟨y,H2,I2,L,Y⟩:=l;refine aa (fX (aa (cB (fE (hs b s2 σ H2 x y v c E u _ I2 O L r Y) λ_ s3 g=>?_))));obtain⟨H3,I3,U⟩:=g;exact wpAny_release ⟨σ,H3,I3,U⟩
noncomputable def zE(b:TE)(g:TG):TS:=λD σ H=>b σ H λx c=>g x σ c D.nx
theorem R0{tg e : Expr}{l : TE}{g : TG}(J : PE X e l)(G : PG X tg g)(hs : swapsWithSole [tg] e pos.line X.env = pure false := by rfl)(E : swappedStores [tg] e X.env = pure none := by rfl)
  (L:(dH [tg] X.env).map (·.2)=[mG tg X.env]:=by rfl):PS X (.Assign [tg] e pos) (zE l g):=by
 intro b s σ H D I h;refine wpAny_Assign_stores (fE (J b s σ H _ I h) λv o c=>?_) hs E;obtain ⟨x,Q,O,u,C⟩:=c;rw[L];exact fE (G b o σ Q x v _ O u C) λ_ s2 q=>q
theorem Le{i : Nat}{x : Str}{e : Expr}{l : TE}{b : Pos}(L : X.N.Nodup)(E : X.N[i]? = some x)(C : Loc X.env.scope x)(J : PE X e l)(hs : eW e (some (.Name x b)) pos.line X.env = pure false := by rfl)(G : X.fn x = true \/ X.env.scope.names.lookup x = some .local := by first|exact .inl rfl|exact .inr rfl|assumption):
  PS X (.Assign [.Name x b] e pos) (zE l (tE i)):=by
 intro c s σ H D I h;refine Dp (fE (J c s σ H _ I h) λv Y g=>?_) hs;obtain ⟨y,U,Q,o,u⟩:=g;exact EN Q L E C o (λs2 O=>⟨_,U,O,u⟩) G
end
section
variable{X:Cx}{pos:Pos}
def Ca(c:TT)(tb:TS):TS:=λD σ H=>∃W:Nat->St->Hp->Prop,(∃m,W m σ H)/\∀m σ H,W m σ H ->
 c σ H λb h=>if b=true then ∃N:St->Hp->Prop,(∀σ' H',N σ' H'->∃g,g < m/\W g σ' H')/\tb { D with nx:=N,ct:=N,bk:=D.nx } σ h else D.nx σ h
theorem Ux{c:Expr}{l:List Stmt}{U:TT}{tb:TS}(Y:pq (aK X.prog X.w) X.A X.env X.xe)(hc:PT X c U)(hb:PSs X l tb):PS X (.While c l [] pos) (Ca U tb):=by
 intro g s σ H D I h;obtain⟨W,⟨m0,w0⟩,turn⟩:=h;refine wpAny_While (codeAny_whileLoop (λn s'=>∃σ' H',Inv X g σ' H' s'/\W n σ' H') ?_ m0 ⟨σ,H,I,w0⟩)
 rintro n s1 ⟨σ1,H1,I1,w1⟩
 refine gS Y (fE (hc g s1 σ1 H1 _ I1 (turn n σ1 H1 w1)) λb s2 o=>?_);obtain⟨H2,I2,E⟩:=o;cases b with
 |true=>
  obtain⟨N,hN,E⟩:=E;rw[aE rfl];refine gS Y (fE (hb g s2 σ1 H2 _ I2 E) λf s3 C=>?_);cases f with
  |next=>
   obtain⟨σ3,u,Q,J⟩:=C;obtain⟨L,O,G⟩:=hN σ3 u J;exact⟨L,O,σ3,u,Q,G⟩
  |cont=>
   obtain⟨σ3,u,Q,J⟩:=C;obtain⟨L,O,G⟩:=hN σ3 u J;exact⟨L,O,σ3,u,Q,G⟩
  |brk=>exact C
  |ret v=>exact C
 |false=>
  rw[aA bx];exact gR ⟨σ1,H2,I2,E⟩
end
structure It where
 go:Nat->Hp->Prop
 yld:Nat->Hp->V->Hp->Prop
 stop:Nat->Hp->Prop
def nR(X:Cx)(g:List (af×Obj))(H:Hp)(b:af):Prop:=
 H b=none/\b≠X.env.locals/\b∉X.fs/\(b∈X.ex\/X.s₀.heap.objs.size<=b)/\(∀x c,X.env.cells.lookup x=some c->c≠b)/\∀p∈X.pn++g,p.1≠b
theorem Inv.fpOk{X:Cx}{g:List (af×Obj)}{σ:St}{H l:Hp}{s:ae}{b:af}(I:Inv X g σ H s)(h:s.heap.objs.size<=b)(u:l b=none):nR X g l b:=by
 refine⟨u,gr (bp I.lt h),I.nofs h,.inr (bv I.sz h),λx c e z=>?_,λp o z=>?_⟩
 ·obtain⟨v,q⟩:=I.cell x c e;exact bc (bp q.lt (by rw[z];exact h)) (cP _)
 ·exact bc (bp (aL (I.pin p o).1) (by rw[z];exact h)) (cP _)
structure ud(P:Program)(w:bw)(K:aj)(tg:Expr)(J:It)(fp:List af)(it:af)(tn:Nat->bu->Prop):Prop where
 mem:it∈fp
 obj:∀i h,tn i h->∀b∈fp,∃o,h.get? b=some o/\∀v,o.data≠.cell v
 keep:∀i h h',tn i h->(∀b∈fp,∀o,h.get? b=some o->h'.get? b=some o)->tn i h'
 item:∀(X:Cx),X.prog=P->X.w=w->X.K=K->X.calm=true->∀(i:Nat)(ao:List (af×Obj))(s:ae)(σ:St)(H:Hp)(E:ac->ae->Prop),Inv X ao σ H s->(∀b∈fp,nR X ao H b)->tn i s.heap->J.go i H ->
  aD (aK P w) X.A (uH (.ref it)) (λr s1=>∃u,r=some u /\
   aD (aK P w) X.A (lz tg (.ref it) u) (λ_ s2=>∃x H',Inv X ao σ H' s2/\RelV x u/\J.yld i H x H'/\tn (i+1) s2.heap/\∀b∈fp,H' b=none) E s1) E s
 done:∀(X:Cx),X.prog=P->X.w=w->X.K=K->X.calm=true->∀(i:Nat)(ao:List (af×Obj))(s:ae)(σ:St)(H:Hp)(E:ac->ae->Prop),Inv X ao σ H s->(∀b∈fp,nR X ao H b)->tn i s.heap->J.stop i H ->
  aD (aK P w) X.A (uH (.ref it)) (λr s1=>r=none/\Inv X ao σ H s1) E s
 self:∀(A:br)(i:Nat)(s:ae)(Q:ac->ae->Prop)(E:ac->ae->Prop),tn i s.heap->Q (.ref it) s->aD (aK P w) A (pyIter (.ref it)) Q E s
abbrev TI:=St->Hp->(It->Hp->Prop)->Prop
def Ot(X:Cx)(c:List (af×Obj))(σ:St)(tg:Expr)(R:It->Hp->Prop)(g:ac)(s2:ae):Prop:=
 ∃(o:af)(u:List af)(l:Nat->bu->Prop)(J:It)(h:Hp),g=.ref o/\Inv X c σ h s2/\ud X.prog X.w X.K tg J u o l/\l 0 s2.heap/\(∀b∈u,nR X c h b)/\R J h
def PI(X:Cx)(tg iter:Expr)(b:TI):Prop:=
 ∀(ao:List (af×Obj))(s:ae)(σ:St)(H:Hp)(R:It->Hp->Prop),Inv X ao σ H s->b σ H R ->
  aD (aK X.prog X.w) X.A (eval iter X.env) (λv c=>aD (aK X.prog X.w) X.A (pyIter v) (Ot X ao σ tg R) X.xe c) X.xe s
theorem HV{M:vZ}{A:br}{E:ac->ae->Prop}{s:ae}{tg:Expr}{g:af}{u:ac}{o:Obj}{n:String}{c:Array ac}{Q:Unit->ae->Prop}(l:s.heap.get? g=some o)(C:o.cls=.type n)(hd:o.data=.fields c)
  (v:["enumerate","zip","dict_itemiterator","dict_reverseitemiterator","odict_iterator","itertools.zip_longest","itertools.pairwise"].contains n=false) (b:Q () s):aD M A (lz tg (.ref g) u) Q E s:=by
 unfold lz;cases tg<;>first
  |exact ah b
  | (cases u <;> first
    |exact ah b
    | (refine aa (qD l ?_)
       rw[C,hd]
       show aD M A (if (["enumerate","zip","dict_itemiterator","dict_reverseitemiterator","odict_iterator","itertools.zip_longest","itertools.pairwise"].contains n&&c[0]? == some (gx _))=true then _ else _) Q E s;rw[aA (by intro h;rw[v,ng]at h;cases h)];exact ah b))
def JM(K:aj)(a:af):It:=
 ⟨λi H=>∃xs x,iW K H a xs/\xs[i]?=some x,λi H x b=>b=H/\∀xs,iW K H a xs->xs[i]?=some x,λi H=>∃xs,iW K H a xs/\xs.length<=i⟩
def L_(K:aj)(a:af):It:=
 ⟨λi H=>∃xs x,kz K H a xs/\xs[i]?=some x,λi H x b=>b=H/\∀xs,kz K H a xs->xs[i]?=some x,λi H=>∃xs,kz K H a xs/\xs.length<=i⟩
noncomputable def EK(lo:Int)(n:Nat):It:=⟨λi _=>i < n,λi H x b=>b=H/\x=.int (lo+i),λi _=>n<=i⟩
theorem Yf{P:Program}{w:bw}{K:aj}{tg:Expr}(a l:af):ud P w K tg (JM K a) [l] l (λi h=>h.IsListIter l a i) where
 mem:=by simp
 obj:=λi h st b C=>by
  have e:b=l:=by simpa using C
  subst e;obtain⟨o,e,c,d⟩:=st;exact⟨o,e,λv z=>by rw[d]at z;cases z⟩
 keep:=λi h h' st k=>st.at λo e=>k l (by simp) o e
 item:=by intro X hP U hK hc i g s σ H E I L st Y;subst hP U hK;obtain⟨xs,x,J,Q⟩:=Y;obtain⟨its,O,p,hz⟩:=I.list J;obtain⟨u,hu,ru⟩:=O.get Q;obtain⟨f0,f1,f2,f3,f4,f5⟩:=L l (by simp);refine wpAny_pyNext_list_item st p.isList (x:=u) (by simpa using hu) λh' G sb=>?_;have I1:Inv X g σ H { s with heap:=h' }:=I.turned (t':=s.toks) (λb o C e=>(sb.2 b C).trans e) f0 f1 f3 f4 f5;obtain⟨o,e,c,d⟩:=id G;exact⟨u,rfl,HV (s:={ s with heap:=h' }) e c d (by decide) ⟨x,H,I1,ru,⟨rfl,λys hy=>by rw[I.list_inj hy J];exact Q⟩,G,λb C=>(L b C).1⟩⟩
 done:=by intro X hP U hK hc i g s σ H E I L st Y;subst hP U hK;obtain⟨xs,J,Q⟩:=Y;obtain⟨its,O,p,hz⟩:=I.list J;obtain⟨f0,f1,f2,f3,f4,f5⟩:=L l (by simp);have hl:=O.length;exact wpAny_pyNext_list_end (I.ok.hd hc) st p.isList (by simp;ext) λh' eb=>⟨rfl,I.turned (t':=s.toks) (λb o C e=>eb b o C e) f0 f1 f3 f4 f5⟩
 self:=λ_ _ _ _ _ st h=>wpAny_pyIter_listiter st h
theorem VM{P:Program}{w:bw}{K:aj}{tg:Expr}(a l:af):ud P w K tg (L_ K a) [l] l (λi h=>h.IsTupleIter l a i) where
 mem:=by simp
 obj:=λi h st b C=>by
  have e:b=l:=by simpa using C
  subst e;obtain⟨o,e,c,d⟩:=st;exact⟨o,e,λv z=>by rw[d]at z;cases z⟩
 keep:=λi h h' st k=>st.at λo e=>k l (by simp) o e
 item:=by intro X hP U hK hc i g s σ H E I L st Y;subst hP U hK;obtain⟨xs,x,J,Q⟩:=Y;obtain⟨its,O,p,hz⟩:=I.tuple J;obtain⟨u,hu,ru⟩:=O.get Q;obtain⟨f0,f1,f2,f3,f4,f5⟩:=L l (by simp);refine wpAny_pyNext_tuple_item st (show s.heap.IsTuple a its.toArray from p) (x:=u) (by simpa using hu) λh' G sb=>?_;have I1:Inv X g σ H { s with heap:=h' }:=I.turned (t':=s.toks) (λb o C e=>(sb.2 b C).trans e) f0 f1 f3 f4 f5;obtain⟨o,e,c,d⟩:=id G;exact⟨u,rfl,HV (s:={ s with heap:=h' }) e c d (by decide) ⟨x,H,I1,ru,⟨rfl,λys hy=>by rw[I.tuple_inj hy J];exact Q⟩,G,λb C=>(L b C).1⟩⟩
 done:=by intro X hP U hK hc i g s σ H E I L st Y;subst hP U hK;obtain⟨xs,J,Q⟩:=Y;obtain⟨its,O,p,hz⟩:=I.tuple J;obtain⟨f0,f1,f2,f3,f4,f5⟩:=L l (by simp);have hl:=O.length;exact wpAny_pyNext_tuple_end (I.ok.hd hc) st (show s.heap.IsTuple a its.toArray from p) (by simp;ext) λh' eb=>⟨rfl,I.turned (t':=s.toks) (λb o C e=>eb b o C e) f0 f1 f3 f4 f5⟩
 self:=λ_ _ _ _ _ st h=>wpAny_pyIter_tupleiter st h
theorem Z8{P:Program}{w:bw}{K:aj}{tg:Expr}(g:af)(lo:Int)(n:Nat):ud P w K tg (EK lo n) [g] g (λi h=>IsRangeIter h g (lo+(i:Nat)*1) ((n:Int)-(i:Nat)) 1) where
 mem:=by simp
 obj:=λi h st b l=>by
  have e:b=g:=by simpa using l
  subst e;exact⟨_,st,λv z=>by have z':Data.fields _=Data.cell v:=z;cases z'⟩
 keep:=λi h h' st k=>k g (by simp) _ st
 item:=by intro X O G Q L i c s σ H E I C st J;subst O G Q;obtain⟨f0,f1,f2,f3,Y,U⟩:=C g (by simp);have W:=Walks.range (prog:=X.prog) (w:=X.w) (I.ok.hd L) g lo 1 n;refine W.item i s _ _ J st λv h' tk hv u kk=>?_;obtain⟨t,rfl⟩:=hv;have I1:Inv X c σ H { s with heap:=h',toks:=tk }:=I.turned (λb o l e=>kk b o (by simpa using l) e) f0 f1 f3 Y U;refine⟨_,rfl,HV (s:={ s with heap:=h',toks:=tk }) (n:="range_iterator") u rfl rfl (by decide) ⟨.int (lo+i),H,I1,⟨t,?_⟩,⟨rfl,rfl⟩,u,λb l=>(C b l).1⟩⟩;rw[HX]
 done:=by intro X O G Q L i c s σ H E I C st J;subst O G Q;obtain⟨f0,f1,f2,f3,Y,U⟩:=C g (by simp);exact wpAny_pyNext_range_end (I.ok.hd L) st (by have:n<=i:=J;ext) λh' eb=>⟨rfl,I.turned (t':=s.toks) (λb o l e=>eb b o l e) f0 f1 f3 Y U⟩
 self:=λ_ _ _ _ _ st h=>wpAny_pyIter_rangeiter st h
section
variable{X:Cx}{tg:Expr}
theorem QN{g:List (af×Obj)}{σ:St}{H:Hp}{s:ae}{R:It->Hp->Prop}{E:ac->ae->Prop}{lo c:Int}{t u v:Tok}{h:Nat}(I:Inv X g σ H s)(O : -(2^62)<=lo)(L:lo < 2^62)(J : -(2^62)<=c)(G:c < 2^62)
  (q:R (EK lo (c-lo).toNat) H):aD (aK X.prog X.w) X.A (pyIter (.ref s.heap.objs.size)) (Ot X g σ tg R) E { s with heap:=s.heap.push { cls:=.type "range",data:=.fields #[.int lo t,.int c u,.int 1 v] },toks:=h }:=by
 refine wpAny_pyIter_range (IsRange.new ..) (small_one O L J G) ?_;have l:Inv X g σ H { s with heap:=s.heap.push { cls:=.type "range",data:=.fields #[.int lo t,.int c u,.int 1 v] },toks:=h }:=I.kept λb o e=>aw _ e;refine⟨(s.heap.push { cls:=.type "range",data:=.fields #[.int lo t,.int c u,.int 1 v] }).objs.size,[(s.heap.push { cls:=.type "range",data:=.fields #[.int lo t,.int c u,.int 1 v] }).objs.size],_,_,H,rfl,
  l.kept (t':=h) λb o e=>aw _ e,Z8 _ lo (c-lo).toNat,?_,λb C=>?_,q⟩
 ·have U:lo+((0:Nat):Int)*1=lo:=by simp
  have Q:(((c-lo).toNat:Nat):Int)-((0:Nat):Int)=Builtin.Range.rangeSize lo c 1:=by rw[rangeSize_one];split<;>ext
  show IsRangeIter _ _ (lo+((0:Nat):Int)*1) ((((c-lo).toNat:Nat):Int)-((0:Nat):Int)) 1;rw[U,Q];exact aR _ rfl
 ·have e:b=(s.heap.push { cls:=.type "range",data:=.fields #[.int lo t,.int c u,.int 1 v] }).objs.size:=by simpa using C
  subst e;exact l.fpOk (az _) (l.hok.fresh (az _))
def iy(c:TA):TI:=λσ H R=>c σ H λb g=>∃j:Int,b=[.int j] /\ -(2^62)<=j/\j < 2^62/\R (EK 0 j.toNat) g
def om(c:TA):TI:=λσ H R=>c σ H λb g=>∃i j:Int,b=[.int i,.int j]/\(-(2^62)<=i/\i < 2^62 /\ -(2^62)<=j/\j < 2^62)/\R (EK i (j-i).toNat) g
theorem UW{a:Expr}{l:TA}{p pos:Pos}(C:Gl X "range")(v:X.mg "range"=none)(E:PA X [a] l)(hs:av [a] X.env=[(false,eval a X.env)]:=by rfl):PI X tg (.Call (.Name "range" p) [a] [] pos) (iy l):=by
 intro b s σ H R I h;refine Call_ (A4 I C v boot_range (eP (fE (E pos b s σ H _ I h) λL O g=>?_) hs rfl));obtain ⟨J,Q,G,o,c⟩:=g;obtain⟨j,e,c,u,q⟩:=c;subst e;cases o with
 |cons r rr=>
  cases rr;obtain⟨t,rfl⟩:=r;exact call_range_1 (QN G (by ext) (by ext) c u (by simpa using q))
theorem ZE{a b : Expr}{u : TA}{p pos : Pos}(L : Gl X "range")(J : X.mg "range" = none)(O : PA X [a, b] u)(hs : av [a, b] X.env = [(false, eval a X.env), (false, eval b X.env)] := by rfl)(g : av [b] X.env = [(false, eval b X.env)] := by rfl):
  PI X tg (.Call (.Name "range" p) [a,b] [] pos) (om u):=by
 intro c s σ H R I h;refine Call_ (A4 I L J boot_range (eP (fE (O pos c s σ H _ I h) λY s1 o=>?_) (by rw[hs,g]) (by rw[g];rfl)));obtain ⟨U,H1,Q,v,l⟩:=o;obtain⟨i,j,e,⟨l,G,E,C⟩,q⟩:=l;subst e;cases v with
 |cons r rr=>
  cases rr with
  |cons r' rr=>
   cases rr;obtain⟨t,rfl⟩:=r;obtain⟨t',rfl⟩:=r';exact call_range_2 (QN Q l G E C q)
def Ja(h:TI)(g:TG)(tb:TS):TS:=λD σ H=>h σ H λJ o=>∃W:Nat->Nat->St->Hp->Prop,(∃m,W 0 m σ o)/\∀i m σ H,W i m σ H ->
 (J.stop i H/\D.nx σ H)\/(J.go i H/\∃N:St->Hp->Prop,(∀σ' b,N σ' b->∃c,c < m/\W (i+1) c σ' b)/\∀x b,J.yld i H x b->g x σ b λσ2 l=>tb { D with nx:=N,ct:=N,bk:=D.nx } σ2 l)
noncomputable def mC(c:List af)(h:bu):List (af×Obj):=c.filterMap λb=>(h.get? b).map λo=>(b,o)
theorem BV{c:List af}{h:bu}{b:af}{o:Obj}(g:b∈c)(e:h.get? b=some o):(b,o)∈mC c h:=List.mem_filterMap.mpr ⟨b,g,by rw[e];rfl⟩
theorem ZT{c:List af}{h:bu}{p:af×Obj}(g:p∈mC c h):p.1∈c/\h.get? p.1=some p.2:=by
 obtain⟨b,l,e⟩:=List.mem_filterMap.mp g;cases q:h.get? b with
 |none=>rw[q]at e;cases e
 |some o=>
  rw[q]at e;have u:(b,o)=p:=bq e;subst u;exact⟨l,q⟩
theorem Inv.pinned{c:List (af×Obj)}{σ:St}{H:Hp}{s:ae}{g:List af}(I:Inv X c σ H s)(E:∀b∈g,nR X c H b)(C:∀b∈g,∃o,s.heap.get? b=some o/\∀v,o.data≠.cell v):Inv X (c++mC g s.heap) σ H s:=
 I.pins_of λp u=>(aZ.mp u).elim (λz=>I.pin p (bT _ z)) λz=>by obtain⟨h,e⟩:=ZT z;obtain⟨L,J,G,_⟩:=E p.1 h;obtain⟨o,l,d⟩:=C p.1 h;rw[e]at l;cases l;exact⟨e,L,J,G,d⟩
theorem Inv.unpinned{b c:List (af×Obj)}{σ:St}{H:Hp}{s:ae}(I:Inv X (b++c) σ H s):Inv X b σ H s:=I.pins_of λp g=>I.pin p (bT _ (gT _ g))
theorem Nf{iter:Expr}{Q:List Stmt}{wi:TI}{g:TG}{tb:TS}{pos:Pos}(hp:pq (aK X.prog X.w) X.A X.env X.xe)(hc:X.calm=true)(hi:PI X tg iter wi)(hg:PG X tg g)(C:PSs X Q tb)
  (hs:∀x,cX iter X.env x=pure x:=by intro _;rfl):PS X (.For tg iter Q [] pos) (Ja wi g tb):=by
 intro c s σ H D I h;refine wpAny_For (fE (hi c s σ H _ I h) λv s1 h1=>fE h1 λitv s2 h2=>?_) hs;obtain⟨it,fp,tn,J,H2,e,I2,T,st2,f2,W,⟨m0,w0⟩,turn⟩:=h2;subst e;have l:∀{L:Hp},(∀b∈fp,L b=none)->∀b∈fp,nR X c L b:=λhn b C=>⟨hn b C,(f2 b C).2⟩
 refine codeAny_forLoop_any (λn s'=>∃i σ' L,Inv X c σ' L s'/\tn i s'.heap/\(∀b∈fp,L b=none)/\W i n σ' L) ?_ m0 ⟨0,σ,H2,I2,st2,λb C=>(f2 b C).1,w0⟩
 rintro n s3 ⟨i,σ3,H3,I3,st3,fr3,w3⟩
 rcases turn i n σ3 H3 w3 with ⟨stop,qn⟩|⟨go,N,hN,step⟩
 ·refine gS hp (fE (T.done X rfl rfl rfl hc i c s3 σ3 H3 X.xe I3 (l fr3) st3 stop) λr s4 b=>?_);obtain⟨hr,g⟩:=b;subst hr;exact gR ⟨σ3,H3,g,qn⟩
 ·refine gS hp (fE (T.item X rfl rfl rfl hc i c s3 σ3 H3 X.xe I3 (l fr3) st3 go) λr s4 h=>?_);obtain⟨u,hr,h4⟩:=h;subst hr;refine gS hp (fE h4 λ_ s5 g=>?_);obtain⟨x,H5,I5,r5,y5,U,J⟩:=g;have Q:=I5.pinned (l J) (T.obj _ _ U);refine gS hp (fE (hg _ s5 σ3 H5 x u _ Q r5 (step x H5 y5)) λ_ s6 Y=>?_);obtain⟨σ6,H6,I6,q6⟩:=Y;refine gS hp (fE (C _ s6 σ6 H6 _ I6 q6) λf I O=>?_);have again:∀{σ7:St}{G:Hp},Inv X (c++mC fp s5.heap) σ7 G I->N σ7 G->∃m,m < n/\∃i σ' L,Inv X c σ' L I/\tn i I.heap/\(∀b∈fp,L b=none)/\W i m σ' L:=λ{σ7 G}E H=>by obtain⟨m',hm,w7⟩:=hN σ7 G H;refine⟨m',hm,i+1,σ7,G,E.unpinned,T.keep _ _ _ U λb C o e=>(E.pin (b,o) (bT _ (bT _ (BV C e)))).1,λb C=>?_,w7⟩;obtain⟨o,e,d⟩:=T.obj _ _ U b C;exact (E.pin (b,o) (bT _ (bT _ (BV C e)))).2.1
  cases f with
  |next=>obtain⟨σ7,G,E,H⟩:=O;exact again E H
  |cont=>obtain⟨σ7,G,E,H⟩:=O;exact again E H
  |brk=>obtain⟨σ7,G,E,O⟩:=O;exact⟨σ7,G,E.unpinned,O⟩
  |ret v=>obtain⟨x7,σ7,G,E,r7,O⟩:=O;exact⟨x7,σ7,G,E.unpinned,r7,O⟩
end
abbrev R2:=V->V->Hp->VK->Prop
def OpR(X:Cx)(f:ac->ac->Sem ac)(r:R2):Prop:=
 ∀(ao:List (af×Obj))(s:ae)(σ:St)(H:Hp)(x y:V)(v u:ac)(Q:VK),Inv X ao σ H s->RelV x v->RelV y u->r x y H Q ->
  aD (aK X.prog X.w) X.A (f v u) (EP X ao σ Q) X.xe s
def Fp(X:Cx)(f:ac->Sem ac)(r:V->Hp->VK->Prop):Prop:=
 ∀(ao:List (af×Obj))(s:ae)(σ:St)(H:Hp)(x:V)(v:ac)(Q:VK),Inv X ao σ H s->RelV x v->r x H Q ->
  aD (aK X.prog X.w) X.A (f v) (EP X ao σ Q) X.xe s
def CallR(X:Cx)(f:ac)(r:List V->Hp->VK->Prop):Prop:=
 ∀(ao:List (af×Obj))(s:ae)(σ:St)(H:Hp)(xs:List V)(us:List ac)(Q:VK),Inv X ao σ H s->cU xs us->r xs H Q ->
  aD (aK X.prog X.w) X.A (call f us) (EP X ao σ Q) X.xe s
def Mt(X:Cx)(r:V->Hp->(Bool->Hp->Prop)->Prop):Prop:=
 ∀(ao:List (af×Obj))(s:ae)(σ:St)(H:Hp)(x:V)(v:ac)(Q:Bool->Hp->Prop),Inv X ao σ H s->RelV x v->r x H Q ->
  aD (aK X.prog X.w) X.A (truthy v) (TP X ao σ Q) X.xe s
noncomputable def FD(r:R2)(b tb:TE):TE:=λσ H Q=>b σ H λx g=>tb σ g λy c=>r x y c Q
noncomputable def Sh(r:V->Hp->VK->Prop)(b:TE):TE:=λσ H Q=>b σ H λx c=>r x c Q
noncomputable def rI(C:Int->Int->Prop)(g:Int->Int->V):R2:=λx y H Q=>∃i j,x=.int i/\y=.int j/\C i j/\Q (g i j) H
noncomputable def Ak(g:Int->Int->V):R2:=λx y H Q=>∃i j,x=.int i/\y=.int j/\Q (g i j) H
noncomputable def rU(g:Int->V):V->Hp->VK->Prop:=λx H Q=>∃i,x=.int i/\Q (g i) H
section
variable{X:Cx}{a b c:Expr}{ta tb tc:TE}{pos:Pos}
theorem Cn(ha:PE X a ta)(c:PE X b tb){g:List (af×Obj)}{s:ae}{σ:St}{H:Hp}{R:V->V->Hp->Prop}(I:Inv X g σ H s)
  (h:ta σ H λx E=>tb σ E λy l=>R x y l) {Q:ac->ae->Prop}{f:ac->ac->Sem ac}
  (Y:∀v u s2 x y l,Inv X g σ l s2->RelV x v->RelV y u->R x y l->aD (aK X.prog X.w) X.A (f v u) Q X.xe s2):
  aD (aK X.prog X.w) X.A (eval a X.env) (λv s₁=>aD (aK X.prog X.w) X.A (eval b X.env) (λu s₂=>aD (aK X.prog X.w) X.A (f v u) Q X.xe s₂) X.xe s₁) X.xe s:=by
 refine fE (ha g s σ H _ I h) λv G C=>?_;obtain⟨x,E,I1,L,U⟩:=C;refine fE (c g G σ E _ I1 U) λu s2 o=>?_;obtain⟨y,l,I2,J,O⟩:=o;exact Y v u s2 x y l I2 L J O
theorem O5{op:uI}{r:R2}(C:OpR X (eN op) r)(G:PE X a ta)(E:PE X b tb):PE X (.BinOp a op b pos) (FD r ta tb):=by intro g s σ H Q I h;exact wpAny_BinOp (Cn G E I h λv u s2 x y L J o l q=>C g s2 σ L x y v u Q J o l q)
theorem TU{op:UnaryOp}{r:V->Hp->VK->Prop}(E:Fp X (Dq op) r)(G:PE X a ta):PE X (.UnaryOp op a pos) (Sh r ta):=by intro g s σ H Q I h;exact UnaryOp_ (fE (G g s σ H _ I h) λv o l=>by obtain⟨x,L,J,u,C⟩:=l;exact E g o σ L x v Q J u C)
theorem tL{f:ac->ac->Sem ac}{C:Int->Int->Prop}{g:Int->Int->Int}
  (rule:∀(i j:Int)(t u:Tok)(s:ae)(Q:ac->ae->Prop)(E:ac->ae->Prop),C i j->Q (.int (g i j) s.toks) { s with toks:=s.toks+1 }->aD (aK X.prog X.w) X.A (f (.int i t) (.int j u)) Q E s):
  OpR X f (rI C λi j=>.int (g i j)):=by
 intro l s σ H x y v u Q I G o h;obtain⟨i,j,rfl,rfl,J,q⟩:=h;obtain⟨t,rfl⟩:=G;obtain⟨t',rfl⟩:=o;exact rule i j t t' s _ _ J ⟨.int (g i j),H,I.tok _,⟨_,rfl⟩,q⟩
theorem Fy{f:ac->ac->Sem ac}{g:Int->Int->Int}
  (rule:∀(i j:Int)(t u:Tok)(s:ae)(Q:ac->ae->Prop)(E:ac->ae->Prop),Q (.int (g i j) s.toks) { s with toks:=s.toks+1 }->aD (aK X.prog X.w) X.A (f (.int i t) (.int j u)) Q E s):
  OpR X f (Ak λi j=>.int (g i j)):=by
 intro l s σ H x y v u Q I C o h;obtain⟨i,j,rfl,rfl,q⟩:=h;obtain⟨t,rfl⟩:=C;obtain⟨t',rfl⟩:=o;exact rule i j t t' s _ _ ⟨.int (g i j),H,I.tok _,⟨_,rfl⟩,q⟩
theorem yO{f:ac->ac->Sem ac}{g:Int->Int->Bool}
  (rule:∀(i j:Int)(t u:Tok)(s:ae)(Q:ac->ae->Prop)(E:ac->ae->Prop),Q (.bool (g i j)) s->aD (aK X.prog X.w) X.A (f (.int i t) (.int j u)) Q E s):
  OpR X f (Ak λi j=>.bl (g i j)):=by
 intro l s σ H x y v u Q I C o h;obtain⟨i,j,rfl,rfl,q⟩:=h;obtain⟨t,rfl⟩:=C;obtain⟨t',rfl⟩:=o;exact rule i j t t' s _ _ ⟨.bl (g i j),H,I,rfl,q⟩
noncomputable def Kd(i j:Int):Prop:=0 < j/\j < 1073741824
noncomputable def LJ(i j:Int):Prop:=0<=j/\j<=1000000/\i.natAbs < 2^64
noncomputable def Bh(i j:Int):Prop:=(-(2^64) < i/\i < 2^64)\/(-(2^64) < j/\j < 2^64)
theorem Bh.ok{i j:Int}(h:Bh i j):IntMulOk i j:=by
 rcases h with ⟨l,g⟩|⟨l,g⟩
 ·exact .of_left (intBits_le_64 l g)
 ·exact .of_right (intBits_le_64 l g)
theorem Ws:OpR X (eN .Add) (Ak λi j=>.int (i+j)):=Fy λ_ _ _ _ _ _ _ q=>add_int q
theorem Ub:OpR X (eN .Sub) (Ak λi j=>.int (i-j)):=Fy λ_ _ _ _ _ _ _ q=>sub_int q
theorem Yi:OpR X (eN .Mult) (rI Bh λi j=>.int (i*j)):=tL λ_ _ _ _ _ _ _ g q=>mul_int q g.ok
theorem Vk:OpR X (eN .FloorDiv) (rI Kd λi j=>.int (i / j)):=tL λi j _ _ _ _ _ g q=>by have l:(0:Int) < j:=g.1;have h:j < 1073741824:=g.2;exact floordiv_int (by ext) (by rw[Int.fdiv_eq_ediv_of_nonneg i (by ext)];exact q) (.inl (PyProof.noPylong_small (by ext)))
theorem Ti:OpR X (eN .Mod) (rI (λ_ j=>0 < j) λi j=>.int (i % j)):=tL λi j _ _ _ _ _ g q=>by have h:(0:Int) < j:=g;exact mod_int' (by ext) (by rw[Int.fmod_eq_emod_of_nonneg i (by ext)];exact q)
theorem Vc:OpR X (eN .Pow) (rI LJ λi j=>.int (i^j.toNat)):=tL λ_ _ _ _ _ _ _ g q=>pow_int_small g.1 g.2.1 g.2.2 q
theorem Yn{f:ac->Sem ac}{g:Int->Int}
  (rule:∀(i:Int)(t:Tok)(s:ae)(Q:ac->ae->Prop)(E:ac->ae->Prop),Q (.int (g i) s.toks) { s with toks:=s.toks+1 }->aD (aK X.prog X.w) X.A (f (.int i t)) Q E s):
  Fp X f (rU λi=>.int (g i)):=by
 intro l s σ H x v Q I o h;obtain⟨i,rfl,q⟩:=h;obtain⟨t,rfl⟩:=o;exact rule i t s _ _ ⟨.int (g i),H,I.tok _,⟨_,rfl⟩,q⟩
theorem Xi:Fp X (Dq .USub) (rU λi=>.int (-i)):=Yn λ_ _ _ _ _ q=>neg_int q
end
section
variable{X:Cx}{a b c:Expr}{ta tb tc:TE}{pos:Pos}
theorem Sf{g:List (af×Obj)}{σ:St}{H:Hp}{s:ae}{Q:VK}{k h:Bool}(I:Inv X g σ H s)(q:Q (.bl k) H)(e:k=h):EP X g σ Q (.bool h) s:=by subst e;exact⟨.bl k,H,I,rfl,q⟩
theorem Ro:OpR X (cz .Lt) (Ak λi j=>.bl (decide (i < j))):=yO λ_ _ _ _ _ _ _ q=>lt_int q
theorem Yg:OpR X (cz .LtE) (Ak λi j=>.bl (decide (i<=j))):=yO λ_ _ _ _ _ _ _ q=>le_int q
theorem VI:OpR X (cz .Gt) (Ak λi j=>.bl (decide (j < i))):=yO λ_ _ _ _ _ _ _ q=>gt_int q
theorem VJ:OpR X (cz .GtE) (Ak λi j=>.bl (decide (j<=i))):=yO λ_ _ _ _ _ _ _ q=>ge_int q
theorem UA:OpR X (cz .In) (λx y H Q=>∃i j,x=.str i/\y=.str j/\Q (.bl (!(kS j i 0 j.length 1).isEmpty)) H):=by intro g s σ H x y v u Q I o l h;obtain⟨i,j,rfl,rfl,q⟩:=h;obtain⟨t,rfl⟩:=o;obtain⟨t',rfl⟩:=l;exact in_str (Sf I q rfl)
theorem Qbn(b:Expr){op:mZ}(h:op≠.In:=by decide)(g:op≠.NotIn:=by decide):fY op b=false:=by
 have o:(op == mZ.In)=false:=by cases op<;>first|rfl|exact bc rfl h
 have l:(op == mZ.NotIn)=false:=by cases op<;>first|rfl|exact bc rfl g
 cases b<;>simp[fY,o,l]
theorem R6{op:mZ}{r:R2}(C:OpR X (cz op) r)(J:PE X a ta)(G:PE X b tb)(E:fY op b=false):PE X (.Compare a [op] [b] pos) (FD r ta tb):=by intro g s σ H Q I h;exact wpAny_Compare1 (Cn J G I h λv u s2 x y O L o l q=>C g s2 σ O x y v u Q L o l q) E
noncomputable def Aw(t:TE):TT:=λσ H Q=>t σ H λx g=>∃k,x=.bl k/\Q k g
theorem Tb{op:mZ}{r:R2}(ho:OpR X (cz op) r)(ha:PE X a ta)(hb:PE X b tb)(hm:fY op b=false):PT X (.Compare a [op] [b] pos) (Aw (FD r ta tb)):=by intro g s σ H Q I h;refine wpAny_isTrue_Compare1 (fE (ha g s σ H _ I h) λv E C=>?_) hm;obtain⟨x,H1,I1,L,Y⟩:=C;refine fE (hb g E σ H1 _ I1 Y) λu s2 o=>?_;obtain⟨y,H2,I2,J,U⟩:=o;refine fE (ho g s2 σ H2 x y v u _ I2 L J U) λc s3 l=>?_;obtain⟨z,H3,I3,G,k,e,O⟩:=l;subst e;cases G;exact dN ⟨H3,I3,O⟩
noncomputable def uC(r l:R2)(ta tb tc:TE):TE:=λσ H Q=>ta σ H λx v=>tb σ v λy u=>r x y u λz g=>∃k,z=.bl k /\
 (if k=true then tc σ g λh o=>l y h o Q else Q (.bl false) g)
theorem Qbq{op l:mZ}{r E:R2}(ho:OpR X (cz op) r)(o:OpR X (cz l) E)(ha:PE X a ta)(hb:PE X b tb)(hc:PE X c tc)
  (hm:v5 [op,l] [b,c]=false:=by with_unfolding_all rfl):PE X (.Compare a [op,l] [b,c] pos) (uC r E ta tb tc):=by
 intro g s σ H Q I h;refine Compare_chain (fE (ha g s σ H _ I h) λv s1 ⟨x,H1,I1,r1,q1⟩=>chain_link (fE (hb g s1 σ H1 _ I1 q1) λu s2 ⟨y,H2,I2,C,q2⟩=>
  fE (ho g s2 σ H2 x y v u _ I2 r1 C q2) λd s3 ⟨z,L,J,r3,k,e,G⟩=>?_)) hm
 subst e;cases r3;refine dN ?_;cases k with
 |false=>exact ite_ff ⟨.bl false,L,J,rfl,G⟩
 |true=>exact ite_tt (chain_last (fE (hc g s3 σ L _ J G) λU Y ⟨O,H4,I4,r4,q4⟩=>o g Y σ H4 y O u U Q I4 C r4 q4))
theorem Ur{op l:mZ}{r G:R2}(ho:OpR X (cz op) r)(o:OpR X (cz l) G)(ha:PE X a ta)(hb:PE X b tb)(hc:PE X c tc)
  (hm:v5 [op,l] [b,c]=false:=by with_unfolding_all rfl):PT X (.Compare a [op,l] [b,c] pos) (Aw (uC r G ta tb tc)):=by
 intro g s σ H Q I h;refine isTrue_chain (fE (ha g s σ H _ I h) λv s1 ⟨x,H1,I1,r1,q1⟩=>test_link (fE (hb g s1 σ H1 _ I1 q1) λu s2 ⟨y,H2,I2,E,q2⟩=>
  fE (ho g s2 σ H2 x y v u _ I2 r1 E q2) λd s3 ⟨z,O,L,r3,k,e,J⟩=>?_)) hm
 subst e;cases r3;refine dN ?_;cases k with
 |false=>
  obtain⟨k',e',q'⟩:=J;cases e';exact ite_ff ⟨O,L,q'⟩
 |true=>
  refine ite_tt (test_last (fE (hc g s3 σ O _ L J) λY s4 ⟨U,H4,I4,r4,q4⟩=>fE (o g s4 σ H4 y U u Y _ I4 E r4 q4) λd' s5 C=>?_));obtain ⟨z2,H5,I5,r5,k2,e2,q5⟩:=C;subst e2;cases r5;exact dN ⟨H5,I5,q5⟩
def Bn(K:aj)(x:V)(H:Hp)(k:Bool):Prop:=
 match x with
 | .non=>k=false
 | .bl b=>k=b
 | .int i=>k=(i != 0)
 | .str y=>y.length<=sizeLine/\k=((y.length:Int) != 0)
 | .byt y=>y.size<=sizeLine/\k=((y.size:Int) != 0)
 | .ref p=>(∃xs,iW K H p xs/\k = !xs.isEmpty)\/(∃xs,kz K H p xs/\k = !xs.isEmpty)\/∃g,H p=some (.dK g)/\k = !g.isEmpty
 |_=>False
theorem VP{κ:Type}{g:List (κ×V)}{h:List (κ×ac)}(r:KV g h):(!h.isEmpty) = !g.isEmpty:=by cases r<;>rfl
theorem Q8{xs:List V}{its:List ac}(r:cU xs its):(!its.toArray.isEmpty) = !xs.isEmpty:=by cases r<;>simp
theorem A3:(sizeLine:Nat) < 2^63:=by rw[sJ];decide
theorem Tu:Mt X (λx H Q=>∃k,Bn X.K x H k/\Q k H):=by
 intro J s σ H x v Q I u h;obtain⟨k,e,q⟩:=h;have U:=A3;have hs:sizeLine=16777216:=sJ;cases x with
 |non=>
  cases u;have g:k=false:=e;subst g;exact truthy_none ⟨H,I,q⟩
 |bl b=>
  cases u;have g:k=b:=e;subst g;exact dN ⟨H,I,q⟩
 |int i=>
  obtain⟨t,rfl⟩:=u;have g:k=(i != 0):=e;subst g;exact PySem.P.truthy_int ⟨H,I,q⟩
 |str y=>
  obtain⟨t,rfl⟩:=u;obtain⟨L,g⟩:y.length<=sizeLine/\k=((y.length:Int) != 0):=e;subst g;exact PySem.P.truthy_str (by ext) ⟨H,I.tok _,q⟩
 |byt y=>
  obtain⟨t,rfl⟩:=u;obtain⟨L,g⟩:y.size<=sizeLine/\k=((y.size:Int) != 0):=e;subst g;exact PySem.W.truthy_bytes (by ext) ⟨H,I.tok _,q⟩
 |ref p=>
  cases u;have g:(∃xs,iW X.K H p xs/\k = !xs.isEmpty)\/(∃xs,kz X.K H p xs/\k = !xs.isEmpty)\/∃l,H p=some (.dK l)/\k = !l.isEmpty:=e;rcases g with ⟨xs,C,g⟩|⟨xs,C,g⟩|⟨l,C,g⟩
  ·subst g;obtain⟨its,r,G,hz⟩:=I.list C;have o:=r.length;exact wpAny_truthy_list G.isList (by simp only[aM];ext) ⟨H,I.tok _,by rw[Q8 r];exact q⟩
  ·subst g;obtain⟨its,r,G,hz⟩:=I.tuple C;have o:=r.length;exact truthy_tuple G (by simp only[aM];ext) ⟨H,I.tok _,by rw[Q8 r];exact q⟩
  ·subst g;obtain⟨hz,O,E,r,m⟩:l.length<=sizeLine/\(p == fA)=false/\∃E,KV l E/\s.heap.DictOf (gy X.prog X.w) p E:=I.hok p _ C;have o:l.length=E.length:=fF r;exact wpAny_truthy_dict O m (by ext) ⟨H,I.tok _,by rw[VP r];exact q⟩
 |_=>exact (show False from e).elim
theorem TZ(J:PE X a ta)(G:∀whole,isTrue a X.env whole=(do let v <- whole; pp a.pos; nB [v] (truthy v))):
  PT X a (λσ H Q=>ta σ H λx o=>∃k,Bn X.K x o k/\Q k o):=by
 intro g s σ H Q I h;exact isTrue_plain (fE (J g s σ H _ I h) λv u l=>by obtain⟨x,O,L,C,E⟩:=l;exact Tu g u σ O x v Q L C E) (G _)
theorem Sj:OpR X (eN .Add) (λx y H Q=>∃i j,x=.str i/\y=.str j/\i.length+j.length<=sizeLine/\Q (.str (i++j)) H):=by intro g s σ H x y v u Q I o l h;obtain⟨i,j,rfl,rfl,hz,q⟩:=h;obtain⟨t,rfl⟩:=o;obtain⟨t',rfl⟩:=l;exact add_str (λt' C=>⟨.str (i++j),H,I.tok _,⟨_,rfl⟩,q⟩) hz
theorem vY{x:V}{g:List ac}(r:cU [x] g):∃u,g=[u]/\RelV x u:=by
 cases r with
 |cons r1 r2=>cases r2;exact⟨_,rfl,r1⟩
theorem Wl{x y:V}{h:List ac}(r:cU [x,y] h):∃u g,h=[u,g]/\RelV x u/\RelV y g:=by
 cases r with
 |cons r1 r2=>
  cases r2 with
  |cons r3 r4=>cases r4;exact⟨_,_,rfl,r1,r3⟩
theorem Ym:CallR X (.type "str") (λxs H Q=>∃i,xs=[.int i]/\i.natAbs.log2 < 1920/\Q (.str (toString i)) H):=by intro g s σ H xs l Q I r h;obtain⟨i,rfl,hz,q⟩:=h;obtain⟨u,rfl,t,rfl⟩:=vY r;exact PySem.P.str_of_int hz ⟨.str _,H,I.tok _,⟨_,rfl⟩,q⟩
end
structure A2(h:bu)(x dx C:af)(mA:Str->Option ac):Prop where
 obj:h.get? x=some (pS C dx)
 ns:h.Ns1 dx mA
 ne:dx≠x
theorem Vm{h:bu}{u:af}{g:Str->Option ac}(n:h.Ns1 u g):∃c,h.get? u=some c/\∀name,qF name c=some (g name):=by
 obtain⟨o,l,I,C,hd,G,_,E⟩:=n;refine⟨o,C,λname=>?_⟩;have e:=E name;unfold nsFind findBy at e;rw[<- vH]at e;unfold qF;rw[hd];dsimp only;split
 ·rename_i y q;rw[q]at e;exact bS some e
 ·rename_i q;rw[q]at e;have a:l.toList.any (·.refKey)=false:=by rw[List.any_eq_false];intro y v;obtain⟨z,t,b⟩:=G y (Array.mem_toList_iff.mp v);simp[pB.refKey,b]
  have H:¬ l.toList.any (·.refKey)=true:=by rw[a];exact bx
  rw[aA H];exact bS some e
theorem A2.look{h:bu}{x g C:af}{c:Str->Option ac}(I:A2 h x g C c):∃b,PySem.W.InstAt h x (pS C g) C (some b)/\∀name,qF name b=some (c name):=
 let ⟨b,ho,hl⟩:=Vm I.ns
 ⟨b,⟨I.obj,rfl,rfl,ho⟩,hl⟩
theorem nY.some_of{v:V}{o:Option ac}(r:nY (some v) o):∃u,o=some u/\RelV v u:=by
 cases o with
 |none=>exact (show False from r).elim
 |some u=>exact⟨u,rfl,r⟩
section
variable{P:Program}{w:bw}{H H':Hp}{h h':bu}{a C dx:af}{fs gg:List (Str×V)}
theorem RM(c:mD P w H h)(e:H a=some (.ins C dx fs)):∃b,A2 h a dx C b/\(∀f,nY (fs.lookup f) (b f))/\Cq b (fs.map (·.1))/\fs.length<=1000/\H dx=some (.own a):=by
 obtain⟨d,z,ne,ob,b,n,r,q⟩:=(show dz P w H h a (.ins C dx fs) from c a _ e)
 exact⟨b,⟨ob,n,ne⟩,r,q,z,d⟩
end
structure Ld(K:aj)(C:af):Prop where
 pg:vI K C tZ=true
 hd:PySem.W.hasDictIn K C=true
 po:PySem.W.plainOver K C=true
 sa:wX K (.ref C) "__setattr__"=some (some (.builtin "object.__setattr__"))
theorem Ld.get{K:aj}{C:af}(c:Ld K C)(f:Str):vI K C f=true:=c.pg
section
variable{X:Cx}{ao:List (af×Obj)}{σ:St}{H:Hp}{s:ae}{a C dx:af}{fs:List (Str×V)}{f:Str}{v:V}{A:br}{E:ac->ae->Prop}
theorem ZJ{prog:Program}{w:bw}{env:Env}{e:Expr}{f:Str}{pos:Pos}{s:ae}{Q:ac->ae->Prop}(b:cY e f env (eval e env)=eval e env)
  (h:aD (aK prog w) A (eval e env) (λo s₁=>aD (aK prog w) A (getAttr o f true) Q E s₁) E s):aD (aK prog w) A (eval (.Attribute e f pos) env) Q E s:=
 Attribute_any_ h (by rw[arm_eval_Attribute,b])
end
section
variable{X:Cx}{o e value:Expr}{f:Str}{pos d3 fi:Pos}{ta tv:TE}
noncomputable def D8:V->V->Hp->VK->Prop:=λx y H Q=>∃i j,x=.int i/\y=.int j/\Q (.int (i-j)) H
end
section
variable{X:Cx}{ao:List (af×Obj)}{σ:St}{H:Hp}{s:ae}{A:br}{E:ac->ae->Prop}{Q:ac->ae->Prop}{c:ac}{b:Bool}
inductive pQ(K:aj)(H:Hp):V->ac->Prop where
 |non:pQ K H .non (.type "NoneType")
 |bl (x:Bool):pQ K H (.bl x) (.type "bool")
 |int (i:Int):pQ K H (.int i) (.type "int")
 |str (x:Str):pQ K H (.str x) (.type "str")
 |flt (x:UInt64):pQ K H (.flt x) (.type "float")
 |lst {a:af}{xs:List V} (e:H a=some (.lst xs)):pQ K H (.ref a) (.type "list")
 |frz {a:af}{o:Obj}{xs:List V} (e:H a=some (.frz o (.lst xs))):pQ K H (.ref a) (.type "list")
 |tup {a:af}{xs:List V} (e:H a=some (.tup xs)):pQ K H (.ref a) (.type "tuple")
 |dK {a:af}{bA:List (Key×V)} (e:H a=some (.dK bA)):pQ K H (.ref a) (.type "dict")
 |dT {a:af}{bA:List (List Key×V)} (e:H a=some (.dT bA)):pQ K H (.ref a) (.type "dict")
 |ins {a C dx : af} {fs : List (Str×V)} (e : H a = some (.ins C dx fs)) (cl : Ld K C) (ha : wX K (.ref C) "__class__" = some (some (.builtin "object.__class__")))
   (hn:PySem.W.specialIn K (.builtin "object.__class__") "__get__"=some (some (.builtin "getset_descriptor.__get__"))) (htk:PySem.W.takesIn K (.builtin "object.__class__")=some true)
   (hm:PySem.W.mroIn K C (.type "object")=some true):pQ K H (.ref a) (.ref C)
theorem Hv{x:V}{u t:ac}(I:Inv X ao σ H s)(g:RelV x u)(ty:pQ X.K H x t)(e:fM X.K t c=some b)(h:∀G,Q (.bool b) { s with toks:=G }):
  aD (aK X.prog X.w) A (call (.builtin "isinstance") [u,c]) Q E s:=by
 cases ty with
 |non=>cases (show u=bF from g);exact da PySem.W.kitx_none I.kIn fj e (λz=>(by cases z)) h
 |bl y=>cases (show u=eG y from g);exact da PySem.W.kitx_bool I.kIn fj e (λz=>(by cases z)) h
 |int i=>obtain⟨t,q⟩:=(show ∃t,u=iE i t from g);cases q;exact da PySem.W.kitx_int I.kIn fj e (λz=>(by cases z)) h
 |str y=>obtain⟨t,q⟩:=(show ∃t,u=iF y t from g);cases q;exact da PySem.W.kitx_str I.kIn fj e (λz=>(by cases z)) h
 |flt y=>obtain⟨t,q⟩:=(show ∃t,u=Dm y t from g);cases q;exact da PySem.W.kitx_float I.kIn fj e (λz=>(by cases z)) h
 |@lst a xs ea=>
  cases (show u=ax a from g);obtain⟨_,_,n,_,l⟩:=(show dz X.prog X.w H s.heap a (.lst xs) from I.hok a _ ea)
  exact da ot I.kIn ⟨_,l,rfl⟩ e (λz=>(by cases z)) h
 |@frz a ob xs ea=>
  cases (show u=ax a from g);obtain⟨_,_,_,n,_,l⟩:=(show dz X.prog X.w H s.heap a (.frz ob (.lst xs)) from I.hok a _ ea)
  exact da ot I.kIn ⟨_,l,rfl⟩ e (λz=>(by cases z)) h
 |@tup a xs ea=>
  cases (show u=ax a from g);obtain⟨_,_,_,p⟩:=(show dz X.prog X.w H s.heap a (.tup xs) from I.hok a _ ea)
  obtain⟨o,l,v,_⟩:=p;exact da uJ I.kIn ⟨o,l,v⟩ e (λz=>(by cases z)) h
 |@dK a bA ea=>
  cases (show u=ax a from g);obtain⟨_,_,Y,_,p⟩:=(show dz X.prog X.w H s.heap a (.dK bA) from I.hok a _ ea)
  obtain⟨o,L,U,l,v,_⟩:=p;exact da u7 I.kIn ⟨o,l,v.1⟩ e (λz=>(by cases z)) h
 |@dT a bA ea=>
  cases (show u=ax a from g);obtain⟨_,_,xs,_,o,L,U,l,v,_⟩:=(show dz X.prog X.w H s.heap a (.dT bA) from I.hok a _ ea)
  exact da u7 I.kIn ⟨o,l,v.1⟩ e (λz=>(by cases z)) h
 |@ins a C dx fs ea cl ha hn htk hm=>
  cases (show u=ax a from g);obtain⟨mA,O,_⟩:=RM I.hok ea;obtain⟨od,J,_⟩:=O.look;exact da (PySem.W.kitx_own (cl.get _) cl.hd ha hn htk hm) I.kIn J e (λz=>(by cases z)) h
end
structure Room(k:Nat)(A:br):Prop where
 hd:A.handled=none
 dp:A.depth+3*k+5 < oV
 un:A.units+16*k+200 < dZ
theorem Room.mono{j k:Nat}{A:br}(r:Room k A)(h:j<=k):Room j A:=⟨r.hd,by have:=r.dp;ext,by have:=r.un;ext⟩
theorem Room.deeper{k:Nat}{A:br}(r:Room (k+1) A)(env:Env):Room k (A.deeper env):=
 ⟨r.hd,by have:=r.dp;show A.depth+1+3*k+5 < _;ext,by have:=r.un;show A.units+3+16*k+200 < _;ext⟩
theorem OA{A:br}{C:af}{b:List ac}{c:List (Str×ac)}:(A.under (.builtin "type.__call__" ⟨.ref C::b,c⟩)).depth=A.depth+1:=by first|rfl|simp[sK,Code.weight,Code.isCreation,Code.isGuard,Code.isCaller,Gr,t6,guardIds]
theorem QE{A:br}{C:af}{b:List ac}{c:List (Str×ac)}:(A.under (.builtin "type.__call__" ⟨.ref C::b,c⟩)).units=A.units+1:=by first|rfl|simp[sK,Code.cUnits,Gr,t6]
theorem Room.make{k:Nat}{A:br}(r:Room (k+1) A)(C:af)(b:List ac)(c:List (Str×ac)):Room k (A.under (.builtin "type.__call__" ⟨.ref C::b,c⟩)):=
 ⟨r.hd,by have:=r.dp;rw[OA];ext,by have:=r.un;rw[QE];ext⟩
theorem Room.depth{k:Nat}{A:br}(r:Room k A):A.depth < oV:=by have:=r.dp;ext
theorem Room.units{k:Nat}{A:br}(r:Room k A):A.units+64 < dZ:=by have:=r.un;ext
noncomputable def LC:TA:=λ_ H Q=>Q [] H
noncomputable def F_(c:TE)(b:TA):TA:=λσ H Q=>c σ H λx h=>b σ h λxs g=>Q (x::xs) g
section
variable{X:Cx}{e:Expr}{es:List Expr}{te:TE}{t:TA}{pos:Pos}
theorem qj:PA X [] LC:=λ_ _ _ _ H Q I h=>Calls.spliced_nil ⟨[],H,I,.nil,h⟩
theorem nJ(J:PE X e te)(G:PA X es t)(hs:av (e::es) X.env=(false,eval e X.env)::av es X.env:=by rfl):PA X (e::es) (F_ te t):=by
 intro pos b s σ H Q I h;rw[hs]
 show aD _ _ (spliced ((false,eval e X.env)::di pos (av es X.env))) _ _ s;refine Calls.spliced_cons (fE (J b s σ H _ I h) λu l g=>?_);obtain⟨x,Y,O,v,E⟩:=g;exact fE (G pos b l σ Y _ O E) λus s2 c=>by obtain⟨xs,U,L,o,C⟩:=c;exact⟨x::xs,U,L,.cons v o,C⟩
def Ih(t:TA):TE:=λσ H Q=>t σ H λxs b=>xs.length<=sizeLine/\∀p,b p=none->Q (.ref p) (eB b p (.tup xs))
def Kr(t:TA):TE:=λσ H Q=>t σ H λxs b=>xs.length<=sizeLine/\∀p,b p=none->Q (.ref p) (eB b p (.lst xs))
theorem L5{v}(h:PA X es t):PE X (.Tuple es v pos) (Ih t):=by intro c s σ H Q I E;refine wpAny_Tuple_spliced (fE (h pos c s σ H _ I E) λC g ⟨xs,o,l,r,z,q⟩=>⟨by rw[<- r.length];exact z,?_⟩);have G:o g.heap.objs.size=none:=l.hok.fresh (az _);refine⟨.ref g.heap.objs.size,eB o g.heap.objs.size (.tup xs),l.laid (t':=g.toks) (λb u e=>aw _ e) (az _) ?_,rfl,q _ G⟩;exact⟨z,C,r,⟨_,aR _ rfl,rfl,⟨_,rfl⟩,rfl⟩⟩
theorem Xd(h:PA X es t):PE X (.List es pos) (Kr t):=by intro c s σ H Q I C;refine wpAny_List_spliced (fE (h pos c s σ H _ I C) λv g ⟨xs,o,l,r,z,q⟩=>⟨by rw[<- r.length];exact z,?_⟩);have E:o g.heap.objs.size=none:=l.hok.fresh (az _);refine⟨.ref g.heap.objs.size,eB o g.heap.objs.size (.lst xs),l.laid (t':=g.toks) (λb u e=>aw _ e) (az _) ?_,rfl,q _ E⟩;exact⟨z,v,0,r,aR _ rfl⟩
end
abbrev Sp:=List V->Hp->VK->XK->Prop
abbrev uq:=List Env->Hp->ae->XK->ac->ae->Prop
structure qS(P:Program)(w:bw)(K:aj)(mg:Str->Option ac)(base:bu)(A:br)(outer:List Env)(s:ae)(H:Hp):Prop where
 frames:A.frames=some outer
 mod:Mod K mg base
 bs:∀b o,base.get? b=some o->s.heap.get? b=some o/\H b=none
 bsz:base.objs.size<=s.heap.objs.size
 funs:s.heap.FunFrames base outer
 frf:∀b∈sG outer,H b=none
 hok:mD P w H s.heap
 bare:kL s.gens
def CE(outer:List Env)(P:Program)(w:bw)(H:Hp)(s:ae)(Q:VK)(u:ac)(s':ae):Prop:=
 ∃v b,s'.os=s.os/\kL s'.gens/\Un (sG outer) [] H b s.heap s'.heap/\mD P w b s'.heap/\RelV v u/\Q v b
def CR(CX:uq)(outer:List Env)(P:Program)(w:bw)(H:Hp)(s:ae)(Q:VK)(E:XK)(r:Result)(s':ae):Prop:=
 match r with
 | .ok (.ret u)=>CE outer P w H s Q u s'
 | .ok _=>False
 | .error e=>CX outer H s E e s'
structure gO(P:Program)(w:bw)(K:aj)(mg:Str->Option ac)(base:bu)(CX:uq)(k:Nat)(f:af)(fd:bU)(ps:List Str)(sp:Sp):Prop where
 len:∀vs H Q E,sp vs H Q E->vs.length=ps.length
 run:∀(A:br)(outer:List Env)(s:ae)(H:Hp)(args:Args)(us:List ac)(vs:List V)(Q:VK)(E:XK),Room k A->qS P w K mg base A outer s H->pr s fd args (ps.zip us)->cU vs us->sp vs H Q E ->
  kc (aK P w) A (.call (.ref f) args) (CR CX outer P w H s Q E) s
theorem qS.make{P:Program}{w:bw}{K:aj}{mg:Str->Option ac}{base:bu}{A:br}{outer:List Env}{s:ae}{H:Hp}(e:qS P w K mg base A outer s H)(C:af)(b:List ac)(c:List (Str×ac)):
  qS P w K mg base (A.under (.builtin "type.__call__" ⟨.ref C::b,c⟩)) outer s H:=⟨by first|exact e.frames|(simpa [sK,Code.envs,t6,pushEnvs] using e.frames),e.mod,e.bs,e.bsz,e.funs,e.frf,e.hok,e.bare⟩
section
variable{X:Cx}{ao:List (af×Obj)}{σ:St}{H:Hp}{s s':ae}
theorem Inv.env0(I:Inv X ao σ H s):qS X.prog X.w X.K X.mg X.base X.A X.stack s H:=
 ⟨I.ok.frames,I.ok.mod,I.bs,bv I.ok.bsz I.sz,I.stack,I.stkFree,I.hok,I.bare⟩
theorem Inv.after{Q:VK}{u:ac}(I:Inv X ao σ H s)(h:CE X.stack X.prog X.w H s Q u s'):EP X ao σ Q u s':=by obtain⟨v,C,os,c,un,o,r,q⟩:=h;obtain⟨hh,g,d,t,l⟩:=s';obtain rfl:l=s.os:=os;exact⟨v,C,I.call (h':=hh) (g':=g) (d':=d) (t':=t) (ch:=[]) un o c (λb z=>bc z (by simp)),r,q⟩
end
noncomputable def Ge(sp:Sp)(b:List V)(E:XK)(t:TA):TE:=λσ H Q=>t σ H λc g=>sp (c++b) g Q E
noncomputable def Binds(K:aj)(c:bU)(ps:List Str)(ds:List ac):Prop:=
 ∀(s:ae)(b:List ac),K.In s.heap->(b++ds).length=ps.length->pr s c ⟨b,[]⟩ (ps.zip (b++ds))
theorem Binds.all{K:aj}{g:bU}{ps:List Str}(h:∀b:List ac,b.length=ps.length->lX g ⟨b,[]⟩=pure (ps.zip b)):Binds K g ps []:=λs b _ c=>by rw[bH]at c ⊢;exact .of_eq (h b c)
def oM(CX:uq)(X:Cx)(E:XK):Prop:=∀(ao:List (af×Obj))(σ:St)(H:Hp)(s:ae)(e:ac)(s':ae),Inv X ao σ H s->CX X.stack H s E e s'->X.xe e s'
section
variable{X:Cx}{CX:uq}{k:Nat}{f C:af}{fd:bU}{ps:List Str}{sp:Sp}{ee:List V}{ds:List ac}{E:XK}{x m:Str}{p pos bd:Pos}{e o:Expr}{es:List Expr}{ta:TE}{t:TA}
theorem WM{b:List (af×Obj)}{σ:St}{H:Hp}{s:ae}{Q:VK}{c:List ac}{l:List V}(F:gO X.prog X.w X.K X.mg X.base CX k f fd ps sp)(J:Room k X.A)(O:Binds X.K fd ps ds)(hd:cU ee ds)(G:oM CX X E)
  (I:Inv X b σ H s) (r:cU l c) (h:sp (l++ee) H Q E):aD (aK X.prog X.w) X.A (call (.ref f) c) (EP X b σ Q) X.xe s:=by
 have v:cU (l++ee) (c++ds):=r.append hd;have L:(c++ds).length=ps.length:=by rw[<- v.length];exact F.len _ _ _ _ h
 refine io (iB (F.run X.A X.stack s H ⟨c,[]⟩ (c++ds) (l++ee) Q E J I.env0 (O s c I.kIn L) v h) λr s' g=>?_);cases r with
 |error e=>exact G b σ H s e s' I g
 |ok fl=>
  cases fl with
  |ret u=>exact I.after g
  |next=>exact bV g
  |brk=>exact bV g
  |cont=>exact bV g
theorem G7(F:gO X.prog X.w X.K X.mg X.base CX k f fd ps sp)(v:Room k X.A)(L:Gl X x)(G:X.mg x=some (.ref f))(J:fN X.K (.ref f)=true)(U:Binds X.K fd ps ds)(hd:cU ee ds)(u:oM CX X E)
  (Y:PA X (e::es) t) (g:(x == ("__debug__":Str))=false:=by decide) (O:av (e::es) X.env=(false,eval e X.env)::av es X.env:=by rfl) (c:(di pos (av es X.env)).any (·.1)=false:=by rfl):
  PE X (.Call (.Name x p) (e::es) [] pos) (Ge sp ee E t):=by
 intro b s σ H Q I h;refine fB (AI I L G ?_ g);refine ip (h₀:=X.base) I.ok.mod.kin J (fE (Y pos b s σ H _ I h) λC s1 ⟨o,H1,l,r,q⟩=>⟨l.kIn,?_⟩) O c;exact WM F v U hd u l r q
end
def PK(X:Cx)(b:List eR)(t:TA):Prop:=
 ∀(pos:Pos)(ao:List (af×Obj))(s:ae)(σ:St)(H:Hp)(Q:List V->Hp->Prop),Inv X ao σ H s->t σ H Q->aD (aK X.prog X.w) X.A (evalAll ((ke pos (fP b X.env)).map (·.2))) (AP X ao σ Q) X.xe s
section
variable{X:Cx}{CX:uq}{k:Nat}{f C:af}{fd:bU}{ps ks:List Str}{sp:Sp}{E:XK}{x m:Str}{p pos bd fy:Pos}{e o:Expr}{es:List Expr}{fx:List eR}{te ta:TE}{t tk:TA}{nm:Option Str}
variable{g:List ac->List ac->List ac}{gV:List V->List V->List V}
end
structure iG(N P:List Str)(sc:dw):Prop where
 kind:sc.kind=.function
 co:sc.isCoroutine=false
 gen:sc.isGenerator=false
 nd:N.Nodup
 pre:N.take P.length=P
 par:∀x∈P,sc.names.lookup x=some .local\/sc.names.lookup x=some .cell
 nofree:∀y∈sc.names,y.2≠.free
theorem OR{kindOf:Str->Option ff}{x:Str}:∀{binds:List (Str×ac)}{m:Str->Option ac},(∀v,(x,v)∉binds)->v6 kindOf binds m x=m x
 |[],_,_=>rfl
 | (n,v)::r,m,h=>by
  unfold v6;rw[OR λw b=>h w (bb _ b)];split
  ·have:x≠n:=by rintro rfl;exact h v bO
   simp[this]
  ·rfl
theorem Qw{kindOf:Str->Option ff}{x:Str}:∀{binds:List (Str×ac)}{m:Str->Option ac},(∀v,(x,v)∉binds)->v7 kindOf binds m x=m x
 |[],_,_=>rfl
 | (n,v)::r,m,h=>by
  unfold v7;rw[Qw λw b=>h w (bb _ b)];split
  ·rfl
  ·have:x≠n:=by rintro rfl;exact h v bO
   simp[this]
theorem QL{kindOf:Str->Option ff}{x:Str}{v:ac}: ∀{P:List Str}{b:List ac}{i:Nat}{m:Str->Option ac},P.Nodup->P[i]?=some x->b[i]?=some v->kindOf x=some .local ->
  v6 kindOf (P.zip b) m x=some v
 |[],_,_,_,_,h,_,_=>by simp at h
 |_::_,[],_,_,_,_,h,_=>by simp at h
 |p::P,w::b,0,m,nd,h1,h2,hk=>by
  simp at h1 h2;subst h1;subst h2
  show v6 kindOf ((p,w)::P.zip b) m p=_;unfold v6;rw[OR λv c=>(mH.mp nd).1 (mI c).1,aE hk];simp
 |p::P,w::b,i+1,m,nd,h1,h2,hk=>by show v6 kindOf ((p,w)::P.zip b) m x=_;unfold v6;exact QL (i:=i) (mH.mp nd).2 (by simpa using h1) (by simpa using h2) hk
theorem Pg{kindOf:Str->Option ff}{x:Str}{v:ac}: ∀{P:List Str}{b:List ac}{i:Nat}{m:Str->Option ac},P.Nodup->P[i]?=some x->b[i]?=some v->kindOf x≠some .local ->
  v7 kindOf (P.zip b) m x=some v
 |[],_,_,_,_,h,_,_=>by simp at h
 |_::_,[],_,_,_,_,h,_=>by simp at h
 |p::P,w::b,0,m,nd,h1,h2,hk=>by
  simp at h1 h2;subst h1;subst h2
  show v7 kindOf ((p,w)::P.zip b) m p=_;unfold v7;rw[Qw λv c=>(mH.mp nd).1 (mI c).1,aA hk];simp
 |p::P,w::b,i+1,m,nd,h1,h2,hk=>by show v7 kindOf ((p,w)::P.zip b) m x=_;unfold v7;exact Pg (i:=i) (mH.mp nd).2 (by simpa using h1) (by simpa using h2) hk
noncomputable def start(N:List Str)(b:List V):St:=b.map some++db (N.length-b.length) none
noncomputable def ko(CX:uq)(P:Program)(w:bw)(K:aj)(mg:Str->Option ac)(base:bu)(N:List Str)(qual:Str)(scope:dw)(f:af)(c:ac)(A:br)(outer:List Env)(s:ae)(H:Hp)(E:XK):Cx where
 prog:=P
 w:=w
 K:=K
 mg:=mg
 base:=base
 A:=A.deeper (eU qual scope s.heap.objs.size f c)
 N:=N
 s₀:=s
 H₀:=H
 env:=eU qual scope s.heap.objs.size f c
 outer:=outer
 stack:=eU qual scope s.heap.objs.size f c::outer
 ex:=[]
 calm:=true
 fn:=λ_=>true
 pn:=[]
 xe:=λe s'=>aD (aK P w) (A.deeper (eU qual scope s.heap.objs.size f c)) (leaving (eU qual scope s.heap.objs.size f c) e) (λ_ b=>CX outer H s E e b) (λg b=>CX outer H s E g b) s'
theorem Q2{sc:dw}{n:Nat}{x:Str}(h:sc.names.lookup x=some .cell):∃c,(dD n sc.names []).lookup x=some c:=by have q:=iJ sc.names n [] (.inl h);exact rN.mp q
theorem Qq{CX:uq}{P:Program}{w:bw}{K:aj}{mg:Str->Option ac}{base:bu}{N ps:List Str}{qual:Str}{scope:dw}{f:af}{O:ac}{A:br}{outer:List Env}{s U:ae}{H:Hp}{E:XK}{Q:List ac}{o:List V}
  (S:iG N ps scope) (hd:A.handled=none) (l:qS P w K mg base A outer s H) (hl:o.length=ps.length) (r:cU o Q)
  (x:InCallC s s.heap.objs.size (v6 (eU qual scope s.heap.objs.size f O).kindOf (ps.zip Q) λ_=>none) (dD (s.heap.objs.size+1) scope.names []) (v7 (eU qual scope s.heap.objs.size f O).kindOf (ps.zip Q) λ_=>none) U):
  Inv (ko CX P w K mg base N qual scope f O A outer s H E) [] (start N o) H U:=by
 have hpl:ps.length<=N.length:=by have:=bS cw S.pre;rw[bj]at this;ext
 obtain⟨L,tk,rfl,Y⟩:=x.done;have kj:∀b:af,b∉(ko CX P w K mg base N qual scope f O A outer s H E).ex:=λb z=>bc (show b∈([]:List af) from z) (by simp);refine⟨⟨l.mod,S.kind,rfl,rfl,az _,λy z c L g=>?_,λy C=>?_,λy c _ h=>?_,λ_=>hd,br.frames_deeper l.frames,.inr ⟨rfl,rfl⟩,λb z=>bc z (kj b),l.bs,l.bsz,λb _ _=>kj b,λb z=>bc z (kj b),l.funs,l.frf⟩,
  rfl,l.bare,Un.kept Y,⟨_,x.toInCall.ns,λi y v L g h3=>?_⟩,λy c h=>⟨_,x.cell y c h⟩,l.hok.fresh (az _),λy c h=>?_,λp I=>bc (show p∈([]:List (af×Obj)) from I) (by simp),l.hok.kept Y,?_⟩
 ·exact name_of_addr x.apart (d7 L) (d7 g)
 ·have C:scope.names.lookup y=some .cell\/scope.names.lookup y=some .free:=C;rcases C with C|C
  ·exact Q2 C
  ·exact bc rfl (S.nofree _ (d7 C))
 ·exact uG (x.above y c (d7 h))
 ·have J : i < o.length := by
    unfold start at g;by_cases J:i < o.length
    ·exact J
    ·rw[bo (by simpa using J)]at g;rw[iK]at g;split at g<;>cases g
  have h:o[i]?=some v:=by
   unfold start at g;rw[aJ (by simpa using J),aG]at g;cases e:o[i]? with
   |none=>rw[e]at g;cases g
   |some a=>rw[e]at g;cases g;rfl
  obtain⟨u,hu,b⟩:=r.get h;have I:ps[i]?=some y:=by rw[<- S.pre,eM (by ext)];exact L
  have G:ps.Nodup:=by rw[<- S.pre];exact S.nd.sublist (List.take_sublist _ _)
  refine⟨u,b,?_⟩;rcases S.par y (aX I) with k|k
  ·exact .inl ⟨k,QL G I hu k⟩
  ·obtain⟨c,e⟩:=Q2 (n:=s.heap.objs.size+1) k;refine .inr ⟨.inl k,c,e,?_⟩;have q:=x.cell y c e;rw[Pg G I hu (by show scope.names.lookup y≠_;rw[k];decide)]at q;exact q
 ·exact l.hok.fresh (uG (x.above y c (d7 h)))
 ·unfold start
  show _=N.length;rw[aS,ai,gH];ext
theorem IY{CX:uq}{P:Program}{w:bw}{K:aj}{mg:Str->Option ac}{base:bu}{k:Nat}{f:af}{name qual:Str}{g:v8}{h:List Stmt}{scope:dw}{dV kV doc pm c ct oc:ac}{an od:Option af}
  {osl:Array (Option ac)}{N ps:List Str}{sp:Sp} (lk:K.lookup f=some ⟨oc,od,.func (dX name qual g h scope dV kV doc pm an c ct),osl⟩) (hcd:kG K c qual=true) (S:iG N ps scope)
  (len:∀l H Q E,sp l H Q E->l.length=ps.length)
  (L:∀(A:br)(outer:List Env)(s:ae)(H:Hp)(l:List V)(Q:VK)(E:XK),Room k (A.deeper (eU qual scope s.heap.objs.size f c))->sp l H Q E ->
   ∃t,PSs (ko CX P w K mg base N qual scope f c A outer s H E) h t/\t { nx:=λ_ C=>Q .non C,rt:=Q } (start N l) H):
  gO P w K mg base CX (k+1) f (dX name qual g h scope dV kV doc pm an c ct) ps sp:=by
 refine⟨len,λA outer s H args us l Q E hr e0 hb r U=>?_⟩;have hl:=len _ _ _ _ U;have KX:K.In s.heap:=e0.mod.kin.keeps λb o e=>(e0.bs b o e).1;have eK:s.heap.NoLimit:=e0.mod.nolimit.keeps λb o e=>(e0.bs b o e).1;have G:∀y∈ps.zip us,scope.names.lookup y.1=some .local\/(scope.names.lookup y.1=some .cell/\((dD (s.heap.objs.size+1) scope.names []).lookup y.1).isSome=true):=λO hy=>by
  obtain⟨n,v⟩:=O;rcases S.par n (mI hy).1 with q|q
  ·exact .inl q
  ·exact .inr ⟨q,iJ _ _ _ (.inl q)⟩
 refine xW hr.depth (KX _ _ lk) rfl S.co S.gen rfl (uK KX hcd) (hb _ _ _ _ ?_);refine uL S.kind G λenv he s1 x=>?_;subst he;refine⟨eK.keeps x.toInCall.keep,codeAny_func ?_⟩;obtain⟨t,ht,hq⟩:=L A outer s H l Q E (hr.deeper _) U;have I:Inv (ko CX P w K mg base N qual scope f c A outer s H E) [] (start N l) H s1:=Qq S hr.hd e0 hl r x;refine cc (ht [] s1 (start N l) H _ I hq) (λfl s' hs=>?_) λe s' hs=>hs;have Y:∀{σ':St}{C:Hp}{v:V}{u:ac},Inv (ko CX P w K mg base N qual scope f c A outer s H E) [] σ' C s'->RelV v u->Q v C->CE outer P w H s Q u s':=
  λ{σ' C v u}J rv q=>⟨v,C,J.os,J.bare,J.base,J.hok,rv,q⟩
 cases fl with
 |ret u=>
  obtain⟨v,σ',C,J,rv,q⟩:=hs;exact Y J rv q
 |next=>
  obtain⟨σ',C,J,q⟩:=hs;exact Y (v:=V.non) (u:=bF) J rfl q
 |brk=>
  obtain⟨_,_,_,q⟩:=hs;exact bV q
 |cont=>
  obtain⟨_,_,_,q⟩:=hs;exact bV q
section
variable{X:Cx}{x:Str}{p pos:Pos}{e:Expr}{es:List Expr}{t:TA}{id T:String}{r:List V->Hp->VK->Prop}
noncomputable def Px(r:List V->Hp->VK->Prop)(t:TA):TE:=λσ H Q=>t σ H λb c=>r b c Q
theorem CP(Y : CallR X (.builtin id) r)(O : Gl X x)(L : X.mg x = none)(G : cS x = some (.builtin id))(ha : PA X (e :: es) t)(J : x ≠ "__name__" := by decide)(l : (x == ("__debug__" : Str)) = false := by decide)
  (U:av (e::es) X.env=(false,eval e X.env)::av es X.env:=by rfl) (g:(di pos (av es X.env)).any (·.1)=false:=by rfl):PE X (.Call (.Name x p) (e::es) [] pos) (Px r t):=by
 intro b s σ H Q I h;refine fB (A4 I O L G ?_ J l);exact PyProof.Rows.callWith_builtin1 (fE (ha pos b s σ H _ I h) λu v c=>by obtain⟨o,H1,I1,C,E⟩:=c;exact Y b v σ H1 o u Q I1 C E) U g
theorem L7(Y : CallR X (.type T) r)(O : Gl X x)(L : X.mg x = none)(G : cS x = some (.type T))(ha : PA X (e :: es) t)(J : x ≠ "__name__" := by decide)(l : (x == ("__debug__" : Str)) = false := by decide)
  (U:av (e::es) X.env=(false,eval e X.env)::av es X.env:=by rfl) (g:(di pos (av es X.env)).any (·.1)=false:=by rfl):PE X (.Call (.Name x p) (e::es) [] pos) (Px r t):=by
 intro b s σ H Q I h;refine fB (A4 I O L G ?_ J l);exact eP (fE (ha pos b s σ H _ I h) λu v c=>by obtain⟨o,H1,I1,C,E⟩:=c;exact Y b v σ H1 o u Q I1 C E) U g
end
end L2
namespace HT
open PySem PyProof.Rows
section
open PySem.SeqAt
open PySem.AutoSeq1 (wpAny_loadPart')
open PySem.MeetsSeq PySem.MeetsSeq2 PySem.MeetsSeq3
end
section
variable{prog:Program}{w:bw}{A:br}{E:ac->ae->Prop}{s:ae}
theorem yP{t b:af}{h c:List ac}{Q:ac->ae->Prop}(U:Dn s.heap t h.toArray)(Y:Dn s.heap b c.toArray)(I:h≠[])
  (h1:c=[]->Q (.ref t) s) (h2:c≠[]->Q (.ref s.heap.objs.size) { s with heap:=s.heap.push { cls:=.type "tuple",data:=.seq (h++c).toArray } })
  (hsz:h.length+c.length<=sizeLine):aD (aK prog w) A (eN .Add (.ref t) (.ref b)) Q E s:=by
 obtain⟨⟨cls,L,data,H⟩,G,J,n,hd⟩:=id U;obtain⟨⟨O,v,data2,l⟩,g,u,n2,o⟩:=id Y;simp only at J hd u o;subst J hd u o;have e:h.toArray++c.toArray=(h++c).toArray:=by simp
 by_cases C:c=[]
 ·exact wY ⟨_, G, rfl⟩ ⟨_, g, rfl⟩ sj vJ lY lO (lA _ _)
    (tuple_addW1 t b h.toArray c.toArray n n2 L v H l (by simpa using I) (by simp[C])) ⟨G,g,h1 C⟩
 ·refine wY ⟨_, G, rfl⟩ ⟨_, g, rfl⟩ sj vJ lY lO (lA _ _)
    (tuple_addW2 t b h.toArray c.toArray n n2 L v H l (by simpa using I) (by simpa using C) (by rw[aM,aM];exact hsz)) ⟨G,g,?_⟩
  rw[e];exact h2 C
noncomputable def gp(n d:Nat):Option Int->Nat
 |none=>d
 |some v=>if v < 0 then (v+(n:Int)).toNat else min v.toNat n
theorem VA(n d:Nat)(hd:d<=n)(o:Option Int):gp n d o<=n:=by
 cases o with
 |none=>exact hd
 |some v=>
  refine (?_:(if v < 0 then _ else _)<=n);by_cases b:v < 0
  ·rw[aE b];exact Int.toNat_le.mpr (by have:=vK (Gs b) (n:Int);rwa [Gu]at this)
  ·rw[aA b];exact qG _ _
theorem Mk(v:Int)(n d:Nat):(if v < 0 then max (v+(n:Int)) 0 else min v (n:Int))=((gp n d (some v):Nat):Int):=by
 refine (?_:_=(((if v < 0 then _ else _):Nat):Int));by_cases b:v < 0
 ·rw[aE b,aE b,Int.ofNat_toNat]
 ·obtain⟨k,rfl⟩:=Int.eq_ofNat_of_zero_le (wZ.mp b);rw[aA b,aA b,bI];rcases Nat.le_total k n with h|h
  ·rw[qZ h];exact AQ (Gv.mpr h)
  ·rw[zX h];exact Int.min_eq_right (Gv.mpr h)
theorem wg(v:Int)(n d:Nat):max 0 (min (if v < 0 then v+(n:Int) else v) (n:Int))=((gp n d (some v):Nat):Int):=by
 rw[<- Mk];by_cases b:v < 0
 ·rw[aE b,aE b,AQ (by have:=vK (Gs b) (n:Int);rwa [Gu]at this),Int.max_comm]
 ·rw[aA b,aA b];exact zY (Int.le_min.mpr ⟨wZ.mp b,Int.natCast_nonneg _⟩)
theorem WL(lo b:Option Int)(n:Nat):kf lo b 1 (n:Int)=(((gp n 0 lo:Nat):Int),((gp n n b:Nat):Int)):=by
 have c:¬ ((1:Int) < 0):=by ext
 unfold kf;simp only[c,if_false];refine Prod.ext ?_ ?_
 ·cases lo with
  |none=>rfl
  |some v=>exact Mk v n 0
 ·cases b with
  |none=>rfl
  |some v=>exact Mk v n n
theorem Zd(i j:Nat):gE (i:Int) (j:Int) 1=j-i:=by
 unfold gE;have b:(1:Int) > 0:=by decide
 simp only[b,if_true,Int.ediv_one,Int.sub_add_cancel];by_cases h:(i:Int) < j
 ·rw[aE h];exact Int.toNat_sub j i
 ·rw[aA h];exact (Nat.sub_eq_zero_of_le (Gv.mp (wZ.mp h))).symm
theorem NM{v:ac}{o:Option Int}{Q:Option Int->ae->Prop}(p:oW v o)(h:Q o s):aD (aK prog w) A (Builtin.Slice.slicePartIndex v) Q E s:=by
 cases p with
 |none=>exact slicePart_none h
 |int i t=>exact slicePart_int h
theorem MV{u:af}{o l:ac}{lo c:Option Int}{n:Nat}{Q:Int×Int×Nat->ae->Prop}(hs:s.heap.IsSliceOf u o l .none)(C:oW o lo)(v:oW l c)
  (h:Q (((gp n 0 lo:Nat):Int),1,gp n n c-gp n 0 lo) s):aD (aK prog w) A (ou (.ref u) (pure (n:Int))) Q E s:=by
 obtain⟨os,b,G,g⟩:=id hs;unfold ou Builtin.Slice.sliceFields;refine aa (aa (b9 b g (x:=o) rfl (aa (b9 b g (x:=l) rfl (aa (b9 b g (x:=.none) rfl (ah ?_)))))));refine aa (slicePart_none ?_)
 show aD _ _ (if ((1:Int) == 0)=true then _ else _) _ _ s;rw[aA (by decide)];refine aa (NM C (aa (NM v (aa (ah ?_)))))
 show aD _ _ (match kf lo c 1 (n:Int) with|(lo,c)=>pure (lo,(1:Int),gE lo c 1)) _ _ s;rw[WL lo c n]
 show aD _ _ (pure (((gp n 0 lo:Nat):Int),(1:Int),gE ((gp n 0 lo:Nat):Int) ((gp n n c:Nat):Int) 1)) _ _ s;rw[Zd];exact ah h
theorem Y5(xs:Array ac)(i k:Nat):((dI k).filterMap λ(m:Nat)=>xs[((i:Int)+(m:Int)*1).toNat]?).toArray=((xs.toList.drop i).take k).toArray:=by
 have e:(λ(m:Nat)=>xs[((i:Int)+(m:Int)*1).toNat]?)=λm=>xs[i+m]?:=by funext m;rw[HX];rfl
 rw[e];have:=pick_run xs i k;rw[List.filterMap_map]at this;exact bS _ this
theorem oi{t o:af}{b:Array ac}{I H:ac}{lo g:Option Int}{Q:ac->ae->Prop}(l:Dn s.heap t b)(hs:s.heap.IsSliceOf o I H .none)(U:oW I lo)(O:oW H g)
  (Y:¬ (gp b.size 0 lo=0/\gp b.size b.size g=b.size))
  (h:Q (.ref s.heap.objs.size) { s with heap:=s.heap.push { cls:=.type "tuple",data:=.seq ((b.toList.drop (gp b.size 0 lo)).take (gp b.size b.size g-gp b.size 0 lo)).toArray } })
  (hsz:b.size<=sizeLine):aD (aK prog w) A (nC (.ref t) (.ref o)) Q E s:=by
 have c:sizeOk (.seq ((b.toList.drop (gp b.size 0 lo)).take (gp b.size b.size g-gp b.size 0 lo)).toArray):=by show ((b.toList.drop (gp b.size 0 lo)).take (gp b.size b.size g-gp b.size 0 lo)).toArray.size<=sizeLine;rw[aM,bj,bE,nA];exact bv (qG _ _) (bv (Nat.sub_le _ _) hsz)
 have hj:gp b.size b.size g<=b.size:=VA _ _ (az _) g;obtain⟨os,u,C,hds⟩:=id hs;have G:s.TypeIs (.ref o) "slice":=⟨os,u,C⟩
 unfold nC
 try with_reducible refine cB ?_
 first|refine aa (ah ?_)|skip
 refine aa (q_ l.typeIs (by decide) ?_);refine aa (cV (name:=ag "__getitem__") l.typeIs dm
  (d6 dm l.typeIs AR ?_ (Ct _ _)))
 show aD _ _ (i8 (.ref t) >>= _) _ _ s;refine aa (tupleItemsOf_ l ?_);refine aa (w_ G ?_);rw[aE (by decide)];refine aa (MV hs U O ?_);have v:¬ ((((gp b.size 0 lo:Nat):Int) == 0&&(1:Int) == 1&&(gp b.size b.size g-gp b.size 0 lo) == b.size)=true):=by intro q;rw[aO,aO]at q;have J:=Int.ofNat.inj (eq_of_beq q.1.1);have L:=eq_of_beq q.2;exact Y ⟨J,by rwa [J]at L⟩
 show aD _ _ (if (((gp b.size 0 lo:Nat):Int) == 0&&(1:Int) == 1&&(gp b.size b.size g-gp b.size 0 lo) == b.size)=true then _ else _) _ _ s;rw[aA v,Y5]
 first
  |exact aa (m:=gM _) (eD (ah ⟨_,rfl,ah h⟩) c)
  |exact aa (m:=gM _) (eD (aa (ah (ah ⟨_,rfl,ah h⟩))) c)
  |exact aa (aa (m:=gM _) (eD (ah (ah ⟨_,rfl,ah h⟩)) c))
  |exact aa (aa (m:=gM _) (eD (ah ⟨_,rfl,ah h⟩) c))
end
end HT
namespace L2
open PySem PySem.Spec PyProof.Rows
abbrev TO:=St->Hp->(Option Int->Hp->Prop)->Prop
def PO(X:Cx)(e:Option Expr)(t:TO):Prop:=
 ∀(ao:List (af×Obj))(s:ae)(σ:St)(H:Hp)(Q:Option Int->Hp->Prop),Inv X ao σ H s->t σ H Q ->
  aD (aK X.prog X.w) X.A (evalPart e X.env) (λu s'=>∃o b,Inv X ao σ b s'/\oW u o/\Q o b) X.xe s
noncomputable def zp:TO:=λ_ H Q=>Q none H
noncomputable def Fe(t:TE):TO:=λσ H Q=>t σ H λx b=>∃i,x=.int i/\Q (some i) b
theorem W8{ns:List Int}:∀{b:List ac},cU (ns.map V.int) b->py b ns:=by
 induction ns with
 |nil=>intro b r;rw[pz]at r;cases r;exact .nil
 |cons n ns ih=>
  intro b r;rw[aN]at r;cases r with
  |cons r1 r2=>
   obtain⟨t,e⟩:=r1;subst e;exact .cons n t (ih r2)
section
variable{X:Cx}{e:Expr}{te:TE}{lo hi:Option Expr}{tl th:TO}{pos p2:Pos}
theorem UX:PO X none zp:=by intro b s σ H Q I h;rw[evalPart_none];exact ah ⟨none,H,I,.none,h⟩
theorem UD(h:PE X e te):PO X (some e) (Fe te):=by intro c s σ H Q I o;rw[evalPart_some];refine fE (h c s σ H _ I o) λu E b=>?_;obtain⟨x,C,v,g,l⟩:=b;obtain⟨i,rfl,q⟩:=l;obtain⟨t,rfl⟩:=g;exact⟨some i,C,v,.int i t,q⟩
def GJ(X:Cx)(r:V->Option Int->Option Int->Hp->VK->Prop):Prop:=
 ∀(ao:List (af×Obj))(s:ae)(σ:St)(H:Hp)(x:V)(v vl vu:ac)(lo hi:Option Int)(sl:af)(Q:VK),Inv X ao σ H s->RelV x v->s.heap.IsSliceOf sl vl vu .none->oW vl lo->oW vu hi->r x lo hi H Q ->
  ∃T id,cW (.type T) "__getitem__"=pure (some (.builtin id))/\s.TypeIs v T/\aD (aK X.prog X.w) X.A (nC v (.ref sl)) (EP X ao σ Q) X.xe s
noncomputable def SW(r:V->Option Int->Option Int->Hp->VK->Prop)(te:TE)(tl th:TO):TE:=λσ H Q=>te σ H λx g=>tl σ g λl c=>th σ c λu b=>r x l u b Q
theorem NO{r:V->Option Int->Option Int->Hp->VK->Prop}(hr:GJ X r)(he:PE X e te)(hl:PO X lo tl)(hu:PO X hi th):PE X (.Subscript e (.Slice lo hi none p2) pos) (SW r te tl th):=by
 intro c s σ H Q I h;refine Subscript_ (fE (he c s σ H _ I h) λv L C=>?_);obtain⟨x,H1,I1,O,q1⟩:=C;refine wpAny_Slice (fE (hl c L σ H1 _ I1 q1) λG s2 ⟨l,H2,I2,pl,Y⟩=>fE (hu c s2 σ H2 _ I2 Y) λE g o=>?_);obtain⟨u,J,I3,pu,U⟩:=o;rw[evalPart_none];refine ah ?_;have I4:Inv X c σ J { g with heap:=g.heap.push { cls:=.type "slice",data:=.fields #[G,E,.none] } }:=I3.kept (t':=g.toks) λb ob q=>aw _ q;obtain⟨T,id,hT,ht,hg⟩:=hr c { g with heap:=g.heap.push { cls:=.type "slice",data:=.fields #[G,E,.none] } } σ J x v G E l u g.heap.objs.size Q I4 O (bu.IsSliceOf.new ..) pl pu U
 show aD (aK X.prog X.w) X.A (subscriptTail e (.Slice lo hi none p2) v (.ref g.heap.objs.size)) (EP X c σ Q) X.xe { g with heap:=g.heap.push { cls:=.type "slice",data:=.fields #[G,E,.none] } };exact tail_any (ops:=[.ref g.heap.objs.size,v]) ht hT hg (by with_unfolding_all rfl)
def rZ(xs:List V)(lo hi:Option Int):List V:=(xs.drop (HT.gp xs.length 0 lo)).take (HT.gp xs.length xs.length hi-HT.gp xs.length 0 lo)
theorem Na(xs:List V)(lo hi:Option Int):(rZ xs lo hi).length<=xs.length:=by unfold rZ;rw[bj,bE];ext
def L3(K:aj):V->Option Int->Option Int->Hp->VK->Prop:=λx lo hi H Q=>∃a xs,x=.ref a/\kz K H a xs /\
 ¬ (HT.gp xs.length 0 lo=0/\HT.gp xs.length xs.length hi=xs.length)/\∀p,H p=none->Q (.ref p) (eB H p (.tup (rZ xs lo hi)))
theorem Qb8:GJ X (L3 X.K):=by
 intro g s σ H x v O L lo hi U Q I u hs E C h;obtain⟨a,xs,rfl,G,J,q⟩:=h;cases u;obtain⟨its,r,l,hz⟩:=I.tuple G;have c:its.toArray.size=xs.length:=by rw[aM];exact r.length.symm
 refine⟨"tuple",_,dm.lookup,l.typeIs,?_⟩;refine HT.oi l hs E C (by rw[c];exact J) ?_ (by rw[c];exact hz);rw[c];refine⟨.ref s.heap.objs.size,_,I.laid (t':=s.toks) (o:=.tup (rZ xs lo hi)) (λb ob q=>aw _ q) (az _) ?_,rfl,q _ (I.hok.fresh (az _))⟩;exact⟨bv (Na xs lo hi) hz,_,(r.drop (HT.gp xs.length 0 lo)).take (HT.gp xs.length xs.length hi-HT.gp xs.length 0 lo),gY.new _ _⟩
def EZ(K:aj):R2:=λx y H Q=>∃a b xs ys,x=.ref a/\y=.ref b/\kz K H a xs/\kz K H b ys/\xs≠[]/\xs.length+ys.length<=sizeLine /\
 (ys=[]->Q (.ref a) H)/\(ys≠[]->∀p,H p=none->Q (.ref p) (eB H p (.tup (xs++ys))))
theorem cU.nil_iff{xs:List V}{b:List ac}(r:cU xs b):b=[]↔xs=[]:=by
 cases r with
 |nil=>simp
 |cons _ _=>simp
theorem Tn:OpR X (eN .Add) (EZ X.K):=by intro l s σ H x y v u Q I G E h;obtain⟨a,b,xs,ys,rfl,rfl,ha,Y,U,hz,L,J⟩:=h;cases G;cases E;obtain⟨its,g,O,_⟩:=I.tuple ha;obtain⟨C,c,p2,_⟩:=I.tuple Y;refine HT.yP O p2 (λz=>U (g.nil_iff.mp z)) (λz=>⟨.ref a,H,I,rfl,L (c.nil_iff.mp z)⟩) (λz=>?_) (by rw[<- g.length,<- c.length];exact hz);refine⟨.ref s.heap.objs.size,_,I.laid (t':=s.toks) (o:=.tup (xs++ys)) (λb ob q=>aw _ q) (az _) ?_,rfl,J (λw=>z (c.nil_iff.mpr w)) _ (I.hok.fresh (az _))⟩;exact⟨by rw[aS];exact hz,_,g.append c,gY.new _ _⟩
end
noncomputable def pO(n:Nat)(i:Int):Option Nat:=if 0<=i then (if i < n then some i.toNat else none) else if -(n:Int)<=i then some (i+n).toNat else none
def Ai{α:Type}(xs:List α)(i:Int):Option α:=(pO xs.length i).bind λj=>xs[j]?
theorem NS{n:Nat}{i:Int}{j:Nat}(h:pO n i=some j):seqIndex? i n=some j/\j < n /\ -(n:Int)<=i/\i < n:=by
 unfold pO at h;by_cases c:0<=i
 ·rw[aE c]at h;by_cases b:i < n
  ·rw[aE b]at h;have e:i.toNat=j:=bq h;exact⟨by rw[zZ c b,e],by ext,by ext,b⟩
  ·rw[aA b]at h;cases h
 ·rw[aA c]at h;by_cases b : -(n:Int)<=i
  ·rw[aE b]at h;have e:(i+n).toNat=j:=bq h;exact⟨by rw[xb (by ext) b,e],by ext,b,by ext⟩
  ·rw[aA b]at h;cases h
theorem Jc{α:Type}{xs:List α}{i:Int}{v:α}(h:Ai xs i=some v):∃j,seqIndex? i xs.length=some j/\xs[j]?=some v/\j < xs.length /\ -(xs.length:Int)<=i/\i < xs.length:=by
 unfold Ai at h;cases e:pO xs.length i with
 |none=>rw[e]at h;cases h
 |some j=>
  rw[e]at h;obtain⟨l,g,c,b⟩:=NS e;exact⟨j,l,h,g,c,b⟩
noncomputable def nN(b:Expr):Prop:=∀o i,subscripted b false o i=operate [o,i] (nC o i)
def IxR(X:Cx)(r:R2):Prop:=
 ∀(c b:Expr)(ao:List (af×Obj))(s:ae)(σ:St)(H:Hp)(x y:V)(v u:ac)(Q:VK),Inv X ao σ H s->RelV x v->RelV y u->r x y H Q ->
  subscripted b false v u=operate [v,u] (nC v u)->aD (aK X.prog X.w) X.A (subscriptTail c b v u) (EP X ao σ Q) X.xe s
def C1(X:Cx)(id:String)(r:V->List V->Hp->VK->Prop):Prop:=
 ∀(ao:List (af×Obj))(s:ae)(σ:St)(H:Hp)(x:V)(xs:List V)(v:ac)(us:List ac)(Q:VK),Inv X ao σ H s->RelV x v->cU xs us->r x xs H Q ->
  aD (aK X.prog X.w) X.A (call (.builtin id) (v::us)) (EP X ao σ Q) X.xe s
section
variable{X:Cx}{a b:Expr}{ta tb:TE}{pos:Pos}
theorem IxR.or{r E:R2}(h:IxR X r)(h':IxR X E):IxR X (λx y H Q=>r x y H Q\/E x y H Q):=by
 intro c g l s σ H x y v u Q I C o q hs;rcases q with q|q
 ·exact h c g l s σ H x y v u Q I C o q hs
 ·exact h' c g l s σ H x y v u Q I C o q hs
theorem JB{r:R2}(o:IxR X r)(E:PE X a ta)(C:PE X b tb)(hs:nN b):PE X (.Subscript a b pos) (FD r ta tb):=by intro c s σ H Q I h;exact Subscript_ (Cn E C I h λv u s2 x y J G l g q=>o a b c s2 σ J x y v u Q G l g q (hs _ _))
def F0(K:aj):R2:=λx y H Q=>∃p xs i v,x=.ref p/\y=.int i/\iW K H p xs/\Ai xs i=some v/\Q v H
def Gh(K:aj):R2:=λx y H Q=>∃p xs i v,x=.ref p/\y=.int i/\kz K H p xs/\Ai xs i=some v/\Q v H
def EL:R2:=λx y H Q=>∃z i c,x=.str z/\y=.int i/\z.length<=sizeLine/\Ai z.cps.toList i=some c/\Q (.str ⟨#[c]⟩) H
theorem Q7:IxR X (F0 X.K):=by
 intro o C c s σ H x y v u Q I Y U h hs;obtain⟨p,xs,i,z,rfl,rfl,b,he,q⟩:=h;cases Y;obtain⟨t,rfl⟩:=U;obtain⟨its,r,G,hz⟩:=I.list b;obtain⟨j,l,h2,h3,h4,h5⟩:=Jc he;obtain⟨w,O,E⟩:=r.get h2;have hl:=r.length;have hn:=A3;have g:EP X c σ Q w s:=⟨z,H,I,E,q⟩
 by_cases L:0<=i
 ·have J : i.toNat = j := by rw[zZ L h5]at l;exact bq l
  exact item_listR G.isList L (by ext) (by rw[J];simpa using O) g hs
 ·have J : (i+(its.toArray.size : Int)).toNat = j := by rw[xb (by ext) h4]at l;rw[aM,<- hl];exact bq l
  exact xj (x:=w) G.isList.typeIs Dr.lookup
   (wpAny_getItem_list_neg (Q:=λr s'=>r=w/\EP X c σ Q r s') G.isList (by ext) (by rw[aM]<;>ext) (by ext) (by rw[J];simpa using O) ⟨rfl,g⟩) hs
theorem R7:IxR X (Gh X.K):=by
 intro g l c s σ H x y v u Q I J G h hs;obtain⟨p,xs,i,z,rfl,rfl,L,U,q⟩:=h;cases J;obtain⟨t,rfl⟩:=G;obtain⟨its,r,E,hz⟩:=I.tuple L;obtain⟨j,b,Y,h3,h4,h5⟩:=Jc U;obtain⟨w,ew,o⟩:=r.get Y;have O:=r.length;have hn:=A3;have C:EP X c σ Q w s:=⟨z,H,I,o,q⟩
 exact xj (x:=w) E.typeIs slot_tuple_getitem.lookup
  (getItem_tuple (j:=j) (Q:=λr s'=>r=w/\EP X c σ Q r s') E (by ext) (by ext) (by rw[aM,<- O];exact b) (by simpa using ew) ⟨rfl,C⟩) hs
theorem ZQ:IxR X EL:=by
 intro g l o s σ H x y v u Q I G E h hs;obtain⟨z,i,c,rfl,rfl,hz,L,q⟩:=h;obtain⟨t,rfl⟩:=G;obtain⟨t',rfl⟩:=E;obtain⟨j,C,Y,h3,U,O⟩:=Jc L;have J:z.cps.toList.length=z.length:=by simp[so]
 rw[J]at C U O;have hn:=A3;exact tail_any (kH s z t) slot_str_getitem.lookup (getItem_str (c:=c) (by have e1:decide (i < -(2^63:Int))=false:=aV (by ext);have b:decide (i ≥ 2^63)=false:=aV (by ext);rw[e1,b,sL]) (by rw[C];simpa using Y) ⟨.str ⟨#[c]⟩,H,I.tok _,⟨_,rfl⟩,q⟩) hs
def QY(K:aj):R2:=λx y H Q=>F0 K x y H Q\/Gh K x y H Q\/EL x y H Q
theorem S9:IxR X (QY X.K):=Q7.or (R7.or ZQ)
theorem Vh(its:List ac)(n j:Nat)(u:ac):oX (·.setIfInBounds j u) { cls:=.type "list",data:=.seq its.toArray n }={ cls:=.type "list",data:=.seq (its.set j u).toArray n }:=by simp[oX]
theorem Inv.lst{c:List (af×Obj)}{σ:St}{H:Hp}{s:ae}{p:af}{xs:List V}(I:Inv X c σ H s)(h:H p=some (.lst xs)):
  ∃(its:List ac)(n:Nat),cU xs its/\s.heap.get? p=some { cls:=.type "list",data:=.seq its.toArray n }/\xs.length<=sizeLine:=by
 obtain⟨z,its,n,r,e⟩:=I.hok p _ h;exact⟨its,n,r,e,z⟩
theorem Inv.lstUpd{c:List (af×Obj)}{σ:St}{H:Hp}{s:ae}{p:af}{xs ys:List V}{its its':List ac}{n g:Nat}{f:Obj->Obj}(I:Inv X c σ H s)(h:H p=some (.lst xs))
  (o:s.heap.get? p=some { cls:=.type "list",data:=.seq its.toArray n }) (l:f { cls:=.type "list",data:=.seq its.toArray n }={ cls:=.type "list",data:=.seq its'.toArray g }) (r:cU ys its') (hz:ys.length<=sizeLine) (t:Nat):
  Inv X c σ (eB H p (.lst ys)) { s with heap:=s.heap.update p f,toks:=t }:=by
 have e:(s.heap.update p f).get? p=some { cls:=.type "list",data:=.seq its'.toArray g }:=by rw[bK f o (by rw[l]<;>rfl),l]
 refine I.write (x:=p) (e:=p) (by rw[h];trivial) (.inl rfl) (λb u v q=>(b_ _ _ (dP v)).trans q) ⟨_,e⟩ ?_;exact⟨hz,its',g,r,e⟩
def Fj:V->V->V->Hp->(Hp->Prop)->Prop:=λo i v H Q=>∃p xs k j,o=.ref p/\i=.int k/\H p=some (.lst xs)/\pO xs.length k=some j/\Q (eB H p (.lst (xs.set j v)))
theorem Qci:PSet X Fj:=by
 intro c s σ H o i v ov iv u Q I b ri Y h;obtain⟨p,xs,k,j,rfl,rfl,G,hj,q⟩:=h;cases b;obtain⟨t,rfl⟩:=ri;obtain⟨its,n,r,l,hz⟩:=I.lst G;obtain⟨g,h2,L,J⟩:=NS hj;have C:=r.length;have hn:=A3;have U:Inv X c σ (eB H p (.lst (xs.set j v))) { s with heap:=s.heap.update p (oX (·.setIfInBounds j u)) }:=
  I.lstUpd G l (Vh its n j u) (r.set Y j) (by rw[dO];exact hz) s.toks
 by_cases O:0<=k
 ·have E : k.toNat = j := by rw[zZ O J]at g;exact bq g
  exact PySem.W.ki_setAt l O (by ext) (by rw[aM,<- C];exact J) (by rw[E];exact⟨_,U,q⟩)
 ·have E : (k+(its.toArray.size : Int)).toNat = j := by rw[xb (by ext) L]at g;rw[aM,<- C];exact bq g
  exact PySem.W.ki_setBack l (by ext) (by rw[aM,<- C];exact L) (by ext) (by rw[E];exact⟨_,U,q⟩)
theorem Tx(lo c:Option Int)(n:Nat):(oY lo c none n).1=((HT.gp n 0 lo:Nat):Int)/\(oY lo c none n).2.1=((HT.gp n n c:Nat):Int)/\(oY lo c none n).2.2=1:=by
 refine⟨?_,?_,rfl⟩
 ·cases lo with
  |none=>rfl
  |some i=>exact HT.wg i n 0
 ·cases c with
  |none=>rfl
  |some i=>exact HT.wg i n n
theorem Qck(its:List ac)(lo c:Option Int):slicePick its.toArray lo c none=((its.drop (HT.gp its.length 0 lo)).take (HT.gp its.length its.length c-HT.gp its.length 0 lo)).toArray:=by obtain⟨l,h,g⟩:=Tx lo c its.toArray.size;unfold slicePick;rw[l,h,g];simp only[sliceRange_one,pick_run,aM]<;>rfl
def EF(K:aj):V->Option Int->Option Int->Hp->VK->Prop:=λx lo c H Q=>∃a xs,x=.ref a/\iW K H a xs/\∀p,H p=none->Q (.ref p) (eB H p (.lst (rZ xs lo c)))
theorem SF:GJ X (EF X.K):=by intro l s σ H x v O L lo g U Q I C hs G E h;obtain⟨a,xs,rfl,J,q⟩:=h;cases C;obtain⟨its,r,u,hz⟩:=I.list J;have c:=r.length;refine⟨"list",_,Dr.lookup,u.isList.typeIs,?_⟩;refine wpAny_getItem_list_slice u.isList hs G E .none (by simp) ?_ (by rw[aM]<;>ext);rw[Qck,<- c];refine⟨.ref s.heap.objs.size,_,I.laid (t':=s.toks) (o:=.lst (rZ xs lo g)) (λb ob q=>aw _ q) (az _) ?_,rfl,q _ (I.hok.fresh (az _))⟩;exact⟨bv (Na xs lo g) hz,_,0,(r.drop (HT.gp xs.length 0 lo)).take (HT.gp xs.length xs.length g-HT.gp xs.length 0 lo),aR _ rfl⟩
noncomputable def m8:V->Bool
 | .non=>true
 | .bl _=>true
 | .int _=>true
 | .str _=>true
 |_=>false
noncomputable def zw:V->V->Bool
 | .non,.non=>true
 | .bl a,.bl b=>a == b
 | .bl a,.int b=>(if a then 1 else 0) == b
 | .int a,.bl b=>a == (if b then 1 else 0)
 | .int a,.int b=>a == b
 | .str a,.str b=>a == b
 |_,_=>false
theorem VT{A:br}{s:ae}{y x:V}{u v:ac}(g:RelV y u)(c:RelV x v)(l:m8 y=true)(h:m8 x=true):Gw A s u v (zw y x):=by
 cases y with
 |non=>
  cases g;cases x with
  |non=>cases c;exact Gw.same _
  |bl b=>cases c;exact Gw.none_bool b
  |int b=>obtain⟨t,rfl⟩:=c;exact Gw.none_int b t
  |str b=>obtain⟨t,rfl⟩:=c;exact Gw.none_str b t
  |_=>exact bc (show false=true from h) bx
 |bl a=>
  cases g;cases x with
  |non=>cases c;exact Gw.bool_none a
  |bl b=>cases c;exact Gw.bool_bool a b
  |int b=>obtain⟨t,rfl⟩:=c;exact Gw.bool_int a b t
  |str b=>obtain⟨t,rfl⟩:=c;exact Gw.bool_str a b t
  |_=>exact bc (show false=true from h) bx
 |int a=>
  obtain⟨t',rfl⟩:=g;cases x with
  |non=>cases c;exact Gw.int_none a t'
  |bl b=>cases c;exact Gw.int_bool a t' b
  |int b=>obtain⟨t,rfl⟩:=c;exact Gw.int_int a t' b t
  |str b=>obtain⟨t,rfl⟩:=c;exact sH a t' b t
  |_=>exact bc (show false=true from h) bx
 |str a=>
  obtain⟨t',rfl⟩:=g;cases x with
  |non=>cases c;exact Gw.str_none a t'
  |bl b=>cases c;exact Gw.str_bool a t' b
  |int b=>obtain⟨t,rfl⟩:=c;exact sI a t' b t
  |str b=>obtain⟨t,rfl⟩:=c;exact Gw.str_str a t' b t
  |_=>exact bc (show false=true from h) bx
 |_=>exact bc (show false=true from l) bx
def yZ(x:V)(u:ac):Bool:=match u with
 | .none=>zw .non x
 | .bool b=>zw (.bl b) x
 | .int i _=>zw (.int i) x
 | .str z _=>zw (.str z) x
 |_=>false
theorem P7{x y:V}{u:ac}(r:RelV y u)(f:m8 y=true):yZ x u=zw y x:=by
 cases y with
 |non=>cases r;rfl
 |bl b=>cases r;rfl
 |int i=>obtain⟨t,rfl⟩:=r;rfl
 |str z=>obtain⟨t,rfl⟩:=r;rfl
 |_=>exact bc (show false=true from f) bx
theorem N6{x:V}{xs:List V}{c:List ac}(h:cU xs c)(f:xs.all m8=true):c.any (yZ x)=xs.any λy=>zw y x:=by
 induction h with
 |nil=>rfl
 |cons r t ih=>
  rw[bG,aO]at f;rw[cN,cN,P7 r f.1,ih f.2]
theorem Kx{A:br}{s:ae}{x:V}{v:ac}(g:RelV x v)(h:m8 x=true):∀{xs:List V}{c:List ac},cU xs c->xs.all m8=true->∀u∈c,Gw A s u v (yZ x u)
 |_,_,.nil,_=>λu hu=>by cases hu
 |y::xs,u::c,.cons r t,f=>λu' hu=>by
  rw[bG,aO]at f;rcases aI.mp hu with rfl|hu
  ·rw[P7 r f.1];exact VT r g f.1 h
  ·exact Kx g h t f.2 u' hu
def HP(x:V)(xs:List V):Bool:=xs.any λy=>zw y x
def Qc(K:aj)(c:Bool):R2:=λx y H Q=>∃p xs,y=.ref p/\(iW K H p xs\/kz K H p xs)/\m8 x=true/\xs.all m8=true/\Q (.bl (if c then !HP x xs else HP x xs)) H
theorem Th:OpR X (cz .In) (Qc X.K false):=by
 intro C s σ H x y v u Q I o G h;obtain⟨p,xs,rfl,c,E,fs,q⟩:=h;cases G;rcases c with c|c
 ·obtain⟨its,r,g,hz⟩:=I.list c;refine SeqAt.in_listAt (yZ x) g.isList (λw l=>Kx o E r fs w (by simpa using l)) ⟨.bl _,H,I,rfl,?_⟩;rw[show its.toArray.any (yZ x)=its.any (yZ x) by simp,N6 r fs];exact q
 ·obtain⟨its,r,g,hz⟩:=I.tuple c;refine SeqAt.in_tupleAt (yZ x) g (λw l=>Kx o E r fs w (by simpa using l)) ⟨.bl _,H,I,rfl,?_⟩;rw[show its.toArray.any (yZ x)=its.any (yZ x) by simp,N6 r fs];exact q
theorem U7:CallR X (.builtin "len") (λxs H Q=>∃p ys,xs=[.ref p]/\(iW X.K H p ys\/kz X.K H p ys)/\Q (.int ys.length) H):=by
 intro v s σ H xs E Q I r h;obtain⟨p,ys,rfl,g,q⟩:=h;obtain⟨u,rfl,C⟩:=vY r;cases C;have G:=A3;rcases g with g|g
 ·obtain⟨its,l,o,hz⟩:=I.list g;have c:=l.length;exact Calls.call_len_list o.isList (by simp only[aM]<;>ext) ⟨.int ys.length,H,I.tok _,⟨s.toks+1,by rw[aM,c]⟩,q⟩
 ·obtain⟨its,l,o,hz⟩:=I.tuple g;have c:=l.length;exact len_tuple o (by simp only[aM]<;>ext) ⟨.int ys.length,H,I.tok _,⟨s.toks+1,by rw[aM,c]⟩,q⟩
theorem Sx:CallR X (.builtin "len") (λxs H Q=>∃z,xs=[.str z]/\z.length<=sizeLine/\Q (.int z.length) H):=by intro c s σ H xs g Q I r h;obtain⟨z,rfl,hz,q⟩:=h;obtain⟨u,rfl,t,rfl⟩:=vY r;have l:=A3;exact len_str (by ext) ⟨.int z.length,H,I.tok _,⟨_,rfl⟩,q⟩
theorem CallR.or{f:ac}{r o:List V->Hp->VK->Prop}(h:CallR X f r)(h':CallR X f o):CallR X f (λxs H Q=>r xs H Q\/o xs H Q):=by
 intro c s σ H xs g Q I l q;rcases q with q|q
 ·exact h c s σ H xs g Q I l q
 ·exact h' c s σ H xs g Q I l q
theorem Qct:CallR X (.type "list") (λxs H Q=>∃p ys,xs=[.ref p]/\(iW X.K H p ys\/kz X.K H p ys)/\∀l,H l=none->Q (.ref l) (eB H l (.lst ys))):=by
 intro v s σ H xs Y Q I r h;obtain⟨p,ys,rfl,C,q⟩:=h;obtain⟨u,rfl,U⟩:=vY r;cases U;have G : ∀(its : List ac), cU ys its -> ys.length <= sizeLine -> ∀(h' : bu)(g : Nat), (∀b o', s.heap.get? b = some o' -> h'.get? b = some o') ->
   h'.get? s.heap.objs.size=some { cls:=.type "list",dict:=none,data:=.seq its.toArray g,slots:=#[] }->EP X v σ Q (.ref s.heap.objs.size) { s with heap:=h' }:=λits c hz h' g kp e=>
  ⟨.ref s.heap.objs.size,_,I.laid (t':=s.toks) kp (az _) (show dz X.prog X.w _ h' _ (.lst ys) from ⟨hz,its,g,c,e⟩),rfl,q _ (I.hok.fresh (az _))⟩
 rcases C with C|C
 ·obtain⟨its,c,J,hz⟩:=I.list C;have E:=c.length;obtain⟨o,L,O,n,hd⟩:=J.isList;exact call_list_seq p (.inl rfl) L O hd (λh' g kp e=>G its c hz h' g kp e) (by simp only[aM]<;>ext)
 ·obtain⟨its,c,J,hz⟩:=I.tuple C;have E:=c.length;obtain⟨o,L,O,n,hd⟩:=J;exact call_list_seq p (.inr rfl) L O hd (λh' g kp e=>G its c hz h' g kp e) (by simp only[aM]<;>ext)
theorem Ov:CallR X (.type "tuple") (λxs H Q=>∃p ys,xs=[.ref p]/\((iW X.K H p ys/\∀l,H l=none->Q (.ref l) (eB H l (.tup ys)))\/(kz X.K H p ys/\Q (.ref p) H))):=by
 intro c s σ H xs O Q I r h;obtain⟨p,ys,rfl,h⟩:=h;obtain⟨u,rfl,J⟩:=vY r;cases J;rcases h with ⟨C,q⟩|⟨C,q⟩
 ·obtain⟨its,g,v,hz⟩:=I.list C;have E:=g.length;refine call_tuple_list v.isList (λh' kp=>?_) (by simp only[aM]<;>ext);have G:Inv X c σ H { s with heap:=h' }:=I.kept (t':=s.toks) kp;have L:Inv X c σ (eB H h'.objs.size (.tup ys)) { s with heap:=h'.push { cls:=.type "tuple",data:=.seq its.toArray } }:=
   G.laid (t':=s.toks) (λb o e=>aw _ e) (az _) (show dz X.prog X.w _ _ _ (.tup ys) from ⟨hz,its,g,gY.new _ _⟩)
  exact⟨.ref h'.objs.size,_,L,rfl,q _ (G.hok.fresh (az _))⟩
 ·obtain⟨its,g,v,hz⟩:=I.tuple C;exact call_tuple_same v ⟨.ref p,H,I,rfl,q⟩
def Nl(K:aj)(T:String)(x:V)(H:Hp):Prop:=match x with
 | .str _=>T="str"
 | .int _=>T="int"
 | .ref p => (T = "list" /\ ∃xs, iW K H p xs) \/ (T = "tuple" /\ ∃o, K.lookup p = some o /\ o.cls = .type "tuple" /\ o.dict = none) \/
   (T="dict"/\((∃c,H p=some (.dK c))\/∃c,H p=some (.dT c)))\/(T="set"/\∃S n,H p=some (.set S n))
 |_=>False
theorem Y2{h:List (af×Obj)}{σ:St}{H:Hp}{s:ae}{T:String}{x:V}{v:ac}(I:Inv X h σ H s)(r:RelV x v)(ty:Nl X.K T x H):
  s.TypeIs v T/\∀a,v=.ref a->∃ob,s.heap.get? a=some ob/\ob.dict=none:=by
 cases x with
 |str z=>
  obtain⟨t,rfl⟩:=r;cases (show T="str" from ty);exact⟨kH s z t,λ_ e=>(by cases e)⟩
 |int i=>
  obtain⟨t,rfl⟩:=r;cases (show T="int" from ty);exact⟨typeIs_int s i t,λ_ e=>(by cases e)⟩
 |ref p=>
  cases r;rcases ty with ⟨rfl,xs,E⟩|⟨rfl,o,g,G,hd⟩|⟨rfl,g⟩|⟨rfl,S,n,g⟩
  ·obtain⟨its,_,C,_⟩:=I.list E;refine⟨C.isList.typeIs,λa e=>?_⟩;cases e;obtain⟨o,n,e,c,hd,_⟩:=C;exact⟨o,e,hd⟩
  ·refine⟨⟨o,I.kIn p o g,G⟩,λa e=>?_⟩;cases e;exact⟨o,I.kIn _ o g,hd⟩
  ·have z : ∃o, s.heap.get? p = some o /\ o.ExactDict := by
     rcases g with ⟨l,g⟩|⟨l,g⟩
     ·obtain⟨_,_,_,_,o,_,_,e,ex,_⟩:=I.hok p _ g;exact⟨o,e,ex⟩
     ·obtain⟨_,_,_,_,o,_,_,e,ex,_⟩:=I.hok p _ g;exact⟨o,e,ex⟩
   obtain⟨o,e,ex⟩:=z;refine⟨⟨o,e,ex.1⟩,λa u=>?_⟩;cases u;exact⟨o,e,ex.2.1⟩
  ·obtain⟨o,_,_,_,e,ex,_⟩:=I.hok p _ g;refine⟨⟨o,e,ex.1⟩,λa u=>?_⟩;cases u;exact⟨o,e,ex.2.1⟩
 |_=>exact bV ty
def Xr(K:aj)(T:String)(r:V->List V->Hp->VK->Prop)(to:TE)(t:TA):TE:=λσ H Q=>to σ H λx c=>Nl K T x c/\t σ c λxs g=>r x xs g Q
variable{o e:Expr}{es:List Expr}{to:TE}{t:TA}{name:Str}{bd ap:Pos}{T id:String}{r:V->List V->Hp->VK->Prop}
theorem Bf(pa:PlainAttrs T)(slot:Slot T name id)(J:typeOf (.builtin id)=pure (.type "method_descriptor"))(hm:C1 X id r)(ho:PE X o to)(ha:PA X (e::es) t)
  (u:cY o name X.env (eval o X.env)=eval o X.env:=by rfl)
  (G:((di ap (av (e::es) X.env)).all (λx => !x.1)&&(ke ap (fP [] X.env)).all (λx=>x.1.isSome)
   && decide ((e::es).length+([]:List eR).length+(if ([]:List eR).isEmpty then 0 else 1) < 30))=true:=by rfl)
  (l:(bd.endLine == ap.line)=true:=by rfl) (hs:av (e::es) X.env=(false,eval e X.env)::av es X.env:=by rfl) (g:(di ap (av es X.env)).any (·.1)=false:=by rfl):
  PE X (.Call (.Attribute o name bd) (e::es) [] ap) (Xr X.K T r to t):=by
 intro c s σ H Q I h;refine wpAny_Call_method_late u G l rfl (fE (ho c s σ H _ I h) λv s1 E=>?_);obtain⟨x,H1,U,L,ty,q1⟩:=E;obtain⟨h1,h2⟩:=Y2 U L ty;refine⟨T,id,pa,slot,J,h1,h2,?_⟩;have O:=ha ap c s1 σ H1 _ U q1;rw[hs]at O ⊢;refine Calls.callWith_builtin (by show (false||(di ap (av es X.env)).any (·.1))=false;rw[g]<;>rfl) (Calls.evalArgs_plain ?_);exact fE O λb s2 C=>by obtain⟨Y,H2,I2,r2,q2⟩:=C;exact hm c s2 σ H2 x Y v b Q I2 L r2 q2
end
def MtM(X:Cx)(id:String)(r:V->List V->Hp->VK->Prop):Prop:=
 ∀(ao:List (af×Obj))(s:ae)(σ:St)(H:Hp)(x:V)(xs:List V)(v:ac)(us:List ac)(Q:VK),Inv X ao σ H s->RelV x v->cU xs us->r x xs H Q ->
  aD (aK X.prog X.w) X.A (call (.builtin id) (v::us)) (EP X ao σ Q) X.xe s
theorem cU.one{x:V}{b:List ac}(h:cU [x] b):∃u,b=[u]/\RelV x u:=by
 cases h with
 |cons r h=>cases h;exact⟨_,rfl,r⟩
section
variable{X:Cx}{ao:List (af×Obj)}{σ:St}{H:Hp}{s:ae}{l b:af}{xs ys zs:List V}
theorem Inv.lset{its its':List ac}{n:Nat}{f:Array ac->Array ac}{t':Nat}(I:Inv X ao σ H s)(o:H l=some (.lst xs))
  (e:s.heap.get? l=some { cls:=.type "list",data:=.seq its.toArray n }) (g:f its.toArray=its'.toArray) (c:cU ys its') (hz:ys.length<=sizeLine):
  Inv X ao σ (eB H l (.lst ys)) { s with heap:=s.heap.update l (oX f),toks:=t' }:=by
 have q:=PySem.IsL.update e f;rw[g]at q;refine I.write (x:=l) (e:=l) (by rw[o];exact trivial) (.inl rfl) (λv u h hu=>(b_ s.heap (oX f) (dP h)).trans hu) ⟨_,q⟩ ?_;exact⟨hz,its',_,c,q⟩
theorem Inv.lnew{its:List ac}{t':Nat}(I:Inv X ao σ H s)(c:cU ys its)(hz:ys.length<=sizeLine):
  Inv X ao σ (eB H s.heap.objs.size (.lst ys)) { s with heap:=s.heap.push { cls:=.type "list",data:=.seq its.toArray },toks:=t' }:=
 I.laid (λ_ _ q=>aw _ q) (az _) ⟨hz,its,0,c,aR _ rfl⟩
theorem Inv.fresh(I:Inv X ao σ H s):H s.heap.objs.size=none:=I.hok.fresh (az _)
theorem Inv.lstM(I:Inv X ao σ H s)(c:H l=some (.lst xs)):xs.length<=sizeLine/\∃(its:List ac)(n:Nat),cU xs its/\xs.length=its.length/\s.heap.get? l=some { cls:=.type "list",data:=.seq its.toArray n }:=by obtain⟨z,its,n,r,e⟩:=I.hok l _ c;exact⟨z,its,n,r,r.length,e⟩
end
section
variable{X:Cx}
def zJ:V->List V->Hp->VK->Prop:=λx b H Q=>∃l xs y,x=.ref l/\b=[y]/\H l=some (.lst xs)/\xs.length < sizeLine/\Q .non (eB H l (.lst (xs++[y])))
theorem HG:MtM X "list.append" zJ:=by intro b s σ H x E v G Q I g o h;obtain⟨l,xs,y,rfl,rfl,c,hz,q⟩:=h;cases g;obtain⟨u,rfl,C⟩:=o.one;obtain⟨z,its,n,r,J,e⟩:=I.lstM c;refine lZ F.slot_list_append ⟨_,e,rfl⟩ F.entry_list_append (F.args_list_append_2 _ _) (PySem.list_append l its.toArray n u (by rw[aM];ext)) ⟨e,?_⟩;refine⟨.non,_,I.lset (its':=its++[u]) c e (by simp) (r.append (.cons C .nil)) ?_,rfl,q⟩;rw[aS,bL];ext
def Jv:R2:=λx y H Q=>∃l b xs c,x=.ref l/\y=.ref b/\H l=some (.lst xs)/\H b=some (.lst c)/\xs.length+c.length<=sizeLine/\∀p,H p=none->Q (.ref p) (eB H p (.lst (xs++c)))
theorem ZA:OpR X (eN .Add) Jv:=by
 intro g s σ H x y v u Q I C o h;obtain⟨l,b,xs,Y,rfl,rfl,J,L,hz,q⟩:=h;cases C;cases o;obtain⟨z,its,n,r,hl,e⟩:=I.lstM J;obtain⟨z2,c,n2,E,G,U⟩:=I.lstM L;refine PySem.P.add_list e U ?_ (by rw[aM,aM];ext);have O:its.toArray++c.toArray=(its++c).toArray:=by simp
 rw[O];exact⟨.ref _,_,I.lnew (t':=s.toks) (r.append E) (by rw[aS];ext),rfl,q _ I.fresh⟩
end
section
variable{prog:Program}{w:bw}{A:br}{E:ac->ae->Prop}{s:ae}
theorem QcA{a c n:Nat}(b:a<=c)(l:c<=n):oY (some (a:Int)) (some (c:Int)) none n=((a:Int),(c:Int),1):=by
 simp only[oY,Option.getD_none];have h:¬ ((a:Int) < 0):=by ext
 have g:¬ ((c:Int) < 0):=by ext
 simp only[h,g,if_false,show (1:Int) > 0 by decide,if_true];congr 1
 ·ext
 ·congr 1;ext
end
end L2
namespace Att
open PySem PySem.W PySem.Calls PyProof.Rows
theorem QcC{P:Cu}{h:bu}:∀(ns:List Int)(c:List ac),WellAll P h c (ns.map HY)->py c ns:=by
 intro ns
 induction ns with
 |nil=>
  intro c w;rw[pz]at w;cases w;exact .nil
 |cons n ns ih=>
  intro c w;rw[aN]at w;cases w with
  |cons a b=>
   cases a;exact .cons _ _ (ih _ b)
theorem XS{l:OpenLaw}{n:Nat}(I:l.most=some n){P:Cu}{h:bu}{args:List WData}{b:List ac}
  (c:l.row.toRowW.claim.pre args=true) (v:WellAll P h b args):
  ∃a E ns,b=[ax a]/\args=[WData.list (ns.map HY)]/\h.get? a=some { cls:=.type "list",data:=.seq E.toArray }/\py E ns/\ns.length<=n:=by
 have C:WShape.hasAll [] args [.list .int]=true:=(pre_splitW c).1;have G:l.pre.holds [] { args:=args }=true:=(pre_splitW c).2;obtain⟨d,r,rfl,O,L⟩:=hasAllW_cons C;obtain rfl:=hasAllW_nil L;obtain⟨xs,rfl,J⟩:=hasW_list O;obtain⟨ns,rfl⟩:=items_int J;have g:ns.length<=n:=by
  unfold OpenLaw.pre at G;have u:(WTm.not (.lt (.lit (.int (n:Int))) (.len (.arg 0)))).holds [] { args:=[.list (ns.map .int)] }=true:=by have u:=(holds_andW G).1;rw[I]at u;exact u
  have o:=condW_of u (w_not (w_lt w_lit (w_len_list (w_arg rfl))));rw[ai]at o;refine qH λq=>?_;have H:(n:Int) < ((ns.length:Nat):Int):=by ext
  first
   | (rw[aP H]at o;exact bc o (by decide))
   | (simp at o;ext)
 cases v with
 |cons w1 w2=>
  cases w2;cases w1 with
  |list ho hall=>exact⟨_,_,ns,rfl,rfl,ho,QcC ns _ hall,g⟩
theorem Vj(l:OpenLaw)(args:List WData):l.row.toRowW.claim.post args (.bool true) args=true:=
 postW_of (r:=l.row.toRowW) (X:=(true == true))
  (show Dt [] (.bool true) .bool=true by first|rfl|decide|simp[Dt,WShape.arms,WShape.armsAll])
  (show (WTm.eq .res (.lit (.bool true))).value [] { args:=args,res:=some (.bool true),after:=args }=some (.bool (true == true)) from w_eq_bool (w_res rfl) w_lit) rfl
theorem tG{l:OpenLaw}{n:Nat}{q:Program}{b:List Str}{XP:(Str->Option ac)->bu->Prop}{YP:bw->bu->Prop}{d:DefRec}
  (hn:l.most=some n) (Q:d.params.defaults=[])
  (call:∀(w:bw)(s₀ s₁:ae)(mg J:Str->Option ac)(E:af)(o:Obj)(I H g:ac)(a:af)(h:List ac)(ns:List Int),
   Ground q b [] XP w s₀ mg J s₁.heap->YP w s₁.heap ->
   s₁.heap.get? E=some o->o.data=.func (docDef d.name d.params d.body d.scope I H g)->s₁.heap.CodeRec H d.name->mg d.name=some (.ref E) ->
   s₁.heap.get? a=some { cls:=.type "list",data:=.seq h.toArray }->py h ns->ns.length<=n->s₁.gens=#[] ->
   kc (aK l.prog w) pA (.call (.ref E) ⟨[.ref a],[]⟩) (λr s'=>r=.ok (.ret (.bool true))/\OldK s₁.heap s'.heap/\s'.os=s₁.os/\kL s'.gens) s₁):
  WalkO q b XP YP l.row.toRowW d [] (λf h=>rb f h):=by
 intro w s₀ s₁ mg J G Y E o I H g dV kV ho hd U hD O hg args vals as u hlay hrd L hlo;obtain rfl:dV=.none:=Dflts.none hD Q;obtain rfl:kV=.none:=Dflts.noKw hD;obtain⟨a,h,ns,rfl,rfl,v,c,C⟩:=XS hn u L;refine enter_call (iB (call w s₀ s₁ mg J E o I H g a h ns G Y ho (fd_plain hd) U O v c C hg) λr s' hq=>?_);obtain⟨rfl,h2,h3,h4⟩:=hq;exact⟨.inl ⟨.bool true,.bool true,[],rfl,λ_=>rfl,.bool true,Vj l _,λ_=>⟨List.Pairwise.nil,λ_ hm=>(by cases hm)⟩⟩,h2,h3,h4⟩
end Att
namespace L2
open PySem PySem.Spec PyProof.Rows
theorem U8{b:List ac}{ns:List Int}(h:py b ns):cU (ns.map V.int) b:=by
 induction h with
 |nil=>exact .nil
 |cons n t h ih=>exact .cons ⟨t,rfl⟩ ih
noncomputable def wH(H:Hp):Prop:=∀b,H b=none\/∃o xs,H b=some (.frz o (.lst xs))
theorem Xx{P:Program}{w:bw}{K:aj}{mg mb:Str->Option ac}{CX:uq}{k:Nat}{fa a:af}{fd:bU}{x:Str}{sp:Sp}{s₁:ae}{E:List ac}{ns:List Int}
  (KX:K.In s₁.heap) (U:s₁.heap.Ns bN mg) (g:s₁.heap.Ns qC mb) (hbb:∀x:Str,x≠"__name__"->mb x=cS x) (Y:s₁.heap.NoLimit) (hg:s₁.gens=#[])
  (ha:s₁.heap.get? a=some { cls:=.type "list",data:=.seq E.toArray }) (hi:py E ns) (hl:ns.length<=sizeLine) (hr:Room k pA)
  (F:∀base:bu,K.In base->base.Ns bN mg->gO P w K mg base CX k fa fd [x] sp) (G:∀(s:ae)(u:ac),pr s fd ⟨[u],[]⟩ [(x,u)])
  (hsp:∀H:Hp,wH H->iW K H a (ns.map V.int)->sp [.ref a] H (λv _=>v=.bl true) λ_ _ _=>False)
  (hCX:∀H e s',CX [] H s₁ (λ_ _ _=>False) e s'->False):
  kc (aK P w) pA (.call (.ref fa) ⟨[.ref a],[]⟩) (λr s'=>r=.ok (.ret (.bool true))/\OldK s₁.heap s'.heap/\s'.os=s₁.os/\kL s'.gens) s₁:=by
 have rv:=U8 hi;have L:=hi.length;have C : ∀H : Hp, wH H -> iW K H a (ns.map V.int) -> mD P w H s₁.heap -> (∀b, H b ≠ none -> b = a) -> (H a ≠ none -> K.lookup a = none) ->
   kc (aK P w) pA (.call (.ref fa) ⟨[.ref a],[]⟩) (λr s'=>r=.ok (.ret (.bool true))/\OldK s₁.heap s'.heap/\s'.os=s₁.os/\kL s'.gens) s₁:=by
  intro H hO hS Q hA hK;have c:∀{b:af}{o:Obj},s₁.heap.get? b=some o->H b=none->(r_ s₁.heap H).get? b=some o:=λe n=>UG e n;have kj:∀{b:af}{o:Obj}{es:Array pB}{ep:Nat},s₁.heap.get? b=some o->o.data=.dict es ep->H b=none:=λ{b o es ep}e d=>by
   cases q:H b with
   |none=>rfl
   |some u=>
    have e':b=a:=hA b (by rw[q];simp);subst e';rw[ha]at e;cases e;have d':Data.seq E.toArray _=Data.dict es ep:=d;cases d'
  have l:∀{b:af}{m:Str->Option ac},s₁.heap.Ns b m->(r_ s₁.heap H).Ns b m:=λ{b m}J=>by obtain⟨o,es,ep,e,d,r⟩:=J;exact⟨o,es,ep,c e (kj e d),d,r⟩
  have hKb:K.In (r_ s₁.heap H):=λb o e=>c (KX b o e) (by
   cases q:H b with
   |none=>rfl
   |some u=>
    have e':b=a:=hA b (by rw[q];simp);subst e';rw[hK (by rw[q];simp)]at e;cases e)
  have hM:Mod K mg (r_ s₁.heap H):=⟨hKb,l U,⟨mb,l g,hbb⟩,let ⟨mc,h1,h2⟩:=Y;⟨mc,l h1,h2⟩⟩
  have e0:qS P w K mg (r_ s₁.heap H) pA [] s₁ H:=⟨rfl,hM,λb o e=>Qao e,uM (S0 _ _),trivial,λb g=>bc (show b∈([]:List af) from g) (by simp),Q,.of_eq hg⟩
  refine iB ((F _ hKb (l U)).run pA [] s₁ H ⟨[.ref a],[]⟩ [.ref a] [.ref a] _ _ hr e0 (G s₁ (.ref a)) (.cons rfl .nil) (hsp H hO hS)) λr s' h=>?_;cases r with
  |error e=>exact (hCX H e s' h).elim
  |ok fl=>
   cases fl with
   |next=>exact bV h
   |brk=>exact bV h
   |cont=>exact bV h
   |ret u=>
    obtain⟨v,H',os,bare,un,O,r',q⟩:=h;have q':v=.bl true:=q;subst q';obtain rfl:u=eG true:=r';refine⟨rfl,OldK.of_keep λb o e=>?_,os,bare⟩;cases q:H b with
    |none=>exact un.keep b o e q (by intro z;exact bc (show b∈([]:List af) from z) (by simp)) (by simp)
    |some u=>
     rcases hO b with z|⟨ob,xs,z⟩
     ·rw[q]at z;cases z
     ·have g:=un.frzs b ob _ z;obtain⟨c,_⟩:=Q b _ z;obtain⟨h,_⟩:=O b _ g;rw[e]at c;cases c;exact h
 cases hk:K.lookup a with
 |some o=>
  have e:=KX a o hk;rw[ha]at e;cases e;refine C (λ_=>none) (λ_=>.inl rfl) (.inr ⟨_,E.toArray,_,hk,rfl,rfl,rfl,by rw[aM,L];exact hl,by simpa using rv⟩) (λb u z=>by have I:(none:Option HO)=some u:=z;cases I) (λb z=>bc rfl z) λz=>bc rfl z
 |none=>
  refine C (λb=>if b=a then some (.frz { cls:=.type "list",data:=.seq E.toArray } (.lst (ns.map V.int))) else none) (λb=>?_) (.inl (.inr ⟨{ cls:=.type "list",data:=.seq E.toArray },aE rfl⟩)) (λb u z=>?_) (λb z=>?_) λ_=>hk
  ·by_cases g:b=a
   ·exact .inr ⟨_,_,aE g⟩
   ·exact .inl (aA g)
  ·by_cases g:b=a
   ·have I:=(aE g).symm.trans z;cases I;subst g;exact⟨ha,by rw[ai];exact hl,E,_,rv,ha⟩
   ·have I:=(aA g).symm.trans z;cases I
  ·by_cases g:b=a
   ·exact g
   ·exact bc (aA g) z
theorem yG{l:pT}{n k:Nat}{q:Program}{c:List Str}{XP:(Str->Option ac)->bu->Prop}{YP:bw->bu->Prop}{d:DefRec}{K:Cu->aj}{CX:bw->uq}{sp:bw->Sp}{x:Str}
  (hn:l.most=some n) (J:n<=sizeLine) (O:d.params.defaults=[]) (hr:Room k pA)
  (hY:∀(w:bw)(h:bu),YP w h->(K w.params).In h)
  (F:∀(w:bw)(mg:Str->Option ac)(E:af)(h:bu),(K w.params).In h->h.Ns bN mg->mg d.name=some (.ref E) ->
   ∃U:bU,(∀(s:ae)(u:ac),pr s U ⟨[u],[]⟩ [(x,u)]) /\
    ∀base:bu,(K w.params).In base->base.Ns bN mg->gO l.prog w (K w.params) mg base (CX w) k E U [x] (sp w))
  (I:∀(w:bw)(H:Hp)(a:af)(ns:List Int),ns.length<=n->wH H->iW (K w.params) H a (ns.map V.int)->sp w [.ref a] H (λv _=>v=.bl true) λ_ _ _=>False)
  (Q:∀(w:bw)(H:Hp)(s:ae)(e:ac)(s':ae),CX w [] H s (λ_ _ _=>False) e s'->False):
  rc q c XP YP l.row.toRowW d [] (λf vs=>rb f vs):=by
 refine Att.tG hn O λw s₀ s₁ mg mb E o pm cd doc a vs ns G Y ho hd hcd L C g b hg=>?_;have KX:=hY w _ Y;obtain⟨U,hb,hF⟩:=F w mg E _ KX G.T.g L;exact Xx KX G.T.g G.T.b G.T.builtins G.T.nolimit hg C g (bv b J) hr hF hb (λH hO hS=>I w H a ns b hO hS) λH e s'=>Q w H s₁ e s'
theorem wn{l:pT}{n k:Nat}{q:Program}{b:List Str}{XP:(Str->Option ac)->bu->Prop}{I:bw->bu->Prop}{d:DefRec}{K:Cu->aj}{CX:uq}{sp:aj->Sp}{x:Str}
  (O:l.most=some n) (g:n<=sizeLine) (o:d.params.defaults=[]) (L:Room k pA)
  (Q:∀(w:bw)(h:bu),I w h->(K w.params).In h)
  (F:∀(w:bw)(mg:Str->Option ac)(G:af)(h:bu),(K w.params).In h->h.Ns bN mg->mg d.name=some (.ref G) ->
   ∃E:bU,(∀(s:ae)(u:ac),pr s E ⟨[u],[]⟩ [(x,u)]) /\
    ∀base:bu,(K w.params).In base->base.Ns bN mg->gO l.prog w (K w.params) mg base CX k G E [x] (sp (K w.params)))
  (c:∀(K:aj)(H:Hp)(a:af)(ns:List Int),ns.length<=n->wH H->iW K H a (ns.map V.int)->sp K [.ref a] H (λv _=>v=.bl true) λ_ _ _=>False)
  (C:∀(H:Hp)(s:ae)(e:ac)(s':ae),CX [] H s (λ_ _ _=>False) e s'->False):
  rc q b XP I l.row.toRowW d [] (λf J=>rb f J):=
 yG (K:=K) (CX:=λ_=>CX) (sp:=λw=>sp (K w.params)) O g o L Q F (λw H a ns h1 Y U=>c (K w.params) H a ns h1 Y U) λ_ H s e s'=>C H s e s'
noncomputable def e9(s:Stmt):v8:=match s with
 | .FunctionDef _ a _ _ _ _ _ _ _ _=>a
 |_=>{ posonlyargs:=[],args:=[],vararg:=none,kwonlyargs:=[],kw_defaults:=[],kwarg:=none,defaults:=[] }
noncomputable def dk(s:Stmt):List Stmt:=match s with
 | .FunctionDef _ _ b _ _ _ _ _ _ _=>b
 |_=>[]
noncomputable def a_(s:Stmt):dw:=match s with
 | .FunctionDef _ _ _ _ _ _ sc _ _ _=>sc
 |_=>{ kind:=.function,names:=[],isGenerator:=false,isCoroutine:=false }
noncomputable abbrev m9:uq:=λ_ _ _ _ _ _=>False
noncomputable abbrev E0:XK:=λ_ _ _=>False
theorem Po{X:Cx}:oM m9 X E0:=λ_ _ _ _ _ _ _ h=>h.elim
structure tS(K:aj)(x qual:Str)(st:Stmt)(f:af)(fd:bU):Prop where
 ex:∃(oc:ac)(od:Option af)(kV doc pm:ac)(an:Option af)(cdv ct:ac)(osl:Array (Option ac)),
  fd=dX x qual (e9 st) (dk st) (a_ st) .none kV doc pm an cdv ct/\K.lookup f=some ⟨oc,od,.func fd,osl⟩/\kG K cdv qual=true
 kp:fN K (.ref f)=true
section
variable{P:Program}{w:bw}{K:aj}{mg:Str->Option ac}{base:bu}
theorem tS.ok{x qual:Str}{st:Stmt}{f:af}{u:bU}{N ps:List Str}{k:Nat}{sp:Sp}(F:tS K x qual st f u)(S:iG N ps (a_ st))(len:∀c H Q E,sp c H Q E->c.length=ps.length)
  (g:∀(b:ac)(A:br)(outer:List Env)(s:ae)(H:Hp)(c:List V)(Q:VK)(E:XK),Room k (A.deeper (eU qual (a_ st) s.heap.objs.size f b))->sp c H Q E ->
   ∃t,PSs (ko m9 P w K mg base N qual (a_ st) f b A outer s H E).nox (dk st) t/\t { nx:=λ_ J=>Q .non J,rt:=Q } (start N c) H):gO P w K mg base m9 (k+1) f u ps sp:=by
 obtain⟨U,O,kV,I,L,Y,b,ct,v,rfl,C,o⟩:=F.ex;refine IY C o S len λA outer s H c Q E G l=>?_;obtain⟨t,h,q⟩:=g b A outer s H c Q E G l;exact⟨t,h.nox,q⟩
theorem tS.binds{x qual:Str}{st:Stmt}{f:af}{u:bU}{ps:List Str}(F:tS K x qual st f u)
  (h:∀(kV b l:ac)(o:Option af)(c ct:ac)(g:List ac),g.length=ps.length->lX (dX x qual (e9 st) (dk st) (a_ st) .none kV b l o c ct) ⟨g,[]⟩=pure (ps.zip g)):Binds K u ps []:=by
 obtain⟨G,E,kV,b,l,o,c,ct,v,rfl,H,C⟩:=F.ex;exact .all (h kV b l o c ct)
theorem Pm{x qual:Str}{st:Stmt}{f:af}{C:ac}{v u:Option af}{h:Array (Option ac)}{kV g o b ct:ac}(l:K.lookup f=some ⟨C,v,.func (dX x qual (e9 st) (dk st) (a_ st) .none kV g o u b ct),h⟩)
  (c:kG K b qual=true) (k:fN K (.ref f)=true):tS K x qual st f (dX x qual (e9 st) (dk st) (a_ st) .none kV g o u b ct):=⟨⟨C,v,kV,g,o,u,b,ct,h,rfl,l,c⟩,k⟩
end
section
variable{X:Cx}
theorem pv(i : Nat){x : Str}{pos : Pos}(g : X.N[i]? = some x := by rfl)(c : xK X.env.scope x := by first|exact Or.inl rfl|exact Or.inr (Or.inl rfl)|exact Or.inr (Or.inr rfl))(hd : (x == ("__debug__" : Str)) = false := by decide)
  (b:(x == ("__classdict__":Str))=false:=by decide):PE X (.Name x pos) (By i):=xF g c hd b
end
theorem yW{c A B:Prop}[Decidable c](h1:c->A)(h2:¬ c->B):if c then A else B:=by
 by_cases h:c
 ·rw[aE h];exact h1 h
 ·rw[aA h];exact h2 h
section
variable{κ:Type}[DecidableEq κ]
noncomputable def pN(b:List (κ×V))(k:κ):Option V:=(b.find? λc=>decide (c.1=k)).map (·.2)
noncomputable def og(b:List (κ×V))(k:κ)(v:V):List (κ×V):=
 if (b.any λc=>decide (c.1=k))=true then b.map (λc=>if c.1=k then (c.1,v) else c) else b++[(k,v)]
theorem G9{p:κ×V}{r:List (κ×V)}{k:κ}(e:p.1=k):pN (p::r) k=some p.2:=by simp[pN,dC,e]
theorem HM{p:κ×V}{r:List (κ×V)}{k:κ}(e:¬ p.1=k):pN (p::r) k=pN r k:=by simp[pN,dC,e]
theorem Pd(k:κ):∀b:List (κ×V),(b.any λc=>decide (c.1=k))=(pN b k).isSome
 |[]=>rfl
 |p::r=>by
  rw[cN];by_cases e:p.1=k
  ·simp only[G9 e,aP e,Du,u8]
  ·rw[HM e,aV e,Cv];exact Pd k r
theorem Nt(b:List (κ×V))(k:κ)(v:V):(og b k v).length<=b.length+1:=by
 unfold og;split
 ·rw[ai];ext
 ·rw[aS,cQ,fC];ext
theorem nY.isSome_eq{o:Option V}{u:Option ac}(r:nY o u):o.isSome=u.isSome:=by
 cases o with
 |none=>cases u with
  |none=>rfl
  |some _=>exact (show False from r).elim
 |some _=>cases u with
  |none=>exact (show False from r).elim
  |some _=>rfl
theorem KV.val{c:List (κ×V)}{l:List (κ×ac)}(r:KV c l)(k:κ):nY (pN c k) (rf l k):=by
 unfold KV at r
 induction r with
 |nil=>exact fj
 |@cons p q ps qs h t ih=>
  obtain⟨o,u⟩:=h;by_cases e:p.1=k
  ·have g:q.1=k:=o.symm.trans e;have b:rf (q::qs) k=some q.2:=by simp[rf,dC,g]
   rw[G9 e,b];exact u
  ·have g:¬ q.1=k:=λz=>e (o.trans z);have b:rf (q::qs) k=rf qs k:=by simp[rf,dC,g]
   rw[HM e,b];exact ih
theorem KV.any{b:List (κ×V)}{g:List (κ×ac)}(r:KV b g)(k:κ):(b.any λc=>decide (c.1=k))=g.any λc=>decide (c.1=k):=by
 unfold KV at r
 induction r with
 |nil=>rfl
 |cons h t ih=>rw[cN,cN,ih,h.1]
theorem KV.repl{c:List (κ×V)}{l:List (κ×ac)}(r:KV c l)(k:κ){y:V}{u:ac}(o:RelV y u):
  KV (c.map λb=>if b.1=k then (b.1,y) else b) (l.map λb=>if b.1=k then (b.1,u) else b):=by
 unfold KV at r ⊢
 induction r with
 |nil=>exact .nil
 |@cons p q ps qs h t ih=>
  rw[aN,aN];refine .cons ?_ ih;obtain⟨g,v⟩:=h;by_cases e:p.1=k
  ·rw[aE e,aE (g.symm.trans e)];exact⟨g,o⟩
  ·rw[aA e,aA (λz=>e (g.trans z))];exact⟨g,v⟩
theorem KV.put{b:List (κ×V)}{c:List (κ×ac)}(r:KV b c)(k:κ){y:V}{u:ac}(g:RelV y u):KV (og b k y) (stored c k u):=by
 unfold og stored;rw[r.any k];by_cases e:(c.any λh=>decide (h.1=k))=true
 ·rw[aE e,aE e];exact r.repl k g
 ·rw[aA e,aA e];exact mQ r ⟨rfl,g⟩
theorem KV.length{b:List (κ×V)}{c:List (κ×ac)}(r:KV b c):b.length=c.length:=fF r
end
theorem GS{P:Program}{w:bw}{k:Key}{u:ac}(r:RelV (kV k) u):(gy P w).is k u=true:=by
 cases k with
 |inl i=>obtain⟨t,e⟩:=(show ∃t,u=iE i t from r);subst e;exact Wf P w i t
 |inr x=>obtain⟨t,e⟩:=(show ∃t,u=iF x t from r);subst e;exact Wr P w x t
theorem OW{P:Program}{w:bw}:∀{b:List Key}{c:List ac},cU (b.map kV) c->ItemsAre (gy P w) b c
 |[],_,r=>by rw[pz]at r;cases r;exact .nil
 |k::b,_,r=>by
  rw[aN]at r;cases r with
  |cons h t=>exact .cons (GS h) (OW t)
abbrev KT(H:Hp):List (List Key×V)->List (List Key×af×ac)->Prop:=iX λp q=>p.1=q.1/\H q.2.1=some (.tup (p.1.map kV))/\RelV p.2 q.2.2
theorem KT.val{H:Hp}{c:List (List Key×V)}{xs:List (List Key×af×ac)}(r:KT H c xs)(k:List Key):nY (pN c k) ((m3 xs k).map (·.2)):=by
 induction r with
 |nil=>exact fj
 |@cons p q ps qs h t ih=>
  obtain⟨l,_,o⟩:=h;by_cases e:p.1=k
  ·have g:q.1=k:=l.symm.trans e;have b:m3 (q::qs) k=some q.2:=by simp[m3,dC,g]
   rw[G9 e,b];exact o
  ·have g:¬ q.1=k:=λz=>e (l.trans z);have b:m3 (q::qs) k=m3 qs k:=by simp[m3,dC,g]
   rw[HM e,b];exact ih
theorem KT.repl{H:Hp}{b:List (List Key×V)}{xs:List (List Key×af×ac)}(r:KT H b xs)(k:List Key){y:V}{u:ac}(o:RelV y u):
  KT H (b.map λg=>if g.1=k then (g.1,y) else g) (xs.map (sM k u)):=by
 induction r with
 |nil=>exact .nil
 |@cons p q ps qs h t ih=>
  rw[aN,aN];refine .cons ?_ ih;obtain⟨c,l,v⟩:=h;unfold sM;by_cases e:p.1=k
  ·rw[aE e,aE (c.symm.trans e)];exact⟨c,l,o⟩
  ·rw[aA e,aA (λz=>e (c.trans z))];exact⟨c,l,v⟩
theorem KT.put{H:Hp}{c:List (List Key×V)}{xs:List (List Key×af×ac)}(r:KT H c xs)(k:List Key){b:af}{y:V}{u:ac}(l:H b=some (.tup (k.map kV)))(g:RelV y u):
  KT H (og c k y) (pC xs k b u):=by
 have e:(c.any λh=>decide (h.1=k))=(m3 xs k).isSome:=by rw[Pd,(r.val k).isSome_eq,oD]
 unfold og pC;rw[e];by_cases q:(m3 xs k).isSome=true
 ·rw[aE q,aE q];exact r.repl k g
 ·rw[aA q,aA q];exact mQ r ⟨rfl,l,g⟩
theorem KT.keeps{H g:Hp}{c:List (List Key×V)}{xs:List (List Key×af×ac)}(r:KT H c xs)(h:∀b ys,H b=some (.tup ys)->g b=some (.tup ys)):KT g c xs:=
 iX.mapP r λ_ _ z=>⟨z.1,h _ _ z.2.1,z.2.2⟩
section
variable{P:Program}{w:bw}{H:Hp}{h:bu}{a:af}
theorem Rb{u:HO}(ok:mD P w H h)(e:Rd H a u):dz P w H h a u:=e.ok ok
theorem GN{b:List (Key×V)}(ok:mD P w H h)(e:Rd H a (.dK b)):b.length<=sizeLine/\(a == fA)=false/\∃c,KV b c/\h.DictOf (gy P w) a c:=
 show dz P w H h a (.dK b) from Rb ok e
theorem Rk{b:List (Key×V)}(ok:mD P w H h)(e:H a=some (.dK b)):b.length<=sizeLine/\(a == fA)=false/\∃c,KV b c/\h.DictOf (gy P w) a c:=GN ok (.inl e)
theorem GK{b:List Key}(ok:mD P w H h)(e:H a=some (.tup (b.map kV))):(si (gy P w)).is h b a:=by
 obtain⟨_,its,r,o,l,g,⟨n,c⟩,_⟩:=(show dz P w H h a (.tup (b.map kV)) from ok a _ e)
 exact⟨o,its.toArray,n,l,g,c,by simpa using OW r⟩
theorem L1{b:List (List Key×V)}(ok:mD P w H h)(e:Rd H a (.dT b)): b.length<=sizeLine/\(a == fA)=false /\
  ∃xs,KT H b xs/\h.DictOfH (si (gy P w)) a xs:=by
 obtain⟨z,y,xs,r,o,G,I,E,C,v,u,g⟩:=(show dz P w H h a (.dT b) from Rb ok e)
 refine⟨z,y,xs,r,o,G,I,E,C,v,u,λx c=>?_,g⟩;have all:∀{l:List (List Key×V)}{m:List (List Key×af×ac)},KT H l m->∀x∈m,(si (gy P w)).is h x.1 x.2.1:=by
  intro l m q
  induction q with
  |nil=>intro x c;cases c
  |@cons p q ps qs hq t ih=>
   intro x c;rcases aI.mp c with e|c
   ·subst e;exact GK ok (by rw[<- hq.1];exact hq.2.1)
   ·exact ih x c
 exact all r x c
theorem UF{b:List (List Key×V)}(ok:mD P w H h)(e:H a=some (.dT b)): b.length<=sizeLine/\(a == fA)=false /\
  ∃xs,KT H b xs/\h.DictOfH (si (gy P w)) a xs:=L1 ok (.inl e)
end
def vG(H:Hp)(a:af)(y:V)(r:Option V):Prop:=
 (∃c k,Rd H a (.dK c)/\y=kV k/\r=pN c k)\/∃c k b,Rd H a (.dT c)/\y=.ref b/\H b=some (.tup (k.map kV))/\r=pN c k
def zQ(H:Hp)(a:af)(y v:V)(g:Hp):Prop:=
 (∃c k,H a=some (.dK c)/\y=kV k/\c.length < sizeLine/\g=eB H a (.dK (og c k v))) \/
 ∃c k b,H a=some (.dT c)/\y=.ref b/\H b=some (.tup (k.map kV))/\c.length < sizeLine/\g=eB H a (.dT (og c k v))
theorem vG.k{H:Hp}{a:af}{b:List (Key×V)}{k:Key}(e:H a=some (.dK b)):vG H a (kV k) (pN b k):=.inl ⟨b,k,.inl e,rfl,rfl⟩
theorem zQ.k{H:Hp}{a:af}{b:List (Key×V)}{k:Key}{v:V}(e:H a=some (.dK b))(c:b.length < sizeLine):zQ H a (kV k) v (eB H a (.dK (og b k v))):=.inl ⟨b,k,e,rfl,c,rfl⟩
section
variable{X:Cx}{ao:List (af×Obj)}{σ:St}{H:Hp}{s:ae}{a:af}{y v:V}{u r:ac}{o:Option V}{A:br}{E:ac->ae->Prop}
theorem ZH{Q:ac->ae->Prop}(hu:A.units+1 < dZ)(I:Inv X ao σ H s)(g:vG H a y (some v))(ry:RelV y u)(h:∀G s',Inv X ao σ H s'->RelV v G->Q G s'):
  aD (aK X.prog X.w) A (nC (.ref a) u) Q E s:=by
 rcases g with ⟨J,k,e,U,l⟩|⟨J,k,b,e,U,eb,l⟩
 ·subst U;obtain⟨z,hd,b,C,Y⟩:=GN I.hok e;obtain⟨G,L,c⟩:=nY.some_of (v:=v) (o:=rf b k) (by rw[l];exact C.val k);exact wpAny_getItem_of (GS ry) Y.mapOf L (h G _ (I.tok _) c)
 ·subst U;cases (show u=ax b from ry);obtain⟨z,hd,xs,C,Y⟩:=L1 I.hok e;obtain⟨G,L,c⟩:=nY.some_of (v:=v) (o:=(m3 xs k).map (·.2)) (by rw[l];exact C.val k);obtain⟨p,g,O⟩:=dY.mp L;refine Cw (qI hu) (GK I.hok eb) Y g ?_;rw[O];exact h G _ (I.tok _) c
theorem Ma{Q:ac->ae->Prop}(hu:A.units+1 < dZ)(I:Inv X ao σ H s)(g:vG H a y o)(L:RelV y u)(h:∀s',Inv X ao σ H s'->Q (.bool o.isSome) s'):
  aD (aK X.prog X.w) A (cz .In u (.ref a)) Q E s:=by
 rcases g with ⟨C,k,e,G,l⟩|⟨C,k,b,e,G,O,l⟩
 ·subst G;obtain⟨z,hd,U,c,J⟩:=GN I.hok e;refine wpAny_in_of (GS L) hd J.mapOf ?_;rw[<- (c.val k).isSome_eq,<- l];exact h _ (I.tok _)
 ·subst G;cases (show u=ax b from L);obtain⟨z,hd,xs,c,J⟩:=L1 I.hok e;refine wpAny_in_heap (qI hu) (GK I.hok O) hd J ?_;have q:=(c.val k).isSome_eq;rw[oD]at q;rw[<- q,<- l];exact h _ (I.tok _)
theorem JU{h':bu}{t':Nat}{ob:HO}(I:Inv X ao σ H s)(c:EI (H a))(hs:eL a s.heap h')(g:∃q,h'.get? a=some q)(new:dz X.prog X.w (eB H a ob) h' a ob):
  Inv X ao σ (eB H a ob) { s with heap:=h',toks:=t' }:=
 I.write (x:=a) (e:=a) c (.inl rfl) (λb q h z=>(hs.2 b h).trans z) g new
theorem VU{P:Program}{w:bw}{l:Hp}{h':bu}{b:List (Key×V)}{c:List (Key×ac)}(z:b.length<=sizeLine)(hd:(a == fA)=false)(g:KV b c)(h:h'.DictOf (gy P w) a c):
  dz P w l h' a (.dK b):=⟨z,hd,c,g,h⟩
theorem Sm{H':Hp}{Q:Unit->ae->Prop}(hu:A.units+1 < dZ)(I:Inv X ao σ H s)(g:zQ H a y v H')(ry:RelV y u)(rv:RelV v r)(h:∀s',Inv X ao σ H' s'->Q () s'):
  aD (aK X.prog X.w) A (qY (.ref a) u r) Q E s:=by
 rcases g with ⟨G,k,e,U,l,Y⟩|⟨G,k,b,e,U,eb,l,Y⟩
 ·subst U Y;obtain⟨z,hd,b,C,o⟩:=Rk I.hok e;have hz:b.length<=sizeLine:=by rw[<- C.length];exact z
  have O:(og G k v).length<=sizeLine:=by have:=Nt G k v;ext
  refine wpAny_setItem_pairs (hsz:=hz) (GS ry) o λh' J hs=>h _ ?_;have c:∃q,h'.get? a=some q:=by obtain ⟨q,_,_,L,_⟩:=J;exact ⟨q,L⟩
  exact JU I (by rw[e];exact fj) hs c (VU O hd (C.put k rv) J)
 ·subst U Y;cases (show u=ax b from ry);obtain⟨z,hd,xs,C,o⟩:=UF I.hok e;have hz:xs.length<=sizeLine:=by rw[<- fF C];exact z
  have O:(og G k v).length<=sizeLine:=by have:=Nt G k v;ext
  refine wpAny_setItem_heap (hsz:=hz) (qI hu) (GK I.hok eb) o λh' J hs=>h _ ?_;obtain⟨q,es,ep,L,Q,H,E,_,l⟩:=J;refine JU I (by rw[e];exact fj) hs ⟨q,L⟩ ⟨O,hd,_,(C.put k eb rv).keeps λc ys g=>?_,q,es,ep,L,Q,H,E,l⟩;rw[fR (Si g e (λz=>(by cases z)))];exact g
end
section
variable{X:Cx}{ao:List (af×Obj)}{σ:St}{H:Hp}{s:ae}{a:af}{bA:List (Key×V)}{k:Key}{u:ac}{A:br}{E:ac->ae->Prop}
theorem Ud{Q:ac->ae->Prop}(I:Inv X ao σ H s)(e:Rd H a (.dK bA))(h:∀t s',Inv X ao σ H s'->Q (.int bA.length t) s'):aD (aK X.prog X.w) A (call (.builtin "len") [.ref a]) Q E s:=by obtain⟨z,hd,g,b,c⟩:=GN I.hok e;refine call_len_dict hd c (by rw[<- b.length];rw[sJ]at z;ext) ?_;rw[<- b.length];exact h _ _ (I.tok _)
end
structure M1(X:Cx)(o:Expr)(m:Str)(bd:Pos)(e:Expr)(ap:Pos):Prop where
 base:cY o m X.env (eval o X.env)=eval o X.env
 few:((di ap (av [e] X.env)).all (λx => !x.1)&&(ke ap (fP [] X.env)).all (λx=>x.1.isSome)
  && decide (([e]:List Expr).length+([]:List eR).length+(if ([]:List eR).isEmpty then 0 else 1) < 30))=true
 line:(bd.endLine == ap.line)=true
 trees:di ap (av [e] X.env)=[(false,eval e X.env)]
structure M2(X:Cx)(o:Expr)(m:Str)(bd:Pos)(e f:Expr)(ap:Pos):Prop where
 base:cY o m X.env (eval o X.env)=eval o X.env
 few:((di ap (av [e,f] X.env)).all (λx => !x.1)&&(ke ap (fP [] X.env)).all (λx=>x.1.isSome)
  && decide (([e,f]:List Expr).length+([]:List eR).length+(if ([]:List eR).isEmpty then 0 else 1) < 30))=true
 line:(bd.endLine == ap.line)=true
 trees:di ap (av [e,f] X.env)=[(false,eval e X.env),(false,eval f X.env)]
end L2
namespace MM
open PySem PySem.Spec PyProof.Rows L2
noncomputable abbrev KI:=Int ⊕ List Int
section
variable{prog:Program}{w:bw}
variable(prog w) in
inductive vm(h:bu):KI->ac->Prop
 |one (i:Int) (t:Tok):vm h (.inl i) (.int i t)
 |row {k:List Int}{b:af}:Cy (pk prog w) h k b->vm h (.inr k) (.ref b)
variable(prog w) in
inductive ny(h:bu):List KI->List ac->Prop
 |nil:ny h [] []
 |cons {k:KI}{v:ac}{ks:List KI}{vs:List ac}:vm prog w h k v->ny h ks vs->ny h (k::ks) (v::vs)
variable(prog w) in
noncomputable def d9(h:bu)(c:List KI)(a:af):Prop:=∃o b n,h.get? a=some o/\o.cls=.type "tuple"/\o.data=.seq b n/\ny prog w h c b.toList
theorem vm.inj{h:bu}{x y:KI}{v:ac}(a:vm prog w h x v)(b:vm prog w h y v):x=y:=by
 cases a with
 |one i t=>cases b;rfl
 |row a=>cases b with
  |row b=>rw[a.inj b]
theorem ny.inj{h:bu}{x y:List KI}{c:List ac}(a:ny prog w h x c)(b:ny prog w h y c):x=y:=by
 induction a generalizing y with
 |nil=>cases b;rfl
 |cons a t ih=>cases b with
  |cons b u=>rw[a.inj b,ih u]
theorem d9.typeIs{s:ae}{b:List KI}{a:af}(x:d9 prog w s.heap b a):s.TypeIs (.ref a) "tuple":=by obtain ⟨o,_,_,c,g,_⟩:=x;exact ⟨o,c,g⟩
theorem d9.inj{h:bu}{a:af}{x y:List KI}(C:d9 prog w h x a)(v:d9 prog w h y a):x=y:=by
 obtain⟨o,g,n,E,_,hd,G⟩:=C;obtain⟨o',c,H,l,_,b,u⟩:=v;cases E.symm.trans l;rw[hd]at b;injection b with h1 _
 subst h1;exact G.inj u
theorem vm.keeps{h h':bu}{d:af}{o:Obj}{c g}(b:h.get? d=some o)(hd:o.data=.dict c g)(hs:eL d h h'):∀{x:KI}{v:ac},vm prog w h x v->vm prog w h' x v
 |_,_,.one i t=>.one i t
 |_,_,.row a=>.row (a.keeps b hd hs)
theorem ny.keeps{h h':bu}{d:af}{o:Obj}{g l}(c:h.get? d=some o)(hd:o.data=.dict g l)(hs:eL d h h'){x:List KI}{b:List ac}(r:ny prog w h x b):ny prog w h' x b:=by
 induction x generalizing b with
 |nil=>cases r;exact .nil
 |cons k x ih=>cases r with|cons a t=>exact .cons (a.keeps c hd hs) (ih t)
theorem d9.keeps{h h':bu}{u:List KI}{a d:af}{o:Obj}{G H}(x:d9 prog w h u a)(v:h.get? d=some o)(hd:o.data=.dict G H)(hs:eL d h h'):
  d9 prog w h' u a:=by
 obtain⟨o',b,n,g,E,c,C⟩:=x;have l:a≠d:=by
  rintro rfl
  obtain rfl:o'=o:=bq (g.symm.trans v);rw[hd]at c;exact nomatch c
 exact⟨o',b,n,(hs.2 a l).trans g,E,c,C.keeps v hd hs⟩
def B5:KI->Int
 | .inl i=>hashInt i
 | .inr r=>reduceHash (du (r.map hashInt))
def nZ(b:List KI):Int:=reduceHash (du (b.map B5))
def IR:KI->Nat
 | .inl _=>1
 | .inr r=>r.length+1
def iz:List KI->Nat
 |[]=>0
 |k::ks=>IR k+iz ks
variable{A:br}{E:ac->ae->Prop}{s:ae}
theorem Ms(k:KI):∀(l:List KI),iz (l++[k])=iz l+IR k
 |[]=>by simp[iz]
 |x::l=>by simp[iz,Ms k l];ext
theorem XJ{k:KI}{v:ac}{Q:Int->ae->Prop}(hu:A.units < dZ)(b:vm prog w s.heap k v)(h:Q (B5 k) { s with toks:=s.toks+IR k }):aD (aK prog w) A (pyHash v) Q E s:=by
 cases b with
 |one i t=>exact Gp h
 |row b=>exact wpAny_pyHash_tuple (knd:=pk prog w) hu b h
theorem Z4{x y:KI}{u v:ac}{Q:Bool->ae->Prop}(hu:A.units < dZ)(H:vm prog w s.heap x u)(C:vm prog w s.heap y v)(h:Q (decide (x=y)) s):aD (aK prog w) A (eqBool u v) Q E s:=by
 cases H with
 |one i t=>
  cases C with
  |one j t'=>
   refine Gq ?_;have e:(i == j)=decide ((kR i:KI)=kR j):=by
    by_cases z:i=j
    ·subst z;simp
    ·have G:¬ ((kR i:KI)=kR j):=λq=>z (by injection q);rw[aV G];exact beq_eq_false_iff_ne.mpr z
   first|(rw[e];exact h)|(simpa [e] using h)
  |row h2=>
   obtain⟨o,c,n,g,l,hd,_⟩:=h2;rw[aV (by simp)]at h;exact Gw.int_tuple i t ⟨o,g,l,n,hd⟩ hu prog w E Q h
 |row h1=>
  cases C with
  |one j t'=>
   obtain⟨o,c,n,g,l,hd,_⟩:=h1;rw[aV (by simp)]at h;exact Gw.tuple_int j t' ⟨o,g,l,n,hd⟩ hu prog w E Q h
  |@row k2 b h2=>
   refine wpAny_eqBool_tuple (knd:=pk prog w) hu h1 h2 ?_;simpa using h
theorem UV{c:List KI}{a:af}{Q:Int->ae->Prop}(hu:A.units+1 < dZ)(v:d9 prog w s.heap c a)(h:Q (nZ c) { s with toks:=s.toks+(iz c+1) }):
  aD (aK prog w) A (pyHash (.ref a)) Q E s:=by
 have l:=v.typeIs;obtain⟨o,u,n,C,_,hd,G⟩:=v;unfold pyHash
 first|unfold pyHashByItsType|skip
 first|refine aa (wpAny_cRoomFor_or (.inr (by ext)) ?_)|skip
 refine aa (nK l mj.lookup ?_)
 show aD _ _ (if (some (gF "tuple.__hash__") == some bF)=true then _ else _) Q E s;rw[aA (by rw[beq_builtin_none];exact bx)];refine aa (nK l mj.lookup ?_)
 show aD _ _ (callSpecialIfBoundUnlessNone? (.ref a) "__hash__" _ >>= _) Q E s;refine aa (wpAny_callSpecialIfBoundUnlessNone?_slot l mj (d6 mj l F.entry_tuple_hash ?_ (F.args_tuple_hash_1 _)))
 show aD _ _ (i8 (.ref a) >>= _) _ _ s;refine aa (qJ C hd ?_);refine aa ?_;rw[<- ox];refine m4 _
  (λdB(b:Array Int)s'=>∃done left,c=done++left/\ny prog w s.heap left dB/\b.toList=done.map (B5)/\s'={ s with toks:=s.toks+iz done })
  _ ?_ ?_ _ _ ⟨[],c,rfl,G,rfl,rfl⟩
 ·rintro x dB b s' ⟨done,left,rfl,hl,hb,rfl⟩
  cases hl with
  |@cons k b' ks' _ h1 hl'=>
   refine aa (XJ (k:=k) hu h1 ?_)
   first
    |exact ah ⟨done++[k],ks',by simp,hl',by simp[hb],by simp[Ms,oE]⟩
    |exact aa (ah (ah ⟨done++[k],ks',by simp,hl',by simp[hb],by simp[Ms,oE]⟩))
 ·rintro b s' ⟨done,left,rfl,hl,hb,rfl⟩
  cases hl;rw[bH]at h
  show aD _ _ (retInt (du b.toList)) _ _ _;rw[hb];refine HZ ?_
  show aD _ _ (if (decide (-(2:Int)^63<=du (done.map (B5)))&&decide (du (done.map (B5)) < 2^63))=true then _ else _) Q E _;unfold nZ reduceHash at h;by_cases g:(decide (-(2:Int)^63<=du (done.map (B5)))&&decide (du (done.map (B5)) < 2^63))=true
  ·rw[aE g];rw[aE g]at h;exact ah (by simpa [oE] using h)
  ·rw[aA g];rw[aA g]at h;exact aa (e8 (ah (by simpa [oE] using h)))
theorem SQ{x y:List KI}{a b:af}{P:Fin->ae->Prop}(hu:A.units < dZ)(hx:d9 prog w s.heap x a)(hy:d9 prog w s.heap y b)(h:P (.done (.ret (.bool (decide (x=y))))) s):
  aD (aK prog w) A (Builtin.«tuple.__eq__» ⟨[.ref a,.ref b],[]⟩) P E s:=by
 have Y:=hy.typeIs;obtain⟨oa,xs,na,I,_,U,O⟩:=hx;obtain⟨ob,ys,nb,H,_,Q,L⟩:=hy
 show aD _ _ (kI (.ref b) (.type "tuple") >>= _) _ _ s;refine aa (iC Y oy ?_);simp only[iA,bf,if_false];refine aa (qJ I U ?_);refine aa (qJ H Q ?_);refine aa ?_;refine m4 _
  (λdB r s'=>r.1=none/\s'=s/\∃G C g c,dB=List.zip g c/\ny prog w s.heap G g/\ny prog w s.heap C c/\decide (G=C)=decide (x=y)/\(g.length == c.length)=(xs.size == ys.size))
  _ ?_ ?_ _ _ ⟨rfl,rfl,x,y,xs.toList,ys.toList,rfl,O,L,rfl,by simp⟩
 ·rintro ⟨u,v⟩ dB r s' ⟨hr,rfl,G,C,g,c,hz,hx',hy',hdec,hlen⟩
  cases hx' with
  |nil=>simp at hz
  |@cons k1 u' x'' xs'' h1 hx''=>
   cases hy' with
   |nil=>simp at hz
   |@cons k2 v' y'' ys'' h2 hy''=>
    simp only[List.zip_cons_cons,List.cons.injEq,Prod.mk.injEq]at hz;obtain⟨⟨rfl,rfl⟩,rfl⟩:=hz;refine aa (Z4 (x:=k1) (y:=k2) hu h1 h2 ?_);by_cases J:k1=k2
    ·subst J;rw[aP rfl];simp only[iA,bf,if_false];refine ah ⟨rfl,rfl,x'',y'',xs'',ys'',rfl,hx'',hy'',?_,by simpa using hlen⟩;rw[<- hdec];by_cases l:x''=y''
     ·simp[l]
     ·simp[l]
    ·rw[aV J];simp only[Bool.not_false,if_true];have b:decide (x=y)=false:=by rw[<- hdec];simp[J]
     rw[b]at h;exact aa (ah (ah (ah h)))
 ·rintro ⟨r1,r2⟩ s' ⟨hr,rfl,G,C,g,c,hz,hx',hy',hdec,hlen⟩
  simp only at hr;subst hr;refine ah ?_;have o:(xs.size == ys.size)=decide (x=y):=by
   rw[<- hdec,<- hlen];cases hx' with
   |nil=>
    cases hy' with
    |nil=>simp
    |cons _ _=>simp
   |cons _ _=>
    cases hy' with
    |nil=>simp
    |cons _ _=>simp at hz
  show P (.done (.ret (.bool (xs.size == ys.size)))) s';rw[o];exact h
theorem Xn{x y:List KI}{a b:af}{Q:Bool->ae->Prop}(hu:A.units+1 < dZ)(g:d9 prog w s.heap x a)(l:d9 prog w s.heap y b)(h:Q (decide (x=y)) s):
  aD (aK prog w) A (eqBool (.ref a) (.ref b)) Q E s:=by
 unfold eqBool
 try with_reducible refine cB ?_
 show aD _ _ (if (ax a == ax b)=true then _ else _) Q E s;by_cases c:(ax a == ax b)=true
 ·rw[aE c];have e:a=b:=by have:=eq_of_beq c;injection this
  subst e;obtain rfl:=g.inj l;exact aa (e8 (ah (by simpa using h)))
 ·rw[aA c];exact aa (wpAny_richCompare_same_room (op:=.Eq) g.typeIs l.typeIs nh
   (d6 nh g.typeIs F.entry_tuple_eq (SQ (by exact hu) g l ⟨_,rfl,(λe=>(by cases e)),dN h⟩) (F.args_tuple_eq_2 _ _)) (by ext))
theorem Wp{n:Nat}{C:List Int}{a:af}{Q:Bool->ae->Prop}(g:Cy (pk prog w) s.heap C a)(h:Q true s):aD (aK prog w) A (pD (n+1) (.ref a)) Q E s:=by
 have l:=g.typeIs;obtain⟨o,b,n,G,_,hd,H⟩:=g;unfold pD;refine aa (nK l nh.lookup ?_)
 show aD _ _ (kI (.ref a) (.type "tuple") >>= _) _ _ s;refine aa (iC l oy ?_);simp only[iA,bf,if_false];refine aa (eV G hd ?_);refine aa ?_
 show aD _ _ (forIn b _ _) _ _ s;rw[<- ox];refine m4 _ (λdB r s'=>r.1=none/\s'=s/\∀v∈dB,carriedByValue v=true) _ ?_ ?_ _ _ ⟨rfl,rfl,H.byValue⟩
 ·rintro v dB r s' ⟨hr,rfl,hall⟩
  rw[Dv _ (hall v bO)];refine aa (ah ?_);simp only[iA,bf,if_false];exact ah ⟨rfl,rfl,λu c=>hall u (bb _ c)⟩
 ·rintro ⟨r1,r2⟩ s' ⟨hr,rfl,_⟩
  simp only at hr;subst hr;exact ah h
theorem S3{n:Nat}{k:KI}{v:ac}{Q:Bool->ae->Prop}(b:vm prog w s.heap k v)(h:Q true s):aD (aK prog w) A (pD (n+1) v) Q E s:=by
 cases b with
 |one i t=>rw[Dv _ (show carriedByValue (iE i t)=true from rfl)];exact ah h
 |row b=>exact Wp b h
theorem Qc8{c:List KI}{a:af}{Q:Bool->ae->Prop}(g:d9 prog w s.heap c a)(h:Q true s):aD (aK prog w) A (pD 8 (.ref a)) Q E s:=by
 have l:=g.typeIs;obtain⟨o,b,n,u,_,hd,C⟩:=g;unfold pD;refine aa (nK l nh.lookup ?_)
 show aD _ _ (kI (.ref a) (.type "tuple") >>= _) _ _ s;refine aa (iC l oy ?_);simp only[iA,bf,if_false];refine aa (eV u hd ?_);refine aa ?_
 show aD _ _ (forIn b _ _) _ _ s;rw[<- ox];refine m4 _ (λdB r s'=>r.1=none/\s'=s/\∃left,ny prog w s.heap left dB) _ ?_ ?_ _ _ ⟨rfl,rfl,c,C⟩
 ·rintro v dB r s' ⟨hr,rfl,left,hall⟩
  cases hall with
  |cons h1 hl=>
   refine aa (S3 (n:=6) h1 ?_);simp only[iA,bf,if_false];exact ah ⟨rfl,rfl,_,hl⟩
 ·rintro ⟨r1,r2⟩ s' ⟨hr,rfl,_⟩
  simp only at hr;subst hr;exact ah h
end
def sV(prog:Program)(w:bw):z_ prog w (List KI) where
 is:=d9 prog w
 hash:=nZ
 draws:=λl=>iz l+1
 room:=λA=>A.units+1 < dZ
 inj:=λc b=>c.inj b
 keeps:=λx o hd hs=>x.keeps o hd hs
 pyHash:=λhu g h=>UV hu g h
 eqBool:=λhu c b h=>Xn hu c b h
 quiet:=λg h=>Qc8 g h
end MM
namespace MM
open PySem PyProof.Rows
noncomputable def vn(h:bu)(d:af)(n:Nat):Prop:=∃o b,h.get? d=some o/\o.data=.dict b n
section
variable{prog:Program}{w:bw}{K:Type}[DecidableEq K]{knd:z_ prog w K}{A:br}{E:ac->ae->Prop}{s:ae}{d a:af}{k:K}{xs:List (K×af×ac)}
theorem Su{v:ac}{Q:Unit->ae->Prop}(hu:knd.room A)(g:knd.is s.heap k a)(hm:s.heap.DictOfH knd d xs)(hp:vn s.heap d xs.length)(hsz:xs.length<=sizeLine)
  (h:∀h',h'.DictOfH knd d (pC xs k a v)->vn h' d (pC xs k a v).length->eL d s.heap h'->Q () { s with heap:=h',toks:=s.toks+knd.draws k }):
  aD (aK prog w) A (dictSet d (.ref a) v) Q E s:=by
 obtain⟨o,es,ep,c,hc,hd,L,u,I⟩:=id hm;obtain⟨o',es',C,O⟩:=hp;rw[c]at C;cases C;rw[hd]at O;cases O;unfold dictSet;refine cB (aa (knd.pyHash hu g ?_));unfold dictSetHashed;refine cB (aa (wpAny_dictFind_heap (s:={ s with toks:=s.toks+knd.draws k }) hu g c hd L u I (λH=>?_) λj p J=>?_))
 ·have G:k∉xs.map (·.1):=not_mem_keys_of_get H;have e0:=atKey_none_of_get H;have l:=storedH_new (a:=a) (v:=v) e0;have o:=tM L;refine aa (e8 (wpAny_updateDictKeys (hz:=by ext) (s:={ s with toks:=s.toks+knd.draws k }) c hd
   (h _ ⟨_,_,_,bK _ c (kM (ku hd _)),hc.mapDictKeys _,ku hd _,?_,?_,?_⟩ ?_ (dQ ..))))
  ·rw[l];simp[L,qB]
  ·rw[l];intro x b;rcases aZ.mp b with b|b
   ·exact knd.keeps (u x b) c hd (dQ ..)
   ·cases aC.mp b;exact knd.keeps g c hd (dQ ..)
  ·rw[l,bh,xm];refine⟨I,by simp,λx b y U=>?_⟩;cases aC.mp U;exact λe=>G ((show x=k from e) ▸ b)
  ·rw[l,aS];exact⟨_,_,bK _ c (kM (ku hd _)),ku hd _⟩
 ·have e0:=atKey_of_get I J;have l:=storedH_old e0 a v;have G:j < es.size:=by rw[tM L];exact (aq.mp J).1
  have Y:(es.modify j λe=>{ hash:=e.hash,key:=e.key,val:=v }).toList=(xs.map (sM k v)).map (qB knd):=by
   apply pE;intro i;rw[mJ,Array.getElem?_modify,aG,aG];have o:es[i]?=(xs[i]?).map (qB knd):=by rw[<- mJ,L,aG]
   rw[o];by_cases z:j=i
   ·subst z;rw[aE rfl,J];simp[sM,qB]
   ·rw[aA z];cases b:xs[i]? with
    |none=>rfl
    |some x=>
     have g:x.1≠k:=λq=>by
      have E:(xs.map (·.1))[i]?=some k:=by rw[aG,b,<- q];rfl
      have C:(xs.map (·.1))[j]?=some k:=by rw[aG,J];rfl
      exact z ((pF (by rw[ai];exact (aq.mp J).1) I).mp (C.trans E.symm))
     simp[sM,g]
  refine aa (e8 (aa (wpAny_updateDict (s:={ s with toks:=s.toks+knd.draws k }) c hd (wpAny_point
   (h _ ⟨_,_,_,bK _ c (kM (mq hd _)),hc.mapDict _,mq hd _,?_,?_,?_⟩ ?_ (dQ ..))))))
  ·rw[l];exact Y
  ·rw[l];intro x b;obtain⟨y,U,e⟩:=cZ.mp b;have q:=knd.keeps (u y U) c hd (dQ s.heap d (Obj.mapDict λx=>x.modify j λe=>{ hash:=e.hash,key:=e.key,val:=v }));rw[<- e];unfold sM;split
   ·exact q
   ·exact q
  ·rw[l,iQ];have:(xs.map ((λx=>x.1)∘sM k v))=xs.map (·.1):=List.map_congr_left λx _=>by show (sM k v x).1=x.1;unfold sM;split<;>rfl
   rw[this];exact I
  ·rw[l,ai];exact⟨_,_,bK _ c (kM (mq hd _)),mq hd _⟩
theorem VC{v:ac}{Q:Unit->ae->Prop}(hu:knd.room A.in1)(b:knd.is s.heap k a)(c:s.heap.DictOfH knd d xs)(g:vn s.heap d xs.length)(hsz:xs.length<=sizeLine)
  (h:∀h',h'.DictOfH knd d (pC xs k a v)->vn h' d (pC xs k a v).length->eL d s.heap h'->Q () { s with heap:=h',toks:=s.toks+knd.draws k }):
  aD (aK prog w) A (qY (.ref d) (.ref a) v) Q E s:=by
 have T:=c.typeIs;unfold qY;refine cB (aa (q_ T (by decide) (aa (cV T xX (d6 xX T F.entry_dict_setitem ?_ (F.args_dict_setitem_3 _ _ _))))));unfold Builtin.«dict.__setitem__»;refine aa (wpAny_notOrdered_dict T ?_);rw[aA (by simp)]
 show aD _ _ (dictSet d (.ref a) v >>= _) _ _ s;refine aa (Su hu b c g hsz λh' u o l=>ah ⟨_,rfl,ah (h h' u o l)⟩)
end
end MM
namespace MM
open PySem
inductive D where
 |non|bl (b:Bool)|int (i:Int)|str (x:Str)|tup (ds:List D)|lit (ds:List D)|ref (n:Nat)|dic (n:Nat)|exn (x:Str) (ds:List D)|fn (n:Nat)
inductive tq where
 |lam (e:Gx)|dfn (s:PySem.Stmt)
inductive MO where
 |lst (ds:List D)|dct (b:Bool) (bA:List (D×D))|lam (e:Gx)|tbl (x w:Str)|dcf (bA:List (D×D))|clo (c:tq) (vs:List D)|ded
noncomputable abbrev aT:=List MO
noncomputable abbrev U_:=D
inductive Rs(α:Type) where
 |ok (a:α) (s:aT)|exc (x:U_) (s:aT)|bad
def M(α:Type):=aT->Rs α
section
variable{α β:Type}
noncomputable def ret(a:α):M α:=λs=>.ok a s
noncomputable def bnd(m:M α)(f:α->M β):M β:=λs=>match m s with
 | .ok a s'=>f a s'
 | .exc x s'=>.exc x s'
 | .bad=>.bad
noncomputable def bad:M α:=λ_=>.bad
@[irreducible] def chk(c:Prop)[Decidable c](m:M α):M α:=if c then m else bad
end
noncomputable abbrev Loc:=List (Option D)
abbrev CE:=Loc->M D
abbrev CT:=Loc->M Bool
abbrev CA:=Loc->M (List D)
inductive o_ where
 |next (l:Loc)|ret (d:D)|brk (l:Loc)|cnt (l:Loc)
abbrev CS:=Loc->M o_
noncomputable def eK:Nat:=2^24
noncomputable def alloc(o:MO):M D:=λs=>.ok (.ref s.length) (s++[o])
def getL(n:Nat):M (List D):=λs=>match s[n]? with
 |some (.lst ds)=>.ok ds s
 |_=>.bad
def putL(n:Nat)(ds:List D):M Unit:=λs=>match s[n]? with
 |some (.lst _)=>.ok () (s.set n (.lst ds))
 |_=>.bad
def getDc(n:Nat):M (Bool×List (D×D)):=λs=>match s[n]? with
 |some (.dct b bA)=>.ok (b,bA) s
 |_=>.bad
def Al(n:Nat)(b:Bool)(g:List (D×D)):M Unit:=λs=>match s[n]? with
 |some (.dct c _)=>if b=c then .ok () (s.set n (.dct b g)) else .bad
 |_=>.bad
mutual
noncomputable def tR:D->D->Bool
 | .int i,.int j=>decide (i=j)
 | .str x,.str y=>decide (x=y)
 | .tup xs,.tup ys=>oK xs ys
 |_,_=>false
noncomputable def oK:List D->List D->Bool
 |[],[]=>true
 |x::xs,y::ys=>tR x y&&oK xs ys
 |_,_=>false
end
noncomputable def qv:List D->Option (List Int)
 |[]=>some []
 | .int i::ds=>(qv ds).map (i::·)
 |_=>none
def n8:List D->Option (List (Int ⊕ List Int))
 |[]=>some []
 | .tup xs::ds=>match qv xs,n8 ds with
  |some r,some rs=>some (.inr r::rs)
  |_,_=>none
 | .int i::ds=>(n8 ds).map (.inl i::·)
 |_=>none
def stK:D->Option (List (Int ⊕ List Int))
 | .tup ds=>n8 ds
 |_=>none
def uc:Bool->D->Bool
 |false,.int _=>true
 |false,.str _=>true
 |true,d=>(stK d).isSome
 |_,_=>false
def vF(b:List (D×D))(k:D):Option D:=(b.find? λp=>tR p.1 k).map (·.2)
def xO(b:List (D×D))(k v:D):List (D×D):=if (b.any λp=>tR p.1 k)=true then b.map λp=>if tR p.1 k=true then (p.1,v) else p else b++[(k,v)]
def itemK(n:Nat)(k:D):M D:=bnd (getDc n) λp=>chk (uc p.1 k=true) (match vF p.2 k with
 |some d=>ret d
 |none=>bad)
def storeK(n:Nat)(k v:D):M Unit:=bnd (getDc n) λp=>chk (uc p.1 k=true/\p.2.length < eK) (Al n p.1 (xO p.2 k v))
def hasK(n:Nat)(k:D):M Bool:=bnd (getDc n) λp=>chk (uc p.1 k=true) (ret (vF p.2 k).isSome)
def AG:D->M (List D)
 | .tup ds=>ret ds
 | .lit ds=>ret ds
 | .ref n=>getL n
 |_=>bad
noncomputable def pO(n:Nat)(i:Int):Option Nat:=if 0<=i then (if i < n then some i.toNat else none) else (if -(n:Int)<=i then some (i+n).toNat else none)
def bQ:D->D->M D
 | .int i,.int j=>ret (.int (i+j))
 | .str x,.str y=>chk (x.length+y.length<=eK) (ret (.str (x++y)))
 | .tup x,.tup y=>chk (x.length+y.length<=eK) (ret (.tup (x++y)))
 | .ref a,.ref b=>bnd (getL a) λx=>bnd (getL b) λy=>chk (x.length+y.length<=eK) (alloc (.lst (x++y)))
 |_,_=>bad
def tL(f:Int->Int->M D):D->D->M D
 | .int i,.int j=>f i j
 |_,_=>bad
theorem Bw(f:Int->Int->M D)(d e:D):(∃i j,d=.int i/\e=.int j)\/tL f d e=bad:=by
 cases d<;>first|exact .inr rfl|skip
 cases e<;>first|exact .inr rfl|exact .inl ⟨_,_,rfl,rfl⟩
def wK:D->D->M D:=tL λi j=>ret (.int (i-j))
noncomputable def rH(i j:Int):Prop:=(-(2^64) < i/\i < 2^64)\/(-(2^64) < j/\j < 2^64)
instance(i j:Int):Decidable (rH i j):=by unfold rH;infer_instance
def mT:D->D->M D:=tL λi j=>chk (rH i j) (ret (.int (i*j)))
def rL:D->D->M D:=tL λi j=>chk (0 < j/\j < 1073741824) (ret (.int (i / j)))
def lL:D->D->M D:=tL λi j=>chk (0 < j) (ret (.int (i % j)))
def wL:D->D->M D:=tL λi j=>chk (0<=j/\j<=1000000/\i.natAbs < 2^64) (ret (.int (i^j.toNat)))
def yF:D->M D
 | .int i=>ret (.int (-i))
 |_=>bad
def zm(p:Int->Int->Bool):D->D->M D:=tL λi j=>ret (.bl (p i j))
def vW:=zm λi j=>decide (i < j)
def tm:=zm λi j=>decide (i<=j)
def wz:=zm λi j=>decide (j < i)
def Dg:=zm λi j=>decide (j<=i)
noncomputable def oj(f:D->D->Option Bool):List D->List D->Option Bool
 |[],[]=>some true
 |x::xs,y::ys=>match f x y with
  |some true=>oj f xs ys
  |some false=>(oj f xs ys).map λ_=>false
  |none=>none
 |_::_,[]=>some false
 |[],_::_=>some false
noncomputable def GR(g:List D->List D->Option Bool):D->D->Option Bool
 | .non,.non=>some true
 | .non,.int _=>some false
 | .bl a,.bl b=>some (a == b)
 | .int _,.non=>some false
 | .int a,.int b=>some (a == b)
 | .str a,.str b=>some (a == b)
 | .tup xs,.tup ys=>g xs ys
 |_,_=>none
def vU:Nat->D->D->Option Bool
 |0,d,e=>GR (λ_ _=>none) d e
 |n+1,d,e=>GR (oj (vU n)) d e
def IC(d e:D):M Bool:=match d,e with
 | .ref a,.ref b=>bnd (getL a) λx=>bnd (getL b) λy=>match (if x.length=y.length then oj (vU 50) x y else some false) with
  |some r=>ret r
  |none=>bad
 | .ref a,.non=>bnd (getL a) λ_=>ret false
 | .non,.ref a=>bnd (getL a) λ_=>ret false
 |d,e=>match vU 50 d e with
  |some r=>ret r
  |none=>bad
def lE(d e:D):M D:=bnd (IC d e) λb=>ret (.bl b)
def Cp(d e:D):M D:=bnd (IC d e) λb=>ret (.bl !b)
def isND:D->M D
 | .non=>ret (.bl true)
 |_=>ret (.bl false)
def dM(ds:List D)(i:Int):M D:=match pO ds.length i with
 |some k=>match ds[k]? with
  |some d=>ret d
  |none=>bad
 |none=>bad
def bz:D->D->M D
 | .tup ds,.int i=>dM ds i
 | .lit ds,.int i=>dM ds i
 | .ref n,.int i=>bnd (getL n) λds=>dM ds i
 | .dic n,k=>itemK n k
 | .str x,.int i=>chk (x.length<=eK) (match pO x.length i with
  |some k=>match x.cps.toList[k]? with
   |some c=>ret (.str ⟨#[c]⟩)
   |none=>bad
  |none=>bad)
 |_,_=>bad
def yC:D->M Bool
 | .non=>ret false
 | .bl b=>ret b
 | .int i=>ret (i != 0)
 | .str x=>chk (x.length<=eK) (ret ((x.length:Int) != 0))
 | .tup ds=>ret (!ds.isEmpty)
 | .lit ds=>ret (!ds.isEmpty)
 | .ref n=>bnd (getL n) λds=>ret (!ds.isEmpty)
 | .dic _=>bad
 | .exn _ _=>bad
 | .fn _=>bad
def am(i:Nat):CE:=λl=>match l[i]? with
 |some (some d)=>ret d
 |_=>bad
def ay(d:D):CE:=λ_=>ret d
def c1(g:D->M D)(a:CE):CE:=λl=>bnd (a l) g
def c2(g:D->D->M D)(a b:CE):CE:=λl=>bnd (a l) λx=>bnd (b l) λy=>g x y
def aY:CA:=λ_=>ret []
def ak(a:CE)(r:CA):CA:=λl=>bnd (a l) λx=>bnd (r l) λxs=>ret (x::xs)
def d8(a:CA):CE:=λl=>bnd (a l) λxs=>chk (xs.length<=eK) (ret (.tup xs))
def ii(f g:D->D->M D)(a b c:CE):CE:=λl=>bnd (a l) λx=>bnd (b l) λy=>bnd (f x y) λz=>match z with
 | .bl true=>bnd (c l) λw=>g y w
 | .bl false=>ret (.bl false)
 |_=>bad
def qV(a b:CE):CE:=λl=>bnd (a l) λx=>match x with
 | .bl true=>b l
 | .bl false=>ret (.bl false)
 |_=>bad
def Nx(a b:CE):CE:=λl=>bnd (a l) λx=>match x with
 | .bl true=>ret (.bl true)
 | .bl false=>b l
 |_=>bad
def vh(a:CE):CE:=λl=>bnd (a l) λx=>match x with
 | .bl b=>ret (.bl !b)
 |_=>bad
def ba(g:List D->M D)(a:CA):CE:=λl=>bnd (a l) g
def kP(a:CE):CT:=λl=>bnd (a l) yC
def cC(a:CE):CT:=λl=>bnd (a l) λx=>match x with
 | .bl b=>ret b
 |_=>bad
def mE(a b:CT):CT:=λl=>bnd (a l) λc=>if c=true then b l else ret false
def n9(a b:CT):CT:=λl=>bnd (a l) λc=>if c=true then ret true else b l
def gz(a:CT):CT:=λl=>bnd (a l) λc=>ret !c
structure Wk where
 ds:List D
 same:aT->Prop
abbrev CI:=Loc->M Wk
open Classical in
def chkS(p:aT->Prop):M Unit:=λs=>if p s then .ok () s else .bad
noncomputable def eQ:aT->Prop:=λ_=>True
noncomputable def qy(n:Nat)(ds:List D):aT->Prop:=λs=>s[n]?=some (.lst ds)
def lx(a:CE):CI:=λl=>bnd (a l) λx=>match x with
 | .tup ds=>ret ⟨ds,eQ⟩
 | .lit ds=>ret ⟨ds,eQ⟩
 | .ref n=>bnd (getL n) λds=>ret ⟨ds,qy n ds⟩
 |_=>bad
noncomputable def gG(lo:Int)(n:Nat):List D:=(dI n).map λk=>.int (lo+(k:Nat))
def iy(a:CE):CI:=λl=>bnd (a l) λx=>match x with
 | .int j=>chk (-(2^62)<=j/\j < 2^62) (ret ⟨gG 0 j.toNat,eQ⟩)
 |_=>bad
def om(a b:CE):CI:=λl=>bnd (a l) λx=>bnd (b l) λy=>match x,y with
 | .int i,.int j=>chk ((-(2^62)<=i/\i < 2^62)/\(-(2^62)<=j/\j < 2^62)) (ret ⟨gG i (j-i).toNat,eQ⟩)
 |_,_=>bad
def qk(a:CE):CI:=λl=>bnd (a l) λx=>match x with
 | .tup ds=>ret ⟨(gG 0 ds.length).zipWith (λi d=>.tup [i,d]) ds,eQ⟩
 |_=>bad
abbrev CG:=D->Loc->M Loc
def aU(i:Nat):CG:=λd l=>ret (l.set i (some d))
def gf:List D->Loc->M Loc
 |[],l=>ret l
 |_,_=>bad
def cm(g:CG)(r:List D->Loc->M Loc):List D->Loc->M Loc
 |d::ds,l=>bnd (g d l) λb=>r ds b
 |_,_=>bad
def fS(n:Nat)(r:List D->Loc->M Loc):CG:=λd l=>match d with
 | .tup ds=>chk (ds.length=n) (r ds l)
 |_=>bad
noncomputable def gL(n:Nat)(caps:List Nat)(l:Loc):Loc:=db n none++caps.map λi=>(l[i]?).join
def collect(g:CG)(t:CT)(e:CE)(same:aT->Prop):List D->Loc->M (List D)
 |[],_=>bnd (chkS same) λ_=>ret []
 |d::ds,l=>bnd (chkS same) λ_=>bnd (g d l) λc=>bnd (t c) λb=>if b=true then bnd (e c) λx=>bnd (collect g t e same ds c) λxs=>ret (x::xs) else collect g t e same ds c
def dR(n:Nat)(caps:List Nat)(i:CI)(g:CG)(t:CT)(e:CE):CA:=λl=>bnd (i l) λw=>chk (w.ds.length<=eK) (collect g t e w.same w.ds (gL n caps l))
noncomputable def gp(n d:Nat):Option Int->Nat
 |none=>d
 |some v=>if v < 0 then (v+(n:Int)).toNat else min v.toNat n
def cutD(xs:List D)(lo b:Option Int):List D:=(xs.drop (gp xs.length 0 lo)).take (gp xs.length xs.length b-gp xs.length 0 lo)
abbrev CO:=Loc->M (Option Int)
def eF:CO:=λ_=>ret none
def dW(a:CE):CO:=λl=>bnd (a l) λx=>match x with
 | .int i=>ret (some i)
 |_=>bad
def d_(a:CE)(lo b:CO):CA:=λl=>bnd (a l) λx=>bnd (lo l) λi=>bnd (b l) λj=>match x with
 | .lit ds=>ret (cutD ds i j)
 | .ref n=>bnd (getL n) λds=>ret (cutD ds i j)
 |_=>bad
def cD:CT:=λ_=>ret true
def bZ(a:CA):CE:=λl=>bnd (a l) λds=>alloc (.lst ds)
def dE(a:CA):CA:=λl=>bnd (a l) λxs=>chk (xs.length<=eK) (ret xs)
def kW(a:CA)(b:CE):CE:=λl=>bnd (a l) λds=>bnd (b l) λi=>match i with
 | .int k=>dM ds k
 |_=>bad
def im(g:List D->M D)(a:CA):CE:=λl=>bnd (a l) g
def aH:CS:=λl=>ret (.next l)
def aF(a b:CS):CS:=λl=>bnd (a l) λf=>match f with
 | .next l'=>b l'
 |f=>ret f
def bY(g:CG)(a:CE):CS:=λl=>bnd (a l) λd=>bnd (g d l) λb=>ret (.next b)
def cH(a:CE):CS:=λl=>bnd (a l) λd=>ret (.ret d)
def iS(a:CE):CS:=λl=>bnd (a l) λ_=>ret (.next l)
def ik(t:CT)(a b:CS):CS:=λl=>bnd (t l) λc=>if c=true then a l else b l
def vz:CS:=λ_=>bad
def kD(g:CG)(b:CS)(same:aT->Prop):List D->CS
 |[],l=>bnd (chkS same) λ_=>ret (.next l)
 |d::ds,l=>bnd (chkS same) λ_=>bnd (g d l) λc=>bnd (b c) λf=>match f with
  | .next l2=>kD g b same ds l2
  | .cnt l2=>kD g b same ds l2
  | .brk l2=>ret (.next l2)
  | .ret d=>ret (.ret d)
def mF(i:CI)(g:CG)(b:CS):CS:=λl=>bnd (i l) λw=>kD g b w.same w.ds l
def vi:o_->M D
 | .ret d=>ret d
 | .next _=>ret .non
 |_=>bad
def bW(n:Nat)(b:CS)(ds:List D):M D:=bnd (b (ds.map some++db (n-ds.length) none)) vi
def nP(o i v:D):M Unit:=match o,i with
 | .ref n,.int k=>bnd (getL n) λds=>match pO ds.length k with
  |some j=>putL n (ds.set j v)
  |none=>bad
 | .dic n,k=>storeK n k v
 |_,_=>bad
def pb(o i:CE):CG:=λv l=>bnd (o l) λy=>bnd (i l) λz=>bnd (nP y z v) λ_=>ret l
def dL:D->M D
 | .tup ds=>ret (.int ds.length)
 | .lit ds=>ret (.int ds.length)
 | .ref n=>bnd (getL n) λds=>ret (.int ds.length)
 | .str x=>chk (x.length<=eK) (ret (.int x.length))
 | .dic n=>bnd (getDc n) λp=>ret (.int p.2.length)
 |_=>bad
def kY(n:Nat)(v:D):M D:=bnd (getL n) λds=>chk (ds.length < eK) (bnd (putL n (ds++[v])) λ_=>ret .non)
def kZ(a b:CE):CE:=λl=>bnd (a l) λx=>match x with
 | .ref n=>bnd (b l) λv=>kY n v
 |_=>bad
def tupleD:D->M D
 | .tup ds=>ret (.tup ds)
 | .lit ds=>ret (.tup ds)
 | .ref n=>bnd (getL n) λds=>ret (.tup ds)
 |_=>bad
noncomputable def tB:D->Option (List String)
 | .non=>some ["NoneType"]
 | .bl _=>some ["bool","int"]
 | .int _=>some ["int"]
 | .str _=>some ["str"]
 | .tup _=>some ["tuple"]
 | .lit _=>some ["list"]
 | .ref _=>some ["list"]
 |_=>none
noncomputable def pj:List D->Option (List Int)
 |[]=>some []
 | .int i::ds=>(pj ds).map (i::·)
 |_=>none
noncomputable def kE:List D->Option (List Bool)
 |[]=>some []
 | .bl b::ds=>(kE ds).map (b::·)
 |_=>none
def rX(ds:List D):M D:=match pj ds with
 |some (n::ns)=>ret (.int (ns.foldl max n))
 |_=>bad
def oJ(ds:List D):M D:=match kE ds with
 |some bs=>ret (.bl (bs.all id))
 |_=>bad
def lF(ds:List D):M D:=ret (.tup ds)
def eY(b:List String)(d:D):M D:=match tB d with
 |some us=>ret (.bl (b.any λt=>us.contains t))
 |none=>bad
noncomputable def me:D->Bool
 | .non=>true
 | .bl _=>true
 | .int _=>true
 | .str _=>true
 |_=>false
noncomputable def tK:D->D->Bool
 | .non,.non=>true
 | .bl a,.bl b=>a == b
 | .bl a,.int b=>(if a then 1 else 0) == b
 | .int a,.bl b=>a == (if b then 1 else 0)
 | .int a,.int b=>a == b
 | .str a,.str b=>a == b
 |_,_=>false
def Cd(x:D)(ds:List D):M D:=chk (me x=true/\ds.all me=true) (ret (.bl (ds.any λd=>tK d x)))
def C7(x y:D):M D:=match y with
 | .dic n=>bnd (hasK n x) λb=>ret (.bl b)
 |y=>bnd (AG y) (Cd x)
def u4(d:D):M D:=bnd (AG d) λds=>alloc (.lst ds)
def nv(t:CT)(b:CS):Nat->CS
 |0=>λ_=>bad
 |n+1 => λl => bnd (t l) λc => if c = true then bnd (b l) λf => match f with
   | .next l2=>nv t b n l2
   | .cnt l2=>nv t b n l2
   | .brk l2=>ret (.next l2)
   | .ret d=>ret (.ret d) else ret (.next l)
open Classical in
def ub(t:CT)(b:CS):CS:=λl s=>if h:∃n,(∀r,nv t b n l s=r->r≠.bad) then nv t b (choose h) l s else .bad
end MM
namespace MM
open PySem PySem.Spec PyProof.Rows L2
abbrev St:=L2.St
def vS(K:aj)(H:Hp)(a:af)(xs:List V):Prop:=
 (∃o,H a=some (.frz o (.lst xs))) \/
  ∃(o:Obj)(its:Array ac)(n:Nat),K.lookup a=some o/\o.cls=.type "list"/\o.dict=none/\o.data=.seq its n/\its.size<=sizeLine/\cU xs its.toList
theorem vS.seq{K:aj}{H:Hp}{a:af}{xs:List V}(h:vS K H a xs):iW K H a xs:=by
 rcases h with ⟨o,h⟩|h
 ·exact .inl (.inr ⟨o,h⟩)
 ·exact .inr h
noncomputable def kO:HO->Nat
 | .lst _=>0
 | .dK _=>1
 | .ext _=>2
 | .tbl _=>4
 |_=>3
abbrev NK:=List KI
def nH(k:NK):Int:=nZ k
def DG(x:NK×af×ac):pB:=⟨nH x.1,.ref x.2.1,x.2.2⟩
def NOk(a:af)(c:List (NK×af×V))(h:bu):Prop:=c.length<=sizeLine/\(a == fA)=false/\∃xs:List (NK×af×ac),iX (λ(p:NK×af×V)(q:NK×af×ac)=>p.1=q.1/\p.2.1=q.2.1/\RelV p.2.2 q.2.2) c xs /\
 ∃o b g,h.get? a=some o/\o.ExactDict/\o.data=.dict b g/\b.toList=xs.map DG/\(xs.map (·.1)).Nodup/\g=xs.length
def wW(a:af)(b:List (NK×af×V)):HO:=.ext (NOk a b)
def Y9(a:af)(c:List (NK×af×V))(h:bu):Prop:=c.length<=sizeLine/\(a == fA)=false/\∃xs:List (NK×af×ac),iX (λ(p:NK×af×V)(q:NK×af×ac)=>p.1=q.1/\p.2.1=q.2.1/\RelV p.2.2 q.2.2) c xs /\
 ∃o b g,h.get? a=some o/\o.ExactDict/\o.data=.dict b g/\b.toList=xs.map DG/\(xs.map (·.1)).Nodup
def Yx(a:af)(b:List (NK×af×V)):HO:=.ext (Y9 a b)
noncomputable def ww(r:List Int):D:=.tup (r.map .int)
def yY:KI->D
 | .inl i=>.int i
 | .inr r=>ww r
def tU(k:NK):D:=.tup (k.map yY)
def pL:Key->D
 | .inl i=>.int i
 | .inr x=>.str x
noncomputable def wJ(x:Str)(b:Array ac):Prop:=x=ag "NoText"\/b[2]?=some bF
mutual
inductive dG(K:aj)(ρ:List af)(H:Hp):V->D->Prop
 |non:dG K ρ H .non .non
 |bl (b:Bool):dG K ρ H (.bl b) (.bl b)
 |int (i:Int):dG K ρ H (.int i) (.int i)
 |str (x:Str):dG K ρ H (.str x) (.str x)
 |tup {a:af}{vs:List V}{ds:List D} (h:kz K H a vs) (r:ce K ρ H vs ds):dG K ρ H (.ref a) (.tup ds)
 |lit {a:af}{vs:List V}{ds:List D} (h:vS K H a vs) (r:ce K ρ H vs ds):dG K ρ H (.ref a) (.lit ds)
 |ref {a:af}{n:Nat} (k:∃o,H a=some o/\kO o=0) (h:ρ[n]?=some a):dG K ρ H (.ref a) (.ref n)
 |dic {a:af}{n:Nat} (k:∃o,H a=some o/\(kO o=1\/kO o=2)) (h:ρ[n]?=some a):dG K ρ H (.ref a) (.dic n)
 |exn0 {a C:af}{x:Str} (g:iL K bN x=some (some (.ref C))) (h:∃o,H a=some (.frz o (.own a))/\o.cls=.ref C):dG K ρ H (.ref a) (.exn x [])
 |exn {a C dx:af}{x f:Str}{v:V}{d:D} (g:iL K bN x=some (some (.ref C))) (h:∃o,H a=some (.frz o (.own a))/\o.cls=.ref C/\o.dict=some dx/\∃vs,o.data=.fields vs/\wJ x vs) (h2:H dx=some (.xd [(f,v)])) (r:dG K ρ H v d):dG K ρ H (.ref a) (.exn x [.str f,d])
 |fn {a:af}{n:Nat} (h:ρ[n]?=some a):dG K ρ H (.ref a) (.fn n)
 |gfn {a:af}{x:Str} (g:iL K bN x=some (some (.ref a))) (h:∃o fd,K.lookup a=some o/\o.data=.func fd):dG K ρ H (.ref a) (.exn x [.non])
inductive ce(K:aj)(ρ:List af)(H:Hp):List V->List D->Prop
 |nil:ce K ρ H [] []
 |cons {v:V}{d:D}{vs:List V}{ds:List D} (r:dG K ρ H v d) (t:ce K ρ H vs ds):ce K ρ H (v::vs) (d::ds)
end
def LQ(K:aj)(ρ:List af)(H:Hp)(v:V):D->Prop
 | .non=>v=.non
 | .bl b=>v=.bl b
 | .int i=>v=.int i
 | .str x=>v=.str x
 | .tup ds=>∃a c,v=.ref a/\kz K H a c/\ce K ρ H c ds
 | .lit ds=>∃a c,v=.ref a/\vS K H a c/\ce K ρ H c ds
 | .ref n=>∃a,v=.ref a/\(∃o,H a=some o/\kO o=0)/\ρ[n]?=some a
 | .dic n=>∃a,v=.ref a/\(∃o,H a=some o/\(kO o=1\/kO o=2))/\ρ[n]?=some a
 | .fn n=>∃a,v=.ref a/\ρ[n]?=some a
 |_=>True
theorem dG.inv{K:aj}{ρ:List af}{H:Hp}{v:V}{d:D}(r:dG K ρ H v d):LQ K ρ H v d:=by
 cases r with
 |non=>rfl
 |bl=>rfl
 |int=>rfl
 |str=>rfl
 |tup h q=>exact⟨_,_,rfl,h,q⟩
 |lit h q=>exact⟨_,_,rfl,h,q⟩
 |ref k h=>exact⟨_,rfl,k,h⟩
 |dic k h=>exact⟨_,rfl,k,h⟩
 |exn0=>trivial
 |exn=>trivial
 |fn h=>exact⟨_,rfl,h⟩
 |gfn=>trivial
noncomputable def qU(H:Hp)(c:af)(q:Str):Prop:=∃b g t,H c=some (.frz b (.frz b (.own c)))/\b.data=.fields g/\g[1]?=some (.str q t)
def Ir(H:Hp)(a:af)(e:Expr):Prop:=∃ps b sc p q c g ct,e=.Lambda ps b sc p/\H a=some (.frz (v9 "<lambda>" q ps b sc [] g c ct) (.own a))/\qU H c q
noncomputable def TabOf(K:aj)(x:Str)(a:af):Prop:=∃f o b c,iL K bN x=some (some (.ref f))/\K.lookup f=some o/\o.data=.func b/\b.code=.ref c/\oZ K c a=true
noncomputable def Lj(x w:Str):Str:=x++".<locals>."++w
def Md(K:aj)(H:Hp)(a:af)(x w:Str):Prop:=TabOf K x a/\∃ps,H a=some (.tbl ps)/\TriplesOk ps.toList/\∀p v,codeAmong p ps.toList=some v->∃c,v=.ref c/\qU H c (Lj x w)
def uZ(K:aj)(ρ:List af)(H:Hp)(p:Str×af)(d:D):Prop:=∃o u v,H p.2=some (.frz o (.frz o (.own p.2)))/\o.data=.cell (some u)/\RelV v u/\dG K ρ H v d
noncomputable def IQ(c:tq)(o:bU)(q:Str)(v:af)(u:List (Str×af)):Prop:=match c with
 | .lam e=>∃ps b sc p h ct,e=.Lambda ps b sc p/\o=PySem.W.kla_fn "<lambda>" q ps b sc u h (.ref v) ct
 | .dfn st=>∃l ps g ds rt E sc C H p G h ct,st=.FunctionDef l ps g ds rt E sc C H p/\o=PySem.W.fnX l q ps g sc u .none .none G h none (.ref v) ct
noncomputable def LB(names:List (Str×ff)):List Str:=((names.filter λy=>y.2 == .free).map (·.1)).reverse
def Io(K:aj)(ρ:List af)(H:Hp)(a:af)(c:tq)(l:List D):Prop:=∃o g q h b,H a=some (.frz o (.own a))/\o.data=.func g/\IQ c g q h b/\qU H h q/\((b.map (·.2)).Nodup/\b.map (·.1)=LB g.scope.names)/\iX (uZ K ρ H) b l
def qR(K:aj)(ρ:List af)(H:Hp)(a:af):MO->Prop
 | .lst ds=>∃g,H a=some (.lst g)/\ce K ρ H g ds
 | .dct false bA=>∃b,H a=some (.dK b)/\iX (λ(p:Key×V)(q:D×D)=>pL p.1=q.1/\dG K ρ H p.2 q.2) b bA
 | .lam e=>Ir H a e
 | .tbl x w=>Md K H a x w
 | .clo c g=>Io K ρ H a c g
 | .ded=>∃o,H a=some (.frz o (.own a))
 | .dcf bA=>∃b,H a=some (Yx a b)/\iX (λ(p:NK×af×V)(q:D×D)=>tU p.1=q.1/\dG K ρ H (.ref p.2.1) q.1/\dG K ρ H p.2.2 q.2) b bA
 | .dct true bA=>∃b,H a=some (wW a b)/\iX (λ(p:NK×af×V)(q:D×D)=>tU p.1=q.1/\dG K ρ H (.ref p.2.1) q.1/\dG K ρ H p.2.2 q.2) b bA
structure SR(K:aj)(ρ:List af)(H:Hp)(st:aT):Prop where
 len:ρ.length=st.length
 nd:ρ.Nodup
 ob:∀(n:Nat)(a:af)(o:MO),ρ[n]?=some a->st[n]?=some o->qR K ρ H a o
noncomputable def LR(K:aj)(ρ:List af)(H:Hp)(σ:St)(l:Loc):Prop:=
 σ.length=l.length/\∀(i:Nat)(d:D),l[i]?=some (some d)->∃v,σ[i]?=some (some v)/\dG K ρ H v d
structure Ex(ρ:List af)(H:Hp)(ρ':List af)(H':Hp):Prop where
 pre:∃τ,ρ'=ρ++τ/\∀a∈τ,H a=none
 fix:∀a o,kO o=3->H a=some o->H' a=some o
 oth:∀a o,a∉ρ->H a=some o->H' a=some o
 knd:∀a o,H a=some o->∃o',H' a=some o'/\kO o'=kO o
structure Up(ρ:List af)(H:Hp)(ρ':List af)(H':Hp):Prop where
 pre:∃τ,ρ'=ρ++τ
 fix:∀a o,kO o=3->H a=some o->H' a=some o
 knd:∀a o,H a=some o->∃o',H' a=some o'/\kO o'=kO o
section
variable{K:aj}{ρ ρ1 ρ2:List af}{H H1 H2:Hp}{st bB:aT}{v:V}{d:D}{vs:List V}{ds:List D}{a:af}
theorem Ex.lst(x:Ex ρ H ρ1 H1)(a:af)(xs:List V)(b:a∉ρ)(h:H a=some (.lst xs)):H1 a=some (.lst xs):=x.oth a _ b h
theorem Ex.trk(x:Ex ρ H ρ1 H1)(a:af)(o:HO)(h:H a=some o):H1 a≠none:=by obtain⟨o',e,_⟩:=x.knd a o h;rw[e];exact λz=>(by cases z)
theorem Ex.up(x:Ex ρ H ρ1 H1):Up ρ H ρ1 H1:=⟨let ⟨τ,e,_⟩:=x.pre;⟨τ,e⟩,x.fix,x.knd⟩
theorem Up.grow{τ:List af}:Up ρ H (ρ++τ) H:=⟨⟨τ,rfl⟩,λ_ _ _ e=>e,λ_ o e=>⟨o,e,rfl⟩⟩
theorem Ex.refl:Ex ρ H ρ H:=⟨⟨[],by simp,by simp⟩,λ_ _ _ e=>e,λ_ _ _ e=>e,λ_ o e=>⟨o,e,rfl⟩⟩
theorem Ex.trans(x:Ex ρ H ρ1 H1)(y:Ex ρ1 H1 ρ2 H2):Ex ρ H ρ2 H2:=by
 obtain⟨τ1,rfl,g⟩:=x.pre;obtain⟨τ2,rfl,E⟩:=y.pre;refine⟨⟨τ1++τ2,by simp,λa b=>?_⟩,λa o no e=>y.fix a o no (x.fix a o no e),λa o c e=>?_,λa o e=>?_⟩
 ·rcases aZ.mp b with b|b
  ·exact g a b
  ·cases q:H a with
   |none=>rfl
   |some o=>exact bc (E a b) (x.trk a o q)
 ·refine y.oth a o (λz=>?_) (x.oth a o c e);rcases aZ.mp z with z|z
  ·exact c z
  ·rw[g a z]at e;cases e
 ·obtain⟨l,I,C⟩:=x.knd a o e;obtain⟨h,G,u⟩:=y.knd a l I;exact⟨h,G,u.trans C⟩
theorem Ex.new{o:HO}(h:H a=none):Ex ρ H ρ (eB H a o):=
 ⟨⟨[],by simp,by simp⟩,λb u _ e=>by rw[fR (p9 e h)];exact e,λb u _ e=>by rw[fR (p9 e h)];exact e,
  λb u e=>⟨u,by rw[fR (p9 e h)];exact e,rfl⟩⟩
theorem Ex.newO{o:HO}(h:H a=none):Ex ρ H (ρ++[a]) (eB H a o):=
 ⟨⟨[a],rfl,λb c=>by rw[aC]at c;rw[c];exact h⟩,(Ex.new (ρ:=ρ) h).fix,(Ex.new (ρ:=ρ) h).oth,(Ex.new (ρ:=ρ) h).knd⟩
theorem Ex.newL{vs:List V}(h:H a=none):Ex ρ H (ρ++[a]) (eB H a (.lst vs)):=Ex.newO h
theorem kz.mono(x:Up ρ H ρ1 H1)(h:kz K H a vs):kz K H1 a vs:=by
 rcases h with h|h
 ·rcases h with h|⟨o,h⟩
  ·exact .inl (.inl (x.fix a _ rfl h))
  ·exact .inl (.inr ⟨o,x.fix a _ rfl h⟩)
 ·exact .inr h
theorem vS.mono(x:Up ρ H ρ1 H1)(h:vS K H a vs):vS K H1 a vs:=by
 rcases h with ⟨o,h⟩|h
 ·exact .inl ⟨o,x.fix a _ rfl h⟩
 ·exact .inr h
theorem E6{α:Type}{l τ:List α}{n:Nat}{a:α}(h:l[n]?=some a):(l++τ)[n]?=some a:=by rw[aJ (aq.mp h).1];exact h
structure yI(K:aj)(ρ:List af)(H:Hp)(ρ1:List af)(H1:Hp):Prop where
 sq:∀{a:af}{vs:List V},kz K H a vs->kz K H1 a vs
 fz:∀{a:af}{vs:List V},vS K H a vs->vS K H1 a vs
 kd:∀{a:af}{o:HO},H a=some o->kO o≠3->∃o',H1 a=some o'/\kO o'=kO o
 rt:∀{n:Nat}{a:af},ρ[n]?=some a->ρ1[n]?=some a
 ow:∀{a C:af},(∃o,H a=some (.frz o (.own a))/\o.cls=.ref C)->∃o,H1 a=some (.frz o (.own a))/\o.cls=.ref C
 ex:∀{a C dx:af}{x:Str},(∃o,H a=some (.frz o (.own a))/\o.cls=.ref C/\o.dict=some dx/\∃vs,o.data=.fields vs/\wJ x vs)->∃o,H1 a=some (.frz o (.own a))/\o.cls=.ref C/\o.dict=some dx/\∃vs,o.data=.fields vs/\wJ x vs
 xd:∀{a:af}{fs:List (Str×V)},H a=some (.xd fs)->H1 a=some (.xd fs)
theorem dG.map(m:yI K ρ H ρ1 H1){v:V}{d:D}(r:dG K ρ H v d):dG K ρ1 H1 v d:=
 dG.rec (motive_1:=λv d _=>dG K ρ1 H1 v d) (motive_2:=λvs ds _=>ce K ρ1 H1 vs ds) .non .bl .int .str (λh _ r=>.tup (m.sq h) r) (λh _ r=>.lit (m.fz h) r)
  (λk h=>.ref (by obtain⟨o,c,b⟩:=k;obtain⟨o',e,k⟩:=m.kd c (by rw[b];decide);exact⟨o',e,k.trans b⟩) (m.rt h))
  (λk h=>.dic (by obtain⟨o,c,b⟩:=k;obtain⟨o',e,k⟩:=m.kd c (by ext);exact⟨o',e,by rw[k];exact b⟩) (m.rt h))
  (λg h=>.exn0 g (m.ow h)) (λg h l _ r=>.exn g (m.ex h) (m.xd l) r) (λh=>.fn (m.rt h))
  (λg h=>.gfn g h)
  .nil (λ_ _ r t=>.cons r t) r
theorem ce.map(m:yI K ρ H ρ1 H1){vs:List V}{ds:List D}(h:ce K ρ H vs ds):ce K ρ1 H1 vs ds:=by
 induction ds generalizing vs with
 |nil=>cases h;exact .nil
 |cons d ds ih=>cases h with|cons r t=>exact .cons (r.map m) (ih t)
theorem Up.rmap(x:Up ρ H ρ1 H1):yI K ρ H ρ1 H1 where
 sq:=kz.mono x
 fz:=vS.mono x
 kd h _:=x.knd _ _ h
 rt h:=by obtain⟨τ,e⟩:=x.pre;rw[e];exact E6 h
 ow:=λg=>by obtain⟨o,h,c⟩:=g;exact⟨o,x.fix _ _ rfl h,c⟩
 ex:=λb=>by obtain⟨o,h,c⟩:=b;exact⟨o,x.fix _ _ rfl h,c⟩
 xd h:=x.fix _ _ rfl h
theorem dG.up(x:Up ρ H ρ1 H1){v:V}{d:D}(r:dG K ρ H v d):dG K ρ1 H1 v d:=r.map x.rmap
theorem ce.up(x:Up ρ H ρ1 H1){vs:List V}{ds:List D}(r:ce K ρ H vs ds):ce K ρ1 H1 vs ds:=r.map x.rmap
theorem dG.mono(r:dG K ρ H v d)(x:Ex ρ H ρ1 H1):dG K ρ1 H1 v d:=r.up x.up
theorem ce.mono(r:ce K ρ H vs ds)(x:Ex ρ H ρ1 H1):ce K ρ1 H1 vs ds:=r.up x.up
theorem ce.length{vs:List V}{ds:List D}(h:ce K ρ H vs ds):vs.length=ds.length:=by
 induction ds generalizing vs with
 |nil=>cases h;rfl
 |cons d ds ih=>cases h with|cons _ t=>simp[ih t]
theorem ce.get{vs:List V}{ds:List D}{i:Nat}{d:D}(h:ce K ρ H vs ds)(e:ds[i]?=some d):∃v,vs[i]?=some v/\dG K ρ H v d:=by
 induction ds generalizing vs i with
 |nil=>cases e
 |cons x ds ih=>
  cases h with
  |cons r t=>
   cases i with
   |zero=>cases e;exact⟨_,rfl,r⟩
   |succ i=>obtain⟨v,c,b⟩:=ih (i:=i) t e;exact⟨v,c,b⟩
theorem ce.app{vs b:List V}{ds c:List D}(h:ce K ρ H vs ds)(q:ce K ρ H b c):ce K ρ H (vs++b) (ds++c):=by
 induction ds generalizing vs with
 |nil=>cases h;exact q
 |cons d ds ih=>cases h with|cons r t=>exact .cons r (ih t)
theorem ce.set{vs:List V}{ds:List D}{v:V}{d:D}(i:Nat)(h:ce K ρ H vs ds)(q:dG K ρ H v d):ce K ρ H (vs.set i v) (ds.set i d):=by
 induction ds generalizing vs i with
 |nil=>cases h;exact .nil
 |cons x ds ih=>
  cases h with
  |cons r t=>
   cases i with
   |zero=>exact .cons q t
   |succ i=>exact .cons r (ih i t)
theorem ce.take{vs:List V}{ds:List D}(n:Nat)(h:ce K ρ H vs ds):ce K ρ H (vs.take n) (ds.take n):=by
 induction ds generalizing vs n with
 |nil=>cases h;rw[Cz,Cz];exact .nil
 |cons x ds ih=>
  cases h with
  |cons r t=>
   cases n with
   |zero=>exact .nil
   |succ n=>exact .cons r (ih n t)
theorem ce.drop{vs:List V}{ds:List D}(n:Nat)(h:ce K ρ H vs ds):ce K ρ H (vs.drop n) (ds.drop n):=by
 induction ds generalizing vs n with
 |nil=>cases h;rw[CB,CB];exact .nil
 |cons x ds ih=>
  cases h with
  |cons r t=>
   cases n with
   |zero=>exact .cons r t
   |succ n=>exact ih n t
theorem LR.mono{σ:St}{l:Loc}(x:Ex ρ H ρ1 H1)(h:LR K ρ H σ l):LR K ρ1 H1 σ l:=
 ⟨h.1,λi d e=>let ⟨v,e1,r⟩:=h.2 i d e;⟨v,e1,r.mono x⟩⟩
theorem SR.at(s:SR K ρ H st){n:Nat}{o:MO}(e:st[n]?=some o):∃a,ρ[n]?=some a/\qR K ρ H a o:=by
 have b:n < ρ.length:=by rw[s.len];exact (aq.mp e).1
 have q:ρ[n]?=some ρ[n]:=ar b;exact⟨_,q,s.ob n _ o q e⟩
theorem SR.seq(s:SR K ρ H st){n:Nat}(e:st[n]?=some (.lst ds)):∃a vs,ρ[n]?=some a/\H a=some (.lst vs)/\ce K ρ H vs ds:=by obtain⟨a,h,vs,q,r⟩:=s.at e;exact⟨a,vs,h,q,r⟩
theorem qR.ex{o:MO}(h:qR K ρ H a o):∃u,H a=some u:=by
 cases o with
 |lam e=>obtain⟨_,_,_,_,_,_,_,_,_,q,_⟩:=h;exact⟨_,q⟩
 |tbl x w=>obtain⟨_,_,q,_⟩:=h;exact⟨_,q⟩
 |dcf bA=>obtain⟨_,q,_⟩:=h;exact⟨_,q⟩
 |clo c vs=>obtain⟨_,_,_,_,_,q,_⟩:=h;exact⟨_,q⟩
 |ded=>obtain⟨_,q⟩:=h;exact⟨_,q⟩
 |lst ds=>obtain⟨vs,q,_⟩:=h;exact⟨_,q⟩
 |dct b bA=>cases b<;>(obtain⟨vs,q,_⟩:=h;exact⟨_,q⟩)
theorem SR.fresh(s:SR K ρ H st)(h:H a=none):a∉ρ:=λz=>by
 obtain⟨n,b⟩:=kl z;have c:n < st.length:=by rw[<- s.len];exact (aq.mp b).1
 obtain⟨u,q⟩:=qR.ex (s.ob n a _ b (ar c));rw[h]at q;cases q
theorem Vp{n:Nat}{xs:List D}{s':aT}(h:getL n st=.ok xs s'):s'=st/\st[n]?=some (.lst xs):=by
 unfold getL at h;cases e:st[n]? with
 |none=>rw[e]at h;cases h
 |some o=>
  rw[e]at h;cases o with
  |lst ds=>cases h;exact⟨rfl,rfl⟩
  |_=>cases h
theorem iX.mapS{α β:Type}{F G:α->β->Prop}:∀{l₁:List α}{l₂:List β},iX F l₁ l₂->(∀a b,F a b->G a b)->iX G l₁ l₂
 |_,_,.nil,_=>.nil
 |_,_,.cons r t,f=>.cons (f _ _ r) (iX.mapS t f)
theorem qU.up{c:af}{q:Str}(x:Up ρ H ρ1 H1)(h:qU H c q):qU H1 c q:=by obtain ⟨b,vs,t,e,r⟩:=h;exact ⟨b,vs,t,x.fix _ _ rfl e,r⟩
theorem uZ.up{p:Str×af}(x:Up ρ H ρ1 H1)(h:uZ K ρ H p d):uZ K ρ1 H1 p d:=by obtain ⟨o,u,v,g,c,b,r⟩:=h;exact ⟨o,u,v,x.fix _ _ rfl g,c,b,r.up x⟩
theorem qR.mono{o:MO}(x:Up ρ H ρ1 H1)(h:qR K ρ H a o)(g:∀u,H a=some u->H1 a=some u):qR K ρ1 H1 a o:=by
 cases o with
 |lam e=>
  obtain⟨ps,b,sc,p,q,c,I,ct,G,E,C⟩:=h;exact⟨ps,b,sc,p,q,c,I,ct,G,g _ E,C.up x⟩
 |tbl y w=>
  obtain⟨t,ps,G,E,C⟩:=h;exact⟨t,ps,g _ G,E,λp v z=>let ⟨c,a,b⟩:=C p v z;⟨c,a,b.up x⟩⟩
 |clo c vs=>
  obtain⟨o,J,q,Y,U,G,E,C,Q,O,L⟩:=h;exact⟨o,J,q,Y,U,g _ G,E,C,Q.up x,O,iX.mapS L λ_ _ z=>z.up x⟩
 |ded=>obtain⟨u,e⟩:=h;exact⟨u,g _ e⟩
 |dcf bA=>
  obtain⟨l,q,r⟩:=h;exact⟨l,g _ q,iX.mapS r λp q z=>⟨z.1,z.2.1.up x,z.2.2.up x⟩⟩
 |lst ds=>
  obtain⟨vs,q,r⟩:=h;exact⟨vs,g _ q,r.up x⟩
 |dct b bA=>
  cases b with
  |false=>
   obtain⟨l,q,r⟩:=h;exact⟨l,g _ q,iX.mapS r λp q z=>⟨z.1,z.2.up x⟩⟩
  |true=>
   obtain⟨l,q,r⟩:=h;exact⟨l,g _ q,iX.mapS r λp q z=>⟨z.1,z.2.1.up x,z.2.2.up x⟩⟩
theorem SR.new{o:HO}(s:SR K ρ H st)(h:H a=none):SR K ρ (eB H a o) st:=
 ⟨s.len,s.nd,λn b ob g c=>qR.mono (o:=ob) (Ex.new (ρ:=ρ) h).up (s.ob n b ob g c) λvs q=>by rw[fR (p9 q h)];exact q⟩
theorem SR.keepO{o':MO}(s:SR K ρ H st)(E:a∉ρ)(r:qR K ρ H a o'):SR K (ρ++[a]) H (st++[o']):=by
 have C:=s.len;have h:∀(n:Nat)(b:af),(ρ++[a])[n]?=some b->(n < ρ.length/\ρ[n]?=some b)\/(n=ρ.length/\b=a):=λn b e=>by
  by_cases c:n < ρ.length
  ·rw[aJ c]at e;exact .inl ⟨c,e⟩
  ·rw[bo (by ext)]at e;have hz:n - ρ.length=0:=by
    cases q:n - ρ.length with
    |zero=>rfl
    |succ k=>rw[q]at e;simp at e
   rw[hz]at e;simp at e;exact .inr ⟨by ext,e.symm⟩
 refine⟨by simp[C],xm.mpr ⟨s.nd,by simp,λx G y u=>?_⟩,λn b o I g=>?_⟩
 ·rw[aC]at u;subst u;exact λz=>E (z ▸ G)
 ·rcases h n b I with ⟨c,l⟩|⟨c,l⟩
  ·rw[aJ (by ext)]at g;exact qR.mono (o:=o) Up.grow (s.ob n b o l g) λ_ q=>q
  ·subst l;have:o=o':=by rw[c,C,bo (az _)]at g;simp at g;exact g.symm
   subst this;exact qR.mono (o:=o) Up.grow r λ_ q=>q
theorem SR.keep(s:SR K ρ H st)(h:H a=some (.lst vs))(b:a∉ρ)(r:ce K ρ H vs ds):SR K (ρ++[a]) H (st++[.lst ds]):=s.keepO b ⟨vs,h,r⟩
theorem SR.putO(s:SR K ρ H st){n:Nat}{o':MO}{u u':HO}(E:n < st.length)(h:ρ[n]?=some a)(hu:H a=some u)(C:kO u≠3)(G:kO u'=kO u)(r:qR K ρ (eB H a u') a o'):
  SR K ρ (eB H a u') (st.set n o')/\Ex ρ H ρ (eB H a u'):=by
 have x:Ex ρ H ρ (eB H a u'):=by
  refine⟨⟨[],by simp,by simp⟩,λb o no q=>?_,λb xs l q=>?_,λb o q=>?_⟩
  ·have:b≠a:=λz=>by subst z;rw[hu]at q;cases q;exact C no
   rw[fR this];exact q
  ·have:b≠a:=λz=>by subst z;exact l (aX h)
   rw[fR this];exact q
  ·by_cases z:b=a
   ·subst z;rw[hu]at q;cases q;exact⟨u',iI,G⟩
   ·exact⟨o,by rw[fR z];exact q,rfl⟩
 refine⟨⟨by simp[s.len],s.nd,λm b o c g=>?_⟩,x⟩;by_cases z:m=n
 ·subst z;rw[h]at c;cases c;rw[bC E]at g;cases g;exact r
 ·rw[bn (dP z)]at g;refine qR.mono (o:=o) x.up (s.ob m b o c g) λI q=>?_;have:b≠a:=λw=>by subst w;exact z ((pF (aq.mp c).1 s.nd).mp (c.trans h.symm))
  rw[fR this];exact q
theorem SR.put(s:SR K ρ H st){n:Nat}{g:List V}(h:n < st.length)(l:ρ[n]?=some a)(c:H a=some (.lst g))(r:ce K ρ H vs ds):
  SR K ρ (eB H a (.lst vs)) (st.set n (.lst ds))/\Ex ρ H ρ (eB H a (.lst vs)):=by
 have u:Up ρ H ρ (eB H a (.lst vs)):=by
  refine⟨⟨[],by simp⟩,λb o no q=>?_,λb o q=>?_⟩
  ·have:b≠a:=λz=>by subst z;rw[c]at q;cases q;cases no
   rw[fR this];exact q
  ·by_cases z:b=a
   ·subst z;rw[c]at q;cases q;exact⟨_,iI,rfl⟩
   ·exact⟨o,by rw[fR z];exact q,rfl⟩
 exact s.putO h l c (by show (0:Nat)≠3;decide) rfl ⟨vs,iI,r.up u⟩
theorem Kg(k:∃o,H a=some o/\kO o=0):∃vs,H a=some (.lst vs):=by
 obtain⟨o,e,b⟩:=k;cases o with
 |lst vs=>exact⟨vs,e⟩
 |_=>cases b
noncomputable def aW{α:Type}(K:aj)(ρ:List af)(H:Hp)(r:Rs α)(R:α->aT->List af->Hp->Prop):Prop:=match r with
 | .ok a st=>∀ρ' H',Ex ρ H ρ' H'->SR K ρ' H' st->R a st ρ' H'
 |_=>False
theorem aW.left{α:Type}{r:Rs α}{R:α->aT->List af->Hp->Prop}(x:Ex ρ H ρ1 H1)(h:aW K ρ H r R):aW K ρ1 H1 r R:=by
 cases r with
 |ok a st=>exact λρ' b y s=>h ρ' b (x.trans y) s
 |exc _ _=>exact h
 |bad=>exact h
theorem aW.imp{α:Type}{r:Rs α}{R c:α->aT->List af->Hp->Prop}(h:aW K ρ H r R)(f:∀a st ρ' b,Ex ρ H ρ' b->SR K ρ' b st->R a st ρ' b->c a st ρ' b):aW K ρ H r c:=by
 cases r with
 |ok a st=>exact λρ' b y s=>f a st ρ' b y s (h ρ' b y s)
 |exc _ _=>exact h
 |bad=>exact h
theorem aW.bnd{α β:Type}{m:M α}{f:α->M β}{R:β->aT->List af->Hp->Prop}(h:aW K ρ H (bnd m f st) R):aW K ρ H (m st) λa b ρ' c=>aW K ρ' c (f a b) R:=by
 unfold MM.bnd at h;cases e:m st with
 |ok a s'=>
  rw[e]at h;exact λρ' c y s=>h.left y
 |exc _ _=>rw[e]at h;exact h
 |bad=>rw[e]at h;exact h
theorem aW.ret{α:Type}{a:α}{R:α->aT->List af->Hp->Prop}(h:aW K ρ H (MM.ret a st) R)(s:SR K ρ H st):R a st ρ H:=h ρ H Ex.refl s
theorem aW.chk{α:Type}{c:Prop}[Decidable c]{m:M α}{R:α->aT->List af->Hp->Prop}(h:aW K ρ H (MM.chk c m st) R):c/\aW K ρ H (m st) R:=by
 unfold MM.chk at h;by_cases b:c
 ·rw[aE b]at h;exact⟨b,h⟩
 ·rw[aA b]at h;exact h.elim
theorem aW.getL{n:Nat}{R:List D->aT->List af->Hp->Prop}(h:aW K ρ H (MM.getL n st) R)(s:SR K ρ H st):∃xs,st[n]?=some (.lst xs)/\R xs st ρ H:=by
 cases e:MM.getL n st with
 |ok xs s'=>
  obtain⟨rfl,q⟩:=Vp e;rw[e]at h;exact⟨xs,q,h ρ H Ex.refl s⟩
 |exc _ _=>rw[e]at h;exact h.elim
 |bad=>rw[e]at h;exact h.elim
def vR(K:aj)(f:CE):TE:=λσ H Q=>∃ρ l st,LR K ρ H σ l/\SR K ρ H st/\aW K ρ H (f l st) λd _ ρ' b=>∀v,dG K ρ' b v d->Q v b
def nM(K:aj)(f:CT):TT:=λσ H Q=>∃ρ l st,LR K ρ H σ l/\SR K ρ H st/\aW K ρ H (f l st) λb _ _ c=>Q b c
def BL(K:aj)(f:CA):TA:=λσ H Q=>∃ρ l st,LR K ρ H σ l/\SR K ρ H st/\aW K ρ H (f l st) λds _ ρ' b=>∀vs,ce K ρ' b vs ds->Q vs b
def DZ(K:aj)(f:CA):TE:=λσ H Q=>∃ρ l st,LR K ρ H σ l/\SR K ρ H st/\aW K ρ H (f l st) λds _ ρ' b=>∀a vs,H a=none->a∉ρ'->b a=some (.lst vs)->ce K ρ' b vs ds->Q (.ref a) b
def vw(K:aj)(c:CS):TS:=λG σ H=>∃ρ l st,LR K ρ H σ l/\SR K ρ H st/\aW K ρ H (c l st) λf _ ρ' b=>match f with
 | .next l'=>∀σ',LR K ρ' b σ' l'->G.nx σ' b
 | .ret d=>∀v,dG K ρ' b v d->G.rt v b
 | .brk l'=>∀σ',LR K ρ' b σ' l'->G.bk σ' b
 | .cnt l'=>∀σ',LR K ρ' b σ' l'->G.ct σ' b
def wo(K:aj)(g:CG):TG:=λv σ H Q=>∃ρ l st d,LR K ρ H σ l/\SR K ρ H st/\dG K ρ H v d/\aW K ρ H (g d l st) λc _ ρ' b=>∀σ',LR K ρ' b σ' c->Q σ' b
def DW(K:aj)(g:List D->Loc->M Loc):y9:=λvs σ H Q=>∃ρ l st ds,LR K ρ H σ l/\SR K ρ H st/\ce K ρ H vs ds/\aW K ρ H (g ds l st) λc _ ρ' b=>∀σ',LR K ρ' b σ' c->Q σ' b
def nU(K:aj)(g:D->D->M D):R2:=λx y H Q=>∃ρ st d e,SR K ρ H st/\dG K ρ H x d/\dG K ρ H y e/\aW K ρ H (g d e st) λr _ ρ' b=>∀v,dG K ρ' b v r->Q v b
def xI(K:aj)(g:D->M D):V->Hp->VK->Prop:=λx H Q=>∃ρ st d,SR K ρ H st/\dG K ρ H x d/\aW K ρ H (g d st) λr _ ρ' b=>∀v,dG K ρ' b v r->Q v b
def YS(K:aj)(g:List D->M D):List V->Hp->VK->Prop:=λxs H Q=>∃ρ st ds,SR K ρ H st/\ce K ρ H xs ds/\aW K ρ H (g ds st) λr _ ρ' b=>∀v,dG K ρ' b v r->Q v b
def mU(K:aj)(n:Nat)(g:List D->M D):Sp:=λvs H Q _=>vs.length=n/\YS K g vs H Q
end
section
variable{X:Cx}{a b c:Expr}{pos:Pos}
abbrev SE(X:Cx)(e:Expr)(f:CE):Prop:=PE X e (vR X.K f)
abbrev SL(X:Cx)(e:Expr)(f:CA):Prop:=PE X e (DZ X.K f)
abbrev ST(X:Cx)(e:Expr)(f:CT):Prop:=PT X e (nM X.K f)
abbrev SA(X:Cx)(g:List Expr)(f:CA):Prop:=PA X g (BL X.K f)
abbrev SS(X:Cx)(s:Stmt)(f:CS):Prop:=PS X s (vw X.K f)
abbrev vX(X:Cx)(s:List Stmt)(f:CS):Prop:=PSs X s (vw X.K f)
theorem _root_.L2.PE.of{e:Expr}{t t':TE}(h:PE X e t)(f:∀σ H Q,t' σ H Q->t σ H Q):PE X e t':=λg s σ H Q I q=>h g s σ H Q I (f σ H Q q)
theorem _root_.L2.PT.of{e:Expr}{t t':TT}(h:PT X e t)(f:∀σ H Q,t' σ H Q->t σ H Q):PT X e t':=λg s σ H Q I q=>h g s σ H Q I (f σ H Q q)
theorem _root_.L2.PA.of{e:List Expr}{t t':TA}(h:PA X e t)(f:∀σ H Q,t' σ H Q->t σ H Q):PA X e t':=λpos g s σ H Q I q=>h pos g s σ H Q I (f σ H Q q)
theorem _root_.L2.PS.of{e:Stmt}{t t':TS}(h:PS X e t)(f:∀D σ H,t' D σ H->t D σ H):PS X e t':=λg s σ H D I q=>h g s σ H D I (f D σ H q)
theorem _root_.L2.PSs.of{e:List Stmt}{t t':TS}(h:PSs X e t)(f:∀D σ H,t' D σ H->t D σ H):PSs X e t':=λg s σ H D I q=>h g s σ H D I (f D σ H q)
theorem _root_.L2.PG.of{e:Expr}{t t':TG}(h:PG X e t)(f:∀v σ H Q,t' v σ H Q->t v σ H Q):PG X e t':=λg s σ H v u Q I r q=>h g s σ H v u Q I r (f v σ H Q q)
theorem _root_.L2.PGs.of{e:List Expr}{t t':y9}(h:PGs X e t)(f:∀v σ H Q,t' v σ H Q->t v σ H Q):PGs X e t':=λg s σ H v u Q I r q=>h g s σ H v u Q I r (f v σ H Q q)
theorem _root_.L2.OpR.of{f:ac->ac->Sem ac}{r o:R2}(h:OpR X f r)(g:∀x y H Q,o x y H Q->r x y H Q):OpR X f o:=λl s σ H x y v u Q I E C q=>h l s σ H x y v u Q I E C (g x y H Q q)
theorem _root_.L2.CallR.of{f:ac}{r o:List V->Hp->VK->Prop}(h:CallR X f r)(g:∀x H Q,o x H Q->r x H Q):CallR X f o:=λl s σ H x u Q I v q=>h l s σ H x u Q I v (g x H Q q)
variable{fa fb fc:CE}
theorem EJ(i:Nat){x:Str}(h:PE X (.Name x pos) (By i)):SE X (.Name x pos) (am i):=h.of λσ H Q g=>by
 obtain⟨ρ,l,st,C,u,p⟩:=g;unfold am at p;cases e:l[i]? with
 |none=>rw[e]at p;exact p.elim
 |some o=>
  rw[e]at p;cases o with
  |none=>exact p.elim
  |some d=>
   obtain⟨v,E,r⟩:=C.2 i d e;exact⟨v,E,p.ret u v r⟩
theorem Qdf{i:Int}{j:Nat}:SE X (.Constant (.int i) j pos) (ay (.int i)):=(XA (i:=i) (j:=j) (pos:=pos)).of λσ H Q g=>by obtain⟨ρ,l,st,o,h,p⟩:=g;exact p.ret h _ (.int i)
theorem ZB{i:Bool}{j:Nat}:SE X (.Constant (.bool i) j pos) (ay (.bl i)):=(Tf (b:=i) (j:=j) (pos:=pos)).of λσ H Q g=>by obtain⟨ρ,l,st,o,h,p⟩:=g;exact p.ret h _ (.bl i)
theorem Xc{j:Nat}:SE X (.Constant .none j pos) (ay .non):=(WY (j:=j) (pos:=pos)).of λσ H Q g=>by obtain⟨ρ,l,st,o,h,p⟩:=g;exact p.ret h _ .non
theorem Y7{i:Str}{j:Nat}:SE X (.Constant (.str i) j pos) (ay (.str i)):=(W4 (x:=i) (j:=j) (pos:=pos)).of λσ H Q g=>by obtain⟨ρ,l,st,o,h,p⟩:=g;exact p.ret h _ (.str i)
theorem HN{g:D->D->M D}{r:R2}(c:∀x y H Q,nU X.K g x y H Q->r x y H Q):∀σ H Q,vR X.K (c2 g fa fb) σ H Q->FD r (vR X.K fa) (vR X.K fb) σ H Q:=λσ H Q h=>
 by obtain⟨ρ,l,st,E,J,p⟩:=h;exact⟨ρ,l,st,E,J,p.bnd.imp λd C ρ1 H1 I L b v O=>⟨ρ1,l,C,E.mono I,L,b.bnd.imp λe o ρ2 H2 G s2 Y u U=>c _ _ _ _ ⟨ρ2,o,d,e,s2,O.mono G,U,Y⟩⟩⟩
theorem Ta{op:uI}{g:D->D->M D}(l:OpR X (eN op) (nU X.K g))(u:SE X a fa)(o:SE X b fb):SE X (.BinOp a op b pos) (c2 g fa fb):=
 (O5 l u o).of (HN λ_ _ _ _ h=>h)
theorem Zr{op:mZ}{g:D->D->M D}(l:OpR X (cz op) (nU X.K g))(v:SE X a fa)(u:SE X b fb)(o:fY op b=false):SE X (.Compare a [op] [b] pos) (c2 g fa fb):=
 (R6 l v u o).of (HN λ_ _ _ _ h=>h)
end
theorem _root_.Exists.el{α β γ:Type}{A B C:α->β->γ->Prop}{G:Prop}(h:∃a b c,A a b c/\B a b c/\C a b c)(k:∀a b c,A a b c->B a b c->C a b c->G):G:=by obtain⟨ρ,l,st,a,b,c⟩:=h;exact k ρ l st a b c
theorem vR.el{K:aj}{f:CE}{σ:St}{H:Hp}{Q:VK}{C:Prop}(h:vR K f σ H Q)(k:∀ρ l st,LR K ρ H σ l->SR K ρ H st->aW K ρ H (f l st) (λd _ ρ' g=>∀v,dG K ρ' g v d->Q v g)->C):C:=by obtain⟨ρ,l,st,a,b,c⟩:=h;exact k ρ l st a b c
theorem nM.el{K:aj}{f:CT}{σ:St}{H:Hp}{Q:Bool->Hp->Prop}{C:Prop}(h:nM K f σ H Q)(k:∀ρ l st,LR K ρ H σ l->SR K ρ H st->aW K ρ H (f l st) (λb _ _ g=>Q b g)->C):C:=by obtain⟨ρ,l,st,a,b,c⟩:=h;exact k ρ l st a b c
theorem vw.el{K:aj}{c:CS}{σ:St}{H:Hp}{G:Ends}{C:Prop}(h:vw K c G σ H) (k:∀ρ l st,LR K ρ H σ l->SR K ρ H st->aW K ρ H (c l st) (λf _ ρ' g=>match f with
 | .next l'=>∀σ',LR K ρ' g σ' l'->G.nx σ' g
 | .ret d=>∀v,dG K ρ' g v d->G.rt v g
 | .brk l'=>∀σ',LR K ρ' g σ' l'->G.bk σ' g
 | .cnt l'=>∀σ',LR K ρ' g σ' l'->G.ct σ' g)->C):C:=by
 obtain⟨ρ,l,st,a,b,c⟩:=h;exact k ρ l st a b c
end MM
namespace MM
open PySem PySem.Spec PyProof.Rows L2
theorem OO:∀(a b:List Int),oK (a.map .int) (b.map .int)=decide (a=b)
 |[],[]=>by simp[oK]
 |[],_::_=>by simp[oK]
 |_::_,[]=>by simp[oK]
 |x::xs,y::ys=>by
  rw[aN,aN]
  show (tR (.int x) (.int y)&&oK _ _)=_;rw[OO xs ys]
  show (decide (x=y)&&_)=_;simp[qO]
theorem Ve:∀(a b:KI),tR (yY a) (yY b)=decide (a=b)
 | .inl i,.inl j=>by
  show decide (i=j)=_;by_cases z:i=j
  ·subst z;simp
  ·rw[aV z,aV (λq=>z (by injection q))]
 | .inl i,.inr r=>by rw[aV (by simp)];rfl
 | .inr r,.inl i=>by rw[aV (by simp)];rfl
 | .inr r,.inr q=>by
  show oK (r.map .int) (q.map .int)=_;rw[OO];by_cases z:r=q
  ·subst z;simp
  ·rw[aV z,aV (λq=>z (by injection q))]
theorem Oy:∀(a b:List KI),oK (a.map yY) (b.map yY)=decide (a=b)
 |[],[]=>by simp[oK]
 |[],_::_=>by simp[oK]
 |_::_,[]=>by simp[oK]
 |x::xs,y::ys=>by
  rw[aN,aN]
  show (tR (yY x) (yY y)&&oK _ _)=_;rw[Oy xs ys,Ve];simp[qO]
theorem GQ(a b:NK):tR (tU a) (tU b)=decide (a=b):=Oy a b
theorem Jd(a b:Key):tR (pL a) (pL b)=decide (a=b):=by cases a<;>cases b<;>simp[pL,tR]
theorem MS:∀{ds:List D}{r:List Int},qv ds=some r->ds=r.map .int
 |[],r,h=>by simp[qv]at h;subst h;rfl
 |d::ds,r,h=>by
  cases d with
  |int i=>
   unfold qv at h;cases e:qv ds with
   |none=>rw[e]at h;cases h
   |some q=>
    rw[e]at h;cases h;rw[aN,MS e]
  |_=>cases h
theorem J_:∀{ds:List D}{r:NK},n8 ds=some r->ds=r.map yY
 |[],r,h=>by simp[n8]at h;subst h;rfl
 |d::ds,r,h=>by
  cases d with
  |tup xs=>
   unfold n8 at h;cases e:qv xs with
   |none=>rw[e]at h;cases h
   |some q=>
    cases b:n8 ds with
    |none=>rw[e,b]at h;cases h
    |some q2=>
     rw[e,b]at h;cases h;rw[aN,<- J_ b]
     show _=D.tup (q.map .int)::ds;rw[<- MS e]
  |int i=>
   unfold n8 at h;cases b:n8 ds with
   |none=>rw[b]at h;cases h
   |some q2=>
    rw[b]at h;cases h;rw[aN,<- J_ b];rfl
  |_=>cases h
theorem Wt{d:D}{r:NK}(h:stK d=some r):d=tU r:=by
 cases d with
 |tup ds=>show D.tup ds=D.tup _;rw[J_ h]
 |_=>cases h
theorem Ls{d:D}(h:uc true d=true):∃k,d=tU k:=by
 cases e:stK d with
 |none=>
  have:uc true d=(stK d).isSome:=by cases d<;>rfl
  rw[this,e]at h;cases h
 |some k=>exact⟨k,Wt e⟩
theorem K1{d:D}(h:uc false d=true):∃k,d=pL k:=by
 cases d with
 |int i=>exact⟨.inl i,rfl⟩
 |str x=>exact⟨.inr x,rfl⟩
 |_=>cases h
section
variable{X:Cx}{K:aj}{ρ:List af}{H:Hp}{st:aT}{ao:List (af×Obj)}{σ:St}{s:ae}{a b:af}
theorem IB{k:Key}{v:V}(r:dG K ρ H v (pL k)):v=kV k:=by
 cases k with
 |inl i=>cases r;rfl
 |inr x=>cases r;rfl
abbrev KR(K:aj)(ρ:List af)(H:Hp):List (Key×V)->List (D×D)->Prop:=iX λ(p:Key×V)(q:D×D)=>pL p.1=q.1/\dG K ρ H p.2 q.2
def RO(K:aj)(ρ:List af)(H:Hp):Option V->Option D->Prop
 |some v,some d=>dG K ρ H v d
 |none,none=>True
 |_,_=>False
theorem RO.some_of{o:Option V}{d:D}(h:RO K ρ H o (some d)):∃v,o=some v/\dG K ρ H v d:=by
 cases o with
 |none=>exact h.elim
 |some v=>exact⟨v,rfl,h⟩
theorem RO.isSome_eq{o:Option V}{d:Option D}(h:RO K ρ H o d):o.isSome=d.isSome:=by cases o<;>cases d<;>first|rfl|exact h.elim
theorem KR.val{g:List (Key×V)}{c:List (D×D)}(r:KR K ρ H g c)(k:Key):RO K ρ H (pN g k) (vF c (pL k)):=by
 induction r with
 |nil=>exact fj
 |@cons p q ps qs h t ih=>
  obtain⟨o,l⟩:=h;unfold vF;rw[dC,<- o,Jd];by_cases e:p.1=k
  ·rw[G9 e,aP e];exact l
  ·rw[HM e,aV e];exact ih
theorem KR.any{g:List (Key×V)}{c:List (D×D)}(r:KR K ρ H g c)(k:Key):(g.any λl=>decide (l.1=k))=c.any λp=>tR p.1 (pL k):=by
 induction r with
 |nil=>rfl
 |@cons p q ps qs h t ih=>rw[cN,cN,ih,<- h.1,Jd]
theorem KR.put{l:List (Key×V)}{c:List (D×D)}(r:KR K ρ H l c)(k:Key){v:V}{d:D}(g:dG K ρ H v d):KR K ρ H (L2.og l k v) (xO c (pL k) d):=by
 unfold L2.og xO;rw[r.any k];by_cases e:(c.any λp=>tR p.1 (pL k))=true
 ·rw[aE e,aE e];clear e
  induction r with
  |nil=>exact .nil
  |@cons p q ps qs h t ih=>
   rw[aN,aN];refine .cons ?_ ih;rw[<- h.1,Jd];by_cases e:p.1=k
   ·rw[aE e,aE (aP e)];exact⟨rfl,g⟩
   ·rw[aA e,aA (by rw[aV e];exact bx)];exact h
 ·rw[aA e,aA e];exact mQ r ⟨rfl,g⟩
theorem KR.up{ρ1:List af}{h:Hp}(x:Up ρ H ρ1 h){g:List (Key×V)}{c:List (D×D)}(r:KR K ρ H g c):KR K ρ1 h g c:=iX.mapS r λ_ _ z=>⟨z.1,z.2.up x⟩
theorem KR.length{g:List (Key×V)}{c:List (D×D)}(r:KR K ρ H g c):g.length=c.length:=fF r
abbrev NR(K:aj)(ρ:List af)(H:Hp):List (NK×af×V)->List (D×D)->Prop:=iX λ(p:NK×af×V)(q:D×D)=>tU p.1=q.1/\dG K ρ H (.ref p.2.1) q.1/\dG K ρ H p.2.2 q.2
abbrev NX:List (NK×af×V)->List (NK×af×ac)->Prop:=iX λ(p:NK×af×V)(q:NK×af×ac)=>p.1=q.1/\p.2.1=q.2.1/\RelV p.2.2 q.2.2
abbrev Eg(X:Cx):z_ X.prog X.w NK:=sV X.prog X.w
theorem MG{P:Program}{w:bw}:∀{r:List Int}{c:List V}{l:List ac},ce K ρ H c (r.map .int)->cU c l->ItemsAre (pk P w) r l
 |[],_,_,h,g=>by cases h;cases g;exact .nil
 |i::r,_,_,h,g=>by
  cases h with
  |cons h1 ht=>
   cases h1;cases g with
   |cons g1 gt=>
    obtain⟨t,e⟩:=g1;subst e;exact .cons (by show qd i (iE i t)=true;simp[qd]) (MG ht gt)
theorem YL{r:List Int}{v:V}{u:ac}(I:Inv X ao σ H s)(h:dG X.K ρ H v (ww r))(g:RelV v u):∃b,u=.ref b/\Cy (pk X.prog X.w) s.heap r b:=by
 cases h with
 |@tup b vs ds h q=>
  have e:u=ax b:=g;subst e;obtain⟨its,c,⟨o,E,C,n,l⟩,_⟩:=I.tuple h;exact⟨b,rfl,o,its.toArray,n,E,C,l,by simpa using MG q c⟩
theorem QZ(I:Inv X ao σ H s):∀{k:NK}{c:List V}{l:List ac},ce X.K ρ H c (k.map yY)->cU c l->ny X.prog X.w s.heap k l
 |[],_,_,h,g=>by cases h;cases g;exact .nil
 |r::k,_,_,h,g=>by
  cases h with
  |cons h1 ht=>
   cases g with
   |cons g1 gt=>
    refine .cons ?_ (QZ I ht gt);cases r with
    |inl i=>
     cases (show dG X.K ρ H _ (.int i) from h1);obtain⟨t,e⟩:=g1;subst e;exact .one i t
    |inr r=>
     obtain⟨b,e,o⟩:=YL I h1 g1;subst e;exact .row o
theorem GV{k:NK}{v:V}{u:ac}(I:Inv X ao σ H s)(h:dG X.K ρ H v (tU k))(g:RelV v u):∃b,v=.ref b/\u=.ref b/\(Eg X).is s.heap k b:=by
 cases h with
 |@tup b vs ds h q=>
  have e:u=ax b:=g;subst e;obtain⟨its,c,⟨o,E,C,n,l⟩,_⟩:=I.tuple h;exact⟨b,rfl,rfl,o,its.toArray,n,E,C,l,by simpa using QZ I q c⟩
theorem ER{v:List (NK×af×V)}{c:List (D×D)}(I:Inv X ao σ H s)(e:H a=some (wW a v))(r:NR X.K ρ H v c):
  v.length<=sizeLine/\(a == fA)=false/\∃xs,NX v xs/\s.heap.DictOfH (Eg X) a xs/\vn s.heap a xs.length:=by
 obtain⟨⟨z,y,xs,G,o,u,ep,E,O,C,L,J,h6⟩,U,Q⟩:=(show dz X.prog X.w H s.heap a (wW a v) from I.hok a _ e)
 subst h6;refine⟨z,y,xs,G,⟨o,u,_,E,O,C,L,?_,J⟩,⟨o,u,E,C⟩⟩;clear E O C L J e z y U Q
 induction G generalizing c with
 |nil=>intro x l;cases l
 |@cons p q ps qs h t ih=>
  cases r with
  |cons g gt=>
   intro x l;rcases aI.mp l with e|l
   ·subst e;obtain⟨b,c,_,Y⟩:=GV I (by rw[g.1];exact g.2.1) (show RelV (.ref p.2.1) (.ref p.2.1) from rfl);cases c;rw[<- h.1,<- h.2.1];exact Y
   ·exact ih gt x l
theorem RP{O:Hp}{h':bu}{P:Program}{w:bw}{l:List (NK×af×V)}{xs:List (NK×af×ac)}(z:l.length<=sizeLine)(y:(a == fA)=false)(r:NX l xs)(L:h'.DictOfH (sV P w) a xs)(J:vn h' a xs.length):
  dz P w O h' a (wW a l):=by
 obtain⟨o,c,C,g,h,u,G,_,E⟩:=L;obtain⟨Q,I,g1,v⟩:=J;rw[g]at g1;cases g1;rw[u]at v;cases v;refine⟨⟨z,y,xs,r,o,c,_,g,h,u,G,E,rfl⟩,⟨o,g⟩,?_⟩
 rintro g1 g2 ⟨z,y,xs,r,o,c,C,g,h⟩ k
 exact⟨z,y,xs,r,o,c,C,k o g,h⟩
noncomputable def valN(c:List (NK×af×V))(k:NK):Option V:=(c.find? λp=>decide (p.1=k)).map (·.2.2)
noncomputable def putN(c:List (NK×af×V))(k:NK)(b:af)(v:V):List (NK×af×V):=if (c.any λp=>decide (p.1=k))=true then c.map (λp=>if p.1=k then (p.1,p.2.1,v) else p) else c++[(k,b,v)]
theorem NR.val{g:List (NK×af×V)}{c:List (D×D)}(r:NR K ρ H g c)(k:NK):RO K ρ H (valN g k) (vF c (tU k)):=by
 induction r with
 |nil=>exact fj
 |@cons p q ps qs h t ih=>
  obtain⟨o,_,l⟩:=h;unfold vF valN;rw[dC,dC,<- o,GQ];by_cases e:p.1=k
  ·rw[aP e];exact l
  ·rw[aV e];exact ih
theorem NX.val{c:List (NK×af×V)}{xs:List (NK×af×ac)}(r:NX c xs)(k:NK):nY (valN c k) ((m3 xs k).map (·.2)):=by
 induction r with
 |nil=>exact fj
 |@cons p q ps qs h t ih=>
  obtain⟨l,_,g⟩:=h;unfold m3 valN;rw[dC,dC,<- l];by_cases e:p.1=k
  ·rw[aP e];exact g
  ·rw[aV e];exact ih
theorem NX.put{g:List (NK×af×V)}{xs:List (NK×af×ac)}(r:NX g xs)(k:NK)(b:af){v:V}{u:ac}(c:RelV v u):NX (putN g k b v) (pC xs k b u):=by
 have e:(g.any λp=>decide (p.1=k))=(m3 xs k).isSome:=by
  clear c
  induction r with
  |nil=>rfl
  |@cons p q ps qs h t ih=>
   rw[cN,ih];unfold m3;rw[dC,<- h.1];by_cases e:p.1=k
   ·rw[aP e];rfl
   ·rw[aV e];rfl
 unfold putN pC;rw[e];by_cases q:(m3 xs k).isSome=true
 ·rw[aE q,aE q];clear q e
  induction r with
  |nil=>exact .nil
  |@cons p q ps qs h t ih=>
   rw[aN,aN];refine .cons ?_ ih;unfold sM;by_cases e:p.1=k
   ·rw[aE e,aE (h.1.symm.trans e)];exact⟨h.1,h.2.1,c⟩
   ·rw[aA e,aA (λz=>e (h.1.trans z))];exact h
 ·rw[aA q,aA q];exact mQ r ⟨rfl,rfl,c⟩
theorem NR.put{l:List (NK×af×V)}{c:List (D×D)}(r:NR K ρ H l c)(k:NK)(b:af){v:V}{d:D}(o:dG K ρ H (.ref b) (tU k))(g:dG K ρ H v d):NR K ρ H (putN l k b v) (xO c (tU k) d):=by
 have e:(l.any λp=>decide (p.1=k))=c.any λp=>tR p.1 (tU k):=by
  clear o g
  induction r with
  |nil=>rfl
  |@cons p q ps qs h t ih=>rw[cN,cN,ih,<- h.1,GQ]
 unfold putN xO;rw[e];clear e;by_cases e:(c.any λp=>tR p.1 (tU k))=true
 ·rw[aE e,aE e];clear e
  induction r with
  |nil=>exact .nil
  |@cons p q ps qs h t ih=>
   rw[aN,aN];refine .cons ?_ ih;by_cases e:p.1=k
   ·have z:tR q.1 (tU k)=true:=by rw[<- h.1,GQ];exact aP e
    rw[aE e,aE z];exact⟨h.1,h.2.1,g⟩
   ·have z:¬ tR q.1 (tU k)=true:=by rw[<- h.1,GQ,aV e];exact bx
    rw[aA e,aA z];exact h
 ·rw[aA e,aA e];exact mQ r ⟨rfl,o,g⟩
theorem NR.up{ρ1:List af}{h:Hp}(x:Up ρ H ρ1 h){g:List (NK×af×V)}{c:List (D×D)}(r:NR K ρ H g c):NR K ρ1 h g c:=iX.mapS r λ_ _ z=>⟨z.1,z.2.1.up x,z.2.2.up x⟩
theorem NR.length{g:List (NK×af×V)}{c:List (D×D)}(r:NR K ρ H g c):g.length=c.length:=fF r
theorem VQ(c:List (NK×af×V))(k:NK)(b:af)(v:V):(putN c k b v).length<=c.length+1:=by
 unfold putN;split
 ·rw[ai];ext
 ·rw[aS,cQ,fC];ext
theorem TH{n:Nat}{p:Bool×List (D×D)}{s':aT}(h:getDc n st=.ok p s'):s'=st/\st[n]?=some (.dct p.1 p.2):=by
 unfold getDc at h;cases e:st[n]? with
 |none=>rw[e]at h;cases h
 |some o=>
  rw[e]at h;cases o with
  |dct b bA=>cases h;exact⟨rfl,rfl⟩
  |_=>cases h
theorem aW.getDc{n:Nat}{R:Bool×List (D×D)->aT->List af->Hp->Prop}(h:aW K ρ H (MM.getDc n st) R)(s:SR K ρ H st):∃b c,st[n]?=some (.dct b c)/\R (b,c) st ρ H:=by
 cases e:MM.getDc n st with
 |ok xs s'=>
  obtain⟨rfl,q⟩:=TH e;rw[e]at h;exact⟨xs.1,xs.2,q,h ρ H Ex.refl s⟩
 |exc _ _=>rw[e]at h;exact h.elim
 |bad=>rw[e]at h;exact h.elim
theorem XY{b:Bool}{G:List (D×D)}{k d:D}{y:V}{u:ac}{Q:ac->ae->Prop}{E:ac->ae->Prop}{A:br}(hu:A.units+2 < dZ)(I:Inv X ao σ H s)(g:qR X.K ρ H a (.dct b G))(Y:dG X.K ρ H y k)(hk:uc b k=true)(hl:vF G k=some d)(U:RelV y u)
  (h:∀v C s',Inv X ao σ H s'->dG X.K ρ H v d->RelV v C->Q C s'):aD (aK X.prog X.w) A (nC (.ref a) u) Q E s:=by
 cases b with
 |false=>
  obtain⟨es,e,r⟩:=g;obtain⟨k,rfl⟩:=K1 hk;cases IB Y;have q:=KR.val r k;rw[hl]at q;obtain⟨v,O,J⟩:=q.some_of;exact ZH (by ext) I (by have:=vG.k (k:=k) e;rw[O]at this;exact this) U λC s' I' l=>h v C s' I' J l
 |true=>
  obtain⟨es,e,r⟩:=g;obtain⟨k,rfl⟩:=Ls hk;have q:=NR.val r k;rw[hl]at q;obtain⟨v,O,J⟩:=q.some_of;obtain⟨_,hd,xs,rx,dd,de⟩:=ER I e r;obtain⟨c,e2,e3,hc⟩:=GV I Y U;subst e3;obtain⟨C,hw,l⟩:=nY.some_of (v:=v) (o:=(m3 xs k).map (·.2)) (by rw[<- O];exact NX.val rx k);obtain⟨p,hp,L⟩:=dY.mp hw;refine Cw (knd:=Eg X) (show A.in1.units+1 < dZ from hu) hc dd hp ?_;rw[L];exact h v C _ (I.tok _) J l
theorem Z3{b:Bool}{l:List (D×D)}{k:D}{y:V}{u:ac}{Q:ac->ae->Prop}{E:ac->ae->Prop}{A:br}(hu:A.units+2 < dZ)(I:Inv X ao σ H s)(g:qR X.K ρ H a (.dct b l))(v:dG X.K ρ H y k)(C:uc b k=true)(o:RelV y u)
  (h:∀s',Inv X ao σ H s'->Q (.bool (vF l k).isSome) s'):aD (aK X.prog X.w) A (cz .In u (.ref a)) Q E s:=by
 cases b with
 |false=>
  obtain⟨L,e,r⟩:=g;obtain⟨k,rfl⟩:=K1 C;cases IB v;rw[<- (KR.val r k).isSome_eq]at h;exact Ma (by ext) I (vG.k (k:=k) e) o h
 |true=>
  obtain⟨L,e,r⟩:=g;obtain⟨k,rfl⟩:=Ls C;rw[<- (NR.val r k).isSome_eq]at h;obtain⟨_,hd,xs,G,U,de⟩:=ER I e r;obtain⟨c,Y,O,J⟩:=GV I v o;subst O;refine wpAny_in_heap (knd:=Eg X) (show A.in1.units+1 < dZ from hu) J hd U ?_;have q:=(NX.val G k).isSome_eq;rw[oD]at q;rw[<- q];exact h _ (I.tok _)
theorem R3{n:Nat}{b:Bool}{l:List (D×D)}{k d:D}{y v:V}{u r':ac}{Q:Unit->ae->Prop}{E:ac->ae->Prop}{A:br}(hu:A.units+2 < dZ)(I:Inv X ao σ H s)(L:SR X.K ρ H st)(U:ρ[n]?=some a)(hn:st[n]?=some (.dct b l))
  (O:dG X.K ρ H y k) (hk:uc b k=true) (hl:l.length < sizeLine) (rv:dG X.K ρ H v d) (ry:RelV y u) (rr:RelV v r')
  (h:∀H' s',Inv X ao σ H' s'->SR X.K ρ H' (st.set n (.dct b (xO l k d)))->Ex ρ H ρ H'->Q () s'):aD (aK X.prog X.w) A (qY (.ref a) u r') Q E s:=by
 have C:=(aq.mp hn).1;have g:=L.ob n a _ U hn;cases b with
 |false=>
  obtain⟨J,e,r⟩:=g;obtain⟨k,rfl⟩:=K1 hk;cases IB O;have w:=L.putO (o':=.dct false (xO l (pL k) d)) (u':=.dK (L2.og J k v)) C U e (by show (1:Nat)≠3;decide) rfl ⟨_,iI,(KR.put r k rv).up ?_⟩
  ·exact Sm (by ext) I (zQ.k (k:=k) e (by rw[KR.length r];exact hl)) ry rr λs' b=>h _ s' b w.1 w.2
  ·refine⟨⟨[],by simp⟩,λc o no q=>?_,λc o q=>?_⟩
   ·rw[fR λz=>by subst z;rw[e]at q;cases q;cases no];exact q
   ·by_cases z:c=a
    ·subst z;rw[e]at q;cases q;exact⟨_,iI,rfl⟩
    ·exact⟨o,by rw[fR z];exact q,rfl⟩
 |true=>
  obtain⟨J,e,r⟩:=g;obtain⟨k,rfl⟩:=Ls hk;obtain⟨_,hd,xs,rx,dd,de⟩:=ER I e r;obtain⟨c,e2,e3,hc⟩:=GV I O ry;subst e2 e3;have w:=L.putO (o':=.dct true (xO l (tU k) d)) (u':=wW a (putN J k c v)) C U e (by show (2:Nat)≠3;decide) rfl ⟨_,iI,(NR.put r k c O rv).up ?_⟩
  ·have hz : xs.length <= sizeLine := by rw[<- fF rx,NR.length r];ext
   refine VC (knd:=Eg X) (show A.in1.units+1 < dZ from hu) hc dd de hz λh' G Y hs=>h _ _ ?_ w.1 w.2;have g:∃q,h'.get? a=some q:=by obtain ⟨q,_,_,b,_⟩:=G;exact ⟨q,b⟩
   refine JU I (by rw[e];exact fj) hs g (RP ?_ hd (NX.put rx k c rr) G Y);have:=VQ J k c v;rw[NR.length r]at this;ext
  ·refine⟨⟨[],by simp⟩,λc o no q=>?_,λc o q=>?_⟩
   ·rw[fR λz=>by subst z;rw[e]at q;cases q;cases no];exact q
   ·by_cases z:c=a
    ·subst z;rw[e]at q;cases q;exact⟨_,iI,rfl⟩
    ·exact⟨o,by rw[fR z];exact q,rfl⟩
end
noncomputable abbrev sE:ac->ae->Prop:=λ_ _=>False
noncomputable def wC(b:List Expr)(env:Env):Sem Bool:=forIn b true λc r=>if r=true then do let ok <- isTrue c env (eval c env);pure (i9 ok) else pure (i9 r)
section
variable{prog:Program}{w:bw}{A:br}{R:Result->ae->Prop}{s:ae}
theorem Ui{g b iter:Expr}{c:List Expr}{scope:dw}{pos:Pos}{o l:ac}{env:Env}(I:Nat->ae->Prop)
  (turn:∀n s,I n s->aD (aK prog w) A (uH o) (λr s₁=>match r with
   |none=>R (.ok .next) s₁
   |some v => aD (aK prog w) A (lz b o v) (λ_ s₁' => aD (aK prog w) A (mG b env v) (λ_ s₂ =>
     aD (aK prog w) A (wC c env) (λok s₃=>
      if ok=true then aD (aK prog w) A (eval g env) (λx s₄=>
       aD (aK prog w) A (call (.builtin "list.append") [l,x]) (λ_ s₅=>∃m,m < n/\I m s₅) sE s₄) sE s₃
      else ∃m,m < n/\I m s₃) sE s₂) sE s₁') sE s₁) sE s)
  (n:Nat) (h:I n s):kc (aK prog w) A (.compLoop (.ListComp g [⟨b,iter,c,0⟩] scope pos) 0 o l env) R s:=by
 refine codeAny_loop rfl I (λn s u=>?_) n h
 show aD _ A ((compTurn (.ListComp g [⟨b,iter,c,0⟩] scope pos) 0 o l env).onRaise (λx=>do iZ x env;H_ x)) _ _ s;refine wpAny_noted ?_;rw[compTurn_list];refine aa (fX (aa (cc (turn n s u) (λr s₁ h₁=>?_) λ_ _ h'=>h'.elim)));cases r with
 |none=>exact ah h₁
 |some v=>
  refine aa (cc h₁ (λ_ s₁' h₁'=>?_) λ_ _ h'=>h'.elim);refine aa (cc h₁' (λ_ s₂ h₂=>aa (cc h₂ (λok s₃ h₃=>?_) λ_ _ h'=>h'.elim)) λ_ _ h'=>h'.elim);cases ok with
  |false=>exact ah ⟨rfl,h₃⟩
  |true=>
   exact aa (aa (cc h₃ (λx s₄ h₄=>aa (cc h₄ (λ_ s₅ h₅=>ah (ah ⟨rfl,h₅⟩)) λ_ _ h'=>h'.elim)) λ_ _ h'=>h'.elim))
end
noncomputable def kt:List (Str×ff)->List (Str×af)->List (Str×af)->List (Str×af)
 |[],_,acc=>acc
 | (n,k)::r,cells,acc=>kt r cells (if k == .free then (match cells.lookup n with|some c=>(n,c)::acc|none=>acc) else acc)
theorem Ji{env:Env}: ∀(names:List (Str×ff))(acc:List (Str×af)),(∀x,(x,cf)∈names->∃c,env.cells.lookup x=some c) ->
  (forIn names acc λ(x:Str×ff)r=>if (x.2 == cf)=true then (do let a <- cellOf env x.1;pure (i9 ((x.1,a)::r)):Sem _) else pure (i9 r))=(pure (kt names env.cells acc):Sem _)
 |[],acc,_=>rfl
 | (n,k)::r,acc,h=>by
  rw[df];by_cases g:(k == cf)=true
  ·have e:k=.free:=by simpa using g
   subst e;obtain⟨c,l⟩:=h n bO;have q:cellOf env n=pure c:=by unfold cellOf;rw[l]
   simp only[beq_self_eq_true,if_true,q];unfold kt;simp only[beq_self_eq_true,if_true,l];exact Ji r ((n,c)::acc) λx b=>h x (bb _ b)
  ·simp only[g,if_false];unfold kt;simp only[g,if_false];exact Ji r acc λx b=>h x (bb _ b)
theorem Od{scope:dw}{env:Env}(h:∀x,(x,cf)∈scope.names->∃c,env.cells.lookup x=some c):uN scope env=pure (kt scope.names env.cells []):=by have q:=Ji (env:=env) scope.names [] h;simp only[uN];exact bS (λm=>m >>= λcs=>pure cs) q
theorem uA{α:Type}{x y:Str}{v:α}{r:List (Str × α)}(h:x≠y):u_ x ((y,v)::r)=r.lookup x:=by rw[qe];have:(x == y)=false:=beq_eq_false_iff_ne.mpr h;rw[this]
theorem lookup_cons_self{α:Type}{x:Str}{v:α}{r:List (Str × α)}:u_ x ((x,v)::r)=some v:=by rw[qe,beq_self_eq_true]
theorem u5{cells:List (Str×af)}{x:Str}{c:af}:∀(names:List (Str×ff))(acc:List (Str×af)),(kt names cells acc).lookup x=some c->cells.lookup x=some c\/acc.lookup x=some c
 |[],acc,h=>.inr h
 | (n,k)::r,acc,h=>by
  unfold kt at h;rcases u5 r _ h with q|q
  ·exact .inl q
  ·split at q
   ·split at q
    ·rename_i l g;by_cases b:x=n
     ·subst b;rw[lookup_cons_self]at q;cases q;exact .inl g
     ·rw[uA b]at q;exact .inr q
    ·exact .inr q
   ·exact .inr q
theorem EG{cells:List (Str×af)}{x:Str}{c:af}(g:cells.lookup x=some c):∀(names:List (Str×ff))(acc:List (Str×af)),((x,cf)∈names\/acc.lookup x=some c)->(∀d,acc.lookup x=some d->d=c)->(kt names cells acc).lookup x=some c
 |[],acc,h,_=>by
  rcases h with h|h
  ·cases h
  ·exact h
 | (n,k)::r,acc,h,ha=>by
  unfold kt;by_cases l:x=n
  ·subst l;by_cases o:(k == cf)=true
   ·rw[aE o,g];exact EG g r _ (.inr lookup_cons_self) λd hd=>by rw[lookup_cons_self]at hd;cases hd;rfl
   ·rw[aA o];refine EG g r _ ?_ ha;rcases h with h|h
    ·rcases aI.mp h with e|e
     ·cases e;exact bc rfl o
     ·exact .inl e
    ·exact .inr h
  ·have step : ∀b, b.lookup x = acc.lookup x -> (kt r cells b).lookup x = some c := λb e => by
     refine EG g r b ?_ (by rw[e];exact ha);rcases h with h|h
     ·rcases aI.mp h with z|z
      ·cases z;exact bc rfl l
      ·exact .inl z
     ·exact .inr (by rw[e];exact h)
   refine step _ ?_;split
   ·split
    ·exact uA l
    ·rfl
   ·rfl
theorem kq{x:Str}{c:af}:∀(names:List (Str×ff))(n:Nat)(acc:List (Str×af)),(dD n names acc).lookup x=some c->n<=c\/acc.lookup x=some c
 |[],_,_,h=>.inr h
 | (y,k)::r,n,acc,h=>by
  unfold dD at h;split at h
  ·rcases kq r (n+1) _ h with q|q
   ·exact .inl (by ext)
   ·by_cases b:x=y
    ·subst b;rw[lookup_cons_self]at q;cases q;exact .inl (az _)
    ·rw[uA b]at q;exact .inr q
  ·exact kq r n acc h
theorem Kn: ∀(names:List (Str×ff))(n:Nat)(acc:List (Str×af)),(∀x y c,acc.lookup x=some c->acc.lookup y=some c->x=y)->(∀x c,acc.lookup x=some c->c < n) ->
  ∀x y c,(dD n names acc).lookup x=some c->(dD n names acc).lookup y=some c->x=y
 |[],_,_,hi,_=>hi
 | (z,k)::r,n,acc,hi,hb=>by
  unfold dD;split
  ·refine Kn r (n+1) _ (λx y c o b=>?_) (λx c h=>?_)
   ·by_cases l:x=z
    ·subst l;rw[lookup_cons_self]at o;cases o;by_cases g:y=x
     ·exact g.symm
     ·rw[uA g]at b;exact bc (hb y _ b) (cP _)
    ·rw[uA l]at o;by_cases g:y=z
     ·subst g;rw[lookup_cons_self]at b;cases b;exact bc (hb x _ o) (cP _)
     ·rw[uA g]at b;exact hi x y c o b
   ·by_cases l:x=z
    ·subst l;rw[lookup_cons_self]at h;cases h;exact Aa _
    ·rw[uA l]at h;exact iY (hb x c h)
  ·exact Kn r n acc hi hb
theorem kA{x:Str}{c:af}:∀(names:List (Str×ff))(h:bu)(acc:List (Str×af)),(dD h.objs.size names acc).lookup x=some c->acc.lookup x=some c\/((v_ h names).IsCell c none/\h.objs.size<=c)
 |[],_,_,q=>.inl q
 | (y,k)::r,h,acc,q=>by
  unfold dD at q;unfold v_;split at q
  ·rename_i b;rw[aE b];rw[<- dA h { cls:=.type "cell",data:=.cell none }]at q;rcases kA r _ _ q with z|z
   ·by_cases g:x=y
    ·subst g;rw[lookup_cons_self]at z;cases z;refine .inr ⟨?_,az _⟩;refine⟨{ cls:=.type "cell",data:=.cell none },tN r _ _ _ (aR _ rfl),rfl⟩
    ·rw[uA g]at z;exact .inl z
   ·refine .inr ⟨z.1,?_⟩;have:=z.2;rw[dA]at this;ext
  ·rename_i b;rw[aA b];exact kA r h acc q
theorem LL{x:Str}:∀(names:List (Str×ff))(n:Nat)(acc:List (Str×af)),(x,g_)∉names->(dD n names acc).lookup x=acc.lookup x
 |[],_,_,_=>rfl
 | (y,k)::r,n,acc,h=>by
  unfold dD;split
  ·rename_i c;have e:k=.cell:=by simpa using c
   subst e;have b:x≠y:=λz=>h (by rw[z];exact bO);rw[LL r (n+1) _ λz=>h (bb _ z),uA b]
  ·exact LL r n acc λz=>h (bb _ z)
theorem Oq{α β:Type}(f:Str->α->β)(x:Str):∀(l:List (Str × α)),(l.map λp=>(p.1,f p.1 p.2)).lookup x=(l.lookup x).map (f x)
 |[]=>rfl
 | (y,v)::r=>by
  by_cases b:x=y
  ·subst b;rw[aN,lookup_cons_self,lookup_cons_self];rfl
  ·rw[aN,uA b,uA b];exact Oq f x r
theorem CJ(scope:dw)(env:Env)(x:Str):
  (iR scope env).names.lookup x=(scope.names.lookup x).map λk=>if (k == cf&&env.scope.kind == .function&&env.kindOf x == some .cell)=true then .cell else k:=by
 have e:(iR scope env).names=scope.names.map λp=>(p.1,(λ(n:Str)k=>if (k == cf&&env.scope.kind == .function&&env.kindOf n == some .cell)=true then g_ else k) p.1 p.2):=by show scope.names.map _=_;congr 1;funext p;obtain⟨n,k⟩:=p;dsimp only;split<;>rfl
 rw[e];exact Oq (λ(n:Str)k=>if (k == cf&&env.scope.kind == .function&&env.kindOf n == some .cell)=true then g_ else k) x scope.names
theorem ML{M:vZ}{A:br}{E:ac->ae->Prop}{s:ae}{scope:dw}{globals:af}{c:List (Str×af)}{qual:Str}{env:Env}{Q:Env->ae->Prop}
  (h:Q { scope:=scope,locals:=s.heap.objs.size,globals:=globals,cells:=dD (s.heap.objs.size+1) scope.names c,qual:=qual,func:=none,code:=env.code,frame:=env.frame,builtins:=env.builtins }
   { s with heap:=v_ (s.heap.push { cls:=.type "dict",data:=.dict #[] }) scope.names }):aD M A (newFunctionEnv scope globals c [] qual none .none (some env)) Q E s:=by
 simp only[newFunctionEnv,u8,if_true];refine aa (wpAny_alloc ?_);refine aa (wpAny_layCells _ (λname kind cells=>by cases b:kind == g_<;>simp[b]) _ _ _ _ ?_);rw[show ({ s with heap:=s.heap.push { cls:=.type "dict",data:=.dict #[] } }:ae).heap.objs.size=s.heap.objs.size+1 from dA ..];exact aa (ah (ah h))
def iU(X:Cx)(N:List Str)(scope:dw)(b:List af)(s:ae)(H:Hp):Cx where
 prog:=X.prog
 w:=X.w
 K:=X.K
 mg:=X.mg
 base:=X.base
 A:=X.A
 N:=N
 s₀:=s
 H₀:=H
 env:=compEnvC scope (dD (s.heap.objs.size+1) scope.names (kt scope.names X.env.cells [])) s.heap.objs.size X.env
 outer:=X.stack
 stack:=X.stack
 ex:=b
 fn:=λx=>decide (scope.names.lookup x=some .local\/scope.names.lookup x=some .cell)
 calm:=X.calm
 pn:=[]
 xe:=sE
structure fm(X:Cx)(scope:dw):Prop where
 kind:scope.kind=.function
 names:∀x∈scope.names,x.2=.local->scope.names.lookup x.1=some .local
 free:∀x,(x,cf)∈scope.names->X.env.kindOf x=some .cell\/X.env.kindOf x=some .free
 once:∀x,(x,cf)∈scope.names->(x,g_)∉scope.names
 own:∀x,(x,cf)∈scope.names->scope.names.lookup x≠some .local
noncomputable def yD(n:Nat)(ix:List Nat)(σ:St):St:=db n none++ix.map λi=>(σ[i]?).join
structure gj(X:Cx)(scope:dw)(N:List Str)(n:Nat)(ix:List Nat):Prop where
 len:N.length=n+ix.length
 cap:∀(j i:Nat)(x:Str),ix[j]?=some i->N[n+j]?=some x->X.N[i]?=some x/\scope.names.lookup x=some .free
theorem sY{cells:List (Str×af)}{x:Str}{c:af}:∀(names:List (Str×ff))(acc:List (Str×af)),(kt names cells acc).lookup x=some c->(x,cf)∈names\/acc.lookup x=some c
 |[],acc,h=>.inr h
 | (n,k)::r,acc,h=>by
  unfold kt at h;rcases sY r _ h with q|q
  ·exact .inl (bb _ q)
  ·split at q
   ·rename_i g;have e:k=.free:=by simpa using g
    subst e;split at q
    ·by_cases b:x=n
     ·subst b;exact .inl bO
     ·rw[uA b]at q;exact .inr q
    ·exact .inr q
   ·exact .inr q
theorem UH{X:Cx}{scope:dw}{cells:List (Str×af)}{x:Str}{c:af}(h:(kt scope.names cells []).lookup x=some c)(b:scope.names.lookup x=some .local\/scope.names.lookup x=some .cell)(S:fm X scope):False:=by
 rcases sY _ _ h with q|q
 ·rcases b with z|z
  ·exact S.own x q z
  ·exact S.once x q (d7 z)
 ·cases q
section
variable{X:Cx}{ao:List (af×Obj)}{σ:St}{H:Hp}{s:ae}{scope:dw}{N:List Str}{fp:List af}
theorem EH(I:Inv X ao σ H s){x:Str}{c:af}(h:(kt scope.names X.env.cells []).lookup x=some c):X.env.cells.lookup x=some c/\c < s.heap.objs.size/\(∃v,s.heap.IsCell c v)/\H c=none:=by
 rcases u5 _ _ h with q|q
 ·obtain⟨v,z⟩:=I.cell x c q;exact⟨q,z.lt,⟨v,z⟩,I.freeC x c q⟩
 ·cases q
theorem QdU(I:Inv X ao σ H s)(S:fm X scope)(l:∀b∈fp,nR X ao H b)(C:∀b∈fp,b < s.heap.objs.size):(iU X N scope fp s H).Ok:=by
 have inj:∀x y c,(dD (s.heap.objs.size+1) scope.names (kt scope.names X.env.cells [])).lookup x=some c->(dD (s.heap.objs.size+1) scope.names (kt scope.names X.env.cells [])).lookup y=some c->x=y:=
  Kn scope.names _ _ (λx y c h1 h2=>I.ok.inj x y c (EH I h1).1 (EH I h2).1) λx c h=>iY (EH I h).2.1
 refine⟨I.ok.mod,S.kind,I.ok.glob,I.ok.blt,az _,inj,λx hx=>?_,λx c hf E=>?_,I.ok.hd,I.ok.frames,.inl rfl,λb v=>?_,I.bs,bv I.ok.bsz I.sz,λb o e v=>?_,λb v z=>?_,I.stack,I.stkFree⟩
 ·have g:(iR scope X.env).names.lookup x=some .cell\/(iR scope X.env).names.lookup x=some .free:=hx;rw[CJ]at g;cases e:scope.names.lookup x with
  |none=>rw[e]at g;rcases g with z|z<;>cases z
  |some k=>
   refine rN.mp (iJ scope.names _ _ ?_);cases k with
   |cell=>exact .inl e
   |free=>
    have U:=d7 e;obtain⟨c,E⟩:=I.ok.has x (S.free x U);exact .inr (by rw[EG E scope.names [] (.inl U) λd hd=>by cases hd];rfl)
   |_=>
    rw[e]at g;rcases g with z|z<;>(simp at z)
 ·have u:(dD (s.heap.objs.size+1) scope.names (kt scope.names X.env.cells [])).lookup x=some c:=E;rcases kq _ _ _ u with q|q
  ·exact Nat.le_of_succ_le q
  ·exfalso
   have G:scope.names.lookup x=some .local\/scope.names.lookup x=some .cell:=of_decide_eq_true hf;exact UH q G S
 ·obtain⟨f0,Q,O,L,J,Y⟩:=l b v;refine⟨cv (C b v),λx c E z=>?_⟩;have u:(dD (s.heap.objs.size+1) scope.names (kt scope.names X.env.cells [])).lookup x=some c:=E;rcases kq _ _ _ u with q|q
  ·rw[z]at q;exact bc (bp (iY (C b v)) q) (cP _)
  ·exact J x c (EH I q).1 z
 ·obtain⟨f0,Q,O,L,J,Y⟩:=l b v;rcases L with z|z
  ·exact I.ok.noex b o e z
  ·exact bc (bp (bp (aL e) I.ok.bsz) z) (cP _)
 ·obtain⟨f0,Q,O,L,J,Y⟩:=l b v;rcases aI.mp (I.stkSub b z) with q|q
  ·exact Q q
  ·exact O q
noncomputable abbrev m_(h:bu)(scope:dw):bu:=v_ (h.push { cls:=.type "dict",data:=.dict #[] }) scope.names
theorem Lz(h:bu)(scope:dw):∀b o,h.get? b=some o->(m_ h scope).get? b=some o:=λb o e=>tN _ _ b o (aw _ e)
theorem MJ{n:Nat}{ix:List Nat}(I:Inv X ao σ H s)(S:fm X scope)(T:gj X scope N n ix)(O:∀b∈fp,nR X ao H b)(L:∀b∈fp,b < s.heap.objs.size):
  Inv (iU X N scope fp s H) [] (yD n ix σ) H { s with heap:=m_ s.heap scope }:=by
 have kp:=Lz s.heap scope;have G:(m_ s.heap scope).Ns s.heap.objs.size λ_=>none:=(bu.Ns.new s.heap (.type "dict")).keeps (tN _ _);have cells : ∀x c, (dD (s.heap.objs.size+1) scope.names (kt scope.names X.env.cells [])).lookup x = some c ->
   (∃v,(m_ s.heap scope).IsCell c v)/\H c=none:=λx c h=>by
  have h':(dD (s.heap.push { cls:=.type "dict",data:=.dict #[] }).objs.size scope.names (kt scope.names X.env.cells [])).lookup x=some c:=by rw[dA];exact h
  rcases kA _ _ _ h' with q|⟨q,z⟩
  ·obtain⟨_,_,⟨v,b⟩,hn⟩:=EH I q;exact⟨⟨v,b.keeps kp⟩,hn⟩
  ·refine⟨⟨none,q⟩,I.hok.fresh ?_⟩;rw[dA]at z;ext
 refine⟨QdU I S O L,rfl,I.bare,Un.kept kp,⟨_,G,λi x v h1 h2 h3=>?_⟩,λx c h=>(cells x c h).1,I.hok.fresh (az _),λx c h=>(cells x c h).2,λp hp=>bc (show p∈([]:List (af×Obj)) from hp) (by simp),I.hok.kept kp,?_⟩
 ·have U:N[i]?=some x:=h1;have g:(db n none++ix.map λi=>(σ[i]?).join)[i]?=some (some v):=h2;have O:n<=i:=qH λz=>by rw[aJ (by simpa using z),iK]at g;split at g<;>cases g
  rw[bo (by simpa using O),gH,aG]at g;cases e:ix[i-n]? with
  |none=>rw[e]at g;cases g
  |some k=>
   rw[e]at g;have C:(σ[k]?).join=some v:=bq g;have L:σ[k]?=some (some v):=by
    cases q:σ[k]? with
    |none=>rw[q]at C;cases C
    |some o=>rw[q]at C;exact bS some C
   obtain⟨hN,l⟩:=T.cap (i-n) k x e (by rw[show n+(i-n)=i by ext];exact U);have J:=d7 l;have Y:=S.free x J;obtain⟨m,hn,H⟩:=I.loc;obtain⟨u,h,G⟩:=H k x v hN L (by
    rcases Y with z|z
    ·exact .inr (.inl z)
    ·exact .inr (.inr z))
   have E:∃c,X.env.cells.lookup x=some c/\s.heap.IsCell c (some u):=by
    rcases G with ⟨z,_⟩|⟨_,c,Q,q⟩
    ·rcases Y with y|y<;>(rw[y]at z;cases z)
    ·exact⟨c,Q,q⟩
   obtain⟨c,Q,q⟩:=E;refine⟨u,h,.inr ⟨?_,c,?_,q.keeps kp⟩⟩
   ·show (iR scope X.env).names.lookup x=some .cell\/(iR scope X.env).names.lookup x=some .free;rw[CJ,l,km];by_cases b:(cf == cf&&X.env.scope.kind == .function&&X.env.kindOf x == some .cell)=true
    ·rw[aE b];exact .inl rfl
    ·rw[aA b];exact .inr rfl
   ·show (dD (s.heap.objs.size+1) scope.names (kt scope.names X.env.cells [])).lookup x=some c;rw[LL _ _ _ (S.once x J)];exact EG Q scope.names [] (.inl J) λd hd=>by cases hd
 ·show (db n none++ix.map λi=>(σ[i]?).join).length=N.length;rw[aS,gH,ai,T.len]
def qo(G:TI)(n:Nat)(ix:List Nat)(g:TG)(I:TT)(L:TE):TE:=λσ H Q=>G σ H λJ E=>∀l,E l=none->∃W:Nat->Nat->St->Hp->Prop,(∃m,W 0 m (yD n ix σ) (eB E l (.lst []))) /\
 ∀i m σ' h,W i m σ' h->(J.stop i h/\Q (.ref l) h)\/(J.go i h/\∀x C,J.yld i h x C->g x σ' C λσ2 O=>I σ2 O λb u=>
  if b=true then L σ2 u λv o=>∃ys,o l=some (.lst ys)/\ys.length < sizeLine/\∃c,c < m/\W (i+1) c σ2 (eB o l (.lst (ys++[v]))) else ∃c,c < m/\W (i+1) c σ2 u)
def td(X:Cx)(b:List Expr)(c:TT):Prop:=
 ∀(ao:List (af×Obj))(s:ae)(σ:St)(H:Hp)(Q:Bool->Hp->Prop),Inv X ao σ H s->c σ H Q->aD (aK X.prog X.w) X.A (wC b X.env) (TP X ao σ Q) X.xe s
theorem W7:td X [] (λ_ H Q=>Q true H):=λao s σ H Q I h=>wpAny_tests_nil ⟨H,I,h⟩
theorem Vv{c:Expr}{b:TT}(h:PT X c b):td X [c] b:=λao s σ H Q I q=>wpAny_tests_one (h ao s σ H Q I q)
structure sW(X:Cx)(ao:List (af×Obj))(C:af)(H:Hp)(s:ae):Prop where
 ns:∃m,s.heap.Ns C m
 free:H C=none
 loc:C≠X.env.locals
 cell:∀x c,X.env.cells.lookup x=some c->c≠C
 sz:X.s₀.heap.objs.size<=C
 pin:∀p∈X.pn++ao,p.1≠C
theorem sW.go{C:af}{h':bu}(c:sW X ao C H s)(I:Inv X ao σ H s)(hs:eL C s.heap h'):Inv X ao σ H { s with heap:=h' }:=
 I.turned (t':=s.toks) (λb o g e=>(hs.2 b g).trans e) c.free c.loc (.inr c.sz) c.cell c.pin
theorem OE{elt E iter:Expr}{Y:List Expr}{pos:Pos}{n:Nat}{ix:List Nat}{wi:TI}{g:TG}{tt:TT}{te:TE}{use:Option (ac->Sem Unit)}{Q:ac->ae->Prop}{QH:VK}
  (hc:X.calm=true) (S:fm X scope) (T:gj X scope N n ix) (hi:PI X E iter wi)
  (blk:∀(fp:List af)(s:ae)(H:Hp),PG (iU X N scope fp s H) E g/\td (iU X N scope fp s H) Y tt/\PE (iU X N scope fp s H) elt te)
  (hs:∀x,cX iter X.env x=pure x) (I:Inv X ao σ H s) (h:qo wi n ix g tt te σ H QH)
  (fin:∀(l C:af)(L:Hp)(s':ae),Inv X ao σ L s'->QH (.ref l) L->sW X ao C L s'->m5 (aK X.prog X.w) X.A X.xe use Q (.ref l) C (.ok .next) s'):
  aD (aK X.prog X.w) X.A (vL (.ListComp elt [⟨E,iter,Y,0⟩] scope pos) scope X.env (firstIterPos [⟨E,iter,Y,0⟩] pos) (newList []) false (eval iter X.env) use) Q X.xe s:=by
 have hclos:uN scope X.env=pure (kt scope.names X.env.cells []):=Od λx hx=>I.ok.has x (S.free x hx);refine vN rfl hs hclos S.kind S.names ?_;refine fE (hi ao s σ H _ I h) λv s1 h1=>fE h1 λitv s2 h2=>?_;obtain⟨it,fp,tn,J,H2,rfl,I2,TT,st2,f2,dB⟩:=h2;refine eD (hd:=by size_fits) ?_;have hf2:H2 s2.heap.objs.size=none:=I2.hok.fresh (az _);obtain⟨W,⟨m0,w0⟩,turn⟩:=dB _ hf2;have fl:∀b∈fp,b < s2.heap.objs.size:=λb G=>by obtain⟨o,e,_⟩:=TT.obj _ _ st2 b G;exact aL e
 have f3:∀b∈fp,nR X ao (eB H2 s2.heap.objs.size (.lst [])) b:=λb G=>by obtain⟨f0,fr⟩:=f2 b G;refine⟨?_,fr⟩;rw[fR (cv (fl b G))];exact f0
 have I3:Inv X ao σ (eB H2 s2.heap.objs.size (.lst [])) { s2 with heap:=s2.heap.push { cls:=.type "list",dict:=none,data:=.seq ([]:List ac).toArray } }:=
  I2.laid (t':=s2.toks) (λb o e=>aw _ e) (az _) ⟨bJ _,[],0,.nil,aR _ rfl⟩
 have tn3:tn 0 (s2.heap.push { cls:=.type "list",dict:=none,data:=.seq ([]:List ac).toArray }):=TT.keep _ _ _ st2 λb G o e=>aw _ e;have fl3:∀b∈fp,b < (s2.heap.push { cls:=.type "list",dict:=none,data:=.seq ([]:List ac).toArray }).objs.size:=λb G=>by rw[dA];exact iY (fl b G)
 generalize s2.heap.objs.size=l at *;generalize hs3:({ s2 with heap:=s2.heap.push { cls:=.type "list",dict:=none,data:=.seq ([]:List ac).toArray } }:ae)=O at *;have e3:s2.heap.push { cls:=.type "list",dict:=none,data:=.seq ([]:List ac).toArray }=O.heap:=by rw[<- hs3]
 rw[e3]at tn3 fl3;generalize eB H2 l (.lst [])=U at *;refine ML ?_;have I4:=MJ (N:=N) (n:=n) (ix:=ix) I3 S T f3 fl3;obtain⟨bg,bt,be⟩:=blk fp O U;have tn4:tn 0 (m_ O.heap scope):=TT.keep _ _ _ tn3 λb G o e=>Lz _ _ _ _ e;have fr4:∀b∈fp,U b=none:=λb G=>(f3 b G).1
 show kc (aK X.prog X.w) X.A (.compStart (.ListComp elt [⟨E,iter,Y,0⟩] scope pos) 0 (.ref it) (.ref l) (iU X N scope fp O U).env) (m5 (aK X.prog X.w) X.A X.xe use Q (.ref l) O.heap.objs.size) { O with heap:=m_ O.heap scope };have fpx:∀{σ':St}{L:Hp}{s':ae},Inv (iU X N scope fp O U) [] σ' L s'->(∀b∈fp,L b=none)->∀b∈fp,nR (iU X N scope fp O U) [] L b:=λI' hn b G=>by have q:=I'.ok.exf b G;exact⟨hn b G,q.1,I'.ok.exfs b G,.inl G,q.2,λp hp=>bc (show p∈([]:List (af×Obj)) from hp) (by simp)⟩
 have hc':(iU X N scope fp O U).calm=true:=hc;have loop:kc (aK X.prog X.w) X.A (.compLoop (.ListComp elt [⟨E,iter,Y,0⟩] scope pos) 0 (.ref it) (.ref l) (iU X N scope fp O U).env) (m5 (aK X.prog X.w) X.A X.xe use Q (.ref l) O.heap.objs.size) { O with heap:=m_ O.heap scope }:=by
  refine Ui (λk s'=>∃i σ' L,Inv (iU X N scope fp O U) [] σ' L s'/\tn i s'.heap/\(∀b∈fp,L b=none)/\W i k σ' L) ?_ m0 ⟨0,_,U,I4,tn4,fr4,w0⟩
  rintro k s5 ⟨i,σ5,H5,I5,tn5,fr5,w5⟩
  rcases turn i k σ5 H5 w5 with ⟨stop,q⟩|⟨go,step⟩
  ·refine fE (TT.done (iU X N scope fp O U) rfl rfl rfl hc' i [] s5 σ5 H5 sE I5 (fpx I5 fr5) tn5 stop) λr s6 h=>?_;obtain⟨hr,g⟩:=h;subst hr;have E:Inv X ao σ H5 s6:=I3.call' g.os g.base g.hok g.bare λb G=>by obtain⟨H,g1,g2,C,u,o⟩:=f3 b G;exact⟨C,g1,u,o⟩
   obtain⟨m,hn,_⟩:=g.loc;refine fin l O.heap.objs.size H5 s6 E q ⟨⟨m,hn⟩,g.free,gr I3.lt,λx c e=>?_,I3.sz,λp hp=>?_⟩
   ·obtain⟨v,z⟩:=I3.cell x c e;exact cv z.lt
   ·exact cv (aL (I3.pin p hp).1)
  ·refine fE (TT.item (iU X N scope fp O U) rfl rfl rfl hc' i [] s5 σ5 H5 sE I5 (fpx I5 fr5) tn5 go) λr s6 J=>?_;obtain⟨u,hr,h6⟩:=J;subst hr;refine fE h6 λ_ s7 I=>?_;obtain⟨x,H7,I7,r7,y7,c,fr7⟩:=I;have I7':=I7.pinned (fpx I7 fr7) (TT.obj _ _ c);refine fE (bg _ s7 σ5 H7 x u _ I7' r7 (step x H7 y7)) λ_ s8 H=>?_;obtain⟨σ8,H8,I8,q8⟩:=H;refine fE (bt _ s8 σ8 H8 _ I8 q8) λok s9 E=>?_;obtain⟨H9,I9,q9⟩:=E;have again : ∀{s' : ae}{L : Hp}, Inv (iU X N scope fp O U) ([] ++ mC fp s7.heap) σ8 L s' -> (∃Y, Y < k /\ W (i+1) Y σ8 L) ->
     ∃m,m < k/\∃i σ' L,Inv (iU X N scope fp O U) [] σ' L s'/\tn i s'.heap/\(∀b∈fp,L b=none)/\W i m σ' L:=λ{s' L}I' C=>by
    obtain⟨Y,hm,w'⟩:=C;refine⟨Y,hm,i+1,σ8,L,I'.unpinned,TT.keep _ _ _ c λb G o e=>(I'.pin (b,o) (bT _ (bT _ (BV G e)))).1,λb G=>?_,w'⟩;obtain⟨o,e,d⟩:=TT.obj _ _ c b G;exact (I'.pin (b,o) (bT _ (bT _ (BV G e)))).2.1
   cases ok with
   |false=>exact again I9 q9
   |true=>
    refine fE (be _ s9 σ8 H9 _ I9 q9) λxv s10 h=>?_;obtain⟨v,Q,I10,r10,ys,hy,hz,q10⟩:=h;refine fE (HG (X:=iU X N scope fp O U) _ s10 σ8 Q (.ref l) [v] (.ref l) [xv] (λ_ L=>L=eB Q l (.lst (ys++[v]))) I10 rfl (.cons r10 .nil) ⟨l,ys,v,rfl,rfl,hy,hz,rfl⟩) λ_ s11 g=>?_;obtain⟨_,H11,I11,_,e⟩:=g;subst e;exact again I11 q10
 exact xq loop (TT.self _ 0 _ _ _ tn4 loop)
theorem Ts{u b iter:Expr}{o:List Expr}{pos:Pos}{n:Nat}{ix:List Nat}{G:TI}{g:TG}{J:TT}{L:TE}
  (Y:X.calm=true) (S:fm X scope) (T:gj X scope N n ix) (U:PI X b iter G)
  (E:∀(fp:List af)(s:ae)(H:Hp),PG (iU X N scope fp s H) b g/\td (iU X N scope fp s H) o J/\PE (iU X N scope fp s H) u L)
  (hs:∀x,cX iter X.env x=pure x:=by intro _;rfl):PE X (.ListComp u [⟨b,iter,o,0⟩] scope pos) (qo G n ix g J L):=by
 intro ao s σ H Q I h;rw[eval_ListComp];refine OE (use:=none) Y S T U E hs I h λl C H' s' I' q c=>?_;obtain⟨m,O⟩:=c.ns;exact⟨m,O,λh' v=>⟨.ref l,H',c.go I' v,rfl,q⟩⟩
theorem Qd1{G o iter:Expr}{E:List Expr}{pos u J:Pos}{n i:Nat}{ix:List Nat}{wi:TI}{g:TG}{tt:TT}{te:TE}{x:Str}
  (hN:X.N.Nodup) (Y:X.N[i]?=some x) (hx:L2.Loc X.env.scope x) (hf:X.fn x=true\/X.env.scope.names.lookup x=some .local)
  (hc:X.calm=true) (S:fm X scope) (T:gj X scope N n ix) (hi:PI X o iter wi)
  (blk:∀(fp:List af)(s:ae)(H:Hp),PG (iU X N scope fp s H) o g/\td (iU X N scope fp s H) E tt/\PE (iU X N scope fp s H) G te)
  (O:eW (.ListComp G [⟨o,iter,E,0⟩] scope pos) (some (.Name x u)) J.line X.env=pure true)
  (hs:∀x,cX iter X.env x=pure x:=by intro _;rfl):PS X (.Assign [.Name x u] (.ListComp G [⟨o,iter,E,0⟩] scope pos) J) (zE (qo wi n ix g tt te) (tE i)):=by
 intro ao s σ H D I h;rw[exec_Assign_Name_used _ _ _ _ O];refine aa (fX (aa ?_))
 show aD _ _ (vL (.ListComp G [⟨o,iter,E,0⟩] scope pos) scope X.env _ (newList []) false (eval iter X.env) (some (mG (.Name x u) X.env)) >>= λ_=>pure ()) _ _ s;refine aa (cc (OE (use:=some (mG (.Name x u) X.env)) (Q:=λ_ s'=>SP X ao D .next s') hc S T hi blk hs I h λl C H' s' I' q c=>?_) (λ_ s' hq=>ah (ah hq)) λ_ _ e=>e);obtain⟨m,hn⟩:=c.ns;refine Do (ON I' hN Y hx (v:=.ref l) rfl (λs2 I2 h1_=>?_) hf);obtain ⟨b,hb,hb2⟩:=h1_;have L:b≠C:=by
  rcases hb2 with z|z
  ·rw[z];exact c.loc.symm
  ·exact c.cell x b z
 refine⟨m,hn.sameBut hb L.symm,λh' U=>⟨_,H',?_,q⟩⟩;exact sW.go ⟨⟨m,hn.sameBut hb L.symm⟩,c.free,c.loc,c.cell,c.sz,c.pin⟩ I2 U
end
section
variable{X:Cx}{a b c e:Expr}{es:List Expr}{pos:Pos}{fa fb fc:CE}{ca cb:CA}{K:aj}{ρ:List af}{H:Hp}{st:aT}
theorem zi{K:aj}{f:Int->Int->M D}{x y:V}{H:Hp}{Q:VK}(h:nU K (tL f) x y H Q):
  ∃(i j:Int)(ρ:List af)(st:aT),x=.int i/\y=.int j/\SR K ρ H st/\aW K ρ H (f i j st) (λr _ ρ' g=>∀v,dG K ρ' g v r->Q v g):=by
 obtain⟨ρ,st,d,e,l,u,o,p⟩:=h;rcases Bw f d e with ⟨i,j,rfl,rfl⟩|C
 ·exact⟨i,j,ρ,st,u.inv,o.inv,l,p⟩
 ·rw[C]at p;exact p.elim
theorem R_:OpR X (eN .Sub) (nU X.K wK):=Ub.of λx y H Q h=>by obtain⟨i,j,ρ,st,rfl,rfl,g,p⟩:=zi h;exact⟨_,_,rfl,rfl,p.ret g _ (.int _)⟩
theorem RQ:OpR X (eN .Mult) (nU X.K mT):=Yi.of λx y H Q h=>by obtain⟨i,j,ρ,st,rfl,rfl,g,p⟩:=zi h;exact⟨_,_,rfl,rfl,p.chk.1,p.chk.2.ret g _ (.int _)⟩
theorem Qd5:OpR X (eN .FloorDiv) (nU X.K rL):=Vk.of λx y H Q h=>by obtain⟨i,j,ρ,st,rfl,rfl,g,p⟩:=zi h;exact⟨_,_,rfl,rfl,p.chk.1,p.chk.2.ret g _ (.int _)⟩
theorem Xz:OpR X (eN .Mod) (nU X.K lL):=Ti.of λx y H Q h=>by obtain⟨i,j,ρ,st,rfl,rfl,g,p⟩:=zi h;exact⟨_,_,rfl,rfl,p.chk.1,p.chk.2.ret g _ (.int _)⟩
theorem Xt:OpR X (eN .Pow) (nU X.K wL):=Vc.of λx y H Q h=>by obtain⟨i,j,ρ,st,rfl,rfl,g,p⟩:=zi h;exact⟨_,_,rfl,rfl,p.chk.1,p.chk.2.ret g _ (.int _)⟩
theorem P9:OpR X (cz .Lt) (nU X.K vW):=Ro.of λx y H Q h=>by obtain⟨i,j,ρ,st,rfl,rfl,g,p⟩:=zi h;exact⟨_,_,rfl,rfl,p.ret g _ (.bl _)⟩
theorem GH:OpR X (cz .LtE) (nU X.K tm):=Yg.of λx y H Q h=>by obtain⟨i,j,ρ,st,rfl,rfl,g,p⟩:=zi h;exact⟨_,_,rfl,rfl,p.ret g _ (.bl _)⟩
theorem Qea:OpR X (cz .Gt) (nU X.K wz):=VI.of λx y H Q h=>by obtain⟨i,j,ρ,st,rfl,rfl,g,p⟩:=zi h;exact⟨_,_,rfl,rfl,p.ret g _ (.bl _)⟩
theorem Vi:OpR X (cz .GtE) (nU X.K Dg):=VJ.of λx y H Q h=>by obtain⟨i,j,ρ,st,rfl,rfl,g,p⟩:=zi h;exact⟨_,_,rfl,rfl,p.ret g _ (.bl _)⟩
theorem HF:SA X [] aY:=qj.of λσ H Q h=>h.el λρ l st o g p=>p.ret g [] .nil
theorem IN(Y:SE X e fa)(U:SA X es ca)(hs:av (e::es) X.env=(false,eval e X.env)::av es X.env:=by rfl):SA X (e::es) (ak fa ca):=
 (nJ Y U hs).of λσ H Q b=>b.el λρ l st o G p=>⟨ρ,l,st,o,G,p.bnd.imp λd g ρ1 H1 C I O v J=>⟨ρ1,l,g,o.mono C,I,O.bnd.imp λds E ρ2 H2 u s2 L c h=>L.ret s2 _ (.cons (J.mono u) h)⟩⟩
theorem XN{k:Nat}(h:SA X es ca):SE X (.Tuple es k pos) (d8 ca):=(L5 h).of λσ H Q L=>L.el λρ l st I v p=>⟨ρ,l,st,I,v,p.bnd.imp λds u ρ1 Y O C G U g=>by obtain⟨J,E⟩:=G.chk;refine⟨by rw[g.length];exact J,λq o=>?_⟩;exact E ρ1 _ (Ex.new o) (C.new o) _ (.tup (kz.of iI) (g.mono (Ex.new o)))⟩
theorem WD(h:SA X es ca):SL X (.List es pos) (dE ca):=(Xd h).of λσ H Q b=>b.el λρ l st O I p=>⟨ρ,l,st,O,I,p.bnd.imp λds G ρ1 c C v L E g=>by
 obtain⟨Y,J⟩:=L.chk;refine⟨by rw[g.length];exact Y,λq u=>?_⟩;have U:H q=none:=by
  cases z:H q with
  |none=>rfl
  |some o=>exact bc u (C.trk q o z)
 exact J ρ1 _ (Ex.new u) (v.new u) q E U (v.fresh u) iI (g.mono (Ex.new u))⟩
theorem aW.bnd0{α β:Type}{m:M α}{f:α->M β}{R:β->aT->List af->Hp->Prop}(h:aW K ρ H (MM.bnd m f st) R):aW K ρ H (m st) λa g _ _=>aW K ρ H (f a g) R:=by
 unfold MM.bnd at h;cases e:m st with
 |ok a s'=>
  rw[e]at h;exact λρ' l y s=>h
 |exc _ _=>rw[e]at h;exact h
 |bad=>rw[e]at h;exact h
theorem Qeg(h:SL X e ca):SE X e (bZ ca):=h.of λσ H Q Y=>Y.el λρ l st O I p=>⟨ρ,l,st,O,I,p.bnd0.imp λds G ρ1 E o v J a c U L C u=>by
 have x:Ex ρ H (ρ1++[a]) E:=by
  obtain⟨τ,e,f⟩:=o.pre;refine⟨⟨τ++[a],by rw[e,cL],λb g=>?_⟩,o.fix,o.oth,o.knd⟩;rcases aZ.mp g with g|g
  ·exact f b g
  ·rw[aC]at g;rw[g];exact U
 refine J (ρ1++[a]) E x (v.keep C L u) _ (.ref ⟨_,C,rfl⟩ ?_);rw[<- v.len];simp⟩
theorem _root_.L2.IxR.of{r E:R2}(h:IxR X r)(g:∀x y H Q,E x y H Q->r x y H Q):IxR X E:=λl o C s σ H x y v u Q I J G q hs=>h l o C s σ H x y v u Q I J G (g x y H Q q) hs
theorem aW.item{ds:List D}{i:Int}{R:D->aT->List af->Hp->Prop}(h:aW K ρ H (dM ds i st) R)(s:SR K ρ H st):∃k d,L2.pO ds.length i=some k/\ds[k]?=some d/\R d st ρ H:=by
 unfold dM at h;cases e:MM.pO ds.length i with
 |none=>rw[e]at h;exact h.elim
 |some k=>
  rw[e]at h;cases g:ds[k]? with
  |none=>dsimp only at h;rw[g]at h;exact h.elim
  |some d=>dsimp only at h;rw[g]at h;exact⟨k,d,e,g,h.ret s⟩
theorem GL{g:List V}{ds:List D}{i:Int}{k:Nat}{d:D}(r:ce K ρ H g ds)(o:L2.pO ds.length i=some k)(l:ds[k]?=some d):∃v,Ai g i=some v/\dG K ρ H v d:=by obtain⟨v,e,h⟩:=r.get l;refine⟨v,?_,h⟩;unfold Ai;rw[r.length,o];exact e
theorem aW.itemK{n:Nat}{k:D}{R:D->aT->List af->Hp->Prop}(h:aW K ρ H (MM.itemK n k st) R)(s:SR K ρ H st):∃b g d,st[n]?=some (.dct b g)/\uc b k=true/\vF g k=some d/\R d st ρ H:=by
 obtain⟨b,g,e,u⟩:=aW.getDc (aW.bnd h) s;obtain⟨v,l⟩:=aW.chk u;cases o:vF g k with
 |none=>dsimp only at l;rw[o]at l;exact l.elim
 |some d=>dsimp only at l;rw[o]at l;exact⟨b,g,d,e,v,o,l.ret s⟩
theorem qR.dictIs{X:Cx}{h:List (af×Obj)}{σ:St}{s:ae}{a:af}{b:Bool}{l:List (D×D)}(I:Inv X h σ H s)(g:qR X.K ρ H a (.dct b l)):s.TypeIs (.ref a) "dict":=by
 cases b with
 |false=>
  obtain⟨es,e,r⟩:=g;obtain⟨_,_,u,_,o⟩:=Rk I.hok e;exact o.typeIs
 |true=>
  obtain⟨es,e,r⟩:=g;obtain⟨_,_,xs,_,o,_⟩:=ER I e r;exact o.typeIs
theorem Qei(hu:X.A.units+60 < dZ):IxR X (λx y H Q=>∃(ρ:List af)(st:aT)(n:Nat)(a:af)(b:Bool)(l:List (D×D))(k d:D),x=.ref a/\SR X.K ρ H st/\ρ[n]?=some a/\st[n]?=some (.dct b l)/\dG X.K ρ H y k/\uc b k=true/\vF l k=some d/\∀v,dG X.K ρ H v d->Q v H):=by intro o C G s σ H x y v u Q I O L h hs;obtain⟨ρ,st,n,a,b,l,k,d,ex,J,ha,c,Y,hk,hl,q⟩:=h;subst ex;cases O;have g:=J.ob n a _ ha c;exact tail_any (qR.dictIs I g) PySem.F.slot_dict_getitem.lookup (XY (by ext) I g Y hk hl L λv w' s' I' U E=>⟨v,H,I',E,q v U⟩) hs
theorem VZ{x y:V}{d e:D}{Q:VK}(l:SR K ρ H st)(G:dG K ρ H x d)(O:dG K ρ H y e)(hd:∀n,d≠.dic n)(p:aW K ρ H (bz d e st) λr _ ρ' L=>∀v,dG K ρ' L v r->Q v L):QY K x y H Q:=by
 cases e with
 |int i=>
  obtain rfl:y=.int i:=O.inv;cases d with
  |dic _=>exact bc rfl (hd _)
  |tup ds=>
   obtain⟨_,_,rfl,h,r⟩:=G.inv;obtain⟨k,d,E,C,q⟩:=aW.item p l;obtain⟨v,u,o⟩:=GL r E C;exact .inr (.inl ⟨_,_,i,v,rfl,rfl,h,u,q v o⟩)
  |lit ds=>
   obtain⟨_,_,rfl,h,r⟩:=G.inv;obtain⟨k,d,E,C,q⟩:=aW.item p l;obtain⟨v,u,o⟩:=GL r E C;exact .inl ⟨_,_,i,v,rfl,rfl,h.seq,u,q v o⟩
  |ref n=>
   obtain⟨_,rfl,_,h⟩:=G.inv;obtain⟨xs,e,g⟩:=aW.getL (aW.bnd p) l;obtain⟨a,Y,J,U,r⟩:=l.seq e;rw[h]at J;cases J;obtain⟨k,d,E,C,q⟩:=aW.item g l;obtain⟨v,u,o⟩:=GL r E C;exact .inl ⟨_,_,i,v,rfl,rfl,iW.of U,u,q v o⟩
  |str z=>
   obtain rfl:x=.str z:=G.inv;obtain⟨hz,g⟩:=aW.chk p;cases e:MM.pO z.length i with
   |none=>rw[e]at g;exact g.elim
   |some k=>
    rw[e]at g;cases I:z.cps.toList[k]? with
    |none=>dsimp only at g;rw[I]at g;exact g.elim
    |some c=>
     dsimp only at g;rw[I]at g;refine .inr (.inr ⟨z,i,c,rfl,rfl,hz,?_,g.ret l _ (.str _)⟩);unfold Ai;rw[show z.cps.toList.length=z.length by simp[so]]
     show (L2.pO z.length i).bind _=_;rw[show L2.pO z.length i=some k from e];exact I
  |_=>exact p.elim
 |_=>cases d<;>first|exact bc rfl (hd _)|exact p.elim
theorem NJ(hu:X.A.units+60 < dZ):IxR X (nU X.K bz):=(S9.or (Qei hu)).of λx y H Q g=>by
 obtain⟨ρ,st,d,e,l,C,u,p⟩:=g;by_cases hd:∃n,d=.dic n
 ·obtain⟨n,rfl⟩:=hd;obtain⟨a,rfl,_,h⟩:=C.inv;have G:aW X.K ρ H (itemK n e st) λr _ ρ' E=>∀(v:V),dG X.K ρ' E v r->Q v E:=p;obtain⟨b,o,d,L,J,I,q⟩:=aW.itemK G l;exact .inr ⟨ρ,st,n,a,b,o,e,d,rfl,l,h,L,u,J,I,q⟩
 ·exact .inl (VZ l C u (λn z=>hd ⟨n,z⟩) p)
theorem XH(hu:X.A.units+60 < dZ)(l:SE X a fa)(g:SE X b fb)(hs:nN b):SE X (.Subscript a b pos) (c2 bz fa fb):=(JB (NJ hu) l g hs).of (HN λ_ _ _ _ h=>h)
theorem Zj(I:SL X a ca)(hb:SE X b fb)(hs:nN b):SE X (.Subscript a b pos) (kW ca fb):=(JB Q7 I hb hs).of λσ H Q h_=>h_.el λρ l st G O p=>
 ⟨ρ,l,st,G,O,p.bnd.imp λds g ρ1 H1 J U p1 a C I na hv h=>⟨ρ1,l,g,G.mono J,U,p1.bnd.imp λe L ρ2 H2 o s2 E u c=>by
  cases e with
  |int i=>
   cases (show u=.int i from c.inv);obtain⟨k,d,h1,h2,q⟩:=aW.item E s2;obtain⟨v,h3,Y⟩:=GL (h.mono o) h1 h2;exact⟨a,C,i,v,rfl,rfl,iW.of (o.lst a C na hv),h3,q v Y⟩
  |_=>exact E.elim⟩⟩
theorem Y8{CX:uq}{k n:Nat}{f:af}{C:bU}{ps:List Str}{g:List D->M D}{x:Str}{p:Pos}(F:gO X.prog X.w X.K X.mg X.base CX k f C ps (mU X.K n g))(J:Room k X.A)(Y:Gl X x)(O:X.mg x=some (.ref f))
  (U:fN X.K (.ref f)=true) (c:Binds X.K C ps []) (I:oM CX X E0) (ha:SA X (e::es) ca) (L:∀l st ds o,ca l st=.ok ds o->ds.length=n) (v:(x == ("__debug__":Str))=false:=by decide)
  (b:av (e::es) X.env=(false,eval e X.env)::av es X.env:=by rfl) (u:(di pos (av es X.env)).any (·.1)=false:=by rfl):SE X (.Call (.Name x p) (e::es) [] pos) (ba g ca):=
 (G7 F J Y O U c .nil I ha v b u).of λσ H Q h_=>h_.el λρ l st G E p=>⟨ρ,l,st,G,E,by
  have q:=aW.bnd p;cases h:ca l st with
  |bad=>rw[h]at q;exact q
  |exc _ _=>rw[h]at q;exact q
  |ok ds bB=>
   rw[h]at q;intro ρ1 H1 x1 s1 vs rvs;refine⟨by rw[bH,rvs.length];exact L l st ds bB h,ρ1,bB,ds,s1,by rw[bH];exact rvs,q ρ1 H1 x1 s1⟩⟩
variable{ta tb:CT}
theorem Xg{d:D}{v:V}{R:Bool->aT->List af->Hp->Prop}(p:aW K ρ H (yC d st) R)(l:SR K ρ H st)(u:dG K ρ H v d):∃k,Bn K v H k/\R k st ρ H:=by
 cases u with
 |non=>exact⟨false,rfl,p.ret l⟩
 |bl b=>exact⟨b,rfl,p.ret l⟩
 |int i=>exact⟨_,rfl,p.ret l⟩
 |str x=>exact⟨_,⟨(aW.chk p).1,rfl⟩,(aW.chk p).2.ret l⟩
 |@tup a g ds h r=>
  refine⟨!g.isEmpty,.inr (.inl ⟨g,h,rfl⟩),?_⟩;have:g.isEmpty=ds.isEmpty:=by have:=r.length;cases g<;>cases ds<;>simp_all
  rw[this];exact p.ret l
 |@lit a g ds h r=>
  refine⟨!g.isEmpty,.inl ⟨g,h.seq,rfl⟩,?_⟩;have:g.isEmpty=ds.isEmpty:=by have:=r.length;cases g<;>cases ds<;>simp_all
  rw[this];exact p.ret l
 |ref _ h=>
  obtain⟨ds,e,C⟩:=aW.getL (aW.bnd p) l;obtain⟨a,g,o,E,r⟩:=l.seq e;rw[h]at o;cases o;refine⟨!g.isEmpty,.inl ⟨g,iW.of E,rfl⟩,?_⟩;have:g.isEmpty=ds.isEmpty:=by have:=r.length;cases g<;>cases ds<;>simp_all
  rw[this];exact C.ret l
 |_=>exact p.elim
theorem O9(I:SE X a fa)(G:∀whole,isTrue a X.env whole=(do let v <- whole;pp a.pos;nB [v] (truthy v)):=by intro _;rfl):ST X a (kP fa):=
 (TZ I G).of λσ H Q J=>J.el λρ l st E h p=>⟨ρ,l,st,E,h,p.bnd.imp λd g ρ1 O L o C v u=>Xg C o u⟩
theorem Rf{op:mZ}{g:D->D->M D}(J:OpR X (cz op) (nU X.K g))(U:SE X a fa)(O:SE X b fb)(L:fY op b=false):ST X (.Compare a [op] [b] pos) (cC (c2 g fa fb)):=
 (Tb J U O L).of λσ H Q Y=>Y.el λρ l st I C p=>HN (X:=X) (λ_ _ _ _ h=>h) _ _ _ ⟨ρ,l,st,I,C,p.bnd.imp λd u ρ1 H1 c E o v G=>by
  cases d with
  |bl k=>cases (show v=.bl k from G.inv);exact⟨k,rfl,o.ret E⟩
  |_=>exact o.elim⟩
theorem WQ(g:ST X a ta):PW X (.BoolOp .And [a] pos) (nM X.K ta):=RY g
theorem PJ(g:ST X a ta):PW X (.BoolOp .Or [a] pos) (nM X.K ta):=US g
theorem _root_.L2.PW.of{e:Expr}{t t':TT}(h:PW X e t)(f:∀σ H Q,t' σ H Q->t σ H Q):PW X e t':=λwhole g s σ H Q I q=>h whole g s σ H Q I (f σ H Q q)
theorem Sa{dB:List Expr}(G:ST X a ta)(E:PW X (.BoolOp .And (b::dB) pos) (nM X.K tb)):PW X (.BoolOp .And (a::b::dB) pos) (nM X.K (mE ta tb)):=
 (V3 G E).of λσ H Q I=>I.el λρ l st u C p=>⟨ρ,l,st,u,C,p.bnd.imp λc g ρ1 J v h o=>by
  cases c with
  |true=>exact⟨ρ1,l,g,u.mono v,h,o⟩
  |false=>exact o.ret h⟩
theorem Oj{dB:List Expr}(G:ST X a ta)(E:PW X (.BoolOp .Or (b::dB) pos) (nM X.K tb)):PW X (.BoolOp .Or (a::b::dB) pos) (nM X.K (n9 ta tb)):=
 (Z0 G E).of λσ H Q I=>I.el λρ l st u C p=>⟨ρ,l,st,u,C,p.bnd.imp λc g ρ1 J v h o=>by
  cases c with
  |true=>exact o.ret h
  |false=>exact⟨ρ1,l,g,u.mono v,h,o⟩⟩
theorem QC(C:ST X a ta):ST X (.UnaryOp .Not a pos) (gz ta):=(YW C).of λσ H Q E=>E.el λρ l st v h p=>⟨ρ,l,st,v,h,p.bnd.imp λc g ρ1 I G o u=>u.ret o⟩
theorem N1{op:BoolOp}(h:SE X a fa):SE X (.BoolOp op [a] pos) fa:=VG h
theorem YO{dB:List Expr}(J:SE X a fa)(I:SE X (.BoolOp .And (b::dB) pos) fb):SE X (.BoolOp .And (a::b::dB) pos) (qV fa fb):=
 (VN J I).of λσ H Q L=>L.el λρ l st u E p=>⟨ρ,l,st,u,E,p.bnd.imp λd g ρ1 O C o h v G=>by
  cases d with
  |bl c=>
   cases (show v=.bl c from G.inv);refine⟨c,rfl,?_⟩;cases c with
   |true=>exact⟨ρ1,l,g,u.mono C,o,h⟩
   |false=>exact h.ret o _ (.bl false)
  |_=>exact h.elim⟩
theorem UB{dB:List Expr}(J:SE X a fa)(I:SE X (.BoolOp .Or (b::dB) pos) fb):SE X (.BoolOp .Or (a::b::dB) pos) (Nx fa fb):=
 (ZD J I).of λσ H Q L=>L.el λρ l st u E p=>⟨ρ,l,st,u,E,p.bnd.imp λd g ρ1 O C o h v G=>by
  cases d with
  |bl c=>
   cases (show v=.bl c from G.inv);refine⟨c,rfl,?_⟩;cases c with
   |true=>exact h.ret o _ (.bl true)
   |false=>exact⟨ρ1,l,g,u.mono C,o,h⟩
  |_=>exact h.elim⟩
theorem Pn(G : SE X a fa): SE X (.UnaryOp .Not a pos) (vh fa) := (Yt G).of λσ H Q I => I.el λρ l st E o p => ⟨ρ, l, st, E, o, p.bnd.imp λd h ρ1 L J u g v C => by
  cases d with
  |bl c=>cases (show v=.bl c from C.inv);exact⟨c,rfl,g.ret u _ (.bl _)⟩
  |_=>exact g.elim⟩
theorem QJ{f g:D->D->M D}:∀σ H Q,vR X.K (ii f g fa fb fc) σ H Q->uC (nU X.K f) (nU X.K g) (vR X.K fa) (vR X.K fb) (vR X.K fc) σ H Q:=λσ H Q h_=>h_.el λρ l st J sr p=>
 ⟨ρ,l,st,J,sr,p.bnd.imp λd E ρ1 H1 U s1 p1 v rv=>⟨ρ1,l,E,J.mono U,s1,p1.bnd.imp λe C ρ2 H2 O s2 p2 u b=>⟨ρ2,C,d,e,s2,rv.mono O,b,p2.bnd.imp λz o ρ3 H3 L Y I w G=>by
  cases z with
  |bl k=>
   cases (show w=.bl k from G.inv);refine⟨k,rfl,?_⟩;cases k with
   |true=>exact⟨ρ3,l,o,(J.mono U).mono (O.trans L),Y,I.bnd.imp λt h ρ4 H4 c s4 p4 q rq=>⟨ρ4,h,e,t,s4,(b.mono L).mono c,rq,p4⟩⟩
   |false=>exact I.ret Y _ (.bl false)
  |_=>exact I.elim⟩⟩⟩
theorem Yu{op h:mZ}{f g:D->D->M D}(o:OpR X (cz op) (nU X.K f))(l:OpR X (cz h) (nU X.K g))(E:SE X a fa)(C:SE X b fb)(v:SE X c fc)
  (u:v5 [op,h] [b,c]=false:=by with_unfolding_all rfl):SE X (.Compare a [op,h] [b,c] pos) (ii f g fa fb fc):=(Qbq o l E C v u).of QJ
theorem YY{op h:mZ}{f g:D->D->M D}(L:OpR X (cz op) (nU X.K f))(o:OpR X (cz h) (nU X.K g))(ha:SE X a fa)(Y:SE X b fb)(U:SE X c fc)
  (O:v5 [op,h] [b,c]=false:=by with_unfolding_all rfl):ST X (.Compare a [op,h] [b,c] pos) (cC (ii f g fa fb fc)):=
 (Ur L o ha Y U O).of λσ H Q h_=>h_.el λρ l st J E p=>QJ _ _ _ ⟨ρ,l,st,J,E,p.bnd.imp λd C ρ1 H1 x1 G u v I=>by
  cases d with
  |bl k=>cases (show v=.bl k from I.inv);exact⟨k,rfl,u.ret G⟩
  |_=>exact u.elim⟩
end
theorem LR.set{K:aj}{ρ:List af}{H:Hp}{σ:St}{l:Loc}{v:V}{d:D}(h:LR K ρ H σ l)(i:Nat)(r:dG K ρ H v d):LR K ρ H (σ.set i (some v)) (l.set i (some d)):=by
 refine⟨by simp[h.1],λj e q=>?_⟩;by_cases z:i=j
 ·subst z;by_cases b:i < l.length
  ·rw[bC b]at q;cases q;exact⟨v,by rw[bC (by rw[h.1];exact b)],r⟩
  ·rw[dq (by simp;ext)]at q;cases q
 ·rw[bn z]at q;obtain⟨w,g,c⟩:=h.2 j e q;exact⟨w,by rw[bn z];exact g,c⟩
theorem LR.start{K:aj}{ρ:List af}{H:Hp}{N:List Str}{b:List V}{ds:List D}(r:ce K ρ H b ds):LR K ρ H (L2.start N b) (ds.map some++db (N.length-ds.length) none):=by
 have l:=r.length;unfold L2.start;refine⟨by simp[l],λi d e=>?_⟩;by_cases c:i < ds.length
 ·rw[aJ (by simpa using c),aG]at e;cases q:ds[i]? with
  |none=>rw[q]at e;cases e
  |some d'=>
   rw[q]at e;have o:d'=d:=bq (bq e);subst o;obtain⟨v,h,g⟩:=r.get q;refine⟨v,?_,g⟩;rw[aJ (by simp;ext),aG,h];rfl
 ·rw[bo (by simpa using c),iK]at e;split at e<;>cases e
section
variable{X:Cx}{a b c e tg:Expr}{es:List Expr}{s:Stmt}{ss:List Stmt}{pos:Pos}{fa fb fc:CE}{ca cb:CA}{ta tb:CT}{cs cr:CS}{K:aj}{ρ:List af}{H:Hp}{st:aT}
abbrev SG(X:Cx)(e:Expr)(g:CG):Prop:=PG X e (wo X.K g)
abbrev Bk(X:Cx)(e:List Expr)(g:List D->Loc->M Loc):Prop:=PGs X e (DW X.K g)
theorem Xl{i:Nat}{x:Str}(h:PG X (.Name x pos) (tE i)):SG X (.Name x pos) (aU i):=h.of λv σ H Q g=>by obtain⟨ρ,l,st,d,C,o,u,p⟩:=g;exact p.ret o _ (C.set i u)
theorem TY:Bk X [] gf:=X8.of λv σ H Q g=>by
 obtain⟨ρ,l,st,ds,u,o,h,p⟩:=g;cases h with
 |nil=>exact⟨rfl,p.ret o σ u⟩
 |cons _ _=>exact p.elim
theorem SK{g:CG}{r:List D->Loc->M Loc}(U:SG X e g)(O:Bk X es r)(hs:(dH (e::es) X.env).map (·.2)=mG e X.env::(dH es X.env).map (·.2):=by rfl):Bk X (e::es) (cm g r):=
 (TN U O hs).of λY σ H Q h=>by
  obtain⟨ρ,l,st,ds,J,E,u,p⟩:=h;cases u with
  |nil=>exact p.elim
  |cons rv rt=>exact⟨_,_,rfl,ρ,l,st,_,J,E,rv,(aW.bnd p).imp λL o ρ1 b C G I σ1 v=>⟨ρ1,L,o,_,v,G,rt.mono C,I⟩⟩
theorem UT{k n:Nat}{r:List D->Loc->M Loc}(I:X.calm=true)(h:Bk X es r)(G:(dH es X.env).length=n:=by rfl)(o:(dH es X.env).findIdx? (·.1)=none:=by rfl):SG X (.Tuple es k pos) (fS n r):=
 (Rv I h G o).of λv σ H Q g=>by
  obtain⟨ρ,l,st,d,E,u,C,p⟩:=g;cases d with
  |tup ds_=>obtain⟨_,_,rfl,h,r⟩:=C.inv;exact⟨_,_,rfl,h,by rw[r.length];exact (aW.chk p).1,ρ,l,st,_,E,u,r,(aW.chk p).2⟩
  |_=>exact p.elim
theorem Jk:vX X [] aH:=HD.of λG σ H o=>o.el λρ l st h g p=>p.ret g σ h
theorem LF(J:SS X s cs)(I:vX X ss cr):vX X (s::ss) (aF cs cr):=(E5 J I).of λG σ H E=>E.el λρ l st C v p=>⟨ρ,l,st,C,v,p.bnd.imp λf o ρ1 O L g h=>by
 cases f with
 |next l'=>exact λσ' u=>⟨ρ1,l',o,u,g,h⟩
 |ret d=>exact h.ret g
 |brk l'=>exact h.ret g
 |cnt l'=>exact h.ret g⟩
theorem ZS:SS X s vz:=V9.of λG σ H g=>g.el λρ l st o h p=>p.elim
theorem Hu(h:SE X e fa):SS X (.Return (some e) pos) (cH fa):=(Lc h).of λG σ H J=>J.el λρ l st I o p=>⟨ρ,l,st,I,o,p.bnd.imp λd g ρ1 O L u E v C=>E.ret u v C⟩
theorem Zx(h:SE X e fa)(hs:eW e none pos.line X.env=pure false:=by rfl):SS X (.Expr e pos) (iS fa):=(O_ h hs).of λG σ H J=>J.el λρ l st g C p=>
 ⟨ρ,l,st,g,C,p.bnd.imp λd u ρ1 O o E I v L=>I.ret E σ (g.mono o)⟩
theorem Qe(E:ST X c ta)(J:vX X ss cs){h:List Stmt}(I:vX X h cr):SS X (.If c ss h pos) (ik ta cs cr):=(OG E J I).of λG σ H L=>L.el λρ l st o h p=>
 ⟨ρ,l,st,o,h,p.bnd.imp λk g ρ1 O u v C=>by
  cases k with
  |true=>exact⟨ρ1,l,g,o.mono u,v,C⟩
  |false=>exact⟨ρ1,l,g,o.mono u,v,C⟩⟩
theorem J8{g:CG}{u:TE}{tg:TG}(c:∀σ H Q,vR X.K fa σ H Q->u σ H Q)(b:∀v σ H Q,wo X.K g v σ H Q->tg v σ H Q):∀G σ H,vw X.K (bY g fa) G σ H->zE u tg G σ H:=λG σ H h_=>h_.el λρ l st C J p=>
 c _ _ _ ⟨ρ,l,st,C,J,p.bnd.imp λd h ρ1 H1 E L Y v O=>b _ _ _ _ ⟨ρ1,l,h,d,C.mono E,L,O,Y.bnd.imp λl2 I ρ2 H2 x2 s2 U σ2 o=>U.ret s2 σ2 o⟩⟩
theorem MX{i:Nat}:∀v σ H Q,wo X.K (aU i) v σ H Q->tE i v σ H Q:=λv σ H Q g=>by obtain⟨ρ,l,st,d,u,h,o,p⟩:=g;exact p.ret h _ (u.set i o)
theorem NB{i : Nat}{x : Str}{g : Pos}(C : X.N.Nodup)(o : X.N[i]? = some x)(l : L2.Loc X.env.scope x)(v : SE X e fa)(hs : eW e (some (.Name x g)) pos.line X.env = pure false := by rfl)
  (u:X.fn x=true\/X.env.scope.names.lookup x=some .local:=by first|exact .inl rfl|exact .inr rfl|assumption):SS X (.Assign [.Name x g] e pos) (bY (aU i) fa):=
 (Le C o l v hs u).of (J8 (λ_ _ _ h=>h) MX)
theorem Nq{g : CG}(u : SE X e fa)(o : SG X tg g)(hs : swapsWithSole [tg] e pos.line X.env = pure false := by rfl)(l : swappedStores [tg] e X.env = pure none := by rfl)
  (v:(dH [tg] X.env).map (·.2)=[mG tg X.env]:=by rfl):SS X (.Assign [tg] e pos) (bY g fa):=(R0 u o hs l v).of (J8 (λ_ _ _ h=>h) λ_ _ _ _ h=>h)
theorem aW.storeK{n:Nat}{k v:D}{R:Unit->aT->List af->Hp->Prop}(h:aW K ρ H (MM.storeK n k v st) R)(s:SR K ρ H st):∃b g,st[n]?=some (.dct b g)/\uc b k=true/\g.length < eK/\aW K ρ H (.ok () (st.set n (.dct b (xO g k v)))) R:=by obtain⟨b,g,e,o⟩:=aW.getDc (aW.bnd h) s;obtain⟨⟨C,u⟩,l⟩:=aW.chk o;refine⟨b,g,e,C,u,?_⟩;unfold Al at l;rw[e]at l;simpa using l
def FE(X:Cx):V->V->V->Hp->(Hp->Prop)->Prop:=λo i v H Q=>∃(ρ:List af)(st:aT)(n:Nat)(a:af)(b:Bool)(bA:List (D×D))(k d:D),o=.ref a/\SR X.K ρ H st/\ρ[n]?=some a/\st[n]?=some (.dct b bA)/\dG X.K ρ H i k/\uc b k=true/\bA.length < sizeLine/\dG X.K ρ H v d /\
 ∀g,SR X.K ρ g (st.set n (.dct b (xO bA k d)))->Ex ρ H ρ g->Q g
theorem YK(hu:X.A.units+60 < dZ):PSet X (FE X):=by intro h s σ H o i v ov iv u Q I L U J g;obtain⟨ρ,st,n,a,b,c,k,d,eo,E,ha,hn,O,hk,hl,Y,q⟩:=g;subst eo;cases L;exact R3 (by ext) I E ha hn O hk hl Y U J λl s' I' G C=>⟨l,I',q l G C⟩
theorem _root_.L2.PSet.or{t t':zv}(h:PSet X t)(h':PSet X t'):PSet X (λo i v H Q=>t o i v H Q\/t' o i v H Q):=by
 intro g s σ H o i v G J u Q I C E l q;rcases q with q|q
 ·exact h g s σ H o i v G J u Q I C E l q
 ·exact h' g s σ H o i v G J u Q I C E l q
theorem Vt{to ti:CE}{o i:Expr}(hu:X.A.units+60 < dZ)(ho:SE X o to)(hi:SE X i ti)
  (ha:∀v,mG (.Subscript o i pos) X.env v=(do
   let ov <- nB [v] (eval o X.env)
   let iv <- nB [v,ov] (eval i X.env)
   pp pos
   nB [v,ov,iv] (qY ov iv v)
   release [v,ov,iv] []):=by intro _;rfl):SG X (.Subscript o i pos) (pb to ti):=
 (Y3 ho hi (Qci.or (YK hu)) ha).of λv σ H Q J=>by obtain⟨ρ,l,st,d,c,sr,rv,p⟩:=J;exact⟨ρ,l,st,c,sr,p.bnd.imp λy bB ρ1 H1 O s1 p1 u ru=>⟨ρ1,l,bB,c.mono O,s1,p1.bnd.imp λz g ρ2 H2 L s2 Y w C=>by
  have I:=ru.mono L;have rd:dG X.K ρ2 H2 v d:=(rv.mono O).mono L;cases y with
  |ref n=>
   obtain⟨_,rfl,_,h⟩:=I.inv;cases z with
   |int k=>
    cases (show _=V.int k from C.inv);obtain⟨ds,e,U⟩:=aW.getL (aW.bnd (aW.bnd Y)) s2;obtain⟨a,vs,ha,hv,r⟩:=s2.seq e;rw[h]at ha;cases ha;cases e2:MM.pO ds.length k with
    |none=>rw[e2]at U;exact U.elim
    |some j=>
     rw[e2]at U;have hl:=(aq.mp e).1;obtain⟨G,E⟩:=s2.put hl h hv (r.set j rd);refine .inl ⟨_,vs,k,j,rfl,rfl,hv,by rw[r.length];exact e2,?_⟩;have p4:aW X.K ρ2 H2 (putL _ (ds.set j d) g) _:=U;unfold putL at p4;rw[e]at p4;exact (p4 ρ2 _ E G).ret G σ (((c.mono O).mono L).mono E)
   |_=>exact (aW.bnd Y).elim
  |dic n=>
   obtain⟨a,rfl,_,h⟩:=I.inv;have p':aW X.K ρ2 H2 (storeK n z d g) λa st' ρ' H'=>aW X.K ρ' H' (MM.ret l st') λl' _ ρ' H'=>∀σ',LR X.K ρ' H' σ' l'->Q σ' H':=by cases C<;>exact aW.bnd Y
   obtain⟨b,bA,e1,hk,hl,q⟩:=aW.storeK p' s2;exact .inr ⟨ρ2,g,n,a,b,bA,z,d,rfl,s2,h,e1,C,hk,hl,rd,λH3 G E=>(q ρ2 H3 E G).ret G σ (((c.mono O).mono L).mono E)⟩
  |_=>exact (aW.bnd Y).elim⟩⟩
theorem Yv{P:Program}{w:bw}{K:aj}{mg:Str->Option ac}{base:bu}{x qual:Str}{C:Stmt}{f:af}{L:bU}{N ps:List Str}{k:Nat}{o:CS}(F:tS K x qual C f L)(S:iG N ps (a_ C))
  (u:∀(g:ac)(A:br)(outer:List Env)(s:ae)(H:Hp)(E:XK),L.code=g->Room k (A.deeper (eU qual (a_ C) s.heap.objs.size f g))->vX (ko m9 P w K mg base N qual (a_ C) f g A outer s H E).nox (dk C) o):
  gO P w K mg base m9 (k+1) f L ps (mU K ps.length (bW N.length o)):=by
 obtain⟨oc,od,kV,doc,pm,an,g,ct,osl,rfl,lk,J⟩:=F.ex;refine IY lk J S (λU H Q E h=>h.1) λA outer s H U Q E hr h=>⟨_,(u g A outer s H E rfl hr).nox,?_⟩
 obtain⟨hl,ρ,st,ds,b,I,p⟩:=h;refine⟨ρ,_,st,LR.start I,b,?_⟩;unfold bW at p;exact p.bnd.imp λf Y ρ1 H1 x1 O G=>by
  cases f with
  |next l=>exact λσ' _=>G.ret O _ .non
  |ret d=>exact λv c=>G.ret O v c
  |brk l=>exact G.elim
  |cnt l=>exact G.elim
noncomputable def Fs(K:aj)(ρ0:List af)(h:Hp)(w:Wk)(J:It):Prop:=∀ρ H st,Ex ρ0 h ρ H->SR K ρ H st->w.same st->J.stop w.ds.length H/\∀(i:Nat)(d:D),w.ds[i]?=some d->J.go i H/\∀x g,J.yld i H x g->Ex ρ H ρ g/\SR K ρ g st/\dG K ρ g x d
def B3(K:aj)(f:CI):TI:=λσ H R=>∃ρ l st,LR K ρ H σ l/\SR K ρ H st/\aW K ρ H (f l st) λw _ ρ' g=>∀J,Fs K ρ' g w J->R J g
abbrev SI(X:Cx)(tg e:Expr)(f:CI):Prop:=PI X tg e (B3 X.K f)
theorem _root_.L2.PI.of{tg e:Expr}{t t':TI}(h:PI X tg e t)(f:∀σ H R,t' σ H R->t σ H R):PI X tg e t':=λg s σ H R I q=>h g s σ H R I (f σ H R q)
theorem NC{ρ0:List af}{C:Hp}{ds:List D}{p:aT->Prop}{a:af}(h:∀ρ H st,Ex ρ0 C ρ H->SR K ρ H st->p st->∃g,iW K H a g/\ce K ρ H g ds):Fs K ρ0 C ⟨ds,p⟩ (JM K a):=λρ H st x s q=>by obtain⟨g,o,r⟩:=h ρ H st x s q;refine⟨⟨g,o,by rw[r.length];exact az _⟩,λi d e=>?_⟩;obtain⟨v,u,E⟩:=r.get e;refine⟨⟨g,v,o,u⟩,λy J l=>?_⟩;obtain⟨I,G⟩:=l;subst I;have:=G g o;rw[u]at this;cases this;exact⟨Ex.refl,s,E⟩
theorem ZG{ρ0:List af}{C:Hp}{ds:List D}{p:aT->Prop}{a:af}(h:∀ρ H st,Ex ρ0 C ρ H->SR K ρ H st->p st->∃g,kz K H a g/\ce K ρ H g ds):Fs K ρ0 C ⟨ds,p⟩ (L_ K a):=λρ H st x s q=>by obtain⟨g,o,r⟩:=h ρ H st x s q;refine⟨⟨g,o,by rw[r.length];exact az _⟩,λi d e=>?_⟩;obtain⟨v,u,E⟩:=r.get e;refine⟨⟨g,v,o,u⟩,λy J l=>?_⟩;obtain⟨I,G⟩:=l;subst I;have:=G g o;rw[u]at this;cases this;exact⟨Ex.refl,s,E⟩
theorem OU{ρ0:List af}{u:Hp}{lo:Int}{n:Nat}:Fs K ρ0 u ⟨gG lo n,eQ⟩ (EK lo n):=λρ H st x s _=>by
 refine⟨by show n<=(gG lo n).length;unfold gG;simp,λi d e=>?_⟩;have h:i < n:=by have:=(aq.mp e).1;simpa [gG] using this
 refine⟨h,λy v g=>?_⟩;obtain⟨o,l⟩:=g;subst o l;have:d=.int (lo+(i:Nat)):=by unfold gG at e;rw[aG,ig h]at e;exact (bq e).symm
 subst this;exact⟨Ex.refl,s,.int _⟩
theorem Uf{l:Expr}{O:TE}(Y:PE X l O):PI X tg l (λσ H R=>O σ H λx C=>∃a,x=.ref a/\((∃xs,iW X.K C a xs)/\R (JM X.K a) C\/(∃xs,kz X.K C a xs)/\R (L_ X.K a) C)):=by
 intro G s σ H R I h;refine fE (Y G s σ H _ I h) λv g E=>?_;obtain⟨x,C,u,U,a,e,q⟩:=E;subst e;cases U;rcases q with ⟨⟨xs,J⟩,q⟩|⟨⟨xs,J⟩,q⟩
 ·obtain⟨its,Q,p,hz⟩:=u.list J;refine rg p.isList ?_;refine⟨g.heap.objs.size,[g.heap.objs.size],_,_,C,rfl,u.kept (t':=g.toks) λb o e=>aw _ e,Yf a _,⟨_,aR _ rfl,rfl,rfl⟩,λb L=>?_,q⟩;have e:b=g.heap.objs.size:=by simpa using L
  subst e;exact u.fpOk (az _) (u.hok.fresh (az _))
 ·obtain⟨its,Q,p,hz⟩:=u.tuple J;refine l_ (show g.heap.IsTuple a its.toArray from p) ?_;refine⟨g.heap.objs.size,[g.heap.objs.size],_,_,C,rfl,u.kept (t':=g.toks) λb o e=>aw _ e,VM a _,⟨_,aR _ rfl,rfl,rfl⟩,λb L=>?_,q⟩;have e:b=g.heap.objs.size:=by simpa using L
  subst e;exact u.fpOk (az _) (u.hok.fresh (az _))
theorem Zp(h:SE X e fa):SI X tg e (lx fa):=(Uf h).of λσ H R c=>c.el λρ l st U O p=>⟨ρ,l,st,U,O,p.bnd.imp λd L ρ1 H1 x1 o C v G=>by
 cases d with
 |tup ds=>obtain⟨a,g,rfl,h,r⟩:=G.inv;exact⟨a,rfl,.inr ⟨⟨g,h⟩,C.ret o _ (ZG λρ H st x s _=>⟨g,kz.mono x.up h,r.mono x⟩)⟩⟩
 |lit ds=>obtain⟨a,g,rfl,h,r⟩:=G.inv;exact⟨a,rfl,.inl ⟨⟨g,h.seq⟩,C.ret o _ (NC λρ H st x s _=>⟨g,(vS.mono x.up h).seq,r.mono x⟩)⟩⟩
 |ref n=>
  obtain⟨a,rfl,_,h⟩:=G.inv;obtain⟨ds,e,Q⟩:=aW.getL (aW.bnd C) o;obtain⟨a',g,I,b,r⟩:=o.seq e;rw[h]at I;cases I;refine⟨a,rfl,.inl ⟨⟨g,iW.of b⟩,Q.ret o _ (NC λρ H st x s q=>?_)⟩⟩;obtain⟨a2,J,u,Y,E⟩:=s.seq q;obtain⟨τ,eτ,_⟩:=x.pre;rw[eτ,E6 h]at u;cases u;exact⟨J,iW.of Y,E⟩
 |_=>exact C.elim⟩
theorem U0{p:Pos}(E:Gl X "range")(C:X.mg "range"=none)(h:SE X a fa)(hs:av [a] X.env=[(false,eval a X.env)]:=by rfl):SI X tg (.Call (.Name "range" p) [a] [] pos) (MM.iy fa):=
 (UW (tg:=tg) (p:=p) (pos:=pos) E C (IN h HF hs) hs).of λσ H R G=>G.el λρ l st v o p=>⟨ρ,l,st,v,o,by
  have q:=aW.bnd p;unfold ak
  show aW X.K ρ H (bnd (fa l) _ st) _;unfold MM.bnd;cases e:fa l st with
  |bad=>rw[e]at q;exact q
  |exc _ _=>rw[e]at q;exact q
  |ok d bB=>
   rw[e]at q
   show ∀ρ' H',Ex ρ H ρ' H'->SR X.K ρ' H' bB->_;intro ρ1 H1 x1 s1 vs rvs;have g:=q ρ1 H1 x1 s1;cases rvs with
   |cons rv rt=>
    cases rt;cases rv with
    |int j=>
     obtain⟨⟨J,I⟩,u⟩:=aW.chk g;exact⟨j,rfl,J,I,u.ret s1 _ OU⟩
    |_=>exact g.elim⟩
theorem aW.chkS{p:aT->Prop}{R:Unit->aT->List af->Hp->Prop}(h:aW K ρ H (MM.chkS p st) R)(s:SR K ρ H st):p st/\R () st ρ H:=by
 unfold MM.chkS at h;by_cases g:p st
 ·rw[aE g]at h;exact⟨g,h ρ H Ex.refl s⟩
 ·rw[aA g]at h;exact h.elim
theorem ZW{iter:Expr}{u:List Stmt}{ci:CI}{g:CG}{cb:CS}(hp:pq (aK X.prog X.w) X.A X.env X.xe)(hc:X.calm=true)(hi:SI X tg iter ci)(hg:SG X tg g)(hb:vX X u cb)
  (hs:∀x,cX iter X.env x=pure x:=by intro _;rfl):SS X (.For tg iter u [] pos) (mF ci g cb):=(Nf hp hc hi hg hb hs).of λG σ H h_=>h_.el λρ l st lr sr p=>
 ⟨ρ,l,st,lr,sr,p.bnd.imp λw b ρ1 H1 x1 s1 p1 J hJ=>by
  refine⟨λi m σ' h=>m=w.ds.length-i/\i<=w.ds.length/\∃ρ' l' st',Ex ρ1 H1 ρ' h/\LR X.K ρ' h σ' l'/\SR X.K ρ' h st'/\aW X.K ρ' h (kD g cb w.same (w.ds.drop i) l' st') λf _ ρ' h=>match f with
   | .next l'=>∀σ',LR X.K ρ' h σ' l'->G.nx σ' h
   | .ret d=>∀v,dG X.K ρ' h v d->G.rt v h
   | .brk l'=>∀σ',LR X.K ρ' h σ' l'->G.bk σ' h
   | .cnt l'=>∀σ',LR X.K ρ' h σ' l'->G.ct σ' h,⟨w.ds.length,by simp,bJ _,ρ1,l,b,Ex.refl,lr.mono x1,s1,p1⟩,?_⟩
  rintro i m σ2 H2 ⟨rfl,hi,ρ2,l2,st2,x2,lr2,s2,p2⟩
  by_cases C:i < w.ds.length
  ·have ed:w.ds.drop i=w.ds[i]::w.ds.drop (i+1):=bR C;rw[ed]at p2;unfold kD at p2;obtain⟨c,p3⟩:=aW.chkS (aW.bnd p2) s2;obtain⟨_,go⟩:=hJ ρ2 H2 st2 x2 s2 c;obtain⟨g1,g2⟩:=go i w.ds[i] (ar C);refine .inr ⟨g1,λσ3 E=>∃ρ3 l3 st3,Ex ρ1 H1 ρ3 E/\LR X.K ρ3 E σ3 l3/\SR X.K ρ3 E st3/\aW X.K ρ3 E (kD g cb w.same (w.ds.drop (i+1)) l3 st3) λf _ ρ' h=>match f with
    | .next l'=>∀σ',LR X.K ρ' h σ' l'->G.nx σ' h
    | .ret d=>∀v,dG X.K ρ' h v d->G.rt v h
    | .brk l'=>∀σ',LR X.K ρ' h σ' l'->G.bk σ' h
    | .cnt l'=>∀σ',LR X.K ρ' h σ' l'->G.ct σ' h,λσ3 E q=>⟨_,by ext,rfl,C,q⟩,λy E hy=>?_⟩
   obtain⟨U,s3,b⟩:=g2 y E hy;refine⟨ρ2,l2,st2,_,lr2.mono U,s3,b,(aW.left U (aW.bnd p3)).imp λl4 Y ρ4 H4 H J p4 σ4 l=>⟨ρ4,l4,Y,l,J,(aW.bnd p4).imp λf L ρ5 H5 u O Q=>?_⟩⟩;have I:Ex ρ1 H1 ρ5 H5:=(x2.trans U).trans (H.trans u);cases f with
   |next l5=>exact λσ5 o=>⟨ρ5,l5,L,I,o,O,Q⟩
   |cnt l5=>exact λσ5 o=>⟨ρ5,l5,L,I,o,O,Q⟩
   |brk l5=>exact λσ5 o=>Q.ret O σ5 o
   |ret d=>exact λv b=>Q.ret O v b
  ·have e:i=w.ds.length:=by ext
   subst e;rw[e_]at p2;unfold kD at p2;obtain⟨c,p3⟩:=aW.chkS (aW.bnd p2) s2;obtain⟨g1,_⟩:=hJ ρ2 H2 st2 x2 s2 c;exact .inl ⟨g1,p3.ret s2 σ2 lr2⟩⟩
end
section
variable{X:Cx}{a b c e tg:Expr}{es:List Expr}{pos:Pos}{fa fb fc:CE}{ca cb:CA}{ta tb:CT}{K:aj}{ρ:List af}{H:Hp}{st:aT}{x:Str}{p:Pos}{id T:String}
theorem ND{n:Nat}{ix:List Nat}{σ:St}{l:Loc}(h:LR K ρ H σ l):LR K ρ H (yD n ix σ) (gL n ix l):=by
 unfold yD gL;refine⟨by simp,λi d e=>?_⟩;have u:n<=i:=qH λz=>by rw[aJ (by simpa using z),iK]at e;split at e<;>cases e
 rw[bo (by simpa using u),gH,aG]at e;cases q:ix[i-n]? with
 |none=>rw[q]at e;cases e
 |some k=>
  rw[q]at e;have g:(l[k]?).join=some d:=bq e;have G:l[k]?=some (some d):=by
   cases z:l[k]? with
   |none=>rw[z]at g;cases g
   |some o=>rw[z]at g;exact bS some g
  obtain⟨v,E,C⟩:=h.2 k d G;refine⟨v,?_,C⟩;rw[bo (by simpa using u),gH,aG,q]
  show some ((σ[k]?).join)=some (some v);rw[E];rfl
abbrev vA(X:Cx)(g:List Expr)(t:CT):Prop:=td X g (nM X.K t)
theorem RJ:vA X [] cD:=λg s σ H Q I o=>o.el λρ l st u h p=>W7 g s σ H Q I (p.ret h)
theorem V4(h:ST X c ta):vA X [c] ta:=Vv h
theorem Ex.own{ρ':List af}{g:Hp}{q:af}{l:List V}(x:Ex ρ H ρ' g)(h:H q=none):Ex ρ H ρ' (eB g q (.lst l)):=by
 have ne:∀b o,H b=some o->b≠q:=λb o e z=>by rw[z,h]at e;cases e
 exact⟨x.pre,λb o no e=>by rw[fR (ne b o e)];exact x.fix b o no e,λb xs u e=>by rw[fR (ne b _ e)];exact x.oth b xs u e,λb o e=>by rw[fR (ne b o e)];exact x.knd b o e⟩
theorem Up.own{ρ':List af}{g:Hp}{q:af}{u l:List V}(h:g q=some (.lst u)):Up ρ' g ρ' (eB g q (.lst l)):=
 ⟨⟨[],by simp⟩,λb o no e=>by rw[fR λz=>by subst z;rw[h]at e;cases e;cases no];exact e,
  λb o e=>by
   by_cases z:b=q
   ·subst z;rw[h]at e;cases e;exact⟨_,iI,rfl⟩
   ·exact⟨o,by rw[fR z];exact e,rfl⟩⟩
theorem LR.up{ρ':List af}{g:Hp}{σ:St}{l:Loc}(x:Up ρ H ρ' g)(h:LR K ρ H σ l):LR K ρ' g σ l:=⟨h.1,λi d e=>let ⟨v,e1,r⟩:=h.2 i d e;⟨v,e1,r.up x⟩⟩
theorem SR.own{q:af}{u l:List V}(s:SR K ρ H st)(h:H q=some (.lst u))(v:q∉ρ):SR K ρ (eB H q (.lst l)) st:=
 ⟨s.len,s.nd,λn b o g C=>qR.mono (o:=o) (Up.own h) (s.ob n b o g C) λE e=>by rw[fR (λ(z:b=q)=>v (by rw[<- z];exact aX g))];exact e⟩
theorem Nh{ci:CI}{g:CG}{n:Nat}{ix:List Nat}:∀σ H Q,DZ K (dR n ix ci g ta fa) σ H Q->qo (B3 K ci) n ix (wo K g) (nM K ta) (vR K fa) σ H Q:=λσ H Q h_=>h_.el λρ l st lr sr p=>
 ⟨ρ,l,st,lr,sr,p.bnd0.imp λw bB ρ1 H1 x1 s1 p1 J hJ q hq=>by
  obtain⟨hz,p2⟩:=aW.chk p1;have hn:H q=none:=by
   cases z:H q with
   |none=>rfl
   |some o=>exact bc hq (x1.trk q o z)
  obtain⟨J0,L⟩:∃J0:Nat->Nat->St->Hp->Prop,J0=λi m σ' U=>m=w.ds.length-i/\i<=w.ds.length/\∃ρ' l' st' done h,Ex ρ H ρ' U/\Ex ρ1 H1 ρ' U/\LR K ρ' U σ' l'/\SR K ρ' U st'/\q∉ρ'/\U q=some (.lst h)/\ce K ρ' U h done/\done.length<=i /\
   aW K ρ H (collect g ta fa w.same (w.ds.drop i) l' st') (λdB C ρ2 u=>∀a ws,H a=none->a∉ρ2->u a=some (.lst ws)->ce K ρ2 u ws (done++dB)->Q (.ref a) u):=⟨_,rfl⟩
  refine⟨J0,
   ⟨w.ds.length,by rw[L];exact⟨by simp,bJ _,ρ1,gL n ix l,bB,[],[],x1.trans (Ex.new hq),Ex.new hq,ND ((lr.mono x1).mono (Ex.new hq)),s1.new hq,s1.fresh hq,iI,.nil,bJ _,p2⟩⟩,?_⟩
  intro i m σ2 u hj;rw[L]at hj;obtain⟨rfl,hi,ρ2,l2,C,done,h,O,y2,lr2,s2,nq,hv,E,hd,p3⟩:=hj;by_cases I:i < w.ds.length
  ·have ed:w.ds.drop i=w.ds[i]::w.ds.drop (i+1):=bR I;rw[ed]at p3;unfold collect at p3;obtain⟨sm,p4⟩:=aW.chkS (p3.bnd0.left O) s2;obtain⟨_,go⟩:=hJ ρ2 u C y2 s2 sm;obtain⟨g1,g2⟩:=go i w.ds[i] (ar I);refine .inr ⟨g1,λy H3 hy=>?_⟩;obtain⟨Q,s3,rv⟩:=g2 y H3 hy;refine⟨ρ2,l2,C,_,lr2.mono Q,s3,rv,(p4.bnd0.left (O.trans Q)).imp λl4 st4 ρ4 H4 x4 s4 p5 σ4 G=>⟨ρ4,l4,st4,G,s4,(p5.bnd0.left (O.trans (Q.trans x4))).imp λb H ρ5 H5 J s5 p6=>?_⟩⟩;have Y:Ex ρ2 u ρ5 H5:=Q.trans (x4.trans J);have c:∀{ρ':List af}{U:Hp},Ex ρ2 u ρ' U->q∉ρ':=λz o=>by
    obtain⟨τ,e,f⟩:=z.pre;rw[e]at o;rcases aZ.mp o with o|o
    ·exact nq o
    ·rw[f q o]at hv;cases hv
   cases b with
   |false=>exact⟨w.ds.length-(i+1),by ext,by rw[L];exact⟨rfl,I,ρ5,l4,H,done,h,O.trans Y,y2.trans Y,G.mono J,s5,c Y,Y.lst q h nq hv,E.mono Y,xY hd,p6⟩⟩
   |true=>
    refine⟨ρ5,l4,H,G.mono J,s5,(p6.bnd0.left (O.trans Y)).imp λd st6 ρ6 H6 x6 s6 p7 v rv6=>?_⟩;have l:Ex ρ2 u ρ6 H6:=Y.trans x6;have g:=l.lst q h nq hv;have u6:Up ρ6 H6 ρ6 (eB H6 q (.lst (h++[v]))):=Up.own g;refine⟨h,g,?_,w.ds.length-(i+1),by ext,?_⟩
    ·have c:=E.length;have b:w.ds.length<=sizeLine:=hz;ext
    ·rw[L];refine⟨rfl,I,ρ6,l4,st6,done++[d],h++[v],(O.trans l).own hn,(y2.trans l).own hq,LR.up u6 ((G.mono J).mono x6),s6.own g (c l),c l,iI,
     ce.app ((E.mono l).up u6) (.cons (rv6.up u6) .nil),by simp;ext,?_⟩
     refine p7.bnd0.imp λdB u ρ8 H8 o C H a ws Y Q U b=>?_;exact H ρ8 H8 o C a ws Y Q U (by rw[xZ];exact b)
  ·have e:i=w.ds.length:=by ext
   subst e;rw[e_]at p3;unfold collect at p3;obtain⟨sm,p4⟩:=aW.chkS (p3.bnd0.left O) s2;obtain⟨g1,_⟩:=hJ ρ2 u C y2 s2 sm;refine .inl ⟨g1,p4 ρ2 u O s2 q h hn nq hv (by rw[bH];exact E)⟩⟩
theorem YF{scope:dw}{N:List Str}{h:List Expr}{n:Nat}{ix:List Nat}{u:CI}{g:CG}(C:X.calm=true)(S:fm X scope)(T:gj X scope N n ix)(v:SI X tg b u)
  (o:∀(l:List af)(s:ae)(H:Hp),SG (iU X N scope l s H) tg g/\vA (iU X N scope l s H) h ta/\SE (iU X N scope l s H) e fa)
  (hs:∀x,cX b X.env x=pure x:=by intro _;rfl):SL X (.ListComp e [⟨tg,b,h,0⟩] scope pos) (dR n ix u g ta fa):=(Ts C S T v o hs).of Nh
theorem SU{scope:dw}{N:List Str}{u:List Expr}{n i:Nat}{ix:List Nat}{Y:CI}{g:CG}{y:Str}{o h:Pos}
  (hN:X.N.Nodup) (I:X.N[i]?=some y) (hy:L2.Loc X.env.scope y) (hf:X.fn y=true\/X.env.scope.names.lookup y=some .local)
  (hc:X.calm=true) (S:fm X scope) (T:gj X scope N n ix) (hi:SI X tg b Y)
  (L:∀(J:List af)(s:ae)(H:Hp),SG (iU X N scope J s H) tg g/\vA (iU X N scope J s H) u ta/\SE (iU X N scope J s H) e fa)
  (G:eW (.ListComp e [⟨tg,b,u,0⟩] scope pos) (some (.Name y o)) h.line X.env=pure true)
  (hs:∀x,cX b X.env x=pure x:=by intro _;rfl):SS X (.Assign [.Name y o] (.ListComp e [⟨tg,b,u,0⟩] scope pos) h) (bY (aU i) (bZ (dR n ix Y g ta fa))):=
 (Qd1 hN I hy hf hc S T hi L G hs).of (J8 (λσ H Q h_=>h_.el λρ l st lr sr p=>Nh _ _ _ ⟨ρ,l,st,lr,sr,p.bnd0.imp λds bB ρ1 c C O p1 a vs ha na U E=>by
  have x:Ex ρ H (ρ1++[a]) c:=by
   obtain⟨τ,e,f⟩:=C.pre;refine⟨⟨τ++[a],by rw[e,cL],λb v=>?_⟩,C.fix,C.oth,C.knd⟩;rcases aZ.mp v with v|v
   ·exact f b v
   ·rw[aC]at v;rw[v];exact ha
  refine p1 (ρ1++[a]) c x (O.keep U na E) _ (.ref ⟨_,U,rfl⟩ ?_);rw[<- O.len];simp⟩) MX)
theorem RB{g : D -> M D}(b : CallR X (.builtin id) (λxs H Q => ∃v, xs = [v] /\ xI X.K g v H Q))(Y : Gl X x)(U : X.mg x = none)(L : cS x = some (.builtin id))(c : SE X e fa)(O : x ≠ "__name__" := by decide)(o : (x == ("__debug__" : Str)) = false := by decide)
  (u:av [e] X.env=[(false,eval e X.env)]:=by rfl):SE X (.Call (.Name x p) [e] [] pos) (c1 g fa):=
 (CP b Y U L (nJ c qj u) O o u rfl).of λσ H Q h_=>h_.el λρ l st J C p=>⟨ρ,l,st,J,C,p.bnd.imp λd h ρ1 H1 x1 E I v G=>⟨v,rfl,ρ1,h,d,E,G,I⟩⟩
theorem HI{g : D -> M D}(b : CallR X (.type T) (λxs H Q => ∃v, xs = [v] /\ xI X.K g v H Q))(Y : Gl X x)(U : X.mg x = none)(L : cS x = some (.type T))(c : SE X e fa)(O : x ≠ "__name__" := by decide)(o : (x == ("__debug__" : Str)) = false := by decide)
  (u:av [e] X.env=[(false,eval e X.env)]:=by rfl):SE X (.Call (.Name x p) [e] [] pos) (c1 g fa):=
 (L7 b Y U L (nJ c qj u) O o u rfl).of λσ H Q h_=>h_.el λρ l st J C p=>⟨ρ,l,st,J,C,p.bnd.imp λd h ρ1 H1 x1 E I v G=>⟨v,rfl,ρ1,h,d,E,G,I⟩⟩
def CK(K:aj)(g:List D->M D):List V->Hp->VK->Prop:=λxs H Q=>∃a h ρ st ds,xs=[.ref a]/\iW K H a h/\SR K ρ H st/\ce K ρ H h ds/\aW K ρ H (g ds st) λr _ ρ' l=>∀v,dG K ρ' l v r->Q v l
theorem Pw{g : List D -> M D}(c : CallR X (.builtin id) (CK X.K g))(b : Gl X x)(Y : X.mg x = none)(u : cS x = some (.builtin id))(E : SL X e ca)(U : x ≠ "__name__" := by decide)(v : (x == ("__debug__" : Str)) = false := by decide)
  (C:av [e] X.env=[(false,eval e X.env)]:=by rfl):SE X (.Call (.Name x p) [e] [] pos) (im g ca):=
 (CP c b Y u (nJ E qj C) U v C rfl).of λσ H Q h_=>h_.el λρ l st O I p=>⟨ρ,l,st,O,I,p.bnd.imp λds h ρ1 H1 x1 J L a G E na u o=>⟨a,G,ρ1,h,ds,rfl,iW.of u,J,o,L⟩⟩
theorem Ry{g : List D -> M D}(c : CallR X (.type T) (CK X.K g))(b : Gl X x)(Y : X.mg x = none)(u : cS x = some (.type T))(E : SL X e ca)(U : x ≠ "__name__" := by decide)(v : (x == ("__debug__" : Str)) = false := by decide)
  (C:av [e] X.env=[(false,eval e X.env)]:=by rfl):SE X (.Call (.Name x p) [e] [] pos) (im g ca):=
 (L7 c b Y u (nJ E qj C) U v C rfl).of λσ H Q h_=>h_.el λρ l st O I p=>⟨ρ,l,st,O,I,p.bnd.imp λds h ρ1 H1 x1 J L a G E na u o=>⟨a,G,ρ1,h,ds,rfl,iW.of u,J,o,L⟩⟩
theorem Se{prog:Program}{w:bw}{A:br}{E:ac->ae->Prop}{s:ae}{K:Type}[DecidableEq K]{knd:z_ prog w K}{d:af}{xs:List (K×af×ac)}{Q:ac->ae->Prop}(hd:(d == fA)=false)(u:s.heap.DictOfH knd d xs)(hfit:(xs.length:Int) < 2^63)
  (h:Q (.int xs.length (s.toks+1)) { s with toks:=s.toks+1+1 }):aD (aK prog w) A (call (.builtin "len") [.ref d]) Q E s:=by
 refine Calls.call_function_entry kind_len plain_len entry_len (args_len1 _) ?_;unfold Builtin.«len»;have l:MeetsIn prog w (Builtin.«dict.__len__» ⟨[.ref d],[]⟩) (λ_ R s=>∃xs,s.heap.DictOfH knd d xs/\R (.ok (.ret (.int xs.length s.toks))) { s with toks:=s.toks+1 }):=.of_wp λA R s g=>by
  obtain⟨xs,u,h⟩:=g;obtain⟨o,es,L,C,J,v,G,_,I⟩:=u
  show aD _ _ (dictSize d >>= _) _ _ s;unfold dictSize;refine aa (aa (wpAny_dictEntries C v (ah ?_)))
  show aD _ _ (Builtin.Dict.pendingCount d >>= _) _ _ s;refine aa (wpAny_pendingCount_other hd ?_);refine HZ ?_;rw[uO,tM G];exact h
 refine aa (m:=oneArg "len" _) (ah ?_);refine aa (m:=xt (.ref d) (ag "__len__")) (cV (name:=ag "__len__") u.typeIs Dw
  (call_meetsIn Dw u.typeIs F.entry_dict_len (F.args_dict_len_1 _) l ⟨xs,u,?_⟩))
 show aD _ _ _ _ _ { s with toks:=s.toks+1 };refine aa (cB (ah ?_));refine aa (sO ?_)
 show aD _ _ (if ((xs.length:Nat):Int) < 0 then _ else _) _ _ _;rw[aA (by ext)]
 show aD _ _ (if ((xs.length:Nat):Int) ≥ 2^63 then _ else _) _ _ _;rw[aA (by ext)];exact aa (wpAny_mkInt (ah ⟨_,rfl,h⟩))
theorem Xw:CallR X (.builtin "len") (λxs H Q=>∃(ρ:List af)(st:aT)(n:Nat)(a:af)(b:Bool)(l:List (D×D)),xs=[.ref a]/\SR X.K ρ H st/\ρ[n]?=some a/\st[n]?=some (.dct b l)/\Q (.int l.length) H):=by
 intro v s σ H xs U Q I r h;obtain⟨ρ,st,n,a,b,l,e,C,J,G,q⟩:=h;subst e;obtain⟨u,rfl,E⟩:=vY r;cases E;have g:=C.ob n a _ J G;cases b with
 |false=>
  obtain⟨es,e,r⟩:=g;rw[<- KR.length r]at q;exact Ud I (.inl e) λt s' O=>⟨.int es.length,H,O,⟨t,rfl⟩,q⟩
 |true=>
  obtain⟨es,e,r⟩:=g;obtain⟨z,hd,xs,o,L,_⟩:=ER I e r;rw[<- NR.length r,fF o]at q;have hz:xs.length<=sizeLine:=by rw[<- fF o];exact z
  exact Se hd L (by rw[sJ]at hz;ext) ⟨.int xs.length,H,I.tok _,⟨_,rfl⟩,q⟩
theorem Yr:CallR X (.builtin "len") (λxs H Q=>∃v,xs=[v]/\xI X.K dL v H Q):=((U7.or Sx).or Xw).of λxs H Q o=>by
 obtain⟨v,e,ρ,st,d,g,I,p⟩:=o;cases I with
 |@tup a l ds h r=>exact .inl (.inl ⟨a,l,e,.inr h,by rw[r.length];exact p.ret g _ (.int _)⟩)
 |@lit a l ds h r=>exact .inl (.inl ⟨a,l,e,.inl h.seq,by rw[r.length];exact p.ret g _ (.int _)⟩)
 |@ref a n _ h=>
  obtain⟨ds,E,u⟩:=aW.getL (aW.bnd p) g;obtain⟨L,l,G,J,r⟩:=g.seq E;rw[h]at G;cases G;exact .inl (.inl ⟨a,l,e,.inl (iW.of J),by rw[r.length];exact u.ret g _ (.int _)⟩)
 |str z=>exact .inl (.inr ⟨z,e,(aW.chk p).1,(aW.chk p).2.ret g _ (.int _)⟩)
 |@dic a n _ h=>
  obtain⟨b,C,E,u⟩:=aW.getDc (aW.bnd p) g;exact .inr ⟨ρ,st,n,a,b,C,e,g,h,E,u.ret g _ (.int _)⟩
 |_=>exact p.elim
theorem Xe:CallR X (.type "tuple") (λxs H Q=>∃v,xs=[v]/\xI X.K tupleD v H Q):=Ov.of λxs H Q C=>by
 obtain⟨v,e,ρ,st,d,u,G,p⟩:=C;cases G with
 |@tup a o ds h r=>exact⟨a,o,e,.inr ⟨h,p.ret u _ (.tup h r)⟩⟩
 |@lit a o ds h r=>exact⟨a,o,e,.inl ⟨h.seq,λl g=>p ρ _ (Ex.new g) (u.new g) _ (.tup (kz.of iI) (r.mono (Ex.new g)))⟩⟩
 |@ref a n _ h=>
  obtain⟨ds,L,I⟩:=aW.getL (aW.bnd p) u;obtain⟨O,o,E,J,r⟩:=u.seq L;rw[h]at E;cases E;exact⟨a,o,e,.inl ⟨iW.of J,λl g=>I ρ _ (Ex.new g) (u.new g) _ (.tup (kz.of iI) (r.mono (Ex.new g)))⟩⟩
 |_=>exact p.elim
theorem PR:CallR X (.type "tuple") (CK X.K lF):=Ov.of λxs H Q g=>
 by obtain⟨a,o,ρ,st,ds,e,v,u,r,p⟩:=g;exact⟨a,o,e,.inl ⟨v,λl h=>p ρ _ (Ex.new h) (u.new h) _ (.tup (kz.of iI) (r.mono (Ex.new h)))⟩⟩
end
section
variable{X:Cx}{a b c e tg:Expr}{es:List Expr}{pos:Pos}{fa fb fc:CE}{ca cb:CA}{ta tb:CT}{K:aj}{ρ:List af}{H:Hp}{st:aT}{x:Str}{p:Pos}{T:String}
theorem SD{ds:List D}{ns:List Int}{l:List V}(h:pj ds=some ns)(g:ce K ρ H l ds):l=ns.map V.int:=by
 induction ds generalizing ns l with
 |nil=>cases g;cases h;rfl
 |cons d ds ih=>
  cases g with
  |cons r t=>
   cases r with
   |int i=>
    unfold pj at h;cases q:pj ds with
    |none=>rw[q]at h;cases h
    |some ms=>
     rw[q]at h;have h':i::ms=_:=bq h;subst h';rw[ih q t];rfl
   |_=>cases h
theorem VS{ds:List D}{ns:List Bool}{g:List V}(h:kE ds=some ns)(l:ce K ρ H g ds):g=ns.map V.bl:=by
 induction ds generalizing ns g with
 |nil=>cases l;cases h;rfl
 |cons d ds ih=>
  cases l with
  |cons r t=>
   cases d with
   |bl i=>
    unfold kE at h;cases q:kE ds with
    |none=>rw[q]at h;cases h
    |some ms=>
     rw[q]at h;have h':i::ms=_:=bq h;subst h';cases r;rw[ih q t];rfl
   |_=>cases h
theorem Rg:∀{bs:List Bool}{g:List ac},cU (bs.map V.bl) g->g=bs.map eG
 |[],_,.nil=>rfl
 |_::_,_,.cons r t=>by cases r;rw[Rg t];rfl
theorem WV(hc:X.calm=true):CallR X (.builtin "all") (λxs H Q=>∃(l:af)(bs:List Bool),xs=[.ref l]/\iW X.K H l (bs.map V.bl)/\Q (.bl (bs.all id)) H):=by
 intro U s σ H xs us Q I r h;obtain⟨l,bs,rfl,hq,q⟩:=h;obtain⟨u,rfl,rx⟩:=vY r;cases rx;obtain⟨its,rv,E,hz⟩:=I.list hq;have ei:=Rg rv;subst ei;refine call_all_walk (rg E.isList ?_);have J:l < s.heap.objs.size:=by obtain⟨o,G,_⟩:=E.isList;exact aL G
 refine⟨s.heap.objs.size,_,_,_,_,_,λi=>(bs[i]?).getD true,rfl,Walks.list (A:=X.A.in1) (I.ok.hd hc) s.heap.objs.size l (cv J) (bs.map eG).toArray,⟨⟨_,aR _ rfl,rfl,rfl⟩,?_⟩,?_,λh' tk L=>?_⟩
 ·obtain⟨o,G,b⟩:=E.isList;exact⟨o,aw _ G,b⟩
 ·intro i v s' c h b O;have g:(bs.map eG)[i]?=some v:=by simpa using b
  rw[aG]at g;dsimp only at O;cases e:bs[i]? with
  |none=>rw[e]at g;cases g
  |some k=>
   rw[e]at g O;have:v=eG k:=(bq g).symm;subst this;exact dN O
 ·have e : (dI (bs.map eG).toArray.size).all (λi => (bs[i]?).getD true) = bs.all id := by
    have hs:(bs.map eG).toArray.size=bs.length:=by simp
    rw[hs,Ab,cJ,cJ];constructor
    ·intro hh k L;obtain⟨i,C⟩:=kl L;have:=hh i (fT.mpr (aq.mp C).1);rw[C]at this;exact this
    ·intro hh i C;have Y:=fT.mp C;rw[ar Y];exact hh _ (cR Y)
  rw[e];exact⟨.bl _,H,I.kept (t':=tk) λb o c=>L b o (by simp;exact cv (aL c)) (aw _ c),rfl,q⟩
theorem Qj:∀(ns:List Int)(n:Int),ns.foldl max n∈n::ns/\∀a∈n::ns,a<=ns.foldl max n
 |[],n=>⟨by simp,by simp⟩
 |m::ns,n=>by
  obtain⟨u,h⟩:=Qj ns (max n m);rw[List.foldl_cons];refine⟨?_,λa o=>?_⟩
  ·rcases aI.mp u with e|e
   ·rw[e];by_cases l:n<=m
    ·rw[zY l];simp
    ·rw[Int.max_eq_left (by ext)];simp
   ·exact bb _ (bb _ e)
  ·have g:=h (max n m) bO;rcases aI.mp o with e|e
   ·subst e;exact Gy (Int.le_max_left ..) g
   ·rcases aI.mp e with e|e
    ·subst e;exact Gy (Int.le_max_right ..) g
    ·exact h a (bb _ e)
theorem Qfk{g:List ac}{ns:List Int}(h:py g ns):∃xs,g.toArray=intItems xs/\ns=xs.toList.map (·.1):=by obtain⟨xs,e⟩:=h.allInts.items;exact⟨xs,e,by rw[<- h.numsOf,<- nums_intItems,<- e]⟩
theorem YX(hc:X.calm=true):CallR X (.builtin "max") (λxs H Q=>∃(l:af)(n:Int)(ns:List Int),xs=[.ref l]/\iW X.K H l ((n::ns).map V.int)/\Q (.int (ns.foldl max n)) H):=by
 intro E s σ H xs us Q I r h;obtain⟨l,n,ns,rfl,hq,q⟩:=h;obtain⟨u,rfl,Y⟩:=vY r;cases Y;obtain⟨its,b,c,hz⟩:=I.list hq;obtain⟨ys,e,g⟩:=Qfk (W8 b);have G:=c.isList;rw[e]at G;have hsz:ys.size=ns.length+1:=by have:=bS cw g;simpa using this.symm
 refine max_intList (I.ok.hd hc) G (by ext) λv h' U hv hk=>?_;obtain⟨t,rfl⟩:=intItems_at hv;obtain⟨b1,O⟩:=argBest_gt (Dx ys) (ys.size-1);obtain⟨L,f2⟩:=Qj ns n;generalize argBest (λi j=>decide (Dx ys i > Dx ys j)) (ys.size-1)=k at b1 O ⊢;have o:Dx ys k∈n::ns:=by rw[g,numAt_eq];exact getD_mem (by rw[<- g];simp;ext)
 have C:ns.foldl max n<=Dx ys k:=by rw[g]at L;obtain⟨j,J,ej⟩:=mem_getD L;rw[<- ej,<- numAt_eq];exact O j (by rw[<- g]at J;simp at J;ext)
 have hM:Dx ys k=ns.foldl max n:=Int.le_antisymm (f2 _ o) C;rw[hM];exact⟨.int _,H,I.kept (t':=U) hk,⟨t,rfl⟩,q⟩
theorem Vs(o:X.calm=true):CallR X (.builtin "all") (CK X.K oJ):=(WV o).of λxs H Q g=>by
 obtain⟨a,u,ρ,st,ds,e,l,h,r,p⟩:=g;unfold oJ at p;cases q:kE ds with
 |none=>rw[q]at p;exact p.elim
 |some bs=>
  rw[q]at p;have:=VS q r;subst this;exact⟨a,bs,e,l,p.ret h _ (.bl _)⟩
theorem Sg(o:X.calm=true):CallR X (.builtin "max") (CK X.K rX):=(YX o).of λxs H Q g=>by
 obtain⟨a,u,ρ,st,ds,e,l,h,r,p⟩:=g;unfold rX at p;cases q:pj ds with
 |none=>rw[q]at p;exact p.elim
 |some ns=>
  rw[q]at p;have:=SD q r;subst this;cases ns with
  |nil=>exact p.elim
  |cons n ns=>exact⟨a,n,ns,e,l,p.ret h _ (.int _)⟩
structure ql(T:String):Prop where
 non:∀K,fM K (.type "NoneType") (.type T)=some (["NoneType"].contains T)
 bl:∀K,fM K (.type "bool") (.type T)=some (["bool","int"].contains T)
 int:∀K,fM K (.type "int") (.type T)=some (["int"].contains T)
 str:∀K,fM K (.type "str") (.type T)=some (["str"].contains T)
 tup:∀K,fM K (.type "tuple") (.type T)=some (["tuple"].contains T)
 lst:∀K,fM K (.type "list") (.type T)=some (["list"].contains T)
theorem Zv:ql "int":=⟨λ_=>rfl,λ_=>rfl,λ_=>rfl,λ_=>rfl,λ_=>rfl,λ_=>rfl⟩
theorem Td:ql "bool":=⟨λ_=>rfl,λ_=>rfl,λ_=>rfl,λ_=>rfl,λ_=>rfl,λ_=>rfl⟩
theorem UZ:ql "str":=⟨λ_=>rfl,λ_=>rfl,λ_=>rfl,λ_=>rfl,λ_=>rfl,λ_=>rfl⟩
theorem Za:ql "tuple":=⟨λ_=>rfl,λ_=>rfl,λ_=>rfl,λ_=>rfl,λ_=>rfl,λ_=>rfl⟩
theorem Me{g:List (af×Obj)}{σ:St}{s:ae}{Q:ac->ae->Prop}{t:String}{u:af}{k:Bool}(I:Inv X g σ H s)(l:∃o,s.heap.get? u=some o/\o.cls=.type t)(C:t="tuple"\/t="list")(e:fM X.K (.type t) (.type T)=some k)
  (h:∀v,Q (.bool k) { s with toks:=v }):aD (aK X.prog X.w) X.A (call (.builtin "isinstance") [.ref u,.type T]) Q X.xe s:=by
 rcases C with rfl|rfl
 ·exact da uJ I.kIn l e (λz=>(by cases z)) h
 ·exact da ot I.kIn l e (λz=>(by cases z)) h
theorem RE(B:ql T):CallR X (.builtin "isinstance") (λxs H Q=>∃v,xs=[v,.ty T]/\xI X.K (eY [T]) v H Q):=by
 intro G s σ H xs us Q I r E;obtain⟨v,e,ρ,st,d,l,rv,p⟩:=E;subst e;obtain⟨u,c,rfl,C,Y⟩:=Wl r;have ew:c=fK T:=Y;subst ew;have g:∀k:Bool,Q (.bl k) H->∀U,EP X G σ Q (.bool k) { s with toks:=U }:=λk q U=>⟨.bl k,H,I.tok U,rfl,q⟩
 cases rv with
 |non=>
  refine Hv I C .non (B.non _) (g _ ?_);simpa [eY,tB] using p.ret l _ (.bl _)
 |bl k=>
  refine Hv I C (.bl k) (B.bl _) (g _ ?_);simpa [eY,tB] using p.ret l _ (.bl _)
 |int k=>
  refine Hv I C (.int k) (B.int _) (g _ ?_);simpa [eY,tB] using p.ret l _ (.bl _)
 |str k=>
  refine Hv I C (.str k) (B.str _) (g _ ?_);simpa [eY,tB] using p.ret l _ (.bl _)
 |tup h r=>
  have O:u=ax _:=C;subst O;obtain⟨its,_,⟨o,L,J,_⟩,_⟩:=I.tuple h;refine Me I ⟨o,L,J⟩ (.inl rfl) (B.tup _) (g _ ?_);simpa [eY,tB] using p.ret l _ (.bl _)
 |lit h r=>
  have O:u=ax _:=C;subst O;obtain⟨its,_,b,_⟩:=I.list h.seq;obtain⟨o,L,J,_⟩:=b.isList;refine Me I ⟨o,L,J⟩ (.inr rfl) (B.lst _) (g _ ?_);simpa [eY,tB] using p.ret l _ (.bl _)
 |@ref a n kk h=>
  have O:u=ax _:=C;subst O;obtain⟨vs,hv⟩:=Kg kk;obtain⟨its,_,b,_⟩:=I.list (iW.of hv);obtain⟨o,L,J,_⟩:=b.isList;refine Me I ⟨o,L,J⟩ (.inr rfl) (B.lst _) (g _ ?_);simpa [eY,tB] using p.ret l _ (.bl _)
 |_=>exact p.elim
theorem TK{y:Str}{g:Pos}(B:ql T)(hg:Gl X "isinstance")(hm:X.mg "isinstance"=none)(G:Gl X y)(E:X.mg y=none)(o:cS y=some (.type T))(ha:SE X e fa)(c:cS "isinstance"=some (.builtin "isinstance"))
  (C:y≠"__name__":=by decide) (J:(y == ("__debug__":Str))=false:=by decide)
  (L:av [e,.Name y g] X.env=(false,eval e X.env)::av [.Name y g] X.env:=by rfl) (I:av [.Name y g] X.env=(false,eval (.Name y g) X.env)::av [] X.env:=by rfl) (u:(di pos (av [.Name y g] X.env)).any (·.1)=false:=by rfl):
  SE X (.Call (.Name "isinstance" p) [e,.Name y g] [] pos) (c1 (eY [T]) fa):=
 (CP (RE B) hg hm c (nJ ha (nJ (Qu (v:=.ty T) G E o rfl C J) qj I) L) (by decide) (by decide) L u).of λσ H Q h_=>h_.el λρ l st b O p=>⟨ρ,l,st,b,O,p.bnd.imp λd h ρ1 H1 x1 U g v Y=>⟨v,rfl,ρ1,h,d,U,Y,g⟩⟩
end
section
variable{X:Cx}{K:aj}{ρ:List af}{H:Hp}{st:aT}{ao:List (af×Obj)}{σ:St}{s:ae}
theorem Kp{f:D->D->Option Bool}:∀{xs ys:List D}{r:Bool},oj f xs ys=some r->∀(j:Nat)(x y:D),xs[j]?=some x->ys[j]?=some y->∃k,f x y=some k
 |[],_,_,_,j,x,y,h,_=>by cases j<;>cases h
 |_::_,[],_,_,j,x,y,_,h=>by cases j<;>cases h
 |a::xs,b::ys,r,h,j,x,y,hx,hy=>by
  unfold oj at h;cases e:f a b with
  |none=>rw[e]at h;cases h
  |some k=>
   cases j with
   |zero=>cases hx;cases hy;exact⟨k,e⟩
   |succ j=>
    rw[e]at h;have g:xs[j]?=some x:=hx;have c:ys[j]?=some y:=hy;cases k with
    |true=>exact Kp h j x y g c
    |false=>
     cases l:oj f xs ys with
     |none=>rw[l]at h;cases h
     |some r'=>exact Kp l j x y g c
noncomputable def C0(f:D->D->Option Bool)(xs ys:List D)(j:Nat):Bool:=match xs[j]?,ys[j]? with
 |some x,some y=>(f x y).getD false
 |_,_=>true
theorem Pa{f:D->D->Option Bool}:∀{xs ys:List D}{r:Bool},oj f xs ys=some r->r=((dI (min xs.length ys.length)).all (C0 f xs ys)&&xs.length == ys.length)
 |[],[],_,h=>by cases h;rfl
 |_::_,[],_,h=>by cases h;simp
 |[],_::_,_,h=>by cases h;simp
 |a::xs,b::ys,r,h=>by
  have step:(dI (min (a::xs).length (b::ys).length)).all (C0 f (a::xs) (b::ys))=((f a b).getD false&&(dI (min xs.length ys.length)).all (C0 f xs ys)):=by
   have e:min (a::xs).length (b::ys).length=min xs.length ys.length+1:=by simp only[cQ];ext
   rw[e,my,bG,t7];rfl
  rw[step];unfold oj at h;cases e:f a b with
  |none=>rw[e]at h;cases h
  |some k=>
   rw[e]at h;cases k with
   |true=>
    have:=Pa h;simp only[pG,sQ,cQ];rw[this];congr 1;rw[Ab];simp
   |false=>
    simp only[pG,ng];cases c:oj f xs ys with
    |none=>rw[c]at h;cases h
    |some r'=>rw[c]at h;cases h;rfl
theorem cU.at{b:List V}{c:List ac}{j:Nat}{u:ac}(r:cU b c)(h:c[j]?=some u):∃v,b[j]?=some v/\RelV v u:=by
 have o:=r.length;have g:j < b.length:=by rw[o];exact (aq.mp h).1
 obtain⟨u',e,l⟩:=r.get (ar g);rw[h]at e;cases e;exact⟨_,ar g,l⟩
theorem ce.at{b:List V}{ds:List D}{j:Nat}{v:V}(r:ce K ρ H b ds)(h:b[j]?=some v):∃d,ds[j]?=some d/\dG K ρ H v d:=by
 have l:=r.length;have c:j < ds.length:=by rw[<- l];exact (aq.mp h).1
 obtain⟨o,e,g⟩:=r.get (ar c);rw[h]at e;cases e;exact⟨_,ar c,g⟩
theorem PB{g:List D->List D->Option Bool}{v:V}{d e:D}{r:Bool}(I:Inv X ao σ H s)(G:∀xs ys u k,ce X.K ρ H u xs->ce X.K ρ H u ys->g xs ys=some k->k=true)(h:GR g d e=some r)(o:dG X.K ρ H v d)(l:dG X.K ρ H v e):r=true:=by
 cases d with
 |non=>cases e<;>first|(cases h;rfl)|(cases h;done)|exact nomatch (show v=_ from o.inv).symm.trans (show v=_ from l.inv)|skip
 |bl b=>
  cases e with
  |bl c=>cases (show v=_ from o.inv).symm.trans (show v=_ from l.inv);cases h;simp
  |_=>cases h
 |int b=>
  cases e with
  |int c=>cases (show v=_ from o.inv).symm.trans (show v=_ from l.inv);cases h;simp
  |non=>exact nomatch (show v=_ from o.inv).symm.trans (show v=_ from l.inv)
  |_=>cases h
 |str b=>
  cases e with
  |str c=>cases (show v=_ from o.inv).symm.trans (show v=_ from l.inv);cases h;simp
  |_=>cases h
 |tup xs=>
  obtain⟨a,u,rfl,L,E⟩:=o.inv;cases e with
  |tup ys=>
   obtain⟨Q,O,e,J,C⟩:=l.inv;cases e;have:=I.tuple_inj L J;subst this;exact G _ _ _ _ E C h
  |_=>cases h
 |_=>cases h
theorem O6{f:D->D->Option Bool}(u:∀v d e k,dG K ρ H v d->dG K ρ H v e->f d e=some k->k=true){xs ys:List D}{g:List V}{k:Bool}(o:ce K ρ H g xs)(l:ce K ρ H g ys)(h:oj f xs ys=some k):k=true:=by
 induction xs generalizing ys g k with
 |nil=>cases o;cases l;cases h;rfl
 |cons x xs ih=>
  cases o with
  |cons a b=>cases l with
   |cons c d=>
    unfold oj at h;cases e:f _ _ with
    |none=>rw[e]at h;cases h
    |some k=>
     rw[e]at h;have:=u _ _ _ _ a c e;subst this;exact ih b d h
theorem QF(I:Inv X ao σ H s):∀(n:Nat){v:V}{d e:D}{r:Bool},vU n d e=some r->dG X.K ρ H v d->dG X.K ρ H v e->r=true
 |0,_,_,_,_,h,r1,r2=>PB I (λ_ _ _ _ _ _ z=>by cases z) h r1 r2
 |n+1,_,_,_,_,h,r1,r2=>PB I (λxs ys o k l g z=>O6 (λv d e k a b c=>QF I n c a b) l g z) h r1 r2
open SeqAt in
noncomputable abbrev Zu(A:br)(s:ae)(c b:ac)(r:Bool):Prop:=RcAt A s c b r/\RcNeAt A s c b (!r)/\EqAt A s c b r
open SeqAt in
theorem Qm{g:List D->List D->Option Bool}{A:br}{v w:V}{C o:ac}{d e:D}{r:Bool}(I:Inv X ao σ H s)(hu:A.units < dZ)
  (hg:∀xs ys k,g xs ys=some k->∀u L its c,ce X.K ρ H u xs->ce X.K ρ H L ys->cU u its->cU L c ->
   ∃e:Nat->Bool,k=((dI (min its.length c.length)).all e&&its.length == c.length)/\∀(j:Nat)x y,its[j]?=some x->c[j]?=some y->EqAt A.in1 s x y (e j))
  (hs:∀xs ys u k,ce X.K ρ H u xs->ce X.K ρ H u ys->g xs ys=some k->k=true)
  (h:GR g d e=some r) (G:dG X.K ρ H v d) (E:dG X.K ρ H w e) (v1:RelV v C) (v2:RelV w o):Zu A s C o r:=by
 cases d with
 |non=>
  cases (show v=_ from G.inv);cases (show C=bF from v1);cases e with
  |non=>cases (show w=_ from E.inv);cases (show o=bF from v2);cases h;exact⟨.none_none,.none_none,.same _⟩
  |int b=>cases (show w=_ from E.inv);obtain⟨t,rfl⟩:=(show ∃t,o=iE b t from v2);cases h;exact⟨.none_int b t,.none_int b t,.none_int b t⟩
  |_=>cases h
 |bl a=>
  cases e with
  |bl b=>cases (show v=_ from G.inv);cases (show w=_ from E.inv);cases (show C=eG a from v1);cases (show o=eG b from v2);cases h;exact⟨.bool_bool a b,.bool_bool a b,.bool_bool a b⟩
  |_=>cases h
 |int a=>
  cases (show v=_ from G.inv);obtain⟨l,rfl⟩:=(show ∃t,C=iE a t from v1)
  cases e with
  |non=>cases (show w=_ from E.inv);cases (show o=bF from v2);cases h;exact⟨.int_none a l,.int_none a l,.int_none a l⟩
  |int b=>cases (show w=_ from E.inv);obtain⟨t,rfl⟩:=(show ∃t,o=iE b t from v2);cases h;exact⟨.int_int a l b t,.int_int a l b t,.int_int a l b t⟩
  |_=>cases h
 |str a=>
  cases e with
  |str b=>cases (show v=_ from G.inv);cases (show w=_ from E.inv);obtain⟨l,rfl⟩:=(show ∃t,C=iF a t from v1);obtain⟨t,rfl⟩:=(show ∃t,o=iF b t from v2);cases h;exact⟨.str_str a l b t,.str_str a l b t,.str_str a l b t⟩
  |_=>cases h
 |tup xs=>
  obtain⟨l1,u,rfl,h1,q1⟩:=G.inv;cases (show C=ax _ from v1);obtain⟨its,rv,p,_⟩:=I.tuple h1;cases e with
  |tup ys=>
   obtain⟨l2,L,rfl,h2,Y⟩:=E.inv;cases (show o=ax _ from v2);obtain⟨c,Q,p2,_⟩:=I.tuple h2;obtain⟨ef,ek,he⟩:=hg xs ys r h u L its c q1 Y rv Q;have J:∀j(a1:j < its.toArray.size)(a2:j < c.toArray.size),EqAt A.in1 s its.toArray[j] c.toArray[j] (ef j):=λj a1 a2=>
    he j _ _ (by rw[kn];exact ar (by simpa using a1)) (by rw[kn];exact ar (by simpa using a2))
   have O:=RcAt.tuples (A:=A) (s:=s) p p2 hu J;have U:=RcNeAt.tuples (A:=A) (s:=s) p p2 hu J;simp only[aM]at O U;rw[<- ek]at O U;refine⟨O,U,?_⟩;by_cases hl:l1=l2
   ·subst hl;have:=I.tuple_inj h1 h2;subst this;rw[hs xs ys u r q1 Y h];exact .same _
   ·exact .of_refs hl O
  |_=>cases h
 |_=>cases h
open SeqAt in
theorem QG{n:Nat}{A:br}(I:Inv X ao σ H s)
  (ih:∀{v w:V}{C u:ac}{d e:D}{r:Bool},vU n d e=some r->dG X.K ρ H v d->dG X.K ρ H w e->RelV v C->RelV w u->EqAt A s C u r)
  {xs ys:List D}{k:Bool} (h:oj (vU n) xs ys=some k) {o l:List V}{its b:List ac} (J:ce X.K ρ H o xs) (G:ce X.K ρ H l ys) (E:cU o its) (c:cU l b):
  ∃e:Nat->Bool,k=((dI (min its.length b.length)).all e&&its.length == b.length)/\∀(j:Nat)x y,its[j]?=some x->b[j]?=some y->EqAt A s x y (e j):=by
 refine⟨C0 (vU n) xs ys,?_,λj x y hx hy=>?_⟩
 ·have o:=E.length;have l:=c.length;have g:=J.length;have b:=G.length;rw[<- o,<- l,g,b];exact Pa h
 ·obtain⟨v,l,Q⟩:=cU.at E hx;obtain⟨w,b,g⟩:=cU.at c hy;obtain⟨d,hd,Y⟩:=ce.at J l;obtain⟨e,O,U⟩:=ce.at G b;obtain⟨r,L⟩:=Kp h j d e hd O;have:C0 (vU n) xs ys j=r:=by unfold C0;rw[hd,O];dsimp only;rw[L];rfl
  rw[this];exact ih L Y U Q g
open SeqAt in
theorem KD(I:Inv X ao σ H s):∀(n:Nat){A:br}{v w:V}{u o:ac}{d e:D}{r:Bool},A.units+n < dZ->vU n d e=some r->dG X.K ρ H v d->dG X.K ρ H w e->RelV v u->RelV w o->RcAt A s u o r/\RcNeAt A s u o (!r)/\EqAt A s u o r
 |0,_,_,_,_,_,_,_,_,hu,h,l,g,v1,v2=>Qm I hu (λ_ _ _ z=>by cases z) (λ_ _ _ _ _ _ z=>by cases z) h l g v1 v2
 | n+1, A, _, _, _, _, _, _, _, hu, h, l, g, v1, v2 => Qm I (by ext)
   (λxs ys k z L Q its J G E O C=>QG I (λh l g v1 v2=>(KD I n (A:=A.in1) (by show A.units+1+n < dZ;ext) h l g v1 v2).2.2) z G E O C)
   (λxs ys L k G E z=>O6 (λv d e k a b c=>QF I n c a b) G E z) h l g v1 v2
end
section
variable{X:Cx}{K:aj}{ρ:List af}{H:Hp}{st:aT}{ao:List (af×Obj)}{σ:St}{s:ae}
open SeqAt in
theorem Qb(hu:X.A.units+60 < dZ)(I:Inv X ao σ H s)(l:SR X.K ρ H st){d e:D}{x y:V}{v u:ac}{R:Bool->aT->List af->Hp->Prop}(O:dG X.K ρ H x d)(L:dG X.K ρ H y e)(rx:RelV x v)(ry:RelV y u)
  (p:aW X.K ρ H (IC d e st) R):∃r,R r st ρ H/\RcAt X.A s v u r/\RcNeAt X.A s v u (!r):=by
 have g:X.A.units < dZ:=by ext
 have J:aW X.K ρ H ((match vU 50 d e with|some r=>ret r|none=>bad:M Bool) st) R->∃r,R r st ρ H/\RcAt X.A s v u r/\RcNeAt X.A s v u (!r):=λq=>by
  cases h:vU 50 d e with
  |none=>rw[h]at q;exact q.elim
  |some r=>
   rw[h]at q;obtain⟨k1,k2,_⟩:=KD I 50 (A:=X.A) (by ext) h O L rx ry;exact⟨r,q.ret l,k1,k2⟩
 cases d with
 |non=>
  cases e with
  |ref n=>
   obtain⟨a,rfl,_,h⟩:∃a,y=.ref a/\_/\_:=L.inv;cases (show x=.non from O.inv);obtain⟨ds,e2,U⟩:=aW.getL (aW.bnd p) l;obtain⟨a',vs,E,Y,r⟩:=l.seq e2;rw[h]at E;cases E;cases (show v=bF from rx);cases (show u=ax a from ry);obtain⟨_,_,o,_⟩:=I.list (iW.of Y);exact⟨false,U.ret l,.none_list o.isList g,.none_list o.isList g⟩
  |_=>exact J p
 |ref n=>
  cases e with
  |non=>
   obtain⟨a,rfl,_,h⟩:∃a,x=.ref a/\_/\_:=O.inv;cases (show y=.non from L.inv);obtain⟨ds,e2,U⟩:=aW.getL (aW.bnd p) l;obtain⟨a',vs,E,Y,r⟩:=l.seq e2;rw[h]at E;cases E;cases (show u=bF from ry);cases (show v=ax a from rx);obtain⟨_,_,o,_⟩:=I.list (iW.of Y);exact⟨false,U.ret l,.list_none o.isList g,.list_none o.isList g⟩
  |ref m=>
   obtain⟨a,rfl,_,h⟩:∃a,x=.ref a/\_/\_:=O.inv;obtain⟨b,rfl,_,h'⟩:∃a,y=.ref a/\_/\_:=L.inv;obtain⟨xs,e2,U⟩:=aW.getL (aW.bnd p) l;obtain⟨ys,e3,G⟩:=aW.getL (aW.bnd U) l;obtain⟨a',vs,E,Y,q1⟩:=l.seq e2;obtain⟨b',ws,hb,hw,q2⟩:=l.seq e3;rw[h]at E;cases E;rw[h']at hb;cases hb;cases (show v=ax a from rx);cases (show u=ax b from ry);obtain⟨its,rv,o,_⟩:=I.list (iW.of Y);obtain⟨c,Q,C,_⟩:=I.list (iW.of hw);have l1:=rv.length;have l2:=Q.length;have l3:=q1.length;have l4:=q2.length;by_cases hl:xs.length=ys.length
   ·rw[aE hl]at G;cases u:oj (vU 50) xs ys with
    |none=>rw[u]at G;exact G.elim
    |some r=>
     rw[u]at G;obtain⟨E,Y,U⟩:=QG (A:=X.A.in1) I (λh O L v1 v2=>(KD I 50 (A:=X.A.in1) (by show X.A.units+1+50 < dZ;ext) h O L v1 v2).2.2) u q1 q2 rv Q;have hsz:its.toArray.size=c.toArray.size:=by rw[aM,aM];ext
     have b:∀j(J:j < its.toArray.size)(H:j < c.toArray.size),EqAt X.A.in1 s its.toArray[j] c.toArray[j] (E j):=λj J H=>
      U j _ _ (by rw[kn];exact ar (by simpa using J)) (by rw[kn];exact ar (by simpa using H))
     have v:(dI its.toArray.size).all E=r:=by
      rw[Y,aM];have:its.length=c.length:=by ext
      rw[this];simp
     have k1:=RcAt.lists (A:=X.A) (s:=s) o.isList C.isList hsz g b;have k2:=RcNeAt.lists (A:=X.A) (s:=s) o.isList C.isList hsz g b;rw[v]at k1 k2;exact⟨r,G.ret l,k1,k2⟩
   ·rw[aA hl]at G;have b:(its.toArray.size != c.toArray.size)=true:=by rw[aM,aM];simp;ext
    exact⟨false,G.ret l,.lists_lengths o.isList C.isList b g,.lists_lengths o.isList C.isList b g⟩
  |_=>exact J p
 |_=>cases e<;>exact J p
theorem Xf(hu:X.A.units+60 < dZ):OpR X (cz .Eq) (nU X.K lE):=by intro ao s σ H x y v u Q I h g b;obtain⟨ρ,st,d,e,c,o,l,p⟩:=b;obtain⟨r,q,C,_⟩:=Qb hu I c o l h g p.bnd;exact C _ _ _ _ ⟨.bl r,H,I,rfl,q.ret c _ (.bl _)⟩
theorem PY(hu:X.A.units+60 < dZ):OpR X (cz .NotEq) (nU X.K Cp):=by intro ao s σ H x y v u Q I h g b;obtain⟨ρ,st,d,e,c,o,l,p⟩:=b;obtain⟨r,q,_,C⟩:=Qb hu I c o l h g p.bnd;exact C _ _ _ _ ⟨.bl (!r),H,I,rfl,q.ret c _ (.bl _)⟩
end
section
variable{X:Cx}{a b c e o tg:Expr}{es:List Expr}{pos bd ap:Pos}{fa fb fc:CE}{ca cb:CA}{ta tb:CT}{K:aj}{ρ:List af}{H:Hp}{st:aT}{x:Str}{p:Pos}{T:String}
theorem TF(ho : SE X o fa)(I : SE X e fb)(C : cY o "append" X.env (eval o X.env) = eval o X.env := by rfl)
  (G:((di ap (av [e] X.env)).all (λx => !x.1)&&(ke ap (fP [] X.env)).all (λx=>x.1.isSome)
   && decide ([e].length+([]:List eR).length+(if ([]:List eR).isEmpty then 0 else 1) < 30))=true:=by rfl)
  (u:(bd.endLine == ap.line)=true:=by rfl) (hs:av [e] X.env=(false,eval e X.env)::av [] X.env:=by rfl) (g:(di ap (av [] X.env)).any (·.1)=false:=by rfl):
  SE X (.Call (.Attribute o "append" bd) [e] [] ap) (kZ fa fb):=
 (Bf rO rj rm HG ho (nJ I qj hs) C G u hs g).of λσ H Q h_=>h_.el λρ l st lr sr p=>⟨ρ,l,st,lr,sr,p.bnd.imp λd E ρ1 H1 x1 c p1 v rv=>by
  cases d with
  |ref n=>
   obtain⟨a,rfl,kk,h⟩:=rv.inv;have hl:n < E.length:=by rw[<- c.len];exact (aq.mp h).1
   obtain⟨J,U⟩:=Kg kk;refine⟨.inl ⟨rfl,J,iW.of U⟩,ρ1,l,E,lr.mono x1,c,(aW.bnd p1).imp λy st2 ρ2 H2 x2 s2 p2 w L=>?_⟩;have h2:ρ2[n]?=some a:=by obtain⟨τ,e,_⟩:=x2.pre;rw[e];exact E6 h
   obtain⟨ds,Y,p3⟩:=aW.getL (aW.bnd p2) s2;obtain⟨a',vs,I,hv,r⟩:=s2.seq Y;rw[h2]at I;cases I;obtain⟨hz,p4⟩:=aW.chk p3;obtain⟨b,x3⟩:=s2.put (aq.mp Y).1 h2 hv (ce.app r (.cons L .nil));have O:=aW.bnd p4;unfold putL at O;rw[Y]at O;exact⟨a,vs,w,rfl,rfl,hv,by rw[r.length];exact hz,(O ρ2 _ x3 b).ret b _ .non⟩
  |_=>exact p1.elim⟩
theorem N3:OpR X (eN .Add) (nU X.K bQ):=by
 intro g s σ H x y v u Q I b Y L;obtain⟨ρ,st,d,e,l,r1,r2,p⟩:=L;cases d with
 |int i=>
  cases e with
  |int j=>
   cases r1.inv;cases r2.inv;exact Ws g s σ H _ _ v u Q I b Y ⟨i,j,rfl,rfl,p.ret l _ (.int _)⟩
  |_=>exact p.elim
 |str i=>
  cases e with
  |str j=>
   cases r1.inv;cases r2.inv;exact Sj g s σ H _ _ v u Q I b Y ⟨i,j,rfl,rfl,(aW.chk p).1,(aW.chk p).2.ret l _ (.str _)⟩
  |_=>exact p.elim
 |ref _=>
  cases e with
  |ref _=>
   obtain⟨_,rfl,_,h⟩:=r1.inv;obtain⟨_,rfl,_,h'⟩:=r2.inv;obtain⟨xs,e2,p1⟩:=aW.getL (aW.bnd p) l;obtain⟨ys,e3,O⟩:=aW.getL (aW.bnd p1) l;obtain⟨a',U,ha,hv,J⟩:=l.seq e2;obtain⟨b',ws,hb,hw,G⟩:=l.seq e3;rw[h]at ha;cases ha;rw[h']at hb;cases hb;obtain⟨hz,p3⟩:=aW.chk O;refine ZA g s σ H _ _ v u Q I b Y ⟨_,_,U,ws,rfl,rfl,hv,hw,by rw[J.length,G.length];exact hz,λq C=>?_⟩;have nq:=l.fresh C;have x1:Ex ρ H (ρ++[q]) (eB H q (.lst (U++ws))):=Ex.newL C;refine p3 _ _ x1 ((l.new C).keep iI nq ((ce.app J G).mono (Ex.new C))) _ (.ref ⟨_,iI,rfl⟩ ?_);rw[<- l.len];simp
  |_=>exact p.elim
 |tup xs=>
  cases e with
  |tup ys=>
   obtain⟨a1,U,rfl,h1,J⟩:=r1.inv;obtain⟨b1,ws,rfl,h2,G⟩:=r2.inv;obtain⟨hz,O⟩:=aW.chk p;by_cases hx:U=[]
   ·subst hx;cases J;obtain⟨its,v1,ht,_⟩:=I.tuple h1;obtain⟨L,v2,hb,_⟩:=I.tuple h2;cases v1;have ev:v=ax a1:=b;have eu:u=ax b1:=Y;subst ev eu;obtain⟨⟨cls,dd,data,sl⟩,Q,U,n,hd⟩:=ht;obtain⟨⟨cls2,C,data2,h⟩,c,g,n2,o⟩:=hb;simp only at U hd g o;subst U hd g o;refine wY (E:=X.xe) ⟨_,Q,rfl⟩ ⟨_,c,rfl⟩ sj vJ lY lO (lA _ _) (tuple_addW0 a1 b1 _ _ n n2 dd C sl h (by simp)) ⟨Q,c,?_⟩;exact⟨.ref b1,H,I,rfl,O.ret l _ (.tup h2 G)⟩
   ·refine Tn g s σ H _ _ v u Q I b Y ⟨_,_,U,ws,rfl,rfl,h1,h2,hx,by rw[J.length,G.length];exact hz,λc=>?_,λ_ q C=>?_⟩
    ·subst c;cases G;rw[bH]at O;exact O.ret l _ (.tup h1 J)
    ·exact O _ _ (Ex.new C) (l.new C) _ (.tup (kz.of iI) ((ce.app J G).mono (Ex.new C)))
  |_=>exact p.elim
 |_=>cases e<;>exact p.elim
def LU(K:aj)(f:CO):TO:=λσ H Q=>∃ρ l st,LR K ρ H σ l/\SR K ρ H st/\aW K ρ H (f l st) λo _ _ g=>Q o g
abbrev SO(X:Cx)(e:Option Expr)(f:CO):Prop:=PO X e (LU X.K f)
theorem Yh:SO X none eF:=λg s σ H Q I u=>u.el λρ l st v h p=>UX g s σ H Q I (p.ret h)
theorem U9(h:SE X e fa):SO X (some e) (dW fa):=λg s σ H Q I O=>O.el λρ l st L E p=>UD h g s σ H Q I ⟨ρ,l,st,L,E,p.bnd.imp λd C ρ1 Y U G u v J=>by
 cases d with
 |int i=>cases (show v=.int i from J.inv);exact⟨i,rfl,u.ret G⟩
 |_=>exact u.elim⟩
theorem ce.cut{g:List V}{ds:List D}(r:ce K ρ H g ds)(lo h:Option Int):ce K ρ H (rZ g lo h) (cutD ds lo h):=by
 unfold rZ cutD;have e:∀n d o,HT.gp n d o=MM.gp n d o:=λn d o=>by cases o<;>rfl
 rw[e,e,r.length];exact (r.drop _).take _
theorem Xs{lo hi:Option Expr}{fl fh:CO}{p2:Pos}(h:SE X e fa)(hl:SO X lo fl)(hh:SO X hi fh):SL X (.Subscript e (.Slice lo hi none p2) pos) (d_ fa fl fh):=
 (NO SF h hl hh).of λσ H Q h_=>h_.el λρ l st lr sr p=>⟨ρ,l,st,lr,sr,p.bnd0.imp λd Y ρ1 H1 E s1 p1 v rv=>⟨ρ1,l,Y,lr.mono E,s1,(p1.bnd0.left E).imp λi U ρ2 H2 I s2 p2=>⟨ρ2,l,U,(lr.mono E).mono I,s2,(p2.bnd0.left (E.trans I)).imp λj O ρ3 H3 x3 J c=>by
  have b:=(rv.mono I).mono x3;have C:=E.trans (I.trans x3);have G:∀{a:af}{u:List V}{ds:List D},iW X.K H3 a u->ce X.K ρ3 H3 u ds->aW X.K ρ H (ret (cutD ds i j) O) (λds _ ρ' H'=>∀a u,H a=none->a∉ρ'->H' a=some (.lst u)->ce X.K ρ' H' u ds->Q (.ref a) H')->EF X.K (.ref a) i j H3 Q:=λ{a u ds}hs r q=>
   ⟨a,u,rfl,hs,λL g=>by
    have hn:H L=none:=by
     cases z:H L with
     |none=>rfl
     |some o=>exact bc g (C.trk L o z)
    exact q ρ3 _ (C.trans (Ex.new g)) (J.new g) L _ hn (J.fresh g) iI ((ce.cut r i j).mono (Ex.new g))⟩
  cases b with
  |lit h r=>exact G h.seq r c
  |ref _ h=>
   obtain⟨ds,e2,p4⟩:=aW.getL (c.bnd0.left C) J;obtain⟨a',u,ha,hv,r⟩:=J.seq e2;rw[h]at ha;cases ha;exact G (iW.of hv) r p4
  |_=>exact c.elim⟩⟩⟩
end
open PySem.AutoSeq1 (wpAny_loadPart')
theorem W9(l:af)(b:Array ac)(n:Nat)(dct:Option af)(E:Array (Option ac)):
  Meets (Builtin.«enumerate.__new__» ⟨[.type "enumerate",.ref l],[]⟩) (λ_ R s=>s.heap.get? l=some { cls:=.type "tuple",dict:=dct,data:=.seq b n,slots:=E } /\
   R (.ok (.ret (.ref (s.heap.push { cls:=.type "tuple_iterator",data:=.fields #[.ref l,.int 0 0] }).objs.size)))
    { s with heap:=(s.heap.push { cls:=.type "tuple_iterator",data:=.fields #[.ref l,.int 0 0] }).push { cls:=.type "enumerate",data:=.fields #[.none,.bool false,.ref s.heap.objs.size,gx 0,.none,.none] } }):=
 .of_wp λprog w A R s h=>by
  obtain⟨G,g,d,C,os⟩:=s;obtain⟨o,h⟩:=h;have u:=sub_enumerate;have v:bu.IsTuple (t8 ⟨G,g,d,C,os⟩) l b:=⟨_,o,rfl,n,rfl⟩
  wp_walk using iP o;refine wpAny_stack_any λst=>ah ?_;split
  ·rename_i c _ _ _ _ _;cases (c == fK "enumerate")<;>(wp_walk using iP o,l_ v;exact⟨_,rfl,h⟩)
  ·wp_walk using iP o,l_ v;exact⟨_,rfl,h⟩
section
variable{prog:Program}{w:bw}{A:br}{E:ac->ae->Prop}{s:ae}
theorem WE{l:af}{g:Array ac}{Q:ac->ae->Prop}(H:s.heap.IsTuple l g)
  (h:∀h',IsEnum h' (s.heap.objs.size+1) s.heap.objs.size 0 .none->h'.IsTupleIter s.heap.objs.size l 0->h'.objs.size=s.heap.objs.size+2->(∀b o,s.heap.get? b=some o->h'.get? b=some o)->Q (.ref (s.heap.objs.size+1)) { s with heap:=h' }):
  aD (aK prog w) A (call (.type "enumerate") [.ref l]) Q E s:=by
 obtain⟨⟨c,dct,I,C⟩,G,u,n,hd⟩:=H
 replace u:c=.type "tuple":=u
 replace hd:I=.seq g n:=hd
 subst u hd;refine callType_new F.called_enumerate (by decide) (F.typeCall_enumerate_1 _) (F.newCall_enumerate_1 _) (λobj=>F.args_object_init_2 obj _) F.entry_enumerate_new (W9 l g n dct C) ⟨G,?_⟩;have hz:(s.heap.push { cls:=.type "tuple_iterator",data:=.fields #[.ref l,.int 0 0] }).objs.size=s.heap.objs.size+1:=dA ..
 show _/\_;rw[hz];have v:IsEnum ((s.heap.push { cls:=.type "tuple_iterator",data:=.fields #[.ref l,.int 0 0] }).push { cls:=.type "enumerate",data:=.fields #[.none,.bool false,.ref s.heap.objs.size,gx 0,.none,.none] }) (s.heap.objs.size+1) s.heap.objs.size 0 .none:=by have q:=aR (s.heap.push { cls:=.type "tuple_iterator",data:=.fields #[.ref l,.int 0 0] }) (o:={ cls:=.type "enumerate",data:=.fields #[.none,.bool false,.ref s.heap.objs.size,gx 0,.none,.none] }) rfl;rw[hz]at q;exact q
 exact⟨⟨_,v,rfl⟩,h _ v ⟨_,aw _ (aR _ rfl),rfl,rfl⟩ (by rw[dA,hz]) λb o x=>aw _ (aw _ x)⟩
theorem So{g l:af}{i:Nat}{b}{x:ac}{Q:ac->ae->Prop}(c:s.heap.IsTupleIter g l i)(G:s.heap.IsTuple l b)(C:b[i]?=some x)
  (I:∀h',h'.IsTupleIter g l (i+1)->eL g s.heap h'->Q x { s with heap:=h' }):aD (aK prog w) A (b6 (.ref g)) Q E s:=by
 obtain⟨o,h,H,hd⟩:=id c;obtain⟨J,u,_,L,v⟩:=G;unfold b6;refine aa (cV (name:=ag "__next__") c.typeIs ib (d6 ib c.typeIs sR ?_ (su _)))
 show aD _ _ (uP (.ref g) 0 >>= _) _ _ s;refine aa (b9 h hd (x:=.ref l) rfl ?_)
 show aD _ _ (if (ax l == bF)=true then _ else _) _ _ s;rw[aA (show ¬ ((ax l == bF)=true) from bx)]
 show aD _ _ (uP (.ref g) 1 >>= _) _ _ s;refine aa (b9 h hd (x:=.int i 0) rfl ?_)
 show aD _ _ (Gz (.ref l) >>= _) _ _ s;refine aa (eV u v ?_);simp only[bI,C];refine aa (fD h hd (by simp) (ah ⟨x,rfl,ah (I _ ⟨_,bK _ h (Obj.isFreed_of_fields (xx hd _)),(Obj.cls_mapFields ..).trans H,?_⟩ (dQ ..))⟩));rw[xx hd];simp[gx]
theorem YV{g l:af}{i:Nat}{b}{Q:ac->ae->Prop}(hh:A.handled=none)(c:s.heap.IsTupleIter g l i)(G:s.heap.IsTuple l b)(C:b[i]?=none)
  (H:∀h' e,va g s.heap h'->(∃o,h'.get? e=some o/\o.cls=.type "StopIteration")->E (.ref e) { s with heap:=h' }):aD (aK prog w) A (b6 (.ref g)) Q E s:=by
 obtain⟨o,u,L,hd⟩:=id c;obtain⟨I,h,_,J,v⟩:=G;unfold b6;refine aa (cV (name:=ag "__next__") c.typeIs ib (d6 ib c.typeIs sR ?_ (su _)))
 show aD _ _ (uP (.ref g) 0 >>= _) _ _ s;refine aa (b9 u hd (x:=.ref l) rfl ?_)
 show aD _ _ (if (ax l == bF)=true then _ else _) _ _ s;rw[aA (show ¬ ((ax l == bF)=true) from bx)]
 show aD _ _ (uP (.ref g) 1 >>= _) _ _ s;refine aa (b9 u hd (x:=.int i 0) rfl ?_)
 show aD _ _ (Gz (.ref l) >>= _) _ _ s;refine aa (eV h v ?_);simp only[bI,C];refine aa (e8 (aa (fD u hd (by simp) ?_)));show aD _ _ (newExc (.type "StopIteration") [] >>= _) _ _ _;refine aa ?_;simp only[newExc,newTuple];refine aa (eD ?_ (by size_fits));refine aa (m:=firstArgMember _ _) (wpAny_of_eq (a:=bF) (by first|rfl|(simp only[firstArgMember];rfl)) (eD ?_ (by size_fits)));simp only[raiseNew];refine aa (wpAny_handled ?_);first|rw[show A.in1.handled=none from hh]|rw[hh]
 exact aa (ah (Ac (H _ _ (((dQ ..).extBut.push _).push _) ⟨_,aR _ rfl,rfl⟩)))
end
section
variable{X:Cx}{K:aj}{ρ:List af}{H:Hp}{st:aT}
theorem Q5{v:V}{d:D}(r:dG K ρ H v d)(h:me d=true):m8 v=true:=by cases r<;>first|rfl|cases h
theorem Vl{b:List V}{ds:List D}(r:ce K ρ H b ds)(h:ds.all me=true):b.all m8=true:=by
 induction ds generalizing b with
 |nil=>cases r;rfl
 |cons d ds ih=>
  cases r with
  |cons r t=>
   rw[bG,aO]at h;rw[bG,aO];exact⟨Q5 r h.1,ih t h.2⟩
theorem Rn{v w:V}{d e:D}(r:dG K ρ H v d)(q:dG K ρ H w e)(h:me d=true)(h':me e=true):zw v w=tK d e:=by
 cases d<;>first|(cases h;done)|skip
 all_goals have r:=r.inv;cases (show v=_ from r);cases e<;>first|(cases h';done)|skip
 all_goals have q:=q.inv;cases (show w=_ from q);rfl
theorem Pc{w:V}{e:D}(q:dG K ρ H w e)(h':me e=true):∀{b:List V}{ds:List D},ce K ρ H b ds->ds.all me=true->HP w b=ds.any λd=>tK d e
 |_,_,.nil,_=>rfl
 |_,_,.cons r t,h=>by rw[bG,aO]at h;have:=Pc q h' t h.2;unfold HP at this ⊢;rw[cN,cN,this,Rn r q h.1 h']
theorem aW.hasK{n:Nat}{k:D}{R:Bool->aT->List af->Hp->Prop}(h:aW K ρ H (MM.hasK n k st) R)(s:SR K ρ H st):∃b c,st[n]?=some (.dct b c)/\uc b k=true/\R (vF c k).isSome st ρ H:=by obtain⟨b,c,e,l⟩:=aW.getDc (aW.bnd h) s;obtain⟨o,g⟩:=aW.chk l;exact⟨b,c,e,o,g.ret s⟩
theorem _root_.L2.OpR.orO{f:ac->ac->Sem ac}{r l:R2}(h:OpR X f r)(h':OpR X f l):OpR X f (λx y H Q=>r x y H Q\/l x y H Q):=by
 intro b s σ H x y v u Q I g c q;rcases q with q|q
 ·exact h b s σ H x y v u Q I g c q
 ·exact h' b s σ H x y v u Q I g c q
theorem Xu(hu:X.A.units+60 < dZ):OpR X (cz .In) (λx y H Q=>∃(ρ:List af)(st:aT)(n:Nat)(a:af)(b:Bool)(g:List (D×D))(k:D),y=.ref a/\SR X.K ρ H st/\ρ[n]?=some a/\st[n]?=some (.dct b g)/\dG X.K ρ H x k/\uc b k=true/\Q (.bl (vF g k).isSome) H):=by intro h s σ H x y v u Q I C o c;obtain⟨ρ,st,n,a,b,g,k,e,l,L,G,E,J,q⟩:=c;subst e;cases o;exact Z3 (by ext) I (l.ob n a _ L G) E J C λs' O=>⟨.bl _,H,O,rfl,q⟩
theorem QfU(hu:X.A.units+60 < dZ):OpR X (cz .In) (nU X.K C7):=(Th.orO (Xu hu)).of λx y H Q l=>by
 obtain⟨ρ,st,d,e,c,C,U,p⟩:=l;have g:∀{a:af}{o:List V}{ds:List D}(G:iW X.K H a o\/kz X.K H a o)(r:ce X.K ρ H o ds)(u:aW X.K ρ H (Cd d ds st) λr _ ρ' O=>∀v,dG X.K ρ' O v r->Q v O),Qc X.K false x (.ref a) H Q:=λG r u=>by obtain⟨⟨L,J⟩,Y⟩:=aW.chk u;refine⟨_,_,rfl,G,Q5 C L,Vl r J,?_⟩;rw[aA (by simp),Pc C L r J];exact Y.ret c _ (.bl _)
 cases U with
 |tup h r=>exact .inl (g (.inr h) r ((aW.bnd p).ret c))
 |lit h r=>exact .inl (g (.inl h.seq) r ((aW.bnd p).ret c))
 |ref _ h=>
  obtain⟨ds,e2,u⟩:=aW.getL (aW.bnd p) c;obtain⟨a',o,I,hv,r⟩:=c.seq e2;rw[h]at I;cases I;exact .inl (g (.inl (iW.of hv)) r u)
 |@dic a n _ h=>
  obtain⟨b,E,e1,hk,q⟩:=aW.hasK (aW.bnd p) c;exact .inr ⟨ρ,st,n,a,b,E,d,rfl,c,h,e1,C,hk,(q.ret c) _ (.bl _)⟩
 |_=>exact (show False from p).elim
theorem Uc:Fp X (Dq .USub) (xI X.K yF):=by
 intro c s σ H x v Q I h b;obtain⟨ρ,st,d,g,l,p⟩:=b;cases l with
 |int i=>exact Xi c s σ H _ v Q I h ⟨i,rfl,p.ret g _ (.int _)⟩
 |_=>exact p.elim
end
section
variable{X:Cx}{a b c e o tg:Expr}{es:List Expr}{pos bd ap:Pos}{fa fb fc:CE}{ca cb:CA}{ta tb:CT}{K:aj}{ρ:List af}{H:Hp}{st:aT}{x:Str}{p:Pos}{T id:String}{body:List Stmt}{cs:CS}
theorem QfW{op:UnaryOp}{g:D->M D}(J:Fp X (Dq op) (xI X.K g))(L:SE X a fa):SE X (.UnaryOp op a pos) (c1 g fa):=
 (TU J L).of λσ H Q O=>O.el λρ l st I u p=>⟨ρ,l,st,I,u,p.bnd.imp λd h ρ1 Y U C G v E=>⟨ρ1,h,d,C,E,G⟩⟩
theorem Wh:CallR X (.type "list") (λxs H Q=>∃v,xs=[v]/\xI X.K u4 v H Q):=Qct.of λxs H Q G=>by
 obtain⟨v,e,ρ,st,d,C,O,p⟩:=G;have E:∀{ds:List D}{u:List V}{l:af}(r:ce X.K ρ H u ds)(g:H l=none)(I:aW X.K ρ H (alloc (.lst ds) st) λr _ ρ' L=>∀v,dG X.K ρ' L v r->Q v L),Q (.ref l) (eB H l (.lst u)):=λ{ds u l}r g I=>by have U:=C.fresh g;have s2:SR X.K (ρ++[l]) (eB H l (.lst u)) (st++[.lst ds]):=(C.new g).keep iI U (r.mono (Ex.new g));refine I _ _ (Ex.newL g) s2 _ (.ref ⟨_,iI,rfl⟩ ?_);rw[<- C.len];simp
 cases O with
 |@tup a u ds h r=>exact⟨a,u,e,.inr h,λl g=>E r g ((aW.bnd p).ret C)⟩
 |@lit a u ds h r=>exact⟨a,u,e,.inl h.seq,λl g=>E r g ((aW.bnd p).ret C)⟩
 |@ref a n _ h=>
  obtain⟨ds,b,I⟩:=aW.getL (aW.bnd p) C;obtain⟨c,u,J,Y,r⟩:=C.seq b;rw[h]at J;cases J;exact⟨a,u,e,.inl (iW.of Y),λl g=>E r g I⟩
 |_=>exact (aW.bnd p).elim
theorem S_{p : Pos}(hg : Gl X "range")(hm : X.mg "range" = none)(h : SE X a fa)(h' : SE X b fb)(I : av [a, b] X.env = (false, eval a X.env) :: av [b] X.env := by rfl)(G : av [b] X.env = (false, eval b X.env) :: av [] X.env := by rfl)
  (hs:av [a,b] X.env=[(false,eval a X.env),(false,eval b X.env)]:=by rfl) (E:av [b] X.env=[(false,eval b X.env)]:=by rfl):SI X tg (.Call (.Name "range" p) [a,b] [] pos) (MM.om fa fb):=
 (ZE (tg:=tg) (p:=p) (pos:=pos) hg hm (nJ h (nJ h' qj G) I) hs E).of λσ H R h_=>h_.el λρ l st J Q p=>⟨ρ,l,st,J,Q,p.bnd.imp λd g ρ1 H1 L U o v Y=>⟨ρ1,l,g,J.mono L,U,o.bnd.imp λe O ρ2 H2 x2 s2 C w u=>by
  cases d with
  |int i=>
   cases e with
   |int j=>
    cases (show v=.int i from Y.inv);cases (show w=.int j from u.inv);obtain⟨⟨⟨h1,h2⟩,h3,h4⟩,c⟩:=aW.chk C;exact⟨i,j,rfl,⟨h1,h2,h3,h4⟩,c.ret s2 _ OU⟩
   |_=>exact C.elim
  |_=>exact C.elim⟩⟩
end
section
variable{X:Cx}{K:aj}{ρ:List af}{H:Hp}{st:aT}
theorem ce.pick{b:List V}{ds:List D}(i:Nat)(h:ce K ρ H b ds):dG K ρ H (b.getD i .non) (ds.getD i .non):=by
 induction ds generalizing b i with
 |nil=>cases h;exact .non
 |cons d ds ih=>
  cases h with
  |cons r t=>
   cases i with
   |zero=>exact r
   |succ i=>simpa using ih i t
theorem ce.picks{b:List V}{ds:List D}(r:ce K ρ H b ds):∀(p:List Nat),ce K ρ H (p.map λi=>b.getD i .non) (p.map λi=>ds.getD i .non)
 |[]=>.nil
 |i::p=>.cons (ce.pick i r) (ce.picks r p)
theorem K0{P:Program}{w:bw}{H:Hp}{h:bu}{a:af}{o:HO}(x:dz P w H h a o):∃ob,h.get? a=some ob:=by
 cases o with
 |lst _=>obtain⟨_,_,_,_,e⟩:=x;exact⟨_,e⟩
 |tup _=>obtain⟨_,_,_,ob,e,_⟩:=x;exact⟨_,e⟩
 |dK _=>obtain⟨_,_,_,_,ob,_,_,e,_⟩:=x;exact⟨_,e⟩
 |dT _=>obtain⟨_,_,_,_,ob,_,_,e,_⟩:=x;exact⟨_,e⟩
 |set _ _=>obtain⟨ob,_,_,_,e,_⟩:=x;exact⟨_,e⟩
 |ins _ _ _=>obtain⟨_,_,_,e,_⟩:=x;exact⟨_,e⟩
 |own _=>obtain⟨_,e⟩:=x;exact⟨_,e⟩
 |xd _=>obtain⟨_,⟨_,_,_,e,_⟩,_⟩:=x;exact⟨_,e⟩
 |rng _ _=>obtain⟨_,_,_,e⟩:=x;exact⟨_,e⟩
 |frz _ _=>obtain⟨e,_⟩:=x;exact⟨_,e⟩
 |tbl _=>exact⟨_,(show h.get? a=some _ from x)⟩
 |met _ _=>exact⟨_,(show h.get? a=some _ from x)⟩
 |ext _=>obtain⟨_,⟨_,e⟩,_⟩:=x;exact⟨_,e⟩
end
section
variable{X:Cx}{ao:List (af×Obj)}{σ:St}{H:Hp}{s:ae}{h':bu}{ch:List af}
theorem WU{t':Nat}(I:Inv X ao σ H s)(h:∀b∈ch,nR X ao H b)(keep:∀b o,b∉ch->s.heap.get? b=some o->h'.get? b=some o):Inv X ao σ H { s with heap:=h',toks:=t' }:=by
 have ne:∀b o,H b=some o->b∉ch:=λb o e z=>by rw[(h b z).1]at e;cases e
 have C:X.env.locals∉ch:=λz=>(h _ z).2.1 rfl;refine I.step (g':=s.gens) (d':=s.drawn) (ch:=ch) (λb l=>?_) (λb o _ _ c e _=>keep b o c e) (λb o _ _ c e _=>⟨o.slots,keep b o c e⟩) (λb o _ _ e=>e) (λb o c e=>⟨o,keep b o c e⟩)
  (λb ys e=>e) (λb o ys e=>e) (λb ps e=>⟨#[],by rw[e];simp⟩) (λm v=>?_) ?_ I.bare
 ·obtain⟨Y,L,U,J,G,E⟩:=h b l;exact⟨J,L,G,E⟩
 ·obtain⟨o,O,Q,e,r⟩:=v;exact⟨o,O,Q,keep _ o C e,r⟩
 ·intro a o e;refine (I.hok a o e).stay (λb u l g=>keep b u ?_ g) (λb g=>g) (λb ys g=>g);rcases l with y|y
  ·rw[y];exact ne a o e
  ·exact ne b _ y
theorem QA{t':Nat}{T:af}{l:List V}{its:List ac}(I:Inv X ao σ H s)(v:∀b∈ch,nR X ao H b)(keep:∀b o,b∉ch->s.heap.get? b=some o->h'.get? b=some o)(E:s.heap.objs.size<=T)
  (hz:l.length<=sizeLine) (G:cU l its) (J:gY h' T its.toArray):Inv X ao σ (eB H T (.tup l)) { s with heap:=h',toks:=t' }:=by
 have c:H T=none:=I.hok.fresh E;have ne:∀b o,H b=some o->b∉ch:=λb o e z=>by rw[(v b z).1]at e;cases e
 have O:X.env.locals∉ch:=λz=>(v _ z).2.1 rfl;refine I.step (g':=s.gens) (d':=s.drawn) (ch:=ch) (λb C=>?_) (λb o _ _ h e _=>keep b o h e) (λb o _ _ h e _=>⟨o.slots,keep b o h e⟩) (λb o _ e n=>by rw[fR (cv (bp (aL e) E))];exact n) (λb o h e=>⟨o,keep b o h e⟩)
  (λb ys e=>by rw[fR (p9 e c)];exact e) (λb o ys e=>by rw[fR (p9 e c)];exact e) (λb ps e=>⟨#[],by rw[fR (p9 e c),e];simp⟩) (λm L=>?_) ?_ I.bare
 ·obtain⟨h,c,g,Y,U,Q⟩:=v b C;exact⟨Y,c,U,Q⟩
 ·obtain⟨o,b,c,e,r⟩:=L;exact⟨o,b,c,keep _ o O e,r⟩
 ·intro a o e;by_cases z:a=T
  ·subst z;rw[iI]at e;cases e;exact⟨hz,its,G,J⟩
  ·rw[fR z]at e;refine (I.hok a o e).stay (λb u C g=>keep b u ?_ g) (λb g=>by rw[fR (p9 g c)];exact g) (λb ys g=>by rw[fR (p9 g c)];exact g);rcases C with y|y
   ·rw[y];exact ne a o e
   ·exact ne b _ y
end
structure Br(prog:Program)(w:bw)(A:br)(it src:af)(val:Nat->Option ac)(P:Nat->bu->Prop):Prop where
 there:∀k h,P k h->∃o,h.get? it=some o
 keep:∀k h h',P k h->(∀b,b=it\/b=src->∀o,h.get? b=some o->h'.get? b=some o)->P k h'
 item:∀k x(s:ae)(Q:ac->ae->Prop)(E:ac->ae->Prop),P k s.heap->val k=some x->(∀h',P (k+1) h'->eL it s.heap h'->Q x { s with heap:=h' })->aD (aK prog w) A (b6 (.ref it)) Q E s
 done:∀k(s:ae)(Q:ac->ae->Prop)(E:ac->ae->Prop),P k s.heap->val k=none->(∀h' e,va it s.heap h'->(∃o,h'.get? e=some o/\o.cls=.type "StopIteration")->E (.ref e) { s with heap:=h' })->aD (aK prog w) A (b6 (.ref it)) Q E s
section
variable{prog:Program}{w:bw}{A:br}{E:ac->ae->Prop}{s:ae}{z tI tO i1 i2 l1 l2:af}{v1 v2:Nat->Option ac}{P1 P2:Nat->bu->Prop}{k:Nat}{u v:ac}
theorem vT{l g b:af}{val:Nat->Option ac}{P:Nat->bu->Prop}{h h':bu}(S:Br prog w A l g val P)(x:P k h)(e:va b h h')(I:l≠b)(H:g≠b):P k h':=
 S.keep k h h' x λc G o C=>e c o (by rcases G with q|q<;>rw[q]<;>assumption) C
theorem Wz{a H:af}{b:Array ac}(hh:A.handled=none)(L:a≠H):Br prog w A H a (λi=>b[i]?) (λi h=>h.IsTupleIter H a i/\h.IsTuple a b) where
 there:=λk h C=>by obtain⟨⟨o,e,_⟩,_⟩:=C;exact⟨o,e⟩
 keep:=λk h h' l kp=>by obtain⟨⟨o,e,r⟩,⟨o',u,O⟩⟩:=l;exact⟨⟨o,kp H (.inl rfl) o e,r⟩,⟨o',kp a (.inr rfl) o' u,O⟩⟩
 item:=λk x s Q E g J U=>by obtain⟨I,G⟩:=g;exact So I G J λh' q hs=>U h' ⟨q,G.extBut hs.extBut L⟩ hs
 done:=λk s Q E c J Y=>by obtain⟨I,G⟩:=c;exact YV hh I G J Y
theorem Vd{Q:ac->ae->Prop}(D:ZipApart z tI tO i1 i2 l1 l2)(C:Br prog w A i1 l1 v1 P1)(l:Br prog w A i2 l2 v2 P2)(hz:nL s.heap z tI tO .none)(hi:iq s.heap tI (.ref i1) (.ref i2))(ho:iq s.heap tO u v)
  (p1:P1 k s.heap) (p2:P2 k s.heap) {x y:ac} (hx:v1 k=some x) (hy:v2 k=some y)
  (hQ:∀h',nL h' z tI tO (gx s.heap.objs.size)->iq h' tO x y->P1 (k+1) h'->P2 (k+1) h'->iq h' s.heap.objs.size x y ->
   (∀c o,c≠z->c≠tO->c≠i1->c≠i2->s.heap.get? c=some o->h'.get? c=some o)->Q (.ref s.heap.objs.size) { s with heap:=h' }):
  aD (aK prog w) A (Builtin.«zip.__next__» ⟨[.ref z],[]⟩) (λf s'=>∃r,f=.done (.ret r)/\Q r s') E s:=by
 show aD _ _ (uP (.ref z) 2 >>= _) _ _ _;refine aa (b9 hz rfl (x:=.bool false) rfl ?_);show aD _ _ (uP (.ref z) 3 >>= _) _ _ _;refine aa (b9 hz rfl (x:=.ref tI) rfl (aa (eV hi rfl ?_)));show aD _ _ (eI (.ref z) >>= _) _ _ _;refine aa ?_;unfold eI;refine aa (b9 hz rfl (x:=.none) rfl (ah ?_));simp only[if_true];refine aa (e8 (aa (b9 hz rfl (x:=.ref tO) rfl (aa (gN hz (by simp) λha za O=>?_)))));have za':nL ha z tI tO .ellipsis:=za;refine aa ?_;simp only[x9,Ad,df,AS];refine aa (aa (mK ?_));show aD _ _ (b6 (.ref i1) >>= _) _ _ _;refine aa (C.item k x _ _ _ (vT C p1 O.extBut D.i1z D.l1z) hx λhb q1 L=>ah ?_);have ob:iq hb tO u v:=L.extBut _ _ D.TOi1 (O.extBut _ _ D.TOz ho);refine aa (eV ob rfl (aa (o0 ob λh oc sc=>?_)));have oc':iq h tO x v:=oc;refine aa (sO (ah ?_));refine aa (aa (mK ?_));show aD _ _ (b6 (.ref i2) >>= _) _ _ _;have p2c:P2 k h:=vT l (vT l (vT l p2 O.extBut D.i2z D.l2z) L.extBut D.i12.symm D.l2i1) sc.extBut D.TOi2.symm D.l2TO;refine aa (l.item k y _ _ _ p2c hy λhd q2 J=>ah ?_);have od:iq hd tO x v:=J.extBut _ _ D.TOi2 oc';refine aa (eV od rfl (aa (o0 od λb oe I=>?_)));have U:iq b tO x y:=oe;refine aa (sO (ah (ah ?_)));refine aa (eV U rfl (aa (wpAny_newTuple ?_)));have g:b.objs.size=s.heap.objs.size:=by rw[I.1,J.1,sc.1,L.1,O.1]
 have ze:nL b z tI tO .ellipsis:=I.extBut _ _ D.TOz.symm (J.extBut _ _ D.i2z.symm (sc.extBut _ _ D.TOz.symm (L.extBut _ _ D.i1z.symm za')));have all:∀c o,c≠z->c≠tO->c≠i1->c≠i2->s.heap.get? c=some o->b.get? c=some o:=λc o n1 n2 n3 n4 e=>I.extBut _ _ n2 (J.extBut _ _ n4 (sc.extBut _ _ n2 (L.extBut _ _ n3 (O.extBut _ _ n1 e))));have q1e:P1 (k+1) b:=vT C (vT C (vT C q1 sc.extBut D.TOi1.symm D.l1TO) J.extBut D.i12 D.l1i2) I.extBut D.TOi1.symm D.l1TO;have q2e:P2 (k+1) b:=vT l q2 I.extBut D.TOi2.symm D.l2TO;have G:z < b.objs.size:=aL ze
 show aD _ _ (lf (.ref z) (.ref b.objs.size) >>= _) _ _ _;refine aa ?_;unfold lf;have zf:nL (b.push { cls:=.type "tuple",data:=.seq #[x,y] }) z tI tO .ellipsis:=aw _ ze;refine aa (gN zf (by simp) λhg zg sg=>?_);have Y:nL hg z tI tO (gx b.objs.size):=zg;refine gN Y (by simp) λhh zh sh=>?_;have H:nL hh z tI tO (gx b.objs.size):=zh;have up:∀c o,c≠z->b.get? c=some o->hh.get? c=some o:=λc o n1 e=>sh.extBut _ _ n1 (sg.extBut _ _ n1 (aw _ e));have new:iq hh b.objs.size x y:=sh.extBut _ _ (gr G) (sg.extBut _ _ (gr G) (aR _ rfl));rw[g]at H new;refine ah ⟨_,rfl,?_⟩;show Q (.ref b.objs.size) _;rw[g];exact hQ hh H (up _ _ D.TOz U) (C.keep _ _ _ q1e λc h o e=>up c o (h.elim (λq=>by rw[q];exact D.i1z) (λq=>by rw[q];exact D.l1z)) e) (l.keep _ _ _ q2e λc h o e=>up c o (h.elim (λq=>by rw[q];exact D.i2z) (λq=>by rw[q];exact D.l2z)) e) new λc o n1 n2 n3 n4 e=>up c o n1 (all c o n1 n2 n3 n4 e)
theorem VF{Q:xy->ae->Prop}(D:ZipApart z tI tO i1 i2 l1 l2)(S1:Br prog w A i1 l1 v1 P1)(L:Br prog w A i2 l2 v2 P2)(hz:nL s.heap z tI tO .none)(hi:iq s.heap tI (.ref i1) (.ref i2))(ho:iq s.heap tO u v)
  (p1:P1 k s.heap) (p2:P2 k s.heap) (I:v1 k=none\/v2 k=none)
  (hE:∀h' e,(∀c o,c≠z->c≠tO->c≠i1->c≠i2->s.heap.get? c=some o->h'.get? c=some o)->(∃o,h'.get? e=some o/\o.cls=.type "StopIteration")->E (.ref e) { s with heap:=h' }):
  aD (aK prog w) A (Builtin.«zip.__next__» ⟨[.ref z],[]⟩) Q E s:=by
 show aD _ _ (uP (.ref z) 2 >>= _) _ _ _;refine aa (b9 hz rfl (x:=.bool false) rfl ?_);show aD _ _ (uP (.ref z) 3 >>= _) _ _ _;refine aa (b9 hz rfl (x:=.ref tI) rfl (aa (eV hi rfl ?_)));show aD _ _ (eI (.ref z) >>= _) _ _ _;refine aa ?_;unfold eI;refine aa (b9 hz rfl (x:=.none) rfl (ah ?_));simp only[if_true];refine aa (e8 (aa (b9 hz rfl (x:=.ref tO) rfl (aa (gN hz (by simp) λha za l=>?_)))));have h:nL ha z tI tO .ellipsis:=za;refine aa ?_;simp only[x9,Ad,df,AS];refine aa (aa (mK ?_));show aD _ _ (b6 (.ref i1) >>= _) _ _ _;have H:P1 k ha:=vT S1 p1 l.extBut D.i1z D.l1z;cases hx:v1 k with
 |none=>
  refine aa (S1.done k _ _ _ H hx λhb e b G=>?_);obtain⟨U,g,J⟩:=G;have zb:nL hb z tI tO .ellipsis:=b _ _ D.i1z.symm h;have ne:e≠z:=λq=>by rw[q,zb]at g;cases g;simp at J
  exact gN zb (by simp) λhc _ sc=>hE hc e (λc o n1 _ Y _ q=>sc.extBut _ _ n1 (b _ _ Y (l.extBut _ _ n1 q))) ⟨U,sc.extBut _ _ ne g,J⟩
 |some x=>
  have hy:v2 k=none:=I.resolve_left (by rw[hx];simp);refine aa (S1.item k x _ _ _ H hx λhb q1 b=>ah ?_);have ob:iq hb tO u v:=b.extBut _ _ D.TOi1 (l.extBut _ _ D.TOz ho);refine aa (eV ob rfl (aa (o0 ob λhc oc sc=>?_)));refine aa (sO (ah ?_));refine aa (aa (mK ?_));show aD _ _ (b6 (.ref i2) >>= _) _ _ _;have O:P2 k hc:=vT L (vT L (vT L p2 l.extBut D.i2z D.l2z) b.extBut D.i12.symm D.l2i1) sc.extBut D.TOi2.symm D.l2TO;refine aa (L.done k _ _ _ O hy λhd e sd C=>?_);obtain⟨U,g,J⟩:=C;have zd:nL hd z tI tO .ellipsis:=sd _ _ D.i2z.symm (sc.extBut _ _ D.TOz.symm (b.extBut _ _ D.i1z.symm h));have ne:e≠z:=λq=>by rw[q,zd]at g;cases g;simp at J
  exact gN zd (by simp) λhe _ se=>hE he e (λc o n1 n2 Y n4 q=>se.extBut _ _ n1 (sd _ _ n4 (sc.extBut _ _ n2 (b.extBut _ _ Y (l.extBut _ _ n1 q))))) ⟨U,se.extBut _ _ ne g,J⟩
end
def tF(a b:CE):CI:=λl=>bnd (a l) λx=>bnd (b l) λy=>match x,y with
 | .tup ds,.tup es=>ret ⟨ds.zipWith (λp q=>.tup [p,q]) es,eQ⟩
 |_,_=>bad
end MM
namespace MM
open PySem
def oh(a b:CE):CE:=λl=>bnd (a l) λx=>match x with
 | .str x=>bnd (b l) λy=>match y with
  | .str y=>ret (.bl (sw x y))
  |_=>bad
 |_=>bad
noncomputable def GP(p:Str×Str×Str):D:=.tup [.str p.1,.str p.2.1,.str p.2.2]
def pe(f:Str->Str->Str×Str×Str)(a b:CE):CE:=λl=>bnd (a l) λx=>match x with
 | .str x=>bnd (b l) λy=>match y with
  | .str y=>chk ((y.length == 0)=false/\x.length<=eK) (ret (GP (f x y)))
  |_=>bad
 |_=>bad
def qp(a:CE):CI:=λl=>bnd (a l) λx=>match x with
 | .ref n=>bnd (getL n) λds=>ret ⟨(gG 0 ds.length).zipWith (λi d=>.tup [i,d]) ds,qy n ds⟩
 |_=>bad
open PySem.Spec PyProof.Rows L2
def tw(t:Bool)(K:aj)(H:Hp)(a:af)(xs:List V):Prop:=match t with
 |true=>kz K H a xs
 |false=>iW K H a xs
noncomputable def rD(t:Bool)(h:bu)(a:af)(xs:Array ac):Prop:=match t with
 |true=>h.IsTuple a xs
 |false=>h.IsList a xs
noncomputable def mW(t:Bool)(h:bu)(b a:af)(i:Nat):Prop:=match t with
 |true=>h.IsTupleIter b a i
 |false=>h.IsListIter b a i
noncomputable def A0:Bool->af->Obj
 |true,a=>{ cls:=.type "tuple_iterator",data:=.fields #[.ref a,.int 0 0] }
 |false,a=>{ cls:=.type "list_iterator",data:=.fields #[.ref a,.int 0 0] }
section
variable{prog:Program}{w:bw}{A:br}{E:ac->ae->Prop}{s:ae}{t u:Bool}{h h':bu}{a b it:af}{xs ys:Array ac}{i:Nat}
theorem rD.there(p:rD t h a xs):∃o,h.get? a=some o:=by cases t<;>(obtain ⟨o,e,_⟩:=p;exact ⟨o,e⟩)
theorem rD.keep(p:rD t h a xs)(k:∀o,h.get? a=some o->h'.get? a=some o):rD t h' a xs:=by cases t<;>(obtain ⟨o,e,r⟩:=p;exact ⟨o,k o e,r⟩)
theorem mW.keep(p:mW t h it a i)(k:∀o,h.get? it=some o->h'.get? it=some o):mW t h' it a i:=by cases t<;>(obtain ⟨o,e,r⟩:=p;exact ⟨o,k o e,r⟩)
theorem mW.obj(p:mW t h it a i):∃o,h.get? it=some o/\∀v,o.data≠.cell v:=by cases t<;>(obtain ⟨o,e,_,d⟩:=p;exact ⟨o,e,λv q=>by rw[d]at q;cases q⟩)
theorem Pq(e:h.get? it=some (A0 t a)):mW t h it a 0:=by cases t<;>exact⟨_,e,rfl,rfl⟩
theorem rD.ne(p:rD t h a xs)(q:mW u h it b i):a≠it:=λz=>by subst z;cases t<;>cases u<;>obtain⟨o,v,c,_⟩:=p<;>obtain⟨o',g,l,_⟩:=q<;>rw[v]at g<;>cases g<;>rw[c]at l<;>exact bc (vb l) (by decide)
theorem yQ(hh:A.handled=none)(C:a≠it):Br prog w A it a (λi=>xs[i]?) (λi h=>mW t h it a i/\rD t h a xs):=by
 cases t
 ·exact⟨λk h v=>by obtain⟨⟨o,e,_⟩,_⟩:=v;exact⟨o,e⟩,λk h h' l kp=>by obtain⟨p,q⟩:=l;exact⟨mW.keep (t:=false) p (kp it (.inl rfl)),rD.keep (t:=false) q (kp a (.inr rfl))⟩,λk x s Q E g I J=>by obtain⟨H,G⟩:=g;exact wpAny_nextOf_list_item H G I λh' q hs=>J h' ⟨q,rD.keep (t:=false) G λo e=>hs.extBut a o C e⟩ hs,λk s Q E c I L=>by obtain⟨H,G⟩:=c;exact wpAny_nextOf_list_end hh H G I L⟩
 ·exact Wz hh C
theorem Of{Q:ac->ae->Prop}(p:rD t s.heap a xs)(c:Q (.ref s.heap.objs.size) { s with heap:=s.heap.push (A0 t a) }):aD (aK prog w) A (pyIter (.ref a)) Q E s:=by
 cases t
 ·exact rg p c
 ·exact l_ p c
theorem yL{X:Cx}{c:List (af×Obj)}{σ:St}{H:Hp}{l:List V}(I:Inv X c σ H s)(q:tw t X.K H a l):∃its,cU l its/\rD t s.heap a its.toArray:=by
 cases t
 ·obtain⟨its,g,p,_⟩:=I.list q;exact⟨its,g,p.isList⟩
 ·obtain⟨its,g,p,_⟩:=I.tuple q;exact⟨its,g,p⟩
theorem IW{X:Cx}{c:List (af×Obj)}{σ:St}{H:Hp}{l g:List V}(I:Inv X c σ H s)(p:tw t X.K H a l)(q:tw t X.K H a g):l=g:=by
 cases t
 ·exact I.list_inj p q
 ·exact I.tuple_inj p q
abbrev Dk(t:Bool)(h:bu)(a:af):bu:=h.push (A0 t a)
abbrev De(t u:Bool)(h:bu)(a b:af):bu:=(Dk t h a).push (A0 u b)
abbrev CW(t u:Bool)(h:bu)(a b:af):bu:=(De t u h a b).push { cls:=.type "tuple",data:=.seq #[.ref h.objs.size,.ref (Dk t h a).objs.size] }
abbrev FZ(t u:Bool)(h:bu)(a b:af):bu:=(CW t u h a b).push { cls:=.type "tuple",data:=.seq #[.none,.none] }
abbrev xH(t u:Bool)(h:bu)(a b:af):bu:=(FZ t u h a b).push { cls:=.type "zip",data:=.fields #[.none,.bool false,.bool false,.ref (De t u h a b).objs.size,.ref (CW t u h a b).objs.size] }
theorem Uy(t u:Bool)(a b:af)(xs ys:Array ac):
  Meets (Builtin.«zip.__new__» ⟨[.type "zip",.ref a,.ref b],[]⟩) (λ_ R s=>rD t s.heap a xs/\rD u s.heap b ys/\R (.ok (.ret (.ref (FZ t u s.heap a b).objs.size))) { s with heap:=xH t u s.heap a b }):=
 .of_wp λprog w A R s h=>by
  obtain⟨v,g,d,c,os⟩:=s;obtain⟨I,H,h⟩:=h;have l:=sub_zip;have G:rD t (t8 ⟨v,g,d,c,os⟩) a xs:=I;have C:rD u (t8 ⟨v.push (A0 t a),g,d,c,os⟩) b ys:=H.keep λo e=>aw _ e
  wp_walk using Of G,Of C
  exact⟨_,rfl,h⟩
theorem XB{Q:ac->ae->Prop}(Y:rD t s.heap a xs)(U:rD u s.heap b ys)
  (h:∀h',nL h' (s.heap.objs.size+4) (s.heap.objs.size+2) (s.heap.objs.size+3) .none->iq h' (s.heap.objs.size+2) (.ref s.heap.objs.size) (.ref (s.heap.objs.size+1))->iq h' (s.heap.objs.size+3) .none .none ->
   mW t h' s.heap.objs.size a 0->mW u h' (s.heap.objs.size+1) b 0->(∀c o,s.heap.get? c=some o->h'.get? c=some o)->Q (.ref (s.heap.objs.size+4)) { s with heap:=h' }):
  aD (aK prog w) A (call (.type "zip") [.ref a,.ref b]) Q E s:=by
 refine callType_new F.called_zip (by decide) (F.typeCall_zip_2 _ _) (F.newCall_zip_2 _ _) (λobj=>F.args_object_init_3 obj _ _) F.entry_zip_new (Uy t u a b xs ys) ⟨Y,U,?_⟩;have n1:(Dk t s.heap a).objs.size=s.heap.objs.size+1:=dA ..;have n2:(De t u s.heap a b).objs.size=s.heap.objs.size+2:=by rw[dA,n1]
 have G:(CW t u s.heap a b).objs.size=s.heap.objs.size+3:=by rw[dA,n2]
 have L:(FZ t u s.heap a b).objs.size=s.heap.objs.size+4:=by rw[dA,G]
 have g:∀{c o},(FZ t u s.heap a b).get? c=some o->(xH t u s.heap a b).get? c=some o:=λe=>aw _ e;have l:∀{c o},(CW t u s.heap a b).get? c=some o->(xH t u s.heap a b).get? c=some o:=λe=>g (aw _ e);have v:∀{c o},(De t u s.heap a b).get? c=some o->(xH t u s.heap a b).get? c=some o:=λe=>l (aw _ e);have up1:∀{c o},(Dk t s.heap a).get? c=some o->(xH t u s.heap a b).get? c=some o:=λe=>v (aw _ e);have C:nL (xH t u s.heap a b) (FZ t u s.heap a b).objs.size (De t u s.heap a b).objs.size (CW t u s.heap a b).objs.size .none:=aR _ rfl;have H:iq (xH t u s.heap a b) (CW t u s.heap a b).objs.size .none .none:=g (aR _ rfl);have I:iq (xH t u s.heap a b) (De t u s.heap a b).objs.size (.ref s.heap.objs.size) (.ref (Dk t s.heap a).objs.size):=l (aR _ rfl);have J:(xH t u s.heap a b).get? (Dk t s.heap a).objs.size=some (A0 u b):=v (aR _ (by cases u<;>rfl));have O:(xH t u s.heap a b).get? s.heap.objs.size=some (A0 t a):=up1 (aR _ (by cases t<;>rfl))
 show _/\_;rw[n2,G,L]at C;rw[G]at H;rw[n1,n2]at I;rw[n1]at J;rw[L];exact⟨⟨_,C,rfl⟩,h _ C I H (Pq O) (Pq J) λc o e=>up1 (aw _ e)⟩
theorem Z5{Q:ac->ae->Prop}(p:rD t s.heap a xs)(h:∀h',IsEnum h' (s.heap.objs.size+1) s.heap.objs.size 0 .none->mW t h' s.heap.objs.size a 0->(∀b o,s.heap.get? b=some o->h'.get? b=some o)->Q (.ref (s.heap.objs.size+1)) { s with heap:=h' }):
  aD (aK prog w) A (call (.type "enumerate") [.ref a]) Q E s:=by
 cases t
 ·exact call_enumerate_list p λh' a b _ c=>h h' a b c
 ·exact WE p λh' a b _ c=>h h' a b c
theorem UK(t:Bool)(hh:A.handled=none)(c:a≠it)(xs:Array ac):Draws prog w A it [it,a] xs.size (λi v=>xs[i]?=some v) (λi h=>mW t h it a i/\rD t h a xs) where
 live:=λi h st=>(yQ (prog:=prog) (w:=w) hh c).there i h st
 frame:=λi h h' st l=>(yQ (prog:=prog) (w:=w) hh c).keep i h h' st λb C o e=>l b (by rcases C with q|q<;>rw[q]<;>simp) o e
 item:=λi s Q E g st G=>(yQ hh c).item i xs[i] s Q E st (by simp[g]) λh' p hs=>G _ h' s.toks (by simp[g]) p hs
 done:=λs Q E st H=>(yQ hh c).done xs.size s Q E st (by simp) H
end
def BR(t u:Bool)(K:aj)(a b:af):It:=
 ⟨λi H=>∃xs ys x y,tw t K H a xs/\tw u K H b ys/\xs[i]?=some x/\ys[i]?=some y,
  λi H r c=>∃T x y,r=.ref T/\H T=none/\(∀xs,tw t K H a xs->xs[i]?=some x)/\(∀ys,tw u K H b ys->ys[i]?=some y)/\c=eB H T (.tup [x,y]),
  λi H=>∃xs ys,tw t K H a xs/\tw u K H b ys/\(xs.length<=i\/ys.length<=i)⟩
def BM(t:Bool)(K:aj)(a:af):It:=
 ⟨λi H=>∃xs x,tw t K H a xs/\xs[i]?=some x,λi H x b=>∃T v,x=.ref T/\H T=none/\(∀xs,tw t K H a xs->xs[i]?=some v)/\b=eB H T (.tup [.int i,v]),λi H=>∃xs,tw t K H a xs/\xs.length<=i⟩
def D9(t u:Bool)(z g c o l a b:af)(i:Nat)(h:bu):Prop:=nL h z g c .none/\iq h g (.ref o) (.ref l)/\(∃u v,iq h c u v)/\mW t h o a i/\mW u h l b i
section
variable{X:Cx}{tg:Expr}{es:List Expr}{pos:Pos}{fa fb:CE}{K:aj}{ρ:List af}{H:Hp}{st:aT}{t u:Bool}
theorem PU{z l g E C a b:af}{i:Nat}{h:bu}(p:D9 t u z l g E C a b i h){c:af}(G:c∈[z,l,g,E,C]):∃o,h.get? c=some o/\∀v,o.data≠.cell v:=by
 obtain⟨Q,O,⟨u,v,L⟩,J,I⟩:=p;simp only[aI,dS,or_false]at G;rcases G with e|e|e|e|e<;>subst e
 ·exact⟨_,Q,λv q=>by cases q⟩
 ·exact⟨_,O,λv q=>by cases q⟩
 ·exact⟨_,L,λv q=>by cases q⟩
 ·exact J.obj
 ·exact I.obj
theorem Rm{P:Program}{w:bw}{k:Nat}{z J tO i1 i2 a b:af}(D:ZipApart z J tO i1 i2 a b):ud P w K (.Tuple es k pos) (BR t u K a b) [z,J,tO,i1,i2] z (D9 t u z J tO i1 i2 a b) where
 mem:=by simp
 obj:=λi h p c l=>PU p l
 keep:=λi h h' pq90 kp=>by obtain⟨C,h2,⟨u,v,h3⟩,h4,h5⟩:=pq90;exact⟨kp z (by simp) _ C,kp J (by simp) _ h2,⟨u,v,kp tO (by simp) _ h3⟩,h4.keep λo e=>kp i1 (by simp) o e,h5.keep λo e=>kp i2 (by simp) o e⟩
 item:=by
  intro X hP hw hK l i G s σ H E I hf p0 hg;obtain⟨C,h2,⟨u0,v0,h3⟩,h4,h5⟩:=id p0;subst hP hw hK;obtain⟨xs,ys,x,y,qa,qb,hx,hy⟩:=hg;obtain⟨its,rv,p⟩:=yL I qa;obtain⟨its2,L,p2⟩:=yL I qb;obtain⟨ux,hux,rux⟩:=rv.get hx;obtain⟨uy,huy,ruy⟩:=L.get hy;have U:s.TypeIs (.ref z) "zip":=⟨_,C,rfl⟩
  unfold uH;refine aa (mL (cV (name:=ag "__next__") U ni (d6 ni U CC (Vd D (yQ (I.ok.hd l) D.l1i1) (yQ (I.ok.hd l) D.l2i2) C h2 h3 ⟨h4,p⟩ ⟨h5,p2⟩ (x:=ux) (y:=uy) (by simpa using hux) (by simpa using huy) λh' g1 g2 g3 g4 g5 g7=>ah ?_) (AT _))));refine⟨_,rfl,wpAny_letOwnedTupleGo_zip g1 λY k1 k2=>?_⟩;have zlt:z < s.heap.objs.size:=aL C;have keep:∀c o,c∉[z,J,tO,i1,i2]->s.heap.get? c=some o->Y.get? c=some o:=λc o l e=>by simp only[aI,dS,or_false,not_or]at l;exact (k2.2 c l.1).trans (g7 c o l.1 l.2.2.1 l.2.2.2.1 l.2.2.2.2 e)
  have U:iq Y s.heap.objs.size ux uy:=(k2.2 _ (gr zlt)).trans g5;have I2:Inv X G σ (eB H s.heap.objs.size (.tup [x,y])) { s with heap:=Y,toks:=s.toks }:=QA (its:=[ux,uy]) I hf keep (az _) (by show 2<=sizeLine;decide) (.cons rux (.cons ruy .nil)) ⟨_,U,rfl,⟨_,rfl⟩,rfl⟩;refine⟨.ref s.heap.objs.size,_,I2,rfl,⟨_,x,y,rfl,I.hok.fresh (az _),λzs Q=>by rw[IW I Q qa];exact hx,λzs Q=>by rw[IW I Q qb];exact hy,rfl⟩,
   ⟨k1,(k2.2 J D.TIz).trans (g7 J _ D.TIz D.TITO D.TIi1 D.TIi2 h2),⟨_,_,(k2.2 tO D.TOz).trans g2⟩,g3.1.keep λo e=>(k2.2 i1 D.i1z).trans e,g4.1.keep λo e=>(k2.2 i2 D.i2z).trans e⟩,λc l=>?_⟩
  obtain⟨o,eo,_⟩:=PU p0 l;rw[fR (cv (aL eo))];exact (hf c l).1
 done:=by
  intro X hP hw hK l i G s σ H E I hf O hg;obtain⟨C,h2,⟨u,v,h3⟩,h4,h5⟩:=O;subst hP hw hK;obtain⟨xs,ys,qa,qb,hl⟩:=hg;obtain⟨its,rv,p⟩:=yL I qa;obtain⟨its2,L,p2⟩:=yL I qb;have l1:=rv.length;have l2:=L.length;have U:s.TypeIs (.ref z) "zip":=⟨_,C,rfl⟩
  unfold uH;refine aa (mL (cV (name:=ag "__next__") U ni (d6 ni U CC (VF D (yQ (I.ok.hd l) D.l1i1) (yQ (I.ok.hd l) D.l2i2) C h2 h3 ⟨h4,p⟩ ⟨h5,p2⟩ ?_ λh' e g ⟨o,q1,q2⟩=>?_) (AT _))))
  ·rcases hl with hl|hl
   ·exact .inl (by simp;ext)
   ·exact .inr (by simp;ext)
  ·refine aa (iC (T:="StopIteration") (b:=true) ⟨o,q1,q2⟩ isSubtype_stop (ah ⟨rfl,WU (t':=s.toks) I hf λc o l e=>?_⟩));simp only[aI,dS,or_false,not_or]at l;exact g c o l.1 l.2.2.1 l.2.2.2.1 l.2.2.2.2 e
 self:=λ_ _ _ _ _ pq92 h=>by obtain⟨C,_⟩:=pq92;exact GA C h
theorem WG{P:Program}{w:bw}{k:Nat}(a e J:af)(Y:e≠J):ud P w K (.Tuple es k pos) (BM t K a) [e,J] e (λi h=>(∃g,IsEnum h e J i g)/\mW t h J a i) where
 mem:=by simp
 obj:=λi h pq93 b l=>by
  obtain⟨⟨g,C⟩,c⟩:=pq93;simp only[aI,dS,or_false]at l;rcases l with z|z<;>subst z
  ·exact⟨_,C,λv q=>by cases q⟩
  ·exact c.obj
 keep:=λi h h' pq94 kp=>by obtain⟨⟨g,C⟩,c⟩:=pq94;exact⟨⟨g,kp e (by simp) _ C⟩,c.keep λo x=>kp J (by simp) o x⟩
 item:=by
  intro X hP hw hK hc i G s σ H E I hf Q hg;obtain⟨⟨g,C⟩,c⟩:=Q;subst hP hw hK;obtain⟨xs,x,hq,hx⟩:=hg;obtain⟨its,rv,p⟩:=yL I hq;obtain⟨u,hu,ru⟩:=rv.get hx;have hlt:i < its.toArray.size:=by rw[aM];exact (aq.mp hu).1
  have hae:a≠e:=λz=>by subst z;cases t<;>obtain⟨o',e2,c',_⟩:=p<;>rw[C]at e2<;>cases e2<;>exact bc (vb c') (by decide)
  refine wpAny_pyNext_enum_itemD (UK t (prog:=X.prog) (w:=X.w) (A:=X.A.in1) (I.ok.hd hc) (p.ne c) its.toArray) C ⟨c,p⟩ hlt Y (by simp;exact⟨Y,hae.symm⟩) λy h' tk hP ho hst hT hsz hk=>?_;have ey:y=u:=by
   have:its.toArray[i]?=some u:=by simpa using hu
   rw[this]at hP;cases hP;rfl
  subst ey;refine⟨_,rfl,wpAny_letOwnedTupleGo_enum ho λh2 he2 U=>?_⟩;have L:e < s.heap.objs.size:=aL C;have hT2:h2.get? s.heap.objs.size=some { cls:=.type "tuple",data:=.seq #[.int i tk,y] }:=(U.2 _ (gr L)).trans hT;have I2:Inv X G σ (eB H s.heap.objs.size (.tup [.int i,x])) { s with heap:=h2,toks:=tk+1 }:=QA (its:=[.int i tk,y]) I hf (λb o l e1=>by simp only[aI,dS,or_false,not_or]at l;exact (U.2 b l.1).trans (hk b o l.1 l.2 e1)) (az _) (by show 2<=sizeLine;decide) (.cons ⟨tk,rfl⟩ (.cons ru .nil)) ⟨_,hT2,rfl,⟨_,rfl⟩,rfl⟩
  refine⟨.ref s.heap.objs.size,_,I2,rfl,⟨_,x,rfl,I.hok.fresh (az _),λys hy=>by rw[IW I hy hq];exact hx,rfl⟩,⟨⟨y,by simpa using he2⟩,hst.1.keep λo e=>(U.2 J Y.symm).trans e⟩,λb l=>?_⟩;rw[fR]
  ·exact (hf b l).1
  ·simp only[aI,dS,or_false]at l;rcases l with z|z<;>subst z
   ·exact cv L
   ·obtain⟨o,b,_⟩:=c.obj;exact cv (aL b)
 done:=by
  intro X hP hw hK hc i G s σ H E I hf O hg;obtain⟨⟨g,C⟩,c⟩:=O;subst hP hw hK;obtain⟨xs,hq,hx⟩:=hg;obtain⟨its,rv,p⟩:=yL I hq;obtain⟨g0,g1,g2,g3,g4,g5⟩:=hf J (by simp);have hl:=rv.length;have hT:s.TypeIs (.ref e) "enumerate":=⟨_,C,rfl⟩
  unfold uH;refine aa (mL (cV (name:=ag "__next__") hT wa (d6 wa hT F.entry_enumerate_next ?_ (F.args_enumerate_next_1 _))))
  show aD _ _ (uP (.ref e) 2 >>= _) _ _ _;refine aa (b9 C rfl (x:=.ref J) rfl ?_);refine aa ((yQ (A:=X.A.in1) (I.ok.hd hc) (p.ne c)).done i _ _ _ ⟨c,p⟩ (by simp;ext) λh' x he' pq95=>?_);obtain⟨o,ho,hc'⟩:=pq95;exact aa (iC (T:="StopIteration") (b:=true) ⟨o,ho,hc'⟩ isSubtype_stop (ah ⟨rfl,I.turned (t':=s.toks) (λb o l e=>he' b o l e) g0 g1 g3 g4 g5⟩))
 self:=λ_ _ _ _ _ pq96 h=>by obtain⟨⟨g,C⟩,_⟩:=pq96;exact Dy C h
theorem XG{a b:Expr}{ta:TA}{p E:Pos}{k:Nat}(hg:Gl X "zip")(hm:X.mg "zip"=none)(ha:PA X [a,b] ta)(hs:av [a,b] X.env=[(false,eval a X.env),(false,eval b X.env)])(G:av [b] X.env=[(false,eval b X.env)]):
  PI X (.Tuple es k E) (.Call (.Name "zip" p) [a,b] [] pos) (λσ H R=>ta σ H λY C=>∃v l xs ys,Y=[.ref v,.ref l]/\tw t X.K C v xs/\tw u X.K C l ys/\R (BR t u X.K v l) C):=by
 intro g s σ H R I h;refine Call_ (A4 I hg hm boot_zip (eP (fE (ha pos g s σ H _ I h) λus c U=>?_) (by rw[hs,G]) (by rw[G];rfl)));obtain ⟨Y,C,L,r1,q1⟩:=U;obtain⟨v,l,xs,ys,e,hx,hy,q⟩:=q1;subst e;cases r1 with
 |cons r rr=>
  cases rr with
  |cons r' rr=>
   cases rr;cases r;cases r';obtain⟨its,rv,p1⟩:=yL L hx;obtain⟨its2,rv2,p2⟩:=yL L hy;have Q:v < c.heap.objs.size:=by obtain⟨o,e⟩:=p1.there;exact aL e
   have O:l < c.heap.objs.size:=by obtain⟨o,e⟩:=p2.there;exact aL e
   refine XB p1 p2 λh' g1 g2 g3 g4 g5 g7=>GA g1 ?_;have I2:Inv X g σ C { c with heap:=h' }:=L.kept (t':=c.toks) g7;refine⟨c.heap.objs.size+4,[c.heap.objs.size+4,c.heap.objs.size+2,c.heap.objs.size+3,c.heap.objs.size,c.heap.objs.size+1],_,BR t u X.K v l,C,rfl,I2,Rm (zipApart_new Q O),⟨g1,g2,⟨_,_,g3⟩,g4,g5⟩,λb hb=>?_,q⟩;have J:c.heap.objs.size<=b:=by simp only[aI,dS,or_false]at hb;rcases hb with e|e|e|e|e<;>rw[e]<;>ext
   exact L.fpOk J (L.hok.fresh J)
theorem VO{b:Expr}{L:TA}{p l:Pos}{k:Nat}(hg:Gl X "enumerate")(hm:X.mg "enumerate"=none)(ha:PA X [b] L)(hs:av [b] X.env=[(false,eval b X.env)]):
  PI X (.Tuple es k l) (.Call (.Name "enumerate" p) [b] [] pos) (λσ H R=>L σ H λJ v=>∃a xs,J=[.ref a]/\tw t X.K v a xs/\R (BM t X.K a) v):=by
 intro g s σ H R I h;refine Call_ (A4 I hg hm boot_enumerate (eP (fE (ha pos g s σ H _ I h) λus c G=>?_) hs rfl));obtain ⟨J,v,C,Y,q1⟩:=G;obtain⟨a,xs,e,hq,hR⟩:=q1;subst e;obtain⟨u,rfl,U⟩:=vY Y;cases U;obtain⟨its,rv,p1⟩:=yL C hq;refine Z5 p1 λh' O E kp=>Dy O ?_;have I2:Inv X g σ v { c with heap:=h' }:=C.kept (t':=c.toks) kp;refine⟨c.heap.objs.size+1,[c.heap.objs.size+1,c.heap.objs.size],_,BM t X.K a,v,rfl,I2,WG a (c.heap.objs.size+1) c.heap.objs.size (Nat.succ_ne_self _),⟨⟨_,O⟩,E⟩,λb Q=>?_,hR⟩;have o:c.heap.objs.size<=b:=by simp only[aI,dS,or_false]at Q;rcases Q with e|e<;>rw[e]<;>ext
 exact C.fpOk o (C.hok.fresh o)
def Hi:Bool->D->M (List D×(aT->Prop))
 |true,.tup ds=>ret (ds,eQ)
 |false,.ref n=>bnd (getL n) λds=>ret (ds,qy n ds)
 |_,_=>bad
theorem aW.sqx{α:Type}{d:D}{v:V}{f:List D×(aT->Prop)->M α}{R:α->aT->List af->Hp->Prop}(p:aW K ρ H (MM.bnd (Hi t d) f st) R)(L:dG K ρ H v d)(E:SR K ρ H st):
  ∃a c ds G,v=.ref a/\tw t K H a c/\aW K ρ H (f (ds,G) st) R/\∀ρ' g b,Ex ρ H ρ' g->SR K ρ' g b->(t=false->G b)->∃l,tw t K g a l/\ce K ρ' g l ds:=by
 cases t
 ·cases d with
  |ref n=>
   obtain⟨a,rfl,O⟩:∃a,v=.ref a/\ρ[n]?=some a:=by cases L with|@ref a m _ h=>exact⟨_,rfl,h⟩
   obtain⟨ds,c,Y⟩:=aW.getL (aW.bnd (aW.bnd p)) E;obtain⟨H,Q,C,u,r⟩:=E.seq c;rw[O]at C;cases C;refine⟨a,Q,ds,qy n ds,rfl,iW.of u,Y.ret E,λρ' g b x s' G=>?_⟩;obtain⟨τ,eτ,_⟩:=x.pre;obtain⟨l,I,o,J,U⟩:=s'.seq (G rfl);rw[eτ,E6 O]at o;cases o;exact⟨I,iW.of J,U⟩
  |_=>exact p.elim
 ·cases d with
  |tup ds=>
   obtain⟨a,c,rfl,h,r⟩:∃a c,v=.ref a/\kz K H a c/\ce K ρ H c ds:=by cases L with|tup h r=>exact⟨_,_,rfl,h,r⟩
   exact⟨a,c,ds,eQ,rfl,h,(aW.bnd p).ret E,λρ' g b x s' _=>⟨c,kz.mono x.up h,r.mono x⟩⟩
  |_=>exact p.elim
def Yb(t u:Bool)(P Q:aT->Prop):aT->Prop:=match t,u with
 |true,true=>eQ
 |false,true=>P
 |true,false=>Q
 |false,false=>λs=>P s/\Q s
def AK(t u:Bool)(a b:CE):CI:=λl=>bnd (a l) λx=>bnd (b l) λy=>bnd (Hi t x) λp=>bnd (Hi u y) λq=>ret ⟨p.1.zipWith (λp q=>.tup [p,q]) q.1,Yb t u p.2 q.2⟩
def uv(t:Bool)(a:CE):CI:=λl=>bnd (a l) λx=>bnd (Hi t x) λp=>ret ⟨(gG 0 p.1.length).zipWith (λi d=>.tup [i,d]) p.1,p.2⟩
theorem Qgk{a b:Expr}{p G:Pos}{k:Nat}(t u:Bool)(hg:Gl X "zip")(hm:X.mg "zip"=none)(h:SE X a fa)(h':SE X b fb)(he1:av [a,b] X.env=(false,eval a X.env)::av [b] X.env)(he2:av [b] X.env=(false,eval b X.env)::av [] X.env)
  (hs:av [a,b] X.env=[(false,eval a X.env),(false,eval b X.env)]) (hs2:av [b] X.env=[(false,eval b X.env)]):SI X (.Tuple es k G) (.Call (.Name "zip" p) [a,b] [] pos) (AK t u fa fb):=
 (XG (t:=t) (u:=u) hg hm (nJ h (nJ h' qj he2) he1) hs hs2).of λσ H R h_=>h_.el λρ l st lr sr p=>⟨ρ,l,st,lr,sr,p.bnd.imp λd Y ρ1 H1 x1 s1 p1 v rv=>⟨ρ1,l,Y,lr.mono x1,s1,p1.bnd.imp λe st2 ρ2 H2 x2 s2 p2 w rw'=>by
  obtain⟨a1,ws,ds,sm,rfl,q1,p3,L⟩:=aW.sqx p2 (rv.mono x2) s2;obtain⟨a2,U,E,sm2,rfl,q2,p4,J⟩:=aW.sqx p3 rw' s2;refine⟨a1,a2,ws,U,rfl,q1,q2,p4.ret s2 _ ?_⟩;intro ρ3 H3 st3 x3 s3 sm3;obtain⟨g,C,r3⟩:=L ρ3 H3 st3 x3 s3 λe=>by subst e;cases u<;>first|exact sm3.1|exact sm3
  obtain⟨c,o,r4⟩:=J ρ3 H3 st3 x3 s3 λe=>by subst e;cases t<;>first|exact sm3.2|exact sm3
  have l1:=r3.length;have l2:=r4.length;refine⟨⟨g,c,C,o,?_⟩,λi d hd=>?_⟩
  ·show g.length<=(ds.zipWith _ E).length\/c.length<=(ds.zipWith _ E).length;rw[vO];ext
  ·rw[mR]at hd;cases O:ds[i]? with
   |none=>rw[O]at hd;cases hd
   |some d1=>
    cases l:E[i]? with
    |none=>rw[O,l]at hd;cases hd
    |some d2=>
     rw[O,l]at hd;have ed:d=.tup [d1,d2]:=(bq hd).symm;subst ed;obtain⟨v1,L,h⟩:=r3.get O;obtain⟨v2,J,b⟩:=r4.get l;refine⟨⟨g,c,v1,v2,C,o,L,J⟩,λy H4 I=>?_⟩;obtain⟨T,x,y',Y,G,U,H,eH⟩:=I;subst Y eH;have v:=U g C;have u:=H c o;rw[L]at v;cases v;rw[J]at u;cases u;have Q:Ex ρ3 H3 ρ3 (eB H3 T (.tup [v1,v2])):=Ex.new G;exact⟨Q,s3.new G,.tup (kz.of iI) (.cons (h.mono Q) (.cons (b.mono Q) .nil))⟩⟩⟩
theorem NY{b:Expr}{p g:Pos}{k:Nat}(t:Bool)(hg:Gl X "enumerate")(hm:X.mg "enumerate"=none)(h:SE X b fa)(hs:av [b] X.env=[(false,eval b X.env)]):SI X (.Tuple es k g) (.Call (.Name "enumerate" p) [b] [] pos) (uv t fa):=
 (VO (t:=t) hg hm (nJ h qj hs) hs).of λσ H R h_=>h_.el λρ l st lr sr p=>⟨ρ,l,st,lr,sr,p.bnd.imp λd u ρ1 H1 x1 O p1 v E=>by
  obtain⟨a1,Y,ds,sm,rfl,q1,p3,k1⟩:=aW.sqx p1 E O;refine⟨a1,Y,rfl,q1,p3.ret O _ ?_⟩;intro ρ2 H2 st2 x2 s2 sm2;obtain⟨C,G,r⟩:=k1 ρ2 H2 st2 x2 s2 λ_=>sm2;have hl:=r.length;have len:((gG 0 ds.length).zipWith (λi d=>D.tup [i,d]) ds).length=ds.length:=by simp[gG]
  refine⟨⟨C,G,by rw[len,hl];exact az _⟩,λi d J=>?_⟩;have I:i < ds.length:=by rw[<- len];exact (aq.mp J).1
  have ed:d=.tup [.int i,ds[i]]:=by rw[mR,gG,aG,ig I,ar I]at J;have:=bq J;rw[<- this];simp
  subst ed;obtain⟨v,o,E⟩:=r.get (ar I);refine⟨⟨C,v,G,o⟩,λy H3 c=>?_⟩;obtain⟨T,w,ey,Q,hw,eH⟩:=c;subst ey eH;have U:=hw C G;rw[o]at U;cases U;have L:Ex ρ2 H2 ρ2 (eB H2 T (.tup [.int i,v])):=Ex.new Q;exact⟨L,s2.new Q,.tup (kz.of iI) (.cons (.int _) (.cons (E.mono L) .nil))⟩⟩
theorem HR{α β:Type}{m:M α}{f g:α->M β}(h:∀x s,f x s=g x s){s:aT}:bnd m f s=bnd m g s:=by unfold bnd;cases m s<;>first|rfl|exact h _ _
theorem Qgn:tF fa fb=AK true true fa fb:=by
 funext l s;refine HR λx s=>HR λy s=>?_;cases x<;>first|rfl|skip
 cases y<;>rfl
theorem Qgo:qk fa=uv true fa:=by funext l s;refine HR λx s=>?_;cases x<;>rfl
theorem VD:qp fa=uv false fa:=by
 funext l s;refine HR λx s=>?_;cases x<;>first|rfl|skip
 rename_i n
 show bnd (getL n) _ s=bnd (bnd (getL n) _) _ s;unfold bnd;cases getL n s<;>rfl
end



































end MM
namespace MM
open PySem PyProof.Rows L2
def i7:D->M D
 | .int i=>chk (i.natAbs.log2 < 1920) (ret (.str (ag (toString i))))
 |_=>bad
def pd:D->M D
 | .str x=>match intText? x with
  |some n=>chk (x.length<=640) (ret (.int n))
  |none=>bad
 |_=>bad
def wA:D->D->M D
 | .str x,.str y=>ret (.bl (!(kS y x 0 y.length 1).isEmpty))
 |_,_=>bad
section
variable{X:Cx}
theorem V_:CallR X (.type "str") (λxs H Q=>∃v,xs=[v]/\xI X.K i7 v H Q):=Ym.of λxs H Q z=>by
 obtain⟨v,e,ρ,st,d,b,c,p⟩:=z;cases c with
 |int i=>
  obtain⟨hz,g⟩:=aW.chk p;exact⟨i,e,hz,g.ret b _ (.str _)⟩
 |_=>exact p.elim
theorem W3:CallR X (.type "int") (λxs H Q=>∃x n,xs=[.str x]/\intText? x=some n/\x.length<=640/\Q (.int n) H):=by intro b s σ H xs l Q I r h;obtain⟨x,n,rfl,c,g,q⟩:=h;obtain⟨u,rfl,t,rfl⟩:=vY r;exact PySem.W.KIN.call_text c g ⟨.int n,H,I.tok _,⟨_,rfl⟩,q⟩
theorem ZY:CallR X (.type "int") (λxs H Q=>∃v,xs=[v]/\xI X.K pd v H Q):=W3.of λxs H Q z=>by
 obtain⟨v,e,ρ,st,d,c,g,p⟩:=z;cases g with
 |str x=>
  cases b:intText? x with
  |none=>unfold pd at p;dsimp only at p;rw[b]at p;exact p.elim
  |some n=>
   unfold pd at p;dsimp only at p;rw[b]at p;obtain⟨hz,h⟩:=aW.chk p;exact⟨x,n,e,b,hz,h.ret c _ (.int _)⟩
 |_=>exact p.elim
theorem Wq:OpR X (cz .In) (nU X.K wA):=UA.of λx y H Q z=>by
 obtain⟨ρ,st,d,e,g,h,c,p⟩:=z;cases h with
 |str a=>
  cases c with
  |str b=>exact⟨a,b,rfl,rfl,p.ret g _ (.bl _)⟩
  |_=>exact p.elim
 |_=>first|exact p.elim|(cases c<;>exact p.elim)
end
section
open PySem.Builtin.Str
variable{prog:Program}{w:bw}{A:br}{E:ac->ae->Prop}{s:ae}
theorem Qgv{x y:Str}{t u:Tok}{Q:ac->ae->Prop}(g:(y.length == 0)=false)(hsz:x.length+2<=sizeLine)
  (h:∀l k,l.map (·.1)=gJ x y->Q (.ref s.heap.objs.size) { s with heap:=s.heap.push { cls:=.type "list",data:=.seq (strValues l).toArray },toks:=k }):
  aD (aK prog w) A (call (.builtin "str.split") [.str x t,.str y u]) Q E s:=by
 have o:(partsBetween x (occurrences x y 0 x.length (x.length+1)) y.length).length<=sizeLine:=by have v:=StrLaws.occ_length_le x y 0 x.length (x.length+1);rw[length_partsBetween];ext
 cases b:(decide (x.length < y.length)||decide (strKind x < strKind y)) with
 |true=>exact lZ rz (kH _ _ _) qK (pU _ _) (meets_str_split_cannot_occur x y t u b) (h [(x,t)] s.toks (aE b).symm)
 |false=>
  cases c:(occurrences x y 0 x.length (x.length+1)).isEmpty with
  |true=>exact lZ rz (kH _ _ _) qK (pU _ _) (meets_str_split_not_found x y t u b g c) (h [(x,t)] s.toks ((aA (ne_true_of_eq_false b)).trans (aE c)).symm)
  |false=>
   refine lZ rz (kH _ _ _) qK (pU _ _) (meets_str_split_sep x y t u b g c (by ext) o) ?_
   show wants Q E _ { s with toks:=_,heap:=s.heap.push { cls:=.type "list",data:=.seq (strsFrom s.toks (partsBetween x (occurrences x y 0 x.length (x.length+1)) y.length)).toArray } };rw[strsFrom_eq];exact h (numbered s.toks _) _ ((numbered_texts _ _).trans ((aA (ne_true_of_eq_false b)).trans (aA (ne_true_of_eq_false c))).symm)
end
section
variable{X:Cx}
theorem M7:∀l:List (Str×Tok),L2.cU ((l.map (·.1)).map V.str) (strValues l)
 |[]=>.nil
 |p::l=>.cons ⟨p.2,rfl⟩ (M7 l)
def BG:V->List V->Hp->VK->Prop:=λx c H Q=>∃a b,x=.str a/\c=[.str b]/\(b.length == 0)=false/\a.length+2<=sizeLine/\(gJ a b).length<=sizeLine/\∀l,H l=none->Q (.ref l) (eB H l (.lst ((gJ a b).map V.str)))
theorem Yj:C1 X "str.split" BG:=by intro g s σ H x U v Y Q I C E h;obtain⟨a,b,rfl,rfl,L,O,J,q⟩:=h;obtain⟨t,rfl⟩:=C;obtain⟨u,rfl,G⟩:=E.one;obtain⟨t',rfl⟩:=G;refine Qgv L O λl k e=>?_;have c:=M7 l;rw[e]at c;exact⟨.ref s.heap.objs.size,_,I.laid (t':=k) (o:=.lst ((gJ a b).map V.str)) (λb o e=>aw _ e) (az _) ⟨by rw[ai];exact J,_,0,c,aR _ rfl⟩,rfl,q _ (I.hok.fresh (az _))⟩
theorem MK:∀{ys:List Str}{b:List ac},L2.cU (ys.map V.str) b->StrsAre b ys
 |[],_,.nil=>.nil
 |y::ys,_,.cons r t=>by obtain⟨k,e⟩:=r;subst e;exact .cons y k (MK t)
def Fc(K:aj):V->List V->Hp->VK->Prop:=λx b H Q=>∃(a:Str)(p:af)(ys:List Str),x=.str a/\b=[.ref p]/\iW K H p (ys.map V.str)/\(ys.map (·.length)).sum+ys.length*a.length<=16777216/\Q (.str (sx a ys)) H
theorem Qgz:C1 X "str.join" (Fc X.K):=by intro g s σ H x L v O Q I l C h;obtain⟨a,p,ys,rfl,rfl,J,hz,q⟩:=h;obtain⟨t,rfl⟩:=l;obtain⟨u,rfl,E⟩:=C.one;cases E;obtain⟨its,c,G,_⟩:=I.list J;exact join_list G.isList (MK c) hz λt' k=>⟨.str _,H,I.kept (t':=k) (λb o e=>e),⟨_,rfl⟩,q⟩
end
noncomputable def gX:List D->Option (List Str)
 |[]=>some []
 | .str x::ds=>(gX ds).map (x::·)
 |_::_=>none
def lU(a b:CE):CE:=λl=>bnd (a l) λx=>match x with
 | .str x=>bnd (b l) λy=>match y with
  | .str y=>chk ((y.length == 0)=false/\x.length+2<=eK/\(gJ x y).length<=eK) (alloc (.lst ((gJ x y).map .str)))
  |_=>bad
 |_=>bad
def lG(a b:CE):CE:=λl=>bnd (a l) λx=>match x with
 | .str x=>bnd (b l) λy=>match y with
  | .ref n=>bnd (getL n) λds=>match gX ds with
   |some ys=>chk ((ys.map (·.length)).sum+ys.length*x.length<=16777216) (ret (.str (sx x ys)))
   |none=>bad
  |_=>bad
 |_=>bad
section
variable{X:Cx}{K:aj}{ρ:List af}{H:Hp}{st:aT}
theorem OS:∀ys:List Str,ce K ρ H (ys.map V.str) (ys.map D.str)
 |[]=>.nil
 |y::ys=>.cons (.str y) (OS ys)
theorem Xq{ds:List D}{ys:List Str}{b:List V}(h:gX ds=some ys)(r:ce K ρ H b ds):b=ys.map V.str:=by
 induction ds generalizing ys b with
 |nil=>cases r;cases h;rfl
 |cons d ds ih=>
  cases r with
  |cons a t=>
   cases a with
   |str x=>
    unfold gX at h;cases e:gX ds with
    |none=>rw[e]at h;cases h
    |some zs=>
     rw[e]at h;cases h;rw[ih e t];rfl
   |_=>cases h
theorem Wn{o e : Expr}{fa fb : CE}{g b : Pos}(ho : SE X o fa)(ha : SE X e fb)(u : cY o "split" X.env (eval o X.env) = eval o X.env := by rfl)
  (C:((di b (av [e] X.env)).all (λx => !x.1)&&(ke b (fP [] X.env)).all (λx=>x.1.isSome)&&decide ([e].length+([]:List eR).length+(if ([]:List eR).isEmpty then 0 else 1) < 30))=true:=by rfl)
  (h:(g.endLine == b.line)=true:=by rfl) (hs:av [e] X.env=(false,eval e X.env)::av [] X.env:=by rfl) (c:(di b (av [] X.env)).any (·.1)=false:=by rfl):
  SE X (.Call (.Attribute o "split" g) [e] [] b) (lU fa fb):=
 (Bf fZ PySem.F.slot_str_split PySem.F.type_str_split Yj ho (nJ ha qj hs) u C h hs c).of λσ H Q h_=>h_.el λρ l st lr sr p=>⟨ρ,l,st,lr,sr,p.bnd.imp λd G ρ1 H1 x1 s1 Y v rv=>by
  cases rv with
  |str x=>
   refine⟨rfl,ρ1,l,G,lr.mono x1,s1,(aW.bnd Y).imp λy E ρ2 H2 x2 s2 U w I=>?_⟩;cases I with
   |str y=>
    obtain⟨⟨hb,O,L⟩,p3⟩:=aW.chk U;refine⟨x,y,rfl,rfl,hb,O,L,λq J=>?_⟩;have nl:=s2.fresh J;have s3:SR X.K (ρ2++[q]) (eB H2 q (.lst ((gJ x y).map V.str))) (E++[.lst ((gJ x y).map D.str)]):=(s2.new J).keep iI nl (OS _);refine p3 _ _ (Ex.newL J) s3 _ (.ref ⟨_,iI,rfl⟩ ?_);rw[<- s2.len];simp
   |_=>exact U.elim
  |_=>exact Y.elim⟩
theorem Us{o e : Expr}{fa fb : CE}{h c : Pos}(ho : SE X o fa)(I : SE X e fb)(C : cY o "join" X.env (eval o X.env) = eval o X.env := by rfl)
  (E:((di c (av [e] X.env)).all (λx => !x.1)&&(ke c (fP [] X.env)).all (λx=>x.1.isSome)&&decide ([e].length+([]:List eR).length+(if ([]:List eR).isEmpty then 0 else 1) < 30))=true:=by rfl)
  (u:(h.endLine == c.line)=true:=by rfl) (hs:av [e] X.env=(false,eval e X.env)::av [] X.env:=by rfl) (g:(di c (av [] X.env)).any (·.1)=false:=by rfl):
  SE X (.Call (.Attribute o "join" h) [e] [] c) (lG fa fb):=
 (Bf fZ PySem.F.slot_str_join PySem.F.type_str_join Qgz ho (nJ I qj hs) C E u hs g).of λσ H Q h_=>h_.el λρ l st lr sr p=>⟨ρ,l,st,lr,sr,p.bnd.imp λd J ρ1 H1 x1 s1 Y v rv=>by
  cases rv with
  |str x=>
   refine⟨rfl,ρ1,l,J,lr.mono x1,s1,(aW.bnd Y).imp λy st2 ρ2 H2 x2 s2 U w L=>?_⟩;cases L with
   |@ref b m kk2 hb=>
    obtain⟨ds,e2,G⟩:=aW.getL (aW.bnd U) s2;obtain⟨a',vs,I,hv,r⟩:=s2.seq e2;rw[hb]at I;cases I;cases O:gX ds with
    |none=>rw[O]at G;exact G.elim
    |some ys=>
     rw[O]at G;obtain⟨hz,p4⟩:=aW.chk G;have ev:=Xq O r;subst ev;exact⟨x,b,ys,rfl,rfl,iW.of hv,hz,p4.ret s2 _ (.str _)⟩
   |_=>exact U.elim
  |_=>exact Y.elim⟩
end
abbrev CF:=Str->Loc->M D
noncomputable def signs(x:Str):List D:=x.cps.toList.map λc=>.str ⟨#[c]⟩
def wm(a:CE):CI:=λl=>bnd (a l) λx=>match x with
 | .str x=>chk (x.cps.all (· < 128)=true) (ret ⟨signs x,eQ⟩)
 |_=>bad
noncomputable def LS(x:Str):It where
 go:=λi _=>∃c,x.cps[i]?=some c
 yld:=λi H v b=>b=H/\∃c,x.cps[i]?=some c/\v=.str ⟨#[c]⟩
 stop:=λi _=>x.cps[i]?=none
theorem Yl{P:Program}{w:bw}{K:aj}{tg:Expr}(x:Str)(t:Tok)(l:af):ud P w K tg (LS x) [l] l (λi h=>h.IsStrIter l "str_ascii_iterator" x t i) where
 mem:=by simp
 obj:=λi h st b u=>by
  have e:b=l:=by simpa using u
  subst e;obtain⟨o,e,c,d⟩:=st;exact⟨o,e,λv z=>by rw[d]at z;cases z⟩
 keep:=λi h h' st k=>by obtain⟨o,e,r⟩:=st;exact⟨o,k l (by simp) o e,r⟩
 item:=by intro X O J Q hc i g s σ H E I G st L;subst O J Q;obtain⟨c,hx⟩:=L;obtain⟨f0,f1,f2,f3,Y,U⟩:=G l (by simp);refine wpAny_pyNext_ascii_item st hx λh' C sb=>?_;have I1:Inv X g σ H { s with heap:=h',toks:=s.toks+1 }:=I.turned (t':=s.toks+1) (λb o u e=>(sb.2 b u).trans e) f0 f1 f3 Y U;obtain⟨o,e,cl,d⟩:=id C;exact⟨_,rfl,HV (s:={ s with heap:=h',toks:=s.toks+1 }) e cl d (by decide) ⟨.str ⟨#[c]⟩,H,I1,⟨_,rfl⟩,⟨rfl,c,hx,rfl⟩,C,λb u=>(G b u).1⟩⟩
 done:=by intro X O J Q hc i g s σ H E I G st L;subst O J Q;obtain⟨f0,f1,f2,f3,Y,U⟩:=G l (by simp);exact wpAny_pyNext_ascii_end (I.ok.hd hc) st L λh' eb=>⟨rfl,I.turned (t':=s.toks) (λb o u e=>eb b o u e) f0 f1 f3 Y U⟩
 self:=λ_ _ _ _ _ st h=>wpAny_pyIter_striter_ascii st h
section
variable{X:Cx}{K:aj}{tg e:Expr}{fa:CE}{te:TE}
theorem Zk(E:PE X e te):PI X tg e (λσ H R=>te σ H λx u=>∃z,x=.str z/\z.cps.all (· < 128)=true/\R (LS z) u):=by
 intro c s σ H R I h;refine fE (E c s σ H _ I h) λv g y=>?_;obtain⟨x,u,l,C,z,rfl,hz,q⟩:=y;obtain⟨t,rfl⟩:=C;refine wpAny_pyIter_ascii hz ?_;refine⟨g.heap.objs.size,[g.heap.objs.size],_,_,u,rfl,l.kept (t':=g.toks) λb o e=>aw _ e,Yl z t _,⟨_,aR _ rfl,rfl,rfl⟩,λb G=>?_,q⟩;have J:b=g.heap.objs.size:=by simpa using G
 subst J;exact l.fpOk (az _) (l.hok.fresh (az _))
theorem Uk{ρ0:List af}{o:Hp}{x:Str}:Fs K ρ0 o ⟨signs x,eQ⟩ (LS x):=λρ H st y s _=>by
 refine⟨?_,λi d e=>?_⟩
 ·show x.cps[(signs x).length]?=none;unfold signs;simp
 ·unfold signs at e;rw[aG,mJ]at e;cases b:x.cps[i]? with
  |none=>rw[b]at e;cases e
  |some c=>
   rw[b]at e;cases e;refine⟨⟨c,b⟩,λv C z=>?_⟩;obtain⟨l,u,g,h⟩:=z;subst l;rw[b]at g;cases g;subst h;exact⟨Ex.refl,s,.str _⟩
theorem ZM(h:SE X e fa):SI X tg e (wm fa):=(Zk h).of λσ H R G=>G.el λρ l st E g p=>⟨ρ,l,st,E,g,p.bnd.imp λd c ρ1 J I o b v u=>by
 cases u with
 |str x=>
  obtain⟨hz,C⟩:=aW.chk b;exact⟨x,rfl,hz,C.ret o _ Uk⟩
 |_=>exact b.elim⟩
end
end MM
namespace MM
open PySem PySem.StrLaws Builtin.Str
structure Bi(y:Str)(m k:Nat):Prop where
 lt:k < y.length
 at_:y.cps.toList[k]?=some m
 un:∀j,y.cps.toList[j]?=some m->j=k
 kind:mr y<=1
theorem At.mark{x y:Str}{m k i:Nat}(h:Bi y m k)(a:At x y x.length i):x.cps.toList[i+k]?=some m:=by
 have e:=a.2;rw[subAt_eq,beq_iff_eq]at e;have b:((x.cps.toList.drop i).take y.length)[k]?=some m:=by rw[e];exact h.at_
 rw[eM h.lt,oF]at b;exact b
theorem Pb{l r:List Nat}{a t:Nat}(e:l.drop a=r):l[a+t]?=r[t]?:=by rw[<- e,oF]
theorem rM(p:Str):p.cps.toList.length=p.length:=by simp[so]
theorem Q1{x y:Str}{m k:Nat}(l:Bi y m k): ∀(ps:List Str)(a:Nat)(b:List Nat)(f:Nat),ps≠[]->(∀p∈ps,m∉p.cps.toList)->x.cps.toList.drop a=(f_ y ps).cps.toList->a<=x.length ->
  ChainG x y x.length a b f->(∀j,f<=j->¬ At x y x.length j)->partsFrom x y.length a b=ps
 |[],_,_,_,h,_,_,_,_,_=>bc rfl h
 |[p],a,b,f,_,hp,e,ha,hc,hf=>by
  have no:∀j,a<=j->¬ At x y x.length j:=λj H u=>by have g:=At.mark l u;rw[show j+k=a+(j-a+k) by ext,Pb e]at g;exact hp p (by simp) (aX g)
  cases b with
  |cons c r=>exact bc hc.2.1 (no c hc.1)
  |nil=>
   show [strSub x a x.length]=[p]
   congr 1;apply vP;apply pV.mp;rw[strSub_toList,e];have E:(x.cps.toList.drop a).length=p.cps.toList.length:=by rw[e];rfl
   rw[bE,rM]at E;exact eX (uM E.symm)
 |p::q::r,a,b,f,_,hp,e,ha,hc,hf=>by
  have I:(f_ y (p::q::r)).cps.toList=p.cps.toList++(y.cps.toList++(f_ y (q::r)).cps.toList):=by show (p++y++f_ y (q::r)).cps.toList=_;rw[gZ,gZ];simp
  rw[I]at e;have C:=rM p;have v:=rM y;have L:∀t,x.cps.toList[a+t]?=_:=λt=>Pb e;have G:x.length=a+p.length+y.length+(f_ y (q::r)).length:=by have:=bS cw e;rw[bE,aS,aS,rM,rM,rM,rM]at this;have:=l.lt;ext
  have o:At x y x.length (a+p.length):=by refine⟨by ext,?_⟩;rw[subAt_eq,beq_iff_eq,<- rP,e,<- C,li,<- v,lj]
  have no:∀j,a<=j->j < a+p.length->¬ At x y x.length j:=λj H O u=>by
   have g:=At.mark l u;rw[show j+k=a+(j-a+k) by ext,L]at g;by_cases Q:j-a+k < p.length
   ·rw[aJ (by ext)]at g;exact hp p (by simp) (aX g)
   ·have:=l.lt;rw[bo (by ext),aJ (by ext)]at g;have:=l.un _ g;ext
  cases b with
  |nil=>
   have:f=a:=hc;exact bc o (hf _ (by ext))
  |cons c cs=>
   have J:c=a+p.length:=by
    rcases pW c (a+p.length) with h|h|h
    ·exact bc hc.2.1 (no c hc.1 h)
    ·exact h
    ·exact bc o (hc.2.2.1 _ (by ext) h)
   subst J
   show strSub x a (a+p.length)::partsFrom x y.length (a+p.length+y.length) cs=_;congr 1
   ·apply vP;apply pV.mp;rw[strSub_toList,e,show a+p.length-a=p.cps.toList.length by ext,lj]
   ·refine Q1 l (q::r) _ cs f (by simp) (λz hz=>hp z (bb _ hz)) ?_ (by ext) hc.2.2.2 hf;rw[<- rP,<- rP,e,<- C,li,<- v,li]
theorem R9(x:Str):1<=mr x:=by
 unfold mr;split
 ·exact az _
 ·split<;>decide
theorem BQ{y:Str}{m k:Nat}(g:Bi y m k){ps:List Str}(h:ps≠[])(l:∀p∈ps,m∉p.cps.toList):gJ (sx y ps) y=ps:=by
 have E:sx y ps=f_ y ps:=glued_eq_join y ps;rw[E];generalize c:f_ y ps=x;have H:=R9 x;obtain⟨f,C,o⟩:=occ_tight x y (by have:=g.lt;ext);have b:=Q1 g ps 0 _ f h l (by rw[c];rfl) (bJ _) C o;unfold gJ;split
 ·rename_i v;rw[ky,decide_eq_true_eq,decide_eq_true_eq]at v;have G:x.length < y.length:=by have:=g.kind;ext
  match ps,h,c with
  |[p],_,c=>rw[<- c];rfl
  |p::q::r,_,c=>
   have:x.length=(p++y++f_ y (q::r)).length:=by rw[<- c];rfl
   rw[x_,x_]at this;ext
 ·split
  ·rename_i u;rw[List.isEmpty_iff.mp u]at b;have:[strSub x 0 x.length]=ps:=b;rw[sub_whole]at this;exact this
  ·rw[partsBetween_eq];exact b
end MM
namespace MM
noncomputable def sv(m:Nat):List Nat:=(dI 4).filter λi=>m.testBit i
open PySem PySem.W PyProof.Rows L2
def tb(b:Bool)(m:Nat):SetTable:=⟨7,(sv m).toArray,#[],0,b,0,true⟩
end MM
namespace MM
open PySem
def tJ(x f:Str):D->M D
 | .exn y [.str g,d]=>chk (y=x/\g=f) (ret d)
 |_=>bad
def qr(xs:List Str)(b:Str->Bool):D->M D
 | .exn x _=>chk (x∈xs) (ret (.bl (b x)))
 |_=>bad
open PyProof.Rows
noncomputable def n_(h:bu)(C N:af)(bm:List ac)(l:Str->Option ac):Prop:=
 (∃g q bs c sub I b H G E v u o,h.get? C=some (fo g q C N bs bm true c sub I b H G E v u o "ValueError.__new__"))/\h.Ns N l
noncomputable def fJ:List ac:=[.type "ValueError",.type "Exception",.type "BaseException",.type "object"]
structure tV(h:bu)(C N P NP:af)(mN mP:Str->Option ac):Prop where
 c:n_ h C N (.ref P::fJ) mN
 p:n_ h P NP fJ mP
section
variable{prog:Program}{w:bw}{A:br}{E:ac->ae->Prop}{s:ae}{C N P NP e:af}{mN mP:Str->Option ac}{bm:List ac}{name:Str}
theorem CY{h:bu}{a:af}(z:h.objs.size<=a):h.get? a=none:=by
 cases e:h.get? a with
 |none=>rfl
 |some o=>exact bc (bp (aL e) z) (cP _)
theorem Ie{Q:Option ac->ae->Prop}(x:n_ s.heap C N bm mN)(q:Q (mN name) s):aD (aK prog w) A (uQ (.ref C) name) Q E s:=by obtain⟨⟨o,l,bs,c,sub,O,b,L,I,H,G,v,u,g⟩,ns⟩:=x;obtain⟨h,J,d,t,os⟩:=s;exact wpAny_classOwn_exc g ns q
theorem Hf{Q:List ac->ae->Prop}(x:n_ s.heap C N bm mN)(q:Q (.ref C::bm) s):aD (aK prog w) A (mroOf (.ref C)) Q E s:=by obtain⟨⟨o,l,bs,c,sub,O,b,L,I,H,G,v,u,g⟩,ns⟩:=x;obtain⟨h,J,d,t,os⟩:=s;exact wpAny_mroOf_exc g q
theorem B1{base:ac}{Q:Bool->ae->Prop}(x:n_ s.heap C N bm mN)(q:Q ((ax C::bm).contains base) s):aD (aK prog w) A (isSubtype (.ref C) base) Q E s:=by obtain⟨⟨o,l,bs,c,sub,O,b,L,I,H,G,v,u,g⟩,ns⟩:=x;obtain⟨h,J,d,t,os⟩:=s;exact gq g q
theorem XE{v:ac}{Q:Option ac->ae->Prop}(x:n_ s.heap C N bm mN)(b:mN name=some v)(q:Q (some v) s):aD (aK prog w) A (cW (.ref C) name) Q E s:=by unfold cW;refine aa (Hf x ?_);rw[df];refine aa (aa (aa (Ie x ?_)));rw[b];dsimp only;refine ah (ah (ah q))
theorem Wx{name:Str}{f:ac->Option (Option ac)×Unit->Sem (ForInStep (Option (Option ac)×Unit))}(l:∀n v b,qL n name=some v->f (.type n) b=pure (.done (some (some v),())))(g:∀n b,qL n name=none->f (.type n) b=pure (.yield (none,()))):∃z:Option (Option ac)×Unit,forIn fJ (none,()) f=(pure z:Sem _):=by
 have st:∀(n:String)(dB:List ac),(∃z,forIn dB (none,()) f=(pure z:Sem _))->∃z,forIn (fK n::dB) (none,()) f=(pure z:Sem _):=λn dB h=>by
  obtain⟨z,hz⟩:=h;rw[df];cases c:qL n name with
  |some v=>exact⟨(some (some v),()),by rw[l n v _ c];rfl⟩
  |none=>
   refine⟨z,?_⟩;rw[<- hz,g n _ c];rfl
 unfold fJ;exact st _ _ (st _ _ (st _ _ (st _ _ ⟨_,rfl⟩)))
theorem C2{y:Option ac}{Q:Option ac->ae->Prop}(x:tV s.heap C N P NP mN mP)(u:mN name=none)(o:mP name=none)(g:cW (.type "ValueError") name=pure y)(q:Q y s):aD (aK prog w) A (cW (.ref C) name) Q E s:=by
 have l:mroOf (.type "ValueError")=pure fJ:=oz.mroIs;unfold cW at g ⊢;rw[l]at g;refine aa (Hf x.c ?_);rw[df];refine aa (aa (aa (Ie x.c ?_)));rw[u];dsimp only;refine ah ?_;dsimp only;rw[df];refine aa (aa (Ie x.p ?_));rw[o];dsimp only;refine ah ?_;dsimp only;obtain ⟨z, hz⟩ := Wx (name := name) (f := λc __s => (do
   let __do_lift <- uQ c name
   cW.match_1 (motive:=λ_=>Sem (ForInStep (Option (Option ac)×Unit))) __do_lift (λv=>pure (ForInStep.done (some (some v),()))) (λx=>pure (i9 (none,()))))) (λn v b h=>by show (pure (qL n name) >>= _)=_;rw[h];rfl) (λn b h=>by show (pure (qL n name) >>= _)=_;rw[h];rfl)
 rw[hz];refine ah ?_
 change ((forIn fJ (none,()) _:Sem (Option (Option ac)×Unit)) >>= _)=_ at g
 rw[hz]at g;exact (bS (λm=>aD (aK prog w) A m Q E s) g).mpr (ah q)
theorem tY{o:Obj}{Q:ac->ae->Prop}(g:s.heap.get? e=some o)(b:o.cls=.ref C)(q:Q (.ref C) s):aD (aK prog w) A (typeOf (.ref e)) Q E s:=iD g (by rw[b];exact q)
theorem n_.keep{h h':bu}(x:n_ h C N bm mN)(k:∀b o,h.get? b=some o->h'.get? b=some o):n_ h' C N bm mN:=by obtain⟨⟨v,u,bs,l,sub,Y,c,U,L,J,I,H,G,g⟩,o,O,Q,g2,r⟩:=x;exact⟨⟨v,u,bs,l,sub,Y,c,U,L,J,I,H,G,k _ _ g⟩,o,O,Q,k _ _ g2,r⟩
theorem tV.keep{h h':bu}(x:tV h C N P NP mN mP)(k:∀b o,h.get? b=some o->h'.get? b=some o):tV h' C N P NP mN mP:=⟨x.c.keep k,x.p.keep k⟩
theorem QK{dB:List ac}{G:af}{J:Obj}{Q:xy->ae->Prop}(x:tV s.heap C N P NP mN mP)(u:mP (ag "__init__")=none)(hi:mN (ag "__init__")=some (.ref G))(gI:s.heap.get? G=some J)(cI:J.cls=.type "function")
  (run:∀h' e,s.heap.objs.size<=e->s.heap.MadeExcOf h' e (.ref C) dB->aD (aK prog w) A (call (.ref G) (.ref e::dB)) (λr s'=>r=.none/\Q (.done (.ret (.ref e))) s') E { s with heap:=h' }) (hl:dB.length<=sizeLine):
  aD (aK prog w) A (Builtin.«type.__call__» { pos:=.ref C::dB }) Q E s:=by
 unfold Builtin.«type.__call__»;dsimp only;rw[aA (show ¬ ((ax C == fK "type")=true) from bx)];refine aa (Hf x.c ?_);rw[aA (by simp)];refine aa ?_;obtain⟨⟨Y,U,bs,L,sub,ab,H,dd,k0,k1,k2,k3,k5,g⟩,ns⟩:=id x.c;have c:OwnTail s.heap fJ (.ref P::fJ):=by obtain⟨⟨Y,U,bs,L,sub,ab,H,dd,k0,k1,k2,k3,k5,g⟩,ns⟩:=id x.p;exact .own g ns u .base
 refine wpAny_madeBy_exc (h:=s.heap) g ?_;dsimp only;refine aa (ah (aa (cB (io (vc (oG _ (by nofun)) (wpAny_check_new_subU (h:=s.heap) oz rfl c g ?_))))));refine codeAny_exc_new_subU (h:=s.heap) oz rfl oz c g ?_ hl;have k:∀b o,s.heap.get? b=some o->((s.heap.push { cls:=.type "tuple",data:=.seq dB.toArray }).push { cls:=.ref C,data:=.fields #[.ref s.heap.objs.size,.none,.none,.none,.bool false,.none] }).get? b=some o:=λb o z=>aw _ (aw _ z);have sz:(s.heap.push { cls:=.type "tuple",data:=.seq dB.toArray }).objs.size=s.heap.objs.size+1:=by simp[bu.push]
 have v:((s.heap.push { cls:=.type "tuple",data:=.seq dB.toArray }).push { cls:=.ref C,data:=.fields #[.ref s.heap.objs.size,.none,.none,.none,.bool false,.none] }).get? (s.heap.objs.size+1)=some { cls:=.ref C,data:=.fields #[.ref s.heap.objs.size,.none,.none,.none,.bool false,.none] }:=by have:=aR (s.heap.push { cls:=.type "tuple",data:=.seq dB.toArray }) (o:={ cls:=.ref C,data:=.fields #[.ref s.heap.objs.size,.none,.none,.none,.bool false,.none] }) rfl;rw[sz]at this;exact this
 have md:s.heap.MadeExcOf ((s.heap.push { cls:=.type "tuple",data:=.seq dB.toArray }).push { cls:=.ref C,data:=.fields #[.ref s.heap.objs.size,.none,.none,.none,.bool false,.none] }) (s.heap.objs.size+1) (.ref C) dB:=
  ⟨k,CY (Ia _),s.heap.objs.size,v,CY (az _),aw _ (aR _ rfl)⟩
 have O:=run _ _ (Ia _) md;have I:=x.keep k;generalize (s.heap.push { cls:=.type "tuple",data:=.seq dB.toArray }).push { cls:=.ref C,data:=.fields #[.ref s.heap.objs.size,.none,.none,.none,.bool false,.none] }=l at *;dsimp only;unfold kI;refine aa (aa (tY (s:={ s with heap:=l }) v rfl (B1 (s:={ s with heap:=l }) I.c ?_)));rw[aA (by simp)];refine aa (cB ?_);unfold xt sy;refine aa (aa (tY (s:={ s with heap:=l }) v rfl (XE (s:={ s with heap:=l }) I.c hi ?_)));dsimp only;refine cB (aa (wpAny_bindSpecial_def (s:={ s with heap:=l }) (k _ _ gI) cI ?_));dsimp only;refine aa (cc O (λr s' hr=>?_) λ_ _ z=>z);obtain⟨er,hq⟩:=hr;subst er;refine ah ?_;dsimp only;rw[aA (by decide)];exact ah hq
theorem NE{dB:List ac}{Q:ac->ae->Prop}(x:n_ s.heap C N bm mN)
  (h:aD (aK prog w) (A.under (Code.builtin "type.__call__" { pos:=.ref C::dB })) (Builtin.«type.__call__» { pos:=.ref C::dB }) (λb s'=>∃v,b=.done (.ret v)/\Q v s') E s):aD (aK prog w) A (call (.ref C) dB) Q E s:=by
 obtain⟨⟨H,G,bs,u,sub,ab,o,Y,U,O,L,J,I,g⟩,ns⟩:=id x;refine io (codeAny_of_tree ?_)
 show aD _ _ (callAny (.ref C) _) _ _ s;unfold callAny;dsimp only;refine aa (qD g ?_);dsimp only;unfold callAny.viaDunder sy;refine aa (aa (iD g ?_));dsimp only;rw[F.lookup_type_call];refine ah ?_;dsimp only;rw[F.bind_type_call];refine aa (ah ?_);dsimp only;unfold callAny.plainCallee;refine aa (ah ?_);rw[aE (by decide)];refine ah ⟨?_,vc (oG _ (by nofun)) (wpAny_check_type_call_sub (h:=s.heap) g (tP entry_typeCall ?_))⟩
 ·first|rfl|decide|simp[Code.quiet,Thread.loud]
 ·refine cc h (λb s' z=>?_) λ_ _ z=>z;obtain⟨v,l,c⟩:=z;subst l;exact c
end
theorem Zl:cW (.type "ValueError") (ag "__setattr__")=pure (some (.builtin "object.__setattr__")):=by rfl
theorem U4(self:ac):bindSpecial (.builtin "object.__setattr__") self=pure (.builtin "object.__setattr__",[self]):=by rfl
section
variable{prog:Program}{w:bw}{A:br}{E:ac->ae->Prop}{s:ae}{C N P NP e:af}{mN mP:Str->Option ac}{name:Str}
theorem XU(x:tV s.heap C N P NP mN mP){o:Obj}(g:s.heap.get? e=some o)(l:o.cls=.ref C){Q:Unit->ae->Prop}(q:Q () s):aD (aK prog w) A (kT (.ref e) (ag "__setattr__")) Q E s:=by
 unfold kT;refine aa (tY g l (aa (Hf x.c ?_)));rw[df];refine aa (aa (ah ?_));dsimp only;rw[df];refine aa (ah ?_);dsimp only;unfold fJ;have h:uQ (.type "ValueError") (ag "__setattr__")=pure none:=by rfl
 have c:uQ (.type "Exception") (ag "__setattr__")=pure none:=by rfl
 have b:uQ (.type "BaseException") (ag "__setattr__")=pure none:=by rfl
 rw[df];dsimp only;rw[aA (by decide),aA (by decide),h];refine aa (aa (ah ?_));rw[aA (by decide)];refine ah ?_;dsimp only;rw[df];dsimp only;rw[aA (by decide),aA (by decide),c];refine aa (aa (ah ?_));rw[aA (by decide)];refine ah ?_;dsimp only;rw[df];dsimp only;rw[aA (by decide),aA (by decide),b];refine aa (aa (ah ?_));rw[aA (by decide)];refine ah ?_;dsimp only;rw[df];dsimp only;rw[aA (by decide),aA (by decide),F.own_object_setattr];refine aa (aa (ah ?_));rw[aE (show (some (gF "object.__setattr__")).isSome=true from rfl),aA (by nofun)];refine ah (ah ?_);exact ah q
theorem Va{v:ac}{l:Array ac}{u:Array (Option ac)}{Q:Unit->ae->Prop}(x:tV s.heap C N P NP mN mP)(g:s.heap.get? e=some ⟨.ref C,none,.fields l,u⟩)
  (a1:mN (ag "__setattr__")=none) (a2:mP (ag "__setattr__")=none) (b1:mN name=none) (b2:mP name=none) (U:cW (.type "ValueError") name=pure none)
  (q:∀h' G L,s.heap.get? G=none->h'.get? e=some ⟨.ref C,some G,.fields l,u⟩->(h'.Ns1 G λy=>if y=name then some v else none)->(∀b o,b≠e->s.heap.get? b=some o->h'.get? b=some o)->Q () { s with heap:=h',toks:=L }):
  aD (aK prog w) A (setAttr (.ref e) name v) Q E s:=by
 unfold setAttr;refine aa (xz ?_);refine aa ?_;unfold xt sy;refine aa (aa (tY (s:={ s with toks:=s.toks+1 }) g rfl (C2 (s:={ s with toks:=s.toks+1 }) x a1 a2 Zl ?_)));dsimp only;refine cB ?_;rw[U4];refine aa (ah ?_);dsimp only;refine aa (io (o6 (by nofun) F.entry_object_setattr ?_));unfold checkBuiltinCall;rw[F.bk_object_setattr,F.sp_object_setattr];dsimp only;unfold kI;refine aa (aa (tY (s:={ s with toks:=s.toks+1 }) g rfl (B1 (s:={ s with toks:=s.toks+1 }) x.c ?_)));rw[aA (by simp[fJ])];have J:=F.args_object_setattr_3 (.ref e) (.str name s.toks) v;unfold argsOk at J;refine wpAny_of_eq J ?_;unfold Builtin.«object.__setattr__»;rw[aA (show ¬ ((!({ pos:=[ax e]++[iF name s.toks,v] }:Args).kw.isEmpty)=true) from bx)];dsimp only;refine aa (XU (s:={ s with toks:=s.toks+1 }) x g rfl ?_);refine aa (ah ?_);refine aa (tY (s:={ s with toks:=s.toks+1 }) g rfl (aa (C2 (s:={ s with toks:=s.toks+1 }) x b1 b2 U (aa (ah ?_)))));dsimp only;unfold Builtin.ObjectAttr.storeInOwnDict;refine aa (ah ?_);rw[aA (show ¬ ((ax C == fK "module")=true) from bx)];refine aa ?_;unfold Builtin.ObjectAttr.ownDictForStores instanceDict;dsimp only;obtain⟨⟨nm,q1,bs,sn,sub,ab,col,dd,k0,k1,k2,k3,k5,gC⟩,ns⟩:=id x.c;refine aa (ir (s:={ s with toks:=s.toks+1 }) g ?_);dsimp only;unfold classData;refine aa (aa (qD (s:={ s with toks:=s.toks+1 }) gC (ah ?_)));rw[aA (by simp)];rw[aA (by simp[typeHasDict])];have c:∀b o,s.heap.get? b=some o->(s.heap.push { cls:=.type "dict",data:=.dict #[] }).get? b=some o:=λb o z=>aw _ z;refine aa (wpAny_alloc (aa (wpAny_update (s:={ s with heap:=s.heap.push { cls:=.type "dict",data:=.dict #[] },toks:=s.toks+1 }) (c _ _ g) ?_)));refine ah ?_;dsimp only;have gd:(s.heap.push { cls:=.type "dict",data:=.dict #[] }).get? s.heap.objs.size=some { cls:=.type "dict",data:=.dict #[] }:=aR _ rfl;have ne:s.heap.objs.size≠e:=λz=>by have:=aL g;rw[z]at this;exact cP _ this
 have ge:((s.heap.push { cls:=.type "dict",data:=.dict #[] }).update e λo=>{ cls:=o.cls,dict:=some s.heap.objs.size,data:=o.data,slots:=o.slots }).get? e=some ⟨.ref C,some s.heap.objs.size,.fields l,u⟩:=bK _ (c _ _ g) rfl;have H:=dQ (s.heap.push { cls:=.type "dict",data:=.dict #[] }) e λo=>{ cls:=o.cls,dict:=some s.heap.objs.size,data:=o.data,slots:=o.slots }
 generalize (s.heap.push { cls:=.type "dict",data:=.dict #[] }).update e (λo=>{ cls:=o.cls,dict:=some s.heap.objs.size,data:=o.data,slots:=o.slots })=h1 at *;have O:h1.Ns1 s.heap.objs.size λ_=>none:=by
  have z:h1.get? s.heap.objs.size=some { cls:=.type "dict",data:=.dict #[] }:=by rw[H.2 _ ne];exact gd
  exact bu.Ns1.of_empty ⟨_,_,_,z,rfl,by intro e Y;simp at Y,λ_=>rfl⟩
 unfold Builtin.ObjectAttr.storeInDict;refine aa (ah ?_);refine aa (wpAny_nsSet1 (s:={ s with heap:=h1,toks:=s.toks+1 }) O λI n2 h=>?_);obtain⟨o2,es2,ep2,g2,d2,hz⟩:=n2.count (Within.cons name v Within.nil);refine aa (wpAny_lookBehind (s:={ s with heap:=I,toks:=s.toks+1+1 }) g2 (by rw[d2];exact pastItsLine_dict (bv hz (show 1<=sizeLine+1 by decide))) ?_);refine ah (ah (ah ?_));refine q I s.heap.objs.size _ (CY (az _)) (by rw[h.2 _ (dP ne)];exact ge) n2 λb o hb z=>?_;rw[h.2 b (λy=>by rw[y,CY (az _)]at z;cases z),H.2 b hb];exact c _ _ z
end
theorem Ul:cW (.type "ValueError") (ag "__getattribute__")=pure (some (.builtin "BaseException.__getattribute__")):=by rfl
theorem Wg:cW (.type "ValueError") (ag "__getattr__")=pure none:=by rfl
theorem X_(self:ac):bindSpecial (.builtin "BaseException.__getattribute__") self=pure (.builtin "BaseException.__getattribute__",[self]):=by rfl
theorem ZU:entryFor table "BaseException.__getattribute__"=some Builtin.«object.__getattribute__»:=entryFor_alias (id':="object.__getattribute__") (by rfl) (by nofun) (by nofun) (by rfl)
theorem U5:plainId "BaseException.__getattribute__"=true:=by nofun
structure Dl(mN mP:Str->Option ac)(name:Str):Prop where
 c:mN name=none
 p:mP name=none
structure pf(mN mP:Str->Option ac):Prop where
 ga:Dl mN mP (ag "__getattribute__")
 gh:Dl mN mP (ag "__getattr__")
 sa:Dl mN mP (ag "__setattr__")
 cl:Dl mN mP (ag "__class__")
 qt:∀n∈quietNames,mP n=none
section
variable{prog:Program}{w:bw}{A:br}{E:ac->ae->Prop}{s:ae}{C N P NP e:af}{mN mP:Str->Option ac}{name:Str}
theorem Oe{b:ac}{fill c:Bool}{o:Obj}{Q:ac->ae->Prop}(x:tV s.heap C N P NP mN mP)(u:pf mN mP)(g:s.heap.get? e=some o)(J:o.cls=.ref C)
  (h:aD (aK prog w) A.in1 (Builtin.«object.__getattribute__» { pos:=[.ref e,b] }) (λG s'=>∃v,G=.done (.ret v)/\(∀id,v≠.builtin id)/\Q v s') (λ_ _=>False) s):aD (aK prog w) A (getAttrBy (.ref e) b fill c) Q E s:=by
 unfold getAttrBy;refine cB (aa (tY g J (aa (C2 x u.ga.c u.ga.p Ul ?_))));dsimp only;have U:¬ ((onTheHeap (ax C)&&(gF "BaseException.__getattribute__" == gF "object.__getattribute__"))=true):=(show ¬ ((true&&(gF "BaseException.__getattribute__" == gF "object.__getattribute__"))=true) by decide)
 rw[aA U];unfold getAttrByItsOwn hookBefore;rw[aE (show onTheHeap (.ref C)=true from rfl)];refine aa (C2 x u.gh.c u.gh.p Wg ?_);refine aa (mL (cB ?_));unfold callGetattribute;rw[aA (by cases c<;>exact bx)];unfold boundAndCalled;rw[X_];refine aa (ah ?_);dsimp only;obtain⟨⟨Y,O,bs,L,sub,ab,I,dd,k0,k1,k2,k3,k5,gC⟩,ns⟩:=id x.c;have l:OwnTailQ s.heap fJ (.ref P::fJ):=by obtain⟨⟨Y,O,bs,L,sub,ab,I,dd,k0,k1,k2,k3,k5,gP⟩,H⟩:=id x.p;exact .own gP H u.qt .base
 refine io (o6 U5 ZU (wpAny_check_ga_own (h:=s.heap) F.attrBase_ValueError gC l g J ?_));refine cc h (λG s' z=>?_) λ_ _ z=>z.elim;obtain⟨v,e1,nb,hq⟩:=z;subst e1;dsimp only;unfold handedOut;cases v with
 |builtin id=>exact bc rfl (nb id)
 |_=>exact ah hq
theorem We{v:ac}{h:af}{l:Array ac}{u:Array (Option ac)}{c:Str->Option ac}{b:Bool}{Q:ac->ae->Prop}(x:tV s.heap C N P NP mN mP)(G:pf mN mP)(g:s.heap.get? e=some ⟨.ref C,some h,.fields l,u⟩)(L:s.heap.Ns h c)(J:c name=some v)(H:∀id,v≠.builtin id)
  (no:Dl mN mP name) (I:cW (.type "ValueError") name=pure none) (q:∀o,Q v { s with toks:=o }):aD (aK prog w) A (getAttr (.ref e) name b) Q E s:=by
 unfold getAttr;refine aa (xz (Oe (s:={ s with toks:=s.toks+1 }) x G g rfl ?_));unfold Builtin.«object.__getattribute__»;refine aa ?_
 show aD _ _ (pure (ax e,[iF name s.toks])) _ _ _;refine ah ?_;dsimp only;refine aa (ah (aa (tY (s:={ s with toks:=s.toks+1 }) g rfl (aa ?_))));unfold nD;refine aa (C2 (s:={ s with toks:=s.toks+1 }) x no.c no.p I (aa (ah (aa (ah ?_)))));dsimp only;unfold Builtin.ObjectAttr.ownThenClass Builtin.ObjectAttr.inOwnDict;dsimp only;unfold Builtin.ObjectAttr.ownDict;obtain⟨⟨nm,q1,bs,Y,sub,ab,U,dd,k0,k1,k2,k3,k5,O⟩,ns⟩:=id x.c;unfold Ae;refine aa (aa (aa (ir (s:={ s with toks:=s.toks+1 }) g ?_)));dsimp only;unfold instanceDict;refine aa (ir (s:={ s with toks:=s.toks+1 }) g ?_);dsimp only;unfold classData;refine aa (aa (qD (s:={ s with toks:=s.toks+1 }) O (ah ?_)));rw[aA (by simp)];refine ah ?_;unfold Builtin.ObjectAttr.inDict;dsimp only;refine wpAny_nsGet (s:={ s with toks:=s.toks+1 }) L ?_;rw[J];dsimp only;refine aa (e8 (ah ?_));exact ah ⟨v,rfl,H,q _⟩
theorem TV:cW (.type "ValueError") (ag "__class__")=pure (some (.builtin "object.__class__")):=by rfl
theorem Om:cW (.type "getset_descriptor") (ag "__get__")=pure (some (.builtin "getset_descriptor.__get__")):=by rfl
theorem RN:entryFor table "getset_descriptor.__get__"=some Builtin.«getset_descriptor.__get__»:=GB (by rfl)
theorem Q4:Slot "getset_descriptor" (ag "__get__") "getset_descriptor.__get__":=Slot.of (owner:="getset_descriptor") (n:="__get__") Om (by nofun) (by nofun) (by nofun) (Or.inl (by nofun)) (by rw[isSubtype_type];rfl) (by nofun)
theorem ZI(a b c:ac):argsOk "getset_descriptor.__get__" { pos:=[a,b,c] }:=by rfl
theorem Wu:∃n,Builtin.Getset_descriptor.descrNameAndClass (.builtin "object.__class__")=pure (n,.type "object"):=⟨_,rfl⟩
theorem Qhe:cW (.type "getset_descriptor") (ag "__set__")=pure (some (.builtin "getset_descriptor.__set__")):=by rfl
theorem Ox{o:Obj}{Q:Option ac->ae->Prop}(x:tV s.heap C N P NP mN mP)(c:pf mN mP)(g:s.heap.get? e=some o)(b:o.cls=.ref C)(q:∀h,Q (some (.ref C)) { s with toks:=h }):aD (aK prog w) A (getAttr? (.ref e) (ag "__class__")) Q E s:=by
 unfold getAttr? getAttrBy?;refine aa (xz (aa (mL (Oe (s:={ s with toks:=s.toks+1 }) x c g b ?_))));unfold Builtin.«object.__getattribute__»;refine aa ?_
 show aD _ _ (pure (ax e,[iF (ag "__class__") s.toks])) _ _ _;refine ah ?_;dsimp only;refine aa (ah (aa (tY (s:={ s with toks:=s.toks+1 }) g b (aa ?_))));unfold nD;refine aa (C2 (s:={ s with toks:=s.toks+1 }) x c.cl.c c.cl.p TV (aa ?_));unfold Builtin.ObjectAttr.getOf;dsimp only;unfold sy;rw[nF];refine aa (ah ?_);rw[Om];refine ah (aa ?_);unfold Builtin.ObjectAttr.dataDescriptor?;dsimp only;refine aa ?_;unfold Builtin.ObjectAttr.takesStores sy;rw[nF];refine aa (aa (ah ?_));rw[Qhe];refine ah ?_;rw[aE (show (some (gF "getset_descriptor.__set__")).isSome=true from rfl)];refine ah ?_;rw[aE rfl];refine ah ?_;dsimp only;refine aa (e8 (ah ?_));dsimp only;unfold Builtin.ObjectAttr.bindTo;dsimp only;refine aa (cB (io (o6 Q4.plain RN (Q4.check _ _ _ _ _ _ _ _ nF (ZI _ _ _) ?_))));unfold Builtin.«getset_descriptor.__get__» Builtin.Getset_descriptor.descrGet;refine aa ?_
 show aD _ _ (pure (gF "object.__class__",some (ax e),some (ax C))) _ _ _;refine ah ?_;dsimp only;unfold Builtin.Getset_descriptor.descrGetter;dsimp only;refine aa ?_;unfold Builtin.Getset_descriptor.descrCheckInstance;obtain⟨n,l⟩:=Wu;rw[l];refine aa (ah ?_);dsimp only;unfold kI;refine aa (aa (tY (s:={ s with toks:=s.toks+1 }) g b (B1 (s:={ s with toks:=s.toks+1 }) x.c ?_)));rw[aA (by simp[fJ])];refine ah (ah ⟨oG _ (by nofun),tP F.entry_object_class ?_⟩);unfold Builtin.«object.__class__»;dsimp only;unfold shownTypeOf;refine aa (aa (tY (s:={ s with toks:=s.toks+1 }) g b ?_));rw[aA (show ¬ ((ax C == fK "builtin_function_or_method")=true) from bx)];refine ah (ah (ah ⟨_,rfl,aB (λid z=>by cases z) (ah (q _))⟩))
theorem Rc{o:Obj}{T:ac}{Q:ac->ae->Prop}(x:tV s.heap C N P NP mN mP)(u:pf mN mP)(g:s.heap.get? e=some o)(l:o.cls=.ref C)
  (G:∀(A:br)(E:ac->ae->Prop)(R:ac->ae->Prop)b,R (.type "type") { s with toks:=b }->aD (aK prog w) A (typeOf T) R E { s with toks:=b })
  (v:∀(A:br)(E:ac->ae->Prop)(R:Bool->ae->Prop)b,R true { s with toks:=b }->aD (aK prog w) A (xA T) R E { s with toks:=b })
  (q:∀b,Q (.bool ((ax C::ax P::fJ).contains T)) { s with toks:=b }):aD (aK prog w) A (call (.builtin "isinstance") [.ref e,T]) Q E s:=by
 refine CD ?_ (λz=>(by cases z));unfold Builtin.«isinstance.nested»;dsimp only[gx];refine aa (tY g l ?_);by_cases h:(ax C == T)=true
 ·rw[aE h];refine aa (e8 (ah ?_));have I:(ax C::ax P::fJ).contains T=true:=by
   rw[c_];have:(T == ax C)=true:=by rw[beq_iff_eq]at h ⊢;exact h.symm
   rw[this];rfl
  have:=q s.toks;rw[I]at this;exact this
 ·rw[aA h];refine aa (G _ _ _ s.toks ?_);rw[aE (by decide)];refine aa ?_
  show aD _ _ (xA T >>= _) _ _ _;refine aa (v _ _ _ s.toks ?_);rw[aA (by decide)];unfold kI;refine aa (aa (tY g l (B1 x.c ?_)));by_cases c:(ax C::ax P::fJ).contains T=true
  ·rw[aE c];refine ah (ah ?_);have:=q s.toks;rw[c]at this;exact this
  ·rw[aA c];refine aa (Ox x u g l λb=>?_);dsimp only;obtain⟨⟨U,O,bs,L,sub,G,J,v,Q,I,E,o,Y,H⟩,ns⟩:=id x.c;unfold xA;dsimp only;unfold Ae;refine aa (aa (ir (s:={ s with toks:=b }) H (ah ?_)));rw[aA (by simp)];refine aa (e8 (B1 (s:={ s with toks:=b }) x.c ?_));have h:(ax C::ax P::fJ).contains T=false:=by simpa using c
   refine ah ?_;exact q b
end
open PySem.W L2
noncomputable abbrev FF(o:Obj):Prop:=∃b,o.data=.fields b/\b[1]?=some bF/\b[2]?=some bF/\4 < b.size
noncomputable def kQ(e C:af)(h:bu):Prop:=∃b c,h.get? e=some ⟨.ref C,none,.fields b,c⟩/\b[1]?=some bF/\b[2]?=some bF/\4 < b.size
noncomputable def sU(K:Frag)(N:af):Prop:=∃c d b h g,K.lookup N=some ⟨c,d,.dict b h,g⟩/\StrKeys b
structure XF(K:Frag)(x f:Str)(C N P NP:af):Prop where
 gl:nsIn K bN x=some (some (.ref C))
 ob:∃q bs sn sub ab col dd k0 k1 k2 k3 k5,K.lookup C=some (fo x q C N bs (.ref P::fJ) true sn sub ab col dd k0 k1 k2 k3 k5 "ValueError.__new__")
 obP:∃q bs sn sub ab col dd k0 k1 k2 k3 k5,K.lookup P=some (fo "PactError" q P NP bs fJ true sn sub ab col dd k0 k1 k2 k3 k5 "ValueError.__new__")
 glP:nsIn K bN "PactError"=some (some (.ref P))
 sN:sU K N
 sP:sU K NP
 nn:∀n∈([ag "__getattribute__",ag "__getattr__",ag "__setattr__",ag "__class__",f]:List Str),nsIn K N n=some none
 np:∀n∈([ag "__getattribute__",ag "__getattr__",ag "__setattr__",ag "__class__",f,ag "__init__",ag "args"]:List Str),nsIn K NP n=some none
 kp:keepIn K (.ref C)=true
theorem XF.nofn{K:Frag}{x f:Str}{C N P u a:af}{F:Prop}(z:XF K x f C N P u)(g:nsIn K bN x=some (some (.ref a)))(h:∃o c,K.lookup a=some o/\o.data=.func c):F:=by
 have:=g.symm.trans z.gl;injection this with t;injection t with t;injection t with t
 subst t;obtain⟨o,c,l,e⟩:=h;obtain⟨_,_,_,_,_,_,_,_,_,_,_,_,b⟩:=z.ob;rw[l]at b;cases b;cases e
section
variable{K:Frag}{x f:Str}{C N P NP:af}{h:bu}
theorem sU.ns(z:sU K N)(k:K.In h):∃m,h.Ns N m:=by obtain⟨c,d,b,o,u,l,g⟩:=z;exact⟨nsFind b,_,b,o,k _ _ l,rfl,g,λ_=>rfl⟩
theorem Q3{m:Str->Option ac}{n:Str}{v:ac}(k:K.In h)(ns:h.Ns N m)(e:nsIn K N n=some (some v)):m n=some v:=by
 obtain⟨o,l,J,g,d,E,u⟩:=ns;unfold nsIn at e;cases b:u_ N K with
 |none=>rw[b]at e;cases e
 |some o'=>
  have g':=k _ _ b;rw[g]at g';cases g';rw[b]at e;obtain⟨I,H,G,os⟩:=o;cases d;dsimp only at e;cases c:Ib (λx=>x.key.isStr n) l.toList with
  |none=>
   rw[c]at e;dsimp only at e;split at e<;>cases e
  |some en=>
   rw[c]at e;cases e;rw[<- u n];unfold nsFind findBy;rw[<- vH]
   show Option.map (λx=>x.val) (Ib (λx=>x.key.isStr n) l.toList)=_;rw[c];rfl
theorem XF.ch(F:XF K x f C N P NP)(k:K.In h):∃g c,tV h C N P NP g c/\pf g c/\Dl g c f/\h.Ns N g/\c (ag "__init__")=none:=by
 obtain⟨g,Q⟩:=F.sN.ns k;obtain⟨c,hP⟩:=F.sP.ns k;obtain⟨q1,bs,sn,sub,ab,Y,dd,k0,k1,k2,k3,k5,l⟩:=F.ob;obtain⟨G,bs',E,u,ab',v,U,O,L,J,I,H,l'⟩:=F.obP;have a:∀n∈([ag "__getattribute__",ag "__getattr__",ag "__setattr__",ag "__class__",f]:List Str),g n=none:=λn o=>ns_none_of k Q (F.nn n o);have b:∀n∈([ag "__getattribute__",ag "__getattr__",ag "__setattr__",ag "__class__",f,ag "__init__",ag "args"]:List Str),c n=none:=λn o=>ns_none_of k hP (F.np n o);refine⟨g,c,⟨⟨⟨x,q1,bs,sn,sub,ab,Y,dd,k0,k1,k2,k3,k5,k _ _ l⟩,Q⟩,⟨⟨_,G,bs',E,u,ab',v,U,O,L,J,I,H,k _ _ l'⟩,hP⟩⟩,
  ⟨⟨a _ (by simp),b _ (by simp)⟩,⟨a _ (by simp),b _ (by simp)⟩,⟨a _ (by simp),b _ (by simp)⟩,⟨a _ (by simp),b _ (by simp)⟩,λn o=>b n ?_⟩,⟨a _ (by simp),b _ (by simp)⟩,Q,b _ (by simp)⟩
 simp only[quietNames,aI,dS,or_false]at o;rcases o with z|z|z|z<;>(rw[z];simp)
end
section
variable{X:Cx}{x f:Str}{C N P NP:af}{pos d3:Pos}{o value:Expr}{ta tv:TE}
def gB(H:Hp)(e b:af)(f:Str)(v:V)(ob:Obj):Hp:=eB (eB H b (.xd [(f,v)])) e (.frz ob (.own e))
theorem Oz(F : XF X.K x f C N P NP)(hy : cW (.type "ValueError") f = pure none)(ha : PE X o ta)(hv : PE X value tv)(hs : eW value (some (.Attribute o f d3)) pos.line X.env = pure false := by rfl):
  PS X (.Assign [.Attribute o f d3] value pos) (λD σ H=>tv σ H λv H1=>ta σ H1 λy O=>∃e,y=.ref e/\O e=some (.ext (kQ e C))/\∀E ob,O E=none->E≠e->ob.cls=.ref C->ob.dict=some E->FF ob->D.nx σ (gB O e E f v ob)):=by
 intro ao s σ H D I h;refine plainObj_wpAny_Assign_Attribute (fE (hv ao s σ H _ I h) λu s1 Q=>?_) hs;obtain⟨y,H1,I1,ry,q⟩:=Q;refine fE (ha ao s1 σ H1 _ I1 q) λov s2 Q=>?_;obtain⟨z,O,I2,rx,e,ex,Y,q2⟩:=Q;subst ex;obtain rfl:ov=ax e:=rx;obtain⟨mN,mP,ch,pl,no,_,_⟩:=F.ch I2.kIn;obtain⟨⟨vs,sl,g,gv1⟩,_,_⟩:=(show dz X.prog X.w O s2.heap e (.ext (kQ e C)) from I2.hok e _ Y)
 refine Va ch g pl.sa.c pl.sa.p no.c no.p hy λh' E tk U ge ns kp=>?_;have J:O E=none:=by
  cases w:O E with
  |none=>rfl
  |some ob=>
   obtain⟨ob',e'⟩:=K0 (I2.hok E ob w);rw[U]at e';cases e'
 have hde:E≠e:=λw=>by rw[w,g]at U;cases U
 refine⟨σ,gB O e E f y ⟨.ref C,some E,.fields vs,sl⟩,?_,q2 E _ J hde rfl rfl ⟨vs,rfl,gv1⟩⟩;have ne:∀b,O b=none->b≠e:=λb w z=>by rw[z,Y]at w;cases w
 have nd:∀{b o},s2.heap.get? b=some o->b≠E:=λw z=>by rw[z,U]at w;cases w
 have G:∀b,b≠e->b≠E->gB O e E f y ⟨.ref C,some E,.fields vs,sl⟩ b=O b:=λb h1 h2=>by unfold gB;rw[fR h1,fR h2]
 refine I2.step (g':=s2.gens) (d':=s2.drawn) (t':=tk) (ch:=[]) (λb hb=>by cases hb) (λb ob _ _ _ l n1=>kp b ob (ne b n1) l) (λb ob _ _ _ l n1=>⟨ob.slots,kp b ob (ne b n1) l⟩)
  (λb ob _ l n1=>by rw[G b (ne b n1) (nd l)];exact n1) (λb ob _ l=>by
   by_cases w:b=e
   ·exact⟨_,by rw[w];exact ge⟩
   ·exact⟨ob,kp b ob w l⟩)
  (λb ys l=>by rw[G b (λw=>by rw[w,Y]at l;cases l) (p9 l J)];exact l) (λb ob ys l=>by rw[G b (λw=>by rw[w,Y]at l;cases l) (p9 l J)];exact l)
  (λb ps l=>⟨#[],by rw[G b (λw=>by rw[w,Y]at l;cases l) (p9 l J),l];simp⟩)
  (λm hm=>by obtain⟨ob,es,ep,g1,r1⟩:=hm;exact⟨ob,es,ep,kp _ _ (λw=>by have:=I2.free;rw[w,Y]at this;cases this) g1,r1⟩) ?_ I2.bare
 intro b ob l;by_cases w:b=e
 ·subst w;unfold gB at l;rw[iI]at l;cases l;exact⟨ge,_,ge⟩
 ·by_cases o:b=E
  ·subst o;unfold gB at l;rw[fR w,iI]at l;cases l;refine⟨_,ns,λg=>?_⟩
   show nY (([(f,y)]:List (Str×V)).lookup g) (if g=f then some u else none);by_cases q:g=f
   ·rw[aE q,q,gK];exact ry
   ·rw[aA q,qe,show (g == f)=false from by simpa using q];exact trivial
  ·rw[G b w o]at l;refine (I2.hok b ob l).stay (λc u' hb L=>kp c u' (λQ=>?_) L) (λc L=>by rw[G c (λQ=>by rw[Q,Y]at L;cases L) (p9 L J)];exact L) (λc ys L=>by rw[G c (λQ=>by rw[Q,Y]at L;cases L) (p9 L J)];exact L);rcases hb with h|h
   ·exact w (h.symm.trans Q)
   ·rw[Q,Y]at h;cases h
def vV(C:af)(f:Str):Sp:=λc H Q _=>∃e v,c=[.ref e,v]/\H e=some (.ext (kQ e C))/\∀b ob,H b=none->b≠e->ob.cls=.ref C->ob.dict=some b->FF ob->Q .non (gB H e b f v ob)
theorem V7{PG:Program}{w:bw}{K:Frag}{mg:Str->Option ac}{base:bu}{qual:Str}{b:Stmt}{c:af}{l:bU}{L J I G:Pos}{n1 n2:Str}(F:XF K x f C N P NP)(O:cW (.type "ValueError") f=pure none)
  (FI:L2.tS K "__init__" qual b c l) (S:iG [n1,n2] [n1,n2] (a_ b)) (Y:dk b=[.Assign [.Attribute (.Name n1 L) f J] (.Name n2 I) G])
  (v1:xK (a_ b) n1) (v2:xK (a_ b) n2) (d1:(n1 == ("__debug__":Str))=false) (d2:(n2 == ("__debug__":Str))=false) (c1:(n1 == ("__classdict__":Str))=false) (c2:(n2 == ("__classdict__":Str))=false):gO PG w K mg base m9 1 c l [n1,n2] (vV C f):=by
 refine FI.ok (k:=0) S (λu H Q E h=>?_) (λg A outer s H u Q E hr h=>?_)
 ·obtain⟨e,v,rfl,_⟩:=h;rfl
 ·obtain⟨e,v,rfl,U,q⟩:=h;rw[Y];refine⟨_,E5 (Oz (X:=(ko m9 PG w K mg base [n1,n2] qual (a_ b) c g A outer s H E).nox) F O (xF (i:=0) rfl v1 d1 c1) (xF (i:=1) rfl v2 d2 c2)) HD,?_⟩;exact⟨v,rfl,.ref e,rfl,e,rfl,U,λI ob G C u l o=>q I ob G C u l o⟩
theorem V2{b:List (af×Obj)}{σ:L2.St}{H:Hp}{s:ae}{Q:VK}{u:ac}{v:V}{U:af}{fd:bU}{ps:List Str}(F:XF X.K x f C N P NP)(hi:nsIn X.K N (ag "__init__")=some (some (.ref U)))(J:∃l,X.K.lookup U=some l/\l.cls=.type "function")
  (G:gO X.prog X.w X.K X.mg X.base m9 1 U fd ps (vV C f)) (hr:Room 2 X.A) (hb:Binds X.K fd ps []) (I:Inv X b σ H s) (r:RelV v u)
  (h:∀e g ob,H e=none->(X.ex=[]->X.s₀.heap.get? e=none)->H g=none->g≠e->ob.cls=.ref C->ob.dict=some g->FF ob->Q (.ref e) (gB (eB H e (.ext (kQ e C))) e g f v ob)):
  aD (aK X.prog X.w) X.A (call (.ref C) [u]) (EP X b σ Q) X.xe s:=by
 obtain⟨mN,mP,ch,pl,no,hN,E⟩:=F.ch I.kIn;obtain⟨l,lI,cI⟩:=J;refine NE ch.c (QK ch E (Q3 I.kIn hN hi) (I.kIn _ _ lI) cI (λh' e hz o=>?_) (show 1<=sizeLine by decide));obtain⟨t,ge,_,_⟩:=o.there;have Y:Inv X b σ (eB H e (.ext (kQ e C))) { s with heap:=h' }:=I.laid (t':=s.toks) o.keeps hz (show dz X.prog X.w _ h' e (.ext (kQ e C)) from ⟨⟨_,_,ge,rfl,rfl,show 4 < 6 by decide⟩,⟨_,ge⟩,λO L y1 k=>by obtain⟨vs,sl,g1,g2⟩:=y1;exact⟨vs,sl,k _ g1,g2⟩⟩)
 have he:H e=none:=I.hok.fresh hz;have hq:vV C f [.ref e,v] (eB H e (.ext (kQ e C))) (λz H2=>z=.non/\Q (.ref e) H2) E0:=⟨e,v,rfl,iI,λg ob O L h3 h4 h5=>⟨rfl,h e g ob he (λ_=>CY (bv I.sz hz)) (by rw[fR L]at O;exact O) L h3 h4 h5⟩⟩
 have hl:([ax e,u]++[]).length=ps.length:=by have:=G.len _ _ _ _ hq;simpa using this
 refine io (iB (G.run _ X.stack _ _ ⟨[.ref e,u],[]⟩ ([.ref e,u]++[]) [.ref e,v] _ E0 (hr.make C [u] []) (Y.env0.make C [u] []) (hb _ [.ref e,u] Y.kIn hl) (.cons rfl (.cons r .nil)) hq) λr s' c=>?_);cases r with
 |error e=>exact c.elim
 |ok fl=>
  cases fl with
  |ret u2=>
   obtain⟨v2,H',I3,rv,ev,q3⟩:=Y.after c;subst ev;exact⟨rv,_,rfl,⟨V.ref e,H',I3,rfl,q3⟩⟩
  |next=>exact bV c
  |brk=>exact bV c
  |cont=>exact bV c
theorem ZL{J:af}{U:bU}{ps:List Str}{e:Expr}{t:TA}{p:Pos}(F:XF X.K x f C N P NP)(hi:nsIn X.K N (ag "__init__")=some (some (.ref J)))(l:∃O,X.K.lookup J=some O/\O.cls=.type "function")
  (G:gO X.prog X.w X.K X.mg X.base m9 1 J U ps (vV C f)) (hr:Room 2 X.A) (hb:Binds X.K U ps []) (hg:Gl X x) (hm:X.mg x=some (.ref C)) (ha:PA X [e] t) (E:(x == ("__debug__":Str))=false:=by decide)
  (he:av [e] X.env=[(false,eval e X.env)]:=by rfl):PE X (.Call (.Name x p) [e] [] pos) (λσ H Q=>t σ H λL g=>∃v,L=[v]/\∀e c ob,g e=none->(X.ex=[]->X.s₀.heap.get? e=none)->g c=none->c≠e->ob.cls=.ref C->ob.dict=some c->FF ob->Q (.ref e) (gB (eB g e (.ext (kQ e C))) e c f v ob)):=by
 intro b s σ H Q I h;refine fB (AI I hg hm ?_ E);refine ip (h₀:=X.base) I.ok.mod.kin F.kp (fE (ha pos b s σ H _ I h) λus s1 o=>?_) he rfl;obtain⟨L,g,Y,r,v,ev,q⟩:=o;refine⟨Y.kIn,?_⟩;subst ev;obtain⟨u,rfl,ru⟩:=vY r;exact V2 F hi l G hr hb Y ru q
theorem YB{e : Expr}{O : TE}(hy : cW (.type "ValueError") f = pure none)(he : PE X e O)(hb : cY e f X.env (eval e X.env) = eval e X.env := by rfl):
  PE X (.Attribute e f pos) (λσ H Q=>O σ H λy b=>∃a l v ob x C N P NP,y=.ref a/\XF X.K x f C N P NP/\b a=some (.frz ob (.own a))/\ob.cls=.ref C/\ob.dict=some l/\(∃L,ob.data=.fields L)/\b l=some (.xd [(f,v)])/\Q v b):=by
 intro g s σ H Q I h;refine ZJ hb (fE (he g s σ H _ I h) λu U z=>?_);obtain⟨y,b,E,o,a,l,v,ob,x,C,N,P,NP,ex,F,ea,oc,od,⟨L,ov⟩,ed,q⟩:=z;subst ex;obtain rfl:u=ax a:=o;obtain⟨mN,mP,ch,pl,no,hN,hpi⟩:=F.ch E.kIn;obtain⟨ga,_⟩:=(show dz X.prog X.w b U.heap a (.frz ob (.own a)) from E.hok a _ ea)
 obtain⟨mA,n1,rl⟩:=(show dz X.prog X.w b U.heap l (.xd [(f,v)]) from E.hok l _ ed)
 have c:=rl f;rw[gK]at c;cases J:mA f with
 |none=>rw[J]at c;exact c.elim
 |some u1=>
  rw[J]at c;have G:RelV v u1:=c;obtain⟨c0,d0,dd0,Y⟩:=ob;cases oc;cases od;cases ov;refine We ch pl ga n1.ns J (λid z=>?_) no hy λtk=>⟨v,b,E.tok _,G,q⟩
  subst z;cases v<;>first|(obtain⟨_,z⟩:=G;cases z)|cases G
noncomputable def vo(C P:af)(T:V):Bool:=match T with
 | .ref D=>decide (D=C)||decide (D=P)
 | .ty n=>["ValueError","Exception","BaseException","object"].contains n
 |_=>false
theorem Qi:CallR X (.builtin "isinstance") (λxs H Q=>∃a ob x f C N P NP T,xs=[.ref a,T]/\XF X.K x f C N P NP/\H a=some (.frz ob (.own a))/\ob.cls=.ref C/\(T=.ty "ValueError"\/∃D Y q bs bm N J sub ab u dd k0 k1 k2 k3 o,T=.ref D/\X.K.lookup D=some (fo Y q D N bs bm true J sub ab u dd k0 k1 k2 k3 o "ValueError.__new__"))/\Q (.bl (vo C P T)) H):=by
 intro O s σ H xs us Q I r h;obtain⟨a,ob,x,f,C,N,P,NP,T,rfl,F,ea,U,l,q⟩:=h;obtain⟨mN,mP,ch,L,no,hN,hpi⟩:=F.ch I.kIn;obtain⟨ga,_⟩:=(show dz X.prog X.w H s.heap a (.frz ob (.own a)) from I.hok a _ ea)
 cases r with
 |cons r1 r2=>
 cases r1;cases r2 with
 |cons r3 r4=>
 cases r4;rcases l with l|⟨D,Y,q1,bs,bm,N',J,sub,ab,u,dd,k0,k1,k2,k3,o,l,lD⟩
 ·subst l;cases r3;refine Rc ch L ga U (λA E R c g=>ah g) (λA E R c g=>ah g) λc=>?_;have v:(ax C::ax P::fJ).contains (fK "ValueError")=vo C P (.ty "ValueError"):=by show _=true;simp[fJ]
  rw[v];exact⟨.bl _,H,I.tok _,rfl,q⟩
 ·subst l;cases r3;have h:=I.kIn _ _ lD;refine Rc ch L ga U (λA E R c g=>iD (s:={ s with toks:=c }) h g) (λA E R c g=>?_) λc=>?_
  ·unfold xA;dsimp only;unfold Ae;exact aa (ir (s:={ s with toks:=c }) h (ah g))
  ·have v : (ax C :: ax P :: fJ).contains (ax D) = vo C P (.ref D) := by
     show _=(decide (D=C)||decide (D=P))
     rw[c_,c_];have z:fJ.contains (ax D)=false:=rfl;rw[z,sL];have G:∀a b:af,(ax a == ax b)=decide (a=b):=λa b=>by
      by_cases w:a=b
      ·subst w;rw[aP rfl];exact beq_self_eq_true _
      ·rw[aV w];exact beq_eq_false_iff_ne.mpr (λz=>w (by injection z))
     rw[G,G]
   rw[v];exact⟨.bl _,H,I.tok _,rfl,q⟩
end
end MM
namespace MM
open PySem PySem.Spec PyProof.Rows L2
structure nu(x:Str):Prop where
 d:(x == ("__debug__":Str))=false
 c:(x == ("__classdict__":Str))=false
 n:x≠"__name__"
theorem Vy{x:Str}(h:((x == ("__debug__":Str))||(x == ("__classdict__":Str))||decide (x=("__name__":Str)))=false):nu x:=by rw[ve,ve]at h;exact⟨h.1.1,h.1.2,of_decide_eq_false h.2⟩
structure Sc(X:Cx)(sc:dw):Prop where
 vis:∀x k,sc.names.lookup x=some k->(k=.local\/k=.cell\/k=.free)->xK X.env.scope x
 cel:∀x,(sc.names.lookup x=some .cell\/sc.names.lookup x=some .free)->(X.env.kindOf x=some .cell\/X.env.kindOf x=some .free)
 glo:∀x,sc.names.lookup x=some .globalImplicit->Gl X x
 loc:∀x k,sc.names.lookup x=some k->(k=.local\/k=.cell)->L2.Loc X.env.scope x/\(X.fn x=true\/X.env.scope.names.lookup x=some .local)
 calm:X.calm=true
theorem Oh{P:Program}{w:bw}{K:aj}{mg:Str->Option ac}{base:bu}{N:List Str}{qual:Str}{sc:dw}{f:af}{c:ac}{A:br}{outer:List Env}{s:ae}{H:Hp}{E:XK}:
  Sc (ko m9 P w K mg base N qual sc f c A outer s H E).nox sc where
 vis:=λx k h b=>by
  rcases b with z|z|z<;>subst z
  ·exact .inl h
  ·exact .inr (.inl h)
  ·exact .inr (.inr h)
 cel:=λx h=>h
 glo:=λx h=>h
 loc:=λx k h b=>⟨by rcases b with z|z<;>subst z;exact .inl h;exact .inr h,.inl rfl⟩
 calm:=rfl
theorem WF{X:Cx}{N:List Str}{scope:dw}{l:List af}{s:ae}{H:Hp}(g:X.calm=true):Sc (iU X N scope l s H) scope where
 vis:=λx k h c=>by
  show (iR scope X.env).names.lookup x=_\/(iR scope X.env).names.lookup x=_\/(iR scope X.env).names.lookup x=_;rw[CJ,h,km];rcases c with z|z|z<;>subst z
  ·exact .inl rfl
  ·exact .inr (.inl rfl)
  ·by_cases b:(cf == cf&&X.env.scope.kind == .function&&X.env.kindOf x == some .cell)=true
   ·rw[aE b];exact .inr (.inl rfl)
   ·rw[aA b];exact .inr (.inr rfl)
 cel:=λx h=>by
  show (iR scope X.env).names.lookup x=_\/(iR scope X.env).names.lookup x=_;rcases h with h|h<;>rw[CJ,h,km]
  ·exact .inl rfl
  ·by_cases b:(cf == cf&&X.env.scope.kind == .function&&X.env.kindOf x == some .cell)=true
   ·rw[aE b];exact .inl rfl
   ·rw[aA b];exact .inr rfl
 glo:=λx h=>by show (iR scope X.env).names.lookup x=_;rw[CJ,h,km];rfl
 loc:=λx k h c=>by
  refine⟨?_,.inl ?_⟩
  ·show (iR scope X.env).names.lookup x=_\/(iR scope X.env).names.lookup x=_;rw[CJ,h,km];rcases c with z|z<;>subst z
   ·exact .inl rfl
   ·exact .inr rfl
  ·show decide (scope.names.lookup x=some .local\/scope.names.lookup x=some .cell)=true;rw[h];rcases c with z|z<;>subst z<;>decide
 calm:=g
noncomputable def r8(sc scope:dw):Bool:=
 (scope.kind == .function)&&scope.names.all (λp=>p.2 != .local||scope.names.lookup p.1 == some .local) &&
 scope.names.all (λp=>p.2 != .free||((sc.names.lookup p.1 == some .cell||sc.names.lookup p.1 == some .free) && !scope.names.contains (p.1,.cell)&&scope.names.lookup p.1 != some .local))
theorem Ke{X:Cx}{sc scope:dw}(S:Sc X sc)(h:r8 sc scope=true):fm X scope:=by
 unfold r8 at h;rw[aO,aO]at h;obtain⟨⟨G,o⟩,l⟩:=h;rw[cJ]at o l;have c:∀x,(x,cf)∈scope.names->(sc.names.lookup x=some .cell\/sc.names.lookup x=some .free)/\(x,g_)∉scope.names/\scope.names.lookup x≠some .local:=λx b=>by have q:=l _ b;simp only[bne_self_eq_false,Cv,aO,ky,beq_iff_eq,xB,bne_iff_ne,ne_eq]at q;obtain⟨⟨v,g⟩,u⟩:=q;refine⟨v,λz=>?_,u⟩;have:scope.names.contains (x,g_)=true:=mS.mpr z;rw[this]at g;cases g
 refine⟨by simpa using G,λp C E=>?_,λx b=>S.cel x (c x b).1,λx b=>(c x b).2.1,λx b=>(c x b).2.2⟩;have q:=o p C;rw[E]at q;simpa using q
noncomputable def qi(b:List Str)(scope:dw)(N:List Str)(n:Nat)(ix:List Nat):Bool:=
 N.length == n+ix.length&&(dI ix.length).all λj=>match ix[j]?,N[n+j]? with
  |some i,some x=>b[i]? == some x&&scope.names.lookup x == some .free
  |_,_=>false
theorem Ka{X:Cx}{c:List Str}{scope:dw}{N:List Str}{n:Nat}{ix:List Nat}(l:X.N=c)(h:qi c scope N n ix=true):gj X scope N n ix:=by unfold qi at h;rw[aO,cJ]at h;refine⟨by simpa using h.1,λj i x b g=>?_⟩;have q:=h.2 j (fT.mpr (aq.mp b).1);rw[b,g]at q;simp only[aO,beq_iff_eq]at q;rw[l];exact q
section
variable{X:Cx}{sc:dw}{a b c e o tg:Expr}{es:List Expr}{pos p:Pos}{fa fb fc:CE}{ca cb:CA}{x:Str}{T id:String}
theorem JY(S:Sc X sc)(i:Nat)(l:X.N[i]?=some x){k:ff}(h:sc.names.lookup x=some k)(n:nu x)(g:k=.local\/k=.cell\/k=.free:=by decide):SE X (.Name x pos) (am i):=EJ i (xF l (S.vis x k h g) n.d n.c)
theorem Yw(S:Sc X sc)(i:Nat)(l:X.N.Nodup)(u:X.N[i]?=some x){k:ff}(h:sc.names.lookup x=some k)(g:k=.local\/k=.cell:=by decide):SG X (.Name x pos) (aU i):=
 Xl (Tj l u (S.loc x k h g).1 (S.loc x k h g).2)
theorem Ya(S : Sc X sc)(i : Nat)(u : X.N.Nodup)(C : X.N[i]? = some x){k : ff}(h : sc.names.lookup x = some k){g : Pos}(v : SE X e fa)(l : k = .local \/ k = .cell := by decide)(hs : eW e (some (.Name x g)) pos.line X.env = pure false := by rfl):
  SS X (.Assign [.Name x g] e pos) (bY (aU i) fa):=NB u C (S.loc x k h l).1 v hs (S.loc x k h l).2
theorem Ru{v:V}{d:D}{u:ac}(S:Sc X sc)(h:sc.names.lookup x=some .globalImplicit)(C:X.mg x=some u)(r:RelV v u)(n:nu x)(q:∀ρ H,dG X.K ρ H v d):SE X (.Name x pos) (ay d):=
 (LZ (S.glo x h) C r n.d).of λσ H Q E=>E.el λρ l st G g p=>p.ret g _ (q _ _)
theorem KA{n:Nat}(h:∀l st ds g,ca l st=.ok ds g->ds.length=n):∀l st ds g,ak fa ca l st=.ok ds g->ds.length=n+1:=λl st ds g e=>by
 unfold ak bnd at e;cases q:fa l st with
 |ok d s1=>
  rw[q]at e;dsimp only at e;cases u:ca l s1 with
  |ok es s2=>
   rw[u]at e;have:=h l s1 es s2 u;cases e;simp[this]
  |exc _ _=>rw[u]at e;cases e
  |bad=>rw[u]at e;cases e
 |exc _ _=>rw[q]at e;cases e
 |bad=>rw[q]at e;cases e
theorem Oi:∀l st ds g,aY l st=.ok ds g->ds.length=0:=λl st ds g e=>by cases e;rfl
noncomputable def zP(K:aj)(h:bU)(ps:List Str):Prop:=∀(s:ae)(g:List ac),g.length=ps.length->pr s h ⟨[],ps.zip g⟩ (ps.zip g)
theorem Ra{k n:Nat}{f:af}{C:bU}{ps:List Str}{g:List D->M D}(S:Sc X sc)(h:sc.names.lookup x=some .globalImplicit)(F:gO X.prog X.w X.K X.mg X.base m9 k f C ps (mU X.K n g))(G:Room k X.A)(I:X.mg x=some (.ref f))
  (J:fN X.K (.ref f)=true) (O:Binds X.K C ps []) (E:nu x) (Q:SA X (e::es) ca) (H:∀l st ds u,ca l st=.ok ds u->ds.length=n)
  (L:av (e::es) X.env=(false,eval e X.env)::av es X.env:=by rfl) (v:(di pos (av es X.env)).any (·.1)=false:=by rfl):SE X (.Call (.Name x p) (e::es) [] pos) (ba g ca):=
 Y8 F G (S.glo x h) I J O Po Q H E.d L v
end
theorem Yy{k:Nat}{X:Cx}(h:Room k X.A):X.A.units+60 < dZ:=by have:=h.units;ext
theorem OZ{P:Program}{w:bw}{K:aj}{mg:Str->Option ac}{base:bu}{x qual:Str}{h:Stmt}{f:af}{l:bU}{N ps:List Str}{k n m:Nat}{b:CS}(F:tS K x qual h f l)(S:iG N ps (a_ h))(o:ps.length=n)(u:N.length=m)
  (c:∀(g:ac)(A:br)(outer:List Env)(s:ae)(H:Hp)(E:XK),l.code=g->Room k (A.deeper (eU qual (a_ h) s.heap.objs.size f g))->vX (ko m9 P w K mg base N qual (a_ h) f g A outer s H E).nox (dk h) b):
  gO P w K mg base m9 (k+1) f l ps (mU K n (bW m b)):=by
 subst o u;exact Yv F S c
theorem Ob{K:aj}{ρ:List af}{H:Hp}:∀(ns:List Int),ce K ρ H (ns.map V.int) (ns.map D.int)
 |[]=>.nil
 |n::ns=>.cons (.int n) (Ob ns)
theorem Ss{K:aj}{H:Hp}{a:af}{ns:List Int}{g:List D->M D}(u:wH H)(l:iW K H a (ns.map V.int))(h:∃c,g [.lit (ns.map D.int)] []=.ok (.bl true) c):
  mU K 1 g [.ref a] H (λv _=>v=.bl true) λ_ _ _=>False:=by
 obtain⟨c,e⟩:=h;have fz:vS K H a (ns.map V.int):=by
  rcases l with (h|⟨o,h⟩)|h
  ·rcases u a with z|⟨ob,xs,z⟩<;>(rw[z]at h;cases h)
  ·exact .inl ⟨o,h⟩
  ·exact .inr h
 refine⟨rfl,[],[],_,⟨rfl,AV,λn b o z=>by cases z⟩,.cons (.lit fz (Ob ns)) .nil,?_⟩;rw[e];intro ρ' H' _ _ v rv;cases rv;rfl
@[elab_as_elim] theorem K2{A:Type}{P:List A->Prop}(h:∀a,P [a])(c:List A)(g:c.length=1):P c:=by
 cases c with
 |nil=>cases g
 |cons a t=>cases t with
  |nil=>exact h a
  |cons b u=>simp at g
@[elab_as_elim] theorem tX{A:Type}{P:List A->Prop}(h:∀l g,P [l,g])(b:List A)(c:b.length=2):P b:=by
 cases b with
 |nil=>cases c
 |cons a t=>exact K2 (P:=λt=>P (a::t)) (h a) t (lP c)
@[elab_as_elim] theorem KW{A:Type}{P:List A->Prop}(h:∀o l g,P [o,l,g])(b:List A)(c:b.length=3):P b:=by
 cases b with
 |nil=>cases c
 |cons a t=>exact tX (P:=λt=>P (a::t)) (h a) t (lP c)
@[elab_as_elim] theorem VW{A:Type}{P:List A->Prop}(h:∀u o l g,P [u,o,l,g])(b:List A)(c:b.length=4):P b:=by
 cases b with
 |nil=>cases c
 |cons a t=>exact KW (P:=λt=>P (a::t)) (h a) t (lP c)
end MM
namespace MM
open PySem PySem.W PyProof.Rows L2
section
variable{K:Frag}{ρ:List af}{H H1:Hp}{st:aT}
theorem Ex.more(h:∀b o,H b=some o->H1 b=some o):Ex ρ H ρ H1:=
 ⟨⟨[],by simp,by simp⟩,λb u _ e=>h b u e,λb u _ e=>h b u e,λb u e=>⟨u,h b u e,rfl⟩⟩
theorem SR.more(s:SR K ρ H st)(h:∀b o,H b=some o->H1 b=some o):SR K ρ H1 st:=
 ⟨s.len,s.nd,λn b ob g c=>qR.mono (o:=ob) (Ex.more (ρ:=ρ) h).up (s.ob n b ob g c) λu q=>h b u q⟩
theorem PX{e g:af}{f:Str}{v:V}{ob:Obj}{o:HO}(c:H e=none)(hd:H g=none):∀b u,H b=some u->gB (eB H e o) e g f v ob b=some u:=λb u q=>by unfold gB;rw[fR (p9 q c),fR (p9 q hd),fR (p9 q c)];exact q
end
section
variable{X:Cx}{sc:dw}{x f y:Str}{C N P NP D:af}{pos p p1:Pos}{e:Expr}{fa:CE}{xs:List Str}
theorem V0(F : XF X.K x f C N P NP)(J : cW (.type "ValueError") f = pure none)(ha : SE X e fa)(Y : cY e f X.env (eval e X.env) = eval e X.env := by rfl):
  SE X (.Attribute e f pos) (c1 (tJ x f) fa):=
 (YB J ha Y).of λσ H Q h_=>h_.el λρ l st I h q=>⟨ρ,l,st,I,h,q.bnd.imp λd c ρ1 H1 x1 u b v E=>by
  cases E with
  |@exn a C' dx x' f' v' d' g hh h2 r=>
   obtain⟨⟨rfl,rfl⟩,G⟩:=b.chk;obtain⟨o,O,U,hd,L⟩:=hh;have eC:C'=C:=by have:=g.symm.trans F.gl;injection this with t;injection t with t;injection t
   subst eC;exact⟨a,dx,v',o,_,_,_,_,_,rfl,F,O,U,hd,L.imp λ_ z=>z.1,h2,G.ret u _ r⟩
  |_=>exact b.elim⟩
structure XO(K:Frag)(y:Str)(D:af):Prop where
 gl:nsIn K bN y=some (some (.ref D))
 ob:∃N bm q bs sn sub ab col dd k0 k1 k2 k3 k5,K.lookup D=some (fo y q D N bs bm true sn sub ab col dd k0 k1 k2 k3 k5 "ValueError.__new__")
theorem XF.xo(F:XF X.K x f C N P NP):XO X.K x C:=⟨F.gl,_,_,F.ob⟩
theorem XF.xp(F:XF X.K x f C N P NP):XO X.K "PactError" P:=⟨F.glP,_,_,F.obP⟩
theorem XO.iff{K:Frag}{x y:Str}{C D:af}(a:XO K x C)(b:XO K y D):decide (D=C)=(x == y):=by
 by_cases z:x=y
 ·subst z;have e:C=D:=by have:=a.gl.symm.trans b.gl;injection this with t;injection t with t;injection t
  rw[e];simp
 ·rw[aV (λw=>?_),beq_eq_false_iff_ne.mpr z];subst w;obtain⟨N,bm,q,bs,U,sub,ab,J,dd,k0,k1,k2,k3,C,l⟩:=a.ob;obtain⟨N',O,Y,L,o,c,Q,h,I,H,G,E,v,u,g⟩:=b.ob;rw[l]at g;injection g with t
  injection t with _ _ t _
  injection t with t
  injection t with t
  exact z t
theorem HK{H:Hp}{Q:VK}{a u:af}{v:Str}{T:V}(B:∀x∈xs,∃f C N P NP,XF X.K x f C N P NP)(hx:v∈xs)(g:nsIn X.K bN v=some (some (.ref u)))(hh:∃o,H a=some (.frz o (.own a))/\o.cls=.ref u)
  (hT:T=.ty "ValueError"\/∃y D,T=.ref D/\XO X.K y D) (q:∀P,XO X.K v u->XO X.K "PactError" P->Q (.bl (vo u P T)) H):
  ∃b ob x f C N P NP E,[V.ref a,T]=[.ref b,E]/\XF X.K x f C N P NP/\H b=some (.frz ob (.own b))/\ob.cls=.ref C/\(E=.ty "ValueError"\/∃D nm q bs bm N G sub ab c dd Y U L J I,E=.ref D/\X.K.lookup D=some (fo nm q D N bs bm true G sub ab c dd Y U L J I "ValueError.__new__"))/\Q (.bl (vo C P E)) H:=by
 obtain⟨f,C,N,P,NP,F⟩:=B v hx;obtain⟨o,ho,hc⟩:=hh;have eC:u=C:=by have:=g.symm.trans F.gl;injection this with t;injection t with t;injection t
 subst eC;refine⟨a,o,v,f,u,N,P,NP,T,rfl,F,ho,hc,?_,q P F.xo F.xp⟩;rcases hT with h|⟨y,D,h,O⟩
 ·exact .inl h
 ·obtain⟨N,bm,q,bs,G,sub,ab,c,dd,Y,U,L,J,I,l⟩:=O.ob;exact .inr ⟨D,y,q,bs,bm,N,G,sub,ab,c,dd,Y,U,L,J,I,h,l⟩
theorem Xo(B:∀x∈xs,∃f C N P NP,XF X.K x f C N P NP)(hg:Gl X "isinstance")(hm:X.mg "isinstance"=none)(hv:cS "isinstance"=some (.builtin "isinstance"))(J:Gl X "ValueError")(I:X.mg "ValueError"=none)(E:cS "ValueError"=some (.type "ValueError"))(ha:SE X e fa)
  (U:av [e,.Name "ValueError" p1] X.env=(false,eval e X.env)::av [.Name "ValueError" p1] X.env:=by rfl) (L:av [.Name "ValueError" p1] X.env=(false,eval (.Name "ValueError" p1) X.env)::av [] X.env:=by rfl) (G:(di pos (av [.Name "ValueError" p1] X.env)).any (·.1)=false:=by rfl):
  SE X (.Call (.Name "isinstance" p) [e,.Name "ValueError" p1] [] pos) (c1 (qr xs λ_=>true) fa):=
 (CP Qi hg hm hv (nJ ha (nJ (Qu (v:=.ty "ValueError") J I E rfl (by decide) (by decide)) qj L) U) (by decide) (by decide) U G).of λσ H Q h_=>h_.el λρ l st lr sr q=>⟨ρ,l,st,lr,sr,q.bnd.imp λd bB ρ1 H1 x1 O b v rv=>by
  cases rv with
  |@exn a C' dx x' f' v' d' g hh Y r=>
   obtain⟨u,c⟩:=b.chk;obtain⟨o,ho,hc,_⟩:=hh;exact HK B u g ⟨o,ho,hc⟩ (.inl rfl) λP h1 Y=>c.ret O _ (.bl _)
  |@exn0 a C' x' g hh=>
   obtain⟨u,c⟩:=b.chk;exact HK B u g hh (.inl rfl) λP h1 Y=>c.ret O _ (.bl _)
  |@gfn a x' g h=>exact (B x' b.chk.1).elim λ_ z=>z.elim λ_ z=>z.elim λ_ z=>z.elim λ_ z=>z.elim λ_ z=>z.nofn g h
  |_=>exact b.elim⟩
end
noncomputable def qw(b:Array pB)(ns:List Str):Bool:=b.toList.all λe=>match e.key with
 | .str n _ => !(ns.contains n)
 |_=>false
section
variable{K:Frag}{N:af}{es:Array pB}{ns:List Str}{n:Str}{o:ac}{d:Option af}{ep:Nat}{sl:Array (Option ac)}
theorem X7(h:qw es ns=true):StrKeys es:=λe b=>by
 have:=cJ.mp h e (Array.mem_toList_iff.mpr b);cases k:e.key with
 |str n t=>exact⟨n,t,rfl⟩
 |_=>rw[k]at this;cases this
theorem OV(l:K.lookup N=some ⟨o,d,.dict es ep,sl⟩)(h:qw es ns=true)(g:n∈ns):nsIn K N n=some none:=by
 have a:∀e∈es.toList,e.key.isStr n=false/\e.refKey=false:=λe b=>by
  have:=cJ.mp h e b;obtain⟨hh,k,v⟩:=e;cases k with
  |str m t=>
   have c:(!(ns.contains m))=true:=this;refine⟨?_,rfl⟩
   show (m == n)=false;refine beq_eq_false_iff_ne.mpr λz=>?_;subst z;rw[mS.mpr g]at c;cases c
  |_=>cases this
 unfold nsIn;rw[l];dsimp only;rw[List.find?_eq_none.mpr λe b=>by rw[(a e b).1];exact bx];dsimp only;rw[aA];intro z;obtain⟨e,b,t⟩:=List.any_eq_true.mp z;rw[(a e b).2]at t;cases t
theorem PM(l:K.lookup N=some ⟨o,d,.dict es ep,sl⟩)(h:qw es ns=true):sU K N:=⟨_,_,_,_,_,l,X7 h⟩
end
theorem YQ{K:Frag}{x f:Str}{C N P NP:af}{fs:List Str}{q q':Str}{bs bs':List ac}{sn E:List Str}{sub b:List ac}{ab ab':Bool}{col v:Option Bool}{dd Y:Option af}{k0 k1 k2 k3 k5 O L J I H:Option ac}
  {o o':ac}{d d':Option af}{es u:Array pB}{ep U:Nat}{sl G:Array (Option ac)}{ns:List Str}
  (g:nsIn K bN x=some (some (.ref C))) (l:K.lookup C=some (fo x q C N bs (.ref P::fJ) true sn sub ab col dd k0 k1 k2 k3 k5 "ValueError.__new__")) (lN:K.lookup N=some ⟨o,d,.dict es ep,sl⟩) (h:qw es ns=true) (kp:keepIn K (.ref C)=true)
  (g':nsIn K bN "PactError"=some (some (.ref P))) (l':K.lookup P=some (fo "PactError" q' P NP bs' fJ true E b ab' v Y O L J I H "ValueError.__new__")) (c:K.lookup NP=some ⟨o',d',.dict u U,G⟩) (h':qw u fs=true)
  (s1:∀n∈([ag "__getattribute__",ag "__getattr__",ag "__setattr__",ag "__class__",f]:List Str),n∈ns:=by nofun)
  (s2:∀n∈([ag "__getattribute__",ag "__getattr__",ag "__setattr__",ag "__class__",f,ag "__init__",ag "args"]:List Str),n∈fs:=by nofun):XF K x f C N P NP where
 gl:=g
 ob:=⟨_,_,_,_,_,_,_,_,_,_,_,_,l⟩
 obP:=⟨_,_,_,_,_,_,_,_,_,_,_,_,l'⟩
 glP:=g'
 sN:=PM lN h
 sP:=PM c h'
 nn:=λn Q=>OV lN h (s1 n Q)
 np:=λn Q=>OV c h' (s2 n Q)
 kp:=kp
end MM
namespace MM
open PySem PySem.Spec PyProof.Rows L2
noncomputable def Kt(h h':bu):Prop:=∀c o,h.get? c=some o->o.cls=.type "tuple"->h'.get? c=some o
structure WH(prog:Program)(w:bw)(K:Type)[DecidableEq K] where
 is:bu->K->af->Prop
 hash:K->Int
 draws:K->Nat
 keep:∀{h h':bu}{k:K}{b:af},Kt h h'->is h k b->is h' k b
 hashes:∀{A:br}{E:ac->ae->Prop}{s:ae}{k:K}{b:af}{Q:Int->ae->Prop},A.units+1 < dZ->is s.heap k b->Q (hash k) { s with toks:=s.toks+draws k }->aD (aK prog w) A (pyHash (.ref b)) Q E s
 eqs:∀{A:br}{E:ac->ae->Prop}{s:ae}{x y:K}{a b:af}{Q:Bool->ae->Prop},A.units+1 < dZ->is s.heap x a->is s.heap y b->Q (decide (x=y)) s->aD (aK prog w) A (eqBool (.ref a) (.ref b)) Q E s
 quiet:∀{A:br}{E:ac->ae->Prop}{s:ae}{k:K}{b:af}{Q:Bool->ae->Prop},is s.heap k b->Q true s->aD (aK prog w) A (pD 8 (.ref b)) Q E s
 cls:∀{A:br}{E:ac->ae->Prop}{s:ae}{k:K}{b:af}{Q:Bool->ae->Prop},is s.heap k b->Q false s->aD (aK prog w) A (ofAClassStatement 8 (.ref b)) Q E s
 byv:∀{A:br}{E:ac->ae->Prop}{s:ae}{k:K}{b:af}{Q:Bool->ae->Prop},is s.heap k b->Q true s->aD (aK prog w) A (hashByValue 8 (.ref b)) Q E s
section
variable{prog:Program}{w:bw}{K:Type}[DecidableEq K](T:WH prog w K)
variable{T}
variable{A:br}{E:ac->ae->Prop}{s:ae}{a:af}{gk:Bool}{m:Nat}{key:Nat->K}{es:Array (Int×ac)}
end
section
variable{prog:Program}{w:bw}{A:br}{E:ac->ae->Prop}{s:ae}
theorem items_int{k:List Int}{b:List ac}(h:ItemsAre (pk prog w) k b):∀v∈b,∃i t,v=iE i t:=by
 induction h with
 |nil=>simp
 |cons h1 h2 ih=>
  intro v c;rcases aI.mp c with z|z
  ·subst z;cases v with
   |int i t=>exact⟨i,t,rfl⟩
   |_=>cases h1
  ·exact ih v z
end
end MM
namespace MM
open PySem
noncomputable def AD:MO->Bool
 | .clo _ _=>true
 |_=>false
def D1(o:MO):MO:=if AD o=true then .ded else o
def DU(n:Nat)(s:aT):aT:=s.take n++(s.drop n).map D1
noncomputable def FU(s:aT)(i:Nat)(o:MO):MO:=match s[i]? with
 |some (.clo c v)=>.clo c v
 |_=>o
open Classical in
def Bp(g:List D->M D)(b ds:List D):M D:=λs=>match g (ds++b) (DU 0 s) with
 | .ok r s2=>if ∀(i:Nat)(o:MO),s[i]?=some o->AD o=true->s2[i]?=some MO.ded then .ok r (s2.mapIdx (FU s)) else .bad
 |_=>.bad
structure RK where
 n:Nat
 k:Nat
 g:List D->M D
structure RL where
 n:Nat
 k:Nat
 g:List D->M D
noncomputable abbrev WT:=List (Expr×RL)×List (tq×RK)
open PySem.Spec PyProof.Rows L2
noncomputable def BMod(base:bu)(mg:Str->Option ac):Prop:=∃bm ob,mg "__builtins__"=some (.ref bm)/\bm≠qC/\base.get? bm=some ob/\ob.cls=.type "module"/\ob.dict=some qC/\ob.data=.plain
section
variable{X:Cx}
def JZ(X:Cx)(x:Str):Prop:=∃f o b c P,iL X.K bN x=some (some (.ref f))/\X.K.lookup f=some o/\o.data=.func b/\b.code=.ref c/\oZ X.K c P=true/\X.env.code=.ref c/\X.env.qual=x++".<locals>."/\BMod X.base X.mg
def Fa(P:Program)(w:bw)(K:aj)(mg:Str->Option ac)(base:bu)(k n:Nat)(e:Expr)(g:List D->M D):Prop:=
 ∀(ps:v8)(b:Expr)(sc:dw)(pos:Pos)(q:Str)(c:af)(o ct:ac),e=.Lambda ps b sc pos->∀(A:br)(outer:List Env)(s:ae)(H:Hp)(a:af)(l:List ac)(h:List V)(Q:VK),Room k A->qS P w K mg base A outer s H ->
  H a=some (.frz (v9 "<lambda>" q ps b sc [] o c ct) (.own a))->qU H c q->cU h l->mU K n g h H Q E0->kc (aK P w) A (.call (.ref a) ⟨l,[]⟩) (CR m9 outer P w H s Q E0) s
end
def FT(P:Program)(w:bw)(K:aj)(mg:Str->Option ac)(base:bu)(k n:Nat)(c:tq)(g:List D->M D):Prop:=
 ∀(A:br)(outer:List Env)(s:ae)(H:Hp)(ρ:List af)(st:aT)(m:Nat)(a:af)(h ds:List D)(l:List ac)(b:List V)(Q:VK),Room k A->qS P w K mg base A outer s H->SR K ρ H st->ρ[m]?=some a->st[m]?=some (.clo c h) ->
  ce K ρ H b ds->cU b l->ds.length=n->aW K ρ H (Bp g h ds st) (λr _ ρ' o=>∀v,dG K ρ' o v r->Q v o)->kc (aK P w) A (.call (.ref a) ⟨l,[]⟩) (CR m9 outer P w H s Q E0) s
set_option genInjectivity false in
structure RF where
 n:Nat
 k:Nat
 ps:List Str
 kw:Bool
 g:List D->M D
set_option genInjectivity false in
structure RC where
 sc:dw
 N:List Str
 k:Nat
 G:List (Str×RF)
 Z:List Str
 C:List (Str×D)
 H:List (Nat×Nat×Nat)
 top:Bool
 W:WT
 T:Option (Nat×Str)
noncomputable def RC.tag(c:RC)(p:Pos)(t:Nat):Bool:=c.H.contains (p.line,p.col,t)
noncomputable def RC.glo(c:RC)(x:Str):Bool:=c.sc.names.lookup x == some .globalImplicit
noncomputable def j_(x:Str):Bool := !((x == ("__debug__":Str))||(x == ("__classdict__":Str))||decide (x=("__name__":Str)))
theorem oB{x:Str}(h:j_ x=true):nu x:=Vy (by unfold j_ at h;simpa only[xB] using h)
def L0(K:aj)(b:bU)(ps:List Str):Prop:=if ps.getLast?=some (ag "most") then ∃u,RelV (.int 500) u/\Binds K b ps [u] else zP K b ps
structure GF(P:Program)(w:bw)(K:aj)(mg:Str->Option ac)(base:bu)(x:Str)(r:RF):Prop where
 ex:∃f fd,mg x=some (.ref f)/\gO P w K mg base m9 r.k f fd r.ps (mU K r.n r.g)/\fN K (.ref f)=true/\Binds K fd r.ps []/\(r.kw=true->L0 K fd r.ps)
def P8(P:Program)(w:bw)(K:aj)(mg:Str->Option ac)(base:bu)(W:WT):Prop:=(∀e r,(e,r)∈W.1->Fa P w K mg base r.k r.n e r.g)/\∀c r,(c,r)∈W.2->FT P w K mg base r.k r.n c r.g
structure Good(X:Cx)(c:RC):Prop where
 S:Sc X c.sc
 N:X.N=c.N
 nd:X.N.Nodup
 hr:Room c.k X.A
 G:∀x r,c.G.lookup x=some r->GF X.prog X.w X.K X.mg X.base x r
 Z:∀x,c.Z.contains x=true->X.mg x=none
 C:∀x d,c.C.lookup x=some d->∃v u,X.mg x=some u/\RelV v u/\∀ρ H,dG X.K ρ H v d
 ps:pq (aK X.prog X.w) X.A X.env X.xe
 kd:c.top=true->X.env.blockKind=.function/\∀x,X.env.kindOf x=c.sc.names.lookup x
 W:P8 X.prog X.w X.K X.mg X.base c.W
 T:∀t,c.T=some t->JZ X t.2
theorem Good.hu{X:Cx}{c:RC}(g:Good X c):X.A.units+60 < dZ:=Yy g.hr
noncomputable def p_:Expr->Bool
 | .Starred .. => false
 |_=>true
theorem nQ{e:Expr}{b:List Expr}{env:Env}(h:p_ e=true):av (e::b) env=(false,eval e env)::av b env:=by cases e<;>first|rfl|cases h
theorem Av{env:Env}{pos:Pos}:∀{b:List Expr},b.all p_=true->(di pos (av b env)).any (·.1)=false
 |[],_=>rfl
 |e::b,h=>by rw[bG,aO]at h;rw[nQ h.1];exact Av h.2
theorem OM{env:Env}{pos:Pos}:∀{b:List Expr},b.all p_=true->(di pos (av b env)).all (λx => !x.1)=true
 |[],_=>rfl
 |e::b,h=>by rw[bG,aO]at h;rw[nQ h.1];exact OM h.2
noncomputable def CM:Expr->Bool
 | .ListComp .. => false
 | .SetComp .. => false
 | .DictComp .. => false
 |_=>true
theorem xU{e:Expr}{t:Option Expr}{n:Nat}{env:Env}(h:CM e=true):eW e t n env=pure false:=by cases e<;>first|rfl|cases h
noncomputable def Ax:Expr->Bool
 | .Set .. => false
 |_=>true
theorem D_{e:Expr}{env:Env}(h:Ax e=true)(x:ac):cX e env x=pure x:=by cases e<;>first|rfl|cases h
theorem Fi{op:mZ}{e:Expr}(h:Ax e=true):fY op e=false:=by cases e<;>first|rfl|cases h
noncomputable def G3:Expr->Bool
 | .Call _ [] _ _=>false
 |_=>true
theorem J1{e:Expr}{x:Str}{env:Env}{w:Sem ac}(h:G3 e=true):cY e x env w=w:=by
 cases e with
 |Call f as ks p=>
  cases as with
  |nil=>cases h
  |cons a as=>unfold cY;cases f<;>rfl
 |_=>rfl
noncomputable def Dd:Expr->Bool
 | .Slice .. => false
 |_=>true
theorem yK{e:Expr}(h:Dd e=true):nN e:=by intro o i;cases e<;>first|rfl|cases h
noncomputable def LG:Expr->Bool
 | .Compare .. => false
 | .BoolOp .. => false
 | .UnaryOp .. => false
 | .IfExp .. => false
 |_=>true
theorem Nj{e:Expr}{env:Env}(h:LG e=true)(w:Sem ac):PySem.isTrue e env w=(do let v <- w;pp e.pos;nB [v] (truthy v)):=by cases e<;>first|rfl|cases h
abbrev Fq(c:RC)(x:Expr):={r:CE // ∀{X:Cx},Good X c->SE X x r}
abbrev OL(c:RC)(x:Expr):={r:CA // ∀{X:Cx},Good X c->SL X x r}
abbrev NU(c:RC)(x:Expr):={r:CT // ∀{X:Cx},Good X c->ST X x r}
abbrev Jn(c:RC)(tg x:Expr):={r:CI // ∀{X:Cx},Good X c->SI X tg x r}
abbrev Is(c:RC)(x:Expr):={r:CG // ∀{X:Cx},Good X c->SG X x r}
abbrev M_(c:RC)(x:Stmt):={r:CS // ∀{X:Cx},Good X c->SS X x r}
set_option genInjectivity false in
structure lC where
 e:∀(c:RC)(x:Expr),Option (Fq c x)
 l:∀(c:RC)(x:Expr),Option (OL c x)
 t:∀(c:RC)(x:Expr),Option (NU c x)
 i:∀(c:RC)(tg x:Expr),Option (Jn c tg x)
 g:∀(c:RC)(x:Expr),Option (Is c x)
 s:∀(c:RC)(x:Stmt),Option (M_ c x)
abbrev ml:=lC->∀(c:RC)(x:Expr),Option (Fq c x)
abbrev Hk:=lC->∀(c:RC)(x:Expr),Option (OL c x)
abbrev DM:=lC->∀(c:RC)(x:Expr),Option (NU c x)
abbrev xS:=lC->∀(c:RC)(tg x:Expr),Option (Jn c tg x)
abbrev HJ:=lC->∀(c:RC)(x:Expr),Option (Is c x)
abbrev xJ:=lC->∀(c:RC)(x:Stmt),Option (M_ c x)
set_option genInjectivity false in
structure nW where
 e:List ml
 l:List Hk
 t:List DM
 i:List xS
 g:List HJ
 s:List xJ
noncomputable def ui{α β:Type}(f:α->Option β):List α->Option β
 |[]=>none
 |a::as=>match f a with
  |some b=>some b
  |none=>ui f as
def oU(R:nW):Nat->lC
 |0=>⟨λ_ _=>none,λ_ _=>none,λ_ _=>none,λ_ _ _=>none,λ_ _=>none,λ_ _=>none⟩
 |n+1 => ⟨λc x => ui (λr => r (oU R n) c x) R.e, λc x => ui (λr => r (oU R n) c x) R.l, λc x => ui (λr => r (oU R n) c x) R.t,
   λc tg x=>ui (λr=>r (oU R n) c tg x) R.i,λc x=>ui (λr=>r (oU R n) c x) R.g,λc x=>ui (λr=>r (oU R n) c x) R.s⟩
noncomputable def wh{α:Type}(C:Prop)[Decidable C](k:C->Option α):Option α:=if h:C then k h else none
section
variable{β:Type}
section
variable{α:Type}(e:List α)
noncomputable def v0(k:e=[]->Option β):Option β:=match e,k with
 |[],k=>k rfl
 |_,_=>none
noncomputable def vC(k:∀a b,e=a::b->Option β):Option β:=match e,k with
 |a::b,k=>k a b rfl
 |_,_=>none
def v1(k:∀a,e=[a]->Option β):Option β:=vC e λa c h=>v0 c λb=>k a (b ▸ h)
def v2(k:∀a b,e=[a,b]->Option β):Option β:=vC e λa g h=>v1 g λb c=>k a b (c ▸ h)
end
section
variable{α:Type}(e:Option α)
noncomputable def oN(k:e=none->Option β):Option β:=match e,k with
 |none,k=>k rfl
 |_,_=>none
noncomputable def oS(k:∀a,e=some a->Option β):Option β:=match e,k with
 |some a,k=>k a rfl
 |_,_=>none
end
section
variable(e:Expr)
noncomputable def sF(k:∀x p,e=.Name x p->Option β):Option β:=match e,k with
 | .Name x p,k=>k x p rfl
 |_,_=>none
noncomputable def QI(k:∀f c b p,e=.Call f c b p->Option β):Option β:=match e,k with
 | .Call f c b p,k=>k f c b p rfl
 |_,_=>none
noncomputable def Nz(k:∀o x p,e=.Attribute o x p->Option β):Option β:=match e,k with
 | .Attribute o x p,k=>k o x p rfl
 |_,_=>none
noncomputable def Be(k:∀a b p,e=.Subscript a b p->Option β):Option β:=match e,k with
 | .Subscript a b p,k=>k a b p rfl
 |_,_=>none
noncomputable def Op(k:∀v n p,e=.Constant v n p->Option β):Option β:=match e,k with
 | .Constant v n p,k=>k v n p rfl
 |_,_=>none
noncomputable def Np(k:∀a o b p,e=.BinOp a o b p->Option β):Option β:=match e,k with
 | .BinOp a o b p,k=>k a o b p rfl
 |_,_=>none
noncomputable def MW(k:∀a os bs p,e=.Compare a os bs p->Option β):Option β:=match e,k with
 | .Compare a os bs p,k=>k a os bs p rfl
 |_,_=>none
noncomputable def Kb(k:∀o b p,e=.BoolOp o b p->Option β):Option β:=match e,k with
 | .BoolOp o b p,k=>k o b p rfl
 |_,_=>none
noncomputable def Ff(k:∀o a p,e=.UnaryOp o a p->Option β):Option β:=match e,k with
 | .UnaryOp o a p,k=>k o a p rfl
 |_,_=>none
noncomputable def vTp(k:∀b n p,e=.Tuple b n p->Option β):Option β:=match e,k with
 | .Tuple b n p,k=>k b n p rfl
 |_,_=>none
noncomputable def TM(k:∀b p,e=.List b p->Option β):Option β:=match e,k with
 | .List b p,k=>k b p rfl
 |_,_=>none
noncomputable def Yp(k:∀a b s p,e=.Slice a b s p->Option β):Option β:=match e,k with
 | .Slice a b s p,k=>k a b s p rfl
 |_,_=>none
noncomputable def Nu(k:∀x b sc p,e=.ListComp x b sc p->Option β):Option β:=match e,k with
 | .ListComp x b sc p,k=>k x b sc p rfl
 |_,_=>none
def zW(k:∀x p b q,e=.Call (.Name x p) b [] q->Option β):Option β:=QI e λf b c q h=>sF f λx p l=>v0 c λg=>k x p b q (l ▸ g ▸ h)
def CV(k:∀x p a q,e=.Call (.Name x p) [a] [] q->Option β):Option β:=zW e λx p c q h=>v1 c λa b=>k x p a q (b ▸ h)
def L4(k:∀x p a b q,e=.Call (.Name x p) [a,b] [] q->Option β):Option β:=zW e λx p g q h=>v2 g λa b c=>k x p a b q (c ▸ h)
def vM(k:∀o x p b q,e=.Call (.Attribute o x p) b [] q->Option β):Option β:=QI e λf b c q h=>Nz f λo x p l=>v0 c λg=>k o x p b q (l ▸ g ▸ h)
def Nr(k:∀a o b p,e=.Compare a [o] [b] p->Option β):Option β:=MW e λa os bs p h=>v1 os λo g=>v1 bs λb c=>k a o b p (g ▸ c ▸ h)
def D0(k:∀a lo c p q,e=.Subscript a (.Slice lo c none p) q->Option β):Option β:=Be e λa b q h=>Yp b λlo c s p l=>oN s λg=>k a lo c p q (g ▸ l ▸ h)
end
section
variable(e:Stmt)
noncomputable def Vo(k:∀b a p,e=.Assign b a p->Option β):Option β:=match e,k with
 | .Assign b a p,k=>k b a p rfl
 |_,_=>none
noncomputable def Ck(k:∀o p,e=.Return o p->Option β):Option β:=match e,k with
 | .Return o p,k=>k o p rfl
 |_,_=>none
noncomputable def Hm(k:∀a p,e=.Expr a p->Option β):Option β:=match e,k with
 | .Expr a p,k=>k a p rfl
 |_,_=>none
noncomputable def I_(k:∀t a b p,e=.If t a b p->Option β):Option β:=match e,k with
 | .If t a b p,k=>k t a b p rfl
 |_,_=>none
noncomputable def WK(k:∀t a b p,e=.While t a b p->Option β):Option β:=match e,k with
 | .While t a b p,k=>k t a b p rfl
 |_,_=>none
noncomputable def N9(k:∀t i a b p,e=.For t i a b p->Option β):Option β:=match e,k with
 | .For t i a b p,k=>k t i a b p rfl
 |_,_=>none
noncomputable def KQ(k:∀a b p,e=.Raise a b p->Option β):Option β:=match e,k with
 | .Raise a b p,k=>k a b p rfl
 |_,_=>none
noncomputable def Nw(k:∀a h b d p,e=.Try a h b d p->Option β):Option β:=match e,k with
 | .Try a h b d p,k=>k a h b d p rfl
 |_,_=>none
def yU(k:∀t a p,e=.Assign [t] a p->Option β):Option β:=Vo e λb a p h=>v1 b λt c=>k t a p (c ▸ h)
end
end
abbrev UM(c:RC)(g:List Expr):={r:CA // (∀{X:Cx},Good X c->SA X g r)/\g.all p_=true/\∀l st ds b,r l st=.ok ds b->ds.length=g.length}
def sZ(q:lC)(c:RC):∀b:List Expr,Option (UM c b)
 |[]=>some ⟨aY,λ_=>HF,rfl,Oi⟩
 |e::b=>wh (p_ e=true) λh=>(q.e c e).bind λf=>(sZ q c b).bind λr=>some ⟨ak f.1 r.1,λg=>IN (f.2 g) (r.2.1 g) (nQ h),by rw[bG,h,r.2.2.1];rfl,KA r.2.2.2⟩
abbrev UI(c:RC)(e:Option Expr):={r:CO // ∀{X:Cx},Good X c->SO X e r}
def zN(q:lC)(c:RC):∀e:Option Expr,Option (UI c e)
 |none=>some ⟨eF,λ_=>Yh⟩
 |some e=>(q.e c e).bind λf=>some ⟨dW f.1,λg=>U9 (f.2 g)⟩
abbrev Ii(c:RC)(b:List Stmt):={r:CS // ∀{X:Cx},Good X c->vX X b r}
def qu(q:lC)(c:RC):∀h:List Stmt,Option (Ii c h)
 |[]=>some ⟨aH,λ_=>Jk⟩
 |s::h=>(q.s c s).bind λa=>(qu q c h).bind λb=>some ⟨aF a.1 b.1,λg=>LF (a.2 g) (b.2 g)⟩
def Bb(c:RC)(x:Str):Option {i:Nat // c.N[i]?=some x/\(c.sc.names.lookup x=some .local\/c.sc.names.lookup x=some .cell\/c.sc.names.lookup x=some .free)/\j_ x=true}:=wh _ λh=>some ⟨c.N.idxOf x,h⟩
theorem T5{X:Cx}{c:RC}{x:Str}{i:Nat}{p:Pos}(g:Good X c)(h:c.N[i]?=some x/\(c.sc.names.lookup x=some .local\/c.sc.names.lookup x=some .cell\/c.sc.names.lookup x=some .free)/\j_ x=true):SE X (.Name x p) (am i):=by
 obtain⟨l,b,o⟩:=h;rw[<- g.N]at l;rcases b with b|b|b
 ·exact JY g.S _ l b (oB o) (.inl rfl)
 ·exact JY g.S _ l b (oB o) (.inr (.inl rfl))
 ·exact JY g.S _ l b (oB o) (.inr (.inr rfl))
def JR:ml:=λ_ c e=>sF e λx _ h=>(Bb c x).bind λi=>some ⟨am i.1,λg=>h ▸ T5 g i.2⟩
def Az{α:Type}(l:List (Str × α))(x:Str):Option {a:α // l.lookup x=some a}:=oS (l.lookup x) λa h=>some ⟨a,h⟩
def DL:ml:=λ_ c e=>sF e λx _ e=>wh (c.glo x=true/\j_ x=true) λh=>(Az c.C x).bind λd=>some ⟨ay d.1,λg=>by subst e;obtain⟨v,u,a,b,k⟩:=g.C _ _ d.2;exact Ru g.S (beq_iff_eq.mp h.1) a b (oB h.2) k⟩
noncomputable def DJ:Const->Option D
 | .int i=>some (.int i)
 | .str i=>some (.str i)
 | .bool i=>some (.bl i)
 | .none=>some .non
 |_=>none
theorem S7{X:Cx}{v:Const}{n:Nat}{p:Pos}{d:D}(h:DJ v=some d):SE X (.Constant v n p) (ay d):=by
 cases v<;>cases h
 ·exact Xc
 ·exact ZB
 ·exact Qdf
 ·exact Y7
def ZO{α:Type}(o:Option α):Option {a:α // o=some a}:=oS o λa h=>some ⟨a,h⟩
def Js:ml:=λ_ _ e=>Op e λv _ _ h=>(ZO (DJ v)).bind λd=>some ⟨ay d.1,λ_=>h ▸ S7 d.2⟩
def DO:ml:=λq c e=>(q.l c e).bind λa=>some ⟨bZ a.1,λg=>Qeg (a.2 g)⟩
abbrev OpU(op:uI)(f:D->D->M D):Prop:=∀{X:Cx},X.A.units+60 < dZ->OpR X (eN op) (nU X.K f)
abbrev HW(op:mZ)(f:D->D->M D):Prop:=∀{X:Cx},X.A.units+60 < dZ->OpR X (cz op) (nU X.K f)
def C9(o:uI)(f:D->D->M D)(h:OpU o f):ml:=λq c e=>Np e λa op b _ v=>wh (op=o) λz=>(q.e c a).bind λu=>(q.e c b).bind λl=>some ⟨c2 f u.1 l.1,λg=>v ▸ z ▸ Ta (h g.hu) (u.2 g) (l.2 g)⟩
abbrev Rr(c:RC)(x:Expr):={r:CE // ∀{X:Cx},Good X c->SE X x r/\ST X x (cC r)}
abbrev tz:=lC->∀(c:RC)(x:Expr),Option (Rr c x)
noncomputable def tz.e(r:tz):ml:=λq c x=>(r q c x).bind λf=>some ⟨f.1,λg=>(f.2 g).1⟩
def tz.t(r:tz):DM:=λq c x=>(r q c x).bind λf=>some ⟨cC f.1,λg=>(f.2 g).2⟩
def tj(o:mZ)(f:D->D->M D)(h:HW o f):tz:=λq c e=>Nr e λa op b _ v=>wh (op=o/\Ax b=true) λz=>(q.e c a).bind λu=>(q.e c b).bind λl=>some ⟨c2 f u.1 l.1,λg=>v ▸ z.1 ▸ ⟨Zr (h g.hu) (u.2 g) (l.2 g) (Fi z.2),Rf (h g.hu) (u.2 g) (l.2 g) (Fi z.2)⟩⟩
def EO(t:Nat)(o:mZ)(f:D->D->M D)(h:HW o f):tz:=λq c e=>wh (c.tag e.pos t=true) λ_=>tj o f h q c e
def wD(o:mZ)(f:D->D->M D)(h:HW o f)(o':mZ)(G:D->D->M D)(h':HW o' G):tz:=λq c e=>MW e λa os bs _ J=>v2 os λop u I=>v2 bs λb d H=>wh (op=o/\u=o'/\Ax d=true) λz=>(q.e c a).bind λE=>(q.e c b).bind λC=>(q.e c d).bind λv=>some ⟨ii f G E.1 C.1 v.1,λg=>by subst J I H;obtain⟨rfl,rfl,l⟩:=z;exact⟨Yu (h g.hu) (h' g.hu) (E.2 g) (C.2 g) (v.2 g) (show fY _ _=false from Fi l),YY (h g.hu) (h' g.hu) (E.2 g) (C.2 g) (v.2 g) (show fY _ _=false from Fi l)⟩⟩
def DK(q:lC)(c:RC)(p:Pos):∀o:List Expr,Option (Fq c (.BoolOp .And o p))
 |[a]=>(q.e c a).bind λh=>some ⟨h.1,λg=>N1 (h.2 g)⟩
 |a::b::r=>(q.e c a).bind λh=>(DK q c p (b::r)).bind λl=>some ⟨qV h.1 l.1,λg=>YO (h.2 g) (l.2 g)⟩
 |_=>none
def PF(q:lC)(c:RC)(p:Pos):∀o:List Expr,Option (Fq c (.BoolOp .Or o p))
 |[a]=>(q.e c a).bind λh=>some ⟨h.1,λg=>N1 (h.2 g)⟩
 |a::b::r=>(q.e c a).bind λh=>(PF q c p (b::r)).bind λl=>some ⟨Nx h.1 l.1,λg=>UB (h.2 g) (l.2 g)⟩
 |_=>none
def Lp:ml:=λq c e=>Kb e λo b p h=>match o,h with
 | .And,h=>(DK q c p b).bind λf=>some ⟨f.1,λg=>h ▸ f.2 g⟩
 | .Or,h=>(PF q c p b).bind λf=>some ⟨f.1,λg=>h ▸ f.2 g⟩
def Ki:ml:=λq c e=>Ff e λo a _ h=>wh (o=.Not) λz=>(q.e c a).bind λb=>some ⟨vh b.1,λg=>h ▸ z ▸ Pn (b.2 g)⟩
def Mh:ml:=λq c e=>Ff e λo a _ h=>wh (o=.USub) λz=>(q.e c a).bind λb=>some ⟨c1 yF b.1,λg=>h ▸ z ▸ QfW Uc (b.2 g)⟩
def Mz:ml:=λq c e=>vTp e λl _ _ h=>(sZ q c l).bind λb=>some ⟨d8 b.1,λg=>h ▸ XN (b.2.1 g)⟩
def zk:ml:=λq c e=>Be e λa b _ h=>wh (Dd b=true) λz=>(q.l c a).bind λo=>(q.e c b).bind λl=>some ⟨kW o.1 l.1,λg=>h ▸ Zj (o.2 g) (l.2 g) (yK z)⟩
def D8:ml:=λq c e=>Be e λa b _ h=>wh (Dd b=true) λz=>(q.e c a).bind λo=>(q.e c b).bind λl=>some ⟨c2 bz o.1 l.1,λg=>h ▸ XH g.hu (o.2 g) (l.2 g) (yK z)⟩
noncomputable abbrev G6(X:Cx)(b:Pos)(c:List Expr):Prop:=((di b (av c X.env)).all (λx => !x.1)&&(ke b (fP [] X.env)).all (λx=>x.1.isSome)&&decide (c.length+([]:List eR).length+(if ([]:List eR).isEmpty then 0 else 1) < 30))=true
theorem D2{X:Cx}{b:Pos}{c:List Expr}(h:c.all p_=true)(g:c.length < 30):G6 X b c:=by unfold G6;rw[OM h];exact (aO _ _).mpr ⟨rfl,aP g⟩
def rC(x:String)(f:CE->CE->CE)(ok:RC->Pos->Bool) (h:∀{X:Cx}{o e:Expr}{v u:CE}{l b:Pos},X.A.units+60 < dZ->SE X o v->SE X e u->cY o (ag x) X.env (eval o X.env)=eval o X.env->G6 X b [e]->(l.endLine == b.line)=true ->
  av [e] X.env=(false,eval e X.env)::av [] X.env->(di b (av [] X.env)).any (·.1)=false->SE X (.Call (.Attribute o (ag x) l) [e] [] b) (f v u)):ml:=
 λq c e=>vM e λo y O L E J=>v1 L λa I=>wh (y=ag x/\G3 o=true/\p_ a=true/\ok c E=true/\(O.endLine == E.line)=true) λz=>(q.e c o).bind λv=>(q.e c a).bind λu=>some ⟨f v.1 u.1,λg=>by subst J I;obtain⟨rfl,H,C,_,G⟩:=z;exact h g.hu (v.2 g) (u.2 g) (J1 H) (D2 (by rw[bG,C];rfl) (vf rfl)) G (nQ C) rfl⟩
def Er:ml:=λq c e=>zW e λx _ b _ G=>vC b λa b E=>(Az c.G x).bind λr=>wh (c.glo x=true/\j_ x=true/\r.1.k<=c.k/\r.1.n=(a::b).length) λz=>(sZ q c (a::b)).bind λh=>some ⟨ba r.1.g h.1,λg=>by subst G E;obtain⟨C,v,u,o⟩:=z;obtain⟨f,H,m,F,kp,B,_⟩:=(g.G _ _ r.2).ex;obtain⟨x,y,l⟩:=h.2;rw[bG,aO]at y;exact Ra g.S (beq_iff_eq.mp C) F (g.hr.mono u) m kp B (oB v) (x g) (by rw[o];exact l) (nQ y.1) (Av y.2)⟩
def RC.bl(c:RC)(x:Str):Bool:=c.glo x&&c.Z.contains x
theorem Good.gl{X:Cx}{c:RC}(g:Good X c){x:Str}(h:c.bl x=true):Gl X x/\X.mg x=none:=by unfold RC.bl at h;rw[aO]at h;exact⟨g.S.glo _ (beq_iff_eq.mp h.1),g.Z _ h.2⟩
def uw(x:String)(ok:RC->Pos->Bool)(f:List D->M D)(h:∀{X:Cx}{e:Expr}{o:CA}{p pos:Pos},X.calm=true->X.A.units+60 < dZ->Gl X (ag x)->X.mg (ag x)=none->SL X e o->av [e] X.env=[(false,eval e X.env)]->SE X (.Call (.Name (ag x) p) [e] [] pos) (im f o)):ml:=
 λq c e=>CV e λy _ a p e=>wh (y=ag x/\c.bl y=true/\p_ a=true/\ok c p=true) λz=>(q.l c a).bind λl=>some ⟨im f l.1,λg=>by subst e;obtain⟨rfl,b,u,_⟩:=z;exact h g.S.calm g.hu (g.gl b).1 (g.gl b).2 (l.2 g) (nQ u)⟩
def wj(x:String)(ok:RC->Pos->Bool)(f:D->M D)(h:∀{X:Cx}{e:Expr}{b:CE}{p pos:Pos},X.calm=true->X.A.units+60 < dZ->Gl X (ag x)->X.mg (ag x)=none->SE X e b->av [e] X.env=[(false,eval e X.env)]->SE X (.Call (.Name (ag x) p) [e] [] pos) (c1 f b)):ml:=
 λq c e=>CV e λy _ a p e=>wh (y=ag x/\c.bl y=true/\p_ a=true/\ok c p=true) λz=>(q.e c a).bind λb=>some ⟨c1 f b.1,λg=>by subst e;obtain⟨rfl,l,o,_⟩:=z;exact h g.S.calm g.hu (g.gl l).1 (g.gl l).2 (b.2 g) (nQ o)⟩
def zo(y:String)(T:ql y)(h:cS (ag y)=some (.type y))(n1:ag y≠ag "__name__")(n2:(ag y == ag "__debug__")=false):ml:=
 λq c e=>L4 e λz _ a b _ E=>sF b λx _ C=>wh (z=ag "isinstance"/\x=ag y/\c.bl z=true/\c.bl x=true/\p_ a=true) λz=>(q.e c a).bind λu=>some ⟨c1 (eY [y]) u.1,λg=>by subst E C;obtain⟨rfl,rfl,o,l,v⟩:=z;exact TK T (g.gl o).1 (g.gl o).2 (g.gl l).1 (g.gl l).2 h (u.2 g) (by nofun) n1 n2 (nQ v) rfl rfl⟩
section
def LM:Hk:=λq c e=>TM e λl _ h=>(sZ q c l).bind λb=>some ⟨dE b.1,λg=>h ▸ WD (b.2.1 g)⟩
def BO:Hk:=λq c e=>D0 e λa lo o _ p h=>wh (c.tag p 1=false) λ_=>(q.e c a).bind λl=>(zN q c lo).bind λfl=>(zN q c o).bind λb=>some ⟨d_ l.1 fl.1 b.1,λg=>h ▸ Xs (l.2 g) (fl.2 g) (b.2 g)⟩
noncomputable def uD:Nat->Expr->List Str
 |_,.Name x _=>[x]
 |n+1,.Tuple es _ _=>es.flatMap (uD n)
 |_,_=>[]
abbrev EA(c:RC)(b:List Expr):={r:CT // ∀{X:Cx},Good X c->vA X b r}
def EW(q:lC)(c:RC):∀b:List Expr,Option (EA c b)
 |[]=>some ⟨cD,λ_=>RJ⟩
 |[t]=>(q.t c t).bind λf=>some ⟨f.1,λg=>V4 (f.2 g)⟩
 |_=>none
noncomputable def RC.inn(c:RC)(sc:dw)(own:List Str):RC:={ c with sc:=sc,N:=own++c.N.filter λx=>sc.names.lookup x == some .free,top:=false,T:=none }
noncomputable def RC.ix(c:RC)(sc:dw):List Nat:=(c.N.filter λx=>sc.names.lookup x == some .free).map c.N.idxOf
def RC.cok(c:RC)(sc:dw)(own:List Str)(b:Expr):Prop:=r8 c.sc sc=true/\qi c.N sc (c.inn sc own).N own.length (c.ix sc)=true/\(c.inn sc own).N.Nodup/\Ax b=true
instance(c:RC)(sc:dw)(own:List Str)(b:Expr):Decidable (c.cok sc own b):=by unfold RC.cok;infer_instance
theorem Good.inn{X:Cx}{c:RC}(g:Good X c){sc:dw}{own:List Str}{b:Expr}(h:c.cok sc own b)(l:List af)(s:ae)(H:Hp):Good (iU X (c.inn sc own).N sc l s H) (c.inn sc own):=
 ⟨WF g.S.calm,rfl,h.2.2.1,g.hr,λx r z=>⟨(g.G x r z).ex⟩,g.Z,g.C,lQ,(λz=>(by cases z)),g.W,λ_ z=>(by cases z)⟩
set_option genInjectivity false in
structure Je(c:RC)(e:Expr) where
 x:Expr
 tg:Expr
 b:Expr
 ifs:List Expr
 sc:dw
 p:Pos
 eq:e=.ListComp x [⟨tg,b,ifs,0⟩] sc p
 ok:c.cok sc (uD 8 tg).eraseDups b
 i:Jn c tg b
 g:Is (c.inn sc (uD 8 tg).eraseDups) tg
 t:EA (c.inn sc (uD 8 tg).eraseDups) ifs
 f:Fq (c.inn sc (uD 8 tg).eraseDups) x
def Je.r{c:RC}{e:Expr}(m:Je c e):CA:=dR (uD 8 m.tg).eraseDups.length (c.ix m.sc) m.i.1 m.g.1 m.t.1 m.f.1
theorem Pu{a:Comprehension}(h:a.is_async=0):a=⟨a.target,a.iter,a.ifs,0⟩:=by cases a;exact bS _ h
def E8(q:lC)(c:RC)(e:Expr):Option (Je c e):=Nu e λx l sc p h=>v1 l λa b=>wh (a.is_async=0/\c.cok sc (uD 8 a.target).eraseDups a.iter) λz=>
 (q.i c a.target a.iter).bind λo=>(q.g (c.inn sc (uD 8 a.target).eraseDups) a.target).bind λg=>(EW q (c.inn sc (uD 8 a.target).eraseDups) a.ifs).bind λt=>(q.e (c.inn sc (uD 8 a.target).eraseDups) x).bind λf=>
  some ⟨x,a.target,a.iter,a.ifs,sc,p,by rw[h,b,<- Pu z.1],z.2,o,g,t,f⟩
def DR:Hk:=λq c e=>(E8 q c e).bind λm=>some ⟨m.r,λg=>by obtain⟨x,tg,b,u,sc,p,rfl,ok,l,mg,mt,o⟩:=m;exact YF g.S.calm (Ke g.S ok.1) (Ka g.N ok.2.1) (l.2 g) (λh s H=>⟨mg.2 (g.inn ok h s H),mt.2 (g.inn ok h s H),o.2 (g.inn ok h s H)⟩) (D_ ok.2.2.2)⟩
abbrev Qp(c:RC)(o:BoolOp)(b:List Expr):={r:CT // ∀{X:Cx}{p:Pos},Good X c->PW X (.BoolOp o b p) (nM X.K r)}
def AH(q:lC)(c:RC):∀o:List Expr,Option (Qp c .And o)
 |[]=>none
 |[a]=>(q.t c a).bind λh=>some ⟨h.1,λg=>WQ (h.2 g)⟩
 |a::b::r=>(q.t c a).bind λh=>(AH q c (b::r)).bind λl=>some ⟨mE h.1 l.1,λg=>Sa (h.2 g) (l.2 g)⟩
def EQ(q:lC)(c:RC):∀o:List Expr,Option (Qp c .Or o)
 |[]=>none
 |[a]=>(q.t c a).bind λh=>some ⟨h.1,λg=>PJ (h.2 g)⟩
 |a::b::r=>(q.t c a).bind λh=>(EQ q c (b::r)).bind λl=>some ⟨n9 h.1 l.1,λg=>Oj (h.2 g) (l.2 g)⟩
def Ba:DM:=λq c e=>Kb e λo b p h=>match o,h with
 | .And,h=>(AH q c b).bind λf=>some ⟨f.1,λg=>h ▸ L2.PW.pt (f.2 g)⟩
 | .Or,h=>(EQ q c b).bind λf=>some ⟨f.1,λg=>h ▸ L2.PW.pt (f.2 g)⟩
def A_:DM:=λq c e=>Ff e λo a _ h=>wh (o=.Not) λz=>(q.t c a).bind λf=>some ⟨gz f.1,λg=>h ▸ z ▸ QC (f.2 g)⟩
def Uw:DM:=λq c e=>wh (LG e=true) λz=>(q.e c e).bind λf=>some ⟨kP f.1,λg=>O9 (f.2 g) (Nj z)⟩
noncomputable def Hc:Expr->Bool
 | .Tuple .. => true
 |_=>false
noncomputable def TpT(tg:Expr):Prop:=∃b n p,tg=.Tuple b n p
theorem JI{tg:Expr}(h:Hc tg=true):TpT tg:=by cases tg<;>first|exact⟨_,_,_,rfl⟩|cases h
def JO(t:Expr->Bool)(x:String)(ok:RC->Pos->Bool)(f:CE->CI)(h:∀{X:Cx}{tg e:Expr}{b:CE}{p pos:Pos},t tg=true->Gl X (ag x)->X.mg (ag x)=none->SE X e b->av [e] X.env=[(false,eval e X.env)]->SI X tg (.Call (.Name (ag x) p) [e] [] pos) (f b)):xS:=
 λq c tg e=>CV e λy _ a p e=>wh (y=ag x/\c.bl y=true/\p_ a=true/\t tg=true/\ok c p=true) λz=>(q.e c a).bind λb=>some ⟨f b.1,λg=>by subst e;obtain⟨rfl,l,u,o,_⟩:=z;exact h o (g.gl l).1 (g.gl l).2 (b.2 g) (nQ u)⟩
def PD(t:Expr->Bool)(x:String)(ok:RC->Pos->Bool)(f:CE->CE->CI) (h:∀{X:Cx}{tg a b:Expr}{u o:CE}{p pos:Pos},t tg=true->Gl X (ag x)->X.mg (ag x)=none->SE X a u->SE X b o->av [a,b] X.env=(false,eval a X.env)::av [b] X.env->av [b] X.env=(false,eval b X.env)::av [] X.env ->
  av [a,b] X.env=[(false,eval a X.env),(false,eval b X.env)]->SI X tg (.Call (.Name (ag x) p) [a,b] [] pos) (f u o)):xS:=
 λq c tg e=>L4 e λy _ a b p e=>wh (y=ag x/\c.bl y=true/\p_ a=true/\p_ b=true/\t tg=true/\ok c p=true) λz=>(q.e c a).bind λu=>(q.e c b).bind λo=>some ⟨f u.1 o.1,λg=>by subst e;obtain⟨rfl,C,v,l,E,_⟩:=z;exact h E (g.gl C).1 (g.gl C).2 (u.2 g) (o.2 g) (nQ v) (nQ l) (by rw[nQ v,nQ l];rfl)⟩
noncomputable abbrev EU:Expr->Bool:=λ_=>true
noncomputable abbrev ki:RC->Pos->Bool:=λ_ _=>true
def zl:xS:=JO EU "range" ki MM.iy λ_ g m a s=>U0 g m a s
def zK:xS:=PD EU "range" ki MM.om λ_ g m a b s t u=>S_ g m a b s t u t
def Bt(t:Bool):xS:=PD Hc "zip" (λc p=>c.tag p 7 == t) tF λh g m a b s t u=>by obtain⟨_,_,_,rfl⟩:=JI h;rw[Qgn];exact Qgk true true g m a b s t u t
def B4:xS:=JO Hc "enumerate" ki qk λh g m a s=>by obtain⟨_,_,_,rfl⟩:=JI h;rw[Qgo];exact NY true g m a s
def DF:xS:=λq c _ e=>(q.e c e).bind λf=>some ⟨lx f.1,λg=>Zp (f.2 g)⟩
noncomputable abbrev Qt(c:RC)(x:Str)(i:Nat):Prop:=c.N[i]?=some x/\(c.sc.names.lookup x=some .local\/c.sc.names.lookup x=some .cell)
def Ar(c:RC)(x:Str):Option {i:Nat // Qt c x i}:=wh _ λh=>some ⟨c.N.idxOf x,h⟩
theorem AB{X:Cx}{c:RC}(g:Good X c){x:Str}{i:Nat}(h:Qt c x i):X.N[i]?=some x/\∃k,c.sc.names.lookup x=some k/\(k=.local\/k=.cell):=by
 refine⟨by rw[g.N];exact h.1,?_⟩;rcases h.2 with b|b
 ·exact⟨_,b,.inl rfl⟩
 ·exact⟨_,b,.inr rfl⟩
def U2:HJ:=λ_ c e=>sF e λx _ h=>(Ar c x).bind λi=>some ⟨aU i.1,λg=>by obtain⟨o,k,l,b⟩:=AB g i.2;exact h ▸ Yw g.S _ g.nd o l b⟩
abbrev IS(c:RC)(b:List Expr):={r:List D->Loc->M Loc // ∀{X:Cx},Good X c->Bk X b r/\(dH b X.env).length=b.length/\(dH b X.env).findIdx? (·.1)=none}
theorem Xj{X:Cx}{e:Expr}{c:List Expr}{a:CG}{b:List D->Loc->M Loc}(l:p_ e=true)(o:SG X e a)(h:Bk X c b/\(dH c X.env).length=c.length/\(dH c X.env).findIdx? (·.1)=none):Bk X (e::c) (cm a b)/\(dH (e::c) X.env).length=(e::c).length/\(dH (e::c) X.env).findIdx? (·.1)=none:=by
 obtain⟨v,u,d⟩:=h;have g:dH (e::c) X.env=(false,mG e X.env)::dH c X.env:=by cases e<;>first|rfl|cases l
 refine⟨SK o v (by rw[g];rfl),by rw[g];exact bS (· + 1) u,?_⟩;rw[g,List.findIdx?_cons,d];rfl
def Q6(q:lC)(c:RC):∀h:List Expr,Option (IS c h)
 |[]=>some ⟨gf,λ_=>⟨TY,rfl,rfl⟩⟩
 |e::h=>wh (p_ e=true) λl=>(q.g c e).bind λa=>(Q6 q c h).bind λb=>some ⟨cm a.1 b.1,λg=>Xj l (a.2 g) (b.2 g)⟩
def D5:HJ:=λq c e=>vTp e λb _ _ h=>(Q6 q c b).bind λf=>some ⟨fS b.length f.1,λg=>h ▸ UT g.S.calm (f.2 g).1 (f.2 g).2.1 (f.2 g).2.2⟩
def FR:HJ:=λq c e=>Be e λo i _ h=>wh (Dd i=true) λz=>(q.e c o).bind λf=>(q.e c i).bind λk=>some ⟨pb f.1 k.1,λg=>h ▸ Vt g.hu (f.2 g) (k.2 g) (λv=>by cases i<;>first|rfl|cases z)⟩
def Ej:xJ:=λq c e=>Ck e λo _ h=>oS o λa b=>(q.e c a).bind λf=>some ⟨cH f.1,λg=>h ▸ b ▸ Hu (f.2 g)⟩
def FJ:xJ:=λq c e=>Hm e λa _ h=>wh (CM a=true) λz=>(q.e c a).bind λf=>some ⟨iS f.1,λg=>h ▸ Zx (f.2 g) (xU z)⟩
def yM:xJ:=λ_ _ e=>KQ e λ_ _ _ h=>some ⟨vz,λ_=>h ▸ ZS⟩
def LX:xJ:=λq c e=>I_ e λt a b _ h=>(q.t c t).bind λl=>(qu q c a).bind λu=>(qu q c b).bind λo=>some ⟨ik l.1 u.1 o.1,λg=>h ▸ Qe (l.2 g) (u.2 g) (o.2 g)⟩
def EM:xJ:=λq c e=>N9 e λtg l a b _ h=>v0 b λC=>wh (Ax l=true) λz=>(q.i c tg l).bind λo=>(q.g c tg).bind λu=>(qu q c a).bind λv=>some ⟨mF o.1 u.1 v.1,λg=>h ▸ C ▸ ZW g.ps g.S.calm (o.2 g) (u.2 g) (v.2 g) (D_ z)⟩
def Ml:xJ:=λq c e=>yU e λt a _ h=>sF t λx _ b=>wh (CM a=true\/(c.top=true/\c.sc.names.lookup x=some .cell)) λz=>(Ar c x).bind λi=>(q.e c a).bind λf=>some ⟨bY (aU i.1) f.1,λ{X}g=>by
 subst h b;obtain⟨b,k,C,v⟩:=AB g i.2;refine Ya g.S _ g.nd b C (f.2 g) v ?_;rcases z with o|⟨l,u⟩
 ·exact xU o
 ·have e:(X.env.kindOf x == some ff.local)=false:=by rw[(g.kd l).2 x,u];rfl
  cases a<;>first|rfl|(unfold eW;simp only[e,Bool.and_false,ng])⟩
theorem X4{X:Cx}{c:RC}(g:Good X c){e:Expr}{v:List Comprehension}{sc:dw}{p b:Pos}{y:Str}{n:Nat}(h:c.top=true)(o:c.sc.names.lookup y=some .local)(l:(b.line == p.line)=true)(u:(sc.names.any λz=>z.1 == y&&(z.2 == .local||z.2 == .cell))=false):
  eW (.ListComp e v sc p) (some (.Name y b)) n X.env=pure true:=by
 have E:(X.env.kindOf y == some ff.local)=true:=by rw[(g.kd h).2 y,o];rfl
 have C:(X.env.blockKind == tQ)=true:=by rw[(g.kd h).1];rfl
 show (pure (X.env.blockKind == tQ&&X.env.kindOf y == some ff.local&&b.line == p.line && !(sc.names.any λz=>z.1 == y&&(z.2 == .local||z.2 == .cell))):Sem Bool)=pure true;rw[E,C,l,u];rfl
def AY:xJ:=λq c s=>yU s λt a _ h=>sF t λy C l=>(E8 q c a).bind λm=>wh (c.top=true/\c.sc.names.lookup y=some .local/\(C.line == m.p.line)=true/\(m.sc.names.any λz=>z.1 == y&&(z.2 == .local||z.2 == .cell))=false) λz=>(Ar c y).bind λi=>some ⟨bY (aU i.1) (bZ m.r),λg=>by subst h l;obtain⟨l,k,v,u⟩:=AB g i.2;obtain⟨x,tg,b,I,sc,p,rfl,ok,E,mg,mt,G⟩:=m;exact SU g.nd l (g.S.loc _ _ v u).1 (g.S.loc _ _ v u).2 g.S.calm (Ke g.S ok.1) (Ka g.N ok.2.1) (E.2 g) (λo s H=>⟨mg.2 (g.inn ok o s H),mt.2 (g.inn ok o s H),G.2 (g.inn ok o s H)⟩) (X4 g z.1 z.2.1 z.2.2.1 z.2.2.2) (D_ ok.2.2.2)⟩
def Ft:xJ:=λq c s=>yU s λt a _ h=>Be t λo i p b=>(q.e c a).bind λf=>(q.g c (.Subscript o i p)).bind λk=>some ⟨bY k.1 f.1,λg=>by subst h b;exact Nq (f.2 g) (k.2 g) (by cases a<;>rfl) (by cases a<;>rfl) rfl⟩
noncomputable def Ua:Expr->Bool
 | .Tuple _ _ _=>false
 |_=>true
def Em:xJ:=λq c s=>yU s λt a _ h=>vTp t λl n p b=>wh (Ua a=true) λz=>(q.e c a).bind λf=>(q.g c (.Tuple l n p)).bind λk=>some ⟨bY k.1 f.1,λg=>by subst h b;exact Nq (f.2 g) (k.2 g) (by cases a<;>rfl) (by cases a<;>first|rfl|cases z) rfl⟩
section
variable{P:Program}{w:bw}{K:aj}{mg:Str->Option ac}{base:bu}
variable(P w K mg base) in
def cq(l:List (Str×RF)):Prop:=∀x r,l.lookup x=some r->GF P w K mg base x r
theorem XI:cq P w K mg base []:=λ_ _ h=>(by cases h)
theorem GO{l:List (Str×RF)}{x:Str}{r:RF}{f:af}{c:bU}(m:mg x=some (.ref f))(F:gO P w K mg base m9 r.k f c r.ps (mU K r.n r.g))(kp:fN K (.ref f)=true)(b:Binds K c r.ps [])(g:r.kw=true->L0 K c r.ps)(h:cq P w K mg base l):
  cq P w K mg base ((x,r)::l):=λy s z=>by
 by_cases e:y=x
 ·subst e;rw[gK]at z;cases z;exact⟨f,c,m,F,kp,b,g⟩
 ·rw[uA e]at z;exact h y s z
def Kc(K:aj)(mg:Str->Option ac)(base:bu)(x:Str)(f:af)(b:bU):Prop:=∃c P,iL K bN x=some (some (.ref f))/\b.code=.ref c/\oZ K c P=true/\BMod base mg
theorem Y4(R:nW)(j:Nat){x:Str}{g:Stmt}{f:af}{h:bU}{N ps:List Str}{k n m:Nat}{b:CS}{G:List (Str×RF)}{Z:List Str}{C:List (Str×D)}{H:List (Nat×Nat×Nat)}{W:WT}{T:Option (Nat×Str)}(F:tS K x x g f h)(S:iG N ps (a_ g))(hn:ps.length=n)(hm:N.length=m)
  (hG:cq P w K mg base G) (hZ:∀x,Z.contains x=true->mg x=none) (hC:∀x d,C.lookup x=some d->∃v u,mg x=some u/\RelV v u/\∀ρ H,dG K ρ H v d)
  (hb:(qu (oU R j) ⟨a_ g,N,k,G,Z,C,H,true,W,T⟩ (dk g)).map (·.1)=some b) (hW:P8 P w K mg base W) (hT:∀t,T=some t->t.2=x/\Kc K mg base x f h):gO P w K mg base m9 (k+1) f h ps (mU K n (bW m b)):=
 have ⟨v,_,e⟩:=dY.mp hb
 OZ F S hn hm λcdv A outer s Hp E l hr=>e ▸ v.2 ⟨Oh,rfl,S.nd,hr,hG,hZ,hC,lQ,λ_=>⟨by show (if (a_ g).kind.isAnnotationScope=true then _ else (a_ g).kind)=_;rw[S.kind];rfl,λ_=>rfl⟩,hW,λt z=>by obtain⟨J,c,P,Q,o,O,L⟩:=hT t z;obtain⟨oc,od,kV,doc,pm,an,I,ct,U,e1,Y,_⟩:=F.ex;rw[J];exact⟨f,_,h,c,P,Q,Y,rfl,o,O,by rw[<- o,l];rfl,rfl,L⟩⟩
end
end
section
variable{K:aj}{mg:Str->Option ac}
noncomputable def xV(mg:Str->Option ac)(Z:List Str):Prop:=∀x,Z.contains x=true->mg x=none
theorem Fv:xV mg []:=λ_ h=>(by cases h)
theorem iT{a:Str}{l:List Str}(h:mg a=none)(t:xV mg l):xV mg (a::l):=λx z=>by
 rw[c_,ky]at z;rcases z with z|z
 ·rw[beq_iff_eq.mp z];exact h
 ·exact t x z
def uU(K:aj)(mg:Str->Option ac)(C:List (Str×D)):Prop:=∀x d,C.lookup x=some d->∃v u,mg x=some u/\RelV v u/\∀ρ H,dG K ρ H v d
theorem E7:uU K mg []:=λ_ _ h=>(by cases h)
theorem Qh{a:Str}{l:List (Str×D)}{v:V}{d:D}{u:ac}(m:mg a=some u)(r:RelV v u)(q:∀ρ H,dG K ρ H v d)(t:uU K mg l):uU K mg ((a,d)::l):=λx e z=>by
 by_cases h:x=a
 ·subst h;rw[gK]at z;cases z;exact⟨v,u,m,r,q⟩
 ·rw[uA h]at z;exact t x e z
theorem DI{a y:Str}{l:List (Str×D)}{k:Tok}(m:mg a=some (.str y k))(t:uU K mg l):uU K mg ((a,.str y)::l):=Qh (v:=.str y) m ⟨k,rfl⟩ (λ_ _=>.str _) t
theorem EB{a:Str}{i:Int}{l:List (Str×D)}{k:Tok}(m:mg a=some (.int i k))(t:uU K mg l):uU K mg ((a,.int i)::l):=Qh (v:=.int i) m ⟨k,rfl⟩ (λ_ _=>.int _) t
end
section
theorem vk{x:Str}(h:j_ x=true):x≠"__name__":=(oB h).n
def DC:ml:=uw "max" ki rX λc _ g m a s=>Pw (Sg c) g m (by nofun) a (vk (by nofun)) (by nofun) s
def El:ml:=uw "all" ki oJ λc _ g m a s=>Pw (Vs c) g m (by nofun) a (vk (by nofun)) (by nofun) s
def FC:ml:=uw "tuple" ki lF λ_ _ g m a s=>Ry PR g m (by nofun) a (vk (by nofun)) (by nofun) s
def J2:ml:=wj "len" ki dL λ_ _ g m a s=>RB Yr g m (by nofun) a (vk (by nofun)) (by nofun) s
def Bl:ml:=wj "tuple" ki tupleD λ_ _ g m a s=>HI Xe g m (by nofun) a (vk (by nofun)) (by nofun) s
def FK:ml:=wj "list" ki u4 λ_ _ g m a s=>HI Wh g m (by nofun) a (vk (by nofun)) (by nofun) s
def Mi:ml:=wj "str" ki i7 λ_ _ g m a s=>HI V_ g m (by nofun) a (vk (by nofun)) (by nofun) s
def E9:ml:=wj "int" (λc p=>c.tag p 4) pd λ_ _ g m a s=>HI ZY g m (by nofun) a (vk (by nofun)) (by nofun) s
def zj:ml:=zo "int" Zv (by nofun) (vk (by nofun)) (by nofun)
def we:ml:=zo "bool" Td (by nofun) (vk (by nofun)) (by nofun)
def yX:ml:=zo "str" UZ (by nofun) (vk (by nofun)) (by nofun)
def vE:ml:=zo "tuple" Za (by nofun) (vk (by nofun)) (by nofun)
def yJ:ml:=rC "append" kZ ki λ_ o a b f l s p=>TF o a b f l s p
def Cb:ml:=rC "split" lU ki λ_ o a b f l s p=>Wn o a b f l s p
def Fh:ml:=rC "join" lG ki λ_ o a b f l s p=>Us o a b f l s p
def Eh:xS:=λq c _ e=>wh (c.tag e.pos 4=true) λ_=>(q.e c e).bind λf=>some ⟨wm f.1,λg=>ZM (f.2 g)⟩
end
section
variable{P:Program}{w:bw}{K:aj}{mg:Str->Option ac}{base:bu}
noncomputable def FnAt(K:aj)(mg:Str->Option ac)(x:Str)(b:Stmt):Prop:=∃a c,tS K x x b a c/\mg x=some (.ref a)
theorem gQ{h:bu}{x:Str}{b:Stmt}{f:af}{v H:Option af}{o:Array (Option ac)}{C kV E u g ct:ac}(X:K.In h)(G:h.Ns bN mg)(a:iL K bN x=some (some (.ref f)))
  (l:K.lookup f=some ⟨C,v,.func (dX x x (e9 b) (dk b) (a_ b) .none kV E u H g ct),o⟩) (c:kG K g x=true) (k:fN K (.ref f)=true):FnAt K mg x b:=
 ⟨f,_,Pm (st:=b) l c k,rB X G a⟩
noncomputable def qT(N P:List Str)(sc:dw):Bool:=(sc.kind == .function)&&(sc.isCoroutine == false)&&(sc.isGenerator == false)&&decide N.Nodup&&(N.take P.length == P)&&(P.all λx=>sc.names.lookup x == some .local||sc.names.lookup x == some .cell)&&(sc.names.all λy=>y.2 != .free)
theorem F8{N P:List Str}{sc:dw}(h:qT N P sc=true):iG N P sc:=by unfold qT at h;simp only[aO,beq_iff_eq,decide_eq_true_eq,cJ,ky,bne_iff_ne,ne_eq]at h;obtain⟨⟨⟨⟨⟨⟨v,u⟩,o⟩,l⟩,g⟩,c⟩,b⟩:=h;exact⟨v,u,o,l,g,c,b⟩
theorem MY(R:nW){r:List Str}{x:Str}{c:Stmt}{f:af}{g:bU}{ps:List Str}{k n m:Nat}{b:CS}{G:List (Str×RF)}{Z:List Str}{C:List (Str×D)}{H:List (Nat×Nat×Nat)}(F:tS K x x c f g)(S:qT (ps++r) ps (a_ c)=true)
  (o:(qu (oU R 40) ⟨a_ c,ps++r,k,G,Z,C,H,true,([],[]),none⟩ (dk c)).map (·.1)=some b) (v:cq P w K mg base G) (u:xV mg Z) (E:uU K mg C) (h:ps.length=n) (l:(ps++r).length=m):gO P w K mg base m9 (k+1) f g ps (mU K n (bW m b)):=
 Y4 R 40 F (F8 S) h l v u E o ⟨(λ_ _ z=>(by cases z)),(λ_ _ z=>(by cases z))⟩ λ_ z=>(by cases z)
theorem zy(R:nW){r:List Str}{x:Str}{h:Stmt}{ps:List Str}{k n m:Nat}{I:Bool}{l:CS}{G:List (Str×RF)}{Z:List Str}{C:List (Str×D)}{H:List (Nat×Nat×Nat)}(F:FnAt K mg x h)(S:qT (ps++r) ps (a_ h)=true)
  (b:∀(kV c u:ac)(v:Option af)(g ct:ac)(E:List ac),E.length=ps.length->lX (dX x x (e9 h) (dk h) (a_ h) .none kV c u v g ct) { pos:=E }=pure (ps.zip E))
  (Q:I=true->∀(kV c u:ac)(v:Option af)(g ct:ac)(s:ae)(o:List ac),o.length=ps.length->pr s (dX x x (e9 h) (dk h) (a_ h) .none kV c u v g ct) ⟨[],ps.zip o⟩ (ps.zip o))
  (hb:(qu (oU R 40) ⟨a_ h,ps++r,k,G,Z,C,H,true,([],[]),none⟩ (dk h)).map (·.1)=some l) (L:cq P w K mg base G) (hZ:xV mg Z) (hC:uU K mg C) (Y:ps.length=n:=by rfl) (hm:(ps++r).length=m:=by rfl) (U:I=true->¬ ps.getLast?=some (ag "most"):=by first|exact λz=>(by cases z)|exact λ_=>by decide):cq P w K mg base ((x,⟨n,k+1,ps,I,bW m l⟩)::G):=by
 obtain⟨f,fd,F,J⟩:=F;refine GO J (MY R F S hb L hZ hC Y hm) F.kp (F.binds b) (λz=>?_) L;obtain⟨oc,od,kV,c,u,v,g,ct,O,e,lk,hcd⟩:=F.ex;unfold L0;rw[aA (U z)];intro s o hl;rw[e];exact Q z kV c u v g ct s o hl
end
end MM
namespace PySem.SeqAt
open AutoSeq1 (wpAny_loadPart')
open MeetsSeq MeetsSeq2 MeetsSeq3 SeqRoads2
end PySem.SeqAt
namespace MM
open PySem PySem.Spec PyProof.Rows L2 PySem.SeqAt
section
variable{A:br}{s:ae}
def uf(h:bu)(v:ac)(p:Int×List Int):Prop:=∃a t b xs,v=.ref a/\h.IsTuple a #[.int p.1 t,.ref b]/\h.IsTuple b xs/\py xs.toList p.2
end
end MM
namespace MM
open PySem
abbrev At{α:Type}(_:α->aT->Prop):Type:=aT
inductive wp{α:Type}(m:M α)(Q:α->aT->Prop)(s:At Q):Prop
 |intro (a:α) (s':aT) (h:m s=.ok a s') (q:Q a s'):wp m Q s
theorem vy{α:Type}{m:M α}{Q:α->aT->Prop}{s:aT}:wp m Q s=(match m s with
 | .ok a s'=>Q a s'
 |_=>False):=by
 apply propext;constructor
 ·rintro ⟨a,s',h,q⟩;rw[h];exact q
 ·intro h;cases e:m s with
  |ok a s'=>rw[e]at h;exact⟨a,s',e,h⟩
  |exc _ _=>rw[e]at h;exact h.elim
  |bad=>rw[e]at h;exact h.elim
section
variable{α β:Type}{Q:α->aT->Prop}{s:aT}
theorem cM{m:M α}{a:α}{s':aT}(h:m s=.ok a s'):wp m Q s=Q a s':=by rw[vy,h]
theorem lK{m:M α}(h:m s=.bad):wp m Q s=False:=by rw[vy,h]
theorem k_{m:M β}{Q b:β->aT->Prop}{s:aT}(h:∀a s',Q a s'=b a s'):wp m Q s=wp m b s:=by rw[show Q=b from funext λa=>funext λt=>h a t]
theorem cO{a:α}:wp (ret a) Q s=Q a s:=cM rfl
theorem lW:wp (bad:M α) Q s=False:=lK rfl
theorem fk{m:M β}{f:β->M α}:wp (bnd m f) Q s=wp m (λa s'=>wp (f a) Q s') s:=by simp only[vy];unfold bnd;cases m s<;>rfl
theorem eA{c:Prop}[Decidable c]{m:M α}:wp (chk c m) Q s=(c/\wp m Q s):=by
 unfold chk;by_cases h:c
 ·simp[h]
 ·simp[h,lW]
theorem ia{o:MO}{Q:D->aT->Prop}:wp (alloc o) Q s=Q (.ref s.length) (s++[o]):=cM rfl
theorem ka{n:Nat}{ds:List D}{Q:List D->aT->Prop}(h:s[n]?=some (.lst ds)):wp (getL n) Q s=Q ds s:=by rw[vy];unfold getL;rw[h]
theorem Aq{n:Nat}{ds b:List D}{Q:Unit->aT->Prop}(h:s[n]?=some (.lst ds)):wp (putL n b) Q s=Q () (s.set n (.lst b)):=by rw[vy];unfold putL;rw[h]
theorem Ye{Q:Unit->aT->Prop}:wp (chkS eQ) Q s=Q () s:=by rw[vy];unfold chkS eQ;simp
theorem uo{m:M α}{b:α->aT->Prop}(h:wp m Q s)(f:∀a s',Q a s'->b a s'):wp m b s:=by
 simp only[vy]at *;cases e:m s with
 |ok a s'=>rw[e]at h;exact f a s' h
 |exc _ _=>rw[e]at h;exact h
 |bad=>rw[e]at h;exact h
theorem Mr{c:Prop}[Decidable c]{m n:M α}:wp (if c then m else n) Q s=if c then wp m Q s else wp n Q s:=by split<;>rfl
end
theorem F3{ds:List D}{i:Int}{d:D}(b:0<=i)(h:ds[i.toNat]?=some d):dM ds i=ret d:=by have c:i.toNat < ds.length:=(aq.mp h).1;unfold dM MM.pO;rw[aE b,aE (by ext)];dsimp only;rw[h]
theorem wU{n:Nat}{b:CS}{ds:List D}{Q:D->aT->Prop}{s:aT}:wp (bW n b ds) Q s=wp (b (ds.map some++db (n-ds.length) none)) (λf s'=>wp (vi f) Q s') s:=by unfold bW;rw[fk]
theorem Qir{g:CG}{b:CS}{same:aT->Prop}{Q:o_->aT->Prop}(W:List D->Loc->aT->Prop)
  (u:∀l s,W [] l s->wp (chkS same) (λ_ s'=>Q (.next l) s') s)
  (o:∀d ds l s,W (d::ds) l s->wp (chkS same) (λ_ v=>wp (g d l) (λC s2=>wp (b C) (λf c=>match f with
   | .next l2=>W ds l2 c
   | .cnt l2=>W ds l2 c
   | .brk l2=>Q (.next l2) c
   | .ret d=>Q (.ret d) c) s2) v) s):∀ds l s,W ds l s->wp (kD g b same ds l) Q s:=by
 intro ds
 induction ds with
 |nil=>
  intro l s h;unfold kD;rw[fk];exact uo (u l s h) λ_ s' q=>by rw[cO];exact q
 |cons d ds ih=>
  intro l s h;unfold kD;rw[fk];refine uo (o d ds l s h) λ_ v q=>?_;rw[fk];refine uo q λC s2 q=>?_;rw[fk];refine uo q λf c q=>?_;cases f with
  |next l2=>exact ih l2 c q
  |cnt l2=>exact ih l2 c q
  |brk l2=>show wp (ret _) _ _;rw[cO];exact q
  |ret d=>show wp (ret _) _ _;rw[cO];exact q
theorem Di{g:CG}{t:CT}{e:CE}{same:aT->Prop}{Q:List D->aT->Prop}(W:List D->List D->Loc->aT->Prop)
  (C:∀c l s,W c [] l s->wp (chkS same) (λ_ s'=>Q c s') s)
  (u:∀c d ds l s,W c (d::ds) l s->wp (chkS same) (λ_ G=>wp (g d l) (λo s2=>wp (t o) (λb v=>if b=true then wp (e o) (λx E=>W (c++[x]) ds o E) v else W c ds o v) s2) G) s):
  ∀ds c l s,W c ds l s->wp (collect g t e same ds l) (λxs s'=>Q (c++xs) s') s:=by
 intro ds
 induction ds with
 |nil=>
  intro c l s h;unfold collect;rw[fk];exact uo (C c l s h) λ_ s' q=>by rw[cO,bH];exact q
 |cons d ds ih=>
  intro c l s h;unfold collect;rw[fk];refine uo (u c d ds l s h) λ_ G q=>?_;rw[fk];refine uo q λo s2 q=>?_;rw[fk];refine uo q λb v q=>?_;cases b with
  |false=>exact ih c o v q
  |true=>
   show wp (bnd (e o) _) _ v;rw[fk];refine uo q λx E q=>?_;rw[fk];refine uo (ih (c++[x]) o E q) λxs H q=>?_;rw[cO];rw[cL]at q;exact q
theorem TD{e:CE}{xs:List D}{same:aT->Prop}{caps:Loc}{s:aT}{Q:List D->aT->Prop}(W:Nat->List D->aT->Prop)(hs:∀i b s,W i b s->same s)(H:W 0 [] s)
  (c:∀(i:Nat)d b s,xs[i]?=some d->W i b s->wp (e (some d::caps)) (λx s'=>W (i+1) (b++[x]) s') s) (o:∀b s,W xs.length b s->Q b s):
  wp (collect (aU 0) cD e same xs (none::caps)) Q s:=by
 have chk:∀{s:aT}{R:Unit->aT->Prop},same s->R () s->wp (chkS same) R s:=λh r=>by rw[vy];unfold chkS;rw[aE h];exact r
 refine Di (Q:=Q) (λb ds l s=>∃i v,ds=xs.drop i/\i<=xs.length/\l=v::caps/\W i b s) (λb l s E=>?_) (λb d ds l s C=>?_) xs [] _ s ⟨0,none,by simp,bJ _,rfl,H⟩
 ·obtain ⟨i,v,u,G,_,w⟩:=E;have : i = xs.length := by have:=bS cw u;simp at this;ext
  subst this;exact chk (hs _ _ _ w) (o b s w)
 ·obtain ⟨i,v,u,G,el,w⟩:=C;subst el;have g:i < xs.length:=by have:=bS cw u;simp at this;ext
  rw[bR g]at u;obtain⟨J,I⟩:=gc u;refine chk (hs _ _ _ w) ?_
  show wp (ret _) _ s;rw[cO]
  show wp (ret true) _ s;rw[cO]
  show wp (e (some d::caps)) _ s;exact uo (c i d b s (by rw[J];exact ar g) w) λx s' q=>⟨i+1,some d,I,g,rfl,q⟩
theorem U3{n i:Nat}(h:i < n):(gG 0 n)[i]?=some (.int i):=by unfold gG;rw[aG,ig h];simp
theorem NF{n i:Nat}{d:D}(h:(gG 0 n)[i]?=some d):i < n/\d=.int i:=by
 have b:i < n:=by have:=(aq.mp h).1;simpa [gG] using this
 rw[U3 b]at h;cases h;exact⟨b,rfl⟩
theorem pK(n:Nat):(gG 0 n).length=n:=by simp[gG]
theorem eT{n:Nat}(h:n<=1000):n<=eK:=bv h (by decide)
theorem BB{n:Nat}(h:n<=1000):n < eK:=xC h (by decide)
theorem Ao{g:CG}{b:CS}{same:aT->Prop}{xs:List D}{l:Loc}{s:aT}{Q:o_->aT->Prop}(W:Nat->Loc->aT->Prop)(hs:∀i l s,W i l s->same s)(L:W 0 l s)
  (o:∀(i:Nat)d l s,xs[i]?=some d->W i l s->wp (g d l) (λH s2=>wp (b H) (λf u=>match f with
   | .next l2=>W (i+1) l2 u
   | .cnt l2=>W (i+1) l2 u
   | .brk l2=>Q (.next l2) u
   | .ret d=>Q (.ret d) u) s2) s) (v:∀l s,W xs.length l s->Q (.next l) s):wp (kD g b same xs l) Q s:=by
 have chk:∀{s:aT}{R:Unit->aT->Prop},same s->R () s->wp (chkS same) R s:=λh r=>by rw[vy];unfold chkS;rw[aE h];exact r
 refine Qir (λds l s=>∃i,ds=xs.drop i/\i<=xs.length/\W i l s) (λl s G=>?_) (λd ds l s E=>?_) xs l s ⟨0,by simp,bJ _,L⟩
 ·obtain ⟨i,C,J,w⟩:=G;have : i = xs.length := by have:=bS cw C;simp at this;ext
  subst this;exact chk (hs _ _ _ w) (v l s w)
 ·obtain ⟨i,C,J,w⟩:=E;have c : i < xs.length := by have:=bS cw C;simp at this;ext
  rw[bR c]at C;obtain⟨O,I⟩:=gc C;refine chk (hs _ _ _ w) ?_;refine uo (o i d l s (by rw[O];exact ar c) w) λH s2 q=>uo q λf u q=>?_;cases f with
  |next l2=>exact⟨i+1,I,c,q⟩
  |cnt l2=>exact⟨i+1,I,c,q⟩
  |brk l2=>exact q
  |ret d=>exact q
end MM
local macro_rules|`(tactic| bv_omega)=>`(tactic| first|rfl|exact MM.cM rfl|exact MM.lK rfl)
local macro_rules|`(tactic| ac_rfl)=>`(tactic| first|rfl|simp only[MM.cO,MM.ia,MM.lW]|(refine MM.k_ λ_ _=>?_;simp only[MM.cO,MM.ia,MM.lW]))
namespace MM
open PySem
theorem nr{α:Sort u}{a b:α}(h:a=b):a=b:=h
section
variable{Q:D->aT->Prop}{R:o_->aT->Prop}{T:Bool->aT->Prop}{A:List D->aT->Prop}{G:Loc->aT->Prop}{I:Wk->aT->Prop}{s:aT}{l:Loc}
theorem EX{a b:CS}: wp (aF a b l) R s=wp (a l) (λf s'=>match f with
  | .next l'=>wp (b l') R s'
  | .ret d=>R (.ret d) s'
  | .brk l'=>R (.brk l') s'
  | .cnt l'=>R (.cnt l') s') s:=by
 unfold aF;rw[fk];congr 1;funext f s';cases f<;>first|bv_omega
theorem Bg:wp (aH l) R s=R (.next l) s:=cM rfl
theorem F5{g:CG}{a:CE}:wp (bY g a l) R s=wp (a l) (λd s'=>wp (g d l) (λc b=>R (.next c) b) s') s:=by unfold bY;rw[fk];congr 1;funext d s';rw[fk];ac_rfl
theorem Fx{a:CE}:wp (cH a l) R s=wp (a l) (λd s'=>R (.ret d) s') s:=by unfold cH;rw[fk];ac_rfl
theorem FW{a:CE}:wp (iS a l) R s=wp (a l) (λd s'=>R (.next l) s') s:=by unfold iS;rw[fk];ac_rfl
theorem Jq{t:CT}{a b:CS}:wp (ik t a b l) R s=wp (t l) (λc s'=>if c=true then wp (a l) R s' else wp (b l) R s') s:=by unfold ik;rw[fk];congr 1;funext c s';rw[Mr]
theorem Ef{a:CE}: wp (cC a l) T s=wp (a l) (λx s'=>match x with
  | .bl b=>T b s'
  |_=>False) s:=by
 unfold cC;rw[fk];congr 1;funext x s';cases x<;>first|bv_omega
theorem Gb{a:CE}:wp (kP a l) T s=wp (a l) (λx s'=>wp (yC x) T s') s:=by unfold kP;rw[fk]
theorem ET{a:CT}:wp (gz a l) T s=wp (a l) (λx s'=>T (!x) s') s:=by unfold gz;rw[fk];ac_rfl
theorem DT{a b:CT}:wp (mE a b l) T s=wp (a l) (λc s'=>if c=true then wp (b l) T s' else T false s') s:=by unfold mE;rw[fk];congr 1;funext c s';rw[Mr];ac_rfl
theorem JA{a b:CT}:wp (n9 a b l) T s=wp (a l) (λc s'=>if c=true then T true s' else wp (b l) T s') s:=by unfold n9;rw[fk];congr 1;funext c s';rw[Mr];ac_rfl
theorem fW{i:Nat}{d:D}:wp (aU i d l) G s=G (l.set i (some d)) s:=cM rfl
theorem Jh{d:D}{b:Option D}{r:Loc}{Q:Loc->aT->Prop}:wp (aU 0 d (b::r)) Q s=Q (some d::r) s:=fW
theorem Iy{c:Option D}{d:D}{b:Option D}{r:Loc}{Q:Loc->aT->Prop}:wp (aU 1 d (c::b::r)) Q s=Q (c::some d::r) s:=fW
theorem KH{g c:Option D}{d:D}{b:Option D}{r:Loc}{Q:Loc->aT->Prop}:wp (aU 2 d (g::c::b::r)) Q s=Q (g::c::some d::r) s:=fW
theorem Mm{h g c:Option D}{d:D}{b:Option D}{r:Loc}{Q:Loc->aT->Prop}:wp (aU 3 d (h::g::c::b::r)) Q s=Q (h::g::c::some d::r) s:=fW
theorem KZ{o h g c:Option D}{d:D}{b:Option D}{r:Loc}{Q:Loc->aT->Prop}:wp (aU 4 d (o::h::g::c::b::r)) Q s=Q (o::h::g::c::some d::r) s:=fW
theorem KL{u o h g c:Option D}{d:D}{b:Option D}{r:Loc}{Q:Loc->aT->Prop}:wp (aU 5 d (u::o::h::g::c::b::r)) Q s=Q (u::o::h::g::c::some d::r) s:=fW
theorem LK{v u o h g c:Option D}{d:D}{b:Option D}{r:Loc}{Q:Loc->aT->Prop}:wp (aU 6 d (v::u::o::h::g::c::b::r)) Q s=Q (v::u::o::h::g::c::some d::r) s:=fW
theorem K_{C v u o h g c:Option D}{d:D}{b:Option D}{r:Loc}{Q:Loc->aT->Prop}:wp (aU 7 d (C::v::u::o::h::g::c::b::r)) Q s=Q (C::v::u::o::h::g::c::some d::r) s:=fW
theorem Kk{E C v u o h g c:Option D}{d:D}{b:Option D}{r:Loc}{Q:Loc->aT->Prop}:wp (aU 8 d (E::C::v::u::o::h::g::c::b::r)) Q s=Q (E::C::v::u::o::h::g::c::some d::r) s:=fW
theorem Ky{H E C v u o h g c:Option D}{d:D}{b:Option D}{r:Loc}{Q:Loc->aT->Prop}:wp (aU 9 d (H::E::C::v::u::o::h::g::c::b::r)) Q s=Q (H::E::C::v::u::o::h::g::c::some d::r) s:=fW
theorem Eb{J H E C v u o h g c:Option D}{d:D}{b:Option D}{r:Loc}{Q:Loc->aT->Prop}:wp (aU 10 d (J::H::E::C::v::u::o::h::g::c::b::r)) Q s=Q (J::H::E::C::v::u::o::h::g::c::some d::r) s:=fW
theorem BS{o i:CE}{d:D}:wp (pb o i d l) G s=wp (o l) (λy b=>wp (i l) (λz s2=>wp (nP y z d) (λ_ c=>G l c) s2) b) s:=by unfold pb;rw[fk];congr 1;funext y b;rw[fk];congr 1;funext z s2;rw[fk];ac_rfl
theorem mh{i:Nat}: wp (am i l) Q s=match l[i]? with
  |some (some d)=>Q d s
  |_=>False:=by
 unfold am;rcases l[i]? with _|_|d<;>first|bv_omega
theorem K7{d:D}{r:Loc}:wp (am 0 (some d::r)) Q s=Q d s:=mh
theorem LO{b:Option D}{d:D}{r:Loc}:wp (am 1 (b::some d::r)) Q s=Q d s:=mh
theorem IV{c b:Option D}{d:D}{r:Loc}:wp (am 2 (c::b::some d::r)) Q s=Q d s:=mh
theorem Iq{g c b:Option D}{d:D}{r:Loc}:wp (am 3 (g::c::b::some d::r)) Q s=Q d s:=mh
theorem Mu{h g c b:Option D}{d:D}{r:Loc}:wp (am 4 (h::g::c::b::some d::r)) Q s=Q d s:=mh
theorem Jm{o h g c b:Option D}{d:D}{r:Loc}:wp (am 5 (o::h::g::c::b::some d::r)) Q s=Q d s:=mh
theorem KP{u o h g c b:Option D}{d:D}{r:Loc}:wp (am 6 (u::o::h::g::c::b::some d::r)) Q s=Q d s:=mh
theorem IA{v u o h g c b:Option D}{d:D}{r:Loc}:wp (am 7 (v::u::o::h::g::c::b::some d::r)) Q s=Q d s:=mh
theorem Lq{C v u o h g c b:Option D}{d:D}{r:Loc}:wp (am 8 (C::v::u::o::h::g::c::b::some d::r)) Q s=Q d s:=mh
theorem JD{E C v u o h g c b:Option D}{d:D}{r:Loc}:wp (am 9 (E::C::v::u::o::h::g::c::b::some d::r)) Q s=Q d s:=mh
theorem FO{H E C v u o h g c b:Option D}{d:D}{r:Loc}:wp (am 10 (H::E::C::v::u::o::h::g::c::b::some d::r)) Q s=Q d s:=mh
theorem F1{d:D}:wp (ay d l) Q s=Q d s:=cM rfl
theorem Ju{g:D->M D}{a:CE}:wp (c1 g a l) Q s=wp (a l) (λx s'=>wp (g x) Q s') s:=by unfold c1;rw[fk]
theorem Jf{g:D->D->M D}{a b:CE}:wp (c2 g a b l) Q s=wp (a l) (λx s'=>wp (b l) (λy c=>wp (g x y) Q c) s') s:=by unfold c2;rw[fk];congr 1;funext x s';rw[fk]
theorem BZ{g:List D->M D}{a:CA}:wp (ba g a l) Q s=wp (a l) (λx s'=>wp (g x) Q s') s:=by unfold ba;rw[fk]
theorem Ev:wp (aY l) A s=A [] s:=cM rfl
theorem Cf{a:CE}{r:CA}:wp (ak a r l) A s=wp (a l) (λx s'=>wp (r l) (λxs b=>A (x::xs) b) s') s:=by unfold ak;rw[fk];congr 1;funext x s';rw[fk];ac_rfl
theorem E_{a:CA}:wp (d8 a l) Q s=wp (a l) (λxs s'=>xs.length<=eK/\Q (.tup xs) s') s:=by unfold d8;rw[fk];congr 1;funext x s';rw[eA];ac_rfl
theorem B7{a:CA}:wp (dE a l) A s=wp (a l) (λxs s'=>xs.length<=eK/\A xs s') s:=by unfold dE;rw[fk];congr 1;funext x s';rw[eA];ac_rfl
theorem BY{a:CA}:wp (bZ a l) Q s=wp (a l) (λxs s'=>Q (.ref s'.length) (s'++[.lst xs])) s:=by unfold bZ;rw[fk];ac_rfl
theorem F7{g:List D->M D}{a:CA}:wp (im g a l) Q s=wp (a l) (λx s'=>wp (g x) Q s') s:=by unfold im;rw[fk]
theorem B0{n:Nat}{caps:List Nat}{i:CI}{g:CG}{t:CT}{e:CE}:wp (dR n caps i g t e l) A s=wp (i l) (λw s'=>w.ds.length<=eK/\wp (collect g t e w.same w.ds (gL n caps l)) A s') s:=by unfold dR;rw[fk];congr 1;funext x s';rw[eA]
theorem Gm{i:CI}{g:CG}{b:CS}:wp (mF i g b l) R s=wp (i l) (λw s'=>wp (kD g b w.same w.ds l) R s') s:=by unfold mF;rw[fk]
theorem Ea{a:CE}: wp (MM.iy a l) I s=wp (a l) (λx s'=>match x with
  | .int j=>(-(2^62)<=j/\j < 2^62)/\I ⟨gG 0 j.toNat,eQ⟩ s'
  |_=>False) s:=by
 unfold MM.iy;rw[fk];congr 1;funext x s';cases x<;>first|bv_omega|(dsimp only;rw[eA];ac_rfl)
theorem BD{a:CE}: wp (lx a l) I s=wp (a l) (λx s'=>match x with
  | .tup ds=>I ⟨ds,eQ⟩ s'
  | .lit ds=>I ⟨ds,eQ⟩ s'
  | .ref n=>wp (getL n) (λds b=>I ⟨ds,qy n ds⟩ b) s'
  |_=>False) s:=by
 unfold lx;rw[fk];congr 1;funext x s';cases x<;>first|bv_omega|(dsimp only;rw[fk];ac_rfl)
theorem Fo{i j:Int}:wp (bQ (.int i) (.int j)) Q s=Q (.int (i+j)) s:=cM rfl
theorem F6{i j:Int}:wp (wK (.int i) (.int j)) Q s=Q (.int (i-j)) s:=cM rfl
theorem Gk{i j:Int}:wp (mT (.int i) (.int j)) Q s=(rH i j/\Q (.int (i*j)) s):=by unfold mT tL;rw[eA];ac_rfl
theorem Et{i j:Int}:wp (rL (.int i) (.int j)) Q s=((0 < j/\j < 1073741824)/\Q (.int (i / j)) s):=by unfold rL tL;rw[eA];ac_rfl
theorem Fg{i j:Int}:wp (lL (.int i) (.int j)) Q s=(0 < j/\Q (.int (i % j)) s):=by unfold lL tL;rw[eA];ac_rfl
theorem JG{i j:Int}:wp (vW (.int i) (.int j)) Q s=Q (.bl (decide (i < j))) s:=cM rfl
theorem Lr{i j:Int}:wp (tm (.int i) (.int j)) Q s=Q (.bl (decide (i<=j))) s:=cM rfl
theorem Jg{i j:Int}:wp (wz (.int i) (.int j)) Q s=Q (.bl (decide (j < i))) s:=cM rfl
theorem Lg{i j:Int}:wp (Dg (.int i) (.int j)) Q s=Q (.bl (decide (j<=i))) s:=cM rfl
theorem Mw{i j:Int}:wp (lE (.int i) (.int j)) Q s=Q (.bl (i == j)) s:=cM rfl
theorem Jz{i j:Int}:wp (Cp (.int i) (.int j)) Q s=Q (.bl !(i == j)) s:=cM rfl
theorem rY{ds:List D}{i:Int}:wp (bz (.tup ds) (.int i)) Q s=wp (dM ds i) Q s:=nr rfl
theorem zq{n:Nat}{i:Int}:wp (bz (.ref n) (.int i)) Q s=wp (getL n) (λds s'=>wp (dM ds i) Q s') s:=by unfold bz;rw[fk]
theorem ue{ds:List D}:wp (dL (.tup ds)) Q s=Q (.int ds.length) s:=cM rfl
theorem Bu{n:Nat}:wp (dL (.ref n)) Q s=wp (getL n) (λds s'=>Q (.int ds.length) s') s:=by unfold dL;rw[fk];ac_rfl
theorem BN{n:Nat}{i:Int}{v:D}{U:Unit->aT->Prop}: wp (nP (.ref n) (.int i) v) U s=wp (getL n) (λds s'=>wp (match MM.pO ds.length i with
  |some j=>putL n (ds.set j v)
  |none=>bad) U s') s:=by
 unfold nP;rw[fk]<;>congr 1
theorem BJ{d:D}:wp (vi (.ret d)) Q s=Q d s:=cM rfl
theorem zG:wp (vi (.next l)) Q s=Q .non s:=cM rfl
end
theorem pY{a:CE}{lo g:CO}{A:List D->aT->Prop}{s:aT}{l:Loc}: wp (d_ a lo g l) A s=wp (a l) (λx c=>wp (lo l) (λi s2=>wp (g l) (λj b=>match x with
  | .lit ds=>A (cutD ds i j) b
  | .ref n=>wp (getL n) (λds h=>A (cutD ds i j) h) b
  |_=>False) s2) c) s:=by
 unfold d_;rw[fk];congr 1;funext x c;rw[fk];congr 1;funext i s2;rw[fk];congr 1;funext j b;cases x<;>first|bv_omega|(dsimp only;rw[fk];ac_rfl)
theorem Bs{A:Option Int->aT->Prop}{s:aT}{l:Loc}:wp (eF l) A s=A none s:=cM rfl
theorem BX{a:CE}{A:Option Int->aT->Prop}{s:aT}{l:Loc}: wp (dW a l) A s=wp (a l) (λx b=>match x with
  | .int i=>A (some i) b
  |_=>False) s:=by
 unfold dW;rw[fk];congr 1;funext x b;cases x<;>first|bv_omega
theorem BP{a:CE}{I:Wk->aT->Prop}{s:aT}{l:Loc}: wp (qk a l) I s=wp (a l) (λx s'=>match x with
  | .tup ds=>I ⟨(gG 0 ds.length).zipWith (λi d=>.tup [i,d]) ds,eQ⟩ s'
  |_=>False) s:=by
 unfold qk;rw[fk];congr 1;funext x s';cases x<;>first|bv_omega
theorem uj{n:Nat}{r:List D->Loc->M Loc}{ds:List D}{G:Loc->aT->Prop}{s:aT}{l:Loc}:wp (fS n r (.tup ds) l) G s=(ds.length=n/\wp (r ds l) G s):=by unfold fS;rw[eA]
theorem nS{g:CG}{r:List D->Loc->M Loc}{d:D}{ds:List D}{G:Loc->aT->Prop}{s:aT}{l:Loc}:wp (cm g r (d::ds) l) G s=wp (g d l) (λb s'=>wp (r ds b) G s') s:=by unfold cm;rw[fk]
theorem uk{G:Loc->aT->Prop}{s:aT}{l:Loc}:wp (gf [] l) G s=G l s:=cM rfl
theorem HH{ds:List D}{i:Nat}{d:D}(h:((gG 0 ds.length).zipWith (λi d=>D.tup [i,d]) ds)[i]?=some d):∃x,ds[i]?=some x/\d=.tup [.int i,x]:=by
 rw[mR]at h;cases b:(gG 0 ds.length)[i]? with
 |none=>rw[b]at h;cases h
 |some a=>
  rw[b]at h;obtain⟨_,g⟩:=NF b;cases c:ds[i]? with
  |none=>rw[c]at h;cases h
  |some x=>rw[c]at h;cases h;exact⟨x,rfl,by rw[g]⟩
def dJ(s s':aT):Prop:=∃t,s'=s++t
theorem dJ.refl(s:aT):dJ s s:=⟨[],by simp⟩
theorem dJ.snoc{s s':aT}(h:dJ s s')(o:MO):dJ s (s'++[o]):=by obtain⟨t,e⟩:=h;exact⟨t++[o],by rw[e];simp⟩
theorem dJ.trans{s s' s2:aT}(h:dJ s s')(k:dJ s' s2):dJ s s2:=by obtain⟨t,e⟩:=h;obtain⟨u,f⟩:=k;exact⟨t++u,by rw[f,e];simp⟩
theorem dJ.at_{s s':aT}{n:Nat}{o:MO}(h:dJ s s')(k:s[n]?=some o):s'[n]?=some o:=by obtain⟨t,e⟩:=h;rw[e,aJ (aq.mp k).1];exact k
theorem Y6{α:Type}(f:α->Int)(xs:List α):pj (xs.map λx=>.int (f x))=some (xs.map f):=by
 induction xs with
 |nil=>rfl
 |cons x xs ih=>simp only[aN,pj,ih];ac_rfl
theorem Dh{α:Type}{m:M α}{v:α}{s:aT}{Q:α->aT->Prop}(h:wp m (λa s'=>a=v/\s'=s) s):wp m Q s=Q v s:=by
 simp only[vy]at *;cases e:m s with
 |ok a s'=>rw[e]at h;obtain⟨c,b⟩:=h;subst c;subst b;ac_rfl
 |exc _ _=>rw[e]at h;exact h.elim
 |bad=>rw[e]at h;exact h.elim
theorem B9{a b:Nat}{x y:List D}{Q:D->aT->Prop}{s:aT}(g:s[a]?=some (.lst x))(c:s[b]?=some (.lst y)):wp (bQ (.ref a) (.ref b)) Q s=(x.length+y.length<=eK/\Q (.ref s.length) (s++[.lst (x++y)])):=by unfold bQ;rw[fk,ka g,fk,ka c,eA];ac_rfl
def yB(x:D)(p q:Prop):Prop:=match x with
 | .bl true=>p
 | .bl false=>q
 |_=>False
theorem qf{p q:Prop}:yB (.bl true) p q=p:=nr rfl
theorem uF{p q:Prop}:yB (.bl false) p q=q:=nr rfl
section
variable{Q:D->aT->Prop}{T:Bool->aT->Prop}{R:o_->aT->Prop}{s:aT}{l:Loc}
theorem Ci{a b:CE}:wp (qV a b l) Q s=wp (a l) (λx s'=>yB x (wp (b l) Q s') (Q (.bl false) s')) s:=by unfold qV;rw[fk];congr 1;funext x s';rcases x with _|b|_|_|_|_|_|_<;>first|bv_omega|(cases b<;>first|bv_omega)
theorem Bv{a:CE}: wp (vh a l) Q s=wp (a l) (λx s'=>match x with
  | .bl b=>Q (.bl !b) s'
  |_=>False) s:=by
 unfold vh;rw[fk];congr 1;funext x s';cases x<;>first|bv_omega
theorem Bj{b:Bool}:wp (yC (.bl b)) T s=T b s:=cM rfl
theorem Ce{ds:List D}:wp (lF ds) Q s=Q (.tup ds) s:=cM rfl
theorem zc{d:D}{ds:List D}:wp (dM (d::ds) 0) Q s=Q d s:=by rw[F3 (d:=d) (by ext) rfl,cO]
theorem zI{d e:D}{ds:List D}:wp (dM (d::e::ds) 1) Q s=Q e s:=by rw[F3 (d:=e) (by ext) rfl,cO]
theorem yV{d e f:D}{ds:List D}:wp (dM (d::e::f::ds) 2) Q s=Q f s:=by rw[F3 (d:=f) (by ext) rfl,cO]
theorem zD{d e f g:D}{ds:List D}:wp (dM (d::e::f::g::ds) 3) Q s=Q g s:=by rw[F3 (d:=g) (by ext) rfl,cO]
theorem oT{ds:List D}{i:Nat}{d:D}(h:ds[i]?=some d):wp (dM ds i) Q s=Q d s:=by rw[F3 (d:=d) (by ext) (by simpa using h),cO]
theorem rS:wp (cD l) T s=T true s:=cM rfl
end
noncomputable def bP(p:Prop):Bool:=@decide p (qP p)
theorem Ij{p:Prop}:bP p=true↔p:=by unfold bP;exact @decide_eq_true_iff p (qP p)
theorem Ig{p:Prop}(h:p):bP p=true:=Ij.mpr h
theorem S5{p:Prop}(h:¬p):bP p=false:=by
 cases e:bP p with
 |false=>rfl
 |true=>exact (h (Ij.mp e)).elim
theorem YJ{b:Bool}{p:Prop}(h:b=true↔p):b=bP p:=by
 cases b with
 |true=>exact (Ig (h.mp rfl)).symm
 |false=>exact (S5 λk=>by cases h.mpr k).symm
noncomputable def b5{α:Type}(n:Nat)(f:Nat->α):List α:=(dI n).map f
theorem AM{α:Type}{n i:Nat}{f:Nat->α}(h:i < n):(b5 n f)[i]?=some (f i):=by unfold b5;rw[aG,ig h];ac_rfl
theorem HE{α:Type}{n i:Nat}{f:Nat->α}{x:α}(h:(b5 n f)[i]?=some x):i < n/\x=f i:=by
 have b:i < n:=by have:=(aq.mp h).1;simpa [b5] using this
 rw[AM b]at h;cases h;exact⟨b,rfl⟩
theorem n5{α:Type}{n:Nat}{f:Nat->α}:(b5 n f).length=n:=by simp[b5]
theorem FM{α:Type}{n:Nat}{f:Nat->α}:b5 (n+1) f=b5 n f++[f n]:=by unfold b5;rw[Af,bh];ac_rfl
theorem Mf{α:Type}{n:Nat}{xs:List α}{f:Nat->α}(c:xs.length=n)(h:∀i,i < n->xs[i]?=some (f i)):xs=b5 n f:=by
 apply pE;intro i;by_cases b:i < n
 ·rw[h i b,AM b]
 ·rw[dq (by ext),dq (by rw[n5];ext)]
theorem S6{α:Type}{n:Nat}{f g:Nat->α}(h:∀i,i < n->f i=g i):b5 n f=b5 n g:=
 Mf n5 λi b=>by rw[AM b,h i b]
theorem Dc{α β:Type}{n:Nat}{f:Nat->α}{g:α->β}:(b5 n f).map g=b5 n λi=>g (f i):=by unfold b5;rw[iQ];ac_rfl
theorem Vb{n:Nat}:gG 0 n=b5 n λi=>.int i:=by unfold gG b5;congr 1;funext k;simp
theorem Ys{n:Nat}{f:Nat->Bool}:kE (b5 n λi=>.bl (f i))=some (b5 n f):=by
 have:∀(xs:List Nat),kE (xs.map λi=>.bl (f i))=some (xs.map f):=by
  intro xs
  induction xs with
  |nil=>rfl
  |cons x xs ih=>simp only[aN,kE,ih];ac_rfl
 exact this _
theorem X3{n:Nat}{p:Nat->Prop}{Q:D->aT->Prop}{s:aT}:wp (oJ (b5 n λi=>.bl (bP (p i)))) Q s=Q (.bl (bP (∀i,i < n->p i))) s:=by unfold oJ;rw[Ys];have:(b5 n λi=>bP (p i)).all id=bP (∀i,i < n->p i):=YJ (by simp[b5,t7,Ij]);dsimp only;rw[this,cO]
theorem LP{g:CG}{e:CE}{same:aT->Prop}{ds:List D}{J:Loc}{f:Nat->D}{Q:List D->aT->Prop}{s:aT}(I:Loc->Prop)(hs:same s)(h0:I J)
  (h:∀i d l,ds[i]?=some d->I l->∃o,(∀G,wp (g d l) G s=G o s)/\I o/\∀Q,wp (e o) Q s=Q (f i) s):
  wp (collect g cD e same ds J) Q s=Q (b5 ds.length f) s:=by
 have chk:∀{R:Unit->aT->Prop},R () s->wp (chkS same) R s:=λr=>by rw[vy];unfold chkS;rw[aE hs];exact r
 apply Dh;refine Di (Q:=λb s'=>b=b5 ds.length f/\s'=s) (λb xs l s'=>∃i,xs=ds.drop i/\i<=ds.length/\I l/\b=b5 i f/\s'=s) (λb l s' C=>?_) (λb d xs l s' v=>?_) ds [] _ s ⟨0,by simp,bJ _,h0,rfl,rfl⟩
 ·obtain ⟨i,u,Y,_,H,E⟩:=C;have : i = ds.length := by have:=bS cw u;simp at this;ext
  subst this;subst E;exact chk ⟨H,rfl⟩
 ·obtain ⟨i,u,Y,b,H,E⟩:=v;have c : i < ds.length := by have:=bS cw u;simp at this;ext
  rw[bR c]at u;obtain⟨C,g⟩:=gc u;obtain⟨o,U,O,L⟩:=h i d l (by rw[C];exact ar c) b;subst E;refine chk ?_;rw[U]
  show wp (ret true) _ s';rw[cO]
  show wp (e o) _ s';rw[L];exact⟨i+1,g,c,O,by rw[H,FM],rfl⟩
theorem JC{e:CE}{same:aT->Prop}{ds:List D}{caps:Loc}{f:Nat->D}{Q:List D->aT->Prop}{s:aT}(hs:same s)(h:∀i d,ds[i]?=some d->∀Q,wp (e (some d::caps)) Q s=Q (f i) s):
  wp (collect (aU 0) cD e same ds (none::caps)) Q s=Q (b5 ds.length f) s:=
 LP (λl=>∃x,l=x::caps) hs ⟨none,rfl⟩ λi d l hd b=>by obtain⟨x,el⟩:=b;exact⟨some d::caps,λG=>by rw[el,fW];rfl,⟨_,rfl⟩,h i d hd⟩
theorem RI{e:CE}{same:aT->Prop}{ds:List D}{caps:Loc}{f:Nat->D}{Q:List D->aT->Prop}{s:aT}(hs:same s)(h:∀i d,ds[i]?=some d->∃a b,d=.tup [a,b]/\∀Q,wp (e (some a::some b::caps)) Q s=Q (f i) s):
  wp (collect (fS 2 (cm (aU 0) (cm (aU 1) gf))) cD e same ds (none::none::caps)) Q s=Q (b5 ds.length f) s:=
 LP (λl=>∃x y,l=x::y::caps) hs ⟨none,none,rfl⟩ λi d l hd c=>by obtain⟨x,y,el⟩:=c;obtain⟨a,b,g,q⟩:=h i d hd;refine⟨some a::some b::caps,λG=>?_,⟨_,_,rfl⟩,q⟩;rw[g,el,uj,nS,fW,nS,fW,uk];exact propext ⟨λh=>h.2,λh=>⟨rfl,h⟩⟩
section
variable{n:Nat}{f:Nat->D}{Q:D->aT->Prop}{s:aT}
theorem KN{i:Nat}(h:i < n):wp (dM (b5 n f) (i:Int)) Q s=Q (f i) s:=oT (AM h)
theorem G_(h:0 < n):wp (dM (b5 n f) 0) Q s=Q (f 0) s:=by have:=@oT Q s (b5 n f) 0 (f 0) (AM h);simpa using this
end
theorem BW{s:aT}:eQ s:=trivial
theorem Qi1{e:CE}{n:Nat}{f:Nat->D}{same:aT->Prop}{caps:Loc}{s:aT}{Q:List D->aT->Prop}(W:Nat->List D->aT->Prop)(hs:∀i b s,W i b s->same s)(l:W 0 [] s)
  (c:∀(i:Nat)b s,i < n->W i b s->wp (e (some (f i)::caps)) (λx s'=>W (i+1) (b++[x]) s') s) (g:∀b s,W n b s->Q b s):
  wp (collect (aU 0) cD e same (b5 n f) (none::caps)) Q s:=
 TD W hs l (λi d b s hd w=>by obtain⟨h,e⟩:=HE hd;subst e;exact c i b s h w) (λb s w=>g b s (by rw[n5]at w;exact w))
theorem GW{e:CE}{same:aT->Prop}{n:Nat}{g:Nat->D}{caps:Loc}{f:Nat->D}{Q:List D->aT->Prop}{s:aT}(hs:same s)(h:∀i,i < n->∀Q,wp (e (some (g i)::caps)) Q s=Q (f i) s):
  wp (collect (aU 0) cD e same (b5 n g) (none::caps)) Q s=Q (b5 n f) s:=by
 rw[JC (f:=f) hs (λi d hd=>by obtain⟨b,e⟩:=HE hd;subst e;exact h i b),n5]
theorem Qs{e:CE}{same:aT->Prop}{n:Nat}{a b:Nat->D}{caps:Loc}{f:Nat->D}{Q:List D->aT->Prop}{s:aT}(hs:same s)(h:∀i,i < n->∀Q,wp (e (some (a i)::some (b i)::caps)) Q s=Q (f i) s):
  wp (collect (fS 2 (cm (aU 0) (cm (aU 1) gf))) cD e same (b5 n λi=>.tup [a i,b i]) (none::none::caps)) Q s=Q (b5 n f) s:=by
 rw[RI (f:=f) hs (λi d hd=>by obtain⟨c,e⟩:=HE hd;exact⟨_,_,e,h i c⟩),n5]
section
variable{Q:D->aT->Prop}{T:Bool->aT->Prop}{R:o_->aT->Prop}{A:List D->aT->Prop}{s:aT}{l:Loc}
theorem yT{f g:D->D->M D}{a b c:CE}:wp (ii f g a b c l) Q s=wp (a l) (λx o=>wp (b l) (λy s2=>wp (f x y) (λz h=>yB z (wp (c l) (λw u=>wp (g y w) Q u) h) (Q (.bl false) h)) s2) o) s:=by unfold ii;rw[fk];congr 1;funext x o;rw[fk];congr 1;funext y s2;rw[fk];congr 1;funext z h;rcases z with _|b|_|_|_|_|_|_<;>first|bv_omega|(cases b<;>first|bv_omega|(dsimp only;rw[fk];first|ac_rfl|(refine bS _ ?_;refine k_ λ_ _=>?_;simp only[cO,ia,lW])))
theorem wx{a b:CE}: wp (kZ a b l) Q s=wp (a l) (λx g=>match x with
  | .ref n=>wp (b l) (λv s2=>wp (getL n) (λds c=>ds.length < eK/\wp (putL n (ds++[v])) (λ_ h=>Q .non h) c) s2) g
  |_=>False) s:=by
 unfold kZ;rw[fk];congr 1;funext x g;cases x<;>first|bv_omega|(dsimp only;rw[fk];congr 1;funext v s2;unfold kY;rw[fk];congr 1;funext ds c;rw[eA,fk];first|ac_rfl|(refine bS _ ?_;refine k_ λ_ _=>?_;simp only[cO,ia,lW]))
theorem wt{n:Nat}:wp (tupleD (.ref n)) Q s=wp (getL n) (λds b=>Q (.tup ds) b) s:=by unfold tupleD;rw[fk];(try dsimp only);(try rw[fk]);refine k_ λ_ _=>?_;simp only[cO,ia,lW]
theorem Bq{x:D}{ds:List D}:wp (C7 x (.tup ds)) Q s=wp (Cd x ds) Q s:=nr rfl
theorem Vu{v:Int}(h:v=0\/v=1):wp (Cd (.int v) [.int 0,.int 1]) Q s=Q (.bl true) s:=by unfold Cd;rw[eA,cO];rcases h with h|h<;>subst h<;>exact propext ⟨λh=>h.2,λh=>⟨⟨rfl,rfl⟩,h⟩⟩
theorem zU{a b:Str}:wp (lE (.str a) (.str b)) Q s=Q (.bl (a == b)) s:=cM rfl
theorem AZ{ds:List D}:wp (eY ["tuple"] (.tup ds)) Q s=Q (.bl true) s:=cM rfl
theorem BK{i:Int}:wp (eY ["int"] (.int i)) Q s=Q (.bl true) s:=cM rfl
theorem Ch{i:Int}:wp (eY ["bool"] (.int i)) Q s=Q (.bl false) s:=cM rfl
theorem Fw{i:Int}:wp (yF (.int i)) Q s=Q (.int (-i)) s:=cM rfl
theorem Bc{a b:CE}{I:Wk->aT->Prop}: wp (MM.om a b l) I s=wp (a l) (λx c=>wp (b l) (λy s2=>match x,y with
  | .int i,.int j=>((-(2^62)<=i/\i < 2^62)/\(-(2^62)<=j/\j < 2^62))/\I ⟨gG i (j-i).toNat,eQ⟩ s2
  |_,_=>False) c) s:=by
 unfold MM.om;rw[fk];congr 1;funext x c;rw[fk];congr 1;funext y s2;cases x<;>first|bv_omega|skip
 cases y<;>first|bv_omega|(dsimp only;rw[eA];first|ac_rfl|(refine bS _ ?_;refine k_ λ_ _=>?_;simp only[cO,ia,lW]))
theorem Bo{x y:List D}:wp (bQ (.tup x) (.tup y)) Q s=(x.length+y.length<=eK/\Q (.tup (x++y)) s):=by unfold bQ;rw[eA];first|ac_rfl|(refine bS _ ?_;refine k_ λ_ _=>?_;simp only[cO,ia,lW])
theorem wN{a:CA}{b:CE}: wp (kW a b l) Q s=wp (a l) (λds c=>wp (b l) (λi s2=>match i with
  | .int k=>wp (dM ds k) Q s2
  |_=>False) c) s:=by
 unfold kW;rw[fk];congr 1;funext ds c;rw[fk];congr 1;funext i s2;cases i<;>first|bv_omega
theorem JF{x:D}{ds:List D}:wp (Cd x ds) Q s=((me x=true/\ds.all me=true)/\Q (.bl (ds.any λd=>tK d x)) s):=by unfold Cd;rw[eA];first|ac_rfl|(refine bS _ ?_;refine k_ λ_ _=>?_;simp only[cO,ia,lW])
theorem GZ{n:Nat}:wp (oJ (b5 n λ_=>.bl true)) Q s=Q (.bl true) s:=by have:=@X3 n (λ_=>True) Q s;rw[show (λ_:Nat=>D.bl (bP True))=λ_=>D.bl true from by funext i;rw[Ig trivial]]at this;rw[this,Ig (λ_ _=>trivial)]
end
theorem FL{p q:Prop}:(if false=true then p else q)=q:=aA (by simp)
noncomputable def mx(f:Nat->Nat):Nat->Nat
 |0=>0
 |n+1=>max (mx f n) (f n)
theorem Lw{f:Nat->Nat}{n m:Nat}(h:∀i,i < n->f i<=m):mx f n<=m:=by
 induction n with
 |zero=>exact bJ _
 |succ n ih=>unfold mx;exact Nat.max_le.mpr ⟨ih λi b=>h i (by ext),h n (by ext)⟩
theorem Pk{f:Nat->Nat}{n:Nat}{Q:D->aT->Prop}{s:aT}(c:0 < n):wp (rX (b5 n λi=>.int (f i:Nat))) Q s=Q (.int (mx f n:Nat)) s:=by
 obtain⟨k,rfl⟩:∃k,n=k+1:=⟨n-1,by ext⟩
 have b:∀(k:Nat),(((dI k).map (· + 1)).map λ(i:Nat)=>((f i:Nat):Int)).foldl max ((f 0:Nat):Int)=((mx f (k+1):Nat):Int):=by
  intro k
  induction k with
  |zero=>show ((f 0:Nat):Int)=((max 0 (f 0):Nat):Int);ext
  |succ k ih=>
   rw[Af,bh,bh,List.foldl_append,ih]
   show max ((mx f (k+1):Nat):Int) ((f (k+1):Nat):Int)=((max (mx f (k+1)) (f (k+1)):Nat):Int)
   ext
 unfold rX b5;rw[Y6 (λi=>((f i:Nat):Int)),my,aN];dsimp only;rw[cO,<- b k]
theorem dJ.put{s s':aT}{n:Nat}{o:MO}(h:dJ s s')(b:s.length<=n):dJ s (s'.set n o):=by obtain⟨t,e⟩:=h;exact⟨t.set (n-s.length) o,by rw[e,List.set_append_right _ _ b]⟩
theorem dJ.le{s s':aT}(h:dJ s s'):s.length<=s'.length:=by obtain⟨t,e⟩:=h;rw[e];simp
theorem Tc{lo:Int}{n:Nat}:gG lo n=b5 n λi=>.int (lo+i):=rfl
section
variable{α β:Type}{γ:Sort _}
theorem Fb{p:Prop}[Decidable p]:(decide p=true)=p:=_root_.decide_eq_true_eq
theorem Lf{n:Nat}{a:α}:db (n+1) a=a::db n a:=nr rfl
theorem Lo{a:α}:db 0 a=[]:=nr rfl
theorem Mv{x:Option α}:(some x).join=x:=nr rfl
theorem Iv{f:α->β}{a:α}{l:List α}:AW f (a::l)=f a::AW f l:=nr rfl
theorem JV{f:α->β}:AW f []=[]:=nr rfl
theorem IZ{a:α}{l k:List α}:(a::l)++k=a::(l++k):=nr rfl
theorem LV{l:List α}:[]++l=l:=nr rfl
theorem LD{a:α}{l:List α}:(a::l)[0]?=some a:=nr rfl
theorem MF{a:α}{l:List α}{i:Nat}:(a::l)[i+1]?=l[i]?:=by simp
theorem Jj{a b:α}{l:List α}:(a::l).set 0 b=b::l:=nr rfl
theorem Kl{a b:α}{l:List α}{i:Nat}:(a::l).set (i+1) b=a::l.set i b:=nr rfl
theorem K6{a:α}{l:List α}:(a::l).length=l.length+1:=nr rfl
theorem Km:([]:List α).length=0:=nr rfl
theorem LW{c d:γ}:(if True then c else d)=c:=aE trivial
theorem Iz{c d:γ}:(if False then c else d)=d:=aA (λh=>h)
theorem Mj{p:Prop}:(p/\True)=p:=and_true p
theorem Lx{p:Prop}:(True/\p)=p:=true_and p
theorem LH:(!true)=false:=nr rfl
theorem KY:(!false)=true:=nr rfl
end
theorem Ut{m:M D}{s:aT}(h:wp m (λd _=>d=.bl true) s):∃b,m s=.ok (.bl true) b:=by
 rw[vy]at h;cases e:m s with
 |ok a s'=>rw[e]at h;exact⟨s',by rw[show a=.bl true from h]⟩
 |exc _ _=>rw[e]at h;exact h.elim
 |bad=>rw[e]at h;exact h.elim
theorem lT{α:Type}{l:List α}{a:α}:(l++[a])[l.length]?=some a:=by rw[bo (az _),mM];ac_rfl
theorem qW{α:Type}{l:List α}{a b:α}{n:Nat}(h:l[n]?=some a):(l++[b])[n]?=some a:=by rw[aJ (aq.mp h).1];exact h
section
variable{Q:D->aT->Prop}{A:List D->aT->Prop}{s:aT}
theorem T3{g:CG}{e:CE}{same:aT->Prop}{xs:List D}{l:Loc}(V:D->Prop)(L:Loc->Prop)(P:D->Prop)(W:aT->Prop)(hs:∀s,W s->same s)(h0:W s)(hl:L l)(hV:∀d∈xs,V d)
  (u:∀d l s,V d->L l->W s->wp (g d l) (λE C=>L E/\wp (e E) (λx s2=>P x/\W s2) C) s) (v:∀b s',b.length=xs.length->(∀d∈b,P d)->W s'->A b s'):
  wp (collect g cD e same xs l) A s:=by
 have chk:∀{s:aT}{R:Unit->aT->Prop},same s->R () s->wp (chkS same) R s:=λh r=>by rw[vy];unfold chkS;rw[aE h];exact r
 refine Di (Q:=A) (λb ds l s=>b.length+ds.length=xs.length/\(∀d∈ds,V d)/\L l/\(∀d∈b,P d)/\W s) (λb l s J=>?_) (λb d ds l s I=>?_) xs [] l s ⟨by simp,hV,hl,λd hd=>bc hd (by simp),h0⟩
 ·obtain ⟨O,_,_,G,w⟩:=J;exact chk (hs _ w) (v b s (by simpa using O) G w)
 ·obtain ⟨O,U,g,G,w⟩:=I;refine chk (hs _ w) ?_;refine uo (u d l s (U d (by simp)) g w) λE C o=>?_;obtain⟨H,q⟩:=o
  show wp (ret true) _ C;rw[cO]
  show wp (e E) _ C;exact uo q λx s2 c=>by obtain⟨b,Y⟩:=c;exact⟨by simp at O ⊢;ext,λd hd=>U d (by simp[hd]),H,λd hd=>by
   rcases aZ.mp hd with hd|hd
   ·exact G d hd
   ·rw[aC.mp hd];exact b,Y⟩
theorem vQ{e:CE}{same:aT->Prop}{xs:List D}{caps:Loc}(V:D->Prop)(P:D->Prop)(W:aT->Prop)(hs:∀s,W s->same s)(v:W s)(u:∀d∈xs,V d)
  (g:∀d s,V d->W s->wp (e (some d::caps)) (λx s2=>P x/\W s2) s) (h:∀c s',c.length=xs.length->(∀d∈c,P d)->W s'->A c s'):
  wp (collect (aU 0) cD e same xs (none::caps)) A s:=
 T3 V (λl=>∃x,l=x::caps) P W hs v ⟨none,rfl⟩ u (λd l s o b w=>by obtain⟨x,el⟩:=b;subst el;rw[fW];exact⟨⟨_,rfl⟩,g d s o w⟩) h
noncomputable def wl(n:Nat)(d:D):Prop:=∃i:Nat,i < n/\d=.int i
theorem xN{n:Nat}:∀d∈gG 0 n,wl n d:=λd hd=>by obtain⟨i,b⟩:=kl hd;obtain⟨g,c⟩:=NF b;exact⟨i,g,c⟩
end
end MM
noncomputable def MM.xP:=aB @MM.EX<|aB @MM.Bg<|aB @MM.F5<|aB @MM.Fx<|aB @MM.FW<|aB @MM.Jq<|aB @MM.Ef<|aB @MM.Ci<|aB @MM.Bv<|aB @MM.Bj<|aB @MM.Ce<|aB @MM.zc<|aB @MM.zI<|aB @MM.yV<|aB @MM.zD<|aB @MM.rS<|aB @MM.BP<|aB @MM.uj<|aB @MM.nS<|aB @MM.uk<|aB @MM.pY<|aB @MM.Bs<|aB @MM.BX<|aB @MM.Gb<|aB @MM.ET<|aB @MM.DT<|aB @MM.JA<|aB @MM.Jh<|aB @MM.Iy<|aB @MM.KH<|aB @MM.Mm<|aB @MM.KZ<|aB @MM.KL<|aB @MM.LK<|aB @MM.K_<|aB @MM.Kk<|aB @MM.Ky<|aB @MM.Eb<|aB @MM.BS<|aB @MM.K7<|aB @MM.LO<|aB @MM.IV<|aB @MM.Iq<|aB @MM.Mu<|aB @MM.Jm<|aB @MM.KP<|aB @MM.IA<|aB @MM.Lq<|aB @MM.JD<|aB @MM.FO<|aB @MM.F1<|aB @MM.Ju<|aB @MM.Jf<|aB @MM.BZ<|aB @MM.Ev<|aB @MM.Cf<|aB @MM.E_<|aB @MM.B7<|aB @MM.BY<|aB @MM.F7<|aB @MM.B0<|aB @MM.Gm<|aB @MM.Ea<|aB @MM.BD<|aB @MM.Fo<|aB @MM.F6<|aB @MM.Gk<|aB @MM.Et<|aB @MM.Fg<|aB @MM.JG<|aB @MM.Lr<|aB @MM.Jg<|aB @MM.Lg<|aB @MM.Mw<|aB @MM.Jz<|aB @MM.rY<|aB @MM.zq<|aB @MM.ue<|aB @MM.Bu<|aB @MM.BN<|aB @MM.BJ<|aB @MM.zG<|aB @MM.wU<|aB @MM.cO<|aB @MM.eA<|aB @MM.ia<|aB @MM.yT<|aB @MM.wx<|aB @MM.wt<|aB @MM.Bq<|aB @MM.zU<|aB @MM.AZ<|aB @MM.BK<|aB @MM.Ch<|aB @MM.Fw<|aB @MM.Bc<|aB @MM.Bo<|@MM.wN
local macro_rules
 | `(tactic| simp![$a,*])=>`(tactic| simp only[↓MM.xP,MM.fW,MM.mh,MM.qf,MM.uF,MM.Fb,MM.Lf,MM.Lo,MM.Mv,MM.Iv,MM.JV,MM.IZ,MM.LV,MM.LD,MM.MF,MM.Jj,MM.Kl,MM.K6,MM.Km,Nat.reduceAdd,Nat.reduceSub,Int.reduceLE,Int.reduceLT,MM.LW,MM.Iz,MM.Mj,MM.Lx,beq_iff_eq,MM.FL,MM.LH,MM.KY,Nat.reduceLT,Nat.reduceLeDiff,$a,*])
namespace MM
open PySem
section
variable{l:Loc}{Q:D->aT->Prop}{A:List D->aT->Prop}{I:Wk->aT->Prop}{s:aT}
theorem C_{a b:CE}: wp (lU a b l) Q s=wp (a l) (λx c=>match x with
  | .str x=>wp (b l) (λy s2=>match y with
   | .str y=>((y.length == 0)=false/\x.length+2<=eK/\(gJ x y).length<=eK)/\Q (.ref s2.length) (s2++[.lst ((gJ x y).map .str)])
   |_=>False) c
  |_=>False) s:=by
 unfold lU;rw[fk];refine k_ λx c=>?_;cases x<;>first|exact lK rfl|skip
 dsimp only;rw[fk];refine k_ λy s2=>?_;cases y<;>first|exact lK rfl|skip
 dsimp only;rw[eA,ia]
theorem B6{a b:CE}: wp (lG a b l) Q s=wp (a l) (λx g=>match x with
  | .str x=>wp (b l) (λy s2=>match y with
   | .ref n=>wp (getL n) (λds c=>match gX ds with
    |some ys=>(ys.map (·.length)).sum+ys.length*x.length<=16777216/\Q (.str (sx x ys)) c
    |none=>False) s2
   |_=>False) g
  |_=>False) s:=by
 unfold lG;rw[fk];refine k_ λx g=>?_;cases x<;>first|exact lK rfl|skip
 dsimp only;rw[fk];refine k_ λy s2=>?_;cases y<;>first|exact lK rfl|skip
 dsimp only;rw[fk];refine k_ λds c=>?_;cases gX ds with
 |none=>exact lK rfl
 |some ys=>dsimp only;rw[eA,cO]
theorem WW{a:CE}: wp (wm a l) I s=wp (a l) (λx b=>match x with
  | .str x=>x.cps.all (· < 128)=true/\I ⟨signs x,eQ⟩ b
  |_=>False) s:=by
 unfold wm;rw[fk];refine k_ λx b=>?_;cases x<;>first|exact lK rfl|skip
 dsimp only;rw[eA,cO]
theorem WX{i:Int}:wp (i7 (.int i)) Q s=(i.natAbs.log2 < 1920/\Q (.str (ag (toString i))) s):=by unfold i7;rw[eA,cO]
theorem SV{x:Str}{n:Int}(h:intText? x=some n)(b:x.length<=640):wp (pd (.str x)) Q s=Q (.int n) s:=by unfold pd;dsimp only;rw[h];dsimp only;rw[eA,cO];exact propext ⟨λh=>h.2,λh=>⟨b,h⟩⟩
theorem YN{x y:Str}:wp (wA (.str x) (.str y)) Q s=Q (.bl (!(kS y x 0 y.length 1).isEmpty)) s:=cM rfl
theorem FS{x y:Str}:wp (bQ (.str x) (.str y)) Q s=(x.length+y.length<=eK/\Q (.str (x++y)) s):=by show wp (chk _ _) _ _=_;rw[eA,cO]
theorem G8{x:Str}:wp (dL (.str x)) Q s=(x.length<=eK/\Q (.int x.length) s):=by show wp (chk _ _) _ _=_;rw[eA,cO]
theorem Wd{x:Str}:wp (eY ["str"] (.str x)) Q s=Q (.bl true) s:=cM rfl
theorem VY{c:Nat}{r:List Nat}:wp (bz (.str ⟨(c::r).toArray⟩) (.int 0)) Q s=((⟨(c::r).toArray⟩:Str).length<=eK/\Q (.str ⟨#[c]⟩) s):=by
 show wp (chk _ _) _ _=_;rw[eA];congr 1;have e:pO (⟨(c::r).toArray⟩:Str).length 0=some 0:=by unfold pO;rw[aE (Int.le_refl 0),aE (by simp[so])];rfl
 rw[e];exact cM rfl
end
theorem Pe{n:Nat}{f:Nat->Str}:gX (b5 n λi=>.str (f i))=some (b5 n f):=by
 unfold b5;generalize dI n=r
 induction r with
 |nil=>rfl
 |cons a r ih=>
  rw[aN,aN]
  show (gX (r.map λi=>D.str (f i))).map (f a::·)=_;rw[ih];rfl
noncomputable def rT(n:Nat):Str:=⟨#[48+n]⟩
end MM
namespace MM
def fV(a:CE)(lo b:CO):CE:=λl=>bnd (a l) λx=>bnd (lo l) λi=>bnd (b l) λj=>match x with
 | .tup ds=>ret (.tup (cutD ds i j))
 |_=>bad
end MM
namespace HT
open PySem PySem.Spec PyProof.Rows L2
section
variable{prog:Program}{w:bw}{A:br}{E:ac->ae->Prop}{s:ae}
theorem n6{t o:af}{b:Array ac}{H G:ac}{lo l:Option Int}{Q:ac->ae->Prop}(g:Dn s.heap t b)(hs:s.heap.IsSliceOf o H G .none)(L:oW H lo)(J:oW G l)
  (I:gp b.size 0 lo=0/\gp b.size b.size l=b.size) (h:Q (.ref t) s):aD (aK prog w) A (nC (.ref t) (.ref o)) Q E s:=by
 obtain⟨os,u,v,O⟩:=id hs;have C:s.TypeIs (.ref o) "slice":=⟨os,u,v⟩
 unfold nC
 try with_reducible refine cB ?_
 first|refine aa (ah ?_)|skip
 refine aa (q_ g.typeIs (by decide) ?_);refine aa (cV (name:=ag "__getitem__") g.typeIs dm
  (d6 dm g.typeIs AR ?_ (Ct _ _)))
 show aD _ _ (i8 (.ref t) >>= _) _ _ s;refine aa (tupleItemsOf_ g ?_);refine aa (w_ C ?_);rw[aE (by decide)];refine aa (MV hs L J ?_);have c:((((gp b.size 0 lo:Nat):Int) == 0&&(1:Int) == 1&&(gp b.size b.size l-gp b.size 0 lo) == b.size)=true):=by rw[I.1,I.2];simp
 show aD _ _ (if (((gp b.size 0 lo:Nat):Int) == 0&&(1:Int) == 1&&(gp b.size b.size l-gp b.size 0 lo) == b.size)=true then _ else _) _ _ s;rw[aE c];unfold Builtin.Tuple.tupleIsExact;refine aa (aa (w_ g.typeIs ?_));refine ah ?_;rw[aE (by decide)];exact aa (e8 (ah ⟨_,rfl,ah h⟩))
end
end HT
namespace MM
open PySem PySem.Spec PyProof.Rows L2
section
variable{X:Cx}{e:Expr}{fa:CE}{pos:Pos}
def IU(K:aj):V->Option Int->Option Int->Hp->VK->Prop:=λx lo b H Q=>∃a xs,x=.ref a/\kz K H a xs/\((HT.gp xs.length 0 lo=0/\HT.gp xs.length xs.length b=xs.length)->Q (.ref a) H) /\
 (¬ (HT.gp xs.length 0 lo=0/\HT.gp xs.length xs.length b=xs.length)->∀p,H p=none->Q (.ref p) (eB H p (.tup (rZ xs lo b))))
theorem U6:GJ X (IU X.K):=by
 intro b s σ H x v L J lo G O Q I l hs u o h;obtain⟨a,xs,rfl,C,Y,U⟩:=h;by_cases g:HT.gp xs.length 0 lo=0/\HT.gp xs.length xs.length G=xs.length
 ·cases l;obtain⟨its,r,E,hz⟩:=I.tuple C;have c:its.toArray.size=xs.length:=by rw[aM];exact r.length.symm
  refine⟨"tuple",_,dm.lookup,E.typeIs,?_⟩;exact HT.n6 E hs u o (by rw[c];exact g) ⟨.ref a,H,I,rfl,Y g⟩
 ·exact Qb8 b s σ H _ v L J lo G O Q I l hs u o ⟨a,xs,rfl,C,g,U g⟩
theorem VH{ds:List D}{i j:Option Int}(h:MM.gp ds.length 0 i=0/\MM.gp ds.length ds.length j=ds.length):cutD ds i j=ds:=by unfold cutD;rw[h.1,h.2,fU,GC,dj]
theorem ZR{lo U:Option Expr}{fl Y:CO}{C:Pos}(h:SE X e fa)(hl:SO X lo fl)(hh:SO X U Y):SE X (.Subscript e (.Slice lo U none C) pos) (fV fa fl Y):=
 (NO U6 h hl hh).of λσ H Q h_=>h_.el λρ l st E sr p=>⟨ρ,l,st,E,sr,p.bnd.imp λd g ρ1 H1 L s1 p1 v rv=>⟨ρ1,l,g,E.mono L,s1,p1.bnd.imp λi c ρ2 H2 J s2 C=>⟨ρ2,l,c,(E.mono L).mono J,s2,C.bnd.imp λj st3 ρ3 H3 x3 O b=>by
  have u:=(rv.mono J).mono x3;have e:∀n d o,HT.gp n d o=MM.gp n d o:=λn d o=>by cases o<;>rfl
  cases u with
  |@tup a vs ds h r=>
   refine⟨a,vs,rfl,h,λG=>?_,λG q I=>b ρ3 _ (Ex.new I) (O.new I) _ (.tup (kz.of iI) ((ce.cut r i j).mono (Ex.new I)))⟩;rw[e,e,r.length]at G;dsimp only at b;rw[VH G]at b;exact b.ret O _ (.tup h r)
  |_=>exact b.elim⟩⟩⟩
end
def zn:ml:=λq c e=>D0 e λa lo o _ p h=>wh (c.tag p 1=true) λ_=>(q.e c a).bind λl=>(zN q c lo).bind λfl=>(zN q c o).bind λb=>some ⟨fV l.1 fl.1 b.1,λg=>h ▸ ZR (l.2 g) (fl.2 g) (b.2 g)⟩
section
variable{X:Cx}
theorem Hh{x y z:Str}{a b c:Tok}:cU [V.str x,.str y,.str z] [iF x a,.str y b,.str z c]:=.cons ⟨a,rfl⟩ (.cons ⟨b,rfl⟩ (.cons ⟨c,rfl⟩ .nil))
def yH:V->List V->Hp->VK->Prop:=λx c H Q=>∃a b,x=.str a/\c=[.str b]/\Q (.bl (sw a b)) H
theorem W0:C1 X "str.startswith" yH:=by intro c s σ H x E v G Q I g l h;obtain⟨a,b,rfl,rfl,q⟩:=h;obtain⟨t,rfl⟩:=g;obtain⟨u,rfl,o⟩:=l.one;obtain⟨t',rfl⟩:=o;refine lZ F.slot_str_startswith (kH _ _ _) F.entry_str_startswith (F.args_str_startswith_2 _ _) (S:=λA R s=>R (.ok (.ret (.bool (sw a b)))) s) ?_ ⟨.bl _,H,I,rfl,q⟩;intro prog w A R s C;exact gives_str_startswith a b t t' prog w A R s C
def AE(f:Str->Str->Str×Str×Str):V->List V->Hp->VK->Prop:=λx c H Q=>∃a b,x=.str a/\c=[.str b]/\(b.length == 0)=false/\a.length<=eK/\∀l,H l=none->Q (.ref l) (eB H l (.tup [.str (f a b).1,.str (f a b).2.1,.str (f a b).2.2]))
theorem Qjx:C1 X "str.partition" (AE oH):=by
 intro l s σ H x U v Y Q I C E h;obtain⟨a,b,rfl,rfl,L,O,q⟩:=h;obtain⟨t,rfl⟩:=C;obtain⟨u,rfl,G⟩:=E.one;obtain⟨t',rfl⟩:=G;have g:a.length<=sizeLine:=bv O (by decide);refine lZ F.slot_str_partition (kH _ _ _) F.entry_str_partition (F.args_str_partition_2 _ _) (meets_str_partition a b t t' L g) ?_;unfold oH at q;have J:=I.hok.fresh (az s.heap.objs.size);have c:=q _ J;split<;>rename_i e<;>rw[e]at c
 ·exact⟨.ref s.heap.objs.size,_,I.laid (o:=.tup [.str _,.str _,.str _]) (λb o e=>aw _ e) (az _) ⟨by show 3<=sizeLine;decide,[.str _ _,.str _ _,.str _ _],Hh,gY.new _ _⟩,rfl,c⟩
 ·exact⟨.ref s.heap.objs.size,_,I.laid (o:=.tup [.str _,.str _,.str _]) (λb o e=>aw _ e) (az _) ⟨by show 3<=sizeLine;decide,[.str _ _,.str _ _,.str _ _],Hh,gY.new _ _⟩,rfl,c⟩
theorem WC:C1 X "str.rpartition" (AE nG):=by
 intro l s σ H x U v Y Q I C E h;obtain⟨a,b,rfl,rfl,L,O,q⟩:=h;obtain⟨t,rfl⟩:=C;obtain⟨u,rfl,G⟩:=E.one;obtain⟨t',rfl⟩:=G;have g:a.length<=sizeLine:=bv O (by decide);refine lZ F.slot_str_rpartition (kH _ _ _) F.entry_str_rpartition (F.args_str_rpartition_2 _ _) (meets_str_rpartition a b t t' L g) ?_;unfold nG at q;have J:=I.hok.fresh (az s.heap.objs.size);have c:=q _ J;split<;>rename_i e<;>rw[e]at c
 ·exact⟨.ref s.heap.objs.size,_,I.laid (o:=.tup [.str _,.str _,.str _]) (λb o e=>aw _ e) (az _) ⟨by show 3<=sizeLine;decide,[.str _ _,.str _ _,.str _ _],Hh,gY.new _ _⟩,rfl,c⟩
 ·exact⟨.ref s.heap.objs.size,_,I.laid (o:=.tup [.str _,.str _,.str _]) (λb o e=>aw _ e) (az _) ⟨by show 3<=sizeLine;decide,[.str _ _,.str _ _,.str _ _],Hh,gY.new _ _⟩,rfl,c⟩
theorem Xp{o e:Expr}{U O:CE}{g b:Pos}(ho:SE X o U)(ha:SE X e O)(u:cY o "startswith" X.env (eval o X.env)=eval o X.env)
  (C:((di b (av [e] X.env)).all (λx => !x.1)&&(ke b (fP [] X.env)).all (λx=>x.1.isSome)&&decide ([e].length+([]:List eR).length+(if ([]:List eR).isEmpty then 0 else 1) < 30))=true)
  (h:(g.endLine == b.line)=true) (hs:av [e] X.env=(false,eval e X.env)::av [] X.env) (c:(di b (av [] X.env)).any (·.1)=false):
  SE X (.Call (.Attribute o "startswith" g) [e] [] b) (oh U O):=
 (Bf fZ PySem.F.slot_str_startswith PySem.F.type_str_startswith W0 ho (nJ ha qj hs) u C h hs c).of λσ H Q h_=>h_.el λρ l st L sr p=>⟨ρ,l,st,L,sr,p.bnd.imp λd E ρ1 H1 Y s1 J v rv=>by
  cases rv with
  |str x=>
   refine⟨rfl,ρ1,l,E,L.mono Y,s1,(aW.bnd J).imp λy st2 ρ2 H2 x2 s2 I w G=>?_⟩;cases G with
   |str y=>exact⟨x,y,rfl,rfl,I.ret s2 _ (.bl _)⟩
   |_=>exact I.elim
  |_=>exact J.elim⟩
theorem Tt{o e:Expr}{Y U:CE}{g b:Pos}(ho:SE X o Y)(ha:SE X e U)(u:cY o "partition" X.env (eval o X.env)=eval o X.env)
  (C:((di b (av [e] X.env)).all (λx => !x.1)&&(ke b (fP [] X.env)).all (λx=>x.1.isSome)&&decide ([e].length+([]:List eR).length+(if ([]:List eR).isEmpty then 0 else 1) < 30))=true)
  (h:(g.endLine == b.line)=true) (hs:av [e] X.env=(false,eval e X.env)::av [] X.env) (c:(di b (av [] X.env)).any (·.1)=false):
  SE X (.Call (.Attribute o "partition" g) [e] [] b) (pe oH Y U):=
 (Bf fZ PySem.F.slot_str_partition PySem.F.type_str_partition Qjx ho (nJ ha qj hs) u C h hs c).of λσ H Q h_=>h_.el λρ l st L sr p=>⟨ρ,l,st,L,sr,p.bnd.imp λd E ρ1 H1 x1 s1 J v rv=>by
  cases rv with
  |str x=>
   refine⟨rfl,ρ1,l,E,L.mono x1,s1,(aW.bnd J).imp λy st2 ρ2 H2 x2 s2 I w G=>?_⟩;cases G with
   |str y=>
    obtain⟨⟨hb,hl⟩,p3⟩:=aW.chk I;exact⟨x,y,rfl,rfl,hb,hl,λq O=>p3 _ _ (Ex.new O) (s2.new O) _ (.tup (kz.of iI) (.cons (.str _) (.cons (.str _) (.cons (.str _) .nil))))⟩
   |_=>exact I.elim
  |_=>exact J.elim⟩
theorem V5{o e:Expr}{Y U:CE}{g b:Pos}(ho:SE X o Y)(ha:SE X e U)(u:cY o "rpartition" X.env (eval o X.env)=eval o X.env)
  (C:((di b (av [e] X.env)).all (λx => !x.1)&&(ke b (fP [] X.env)).all (λx=>x.1.isSome)&&decide ([e].length+([]:List eR).length+(if ([]:List eR).isEmpty then 0 else 1) < 30))=true)
  (h:(g.endLine == b.line)=true) (hs:av [e] X.env=(false,eval e X.env)::av [] X.env) (c:(di b (av [] X.env)).any (·.1)=false):
  SE X (.Call (.Attribute o "rpartition" g) [e] [] b) (pe nG Y U):=
 (Bf fZ PySem.F.slot_str_rpartition PySem.F.type_str_rpartition WC ho (nJ ha qj hs) u C h hs c).of λσ H Q h_=>h_.el λρ l st L sr p=>⟨ρ,l,st,L,sr,p.bnd.imp λd E ρ1 H1 x1 s1 J v rv=>by
  cases rv with
  |str x=>
   refine⟨rfl,ρ1,l,E,L.mono x1,s1,(aW.bnd J).imp λy st2 ρ2 H2 x2 s2 I w G=>?_⟩;cases G with
   |str y=>
    obtain⟨⟨hb,hl⟩,p3⟩:=aW.chk I;exact⟨x,y,rfl,rfl,hb,hl,λq O=>p3 _ _ (Ex.new O) (s2.new O) _ (.tup (kz.of iI) (.cons (.str _) (.cons (.str _) (.cons (.str _) .nil))))⟩
   |_=>exact I.elim
  |_=>exact J.elim⟩
end
section
def zS:ml:=rC "startswith" oh ki λ_ o a b f l s p=>Xp o a b f l s p
def D3:ml:=rC "partition" (pe oH) ki λ_ o a b f l s p=>Tt o a b f l s p
def Bz:ml:=rC "rpartition" (pe nG) ki λ_ o a b f l s p=>V5 o a b f l s p
end
end MM
namespace MM
def nj{α:Type}(m:M α):M α:=λs=>match m s with
 | .ok a s'=>.ok a s'
 |_=>.bad
def rR(c:CS):CS:=λl=>nj (c l)
def zu(c:CE):CE:=λl=>nj (c l)
def o9(c:CT):CT:=λl=>nj (c l)
def kj(c:CA):CA:=λl=>nj (c l)
def wS(c:CI):CI:=λl=>nj (c l)
def qQ(c:CG):CG:=λd l=>nj (c d l)
noncomputable def wd(d:D):M o_:=λs=>.exc d s
def gW(x f:kN)(e:CE):CS:=λl=>bnd (nj (e l)) λd=>wd (.exn x [.str f,d])
open PySem PyProof.Rows
section
variable{M:vZ}{A:br}{E:ac->ae->Prop}{s:ae}
structure A9(fs:List af)(e:af)(c:ac)(d:Option af)(sl:Array (Option ac))(vs:Array ac)(L T:af)(h h':bu):Prop where
 keep:∀b o,b≠e->b∉fs->h.get? b=some o->h'.get? b=some o
 slot:∀b o,b≠e->h.get? b=some o->∃sl,h'.get? b=some { o with slots:=sl }
 new:h.get? T=none
 ne:T≠e
 ex:h'.get? e=some ⟨c,d,.fields (vs.setIfInBounds 1 (.ref T)),sl⟩
 tr:∃ts,h'.get? T=some ⟨.type "traceback",none,.fields ts,#[]⟩/\ts[3]?=some (gx L)
theorem LA{base:bu}{env:Env}{outer:List Env}{L e:af}{c:ac}{d:Option af}{sl:Array (Option ac)}{O:Array ac}{u:ac}{g:Bool}{Q:Unit->ae->Prop}
  (hfr:A.frames=some (env::outer)) (hl:s.heap.FunFrames base (env::outer)) (hf:env.frame=some L) (he:s.heap.get? e=some ⟨c,d,.fields O,sl⟩) (hsz:1 < O.size)
  (h:∀h' T,A9 ((env::outer).filterMap (·.frame)) e c d sl O L T s.heap h'->Q () { s with heap:=h' }):
  aD M A (do let a <- frameOf env;let U <- entryPlaceOf L g;let b <- sA u a .none (gx L) .none U;setField (.ref e) 1 b) Q E s:=by
 have G:e∉(env::outer).filterMap (·.frame):=λhm=>by obtain⟨_,o,ho,hnf⟩:=hl.mem hm;rw[he]at ho;cases ho;exact hnf O rfl
 refine aa (wpAny_frameOf_fun hfr hl hf λv l=>?_);refine aa (wpAny_entryPlaceOf λU hpl=>?_);unfold sA newFields;refine aa (eD ?_ (hpl.sizeOk5 _ _ _ _ _));have I:=(l.2.1 e G).trans he;generalize hts:([u,ax L,bF,gx L,bF]++(if U.isEmpty then db 6 bF else U)).toArray=Y;have h3:Y[3]?=some (gx L):=by rw[<- hts];simp
 have H:=aw (h:=v) { cls:=.type "traceback",dict:=none,data:=.fields Y } I;refine fD H rfl hsz (h _ v.objs.size ?_);have J:v.objs.size≠e:=gr (aL I);have sz:∀{b:af}{o:Obj},v.get? b=some o->v.objs.size≠b:=λq=>gr (aL q);refine⟨λb o C hbf hb=>?_,λb o C hb=>?_,?_,J,?_,Y,?_,h3⟩
 ·rw[b_ _ _ (dP C)];exact aw _ ((l.2.1 b hbf).trans hb)
 ·obtain⟨c,e1⟩:=l.2.2 b o hb;refine⟨c,?_⟩;rw[b_ _ _ (dP C)];exact aw _ e1
 ·cases z:s.heap.get? v.objs.size with
  |none=>rfl
  |some o=>
   obtain⟨_,e1⟩:=l.2.2 _ o z;exact bc rfl (sz e1)
 ·exact bK (cE (·.setIfInBounds 1 (ax v.objs.size))) H rfl
 ·rw[b_ _ _ (dP J)];exact aR v rfl
def JJ(h:bu)(e:af)(b:Array ac):Prop:=b[1]?=some .none\/∃T g c d l,b[1]?=some (.ref T)/\T≠e/\h.get? T=some ⟨c,d,.fields g,l⟩/\g[3]?=some .none
structure mo(fs:List af)(e:af)(c:ac)(d:Option af)(sl:Array (Option ac))(vs:Array ac)(f:ac)(h h':bu):Prop where
 keep:∀b o,b≠e->vs[1]?≠some (.ref b)->b∉fs->h.get? b=some o->h'.get? b=some o
 slot:∀b o,b≠e->vs[1]?≠some (.ref b)->h.get? b=some o->∃sl,h'.get? b=some { o with slots:=sl }
 there:∀b o,h.get? b=some o->∃o',h'.get? b=some o'
 ex:∃vs' T ts c' d' sl',h'.get? e=some ⟨c,d,.fields vs',sl⟩/\vs'[1]?=some (.ref T)/\T≠e/\h.get? T=none/\h'.get? T=some ⟨c',d',.fields ts,sl'⟩/\ts[3]?=some f/\vs'[2]?=vs[2]?
theorem A9.gone{fs:List af}{e L T:af}{c:ac}{d:Option af}{v:Array (Option ac)}{l:Array ac}{h h':bu}(g:A9 fs e c d v l L T h h')(hsz:1 < l.size):mo fs e c d v l (gx L) h h':=by
 obtain⟨C,H,G⟩:=g.tr;refine⟨λb o u _ J q=>g.keep b o u J q,λb o u _ q=>g.slot b o u q,λb o q=>?_,_,T,C,_,_,_,g.ex,?_,g.ne,g.new,H,G,by simp⟩
 ·by_cases z:b=e
  ·subst z;exact⟨_,g.ex⟩
  ·obtain⟨_,I⟩:=g.slot b o z q;exact⟨_,I⟩
 ·simp[hsz]
theorem DH{base:bu}{env:Env}{outer:List Env}{L e:af}{c:ac}{d:Option af}{sl:Array (Option ac)}{J:Array ac}{Q:Unit->ae->Prop}
  (H:A.frames=some (env::outer)) (hl:s.heap.FunFrames base (env::outer)) (hf:env.frame=some L) (O:s.heap.get? e=some ⟨c,d,.fields J,sl⟩) (hv:JJ s.heap e J)
  (h:∀h',mo ((env::outer).filterMap (·.frame)) e c d sl J (gx L) s.heap h'->Q () { s with heap:=h' }):aD M A (iZ (.ref e) env) Q E s:=by
 unfold iZ;simp only[hf];rcases hv with G|⟨T,ts,cT,dT,slT,G,hTe,U,h3⟩
 ·have hsz:=(dy.mp G).1;refine aa (b9 O rfl G ?_);rw[aA (by decide)];exact LA H hl hf O hsz λh' T g=>h h' (g.gone hsz)
 ·have hsz:=(dy.mp G).1;refine aa (b9 O rfl G ?_);rw[aE (by simp)];refine aa (b9 U rfl h3 ?_);rw[aA (by simp[gx])];refine aa (fD U rfl (dy.mp h3).1 ?_);have l:∀b,b≠T->(s.heap.update T (cE (·.setIfInBounds 3 bF))).get? b=s.heap.get? b:=λb C=>b_ _ _ (dP C);have I:=bK (cE (·.setIfInBounds 3 bF)) U rfl;refine LA (s:={ s with heap:=s.heap.update T (cE (·.setIfInBounds 3 bF)) }) H (hl.of_keeps λb o C L=>⟨o,?_,rfl⟩) hf ((l e (dP hTe)).trans O) hsz λh' Y g=>h h' ?_
  ·rw[l b λz=>?_]
   ·exact C
   ·subst z;rw[U]at C;cases C;exact L ts rfl
  ·have h:∀b,J[1]?≠some (.ref b)->b≠T:=λb C z=>C (by rw[z];exact G);obtain⟨c,L,H⟩:=g.tr;have O:s.heap.get? Y=none:=by
    by_cases z:Y=T
    ·have:=g.new;rw[z,I]at this;cases this
    ·have:=g.new;rw[l Y z]at this;exact this
   refine⟨λb o u v Q q=>g.keep b o u Q ((l b (h b v)).trans q),λb o u v q=>g.slot b o u ((l b (h b v)).trans q),λb o q=>?_,_,Y,c,_,_,_,g.ex,by simp[hsz],g.ne,O,L,H,by simp⟩;by_cases z:b=e
   ·subst z;exact⟨_,g.ex⟩
   ·by_cases y:b=T
    ·subst y;obtain⟨_,E⟩:=g.slot _ _ z I;exact⟨_,E⟩
    ·obtain⟨_,E⟩:=g.slot b o z ((l b y).trans q);exact⟨_,E⟩
theorem X0{e T:af}{c H:ac}{d dT:Option af}{o b:Array (Option ac)}{g l:Array ac}{Q:Unit->ae->Prop}(u:s.heap.get? e=some ⟨c,d,.fields g,o⟩)(G:g[1]?=some (.ref T))(v:s.heap.get? T=some ⟨H,dT,.fields l,b⟩)(C:3 < l.size)
  (h:Q () { s with heap:=s.heap.update T (cE (·.setIfInBounds 3 .none)) }):aD M A (sB (.ref e) none) Q E s:=by
 unfold sB;refine aa (b9 u rfl G ?_);rw[aE (by simp)];exact fD v rfl C h
theorem mo.calm{fs:List af}{e:af}{c f:ac}{d:Option af}{u:Array (Option ac)}{L:Array ac}{h:bu}{Q:Unit->ae->Prop}(g:mo fs e c d u L f h s.heap)(q:∀h',mo fs e c d u L .none h h'->Q () { s with heap:=h' }):aD M A (sB (.ref e) none) Q E s:=by
 obtain⟨vs',T,ts,c',d',sl',e1,e2,Y,U,O,e6,e7⟩:=g.ex;have v:=(dy.mp e6).1;have l:∀b,b≠T->(s.heap.update T (cE (·.setIfInBounds 3 bF))).get? b=s.heap.get? b:=λb hb=>b_ _ _ (dP hb);have G:∀b o,h.get? b=some o->b≠T:=λb o z y=>by rw[y,U]at z;cases z
 have H:=bK (cE (·.setIfInBounds 3 bF)) O rfl;refine X0 e1 e2 O v (q _ ⟨λb o J I v z=>(l b (G b o z)).trans (g.keep b o J I v z),λb o J I z=>?_,λb o z=>?_,vs',T,_,_,_,_,(l e (dP Y)).trans e1,e2,Y,U,H,by simp[v],e7⟩)
 ·obtain⟨u,C⟩:=g.slot b o J I z;exact⟨u,(l b (G b o z)).trans C⟩
 ·obtain⟨o',C⟩:=g.there b o z;exact⟨o',(l b (G b o z)).trans C⟩
theorem ZV{base:bu}{env:Env}{outer:List Env}{L e:af}{c:ac}{d:Option af}{o:Array (Option ac)}{b:Array ac}{Q:Unit->ae->Prop}
  (l:A.frames=some (env::outer)) (v:s.heap.FunFrames base (env::outer)) (C:env.frame=some L) (G:s.heap.get? e=some ⟨c,d,.fields b,o⟩) (u:JJ s.heap e b)
  (h:∀h',mo ((env::outer).filterMap (·.frame)) e c d o b .none s.heap h'->Q () { s with heap:=h' }):aD M A (leaving env (.ref e)) Q E s:=by
 unfold leaving;exact aa (DH l v C G u λh' g=>mo.calm (s:={ s with heap:=h' }) g λH g2=>h H g2)
end
open PySem.W L2
noncomputable def Fl(v:bu)(G H:Hp)(h:bu)(a:af):Prop:=v.get? a=none/\(∀o u,G a≠some (.frz o u))/\∃c d b C,H a=some (.frz ⟨c,d,.fields b,C⟩ (.own a)) /\
 (b[1]?=some .none\/∃T l E d' g,b[1]?=some (.ref T)/\T≠a/\v.get? T=none/\H T=none/\h.get? T=some ⟨E,d',.fields l,g⟩/\l[3]?=some .none)
def rJ(P:Program)(w:bw):uq:=λouter H s E e s'=>∃a b,e=.ref a/\s'.os=s.os/\kL s'.gens/\Un (sG outer) [] H b s.heap s'.heap/\mD P w b s'.heap/\Fl s.heap H b s'.heap a/\E (.ref a) none b
def fL(a:af)(H h:Hp):Prop:=∃c d b vs' g,H a=some (.frz ⟨c,d,.fields b,g⟩ (.own a))/\vs'[2]?=b[2]?/\h=eB H a (.frz ⟨c,d,.fields vs',g⟩ (.own a))
section
variable{X:Cx}{ao:List (af×Obj)}{σ:L2.St}{H:Hp}{s:ae}{a:af}
theorem JH{P:Program}{w:bw}{h h':bu}{fs:List af}{c f:ac}{d:Option af}{C:Array (Option ac)}{E vs':Array ac}(G:mD P w H h)(I:∀b∈fs,H b=none)(J:H a=some (.frz ⟨c,d,.fields E,C⟩ (.own a)))(Q:∀T,E[1]?=some (.ref T)->H T=none)(g:mo fs a c d C E f h h')(L:h'.get? a=some ⟨c,d,.fields vs',C⟩):
  mD P w (eB H a (.frz ⟨c,d,.fields vs',C⟩ (.own a))) h':=by
 intro b o e;by_cases z:b=a
 ·subst z;rw[iI]at e;cases e;exact⟨L,_,L⟩
 ·rw[fR z]at e;have kp:∀v u o',H v=some o'->v≠a->h.get? v=some u->h'.get? v=some u:=λv u o' l Y U=>g.keep v u Y (λy=>by rw[Q v y]at l;cases l) (λy=>by rw[I v y]at l;cases l) U;refine (G b o e).stay (λv u O l=>?_) (λv l=>?_) (λv xs l=>?_)
  ·rcases O with y|y
   ·subst y;exact kp _ u o e z l
   ·exact kp v u _ y (λq=>by rw[q,J]at y;cases y) l
  ·rw[fR λq=>by rw[q,J]at l;cases l];exact l
  ·rw[fR λq=>by rw[q,J]at l;cases l];exact l
theorem Fl.fly{L:bu}{Q:Hp}{h:bu}(f:Fl L Q H h a):∃c d b u,H a=some (.frz ⟨c,d,.fields b,u⟩ (.own a))/\JJ h a b/\(∀T,b[1]?=some (.ref T)->H T=none/\L.get? T=none):=by
 obtain⟨_,_,c,d,b,u,e,z⟩:=f;refine⟨c,d,b,u,e,?_,λT l=>?_⟩
 ·rcases z with z|⟨T,J,O,d',g,o,I,G,E,C,v⟩
  ·exact .inl z
  ·exact .inr ⟨T,J,O,d',g,o,I,C,v⟩
 ·rcases z with z|⟨U,J,O,d',g,o,I,G,E,C,v⟩
  ·rw[z]at l;cases l
  ·rw[o]at l;cases l;exact⟨E,G⟩
end
section
variable{P:Program}{w:bw}{K:Frag}{mg:Str->Option ac}{base:bu}{N:List Str}{qual:Str}{scope:dw}{f:af}{cd:ac}{A:br}{outer:List Env}{s:ae}{H:Hp}{E:XK}
variable{ao:List (af×Obj)}{σ:L2.St}{H':Hp}{s':ae}{a:af}
theorem Wy(I:Inv (ko (rJ P w) P w K mg base N qual scope f cd A outer s H E) ao σ H' s')(fl:Fl s.heap H H' s'.heap a)(hE:∀H2,fL a H' H2->E (.ref a) none H2):
  (ko (rJ P w) P w K mg base N qual scope f cd A outer s H E).xe (.ref a) s':=by
 obtain⟨c,d,L,C,J,hv,hT⟩:=fl.fly;obtain⟨ga,_⟩:=(show dz P w H' s'.heap a (.frz ⟨c,d,.fields L,C⟩ (.own a)) from I.hok a _ J)
 have hfr:=I.ok.frames;have Y:=I.stack;have hsf:=I.stkFree
 show aD (aK P w) (A.deeper (eU qual scope s.heap.objs.size f cd)) (leaving (eU qual scope s.heap.objs.size f cd) (.ref a)) _ _ s';refine ZV hfr Y rfl ga hv λh2 g=>?_;obtain⟨vs',T,ts,c',d',Q,e1,e2,e3,e4,e5,e6,e7⟩:=g.ex;have th:∀b o,s.heap.get? b=some o->∃o',s'.heap.get? b=some o':=λb o q=>I.base.there b o q (by intro z;cases z);have U:∀b o,s.heap.get? b=some o->b∉sG outer->b∉(eU qual scope s.heap.objs.size f cd::outer).filterMap (·.frame):=λb o q v z=>by
  rw[fO]at z;rcases aI.mp (show b∈s.heap.objs.size::sG outer from z) with z|z
  ·exact bc (aL q) (by rw[z];exact cP _)
  ·exact v z
 have l:∀b o,s.heap.get? b=some o->b≠a:=λb o q z=>by rw[z,fl.1]at q;cases q
 have neT:∀b o,s.heap.get? b=some o->L[1]?≠some (.ref b):=λb o q z=>by rw[(hT b z).2]at q;cases q
 have G:∀b,b≠a->eB H' a (.frz ⟨c,d,.fields vs',C⟩ (.own a)) b=H' b:=λb z=>fR z;refine⟨a,eB H' a (.frz ⟨c,d,.fields vs',C⟩ (.own a)),rfl,I.os,I.bare,⟨λb o q n v _=>?_,λb o q n v _=>?_,λb o q n _=>?_,λb o q _=>?_,λb xs q=>?_,λb o u q=>?_,λb ps q=>?_⟩,JH I.hok hsf J (λT z=>(hT T z).1) g e1,⟨fl.1,fl.2.1,c,d,vs',C,iI,.inr ⟨T,ts,c',d',Q,e2,e3,?_,?_,e5,e6⟩⟩,hE _ ⟨c,d,L,vs',C,J,e7,rfl⟩⟩
 ·exact g.keep b o (l b o q) (neT b o q) (U b o q v) (I.base.keep b o q n v (by intro z;cases z))
 ·obtain⟨c,h⟩:=I.base.slot b o q n v (by intro z;cases z);obtain⟨O,u⟩:=g.slot b _ (l b o q) (neT b o q) h;exact⟨O,u⟩
 ·rw[G b (l b o q)];exact I.base.free b o q n (by intro z;cases z)
 ·obtain⟨o',h⟩:=th b o q;exact g.there b o' h
 ·have:=I.base.tups b xs q;rw[G b λz=>by rw[z,J]at this;cases this];exact this
 ·have:=I.base.frzs b o u q;rw[G b λz=>by rw[z]at q;exact fl.2.1 o u q];exact this
 ·obtain⟨more,h⟩:=I.base.tbls b ps q;exact⟨more,by rw[G b λz=>by rw[z,J]at h;cases h];exact h⟩
 ·cases z:s.heap.get? T with
  |none=>rfl
  |some o=>obtain⟨o',q⟩:=th T o z;rw[e4]at q;cases q
 ·rw[G T e3];cases z:H' T with
  |none=>rfl
  |some o=>obtain⟨ob,q⟩:=K0 (I.hok T o z);rw[e4]at q;cases q
end
section
variable{K:Frag}{ρ ρ1:List af}{H H1 H2:Hp}{st:aT}{a:af}
abbrev XW:=D->aT->List af->Hp->Prop
def aQ{α:Type}(K:Frag)(ρ:List af)(H:Hp)(r:Rs α)(R:α->aT->List af->Hp->Prop)(W:XW):Prop:=match r with
 | .ok a st=>∀ρ' H',Ex ρ H ρ' H'->SR K ρ' H' st->R a st ρ' H'
 | .exc d st=>∀ρ' H',Ex ρ H ρ' H'->SR K ρ' H' st->W d st ρ' H'
 | .bad=>False
variable{α β:Type}{W:XW}
theorem aQ.left{r:Rs α}{R:α->aT->List af->Hp->Prop}(x:Ex ρ H ρ1 H1)(h:aQ K ρ H r R W):aQ K ρ1 H1 r R W:=by
 cases r with
 |ok a st=>exact λρ' b y s=>h ρ' b (x.trans y) s
 |exc _ _=>exact λρ' b y s=>h ρ' b (x.trans y) s
 |bad=>exact h
theorem aQ.imp{r:Rs α}{R c:α->aT->List af->Hp->Prop}(h:aQ K ρ H r R W)(f:∀a st ρ' b,Ex ρ H ρ' b->SR K ρ' b st->R a st ρ' b->c a st ρ' b):aQ K ρ H r c W:=by
 cases r with
 |ok a st=>exact λρ' b y s=>f a st ρ' b y s (h ρ' b y s)
 |exc _ _=>exact h
 |bad=>exact h
theorem aQ.bnd{m:M α}{f:α->M β}{R:β->aT->List af->Hp->Prop}(h:aQ K ρ H (bnd m f st) R W):aQ K ρ H (m st) (λa b ρ' c=>aQ K ρ' c (f a b) R W) W:=by
 unfold MM.bnd at h;cases e:m st with
 |ok a s'=>
  rw[e]at h;exact λρ' c y s=>aQ.left y h
 |exc _ _=>rw[e]at h;exact h
 |bad=>rw[e]at h;exact h
theorem aQ.ret{x:α}{R:α->aT->List af->Hp->Prop}(h:aQ K ρ H (MM.ret x st) R W)(s:SR K ρ H st):R x st ρ H:=h ρ H Ex.refl s
theorem aQ.no{m:M α}{R:α->aT->List af->Hp->Prop}(h:aQ K ρ H (nj m st) R W):aW K ρ H (m st) R:=by
 unfold nj at h;cases e:m st with
 |ok a s'=>rw[e]at h;exact h
 |exc _ _=>rw[e]at h;exact h
 |bad=>rw[e]at h;exact h
theorem fL.ne{b:af}{o:HO}(t:fL a H H2)(h:H b=some o)(g:∀q,o≠.frz q (.own a)):H2 b=some o:=by
 obtain⟨c,d,l,vs',u,e,v,rfl⟩:=t;by_cases z:b=a
 ·subst z;rw[h]at e;cases e;exact bc rfl (g _)
 ·rw[fR z];exact h
theorem fL.knd{b:af}{o:HO}(t:fL a H H2)(h:H b=some o):∃o',H2 b=some o'/\kO o'=kO o:=by
 obtain⟨c,d,g,vs',l,e,u,rfl⟩:=t;by_cases z:b=a
 ·subst z;rw[h]at e;cases e;exact⟨_,iI,rfl⟩
 ·exact⟨o,by rw[fR z];exact h,rfl⟩
theorem fL.rmap(t:fL a H H2):yI K ρ H ρ H2 where
 sq h:=by
  rcases h with (h|⟨o,h⟩)|h
  ·exact .inl (.inl (t.ne h λ_ z=>(by cases z)))
  ·exact .inl (.inr ⟨o,t.ne h λ_ z=>(by cases z)⟩)
  ·exact .inr h
 fz h:=by
  rcases h with ⟨o,h⟩|h
  ·exact .inl ⟨o,t.ne h λ_ z=>(by cases z)⟩
  ·exact .inr h
 kd h _:=t.knd h
 rt:=id
 ow {b _}:=λl=>by
  obtain⟨o,u,v⟩:=l;obtain⟨c,d,G,vs',I,e,E,rfl⟩:=t;by_cases z:b=a
  ·subst z;rw[u]at e;cases e;exact⟨_,iI,v⟩
  ·exact⟨o,by rw[fR z];exact u,v⟩
 ex {b _ _ _}:=λg=>by
  obtain⟨o,u,v⟩:=g;obtain⟨c,d,G,vs',I,e,E,rfl⟩:=t;by_cases z:b=a
  ·subst z;rw[u]at e;cases e;obtain⟨O,C,Q,L,J⟩:=v;cases L;exact⟨_,iI,O,C,_,rfl,J.imp id λz=>by rw[E];exact z⟩
  ·exact⟨o,by rw[fR z];exact u,v⟩
 xd h:=t.ne h λ_ z=>(by cases z)
theorem dG.turn(t:fL a H H2){v:V}{d:D}(r:dG K ρ H v d):dG K ρ H2 v d:=r.map t.rmap
theorem ce.turn(t:fL a H H2){b:List V}{ds:List D}(r:ce K ρ H b ds):ce K ρ H2 b ds:=r.map t.rmap
theorem qU.turn{c:af}{q:Str}(t:fL a H H2)(h:qU H c q):qU H2 c q:=by obtain ⟨g,b,x,e,r⟩:=h;exact ⟨g,b,x,t.ne e (λ_ z=>by injection z with _ z;cases z),r⟩
theorem SR.turn(t:fL a H H2)(s:SR K ρ H st):SR K ρ H2 st:=⟨s.len,s.nd,λn b o l g=>by
 have q:=s.ob n b o l g;cases o with
 |lst ds=>obtain⟨E,h,r⟩:=q;exact⟨E,t.ne h λ_ z=>(by cases z),r.turn t⟩
 |dcf bA=>obtain⟨G,h,r⟩:=q;exact⟨G,t.ne h λ_ z=>(by cases z),iX.mapS r λ_ _ z=>⟨z.1,z.2.1.turn t,z.2.2.turn t⟩⟩
 |ded=>
  obtain⟨o,h⟩:=q;obtain⟨c,d,E,vs',I,e,J,rfl⟩:=t;by_cases z:b=a
  ·subst z;exact⟨_,iI⟩
  ·exact⟨o,by rw[fR z];exact h⟩
 |clo c E=>
  obtain⟨o,Q,q,cd,cl,l,g,C,e4,Y,U⟩:=q;refine⟨o,Q,q,cd,cl,?_,g,C,e4.turn t,Y,iX.mapS U λ_ _ z=>let ⟨o,u,v,l,g,C,r⟩:=z;⟨o,u,v,t.ne l (λ_ z=>by injection z with _ z;cases z),g,C,r.turn t⟩⟩;obtain⟨c,d,E,vs',I,e,J,rfl⟩:=t;by_cases z:b=a
  ·subst z;rw[l]at e;cases e;cases g
  ·rw[fR z];exact l
 |lam e=>
  obtain⟨ps,b',sc,p,q,c,O,ct,l,g,C⟩:=q;refine⟨ps,b',sc,p,q,c,O,ct,l,?_,C.turn t⟩;obtain⟨c,d,E,vs',I,e,J,rfl⟩:=t;by_cases z:b=a
  ·subst z;rw[g]at e;cases e
  ·rw[fR z];exact g
 |tbl y=>
  obtain⟨L,ps,l,g,C⟩:=q;exact⟨L,ps,t.ne l λ_ z=>(by cases z),g,λp v z=>let ⟨c,a,b⟩:=C p v z;⟨c,a,b.turn t⟩⟩
 |dct k bA=>
  cases k with
  |false=>obtain⟨G,h,r⟩:=q;exact⟨G,t.ne h λ_ z=>(by cases z),iX.mapS r λ_ _ z=>⟨z.1,z.2.turn t⟩⟩
  |true=>obtain⟨G,h,r⟩:=q;exact⟨G,t.ne h λ_ z=>(by cases z),iX.mapS r λ_ _ z=>⟨z.1,z.2.1.turn t,z.2.2.turn t⟩⟩⟩
theorem Ex.turn(t:fL a H1 H2)(x:Ex ρ H ρ1 H1)(n:∀o u,H a≠some (.frz o u)):Ex ρ H ρ1 H2:=by
 have key:∀b o,H b=some o->H1 b=some o->H2 b=some o:=λb o h g=>by
  obtain⟨c,d,J,vs',L,e,O,rfl⟩:=t;by_cases z:b=a
  ·subst z;rw[g]at e;cases e;exact bc h (n _ _)
  ·rw[fR z];exact g
 refine⟨x.pre,λb o k e=>key b o e (x.fix b o k e),λb o v e=>key b o e (x.oth b o v e),λb o e=>?_⟩;obtain⟨o',I,E⟩:=x.knd b o e;obtain⟨l,G,C⟩:=t.knd I;exact⟨l,G,C.trans E⟩
end
def vp(X:Cx):XW:=λd _ ρ' c=>∀b σ s' a,Inv X b σ c s'->dG X.K ρ' c (.ref a) d->Fl X.s₀.heap X.H₀ c s'.heap a->X.xe (.ref a) s'
def zL(X:Cx)(f:CE):TE:=λσ H Q=>∃ρ l st,LR X.K ρ H σ l/\SR X.K ρ H st/\aQ X.K ρ H (f l st) (λd _ ρ' b=>∀v,dG X.K ρ' b v d->Q v b) (vp X)
def QO(X:Cx)(c:CS):TS:=λG σ H=>∃ρ l st,LR X.K ρ H σ l/\SR X.K ρ H st/\aQ X.K ρ H (c l st) (λf _ ρ' b=>match f with
 | .next l'=>∀σ',LR X.K ρ' b σ' l'->G.nx σ' b
 | .ret d=>∀v,dG X.K ρ' b v d->G.rt v b
 | .brk l'=>∀σ',LR X.K ρ' b σ' l'->G.bk σ' b
 | .cnt l'=>∀σ',LR X.K ρ' b σ' l'->G.ct σ' b) (vp X)
abbrev qM(X:Cx)(e:Expr)(f:CE):Prop:=PE X e (zL X f)
abbrev SX(X:Cx)(s:Stmt)(c:CS):Prop:=PS X s (QO X c)
abbrev zF(X:Cx)(s:List Stmt)(c:CS):Prop:=PSs X s (QO X c)
def vB(K:Frag)(n:Nat)(g:List D->M D):Sp:=λc H Q E=>c.length=n/\∃ρ st ds,SR K ρ H st/\ce K ρ H c ds/\aQ K ρ H (g ds st) (λr _ ρ' b=>∀v,dG K ρ' b v r->Q v b) (λd _ ρ' b=>∀a,dG K ρ' b (.ref a) d->E (.ref a) none b)
section
variable{X:Cx}{a b c e tg:Expr}{es:List Expr}{s:Stmt}{ss:List Stmt}{pos:Pos}{fa fb fc:CE}{ca cb:CA}{ta tb:CT}{cs cr:CS}{K:Frag}{ρ:List af}{H:Hp}{st:aT}
theorem YR(h:SS X s cs):SX X s (rR cs):=h.of λG σ H g=>by obtain⟨ρ,l,st,u,o,p⟩:=g;exact⟨ρ,l,st,u,o,p.no⟩
theorem Qn:zF X [] aH:=HD.of λG σ H g=>by obtain⟨ρ,l,st,o,h,p⟩:=g;exact aQ.ret p h σ o
theorem Sr(J:SX X s cs)(I:zF X ss cr):zF X (s::ss) (aF cs cr):=(E5 J I).of λG σ H g=>by obtain⟨ρ,l,st,E,C,p⟩:=g;exact⟨ρ,l,st,E,C,(aQ.bnd p).imp λf u ρ1 O L h o=>by
 cases f with
 |next l'=>exact λσ' v=>⟨ρ1,l',u,v,h,o⟩
 |ret d=>exact aQ.ret o h
 |brk l'=>exact aQ.ret o h
 |cnt l'=>exact aQ.ret o h⟩
theorem X1(I:ST X c ta)(L:zF X ss cs){o:List Stmt}(J:zF X o cr):SX X (.If c ss o pos) (ik (o9 ta) cs cr):=(OG I L J).of λG σ H g=>
 by obtain⟨ρ,l,st,u,o,p⟩:=g;exact⟨ρ,l,st,u,o,(aQ.no (aQ.bnd p)).imp λk h ρ1 O v C E=>by
  cases k with
  |true=>exact⟨ρ1,l,h,u.mono v,C,E⟩
  |false=>exact⟨ρ1,l,h,u.mono v,C,E⟩⟩
def MH(X:Cx):XK:=λv _ h=>∀g σ s' a,v=.ref a->Inv X g σ h s'->Fl X.s₀.heap X.H₀ h s'.heap a->X.xe (.ref a) s'
theorem Ww(hex:X.ex=[]):oM (rJ X.prog X.w) X (MH X):=λg σ H s e s' I h=>by
 obtain⟨a,H',rfl,os,l,un,C,fl,q⟩:=h;have I2:Inv X g σ H' s':=I.call' os un C l (ch:=[]) (λb z=>bc z (by simp));have up:∀b,s.heap.get? b=none->X.s₀.heap.get? b=none:=λb z=>by
  cases y:X.s₀.heap.get? b with
  |none=>rfl
  |some o=>
   obtain⟨o',q⟩:=I.base.there b o y (by rw[hex];simp);rw[z]at q;cases q
 obtain⟨f1,f2,c,d,Q,Y,f3,E⟩:=fl;refine q g σ s' a rfl I2 ⟨up a f1,λo u z=>f2 o u (I.base.frzs a o u z),c,d,Q,Y,f3,?_⟩;rcases E with E|⟨T,U,c',d',v,O,L,J,G⟩
 ·exact .inl E
 ·exact .inr ⟨T,U,c',d',v,O,L,up T J,G⟩
theorem Yz{k n:Nat}{f:af}{L:bU}{ps:List Str}{g:List D->M D}{x:Str}{p:Pos}(hex:X.ex=[])(F:gO X.prog X.w X.K X.mg X.base (rJ X.prog X.w) k f L ps (vB X.K n g))(b:Room k X.A)(hg:Gl X x)(hm:X.mg x=some (.ref f))
  (hk:keepIn X.K (.ref f)=true) (hb:Binds X.K L ps []) (ha:SA X (e::es) ca) (c:∀l st ds C,ca l st=.ok ds C->ds.length=n) (G:(x == ("__debug__":Str))=false:=by decide)
  (he:av (e::es) X.env=(false,eval e X.env)::av es X.env:=by rfl) (E:(di pos (av es X.env)).any (·.1)=false:=by rfl):qM X (.Call (.Name x p) (e::es) [] pos) (ba g (kj ca)):=
 (G7 F b hg hm hk hb .nil (Ww hex) ha G he E).of λσ H Q h=>by obtain⟨ρ,l,st,Y,U,p⟩:=h;exact⟨ρ,l,st,Y,U,by
  have q:=aQ.no (aQ.bnd p);cases u:ca l st with
  |bad=>rw[u]at q;exact q
  |exc _ _=>rw[u]at q;exact q
  |ok ds bB=>
   rw[u]at q;intro ρ1 H1 x1 s1 vs rvs;refine⟨by rw[bH,rvs.length];exact c l st ds bB u,ρ1,bB,ds,s1,by rw[bH];exact rvs,?_⟩;have o:aQ X.K ρ1 H1 (g ds bB) (λd _ ρ' O=>∀v,dG X.K ρ' O v d->Q v O) (vp X):=q ρ1 H1 x1 s1;cases J:g ds bB with
   |bad=>rw[J]at o;exact o
   |ok r st2=>rw[J]at o;exact o
   |exc d st2=>
    rw[J]at o;intro ρ2 H2 x2 s2 a rep ao σ s' a' ea I fl;cases ea;exact o ρ2 H2 x2 s2 ao σ s' a I rep fl⟩
theorem QS(h:qM X e fa)(hs:eW e none pos.line X.env=pure false:=by rfl):SX X (.Expr e pos) (iS fa):=(O_ h hs).of λG σ H g=>
 by obtain⟨ρ,l,st,o,E,p⟩:=g;exact⟨ρ,l,st,o,E,(aQ.bnd p).imp λd C ρ1 O u I J v L=>aQ.ret J I σ (o.mono u)⟩
theorem MA(h:qM X e fa):SX X (.Return (some e) pos) (cH fa):=(Lc h).of λG σ H g=>by obtain⟨ρ,l,st,J,u,p⟩:=g;exact⟨ρ,l,st,J,u,(aQ.bnd p).imp λd o ρ1 O L C I v E=>aQ.ret I C v E⟩
end
section
variable{X:Cx}{a b c e tg:Expr}{es:List Expr}{s:Stmt}{ss:List Stmt}{pos:Pos}{fa fb fc:CE}{ca cb:CA}{ta tb:CT}{cs cr:CS}{K:Frag}{ρ:List af}{H:Hp}{st:aT}
theorem aQ.chkS{W:XW}{p:aT->Prop}{R:Unit->aT->List af->Hp->Prop}(h:aQ K ρ H (MM.chkS p st) R W)(s:SR K ρ H st):p st/\R () st ρ H:=by
 unfold MM.chkS at h;by_cases g:p st
 ·rw[aE g]at h;exact⟨g,h ρ H Ex.refl s⟩
 ·rw[aA g]at h;exact h.elim
theorem Nc{i : Nat}{x : Str}{g : Pos}(b : X.N.Nodup)(Q : X.N[i]? = some x)(O : L2.Loc X.env.scope x)(Y : qM X e fa)(hs : eW e (some (.Name x g)) pos.line X.env = pure false := by rfl)
  (U:X.fn x=true\/X.env.scope.names.lookup x=some .local:=by first|exact .inl rfl|exact .inr rfl|assumption):SX X (.Assign [.Name x g] e pos) (bY (aU i) fa):=
 (Le b Q O Y hs U).of λG σ H h=>by obtain⟨ρ,l,st,u,I,p⟩:=h;exact⟨ρ,l,st,u,I,(aQ.bnd p).imp λd E ρ1 c C o L v J=>
  aQ.ret (aQ.ret (aQ.bnd L) o) o _ ((u.mono C).set i J)⟩
theorem QjR{iter:Expr}{u:List Stmt}{ci:CI}{g:CG}{cb:CS}(hp:pq (aK X.prog X.w) X.A X.env X.xe)(hc:X.calm=true)(hi:SI X tg iter ci)(hg:SG X tg g)(hb:zF X u cb)
  (hs:∀x,cX iter X.env x=pure x:=by intro _;rfl):SX X (.For tg iter u [] pos) (mF (wS ci) (qQ g) cb):=(Nf hp hc hi hg hb hs).of λG σ H C=>
 by obtain⟨ρ,l,st,lr,sr,p⟩:=C;exact⟨ρ,l,st,lr,sr,(aQ.no (aQ.bnd p)).imp λw c ρ1 H1 x1 s1 p1 J hJ=>by
  refine⟨λi m σ' h=>m=w.ds.length-i/\i<=w.ds.length/\∃ρ' l' st',Ex ρ1 H1 ρ' h/\LR X.K ρ' h σ' l'/\SR X.K ρ' h st'/\aQ X.K ρ' h (kD (qQ g) cb w.same (w.ds.drop i) l' st') (λf _ ρ' h=>match f with
   | .next l'=>∀σ',LR X.K ρ' h σ' l'->G.nx σ' h
   | .ret d=>∀v,dG X.K ρ' h v d->G.rt v h
   | .brk l'=>∀σ',LR X.K ρ' h σ' l'->G.bk σ' h
   | .cnt l'=>∀σ',LR X.K ρ' h σ' l'->G.ct σ' h) (vp X),⟨w.ds.length,by simp,bJ _,ρ1,l,c,Ex.refl,lr.mono x1,s1,p1⟩,?_⟩
  rintro i m σ2 H2 ⟨rfl,hi,ρ2,l2,st2,x2,lr2,s2,p2⟩
  by_cases E:i < w.ds.length
  ·have ed:w.ds.drop i=w.ds[i]::w.ds.drop (i+1):=bR E;rw[ed]at p2;unfold kD at p2;obtain⟨sm,p3⟩:=aQ.chkS (aQ.bnd p2) s2;obtain⟨_,go⟩:=hJ ρ2 H2 st2 x2 s2 sm;obtain⟨g1,g2⟩:=go i w.ds[i] (ar E);refine .inr ⟨g1,λσ3 I=>∃ρ3 l3 st3,Ex ρ1 H1 ρ3 I/\LR X.K ρ3 I σ3 l3/\SR X.K ρ3 I st3/\aQ X.K ρ3 I (kD (qQ g) cb w.same (w.ds.drop (i+1)) l3 st3) (λf _ ρ' h=>match f with
    | .next l'=>∀σ',LR X.K ρ' h σ' l'->G.nx σ' h
    | .ret d=>∀v,dG X.K ρ' h v d->G.rt v h
    | .brk l'=>∀σ',LR X.K ρ' h σ' l'->G.bk σ' h
    | .cnt l'=>∀σ',LR X.K ρ' h σ' l'->G.ct σ' h) (vp X),λσ3 I q=>⟨_,by ext,rfl,E,q⟩,λy I hy=>?_⟩
   obtain⟨Y,J,c⟩:=g2 y I hy;refine⟨ρ2,l2,st2,_,lr2.mono Y,J,c,(aQ.no (aQ.left Y (aQ.bnd p3))).imp λl4 b ρ4 H4 C H p4 σ4 l=>⟨ρ4,l4,b,l,H,(aQ.bnd p4).imp λf O ρ5 H5 u Q U=>?_⟩⟩;have L:Ex ρ1 H1 ρ5 H5:=(x2.trans Y).trans (C.trans u);cases f with
   |next l5=>exact λσ5 o=>⟨ρ5,l5,O,L,o,Q,U⟩
   |cnt l5=>exact λσ5 o=>⟨ρ5,l5,O,L,o,Q,U⟩
   |brk l5=>exact λσ5 o=>aQ.ret U Q σ5 o
   |ret d=>exact λv c=>aQ.ret U Q v c
  ·have e:i=w.ds.length:=by ext
   subst e;rw[e_]at p2;unfold kD at p2;obtain⟨sm,p3⟩:=aQ.chkS (aQ.bnd p2) s2;obtain⟨g1,_⟩:=hJ ρ2 H2 st2 x2 s2 sm;exact .inl ⟨g1,aQ.ret p3 s2 σ2 lr2⟩⟩
end
section
variable{prog:Program}{w:bw}{A:br}{E:ac->ae->Prop}{env:Env}{C N:af}{bm:List ac}
theorem Wa{s:ae}{x:Sem ac}{Q:Flow->ae->Prop}(J:bm.contains (.type "BaseException")=true)(hh:A.handled=none)
  (h:aD (aK prog w) A x (λv b=>∃e d c o u,v=.ref e/\n_ b.heap C N bm u/\b.heap.get? e=some ⟨.ref C,d,.fields c,o⟩/\c[1]?=some .none/\E (.ref e) b) E s):aD (aK prog w) A (pH env (some x) none) Q E s:=by
 have l:(ax C::bm).contains (.type "BaseException")=true:=by rw[c_,J,pI]
 unfold pH;refine aa (cc h (λv b O=>?_) λ_ _ x=>x);obtain⟨e,d,c,o,u,rfl,⟨⟨nm,q1,bs,sn,sub,ab,U,dd,k0,k1,k2,k3,k5,G⟩,_⟩,I,H,L⟩:=O;obtain⟨hp,g,dr,Y,os⟩:=b
 repeat (first
  |with_reducible refine eE I ?_
  |with_reducible refine eE G ?_
  | (with_reducible refine gq G ?_
     rw[l])
  |wp_step)
 rw[H];refine ah ?_;rw[aA (by decide)];exact ah (wpAny_raiseNew_none hh L)
end
theorem HU{P:af}:(ax P::fJ).contains (.type "BaseException")=true:=by simp[fJ]
section
variable{X:Cx}{sc:dw}{x f:Str}{C N P NP:af}{pos p ap:Pos}{e:Expr}{fa:CE}
theorem T1{fI:af}{fd:bU}{ps:List Str}(hex:X.ex=[])(hcm:X.calm=true)(F:XF X.K x f C N P NP)(hi:nsIn X.K N (ag "__init__")=some (some (.ref fI)))(Y:∃oI,X.K.lookup fI=some oI/\oI.cls=.type "function")
  (G:gO X.prog X.w X.K X.mg X.base m9 1 fI fd ps (vV C f)) (hr:Room 2 X.A) (hb:Binds X.K fd ps []) (hg:Gl X x) (hm:X.mg x=some (.ref C)) (hdb:(x == ("__debug__":Str))=false) (ha:SE X e fa)
  (he:av [e] X.env=[(false,eval e X.env)]:=by rfl):SX X (.Raise (some (.Call (.Name x p) [e] [] ap)) none pos) (gW x f fa):=by
 intro b s σ H D I g;obtain⟨ρ,l,st,lr,sr,q⟩:=g;rw[arm_exec_Raise];refine aa (fX ?_)
 show aD _ _ (pH X.env (some (do let v <- eval (.Call (.Name x p) [e] [] ap) X.env;pp pos;pure v)) none) _ _ _;have mk:=ZL (X:=X) (p:=p) (pos:=ap) F hi Y G hr hb hg hm (nJ ha qj he) hdb he;have q1:=aQ.no (aQ.bnd q);refine Wa (C:=C) (N:=N) (bm:=.ref P::fJ) HU (I.ok.hd hcm) (aa (fE (mk b s σ H (λv E=>∃a d c J,v=.ref a/\E a=some (.frz ⟨.ref C,d,.fields c,J⟩ (.own a))/\c[1]?=some .none/\X.s₀.heap.get? a=none/\(∀o u,X.H₀ a≠some (.frz o u))/\∀b σ s',Inv X b σ E s'->Fl X.s₀.heap X.H₀ E s'.heap a->X.xe (.ref a) s') I ?_) λv L z=>?_))
 ·refine⟨ρ,l,st,lr,sr,q1.imp λd bB ρ1 g Y L p1 v rv=>⟨v,rfl,λa O ob J h0 h2 h3 G h5 E=>?_⟩⟩;have k:=PX (f:=f) (v:=v) (ob:=ob) (o:=.ext (kQ a C)) J h2;have h:gB (eB g a (.ext (kQ a C))) a O f v ob a=some (.frz ob (.own a)):=by unfold gB;rw[iI]
  have gd:gB (eB g a (.ext (kQ a C))) a O f v ob O=some (.xd [(f,v)]):=by unfold gB;rw[fR h3,iI]
  have W:=p1 ρ1 _ (Ex.more k) (L.more k);have nH:H a=none:=by
   cases z:H a with
   |none=>rfl
   |some o=>exact bc J (Y.trk a o z)
  have U:dG X.K ρ1 (gB (eB g a (.ext (kQ a C))) a O f v ob) (.ref a) (.exn x [.str f,d]):=.exn F.gl ⟨ob,h,G,h5,E.imp λ_ z=>⟨z.1,.inr z.2.2.1⟩⟩ gd (rv.mono (Ex.more k));obtain⟨c,e1,e2,_⟩:=E;obtain⟨c0,d0,dd0,Q⟩:=ob;cases G;cases e1;have nz:∀o u,X.H₀ a≠some (.frz o u):=λo u z=>by have:=I.base.frzs a o u z;rw[nH]at this;cases this
  exact⟨a,d0,c,Q,rfl,h,e2,h0 hex,nz,λb σ s' I' fl=>W b σ s' a I' U fl⟩
 ·obtain⟨y,E,g,o,a,d,c,J,rfl,h,l,h0,hz,G⟩:=z;obtain rfl:v=ax a:=o;obtain⟨u,I,ch,_⟩:=F.ch g.kIn;obtain⟨H,_⟩:=(show dz X.prog X.w E L.heap a (.frz ⟨.ref C,d,.fields c,J⟩ (.own a)) from g.hok a _ h)
  exact aa (fX (ah ⟨a,d,c,J,u,rfl,ch.c,H,l,G b σ L g ⟨h0,hz,_,_,_,_,h,.inl l⟩⟩))
end
section
variable{prog:Program}{w:bw}{A:br}{E:ac->ae->Prop}{C N D N':af}{bm fg:List ac}{mN ft:Str->Option ac}
theorem HS{s:ae}{e:af}{b:Obj}{Q:Bool->ae->Prop}(G:n_ s.heap C N bm mN)(xd:n_ s.heap D N' fg ft)(hb:fg.contains (.type "BaseException")=true)(he:s.heap.get? e=some b)(hc:b.cls=.ref C)(h:Q ((ax C::bm).contains (.ref D)) s):
  aD (aK prog w) A (uR (.ref e) (.ref D)) Q E s:=by
 have c:(ax D::fg).contains (.type "BaseException")=true:=by rw[c_,hb,pI]
 obtain⟨⟨nm,q1,bs,sn,sub,ab,col,dd,k0,k1,k2,k3,k5,o⟩,_⟩:=xd;obtain⟨⟨L,J,bs',H,l,ab',v,dd',k0',k1',k2',Y,U,u⟩,_⟩:=G;obtain⟨hp,g,dr,tk,os⟩:=s;obtain⟨c0,d0,dt0,I⟩:=b;cases hc;have f:=tc_notTuple;generalize hk:(ax C::bm).contains (.ref D)=O at h;unfold uR
 repeat (first
  |with_reducible refine eE he ?_
  |with_reducible refine eE o ?_
  |with_reducible refine eE u ?_
  | (with_reducible refine gq o ?_
     rw[c])
  | (with_reducible refine gq u ?_
     rw[hk])
  |wp_step)
 cases O<;>(wp_walk;exact h)
end
theorem Ql{fs E:List af}{H1 G:Hp}{C h' h3:bu}{a:af}{c f:ac}{d:Option af}{I:Array (Option ac)}{H vs':Array ac}(un:Un fs [] H1 G C h')(Y:C.get? a=none)(U:∀o u,H1 a≠some (.frz o u))(hH:G a=some (.frz ⟨c,d,.fields H,I⟩ (.own a)))
  (hT:∀T,H[1]?=some (.ref T)->C.get? T=none) (g:mo E a c d I H f h' h3) (Q:∀b o,C.get? b=some o->b∉fs->b∉E):Un fs [] H1 (eB G a (.frz ⟨c,d,.fields vs',I⟩ (.own a))) C h3:=by
 have l:∀b o,C.get? b=some o->b≠a:=λb o q z=>by rw[z,Y]at q;cases q
 have neT:∀b o,C.get? b=some o->H[1]?≠some (.ref b):=λb o q z=>by rw[hT b z]at q;cases q
 have J:∀b,b≠a->eB G a (.frz ⟨c,d,.fields vs',I⟩ (.own a)) b=G b:=λb z=>fR z;refine⟨λb o q n L v=>?_,λb o q n L v=>?_,λb o q n v=>?_,λb o q v=>?_,λb xs q=>?_,λb o u q=>?_,λb ps q=>?_⟩
 ·exact g.keep b o (l b o q) (neT b o q) (Q b o q L) (un.keep b o q n L v)
 ·obtain⟨c,h⟩:=un.slot b o q n L v;obtain⟨O,u⟩:=g.slot b _ (l b o q) (neT b o q) h;exact⟨O,u⟩
 ·rw[J b (l b o q)];exact un.free b o q n v
 ·obtain⟨o',h⟩:=un.there b o q v;exact g.there b o' h
 ·have:=un.tups b xs q;rw[J b λz=>by rw[z,hH]at this;cases this];exact this
 ·have:=un.frzs b o u q;rw[J b λz=>by rw[z]at q;exact U o u q];exact this
 ·obtain⟨more,h⟩:=un.tbls b ps q;exact⟨more,by rw[J b λz=>by rw[z,hH]at h;cases h];exact h⟩
noncomputable def lM(X:Cx)(a:af):Cx:={ X with A:=X.A.mark (some (.ref a)),calm:=false,xe:=λ_ _=>False }
section
variable{X:Cx}{ao:List (af×Obj)}{σ:L2.St}{H:Hp}{s:ae}{a:af}
theorem TQ(ok:X.Ok):(lM X a).Ok:=⟨ok.mod,ok.kind,ok.glob,ok.blt,ok.above,ok.inj,ok.has,ok.cab,λz=>(by cases z),ok.frames,ok.stk,ok.exf,ok.bs,ok.bsz,ok.noex,ok.exfs,ok.funs,ok.frf⟩
theorem Hn(I:Inv X ao σ H s):Inv (lM X a) ao σ H s:=⟨TQ I.ok,I.os,I.bare,I.base,I.loc,I.cell,I.free,I.freeC,I.pin,I.hok,I.len⟩
theorem Im(ok:X.Ok)(I:Inv (lM X a) ao σ H s):Inv X ao σ H s:=⟨ok,I.os,I.bare,I.base,I.loc,I.cell,I.free,I.freeC,I.pin,I.hok,I.len⟩
theorem W1{M:vZ}{A:br}{E:ac->ae->Prop}{i:Nat}{n:Str}{v:V}{Q:Unit->ae->Prop}(I:Inv X ao σ H s)(hN:X.N.Nodup)(hi:X.N[i]?=some n)(O:X.env.scope.names.lookup n=some .local)(hv:σ[i]?=some (some v))
  (h:∀s',Inv X ao (σ.set i none) H s'->Q () s'):aD M A (unbindName X.env n) Q E s:=by
 obtain⟨m,hn,C⟩:=id I.loc;have J:(X.env.scope.kind == .class||(X.env.scope.kind == .module&&X.env.locals != X.env.globals))=false:=by rw[I.ok.kind];rfl
 have hk:X.env.kindOf n=some .local:=O;obtain⟨u,ru,lu⟩:=C i n v hi hv (.inl O);have hm:m n=some u:=by
  rcases lu with ⟨_,z⟩|⟨z,_⟩
  ·exact z
  ·rw[hk]at z;rcases z with z|z<;>cases z
 refine wpAny_unbindName_local hk hn hm J λh' u' hn' hs=>h _ ?_;have ne0:∀b o,X.s₀.heap.get? b=some o->b≠X.env.locals:=λb o q z=>by have:=aL q;rw[z]at this;exact bc (bp this I.ok.above) (cP _)
 have g:∀b o,X.s₀.heap.get? b=some o->h'.get? b=s.heap.get? b:=λb o q=>hs.2 b (ne0 b o q);refine⟨I.ok,I.os,I.bare,⟨λb o q n hb l=>(g b o q).trans (I.base.keep b o q n hb l),λb o q n hb l=>?_,I.base.free,λb o q l=>?_,I.base.tups,I.base.frzs,I.base.tbls⟩,⟨_,hn',λj y v' h1 U h3=>?_⟩,λy c e=>?_,I.free,I.freeC,λp hp=>?_,λb o e=>?_,?_⟩
 ·obtain⟨c,z⟩:=I.base.slot b o q n hb l;exact⟨c,(g b o q).trans z⟩
 ·obtain⟨o',z⟩:=I.base.there b o q l;exact⟨o',(g b o q).trans z⟩
 ·have G : j ≠ i := λz => by subst z;have O:j < σ.length:=(aq.mp hv).1;rw[bC O]at U;cases U
  rw[bn (dP G)]at U;obtain⟨w,b,h⟩:=C j y v' h1 U h3;refine⟨w,b,?_⟩;rcases h with ⟨Y,L⟩|⟨Y,c,L,g⟩
  ·refine .inl ⟨Y,?_⟩;have:y≠n:=λz=>by subst z;exact G ((pF (aq.mp h1).1 hN).mp (h1.trans hi.symm))
   dsimp only;rw[aA this];exact L
  ·refine .inr ⟨Y,c,L,?_⟩;obtain⟨o,e1,e2⟩:=g;exact⟨o,(hs.2 c (I.cne y c L)).trans e1,e2⟩
 ·obtain⟨w,o,e1,e2⟩:=I.cell y c e;exact⟨w,o,(hs.2 c (I.cne y c e)).trans e1,e2⟩
 ·obtain⟨h,g,b,c⟩:=I.pin p hp;exact⟨(hs.2 p.1 b).trans h,g,b,c⟩
 ·refine (I.hok b o e).stay (λc h g q=>(hs.2 c ?_).trans q) (λ_ q=>q) λ_ _ q=>q
  rintro rfl
  rcases g with z|z
  ·rw[<- z,I.free]at e;cases e
  ·rw[I.free]at z;cases z
 ·rw[dO];exact I.len
end
theorem LR.unset{K:Frag}{ρ:List af}{H:Hp}{σ:L2.St}{l:Loc}{i:Nat}(h:LR K ρ H σ l):LR K ρ H (σ.set i none) (l.set i none):=by
 refine⟨by rw[dO,dO];exact h.1,λk d e=>?_⟩;have c:k≠i:=λz=>by
  subst z;by_cases b:k < l.length
  ·rw[bC b]at e;cases e
  ·rw[dq (by rw[dO];ext)]at e;cases e
 rw[bn (dP c)]at e ⊢;exact h.2 k d e
theorem aW.no{α:Type}{K:Frag}{ρ:List af}{H:Hp}{st:aT}{m:M α}{R:α->aT->List af->Hp->Prop}(h:aW K ρ H (nj m st) R):aW K ρ H (m st) R:=by
 unfold nj at h;cases e:m st with
 |ok a s'=>rw[e]at h;exact h
 |exc _ _=>rw[e]at h;exact h
 |bad=>rw[e]at h;exact h
section
variable{X:Cx}{e:Expr}{es:List Expr}{ca:CA}{hc:CS}
variable{k n:Nat}{f:af}{fd:bU}{ps:List Str}{g:List D->M D}{fn x y nm fl:Str}{p p2 p3 ap bd dt pos:Pos}{i j:Nat}{C N P NP:af}{b0:Stmt}{cu:List Stmt}
end
end MM
namespace MM
open PySem PySem.Spec PyProof.Rows L2
section
variable{P:Program}{w:bw}{K:aj}{mg:Str->Option ac}{base:bu}
theorem Qj1{x:Str}{g:Stmt}{ps:List Str}{k n:Nat}{G:List (Str×RF)}(F:FnAt K mg x g)(I:ps.length=n)
  (b:∀(kV o C:ac)(L:Option af)(u ct:ac)(c:List ac),c.length=ps.length->lX (dX x x (e9 g) (dk g) (a_ g) .none kV o C L u ct) { pos:=c }=pure (ps.zip c))
  (J:cq P w K mg base G):cq P w K mg base ((x,⟨n,k,ps,false,λ_=>bad⟩)::G):=by
 obtain⟨f,U,F,l⟩:=F;refine GO l ⟨λv H Q E h=>?_,λA outer s H args c v Q E O=>?_⟩ F.kp (F.binds b) (λz=>(by cases z)) J
 ·exact h.1.trans I.symm
 ·intro _ _ _ hs;obtain⟨_,ρ,st,ds,_,_,p⟩:=hs;exact (show False from p).elim
end
section
def yS:xS:=JO Hc "enumerate" (λc p=>c.tag p 16) qp λh g m a s=>by obtain⟨_,_,_,rfl⟩:=JI h;rw[VD];exact NY false g m a s
end
end MM
namespace MM
open PySem PySem.W PyProof.Rows L2
noncomputable def Ha(h:bu)(D:af):Prop:=∃g q bs bm N c sub G b E C v u o l,h.get? D=some (fo g q D N bs bm true c sub G b E C v u o l "ValueError.__new__")
section
variable{prog:Program}{w:bw}{A:br}{E:ac->ae->Prop}{s:ae}{C N P NP e:af}{mN mP:Str->Option ac}
theorem W2{o:Obj}{D:af}{dep:Int}{h:Tok}{R:xy->ae->Prop}(x:tV s.heap C N P NP mN mP)(I:pf mN mP)(g:s.heap.get? e=some o)(l:o.cls=.ref C)(L:Ha s.heap D)
  (q:∀b,R (.done (.ret (.bool ((ax C::ax P::fJ).contains (.ref D))))) { s with toks:=b }):aD (aK prog w) A (Builtin.«isinstance.nested» ⟨[.ref e,.ref D,.int dep h],[]⟩) R E s:=by
 obtain⟨J,q0,bs0,bm0,N0,H,Bx,ab0,G,U,j0,j1,j2,j3,j5,v⟩:=L;unfold Builtin.«isinstance.nested»;dsimp only;refine aa (tY g l ?_);by_cases c:(ax C == ax D)=true
 ·rw[aE c];refine aa (e8 (ah ?_));have Q:(ax C::ax P::fJ).contains (.ref D)=true:=by
   rw[c_];have:(ax D == ax C)=true:=by rw[beq_iff_eq]at c ⊢;exact c.symm
   rw[this];rfl
  have:=q s.toks;rw[Q]at this;exact this
 ·rw[aA c];refine aa (iD v ?_);rw[aE (show (fK "type" == fK "type")=true by decide)];refine aa ?_
  show aD _ _ (xA (.ref D) >>= _) _ _ _;unfold xA;dsimp only;unfold Ae;refine aa (aa (ir v (ah ?_)));rw[aA (show ¬ ((!true)=true) by decide)];unfold kI;refine aa (aa (tY g l (B1 x.c ?_)));by_cases u:(ax C::ax P::fJ).contains (.ref D)=true
  ·rw[aE u];refine ah (ah ?_);have:=q s.toks;rw[u]at this;exact this
  ·rw[aA u];refine aa (Ox x I g l λb=>?_);dsimp only;obtain⟨⟨E,o,bs,h,sub,c,Y,U,Q,L,J,H,G,O⟩,ns⟩:=id x.c;refine aa (aa (ir (s:={ s with toks:=b }) O (ah ?_)));rw[aA (by simp)];refine aa (e8 (B1 (s:={ s with toks:=b }) x.c ?_));refine ah ?_;exact q b
def wf(C P D:af):Bool:=(ax C::ax P::fJ).contains (.ref D)
theorem Nv{o:Obj}{g:ae->Prop}(u:o.cls=.ref C)(l:pf mN mP)(c:∀s,g s->tV s.heap C N P NP mN mP/\s.heap.get? e=some o):∀{b:List af},(∀s,g s->∀D∈b,Ha s.heap D)->AnswersAll g (.ref e) (b.map ax) (b.map (wf C P))
 |[],_=>trivial
 |D::b,h=>⟨λdep G prog w A R s hs=>W2 (c s hs.1).1 l (c s hs.1).2 u (h s hs.1 D bO) hs.2,Nv u l c λs z v m=>h s z v (bb _ m)⟩
theorem X9{o o':Obj}{v:af}{h:List af}{n:Nat}{Q:ac->ae->Prop}(x:tV s.heap C N P NP mN mP)(O:pf mN mP)(g:s.heap.get? e=some o)(L:o.cls=.ref C)(U:∀D∈h,Ha s.heap D)
  (l:s.heap.get? v=some o') (c:o'.cls=.type "tuple") (G:o'.data=.seq (h.map ax).toArray n) (q:∀I,Q (.bool (h.any (wf C P))) { s with toks:=I }):aD (aK prog w) A (call (.builtin "isinstance") [.ref e,.ref v]) Q E s:=by
 refine CD ?_ (λz=>(by cases z));unfold Builtin.«isinstance.nested»;dsimp only[gx];refine aa (tY g L ?_);have H:¬ ((ax C == ax v)=true):=λz=>by
  rw[beq_iff_eq]at z;injection z with z
  subst z;obtain⟨⟨nm,q1,bs,sn,sub,ab,col,dd,k0,k1,k2,k3,k5,Y⟩,ns⟩:=x.c;rw[Y]at l;cases l;exact bc (show fK "type"=fK "tuple" from c) (by decide)
 rw[aA H];refine aa (iD l ?_);rw[c,aA (by decide)];refine aa ?_;unfold Builtin.Builtins.unionMembers;refine aa (iD l ?_);rw[c,aA (by decide)];refine ah (aa (iC (T:="tuple") (b:=true) ⟨o',l,c⟩ F.isi_sub_tuple ?_));rw[aE rfl];rw[aA (by decide)];unfold Gz;dsimp only;refine aa ?_;refine aa (qD l ?_);rw[G];refine ah (aa ?_);refine wpAny_arrayLoop ?_;simp only[pG,List.toList_toArray];refine isinstance_items (dep:=0) (P:=λs'=>tV s'.heap C N P NP mN mP/\s'.heap.get? e=some o/\∀D∈h,Ha s'.heap D) (λs I z=>z) (h.map ax) (h.map (wf C P)) _ _ (Nv L O (λs z=>⟨z.1,z.2.1⟩) λs z=>z.2.2) ⟨x,g,U⟩ λu=>?_;have ea:(h.map (wf C P)).any id=h.any (wf C P):=by rw[List.any_map];rfl
 rw[ea];cases J:h.any (wf C P) with
 |true=>have:=q u;rw[J]at this;exact ah this
 |false=>have:=q u;rw[J]at this;exact ah this
end
section
variable{X:Cx}{e:Expr}{fa:CE}{p p1 pos:Pos}{xs ys zs:List Str}
theorem Z6(C P D:af):wf C P D=(decide (D=C)||decide (D=P)):=by
 show (ax C::ax P::fJ).contains (ax D)=_;rw[c_,c_];have z:fJ.contains (ax D)=false:=rfl;rw[z,sL];have c:∀a b:af,(ax a == ax b)=decide (a=b):=λa b=>by
  by_cases w:a=b
  ·subst w;rw[aP rfl];exact beq_self_eq_true _
  ·rw[aV w];exact beq_eq_false_iff_ne.mpr (λz=>w (by injection z))
 rw[c,c]
theorem O0:∀{b:List af}{its:List ac},cU (b.map V.ref) its->its=b.map ax
 |[],_,r=>by cases r;rfl
 |D::b,_,r=>by
  cases r with
  |cons r1 r2=>cases r1;rw[O0 r2];rfl
theorem UO:CallR X (.builtin "isinstance") (λu H Q=>∃(a:af)(ob:Obj)(x f:Str)(C N P o b:af)(c:List af),u=[.ref a,.ref b]/\XF X.K x f C N P o/\H a=some (.frz ob (.own a))/\ob.cls=.ref C/\H b=some (.tup (c.map V.ref))/\(∀D∈c,∃y,XO X.K y D)/\Q (.bl (c.any (wf C P))) H):=by
 intro g s σ H xs us Q I r h;obtain⟨a,ob,x,f,C,N,P,o,b,c,rfl,F,ea,G,J,U,q⟩:=h;obtain⟨mN,mP,ch,E,no,hN,L⟩:=F.ch I.kIn;obtain⟨Y,_⟩:=(show dz X.prog X.w H s.heap a (.frz ob (.own a)) from I.hok a _ ea)
 obtain⟨_,its,v,o',g1,g2,⟨n,g3⟩,_⟩:=(show dz X.prog X.w H s.heap b (.tup (c.map V.ref)) from I.hok b _ J)
 cases r with
 |cons r1 r2=>
 cases r1;cases r2 with
 |cons r3 r4=>
 cases r4;cases r3;refine X9 ch E Y G (λD hd=>?_) g1 g2 (by rw[g3,O0 v]) λtk=>⟨.bl _,H,I.tok _,rfl,q⟩
 obtain⟨y,O⟩:=U D hd;obtain⟨N,bm,q,bs,sn,sub,ab,col,dd,k0,k1,k2,k3,k5,l⟩:=O.ob;exact⟨_,_,_,_,_,_,_,_,_,_,_,_,_,_,_,I.kIn _ _ l⟩
noncomputable def AL(K:Frag)(mg:Str->Option ac)(ys:List Str):Prop:=∀y,ys.contains y=true->∃D,XO K y D/\mg y=some (.ref D)
noncomputable def wP(ok:Str->Bool):List Expr->Option (List Str)
 |[]=>some []
 | .Name y _::es=>if ok y=true then (wP ok es).bind λzs=>some (y::zs) else none
 |_=>none
theorem Qx{ok:Str->Bool}(o:AL X.K X.mg ys)(g:∀y,ok y=true->ys.contains y=true/\Gl X y/\j_ y=true): ∀{l:List Expr}{zs:List Str},wP ok l=some zs->∃c:List af,PA X l (λσ H Q=>Q (c.map V.ref) H)/\zs.length=c.length/\(∀D∈c,∃y,XO X.K y D) /\
  ∀C P x,XO X.K x C->XO X.K "PactError" P->c.any (wf C P)=zs.any λy=>x == y||("PactError":Str) == y
 |[],zs,h=>by cases h;exact⟨[],qj,rfl,λD z=>(by cases z),λ_ _ _ _ _=>rfl⟩
 |e::l,zs,h=>by
  unfold wP at h;split at h
  ·cases ‹_::_=[]›
  ·rename_i y p es' L;injection L with e1 e2
   subst e1 e2;simp only[Option.ite_none_right_eq_some,Option.bind_eq_some_iff]at h;obtain⟨Q,G,H,h⟩:=h;cases h;obtain⟨a,b,d⟩:=g y Q;obtain⟨D,O,m⟩:=o y a;obtain⟨c,I,J,U,l⟩:=Qx o g H;refine⟨D::c,nJ (LZ (v:=.ref D) b m rfl (oB d).d) I,by simp[J],λD' Y=>?_,λC P x u E=>?_⟩
   ·rcases aI.mp Y with z|z
    ·subst z;exact⟨y,O⟩
    ·exact U D' z
   ·rw[cN,cN,l C P x u E,Z6,u.iff O,E.iff O]
  ·cases h
theorem Ow{H:Hp}{Q:VK}{a h G:af}{l:Str}{E:List af}(B:∀x∈xs,∃f C N P v,XF X.K x f C N P v)(I:l∈xs)(g:nsIn X.K bN l=some (some (.ref h)))(hh:∃o,H a=some (.frz o (.own a))/\o.cls=.ref h)
  (J:H G=some (.tup (E.map V.ref))) (U:∀D∈E,∃y,XO X.K y D) (q:∀P,XO X.K l h->XO X.K "PactError" P->Q (.bl (E.any (wf h P))) H):
  ∃(b:af)(ob:Obj)(x f:Str)(C N P v u:af)(c:List af),[V.ref a,V.ref G]=[.ref b,.ref u]/\XF X.K x f C N P v/\H b=some (.frz ob (.own b))/\ob.cls=.ref C/\H u=some (.tup (c.map V.ref))/\(∀D∈c,∃y,XO X.K y D)/\Q (.bl (c.any (wf C P))) H:=by
 obtain⟨f,C,N,P,v,F⟩:=B l I;obtain⟨o,L,O⟩:=hh;have Y:h=C:=by have:=g.symm.trans F.gl;injection this with t;injection t with t;injection t
 subst Y;exact⟨a,o,l,f,h,N,P,v,G,E,rfl,F,L,O,J,U,q P F.xo F.xp⟩
theorem Qka{ok:Str->Bool}{c:List Expr}{k:Nat}(B:∀x∈xs,∃f C N P NP,XF X.K x f C N P NP)(hy:AL X.K X.mg ys)(hok:∀y,ok y=true->ys.contains y=true/\Gl X y/\j_ y=true)(hz:wP ok c=some zs)(hsz:zs.length<=10)(hg:Gl X "isinstance")(hm:X.mg "isinstance"=none)(hv:cS "isinstance"=some (.builtin "isinstance"))(ha:SE X e fa)
  (he:av [e,.Tuple c k p1] X.env=(false,eval e X.env)::av [.Tuple c k p1] X.env) (he2:av [.Tuple c k p1] X.env=(false,eval (.Tuple c k p1) X.env)::av [] X.env:=by rfl) (Y:(di pos (av [.Tuple c k p1] X.env)).any (·.1)=false:=by rfl):
  SE X (.Call (.Name "isinstance" p) [e,.Tuple c k p1] [] pos) (c1 (qr xs λx=>zs.any λy=>x == y||("PactError":Str) == y) fa):=by
 obtain⟨Ds,pa,hl,hO,hA⟩:=Qx hy hok hz;refine (CP UO hg hm hv (nJ ha (nJ (L5 pa) qj he2) he) (by decide) (by decide) he Y).of λσ H Q h_=>h_.el λρ l st lr sr q=>⟨ρ,l,st,lr,sr,q.bnd.imp λd J ρ1 u x1 s1 E v rv=>?_⟩
 refine⟨by rw[ai,<- hl];exact bv hsz (show 10<=2^24 by ext),λI U=>?_⟩;have x2:Ex ρ1 u ρ1 (eB u I (.tup (Ds.map V.ref))):=Ex.new U;have s2:SR X.K ρ1 (eB u I (.tup (Ds.map V.ref))) J:=s1.new U;have k1:∀b o,u b=some o->eB u I (.tup (Ds.map V.ref)) b=some o:=λb o z=>by rw[fR (p9 z U)];exact z
 cases rv with
 |@exn a C' dx x' f' v' d' g hh G r=>
  obtain⟨O,L⟩:=E.chk;obtain⟨o,ho,hc,_⟩:=hh;refine Ow B O g ⟨o,k1 _ _ ho,hc⟩ iI hO λP h1 G=>?_;rw[hA _ _ _ h1 G];exact (aW.left x2 L).ret s2 _ (.bl _)
 |@exn0 a C' x' g hh=>
  obtain⟨O,L⟩:=E.chk;obtain⟨o,ho,hc⟩:=hh;refine Ow B O g ⟨o,k1 _ _ ho,hc⟩ iI hO λP h1 G=>?_;rw[hA _ _ _ h1 G];exact (aW.left x2 L).ret s2 _ (.bl _)
 |@gfn a x' g h=>exact (B x' E.chk.1).elim λ_ z=>z.elim λ_ z=>z.elim λ_ z=>z.elim λ_ z=>z.elim λ_ z=>z.nofn g h
 |_=>exact E.elim
end
end MM
namespace MM
def iH(c:CS)(ys:List kN)(i:Nat)(b:CS):CS:=λl s=>match c l s with
 | .ok f s'=>.ok f s'
 | .exc d s'=>(match d with
  | .exn x ds => if x ∈ ys then bnd (nj (b (l.set i (some (.exn x ds))))) (λf => match f with
    | .next l'=>ret (.next (l'.set i none))
    | .ret d=>ret (.ret d)
    |_=>bad) s' else .bad
  |_=>.bad)
 | .bad=>.bad
open PySem PySem.W PyProof.Rows L2
theorem Ps:(fJ:List ac).contains (.type "BaseException")=true:=by nofun
def oP(ys:List Str)(i:Nat)(b:CS)(l:Loc)(d:D):M o_:=λs'=>match d with
 | .exn x ds => if x ∈ ys then bnd (nj (b (l.set i (some (.exn x ds))))) (λf => match f with
   | .next l'=>ret (.next (l'.set i none))
   | .ret d=>ret (.ret d)
   |_=>bad) s' else .bad
 |_=>.bad
section
variable{X:Cx}{e:Expr}{es:List Expr}{ca:CA}{hc:CS}
variable{k n:Nat}{f:af}{fd:bU}{ps:List Str}{g:List D->M D}{fn x z nm:Str}{ys:List Str}{p p2 p3 ap bd dt pos:Pos}{i j:Nat}{Z:af}{b0:Stmt}{cu:List Stmt}
theorem T_{b:Stmt}{cb:CS}{fs:L2.St->V->L2.St}{fl:Loc->D->Loc}(hcm:X.calm=true)(Y:X.stack=X.env::X.outer)(hfr:X.env.frame=some X.env.locals)(F:gO X.prog X.w X.K X.mg X.base (rJ X.prog X.w) k f fd ps (vB X.K n g))(hr:Room k X.A)(hg:Gl X fn)(hm:X.mg fn=some (.ref f))
  (hk:keepIn X.K (.ref f)=true) (hb:Binds X.K fd ps []) (ha:SA X.nox (e::es) ca) (hn:∀l st ds st',ca l st=.ok ds st'->ds.length=n) (hdb:(fn == ("__debug__":Str))=false)
  (he:av (e::es) X.env=(false,eval e X.env)::av es X.env) (hpl:(di ap (av es X.env)).any (·.1)=false)
  (hN:X.N.Nodup) (hcb:∀l st,cb l st=bnd (ba g (kj ca) l) (λd=>ret (.next (fl l d))) st) (hl':∀{ρ H σ l v d},LR X.K ρ H σ l->dG X.K ρ H v d->LR X.K ρ H (fs σ v) (fl l d))
  (hB:∀{s:ae}{Q:Flow->ae->Prop}{E:ac->ae->Prop}{J σ H},Inv X J σ H s->aD (aK X.prog X.w) X.A (eval (.Call (.Name fn p2) (e::es) [] ap) X.env) (λu s1=>∃v σ1 H1,Inv X J σ1 H1 s1/\RelV v u/\∀s2,Inv X J (fs σ1 v) H1 s2->Q .next s2) E s->aD (aK X.prog X.w) X.A (execs [b] X.env) Q E s)
  (G:∀y∈ys,∃fl C N P NP,XF X.K y fl C N P NP/\(Z=C\/Z=P)) (hgy:Gl X z) (hmy:X.mg z=some (.ref Z)) (hdy:(z == ("__debug__":Str))=false) (hi:X.N[i]?=some nm) (hl:X.env.scope.names.lookup nm=some .local)
  (hsuite:∀a,vX (lM X a) (b0::cu) hc):
  SS X (.Try [b] [.ExceptHandler (some (.Name z p3)) (some nm) (b0::cu) dt] [] [] pos) (iH cb ys i hc):=by
 intro J s σ H D I pq197;obtain⟨ρ,l,st,lr,sr,q⟩:=pq197;refine GD (hB I ?_);refine fB (AI I hg hm ?_ hdb);have arg : vw X.K (iH cb ys i hc) D σ H -> BL X.K ca σ H λvs H1 => vB X.K n g vs H1 (λv O => D.nx (fs σ v) O) (λv _ O => ∀a, v = .ref a -> (∀o u, H1 a ≠ some (.frz o u)) -> ∀H3, fL a O H3 -> ∃ρ3 d st3, LR X.K ρ3 H3 σ l /\ SR X.K ρ3 H3 st3 /\ dG X.K ρ3 H3 (.ref a) d /\ aW X.K ρ3 H3 (oP ys i hc l d st3) λf _ ρ' L => match f with
   | .next l'=>∀σ',LR X.K ρ' L σ' l'->D.nx σ' L
   | .ret d=>∀v,dG X.K ρ' L v d->D.rt v L
   | .brk l'=>∀σ',LR X.K ρ' L σ' l'->D.bk σ' L
   | .cnt l'=>∀σ',LR X.K ρ' L σ' l'->D.ct σ' L):=λ_=>by
  refine⟨ρ,l,st,lr,sr,?_⟩;cases ec:ca l st with
  |bad=>
   have:iH cb ys i hc l st=.bad:=by unfold iH;rw[hcb];unfold ba kj nj bnd;dsimp only;rw[ec]
   rw[this]at q;exact q
  |exc _ _=>
   have:iH cb ys i hc l st=.bad:=by unfold iH;rw[hcb];unfold ba kj nj bnd;dsimp only;rw[ec]
   rw[this]at q;exact q
  |ok ds bB=>
   intro ρ1 H1 x1 s1 vs rvs;refine⟨by rw[rvs.length];exact hn l st ds bB ec,ρ1,bB,ds,s1,rvs,?_⟩;cases eg:g ds bB with
   |bad=>
    have:iH cb ys i hc l st=.bad:=by unfold iH;rw[hcb];unfold ba kj nj bnd;dsimp only;rw[ec];dsimp only;rw[eg]
    rw[this]at q;exact q
   |ok r st2=>
    have:iH cb ys i hc l st=.ok (.next (fl l r)) st2:=by unfold iH;rw[hcb];unfold ba kj nj bnd;dsimp only;rw[ec];dsimp only;rw[eg];rfl
    rw[this]at q;exact λρ2 O x2 s2 v rv=>q ρ2 O (x1.trans x2) s2 _ (hl' (lr.mono (x1.trans x2)) rv)
   |exc d st2=>
    have:iH cb ys i hc l st=oP ys i hc l d st2:=by unfold iH;rw[hcb];unfold ba kj nj bnd oP;dsimp only;rw[ec];dsimp only;rw[eg];cases d<;>rfl
    rw[this]at q;intro ρ2 O x2 s2 a rep a' ea na H3 t;cases ea;have x3:=Ex.turn t x2 na;exact⟨ρ2,d,st2,lr.mono (x1.trans x3),s2.turn t,rep.turn t,aW.left (x1.trans x3) q⟩
 have hq:=arg ⟨ρ,l,st,lr,sr,q⟩;refine ip (h₀:=X.base) I.ok.mod.kin hk (cc (ha ap J s σ H _ (I.wish _) hq) (λus s1 z=>?_) λ_ _ z=>bV z) he hpl;obtain⟨vs,H1,I1',rv,sp⟩:=z;have I1:Inv X J σ H1 s1:=I1'.unwish;refine⟨I1.kIn,?_⟩;have hlen:(us++[]).length=ps.length:=by rw[bH,<- rv.length];exact F.len _ _ _ _ sp
 refine io (iB (F.run X.A X.stack s1 H1 ⟨us,[]⟩ (us++[]) vs _ _ hr I1.env0 (hb s1 us I1.kIn hlen) (by rw[bH];exact rv) sp) λr s2 hr2=>?_);cases r with
 |ok fl=>
  cases fl with
  |ret u=>
   obtain⟨v,O,I2,ru,nx⟩:=I1.after hr2;exact⟨v,σ,O,I2,ru,λs3 I3=>gR ⟨_,O,I3,nx⟩⟩
  |next=>exact bV hr2
  |brk=>exact bV hr2
  |cont=>exact bV hr2
 |error ev=>
  obtain⟨a,O,rfl,os,bare,un,hok,fl,hE⟩:=hr2;have I2:Inv X J σ O s2:=I1.call' os un hok bare (ch:=[]) (λb z=>bc z (by simp));obtain⟨c,d0,vs0,sl,hH,hv,hT⟩:=fl.fly;obtain⟨ga,_⟩:=(show dz X.prog X.w O s2.heap a (.frz ⟨c,d0,.fields vs0,sl⟩ (.own a)) from I2.hok a _ hH)
  have hfs:X.A.frames=some (X.env::X.outer):=by rw[<- Y];exact I2.ok.frames
  have hstk:s2.heap.FunFrames X.base (X.env::X.outer):=by rw[<- Y];exact I2.stack
  have hsf:∀b∈(X.env::X.outer).filterMap (·.frame),O b=none:=by have:=I2.stkFree;rw[Y]at this;exact this
  have un':Un ((X.env::X.outer).filterMap (·.frame)) [] H1 O s1.heap s2.heap:=by rw[Y]at un;exact un
  have key:∀h4,mo ((X.env::X.outer).filterMap (·.frame)) a c d0 sl vs0 .none s2.heap h4->∃H4 o4,Inv X J σ H4 { s2 with heap:=h4 }/\fL a O H4/\h4.get? a=some o4/\o4.cls=c:=λh4 g4=>by obtain⟨vs',T,ts,c',d',sl',e1,e2,e3,e4,e5,e6,e7⟩:=g4.ex;have un4:=Ql (vs':=vs') un' fl.1 fl.2.1 hH (λT z=>(hT T z).2) g4 (λb o _ hb=>hb);refine⟨_,_,I1.call' (s':={ s2 with heap:=h4 }) os (by rw[Y];exact un4) (JH hok hsf hH (λT z=>(hT T z).1) g4 e1) bare (ch:=[]) (λb z=>bc z (by simp)),⟨c,d0,vs0,vs',sl,hH,e7,rfl⟩,e1,rfl⟩
  refine DH hfs hstk hfr ga hv λh3 g3=>mo.calm (s:={ s2 with heap:=h3 }) g3 λh4 g4=>?_;obtain⟨H4,o4,I4,t4,ga4,hc4⟩:=key h4 g4;obtain⟨ρ4,d4,st4,lr4,sr4,rep4,p4⟩:=hE a rfl fl.2.1 H4 t4;have U:∀{ρ':List af}{L:Hp}{d:MM.D}{st':aT}{R:o_->aT->List af->Hp->Prop},aW X.K ρ' L (oP ys i hc l d st') R->∃y ds,d=.exn y ds/\y∈ys:=λ{ρ' L d st' R}z=>by
   cases d with
   |exn x' ds=>
    by_cases e:x'∈ys
    ·exact⟨x',ds,rfl,e⟩
    ·unfold oP at z;dsimp only at z;rw[aA e]at z;exact z.elim
   |_=>exact z.elim
  obtain⟨y4,ds4,ed4,hy4⟩:=U p4;subst ed4;obtain⟨fl4,C,N,P,NP,G4,hZ⟩:=G y4 hy4;have hcC:c=.ref C:=by
   obtain⟨c1,d1,vs1,vs1',sl1,e1,_,rfl⟩:=t4;rw[hH]at e1;cases e1;cases rep4 with
   |gfn g h=>exact G4.nofn g h
   |exn0 g h=>
    obtain⟨o,ho,hco⟩:=h;rw[iI]at ho;cases ho;have:=g.symm.trans G4.gl;injection this with t;injection t with t;rw[<- t];exact hco
   |exn g h h2 r=>
    obtain⟨o,ho,hco,_⟩:=h;rw[iI]at ho;cases ho;have:=g.symm.trans G4.gl;injection this with t;injection t with t;rw[<- t];exact hco
  refine AX (yA ?_) (by intro q;cases q);refine AI (X:=lM X a) (Hn I4) hgy hmy ?_ hdy;obtain⟨mN,mP,ch,_⟩:=G4.ch I4.kIn;have hmt:∀{Q:Bool->ae->Prop}{E:ac->ae->Prop},Q true { s2 with heap:=h4 }->aD (aK X.prog X.w) (lM X a).A (uR (.ref a) (.ref Z)) Q E { s2 with heap:=h4 }:=λ{Q E}hQ=>by
   rcases hZ with z|z
   ·subst z;refine HS ch.c ch.c HU ga4 (hc4.trans hcC) ?_;rw[show (ax Z::ax P::fJ).contains (.ref Z)=true by simp];exact hQ
   ·subst z;refine HS ch.c ch.p Ps ga4 (hc4.trans hcC) ?_;rw[show (ax C::ax Z::fJ).contains (.ref Z)=true by simp];exact hQ
  refine hmt ?_;refine codeAny_handlers_suite_as ?_;refine mo.calm (s:={ s2 with heap:=h4 }) g4 λh5 g5=>?_;obtain⟨H5,o5,I5,t5,ga5,hc5⟩:=key h5 g5;obtain⟨ρ5,d5,st5,lr5,sr5,rep5,p5⟩:=hE a rfl fl.2.1 H5 t5;obtain⟨y,ds,ed5,hy5⟩:=U p5;subst ed5;have hlen:i < σ.length:=by rw[I.len];exact (aq.mp hi).1
  refine EN I5 hN hi (.inl hl) (v:=.ref a) rfl (λs6 I6=>?_) (.inr hl);refine cc (hsuite a J s6 _ H5 { nx:=λσ' L=>D.nx (σ'.set i none) L,rt:=D.rt,bk:=λ_ _=>False,ct:=λ_ _=>False } (Hn I6) ⟨ρ5,l.set i (some (.exn y ds)),st5,lr5.set i rep5,sr5,?_⟩) (λfw s7 hs7=>?_) (λ_ _ z=>bV z)
  ·unfold oP at p5;dsimp only at p5;rw[aE hy5]at p5;refine (aW.no (aW.bnd p5)).imp λfw h ρ6 o l b c=>?_;cases fw with
   |next l'=>exact λσ' g=>aW.ret c b _ g.unset
   |ret d=>exact λv rv=>aW.ret c b v rv
   |brk l'=>exact c.elim
   |cnt l'=>exact c.elim
  ·have h : ∀(σ' : L2.St)L, Inv X J σ' L s7 -> ∀{Q : Unit -> ae -> Prop}{E : ac -> ae -> Prop}, (∀b, Inv X J (σ'.set i none) L b -> Q () b) -> aD (aK X.prog X.w) X.A (do bindName X.env nm .none; Ag X.env nm dt) Q E s7 := λσ' L g{Q E}hQ => by
     have l:i < σ'.length:=by rw[g.len];exact (aq.mp hi).1
     refine aa (wpAny_bindName (EN g hN hi (.inl hl) (v:=.non) rfl (λC o=>?_) (.inr hl)));unfold Ag;refine mK (W1 o hN hi hl (bC l) λb c=>hQ b ?_);rw[Dz]at c;exact c
   cases fw with
   |next=>
    obtain⟨σ',L,g,nx⟩:=hs7;exact h σ' L (Im I.ok g) λb c=>⟨_,L,c,nx⟩
   |ret u=>
    obtain⟨v,σ',L,g,r,rt⟩:=hs7;exact h σ' L (Im I.ok g) λb c=>⟨v,_,L,c,r,rt⟩
   |brk=>obtain⟨_,_,_,z⟩:=hs7;exact bV z
   |cont=>obtain⟨_,_,_,z⟩:=hs7;exact bV z
theorem UP(Y:X.calm=true)(E:X.stack=X.env::X.outer)(O:X.env.frame=some X.env.locals)(F:gO X.prog X.w X.K X.mg X.base (rJ X.prog X.w) k f fd ps (vB X.K n g))(hr:Room k X.A)(hg:Gl X fn)(hm:X.mg fn=some (.ref f))
  (hk:keepIn X.K (.ref f)=true) (hb:Binds X.K fd ps []) (ha:SA X.nox (e::es) ca) (hn:∀l st ds o,ca l st=.ok ds o->ds.length=n) (U:(fn == ("__debug__":Str))=false)
  (he:av (e::es) X.env=(false,eval e X.env)::av es X.env) (H:(di ap (av es X.env)).any (·.1)=false)
  (hN:X.N.Nodup) (hs:eW (.Call (.Name fn p2) (e::es) [] ap) none bd.line X.env=pure false)
  (G:∀y∈ys,∃fl C N P NP,XF X.K y fl C N P NP/\(Z=C\/Z=P)) (L:Gl X z) (J:X.mg z=some (.ref Z)) (Q:(z == ("__debug__":Str))=false) (hi:X.N[i]?=some nm) (hl:X.env.scope.names.lookup nm=some .local)
  (b:∀a,vX (lM X a) (b0::cu) hc):
  SS X (.Try [.Expr (.Call (.Name fn p2) (e::es) [] ap) bd] [.ExceptHandler (some (.Name z p3)) (some nm) (b0::cu) dt] [] [] pos) (iH (iS (ba g (kj ca))) ys i hc):=by
 exact T_ Y E O F hr hg hm hk hb ha hn U he H hN (cb:=iS (ba g (kj ca))) (fs:=λσ _=>σ) (fl:=λl _=>l) (λl st=>by unfold iS bnd;cases ba g (kj ca) l st<;>rfl) (λlr _=>lr)
  (λI h=>mY (wpAny_Expr_any (cc h (λu s1 c=>by obtain⟨v,σ1,H1,I1,ru,k⟩:=c;exact gR (k s1 I1)) λ_ _ z=>z) I.quiet hs)) G L J Q hi hl b
end
end MM
namespace MM
open PySem PySem.Spec PyProof.Rows L2
def sC(b:Stmt):List Str:=((a_ b).names.filter λp=>p.2 == .local||p.2 == .cell).map (·.1)
def rQ(b:Stmt):List Str:=(sC b).take (e9 b).args.length
def qE(x:Str)(b:Stmt)(n k:Nat)(g:List D->M D)(G:List (Str×RF)):List (Str×RF):=(x,⟨n,k+1,rQ b,false,g⟩)::G
section
variable{P:Program}{w:bw}{K:aj}{mg:Str->Option ac}{base:bu}{x:Str}{sd:Stmt}{k:Nat}{g:List D->M D}{G:List (Str×RF)}{Z:List Str}{C:List (Str×D)}
theorem CL:rQ sd++(sC sd).drop (e9 sd).args.length=sC sd:=List.take_append_drop ..
theorem qN(R : nW)(H : List (Nat×Nat×Nat))(n : Nat)(F : FnAt K mg x sd)(Q : cq P w K mg base G)(O : xV mg Z)(U : uU K mg C)(L : (qu (oU R 40) ⟨a_ sd, sC sd, k, G, Z, C, H, true, ([], []), none⟩ (dk sd)).map (λv => bW (sC sd).length v.1) = some g := by kernel_rfl)
  (S:qT (sC sd) (rQ sd) (a_ sd)=true:=by kernel_rfl) (E:(rQ sd).length=n:=by kernel_rfl)
  (b:∀(kV c o:ac)(u:Option af)(h ct:ac)(l:List ac),l.length=n->lX (dX x x (e9 sd) (dk sd) (a_ sd) .none kV c o u h ct) { pos:=l }=pure ((rQ sd).zip l):=by and_intros):
  cq P w K mg base (qE x sd n k g G):=by
 obtain⟨v,I,rfl⟩:=dY.mp L;exact zy R (r:=(sC sd).drop (e9 sd).args.length) (ps:=rQ sd) (H:=H) F (by rw[CL];exact S) (λkV c o u h ct l J=>b kV c o u h ct l (J.trans E)) (λz=>(by cases z)) (by rw[CL,I];rfl) Q O U E (by rw[CL]) (λz=>(by cases z))
theorem IH(R : nW)(H : List (Nat×Nat×Nat)){f : af}{b : bU}{n : Nat}{ps : List Str}(F : tS K x x sd f b)(E : cq P w K mg base G)(u : xV mg Z)(I : uU K mg C)(o : (qu (oU R 40) ⟨a_ sd, sC sd, k, G, Z, C, H, true, ([], []), none⟩ (dk sd)).map (λv => bW (sC sd).length v.1) = some g := by kernel_rfl)
  (S:qT (sC sd) (rQ sd) (a_ sd)=true:=by kernel_rfl) (l:(rQ sd).length=n:=by kernel_rfl) (h:rQ sd=ps:=by kernel_rfl):gO P w K mg base m9 (k+1) f b ps (mU K n g):=by
 subst h;obtain⟨v,c,rfl⟩:=dY.mp o;exact MY R (r:=(sC sd).drop (e9 sd).args.length) (ps:=rQ sd) (H:=H) F (by rw[CL];exact S) (by rw[CL,c];rfl) E u I l (by rw[CL])
end
end MM
local macro_rules
 | `(tactic| and_intros)=>`(tactic| first|exact λ_ _ _ _ _ _=>MM.K2 λ_=>by kernel_rfl|exact λ_ _ _ _ _ _=>MM.tX λ_ _=>by kernel_rfl|exact λ_ _ _ _ _ _=>MM.KW λ_ _ _=>by kernel_rfl|exact λ_ _ _ _ _ _=>MM.VW λ_ _ _ _=>by kernel_rfl|exact λ_ _ _ _ _ _=>MM.le5 λ_ _ _ _ _=>by kernel_rfl)
local macro_rules
 | `(tactic| subst_eqs)=>`(tactic| first|exact λ_ _ _ _ _ _ _ _=>MM.tX λ_ _=>⟨_,rfl,by kernel_rfl⟩|exact λ_ _ _ _ _ _ _ _=>MM.KW λ_ _ _=>⟨_,rfl,by kernel_rfl⟩)
local macro_rules
 | `(tactic| subst_vars)=>`(tactic| first|exact λ_ _ _ _ _ _ _ _ us hl=>MM.K2 (λ_=>⟨_,rfl,by kernel_rfl⟩) us (lP hl)|exact λ_ _ _ _ _ _ _ _ us hl=>MM.tX (λ_ _=>⟨_,rfl,by kernel_rfl⟩) us (lP hl))
namespace MM
open PySem PySem.Spec PySem.W PyProof.Rows L2
section
variable{P:Program}{w:bw}{K:Frag}{mg:Str->Option ac}{base:bu}
structure GX(P:Program)(w:bw)(K:Frag)(mg:Str->Option ac)(base:bu)(x:Str)(r:RF):Prop where
 ex:∃f fd,mg x=some (.ref f)/\gO P w K mg base (rJ P w) r.k f fd r.ps (vB K r.n r.g)/\keepIn K (.ref f)=true/\Binds K fd r.ps []
def iV(P:Program)(w:bw)(K:Frag)(mg:Str->Option ac)(base:bu)(l:List (Str×RF)):Prop:=∀x r,l.lookup x=some r->GX P w K mg base x r
structure XR(P:Program)(w:bw)(K:Frag)(mg:Str->Option ac)(base:bu)(y f:Str):Prop where
 ex:∃C N PA NP fI fd ps,XF K y f C N PA NP/\mg y=some (.ref C)/\nsIn K N (ag "__init__")=some (some (.ref fI))/\(∃oI,K.lookup fI=some oI/\oI.cls=.type "function")/\gO P w K mg base m9 1 fI fd ps (vV C f)/\Binds K fd ps []
 hy:cW (.type "ValueError") f=pure none
theorem V8{k n:Nat}{f:af}{l:bU}{ps:List Str}{g:List D->M D}(F:gO P w K mg base (rJ P w) k f l ps (vB K n g)):gO P w K mg base m9 k f l ps (mU K n g):=by
 have dn:∀b H Q E,mU K n g b H Q E->vB K n g b H Q (λ_ _ _=>False):=λb H Q E c=>by obtain⟨L,ρ,st,ds,u,v,p⟩:=c;exact⟨L,ρ,st,ds,u,v,by
  cases e:g ds st with
  |ok r s=>rw[e]at p;exact p
  |exc d s=>rw[e]at p;exact p.elim
  |bad=>rw[e]at p;exact p.elim⟩
 refine⟨λb H Q E h=>F.len b H Q _ (dn b H Q E h),λA outer s H args o b Q E G I J C hs=>iB (F.run A outer s H args o b Q (λ_ _ _=>False) G I J C (dn b H Q E hs)) λr s' h=>?_⟩;cases r with
 |ok f=>cases f<;>exact h
 |error e=>
  obtain⟨a,O,_,_,_,_,_,_,z⟩:=h;exact z.elim
end
section
variable{X:Cx}{x f y:Str}{C N P NP D:af}{pos p p1:Pos}{e:Expr}{fa:CE}{xs:List Str}
theorem Z_(B:∀x∈xs,∃f C N P NP,XF X.K x f C N P NP)(O:XO X.K y D)(hg:Gl X "isinstance")(hm:X.mg "isinstance"=none)(hv:cS "isinstance"=some (.builtin "isinstance"))(Y:Gl X y)(U:X.mg y=some (.ref D))(nk:nu y)(ha:SE X e fa)
  (he:av [e,.Name y p1] X.env=(false,eval e X.env)::av [.Name y p1] X.env:=by rfl) (he2:av [.Name y p1] X.env=(false,eval (.Name y p1) X.env)::av [] X.env:=by rfl) (L:(di pos (av [.Name y p1] X.env)).any (·.1)=false:=by rfl):
  SE X (.Call (.Name "isinstance" p) [e,.Name y p1] [] pos) (c1 (qr xs λx=>x == y||("PactError":Str) == y) fa):=
 (CP Qi hg hm hv (nJ ha (nJ (LZ (v:=.ref D) Y U rfl nk.d) qj he2) he) (by decide) (by decide) he L).of λσ H Q h_=>h_.el λρ l st lr sr q=>⟨ρ,l,st,lr,sr,q.bnd.imp λd bB ρ1 H1 x1 s1 G v rv=>by
  have e:∀(u P:af)(b:Str),XO X.K b u->XO X.K "PactError" P->vo u P (.ref D)=(b == y||("PactError":Str) == y):=λu P b E c=>by show (decide (D=u)||decide (D=P))=_;rw[E.iff O,c.iff O]
  cases rv with
  |@exn a u dx b f' v' d' g hh c r=>
   obtain⟨J,I⟩:=G.chk;obtain⟨o,ho,hc,_⟩:=hh;refine HK B J g ⟨o,ho,hc⟩ (.inr ⟨y,D,rfl,O⟩) λP E c=>?_;rw[e _ _ _ E c];exact I.ret s1 _ (.bl _)
  |@exn0 a u b g hh=>
   obtain⟨J,I⟩:=G.chk;refine HK B J g hh (.inr ⟨y,D,rfl,O⟩) λP E c=>?_;rw[e _ _ _ E c];exact I.ret s1 _ (.bl _)
  |@gfn a b g h=>exact (B b G.chk.1).elim λ_ z=>z.elim λ_ z=>z.elim λ_ z=>z.elim λ_ z=>z.elim λ_ z=>z.nofn g h
  |_=>exact G.elim⟩
end
section
variable{X:Cx}{c:Expr}{body:List Stmt}{pos:Pos}{ta:CT}{cs:CS}
theorem Sn(hp:pq (aK X.prog X.w) X.A X.env X.xe)(hc:ST X c ta)(hb:zF X body cs):SX X (.While c body [] pos) (ub (o9 ta) cs):=(Ux hp hc hb).of λG σ H o=>by
 obtain⟨ρ,l,st,lr,sr,p⟩:=o;unfold ub at p;by_cases h:∃n,∀r,nv (o9 ta) cs n l st=r->r≠.bad
 ·rw[dif_pos h]at p;generalize lB h=n at p;refine⟨λm σ H=>∃ρ l st,LR X.K ρ H σ l/\SR X.K ρ H st/\aQ X.K ρ H (nv (o9 ta) cs m l st) (λf _ ρ' b=>match f with
   | .next l'=>∀σ',LR X.K ρ' b σ' l'->G.nx σ' b
   | .ret d=>∀v,dG X.K ρ' b v d->G.rt v b
   | .brk l'=>∀σ',LR X.K ρ' b σ' l'->G.bk σ' b
   | .cnt l'=>∀σ',LR X.K ρ' b σ' l'->G.ct σ' b) (vp X),⟨n,ρ,l,st,lr,sr,p⟩,?_⟩
  intro m σ1 H1 g;obtain⟨ρ1,o,O,u,Q,c⟩:=g;cases m with
  |zero=>exact c.elim
  |succ m=>
   refine⟨ρ1,o,O,u,Q,(aQ.no (aQ.bnd c)).imp λk L ρ2 H2 U s2 Y=>?_⟩;cases k with
   |false=>exact aQ.ret Y s2 _ (u.mono U)
   |true=>
    refine⟨λσ' b=>∃ρ l st,LR X.K ρ b σ' l/\SR X.K ρ b st/\aQ X.K ρ b (nv (o9 ta) cs m l st) _ _,λσ' b q=>⟨m,Aa m,q⟩,ρ2,o,L,u.mono U,s2,(aQ.bnd Y).imp λf E ρ3 H3 x3 I J=>?_⟩;cases f with
    |next l'=>exact λσ' C=>⟨ρ3,l',E,C,I,J⟩
    |ret d=>exact aQ.ret J I
    |brk l'=>exact aQ.ret J I
    |cnt l'=>exact λσ' C=>⟨ρ3,l',E,C,I,J⟩
 ·rw[dif_neg h]at p;exact p.elim
end
section
variable(E:List (Str×RF))(y fl:Str)
structure qx(X:Cx)(E:List (Str×RF))(y fl:Str):Prop where
 E:iV X.prog X.w X.K X.mg X.base E
 ex:X.ex=[]
 R:XR X.prog X.w X.K X.mg X.base y fl
abbrev y_(c:RC)(s:Stmt):={r:CS // ∀{X:Cx},Good X c->qx X E y fl->SX X s r}
abbrev IJ(c:RC)(s:List Stmt):={r:CS // ∀{X:Cx},Good X c->qx X E y fl->zF X s r}
abbrev JT(c:RC)(e:Expr):={r:CE // (∀{X:Cx},Good X c->qx X E y fl->qM X e r)/\CM e=true}
def rF(q:lC)(c:RC)(e:Expr):Option (JT E y fl c e):=zW e λx p O pos u=>vC O λa b L=>(Az E x).bind λr=>wh (c.glo x=true/\j_ x=true/\r.1.k<=c.k/\r.1.n=(a::b).length) λz=>(sZ q c (a::b)).bind λv=>
 some ⟨ba r.1.g (kj v.1),λg h=>by subst u L;obtain⟨J,I,H,G⟩:=z;obtain⟨f,Q,m,F,kp,B⟩:=(h.E _ _ r.2).ex;obtain⟨x,y,l⟩:=v.2;rw[bG,aO]at y;exact Yz h.ex F (g.hr.mono H) (g.S.glo _ (beq_iff_eq.mp J)) m kp B (x g) (λC st ds o z=>by rw[G,l C st ds o z]) (oB I).d (nQ y.1) (Av y.2),by subst u;rfl⟩
def wO{c:RC}(k:∀s:Stmt,Option (y_ E y fl c s)):∀l:List Stmt,Option (IJ E y fl c l)
 |[]=>some ⟨aH,λ_ _=>Qn⟩
 |s::l=>(k s).bind λa=>(wO k l).bind λb=>some ⟨aF a.1 b.1,λg h=>Sr (a.2 g h) (b.2 g h)⟩
def xPl(q:lC)(c:RC)(s:Stmt):Option (y_ E y fl c s):=(q.s c s).bind λf=>some ⟨rR f.1,λg _=>YR (f.2 g)⟩
noncomputable def xOr{α:Type}(a b:Option α):Option α:=match a with
 |some x=>some x
 |none=>b
def Jx(q:lC)(c:RC)(k:∀s:Stmt,Option (y_ E y fl c s))(s:Stmt): Option (y_ E y fl c s):=
  xOr (KQ s λa b _ e=>oS a λa l=>oN b λe2=>CV a λx _ v _ e3=>wh (x=y/\c.glo y=true/\j_ y=true/\2<=c.k/\p_ v=true) λz=>(q.e c v).bind λf=>some ⟨gW y fl f.1,λg h=>by subst e2 l e e3;obtain⟨rfl,L,J,h4,h5⟩:=z;obtain⟨C,N,PA,NP,fI,fd,ps,F,m,hi,O,G,B⟩:=h.R.ex;exact T1 h.ex g.S.calm F hi O G (g.hr.mono h4) B (g.S.glo _ (beq_iff_eq.mp L)) m (oB J).d (f.2 g) (nQ h5)⟩) <|
  xOr (I_ s λt a b _ e=>(q.t c t).bind λu=>(wO E y fl k a).bind λI=>(wO E y fl k b).bind λH=>some ⟨ik (o9 u.1) I.1 H.1,λg h=>e ▸ X1 (u.2 g) (I.2 g h) (H.2 g h)⟩) <|
  xOr (WK s λt a b _ e=>v0 b λl=>(q.t c t).bind λu=>(wO E y fl k a).bind λI=>some ⟨ub (o9 u.1) I.1,λg h=>by subst l e;exact Sn g.ps (u.2 g) (I.2 g h)⟩) <|
  xOr (N9 s λtg Q b r _ e=>v0 r λl=>wh (Ax Q=true) λz=>(q.i c tg Q).bind λU=>(q.g c tg).bind λY=>(wO E y fl k b).bind λH=>some ⟨mF (wS U.1) (qQ Y.1) H.1,λg h=>by subst l e;exact QjR g.ps g.S.calm (U.2 g) (Y.2 g) (H.2 g h) (D_ z)⟩) <|
  xOr (Hm s λa _ e=>(rF E y fl q c a).bind λf=>some ⟨iS f.1,λg h=>e ▸ QS (f.2.1 g h) (xU f.2.2)⟩) <|
  xOr (Ck s λo _ e=>oS o λa l=>(rF E y fl q c a).bind λf=>some ⟨cH f.1,λg h=>by subst l e;exact MA (f.2.1 g h)⟩) <|
  xOr (yU s λt a _ e=>sF t λx _ l=>(rF E y fl q c a).bind λf=>(Ar c x).bind λi=>some ⟨bY (aU i.1) f.1,λg h=>by subst l e;obtain⟨h1,k,L,J⟩:=AB g i.2;exact Nc g.nd h1 (g.S.loc _ _ L J).1 (f.2.1 g h) (xU f.2.2) (g.S.loc _ _ L J).2⟩) <|
  xPl E y fl q c s
end
section
variable{β:Type}
def Tk(h:ExceptHandler)(k:∀z p g l c q,h=.ExceptHandler (some (.Name z p)) (some g) (l::c) q->Option β):Option β:=match h,k with
 | .ExceptHandler t n b q,k=>oS t λt C=>sF t λz p v=>oS n λg u=>vC b λl c o=>k z p g l c q (o ▸ u ▸ v ▸ C ▸ rfl)
end
section
variable(E:List (Str×RF))(ys:List Str)(y fl:Str)
structure sX(X:Cx)(E:List (Str×RF))(ys:List Str)(y fl:Str):Prop where
 E:iV X.prog X.w X.K X.mg X.base E
 R:XR X.prog X.w X.K X.mg X.base y fl
 hy:AL X.K X.mg ys
 nx:X.nox=X
 st:X.stack=X.env::X.outer
 fr:X.env.frame=some X.env.locals
variable{E ys y fl} in
theorem sX.B{X:Cx}(h:sX X E ys y fl):∀x∈[y],∃f C N P c,XF X.K x f C N P c:=λx b=>by rw[aC]at b;subst b;obtain⟨C,N,PA,c,l,g,ps,F,_⟩:=h.R.ex;exact⟨_,_,_,_,_,F⟩
abbrev DB(c:RC)(e:Expr):={r:CE // ∀{X:Cx},Good X c->sX X E ys y fl->SE X e r}
abbrev zr(c:RC)(e:Expr):={r:CT // ∀{X:Cx},Good X c->sX X E ys y fl->ST X e r}
abbrev KJ(c:RC)(b:List Expr):={r:CT // ∀{X:Cx}{p:Pos},Good X c->sX X E ys y fl->PW X (.BoolOp .Or b p) (nM X.K r)}
abbrev B2(c:RC)(s:Stmt):={r:CS // ∀{X:Cx},Good X c->sX X E ys y fl->SS X s r}
abbrev K8(c:RC)(s:List Stmt):={r:CS // ∀{X:Cx},Good X c->sX X E ys y fl->vX X s r}
def C5(q:lC)(c:RC)(e:Expr):Option (DB E ys y fl c e):=
 xOr (L4 e λz _ a b _ h=>wh (z=ag "isinstance"/\c.bl z=true/\p_ a=true) λw=>(q.e c a).bind λl=>
  xOr (sF b λt _ H=>wh (t=ag "ValueError"/\c.bl t=true) λv=>some ⟨c1 (qr [y] λ_=>true) l.1,λg o=>by subst H h;obtain⟨rfl,u,G⟩:=w;obtain⟨rfl,L⟩:=v;obtain⟨I,M1⟩:=g.gl u;obtain⟨G2,M2⟩:=g.gl L;exact Xo o.B I M1 (by nofun) G2 M2 (by nofun) (l.2 g) (nQ G)⟩) <|
  xOr (sF b λt _ H=>wh (ys.contains t=true/\c.glo t=true/\j_ t=true) λv=>some ⟨c1 (qr [y] λx=>x == t||("PactError":Str) == t) l.1,λg o=>by subst H h;obtain⟨rfl,u,G⟩:=w;obtain⟨h2,h3,Y⟩:=v;obtain⟨I,M1⟩:=g.gl u;obtain⟨D,O,m⟩:=o.hy _ h2;exact Z_ o.B O I M1 (by nofun) (g.S.glo _ (beq_iff_eq.mp h3)) m (oB Y) (l.2 g) (nQ G)⟩)
  (vTp b λes n _ H=>oS (wP (λt=>ys.contains t&&c.glo t&&j_ t) es) λQ hz=>wh (Q.length<=10) λU=>some ⟨c1 (qr [y] λx=>Q.any λt=>x == t||("PactError":Str) == t) l.1,λg o=>by subst H h;obtain⟨rfl,u,G⟩:=w;obtain⟨I,M1⟩:=g.gl u;refine Qka o.B o.hy (λt J=>?_) hz U I M1 (by nofun) (l.2 g) (nQ G);rw[aO,aO]at J;exact⟨J.1.1,g.S.glo _ (beq_iff_eq.mp J.1.2),J.2⟩⟩)) <|
 xOr (Nz e λa x _ h=>wh (x=fl/\G3 a=true) λw=>(q.e c a).bind λl=>some ⟨c1 (tJ y fl) l.1,λg o=>by subst h;obtain⟨rfl,u⟩:=w;obtain⟨C,N,PA,NP,fI,fd,ps,F,_⟩:=o.R.ex;exact V0 F o.R.hy (l.2 g) (J1 u)⟩)
 ((q.e c e).bind λf=>some ⟨f.1,λg _=>f.2 g⟩)
def DX(k:∀e,Option (zr E ys y fl c e)):∀u:List Expr,Option (KJ E ys y fl c u)
 |[]=>none
 |[a]=>(k a).bind λh=>some ⟨h.1,λg o=>PJ (h.2 g o)⟩
 |a::b::r=>(k a).bind λh=>(DX k (b::r)).bind λl=>some ⟨n9 h.1 l.1,λg o=>Oj (h.2 g o) (l.2 g o)⟩
def Xh(q:lC)(c:RC)(k:∀e,Option (zr E ys y fl c e))(e:Expr):Option (zr E ys y fl c e):=
 xOr (Ff e λo a _ h=>wh (o=.Not) λz=>(k a).bind λf=>some ⟨gz f.1,λg w=>h ▸ z ▸ QC (f.2 g w)⟩) <|
 xOr (Kb e λo v _ h=>wh (o=.Or) λz=>(DX E ys y fl k v).bind λf=>some ⟨f.1,λg w=>by subst z h;exact L2.PW.pt (f.2 g w)⟩) <|
 xOr (Nr e λa o b _ h=>wh (o=.NotEq/\Ax b=true) λz=>(C5 E ys y fl q c a).bind λu=>(C5 E ys y fl q c b).bind λl=>some ⟨cC (c2 Cp u.1 l.1),λg w=>by subst h;obtain⟨rfl,z⟩:=z;exact Rf (PY g.hu) (u.2 g w) (l.2 g w) (Fi z)⟩)
 (wh (LG e=true) λz=>(C5 E ys y fl q c e).bind λf=>some ⟨kP f.1,λg w=>O9 (f.2 g w) (Nj z)⟩)
def Rh(q:lC)(c:RC):Nat->∀e,Option (zr E ys y fl c e)
 |0=>λ_=>none
 |n+1=>Xh E ys y fl q c (Rh q c n)
def Xb(c:RC)(s:Stmt):Option {r:CS // ∀{X:Cx}{a:af},Good X c->SS (lM X a) s r}:=yU s λt e _ h=>sF t λv _ J=>sF e λx _ I=>(Ar c v).bind λi=>(Bb c x).bind λj=>some ⟨bY (aU i.1) (am j.1),λ{X a}g=>by
 subst J I h;obtain⟨H,k,C,u⟩:=AB g i.2;obtain⟨o,b,G⟩:=j.2;have o:X.N[j.1]?=some x:=by rw[g.N];exact o
 have l:=oB G;refine NB (X:=lM X a) g.nd H (g.S.loc _ _ C u).1 ?_ (xU rfl) (g.S.loc _ _ C u).2;rcases b with b|b|b
 ·exact EJ _ (xF o (g.S.vis x _ b (.inl rfl)) l.d l.c)
 ·exact EJ _ (xF o (g.S.vis x _ b (.inr (.inl rfl))) l.d l.c)
 ·exact EJ _ (xF o (g.S.vis x _ b (.inr (.inr rfl))) l.d l.c)⟩
def Lk(q:lC)(c:RC)(s:Stmt):Option (B2 E ys y fl c s):=Nw s λb hs r1 r2 _ h=>v1 b λb h1=>v1 hs λhd h2=>v0 r1 λh3=>v0 r2 λh4=>Tk hd λz p3 H b0 ss _ h5=>v0 ss λh6=>
 wh (ys.contains z=true/\(z=ag "PactError"\/z=y)/\c.glo z=true/\j_ z=true/\c.top=true/\c.sc.names.lookup H=some .local/\c.N[c.N.idxOf H]?=some H) λw=>(Xb c b0).bind λY=>
 Hm b λe _ h7=>zW e λfn _ as _ h8=>vC as λa l h9=>(Az E fn).bind λr=>wh (c.glo fn=true/\j_ fn=true/\r.1.k<=c.k/\r.1.n=(a::l).length) λv=>(sZ q c (a::l)).bind λca=>
 some ⟨iH (iS (ba r.1.g (kj ca.1))) [y] (c.N.idxOf H) (aF Y.1 aH),λ{X}g o=>by
  subst h9 h8 h7 h6 h5 h4 h3 h2 h1 h;obtain⟨w0,J,w1,w2,w3,w4,w5⟩:=w;obtain⟨v1,v2,v3,v4⟩:=v;obtain⟨Z,O,mz⟩:=o.hy _ w0;have G:∀x∈[y],∃fl C N P U,XF X.K x fl C N P U/\(Z=C\/Z=P):=λx Q=>by
   obtain⟨fl,C,N,P,U,F⟩:=o.B x Q;rw[aC]at Q;refine⟨fl,C,N,P,U,F,?_⟩;rcases J with u|u
   ·subst u;have:=O.1.symm.trans F.glP;injection this with t;injection t with t;injection t with t;exact .inr t
   ·rw[u,<- Q]at O;have:=O.1.symm.trans F.gl;injection this with t;injection t with t;injection t with t;exact .inl t
  obtain⟨f,fd,m,F,kp,B⟩:=(o.E _ _ r.2).ex;obtain⟨xa,I,la⟩:=ca.2;rw[bG,aO]at I;exact UP g.S.calm o.st o.fr F (g.hr.mono v3) (g.S.glo _ (beq_iff_eq.mp v1)) m kp B (by rw[o.nx];exact xa g) (λl' st ds L z=>by rw[v4,la l' st ds L z]) (oB v2).d (nQ I.1) (Av I.2) g.nd (xU rfl) G (g.S.glo _ (beq_iff_eq.mp w1)) mz (oB w2).d (by rw[g.N];exact w5) ((g.kd w3).2 _ |>.trans w4) λa=>LF (Y.2 g) Jk⟩
abbrev KO(c:RC)(g:List Expr):={r:CA // (∀{X:Cx},Good X c->sX X E ys y fl->SA X g r)/\g.all p_=true/\∀l st ds b,r l st=.ok ds b->ds.length=g.length}
def Fd(q:lC)(c:RC):∀b:List Expr,Option (KO E ys y fl c b)
 |[]=>some ⟨aY,λ_ _=>HF,rfl,Oi⟩
 |e::b=>wh (p_ e=true) λh=>(C5 E ys y fl q c e).bind λf=>(Fd q c b).bind λr=>some ⟨ak f.1 r.1,λg o=>IN (f.2 g o) (r.2.1 g o) (nQ h),by rw[bG,h,r.2.2.1];rfl,KA r.2.2.2⟩
def Fn(q:lC)(c:RC)(e:Expr):Option (DB E ys y fl c e):=zW e λx _ b _ I=>vC b λa b H=>(Az c.G x).bind λr=>wh (c.glo x=true/\j_ x=true/\r.1.k<=c.k/\r.1.n=(a::b).length) λz=>(Fd E ys y fl q c (a::b)).bind λh=>some ⟨ba r.1.g h.1,λg o=>by subst I H;obtain⟨G,C,v,u⟩:=z;obtain⟨f,J,m,F,kp,B,_⟩:=(g.G _ _ r.2).ex;obtain⟨x,y,l⟩:=h.2;rw[bG,aO]at y;exact Ra g.S (beq_iff_eq.mp G) F (g.hr.mono v) m kp B (oB C) (x g o) (by rw[u];exact l) (nQ y.1) (Av y.2)⟩
def Zo(q:lC)(c:RC)(s:Stmt):Option (B2 E ys y fl c s):=
 xOr (I_ s λt a b _ h=>(Rh E ys y fl q c 9 t).bind λv=>(qu q c a).bind λG=>(qu q c b).bind λC=>some ⟨ik v.1 G.1 C.1,λg o=>h ▸ Qe (v.2 g o) (G.2 g) (C.2 g)⟩) <|
 xOr (Ck s λo _ h=>oS o λe l=>xOr (Ff e λu a _ H=>wh (u=.Not) λz=>(C5 E ys y fl q c a).bind λf=>some ⟨cH (vh f.1),λg w=>by subst z H l h;exact Hu (Pn (f.2 g w))⟩)
  ((C5 E ys y fl q c e).bind λf=>some ⟨cH f.1,λg w=>by subst l h;exact Hu (f.2 g w)⟩))
 (xOr ((q.s c s).bind λf=>some ⟨f.1,λg _=>f.2 g⟩) (Ck s λo _ h=>oS o λe l=>(Fn E ys y fl q c e).bind λf=>some ⟨cH f.1,λg w=>by subst l h;exact Hu (f.2 g w)⟩))
def U1(q:lC)(c:RC)(s:Stmt):Option (B2 E ys y fl c s):=xOr (Lk E ys y fl q c s) (Zo E ys y fl q c s)
def ED(q:lC)(c:RC):∀h:List Stmt,Option (K8 E ys y fl c h)
 |[]=>some ⟨aH,λ_ _=>Jk⟩
 |s::h=>(U1 E ys y fl q c s).bind λa=>(ED q c h).bind λb=>some ⟨aF a.1 b.1,λg o=>LF (a.2 g o) (b.2 g o)⟩
end
section
variable{P:Program}{w:bw}{K:Frag}{mg:Str->Option ac}{base:bu}
theorem Sy{CX:uq}{N:List Str}{qual:Str}{sc:dw}{f:af}{c:ac}{A:br}{outer:List Env}{s:ae}{H:Hp}{E:XK}:Sc (ko CX P w K mg base N qual sc f c A outer s H E) sc where
 vis:=λx k h b=>by
  rcases b with z|z|z<;>subst z
  ·exact .inl h
  ·exact .inr (.inl h)
  ·exact .inr (.inr h)
 cel:=λx h=>h
 glo:=λx h=>h
 loc:=λx k h b=>⟨by rcases b with z|z<;>subst z;exact .inl h;exact .inr h,.inl rfl⟩
 calm:=rfl
def XT(K:Frag)(mg:Str->Option ac)(y f qual:Str)(g:Stmt):Prop:=∃C N PA l b h,XF K y f C N PA l/\mg y=some (.ref C)/\nsIn K N (ag "__init__")=some (some (.ref b))/\(∃c,K.lookup b=some c/\c.cls=.type "function")/\tS K "__init__" qual g b h
theorem O4{y f qual n1 n2:Str}{c:Stmt}{O L J I:Pos}(T:XT K mg y f qual c)(E:cW (.type "ValueError") f=pure none)(S:qT [n1,n2] [n1,n2] (a_ c)=true)(U:dk c=[.Assign [.Attribute (.Name n1 O) f L] (.Name n2 J) I])
  (v1:(a_ c).names.lookup n1=some .local) (v2:(a_ c).names.lookup n2=some .local) (v:j_ n1=true) (u:j_ n2=true)
  (b:∀(kV l H:ac)(an:Option af)(o ct:ac)(g:List ac),g.length=[n1,n2].length->lX (fnOf "__init__" qual (e9 c) (dk c) (a_ c) .none kV l H an o ct) { pos:=g }=pure ([n1,n2].zip g)):XR P w K mg base y f:=by
 obtain⟨C,N,PA,NP,fI,Y,F,m,Q,h,G⟩:=T;exact⟨⟨C,N,PA,NP,fI,Y,[n1,n2],F,m,Q,h,V7 F E G (F8 S) U (.inl v1) (.inl v2) (oB v).d (oB u).d (oB v).c (oB u).c,G.binds b⟩,E⟩
theorem T2{x:Str}{r:RF}{f:af}{c:bU}{E:List (Str×RF)}(m:mg x=some (.ref f))(F:gO P w K mg base (rJ P w) r.k f c r.ps (vB K r.n r.g))(kp:keepIn K (.ref f)=true)(b:Binds K c r.ps [])(h:iV P w K mg base E):iV P w K mg base ((x,r)::E):=λy s z=>by
 by_cases e:y=x
 ·subst e;rw[gK]at z;cases z;exact⟨f,c,m,F,kp,b⟩
 ·rw[uA e]at z;exact h y s z
theorem BU:AL K mg []:=λ_ h=>(by cases h)
theorem kr{h:bu}{y q:Str}{D N:af}{ys:List Str}{bs bm:List ac}{c:List Str}{sub:List ac}{I:Bool}{b:Option Bool}{H:Option af}{E C v u o:Option ac}(X:K.In h)(G:h.Ns bN mg)(g:nsIn K bN y=some (some (.ref D)))
  (l:K.lookup D=some (fo y q D N bs bm true c sub I b H E C v u o "ValueError.__new__")) (t:AL K mg ys):AL K mg (y::ys):=λx z=>by
 rw[c_,ky]at z;rcases z with z|z
 ·rw[beq_iff_eq.mp z];exact⟨D,⟨g,_,_,_,_,_,_,_,_,_,_,_,_,_,_,l⟩,mg_of X G g⟩
 ·exact t x z
theorem AN{h:bu}{x f qual:Str}{c:Stmt}{C N PA NP E:af}{q q':Str}{bs bs':List ac}{sn H:List Str}{sub b:List ac}{ab ab':Bool}{col v:Option Bool}{dd dd':Option af}{k0 k1 k2 k3 k5 k0' Y U Q O:Option ac}
  {o o':ac}{d d':Option af}{es u:Array pB}{ep ep':Nat}{sl J:Array (Option ac)}{od an:Option af}{I:Array (Option ac)}{kV dc pm cd ct:ac} (X:K.In h) (G:h.Ns bN mg)
  (g:nsIn K bN x=some (some (.ref C))) (l:K.lookup C=some (fo x q C N bs (.ref PA::fJ) true sn sub ab col dd k0 k1 k2 k3 k5 "ValueError.__new__")) (lN:K.lookup N=some ⟨o,d,.dict es ep,sl⟩)
  (h1:qw es [ag "__getattribute__",ag "__getattr__",ag "__setattr__",ag "__class__",f]=true) (kp:keepIn K (.ref C)=true)
  (g':nsIn K bN "PactError"=some (some (.ref PA))) (l':K.lookup PA=some (fo "PactError" q' PA NP bs' fJ true H b ab' v dd' k0' Y U Q O "ValueError.__new__")) (L:K.lookup NP=some ⟨o',d',.dict u ep',J⟩)
  (h2:qw u [ag "__getattribute__",ag "__getattr__",ag "__setattr__",ag "__class__",f,ag "__init__",ag "args"]=true)
  (xi:nsIn K N (ag "__init__")=some (some (.ref E))) (xf:K.lookup E=some ⟨.type "function",od,.func (fnOf "__init__" qual (e9 c) (dk c) (a_ c) .none kV dc pm an cd ct),I⟩) (xe:codeIn K cd qual=true) (xk:keepIn K (.ref E)=true):XT K mg x f qual c:=
 ⟨C,N,PA,NP,E,_,YQ g l lN h1 kp g' l' L h2 (λ_ z=>z) (λ_ z=>z),mg_of X G g,xi,⟨_,xf,rfl⟩,Pm (st:=c) xf xe xk⟩
variable{x y fl:Str}{sd:Stmt}{k n:Nat}{g:List D->M D}{G E:List (Str×RF)}{Z:List Str}{C:List (Str×D)}{H:List (Nat×Nat×Nat)}{ys:List Str}
theorem Rt(R : nW)(H : List (Nat×Nat×Nat))(n : Nat)(F : FnAt K mg x sd)(hE : iV P w K mg base E)(O : cq P w K mg base G)(hR : XR P w K mg base y fl)(Q : AL K mg ys)(hZ : xV mg Z)(hC : uU K mg C)(hb : (ED E ys y fl (oU R 40) ⟨a_ sd, sC sd, k, G, Z, C, H, true, ([], []), none⟩ (dk sd)).map (λv => bW (sC sd).length v.1) = some g := by kernel_rfl)
  (S:qT (sC sd) (rQ sd) (a_ sd)=true:=by kernel_rfl) (L:(rQ sd).length=n:=by kernel_rfl)
  (b:∀(kV h o:ac)(I:Option af)(c ct:ac)(l:List ac),l.length=n->lX (fnOf x x (e9 sd) (dk sd) (a_ sd) .none kV h o I c ct) { pos:=l }=pure ((rQ sd).zip l):=by and_intros):
  cq P w K mg base (qE x sd n k g G):=by
 obtain⟨v,hv,rfl⟩:=dY.mp hb;obtain⟨f,fd,F,u⟩:=F;have bs:=F.binds (ps:=rQ sd) λkV h o I c ct l Y=>b kV h o I c ct l (Y.trans L);have J:=F8 S;exact GO u (OZ F J L rfl λc A outer s Hp E' _ U=>v.2 ⟨Oh,rfl,J.nd,U,O,hZ,hC,lQ,λ_=>⟨by show (if (a_ sd).kind.isAnnotationScope=true then _ else (a_ sd).kind)=_;rw[J.kind];rfl,λ_=>rfl⟩,⟨(λ_ _ z=>(by cases z)),(λ_ _ z=>(by cases z))⟩,λ_ z=>(by cases z)⟩ ⟨hE,hR,Q,rfl,rfl,rfl⟩) F.kp bs (λz=>(by cases z)) O
end
end MM
namespace MM
open PySem PySem.W PyProof.Rows L2
structure kX(fs xs:List af)(e:af)(c:ac)(d:Option af)(sl:Array (Option ac))(vs:Array ac)(f:ac)(h h':bu):Prop where
 keep:∀b o,b≠e->vs[1]?≠some (.ref b)->b∉fs->b∉xs->h.get? b=some o->h'.get? b=some o
 slot:∀b o,b≠e->vs[1]?≠some (.ref b)->b∉xs->h.get? b=some o->∃sl,h'.get? b=some { o with slots:=sl }
 there:∀b o,b∉xs->h.get? b=some o->∃o',h'.get? b=some o'
 ex:∃vs' T ts c' d' sl',h'.get? e=some ⟨c,d,.fields vs',sl⟩/\vs'[1]?=some (.ref T)/\T≠e/\(T∈xs\/h.get? T=none)/\h'.get? T=some ⟨c',d',.fields ts,sl'⟩/\ts[3]?=some f/\vs'[2]?=vs[2]?
section
variable{M:vZ}{A:br}{E:ac->ae->Prop}{s:ae}{fs xs:List af}{e C:af}{c f:ac}{d:Option af}{sl:Array (Option ac)}{vs:Array ac}{h h' h2:bu}
theorem mo.x(g:mo fs e c d sl vs f h h'):kX fs xs e c d sl vs f h h':=⟨λb o u h2 G _ q=>g.keep b o u h2 G q,λb o u h2 _ q=>g.slot b o u h2 q,λb o _ q=>g.there b o q,by obtain⟨vs',T,v,Y,d',l,U,Q,O,L,J,I,H⟩:=g.ex;exact⟨vs',T,v,Y,d',l,U,Q,O,.inr L,J,I,H⟩⟩
theorem kX.but(g:mo fs e c d sl vs f h h')(hs:eL C h' h2)(L:∃o,h.get? C=some o)(G:C≠e):kX fs [C] e c d sl vs f h h2:=by
 have st:∀b,b∉[C]->h2.get? b=h'.get? b:=λb O=>hs.2 b λz=>O (by rw[z];exact bO);obtain⟨vs',T,J,c',d',v,e1,e2,e3,I,e5,E,Y⟩:=g.ex;have Q:T≠C:=λz=>by obtain⟨o,q⟩:=L;rw[z,q]at I;cases I
 refine⟨λb o H h2 U l q=>(st b l).trans (g.keep b o H h2 U q),λb o H h2 l q=>?_,λb o l q=>?_,vs',T,J,c',d',v,(hs.2 e (dP G)).trans e1,e2,e3,.inr I,(hs.2 T Q).trans e5,E,Y⟩
 ·obtain⟨u,z⟩:=g.slot b o H h2 q;exact⟨u,(st b l).trans z⟩
 ·obtain⟨o',z⟩:=g.there b o q;exact⟨o',(st b l).trans z⟩
theorem kX.told(g:kX fs xs e c d sl vs f h s.heap){u:Option af}{Q:Unit->ae->Prop}(q:∀h',kX fs xs e c d sl vs (u.elim .none λf=>gx f) h h'->Q () { s with heap:=h' }):aD M A (sB (.ref e) u) Q E s:=by
 obtain⟨vs',T,ts,c',d',sl',e1,C,Y,G,U,e6,e7⟩:=g.ex;have H:=(dy.mp e6).1;have l:∀b,b≠T->(s.heap.update T (cE (·.setIfInBounds 3 (u.elim .none λf=>gx f)))).get? b=s.heap.get? b:=λb hb=>b_ _ _ (dP hb);have J:∀b o,b∉xs->h.get? b=some o->b≠T:=λb o hx z y=>by
  rcases G with G|G
  ·exact hx (by rw[y];exact G)
  ·rw[y,G]at z;cases z
 have L:=bK (cE (·.setIfInBounds 3 (u.elim bF λf=>gx f))) U rfl;unfold sB;refine aa (b9 e1 rfl C ?_);rw[aE (by simp)];refine fD U rfl H (q _ ⟨λb o O h2 H v z=>(l b (J b o v z)).trans (g.keep b o O h2 H v z),λb o O h2 v z=>?_,λb o v z=>?_,vs',T,_,_,_,_,(l e (dP Y)).trans e1,C,Y,G,L,by simp[H],e7⟩)
 ·obtain⟨sl,I⟩:=g.slot b o O h2 v z;exact⟨sl,(l b (J b o v z)).trans I⟩
 ·obtain⟨o',I⟩:=g.there b o v z;exact⟨o',(l b (J b o v z)).trans I⟩
theorem kX.note{base:bu}{env:Env}{outer:List Env}{L:af}(g:kX ((env::outer).filterMap (·.frame)) xs e c d sl vs f h s.heap)(hfr:A.frames=some (env::outer))(hl:s.heap.FunFrames base (env::outer))(hf:env.frame=some L)(hxe:e∉xs)
  {Q:Unit->ae->Prop} (q:∀h' f',kX ((env::outer).filterMap (·.frame)) xs e c d sl vs f' h h'->Q () { s with heap:=h' }):aD M A (iZ (.ref e) env) Q E s:=by
 obtain⟨vs',T,ts,c',d',sl',e1,e2,e3,J,U,e6,e7⟩:=g.ex;have hsz:=(dy.mp e2).1;unfold iZ;simp only[hf];refine aa (b9 e1 rfl e2 ?_);rw[aE (by simp)];refine aa (b9 U rfl e6 ?_);by_cases hq:(f == gx L)=true
 ·rw[aE hq];exact ah (q s.heap f g)
 ·rw[aA hq];refine aa (fD U rfl (dy.mp e6).1 ?_);have l:∀b,b≠T->(s.heap.update T (cE (·.setIfInBounds 3 bF))).get? b=s.heap.get? b:=λb H=>b_ _ _ (dP H);have hT2:=bK (cE (·.setIfInBounds 3 bF)) U rfl;refine LA (s:={ s with heap:=s.heap.update T (cE (·.setIfInBounds 3 bF)) }) hfr (hl.of_keeps λb o H c=>⟨o,?_,rfl⟩) hf ((l e (dP e3)).trans e1) hsz λh' v w=>q h' (gx L) ?_
  ·rw[l b λz=>?_]
   ·exact H
   ·subst z;rw[U]at H;cases H;exact c ts rfl
  ·obtain⟨C,c,Q⟩:=w.tr;have O:∀b o,b∉xs->h.get? b=some o->b≠T:=λb o L z y=>by
    rcases J with J|J
    ·exact L (by rw[y];exact J)
    ·rw[y,J]at z;cases z
   have H:v∈xs\/h.get? v=none:=by
    by_cases y:v∈xs
    ·exact .inl y
    ·cases z:h.get? v with
     |none=>exact .inr rfl
     |some o=>
      exfalso
      obtain⟨o',G⟩:=g.there v o y z;have:=w.new;rw[l v (O _ _ y z),G]at this;cases this
   refine⟨λb o I h2 E u z=>w.keep b o I E ((l b (O _ _ u z)).trans (g.keep b o I h2 E u z)),λb o I h2 u z=>?_,λb o u z=>?_,_,v,C,_,_,_,w.ex,by simp[hsz],w.ne,H,c,Q,by simpa using e7⟩
   ·obtain⟨U,Y⟩:=g.slot b o I h2 u z;obtain⟨s2,G⟩:=w.slot b _ I ((l b (O _ _ u z)).trans Y);exact⟨s2,G⟩
   ·obtain⟨c,Y⟩:=g.there b o u z;by_cases y:b=e
    ·subst y;exact⟨_,w.ex⟩
    ·obtain⟨s2,G⟩:=w.slot b _ y ((l b (O _ _ u z)).trans Y);exact⟨_,G⟩
end
theorem PQ{h h' base:bu}:∀{l:List Env},(∀b∈l.filterMap (·.frame),∀o,h.get? b=some o->(∀c,o.data≠.fields c)->∃o',h'.get? b=some o'/\o'.data=o.data)->h.FunFrames base l->h'.FunFrames base l
 |[],_,_=>trivial
 |env::dB,k,⟨hk,⟨L,o,hf,hn,ho,hd⟩,hr⟩=>by
  have e:(env::dB).filterMap (·.frame)=L::dB.filterMap (·.frame):=by rw[fO,hf]
  rw[e]at k;obtain⟨o',g,u⟩:=k L bO o ho hd;exact⟨hk,⟨L,o',hf,hn,g,λc=>u ▸ hd c⟩,PQ (λb v=>k b (bb _ v)) hr⟩
section
variable{P:Program}{w:bw}{K:Frag}{mg:Str->Option ac}{base:bu}{N:List Str}{qual:Str}{scope:dw}{f:af}{cd:ac}{A:br}{outer:List Env}{s:ae}{H:Hp}{E:XK}
variable{ao:List (af×Obj)}{σ:L2.St}{H':Hp}{s':ae}{a C:af}
theorem Py{c fv:ac}{d:Option af}{L:Array (Option ac)}{O:Array ac}{s2:ae}(I:Inv (ko (rJ P w) P w K mg base N qual scope f cd A outer s H E) ao σ H' s')(fl:Fl s.heap H H' s'.heap a)
  (hos:s2.os=s'.os) (hgs:s2.gens=s'.gens) (hH:H' a=some (.frz ⟨c,d,.fields O,L⟩ (.own a))) (hT:∀T,O[1]?=some (.ref T)->H' T=none/\s.heap.get? T=none) (hTf:∀T,O[1]?=some (.ref T)->∃l d' ts J,s'.heap.get? T=some ⟨l,d',.fields ts,J⟩)
  (g:kX ((eU qual scope s.heap.objs.size f cd::outer).filterMap (·.frame)) [C] a c d L O fv s'.heap s2.heap) (hCa:C≠a) (hC0:s.heap.get? C=none) (hCH:H' C=none) (hCf:C∉(eU qual scope s.heap.objs.size f cd::outer).filterMap (·.frame))
  (hE:∀H2,fL a H' H2->E (.ref a) none H2):
  (ko (rJ P w) P w K mg base N qual scope f cd A outer s H E).xe (.ref a) s2:=by
 obtain⟨ga,_⟩:=(show dz P w H' s'.heap a (.frz ⟨c,d,.fields O,L⟩ (.own a)) from I.hok a _ hH)
 have hfr:=I.ok.frames;have hst:=I.stack;have hsf:=I.stkFree;have hst2:s2.heap.FunFrames base (eU qual scope s.heap.objs.size f cd::outer):=PQ (λb v o e nf=>by obtain⟨sl2,q⟩:=g.slot b o (λz=>by subst z;rw[ga]at e;cases e;exact nf _ rfl) (λz=>by obtain⟨l,d',ts,J,q⟩:=hTf b z;rw[q]at e;cases e;exact nf _ rfl) (λz=>hCf (by rw[aC]at z;rw[<- z];exact v)) e;exact⟨_,q,rfl⟩) hst
 show aD (aK P w) (A.deeper (eU qual scope s.heap.objs.size f cd)) (leaving (eU qual scope s.heap.objs.size f cd) (.ref a)) _ _ s2;unfold leaving;refine aa (g.note hfr hst2 rfl (by rw[aC];exact dP hCa) λh3 f3 g3=>?_);refine kX.told (s:={ s2 with heap:=h3 }) g3 (u:=none) λh2 g=>?_;obtain⟨vs',T,ts,l,d',J,e1,e2,e3,G,e5,e6,e7⟩:=g.ex;have th:∀b o,s.heap.get? b=some o->∃o',s'.heap.get? b=some o':=λb o q=>I.base.there b o q (by intro z;cases z);have inf:∀b o,s.heap.get? b=some o->b∉sG outer->b∉(eU qual scope s.heap.objs.size f cd::outer).filterMap (·.frame):=λb o q v z=>by
  rw[fO]at z;rcases aI.mp (show b∈s.heap.objs.size::sG outer from z) with z|z
  ·exact bc (aL q) (by rw[z];exact cP _)
  ·exact v z
 have U:∀b o,s.heap.get? b=some o->b≠a:=λb o q z=>by rw[z,fl.1]at q;cases q
 have neT:∀b o,s.heap.get? b=some o->O[1]?≠some (.ref b):=λb o q z=>by rw[(hT b z).2]at q;cases q
 have Y:∀b o,s.heap.get? b=some o->b∉[C]:=λb o q z=>by rw[aC.mp z,hC0]at q;cases q
 have nw:∀b,b≠a->eB H' a (.frz ⟨c,d,.fields vs',L⟩ (.own a)) b=H' b:=λb z=>fR z;have hok2:mD P w (eB H' a (.frz ⟨c,d,.fields vs',L⟩ (.own a))) h2:=by
  intro b o e;by_cases z:b=a
  ·subst z;rw[iI]at e;cases e;exact⟨e1,_,e1⟩
  ·rw[fR z]at e;have kp:∀l u o',H' l=some o'->l≠a->s'.heap.get? l=some u->h2.get? l=some u:=λl u o' h h2 h3=>g.keep l u h2 (λy=>by rw[(hT l y).1]at h;cases h) (λy=>by rw[hsf l y]at h;cases h) (λy=>by rw[aC.mp y,hCH]at h;cases h) h3;refine (I.hok b o e).stay (λl u v h=>?_) (λl h=>?_) (λl xs h=>?_)
   ·rcases v with y|y
    ·subst y;exact kp _ u o e z h
    ·exact kp l u _ y (λq=>by rw[q,hH]at y;cases y) h
   ·rw[fR λq=>by rw[q,hH]at h;cases h];exact h
   ·rw[fR λq=>by rw[q,hH]at h;cases h];exact h
 refine⟨a,eB H' a (.frz ⟨c,d,.fields vs',L⟩ (.own a)),rfl,hos.trans I.os,by show kL s2.gens;rw[hgs];exact I.bare,⟨λb o q n v _=>?_,λb o q n v _=>?_,λb o q n _=>?_,λb o q _=>?_,λb xs q=>?_,λb o u q=>?_,λb ps q=>?_⟩,hok2,⟨fl.1,fl.2.1,c,d,vs',L,iI,.inr ⟨T,ts,l,d',J,e2,e3,?_,?_,e5,e6⟩⟩,hE _ ⟨c,d,O,vs',L,hH,e7,rfl⟩⟩
 ·exact g.keep b o (U b o q) (neT b o q) (inf b o q v) (Y b o q) (I.base.keep b o q n v (by intro z;cases z))
 ·obtain⟨c,Q⟩:=I.base.slot b o q n v (by intro z;cases z);obtain⟨sl2,h⟩:=g.slot b _ (U b o q) (neT b o q) (Y b o q) Q;exact⟨sl2,h⟩
 ·rw[nw b (U b o q)];exact I.base.free b o q n (by intro z;cases z)
 ·obtain⟨o',Q⟩:=th b o q;exact g.there b o' (Y b o q) Q
 ·have:=I.base.tups b xs q;rw[nw b λz=>by rw[z,hH]at this;cases this];exact this
 ·have:=I.base.frzs b o u q;rw[nw b λz=>by rw[z]at q;exact fl.2.1 o u q];exact this
 ·obtain⟨more,Q⟩:=I.base.tbls b ps q;exact⟨more,by rw[nw b λz=>by rw[z,hH]at Q;cases Q];exact Q⟩
 ·rcases G with G|G
  ·rw[aC.mp G];exact hC0
  ·cases z:s.heap.get? T with
   |none=>rfl
   |some o=>obtain⟨o',q⟩:=th T o z;rw[G]at q;cases q
 ·rw[nw T e3];rcases G with G|G
  ·rw[aC.mp G];exact hCH
  ·cases z:H' T with
   |none=>rfl
   |some o=>obtain⟨ob,q⟩:=K0 (I.hok T o z);rw[G]at q;cases q
end
def uW(X:Cx)(c:Hp)(a:af):Prop:=∀(ao:List (af×Obj))(σ:L2.St)(s':ae)(C:af)(m:Str->Option ac)(use:Option (ac->Sem Unit))(Q:ac->ae->Prop)(acc:ac)(env':Env),env'.frame=X.env.frame->Inv X ao σ c s' ->
 Fl X.s₀.heap X.H₀ c s'.heap a->s'.heap.Ns C m->c C=none->X.s₀.heap.get? C=none->C∉sG X.stack->DA (aK X.prog X.w) X.A env' (λx b=>m5 (aK X.prog X.w) X.A X.xe use Q acc C (.error x) b) (.ref a) s'
section
variable{P:Program}{w:bw}{K:Frag}{mg:Str->Option ac}{base:bu}{N:List Str}{qual:Str}{scope:dw}{f:af}{cd:ac}{A:br}{outer:List Env}{s:ae}{H:Hp}{E:XK}{H':Hp}{a:af}
theorem R8(hE:∀H2,fL a H' H2->E (.ref a) none H2):uW (ko (rJ P w) P w K mg base N qual scope f cd A outer s H E) H' a:=by
 intro ao σ s' C m use Q acc h hfe I fl hn v hC0 J;obtain⟨c,d,Y,sl,hH,hv,hT⟩:=fl.fly;obtain⟨ga,_⟩:=(show dz P w H' s'.heap a (.frz ⟨c,d,.fields Y,sl⟩ (.own a)) from I.hok a _ hH)
 have G:∀T,Y[1]?=some (.ref T)->∃c' d' O l,s'.heap.get? T=some ⟨c',d',.fields O,l⟩:=λT z=>by
  rcases hv with h1|⟨T',O,cT,dT,slT,h1,hTe,hT',h3⟩
  ·rw[h1]at z;cases z
  ·rw[h1]at z;cases z;exact⟨_,_,_,_,hT'⟩
 have o:C≠a:=λz=>by rw[z,hH]at v;cases v
 obtain⟨o1,o2,o3,U,b⟩:=hn;have hCT:Y[1]?≠some (.ref C):=λz=>by
  obtain⟨c',d',O,l,q⟩:=G C z;rw[q]at U;cases U;obtain⟨r1,r2⟩:=b
  first|cases r1|(cases r2)|(simp at r1)|(simp at r2)
 have en:iZ (.ref a) h=iZ (.ref a) (eU qual scope s.heap.objs.size f cd):=by have:h.frame=(eU qual scope s.heap.objs.size f cd).frame:=hfe;simp only[iZ,PySem.frameOf,this]
 show aD (aK P w) (A.deeper (eU qual scope s.heap.objs.size f cd)) (iZ (.ref a) h) _ _ s';rw[en];refine DH I.ok.frames I.stack rfl ga hv λh2 g=>?_;have hC2:=g.keep C _ o hCT J U;refine⟨m,⟨o1,o2,o3,hC2,b⟩,λh3 hs L hcl=>?_⟩;have g3:=kX.but g hs ⟨_,U⟩ o;obtain⟨vs',T,O,c',d',l,e1,e2,e3,e4,e5,e6,e7⟩:=g3.ex;unfold PySem.passOn;refine aa (b9 (s:={ s' with heap:=h3 }) e1 rfl e2 ?_);rw[aA (by simp)];refine aa (kX.told (s:={ s' with heap:=h3 }) g3 (u:=L.frame) λh4 g4=>?_);refine Ac ?_;exact Py (s2:={ s' with heap:=h4 }) I fl rfl rfl hH hT G g4 o hC0 v J hE
end
section
variable{prog:Program}{w:bw}{A:br}{R:Result->ae->Prop}{s:ae}
theorem Uh{g b iter:Expr}{c:List Expr}{scope:dw}{pos:Pos}{o l:ac}{env:Env}(I:Nat->ae->Prop)
  (turn:∀n s,I n s->aD (aK prog w) A (uH o) (λr s₁=>match r with
   |none=>R (.ok .next) s₁
   |some v => aD (aK prog w) A (lz b o v) (λ_ s₁' => aD (aK prog w) A (mG b env v) (λ_ s₂ =>
     aD (aK prog w) A (wC c env) (λok s₃=>
      if ok=true then aD (aK prog w) A (eval g env) (λx s₄=>
       aD (aK prog w) A (call (.builtin "list.append") [l,x]) (λ_ s₅=>∃m,m < n/\I m s₅) sE s₄) (DA (aK prog w) A env λx s'=>R (.error x) s') s₃
      else ∃m,m < n/\I m s₃) sE s₂) sE s₁') sE s₁) sE s)
  (n:Nat) (h:I n s):kc (aK prog w) A (.compLoop (.ListComp g [⟨b,iter,c,0⟩] scope pos) 0 o l env) R s:=by
 refine codeAny_loop rfl I (λn s u=>?_) n h
 show aD _ A ((compTurn (.ListComp g [⟨b,iter,c,0⟩] scope pos) 0 o l env).onRaise (λx=>do iZ x env;H_ x)) _ _ s;refine wpAny_noted ?_;rw[compTurn_list];refine aa (fX (aa (cc (turn n s u) (λr s₁ h₁=>?_) λ_ _ h'=>h'.elim)));cases r with
 |none=>exact ah h₁
 |some v=>
  refine aa (cc h₁ (λ_ s₁' h₁'=>?_) λ_ _ h'=>h'.elim);refine aa (cc h₁' (λ_ s₂ h₂=>aa (cc h₂ (λok s₃ h₃=>?_) λ_ _ h'=>h'.elim)) λ_ _ h'=>h'.elim);cases ok with
  |false=>exact ah ⟨rfl,h₃⟩
  |true=>
   exact aa (aa (cc h₃ (λx s₄ h₄=>aa (cc h₄ (λ_ s₅ h₅=>ah (ah ⟨rfl,h₅⟩)) λ_ _ h'=>h'.elim)) λ_ _ h'=>h'))
end
def AJ(X:Cx):XW:=λd _ ρ' b=>∀a,dG X.K ρ' b (.ref a) d->uW X b a
def DP(K:Frag)(f:CE)(W:XW):TE:=λσ H Q=>∃ρ l st,LR K ρ H σ l/\SR K ρ H st/\aQ K ρ H (f l st) (λd _ ρ' b=>∀v,dG K ρ' b v d->Q v b) W
theorem aQ.impZ{α:Type}{K:Frag}{ρ:List af}{H:Hp}{r:Rs α}{R:α->aT->List af->Hp->Prop}{W c:XW}(h:aQ K ρ H r R W)(f:∀d st ρ' b,W d st ρ' b->c d st ρ' b):aQ K ρ H r R c:=by
 cases r with
 |ok a st=>exact h
 |exc d st=>exact λρ' b y s=>f d st ρ' b (h ρ' b y s)
 |bad=>exact h
theorem Wv{X:Cx}{f:CE}{W:XW}{σ:St}{H:Hp}{Q:VK}(o:∀d st ρ' b,W d st ρ' b->vp X d st ρ' b)(h:DP X.K f W σ H Q):zL X f σ H Q:=by obtain⟨ρ,l,st,g,c,p⟩:=h;exact⟨ρ,l,st,g,c,p.impZ o⟩
noncomputable abbrev _root_.L2.Cx.held(X:Cx)(P:List (af×Obj))(E:ac->ae->Prop):Cx:={ X with pn:=P,xe:=E }
theorem _root_.L2.Inv.held{X:Cx}{P:List (af×Obj)}{σ:St}{H:Hp}{s:ae}(I:Inv X P σ H s)(b:X.pn=[])(E:ac->ae->Prop):Inv (X.held P E) [] σ H s:=
 ⟨⟨I.ok.mod,I.ok.kind,I.ok.glob,I.ok.blt,I.ok.above,I.ok.inj,I.ok.has,I.ok.cab,I.ok.hd,I.ok.frames,I.ok.stk,I.ok.exf,I.ok.bs,I.ok.bsz,I.ok.noex,I.ok.exfs,I.ok.funs,I.ok.frf⟩,I.os,I.bare,I.base,I.loc,I.cell,I.free,I.freeC,λp h=>I.pin p (by rw[b];rw[bH]at h;exact h),I.hok,I.len⟩
theorem _root_.L2.Inv.unheld{X:Cx}{P b:List (af×Obj)}{σ:St}{H:Hp}{s:ae}{E:ac->ae->Prop}(I:Inv (X.held P E) b σ H s)(c:X.pn=[]):Inv X (P++b) σ H s:=
 ⟨⟨I.ok.mod,I.ok.kind,I.ok.glob,I.ok.blt,I.ok.above,I.ok.inj,I.ok.has,I.ok.cab,I.ok.hd,I.ok.frames,I.ok.stk,I.ok.exf,I.ok.bs,I.ok.bsz,I.ok.noex,I.ok.exfs,I.ok.funs,I.ok.frf⟩,I.os,I.bare,I.base,I.loc,I.cell,I.free,I.freeC,λp h=>I.pin p (by rw[c]at h;exact h),I.hok,I.len⟩
section
variable{X:Cx}{ao:List (af×Obj)}{σ:St}{H:Hp}{s:ae}{scope:dw}{N:List Str}{fp:List af}
theorem T4{elt E iter:Expr}{Y:List Expr}{pos:Pos}{n:Nat}{ix:List Nat}{wi:TI}{g:TG}{tt:TT}{f:CE}{use:Option (ac->Sem Unit)}{Q:ac->ae->Prop}{QH:VK}
  (hex:X.ex=[]) (hc:X.calm=true) (S:fm X scope) (T:gj X scope N n ix) (hi:PI X E iter wi)
  (blk:∀(fp:List af)(s:ae)(H:Hp),PG (iU X N scope fp s H) E g/\td (iU X N scope fp s H) Y tt/\∀P E',(∀b∈fp,∃o,(b,o)∈P)->PE ((iU X N scope fp s H).held P E') elt (zL ((iU X N scope fp s H).held P E') f))
  (hs:∀x,cX iter X.env x=pure x) (I:Inv X ao σ H s) (h:qo wi n ix g tt (DP X.K f (AJ X)) σ H QH)
  (fin:∀(l C:af)(O:Hp)(s':ae),Inv X ao σ O s'->QH (.ref l) O->sW X ao C O s'->m5 (aK X.prog X.w) X.A X.xe use Q (.ref l) C (.ok .next) s'):
  aD (aK X.prog X.w) X.A (vL (.ListComp elt [⟨E,iter,Y,0⟩] scope pos) scope X.env (firstIterPos [⟨E,iter,Y,0⟩] pos) (newList []) false (eval iter X.env) use) Q X.xe s:=by
 have hclos:uN scope X.env=pure (kt scope.names X.env.cells []):=Od λx hx=>I.ok.has x (S.free x hx);refine vN rfl hs hclos S.kind S.names ?_;refine fE (hi ao s σ H _ I h) λv s1 h1=>fE h1 λitv s2 h2=>?_;obtain⟨it,fp,tn,J,H2,rfl,I2,TT,st2,f2,dB⟩:=h2;refine eD (hd:=by size_fits) ?_;have hf2:H2 s2.heap.objs.size=none:=I2.hok.fresh (az _);obtain⟨W,⟨m0,w0⟩,turn⟩:=dB _ hf2;have fl:∀b∈fp,b < s2.heap.objs.size:=λb L=>by obtain⟨o,e,_⟩:=TT.obj _ _ st2 b L;exact aL e
 have f3:∀b∈fp,nR X ao (eB H2 s2.heap.objs.size (.lst [])) b:=λb L=>by obtain⟨f0,fr⟩:=f2 b L;refine⟨?_,fr⟩;rw[fR (cv (fl b L))];exact f0
 have I3:Inv X ao σ (eB H2 s2.heap.objs.size (.lst [])) { s2 with heap:=s2.heap.push { cls:=.type "list",dict:=none,data:=.seq ([]:List ac).toArray } }:=
  I2.laid (t':=s2.toks) (λb o e=>aw _ e) (az _) ⟨bJ _,[],0,.nil,aR _ rfl⟩
 have tn3:tn 0 (s2.heap.push { cls:=.type "list",dict:=none,data:=.seq ([]:List ac).toArray }):=TT.keep _ _ _ st2 λb L o e=>aw _ e;have fl3:∀b∈fp,b < (s2.heap.push { cls:=.type "list",dict:=none,data:=.seq ([]:List ac).toArray }).objs.size:=λb L=>by rw[dA];exact iY (fl b L)
 generalize s2.heap.objs.size=l at *;generalize hs3:({ s2 with heap:=s2.heap.push { cls:=.type "list",dict:=none,data:=.seq ([]:List ac).toArray } }:ae)=G at *;have e3:s2.heap.push { cls:=.type "list",dict:=none,data:=.seq ([]:List ac).toArray }=G.heap:=by rw[<- hs3]
 rw[e3]at tn3 fl3;generalize eB H2 l (.lst [])=U at *;refine ML ?_;have I4:=MJ (N:=N) (n:=n) (ix:=ix) I3 S T f3 fl3;obtain⟨bg,bt,be⟩:=blk fp G U;have tn4:tn 0 (m_ G.heap scope):=TT.keep _ _ _ tn3 λb L o e=>Lz _ _ _ _ e;have fr4:∀b∈fp,U b=none:=λb L=>(f3 b L).1
 show kc (aK X.prog X.w) X.A (.compStart (.ListComp elt [⟨E,iter,Y,0⟩] scope pos) 0 (.ref it) (.ref l) (iU X N scope fp G U).env) (m5 (aK X.prog X.w) X.A X.xe use Q (.ref l) G.heap.objs.size) { G with heap:=m_ G.heap scope };have fpx:∀{σ':St}{O:Hp}{s':ae},Inv (iU X N scope fp G U) [] σ' O s'->(∀b∈fp,O b=none)->∀b∈fp,nR (iU X N scope fp G U) [] O b:=λI' hn b L=>by have q:=I'.ok.exf b L;exact⟨hn b L,q.1,I'.ok.exfs b L,.inl L,q.2,λp hp=>bc (show p∈([]:List (af×Obj)) from hp) (by simp)⟩
 have hc':(iU X N scope fp G U).calm=true:=hc
 let EE:ac->ae->Prop:=DA (aK X.prog X.w) X.A (iU X N scope fp G U).env λx s''=>m5 (aK X.prog X.w) X.A X.xe use Q (.ref l) G.heap.objs.size (.error x) s''
 have lk:∀P d st ρ' O,AJ X d st ρ' O->vp ((iU X N scope fp G U).held P EE) d st ρ' O:=λP d st ρ' H5 hW pins5 σ5 s5 a I5' rep fl=>by
  have I5:=I5'.unheld rfl;have J:Inv X ao σ H5 s5:=I3.call' I5.os I5.base I5.hok I5.bare λb L=>by obtain⟨g0,g1,g2,g3,g4,g5⟩:=f3 b L;exact⟨g3,g1,g4,g5⟩
  have up:∀b,G.heap.get? b=none->X.s₀.heap.get? b=none:=λb z=>by
   cases y:X.s₀.heap.get? b with
   |none=>rfl
   |some o=>
    obtain⟨o',q⟩:=I3.base.there b o y (by rw[hex];simp);rw[z]at q;cases q
  have fl':Fl X.s₀.heap X.H₀ H5 s5.heap a:=by
   obtain⟨f1,f2,c,d,vs,sl,f3,f4⟩:=fl;refine⟨up a f1,λo u z=>f2 o u (I3.base.frzs a o u z),c,d,vs,sl,f3,?_⟩;rcases f4 with f4|⟨T,ts,c',d',sl',z1,z2,z3,z4⟩
   ·exact .inl f4
   ·exact .inr ⟨T,ts,c',d',sl',z1,z2,up T z3,z4⟩
  obtain⟨m,hn,_⟩:=I5.loc;refine hW a rep ao σ s5 G.heap.objs.size m use Q (.ref l) _ rfl J fl' hn I5.free ?_ λz=>?_
  ·cases y:X.s₀.heap.get? G.heap.objs.size with
   |none=>rfl
   |some o=>exact bc (bp (aL y) I3.sz) (cP _)
  ·obtain⟨_,o,q,_⟩:=I3.stack.mem z;exact bc (aL q) (cP _)
 have loop:kc (aK X.prog X.w) X.A (.compLoop (.ListComp elt [⟨E,iter,Y,0⟩] scope pos) 0 (.ref it) (.ref l) (iU X N scope fp G U).env) (m5 (aK X.prog X.w) X.A X.xe use Q (.ref l) G.heap.objs.size) { G with heap:=m_ G.heap scope }:=by
  refine Uh (λk s'=>∃i σ' O,Inv (iU X N scope fp G U) [] σ' O s'/\tn i s'.heap/\(∀b∈fp,O b=none)/\W i k σ' O) ?_ m0 ⟨0,_,U,I4,tn4,fr4,w0⟩
  rintro k s5 ⟨i,σ5,H5,I5,tn5,fr5,w5⟩
  rcases turn i k σ5 H5 w5 with ⟨stop,q⟩|⟨go,step⟩
  ·refine fE (TT.done (iU X N scope fp G U) rfl rfl rfl hc' i [] s5 σ5 H5 sE I5 (fpx I5 fr5) tn5 stop) λr s6 g=>?_;obtain⟨hr,h⟩:=g;subst hr;have o:Inv X ao σ H5 s6:=I3.call' h.os h.base h.hok h.bare λb L=>by obtain⟨g0,g1,g2,g3,g4,g5⟩:=f3 b L;exact⟨g3,g1,g4,g5⟩
   obtain⟨m,hn,_⟩:=h.loc;refine fin l G.heap.objs.size H5 s6 o q ⟨⟨m,hn⟩,h.free,gr I3.lt,λx c e=>?_,I3.sz,λp hp=>?_⟩
   ·obtain⟨v,z⟩:=I3.cell x c e;exact cv z.lt
   ·exact cv (aL (I3.pin p hp).1)
  ·refine fE (TT.item (iU X N scope fp G U) rfl rfl rfl hc' i [] s5 σ5 H5 sE I5 (fpx I5 fr5) tn5 go) λr s6 J=>?_;obtain⟨u,hr,h6⟩:=J;subst hr;refine fE h6 λ_ s7 I=>?_;obtain⟨x,H7,I7,r7,y7,c,fr7⟩:=I;have I7':=I7.pinned (fpx I7 fr7) (TT.obj _ _ c);refine fE (bg _ s7 σ5 H7 x u _ I7' r7 (step x H7 y7)) λ_ s8 H=>?_;obtain⟨σ8,H8,I8,q8⟩:=H;refine fE (bt _ s8 σ8 H8 _ I8 q8) λok s9 E=>?_;obtain⟨H9,I9,q9⟩:=E;have again : ∀{s' : ae}{O : Hp}, Inv (iU X N scope fp G U) ([] ++ mC fp s7.heap) σ8 O s' -> (∃m', m' < k /\ W (i+1) m' σ8 O) ->
     ∃m,m < k/\∃i σ' O,Inv (iU X N scope fp G U) [] σ' O s'/\tn i s'.heap/\(∀b∈fp,O b=none)/\W i m σ' O:=λ{s' O}I' C=>by
    obtain⟨m',hm,w'⟩:=C;refine⟨m',hm,i+1,σ8,O,I'.unpinned,TT.keep _ _ _ c λb L o e=>(I'.pin (b,o) (bT _ (bT _ (BV L e)))).1,λb L=>?_,w'⟩;obtain⟨o,e,d⟩:=TT.obj _ _ c b L;exact (I'.pin (b,o) (bT _ (bT _ (BV L e)))).2.1
   cases ok with
   |false=>exact again I9 q9
   |true=>
    refine fE (be (mC fp s7.heap) EE (λb L=>by obtain⟨o,e,_⟩:=TT.obj _ _ c b L;exact⟨o,BV L e⟩) [] s9 σ8 H9 _ (Inv.held I9 rfl _) (Wv (lk _) q9)) λxv Y h=>?_;obtain⟨v,Q,I10',r10,ys,hy,hz,q10⟩:=h;have I10:Inv (iU X N scope fp G U) ([]++mC fp s7.heap) σ8 Q Y:=by have:=I10'.unheld rfl;rw[bH]at this;exact this
    refine fE (HG (X:=iU X N scope fp G U) _ Y σ8 Q (.ref l) [v] (.ref l) [xv] (λ_ O=>O=eB Q l (.lst (ys++[v]))) I10 rfl (.cons r10 .nil) ⟨l,ys,v,rfl,rfl,hy,hz,rfl⟩) λ_ s11 g=>?_;obtain⟨_,H11,I11,_,e⟩:=g;subst e;exact again I11 q10
 exact xq loop (TT.self _ 0 _ _ _ tn4 loop)
theorem YZ{E u iter:Expr}{v:List Expr}{pos:Pos}{n:Nat}{ix:List Nat}{L:TI}{g:TG}{O:TT}{f:CE}
  (hex:X.ex=[]) (hc:X.calm=true) (S:fm X scope) (T:gj X scope N n ix) (hi:PI X u iter L)
  (J:∀(fp:List af)(s:ae)(H:Hp),PG (iU X N scope fp s H) u g/\td (iU X N scope fp s H) v O/\∀P U,(∀b∈fp,∃o,(b,o)∈P)->PE ((iU X N scope fp s H).held P U) E (zL ((iU X N scope fp s H).held P U) f))
  (hs:∀x,cX iter X.env x=pure x:=by intro _;rfl):PE X (.ListComp E [⟨u,iter,v,0⟩] scope pos) (qo L n ix g O (DP X.K f (AJ X))):=by
 intro ao s σ H Q I h;rw[eval_ListComp];refine T4 (use:=none) hex hc S T hi J hs I h λl C H' s' I' q c=>?_;obtain⟨m,Y⟩:=c.ns;exact⟨m,Y,λh' G=>⟨.ref l,H',c.go I' G,rfl,q⟩⟩
end
def HB(K:Frag)(f:CA)(W:XW):TE:=λσ H Q=>∃ρ l st,LR K ρ H σ l/\SR K ρ H st/\aQ K ρ H (f l st) (λds _ ρ' b=>∀a c,H a=none->a∉ρ'->b a=some (.lst c)->ce K ρ' b c ds->Q (.ref a) b) W
section
variable{K:Frag}{ρ ρ1:List af}{H H1 H2:Hp}{st:aT}{α β:Type}{W:XW}
theorem aQ.bnd0{m:M α}{f:α->M β}{R:β->aT->List af->Hp->Prop}(h:aQ K ρ H (MM.bnd m f st) R W):aQ K ρ H (m st) (λa b _ _=>aQ K ρ H (f a b) R W) W:=by
 unfold MM.bnd at h;cases e:m st with
 |ok a s'=>rw[e]at h;exact λ_ _ _ _=>h
 |exc _ _=>rw[e]at h;exact h
 |bad=>rw[e]at h;exact h
theorem aQ.chk{c:Prop}[Decidable c]{m:M α}{R:α->aT->List af->Hp->Prop}(h:aQ K ρ H (MM.chk c m st) R W):c/\aQ K ρ H (m st) R W:=by
 unfold MM.chk at h;by_cases b:c
 ·rw[aE b]at h;exact⟨b,h⟩
 ·rw[aA b]at h;exact h.elim
end
section
variable{X:Cx}{a b c e tg:Expr}{es:List Expr}{pos:Pos}{fa fb fc:CE}{ca cb:CA}{ta tb:CT}{K:Frag}{ρ:List af}{H:Hp}{st:aT}
theorem Qku{W:XW}{ci:CI}{g:CG}{n:Nat}{ix:List Nat}:∀σ H Q,HB K (dR n ix (wS ci) (qQ g) (o9 ta) fa) W σ H Q->qo (B3 K ci) n ix (wo K g) (nM K ta) (DP K fa W) σ H Q:=λσ H Q L=>
 by obtain⟨ρ,l,st,lr,sr,p⟩:=L;exact⟨ρ,l,st,lr,sr,(aQ.no (aQ.bnd0 p)).imp λw bB ρ1 H1 x1 s1 p1 J hJ q Y=>by
  obtain⟨hz,p2⟩:=aQ.chk p1;have hn:H q=none:=by
   cases z:H q with
   |none=>rfl
   |some o=>exact bc Y (x1.trk q o z)
  refine⟨λi m σ' G=>m=w.ds.length-i/\i<=w.ds.length/\∃ρ' l' st' done vs,Ex ρ H ρ' G/\Ex ρ1 H1 ρ' G/\LR K ρ' G σ' l'/\SR K ρ' G st'/\q∉ρ'/\G q=some (.lst vs)/\ce K ρ' G vs done/\done.length<=i /\
   aQ K ρ H (collect (qQ g) (o9 ta) fa w.same (w.ds.drop i) l' st') (λdB u ρ2 h=>∀a ws,H a=none->a∉ρ2->h a=some (.lst ws)->ce K ρ2 h ws (done++dB)->Q (.ref a) h) W,
   ⟨w.ds.length,by simp,bJ _,ρ1,gL n ix l,bB,[],[],x1.trans (Ex.new Y),Ex.new Y,ND ((lr.mono x1).mono (Ex.new Y)),s1.new Y,s1.fresh Y,iI,.nil,bJ _,p2⟩,?_⟩
  rintro i m σ2 h ⟨rfl,hi,ρ2,l2,u,done,vs,x2,y2,lr2,s2,nq,hv,rvs,hd,p3⟩
  by_cases E:i < w.ds.length
  ·have ed:w.ds.drop i=w.ds[i]::w.ds.drop (i+1):=bR E;rw[ed]at p3;unfold collect at p3;obtain⟨sm,p4⟩:=aQ.chkS (aQ.left x2 (aQ.bnd0 p3)) s2;obtain⟨_,go⟩:=hJ ρ2 h u y2 s2 sm;obtain⟨g1,g2⟩:=go i w.ds[i] (ar E);refine .inr ⟨g1,λy H3 hy=>?_⟩;obtain⟨H,s3,rv⟩:=g2 y H3 hy;refine⟨ρ2,l2,u,_,lr2.mono H,s3,rv,(aQ.no (aQ.left (x2.trans H) (aQ.bnd0 p4))).imp λJ st4 ρ4 H4 x4 s4 p5 σ4 C=>⟨ρ4,J,st4,C,s4,(aQ.no (aQ.left (x2.trans (H.trans x4)) (aQ.bnd0 p5))).imp λb l ρ5 H5 o s5 p6=>?_⟩⟩;have I:Ex ρ2 h ρ5 H5:=H.trans (x4.trans o);have O:∀{ρ':List af}{G:Hp},Ex ρ2 h ρ' G->q∉ρ':=λz g=>by
    obtain⟨τ,e,f⟩:=z.pre;rw[e]at g;rcases aZ.mp g with g|g
    ·exact nq g
    ·rw[f q g]at hv;cases hv
   cases b with
   |false=>exact⟨_,by ext,rfl,E,ρ5,J,l,done,vs,x2.trans I,y2.trans I,C.mono o,s5,O I,I.lst q vs nq hv,rvs.mono I,xY hd,p6⟩
   |true=>
    refine⟨ρ5,J,l,C.mono o,s5,(aQ.left (x2.trans I) (aQ.bnd0 p6)).imp λd Q ρ6 H6 x6 s6 p7 v rv6=>?_⟩;have c:Ex ρ2 h ρ6 H6:=I.trans x6;have U:=c.lst q vs nq hv;have L:Up ρ6 H6 ρ6 (eB H6 q (.lst (vs++[v]))):=Up.own U;refine⟨vs,U,?_,_,by ext,rfl,E,ρ6,J,Q,done++[d],vs++[v],(x2.trans c).own hn,(y2.trans c).own Y,LR.up L ((C.mono o).mono x6),s6.own U (O c),O c,iI,
     ce.app ((rvs.mono c).up L) (.cons (rv6.up L) .nil),by simp;ext,?_⟩
    ·have c:=rvs.length;have b:w.ds.length<=sizeLine:=hz;ext
    ·refine (aQ.bnd0 p7).imp λdB g ρ8 C c h l a ws v o u b=>?_;exact l ρ8 C c h a ws v o u (by rw[xZ];exact b)
  ·have e:i=w.ds.length:=by ext
   subst e;rw[e_]at p3;unfold collect at p3;obtain⟨sm,p4⟩:=aQ.chkS (aQ.left x2 (aQ.bnd0 p3)) s2;obtain⟨g1,_⟩:=hJ ρ2 h u y2 s2 sm;refine .inl ⟨g1,p4 ρ2 h x2 s2 q vs hn nq hv (by rw[bH];exact rvs)⟩⟩
theorem Te{scope:dw}{N:List Str}{h:List Expr}{n:Nat}{ix:List Nat}{v:CI}{g:CG}(hex:X.ex=[])(E:X.calm=true)(S:fm X scope)(T:gj X scope N n ix)(C:SI X tg b v)
  (u:∀(l:List af)(s:ae)(H:Hp),SG (iU X N scope l s H) tg g/\vA (iU X N scope l s H) h ta/\∀P G,(∀b∈l,∃o,(b,o)∈P)->qM ((iU X N scope l s H).held P G) e fa)
  (hs:∀x,cX b X.env x=pure x:=by intro _;rfl):PE X (.ListComp e [⟨tg,b,h,0⟩] scope pos) (HB X.K (dR n ix (wS v) (qQ g) (o9 ta) fa) (AJ X)):=(YZ hex E S T C u hs).of Qku
theorem Zi(hex:∀b∈X.ex,∃o,(b,o)∈X.pn):oM (rJ X.prog X.w) X (MH X):=λg σ H s e s' I h=>by
 obtain⟨a,H',rfl,os,l,un,C,fl,q⟩:=h;have I2:Inv X g σ H' s':=I.call' os un C l (ch:=[]) (λb z=>bc z (by simp));have up:∀b,s.heap.get? b=none->X.s₀.heap.get? b=none:=λb z=>by
  cases y:X.s₀.heap.get? b with
  |none=>rfl
  |some o=>
   by_cases G:b∈X.ex
   ·obtain⟨o',c⟩:=hex b G;have:=(I.pin _ (gT _ c)).1;dsimp only at this;rw[z]at this;cases this
   ·obtain⟨o',q⟩:=I.base.there b o y G;rw[z]at q;cases q
 obtain⟨f1,f2,c,d,U,sl,f3,E⟩:=fl;refine q g σ s' a rfl I2 ⟨up a f1,λo u z=>f2 o u (I.base.frzs a o u z),c,d,U,sl,f3,?_⟩;rcases E with E|⟨T,Y,c',d',v,Q,O,L,J⟩
 ·exact .inl E
 ·exact .inr ⟨T,Y,c',d',v,Q,O,up T L,J⟩
end
end MM
namespace MM
def wR(g:List D->M D)(b:CA):CE:=ba (λds=>nj (g ds)) b
def tD(c b:CE):CE:=λl=>bnd (c l) λd=>nj (bnd (b l) λi=>bz d i)
def Fk(g:List D->M D):List D->M D:=λds=>nj (g ds)
def vx(g:D->D->M D)(c b:CE):CE:=λl=>bnd (c l) λx=>bnd (b l) λy=>nj (g x y)
def rG(c b:CE):CE:=λl=>bnd (nj (c l)) λx=>match x with
 | .ref n=>bnd (b l) λv=>nj (kY n v)
 |_=>bad
def r6(ys:List kN)(y f:kN)(j:Nat)(l:Loc):D->M o_
 | .exn x [_,_]=>if x∈ys then gW y f (am j) l else bad
 |_=>bad
def nO(cb:CS)(ys:List kN)(y f:kN)(j:Nat):CS:=λl s=>match cb l s with
 | .ok a s'=>.ok a s'
 | .exc d s'=>r6 ys y f j l d s'
 | .bad=>.bad
open PySem PySem.W PyProof.Rows L2
def T0(X:Cx):XW:=λd st ρ' b=>vp X d st ρ' b/\AJ X d st ρ' b
def NA(K:Frag)(c:CS)(W:XW):TS:=λG σ H=>∃ρ l st,LR K ρ H σ l/\SR K ρ H st/\aQ K ρ H (c l st) (λf _ ρ' b=>match f with
 | .next l'=>∀σ',LR K ρ' b σ' l'->G.nx σ' b
 | .ret d=>∀v,dG K ρ' b v d->G.rt v b
 | .brk l'=>∀σ',LR K ρ' b σ' l'->G.bk σ' b
 | .cnt l'=>∀σ',LR K ρ' b σ' l'->G.ct σ' b) W
abbrev Db(X:Cx)(W:XW)(e:Expr)(f:CE):Prop:=PE X e (DP X.K f W)
abbrev CZ(X:Cx)(W:XW)(s:Stmt)(c:CS):Prop:=PS X s (NA X.K c W)
abbrev wv(X:Cx)(W:XW)(s:List Stmt)(c:CS):Prop:=PSs X s (NA X.K c W)
section
variable{X:Cx}{W:XW}{a b c e tg:Expr}{es:List Expr}{s:Stmt}{ss:List Stmt}{pos p:Pos}{fa fb fc:CE}{ca cb:CA}{ta tb:CT}{cs cr:CS}{K:Frag}{ρ:List af}{H:Hp}{st:aT}{x T:Str}
theorem R4(h:SX X s cs)(C:∀d st ρ' o,W d st ρ' o->vp X d st ρ' o):CZ X W s cs:=h.of λG σ H g=>by obtain⟨ρ,l,st,v,u,p⟩:=g;exact⟨ρ,l,st,v,u,p.impZ C⟩
theorem VB(h:zF X ss cs)(C:∀d st ρ' o,W d st ρ' o->vp X d st ρ' o):wv X W ss cs:=h.of λG σ H g=>by obtain⟨ρ,l,st,v,u,p⟩:=g;exact⟨ρ,l,st,v,u,p.impZ C⟩
theorem Vw(J:CZ X W s cs)(I:wv X W ss cr):wv X W (s::ss) (aF cs cr):=(E5 J I).of λG σ H g=>by obtain⟨ρ,l,st,E,C,p⟩:=g;exact⟨ρ,l,st,E,C,(aQ.bnd p).imp λf u ρ1 O L h o=>by
 cases f with
 |next l'=>exact λσ' v=>⟨ρ1,l',u,v,h,o⟩
 |ret d=>exact aQ.ret o h
 |brk l'=>exact aQ.ret o h
 |cnt l'=>exact aQ.ret o h⟩
theorem Tg{g : List D -> M D}{T : String}(hc : CallR X (.type T) (CK X.K g))(c : Gl X x)(b : X.mg x = none)(v : cS x = some (.type T))(G : PE X e (HB X.K ca W))(Y : x ≠ "__name__" := by decide)(C : (x == ("__debug__" : Str)) = false := by decide)
  (E:av [e] X.env=[(false,eval e X.env)]:=by rfl):Db X W (.Call (.Name x p) [e] [] pos) (im (Fk g) ca):=
 (L7 hc c b v (nJ G qj E) Y C E rfl).of λσ H Q h=>by obtain⟨ρ,l,st,U,J,p⟩:=h;exact⟨ρ,l,st,U,J,(aQ.bnd p).imp λds o ρ1 H1 x1 L O a I G na v u=>⟨a,I,ρ1,o,ds,rfl,iW.of v,L,u,aQ.no O⟩⟩
theorem Wc(h:Db X W e fa):CZ X W (.Return (some e) pos) (cH fa):=(Lc h).of λG σ H g=>by obtain⟨ρ,l,st,J,u,p⟩:=g;exact⟨ρ,l,st,J,u,(aQ.bnd p).imp λd o ρ1 O L C I v E=>aQ.ret I C v E⟩
theorem Z2{i : Nat}{x : Str}{g : Pos}(b : X.N.Nodup)(Q : X.N[i]? = some x)(O : L2.Loc X.env.scope x)(Y : Db X W e fa)(hs : eW e (some (.Name x g)) pos.line X.env = pure false := by rfl)
  (U:X.fn x=true\/X.env.scope.names.lookup x=some .local:=by first|exact .inl rfl|exact .inr rfl|assumption):CZ X W (.Assign [.Name x g] e pos) (bY (aU i) fa):=
 (Le b Q O Y hs U).of λG σ H h=>by obtain⟨ρ,l,st,u,I,p⟩:=h;exact⟨ρ,l,st,u,I,(aQ.bnd p).imp λd E ρ1 c C o L v J=>
  aQ.ret (aQ.ret (aQ.bnd L) o) o _ ((u.mono C).set i J)⟩
end
def wy(X:Cx)(D:Ends):o_->aT->List af->Hp->Prop:=λf _ ρ' b=>match f with
 | .next l'=>∀σ',LR X.K ρ' b σ' l'->D.nx σ' b
 | .ret d=>∀v,dG X.K ρ' b v d->D.rt v b
 | .brk l'=>∀σ',LR X.K ρ' b σ' l'->D.bk σ' b
 | .cnt l'=>∀σ',LR X.K ρ' b σ' l'->D.ct σ' b
def A8(X:Cx)(b:List (af×Obj))(l:Loc)(W:XW)(u:ac)(s2:ae):Prop:=
 ∃g o h a σ,Inv X b σ o g/\u=.ref a/\s2.os=g.os/\kL s2.gens/\Un (sG X.stack) [] o h g.heap s2.heap/\mD X.prog X.w h s2.heap/\Fl g.heap o h s2.heap a /\
  ∀c,fL a h c->∃ρ3 d st3,LR X.K ρ3 c σ l/\SR X.K ρ3 c st3/\dG X.K ρ3 c (.ref a) d/\W d st3 ρ3 c
noncomputable def Kv(ρ:List af)(H:Hp)(W:XW):XW:=λd s _ _=>∀ρ' H',Ex ρ H ρ' H'->W d s ρ' H'
def TB(X:Cx)(b:Stmt)(cb:CS):Prop:=∀(ao:List (af×Obj))(s:ae)(σ:L2.St)(H:Hp)(ρ:List af)(l:Loc)(st:aT)(D:Ends)(W:XW),Inv X ao σ H s->LR X.K ρ H σ l->SR X.K ρ H st->aQ X.K ρ H (cb l st) (wy X D) (Kv ρ H W) ->
 aD (aK X.prog X.w) X.A (execs [b] X.env) (SP X ao D) (A8 X ao l W) s
section
variable{X:Cx}{e:Expr}{es:List Expr}{fx:List eR}{ca ck:CA}{hc cb g6 gD:CS}{tt:CT}{b b1 b2:Stmt}
variable{k n:Nat}{f:af}{fd:bU}{ps ks:List Str}{g:List D->M D}{fn x z nm:Str}{ys:List Str}{p p2 p3 ap bd dt pos:Pos}{i j:Nat}{Z:af}{b0:Stmt}{cu:List Stmt}
end
open PySem.Spec
def taX(X:Cx)(f:CA):TA:=λσ H Q=>∃ρ l st,LR X.K ρ H σ l/\SR X.K ρ H st/\aQ X.K ρ H (f l st) (λds _ ρ' c=>∀b,ce X.K ρ' c b ds->Q b c) (vp X)
abbrev AC(X:Cx)(b:List Expr)(f:CA):Prop:=PA X b (taX X f)
section
variable{X:Cx}{e a b:Expr}{es:List Expr}{pos p:Pos}{fa fb:CE}{ca:CA}
theorem RV(h:SA X es ca):AC X es (kj ca):=h.of λσ H Q c=>by obtain⟨ρ,l,st,o,g,p⟩:=c;exact⟨ρ,l,st,o,g,aQ.no p⟩
theorem QU(h:SE X e fa):qM X e (zu fa):=h.of λσ H Q c=>by obtain⟨ρ,l,st,o,g,p⟩:=c;exact⟨ρ,l,st,o,g,aQ.no p⟩
theorem Qa:AC X [] (kj aY):=RV HF
theorem PN(b:qM X e fa)(U:AC X es ca)(Y:av (e::es) X.env=(false,eval e X.env)::av es X.env):AC X (e::es) (ak fa ca):=(nJ b U Y).of λσ H Q c=>
 by obtain⟨ρ,l,st,o,G,p⟩:=c;exact⟨ρ,l,st,o,G,(aQ.bnd p).imp λd g ρ1 H1 C I O v J=>⟨ρ1,l,g,o.mono C,I,(aQ.bnd O).imp λds E ρ2 H2 u s2 L vs h=>aQ.ret L s2 _ (.cons (J.mono u) h)⟩⟩
theorem SH{k n:Nat}{f:af}{C:bU}{ps:List Str}{g:List D->M D}{x:Str}(F:gO X.prog X.w X.K X.mg X.base m9 k f C ps (mU X.K n g))(I:Room k X.A)(U:Gl X x)(L:X.mg x=some (.ref f))(O:keepIn X.K (.ref f)=true)(b:Binds X.K C ps [])(ha:AC X (e::es) ca)(J:∀l st ds o,ca l st=.ok ds o->ds.length=n)(v:(x == ("__debug__":Str))=false)
  (Y:av (e::es) X.env=(false,eval e X.env)::av es X.env) (u:(di pos (av es X.env)).any (·.1)=false):qM X (.Call (.Name x p) (e::es) [] pos) (wR g ca):=
 (G7 F I U L O b .nil Po ha v Y u).of λσ H Q c=>by obtain⟨ρ,l,st,G,E,p⟩:=c;exact⟨ρ,l,st,G,E,by
  have q:=aQ.bnd p;cases h:ca l st with
  |bad=>rw[h]at q;exact q
  |exc _ _=>rw[h]at q;exact q
  |ok ds bB=>
   rw[h]at q;intro ρ1 H1 x1 s1 vs rvs;exact⟨by rw[bH,rvs.length];exact J l st ds bB h,ρ1,bB,ds,s1,by rw[bH];exact rvs,aQ.no (q ρ1 H1 x1 s1)⟩⟩
theorem Q0(hu:X.A.units+60 < dZ)(ha:qM X a fa)(Y:SE X b fb)(hs:nN b):qM X (.Subscript a b pos) (tD fa fb):=(JB (NJ hu) ha Y hs).of λσ H Q c=>
 by obtain⟨ρ,l,st,o,G,p⟩:=c;exact⟨ρ,l,st,o,G,(aQ.bnd p).imp λd h ρ1 H1 E I U v J=>⟨ρ1,l,h,o.mono E,I,(aW.bnd (aQ.no U)).imp λe g ρ2 H2 C s2 O u L=>⟨ρ2,g,d,e,s2,J.mono C,L,O⟩⟩⟩
end
section
variable(E:List (Str×RF))(y fl:Str)
noncomputable def B_(E:List (Str×RF)):Expr->Bool
 | .Call (.Name x _) _ [] _=>(E.lookup x).isSome
 |_=>false
abbrev Mg(c:RC)(g:List Expr):={r:CA // (∀{X:Cx},Good X c->qx X E y fl->AC X g r)/\g.all p_=true/\∀l st ds b,r l st=.ok ds b->ds.length=g.length}
theorem TR:∀l st ds b,kj aY l st=.ok ds b->ds.length=0:=λl st ds b e=>by cases e;rfl
def AF(q:lC)(c:RC):∀b:List Expr,Option (Mg E y fl c b)
 |[]=>some ⟨kj aY,λ_ _=>Qa,rfl,TR⟩
 |e::b=>wh (p_ e=true) λl=>(if B_ E e=true then (rF E y fl q c e).map λf=>(⟨f.1,f.2.1⟩:{r:CE // ∀{X:Cx},Good X c->qx X E y fl->qM X e r}) else (q.e c e).map λf=>⟨zu f.1,λg _=>QU (f.2 g)⟩).bind λf=>(AF q c b).bind λr=>
  some ⟨ak f.1 r.1,λg h=>PN (f.2 g h) (r.2.1 g h) (nQ l),by rw[bG,l,r.2.2.1];rfl,KA r.2.2.2⟩
def Li(q:lC)(c:RC)(e:Expr):Option {r:CE // ∀{X:Cx},Good X c->qx X E y fl->qM X e r}:=
 xOr (Be e λa b _ h=>wh (Dd b=true/\B_ E a=true) λz=>(rF E y fl q c a).bind λG=>(q.e c b).bind λC=>some ⟨tD G.1 C.1,λg o=>h ▸ Q0 g.hu (G.2.1 g o) (C.2 g) (yK z.1)⟩)
 (zW e λx _ as _ e1=>vC as λa l e2=>(Az c.G x).bind λr=>wh (c.glo x=true/\j_ x=true/\r.1.k<=c.k/\r.1.n=(a::l).length/\(a::l).any (B_ E)=true) λz=>(AF E y fl q c (a::l)).bind λH=>
  some ⟨wR r.1.g H.1,λg o=>by subst e1 e2;obtain⟨Y,U,Q,O,_⟩:=z;obtain⟨f,fd,m,F,kp,B,_⟩:=(g.G _ _ r.2).ex;obtain⟨I,u,J⟩:=H.2;rw[bG,aO]at u;exact SH F (g.hr.mono Q) (g.S.glo _ (beq_iff_eq.mp Y)) m kp B (I g o) (λL st ds v z=>by rw[O,J L st ds v z]) (oB U).d (nQ u.1) (Av u.2)⟩)
def Ip(q:lC)(c:RC)(k:∀s:Stmt,Option (y_ E y fl c s))(s:Stmt):Option (y_ E y fl c s):=
 xOr (Ck s λo _ e=>oS o λa b=>(Li E y fl q c a).bind λf=>some ⟨cH f.1,λg h=>by subst b e;exact MA (f.2 g h)⟩)
 (Jx E y fl q c k s)
end
section
variable(E:List (Str×RF))(ys:List Str)(y fl:Str)
noncomputable def nE(E:List (Str×RF)):List (Str×Nat×(List D->M D)):=E.map λp=>(p.1,p.2.n,p.2.g)
end
section
variable{X:Cx}{e:Expr}{es:List Expr}{pos:Pos}{ca:CA}
theorem Xy{k n:Nat}{f:af}{L:bU}{ps:List Str}{g:List D->M D}{x:Str}{p:Pos}(hex:∀b∈X.ex,∃o,(b,o)∈X.pn)(F:gO X.prog X.w X.K X.mg X.base (rJ X.prog X.w) k f L ps (vB X.K n g))(hr:Room k X.A)(hg:Gl X x)(hm:X.mg x=some (.ref f))
  (hk:keepIn X.K (.ref f)=true) (hb:Binds X.K L ps []) (ha:SA X (e::es) ca) (hn:∀l st ds C,ca l st=.ok ds C->ds.length=n) (G:(x == ("__debug__":Str))=false)
  (he:av (e::es) X.env=(false,eval e X.env)::av es X.env) (E:(di pos (av es X.env)).any (·.1)=false):qM X (.Call (.Name x p) (e::es) [] pos) (ba g (kj ca)):=
 (G7 F hr hg hm hk hb .nil (Zi hex) ha G he E).of λσ H Q c=>by obtain⟨ρ,l,st,Y,U,p⟩:=c;exact⟨ρ,l,st,Y,U,by
  have q:=aQ.no (aQ.bnd p);cases u:ca l st with
  |bad=>rw[u]at q;exact q
  |exc _ _=>rw[u]at q;exact q
  |ok ds bB=>
   rw[u]at q;intro ρ1 H1 x1 s1 vs rvs;refine⟨by rw[bH,rvs.length];exact hn l st ds bB u,ρ1,bB,ds,s1,by rw[bH];exact rvs,?_⟩;have h:aQ X.K ρ1 H1 (g ds bB) (λd _ ρ' O=>∀v,dG X.K ρ' O v d->Q v O) (vp X):=q ρ1 H1 x1 s1;cases J:g ds bB with
   |bad=>rw[J]at h;exact h
   |ok r st2=>rw[J]at h;exact h
   |exc d st2=>
    rw[J]at h;intro ρ2 H2 x2 s2 a rep ao σ s' a' ea I fl;cases ea;exact h ρ2 H2 x2 s2 ao σ s' a I rep fl⟩
end
theorem _root_.L2.Inv.held2{X:Cx}{P b:List (af×Obj)}{σ:St}{H:Hp}{s:ae}(I:Inv X (P++b) σ H s)(c:X.pn=[])(E:ac->ae->Prop):Inv (X.held P E) b σ H s:=
 ⟨⟨I.ok.mod,I.ok.kind,I.ok.glob,I.ok.blt,I.ok.above,I.ok.inj,I.ok.has,I.ok.cab,I.ok.hd,I.ok.frames,I.ok.stk,I.ok.exf,I.ok.bs,I.ok.bsz,I.ok.noex,I.ok.exfs,I.ok.funs,I.ok.frf⟩,I.os,I.bare,I.base,I.loc,I.cell,I.free,I.freeC,λp h=>I.pin p (by rw[c];exact h),I.hok,I.len⟩
theorem Sv{X:Cx}{l:List Expr}{t:TA}{P:List (af×Obj)}{E:ac->ae->Prop}(g:X.pn=[])(u:X.xe=sE)(h:PA X l t):PA (X.held P E) l t:=λpos c s σ H Q I q=>by have w:=h pos (P++c) s σ H Q (I.unheld g) q;rw[u]at w;exact cc w (λJ s' b=>by obtain⟨o,G,C,v,r⟩:=b;exact⟨o,G,Inv.held2 C g E,v,r⟩) λ_ _ z=>z.elim
section
variable(E:List (Str×RF))(y fl:Str)
abbrev W5(c:RC)(e:Expr):={r:CE // ∀{X:Cx},Good X c->iV X.prog X.w X.K X.mg X.base E->X.pn=[]->X.xe=sE->∀{P:List (af×Obj)}{E':ac->ae->Prop},(∀b∈X.ex,∃o,(b,o)∈P)->qM (X.held P E') e r}
def FP(q:lC)(c:RC)(e:Expr):Option (W5 E c e):=zW e λx p as pos e1=>vC as λa b e2=>(Az E x).bind λr=>wh (c.glo x=true/\j_ x=true/\r.1.k<=c.k/\r.1.n=(a::b).length) λz=>(sZ q c (a::b)).bind λu=>
 some ⟨ba r.1.g (kj u.1),λ{X}g L J I{P v}hex=>by subst e1 e2;obtain⟨Y,U,Q,O⟩:=z;obtain⟨f,fd,m,F,kp,B⟩:=(L _ _ r.2).ex;obtain⟨C,h,l⟩:=u.2;rw[bG,aO]at h;have G:SA (X.held P v) (a::b) u.1:=Sv J I (C g);exact Xy (X:=X.held P v) hex F (g.hr.mono Q) (g.S.glo _ (beq_iff_eq.mp Y)) m kp B G (λH st ds o z=>by rw[O,l H st ds o z]) (oB U).d (nQ h.1) (Av h.2)⟩
abbrev J9(c:RC)(e:Expr):={r:CA // ∀{X:Cx},Good X c->qx X E y fl->PE X e (HB X.K r (AJ X))}
def D7(q:lC)(c:RC)(e:Expr):Option (J9 E y fl c e):=Nu e λx G sc p h=>v1 G λa C=>wh (a.is_async=0/\c.cok sc (uD 8 a.target).eraseDups a.iter) λz=>
 (q.i c a.target a.iter).bind λl=>(q.g (c.inn sc (uD 8 a.target).eraseDups) a.target).bind λg=>(EW q (c.inn sc (uD 8 a.target).eraseDups) a.ifs).bind λt=>(FP E q (c.inn sc (uD 8 a.target).eraseDups) x).bind λf=>
  some ⟨dR (uD 8 a.target).eraseDups.length (c.ix sc) (wS l.1) (qQ g.1) (o9 t.1) f.1,λk o=>by
   have u:e=.ListComp x [⟨a.target,a.iter,a.ifs,0⟩] sc p:=by rw[h,C,<- Pu z.1]
   rw[u];have ok:=z.2;exact Te o.ex k.S.calm (Ke k.S ok.1) (Ka k.N ok.2.1) (l.2 k) (λb s H=>⟨g.2 (k.inn ok b s H),t.2 (k.inn ok b s H),λP I v=>f.2 (k.inn ok b s H) o.E rfl rfl v⟩) (D_ ok.2.2.2)⟩
abbrev Ly(c:RC)(e:Expr):={r:CE // (∀{X:Cx},Good X c->qx X E y fl->Db X (AJ X) e r)/\CM e=true}
def DQ(q : lC)(c : RC)(e : Expr): Option (Ly E y fl c e) := CV e λx _ a p e => wh (x = ag "tuple" /\ c.bl x = true /\ p_ a = true) λz => (D7 E y fl q c a).bind λf => some ⟨im (Fk lF) f.1, λg o => by subst e;obtain⟨rfl,b,h⟩:=z;exact Tg PR (g.gl b).1 (g.gl b).2 (by nofun) (f.2 g o) (vk (by nofun)) (by nofun) (nQ h),by subst e;rfl⟩
section
variable{X:Cx}{a b o e:Expr}{es:List Expr}{pos bd ap:Pos}{fa fb:CE}{ca:CA}
omit E y fl in
theorem QkM{op:uI}{g:D->D->M D}(ho:OpR X (eN op) (nU X.K g))(ha:qM X a fa)(hb:qM X b fb):qM X (.BinOp a op b pos) (vx g fa fb):=
 (O5 ho ha hb).of λσ H Q c=>by obtain⟨ρ,l,st,G,L,p⟩:=c;exact⟨ρ,l,st,G,L,(aQ.bnd p).imp λd C ρ1 H1 J O E v U=>⟨ρ1,l,C,G.mono J,O,(aQ.bnd E).imp λe h ρ2 H2 I s2 o u Y=>⟨ρ2,h,d,e,s2,U.mono I,Y,aQ.no o⟩⟩⟩
theorem QkN{k:Nat}(h:AC X es ca):qM X (.Tuple es k pos) (d8 ca):=(L5 h).of λσ H Q c=>by obtain⟨ρ,l,st,L,C,p⟩:=c;exact⟨ρ,l,st,L,C,(aQ.bnd p).imp λds v ρ1 b U G J Y g=>by obtain⟨O,I⟩:=aQ.chk J;refine⟨by rw[g.length];exact O,λq u=>?_⟩;exact I ρ1 _ (Ex.new u) (G.new u) _ (.tup (kz.of iI) (g.mono (Ex.new u)))⟩
theorem RW(ho:SE X o fa)(J:qM X e fb)(C:cY o "append" X.env (eval o X.env)=eval o X.env)
  (I:G6 X ap [e]) (u:(bd.endLine == ap.line)=true) (hs:av [e] X.env=(false,eval e X.env)::av [] X.env) (c:(di ap (av [] X.env)).any (·.1)=false):
  qM X (.Call (.Attribute o "append" bd) [e] [] ap) (rG fa fb):=
 (Bf rO rj rm HG ho (nJ J qj hs) C I u hs c).of λσ H Q g=>by obtain⟨ρ,l,st,lr,sr,p⟩:=g;exact⟨ρ,l,st,lr,sr,(aQ.no (aQ.bnd p)).imp λd G ρ1 H1 x1 s1 p1 v rv=>by
  cases d with
  |ref n=>
   obtain⟨a,rfl,kk,h⟩:=rv.inv;have hl:n < G.length:=by rw[<- s1.len];exact (aq.mp h).1
   obtain⟨L,Y⟩:=Kg kk;refine⟨.inl ⟨rfl,L,iW.of Y⟩,ρ1,l,G,lr.mono x1,s1,(aQ.bnd p1).imp λy st2 ρ2 H2 x2 s2 p2 w O=>?_⟩;have h2:ρ2[n]?=some a:=by obtain⟨τ,e,_⟩:=x2.pre;rw[e];exact E6 h
   obtain⟨ds,b,p3⟩:=aW.getL (aW.bnd (aQ.no p2)) s2;obtain⟨a',vs,J,hv,r⟩:=s2.seq b;rw[h2]at J;cases J;obtain⟨hz,p4⟩:=aW.chk p3;obtain⟨E,x3⟩:=s2.put (aq.mp b).1 h2 hv (ce.app r (.cons O .nil));have U:=aW.bnd p4;unfold putL at U;rw[b]at U;exact⟨a,vs,w,rfl,rfl,hv,by rw[r.length];exact hz,(U ρ2 _ x3 E).ret E _ .non⟩
  |_=>exact p1.elim⟩
end
noncomputable def hasX(E:List (Str×RF)):Nat->Expr->Bool
 |0,_=>false
 |n+1,.Call f as _ _=>(match f with
  | .Name x _=>(E.lookup x).isSome
  | .Attribute o _ _=>hasX E n o
  |_=>false)||as.any (hasX E n)
 |n+1,.Subscript a b _=>hasX E n a||hasX E n b
 |n+1,.BinOp a _ b _=>hasX E n a||hasX E n b
 |n+1,.Tuple es _ _=>es.any (hasX E n)
 |_,_=>false
abbrev Eo(c:RC)(e:Expr):={r:CE // ∀{X:Cx},Good X c->qx X E y fl->qM X e r}
abbrev FY(c:RC)(b:List Expr):={r:CA // ∀{X:Cx},Good X c->qx X E y fl->AC X b r}
def NN{c:RC}(k:∀e:Expr,Option (Eo E y fl c e)):∀b:List Expr,Option (FY E y fl c b)
 |[]=>some ⟨kj aY,λ_ _=>Qa⟩
 |e::b=>wh (p_ e=true) λl=>(k e).bind λf=>(NN k b).bind λr=>some ⟨ak f.1 r.1,λg h=>PN (f.2 g h) (r.2 g h) (nQ l)⟩
def xE(q:lC)(c:RC):Nat->∀e:Expr,Option (Eo E y fl c e)
 |0,_=>none
 |n+1,e=>if hasX E 9 e=false then (q.e c e).map λf=>⟨zu f.1,λg _=>QU (f.2 g)⟩ else
  xOr ((rF E y fl q c e).map λf=>⟨f.1,f.2.1⟩) <|
  xOr (Be e λa b _ h=>wh (Dd b=true) λz=>(xE q c n a).bind λu=>(q.e c b).bind λl=>some ⟨tD u.1 l.1,λg o=>h ▸ Q0 g.hu (u.2 g o) (l.2 g) (yK z)⟩) <|
  xOr (Np e λa o b _ h=>wh (o=.Add) λz=>(xE q c n a).bind λu=>(xE q c n b).bind λl=>some ⟨vx bQ u.1 l.1,λg o=>h ▸ z ▸ QkM N3 (u.2 g o) (l.2 g o)⟩) <|
  vTp e λv _ _ h=>(NN E y fl (xE q c n) v).bind λr=>some ⟨d8 r.1,λg o=>h ▸ QkN (r.2 g o)⟩
def Jt(q:lC)(c:RC)(k:∀s:Stmt,Option (y_ E y fl c s))(s:Stmt): Option (y_ E y fl c s):=
  xOr (Ck s λo _ e=>oS o λa u=>wh (hasX E 9 a=true) λ_=>(xE E y fl q c 9 a).bind λf=>some ⟨cH f.1,λg h=>by subst u e;exact MA (f.2 g h)⟩) <|
  xOr (yU s λt a _ e=>sF t λx _ u=>wh (hasX E 9 a=true/\CM a=true) λz=>(xE E y fl q c 9 a).bind λf=>(Ar c x).bind λi=>some ⟨bY (aU i.1) f.1,λg h=>by subst u e;obtain⟨l,k,b,C⟩:=AB g i.2;exact Nc g.nd l (g.S.loc _ _ b C).1 (f.2 g h) (xU z.2) (g.S.loc _ _ b C).2⟩) <|
  xOr (Hm s λO _ e=>vM O λo I Y U Q l=>v1 U λa b=>wh (hasX E 9 a=true/\I=ag "append"/\G3 o=true/\p_ a=true/\(Y.endLine == Q.line)=true) λz=>(q.e c o).bind λH=>(xE E y fl q c 9 a).bind λG=>some ⟨iS (rG H.1 G.1),λg h=>by subst b l e;obtain⟨_,rfl,L,v,J⟩:=z;exact QS (RW (H.2 g) (G.2 g h) (J1 L) (D2 (by rw[bG,v];rfl) (vf rfl)) J (nQ v) rfl) (xU rfl)⟩)
  (Ip E y fl q c k s)
def Pp(q:lC)(c:RC):Nat->∀s:Stmt,Option (y_ E y fl c s)
 |0=>λ_=>none
 |n+1=>Jt E y fl q c (Pp q c n)
end
section
variable{prog:Program}{w:bw}{A:br}{E:ac->ae->Prop}{s:ae}{env:Env}{C N g:af}{bm:List ac}
theorem T6:entryFor table "proto.unchain"=some Builtin.«proto.unchain»:=GB (by rfl)
theorem Zs{x c:Sem ac}{Q:Flow->ae->Prop}(o:bm.contains (.type "BaseException")=true)(hh:A.handled=some (.ref g))(hc:∀(Q:ac->ae->Prop)s,Q .none s->aD (aK prog w) A c Q E s)
  (h:aD (aK prog w) A x (λv u=>∃e d L sl mN cg dg gs sg,v=.ref e/\n_ u.heap C N bm mN/\u.heap.get? e=some ⟨.ref C,d,.fields L,sl⟩/\L[1]?=some .none/\4 < L.size/\g≠e/\u.heap.get? g=some ⟨cg,dg,.fields gs,sg⟩/\gs[2]?=some .none /\
   ∀h' vs',h'.get? e=some ⟨.ref C,d,.fields vs',sl⟩->vs'[1]?=some .none->(∀b,b≠e->h'.get? b=u.heap.get? b)->E (.ref e) { u with heap:=h' }) E s):aD (aK prog w) A (pH env (some x) (some c)) Q E s:=by
 have Y:(ax C::bm).contains (.type "BaseException")=true:=by rw[c_,o,pI]
 unfold pH;refine aa (cc h (λv u h1=>?_) λ_ _ x=>x);obtain⟨e,d,L,sl,mN,cg,dg,gs,sg,rfl,⟨⟨nm,q1,bs,sn,sub,ab,col,dd,k0,k1,k2,k3,k5,hC⟩,_⟩,he,hv,h4,H,hg,hg2,hE⟩:=h1;obtain⟨hp,gn,dr,tk,os⟩:=u;refine aa (cB (hc _ _ (aa (ah ?_))))
 repeat (first
  |with_reducible refine eE he ?_
  |with_reducible refine eE hC ?_
  | (with_reducible refine gq hC ?_
     rw[Y])
  |wp_step)
 rw[aE (Nat.lt_of_succ_lt h4)];refine wpAny_update he ?_;have U:=bK (cE (·.setIfInBounds 3 bF)) he rfl;have o1:∀b,b≠e->(hp.update e (cE (·.setIfInBounds 3 bF))).get? b=hp.get? b:=λb o=>b_ _ _ (dP o);generalize hp.update e (cE (·.setIfInBounds 3 bF))=G at *;refine aa (fD U rfl (by simp;exact h4) ?_);have he2:=bK (cE (·.setIfInBounds 4 (eG true))) U rfl;have o2:∀b,b≠e->(G.update e (cE (·.setIfInBounds 4 (eG true)))).get? b=G.get? b:=λb o=>b_ _ _ (dP o);generalize G.update e (cE (·.setIfInBounds 4 (eG true)))=hp2 at *;have hCe:C≠e:=λz=>by subst z;have:=hC.symm.trans he;cases this
 obtain⟨l,J⟩:∃v,v=(L.setIfInBounds 3 bF).setIfInBounds 4 (eG true):=⟨_,rfl⟩
 have I:hp2.get? e=some ⟨.ref C,d,.fields l,sl⟩:=by rw[J];exact he2
 have hC3:=(o2 C hCe).trans ((o1 C hCe).trans hC);have hg3:=(o2 g H).trans ((o1 g H).trans hg);have O:l[1]?=some bF:=by rw[J];simp[hv]
 have h24:2 < l.size:=by rw[J];simp;ext
 dsimp only
 repeat (first
  |with_reducible refine eE I ?_
  |with_reducible refine eE hC3 ?_
  | (with_reducible refine gq hC3 ?_
     rw[Y])
  |wp_step)
 rw[O];refine ah ?_;rw[aA (by decide)];refine ah ?_;unfold raiseNew;refine aa (wpAny_handled ?_);rw[hh];have hne:(ax g != ax e)=true:=by simp[H]
 dsimp only;rw[aE hne];refine aa (cB (wpAny_runValue (tP T6 ?_)));unfold Builtin.«proto.unchain»;dsimp only;refine aa (b9 hg3 rfl hg2 ?_);refine ah ?_;refine aa (fD (i:=2) (x:=.ref g) I rfl h24 ?_);refine Ac (hE _ (l.setIfInBounds 2 (.ref g)) (bK _ I rfl) (by simp[O]) λb o=>?_);exact (b_ _ _ (dP o)).trans ((o2 b o).trans (o1 b o))
end
section
variable{X:Cx}{ao:List (af×Obj)}{σ:L2.St}{H:Hp}{s:ae}{h':bu}{a:af}{c:ac}{d:Option af}{vs vs':Array ac}{sl:Array (Option ac)}
theorem Uu(I:Inv X ao σ H s)(O:H a=some (.frz ⟨c,d,.fields vs,sl⟩ (.own a)))(h0:X.s₀.heap.get? a=none)(hz:∀o u,X.H₀ a≠some (.frz o u))(ga:h'.get? a=some ⟨c,d,.fields vs',sl⟩)(k:∀b,b≠a->h'.get? b=s.heap.get? b):
  Inv X ao σ (eB H a (.frz ⟨c,d,.fields vs',sl⟩ (.own a))) { s with heap:=h' }:=by
 have h:∀b o,X.s₀.heap.get? b=some o->b≠a:=λb o q z=>by rw[z,h0]at q;cases q
 have G:∀b,b≠a->eB H a (.frz ⟨c,d,.fields vs',sl⟩ (.own a)) b=H b:=λb z=>fR z;have L:∀b,H b=none->b≠a:=λb n z=>by rw[z,O]at n;cases n
 have cel:∀x e,X.env.cells.lookup x=some e->∀v,s.heap.IsCell e v->h'.IsCell e v:=λx e q v E=>by obtain⟨o,ho,hd⟩:=E;exact⟨o,(k e (L e (I.freeC x e q))).trans ho,hd⟩
 refine⟨I.ok,I.os,I.bare,⟨λb o q n U J=>(k b (h b o q)).trans (I.base.keep b o q n U J),λb o q n U J=>?_,λb o q n J=>(G b (h b o q)).trans (I.base.free b o q n J),λb o q J=>?_,λb xs q=>?_,λb o u q=>?_,λb ps q=>?_⟩,?_,λx e q=>?_,(G _ (L _ I.free)).trans I.free,λx e q=>(G _ (L _ (I.freeC x e q))).trans (I.freeC x e q),λp hp=>?_,?_,I.len⟩
 ·obtain⟨Y,C⟩:=I.base.slot b o q n U J;exact⟨Y,(k b (h b o q)).trans C⟩
 ·obtain⟨o',C⟩:=I.base.there b o q J;exact⟨o',(k b (h b o q)).trans C⟩
 ·have:=I.base.tups b xs q;rw[G b λz=>by rw[z,O]at this;cases this];exact this
 ·have:=I.base.frzs b o u q;rw[G b λz=>by rw[z]at q;exact hz o u q];exact this
 ·obtain⟨more,C⟩:=I.base.tbls b ps q;exact⟨more,by rw[G b λz=>by rw[z,O]at C;cases C];exact C⟩
 ·obtain⟨m,⟨o,g,h,ho,r⟩,c⟩:=I.loc;refine⟨m,⟨o,g,h,(k _ (L _ I.free)).trans ho,r⟩,λi x v G E C=>?_⟩;obtain⟨u,r,l⟩:=c i x v G E C;refine⟨u,r,?_⟩;rcases l with l|⟨b,Q,e,z⟩
  ·exact .inl l
  ·exact .inr ⟨b,Q,e,cel x Q e _ z⟩
 ·obtain⟨v,z⟩:=I.cell x e q;exact⟨v,cel x e q v z⟩
 ·obtain⟨e,n,ne,b,c⟩:=I.pin p hp;exact⟨(k _ (L _ n)).trans e,(G _ (L _ n)).trans n,ne,b,c⟩
 ·intro b o e;by_cases z:b=a
  ·subst z;rw[iI]at e;cases e;exact⟨ga,_,ga⟩
  ·rw[fR z]at e;refine (I.hok b o e).stay (λQ u U g=>?_) (λQ g=>?_) (λQ xs g=>?_)
   ·rcases U with y|y
    ·subst y;exact (k _ z).trans g
    ·exact (k Q λq=>by rw[q,O]at y;cases y).trans g
   ·rw[fR λq=>by rw[q,O]at g;cases g];exact g
   ·rw[fR λq=>by rw[q,O]at g;cases g];exact g
end
def qc(X:Cx)(c:Hp)(a:af):Prop:=∀(ao:List (af×Obj))(σ:L2.St)(s':ae)(g:af),Inv X ao σ c s'->Fl X.s₀.heap X.H₀ c s'.heap a ->
 DA (aK X.prog X.w) (lM X g).A X.env (λx b=>cameBackBy (aK X.prog X.w) X.A X.env X.xe x b) (.ref a) s'
def UU(X:Cx):XW:=λd _ ρ' b=>∀a,dG X.K ρ' b (.ref a) d->qc X b a
def zC(X:Cx):XW:=λd st ρ' b=>T0 X d st ρ' b/\UU X d st ρ' b
section
variable{P:Program}{w:bw}{K:Frag}{mg:Str->Option ac}{base:bu}{N:List Str}{qual:Str}{scope:dw}{f:af}{cd:ac}{A:br}{outer:List Env}{s:ae}{H:Hp}{E:XK}{H':Hp}{a:af}
theorem Xv(hE:∀H2,fL a H' H2->E (.ref a) none H2):qc (ko (rJ P w) P w K mg base N qual scope f cd A outer s H E) H' a:=by
 intro Q σ s' g0 I fl;obtain⟨c,d,O,sl,v,U,hT⟩:=fl.fly;obtain⟨ga,_⟩:=(show dz P w H' s'.heap a (.frz ⟨c,d,.fields O,sl⟩ (.own a)) from I.hok a _ v)
 have o:∀T,O[1]?=some (.ref T)->∃c' d' l h,s'.heap.get? T=some ⟨c',d',.fields l,h⟩:=λT z=>by
  rcases U with L|⟨T',l,cT,dT,slT,L,hTe,u,h3⟩
  ·rw[L]at z;cases z
  ·rw[L]at z;cases z;exact⟨_,_,_,_,u⟩
 have hs:=I.sz;have hCn:s'.heap.get? s'.heap.objs.size=none:=nc (az _);have b:H' s'.heap.objs.size=none:=I.hok.fresh (az _);have J:s.heap.get? s'.heap.objs.size=none:=nc hs;have G:s'.heap.objs.size≠a:=λz=>by rw[z,v]at b;cases b
 have C:s'.heap.objs.size∉(eU qual scope s.heap.objs.size f cd::outer).filterMap (·.frame):=λhb=>by
  have hm:=I.stkSub _ hb;rcases aI.mp hm with z|z
  ·exact bc I.lt (by rw[<- z];exact cP _)
  ·exact I.nofs (az _) z
 refine DH I.ok.frames I.stack rfl ga U λY g=>?_;obtain⟨vs',T,l,c',d',h,e1,e2,e3,e4,e5,e6,e7⟩:=id g.ex;unfold cameBackBy;refine aa (b9 (s:={ s' with heap:=Y }) e1 rfl e2 ?_);rw[aA (by simp)];refine kX.told (s:={ s' with heap:=Y }) (g.x (xs:=[s'.heap.objs.size])) λh4 g4=>?_;exact Py (s2:={ s' with heap:=h4 }) I fl rfl rfl v hT o g4 G J b C hE
end
section
variable{PG:Program}{w:bw}{K:Frag}{mg:Str->Option ac}{base:bu}{x f:Str}{C N P NP:af}
noncomputable def qq(k:Nat)(A:br):Prop:=A.depth+3*k+5 < oV/\A.units+16*k+200 < dZ
def CN(P:Program)(w:bw)(K:Frag)(mg:Str->Option ac)(base:bu)(k:Nat)(f:af)(g:bU)(ps:List Str)(sp:Sp):Prop:=
 ∀(A:br)(outer:List Env)(s:ae)(H:Hp)(args:Args)(c:List ac)(b:List V)(Q:VK)(E:XK),qq k A->qS P w K mg base A outer s H->pr s g args (ps.zip c)->cU b c->sp b H Q E ->
  kc (aK P w) A (.call (.ref f) args) (CR m9 outer P w H s Q E) s
noncomputable def HQ(X:Cx)(A:br):Cx:={ X with A:=A,calm:=false,xe:=λ_ _=>False }
theorem Zn{k:Nat}{f:af}{name qual:Str}{g:v8}{l:List Stmt}{scope:dw}{dV kV doc pm c ct oc:ac}{an od:Option af}
  {osl:Array (Option ac)}{N ps:List Str}{sp:Sp} (lk:K.lookup f=some ⟨oc,od,.func (dX name qual g l scope dV kV doc pm an c ct),osl⟩) (hcd:kG K c qual=true) (S:iG N ps scope)
  (len:∀L H Q E,sp L H Q E->L.length=ps.length)
  (C:∀(A A1:br)(outer:List Env)(s:ae)(H:Hp)(L:List V)(Q:VK)(E:XK),sp L H Q E ->
   ∃t,PSs (HQ (ko m9 PG w K mg base N qual scope f c A outer s H E) A1) l t/\t { nx:=λ_ O=>Q .non O,rt:=Q } (start N L) H):
  CN PG w K mg base (k+1) f (dX name qual g l scope dV kV doc pm an c ct) ps sp:=by
 intro A outer s H args us L Q E hr h hb r hsp;have hl:=len _ _ _ _ hsp;have KX:K.In s.heap:=h.mod.kin.keeps λb o e=>(h.bs b o e).1;have eK:s.heap.NoLimit:=h.mod.nolimit.keeps λb o e=>(h.bs b o e).1;have Y:∀y∈ps.zip us,scope.names.lookup y.1=some .local\/(scope.names.lookup y.1=some .cell/\((dD (s.heap.objs.size+1) scope.names []).lookup y.1).isSome=true):=λU hy=>by
  obtain⟨n,v⟩:=U;rcases S.par n (mI hy).1 with q|q
  ·exact .inl q
  ·exact .inr ⟨q,iJ _ _ _ (.inl q)⟩
 have hdp:A.depth < oV:=by have:=hr.1;ext
 refine xW hdp (KX _ _ lk) rfl S.co S.gen rfl (uK KX hcd) (hb _ _ _ _ ?_);refine uL S.kind Y λenv he s1 x=>?_;subst he;refine⟨eK.keeps x.toInCall.keep,codeAny_func ?_⟩;obtain⟨t,ht,hq⟩:=C { A with handled:=none } (A.deeper (eU qual scope s.heap.objs.size f c)) outer s H L Q E hsp;have G:Inv (ko m9 PG w K mg base N qual scope f c { A with handled:=none } outer s H E) [] (start N L) H s1:=Qq S rfl ⟨h.frames,h.mod,h.bs,h.bsz,h.funs,h.frf,h.hok,h.bare⟩ hl r x;have ok:=G.ok;have I:Inv (HQ (ko m9 PG w K mg base N qual scope f c { A with handled:=none } outer s H E) (A.deeper (eU qual scope s.heap.objs.size f c))) [] (start N L) H s1:=
  ⟨⟨ok.mod,ok.kind,ok.glob,ok.blt,ok.above,ok.inj,ok.has,ok.cab,(λz=>(by cases z)),ok.frames,ok.stk,ok.exf,ok.bs,ok.bsz,ok.noex,ok.exfs,ok.funs,ok.frf⟩,G.os,G.bare,G.base,G.loc,G.cell,G.free,G.freeC,G.pin,G.hok,G.len⟩
 refine cc (ht [] s1 (start N L) H _ I hq) (λfl s' hs=>?_) λe s' hs=>bV hs;have fin:∀{σ':L2.St}{O:Hp}{v:V}{u:ac},Inv (HQ (ko m9 PG w K mg base N qual scope f c { A with handled:=none } outer s H E) (A.deeper (eU qual scope s.heap.objs.size f c))) [] σ' O s'->RelV v u->Q v O->L2.CE outer PG w H s Q u s':=
  λ{σ' O v u}J rv q=>⟨v,O,J.os,J.bare,J.base,J.hok,rv,q⟩
 cases fl with
 |ret u=>
  obtain⟨v,σ',O,J,rv,q⟩:=hs;exact fin J rv q
 |next=>
  obtain⟨σ',O,J,q⟩:=hs;exact fin (v:=V.non) (u:=bF) J rfl q
 |brk=>
  obtain⟨_,_,_,q⟩:=hs;exact bV q
 |cont=>
  obtain⟨_,_,_,q⟩:=hs;exact bV q
theorem Wm{qual:Str}{b:Stmt}{g:af}{o:bU}{L J I G:Pos}{n1 n2:Str}(F:XF K x f C N P NP)(Y:cW (.type "ValueError") f=pure none)
  (FI:L2.tS K "__init__" qual b g o) (S:iG [n1,n2] [n1,n2] (a_ b)) (hb:dk b=[.Assign [.Attribute (.Name n1 L) f J] (.Name n2 I) G])
  (v1:xK (a_ b) n1) (v2:xK (a_ b) n2) (d1:(n1 == ("__debug__":Str))=false) (d2:(n2 == ("__debug__":Str))=false) (c1:(n1 == ("__classdict__":Str))=false) (c2:(n2 == ("__classdict__":Str))=false):CN PG w K mg base 1 g o [n1,n2] (vV C f):=by
 obtain⟨oc,od,kV,doc,pm,an,l,ct,O,rfl,U,c⟩:=FI.ex;refine Zn (k:=0) U c S (λu H Q E h=>?_) (λA A1 outer s H u Q E h=>?_)
 ·obtain⟨e,v,rfl,_⟩:=h;rfl
 ·obtain⟨e,v,rfl,c,q⟩:=h;rw[hb];refine⟨_,E5 (Oz (X:=HQ (ko m9 PG w K mg base [n1,n2] qual (a_ b) g l A outer s H E) A1) F Y (xF (i:=0) rfl v1 d1 c1) (xF (i:=1) rfl v2 d2 c2)) HD,?_⟩;exact⟨v,rfl,.ref e,rfl,e,rfl,c,λJ ob I G C u o=>q J ob I G C u o⟩
end
theorem qq.make{k:Nat}{A:br}(r:qq (k+1) A)(C:af)(b:List ac)(c:List (Str×ac)):qq k (A.under (.builtin "type.__call__" ⟨.ref C::b,c⟩)):=
 ⟨by rw[OA];have:=r.1;ext,by rw[QE];have:=r.2;ext⟩
theorem _root_.L2.Room.toH{k:Nat}{A:br}(r:Room k A):qq k A:=⟨r.dp,r.un⟩
section
variable{X:Cx}{x f:Str}{C N P NP:af}{pos:Pos}
theorem Sb{b:List (af×Obj)}{σ:L2.St}{H:Hp}{s:ae}{Q:VK}{u:ac}{v:V}{O:af}{fd:bU}{ps:List Str}(F:XF X.K x f C N P NP)(hi:nsIn X.K N (ag "__init__")=some (some (.ref O)))(J:∃o,X.K.lookup O=some o/\o.cls=.type "function")
  (G:CN X.prog X.w X.K X.mg X.base 1 O fd ps (vV C f)) (l:ps.length=2) (hr:qq 2 X.A) (hb:Binds X.K fd ps []) (I:Inv X b σ H s) (r:RelV v u)
  (h:∀e g ob,H e=none->(X.ex=[]->X.s₀.heap.get? e=none)->H g=none->g≠e->ob.cls=.ref C->ob.dict=some g->FF ob->Q (.ref e) (gB (eB H e (.ext (kQ e C))) e g f v ob)):
  aD (aK X.prog X.w) X.A (call (.ref C) [u]) (EP X b σ Q) X.xe s:=by
 obtain⟨mN,mP,ch,pl,no,hN,E⟩:=F.ch I.kIn;obtain⟨o,lI,cI⟩:=J;refine NE ch.c (QK ch E (Q3 I.kIn hN hi) (I.kIn _ _ lI) cI (λh' e hz Y=>?_) (show 1<=sizeLine by decide));obtain⟨t,ge,_,_⟩:=Y.there;have U:Inv X b σ (eB H e (.ext (kQ e C))) { s with heap:=h' }:=I.laid (t':=s.toks) Y.keeps hz (show dz X.prog X.w _ h' e (.ext (kQ e C)) from ⟨⟨_,_,ge,rfl,rfl,show 4 < 6 by decide⟩,⟨_,ge⟩,λL l y1 k=>by obtain⟨vs,sl,g1,g2⟩:=y1;exact⟨vs,sl,k _ g1,g2⟩⟩)
 have he:H e=none:=I.hok.fresh hz;have hq:vV C f [.ref e,v] (eB H e (.ext (kQ e C))) (λz H2=>z=.non/\Q (.ref e) H2) E0:=⟨e,v,rfl,iI,λg ob L l h3 h4 h5=>⟨rfl,h e g ob he (λ_=>CY (bv I.sz hz)) (by rw[fR l]at L;exact L) l h3 h4 h5⟩⟩
 have hl:([ax e,u]++[]).length=ps.length:=by rw[l];rfl
 refine io (iB (G _ X.stack _ _ ⟨[.ref e,u],[]⟩ ([.ref e,u]++[]) [.ref e,v] _ E0 (hr.make C [u] []) (U.env0.make C [u] []) (hb _ [.ref e,u] U.kIn hl) (.cons rfl (.cons r .nil)) hq) λr s' c=>?_);cases r with
 |error e=>exact c.elim
 |ok fl=>
  cases fl with
  |ret u2=>
   obtain⟨v2,H',I3,rv,ev,q3⟩:=U.after c;subst ev;exact⟨rv,_,rfl,⟨V.ref e,H',I3,rfl,q3⟩⟩
  |next=>exact bV c
  |brk=>exact bV c
  |cont=>exact bV c
theorem Y0{E:af}{O:bU}{ps:List Str}{e:Expr}{t:TA}{p:Pos}(F:XF X.K x f C N P NP)(hi:nsIn X.K N (ag "__init__")=some (some (.ref E)))(l:∃L,X.K.lookup E=some L/\L.cls=.type "function")
  (G:CN X.prog X.w X.K X.mg X.base 1 E O ps (vV C f)) (h2:ps.length=2) (hr:qq 2 X.A) (hb:Binds X.K O ps []) (hg:Gl X x) (hm:X.mg x=some (.ref C)) (ha:PA X [e] t) (o:(x == ("__debug__":Str))=false)
  (he:av [e] X.env=[(false,eval e X.env)]):PE X (.Call (.Name x p) [e] [] pos) (λσ H Q=>t σ H λJ g=>∃v,J=[v]/\∀e c ob,g e=none->(X.ex=[]->X.s₀.heap.get? e=none)->g c=none->c≠e->ob.cls=.ref C->ob.dict=some c->FF ob->Q (.ref e) (gB (eB g e (.ext (kQ e C))) e c f v ob)):=by
 intro b s σ H Q I h;refine fB (AI I hg hm ?_ o);refine ip (h₀:=X.base) I.ok.mod.kin F.kp (fE (ha pos b s σ H _ I h) λus s1 Y=>?_) he rfl;obtain⟨J,g,U,r,v,ev,q⟩:=Y;refine⟨U.kIn,?_⟩;subst ev;obtain⟨u,rfl,ru⟩:=vY r;exact Sb F hi l G h2 hr hb U ru q
end
section
variable{X:Cx}{cb:CS}{b:Stmt}{Z C N P NP fI:af}{fd:bU}{ps:List Str}{y z v f:Str}{ys:List Str}{j:Nat}{p pv cp p3 pc rp dt pos:Pos}{kk:Nat}
theorem QkX(hcm:X.calm=true)(hst:X.stack=X.env::X.outer)(hfr:X.env.frame=some X.env.locals)(hex:X.ex=[])(hB:TB X b cb)
  (G:∀x∈ys,x≠ag "NoText"/\∃fl C N P NP,XF X.K x fl C N P NP/\(Z=C\/Z=P)) (hgz:Gl X z) (hmz:X.mg z=some (.ref Z)) (hdz:(z == ("__debug__":Str))=false)
  (F:XF X.K y f C N P NP) (ey:y=ag "NoText") (hi:nsIn X.K N (ag "__init__")=some (some (.ref fI))) (hfn:∃oI,X.K.lookup fI=some oI/\oI.cls=.type "function")
  (GI:CN X.prog X.w X.K X.mg X.base 1 fI fd ps (vV C f)) (h2:ps.length=2) (hr:Room 2 X.A) (hb:Binds X.K fd ps []) (hg:Gl X y) (hm:X.mg y=some (.ref C)) (hdb:(y == ("__debug__":Str))=false)
  (hj:X.N[j]?=some v) (hv:xK X.env.scope v) (nk:nu v) (he:av [.Name v pv] X.env=[(false,eval (.Name v pv) X.env)]):
  CZ X (zC X) (.Try [b] [.ExceptHandler (some (.Name z p3)) none [.Raise (some (.Call (.Name y p) [.Name v pv] [] cp)) (some (.Constant .none kk pc)) rp] dt] [] [] pos) (nO cb ys y f j):=by
 intro O s σ H D I pq199;obtain⟨ρ,l,st,lr,sr,q⟩:=pq199;have q0:aQ X.K ρ H (cb l st) (wy X D) (Kv ρ H λd s ρ' H'=>aQ X.K ρ' H' (r6 ys y f j l d s) (wy X D) (zC X)):=by
  change aQ X.K ρ H (nO cb ys y f j l st) (wy X D) (zC X) at q
  unfold nO at q;cases e:cb l st with
  |ok f bB=>rw[e]at q;exact q
  |bad=>rw[e]at q;exact q
  |exc d bB=>
   rw[e]at q;exact λρ1 H1 x1 s1 ρ2 H2 x2=>aQ.left x2 q
 refine GD (cc (hB O s σ H ρ l st D _ I lr sr q0) (λf s1 h=>?_) λev s2 z=>?_)
 ·cases f with
  |next=>exact gR h
  |_=>exact h
 obtain⟨s1,H1,H2,a,σ,I1,rfl,os,bare,un,hok,fl,hE⟩:=z;have I2:Inv X O σ H2 s2:=I1.call' os un hok bare (ch:=[]) (λb z=>bc z (by simp));obtain⟨c,d0,vs0,sl,hH,hv0,hT⟩:=fl.fly;obtain⟨ga,_⟩:=(show dz X.prog X.w H2 s2.heap a (.frz ⟨c,d0,.fields vs0,sl⟩ (.own a)) from I2.hok a _ hH)
 have hfs:X.A.frames=some (X.env::X.outer):=by rw[<- hst];exact I2.ok.frames
 have hstk:s2.heap.FunFrames X.base (X.env::X.outer):=by rw[<- hst];exact I2.stack
 have hsf:∀b∈(X.env::X.outer).filterMap (·.frame),H2 b=none:=by have:=I2.stkFree;rw[hst]at this;exact this
 have un':Un ((X.env::X.outer).filterMap (·.frame)) [] H1 H2 s1.heap s2.heap:=by rw[hst]at un;exact un
 have key:∀Y,mo ((X.env::X.outer).filterMap (·.frame)) a c d0 sl vs0 .none s2.heap Y->∃H4 o4,Inv X O σ H4 { s2 with heap:=Y }/\fL a H2 H4/\Y.get? a=some o4/\o4.cls=c:=λY g4=>by obtain⟨vs',T,ts,c',d',sl',e1,e2,e3,e4,e5,e6,e7⟩:=g4.ex;have un4:=Ql (vs':=vs') un' fl.1 fl.2.1 hH (λT z=>(hT T z).2) g4 (λb o _ hb=>hb);refine⟨_,_,I1.call' (s':={ s2 with heap:=Y }) os (by rw[hst];exact un4) (JH hok hsf hH (λT z=>(hT T z).1) g4 e1) bare (ch:=[]) (λb z=>bc z (by simp)),⟨c,d0,vs0,vs',sl,hH,e7,rfl⟩,e1,rfl⟩
 refine DH hfs hstk hfr ga hv0 λh3 g3=>mo.calm (s:={ s2 with heap:=h3 }) g3 λY g4=>?_;obtain⟨H4,o4,I4,t4,ga4,hc4⟩:=key Y g4;obtain⟨ρ4,d4,st4,lr4,sr4,rep4,p4⟩:=hE H4 t4;have U:∀{ρ':List af}{H':Hp}{d:MM.D}{st':aT}{R:o_->aT->List af->Hp->Prop},aQ X.K ρ' H' (r6 ys y f j l d st') R (zC X)->∃x d1 d2,d=.exn x [d1,d2]/\x∈ys/\aQ X.K ρ' H' (gW y f (am j) l st') R (zC X):=λ{ρ' H' d st' R}z=>by
  unfold r6 at z;split at z
  ·rename_i b d1 d2;by_cases e:b∈ys
   ·rw[aE e]at z;exact⟨b,d1,d2,rfl,e,z⟩
   ·rw[aA e]at z;exact z.elim
  ·exact z.elim
 obtain⟨y4,d41,d42,ed4,hy4,_⟩:=U p4;subst ed4;obtain⟨_,fl4,C4,N4,P4,NP4,G4,hZ⟩:=G y4 hy4;have hcC:c=.ref C4:=by
  obtain⟨c1,d1,J,vs1',L,e1,_,rfl⟩:=t4;rw[hH]at e1;cases e1;cases rep4 with
  |exn g h h2 r=>
   obtain⟨o,ho,hco,_⟩:=h;rw[iI]at ho;cases ho;have:=g.symm.trans G4.gl;injection this with t;injection t with t;rw[<- t];exact hco
 refine AX (yA ?_) (by intro q;cases q);refine AI (X:=lM X a) (Hn I4) hgz hmz ?_ hdz;obtain⟨mN,mP,ch,_⟩:=G4.ch I4.kIn;have hmt:∀{Q:Bool->ae->Prop}{E:ac->ae->Prop},Q true { s2 with heap:=Y }->aD (aK X.prog X.w) (lM X a).A (uR (.ref a) (.ref Z)) Q E { s2 with heap:=Y }:=λ{Q E}hQ=>by
  rcases hZ with z|z
  ·subst z;refine HS ch.c ch.c HU ga4 (hc4.trans hcC) ?_;rw[show (ax Z::ax P4::fJ).contains (.ref Z)=true by simp];exact hQ
  ·subst z;refine HS ch.c ch.p Ps ga4 (hc4.trans hcC) ?_;rw[show (ax C4::ax Z::fJ).contains (.ref Z)=true by simp];exact hQ
 refine hmt ?_;refine codeAny_handlers_suite ?_;refine mo.calm (s:={ s2 with heap:=Y }) g4 λh5 g5=>?_;obtain⟨H5,o5,I5,t5,ga5,hc5⟩:=key h5 g5;obtain⟨ρ5,d5,st5,lr5,sr5,rep5,p5⟩:=hE H5 t5;obtain⟨x5,d51,d52,ed5,hy5,p6⟩:=U p5;subst ed5;have hn5:=(G x5 hy5).1;refine mY ?_;rw[arm_exec_Raise];refine aa (fX ?_)
 show aD _ _ (pH X.env (some (do let v <- eval (.Call (.Name y p) [.Name v pv] [] cp) X.env;pp rp;pure v)) (some (do let v <- eval (.Constant .none kk pc) X.env;pp rp;pure v))) _ _ _;have mk:=Y0 (X:=lM X a) (p:=p) (pos:=cp) F hi hfn GI h2 hr.toH hb hg hm (nJ (EJ j (xF (X:=lM X a) hj hv nk.d nk.c)) qj he) hdb he;have q1:=aQ.no (aQ.bnd p6);refine Zs (C:=C) (N:=N) (g:=a) (bm:=.ref P::fJ) HU rfl (λQ s h=>aa (wpAny_Constant_none (aa (fX (ah h))))) (aa (cc (mk O _ σ H5 (λu H2=>∃e d vs sl c1 d1 J L,u=.ref e/\H2 e=some (.frz ⟨.ref C,d,.fields vs,sl⟩ (.own e))/\vs[1]?=some .none/\4 < vs.size/\a≠e/\H2 a=some (.frz ⟨c1,d1,.fields J,L⟩ (.own a))/\J[2]?=some .none /\
  X.s₀.heap.get? e=none/\(∀o u,X.H₀ e≠some (.frz o u))/\∀vs',qc X (eB H2 e (.frz ⟨.ref C,d,.fields vs',sl⟩ (.own e))) e) (Hn I5) ?_) (λv s1 z=>?_) λ_ _ z=>bV z))
 ·refine⟨ρ5,l,st5,lr5,sr5,q1.imp λd U ρ6 H6 Q s6 p7 v rv=>⟨v,rfl,λe G ob O h0 h2 h3 Y h5 h6=>?_⟩⟩;have k:=PX (f:=f) (v:=v) (ob:=ob) (o:=.ext (kQ e C)) O h2;have ge:gB (eB H6 e (.ext (kQ e C))) e G f v ob e=some (.frz ob (.own e)):=by unfold gB;rw[iI]
  have gd:gB (eB H6 e (.ext (kQ e C))) e G f v ob G=some (.xd [(f,v)]):=by unfold gB;rw[fR h3,iI]
  have nE:H5 e=none:=by
   cases z:H5 e with
   |none=>rfl
   |some o=>exact bc O (Q.trk e o z)
  have I:∃o,H5 a=some o:=by obtain⟨c1,d1,J,vs1',L,e1,e2,rfl⟩:=t5;exact⟨_,iI⟩
  have hae:a≠e:=λz=>by obtain⟨o,q⟩:=I;rw[z,nE]at q;cases q
  have rA:=(rep5.mono Q).mono (Ex.more k);obtain⟨vs,e1,e2,_,e4⟩:=h6;obtain⟨c0,E,dd0,c⟩:=ob;cases Y;cases e1;have nz:∀o u,X.H₀ e≠some (.frz o u):=λo u z=>by have:=I5.base.frzs e o u z;rw[nE]at this;cases this
  have hx:∀vs',qc X (eB (gB (eB H6 e (.ext (kQ e C))) e G f v ⟨.ref C,E,.fields vs,c⟩) e (.frz ⟨.ref C,E,.fields vs',c⟩ (.own e))) e:=λvs'=>by
   have H:∀b u,H6 b=some u->eB (gB (eB H6 e (.ext (kQ e C))) e G f v ⟨.ref C,E,.fields vs,c⟩) e (.frz ⟨.ref C,E,.fields vs',c⟩ (.own e)) b=some u:=λb u q=>by rw[fR (p9 q O)];exact k b u q
   refine (p7 ρ6 _ (Ex.more H) (s6.more H)).2 e (.exn F.gl ⟨_,iI,rfl,h5,vs',rfl,.inl ey⟩ ?_ (rv.mono (Ex.more H)));rw[fR h3];exact gd
  cases rA with
  |exn g h h2 r=>
   obtain⟨o,ho,hc,hd,J,ev,hctx⟩:=h;obtain⟨c1,d1,dd1,L⟩:=o;cases ev;exact⟨e,E,vs,c,c1,d1,J,L,rfl,ge,e2,e4,hae,ho,hctx.resolve_left hn5,h0 hex,nz,hx⟩
 ·obtain⟨Q,H6,c,u,e,d,vs,b,c1,d1,J,L,rfl,ge,h,hsz,hae,H,hctx,h0,hz,hx⟩:=z;obtain rfl:v=ax e:=u;obtain⟨g,E,o,_⟩:=F.ch c.kIn;obtain⟨G,_⟩:=(show dz X.prog X.w H6 s1.heap e (.frz ⟨.ref C,d,.fields vs,b⟩ (.own e)) from c.hok e _ ge)
  obtain⟨l,_⟩:=(show dz X.prog X.w H6 s1.heap a (.frz ⟨c1,d1,.fields J,L⟩ (.own a)) from c.hok a _ H)
  refine aa (fX (ah ⟨e,d,vs,b,g,c1,d1,J,L,rfl,o.c,G,h,hsz,hae,l,hctx,λh' vs' g1 g2 g3=>?_⟩));exact hx vs' O σ { s1 with heap:=h' } a (Uu (Im I.ok c) ge h0 hz g1 g3) ⟨h0,hz,_,_,_,_,iI,.inl g2⟩
end
section
variable{X:Cx}{e:Expr}{es:List Expr}{ca:CA}{fn x:Str}{p p2 ap bd:Pos}{j k n:Nat}{f:af}{fd:bU}{ps:List Str}{g:List D->M D}
theorem R5(F:gO X.prog X.w X.K X.mg X.base (rJ X.prog X.w) k f fd ps (vB X.K n g))(hr:Room k X.A)(hg:Gl X fn)(hm:X.mg fn=some (.ref f))
  (hk:keepIn X.K (.ref f)=true) (hb:Binds X.K fd ps []) (ha:SA X.nox (e::es) ca) (hn:∀l st ds O,ca l st=.ok ds O->ds.length=n) (hdb:(fn == ("__debug__":Str))=false)
  (he:av (e::es) X.env=(false,eval e X.env)::av es X.env) (hpl:(di ap (av es X.env)).any (·.1)=false)
  (hN:X.N.Nodup) (hj:X.N[j]?=some x) (hx:L2.Loc X.env.scope x) (hs:eW (.Call (.Name fn p2) (e::es) [] ap) (some (.Name x p)) bd.line X.env=pure false) (hf:X.fn x=true\/X.env.scope.names.lookup x=some .local):
  TB X (.Assign [.Name x p] (.Call (.Name fn p2) (e::es) [] ap) bd) (bY (aU j) (ba g (kj ca))):=by
 intro G s σ H ρ l st D W I lr sr q;refine mY (Dp ?_ hs);refine fB (AI I hg hm ?_ hdb);have arg:BL X.K ca σ H λY h=>∃ρ1 b ds,LR X.K ρ1 h σ l/\SR X.K ρ1 h b/\ce X.K ρ1 h Y ds/\ds.length=n/\aQ X.K ρ1 h (g ds b) (λr O ρ' H'=>wy X D (.next (l.set j (some r))) O ρ' H') (Kv ρ1 h W):=by
  have c:=aQ.no (aQ.bnd (aQ.bnd q));refine⟨ρ,l,st,lr,sr,?_⟩;cases ec:ca l st with
  |bad=>rw[ec]at c;exact c
  |exc _ _=>rw[ec]at c;exact c
  |ok ds b=>
   rw[ec]at c;exact λρ1 h x1 Q Y rvs=>⟨ρ1,b,ds,lr.mono x1,Q,rvs,hn l st ds b ec,((c ρ1 h x1 Q).imp λd L ρ2 C J s2 p2=>aQ.ret p2 s2).impZ λ_ _ _ _ z ρ' H' y=>z ρ' H' (x1.trans y)⟩
 refine ip (h₀:=X.base) I.ok.mod.kin hk (cc (ha ap G s σ H _ (I.wish _) arg) (λus Q z=>?_) λ_ _ z=>bV z) he hpl;obtain⟨Y,h,I1',rv,ρ1,b,ds,lr1,sr1,rd,hl,c⟩:=z;have I1:Inv X G σ h Q:=I1'.unwish;refine⟨I1.kIn,?_⟩;have sp:vB X.K n g Y h (λv C=>D.nx (σ.set j (some v)) C) (λv _ C=>∀a,v=.ref a->(∀o u,h a≠some (.frz o u))->∀U,fL a C U->∃ρ3 d st3,LR X.K ρ3 U σ l/\SR X.K ρ3 U st3/\dG X.K ρ3 U (.ref a) d/\W d st3 ρ3 U):=by
  refine⟨by rw[rd.length];exact hl,ρ1,b,ds,sr1,rd,?_⟩;cases eg:g ds b with
  |bad=>rw[eg]at c;exact c
  |ok r L=>
   rw[eg]at c;exact λρ2 C J s2 v rv=>c ρ2 C J s2 _ ((lr1.mono J).set j rv)
  |exc d L=>
   rw[eg]at c;intro ρ2 C J s2 a rep a' ea na U t;cases ea;exact⟨ρ2,d,L,lr1.mono (Ex.turn t J na),s2.turn t,rep.turn t,c ρ2 C J s2 ρ2 U (Ex.turn t J na)⟩
 have hlen:(us++[]).length=ps.length:=by rw[bH,<- rv.length];exact F.len _ _ _ _ sp
 refine io (iB (F.run X.A X.stack Q h ⟨us,[]⟩ (us++[]) Y _ _ hr I1.env0 (hb Q us I1.kIn hlen) (by rw[bH];exact rv) sp) λr s3 E=>?_);cases r with
 |ok fl=>
  cases fl with
  |ret u=>
   obtain⟨v,C,I3,ru,nx⟩:=I1.after E;exact EN I3 hN hj hx ru (λs4 I4=>gR ⟨_,C,I4,nx⟩) hf
  |next=>exact bV E
  |brk=>exact bV E
  |cont=>exact bV E
 |error ev=>
  obtain⟨a,C,rfl,os,bare,un,hok,fl,hE⟩:=E;exact⟨Q,h,C,a,σ,I1,rfl,os,bare,un,hok,fl,hE a rfl fl.2.1⟩
end
section
variable{P:Program}{w:bw}{K:Frag}{mg:Str->Option ac}{base:bu}
theorem Yc{x qual:Str}{G:Stmt}{f:af}{fd:bU}{N ps:List Str}{k n m:Nat}{o:CS}(F:tS K x qual G f fd)(S:iG N ps (a_ G))(hn:ps.length=n)(hm:N.length=m)
  (u:∀(g:ac)(A:br)(outer:List Env)(s:ae)(H:Hp)(E:XK),Room k (A.deeper (eU qual (a_ G) s.heap.objs.size f g))->wv (ko (rJ P w) P w K mg base N qual (a_ G) f g A outer s H E) (zC (ko (rJ P w) P w K mg base N qual (a_ G) f g A outer s H E)) (dk G) o):
  gO P w K mg base (rJ P w) (k+1) f fd ps (vB K n (bW m o)):=by
 subst hn hm;obtain⟨oc,od,kV,doc,pm,an,g,ct,osl,rfl,lk,hcd⟩:=F.ex;refine IY lk hcd S (λvs H Q E h=>h.1) λA outer s H vs Q E hr h=>⟨_,u g A outer s H E hr,?_⟩
 obtain⟨hl,ρ,st,ds,sr,U,p⟩:=h;refine⟨ρ,_,st,LR.start U,sr,?_⟩;unfold bW at p;have q:=aQ.bnd p;cases eb:o (ds.map some++db (N.length-ds.length) none) st with
 |bad=>rw[eb]at q;exact q
 |ok f bB=>
  rw[eb]at q;intro ρ1 H1 x1 s1;have O:=q ρ1 H1 x1 s1;cases f with
  |next l=>exact λσ' _=>aQ.ret O s1 _ .non
  |ret d=>exact λv rv=>aQ.ret O s1 v rv
  |brk l=>exact O.elim
  |cnt l=>exact O.elim
 |exc d bB=>
  rw[eb]at q;intro ρ1 H1 x1 s1;refine⟨⟨λb σ s' a I c fl=>Wy I fl λL t=>q ρ1 L (Ex.turn t x1 fl.2.1) (s1.turn t) a (c.turn t),λa c b σ s' C m use Q acc J Y I fl=>?_⟩,λa c b σ s' g0 I fl=>?_⟩
  ·exact R8 (λL t=>q ρ1 L (Ex.turn t x1 fl.2.1) (s1.turn t) a (c.turn t)) b σ s' C m use Q acc J Y I fl
  ·exact Xv (λL t=>q ρ1 L (Ex.turn t x1 fl.2.1) (s1.turn t) a (c.turn t)) b σ s' g0 I fl
end
theorem Good.nx{X:Cx}{c:RC}(g:Good X c):Good X.nox c:=
 ⟨⟨g.S.vis,g.S.cel,g.S.glo,g.S.loc,g.S.calm⟩,g.N,g.nd,g.hr,λx r z=>⟨(g.G x r z).ex⟩,g.Z,g.C,lQ,g.kd,g.W,g.T⟩
section
variable{P:Program}{w:bw}{K:Frag}{mg:Str->Option ac}{base:bu}
structure Ht(P:Program)(w:bw)(K:Frag)(mg:Str->Option ac)(base:bu)(y f:Str):Prop where
 ex:∃C N PA NP fI fd ps,XF K y f C N PA NP/\mg y=some (.ref C)/\nsIn K N (ag "__init__")=some (some (.ref fI))/\(∃oI,K.lookup fI=some oI/\oI.cls=.type "function")/\CN P w K mg base 1 fI fd ps (vV C f)/\ps.length=2/\Binds K fd ps []
theorem VX{y f qual n1 n2:Str}{c:Stmt}{L J I H:Pos}(T:XT K mg y f qual c)(O:cW (.type "ValueError") f=pure none)(S:qT [n1,n2] [n1,n2] (a_ c)=true)(U:dk c=[.Assign [.Attribute (.Name n1 L) f J] (.Name n2 I) H])
  (v1:(a_ c).names.lookup n1=some .local) (v2:(a_ c).names.lookup n2=some .local) (v:j_ n1=true) (u:j_ n2=true)
  (b:∀(kV l G:ac)(an:Option af)(o ct:ac)(g:List ac),g.length=[n1,n2].length->lX (fnOf "__init__" qual (e9 c) (dk c) (a_ c) .none kV l G an o ct) { pos:=g }=pure ([n1,n2].zip g)):Ht P w K mg base y f:=by
 obtain⟨C,N,PA,NP,fI,Y,F,m,Q,h,E⟩:=T;exact⟨⟨C,N,PA,NP,fI,Y,[n1,n2],F,m,Q,h,Wm F O E (F8 S) U (.inl v1) (.inl v2) (oB v).d (oB u).d (oB v).c (oB u).c,rfl,E.binds b⟩⟩
end
def Xk{β:Type}(h:ExceptHandler)(k:∀z p g c q,h=.ExceptHandler (some (.Name z p)) none (g::c) q->Option β):Option β:=match h,k with
 | .ExceptHandler t n b q,k=>oS t λt v=>sF t λz p u=>oN n λo=>vC b λg c l=>k z p g c q (l ▸ o ▸ u ▸ v ▸ rfl)
section
variable(E:List (Str×RF))(y fl z zf:Str)
structure Nm(X:Cx)(E:List (Str×RF))(y fl z zf:Str):Prop where
 o:qx X E y fl
 st:X.stack=X.env::X.outer
 fr:X.env.frame=some X.env.locals
 RH:y=ag "NoText"->Ht X.prog X.w X.K X.mg X.base y fl
 RZ:z≠ag "NoText"->XR X.prog X.w X.K X.mg X.base z zf
abbrev Ez(c:RC)(s:Stmt):={r:CS // ∀{X:Cx},Good X c->Nm X E y fl z zf->CZ X (zC X) s r}
abbrev Ek(c:RC)(s:List Stmt):={r:CS // ∀{X:Cx},Good X c->Nm X E y fl z zf->wv X (zC X) s r}
def IK(q:lC)(c:RC)(s:Stmt):Option (Ez E y fl z zf c s):=Nw s λb hs r1 r2 _ h=>v1 b λb h1=>v1 hs λhd Q=>v0 r1 λh3=>v0 r2 λh4=>Xk hd λz' _ b0 ss _ h5=>v0 ss λh6=>
 KQ b0 λa Y _ e=>oS a λa e1=>oS Y λY e2=>Op Y λkv _ _ e3=>CV a λx _ u _ e4=>sF u λv _ e5=>(Bb c v).bind λj=>
 wh (kv=.none/\x=y/\y=ag "NoText"/\z'=z/\z≠ag "NoText"/\c.glo y=true/\j_ y=true/\c.glo z=true/\j_ z=true/\2<=c.k) λw=>
 yU b λt e _ h7=>sF t λx _ h8=>zW e λfn _ as _ h9=>vC as λa G U=>(Az E fn).bind λr=>(Ar c x).bind λi=>wh (c.glo fn=true/\j_ fn=true/\r.1.k<=c.k/\r.1.n=(a::G).length) λw'=>(sZ q c (a::G)).bind λca=>
 some ⟨nO (bY (aU i.1) (ba r.1.g (kj ca.1))) [z] y fl j.1,λ{X}g o=>by
  subst U h9 h8 h7 e5 e4 e3 e2 e1 e h6 h5 h4 h3 Q h1 h;obtain⟨rfl,rfl,w3,rfl,w5,w6,w7,w8,w9,I⟩:=w;obtain⟨v1,v2,v3,v4⟩:=w';obtain⟨f,fd,m,F,kp,B⟩:=(o.o.E _ _ r.2).ex;obtain⟨xa,H,la⟩:=ca.2;rw[bG,aO]at H;obtain⟨i1,k,i2,i3⟩:=AB g i.2;obtain⟨J,l,u3⟩:=j.2;have J:X.N[j.1]?=some v:=by rw[g.N];exact J
  have vis:xK X.env.scope v:=by
   rcases l with l|l|l
   ·exact g.S.vis _ _ l (.inl rfl)
   ·exact g.S.vis _ _ l (.inr (.inl rfl))
   ·exact g.S.vis _ _ l (.inr (.inr rfl))
  obtain⟨ZC,ZN,ZP,ZNP,_,_,_,ZF,Zm,_⟩:=(o.RZ w5).ex;obtain⟨C,N,PA,NP,fI,fdI,psI,FX,mX,hi,O,GI,Q,BI⟩:=(o.RH w3).ex;refine QkX g.S.calm o.st o.fr o.o.ex ?_ (λx hx=>by rw[aC]at hx;subst hx;exact⟨w5,_,_,_,_,_,ZF,.inl rfl⟩) (g.S.glo _ (beq_iff_eq.mp w8)) Zm (oB w9).d FX w3 hi O GI Q (g.hr.mono I) BI (g.S.glo _ (beq_iff_eq.mp w6)) mX (oB w7).d J vis (oB u3) (nQ rfl);exact R5 F (g.hr.mono v3) (g.S.glo _ (beq_iff_eq.mp v1)) m kp B (xa g.nx) (λl' st ds L z=>by rw[v4,la l' st ds L z]) (oB v2).d (nQ H.1) (Av H.2) g.nd i1 (g.S.loc _ _ i2 i3).1 (xU rfl) (g.S.loc _ _ i2 i3).2⟩
theorem Pf{X:Cx}{e:Expr}{r:CE}(h:Db X (AJ X) e r):Db X (zC X) e r:=h.of λσ H Q b=>by obtain⟨ρ,l,st,g,c,p⟩:=b;exact⟨ρ,l,st,g,c,p.impZ λ_ _ _ _ w=>w.1.2⟩
def LY(q:lC)(c:RC)(s:Stmt): Option (Ez E y fl z zf c s):=
  xOr (Ck s λo _ e=>oS o λa b=>(DQ E y fl q c a).bind λf=>some ⟨cH f.1,λg h=>by subst b e;exact Wc (Pf (f.2.1 g h.o))⟩) <|
  xOr (yU s λt a _ e=>sF t λx _ b=>(DQ E y fl q c a).bind λf=>(Ar c x).bind λi=>some ⟨bY (aU i.1) f.1,λg h=>by subst b e;obtain⟨v,k,u,l⟩:=AB g i.2;exact Z2 g.nd v (g.S.loc _ _ u l).1 (Pf (f.2.1 g h.o)) (xU f.2.2) (g.S.loc _ _ u l).2⟩) <|
  xOr (IK E y fl z zf q c s) <|
  (Pp E y fl q c 20 s).map λf=>⟨f.1,λg h=>R4 (f.2 g h.o) λ_ _ _ _ w=>w.1.1⟩
def FH(q:lC)(c:RC):∀l:List Stmt,Option (Ek E y fl z zf c l)
 |[]=>some ⟨aH,λ_ _=>VB Qn λ_ _ _ _ w=>w.1.1⟩
 |s::l=>(LY E y fl z zf q c s).bind λa=>(FH q c l).bind λb=>some ⟨aF a.1 b.1,λg h=>Vw (a.2 g h) (b.2 g h)⟩
end
section
variable{P:Program}{w:bw}{K:Frag}{mg:Str->Option ac}{base:bu}
variable{x y fl z zf:Str}{sd:Stmt}{k n:Nat}{g:List D->M D}{G E:List (Str×RF)}{Z:List Str}{C:List (Str×D)}
theorem yE(R : nW)(H : List (Nat×Nat×Nat))(n : Nat)(F : FnAt K mg x sd)(hh : iV P w K mg base E /\ cq P w K mg base G)(hR : XR P w K mg base y fl)(hH : y = ag "NoText" -> Ht P w K mg base y fl)(hz : z ≠ ag "NoText" -> XR P w K mg base z zf)(hZ : xV mg Z)(hC : uU K mg C)(hb : (FH E y fl z zf (oU R 40) ⟨a_ sd, sC sd, k, G, Z, C, H, true, ([], []), none⟩ (dk sd)).map (λv => bW (sC sd).length v.1) = some g := by kernel_rfl)
  (S:qT (sC sd) (rQ sd) (a_ sd)=true:=by kernel_rfl) (L:(rQ sd).length=n:=by kernel_rfl)
  (b:∀(kV h u:ac)(I:Option af)(c ct:ac)(l:List ac),l.length=n->lX (fnOf x x (e9 sd) (dk sd) (a_ sd) .none kV h u I c ct) { pos:=l }=pure ((rQ sd).zip l):=by and_intros):
  iV P w K mg base (qE x sd n k g E)/\cq P w K mg base (qE x sd n k g G):=by
 obtain⟨Q,O⟩:=hh;obtain⟨v,hv,rfl⟩:=dY.mp hb;obtain⟨f,fd,F,o⟩:=F;have bs:=F.binds (ps:=rQ sd) λkV h u I c ct l Y=>b kV h u I c ct l (Y.trans L);have J:=F8 S;have ok:gO P w K mg base (rJ P w) (k+1) f fd (rQ sd) (vB K n (bW (sC sd).length v.1)):=Yc F J L rfl λc A outer s Hp Ex U=>v.2 ⟨Sy,rfl,J.nd,U,O,hZ,hC,pq.leaving,λ_=>⟨by show (if (a_ sd).kind.isAnnotationScope=true then _ else (a_ sd).kind)=_;rw[J.kind];rfl,λ_=>rfl⟩,⟨(λ_ _ z=>(by cases z)),(λ_ _ z=>(by cases z))⟩,λ_ z=>(by cases z)⟩ ⟨⟨Q,rfl,hR⟩,rfl,rfl,hH,hz⟩;exact⟨T2 o ok F.kp bs Q,GO o (V8 ok) F.kp bs (λz=>(by cases z)) O⟩
end
end MM
namespace MM
inductive gi{α:Type}(m:M α)(Q:α->aT->Prop)(W:D->aT->Prop)(s:At Q):Prop
 |ok (a:α) (s':aT) (h:m s=.ok a s') (q:Q a s'):gi m Q W s
 |exc (d:D) (s':aT) (h:m s=.exc d s') (q:W d s'):gi m Q W s
section
variable{α β:Type}{m:M α}{Q:α->aT->Prop}{W:D->aT->Prop}{s:aT}
theorem Uz(h:gi m Q (λ_ _=>False) s):wp m Q s:=by
 rcases h with ⟨a,s',e,q⟩|⟨_,_,_,q⟩
 ·exact⟨a,s',e,q⟩
 ·exact q.elim
theorem uY(h:wp m Q s):gi (nj m) Q W s:=by obtain⟨a,s',e,q⟩:=h;exact .ok a s' (by unfold nj;rw[e]) q
theorem nI{f:α->M β}{R:β->aT->Prop}(h:gi m (λa s'=>gi (f a) R W s') W s):gi (bnd m f) R W s:=by
 rcases h with ⟨a,s',e,q⟩|⟨d,s',e,q⟩
 ·rcases q with ⟨b,s2,c,q⟩|⟨d,s2,c,q⟩
  ·exact .ok b s2 (by unfold bnd;rw[e];exact c) q
  ·exact .exc d s2 (by unfold bnd;rw[e];exact c) q
 ·exact .exc d s' (by unfold bnd;rw[e]) q
theorem pJ{R:α->aT->Prop}{V:D->aT->Prop}(h:gi m Q W s)(c:∀a s',Q a s'->R a s')(b:∀d s',W d s'->V d s'):gi m R V s:=by
 rcases h with ⟨a,s',e,q⟩|⟨d,s',e,q⟩
 ·exact .ok a s' e (c a s' q)
 ·exact .exc d s' e (b d s' q)
theorem vj{a:α}(h:Q a s):gi (ret a) Q W s:=.ok a s rfl h
theorem SJ{d:D}{Q:o_->aT->Prop}(h:W d s):gi (wd d) Q W s:=.exc d s rfl h
end
section
variable{Q:o_->aT->Prop}{W:D->aT->Prop}{s:aT}{l:Loc}{a b:CS}
theorem kK (h:gi (a l) (λf s'=>match f with
  | .next l'=>gi (b l') Q W s'
  |f=>Q f s') W s):gi (aF a b l) Q W s:=nI (pJ h (λf s' q=>by cases f<;>first|exact q|exact vj q) λ_ _ q=>q)
theorem uE(h:Q (.next l) s):gi (aH l) Q W s:=vj h
theorem tW{c:CS}(h:wp (c l) Q s):gi (rR c l) Q W s:=uY h
theorem Au{t:CT}(h:wp (t l) (λk s'=>if k=true then gi (a l) Q W s' else gi (b l) Q W s') s):gi (ik (o9 t) a b l) Q W s:=
 nI (pJ (uY h) (λk s' q=>by cases k<;>exact q) λ_ _ q=>q)
theorem BA{y f:kN}{e:CE}(h:wp (e l) (λd s'=>W (.exn y [.str f,d]) s') s):gi (gW y f e l) Q W s:=
 nI (pJ (uY h) (λd s' q=>SJ q) λ_ _ q=>q)
theorem ul{g:List D->M D}{c:CA}{R:D->aT->Prop}(h:wp (c l) (λds s'=>gi (g ds) R W s') s):gi (ba g (kj c) l) R W s:=
 nI (uY h)
theorem Hr{e:CE}(h:gi (e l) (λ_ s'=>Q (.next l) s') W s):gi (iS e l) Q W s:=nI (pJ h (λ_ s' q=>vj q) λ_ _ q=>q)
theorem QP{i:CI}{g:CG}(h:wp (i l) (λw s'=>gi (kD (qQ g) b w.same w.ds l) Q W s') s):gi (mF (wS i) (qQ g) b l) Q W s:=nI (uY h)
theorem Ol{g:CG}{same:aT->Prop}{xs:List D}(J:Nat->Loc->aT->Prop)(hs:∀i l s,J i l s->same s)
  (o:∀(i:Nat)d l s,xs[i]?=some d->J i l s->wp (g d l) (λC s2=>gi (b C) (λf c=>match f with
   | .next l2=>J (i+1) l2 c
   | .cnt l2=>J (i+1) l2 c
   | .brk l2=>Q (.next l2) c
   | .ret d=>Q (.ret d) c) W s2) s) (u:∀l s,J xs.length l s->Q (.next l) s) (G:J 0 l s):gi (kD (qQ g) b same xs l) Q W s:=by
 have chk:∀{s:aT}{R:Unit->aT->Prop},same s->R () s->gi (chkS same) R W s:=λh r=>.ok () _ (by unfold chkS;rw[aE h]) r;have key:∀(n i:Nat)l s,i+n=xs.length->J i l s->gi (kD (qQ g) b same (xs.drop i) l) Q W s:=by
  intro n
  induction n with
  |zero=>
   intro i l s e j;have e:i=xs.length:=by ext
   subst e;rw[e_];unfold kD;exact nI (chk (hs _ _ _ j) (vj (u l s j)))
  |succ n ih=>
   intro i l s e j;have E:i < xs.length:=by ext
   rw[bR E];unfold kD;refine nI (chk (hs _ _ _ j) (nI (pJ (uY (o i _ l s (ar E) j)) (λC s2 q=>nI (pJ q (λf c v=>?_) λ_ _ q=>q)) λ_ _ q=>q)));cases f with
   |next l2=>exact ih (i+1) l2 c (by ext) v
   |cnt l2=>exact ih (i+1) l2 c (by ext) v
   |brk l2=>exact vj v
   |ret d=>exact vj v
 have:=key xs.length 0 l s (by ext) G;rw[fU]at this;exact this
theorem xG{n:Nat}{c:CS}{ds:List D}{R:D->aT->Prop} (h:gi (c (ds.map some++db (n-ds.length) none)) (λf s'=>match f with
  | .ret d=>R d s'
  | .next _=>R .non s'
  |_=>False) W s):gi (bW n c ds) R W s:=nI (pJ h (λf s' q=>by cases f<;>first|exact vj q|exact q.elim) λ_ _ q=>q)
end
section
variable{t:CT}{b:CS}{Q:o_->aT->Prop}{V:D->aT->Prop}{l:Loc}{s:aT}
theorem Rp{g:CG}{same:aT->Prop}{xs:List D}(J:Nat->Loc->aT->Prop)(hs:∀i l s,J i l s->same s)
  (c:∀(R:o_->aT->Prop)(i:Nat)d l s,(∀{u o},J (i+1) u o->R (.next u) o)->xs[i]?=some d->J i l s->wp (g d l) (λv s2=>gi (b v) R V s2) s) (h:∀l s,J xs.length l s->Q (.next l) s) (C:J 0 l s):gi (kD (qQ g) b same xs l) Q V s:=
 Ol J hs (λi d l s hd w=>c _ i d l s (λz=>z) hd w) h C
theorem zO{g:List D->M D}{C:CA}{ys:List kN}{i:Nat}{o:CS} (h:wp (C l) (λds E=>gi (g ds) (λd s2=>Q (.next l) s2) (λd s2=>∃y u,d=.exn y u/\y∈ys/\wp (o (l.set i (some (.exn y u)))) (λf c=>match f with
  | .next l'=>Q (.next (l'.set i none)) c
  | .ret d=>Q (.ret d) c
  |_=>False) s2) E) s):wp (iH (iS (ba g (kj C))) ys i o l) Q s:=by
 obtain⟨ds,E,H,h⟩:=h;rcases h with ⟨d,s2,v,q⟩|⟨d,s2,v,y,u,rfl,I,q⟩
 ·refine⟨_,s2,?_,q⟩;unfold iH iS ba kj nj bnd;dsimp only;rw[H];dsimp only;rw[v];rfl
 ·obtain⟨f,c,G,q⟩:=q;have e : iH (iS (ba g (kj C))) ys i o l s = bnd (nj (o (l.set i (some (.exn y u))))) (λf => match f with
    | .next l'=>ret (.next (l'.set i none))
    | .ret d=>ret (.ret d)
    |_=>bad) s2:=by
   unfold iH iS ba kj nj;unfold bnd;dsimp only;rw[H];dsimp only;rw[v];dsimp only;rw[aE I]
   try rfl
  cases f with
  |next l'=>exact⟨_,c,by rw[e];unfold bnd nj;rw[G];rfl,q⟩
  |ret d=>exact⟨_,c,by rw[e];unfold bnd nj;rw[G];rfl,q⟩
  |brk l'=>exact q.elim
  |cnt l'=>exact q.elim
end
theorem SM{g:CG}{b:CS}{same:aT->Prop}{xs:List D}{l:Loc}{s:aT}{Q:o_->aT->Prop}(W:Nat->Loc->aT->Prop)(hs:∀i l s,W i l s->same s)(C:W 0 l s)
  (c:∀(R:o_->aT->Prop)(i:Nat)d l s,(∀{u h},W (i+1) u h->R (.next u) h)->(∀{d h},Q (.ret d) h->R (.ret d) h)->xs[i]?=some d->W i l s->wp (g d l) (λv s2=>wp (b v) R s2) s) (o:∀l s,W xs.length l s->Q (.next l) s):wp (kD g b same xs l) Q s:=
 Ao W hs C (λi d l s hd w=>c _ i d l s (λz=>z) (λz=>z) hd w) o
section
variable{W:D->aT->Prop}{s:aT}{l:Loc}
theorem Qy{α:Type}{c:Prop}[Decidable c]{m:M α}{Q:α->aT->Prop}(h:c)(k:gi m Q W s):gi (chk c m) Q W s:=by unfold chk;rw[aE h];exact k
theorem N7{e:CE}{xs:List D}{same:aT->Prop}{caps:Loc}{Q:List D->aT->Prop}(J:Nat->List D->aT->Prop)(hs:∀i b s,J i b s->same s)(v:J 0 [] s)
  (c:∀(i:Nat)d b s,xs[i]?=some d->J i b s->gi (e (some d::caps)) (λx s'=>J (i+1) (b++[x]) s') W s) (g:∀b s,J xs.length b s->Q b s):
  gi (collect (qQ (aU 0)) (o9 cD) e same xs (none::caps)) Q W s:=by
 have chk:∀{s:aT}{R:Unit->aT->Prop},same s->R () s->gi (chkS same) R W s:=λh r=>.ok () _ (by unfold chkS;rw[aE h]) r;have key:∀(n i:Nat)b s o,i+n=xs.length->J i b s->gi (collect (qQ (aU 0)) (o9 cD) e same (xs.drop i) (o::caps)) (λys s'=>Q (b++ys) s') W s:=by
  intro n
  induction n with
  |zero=>
   intro i b s o e j;have e:i=xs.length:=by ext
   subst e;rw[e_];unfold collect;exact nI (chk (hs _ _ _ j) (vj (by rw[bH];exact g b s j)))
  |succ n ih=>
   intro i b s o E j;have u:i < xs.length:=by ext
   rw[bR u];unfold collect;refine nI (chk (hs _ _ _ j) ?_);refine nI (.ok (some xs[i]::caps) s rfl ?_);refine nI (.ok true s rfl ?_);rw[aE rfl];refine nI (pJ (c i _ b s (ar u) j) (λx s2 q=>?_) λ_ _ q=>q);refine nI (pJ (ih (i+1) _ s2 _ (by ext) q) (λys C q=>vj ?_) λ_ _ q=>q);rw[cL]at q;exact q
 have:=key xs.length 0 [] s none (by ext) v;rw[fU]at this;exact pJ this (λys s' q=>by rw[List.nil_append]at q;exact q) λ_ _ q=>q
theorem NW{i:CI}{e:CE}{caps:List Nat}{Q:D->aT->Prop}(h:wp (i l) (λw b=>w.ds.length<=eK/\gi (collect (qQ (aU 0)) (o9 cD) e w.same w.ds (gL 1 caps l)) (λds s2=>Q (.tup ds) s2) W b) s):
  gi (im (Fk lF) (dR 1 caps (wS i) (qQ (aU 0)) (o9 cD) e) l) Q W s:=
 nI (nI (pJ (uY h) (λw b q=>Qy q.1 (pJ q.2 (λds s2 q=>uY (by show wp (ret _) _ _;rw[cO];exact q)) λ_ _ q=>q)) λ_ _ q=>q))
theorem mO{Q:o_->aT->Prop}{i:Nat}{e:CE}(h:gi (e l) (λd s'=>Q (.next (l.set i (some d))) s') W s):gi (bY (aU i) e l) Q W s:=nI (pJ h (λd s' q=>nI (.ok _ s' rfl (vj q))) λ_ _ q=>q)
theorem Hq{Q:o_->aT->Prop}{e:CE}(h:gi (e l) (λd s'=>Q (.ret d) s') W s):gi (cH e l) Q W s:=nI (pJ h (λd s' q=>vj q) λ_ _ q=>q)
end
end MM
namespace My
open PySem MM
def yv:CS:=(aF (cH (c2 bQ (ay (.int 1)) (im rX (dR 1 [1] (lx (am 0)) (aU 0) cD (c2 bz (c2 bz (am 0) (am 1)) (ay (.int 1))))))) aH)
@[irreducible] def jL:List D->M D:=bW 2 yv
def jZ:CS:=(aF (ik (cC (c2 Cp (c1 dL (am 1)) (c1 dL (c2 bz (am 0) (ay (.int 0)))))) (aF (cH (ay (.bl false))) aH) aH) (aF (cH (im oJ (dR 2 [0] (lx (am 1)) (fS 2 (cm (aU 0) (cm (aU 1) gf))) cD (qV (ii tm vW (ay (.int 0)) (am 0) (c1 dL (am 2))) (c2 Dg (am 1) (ay (.int 0))))))) aH))
@[irreducible] def jj:List D->M D:=bW 2 jZ
def jV:CS:=(aF (cH (bZ (dR 1 [0] (MM.iy (c1 dL (c2 bz (am 0) (ay (.int 0))))) (aU 0) cD (ba jL (ak (am 1) (ak (am 0) aY)))))) aH)
@[irreducible] def jf:List D->M D:=bW 1 jV
def yn:CS:=(aF (cH (im oJ (dR 1 [1] (lx (am 0)) (aU 0) cD (ii tm vW (ay (.int 0)) (am 0) (c1 dL (am 1)))))) aH)
@[irreducible] def jq:List D->M D:=bW 2 yn
def yi:CS:=(aF (ik (cC (c2 lE (c2 bz (am 2) (ay (.int 0))) (ay (.str "settle")))) (aF (cH (c2 C7 (c2 bz (am 2) (ay (.int 1))) (d8 (ak (ay (.int 0)) (ak (ay (.int 1)) aY))))) aH) aH) (aF (bY (aU 3) (c2 bz (am 2) (ay (.int 1)))) (aF (bY (aU 4) (c2 bz (am 2) (ay (.int 2)))) (aF (bY (aU 5) (c2 bz (am 2) (ay (.int 3)))) (aF (ik (n9 (gz (cC (ii tm vW (ay (.int 0)) (am 3) (c1 dL (am 0))))) (gz (cC (ii tm vW (ay (.int 0)) (am 4) (c1 dL (c2 bz (am 0) (am 3))))))) (aF (cH (ay (.bl false))) aH) aH) (aF (cH (qV (c2 lE (c1 dL (am 5)) (c2 bz (c2 bz (am 0) (am 3)) (am 4))) (ba jq (ak (am 5) (ak (am 1) aY))))) aH))))))
@[irreducible] def jK:List D->M D:=bW 6 yi
def j9:CS:=(aF (ik (gz (cC (ii tm tm (ay (.int 1)) (c1 dL (am 0)) (ay (.int 3))))) (aF (cH (ay .non)) aH) aH) (aF (ik (gz (kP (im oJ (dR 1 [] (wm (am 0)) (aU 0) cD (c2 wA (am 0) (ay (.str "0123456789"))))))) (aF (cH (ay .non)) aH) aH) (aF (ik (mE (cC (c2 lE (c2 bz (am 0) (ay (.int 0))) (ay (.str "0")))) (cC (c2 wz (c1 dL (am 0)) (ay (.int 1))))) (aF (cH (ay .non)) aH) aH) (aF (cH (c1 pd (am 0))) aH))))
@[irreducible] def je:List D->M D:=bW 1 j9
def jY:CS:=(aF (rR (bY (aU 2) (im lF (dR 1 [] (lx (am 1)) (aU 0) cD (ba je (ak (am 0) aY)))))) (aF (ik (o9 (cC (c2 C7 (ay .non) (am 2)))) (aF (gW "NoText" "row" (am 0)) aH) aH) (aF (rR (cH (am 2))) aH)))
@[irreducible] def jc:List D->M D:=bW 3 jY
def yq:CS:=(aF (bY (pb (am 0) (ay (.int 2))) (c2 bQ (c2 bz (am 0) (ay (.int 2))) (ay (.int 1)))) (aF (ik (cC (c2 wz (c2 bz (am 0) (ay (.int 1))) (ay (.int 0)))) (aF (bY (aU 2) (c2 lL (c2 bz (am 0) (ay (.int 1))) (am 1))) (aF (bY (pb (am 0) (ay (.int 1))) (c2 rL (c2 bz (am 0) (ay (.int 1))) (am 1))) (aF (cH (am 2)) aH))) aH) (aF (bY (aU 3) (ay (.int 7))) (aF (ik (cC (c2 vW (c2 bz (am 0) (ay (.int 3))) (c1 dL (c2 bz (am 0) (ay (.int 0)))))) (aF (bY (aU 3) (c2 bz (c2 bz (am 0) (ay (.int 0))) (c2 bz (am 0) (ay (.int 3))))) (aF (bY (pb (am 0) (ay (.int 3))) (c2 bQ (c2 bz (am 0) (ay (.int 3))) (ay (.int 1)))) (aF (ik (cC (c2 Dg (am 3) (c2 wL (ay (.int 10)) (ay (.int 18))))) (aF (bY (pb (am 0) (ay (.int 1))) (c2 rL (am 3) (am 1))) (aF (cH (c2 lL (am 3) (am 1))) aH)) aH) aH))) (aF (ik (cC (c2 wz (c1 dL (c2 bz (am 0) (ay (.int 0)))) (ay (.int 0)))) (aF (bY (aU 3) (c2 bz (c2 bz (am 0) (ay (.int 0))) (c2 lL (c2 bz (am 0) (ay (.int 2))) (c1 dL (c2 bz (am 0) (ay (.int 0))))))) aH) aH) aH)) (aF (bY (aU 4) (c2 lL (c2 bQ (c2 bQ (c2 mT (am 3) (ay (.int 48271))) (c2 mT (ay (.int 7919)) (c2 bz (am 0) (ay (.int 2))))) (ay (.int 5))) (ay (.int 2147483647)))) (aF (bY (aU 4) (c2 lL (c2 bQ (c2 mT (am 4) (am 4)) (c2 mT (ay (.int 104729)) (c2 bz (am 0) (ay (.int 2))))) (ay (.int 2147483629)))) (aF (bY (aU 4) (c2 lL (c2 bQ (c2 mT (am 4) (ay (.int 69621))) (ay (.int 16807))) (ay (.int 2147483587)))) (aF (cH (c2 lL (c2 lL (c2 mT (am 4) (am 4)) (ay (.int 2147483579))) (am 1))) aH))))))))
@[irreducible] def ja:List D->M D:=bW 5 yq
def jW:CS:=(aF (bY (aU 1) (c2 bQ (ay (.int 1)) (ba ja (ak (am 0) (ak (ay (.int 4)) aY))))) (aF (bY (aU 2) (c2 bQ (ay (.int 1)) (ba ja (ak (am 0) (ak (ay (.int 4)) aY))))) (aF (bY (aU 3) (c2 bQ (ay (.int 1)) (ba ja (ak (am 0) (ak (ay (.int 4)) aY))))) (aF (cH (im lF (dR 1 [0,1,2,3] (MM.iy (am 1)) (aU 0) cD (im lF (dR 1 [1,2,4] (MM.iy (am 3)) (aU 0) cD (d8 (ak (ba ja (ak (am 1) (ak (am 2) aY))) (ak (ba ja (ak (am 1) (ak (am 3) aY))) aY)))))))) aH))))
@[irreducible] def jB:List D->M D:=bW 4 jW
def yo:CS:=(aF (bY (aU 1) (c2 bQ (ay (.int 1)) (ba ja (ak (am 0) (ak (ay (.int 3)) aY))))) (aF (bY (aU 2) (ba ja (ak (am 0) (ak (ay (.int 6)) aY)))) (aF (ik (cC (c2 lE (am 2) (ay (.int 0)))) (aF (bY (aU 3) (bZ (dE (ak (im lF (dR 1 [] (MM.om (ay (.int 1)) (c2 bQ (am 1) (ay (.int 1)))) (aU 0) cD (d8 (ak (am 0) (ak (am 0) aY))))) aY)))) (aF (cH (c1 tupleD (c2 bQ (am 3) (bZ (dR 1 [1] (MM.om (ay (.int 1)) (c2 bQ (am 1) (ay (.int 1)))) (aU 0) cD (im lF (dR 1 [0] (MM.iy (am 1)) (aU 0) cD (d8 (ak (am 1) (ak (am 1) aY)))))))))) aH)) aH) (aF (ik (cC (c2 lE (am 2) (ay (.int 1)))) (aF (cH (im lF (dR 1 [1] (MM.iy (am 1)) (aU 0) cD (c1 tupleD (c2 bQ (bZ (dE (ak (d8 (ak (am 0) (ak (am 0) aY))) aY))) (bZ (dR 1 [] (MM.iy (am 1)) (aU 0) cD (d8 (ak (am 0) (ak (ay (.int 0)) aY)))))))))) aH) aH) (aF (ik (cC (c2 lE (am 2) (ay (.int 2)))) (aF (cH (im lF (dR 1 [1] (MM.iy (c2 bQ (am 1) (ay (.int 1)))) (aU 0) cD (im lF (dR 1 [0] (MM.iy (c2 bQ (am 1) (ay (.int 1)))) (aU 0) cD (d8 (ak (am 0) (ak (am 1) aY)))))))) aH) aH) (aF (ik (cC (c2 lE (am 2) (ay (.int 3)))) (aF (cH (im lF (dR 1 [1] (MM.iy (c2 bQ (am 1) (ay (.int 1)))) (aU 0) cD (d8 (ak (d8 (ak (c2 lL (c2 bQ (am 0) (ay (.int 1))) (c2 bQ (am 1) (ay (.int 1)))) (ak (am 0) aY))) aY))))) aH) aH) (aF (cH (ba jB (ak (am 0) aY))) aH)))))))
@[irreducible] def jP:List D->M D:=bW 4 yo
def yt:CS:=(aF (ik (n9 (cC (c2 lE (c1 dL (am 1)) (ay (.int 0)))) (cC (c2 lE (ba ja (ak (am 0) (ak (ay (.int 4)) aY))) (ay (.int 0))))) (aF (cH (d8 (ak (ay (.str "settle")) (ak (ba ja (ak (am 0) (ak (ay (.int 2)) aY))) aY)))) aH) aH) (aF (bY (aU 3) (ba ja (ak (am 0) (ak (c1 dL (am 1)) aY)))) (aF (bY (aU 4) (c2 bz (c2 bz (am 1) (am 3)) (ay (.int 0)))) (aF (bY (aU 5) (ba ja (ak (am 0) (ak (c1 dL (c2 bz (am 4) (ay (.int 0)))) aY)))) (aF (bY (aU 6) (im rX (dR 1 [5] (lx (am 4)) (aU 0) cD (c2 bz (c2 bz (am 0) (am 1)) (ay (.int 1)))))) (aF (cH (d8 (ak (ay (.str "do")) (ak (am 3) (ak (am 5) (ak (im lF (dR 1 [0,2] (MM.iy (c2 bQ (am 6) (ay (.int 1)))) (aU 0) cD (ba ja (ak (am 1) (ak (am 2) aY))))) aY)))))) aH))))))
@[irreducible] def jS:List D->M D:=bW 7 yt
def yk:CS:=(aF (bY (aU 3) (bZ (dE aY))) (aF (mF (MM.iy (ba ja (ak (am 0) (ak (c2 bQ (am 1) (ay (.int 1))) aY)))) (aU 4) (aF (bY (aU 5) (ba jP (ak (am 0) aY))) (aF (iS (kZ (am 3) (d8 (ak (am 5) (ak (ba ja (ak (am 0) (ak (c1 dL (am 5)) aY))) aY))))) aH))) (aF (bY (aU 6) (bZ (dE aY))) (aF (mF (MM.iy (c2 bQ (ay (.int 2)) (ba ja (ak (am 0) (ak (ay (.int 2)) aY))))) (aU 4) (aF (bY (aU 7) (c2 bQ (ay (.int 1)) (ba ja (ak (am 0) (ak (am 2) aY))))) (aF (bY (aU 8) (d8 (ak (ba ja (ak (am 0) (ak (am 7) aY))) (ak (ba ja (ak (am 0) (ak (am 7) aY))) aY)))) (aF (iS (kZ (am 6) (d8 (ak (am 8) (ak (im lF (dR 1 [0,3,7] (MM.iy (am 7)) (aU 0) cD (ba jS (ak (am 1) (ak (am 2) (ak (am 3) aY)))))) aY))))) aH)))) (aF (cH (d8 (ak (c1 tupleD (am 3)) (ak (c1 tupleD (am 6)) aY)))) aH)))))
@[irreducible] def jO:List D->M D:=bW 9 yk
def jM:CS:=(aF (ik (cC (c2 lE (c2 bz (am 0) (ay (.int 0))) (ay (.str "settle")))) (aF (cH (c2 bQ (ay (.str "settle ")) (c1 i7 (c2 bz (am 0) (ay (.int 1)))))) aH) aH) (aF (cH (c2 bQ (c2 bQ (c2 bQ (c2 bQ (c2 bQ (ay (.str "do ")) (c1 i7 (c2 bz (am 0) (ay (.int 1))))) (ay (.str " "))) (c1 i7 (c2 bz (am 0) (ay (.int 2))))) (ay (.str " : "))) (lG (ay (.str " ")) (bZ (dR 1 [] (lx (c2 bz (am 0) (ay (.int 3)))) (aU 0) cD (c1 i7 (am 0))))))) aH))
@[irreducible] def jm:List D->M D:=bW 1 jM
def yr:CS:=(aF (bY (aU 1) (bZ (dE aY))) (aF (mF (lx (c2 bz (am 0) (ay (.int 0)))) (fS 2 (cm (aU 2) (cm (aU 3) gf))) (aF (bY (aU 4) (bZ (dR 1 [] (lx (am 2)) (aU 0) cD (lG (ay (.str " ")) (bZ (dR 2 [] (lx (am 0)) (fS 2 (cm (aU 0) (cm (aU 1) gf))) cD (c2 bQ (c2 bQ (c1 i7 (am 0)) (ay (.str "."))) (c1 i7 (am 1))))))))) (aF (iS (kZ (am 1) (c2 bQ (c2 bQ (c2 bQ (ay (.str "board ")) (lG (ay (.str " / ")) (am 4))) (ay (.str " at "))) (c1 i7 (am 3))))) aH))) (aF (mF (lx (c2 bz (am 0) (ay (.int 1)))) (fS 2 (cm (aU 5) (cm (aU 6) gf))) (aF (iS (kZ (am 1) (c2 bQ (c2 bQ (c2 bQ (ay (.str "hand ")) (c1 i7 (c2 bz (am 5) (ay (.int 0))))) (ay (.str " "))) (c1 i7 (c2 bz (am 5) (ay (.int 1))))))) (aF (bY (aU 1) (c2 bQ (am 1) (bZ (dR 1 [] (lx (am 6)) (aU 0) cD (ba jm (ak (am 0) aY)))))) aH))) (aF (cH (am 1)) aH))))
@[irreducible] def jN:List D->M D:=bW 7 yr
def jb(g:List D->M D): CS:=
  (aF (ik (kP (c1 (eY ["tuple"]) (am 1)))
   (aF (ik (n9 (gz (kP (c1 (eY ["tuple"]) (am 0)))) (cC (c2 Cp (c1 dL (am 0)) (c1 dL (am 1)))))
    (aF (cH (ay (.bl false)))
    aH)
    aH)
   (aF (cH (im oJ (dR 2 [] (tF (am 0) (am 1)) (fS 2 (cm (aU 0) (cm (aU 1) gf))) cD (ba g (ak (am 0) (ak (am 1) aY))))))
   aH))
   aH)
  (aF (ik (kP (c1 (eY ["str"]) (am 1)))
   (aF (cH (qV (c1 (eY ["str"]) (am 0)) (c2 lE (am 0) (am 1))))
   aH)
   aH)
  (aF (cH (qV (c1 (eY ["int"]) (am 0)) (qV (vh (c1 (eY ["bool"]) (am 0))) (c2 lE (am 0) (am 1)))))
  aH)))
def j7:List D->M D:=λ_=>bad
@[irreducible] def jx:List D->M D:=bW 2 (jb j7)
@[irreducible] def jz:List D->M D:=bW 2 (jb jx)
@[irreducible] def jv:List D->M D:=bW 2 (jb jz)
@[irreducible] def js:List D->M D:=bW 2 (jb jv)
@[irreducible] def jw:List D->M D:=bW 2 (jb js)
@[irreducible] def ju:List D->M D:=bW 2 (jb jw)
@[irreducible] def jy:List D->M D:=bW 2 (jb ju)
@[irreducible] def jA:List D->M D:=bW 2 (jb jy)
abbrev lb:List D->M D:=jA
def jR:CS:=(aF (bY (aU 4) (kW (dE (ak (ay (.int 0)) (ak (ay (.int 1)) (ak (ay (.int 2)) (ak (ay (.int 90)) (ak (ay (.int 900)) aY)))))) (ba ja (ak (am 0) (ak (ay (.int 5)) aY))))) (aF (ik (cC (c2 lE (c2 bz (am 2) (ay (.int 0))) (ay (.str "settle")))) (aF (cH (d8 (ak (ay (.str "settle")) (ak (c2 bQ (ay (.int 2)) (am 4)) aY)))) aH) aH) (aF (bY (fS 4 (cm (aU 5) (cm (aU 6) (cm (aU 7) (cm (aU 8) gf))))) (am 2)) (aF (bY (aU 9) (ba ja (ak (am 0) (ak (ay (.int 5)) aY)))) (aF (ik (cC (c2 lE (am 9) (ay (.int 0)))) (aF (cH (d8 (ak (am 5) (ak (c2 bQ (c1 dL (c2 bz (am 1) (ay (.int 0)))) (am 4)) (ak (am 7) (ak (am 8) aY)))))) aH) aH) (aF (ik (cC (c2 lE (am 9) (ay (.int 1)))) (aF (cH (d8 (ak (am 5) (ak (am 6) (ak (c2 bQ (ay (.int 4)) (am 4)) (ak (am 8) aY)))))) aH) aH) (aF (ik (cC (c2 lE (am 9) (ay (.int 2)))) (aF (cH (d8 (ak (am 5) (ak (am 6) (ak (am 7) (ak (c2 bQ (am 8) (d8 (ak (ay (.int 0)) aY))) aY)))))) aH) aH) (aF (ik (mE (cC (c2 lE (am 9) (ay (.int 3)))) (cC (c2 wz (c1 dL (am 8)) (ay (.int 1))))) (aF (cH (d8 (ak (am 5) (ak (am 6) (ak (am 7) (ak (fV (am 8) (dW (ay (.int 1))) eF) aY)))))) aH) aH) (aF (bY (aU 10) (ba ja (ak (am 0) (ak (c1 dL (am 8)) aY)))) (aF (cH (d8 (ak (am 5) (ak (am 6) (ak (am 7) (ak (c2 bQ (c2 bQ (fV (am 8) eF (dW (am 10))) (d8 (ak (c2 bQ (am 3) (am 4)) aY))) (fV (am 8) (dW (c2 bQ (am 10) (ay (.int 1)))) eF)) aY)))))) aH))))))))))
@[irreducible] def jp:List D->M D:=bW 11 jR
def jQ:CS:=(aF (bY (fS 2 (cm (aU 3) (cm (aU 4) gf))) (am 2)) (aF (bY (aU 5) (ba ja (ak (am 0) (ak (ay (.int 6)) aY)))) (aF (ik (cC (c2 lE (am 5) (ay (.int 0)))) (aF (cH (d8 (ak (am 3) (ak (d8 aY) aY)))) aH) aH) (aF (ik (cC (c2 lE (am 5) (ay (.int 1)))) (aF (cH (d8 (ak (d8 (ak (c2 bQ (c1 dL (am 4)) (ba ja (ak (am 0) (ak (ay (.int 3)) aY)))) (ak (c2 bz (am 3) (ay (.int 1))) aY))) (ak (am 4) aY)))) aH) aH) (aF (ik (cC (c2 lE (am 5) (ay (.int 2)))) (aF (cH (d8 (ak (d8 (ak (c2 bz (am 3) (ay (.int 0))) (ak (c2 bQ (c1 dL (am 4)) (ba ja (ak (am 0) (ak (ay (.int 3)) aY)))) aY))) (ak (am 4) aY)))) aH) aH) (aF (ik (cC (c2 lE (c1 dL (am 4)) (ay (.int 0)))) (aF (cH (am 2)) aH) aH) (aF (bY (aU 6) (ba ja (ak (am 0) (ak (c1 dL (am 4)) aY)))) (aF (cH (d8 (ak (am 3) (ak (c2 bQ (c2 bQ (fV (am 4) eF (dW (am 6))) (d8 (ak (ba jp (ak (am 0) (ak (am 1) (ak (c2 bz (am 4) (am 6)) (ak (c1 dL (am 4)) aY))))) aY))) (fV (am 4) (dW (c2 bQ (am 6) (ay (.int 1)))) eF)) aY)))) aH))))))))
@[irreducible] def jo:List D->M D:=bW 7 jQ
def j6:CS:=(aF (bY (fS 2 (cm (aU 2) (cm (aU 3) gf))) (am 1)) (aF (bY (aU 4) (ba ja (ak (am 0) (ak (ay (.int 6)) aY)))) (aF (ik (mE (cC (c2 lE (am 4) (ay (.int 0)))) (cC (c2 wz (c1 dL (am 2)) (ay (.int 0))))) (aF (bY (aU 5) (ba ja (ak (am 0) (ak (c1 dL (am 2)) aY)))) (aF (bY (aU 6) (d8 (ak (c2 bz (c2 bz (am 2) (am 5)) (ay (.int 0))) (ak (c2 bQ (c1 dL (c2 bz (c2 bz (am 2) (am 5)) (ay (.int 0)))) (ba ja (ak (am 0) (ak (ay (.int 3)) aY)))) aY)))) (aF (cH (d8 (ak (c2 bQ (c2 bQ (fV (am 2) eF (dW (am 5))) (d8 (ak (am 6) aY))) (fV (am 2) (dW (c2 bQ (am 5) (ay (.int 1)))) eF)) (ak (am 3) aY)))) aH))) aH) (aF (ik (cC (c2 lE (am 4) (ay (.int 1)))) (aF (cH (d8 (ak (am 2) (ak (kW (dE (ak (fV (am 3) eF (dW (ay (.int 1)))) (ak (c2 bQ (am 3) (fV (am 3) eF (dW (ay (.int 2))))) aY))) (ba ja (ak (am 0) (ak (ay (.int 2)) aY)))) aY)))) aH) aH) (aF (bY (aU 5) (ba ja (ak (am 0) (ak (c1 dL (am 3)) aY)))) (aF (cH (d8 (ak (am 2) (ak (c2 bQ (c2 bQ (fV (am 3) eF (dW (am 5))) (d8 (ak (ba jo (ak (am 0) (ak (am 1) (ak (c2 bz (am 3) (am 5)) aY)))) aY))) (fV (am 3) (dW (c2 bQ (am 5) (ay (.int 1)))) eF)) aY)))) aH))))))
@[irreducible] def jJ:List D->M D:=bW 7 j6
def yb:CS:=(aF (bY (aU 1) (bZ (dE (ak (ay (.str "")) (ak (ay (.str " ")) (ak (ay (.str "board")) (ak (ay (.str "board 0.0")) (ak (ay (.str "board 0.0 at")) (ak (ay (.str "board 0.0 at 00")) (ak (ay (.str "board 0.0 at 1000")) aY)))))))))) (aF (bY (aU 1) (c2 bQ (am 1) (bZ (dE (ak (ay (.str "board  0.0 at 0")) (ak (ay (.str "board 0.0 at 0 ")) (ak (ay (.str "board 0.0 / 0.0 0.0 at 0")) (ak (ay (.str "board 1.0 at 0")) aY)))))))) (aF (bY (aU 1) (c2 bQ (am 1) (bZ (dE (ak (ay (.str "board 0.0/0.0 at 0")) (ak (ay (.str "board 0 at 0")) (ak (ay (.str "Board 0.0 at 0")) (ak (ay (.str "boards 0.0 at 0")) (ak (ay (.str "board 0.+1 at 0")) aY))))))))) (aF (bY (aU 1) (c2 bQ (am 1) (bZ (dE (ak (ay (.str "board 0.0 at -1")) (ak (ay (.str "board 0.1_0 at 0")) (ak (ay (.str "board 0.01 at 0")) (ak (ay (.str "board 0.0 at  0")) aY)))))))) (aF (bY (aU 1) (c2 bQ (am 1) (bZ (dE (ak (ay (.str "board 0.0  0.0 at 0")) (ak (ay (.str "board at 0")) (ak (ay (.str "board  at 0")) (ak (ay (.str "board 0. at 0")) (ak (ay (.str "board .0 at 0")) aY))))))))) (aF (bY (aU 1) (c2 bQ (am 1) (bZ (dE (ak (ay (.str "board 0.0 at x")) (ak (ay (.str "board 0.0 at 0 at 0")) aY)))))) (aF (bY (aU 1) (c2 bQ (am 1) (bZ (dE (ak (ay (.str "board 0.0. at 0")) (ak (ay (.str "board 0.0 / at 0")) (ak (ay (.str "board 00.0 at 0")) (ak (ay (.str "hand")) (ak (ay (.str "hand 0")) aY))))))))) (aF (bY (aU 1) (c2 bQ (am 1) (bZ (dE (ak (ay (.str "hand 0 0 0")) (ak (ay (.str "hand 0  0")) (ak (ay (.str "hand 00 0")) (ak (ay (.str "hand 0 1000")) (ak (ay (.str "hands 0 0")) (ak (ay (.str "hand 0 x")) (ak (ay (.str "hand -0 0")) aY))))))))))) (aF (bY (aU 1) (c2 bQ (am 1) (bZ (dE (ak (ay (.str "hand 0 0 ")) (ak (ay (.str " hand 0 0")) (ak (ay (.str "Hand 0 0")) (ak (ay (.str "hand +1 0")) (ak (ay (.str "do")) (ak (ay (.str "do 0 0")) (ak (ay (.str "do 0 0 :")) (ak (ay (.str "do 0 0 : ")) aY)))))))))))) (aF (bY (aU 1) (c2 bQ (am 1) (bZ (dE (ak (ay (.str "do 0 0 0")) (ak (ay (.str "do 0 : 0")) (ak (ay (.str "do 0 0 :0")) (ak (ay (.str "do 0 0: 0")) (ak (ay (.str "do 00 0 : 0")) (ak (ay (.str "do 0 0 : 0 ")) aY)))))))))) (aF (bY (aU 1) (c2 bQ (am 1) (bZ (dE (ak (ay (.str "do 0 0 : 01")) (ak (ay (.str "do 0 0 : 1000")) (ak (ay (.str "do 0 0 : +1")) (ak (ay (.str "do  0 0 : 0")) (ak (ay (.str "do 0 0 ; 0")) (ak (ay (.str "do 0 0 : 0  0")) aY)))))))))) (aF (bY (aU 1) (c2 bQ (am 1) (bZ (dE (ak (ay (.str "do 0 -1 : 0")) (ak (ay (.str "doing 0 0 : 0")) (ak (ay (.str "settle")) (ak (ay (.str "settle 0 0")) (ak (ay (.str "settle 00")) (ak (ay (.str "settle -1")) aY)))))))))) (aF (bY (aU 1) (c2 bQ (am 1) (bZ (dE (ak (ay (.str "settle  0")) (ak (ay (.str "settle 0 ")) (ak (ay (.str " settle 0")) (ak (ay (.str "Settle 0")) (ak (ay (.str "settled 0")) (ak (ay (.str "settle 1000")) (ak (ay (.str ";")) aY))))))))))) (aF (bY (aU 1) (c2 bQ (am 1) (bZ (dE (ak (ay (.str "settle x")) (ak (ay (.str "end")) (ak (ay (.str "0.0")) (ak (ay (.str "do 0 0 : x")) (ak (ay (.str "do x 0 : 0")) aY))))))))) (aF (cH (c2 bz (am 1) (ba ja (ak (am 0) (ak (c1 dL (am 1)) aY))))) aH)))))))))))))))
@[irreducible] def jh:List D->M D:=bW 2 yb
def yd:CS:=(aF (bY (aU 3) (ba ja (ak (am 0) (ak (ay (.int 9)) aY)))) (aF (ik (cC (c2 lE (am 3) (ay (.int 0)))) (aF (cH (d8 (ak (bZ (d_ (am 1) eF (dW (am 2)))) (ak (am 2) aY)))) aH) aH) (aF (ik (cC (c2 lE (am 3) (ay (.int 1)))) (aF (cH (d8 (ak (c2 bQ (am 1) (bZ (dE (ak (ay (.str "")) aY)))) (ak (c1 dL (am 1)) aY)))) aH) aH) (aF (ik (cC (c2 lE (am 3) (ay (.int 2)))) (aF (bY (aU 4) (c2 bQ (c2 bQ (am 2) (ay (.int 1))) (ba ja (ak (am 0) (ak (c2 wK (c1 dL (am 1)) (am 2)) aY))))) (aF (cH (d8 (ak (c2 bQ (c2 bQ (bZ (d_ (am 1) eF (dW (am 4)))) (bZ (dE (ak (ay (.str "board 0.0 at 0")) aY)))) (bZ (d_ (am 1) (dW (am 4)) eF))) (ak (am 4) aY)))) aH)) aH) (aF (ik (cC (c2 lE (am 3) (ay (.int 3)))) (aF (bY (aU 4) (ba ja (ak (am 0) (ak (c2 bQ (am 2) (ay (.int 1))) aY)))) (aF (cH (d8 (ak (c2 bQ (c2 bQ (bZ (d_ (am 1) eF (dW (am 4)))) (bZ (dE (ak (kW (dE (ak (ay (.str "settle 0")) (ak (ay (.str "do 0 0 : 0")) aY))) (ba ja (ak (am 0) (ak (ay (.int 2)) aY)))) aY)))) (bZ (d_ (am 1) (dW (am 4)) eF))) (ak (am 4) aY)))) aH)) aH) (aF (ik (cC (c2 lE (am 3) (ay (.int 4)))) (aF (cH (d8 (ak (bZ (dE (ak (ay (.str "")) aY))) (ak (ay (.int 0)) aY)))) aH) aH) (aF (bY (aU 4) (ba ja (ak (am 0) (ak (c2 bQ (c1 dL (am 1)) (ay (.int 1))) aY)))) (aF (bY (aU 5) (c2 bQ (c2 bQ (bZ (d_ (am 1) eF (dW (am 4)))) (bZ (dE (ak (ba jh (ak (am 0) aY)) aY)))) (bZ (d_ (am 1) (dW (c2 bQ (am 4) (c2 lL (am 3) (ay (.int 2))))) eF)))) (aF (ik (cC (c2 wz (am 3) (ay (.int 6)))) (aF (bY (aU 6) (c2 bQ (c2 bQ (am 4) (ay (.int 1))) (ba ja (ak (am 0) (ak (c2 wK (c1 dL (am 5)) (am 4)) aY))))) (aF (bY (aU 5) (c2 bQ (c2 bQ (bZ (d_ (am 5) eF (dW (am 6)))) (bZ (dE (ak (ba jh (ak (am 0) aY)) aY)))) (bZ (d_ (am 5) (dW (am 6)) eF)))) aH)) aH) (aF (cH (d8 (ak (am 5) (ak (am 4) aY)))) aH))))))))))
@[irreducible] def jG:List D->M D:=bW 7 yd
def j4:CS:=(aF (ik (n9 (cC (c2 lE (c1 dL (am 0)) (ay (.int 0)))) (cC (c2 lE (c1 dL (c2 bz (am 0) (ay (.int 0)))) (ay (.int 0))))) (aF (cH (ay (.bl false))) aH) aH) (aF (cH (im oJ (dR 1 [0] (lx (am 0)) (aU 0) cD (ba jj (ak (am 1) (ak (am 0) aY)))))) aH))
@[irreducible] def ji:List D->M D:=bW 1 j4
def jT:CS:=(aF (mF (qk (am 0)) (fS 2 (cm (aU 1) (cm (aU 2) gf))) (aF (bY (aU 3) (c2 bz (am 2) (ay (.int 0)))) (aF (ik (n9 (gz (kP (ba ji (ak (am 3) aY)))) (gz (cC (ii tm vW (ay (.int 0)) (c2 bz (am 2) (ay (.int 1))) (c1 dL (am 3)))))) (aF vz aH) aH) aH))) aH)
@[irreducible] def jk:List D->M D:=bW 4 jT
def jX:CS:=(aF (bY (aU 3) (c2 bz (am 2) (ay (.int 1)))) (aF (ik (gz (kP (ba jq (ak (c2 bz (am 2) (ay (.int 0))) (ak (am 3) aY))))) (aF vz aH) aH) (aF (mF (qk (am 3)) (fS 2 (cm (aU 4) (cm (aU 5) gf))) (aF (ik (gz (kP (ba jK (ak (am 0) (ak (am 3) (ak (am 5) aY)))))) (aF vz aH) aH) aH)) aH)))
@[irreducible] def jr:List D->M D:=bW 6 jX
def yj:CS:=(aF (rR (bY (aU 1) (im lF (dR 1 [] (lx (lU (am 0) (ay (.str ".")))) (aU 0) cD (ba je (ak (am 0) aY)))))) (aF (ik (o9 (n9 (cC (c2 Cp (c1 dL (am 1)) (ay (.int 2)))) (cC (c2 C7 (ay .non) (am 1))))) (aF (gW "NoTable" "at" (ay (.int 0))) aH) aH) (aF (rR (cH (am 1))) aH)))
@[irreducible] def jI:List D->M D:=bW 2 yj
def ym:CS:=(aF (ik (o9 (mE (cC (c2 lE (c2 bz (am 1) (ay (.int 0))) (ay (.str "settle")))) (cC (c2 lE (c1 dL (am 1)) (ay (.int 2)))))) (aF (cH (vx bQ (zu (d8 (ak (ay (.str "settle")) aY))) (ba jc (kj (ak (am 0) (ak (bZ (d_ (am 1) (dW (ay (.int 1))) eF)) aY)))))) aH) aH) (aF (ik (o9 (mE (cC (c2 lE (c2 bz (am 1) (ay (.int 0))) (ay (.str "do")))) (mE (cC (c2 wz (c1 dL (am 1)) (ay (.int 4)))) (cC (c2 lE (c2 bz (am 1) (ay (.int 3))) (ay (.str ":"))))))) (aF (cH (vx bQ (vx bQ (zu (d8 (ak (ay (.str "do")) aY))) (ba jc (kj (ak (am 0) (ak (bZ (d_ (am 1) (dW (ay (.int 1))) (dW (ay (.int 3))))) aY))))) (d8 (ak (ba jc (kj (ak (am 0) (ak (bZ (d_ (am 1) (dW (ay (.int 4))) eF)) aY)))) (kj aY))))) aH) aH) (aF (gW "NoText" "row" (am 0)) aH)))
@[irreducible] def jH:List D->M D:=bW 2 ym
def yw:CS:=(aF (bY (aU 1) (c2 bz (am 0) (ay (.int 0)))) (aF (bY (aU 2) (c2 bz (am 0) (ay (.int 1)))) (aF (iS (ba jk (ak (am 1) aY))) (aF (ik (gz (cC (ii tm tm (ay (.int 2)) (c1 dL (am 2)) (ay (.int 3))))) (aF vz aH) aH) (aF (bY (aU 3) (bZ (dR 2 [] (lx (am 1)) (fS 2 (cm (aU 0) (cm (aU 1) gf))) cD (ba jf (ak (am 0) aY))))) (aF (mF (qk (am 2)) (fS 2 (cm (aU 4) (cm (aU 5) gf))) (aF (iS (ba jr (ak (am 3) (ak (am 4) (ak (am 5) aY))))) aH)) (aF (cH (ay (.bl true))) aH)))))))
@[irreducible] def yu:List D->M D:=bW 6 yw
def yg:CS:=(aF (cH (im (Fk lF) (dR 1 [] (wS (lx (lU (am 0) (ay (.str " "))))) (qQ (aU 0)) (o9 cD) (ba jI (kj (ak (am 0) aY)))))) aH)
@[irreducible] def jC:List D->M D:=bW 1 yg
def yf:CS:=(aF (rR (bY (aU 2) (bZ (dE aY)))) (aF (mF (wS (MM.om (am 1) (c1 dL (am 0)))) (qQ (aU 3)) (aF (rR (bY (aU 4) (lU (c2 bz (am 0) (am 3)) (ay (.str " "))))) (aF (ik (o9 (mE (cC (c2 lE (c2 bz (am 4) (ay (.int 0))) (ay (.str "hand")))) (cC (c2 lE (c1 dL (am 4)) (ay (.int 3)))))) (aF (iS (rG (am 2) (d8 (ak (ba jc (kj (ak (am 3) (ak (bZ (d_ (am 4) (dW (ay (.int 1))) eF)) aY)))) (ak (zu (bZ (dE aY))) (kj aY)))))) aH) (aF (ik (o9 (cC (c2 wz (c1 dL (am 2)) (ay (.int 0))))) (aF (iS (rG (c2 bz (c2 bz (am 2) (c1 yF (ay (.int 1)))) (ay (.int 1))) (ba jH (kj (ak (am 3) (ak (am 4) aY)))))) aH) (aF (gW "NoText" "row" (am 3)) aH)) aH)) aH))) (aF (rR (cH (im lF (dR 2 [] (lx (am 2)) (fS 2 (cm (aU 0) (cm (aU 1) gf))) cD (d8 (ak (am 0) (ak (c1 tupleD (am 1)) aY))))))) aH)))
@[irreducible] def jE:List D->M D:=bW 5 yf
def yh:CS:=(aF (bY (aU 1) (im (Fk lF) (dR 1 [] (wS (lx (lU (am 0) (ay (.str " / "))))) (qQ (aU 0)) (o9 cD) (ba jC (kj (ak (am 0) aY)))))) (aF (ik (o9 (gz (kP (ba ji (ak (am 1) aY))))) (aF (gW "NoTable" "at" (ay (.int 0))) aH) aH) (aF (rR (cH (am 1))) aH)))
@[irreducible] def jF:List D->M D:=bW 2 yh
def ye:CS:=(aF (rR (bY (aU 2) (pe b8 (am 1) (ay (.str " at "))))) (aF (rR (bY (aU 3) (pe dF (c2 bz (am 2) (ay (.int 0))) (ay (.str " "))))) (aF (nO (bY (aU 4) (ba jF (kj (ak (c2 bz (am 3) (ay (.int 2))) aY)))) ["NoTable"] "NoText" "row" 0) (aF (cH (d8 (ak (zu (am 4)) (ak (tD (ba jc (kj (ak (am 0) (ak (bZ (dE (ak (c2 bz (am 2) (ay (.int 2))) aY))) aY)))) (ay (.int 0))) (kj aY))))) aH))))
@[irreducible] def jD:List D->M D:=bW 5 ye
def yc:CS:=(aF (rR (bY (aU 1) (bZ (dE aY)))) (aF (mF (wS (qp (am 0))) (qQ (fS 2 (cm (aU 2) (cm (aU 3) gf)))) (aF (ik (o9 (gz (kP (oh (am 3) (ay (.str "board ")))))) (aF (rR (cH (c1 tupleD (am 1)))) aH) aH) (aF (iS (rG (am 1) (ba jD (kj (ak (am 2) (ak (am 3) aY)))))) aH))) (aF (gW "NoText" "row" (c1 dL (am 0))) aH)))
@[irreducible] def jt:List D->M D:=bW 4 yc
def jU:CS:=(aF (rR (bY (aU 1) (lU (am 0) (ay (.str "\n"))))) (aF (bY (aU 2) (ba jt (kj (ak (am 1) aY)))) (aF (bY (aU 3) (d8 (ak (zu (am 2)) (ak (ba jE (kj (ak (am 1) (ak (c1 dL (am 2)) aY)))) (kj aY))))) (aF (rR (iS (ba yu (ak (am 3) aY)))) (aF (rR (cH (am 3))) aH)))))
@[irreducible] def jd:List D->M D:=bW 4 jU
def j8:CS:=(aF (bY (aU 2) (ay .non)) (aF (iH (iS (ba jd (kj (ak (am 0) aY)))) ["NoText"] 3 (aF (bY (aU 2) (am 3)) aH)) (aF (ik (n9 (gz (kP (c1 (qr ["NoText"] λx=>x == "NoText" || ("PactError":Str) == "NoText") (am 2)))) (gz (kP (c1 (qr ["NoText"] λ_=>true) (am 2))))) (aF (cH (ay (.bl false))) aH) aH) (aF (ik (kP (c1 (qr ["NoText"] λx=>["NoHouse","NoMark","NoRow","NoTable","NotGood","NotMeek","TooMany"].any λt=>x == t||("PactError":Str) == t) (am 2))) (aF (cH (ay (.bl false))) aH) aH) (aF (cH (ba lb (ak (c1 (tJ "NoText" "row") (am 2)) (ak (am 1) aY)))) aH)))))
@[irreducible] def jg:List D->M D:=bW 4 j8
def yx:CS:=(aF (bY (aU 1) (bZ (dE (ak (c1 u4 (am 0)) (ak (ay (.int 0)) (ak (ay (.int 0)) (ak (ay (.int 0)) aY))))))) (aF (bY (aU 2) (ba jO (ak (am 1) (ak (ay (.int 4)) (ak (ay (.int 8)) aY))))) (aF (bY (aU 3) (ba jN (ak (am 2) aY))) (aF (ik (gz (kP (ba lb (ak (ba jd (ak (lG (ay (.str "\n")) (am 3)) aY)) (ak (am 2) aY))))) (aF (cH (ay (.bl false))) aH) aH) (aF (mF (MM.iy (ay (.int 4))) (aU 4) (aF (bY (aU 5) (am 3)) (aF (ik (cC (c2 lE (ba ja (ak (am 1) (ak (ay (.int 2)) aY))) (ay (.int 0)))) (aF (bY (aU 5) (ba jN (ak (ba jJ (ak (am 1) (ak (am 2) aY))) aY))) aH) aH) (aF (bY (fS 2 (cm (aU 6) (cm (aU 7) gf))) (ba jG (ak (am 1) (ak (am 5) (ak (c1 dL (c2 bz (am 2) (ay (.int 0)))) aY))))) (aF (ik (n9 (gz (kP (ba jg (ak (lG (ay (.str "\n")) (am 6)) (ak (am 7) aY))))) (gz (kP (ba jg (ak (lG (ay (.str "\n")) (am 6)) (ak (am 7) aY)))))) (aF (cH (ay (.bl false))) aH) aH) aH))))) (aF (cH (ba lb (ak (ba jd (ak (lG (ay (.str "\n")) (am 3)) aY)) (ak (am 2) aY)))) aH))))))
@[irreducible] def yp:List D->M D:=bW 8 yx
open PySem.Spec PyProof.Rows L2
noncomputable def top(i:Nat):Stmt:=i_.main.body.getD i (.Pass ⟨0,0,0,0⟩)
noncomputable def F4:Stmt->Stmt
 | .ClassDef _ _ _ (s::_) _ _ _ _ _ _ _=>s
 |s=>s
noncomputable abbrev yy:List Str:=["NoHouse","NoMark","NoRow","NoTable","NotGood","NotMeek","TooMany","NoText","PactError"]
set_option genInjectivity false in
structure Txt(K:aj)(mg:Str->Option ac):Prop where
 f0:FnAt K mg "answers" (top 11)
 f1:FnAt K mg "is_state" (top 13)
 f2:FnAt K mg "answer_counts" (top 17)
 f3:FnAt K mg "are_lines" (top 19)
 f4:FnAt K mg "is_line" (top 20)
 f5:FnAt K mg "read_number" (top 27)
 f6:FnAt K mg "read_numbers" (top 34)
 f7:FnAt K mg "_law_draw" (top 36)
 f8:FnAt K mg "_law_any_table" (top 37)
 f9:FnAt K mg "_law_table" (top 38)
 f10:FnAt K mg "_law_line" (top 39)
 f11:FnAt K mg "_law_house" (top 40)
 f12:FnAt K mg "_law_line_text" (top 41)
 f13:FnAt K mg "_law_rows" (top 42)
 f14:FnAt K mg "_law_alike" (top 43)
 f15:FnAt K mg "_law_line_changed" (top 44)
 f16:FnAt K mg "_law_hand_changed" (top 45)
 f17:FnAt K mg "_law_changed" (top 46)
 f18:FnAt K mg "_law_bad_row" (top 47)
 f19:FnAt K mg "_law_spoilt" (top 48)
 f20:FnAt K mg "is_table" (top 12)
 f21:FnAt K mg "look_at_boards" (top 16)
 f22:FnAt K mg "look_at_hand" (top 18)
 f23:FnAt K mg "read_pair" (top 26)
 f24:FnAt K mg "read_line" (top 33)
 f25:FnAt K mg "look" (top 15)
 f26:FnAt K mg "read_state" (top 25)
 f27:FnAt K mg "read_hands" (top 32)
 f28:FnAt K mg "read_table" (top 24)
 f29:FnAt K mg "read_board" (top 31)
 f30:FnAt K mg "read_boards" (top 30)
 f31:FnAt K mg "read_house" (top 29)
 f32:FnAt K mg "_law_refused" (top 49)
 f33:FnAt K mg "law" (top 50)
 z:xV mg ["ValueError","all","bool","enumerate","int","isinstance","len","list","max","range","str","tuple","zip"]
 c:uU K mg [("FIGURES",.str "0123456789"),("MOST_FIGURES",.int 3)]
 x:XT K mg "NoText" "row" "NoText.__init__" (F4 (top 4))
 o:AL K mg yy
 x2:XT K mg "NoTable" "at" "NoTable.__init__" (F4 (top 2))
section
variable{P:Program}{w:bw}{K:aj}{mg:Str->Option ac}{base:bu}
def OK:tz:=EO 4 .In wA (λ_=>Wq)
def PH:tz:=tj .Lt vW (λ_=>P9)
def OP:tz:=tj .LtE tm (λ_=>GH)
def Nd:tz:=tj .Gt wz (λ_=>Qea)
def MZ:tz:=tj .GtE Dg (λ_=>Vi)
def OT:tz:=tj .Eq lE (λh=>Xf h)
def P6:tz:=tj .NotEq Cp (λh=>PY h)
def QX:tz:=tj .In C7 (λh=>QfU h)
def M8:tz:=wD .LtE tm (λ_=>GH) .LtE tm (λ_=>GH)
def Qv:tz:=wD .LtE tm (λ_=>GH) .Lt vW (λ_=>P9)
def RR:nW:=⟨[JR,Js,Er,zk,MM.D8,Mz,DL,DC,El,FC,Mi,E9,zS,D3,Bz,J2,Bl,FK,zj,we,yX,vE,yJ,Cb,Fh,zn,DO,C9 .Add bQ (λ_=>N3),C9 .Sub wK (λ_=>R_),C9 .Mult mT (λ_=>RQ),C9 .FloorDiv rL (λ_=>Qd5),C9 .Mod lL (λ_=>Xz),C9 .Pow wL (λ_=>Xt),OK.e,PH.e,OP.e,Nd.e,MZ.e,OT.e,P6.e,QX.e,M8.e,Qv.e,Lp,Ki,Mh],[LM,DR,BO],[OK.t,PH.t,OP.t,Nd.t,MZ.t,OT.t,P6.t,QX.t,M8.t,Qv.t,Ba,A_,Uw],[zl,zK,yS,B4,Bt true,Eh,DF],[U2,D5,FR],[Ml,Ej,LX,FJ,EM,AY,yM,Ft,Em]⟩
noncomputable abbrev hh:List (Nat×Nat×Nat):=[(95,16,4),(95,44,4),(99,11,4),(109,19,16),(218,69,7),(235,43,1),(237,39,1),(237,89,1),(250,25,1),(250,138,1),(257,16,1),(257,53,1),(259,30,1),(259,59,1),(261,25,1),(261,119,1)]
noncomputable def MT:List (Str×RF):=[]
theorem TL(T:Txt K mg):cq P w K mg base MT:=XI
noncomputable def xe0:List (Str×RF):=[]
theorem xk0(T:Txt K mg):iV P w K mg base xe0:=λ_ _ h=>(by cases h)
theorem xr(T:Txt K mg):XR P w K mg base "NoText" "row":=O4 (n1:="self") (n2:="row") T.x rfl (by nofun) rfl (by nofun) (by nofun) (by nofun) (by nofun) (λ_ _ _ _ _ _=>tX λ_ _=>rfl)
theorem zt(T:Txt K mg):XR P w K mg base "NoTable" "at":=O4 (n1:="self") (n2:="at") T.x2 rfl (by nofun) rfl (by nofun) (by nofun) (by nofun) (by nofun) (λ_ _ _ _ _ _=>tX λ_ _=>rfl)
theorem CH(T:Txt K mg):Ht P w K mg base "NoText" "row":=VX (n1:="self") (n2:="row") T.x rfl (by nofun) rfl (by nofun) (by nofun) (by nofun) (by nofun) (λ_ _ _ _ _ _=>tX λ_ _=>rfl)
def QV:List (Str×RF):=qE "answers" (top 11) 2 0 jL MT
theorem Zz(T:Txt K mg):cq P w K mg base QV:=qN RR hh 2 T.f0 (TL T) T.z T.c
def OI:List (Str×RF):=qE "is_state" (top 13) 2 0 jj QV
theorem Tv(T:Txt K mg):cq P w K mg base OI:=qN RR hh 2 T.f1 (Zz T) T.z T.c
def M6:List (Str×RF):=qE "answer_counts" (top 17) 1 1 jf OI
theorem Uj(T:Txt K mg):cq P w K mg base M6:=qN RR hh 1 T.f2 (Tv T) T.z T.c
def MI:List (Str×RF):=qE "are_lines" (top 19) 2 0 jq M6
theorem gk4(T:Txt K mg):cq P w K mg base MI:=qN RR hh 2 T.f3 (Uj T) T.z T.c
def Pj:List (Str×RF):=qE "is_line" (top 20) 3 1 jK MI
theorem YD(T:Txt K mg):cq P w K mg base Pj:=qN RR hh 3 T.f4 (gk4 T) T.z T.c
def MR:List (Str×RF):=qE "read_number" (top 27) 1 0 je Pj
theorem Vx(T:Txt K mg):cq P w K mg base MR:=qN RR hh 1 T.f5 (YD T) T.z T.c
def Jb:List (Str×RF):=qE "read_numbers" (top 34) 2 2 jc MR
def La:List (Str×RF):=qE "read_numbers" (top 34) 2 2 jc xe0
theorem Pr(T:Txt K mg):iV P w K mg base La/\cq P w K mg base Jb:=yE (z:="NoTable") (zf:="at") RR hh 2 T.f6 ⟨xk0 T,Vx T⟩ (xr T) (λ_=>CH T) (λ_=>zt T) T.z T.c
theorem Zb(T:Txt K mg):cq P w K mg base Jb:=(Pr T).2
theorem XM(T:Txt K mg):iV P w K mg base La:=(Pr T).1
def MP:List (Str×RF):=qE "_law_draw" (top 36) 2 0 ja Jb
theorem UQ(T:Txt K mg):cq P w K mg base MP:=qN RR hh 2 T.f7 (Zb T) T.z T.c
def Ph:List (Str×RF):=qE "_law_any_table" (top 37) 1 1 jB MP
theorem V1(T:Txt K mg):cq P w K mg base Ph:=qN RR hh 1 T.f8 (UQ T) T.z T.c
def Ga:List (Str×RF):=qE "_law_table" (top 38) 1 2 jP Ph
theorem Mx(T:Txt K mg):cq P w K mg base Ga:=qN RR hh 1 T.f9 (V1 T) T.z T.c
def D6:List (Str×RF):=qE "_law_line" (top 39) 3 1 jS Ga
theorem IF(T:Txt K mg):cq P w K mg base D6:=qN RR hh 3 T.f10 (Mx T) T.z T.c
def E2:List (Str×RF):=qE "_law_house" (top 40) 3 3 jO D6
theorem Iu(T:Txt K mg):cq P w K mg base E2:=qN RR hh 3 T.f11 (IF T) T.z T.c
def Gi:List (Str×RF):=qE "_law_line_text" (top 41) 1 0 jm E2
theorem Mp(T:Txt K mg):cq P w K mg base Gi:=qN RR hh 1 T.f12 (Iu T) T.z T.c
def Fz:List (Str×RF):=qE "_law_rows" (top 42) 1 1 jN Gi
theorem Jo(T:Txt K mg):cq P w K mg base Fz:=qN RR hh 1 T.f13 (Mp T) T.z T.c
def wQ:List (Str×RF):=("_law_alike",⟨2,1,["_law_found","_law_due"],false,λ_=>bad⟩)::Fz
theorem UJ(T:Txt K mg):cq P w K mg base wQ:=Qj1 T.f14 rfl (λ_ _ _ _ _ _=>tX λ_ _=>rfl) (Jo T)
def uz:List (Str×RF):=("_law_alike",⟨2,2,["_law_found","_law_due"],false,jx⟩)::wQ
theorem S8(T:Txt K mg):cq P w K mg base uz:=by unfold uz jx;exact zy RR (r:=[]) (H:=hh) T.f14 (by nofun) (λ_ _ _ _ _ _=>tX λ_ _=>rfl) (λz=>(by cases z)) (by kernel_rfl) (UJ T) T.z T.c
def ug:List (Str×RF):=("_law_alike",⟨2,3,["_law_found","_law_due"],false,jz⟩)::uz
theorem YA(T:Txt K mg):cq P w K mg base ug:=by unfold ug jz;exact zy RR (r:=[]) (H:=hh) T.f14 (by nofun) (λ_ _ _ _ _ _=>tX λ_ _=>rfl) (λz=>(by cases z)) (by kernel_rfl) (S8 T) T.z T.c
def ur:List (Str×RF):=("_law_alike",⟨2,4,["_law_found","_law_due"],false,jv⟩)::ug
theorem ZX(T:Txt K mg):cq P w K mg base ur:=by unfold ur jv;exact zy RR (r:=[]) (H:=hh) T.f14 (by nofun) (λ_ _ _ _ _ _=>tX λ_ _=>rfl) (λz=>(by cases z)) (by kernel_rfl) (YA T) T.z T.c
def um:List (Str×RF):=("_law_alike",⟨2,5,["_law_found","_law_due"],false,js⟩)::ur
theorem Yk(T:Txt K mg):cq P w K mg base um:=by unfold um js;exact zy RR (r:=[]) (H:=hh) T.f14 (by nofun) (λ_ _ _ _ _ _=>tX λ_ _=>rfl) (λz=>(by cases z)) (by kernel_rfl) (ZX T) T.z T.c
def ut:List (Str×RF):=("_law_alike",⟨2,6,["_law_found","_law_due"],false,jw⟩)::um
theorem Qlt(T:Txt K mg):cq P w K mg base ut:=by unfold ut jw;exact zy RR (r:=[]) (H:=hh) T.f14 (by nofun) (λ_ _ _ _ _ _=>tX λ_ _=>rfl) (λz=>(by cases z)) (by kernel_rfl) (Yk T) T.z T.c
def t_:List (Str×RF):=("_law_alike",⟨2,7,["_law_found","_law_due"],false,ju⟩)::ut
theorem Tp(T:Txt K mg):cq P w K mg base t_:=by unfold t_ ju;exact zy RR (r:=[]) (H:=hh) T.f14 (by nofun) (λ_ _ _ _ _ _=>tX λ_ _=>rfl) (λz=>(by cases z)) (by kernel_rfl) (Qlt T) T.z T.c
def ua:List (Str×RF):=("_law_alike",⟨2,8,["_law_found","_law_due"],false,jy⟩)::t_
theorem Z9(T:Txt K mg):cq P w K mg base ua:=by unfold ua jy;exact zy RR (r:=[]) (H:=hh) T.f14 (by nofun) (λ_ _ _ _ _ _=>tX λ_ _=>rfl) (λz=>(by cases z)) (by kernel_rfl) (Tp T) T.z T.c
def uB:List (Str×RF):=("_law_alike",⟨2,9,["_law_found","_law_due"],false,jA⟩)::ua
theorem Zy(T:Txt K mg):cq P w K mg base uB:=by unfold uB jA;exact zy RR (r:=[]) (H:=hh) T.f14 (by nofun) (λ_ _ _ _ _ _=>tX λ_ _=>rfl) (λz=>(by cases z)) (by kernel_rfl) (Z9 T) T.z T.c
abbrev Gf:List (Str×RF):=uB
theorem Ks(T:Txt K mg):cq P w K mg base Gf:=Zy T
def Ey:List (Str×RF):=qE "_law_line_changed" (top 44) 4 1 jp Gf
theorem IX(T:Txt K mg):cq P w K mg base Ey:=qN RR hh 4 T.f15 (Ks T) T.z T.c
def F2:List (Str×RF):=qE "_law_hand_changed" (top 45) 3 2 jo Ey
theorem Mq(T:Txt K mg):cq P w K mg base F2:=qN RR hh 3 T.f16 (IX T) T.z T.c
def DD:List (Str×RF):=qE "_law_changed" (top 46) 2 3 jJ F2
theorem Mn(T:Txt K mg):cq P w K mg base DD:=qN RR hh 2 T.f17 (Mq T) T.z T.c
def Gc:List (Str×RF):=qE "_law_bad_row" (top 47) 1 1 jh DD
theorem KS(T:Txt K mg):cq P w K mg base Gc:=qN RR hh 1 T.f18 (Mn T) T.z T.c
def DS:List (Str×RF):=qE "_law_spoilt" (top 48) 3 2 jG Gc
theorem JQ(T:Txt K mg):cq P w K mg base DS:=qN RR hh 3 T.f19 (KS T) T.z T.c
def Ei:List (Str×RF):=qE "is_table" (top 12) 1 1 ji DS
theorem Ku(T:Txt K mg):cq P w K mg base Ei:=qN RR hh 1 T.f20 (JQ T) T.z T.c
def Gj:List (Str×RF):=qE "look_at_boards" (top 16) 1 2 jk Ei
theorem IG(T:Txt K mg):cq P w K mg base Gj:=qN RR hh 1 T.f21 (Ku T) T.z T.c
def Es:List (Str×RF):=qE "look_at_hand" (top 18) 3 2 jr Gj
theorem KU(T:Txt K mg):cq P w K mg base Es:=qN RR hh 3 T.f22 (IG T) T.z T.c
def A6:List (Str×RF):=qE "read_pair" (top 26) 1 2 jI Es
def ID:List (Str×RF):=qE "read_pair" (top 26) 1 2 jI La
theorem Gg(T:Txt K mg):iV P w K mg base ID/\cq P w K mg base A6:=yE (z:="NoText") (zf:="row") RR hh 1 T.f23 ⟨XM T,KU T⟩ (zt T) (λh=>bc h (by decide)) (λh=>bc rfl h) T.z T.c
theorem IL(T:Txt K mg):cq P w K mg base A6:=(Gg T).2
theorem VV(T:Txt K mg):iV P w K mg base ID:=(Gg T).1
def A5:List (Str×RF):=qE "read_line" (top 33) 2 3 jH A6
def J7:List (Str×RF):=qE "read_line" (top 33) 2 3 jH ID
theorem DN(T:Txt K mg):iV P w K mg base J7/\cq P w K mg base A5:=yE (z:="NoTable") (zf:="at") RR hh 2 T.f24 ⟨VV T,IL T⟩ (xr T) (λ_=>CH T) (λ_=>zt T) T.z T.c
theorem Ix(T:Txt K mg):cq P w K mg base A5:=(DN T).2
theorem XX(T:Txt K mg):iV P w K mg base J7:=(DN T).1
def FN:List (Str×RF):=qE "look" (top 15) 1 3 yu A5
theorem Ko(T:Txt K mg):cq P w K mg base FN:=qN RR hh 1 T.f25 (Ix T) T.z T.c
def Co:List (Str×RF):=qE "read_state" (top 25) 1 3 jC FN
def Kq:List (Str×RF):=qE "read_state" (top 25) 1 3 jC J7
theorem E3(T:Txt K mg):iV P w K mg base Kq/\cq P w K mg base Co:=yE (z:="NoText") (zf:="row") RR hh 1 T.f26 ⟨XX T,Ko T⟩ (zt T) (λh=>bc h (by decide)) (λh=>bc rfl h) T.z T.c
theorem JN(T:Txt K mg):cq P w K mg base Co:=(E3 T).2
theorem Ze(T:Txt K mg):iV P w K mg base Kq:=(E3 T).1
def A7:List (Str×RF):=qE "read_hands" (top 32) 2 4 jE Co
def Il:List (Str×RF):=qE "read_hands" (top 32) 2 4 jE Kq
theorem FQ(T:Txt K mg):iV P w K mg base Il/\cq P w K mg base A7:=yE (z:="NoTable") (zf:="at") RR hh 2 T.f27 ⟨Ze T,JN T⟩ (xr T) (λ_=>CH T) (λ_=>zt T) T.z T.c
theorem Kw(T:Txt K mg):cq P w K mg base A7:=(FQ T).2
theorem T7(T:Txt K mg):iV P w K mg base Il:=(FQ T).1
def Cg:List (Str×RF):=qE "read_table" (top 24) 1 4 jF A7
def J4:List (Str×RF):=qE "read_table" (top 24) 1 4 jF Il
theorem Gn(T:Txt K mg):iV P w K mg base J4/\cq P w K mg base Cg:=yE (z:="NoText") (zf:="row") RR hh 1 T.f28 ⟨T7 T,Kw T⟩ (zt T) (λh=>bc h (by decide)) (λh=>bc rfl h) T.z T.c
theorem KG(T:Txt K mg):cq P w K mg base Cg:=(Gn T).2
theorem Ue(T:Txt K mg):iV P w K mg base J4:=(Gn T).1
def BH:List (Str×RF):=qE "read_board" (top 31) 2 5 jD Cg
def K3:List (Str×RF):=qE "read_board" (top 31) 2 5 jD J4
theorem Fm(T:Txt K mg):iV P w K mg base K3/\cq P w K mg base BH:=yE (z:="NoTable") (zf:="at") RR hh 2 T.f29 ⟨Ue T,KG T⟩ (xr T) (λ_=>CH T) (λ_=>zt T) T.z T.c
theorem Jy(T:Txt K mg):cq P w K mg base BH:=(Fm T).2
theorem VE(T:Txt K mg):iV P w K mg base K3:=(Fm T).1
def Cj:List (Str×RF):=qE "read_boards" (top 30) 1 6 jt BH
def L6:List (Str×RF):=qE "read_boards" (top 30) 1 6 jt K3
theorem Ew(T:Txt K mg):iV P w K mg base L6/\cq P w K mg base Cj:=yE (z:="NoTable") (zf:="at") RR hh 1 T.f30 ⟨VE T,Jy T⟩ (xr T) (λ_=>CH T) (λ_=>zt T) T.z T.c
theorem Jw(T:Txt K mg):cq P w K mg base Cj:=(Ew T).2
theorem YH(T:Txt K mg):iV P w K mg base L6:=(Ew T).1
def Bm:List (Str×RF):=qE "read_house" (top 29) 1 7 jd Cj
def M9:List (Str×RF):=qE "read_house" (top 29) 1 7 jd L6
theorem D4(T:Txt K mg):iV P w K mg base M9/\cq P w K mg base Bm:=yE (z:="NoTable") (zf:="at") RR hh 1 T.f31 ⟨YH T,Jw T⟩ (xr T) (λ_=>CH T) (λ_=>zt T) T.z T.c
theorem Lv(T:Txt K mg):cq P w K mg base Bm:=(D4 T).2
theorem Sq(T:Txt K mg):iV P w K mg base M9:=(D4 T).1
def Kh:List (Str×RF):=qE "_law_refused" (top 49) 2 9 jg Bm
theorem Lm(T:Txt K mg):cq P w K mg base Kh:=Rt (ys:=yy) RR hh 2 T.f32 (Sq T) (Lv T) (xr T) T.o T.z T.c
theorem yz{a:af}{b:bU}(F:tS K "law" "law" (top 50) a b)(T:Txt K mg):gO P w K mg base m9 11 a b ["_law_script"] (mU K 1 yp):=IH RR hh F (Lm T) T.z T.c
end
end My
namespace My
open MM
open PySem (Str)
theorem qA{s:aT}{n:Nat}{o:MO}(h:s[n]?=some o):n < s.length:=(aq.mp h).1
structure kU(s:aT)(p q:Nat):Prop where
 ne:p≠q
 ex:∃(x c k:Int)(ns:List Int),s[p]?=some (.lst [.ref q,.int x,.int c,.int k])/\s[q]?=some (.lst (ns.map D.int))/\0<=c/\0<=k/\ns.length<=63
structure Kept(p q:Nat)(s s':aT):Prop where
 le:s.length<=s'.length
 at_:∀n,n < s.length->n≠p->n≠q->s'[n]?=s[n]?
section
variable{p q:Nat}{s s1 s2:aT}{Q:D->aT->Prop}
theorem Kept.refl:Kept p q s s:=⟨az _,λ_ _ _ _=>rfl⟩
theorem Kept.trans(h:Kept p q s s1)(k:Kept p q s1 s2):Kept p q s s2:=⟨bv h.le k.le,λn g c b=>(k.at_ n (bp g h.le) c b).trans (h.at_ n g c b)⟩
theorem Kept.same{n:Nat}{o:MO}(h:Kept p q s s1)(c:n≠p)(b:n≠q)(g:s[n]?=some o):s1[n]?=some o:=(h.at_ n (qA g) c b).trans g
theorem Kept.snoc{o:MO}(h:Kept p q s s1):Kept p q s (s1++[o]):=h.trans ⟨by simp,λn b _ _=>aJ b⟩
theorem Kept.put{n:Nat}{o:MO}(h:Kept p q s s1)(l:s.length<=n):Kept p q s (s1.set n o):=
 ⟨by simp;exact h.le,λm g c b=>by rw[bn (by ext)];exact h.at_ m g c b⟩
theorem kU.lt(h:kU s p q):p < s.length/\q < s.length:=by obtain⟨x,c,k,ns,a,b,_⟩:=h.ex;exact⟨qA a,qA b⟩
theorem kU.snoc{o:MO}(h:kU s p q):kU (s++[o]) p q:=by obtain⟨x,c,k,ns,a,b,r⟩:=h.ex;exact⟨h.ne,x,c,k,ns,by rw[aJ (qA a)];exact a,by rw[aJ (qA b)];exact b,r⟩
theorem kU.put{n:Nat}{o:MO}(h:kU s p q)(l:n≠p)(g:n≠q):kU (s.set n o) p q:=by obtain⟨x,c,k,ns,a,b,r⟩:=h.ex;exact⟨h.ne,x,c,k,ns,by rw[bn l];exact a,by rw[bn g];exact b,r⟩
theorem Vq{k:Int}(hp:kU s p q)(o:0 < k)(O:k < 1073741824)(h:∀r s',0<=r->r < k->kU s' p q->Kept p q s s'->Q (.int r) s'):wp (ja [.ref p,.int k]) Q s:=by
 obtain⟨x,c,j,ns,e1,e2,hc,hj,hns⟩:=hp.ex;have L:=hp.ne;have lp:=qA e1;have m2:∀a b:Int,0<=b->b < 10000000000->rH a b:=λa b h1 h2=>.inr ⟨by ext,by ext⟩;have m1:∀a b:Int,0<=a->a < 10000000000->rH a b:=λa b h1 h2=>.inl ⟨by ext,by ext⟩;have pw:∀Q s,wp (wL (.int 10) (.int 18)) Q s=Q (.int 1000000000000000000) s:=λQ s=>by unfold wL tL;rw[eA,cO];exact propext ⟨λh=>h.2,λh=>⟨by decide,h⟩⟩
 generalize (1000000000000000000:Int)=big at pw;have E:∀l,(s.set p (MO.lst l))[p]?=some (.lst l):=λl=>bC lp;have U:∀l,(s.set p (MO.lst l))[q]?=some (.lst (ns.map D.int)):=λl=>by rw[bn L];exact e2
 have ss:∀l l',(s.set p (MO.lst l)).set p (MO.lst l')=s.set p (.lst l'):=λl l'=>Dz ..;have g0:∀Q,wp (getL p) Q s=Q [.ref q,.int x,.int c,.int j] s:=λQ=>ka e1;have g0q:∀Q,wp (getL q) Q s=Q (ns.map D.int) s:=λQ=>ka e2;have u0:∀C Q,wp (putL p C) Q s=Q () (s.set p (.lst C)):=λC Q=>Aq e1;have g1:∀l Q,wp (getL p) Q (s.set p (MO.lst l))=Q l (s.set p (MO.lst l)):=λl Q=>ka (E l);have g2:∀l Q,wp (getL q) Q (s.set p (MO.lst l))=Q (ns.map D.int) (s.set p (MO.lst l)):=λl Q=>ka (U l);have Y:∀l C Q,wp (putL p C) Q (s.set p (MO.lst l))=Q () (s.set p (.lst C)):=λl C Q=>by rw[Aq (E l),ss]
 have kp:∀l,Kept p q s (s.set p (MO.lst l)):=λl=>⟨by simp,λn hn hp' hq=>by rw[bn (dP hp')]⟩
 have pt:∀G c' g,0<=c'->0<=g->kU (s.set p (MO.lst [.ref q,.int G,.int c',.int g])) p q:=λG c' g h1 h2=>⟨L,G,c',g,ns,E _,U _,h1,h2,hns⟩
 have ix2:pO 4 2=some 2:=rfl;have J:pO 4 1=some 1:=rfl;have ix3:pO 4 3=some 3:=rfl;have st2:∀v,[D.ref q,.int x,.int c,.int j].set 2 v=[.ref q,.int x,v,.int j]:=λv=>rfl;have I:∀a b d v,[D.ref q,a,b,d].set 1 v=[.ref q,v,b,d]:=λa b d v=>rfl;have sx3:∀a b d v,[D.ref q,a,b,d].set 3 v=[.ref q,a,b,v]:=λa b d v=>rfl;have i3:∀(a b d:D)(Q:D->aT->Prop)s,wp (dM [.ref q,a,b,d] 3) Q s=Q d s:=λa b d Q s=>oT (i:=3) rfl;have u:∀(cell G g:Int),0<=g->wp (aF (bY (aU 4) (c2 lL (c2 bQ (c2 bQ (c2 mT (am 3) (ay (.int 48271))) (c2 mT (ay (.int 7919)) (c2 bz (am 0) (ay (.int 2))))) (ay (.int 5))) (ay (.int 2147483647))))
  (aF (bY (aU 4) (c2 lL (c2 bQ (c2 mT (am 4) (am 4)) (c2 mT (ay (.int 104729)) (c2 bz (am 0) (ay (.int 2))))) (ay (.int 2147483629))))
  (aF (bY (aU 4) (c2 lL (c2 bQ (c2 mT (am 4) (ay (.int 69621))) (ay (.int 16807))) (ay (.int 2147483587))))
  (aF (cH (c2 lL (c2 lL (c2 mT (am 4) (am 4)) (ay (.int 2147483579))) (am 1)))
  aH))) [some (.ref p),some (.int k),none,some (.int cell),none]) (λf s'=>wp (vi f) Q s') (s.set p (.lst [.ref q,.int G,.int (c+1),.int g])):=λcell G g hk'=>by
  simp![↓g1];have y0:=fG (cell*48271+7919*(c+1)+5) (show (2147483647:Int)≠0 by ext);have y1:=eJ (cell*48271+7919*(c+1)+5) (show (0:Int) < 2147483647 by ext);generalize (cell*48271+7919*(c+1)+5) % 2147483647=y at y0 y1 ⊢;have z0:=fG (y*y+104729*(c+1)) (show (2147483629:Int)≠0 by ext);have z1:=eJ (y*y+104729*(c+1)) (show (0:Int) < 2147483629 by ext);generalize (y*y+104729*(c+1)) % 2147483629=z at z0 z1 ⊢;have v0:=fG (z*69621+16807) (show (2147483587:Int)≠0 by ext);have v1:=eJ (z*69621+16807) (show (0:Int) < 2147483587 by ext);generalize (z*69621+16807) % 2147483587=v at v0 v1 ⊢;exact⟨m2 _ _ (by ext) (by ext),m1 _ _ (by ext) (by ext),m2 _ _ (by ext) (by ext),m1 _ _ (by ext) (by ext),m2 _ _ (by ext) (by ext),m2 _ _ (by ext) (by ext),o,h _ _ (fG _ (by ext)) (eJ _ o) (pt _ _ _ (by ext) hk') (kp _)⟩
 (simp![ja];simp![yq,↓g0,↓u0,cQ,fC,Nat.reduceAdd,ix2,st2,↓g1,↓g2,↓Y])
 by_cases cx:0 < x
 ·rw[aE cx];simp![J,I,↓Y];exact⟨o,⟨o,O⟩,h _ _ (fG _ (by ext)) (eJ _ o) (pt _ _ _ (by ext) hj) (kp _)⟩
 rw[aA cx];by_cases cj:j < (ns.length:Int)
 ·obtain⟨H,rfl⟩:∃n:Nat,j=n:=⟨j.toNat,(iu hj).symm⟩
  have b:H < ns.length:=by ext
  have ij:∀(Q:D->aT->Prop)s,wp (dM (ns.map D.int) (H:Int)) Q s=Q (.int ns[H]) s:=λQ s=>oT (by rw[aG,ar b];rfl);simp![↓i3,ai,cj,decide_true,if_true,↓g1,↓g2,↓ij,cQ,fC,Nat.reduceAdd,ix3,sx3,↓Y,↓pw];by_cases cb:big<=ns[H]
  ·rw[aE cb];simp![↓g1,cQ,fC,Nat.reduceAdd,J,I,↓Y];exact⟨⟨o,O⟩,o,h _ _ (fG _ (by ext)) (eJ _ o) (pt _ _ _ (by ext) (by ext)) (kp _)⟩
  ·rw[aA cb];refine Eq.mp ?_ (u ns[H] x (H+1) (by ext));simp![↓g1]
 ·simp![↓i3,ai,cj,decide_false,bf,if_false,↓g1,↓g2];by_cases o:0 < (ns.length:Int)
  ·rw[aE o];have l:=fG (c+1) (show (ns.length:Int)≠0 by ext);have v:=eJ (c+1) o;obtain⟨b,g⟩:∃n:Nat,(c+1) % (ns.length:Int)=n:=⟨((c+1) % (ns.length:Int)).toNat,(iu l).symm⟩
   have h:b < ns.length:=by ext
   have ij:∀(Q:D->aT->Prop)s,wp (dM (ns.map D.int) (b:Int)) Q s=Q (.int ns[b]) s:=λQ s=>oT (by rw[aG,ar h];rfl);simp![↓g1,↓g2,ai,g,↓ij];refine⟨by ext,?_⟩;refine Eq.mp ?_ (u ns[b] x j hj);simp![↓g1]
  ·rw[aA o];refine Eq.mp ?_ (u 7 x j hj);simp![↓g1]
end
open PySem (Str)
noncomputable def uf(S:Nat)(d:D):Prop:=∃a b:Int,d=.tup [.int a,.int b]/\0<=a/\a < S/\0<=b/\b < 4
def rE(S n:Nat)(d:D):Prop:=∃ps,d=.tup ps/\ps.length=n/\∀p∈ps,uf S p
def wT(d:D):Prop:=∃(S n:Nat)(b:List D),d=.tup b/\b.length=S/\1<=S/\S<=4/\1<=n/\n<=4/\∀r∈b,rE S n r
def fq(S dn:Nat)(nx un:Nat->Nat->Nat):D:=.tup (b5 S λs=>.tup (b5 dn λd=>.tup [.int (nx s d:Nat),.int (un s d:Nat)]))
noncomputable def on(S dn:Nat)(nx un:Nat->Nat->Nat):Prop:=1<=S/\S<=4/\1<=dn/\dn<=4/\∀s d,s < S->d < dn->nx s d < S/\un s d < 4
theorem RU{t:D}(h:wT t):∃S dn nx un,t=fq S dn nx un/\on S dn nx un:=by
 obtain⟨S,dn,b,U,O,H,G,E,C,J⟩:=h;have key:∀s:Nat,∃p:Nat->Nat×Nat,s < S->b[s]?=some (.tup (b5 dn λd=>.tup [.int ((p d).1:Nat),.int ((p d).2:Nat)]))/\∀d,d < dn->(p d).1 < S/\(p d).2 < 4:=by
  intro s;by_cases hs:s < S
  ·have c:s < b.length:=by ext
   obtain⟨ds,e,v,L⟩:=J b[s] (cR c);have o:∀d:Nat,∃p:Nat×Nat,d < dn->ds[d]?=some (.tup [.int (p.1:Nat),.int (p.2:Nat)])/\p.1 < S/\p.2 < 4:=by
    intro d;by_cases hd:d < dn
    ·have l:d < ds.length:=by ext
     obtain⟨g,u,Y,Q,g1,I,C⟩:=L ds[d] (cR l);refine⟨(g.toNat,u.toNat),λ_=>⟨?_,by show g.toNat < S;ext,by show u.toNat < 4;ext⟩⟩;rw[ar l,Y,iu Q,iu I]
    ·exact⟨(0,0),λh=>(hd h).elim⟩
   refine⟨λd=>lB (o d),λ_=>⟨?_,λd hd=>(iN (o d) hd).2⟩⟩;rw[ar c,e];congr 2;exact Mf v λd hd=>(iN (o d) hd).1
  ·exact⟨λ_=>(0,0),λh=>(hs h).elim⟩
 refine⟨S,dn,λs d=>(lB (key s) d).1,λs d=>(lB (key s) d).2,?_,H,G,E,C,λs d hs hd=>(iN (key s) hs).2 d hd⟩;rw[U];unfold fq;congr 1;exact Mf O λs hs=>(iN (key s) hs).1
section
variable{p q:Nat}{s s1 s2:aT}{Q:D->aT->Prop}
noncomputable def PK(p q:Nat)(s s':aT):Prop:=kU s' p q/\Kept p q s s'
theorem PK.refl(h:kU s p q):PK p q s s:=⟨h,Kept.refl⟩
theorem lV{k:Int}(l:PK p q s s1)(v:0 < k)(c:k < 1073741824)(h:∀r s',0<=r->r < k->PK p q s s'->Kept p q s1 s'->Q (.int r) s'):wp (ja [.ref p,.int k]) Q s1:=
 Vq l.1 v c λr s' u o b g=>h r s' u o ⟨b,l.2.trans g⟩ g
theorem PK.snoc{o:MO}(h:PK p q s s1):PK p q s (s1++[o]):=⟨h.1.snoc,h.2.snoc⟩
theorem PK.put{n:Nat}{o:MO}(h:PK p q s s1)(g:s.length<=n)(c:n≠p)(b:n≠q):PK p q s (s1.set n o):=⟨h.1.put c b,h.2.put g⟩
end
open PySem (Str)
section
variable{p q:Nat}{s s1 s2:aT}{Q:D->aT->Prop}
theorem oC{r:Int}(h:0<=r):∃n:Nat,r=n:=⟨r.toNat,(iu h).symm⟩
theorem zH{n:Nat}(h:n<=1000):(-(2^62)<=(n:Int)/\(n:Int) < 2^62):=by ext
noncomputable def Iw(n:Nat)(d:D):Prop:=∃i:Int,1<=i/\i<=n/\d=.int i
theorem P5{n:Nat}:∀d∈gG 1 n,Iw n d:=λd hd=>by unfold gG at hd;obtain⟨i,b,e⟩:=cZ.mp hd;have:=fT.mp b;exact⟨1+(i:Int),by ext,by ext,e.symm⟩
theorem GY{lo:Int}{n:Nat}:(gG lo n).length=n:=by simp[gG]
theorem UY(hp:PK p q s s1)(h:∀t s',wT t->PK p q s s'->Kept p q s1 s'->Q t s'):wp (jB [.ref p]) Q s1:=by
 have l2:2<=eK:=eT (by ext)
 (simp![jB];simp![jW])
 refine lV hp (by ext) (by ext) λu t1 Y a1 h1 w1=>?_;simp![];refine lV h1 (by ext) (by ext) λo t2 U b1 h2 H=>?_;simp![];refine lV h2 (by ext) (by ext) λl t3 c0 c1 h3 G=>?_;obtain⟨u,rfl⟩:=oC Y;obtain⟨o,rfl⟩:=oC U;obtain⟨l,rfl⟩:=oC c0;have e1:(1+(u:Int))=((1+u:Nat):Int):=by ext
 have e2:(1+(o:Int))=((1+o:Nat):Int):=by ext
 have e3:(1+(l:Int))=((1+l:Nat):Int):=by ext
 simp![e1,e2,e3];have m1:1<=1+u/\1+u<=4:=by ext
 have n1:1<=1+o/\1+o<=4:=by ext
 have k1:1<=1+l/\1+l<=4:=by ext
 generalize 1+u=m at m1;generalize 1+o=n at n1;generalize 1+l=k at k1;have v:=w1.trans (H.trans G);simp![gL,bI,pK];refine⟨zH (by ext),eT (by ext),?_⟩;refine vQ (wl m) (rE m n) (λs'=>PK p q s s'/\Kept p q s1 s') (λ_ _=>trivial) ⟨h3,v⟩ xN (λd s' _ c=>?_) (λC s' E O c=>?_)
 ·obtain⟨g,w⟩:=c;simp![gL,bI,pK];refine⟨zH (by ext),eT (by ext),?_⟩;refine vQ (wl n) (uf m) (λs'=>PK p q s s'/\Kept p q s1 s') (λ_ _=>trivial) ⟨g,w⟩ xN (λd s' _ c=>?_) (λI s' E O c=>?_)
  ·obtain⟨g,w⟩:=c;simp![l2];refine lV g (by ext) (by ext) λa s2 Y a1 L H=>?_;simp![];refine lV L (by ext) (by ext) λb h U b1 J G=>?_;simp![l2];exact⟨⟨a,b,rfl,Y,a1,U,by ext⟩,J,(w.trans H).trans G⟩
  ·obtain⟨g,w⟩:=c;rw[pK]at E;simp![];exact⟨⟨I,rfl,E,O⟩,g,w⟩
 ·obtain⟨g,w⟩:=c;rw[pK]at E;simp![];exact h _ _ ⟨m,n,C,rfl,E,m1.1,by ext,n1.1,by ext,O⟩ g w
theorem WR(hp:PK p q s s1)(h:∀S dn nx un s',on S dn nx un->PK p q s s'->Kept p q s1 s'->Q (fq S dn nx un) s'):wp (jP [.ref p]) Q s1:=by
 have L:2<=eK:=eT (by ext);have l1:1<=eK:=eT (by ext);have hI:∀t s',wT t->PK p q s s'->Kept p q s1 s'->Q t s':=λt s' ht I w=>by obtain⟨S,dn,nx,un,e,ok⟩:=RU ht;rw[e];exact h S dn nx un s' ok I w
 (simp![jP];simp![yo])
 refine lV hp (by ext) (by ext) λJ t1 a0 a1 h1 w1=>?_;simp![];refine lV h1 (by ext) (by ext) λr2 C b0 b1 h2 w2=>?_;obtain⟨J,rfl⟩:=oC a0;have e2:(1+(J:Int))=((1+J:Nat):Int):=by ext
 have n1:1<=1+J/\1+J<=3:=by ext
 rw[e2];simp![];generalize 1+J=n at n1;have G:=w1.trans w2;have hb:=zH (n:=n) (by ext);have O:n<=eK:=eT (by ext);have H:n+1<=eK:=eT (by ext);have en:((n:Int)+1-1).toNat=n:=by ext
 have em:((n:Int)+1)=((n+1:Nat):Int):=by ext
 by_cases c0:r2=0
 ·subst c0;simp![decide_true,if_true,gL,en,GY];refine⟨⟨⟨by ext,by ext⟩,by ext,by ext⟩,O,?_⟩;refine vQ (Iw n) (uf (n+1)) (λs'=>C=s') (λ_ _=>trivial) rfl P5 (λd s' l o=>?_) (λc s' v E o=>?_)
  ·obtain⟨i,I,H,e⟩:=l;subst e o;simp![L];exact⟨i,i,rfl,by ext,by ext,by ext,by ext⟩
  subst o;rw[GY]at v;simp![l1,gL,en,GY];refine⟨⟨⟨by ext,by ext⟩,by ext,by ext⟩,O,?_⟩;refine vQ (Iw n) (rE (n+1) n) (λs'=>C++[.lst [.tup c]]=s') (λ_ _=>trivial) rfl P5 (λd s' l o=>?_) (λb s' Y u o=>?_)
  ·obtain⟨i,I,H,e⟩:=l;subst e o;simp![gL,bI,pK];refine⟨hb,O,?_⟩;refine vQ (wl n) (uf (n+1)) (λs'=>C++[MO.lst [.tup c]]=s') (λ_ _=>trivial) rfl xN (λd s' l o=>?_) (λps s' v E o=>?_)
   ·subst o;simp![L];exact⟨i,i,rfl,by ext,by ext,by ext,by ext⟩
   ·subst o;rw[pK]at v;simp![];exact⟨ps,rfl,v,E⟩
  subst o;rw[GY]at Y;have ad:∀Q:D->aT->Prop,wp (bQ (.ref C.length) (.ref (C++[MO.lst [.tup c]]).length)) Q (C++[MO.lst [.tup c]]++[MO.lst b])=([D.tup c].length+b.length<=eK/\Q (.ref (C++[MO.lst [.tup c]]++[MO.lst b]).length) (C++[MO.lst [.tup c]]++[MO.lst b]++[.lst ([.tup c]++b)])):=λQ=>B9 (by simp) (by simp);have g:∀Q:List D->aT->Prop,wp (getL (C++[MO.lst [D.tup c]]++[MO.lst b]).length) Q (C++[MO.lst [.tup c]]++[MO.lst b]++[.lst ([.tup c]++b)])=Q ([.tup c]++b) (C++[MO.lst [.tup c]]++[MO.lst b]++[.lst ([.tup c]++b)]):=λQ=>ka (by simp);simp![↓ad,↓g];refine⟨eT (by ext),hI _ _ ⟨n+1,n,_,rfl,by simp[Y],by ext,by ext,n1.1,by ext,λr h=>?_⟩ h2.snoc.snoc.snoc G.snoc.snoc.snoc⟩;rcases aI.mp h with e|h
  ·exact⟨c,e,v,E⟩
  ·exact u r h
 by_cases c1:r2=1
 ·subst c1;simp![Int.reduceEq,decide_true,decide_false,bf,if_false,if_true,gL,bI,pK];refine⟨hb,O,?_⟩;refine vQ (wl n) (rE n (n+1)) (λs'=>PK p q s s'/\Kept p q s1 s') (λ_ _=>trivial) ⟨h2,G⟩ xN (λd s' l c=>?_) (λb s' v E c=>?_)
  ·obtain⟨i,hi,e⟩:=l;obtain⟨I,w⟩:=c;subst e;simp![L,l1,gL,bI,pK];refine⟨hb,O,?_⟩;refine vQ (wl n) (uf n) (λu=>s'++[MO.lst [.tup [.int i,.int i]]]=u) (λ_ _=>trivial) rfl xN (λd u l o=>?_) (λps u v E o=>?_)
   ·obtain⟨j,hj,e⟩:=l;subst e o;simp![L];exact⟨j,0,rfl,by ext,by ext,by ext,by ext⟩
   ·subst o;rw[pK]at v;have ad:∀Q:D->aT->Prop,wp (bQ (.ref s'.length) (.ref (s'++[MO.lst [D.tup [.int i,.int i]]]).length)) Q (s'++[MO.lst [.tup [.int i,.int i]]]++[MO.lst ps])=([D.tup [.int i,.int i]].length+ps.length<=eK/\Q (.ref (s'++[MO.lst [D.tup [.int i,.int i]]]++[MO.lst ps]).length) (s'++[MO.lst [.tup [.int i,.int i]]]++[MO.lst ps]++[.lst ([.tup [.int i,.int i]]++ps)])):=λQ=>B9 (by simp) (by simp);have g:∀Q:List D->aT->Prop,wp (getL (s'++[MO.lst [D.tup [.int i,.int i]]]++[MO.lst ps]).length) Q (s'++[MO.lst [.tup [.int i,.int i]]]++[MO.lst ps]++[.lst ([.tup [.int i,.int i]]++ps)])=Q ([.tup [.int i,.int i]]++ps) (s'++[MO.lst [.tup [.int i,.int i]]]++[MO.lst ps]++[.lst ([.tup [.int i,.int i]]++ps)]):=λQ=>ka (by simp);simp![↓ad,↓g];refine⟨eT (by ext),⟨_,rfl,by simp[v],λx U=>?_⟩,I.snoc.snoc.snoc,w.snoc.snoc.snoc⟩;rcases aI.mp U with e|U
    ·exact⟨i,i,e,by ext,by ext,by ext,by ext⟩
    ·exact E x U
  ·obtain⟨I,w⟩:=c;rw[pK]at v;simp![];exact hI _ _ ⟨n,n+1,b,rfl,v,by ext,by ext,by ext,by ext,E⟩ I w
 by_cases c2:r2=2
 ·subst c2;simp![Int.reduceEq,decide_true,decide_false,bf,if_false,if_true,gL,em,bI,pK];refine⟨zH (by ext),H,?_⟩;refine vQ (wl (n+1)) (rE (n+1) (n+1)) (λs'=>C=s') (λ_ _=>trivial) rfl xN (λd s' l o=>?_) (λb s' v E o=>?_)
  ·obtain⟨i,hi,e⟩:=l;subst e o;simp![gL,em,bI,pK];refine⟨zH (by ext),H,?_⟩;refine vQ (wl (n+1)) (uf (n+1)) (λs'=>C=s') (λ_ _=>trivial) rfl xN (λd s' l o=>?_) (λps s' v E o=>?_)
   ·obtain⟨j,hj,e⟩:=l;subst e o;simp![L];exact⟨j,i,rfl,by ext,by ext,by ext,by ext⟩
   ·subst o;rw[pK]at v;simp![];exact⟨ps,rfl,v,E⟩
  ·subst o;rw[pK]at v;simp![];exact hI _ _ ⟨n+1,n+1,b,rfl,v,by ext,by ext,by ext,by ext,E⟩ h2 G
 by_cases c3:r2=3
 ·subst c3;simp![Int.reduceEq,decide_true,decide_false,bf,if_false,if_true,gL,em,bI,pK];refine⟨zH (by ext),H,?_⟩;refine vQ (wl (n+1)) (rE (n+1) 1) (λs'=>C=s') (λ_ _=>trivial) rfl xN (λd s' l o=>?_) (λb s' v E o=>?_)
  ·obtain⟨i,hi,e⟩:=l;subst e o;simp![L,l1];refine⟨by ext,_,rfl,rfl,λx U=>?_⟩;exact⟨_,_,aC.mp U,fG _ (by ext),eJ _ (by ext),by ext,by ext⟩
  ·subst o;rw[pK]at v;simp![];exact hI _ _ ⟨n+1,1,b,rfl,v,by ext,by ext,by ext,by ext,E⟩ h2 G
 simp![c0,c1,c2,c3,decide_false,bf,if_false];exact UY h2 λt s' ht I w=>by simp![];exact hI t s' ht I (G.trans w)
end
open PySem (Str)
structure Bd where
 S:Nat
 dn:Nat
 nx:Nat->Nat->Nat
 un:Nat->Nat->Nat
 st:Nat
inductive Ln where
 |settle (v:Nat)
 |act (b d:Nat) (gs:List Nat)
structure Hd where
 b0:Nat
 b1:Nat
 lines:List Ln
structure Hs where
 boards:List Bd
 hands:List Hd
noncomputable def eZ(n:Nat):D:=.int (n:Int)
def mV(b:Bd):D:=.tup [fq b.S b.dn b.nx b.un,eZ b.st]
def pZ:Ln->D
 | .settle v=>.tup [.str "settle",eZ v]
 | .act b d gs=>.tup [.str "do",eZ b,eZ d,.tup (gs.map eZ)]
def pM(h:Hd):D:=.tup [.tup [eZ h.b0,eZ h.b1],.tup (h.lines.map pZ)]
def sD(h:Hs):D:=.tup [.tup (h.boards.map mV),.tup (h.hands.map pM)]
def zT(b:Bd):Prop:=on b.S b.dn b.nx b.un/\b.st < b.S
def wM(bs:List Bd)(m:Nat):Ln->Prop
 | .settle v=>v < 2
 | .act b d gs=>∃c,bs[b]?=some c/\d < c.dn/\gs.length=1+mx (c.un · d) c.S/\∀g∈gs,g < m
def BC(bs:List Bd)(h:Hd):Prop:=h.b0 < h.lines.length/\h.b1 < h.lines.length/\h.lines.length<=12/\∀l∈h.lines,wM bs h.lines.length l
def zA(h:Hs):Prop:=h.boards.length<=7/\(∀b∈h.boards,zT b)/\2<=h.hands.length/\h.hands.length<=3/\∀x∈h.hands,BC h.boards x
section
variable{p q:Nat}{s s1 s2:aT}{Q:D->aT->Prop}
theorem OD{S n:Nat}{nx un:Nat->Nat->Nat}:wp (dL (fq S n nx un)) Q s=Q (.int S) s:=by unfold fq;rw[ue,n5]
theorem SY{S n:Nat}{nx un:Nat->Nat->Nat}(h:0 < S):wp (bz (fq S n nx un) (.int 0)) Q s=Q (.tup (b5 n λd=>.tup [.int (nx 0 d:Nat),.int (un 0 d:Nat)])) s:=by unfold fq;rw[rY,G_ h]
end
open PySem (Str)
section
variable{p q:Nat}{s s1 s2:aT}{Q:D->aT->Prop}
def AA(bs:List Bd)(m:Nat)(d:D):Prop:=∃l,d=pZ l/\wM bs m l
theorem P_{bs:List Bd}{m:Nat}:∀{ds:List D},(∀d∈ds,AA bs m d)->∃c:List Ln,ds=c.map pZ/\∀l∈c,wM bs m l
 |[],_=>⟨[],rfl,λl h=>bc h (by simp)⟩
 |d::ds,h=>by
  obtain⟨l,e,g⟩:=h d (by simp);obtain⟨c,u,o⟩:=P_ (ds:=ds) λx b=>h x (by simp[b]);refine⟨l::c,by rw[e,u];rfl,λx b=>?_⟩;rcases aI.mp b with b|b
  ·rw[b];exact g
  ·exact o x b
theorem M0{P:Nat->Prop}:∀{ds:List D},(∀d∈ds,∃n:Nat,d=eZ n/\P n)->∃ns:List Nat,ds=ns.map eZ/\∀n∈ns,P n
 |[],_=>⟨[],rfl,λl h=>bc h (by simp)⟩
 |d::ds,h=>by
  obtain⟨l,e,g⟩:=h d (by simp);obtain⟨c,u,o⟩:=M0 (ds:=ds) λx b=>h x (by simp[b]);refine⟨l::c,by rw[e,u];rfl,λx b=>?_⟩;rcases aI.mp b with b|b
  ·rw[b];exact g
  ·exact o x b
def OH(d:D):Prop:=∃b,d=mV b/\zT b
def PP(bs:List Bd)(d:D):Prop:=∃h,d=pM h/\BC bs h/\h.lines.length<=8
theorem QT:∀{ds:List D},(∀d∈ds,OH d)->∃c:List Bd,ds=c.map mV/\∀l∈c,zT l
 |[],_=>⟨[],rfl,λl h=>bc h (by simp)⟩
 |d::ds,h=>by
  obtain⟨l,e,g⟩:=h d (by simp);obtain⟨c,u,o⟩:=QT (ds:=ds) λx b=>h x (by simp[b]);refine⟨l::c,by rw[e,u];rfl,λx b=>?_⟩;rcases aI.mp b with b|b
  ·rw[b];exact g
  ·exact o x b
theorem Nb{bs:List Bd}:∀{ds:List D},(∀d∈ds,PP bs d)->∃c:List Hd,ds=c.map pM/\∀l∈c,BC bs l/\l.lines.length<=8
 |[],_=>⟨[],rfl,λl h=>bc h (by simp)⟩
 |d::ds,h=>by
  obtain⟨l,e,g⟩:=h d (by simp);obtain⟨c,u,o⟩:=Nb (ds:=ds) λx b=>h x (by simp[b]);refine⟨l::c,by rw[e,u];rfl,λx b=>?_⟩;rcases aI.mp b with b|b
  ·rw[b];exact g
  ·exact o x b
theorem Zc{bs:List Bd}{l m:Nat}(hp:PK p q s s1)(hg:s1[l]?=some (.lst (bs.map mV)))(G:l≠p)(E:l≠q)(hb:∀b∈bs,zT b)(hbl:bs.length<=7)(hm1:1<=m)(hm2:m<=12)
  (h:∀ln s',wM bs m ln->PK p q s s'->Kept p q s1 s'->Q (pZ ln) s'):wp (jS [.ref p,.ref l,.int m]) Q s1:=by
 have L:2<=eK:=eT (by ext);have l4:4<=eK:=eT (by ext);have g1:∀Q,wp (getL l) Q s1=Q (bs.map mV) s1:=λQ=>ka hg
 (simp![jS];simp![yt,↓g1,ai])
 by_cases c0:(bs.length:Int)=0
 ·simp![c0,L,if_true,decide_true];refine lV hp (by ext) (by ext) λv J v0 v1 g O=>?_;obtain⟨v,rfl⟩:=oC v0;simp![L];exact h (.settle v) J (by show v < 2;ext) g O
 simp![c0,if_false,decide_false,bf];refine lV hp (by ext) (by ext) λr t a0 a1 h1 I=>?_;by_cases c1:r=0
 ·simp![c1,L,if_true,decide_true];refine lV h1 (by ext) (by ext) λv J v0 v1 g O=>?_;obtain⟨v,rfl⟩:=oC v0;simp![L];exact h (.settle v) J (by show v < 2;ext) g (I.trans O)
 have g2:∀Q,wp (getL l) Q t=Q (bs.map mV) t:=λQ=>ka (I.same G E hg);simp![c1,if_false,decide_false,bf,↓g2,ai];refine lV h1 (by ext) (by ext) λbi s2 bi0 bi1 hk2 v2=>?_;obtain⟨b,rfl⟩:=oC bi0;have H:b < bs.length:=by ext
 have C:bs[b]?=some bs[b]:=ar H;obtain⟨ok,U⟩:=hb bs[b] (cR H);generalize bs[b]=c at C ok U;have q2:∀Q,wp (getL l) Q s2=Q (bs.map mV) s2:=λQ=>ka ((I.trans v2).same G E hg);have q3:∀(Q:D->aT->Prop)s,wp (dM (bs.map mV) (b:Int)) Q s=Q (.tup [fq c.S c.dn c.nx c.un,eZ c.st]) s:=λQ s=>oT (by rw[aG,C];rfl);have t0:∀(Q:D->aT->Prop)s,wp (bz (fq c.S c.dn c.nx c.un) (.int 0)) Q s=Q (.tup (b5 c.dn λd=>.tup [.int (c.nx 0 d:Nat),.int (c.un 0 d:Nat)])) s:=λQ s=>SY ok.1;simp![↓q2,↓q3,↓t0,n5];have dn1:=ok.2.2.1;have dn2:=ok.2.2.2.1;refine lV hk2 (by ext) (by ext) λdd J dd0 dd1 g v3=>?_;obtain⟨d,rfl⟩:=oC dd0;have o:d < c.dn:=by ext
 have hS:=ok.1;have hS4:=ok.2.1;have lS:c.S<=eK:=eT (by ext);have mu:∀A s,wp (collect (aU 0) cD (c2 bz (c2 bz (am 0) (am 1)) (ay (.int 1))) eQ (b5 c.S λs=>.tup (b5 c.dn λd=>D.tup [.int (c.nx s d:Nat),.int (c.un s d:Nat)])) [none,some (.int d)]) A s=A (b5 c.S λi=>.int (c.un i d:Nat)) s:=λA s=>
  GW BW λi hi Q=>by simp![↓KN o]
 have mm:∀(Q:D->aT->Prop)s,wp (rX (b5 c.S λi=>.int (c.un i d:Nat))) Q s=Q (.int (mx (c.un · d) c.S:Nat)) s:=λQ s=>Pk (f:=(c.un · d)) (by ext);have hmx:mx (c.un · d) c.S<=3:=Lw λi hi=>by have:=(ok.2.2.2.2 i d hi o).2;ext
 have em:((mx (c.un · d) c.S:Nat):Int)+1=((1+mx (c.un · d) c.S:Nat):Int):=by ext
 have eu:fq c.S c.dn c.nx c.un=.tup (b5 c.S λs=>.tup (b5 c.dn λd=>D.tup [.int (c.nx s d:Nat),.int (c.un s d:Nat)])):=rfl;simp![eu,gL,n5,lS,↓mu,↓mm,em,bI,pK,l4];refine⟨zH (by ext),eT (by ext),?_⟩;refine vQ (wl (1+mx (c.un · d) c.S)) (λx=>∃n:Nat,x=eZ n/\n < m) (λu=>PK p q s u/\Kept p q s1 u) (λ_ _=>trivial) ⟨g,(I.trans v2).trans v3⟩ xN (λe u _ hW=>?_) (λgs u Y hP hW=>?_)
 ·obtain⟨hk,w⟩:=hW;simp![];refine lV hk (by ext) (by ext) λy l c h b g=>?_;obtain⟨y,rfl⟩:=oC c;exact⟨⟨y,rfl,by ext⟩,b,w.trans g⟩
 ·obtain⟨hk,w⟩:=hW;obtain⟨ns,l,g⟩:=M0 hP;rw[pK]at Y;subst l;rw[ai]at Y;simp![l4];exact h (.act b d ns) u ⟨c,C,o,Y,g⟩ hk w
theorem Sw(hp:PK p q s s1)(h:∀hs s',zA hs->hs.boards.length<=4->(∀x∈hs.hands,x.lines.length<=8)->PK p q s s'->Kept p q s1 s'->Q (sD hs) s'):wp (jO [.ref p,.int 4,.int 8]) Q s1:=by
 have l2:2<=eK:=eT (by ext);have pl:=hp.1.lt;have le:=hp.2.le
 (simp![jO];simp![yk,bJ])
 refine lV hp.snoc (by ext) (by ext) λr t a0 a1 h1 w1=>?_;obtain⟨r,rfl⟩:=oC a0;simp![bI];refine⟨zH (by ext),?_⟩;have lt1:=w1.le;simp at lt1;refine Ao (λi l s'=>∃(b:List D)(H G:Option D),l=[some (.ref p),some (.int 4),some (.int 8),some (.ref s1.length),H,G,none,none,none]/\s'[s1.length]?=some (.lst b)/\b.length=i/\(∀r∈b,OH r)/\PK p q s s'/\Kept p q s1 s') (λ_ _ _ _=>trivial)
  ⟨[],none,none,rfl,w1.same (by ext) (by ext) lT,rfl,λr L=>bc L (by simp),h1,Kept.refl.snoc.trans w1⟩ (λi d l s' hd o=>?_) (λl s' o=>?_)
 ·obtain⟨b,H,G,el,g,hl,L,hk,w⟩:=o;subst el;have hi:=(aq.mp hd).1;rw[pK]at hi;simp![];refine WR hk λS dn nx un s2 ok h2 I=>?_;have lt:∀(Q:D->aT->Prop)s,wp (dL (fq S dn nx un)) Q s=Q (.int S) s:=λQ s=>OD;have u:=ok.1;have l:=ok.2.1;simp![↓lt];refine lV h2 (by ext) (by ext) λst c b0 b1 h3 w3=>?_;obtain⟨st,rfl⟩:=oC b0;have h:=(I.trans w3).same (by ext) (by ext) g;have q1:∀Q,wp (getL s1.length) Q c=Q b c:=λQ=>ka h;have q2:∀Y Q,wp (putL s1.length Y) Q c=Q () (c.set s1.length (.lst Y)):=λY Q=>Aq h;simp![l2,↓q1,↓q2];refine⟨BB (by ext),_,_,_,rfl,bC (qA h),by simp[hl],λz hz=>?_,h3.put (by ext) (by ext) (by ext),((w.trans I).trans w3).put (by ext)⟩;rcases aZ.mp hz with hz|hz
  ·exact L z hz
  ·exact⟨⟨S,dn,nx,un,st⟩,aC.mp hz,ok,by show st < S;ext⟩
 ·obtain⟨b,H,G,el,g,hl,L,hk,w⟩:=o;subst el;rw[pK]at hl;obtain⟨bs,ebs,hbs⟩:=QT L;subst ebs;rw[ai]at hl;have lg:=qA g;simp![bJ];refine lV hk.snoc (by ext) (by ext) λm t2 b0 b1 h2 I=>?_;obtain⟨m,rfl⟩:=oC b0;have em:((2:Int)+(m:Int)).toNat=2+m:=by ext
  have lt2:=I.le;simp at lt2;simp![em];refine⟨⟨by ext,by ext⟩,?_⟩;refine Ao (λi l u=>∃(b:List D)(H G y7 y8:Option D),l=[some (.ref p),some (.int 4),some (.int 8),some (.ref s1.length),H,G,some (.ref s'.length),y7,y8]/\u[s1.length]?=some (.lst (bs.map mV))/\u[s'.length]?=some (.lst b)/\b.length=i/\(∀r∈b,PP bs r)/\PK p q s u/\Kept p q s1 u) (λ_ _ _ _=>trivial)
   ⟨[],H,G,none,none,rfl,I.same (by ext) (by ext) (qW g),I.same (by ext) (by ext) lT,rfl,λr L=>bc L (by simp),h2,w.snoc.trans I⟩ (λi d l u hd o=>?_) (λl u o=>?_)
  ·obtain⟨b,H,G,y7,y8,el,g1,g2,E,J,U,wu⟩:=o;subst el;have hi:=(aq.mp hd).1;rw[pK]at hi;simp![];refine lV U (by ext) (by ext) λc u1 c0 c1 h3 w3=>?_;obtain⟨c,rfl⟩:=oC c0;have ec:(1:Int)+(c:Int)=((1+c:Nat):Int):=by ext
   have c8:1<=1+c/\1+c<=8:=by ext
   simp![];rw[ec];generalize 1+c=cn at c8;refine lV h3 (by ext) (by ext) λe0 u2 d0 d1 h4 w4=>?_;simp![];refine lV h4 (by ext) (by ext) λe1 u3 f0 f1 h5 w5=>?_;obtain⟨e0,rfl⟩:=oC d0;obtain⟨e1,rfl⟩:=oC f0;simp![l2,gL,bI,pK];have W:=w3.trans (w4.trans w5);refine⟨zH (by ext),eT (by ext),?_⟩;refine vQ (wl cn) (AA bs cn) (λv=>v[s1.length]?=some (.lst (bs.map mV))/\v[s'.length]?=some (.lst b)/\PK p q s v/\Kept p q s1 v) (λ_ _=>trivial) ⟨W.same (by ext) (by ext) g1,W.same (by ext) (by ext) g2,h5,wu.trans W⟩ xN (λd v _ hW=>?_) (λls v O hP hW=>?_)
   ·obtain⟨v1,v2,u,h⟩:=hW;simp![];exact Zc u v1 (by ext) (by ext) hbs (by ext) c8.1 (by ext) λc l L b g=>⟨⟨c,rfl,L⟩,g.same (by ext) (by ext) v1,g.same (by ext) (by ext) v2,b,h.trans g⟩
   ·obtain⟨v1,v2,u,h⟩:=hW;rw[pK]at O;obtain⟨C,c,I⟩:=P_ hP;subst c;rw[ai]at O;have q1:∀Q,wp (getL s'.length) Q v=Q b v:=λQ=>ka v2;have q2:∀Y Q,wp (putL s'.length Y) Q v=Q () (v.set s'.length (.lst Y)):=λY Q=>Aq v2;simp![l2,↓q1,↓q2];refine⟨BB (by ext),_,_,_,_,_,rfl,?_,bC (qA v2),by simp[E],λz hz=>?_,u.put (by ext) (by ext) (by ext),h.put (by ext)⟩
    ·rw[bn (by ext)];exact v1
    ·rcases aZ.mp hz with hz|hz
     ·exact J z hz
     ·exact⟨⟨e0,e1,C⟩,aC.mp hz,⟨by show e0 < C.length;ext,by show e1 < C.length;ext,by show C.length<=12;ext,λl hl=>by show wM bs C.length l;rw[O];exact I l hl⟩,by show C.length<=8;ext⟩
  ·obtain⟨b,H,G,y7,y8,el,g1,g2,E,J,U,wu⟩:=o;subst el;rw[pK]at E;obtain⟨hs,l,c⟩:=Nb J;subst l;rw[ai]at E;have q1:∀Q,wp (getL s1.length) Q u=Q (bs.map mV) u:=λQ=>ka g1;have q2:∀Q,wp (getL s'.length) Q u=Q (hs.map pM) u:=λQ=>ka g2;simp![↓q1,↓q2,l2];exact h ⟨bs,hs⟩ u ⟨by show bs.length<=7;ext,hbs,by show 2<=hs.length;ext,by show hs.length<=3;ext,λx g=>(c x g).1⟩ (by show bs.length<=4;ext) (λx g=>(c x g).2) U wu
end
open PySem (Str)
noncomputable def ma(n:Nat)(x:Str):Prop:=x.length<=n/\∀c∈x.cps.toList,c < 128
noncomputable def rW(c:Nat):Bool:=decide (48<=c)&&decide (c<=57)
noncomputable def vt(cs:List Nat):Nat:=cs.foldl (λn c=>n*10+(c-48)) 0
def Cm(cs:List Nat):Option Nat:=if cs.length=0\/3 < cs.length\/(1 < cs.length/\cs[0]?=some 48) then none else if cs.all rW=true then some (vt cs) else none
def fe(x:Str):Option Nat:=Cm x.cps.toList
theorem RD:("0123456789":Str)=⟨#[48,49,50,51,52,53,54,55,56,57]⟩:=by nofun
theorem JX:("0":Str)=⟨#[48]⟩:=by nofun
theorem YI(c:Nat):(!(mB ("0123456789":Str) ⟨#[c]⟩ 0 ("0123456789":Str).length 1).isEmpty)=rW c:=by rw[PySem.StrLaws.found_one,RD];unfold rW;rw[<- qO,decide_eq_decide];simp;ext
theorem IE:∀a,a < 10->m6 ⟨#[48+a]⟩=some (a:Int):=by nofun
theorem Ll:∀a,a < 10->∀b,b < 10->m6 ⟨#[48+a,48+b]⟩=some ((a*10+b:Nat):Int):=by nofun
theorem Kz:∀a,a < 10->∀b,b < 10->∀c,c < 10->m6 ⟨#[48+a,48+b,48+c]⟩=some (((a*10+b)*10+c:Nat):Int):=by nofun
theorem Cc{c:Nat}(h:rW c=true):∃k,k < 10/\c=48+k:=by unfold rW at h;simp at h;exact⟨c-48,by ext,by ext⟩
theorem II(x:Str):x=⟨x.cps.toList.toArray⟩:=by cases x;simp
theorem RG{cs:List Nat}(G:cs.length≠0)(E:cs.length<=3)(h:cs.all rW=true):m6 ⟨cs.toArray⟩=some (vt cs:Int):=by
 match cs,G,E,h with
 |[a],_,_,h=>
  simp only[bG,t9,sS]at h;obtain⟨k,g,rfl⟩:=Cc h;rw[IE k g];simp[vt]
 |[a,b],_,_,h=>
  simp only[bG,t9,sS,aO]at h;obtain⟨u,o⟩:=h;obtain⟨k,g,rfl⟩:=Cc u;obtain⟨j,l,rfl⟩:=Cc o;rw[Ll k g j l];simp[vt]
 |[a,b,c],_,_,h=>
  simp only[bG,t9,sS,aO]at h;obtain⟨u,o,C⟩:=h;obtain⟨k,g,rfl⟩:=Cc u;obtain⟨j,l,rfl⟩:=Cc o;obtain⟨i,v,rfl⟩:=Cc C;rw[Kz k g j l i v];simp[vt]
section
variable{s s1 s2:aT}{Q:D->aT->Prop}
theorem PC{α:Type}{xs:List α}{f:α->D}:(b5 xs.length λi=>match xs[i]? with|some x=>f x|none=>.non)=xs.map f:=by
 apply pE;intro i;by_cases h:i < xs.length
 ·rw[AM h,aG,ar h];rfl
 ·rw[dq (by rw[n5];ext),dq (by rw[ai];ext)]
theorem EY{α:Type}{e:CE}{same:aT->Prop}{xs:List α}{g f:α->D}{caps:Loc}{Q:List D->aT->Prop}(hs:same s)(h:∀x∈xs,∀Q,wp (e (some (g x)::caps)) Q s=Q (f x) s):
  wp (collect (aU 0) cD e same (xs.map g) (none::caps)) Q s=Q (xs.map f) s:=by
 rw[JC (f:=λi=>match xs[i]? with|some x=>f x|none=>.non) hs λi d hd Q=>?_]
 ·rw[ai,PC]
 ·rw[aG]at hd;cases b:xs[i]? with
  |none=>rw[b]at hd;cases hd
  |some x=>rw[b]at hd;cases hd;exact h x (aX b) Q
theorem Nk{α:Type}{f:α->Bool}:∀{xs:List α},kE (xs.map λx=>.bl (f x))=some (xs.map f)
 |[]=>rfl
 |x::xs=>by show (kE (xs.map λx=>.bl (f x))).map (f x::·)=_;rw[Nk];rfl
theorem all_map{α:Type}{f:α->Bool}{xs:List α}:wp (oJ (xs.map λx=>.bl (f x))) Q s=Q (.bl (xs.all f)) s:=by unfold oJ;rw[Nk];dsimp only;rw[cO,t7];rfl
noncomputable def ly:Option Nat->D
 |some n=>.int (n:Nat)
 |none=>.non
theorem WO{n:Nat}{x:Str}(h:ma n x):x.cps.all (· < 128)=true:=by rw[Array.all_eq_true'];intro c b;exact aP (h.2 c (by simpa using b))
theorem O8{n:Nat}{x:Str}(h:ma n x)(O:n<=1000):wp (je [.str x]) Q s=Q (ly (fe x)) s:=by
 have g:x.length<=eK:=eT (bv h.1 O);have as:=WO h;have c0:∀l,gL 1 [] l=[none]:=λ_=>rfl;have c1:∀Q s,wp (collect (aU 0) cD (c2 wA (am 0) (ay (.str "0123456789"))) eQ (signs x) [none]) Q s=Q (x.cps.toList.map λc=>.bl (rW c)) s:=λQ s=>EY trivial λc b Q=>by simp![↓YN,YI]
 have J:(signs x).length<=eK:=by unfold signs;rw[ai,rM];exact g
 have u:=rM x;apply Dh
 (simp![je];simp![j9,↓G8,g,as,c0,↓c1,↓WW,J,↓all_map])
 unfold fe Cm;rw[u];by_cases h0:1<=x.length/\x.length<=3
 ·have o:decide ((1:Int)<=(x.length:Int))=true:=aP (by ext);have G:decide ((x.length:Int)<=3)=true:=aP (by ext);simp![o,G,qf];cases U:x.cps.toList.all rW with
  |false=>
   simp![];split<;>simp[ly]
  |true=>
   simp![];obtain⟨c,r,E⟩:∃c r,x.cps.toList=c::r:=by
    cases L:x.cps.toList with
    |nil=>rw[L]at u;simp at u;ext
    |cons c r=>exact⟨c,r,rfl⟩
   have v:∀(Q:D->aT->Prop)s,wp (bz (.str x) (.int 0)) Q s=Q (.str ⟨#[c]⟩) s:=λQ s=>by rw[II x,E,VY];refine propext ⟨λh=>h.2,λh=>⟨?_,h⟩⟩;rw[<- E,<- II];exact g
   have I:∀(Q:D->aT->Prop)s,wp (pd (.str x)) Q s=Q (.int (vt x.cps.toList:Nat)) s:=λQ s=>SV (by have:=RG (cs:=x.cps.toList) (by ext) (by ext) U;rw[<- II]at this;exact this) (by ext)
   have C:((⟨#[c]⟩:Str) == ("0":Str))=decide (c=48):=by
    rw[JX];by_cases b:c=48
    ·subst b;decide
    ·rw[aV b];rw[beq_eq_false_iff_ne];intro e;apply b;have:=bS (λx:Str=>x.cps.toList) e;simpa using this
   have l:x.cps.toList[0]?=some c:=by rw[E];rfl
   rw[l];by_cases b:c=48
   ·by_cases Y:1 < x.length
    ·have H:((1:Int) < (x.length:Int)):=by ext
     rw[aE (.inr (.inr ⟨Y,by rw[b]⟩))];simp![↓v,C,aP b,↓G8,g,H,ly]
    ·have H:¬ ((1:Int) < (x.length:Int)):=by ext
     rw[aA (by ext),aE rfl];simp![↓v,C,aP b,↓G8,g,H,↓I,ly]
   ·rw[aA (by simp[b];ext),aE rfl];simp![↓v,C,aV b,↓G8,g,↓I,ly]
 ·have b:x.length=0\/3 < x.length\/1 < x.length/\x.cps.toList[0]?=some 48:=by ext
  rw[aE b];by_cases c:1<=x.length
  ·have o:decide ((1:Int)<=(x.length:Int))=true:=aP (by ext);have G:decide ((x.length:Int)<=3)=false:=aV (by ext);simp![o,G,qf,ly]
  ·have o:decide ((1:Int)<=(x.length:Int))=false:=aV (by ext);simp![o,uF,ly]
end
noncomputable def nt(n:Nat):Str:=ag (toString (n:Int))
theorem UR:((dI 1000).all λn=>decide (fe (nt n)=some n))=true:=by nofun
theorem He{n:Nat}(h:n < 1000):fe (nt n)=some n:=of_decide_eq_true (cJ.mp UR n (fT.mpr h))
theorem xT{n:Nat}(h:n < 1000):(nt n).length≠0/\(nt n).length<=3/\(nt n).cps.toList.all rW=true:=by
 have e:=He h;have l:=rM (nt n);unfold fe Cm at e;split at e
 ·cases e
 ·split at e
  ·rename_i c b;exact⟨by ext,by ext,b⟩
  ·cases e
theorem TW:((dI 8).all λn=>decide (nt n=rT n))=true:=by nofun
theorem EC{n:Nat}(h:n < 8):nt n=rT n:=of_decide_eq_true (cJ.mp TW n (fT.mpr h))
theorem tf{n:Nat}{Q:D->aT->Prop}{s:aT}(h:n < 1000):wp (i7 (.int (n:Nat))) Q s=Q (.str (nt n)) s:=by rw[WX];exact propext ⟨λh=>h.2,λq=>⟨xC (Nat.log2_le_self _) (by ext),q⟩⟩
open PySem (Str)
theorem wF:(" ":Str).length=1:=by nofun
theorem zV:(" / ":Str).length=3:=by nofun
noncomputable def kh(g u:Nat):Str:=⟨#[48+g,46,48+u]⟩
def qz(dn:Nat)(p:Nat->Nat×Nat):Str:=bM (" ":Str) (b5 dn λd=>kh (p d).1 (p d).2)
def vD(S dn:Nat)(p:Nat->Nat->Nat×Nat):Str:=bM (" / ":Str) (b5 S λs=>qz dn (p s))
def ww(dn:Nat)(p:Nat->Nat×Nat):D:=.tup (b5 dn λd=>.tup [.int ((p d).1:Nat),.int ((p d).2:Nat)])
theorem Jr:(".":Str)=⟨#[46]⟩:=by nofun
theorem NL:(" ":Str)=⟨#[32]⟩:=by nofun
theorem Y1:(" / ":Str)=⟨#[32,47,32]⟩:=by nofun
theorem Ql5{g u:Nat}:tZ++rT g++(".":Str)++rT u=kh g u:=by rw[Jr];exact vP (by simp[gZ,tZ,rT,kh])
theorem G0{n k:Nat}{f:Nat->Nat}(h:∀i,i < n->f i<=k):(b5 n f).sum<=n*k:=by
 induction n with
 |zero=>simp[b5]
 |succ n ih=>
  rw[FM,List.sum_append,pX];have:=ih λi b=>h i (by ext);have:=h n (by ext);simp;ext
theorem OF{dn:Nat}{p:Nat->Nat×Nat}:(qz dn p).length<=dn*4:=by
 unfold qz
 show (cK _ _).length<=_;rw[cF];refine bv (iO _ _) ?_;rw[Dc,n5];have g:(b5 dn λd=>(kh (p d).1 (p d).2).length).sum<=dn*3:=G0 λi c=>az 3;have b:((" ":Str)).length=1:=by nofun
 rw[b];ext
theorem Tw{S dn:Nat}{p:Nat->Nat->Nat×Nat}:(vD S dn p).length<=S*(dn*4+3):=by
 unfold vD
 show (cK _ _).length<=_;rw[cF];refine bv (iO _ _) ?_;rw[Dc,n5];have g:(b5 S λs=>(qz dn (p s)).length).sum<=S*(dn*4):=G0 λi c=>OF;have b:((" / ":Str)).length=3:=by nofun
 rw[b,Ic];ext
theorem Qg{n:Nat}{Q:D->aT->Prop}{s:aT}(h:n < 8):wp (i7 (.int (n:Nat))) Q s=Q (.str (rT n)) s:=by rw[tf (by ext),EC h]
theorem zx:(".":Str).length=1:=by nofun
theorem Zg:Bi (".":Str) 46 0:=by
 rw[Jr];exact⟨by decide,rfl,(λj h=>by
  cases j with
  |zero=>rfl
  |succ j=>cases h),by nofun⟩
theorem JP:Bi (" ":Str) 32 0:=by
 rw[NL];exact⟨by decide,rfl,(λj h=>by
  cases j with
  |zero=>rfl
  |succ j=>cases h),by nofun⟩
theorem Qmc:Bi (" / ":Str) 47 1:=by
 rw[Y1];exact⟨by decide,rfl,(λj h=>by
  match j,h with
  |1,_=>rfl
  |0,h=>cases h
  |2,h=>cases h
  |j+3,h=>cases h),by nofun⟩
theorem Uo{g u:Nat}(c:g < 4)(hu:u < 4):au (kh g u) (".":Str)=[rT g,rT u]:=by
 have e:kh g u=bM (".":Str) [rT g,rT u]:=by rw[Jr];exact vP (by simp[kh,rT,bM,cK])
 rw[e];refine BQ Zg (by simp) λp b=>?_;rcases aI.mp b with h|h
 ·subst h;simp[rT];ext
 ·rw[aC]at h;subst h;simp[rT];ext
theorem M4{α:Type}{n:Nat}{f:Nat->α}(h:1<=n):b5 n f≠[]:=λe=>by have:=bS cw e;rw[n5,fC]at this;ext
theorem zR{α:Type}{n:Nat}{f:Nat->α}{x:α}(h:x∈b5 n f):∃i,i < n/\x=f i:=by obtain⟨i,b⟩:=kl h;exact⟨i,HE b⟩
theorem Tr{dn:Nat}{p:Nat->Nat×Nat}(l:1<=dn)(g:∀d,d < dn->(p d).1 < 4/\(p d).2 < 4):au (qz dn p) (" ":Str)=b5 dn λd=>kh (p d).1 (p d).2:=by refine BQ JP (M4 l) λq c=>?_;obtain⟨i,h,e⟩:=zR c;obtain⟨a,b⟩:=g i h;subst e;simp[kh];ext
theorem mem_join{y:Str}{c:Nat}:∀{ps:List Str},c∈(f_ y ps).cps.toList->c∈y.cps.toList\/∃p∈ps,c∈p.cps.toList
 |[],h=>by cases h
 |[p],h=>.inr ⟨p,by simp,h⟩
 |p::q::r,h=>by
  have h:c∈(p++y++f_ y (q::r)).cps.toList:=h;rw[gZ,gZ,ic,ic,aZ,aZ]at h;rcases h with (h|h)|h
  ·exact .inr ⟨p,by simp,h⟩
  ·exact .inl h
  ·rcases mem_join h with h|⟨z,hz,h⟩
   ·exact .inl h
   ·exact .inr ⟨z,bb _ hz,h⟩
theorem TC{dn c:Nat}{p:Nat->Nat×Nat}(h:c∈(qz dn p).cps.toList)(g:∀d,d < dn->(p d).1 < 4/\(p d).2 < 4):c≠47:=by
 unfold qz at h;have h:c∈(cK _ _).cps.toList:=h;rw[cF]at h;rcases mem_join h with h|⟨z,hz,h⟩
 ·rw[NL]at h;simp at h;ext
 ·obtain⟨i,l,e⟩:=zR hz;obtain⟨a,b⟩:=g i l;subst e;simp[kh]at h;ext
theorem Vf{S dn:Nat}{p:Nat->Nat->Nat×Nat}(l:1<=S)(c:∀i d,i < S->d < dn->(p i d).1 < 4/\(p i d).2 < 4):au (vD S dn p) (" / ":Str)=b5 S λi=>qz dn (p i):=by refine BQ Qmc (M4 l) λq b g=>?_;obtain⟨i,h,e⟩:=zR b;subst e;exact TC g (λd hd=>c i d h hd) rfl
open PySem (Str)
theorem NG{y p:Str}{c:Nat}:∀{ps:List Str},p∈ps->c∈p.cps.toList->c∈(f_ y ps).cps.toList
 |[q],h,hc=>by rw[aC.mp h]at hc;exact hc
 |q::r::t,h,hc=>by
  show c∈(q++y++f_ y (r::t)).cps.toList;rw[gZ,gZ,ic,ic,aZ,aZ];rcases aI.mp h with h|h
  ·rw[h]at hc;exact .inl (.inl hc)
  ·exact .inr (NG h hc)
theorem NV{y:Str}:∀{ps:List Str},(ps.map (·.length)).sum+ps.length*y.length<=(f_ y ps).length+y.length
 |[]=>by simp
 |[q]=>by simp[f_]
 |q::r::t=>by
  have:=NV (y:=y) (ps:=r::t)
  show _<=(q++y++f_ y (r::t)).length+y.length;rw[bD,bD,aN,sT,cQ,pX];ext
theorem Qf{p:Str}:∀{ps:List Str},p∈ps->p.length<=(ps.map (·.length)).sum
 |q::r,h=>by
  rw[aN,sT];rcases aI.mp h with h|h
  ·rw[h];ext
  ·have:=Qf h;ext
theorem MN{x y:Str}:((au x y).map (·.length)).sum+(au x y).length*y.length<=x.length+y.length:=by have:=NV (y:=y) (ps:=au x y);rw[o7]at this;exact this
theorem DE{n:Nat}{x y p:Str}(h:ma n x)(b:p∈au x y)(o:1<=y.length):ma n p:=by have e:=MN (x:=x) (y:=y);have l:=Qf b;have:1*y.length<=(au x y).length*y.length:=g8 _ (List.length_pos_of_mem b);refine⟨by have:=h.1;ext,λc g=>h.2 c ?_⟩;have:=NG (y:=y) b g;rw[o7]at this;exact this
theorem C8{n:Nat}{x y:Str}(h:ma n x)(b:1<=y.length):(au x y).length<=n+1:=by
 have e:=MN (x:=x) (y:=y);have l:=h.1;have:(au x y).length*1<=(au x y).length*y.length:=wb _ b;by_cases hz:(au x y).length<=n+1
 ·exact hz
 ·exfalso
  have g:((au x y).length-1)*1<=((au x y).length-1)*y.length:=wb _ b;have c:(au x y).length*y.length=((au x y).length-1)*y.length+y.length:=by
   have:(au x y).length=(au x y).length-1+1:=by ext
   rw[this,pX];simp
  ext
theorem Kj{x y:Str}:au x y≠[]:=λe=>by
 unfold au at e;split at e
 ·cases e
 ·split at e
  ·cases e
  ·rw[PySem.StrLaws.partsBetween_eq]at e;obtain⟨p,r,z⟩:=PySem.StrLaws.partsFrom_ne x y.length 0 (mB x y 0 x.length (x.length+1));rw[z]at e;cases e
noncomputable def cG{α β:Type}(f:α->Option β):List α->Option (List β)
 |[]=>some []
 |x::xs=>match f x,cG f xs with
  |some y,some ys=>some (y::ys)
  |_,_=>none
theorem Jl{α β:Type}{f:α->Option β}{x:α}{y:β}:∀{xs:List α}{ys:List β},cG f xs=some ys->f x=some y->cG f (xs++[x])=some (ys++[y])
 |[],ys,h,e=>by cases h;simp[cG,e]
 |z::xs,ys,h,e=>by
  show (match f z,cG f (xs++[x]) with
   |some y,some ys=>some (y::ys)
   |_,_=>none)=_
  unfold cG at h;cases c:f z with
  |none=>rw[c]at h;cases h
  |some a=>
   cases b:cG f xs with
   |none=>rw[c,b]at h;cases h
   |some as=>
    rw[c,b]at h;cases h;rw[Jl b e];rfl
theorem LN{α β:Type}{f:α->Option β}{x:α}(e:f x=none):∀{xs:List α},x∈xs->cG f xs=none
 |z::xs,h=>by
  unfold cG;rcases aI.mp h with h|h
  ·rw[<- h,e]
  ·rw[LN e h];cases f z<;>rfl
theorem O2{α β:Type}{f:α->Option β}{xs:List α}{i:Nat}{x:α}{y:β}{ys:List β}(h:cG f (xs.take i)=some ys)(b:xs[i]?=some x)(e:f x=some y):cG f (xs.take (i+1))=some (ys++[y]):=by rw[gU,b];exact Jl h e
theorem Fu{α β:Type}{f:α->Option β}:∀{xs:List α}{ys:List β},cG f xs=some ys->ys.length=xs.length
 |[],ys,h=>by cases h;rfl
 |z::xs,ys,h=>by
  unfold cG at h;cases c:f z with
  |none=>rw[c]at h;cases h
  |some a=>
   cases b:cG f xs with
   |none=>rw[c,b]at h;cases h
   |some as=>rw[c,b]at h;cases h;rw[cQ,cQ,Fu b]
theorem N2{α β:Type}{f:α->Option β}:∀{xs:List α}{ys:List β}{y:β},cG f xs=some ys->y∈ys->∃x∈xs,f x=some y
 |[],ys,y,h,hy=>by cases h;cases hy
 |z::xs,ys,y,h,hy=>by
  unfold cG at h;cases b:f z with
  |none=>rw[b]at h;cases h
  |some a=>
   cases c:cG f xs with
   |none=>rw[b,c]at h;cases h
   |some as=>
    rw[b,c]at h;cases h;rcases aI.mp hy with e|e
    ·exact⟨z,bO,by rw[b,e]⟩
    ·obtain⟨x,g,e⟩:=N2 c e;exact⟨x,bb _ g,e⟩
def kB(w:Str):Option (Nat×Nat):=match (au w (".":Str)).map fe with
 |[some g,some u]=>some (g,u)
 |_=>none
def wV(x:Str):Option (List (Nat×Nat)):=cG kB (au x (" ":Str))
def uh(x:Str):Option (List (List (Nat×Nat))):=cG wV (au x (" / ":Str))
def Df(n m:Nat)(r:List (Nat×Nat)):Bool:=decide (r.length=m)&&r.all λp=>decide (p.1 < n)
def B8(t:List (List (Nat×Nat))):Bool:=t.all (Df t.length (t.headD []).length)
def r9(x:Str):Option (List (List (Nat×Nat))):=match uh x with
 |some t=>if B8 t=true then some t else none
 |none=>none
noncomputable def pairD(p:Nat×Nat):D:=.tup [.int (p.1:Nat),.int (p.2:Nat)]
def rV(r:List (Nat×Nat)):D:=.tup (r.map pairD)
def xR(t:List (List (Nat×Nat))):D:=.tup (t.map rV)
section
variable{s s1 s2:aT}{Q:D->aT->Prop}
noncomputable def wE:D:=.exn "NoTable" [.str "at",.int 0]
theorem Hx:∀{os:List (Option Nat)},(os.map ly).all me=true
 |[]=>rfl
 |none::os=>by rw[aN,bG,Hx];rfl
 |some n::os=>by rw[aN,bG,Hx];rfl
theorem HA{l:Loc}:gL 1 [] l=[none]:=rfl
theorem uu(x:Str):(∃g u,(au x (".":Str)).map fe=[some g,some u]/\kB x=some (g,u))\/(kB x=none/\¬ ∃g u,(au x (".":Str)).map fe=[some g,some u]):=by
 unfold kB;split
 ·rename_i g u e;exact .inl ⟨g,u,e,rfl⟩
 ·rename_i c;exact .inr ⟨rfl,λb=>by obtain⟨g,u,e⟩:=b;exact c g u e⟩
theorem TX{n:Nat}{x:Str}(h:ma n x)(L:n<=900):gi (jI [.str x]) (λd s'=>(∃p,kB x=some p/\d=pairD p)/\dJ s s') (λd s'=>kB x=none/\d=wE/\dJ s s') s:=by
 have sp:=C8 (y:=(".":Str)) h (by rw[zx];ext);have I:∀p∈au x (".":Str),ma n p:=λp o=>DE h o (by rw[zx];ext);have g1:∀(ds:List D)Q,wp (getL s.length) Q (s++[MO.lst ds])=Q ds (s++[MO.lst ds]):=λds Q=>ka lT;unfold jI yj;refine xG (kK (tW ?_));simp![↓C_,↓g1,HA,zx];refine⟨⟨rfl,eT (by have:=h.1;ext),eT (by ext)⟩,eT (by rw[ai];ext),?_⟩;refine (EY (f:=λp=>ly (fe p)) (by exact lT) λp o Q=>?_).mpr ?_
 ·have r:∀(Q:D->aT->Prop)s,wp (je [.str p]) Q s=Q (ly (fe p)) s:=λQ s=>O8 (I p o) (by ext);simp![↓r]
 have J:(au x (".":Str)).map (λp=>ly (fe p))=((au x (".":Str)).map fe).map ly:=by rw[iQ];rfl
 have ex:dJ s (s++[MO.lst ((au x (".":Str)).map D.str)]):=(dJ.refl _).snoc _;generalize s++[MO.lst ((au x (".":Str)).map D.str)]=s1 at *;simp![];rw[J];refine kK (Au ?_);simp![↓JF,Hx,ai];rcases uu x with ⟨g,u,e,E⟩|⟨E,v⟩
 ·have l:(au x (".":Str)).length=2:=by have:=bS cw e;simpa using this
  rw[e,l];simp![];have G:([ly (some g),ly (some u)].any λd=>tK d .non)=false:=rfl;rw[G,aA (by decide)];refine⟨rfl,?_⟩;rw[aA (by decide)];refine uE ?_;refine kK (tW ?_);simp![];exact⟨⟨_,E,rfl⟩,ex⟩
 ·have c : gi (aF (gW "NoTable" "at" (ay (.int 0))) aH [some (.str x), some (.tup (((au x ("." : Str)).map fe).map ly))]) (λf s' => match f with
      | .next l'=>gi (aF (rR (cH (am 1))) aH l') (λf s'=>match f with
       | .ret d=>(∃p,kB x=some p/\d=pairD p)/\dJ s s'
       | .next _=>(∃p,kB x=some p/\D.non=pairD p)/\dJ s s'
       |_=>False) (λd s'=>kB x=none/\d=wE/\dJ s s') s'
      |f=>(match f with
       | .ret d=>(∃p,kB x=some p/\d=pairD p)/\dJ s s'
       | .next _=>(∃p,kB x=some p/\D.non=pairD p)/\dJ s s'
       |_=>False)) (λd s'=>kB x=none/\d=wE/\dJ s s') s1:=kK (BA (by simp![];exact⟨E,rfl,ex⟩))
  by_cases C:(au x (".":Str)).length=2
  ·have l:((((au x (".":Str)).length:Int) == 2))=true:=by rw[C];rfl
   obtain⟨a,b,H⟩:∃a b,(au x (".":Str)).map fe=[a,b]:=by
    match ho:au x (".":Str),C with
    |[p,q],_=>exact⟨_,_,rfl⟩
   have G:((((au x (".":Str)).map fe).map ly).any λd=>tK d .non)=true:=by
    rw[H];cases a with
    |none=>rfl
    |some a=>
     cases b with
     |none=>rfl
     |some b=>exact bc ⟨a,b,H⟩ v
   rw[C,aA (by decide),G];exact⟨rfl,c⟩
  ·have l:¬ ((au x (".":Str)).length:Int)=2:=by ext
   rw[aE (by rw[beq_eq_false_iff_ne.mpr l];rfl)];exact c
end
section
variable{s s1 s2:aT}{Q:D->aT->Prop}
theorem MD{xs:List Str}{i:Nat}{d:D}(h:(xs.map D.str)[i]?=some d):∃x,xs[i]?=some x/\d=.str x:=by
 rw[aG]at h;cases b:xs[i]? with
 |none=>rw[b]at h;cases h
 |some x=>rw[b]at h;exact⟨x,rfl,(bq h).symm⟩
theorem Wb{n:Nat}{x:Str}(h:ma n x)(I:n<=900):gi (jC [.str x]) (λd s'=>(∃r,wV x=some r/\d=rV r)/\dJ s s') (λd s'=>wV x=none/\d=wE/\dJ s s') s:=by
 have sp:=C8 (y:=(" ":Str)) h (by rw[wF];ext);have H:∀p∈au x (" ":Str),ma n p:=λp c=>DE h c (by rw[wF];ext);have g1:∀(ds:List D)Q,wp (getL s.length) Q (s++[MO.lst ds])=Q ds (s++[MO.lst ds]):=λds Q=>ka lT;unfold jC yg;refine xG (kK (Hq (NW ?_)));simp![↓C_,↓g1,HA,wF];refine⟨⟨rfl,eT (by have:=h.1;ext),eT (by ext)⟩,eT (by rw[ai];ext),?_⟩;have J:(s++[MO.lst ((au x (" ":Str)).map D.str)])[s.length]?=some (.lst ((au x (" ":Str)).map D.str)):=lT;have ex:dJ s (s++[MO.lst ((au x (" ":Str)).map D.str)]):=(dJ.refl _).snoc _;generalize s++[MO.lst ((au x (" ":Str)).map D.str)]=s1 at *;refine N7 (λi b s'=>∃ps,cG kB ((au x (" ":Str)).take i)=some ps/\b=ps.map pairD/\dJ s1 s') (λi b s' ⟨ps,_,_,e⟩=>e.at_ J) ⟨[],rfl,rfl,dJ.refl _⟩ (λi d b s' hd C=>?_) (λb s' u=>?_)
 ·obtain ⟨ps,l,G,g⟩:=C;obtain⟨p,c,rfl⟩:=MD hd;refine ul ?_;simp![];refine pJ (TX (H p (aX c)) I) (λd s2 q=>?_) λd s2 q=>?_
  ·obtain⟨⟨v,E,rfl⟩,o⟩:=q;exact⟨_,O2 l c E,by rw[G,bh];rfl,g.trans o⟩
  ·obtain⟨E,L,o⟩:=q;exact⟨LN E (aX c),L,ex.trans (g.trans o)⟩
 ·obtain ⟨ps,l,G,g⟩:=u;rw[ai,dj]at l;exact⟨⟨ps,l,by rw[G];rfl⟩,ex.trans g⟩
theorem Q9{r:List (Nat×Nat)}:wp (dL (rV r)) Q s=Q (.int (r.length:Nat)) s:=by unfold rV;simp![ai]
theorem Qz{t:List (List (Nat×Nat))}(h:t≠[]):wp (dM (t.map rV) 0) Q s=Q (rV (t.headD [])) s:=by
 cases t with
 |nil=>exact bc rfl h
 |cons r t=>exact oT (i:=0) rfl
theorem QmC{α:Type}{e:CE}{same:aT->Prop}{xs:List α}{a b f:α->D}{caps:Loc}{Q:List D->aT->Prop}(hs:same s)(h:∀x∈xs,∀Q,wp (e (some (a x)::some (b x)::caps)) Q s=Q (f x) s):
  wp (collect (fS 2 (cm (aU 0) (cm (aU 1) gf))) cD e same (xs.map λx=>.tup [a x,b x]) (none::none::caps)) Q s=Q (xs.map f) s:=by
 rw[LP (f:=λi=>match xs[i]? with|some x=>f x|none=>.non) (λl=>∃x y,l=x::y::caps) hs ⟨_,_,rfl⟩ λi d l hd ⟨o,g,el⟩=>?_]
 ·rw[ai];exact bS (λz=>Q z s) (PC (xs:=xs) (f:=f))
 ·rw[aG]at hd;cases c:xs[i]? with
  |none=>rw[c]at hd;cases hd
  |some x=>
   rw[c]at hd;cases hd;subst el;refine⟨some (a x)::some (b x)::caps,λG=>?_,⟨_,_,rfl⟩,λQ=>h x (aX c) Q⟩;simp![]
theorem UE{t:List (List (Nat×Nat))}{r:List (Nat×Nat)}(h:t≠[])(o:r.length<=1000):wp (jj [xR t,rV r]) Q s=Q (.bl (Df t.length (t.headD []).length r)) s:=by
 have l:∀(Q:D->aT->Prop)s,wp (dM (t.map rV) 0) Q s=Q (rV (t.headD [])) s:=λQ s=>Qz h;have v:xR t=.tup (t.map rV):=rfl;apply Dh
 (simp![jj];simp![jZ,v,↓l,↓Q9])
 unfold Df;by_cases g:r.length=(t.headD []).length
 ·have b:((r.length:Nat):Int)=((t.headD []).length:Nat):=by rw[g]
  rw[aA (by rw[b];simp),aP g,sQ];have C:rV r=.tup (r.map λp=>.tup [.int (p.1:Nat),.int (p.2:Nat)]):=rfl;generalize rV r=E at *;subst C;simp![ai];refine⟨eT o,?_⟩;rw[show ∀t u,gL 2 [0] [some t,some u]=[none,none,some t] from λ_ _=>rfl];rw[QmC (f:=λp=>.bl (decide (p.1 < t.length))) trivial λp G Q=>?_]
  ·simp![↓all_map]
  ·simp![ai];rw[aP (show (0:Int)<=(p.1:Nat) by ext),qf];by_cases c:p.1 < t.length
   ·rw[aP (show ((p.1:Nat):Int) < (t.length:Nat) by ext),qf,aP (show (0:Int)<=(p.2:Nat) by ext),aP c]
   ·rw[aV (show ¬ ((p.1:Nat):Int) < (t.length:Nat) by ext),uF,aV c]
 ·have b:¬ ((r.length:Nat):Int)=((t.headD []).length:Nat):=by ext
  rw[aE (by rw[beq_eq_false_iff_ne.mpr b];rfl),aV g];simp![ng]
theorem Vz{t:List (List (Nat×Nat))}(h:t≠[])(o:t.headD []≠[])(g:t.length<=1000)(l:∀r∈t,r.length<=1000):wp (ji [xR t]) Q s=Q (.bl (B8 t)) s:=by
 have c:∀(Q:D->aT->Prop)s,wp (dM (t.map rV) 0) Q s=Q (rV (t.headD [])) s:=λQ s=>Qz h;have v:∀t,gL 1 [0] [some t]=[none,some t]:=λ_=>rfl;have n1:¬ ((t.length:Nat):Int)=0:=by have:t.length≠0:=λe=>h (iM.mp e);ext
 have n2:¬ (((t.headD []).length:Nat):Int)=0:=by have:(t.headD []).length≠0:=λe=>o (iM.mp e);ext
 have u:xR t=.tup (t.map rV):=rfl;apply Dh
 (simp![ji];simp![j4,u,↓c,↓Q9,ai,v])
 rw[aA n1,aA n2];refine⟨eT g,?_⟩;rw[EY (f:=λr=>.bl (Df t.length (t.headD []).length r)) trivial λr b Q=>?_]
 ·simp![↓all_map];rfl
 ·have w:∀(Q:D->aT->Prop)s,wp (jj [.tup (t.map rV),rV r]) Q s=Q (.bl (Df t.length (t.headD []).length r)) s:=λQ s=>UE h (l r b);simp![↓w]
theorem WN{n:Nat}{x:Str}{t:List (List (Nat×Nat))}(h:ma n x)(e:uh x=some t):t≠[]/\t.length<=n+1/\∀r∈t,r≠[]/\r.length<=n+1:=by
 unfold uh at e;have l:=Fu e;refine⟨λz=>?_,?_,λr g=>?_⟩
 ·rw[z]at l;exact Kj (iM.mp l.symm)
 ·rw[l];exact C8 h (by rw[zV];ext)
 ·obtain⟨y,c,o⟩:=N2 e g;have b:=Fu o;refine⟨λz=>?_,?_⟩
  ·rw[z]at b;exact Kj (iM.mp b.symm)
  ·rw[b];exact C8 (DE h c (by rw[zV];ext)) (by rw[wF];ext)
theorem Sl{α:Type}{t:List (List α)}(h:t≠[]):t.headD []∈t:=by
 cases t with
 |nil=>exact bc rfl h
 |cons r t=>exact bO
theorem Vg{n:Nat}{x:Str}(h:ma n x)(Y:n<=900):gi (jF [.str x]) (λd s'=>(∃t,r9 x=some t/\d=xR t)/\dJ s s') (λd s'=>r9 x=none/\d=wE/\dJ s s') s:=by
 have sp:=C8 (y:=(" / ":Str)) h (by rw[zV];ext);have O:∀p∈au x (" / ":Str),ma n p:=λp g=>DE h g (by rw[zV];ext);have g1:∀(ds:List D)Q,wp (getL s.length) Q (s++[MO.lst ds])=Q ds (s++[MO.lst ds]):=λds Q=>ka lT;unfold jF yh;refine xG (kK (mO (NW ?_)));simp![↓C_,↓g1,HA,zV];refine⟨⟨rfl,eT (by have:=h.1;ext),eT (by ext)⟩,eT (by rw[ai];ext),?_⟩;have ga:(s++[MO.lst ((au x (" / ":Str)).map D.str)])[s.length]?=some (.lst ((au x (" / ":Str)).map D.str)):=lT;have ex:dJ s (s++[MO.lst ((au x (" / ":Str)).map D.str)]):=(dJ.refl _).snoc _;generalize s++[MO.lst ((au x (" / ":Str)).map D.str)]=s1 at *;refine N7 (λi b s'=>∃ps,cG wV ((au x (" / ":Str)).take i)=some ps/\b=ps.map rV/\dJ s1 s') (λi b s' ⟨ps,_,_,e⟩=>e.at_ ga) ⟨[],rfl,rfl,dJ.refl _⟩ (λi d b s' hd E=>?_) (λb s' C=>?_)
 ·obtain ⟨ps,c,H,l⟩:=E;obtain⟨p,g,rfl⟩:=MD hd;refine ul ?_;simp![];refine pJ (Wb (O p (aX g)) Y) (λd s2 q=>?_) λd s2 q=>?_
  ·obtain⟨⟨v,G,rfl⟩,u⟩:=q;exact⟨_,O2 c g G,by rw[H,bh];rfl,l.trans u⟩
  ·obtain⟨G,b,u⟩:=q;refine⟨?_,b,ex.trans (l.trans u)⟩;have:uh x=none:=LN G (aX g);unfold r9;rw[this]
 ·obtain ⟨ps,c,H,l⟩:=C;rw[ai,dj]at c;have c:uh x=some ps:=c;obtain⟨L,u,J⟩:=WN h c;have hd:=J _ (Sl L);have o:r9 x=if B8 ps=true then some ps else none:=by unfold r9;rw[c]
  have g:D.tup b=xR ps:=by rw[H];rfl
  have w:∀(Q:D->aT->Prop)s,wp (ji [xR ps]) Q s=Q (.bl (B8 ps)) s:=λQ s=>Vz L hd.1 (by ext) λr U=>by have:=(J r U).2;ext
  rw[g];refine kK (Au ?_);simp![↓w];cases I:B8 ps with
  |true=>
   rw[I,aE rfl]at o;simp![];refine uE ?_;refine kK (tW ?_);simp![];exact⟨⟨_,o,rfl⟩,ex.trans l⟩
  |false=>
   rw[I,aA bx]at o;simp![];exact kK (BA (by simp![];exact⟨o,rfl,ex.trans l⟩))
end
open PySem (Str)
def nX(b:Bd):Str:=vD b.S b.dn λs d=>(b.nx s d,b.un s d)
def hU(ns:List Nat):Str:=bM (" ":Str) (ns.map nt)
def kF(b:Bd):Str:=("board ":Str)++nX b++(" at ":Str)++nt b.st
def i4(h:Hd):Str:=("hand ":Str)++hU [h.b0,h.b1]
def lH:Ln->Str
 | .settle v=>("settle ":Str)++hU [v]
 | .act b d gs=>("do ":Str)++hU [b,d]++(" : ":Str)++hU gs
def sf(h:Hd):List Str:=i4 h::h.lines.map lH
def cy(h:Hs):List Str:=h.boards.map kF++(h.hands.map sf).flatten
def qg(h:Hs):Str:=bM ("\n":Str) (cy h)
noncomputable def vg(n:Nat)(l:Ln):Prop:=match l with
 | .settle v=>v < 1000
 | .act b d gs=>b < 1000/\d < 1000/\gs.length<=4+n/\gs≠[]/\∀g∈gs,g < 1000
def yN(b:Bd):Prop:=on b.S b.dn b.nx b.un/\b.st < 1000
def An(n:Nat)(x:Hd):Prop:=x.b0 < 1000/\x.b1 < 1000/\x.lines.length<=8/\∀l∈x.lines,vg n l
def pP(n:Nat)(h:Hs):Prop:=h.boards.length<=4/\(∀b∈h.boards,yN b)/\1<=h.hands.length/\h.hands.length<=3+2*n/\∀x∈h.hands,An n x
section
variable{p q:Nat}{s s1 s2:aT}{Q:D->aT->Prop}
theorem G5{α:Type}{f:α->Str}:∀{xs:List α},gX (xs.map λx=>.str (f x))=some (xs.map f)
 |[]=>rfl
 |x::xs=>by show (gX (xs.map λx=>.str (f x))).map (f x::·)=_;rw[G5];rfl
theorem Ec{α:Type}{f:α->Nat}{k:Nat}:∀{xs:List α},(∀x∈xs,f x<=k)->(xs.map f).sum<=xs.length*k
 |[],_=>by simp
 |x::xs,h=>by rw[aN,sT,cQ,pX];have:=Ec (xs:=xs) λy b=>h y (bb _ b);have:=h x bO;ext
theorem ME{y:Str}{k:Nat}{xs:List Str}(h:∀x∈xs,x.length<=k):(bM y xs).length<=xs.length*(k+y.length):=by show (cK _ _).length<=_;rw[cF];refine bv (iO _ _) ?_;have:=Ec (f:=λx:Str=>x.length) h;rw[Ic];ext
theorem FG{ns:List Nat}(h:∀n∈ns,n < 1000):(hU ns).length<=ns.length*4:=by
 unfold hU;have:=ME (y:=(" ":Str)) (k:=3) (xs:=ns.map nt) λx b=>by obtain⟨n,c,rfl⟩:=cZ.mp b;exact (xT (h n c)).2.1
 rw[ai,wF]at this;exact this
theorem WA{ns:List Nat}{Q:List D->aT->Prop}(h:∀n∈ns,n < 1000):wp (collect (aU 0) cD (c1 i7 (am 0)) eQ (ns.map eZ) [none]) Q s=Q (ns.map λn=>.str (nt n)) s:=EY BW λn b Q=>by have e:∀(Q:D->aT->Prop)s,wp (i7 (.int (n:Nat))) Q s=Q (.str (nt n)) s:=λQ s=>tf (h n b);simp![eZ,↓e]
theorem NQ:(("settle ":Str)).length=7:=by nofun
theorem E4:(("do ":Str)).length=3:=by nofun
theorem PL:((" : ":Str)).length=3:=by nofun
theorem Og:(("hand ":Str)).length=5:=by nofun
theorem Mc:(("board ":Str)).length=6:=by nofun
theorem EV:((" at ":Str)).length=4:=by nofun
theorem UC:¬ (ag "do"=ag "settle"):=by decide
theorem O1{a b:Nat}:hU [a,b]=nt a++(" ":Str)++nt b:=rfl
theorem xQ{a b k:Nat}(h:a < k)(g:b < k):∀n∈[a,b],n < k:=λn c=>by
 rcases aI.mp c with e|e
 ·rw[e];exact h
 ·rw[aC.mp e];exact g
theorem Z7{l:Ln}{n:Nat}(L:n<=3)(h:vg n l)(o:∀s',dJ s s'->Q (.str (lH l)) s'):wp (jm [pZ l]) Q s:=by
 cases l with
 |settle v=>
  have e:∀(Q:D->aT->Prop)s,wp (i7 (eZ v)) Q s=Q (.str (nt v)) s:=λQ s=>tf h;have:=(xT h).2.1
  (simp![jm];simp![jM,pZ,decide_true,if_true,↓e,↓FS])
  exact⟨eT (by rw[NQ];ext),o s (dJ.refl _)⟩
 |act b d gs=>
  obtain⟨C,u,O,_,c⟩:=h;have H:∀(Q:D->aT->Prop)s,wp (i7 (eZ b)) Q s=Q (.str (nt b)) s:=λQ s=>tf C;have G:∀(Q:D->aT->Prop)s,wp (i7 (eZ d)) Q s=Q (.str (nt d)) s:=λQ s=>tf u;have Y:=(xT C).2.1;have U:=(xT u).2.1;have I:∀(Q:List D->aT->Prop)s,wp (collect (aU 0) cD (c1 i7 (am 0)) eQ (gs.map eZ) [none]) Q s=Q (gs.map λn=>.str (nt n)) s:=λQ s=>WA c;have l:gs.length<=eK:=eT (by ext);have g:∀(ds:List D)(Q:List D->aT->Prop),wp (getL s.length) Q (s++[MO.lst ds])=Q ds (s++[MO.lst ds]):=λds Q=>ka (by simp);have J:((gs.map nt).map λx:Str=>x.length).sum<=gs.length*3:=by rw[iQ];exact Ec λx E=>(xT (c x E)).2.1
  have n2:=FG c
  (simp![jm];simp![jM,pZ,UC,if_false,↓H,↓G,↓FS,↓B6,gL,ai,l,↓I,↓g,G5,wF])
  simp only[bD,E4,wF,PL];refine⟨eT (by ext),eT (by ext),eT (by ext),eT (by ext),by ext,eT (by show _+(hU gs).length<=_;ext),?_⟩;have e:("do ":Str)++nt b++(" ":Str)++nt d++(" : ":Str)++bM (" ":Str) (gs.map nt)=lH (.act b d gs):=by show _=("do ":Str)++(nt b++(" ":Str)++nt d)++(" : ":Str)++hU gs;simp only[fQ];rfl
  rw[e];exact o _ ((dJ.refl _).snoc _)
theorem Ri{b:Bd}:fq b.S b.dn b.nx b.un=.tup (b5 b.S λi=>ww b.dn λd=>(b.nx i d,b.un i d)):=rfl
theorem Kf{b:Bd}(h:yN b):∀i d,i < b.S->d < b.dn->(b.nx i d,b.un i d).1 < 4/\(b.nx i d,b.un i d).2 < 4:=λi d c hd=>by have:=h.1.2.2.2.2 i d c hd;have:=h.1.2.1;exact⟨by show b.nx i d < 4;ext,by show b.un i d < 4;ext⟩
theorem Ny{b:Bd}(h:yN b):(nX b).length<=76:=by have:=Tw (S:=b.S) (dn:=b.dn) (p:=λs d=>(b.nx s d,b.un s d));have c:b.S*(b.dn*4+3)<=4*19:=Nat.mul_le_mul h.1.2.1 (by have:=h.1.2.2.2.1;ext);exact bv this c
theorem Z1{b:Bd}(h:yN b):(kF b).length<=90:=by unfold kF;have:=Ny h;have:=(xT h.2).2.1;simp only[bD,Mc,EV];ext
end
open PySem (Str)
section
variable{p q:Nat}{s s1 s2:aT}{Q:D->aT->Prop}
theorem Q_{α:Type}{e:CE}{xs:List α}{g1 g2 f:α->D}{caps:Loc}{A:List D->aT->Prop}{same:aT->Prop}(hs:∀s',dJ s s'->same s')(G:∀x∈xs,∀s',dJ s s'->∀Q:D->aT->Prop,(∀s2,dJ s' s2->Q (f x) s2)->wp (e (some (g1 x)::some (g2 x)::caps)) Q s')(h:∀s',dJ s s'->A (xs.map f) s'):
  wp (collect (fS 2 (cm (aU 0) (cm (aU 1) gf))) cD e same (xs.map λx=>.tup [g1 x,g2 x]) (none::none::caps)) A s:=by
 have chk:∀{s':aT}{R:Unit->aT->Prop},dJ s s'->R () s'->wp (chkS same) R s':=λx r=>by rw[cM (show chkS same _=.ok () _ from aE (hs _ x))];exact r
 refine Di (Q:=A) (λg ys l s'=>∃i,ys=(xs.drop i).map (λx=>.tup [g1 x,g2 x])/\i<=xs.length/\(∃x y,l=x::y::caps)/\g=(xs.take i).map f/\dJ s s') (λg l s' o=>?_) (λg d ys l s' o=>?_) _ [] _ s ⟨0,by simp,bJ _,⟨_,_,rfl⟩,rfl,dJ.refl _⟩
 ·obtain⟨i,u,E,_,v,x⟩:=o;have:i=xs.length:=by have:=bS cw u;simp at this;ext
  subst this;rw[v,dj];exact chk x (h s' x)
 ·obtain⟨i,u,E,⟨a,b,el⟩,v,x⟩:=o;have c:i < xs.length:=by have:=bS cw u;simp at this;ext
  rw[bR c,aN]at u;obtain⟨I,H⟩:=gc u;subst I el;refine chk x ?_;rw[uj,nS,fW,nS,fW,uk];refine⟨rfl,?_⟩;rw[rS,aE rfl];refine G xs[i] (cR c) s' x _ λs2 C=>⟨i+1,H,c,⟨_,_,rfl⟩,?_,x.trans C⟩
  rw[v,gU,ar c,bh];rfl
theorem XV{α:Type}{e:CE}{xs:List α}{g f:α->D}{caps:Loc}{A:List D->aT->Prop}{same:aT->Prop}(hs:∀s',dJ s s'->same s')(G:∀x∈xs,∀s',dJ s s'->∀Q:D->aT->Prop,(∀s2,dJ s' s2->Q (f x) s2)->wp (e (some (g x)::caps)) Q s')(h:∀s',dJ s s'->A (xs.map f) s'):
  wp (collect (aU 0) cD e same (xs.map g) (none::caps)) A s:=by
 have chk:∀{s':aT}{R:Unit->aT->Prop},dJ s s'->R () s'->wp (chkS same) R s':=λx r=>by rw[cM (show chkS same _=.ok () _ from aE (hs _ x))];exact r
 refine Di (Q:=A) (λc ys l s'=>∃i,ys=(xs.drop i).map g/\i<=xs.length/\(∃x,l=x::caps)/\c=(xs.take i).map f/\dJ s s') (λc l s' o=>?_) (λc d ys l s' o=>?_) _ [] _ s ⟨0,by simp,bJ _,⟨_,rfl⟩,rfl,dJ.refl _⟩
 ·obtain⟨i,u,E,_,v,x⟩:=o;have:i=xs.length:=by have:=bS cw u;simp at this;ext
  subst this;rw[v,dj];exact chk x (h s' x)
 ·obtain⟨i,u,E,⟨a,el⟩,v,x⟩:=o;have b:i < xs.length:=by have:=bS cw u;simp at this;ext
  rw[bR b,aN]at u;obtain⟨I,H⟩:=gc u;subst I el;refine chk x ?_;rw[fW,rS,aE rfl];refine G xs[i] (cR b) s' x _ λs2 C=>⟨i+1,H,b,⟨_,rfl⟩,?_,x.trans C⟩
  rw[v,gU,ar b,bh];rfl
def lJ(h:Hs)(i:Nat):List Str:=h.boards.map kF++((h.hands.take i).map sf).flatten
theorem QR{h:Hs}{i:Nat}{x:Hd}(e:h.hands[i]?=some x):lJ h (i+1)=lJ h i++[i4 x]++x.lines.map lH:=by unfold lJ;rw[gU,e,bh,List.flatten_append];simp[sf]
theorem Qr{h:Hs}:lJ h h.hands.length=cy h:=by unfold lJ cy;rw[dj]
theorem vg.mono{n m:Nat}{l:Ln}(h:vg n l)(e:n<=m):vg m l:=by
 cases l with
 |settle v=>exact h
 |act b d gs=>exact⟨h.1,h.2.1,by have:=h.2.2.1;ext,h.2.2.2⟩
theorem pP.mono{n m:Nat}{h:Hs}(r:pP n h)(e:n<=m):pP m h:=⟨r.1,r.2.1,r.2.2.1,by have:=r.2.2.2.1;ext,λx g=>let ⟨a,b,c,d⟩:=r.2.2.2.2 x g;⟨a,b,c,λl o=>(d l o).mono e⟩⟩
theorem Qm1{h:Hs}(c:zA h)(Y:h.boards.length<=4)(U:∀x∈h.hands,x.lines.length<=8):pP 0 h:=by
 refine⟨Y,λb o=>⟨(c.2.1 b o).1,by have:=(c.2.1 b o).1.2.1;have:=(c.2.1 b o).2;ext⟩,by have:=c.2.2.1;ext,c.2.2.2.1,λx C=>?_⟩;obtain⟨d1,d2,_,G⟩:=c.2.2.2.2 x C;have H:=U x C;refine⟨by ext,by ext,H,λl J=>?_⟩;have z:=G l J;cases l with
 |settle v=>
  have:v < 2:=z
  show v < 1000;ext
 |act b d gs=>
  obtain⟨u,g1,g2,E,Q⟩:=z;have o:=(aq.mp g1).1;obtain⟨ok,_⟩:=c.2.1 u (aX g1);have G:=ok.2.2.2.1;have I:mx (u.un · d) u.S<=3:=Lw λi L=>by have:=(ok.2.2.2.2 i d L g2).2;ext
  exact⟨by ext,by ext,by ext,λe=>by rw[e]at E;simp at E;ext,λg O=>by have:=Q g O;ext⟩
theorem Lu{l:Ln}(h:vg 3 l):(lH l).length<=60:=by
 cases l with
 |settle v=>
  have:(hU [v]).length<=4:=FG (ns:=[v]) λn c=>by rw[aC.mp c];exact h
  show (("settle ":Str)++hU [v]).length<=60;rw[bD,NQ];ext
 |act b d gs=>
  have n1:(hU [b,d]).length<=8:=FG (ns:=[b,d]) (xQ h.1 h.2.1);have n2:=FG h.2.2.2.2;have:=h.2.2.1
  show (("do ":Str)++hU [b,d]++(" : ":Str)++hU gs).length<=60;simp only[bD,E4,PL];ext
theorem J5{x:Hd}(h:An 3 x):(i4 x).length<=13:=by have n1:(hU [x.b0,x.b1]).length<=8:=FG (ns:=[x.b0,x.b1]) (xQ h.1 h.2.1);unfold i4;rw[bD,Og];ext
theorem oO{h:Hs}{r:Str}(g:r∈cy h):(∃b∈h.boards,r=kF b)\/∃x∈h.hands,r=i4 x\/∃l∈x.lines,r=lH l:=by
 unfold cy at g;rcases aZ.mp g with z|z
 ·obtain⟨b,v,e⟩:=cZ.mp z;exact .inl ⟨b,v,e.symm⟩
 ·obtain⟨l,u,hz⟩:=List.mem_flatten.mp z;obtain⟨x,c,rfl⟩:=cZ.mp u;rcases aI.mp hz with e|e
  ·exact .inr ⟨x,c,.inl e⟩
  ·obtain⟨y,o,e⟩:=cZ.mp e;exact .inr ⟨x,c,.inr ⟨y,o,e.symm⟩⟩
theorem JS{h:Hs}(c:pP 3 h):∀r∈cy h,r.length<=90:=λr o=>by
 rcases oO o with ⟨b,v,e⟩|⟨x,g,e|⟨l,u,e⟩⟩
 ·rw[e];exact Z1 (c.2.1 b v)
 ·rw[e];exact bv (J5 (c.2.2.2.2 x g)) (by ext)
 ·rw[e];exact bv (Lu ((c.2.2.2.2 x g).2.2.2 l u)) (by ext)
theorem Lh{h:Hs}(b:pP 3 h):∀i,i<=h.hands.length->(lJ h i).length<=4+i*9
 |0,_=>by unfold lJ;have:=b.1;simp;ext
 |i+1,hi=>by have e:h.hands[i]?=some h.hands[i]:=ar (by ext);rw[QR e];have:=Lh b i (by ext);have:=(b.2.2.2.2 h.hands[i] (cR _)).2.2.1;simp only[aS,ai,bL];ext
theorem Dj{h:Hs}(b:pP 3 h):(cy h).length<=85:=by rw[<- Qr];have:=Lh b _ (az _);have:=b.2.2.2.1;ext
end
open PySem (Str)
section
variable{p q:Nat}{s s1 s2:aT}{Q:D->aT->Prop}
theorem Pt{h:Hs}(ho:pP 3 h)(hQ:∀n s',s'[n]?=some (.lst ((cy h).map D.str))->dJ s s'->Q (.ref n) s'):wp (jN [sD h]) Q s:=by
 have o:∀n:Nat,n<=100->n<=eK:=λn hn=>eT (by ext);unfold sD
 (simp![jN];simp![yr,bJ])
 refine Ao (λi l s'=>∃H G E:Option D,l=[some (.tup [.tup (h.boards.map mV),.tup (h.hands.map pM)]),some (.ref s.length),H,G,E,none,none]/\s'[s.length]?=some (.lst ((h.boards.take i).map λb=>.str (kF b)))/\dJ s s') (λ_ _ _ _=>trivial) ⟨none,none,none,rfl,lT,(dJ.refl _).snoc _⟩ (λi d l s' hd c=>?_) (λl s' c=>?_)
 ·obtain⟨H,G,E,el,g,J⟩:=c;subst el;rw[aG]at hd;cases C:h.boards[i]? with
  |none=>rw[C]at hd;cases hd
  |some b=>
   rw[C]at hd;cases hd;have hm:=aX C;have hix:=(aq.mp C).1;have U:=ho.2.1 b hm;have S4:=U.1.2.1;have d4:=U.1.2.2.2.1;have b7:=ho.1;have st3:=(xT U.2).2.1;have e:∀(Q:D->aT->Prop)s,wp (i7 (eZ b.st)) Q s=Q (.str (nt b.st)) s:=λQ s=>tf U.2;unfold mV;rw[Ri];simp![gL,n5];refine⟨o _ (by ext),?_⟩;refine Qi1 (caps:=[]) (λi L u=>L=b5 i (λi=>D.str (qz b.dn λd=>(b.nx i d,b.un i d)))/\dJ s' u) (λ_ _ _ _=>trivial) ⟨rfl,dJ.refl _⟩ (λi L u v Y=>?_) (λL u Y=>?_)
   ·obtain⟨a1,l⟩:=Y;unfold ww;simp![↓B6,n5,gL];refine⟨o _ (by ext),?_⟩;rw[Qs (caps:=[]) (f:=λd=>.str (kh (b.nx i d) (b.un i d))) trivial λd I Q=>?_]
    ·have g1:∀(ds:List D)Q,wp (getL u.length) Q (u++[MO.lst ds])=Q ds (u++[MO.lst ds]):=λds Q=>ka (by simp);have h1:(b5 b.dn λd=>(kh (b.nx i d) (b.un i d)).length).sum<=b.dn*3:=G0 λi v=>az 3;simp![↓g1,Pe,Dc,n5,wF];exact⟨by ext,by rw[a1,FM];rfl,l.snoc _⟩
    ·obtain⟨h1,c⟩:=Kf U i d v I;have e1:∀Q s,wp (i7 (.int (b.nx i d:Nat))) Q s=Q (.str (rT (b.nx i d))) s:=λQ s=>Qg (by have:b.nx i d < 4:=h1;ext);have e2:∀Q s,wp (i7 (.int (b.un i d:Nat))) Q s=Q (.str (rT (b.un i d))) s:=λQ s=>Qg (by have:b.un i d < 4:=c;ext);simp![↓e1,↓e2,↓FS,bD,show ∀n,(rT n).length=1 from λ_=>rfl,zx];have g:rT (b.nx i d)++(".":Str)++rT (b.un i d)=kh (b.nx i d) (b.un i d):=by rw[<- Ql5,kN.empty_append]
     rw[g];exact propext ⟨λh=>h.2.2,λh=>⟨o _ (by ext),o _ (by ext),h⟩⟩
   ·obtain⟨a1,l⟩:=Y;subst a1;have c:=l.at_ g;have g1:∀(ds:List D)Q,wp (getL u.length) Q (u++[MO.lst ds])=Q ds (u++[MO.lst ds]):=λds Q=>ka (by simp);have q1:∀(A:List D)Q,wp (getL s.length) Q (u++[MO.lst A])=Q ((h.boards.take i).map λb=>.str (kF b)) (u++[MO.lst A]):=λA Q=>ka (qW c);have q2:∀(A:List D)O Q,wp (putL s.length O) Q (u++[MO.lst A])=Q () ((u++[MO.lst A]).set s.length (.lst O)):=λA O Q=>Aq (qW c);have h1:(b5 b.S λs=>(qz b.dn λd=>(b.nx s d,b.un s d)).length).sum<=b.S*16:=G0 λi v=>by have:=OF (dn:=b.dn) (p:=λd=>(b.nx i d,b.un i d));ext
    have E:(bM (" / ":Str) (b5 b.S λs=>qz b.dn λd=>(b.nx s d,b.un s d))).length<=76:=Ny U;simp![↓B6,↓g1,↓q1,↓q2,Pe,Dc,n5,zV,↓FS,↓e,bD,Mc,EV,ai];refine⟨by ext,o _ (by ext),o _ (by ext),o _ (by ext),BB (by rw[bj];ext),_,_,_,rfl,?_,((J.trans l).snoc _).put (az _)⟩;rw[bC (by have:=qA c;simp;ext),gU,C,bh];rfl
 ·obtain⟨H,G,E,el,g,J⟩:=c;subst el;rw[ai,dj]at g;simp![];refine Ao (λi l s'=>∃(n:Nat)(H G E L u:Option D),l=[some (.tup [.tup (h.boards.map mV),.tup (h.hands.map pM)]),some (.ref n),H,G,E,L,u]/\s'[n]?=some (.lst ((lJ h i).map D.str))/\s.length<=n/\dJ s s') (λ_ _ _ _=>trivial) ⟨s.length,H,G,E,none,none,rfl,?_,az _,J⟩ (λi d l s' hd c=>?_) (λl s' c=>?_)
  ·rw[g];unfold lJ;simp
  ·obtain⟨n,H,G,E,L,u,el,g,b,I⟩:=c;subst el;rw[aG]at hd;cases C:h.hands[i]? with
   |none=>rw[C]at hd;cases hd
   |some x=>
    rw[C]at hd;cases hd;have hm:=aX C;have hix:=(aq.mp C).1;have ln:=Lh ho i (by ext);have h3:=ho.2.2.2.1;obtain⟨b0,b1,l8,J⟩:=ho.2.2.2.2 x hm;have b03:=(xT b0).2.1;have b13:=(xT b1).2.1;have e1:∀(Q:D->aT->Prop)s,wp (i7 (eZ x.b0)) Q s=Q (.str (nt x.b0)) s:=λQ s=>tf b0;have e2:∀(Q:D->aT->Prop)s,wp (i7 (eZ x.b1)) Q s=Q (.str (nt x.b1)) s:=λQ s=>tf b1;have q1:∀Q,wp (getL n) Q s'=Q ((lJ h i).map D.str) s':=λQ=>ka g;have q2:∀O Q,wp (putL n O) Q s'=Q () (s'.set n (.lst O)):=λO Q=>Aq g;unfold pM;simp![↓e1,↓e2,↓FS,↓q1,↓q2,ai,bD,Og,wF,gL];refine⟨o _ (by ext),o _ (by ext),o _ (by ext),BB (by ext),o _ (by ext),?_⟩;refine XV (g:=pZ) (f:=λl=>.str (lH l)) (λ_ _=>trivial) (λl hl v U Q hq=>?_) λv U=>?_
    ·simp![];exact Z7 (az 3) (J l hl) hq
    have gv:=U.at_ (bC (qA g):(s'.set n (MO.lst ((lJ h i).map D.str++[.str (("hand ":Str)++nt x.b0++(" ":Str)++nt x.b1)])))[n]?=_);have ad:∀(A:List D)(Q:D->aT->Prop),wp (bQ (.ref n) (.ref v.length)) Q (v++[MO.lst A])=(((lJ h i).map D.str++[D.str (("hand ":Str)++nt x.b0++(" ":Str)++nt x.b1)]).length+A.length<=eK/\Q (.ref (v++[MO.lst A]).length) (v++[MO.lst A]++[MO.lst (((lJ h i).map D.str++[D.str (("hand ":Str)++nt x.b0++(" ":Str)++nt x.b1)])++A)])):=λA Q=>B9 (qW gv) lT;simp![↓ad];have Y:dJ s v:=(I.put b).trans U;refine⟨eT (by simp;ext),_,_,_,_,_,_,rfl,?_,(Y.snoc _).le,(Y.snoc _).snoc _⟩;rw[lT,QR C];have eh:("hand ":Str)++nt x.b0++(" ":Str)++nt x.b1=i4 x:=by unfold i4;rw[O1];simp only[fQ]
    rw[eh];simp[iQ,Function.comp_def]
  ·obtain⟨n,H,G,E,L,u,el,g,b,I⟩:=c;subst el;rw[ai,Qr]at g;simp![];exact hQ n s' g I
end
open PySem (Str)
open PySem.StrLaws PySem.Builtin.Str
theorem Ni{x y:Str}(h:x.cps.toList=y.cps.toList):x=y:=kN.ext' (pV.mp h)
theorem uX{x y:Str}:(x++y).cps.toList=x.cps.toList++y.cps.toList:=by rw[kN.cps_append,ic]
theorem Bx{a b:Str}:strSub (a++b) 0 a.length=a:=Ni (by rw[strSub_toList,uX,fU,GC,<- rM,lj])
theorem Ep{a b:Str}:strSub (a++b) a.length (a++b).length=b:=Ni (by rw[strSub_toList,uX,<- rM a,li,bD,<- rM a,mv,<- rM b,dj])
theorem Hl{a y b:Str}:At (a++y++b) y (a++y++b).length a.length:=by refine⟨by simp only[bD];ext,?_⟩;rw[subAt_eq,beq_iff_eq,uX,uX,cL,<- rM a,li,<- rM y,lj]
theorem YM{a y b:Str}(no:∀k,k < a.length->¬ At (a++y++b) y (a++y++b).length k):dF (a++y++b) y=(a,y,b):=by
 unfold dF;rcases occ_head (a++y++b) y 1 (az _) with ⟨_,h⟩|⟨i,r,e,g,c⟩
 ·exact bc Hl (h _)
 ·have l : i = a.length := by
    rcases pW i a.length with z|z|z
    ·exact bc g (no i z)
    ·exact z
    ·exact bc Hl (c _ z)
  rw[e,l]
  show (strSub (a++y++b) 0 a.length,y,strSub (a++y++b) (a.length+y.length) (a++y++b).length)=(a,y,b)
  have u:strSub (a++y++b) 0 a.length=a:=by rw[fQ];exact Bx
  have o:strSub (a++y++b) (a.length+y.length) (a++y++b).length=b:=by rw[<- bD];exact Ep
  rw[u,o]
theorem Xa{a y b:Str}(no:∀k,a.length < k->¬ At (a++y++b) y (a++y++b).length k):b8 (a++y++b) y=(a,y,b):=by
 unfold b8;rcases last_spec (a++y++b) y with ⟨_,h⟩|⟨i,e,g,c⟩
 ·exact bc Hl (h _)
 ·have l : i = a.length := by
    rcases pW i a.length with z|z|z
    ·exact bc Hl (c _ z)
    ·exact z
    ·exact bc g (no i z)
  rw[e,l]
  show (strSub (a++y++b) 0 a.length,y,strSub (a++y++b) (a.length+y.length) (a++y++b).length)=(a,y,b)
  have u:strSub (a++y++b) 0 a.length=a:=by rw[fQ];exact Bx
  have o:strSub (a++y++b) (a.length+y.length) (a++y++b).length=b:=by rw[<- bD];exact Ep
  rw[u,o]
theorem At.nth{x y:Str}{k j c:Nat}(h:At x y x.length k)(b:y.cps.toList[j]?=some c):x.cps.toList[k+j]?=some c:=by
 have e:=h.2;rw[subAt_eq,beq_iff_eq]at e;have l:j < y.length:=by rw[<- rM];exact (aq.mp b).1
 have g:((x.cps.toList.drop k).take y.length)[j]?=some c:=by rw[e,b]
 rw[eM l,oF]at g;exact g
theorem At.first{x y:Str}{k c:Nat}{r:List Nat}(h:At x y x.length k)(b:y.cps.toList=c::r):x.cps.toList[k]?=some c:=At.nth (j:=0) h (by rw[b];rfl)
theorem Ik{n c:Nat}(h:n < 1000)(b:c∈(nt n).cps.toList):48<=c/\c<=57:=by obtain⟨k,g,rfl⟩:=Cc (cJ.mp (xT h).2.2 c b);ext
theorem W_:("board ":Str)=("board":Str)++(" ":Str):=by nofun
theorem OX:("board":Str).cps.toList=[98,111,97,114,100]:=by nofun
theorem O7:(" at ":Str).cps.toList=[32,97,116,32]:=by nofun
theorem Oc:(" ":Str).cps.toList=[32]:=by nofun
theorem Rq{b:Bd}(g:b.st < 1000):b8 (kF b) (" at ":Str)=(("board ":Str)++nX b,(" at ":Str),nt b.st):=by
 refine Xa λk o h=>?_;have f:=At.nth (j:=1) (c:=97) h (by rw[O7];rfl);rw[uX,uX,cL,<- rM]at *;rw[bo (by ext),O7]at f;obtain⟨m,l⟩:∃m,k+1-(("board ":Str)++nX b).cps.toList.length=m+2:=⟨k-1-(("board ":Str)++nX b).cps.toList.length,by ext⟩
 rw[l]at f
 match m,f with
 |0,f=>cases f
 |1,f=>cases f
 |m+2,f=>
  have:=Ik g (aX (show (nt b.st).cps.toList[m]?=some 97 from f));ext
theorem Xm{b:Bd}:dF (("board ":Str)++nX b) (" ":Str)=(("board":Str),(" ":Str),nX b):=by
 rw[W_];refine YM λk g h=>?_;have f:=At.first h Oc;have c:k < 5:=by rw[<- rM,OX]at g;exact g
 rw[uX,uX,cL,OX,aJ (by simpa using c)]at f;have:∀k,k < 5->([98,111,97,114,100]:List Nat)[k]?≠some 32:=by decide
 exact this k c f
theorem Tq{b:Bd}:bX (kF b) ("board ":Str)=true:=by unfold bX kF;rw[aO];refine⟨aP (by simp only[bD];ext),?_⟩;rw[subAt_eq,beq_iff_eq,uX,uX,uX,fU,cL,cL,<- rM,lj]
theorem Qnh:("hand ":Str).cps.toList=[104,97,110,100,32]:=by nofun
theorem Qk{h:Hd}:bX (i4 h) ("board ":Str)=false:=by
 unfold bX i4;rw[Bool.and_eq_false_iff];refine .inr ?_;rw[subAt_eq,uX,Qnh,fU];have e:("board ":Str).cps.toList=[98,111,97,114,100,32]:=by nofun
 rw[e,Mc];rfl
noncomputable def No(c:Nat)(x:Str):Prop:=c∉x.cps.toList
theorem No.app{c:Nat}{x y:Str}(h:No c x)(k:No c y):No c (x++y):=λz=>by
 rw[uX]at z;rcases aZ.mp z with z|z
 ·exact h z
 ·exact k z
theorem No.join{c:Nat}{y:Str}{xs:List Str}(b:No c y)(h:∀x∈xs,No c x):No c (bM y xs):=λz=>by
 have z:c∈(cK y xs).cps.toList:=z;rw[cF]at z;rcases mem_join z with z|⟨x,g,z⟩
 ·exact b z
 ·exact h x g z
theorem No.nt{c n:Nat}(h:c < 48)(b:n < 1000):No c (nt n):=λz=>by have:=Ik b z;ext
theorem tT{c:Nat}{x:Str}(h:x.cps.toList.contains c=false):No c x:=λz=>by rw[mS.mpr z]at h;cases h
theorem No.nums{c:Nat}(h:c < 32){ns:List Nat}(g:∀n∈ns,n < 1000):No c (hU ns):=No.join (λz=>by rw[Oc]at z;simp at z;ext) λx b=>by obtain⟨n,l,rfl⟩:=cZ.mp b;exact No.nt (by ext) (g n l)
theorem No.tab{b:Bd}:No 10 (nX b):=by unfold nX vD;refine No.join (tT (by nofun)) λx g=>?_;obtain⟨i,_,rfl⟩:=zR g;refine No.join (tT (by nofun)) λy c=>?_;obtain⟨j,_,rfl⟩:=zR c;intro z;simp[kh]at z;ext
theorem Mo{h:Hs}(c:pP 3 h):∀r∈cy h,No 10 r:=λr o=>by
 rcases oO o with ⟨b,E,e⟩|⟨x,g,e|⟨l,C,e⟩⟩
 ·rw[e];exact (((tT (by nofun)).app No.tab).app (tT (by nofun))).app (No.nt (by ext) (c.2.1 b E).2)
 ·rw[e];exact (tT (by nofun)).app (No.nums (by ext) (xQ (c.2.2.2.2 x g).1 (c.2.2.2.2 x g).2.1))
 ·rw[e];have z:=(c.2.2.2.2 x g).2.2.2 l C;cases l with
  |settle v=>exact (tT (by nofun)).app (No.nums (by ext) λn u=>by rw[aC.mp u];exact z)
  |act b d gs=>exact (((tT (by nofun)).app (No.nums (by ext) (xQ z.1 z.2.1))).app (tT (by nofun))).app (No.nums (by ext) z.2.2.2.2)
theorem SN:("\n":Str)=⟨#[10]⟩:=by nofun
theorem QB:Bi ("\n":Str) 10 0:=by
 rw[SN];exact⟨by decide,rfl,(λj h=>by
  cases j with
  |zero=>rfl
  |succ j=>cases h),by nofun⟩
theorem IM{h:Hs}(g:pP 3 h):cy h≠[]:=λe=>by
 have b:=g.2.2.1;unfold cy at e;have c:=(List.append_eq_nil_iff.mp e).2;cases hh:h.hands with
 |nil=>rw[hh]at b;simp at b
 |cons x xs=>rw[hh]at c;cases c
theorem Qno{h:Hs}(b:pP 3 h):au (qg h) ("\n":Str)=cy h:=BQ QB (IM b) (Mo b)
end My
namespace My
open MM
open PySem (Str)
theorem CQ{y x:Str}:∀{xs:List Str},xs≠[]->bM y (x::xs)=x++y++bM y xs
 |[],h=>bc rfl h
 |z::xs,_=>by show cK y (x::z::xs)=x++y++cK y (z::xs);rw[cF,cF];rfl
def As(h:Hd):List Str:=("hand":Str)::[h.b0,h.b1].map nt
def Ap:Ln->List Str
 | .settle v=>("settle":Str)::[v].map nt
 | .act b d gs=>("do":Str)::nt b::nt d::(":":Str)::gs.map nt
theorem Zt:("hand ":Str)=("hand":Str)++(" ":Str):=by nofun
theorem Tl:("settle ":Str)=("settle":Str)++(" ":Str):=by nofun
theorem To:("do ":Str)=("do":Str)++(" ":Str):=by nofun
theorem W6:(" : ":Str)=(" ":Str)++(":":Str)++(" ":Str):=by nofun
theorem Tz{h:Hd}:i4 h=bM (" ":Str) (As h):=by unfold i4 As;rw[CQ (by simp),Zt];rfl
theorem WZ{l:Ln}(h:∀b d c,l=.act b d c->c≠[]):lH l=bM (" ":Str) (Ap l):=by
 cases l with
 |settle v=>
  show ("settle ":Str)++hU [v]=bM (" ":Str) (("settle":Str)::[v].map nt);rw[CQ (by simp),Tl];rfl
 |act b d c=>
  have g:=h b d c rfl
  show ("do ":Str)++hU [b,d]++(" : ":Str)++hU c=bM (" ":Str) (("do":Str)::nt b::nt d::(":":Str)::c.map nt);rw[CQ (by simp),CQ (by simp),CQ (by simp),CQ (by simpa using g),To,W6,O1];unfold hU;simp only[fQ]
theorem FV{n:Nat}(h:n < 1000):No 32 (nt n):=No.nt (by ext) h
theorem R1{h:Hd}(hh:An 3 h):au (i4 h) (" ":Str)=As h:=by
 rw[Tz];refine BQ JP (by unfold As;simp) λx b=>?_;unfold As at b;rcases aI.mp b with e|e
 ·rw[e];exact tT (by nofun)
 ·obtain⟨n,c,rfl⟩:=cZ.mp e;exact FV (xQ hh.1 hh.2.1 n c)
theorem Zw{l:Ln}(c:vg 3 l)(h:∀b d o,l=.act b d o->o≠[]):au (lH l) (" ":Str)=Ap l:=by
 rw[WZ h];refine BQ JP (by cases l<;>simp[Ap]) λx u=>?_;cases l with
 |settle v=>
  rcases aI.mp u with e|e
  ·rw[e];exact tT (by nofun)
  ·obtain⟨n,g,rfl⟩:=cZ.mp e;rw[aC.mp g];exact FV c
 |act b d o=>
  rcases aI.mp u with e|e
  ·rw[e];exact tT (by nofun)
  rcases aI.mp e with e|e
  ·rw[e];exact FV c.1
  rcases aI.mp e with e|e
  ·rw[e];exact FV c.2.1
  rcases aI.mp e with e|e
  ·rw[e];exact tT (by nofun)
  ·obtain⟨n,g,rfl⟩:=cZ.mp e;exact FV (c.2.2.2.2 n g)
theorem JK:∀{ns:List Nat},((ns.map eZ).all me)=true/\((ns.map eZ).any λd=>tK d .non)=false
 |[]=>⟨rfl,rfl⟩
 |n::ns=>by obtain⟨a,b⟩:=JK (ns:=ns);rw[aN,bG,cN,a,b];exact⟨rfl,rfl⟩
noncomputable def oQ(a:Int):D:=.exn "NoText" [.str "row",.int a]
theorem tu:∀{xs:List Str},(cG fe xs=none/\(((xs.map fe).map ly).any λd=>tK d .non)=true)\/∃ns,cG fe xs=some ns/\(xs.map fe).map ly=ns.map eZ
 |[]=>.inr ⟨[],rfl,rfl⟩
 |x::xs=>by
  unfold cG;cases e:fe x with
  |none=>exact .inl ⟨rfl,by simp only[aN,cN,e];rfl⟩
  |some n=>
   rcases tu (xs:=xs) with ⟨a,b⟩|⟨ns,a,b⟩
   ·refine .inl ⟨by rw[a],?_⟩;rw[aN,aN,cN,b,pI]
   ·refine .inr ⟨n::ns,by rw[a],?_⟩;rw[aN,aN,b,e];rfl
section
variable{s:aT}{Q:D->aT->Prop}{W:D->aT->Prop}{R:o_->aT->Prop}{l:Loc}
theorem C3{c:CE}(h:wp (c l) Q s):gi (zu c l) Q W s:=uY h
theorem FA{a:CA}(h:gi (a l) (λxs s'=>xs.length<=eK/\Q (.tup xs) s') W s):gi (d8 a l) Q W s:=
 nI (pJ h (λxs s' q=>Qy q.1 (vj q.2)) λ_ _ q=>q)
theorem zM{c:CE}{r:CA}{A:List D->aT->Prop}(h:gi (c l) (λx s'=>gi (r l) (λxs s2=>A (x::xs) s2) W s') W s):gi (ak c r l) A W s:=
 nI (pJ h (λx s' q=>nI (pJ q (λxs s2 q=>vj q) λ_ _ q=>q)) λ_ _ q=>q)
theorem Hy{A:List D->aT->Prop}(h:A [] s):gi (kj aY l) A W s:=uY (by show wp (ret _) _ _;rw[cO];exact h)
theorem K5{g:D->D->M D}{a b:CE}(h:gi (a l) (λx c=>gi (b l) (λy s2=>wp (g x y) Q s2) W c) W s):gi (vx g a b l) Q W s:=
 nI (pJ h (λx s' q=>nI (pJ q (λy s2 q=>uY q) λ_ _ q=>q)) λ_ _ q=>q)
theorem Ho{a b:CE} (h:wp (a l) (λx c=>match x with
  | .ref n=>gi (b l) (λv s2=>wp (kY n v) Q s2) W c
  |_=>False) s):gi (rG a b l) Q W s:=
 nI (pJ (uY h) (λx c q=>by cases x<;>first|exact q.elim|exact nI (pJ q (λv s2 q=>uY q) λ_ _ q=>q)) λ_ _ q=>q)
theorem XZ{a b:CE}(h:gi (a l) (λd c=>wp (b l) (λi s2=>wp (bz d i) Q s2) c) W s):gi (tD a b l) Q W s:=
 nI (pJ h (λd c q=>uY (by rw[fk];exact q)) λ_ _ q=>q)
theorem Ug{c:CS}{ys:List Str}{y f:Str}{j:Nat}(h:gi (c l) R (λd s'=>∃x a b,d=.exn x [a,b]/\x∈ys/\gi (gW y f (am j) l) R W s') s):gi (nO c ys y f j l) R W s:=by
 rcases h with ⟨a,s',e,q⟩|⟨d,s',e,x,a,b,rfl,u,q⟩
 ·exact .ok a s' (by unfold nO;rw[e]) q
 ·have o : nO c ys y f j l s = gW y f (am j) l s' := by
    unfold nO;rw[e]
    show (if x∈ys then gW y f (am j) l else bad) s'=_;rw[aE u]
  rcases q with ⟨a,s2,g,q⟩|⟨d,s2,g,q⟩
  ·exact .ok a s2 (o.trans g) q
  ·exact .exc d s2 (o.trans g) q
theorem Eu{xs:List Str}{a:Int}{n:Nat}(h:∀x∈xs,ma 900 x)(E:xs.length<=1000)(o:s[n]?=some (.lst (xs.map D.str)))(v:∀ns,cG fe xs=some ns->Q (.tup (ns.map eZ)) s)(u:cG fe xs=none->W (oQ a) s):gi (jc [.int a,.ref n]) Q W s:=by
 have g1:∀Q,wp (getL n) Q s=Q (xs.map D.str) s:=λQ=>ka o;have l:xs.length<=eK:=eT E;have c:∀Q,wp (collect (aU 0) cD (ba je (ak (am 0) aY)) (qy n (xs.map D.str)) (xs.map D.str) [none]) Q s=Q ((xs.map fe).map ly) s:=λQ=>by
  rw[EY (f:=λp=>ly (fe p)) o λp C Q=>?_,iQ]
  ·rfl
  ·have r:∀(Q:D->aT->Prop)s,wp (je [.str p]) Q s=Q (ly (fe p)) s:=λQ s=>O8 (h p C) (by ext);simp![↓r]
 unfold jc jY;refine xG (kK (tW ?_));simp![↓g1,HA,ai,l,↓c];refine kK (Au ?_);rcases tu (xs:=xs) with ⟨g,b⟩|⟨ns,g,b⟩
 ·simp![↓JF,Hx,b];exact⟨rfl,kK (BA (by simp![];exact u g))⟩
 ·rw[b];simp![↓JF,JK.1,JK.2];refine⟨rfl,uE (kK (tW ?_))⟩;simp![];exact v ns g
theorem JE{ds:List D}{i:Nat}(h:i<=ds.length):cutD ds (some (i:Int)) none=ds.drop i:=by
 unfold cutD gp;have:(if (i:Int) < 0 then ((i:Int)+(ds.length:Int)).toNat else min (i:Int).toNat ds.length)=i:=by rw[aA (by ext)];ext
 simp only[this];exact eX (by rw[bE];exact az _)
end
def kC(r:Str):Option (List (List (Nat×Nat))×Nat):=match r9 (dF (b8 r (" at ":Str)).1 (" ":Str)).2.2,fe (b8 r (" at ":Str)).2.2 with
 |some t,some n=>some (t,n)
 |_,_=>none
theorem IP{n i j:Nat}{x:Str}(h:ma n x):ma n (AU.Str.strSub x i j):=⟨bv (PySem.strSub_length_le x i j) h.1,λc b=>h.2 c (by rw[PySem.StrLaws.strSub_toList]at b;exact fH (dU b))⟩
theorem OC{n:Nat}:ma n tZ:=⟨bJ _,λc b=>(by cases b)⟩
theorem YU{n:Nat}{x y:Str}(h:ma n x):ma n (dF x y).2.2:=by
 unfold dF;split
 ·exact IP h
 ·exact OC
theorem Vn{n:Nat}{x y:Str}(h:ma n x):ma n (b8 x y).1/\ma n (b8 x y).2.2:=by
 unfold b8;split
 ·exact⟨IP h,IP h⟩
 ·exact⟨OC,h⟩
section
variable{s:aT}{Q:D->aT->Prop}{W:D->aT->Prop}{R:o_->aT->Prop}{l:Loc}
theorem NZ{f:Str->Str->Str×Str×Str}{a b:CE}: wp (pe f a b l) Q s=wp (a l) (λx c=>match x with
   | .str x=>wp (b l) (λy s2=>match y with
    | .str y=>((y.length == 0)=false/\x.length<=eK)/\Q (GP (f x y)) s2
    |_=>False) c
   |_=>False) s:=by
 unfold pe;rw[fk];congr 1;funext x c;cases x with
 |str x=>
  dsimp only;rw[fk];congr 1;funext y s2;cases y with
  |str y=>dsimp only;rw[eA,cO]
  |_=>exact lK rfl
 |_=>exact lK rfl
theorem YE{x:Str}{ns:List Nat}(h:cG fe [x]=some ns):∃k,ns=[k]/\fe x=some k:=by
 unfold cG at h;cases e:fe x with
 |none=>rw[e]at h;cases h
 |some k=>rw[e]at h;cases h;exact⟨k,rfl,rfl⟩
theorem RS{x:Str}(h:cG fe [x]=none):fe x=none:=by
 unfold cG at h;cases e:fe x with
 |none=>rfl
 |some k=>rw[e]at h;cases h
theorem N8{r:Str}{a:Int}(h:ma 900 r)(O:∀t k s',kC r=some (t,k)->dJ s s'->Q (.tup [xR t,eZ k]) s')(E:kC r=none->∀s',dJ s s'->W (oQ a) s'):gi (jD [.int a,.str r]) Q W s:=by
 have J:1<=eK:=eT (by ext);have I:2<=eK:=eT (by ext);obtain⟨v,H⟩:=Vn (y:=(" at ":Str)) h;have G:=YU (y:=(" ":Str)) v;have a1:r.length<=eK:=eT (bv h.1 (by ext));have a2:(b8 r (" at ":Str)).1.length<=eK:=eT (bv v.1 (by ext));have l:(((" at ":Str)).length == 0)=false:=by nofun
 have Y:(((" ":Str)).length == 0)=false:=by nofun
 have C:∀(a b c:D)(Q:D->aT->Prop)s,wp (dM [a,b,c] 2) Q s=Q c s:=λa b c Q s=>oT (i:=2) rfl;have u:kC r=match r9 (dF (b8 r (" at ":Str)).1 (" ":Str)).2.2,fe (b8 r (" at ":Str)).2.2 with
  |some t,some n=>some (t,n)
  |_,_=>none:=rfl
 unfold jD ye;refine xG (kK (tW ?_));simp![↓NZ,l,a1,GP];refine kK (tW ?_);simp![↓NZ,Y,a2,GP];generalize b8 r (" at ":Str)=p at *;generalize dF p.1 (" ":Str)=p2 at *;refine kK (Ug (MM.mO (ul ?_)));simp![↓C];refine pJ (Vg G (az _)) (λd s2 q=>?_) λd s2 q=>?_
 ·obtain⟨⟨t,o,rfl⟩,x⟩:=q;simp![];refine kK (Hq (FA (zM (C3 ?_))));simp![];refine zM (XZ (ul ?_));simp![↓C,J];have g:(s2++[MO.lst [D.str p.2.2]])[s2.length]?=some (.lst ([p.2.2].map D.str)):=lT;refine Eu (λx L=>by rw[aC.mp L];exact H) (by show 1<=1000;ext) g (λns e=>?_) λe=>?_
  ·obtain⟨k,rfl,U⟩:=YE e;simp![];refine Hy ⟨I,O t k _ ?_ (x.snoc _)⟩;rw[u,o,U]
  ·refine E ?_ _ (x.snoc _);rw[u,o,RS e]
 ·obtain⟨o,rfl,x⟩:=q;refine⟨"NoTable",.str "at",.int 0,rfl,by simp,BA ?_⟩;simp![];exact E (by rw[u,o]) _ x
end
open PySem (Str)
theorem Mb{α β:Type}{f:α->Option β}{g:Nat->α}{h:Nat->β}:∀{n:Nat},(∀i,i < n->f (g i)=some (h i))->cG f (b5 n g)=some (b5 n h)
 |0,_=>rfl
 |n+1,z=>by rw[FM,FM];exact Jl (Mb λi b=>z i (by ext)) (z n (by ext))
theorem OY{n:Nat}(h:n < 8):fe (rT n)=some n:=by rw[<- EC h];exact He (by ext)
theorem XD{g u:Nat}(b:g < 4)(hu:u < 4):kB (kh g u)=some (g,u):=by unfold kB;rw[Uo b hu,aN,aN,pz,OY (by ext),OY (by ext)]
def xL(b:Bd):List (List (Nat×Nat)):=b5 b.S λi=>b5 b.dn λd=>(b.nx i d,b.un i d)
theorem WS{b:Bd}:xR (xL b)=fq b.S b.dn b.nx b.un:=by unfold xR xL fq;rw[Dc];congr 2;funext i;unfold rV;rw[Dc];rfl
theorem Uq{b:Bd}(h:yN b):r9 (nX b)=some (xL b):=by
 have g:=Kf h;obtain⟨v,L,u,J,o⟩:=h.1;have G:uh (nX b)=some (xL b):=by unfold uh nX;rw[Vf v g];refine Mb λi c=>?_;unfold wV;rw[Tr u (g i · c)];exact Mb λd hd=>XD (g i d c hd).1 (g i d c hd).2
 have H:B8 (xL b)=true:=by
  have I:(xL b).headD []=b5 b.dn λd=>(b.nx 0 d,b.un 0 d):=by
   unfold xL;obtain⟨n,E⟩:∃n,b.S=n+1:=⟨b.S-1,by ext⟩
   rw[E];unfold b5;rw[my];rfl
  unfold B8;rw[I,n5];refine cJ.mpr λr l=>?_;unfold xL at l;obtain⟨i,c,rfl⟩:=zR l;unfold Df;rw[n5,aP rfl,sQ];refine cJ.mpr λp C=>?_;obtain⟨d,hd,rfl⟩:=zR C;unfold xL;rw[n5];exact aP (o i d c hd).1
 unfold r9;rw[G];exact aE H
theorem MU{b:Bd}(h:yN b):kC (kF b)=some (xL b,b.st):=by unfold kC;rw[Rq h.2];dsimp only;rw[Xm];dsimp only;rw[Uq h,He h.2]
noncomputable def o8(x:Str):Prop:=∀c∈x.cps.toList,c < 128
theorem o8.app{x y:Str}(h:o8 x)(k:o8 y):o8 (x++y):=λc z=>by
 rw[uX]at z;rcases aZ.mp z with z|z
 ·exact h c z
 ·exact k c z
theorem o8.join{y:Str}{xs:List Str}(b:o8 y)(h:∀x∈xs,o8 x):o8 (bM y xs):=λc z=>by
 have z:c∈(cK y xs).cps.toList:=z;rw[cF]at z;rcases mem_join z with z|⟨x,g,z⟩
 ·exact b c z
 ·exact h x g c z
theorem o8.nt{n:Nat}(b:n < 1000):o8 (nt n):=λc z=>by have:=Ik b z;ext
theorem vq{x:Str}(h:(x.cps.toList.all λc=>decide (c < 128))=true):o8 x:=λc z=>of_decide_eq_true (cJ.mp h c z)
theorem o8.nums{ns:List Nat}(c:∀n∈ns,n < 1000):o8 (hU ns):=o8.join (vq (by nofun)) λx b=>by obtain⟨n,g,rfl⟩:=cZ.mp b;exact o8.nt (c n g)
theorem o8.tab{b:Bd}(h:yN b):o8 (nX b):=by unfold nX vD;refine o8.join (vq (by nofun)) λx l=>?_;obtain⟨i,u,rfl⟩:=zR l;refine o8.join (vq (by nofun)) λy g=>?_;obtain⟨j,o,rfl⟩:=zR g;obtain⟨a,b⟩:=Kf h i j u o;intro c z;simp[kh]at z a b;ext
theorem WB{h:Hs}(c:pP 3 h):∀r∈cy h,o8 r:=λr u=>by
 rcases oO u with ⟨b,o,e⟩|⟨x,g,e|⟨l,E,e⟩⟩
 ·rw[e];exact (((vq (by nofun)).app (o8.tab (c.2.1 b o))).app (vq (by nofun))).app (o8.nt (c.2.1 b o).2)
 ·rw[e];exact (vq (by nofun)).app (o8.nums (xQ (c.2.2.2.2 x g).1 (c.2.2.2.2 x g).2.1))
 ·rw[e];have z:=(c.2.2.2.2 x g).2.2.2 l E;cases l with
  |settle v=>exact (vq (by nofun)).app (o8.nums λn C=>by rw[aC.mp C];exact z)
  |act b d gs=>exact (((vq (by nofun)).app (o8.nums (xQ z.1 z.2.1))).app (vq (by nofun))).app (o8.nums z.2.2.2.2)
theorem LI{h:Hs}(c:pP 3 h):∀r∈cy h,ma 90 r:=λr b=>⟨JS c r b,WB c r b⟩
def pi(c:List Str):Option D:=
 if c.headD ("":Str)=("settle":Str)/\c.length=2 then (match cG fe (c.drop 1) with
  |some ns=>some (.tup (.str "settle"::ns.map eZ))
  |none=>none)
 else if c.headD ("":Str)=("do":Str)/\4 < c.length/\c[3]?=some (":":Str) then (match cG fe ((c.drop 1).take 2),cG fe (c.drop 4) with
  |some a,some b=>some (.tup (.str "do"::a.map eZ++[.tup (b.map eZ)]))
  |_,_=>none)
 else none
theorem C6:∀{ns:List Nat},(∀n∈ns,n < 1000)->cG fe (ns.map nt)=some ns
 |[],_=>rfl
 |n::ns,h=>by rw[aN];unfold cG;rw[He (h n (by simp)),C6 λm b=>h m (by simp[b])]
theorem QQ{l:Ln}(h:vg 3 l):pi (Ap l)=some (pZ l):=by
 cases l with
 |settle v=>
  have e:cG fe ((Ap (.settle v)).drop 1)=some [v]:=C6 λn c=>by rw[aC.mp c];exact h
  unfold pi;rw[aE ⟨rfl,rfl⟩,e];rfl
 |act b d gs=>
  obtain⟨C,u,H,o,g⟩:=h;have I:0 < gs.length:=kJ.mpr o;have G:cG fe (((Ap (.act b d gs)).drop 1).take 2)=some [b,d]:=C6 (xQ C u);have E:cG fe ((Ap (.act b d gs)).drop 4)=some gs:=C6 g;unfold pi;rw[aA (λz=>by have:=z.1;revert this;show ¬ (("do":Str)="settle");decide),aE ⟨rfl,by show 4 < (gs.map nt).length+1+1+1+1;rw[ai];ext,rfl⟩,G,E];rfl
section
variable{s:aT}{Q:D->aT->Prop}{W:D->aT->Prop}{R:o_->aT->Prop}{l:Loc}
theorem YG{c:List Str}{a:Int}{n:Nat}(h:∀x∈c,ma 900 x)(E:c≠[])(hl:c.length<=902)(hg:s[n]?=some (.lst (c.map D.str)))(u:∀d s',pi c=some d->dJ s s'->Q d s')(I:pi c=none->∀s',dJ s s'->W (oQ a) s'):gi (jH [.int a,.ref n]) Q W s:=by
 have O:1<=eK:=eT (by ext);have l2:2<=eK:=eT (by ext);have l4:4<=eK:=eT (by ext);have g:∀Q,wp (getL n) Q s=Q (c.map D.str) s:=λQ=>ka hg;have g':∀(A:List D)Q,wp (getL n) Q (s++[MO.lst A])=Q (c.map D.str) (s++[MO.lst A]):=λA Q=>ka (qW hg);have Y:∀(Q:D->aT->Prop)s,wp (dM (c.map D.str) 0) Q s=Q (.str (c.headD ("":Str))) s:=λQ s=>by
  cases c with
  |nil=>exact bc rfl E
  |cons w r=>exact oT (i:=0) rfl
 have c1:cutD (c.map D.str) (some 1) none=(c.drop 1).map D.str:=by have l:1<=c.length:=kJ.mpr E;rw[kg];exact JE (i:=1) (by rw[ai];exact l)
 have sub:∀{k:Nat},∀x∈c.drop k,ma 900 x:=λx hx=>h x (fH hx);unfold jH ym;refine xG (kK (Au ?_));have o:pi c=if c.headD ("":Str)=("settle":Str)/\c.length=2 then (match cG fe (c.drop 1) with
  |some ns=>some (.tup (.str "settle"::ns.map eZ))
  |none=>none)
  else if c.headD ("":Str)=("do":Str)/\4 < c.length/\c[3]?=some (":":Str) then (match cG fe ((c.drop 1).take 2),cG fe (c.drop 4) with
   |some a,some b=>some (.tup (.str "do"::a.map eZ++[.tup (b.map eZ)]))
   |_,_=>none)
  else none:=rfl
 have yW:∀{p q:Prop} [Decidable p] [Decidable q] {x y:Prop},(if p then if q then x else y else y)=if p/\q then x else y:=λ{p q}_ _{x y}=>by
  by_cases C:p
  ·by_cases u:q
   ·rw[aE C,aE u,aE ⟨C,u⟩]
   ·rw[aE C,aA u,aA λz=>u z.2]
  ·rw[aA C,aA λz=>C z.1]
 simp![↓g,↓Y,ai];rw[yW];by_cases G:c.headD ("":Str)=("settle":Str)/\(c.length:Int)=2
 ·rw[aE G];rw[aE ⟨G.1,by have:=G.2;ext⟩]at o;refine kK (Hq (K5 (C3 ?_)));simp![O];refine ul ?_;simp![↓g,c1];refine Eu (xs:=c.drop 1) sub (by rw[bE];ext) lT (λns e=>?_) λe=>?_
  ·have L:=Fu e;simp![ai,bL];refine⟨eT (by rw[L,bE];ext),u _ _ (by rw[o,e]) ((dJ.refl _).snoc _)⟩
  ·exact I (by rw[o,e]) _ ((dJ.refl _).snoc _)
 rw[aA G];rw[aA (λz=>G ⟨z.1,by have:=z.2;ext⟩)]at o;refine uE ?_;dsimp only;refine kK (Au ?_);by_cases J:c.headD ("":Str)=("do":Str)/\4 < c.length/\c[3]?=some (":":Str)
 ·rw[aE J]at o;obtain⟨H,b2,b3⟩:=J;have U:∀(Q:D->aT->Prop)s,wp (dM (c.map D.str) 3) Q s=Q (.str (":":Str)) s:=λQ s=>oT (i:=3) (by rw[aG,b3];rfl);have h:(4:Int) < (c.length:Nat):=by ext
  have E:cutD (c.map D.str) (some 1) (some 3)=((c.drop 1).take 2).map D.str:=by
   unfold cutD gp;dsimp only;rw[ai,aA (by ext),aA (by ext)];have v:min (Int.toNat 1) c.length=1:=by ext
   have l:min (Int.toNat 3) c.length=3:=by ext
   rw[v,l,oA,kg]
  have C:cutD (c.map D.str) (some 4) none=(c.drop 4).map D.str:=by rw[kg];exact JE (i:=4) (by rw[ai];ext)
  simp![↓g,↓Y,H,ai,h,↓U,if_true,decide_true];refine kK (Hq (K5 (K5 (C3 ?_))));simp![O];refine ul ?_;simp![↓g,E];refine Eu (xs:=(c.drop 1).take 2) (λx hx=>sub x (dU hx)) (by rw[bj];ext) lT (λns e=>?_) λe=>?_
  ·have L:=Fu e;rw[bj,bE]at L;simp![ai,bL];refine⟨eT (by ext),?_⟩;refine FA (zM (ul ?_));simp![↓g',C];refine Eu (xs:=c.drop 4) sub (by rw[bE];ext) lT (λG b=>?_) λb=>?_
   ·refine Hy ⟨O,?_⟩;simp![aS,ai,bL];refine⟨eT (by ext),u _ _ (by rw[o,e,b];rfl) (((dJ.refl _).snoc _).snoc _)⟩
   ·exact I (by rw[o,e,b]) _ (((dJ.refl _).snoc _).snoc _)
  ·exact I (by rw[o,e]) _ ((dJ.refl _).snoc _)
 ·rw[aA J]at o;have v : gi (aF (gW "NoText" "row" (am 0)) aH [some (.int a), some (.ref n)]) (λf s' => match f with
    | .ret d=>Q d s'
    | .next _=>Q .non s'
    |_=>False) W s:=kK (BA (by simp![];exact I o s (dJ.refl _)))
  simp![↓g,↓Y,ai];by_cases H:c.headD ("":Str)=("do":Str)
  ·rw[aE H];by_cases b2:4 < c.length
   ·rw[aE (by ext)];obtain⟨w,b⟩:∃w,c[3]?=some w:=⟨_,ar (by ext)⟩
    have U:∀(Q:D->aT->Prop)s,wp (dM (c.map D.str) 3) Q s=Q (.str w) s:=λQ s=>oT (i:=3) (by rw[aG,b];rfl);simp![↓U];have b3:¬ w=(":":Str):=λz=>J ⟨H,b2,by rw[b,z]⟩;rw[aA b3];exact uE v
   ·rw[aA (by ext)];exact uE v
  ·rw[aA H];exact uE v
end
open PySem (Str)
noncomputable def pre:List Hd->Nat->List Hd
 |[],_=>[]
 |_::_,0=>[]
 |x::xs,j+1=>if j<=x.lines.length then [⟨x.b0,x.b1,x.lines.take j⟩] else x::pre xs (j-x.lines.length)
def iw(hs:List Hd):List Str:=(hs.map sf).flatten
theorem Hg:∀{hs:List Hd},pre hs 0=[]
 |[]=>rfl
 |_::_=>rfl
theorem Hj{x:Hd}{xs:List Hd}{j:Nat}(h:x.lines.length<=j):pre (x::xs) (j+1)=x::pre xs (j-x.lines.length):=by
 show (if j<=x.lines.length then _ else _)=_;by_cases e:j<=x.lines.length
 ·have:j=x.lines.length:=by ext
  subst this;rw[aE e,mM,Hg,dj]
 ·rw[aA e]
theorem Hw{x:Hd}{xs:List Hd}{j:Nat}(h:j<=x.lines.length):pre (x::xs) (j+1)=[⟨x.b0,x.b1,x.lines.take j⟩]:=by show (if j<=x.lines.length then _ else _)=_;rw[aE h]
theorem KC{x:Hd}{xs:List Hd}:iw (x::xs)=i4 x::(x.lines.map lH++iw xs):=rfl
theorem tH: ∀{hs:List Hd}{j:Nat}{r:Str},(iw hs)[j]?=some r ->
  (∃x∈hs,r=i4 x/\pre hs (j+1)=pre hs j++[⟨x.b0,x.b1,[]⟩])\/∃x∈hs,∃l∈x.lines,∃g c,r=lH l/\pre hs j=g++[c]/\pre hs (j+1)=g++[⟨c.b0,c.b1,c.lines++[l]⟩]
 |[],j,r,h=>by simp[iw]at h
 |x::xs,0,r,h=>by rw[KC]at h;cases h;exact .inl ⟨x,bO,rfl,by rw[Hw (bJ _),Hg];rfl⟩
 |x::xs,j+1,r,h=>by
  rw[KC,List.getElem?_cons_succ]at h;by_cases b:j < x.lines.length
  ·rw[aJ (by rw[ai];exact b),aG,ar b]at h;cases h;refine .inr ⟨x,bO,x.lines[j],cR b,[],⟨x.b0,x.b1,x.lines.take j⟩,rfl,by rw[Hw (by ext)];rfl,?_⟩;rw[Hw (by ext),gU,ar b];rfl
  ·rw[bo (by rw[ai];ext),ai]at h;have C:pre (x::xs) (j+1)=x::pre xs (j-x.lines.length):=Hj (by ext);have v:pre (x::xs) (j+1+1)=x::pre xs (j-x.lines.length+1):=by rw[Hj (by ext)];congr 2;ext
   rcases tH h with ⟨y,o,u,G⟩|⟨y,o,l,E,g,c,u,I,H⟩
   ·exact .inl ⟨y,bb _ o,u,by rw[C,v,G];rfl⟩
   ·exact .inr ⟨y,bb _ o,l,E,x::g,c,u,by rw[C,I];rfl,by rw[v,H];rfl⟩
theorem Oa:∀{hs:List Hd},pre hs (iw hs).length=hs
 |[]=>rfl
 |x::xs=>by
  have e:(iw (x::xs)).length=x.lines.length+(iw xs).length+1:=by rw[KC,cQ,aS,ai]
  rw[e,Hj (by ext),mv,Oa]
def xM(c:Hd×Nat):D:=.tup [.tup ([c.1.b0,c.1.b1].map eZ),.ref c.2]
section
variable{p q:Nat}{s s1 s2:aT}{Q:D->aT->Prop}
structure HC(s:aT)(hn n:Nat)(hs:List Hd)(cs:List (Hd×Nat)):Prop where
 fst:cs.map (·.1)=hs
 at_:s[hn]?=some (.lst (cs.map xM))
 ls:∀c∈cs,s[c.2]?=some (.lst (c.1.lines.map pZ))
 nd:(cs.map (·.2)).Nodup
 ne:∀c∈cs,c.2≠hn/\c.2≠n
theorem HC.ext{b n:Nat}{hs:List Hd}{cs:List (Hd×Nat)}(h:HC s b n hs cs)(x:dJ s s1):HC s1 b n hs cs:=⟨h.fst,x.at_ h.at_,λc g=>x.at_ (h.ls c g),h.nd,h.ne⟩
end
open PySem (Str)
section
variable{s:aT}{Q:D->aT->Prop}{W:D->aT->Prop}{R:o_->aT->Prop}{l:Loc}
theorem WP{a:CE}{I:Wk->aT->Prop}: wp (qp a l) I s=wp (a l) (λx s'=>match x with
   | .ref n=>wp (getL n) (λds s2=>I ⟨(gG 0 ds.length).zipWith (λi d=>.tup [i,d]) ds,qy n ds⟩ s2) s'
   |_=>False) s:=by
 unfold qp;rw[fk];congr 1;funext x s1;cases x with
 |ref n=>dsimp only;rw[fk];exact k_ λ_ _=>cO
 |_=>exact lK rfl
theorem WJ{a b:CE}: wp (oh a b l) Q s=wp (a l) (λx c=>match x with
   | .str x=>wp (b l) (λy s2=>match y with
    | .str y=>Q (.bl (bX x y)) s2
    |_=>False) c
   |_=>False) s:=by
 unfold oh;rw[fk];congr 1;funext x c;cases x with
 |str x=>
  dsimp only;rw[fk];congr 1;funext y s2;cases y with
  |str y=>exact cM rfl
  |_=>exact lK rfl
 |_=>exact lK rfl
theorem M3{R:List Str}{bs:List Bd}{k n:Nat}(hR:∀r∈R,ma 900 r)(hbs:∀b∈bs,yN b)(hk:k<=bs.length)(b4:bs.length<=4)(hl:R.length<=300)(hg:s[n]?=some (.lst (R.map D.str)))(h:∀i b,i < k->bs[i]?=some b->R[i]?=some (kF b))
  (I:R.length=k->∀s',dJ s s'->W (oQ (k:Nat)) s')
  (hat:∀r,R[k]?=some r->(bX r ("board ":Str)=false->∀s',dJ s s'->Q (.tup ((bs.take k).map mV)) s')/\(bX r ("board ":Str)=true->kC r=none/\∀s',dJ s s'->W (oQ (k:Nat)) s')):gi (jt [.ref n]) Q W s:=by
 have g:∀(A:List D)Q,wp (getL n) Q (s++[MO.lst A])=Q (R.map D.str) (s++[MO.lst A]):=λA Q=>ka (qW hg);have lg:=qA hg;have l3:R.length<=eK:=eT (by ext);unfold jt yc;refine xG (kK (tW ?_));simp![bJ];refine kK (QP ?_);simp![↓WP,↓g];refine Ol (λi l s'=>i<=k/\∃O L:Option D,l=[some (.ref n),some (.ref s.length),O,L]/\s'[n]?=some (.lst (R.map D.str))/\s'[s.length]?=some (.lst ((bs.take i).map mV))/\dJ s s') (λ_ _ _ z=>z.2.choose_spec.choose_spec.2.1) (λi d l s' hd o=>?_) (λl s' o=>?_) ⟨bJ _,none,none,rfl,qW hg,lT,(dJ.refl _).snoc _⟩
 ·obtain⟨hi,O,L,el,ga,gb,c⟩:=o;subst el;obtain⟨r0,G,ed⟩:=HH hd;subst ed;obtain⟨r,Y,I⟩:=MD G;subst I;clear G;have tr:=hR r (aX Y);simp![];refine kK (Au ?_);simp![↓WJ];by_cases H:i < k
  ·have J:=ar (show i < bs.length by ext);have E:=h i _ H J;have o:=hbs _ (aX J);generalize bs[i]=b at *;rw[Y]at E;cases E;rw[Tq];simp![];refine uE (kK (Hr (Ho ?_)));simp![];refine ul ?_;simp![];refine N8 tr (λt j u e C=>?_) λe=>?_
   ·rw[MU o]at e;cases e;have g:=C.at_ gb;have U:∀Q,wp (getL s.length) Q u=Q ((bs.take i).map mV) u:=λQ=>ka g;have G:∀l Q,wp (putL s.length l) Q u=Q () (u.set s.length (.lst l)):=λl Q=>Aq g;have I:∀v Q,wp (kY s.length v) Q u=(((bs.take i).map mV).length < eK/\Q .non (u.set s.length (.lst ((bs.take i).map mV++[v])))):=λv Q=>by unfold kY;rw[fk,U,eA,fk,G,cO]
    rw[I];refine⟨BB (by rw[ai,bj];ext),uE ⟨H,_,_,rfl,?_,?_,(c.trans C).put (az _)⟩⟩
    ·rw[bn (by ext)];exact C.at_ ga
    ·rw[bC (qA g),gU,J,bh,WS];rfl
   ·rw[MU o]at e;cases e
  ·have l:i=k:=by ext
   subst l;obtain⟨h,g⟩:=hat r Y;cases E:bX r ("board ":Str) with
   |false=>
    have U:∀Q,wp (getL s.length) Q s'=Q ((bs.take i).map mV) s':=λQ=>ka gb;simp![];refine kK (tW ?_);simp![↓U];exact h E s' c
   |true=>
    obtain⟨o,b⟩:=g E;simp![];refine uE (kK (Hr (Ho ?_)));simp![];refine ul ?_;simp![];exact N8 tr (λt j u e C=>by rw[o]at e;cases e) λe u C=>b u (c.trans C)
 ·obtain⟨hi,O,L,el,ga,gb,c⟩:=o;subst el;have el:((gG 0 (R.map D.str).length).zipWith (λi d=>D.tup [i,d]) (R.map D.str)).length=R.length:=by rw[vO,pK,ai,Nat.min_self]
  rw[el]at hi;have g:R.length=k:=by
   by_cases e:R.length < k
   ·have J:=ar (show R.length < bs.length by ext);have:=h _ _ e J;rw[dq (az _)]at this;cases this
   ·ext
  have b:∀Q,wp (getL n) Q s'=Q (R.map D.str) s':=λQ=>ka ga;refine kK (BA ?_);simp![↓b,ai,l3];have:=I g s' c;rw[g];exact this
end
open PySem (Str)
def oR(k:Nat)(r:Str):Prop:=if (au r (" ":Str)).headD ("":Str)=("hand":Str)/\(au r (" ":Str)).length=3 then cG fe ((au r (" ":Str)).drop 1)=none else k=0\/pi (au r (" ":Str))=none
theorem yW{p q:Prop}[Decidable p][Decidable q]{x y:Prop}:(if p then if q then x else y else y)=if p/\q then x else y:=by
 by_cases b:p
 ·by_cases c:q
  ·rw[aE b,aE c,aE ⟨b,c⟩]
  ·rw[aE b,aA c,aA λz=>c z.2]
 ·rw[aA b,aA λz=>b z.1]
section
variable{s s1:aT}{Q:D->aT->Prop}{W:D->aT->Prop}
theorem QM{n:Nat}{ds:List D}{v:D}(h:s[n]?=some (.lst ds)):wp (kY n v) Q s=(ds.length < eK/\Q .non (s.set n (.lst (ds++[v])))):=by unfold kY;rw[fk,ka h,eA,fk,Aq h,cO]
theorem UL{ds:List D}{d:D}:wp (dM (ds++[d]) (-1)) Q s=Q d s:=by
 have e:pO (ds++[d]).length (-1)=some ds.length:=by
  unfold pO;rw[aS,bL]
  first
   | (rw[aA (by ext),aE (by ext)];congr 1;ext)
   | (simp;ext)
 unfold dM;rw[e];dsimp only;rw[bo (az _),mM];exact cO
theorem HC.push{o n k:Nat}{hs:List Hd}{cs:List (Hd×Nat)}{y:Hd}(h:HC s o n hs cs)(x:dJ s s1)(u:y.lines=[])(v:s1[k]?=some (.lst []))(I:s.length<=k)(H:n < s.length):HC (s1.set o (.lst (cs.map xM++[xM (y,k)]))) o n (hs++[y]) (cs++[(y,k)]):=by
 have G:=qA h.at_;have l:=qA (x.at_ h.at_);refine⟨by rw[bh,h.fst];rfl,by rw[bC l,bh];rfl,λc g=>?_,?_,λc g=>?_⟩
 ·rcases aZ.mp g with g|g
  ·rw[bn (h.ne c g).1.symm];exact x.at_ (h.ls c g)
  ·rw[aC.mp g];rw[bn (by dsimp only;ext)];dsimp only;rw[u];exact v
 ·rw[bh];refine xm.mpr ⟨h.nd,by simp,λa E b C e=>?_⟩;obtain⟨c,g,rfl⟩:=cZ.mp E;have:=qA (h.ls c g);simp at C;ext
 ·rcases aZ.mp g with g|g
  ·exact h.ne c g
  ·rw[aC.mp g];dsimp only;ext
theorem HC.line{C n k:Nat}{E:List Hd}{c:Hd}{l:Ln}{u:List (Hd×Nat)}(h:HC s C n (E++[c]) (u++[(c,k)])):HC (s.set k (.lst (c.lines.map pZ++[pZ l]))) C n (E++[⟨c.b0,c.b1,c.lines++[l]⟩]) (u++[(⟨c.b0,c.b1,c.lines++[l]⟩,k)]):=by
 have v:(c,k)∈u++[(c,k)]:=by simp
 have G:=qA (h.ls _ v);have o:=h.ne _ v;have g:=h.nd;rw[bh]at g;refine⟨?_,?_,λe b=>?_,by rw[bh];exact g,λe b=>?_⟩
 ·have:=h.fst;rw[bh]at this ⊢;have:=uS this rfl;rw[this];rfl
 ·rw[bn o.1,h.at_,bh,bh];rfl
 ·rcases aZ.mp b with b|b
  ·have hd:=(xm.mp g).2.2 e.2 (cZ.mpr ⟨e,b,rfl⟩) k (by simp);rw[bn (λz=>hd z.symm)];exact h.ls e (gT _ b)
  ·rw[aC.mp b];rw[bC G,bh];rfl
 ·rcases aZ.mp b with b|b
  ·exact h.ne e (gT _ b)
  ·rw[aC.mp b];exact o
theorem Qo:∀(hs:List Hd)(j:Nat),(pre hs j).length<=hs.length
 |[],_=>az _
 |_::_,0=>bJ _
 |x::xs,j+1=>by
  show (if j<=x.lines.length then _ else _:List Hd).length<=_;by_cases e:j<=x.lines.length
  ·rw[aE e];simp
  ·rw[aA e];have:=Qo xs (j-x.lines.length);simp only[cQ];ext
theorem QW{m:Nat}:∀(hs:List Hd)(j:Nat),(∀x∈hs,x.lines.length<=m)->∀c∈pre hs j,c.lines.length<=m
 |[],_,_,c,b=>(by cases b)
 |_::_,0,_,c,b=>(by cases b)
 |x::xs,j+1,h,c,b=>by
  have l:=h x bO;by_cases e:j<=x.lines.length
  ·rw[Hw e]at b;rw[aC.mp b]
   show (x.lines.take j).length<=m;rw[bj];ext
  ·rw[Hj (by ext)]at b;rcases aI.mp b with rfl|b
   ·exact l
   ·exact QW xs _ (λy g=>h y (bb _ g)) c b
theorem N5:¬ (ag "settle"=ag "hand"):=by decide
theorem NH:¬ (ag "do"=ag "hand"):=by decide
theorem Rz:(((" ":Str)).length == 0)=false:=by nofun
theorem OQ{R:List Str}{hs:List Hd}{f k n:Nat}(hR:∀r∈R,ma 900 r)(hl:R.length<=300)(hh:∀x∈hs,An 3 x)(h9:hs.length<=9)(hg:s[n]?=some (.lst (R.map D.str)))(hf:f<=R.length)(hk:k<=(iw hs).length)(good:∀i r,i < k->(iw hs)[i]?=some r->R[f+i]?=some r)
  (hend:R.length=f+k->k=(iw hs).length/\∀s',dJ s s'->Q (.tup (hs.map pM)) s')
  (hat:∀r,R[f+k]?=some r->oR k r/\∀s',dJ s s'->W (oQ ((f+k:Nat):Int)) s'):gi (jE [.ref n,.int (f:Nat)]) Q W s:=by
 have l1:1<=eK:=eT (by ext);have l2:2<=eK:=eT (by ext);have g:∀(A:List D)Q,wp (getL n) Q (s++[MO.lst A])=Q (R.map D.str) (s++[MO.lst A]):=λA Q=>ka (qW hg);have lg:=qA hg;have l3:R.length<=eK:=eT (by ext);have en:((R.length:Int)-(f:Int)).toNat=R.length-f:=by ext
 unfold jE yf;refine xG (kK (tW ?_));simp![bJ];refine kK (QP ?_);simp![↓g,ai,l3];refine⟨⟨⟨by ext,by ext⟩,⟨by ext,by ext⟩⟩,?_⟩;rw[en];refine Rp (λi l s'=>i<=k/\∃(y3 y4:Option D)(cs:List (Hd×Nat)),l=[some (.ref n),some (.int (f:Nat)),some (.ref s.length),y3,y4]/\s'[n]?=some (.lst (R.map D.str))/\HC s' s.length n (pre hs i) cs/\dJ s s'/\∀c∈cs,s.length<=c.2) (λ_ _ _ _=>trivial) (λRj i d l s' up hd hZ0=>?_) (λl s' hZ0=>?_) ⟨bJ _,none,none,[],rfl,qW hg,⟨by rw[Hg];rfl,lT,(λ_ h=>(by cases h)),AV,(λ_ h=>(by cases h))⟩,(dJ.refl _).snoc _,λ_ h=>(by cases h)⟩
 ·obtain⟨hik,y3,y4,cs,el,ga,O,xs0,hk0⟩:=hZ0;subst el;rw[Tc]at hd;have hi:i < R.length-f:=by have:=(aq.mp hd).1;simpa [b5] using this
  have ed:d=.int ((f+i:Nat):Int):=by unfold b5 at hd;rw[aG,ig hi]at hd;cases hd;rw[Int.natCast_add]
  subst ed;have hrT:=ar (show f+i < R.length by ext);generalize R[f+i]=r at hrT;have it:∀(Q:D->aT->Prop)s,wp (dM (R.map D.str) ((f+i:Nat):Int)) Q s=Q (.str r) s:=λQ s=>oT (by rw[aG,hrT];rfl);have tr:=hR r (aX hrT);have ga':∀Q,wp (getL n) Q s'=Q (R.map D.str) s':=λQ=>ka ga;have ln':=qA ga;have lh':=qA O.at_;have sl:=C8 (y:=(" ":Str)) tr (by rw[wF];ext);have st:∀w∈au r (" ":Str),ma 900 w:=λw hw=>DE tr hw (by rw[wF];ext);have sn:=Kj (x:=r) (y:=(" ":Str));have slr:r.length+2<=eK:=eT (by have:=tr.1;ext);have zV:(au r (" ":Str)).length<=eK:=eT (by ext);simp![];refine kK (tW ?_);simp![↓ga',↓it,↓C_,Rz,slr,zV];refine kK (Au ?_);have H:i=k->oR k r/\∀s',dJ s s'->W (oQ ((f+k:Nat):Int)) s':=λe=>hat r (e ▸ hrT);unfold oR at H;have G:i < k->(∃x∈hs,r=i4 x/\pre hs (i+1)=pre hs i++[⟨x.b0,x.b1,[]⟩])\/∃x∈hs,∃l∈x.lines,∃c0 c,r=lH l/\pre hs i=c0++[c]/\pre hs (i+1)=c0++[⟨c.b0,c.b1,c.lines++[l]⟩]:=λe=>by have h1:=ar (show i < (iw hs).length by ext);have h2:=good i _ e h1;rw[hrT]at h2;rw[<- bq h2]at h1;exact tH h1
  have h:∀{x},x∈hs->r=i4 x->au r (" ":Str)=As x:=λo e=>by rw[e,R1 (hh _ o)]
  have hw2:∀{x l},x∈hs->l∈x.lines->r=lH l->au r (" ":Str)=Ap l/\vg 3 l:=λo hl e=>by have h8:=(hh _ o).2.2.2 _ hl;exact⟨by rw[e,Zw h8 λb d gs e=>by subst e;exact h8.2.2.2.1],h8⟩
  generalize au r (" ":Str)=C at *;have g1:∀(A:List D)Q,wp (getL s'.length) Q (s'++[MO.lst A])=Q A (s'++[MO.lst A]):=λA Q=>ka lT;have i0:∀(Q:D->aT->Prop)s,wp (dM (C.map D.str) 0) Q s=Q (.str (C.headD ("":Str))) s:=λQ s=>by
   cases C with
   |nil=>exact bc rfl sn
   |cons w r=>exact oT (i:=0) rfl
  have gs:=O.ext ((dJ.refl s').snoc (.lst (C.map D.str)));have U:=xs0.snoc (.lst (C.map D.str));have gan:=qW (b:=MO.lst (C.map D.str)) ga;have gws:(s'++[MO.lst (C.map D.str)])[s'.length]?=some (.lst (C.map D.str)):=lT;have ln2:n < (s'++[MO.lst (C.map D.str)]).length:=qA gan;have ls2:s.length < (s'++[MO.lst (C.map D.str)]).length:=qA gs.at_;simp![↓g1,↓i0,ai,zV];generalize hu:s'++[MO.lst (C.map D.str)]=u at *;rw[yW];have lc:cs.length<=9:=by have:=bS cw O.fst;rw[ai]at this;have:=Qo hs i;ext
  by_cases hA:C.headD ("":Str)=("hand":Str)/\(C.length:Int)=3
  ·rw[aE hA];have J:C.headD ("":Str)=("hand":Str)/\C.length=3:=⟨hA.1,by have:=hA.2;ext⟩
   have c1:cutD (C.map D.str) (some 1) none=(C.drop 1).map D.str:=by rw[kg];exact JE (i:=1) (by rw[ai];ext)
   have gw:∀Q,wp (getL s'.length) Q u=Q (C.map D.str) u:=λQ=>ka gws;refine kK (Hr (Ho ?_));simp![];refine FA (zM (ul ?_));simp![↓gw,c1];refine Eu (xs:=C.drop 1) (λw hw=>st w (fH hw)) (by rw[bE];ext) lT (λns e=>?_) λe=>?_
   ·by_cases E:i < k
    ·rcases G E with ⟨x,o,I,ep⟩|⟨x,o,l,L,c0,c,I,ea,eb⟩
     ·have ew:=h o I;have O:=hh x o;rw[ew,show (As x).drop 1=[x.b0,x.b1].map nt from rfl,C6 (xQ O.1 O.2.1)]at e;cases e;refine zM (C3 ?_);simp![bJ];refine Hy ?_;generalize Y:u++[MO.lst ((C.drop 1).map D.str)]=v;have g:dJ u v:=by rw[<- Y];exact (dJ.refl _).snoc _
      have H:u.length < v.length:=by rw[<- Y];simp
      rw[QM (qW (g.at_ gs.at_))];refine⟨l2,BB (by rw[ai];ext),uE (uE (up ⟨by ext,_,_,cs++[(⟨x.b0,x.b1,[]⟩,v.length)],rfl,?_,?_,((U.trans g).snoc _).put (az _),λc hm=>?_⟩))⟩
      ·rw[bn (by ext)];exact qW (g.at_ gan)
      ·rw[ep];exact gs.push (y:=⟨x.b0,x.b1,[]⟩) (g.snoc _) rfl lT (by ext) ln2
      ·rcases aZ.mp hm with z|z
       ·exact hk0 c z
       ·rw[aC.mp z];exact (U.trans g).le
     ·exfalso
      obtain⟨ew,h8⟩:=hw2 o L I;have:=hA.1;rw[ew]at this;cases l with
      |settle v=>exact N5 this
      |act b d gs=>exact NH this
    ·obtain⟨Q,_⟩:=H (by ext);rw[aE J,e]at Q;cases Q
   ·by_cases E:i < k
    ·exfalso
     rcases G E with ⟨x,o,I,ep⟩|⟨x,o,l,L,c0,c,I,ea,eb⟩
     ·have O:=hh x o;rw[h o I,show (As x).drop 1=[x.b0,x.b1].map nt from rfl,C6 (xQ O.1 O.2.1)]at e;cases e
     ·obtain⟨ew,h8⟩:=hw2 o L I;have:=hA.1;rw[ew]at this;cases l with
      |settle v=>exact N5 this
      |act b d gs=>exact NH this
    ·have ek:i=k:=by ext
     have:=(H ek).2 _ (U.snoc (.lst ((C.drop 1).map D.str)));rw[ek];exact this
  ·rw[aA hA];have J:¬ (C.headD ("":Str)=("hand":Str)/\C.length=3):=λz=>hA ⟨z.1,by rw[z.2];rfl⟩;rw[aA J]at H;have q1:∀Q,wp (getL s.length) Q u=Q (cs.map xM) u:=λQ=>ka gs.at_;have lcs:cs.length<=eK:=eT (by ext);refine kK (Au ?_);simp![↓q1,ai,lcs];by_cases hcs:cs=[]
   ·have ek : i = k := by
      by_cases e:i < k
      ·exfalso
       rcases G e with ⟨x,o,I,ep⟩|⟨x,o,l,L,c0,c,I,ea,eb⟩
       ·rw[h o I]at J;exact J ⟨rfl,rfl⟩
       ·have:=O.fst;rw[hcs,ea]at this;simp at this
      ·ext
    rw[hcs];rw[aA (by decide)];refine kK (BA ?_);simp![];have:=(H ek).2 u U;rw[ek];exact this
   ·have lp:(0:Int) < ((cs.length:Nat):Int):=by have:=kJ.mpr hcs;ext
    obtain⟨d0,ck,b⟩:∃d0 ck,cs=d0++[ck]:=⟨_,_,(List.dropLast_concat_getLast hcs).symm⟩
    obtain⟨c,u⟩:=ck;rw[aE lp];refine kK (Hr (Ho ?_));have em:cs.map xM=d0.map xM++[xM (c,u)]:=by rw[b,bh];rfl
    rw[em]at q1;have il:∀(Q:D->aT->Prop)s,wp (dM (d0.map xM++[xM (c,u)]) (-1)) Q s=Q (.tup [.tup ([c.b0,c.b1].map eZ),.ref u]) s:=λQ s=>UL;simp![↓q1,↓il];refine ul ?_;simp![];refine YG st sn (by ext) gws (λd v e g=>?_) λe v g=>?_
    ·by_cases E:i < k
     ·rcases G E with ⟨x,o,I,ep⟩|⟨x,o,l,L,c0,c',I,ea,eb⟩
      ·exfalso;rw[h o I]at J;exact J ⟨rfl,rfl⟩
      ·obtain⟨ew,h8⟩:=hw2 o L I;rw[ew,QQ h8]at e;cases e;have Y:=gs.ext g;rw[b]at Y;have O:c=c'/\d0.map (·.1)=c0:=by have:=Y.fst;rw[ea,bh]at this;have h2:=List.append_inj_right' this rfl;exact⟨by simpa using h2,uS this rfl⟩
       obtain⟨v,H⟩:=O;subst v;rw[ea]at Y;have Q:=Y.ls (c,u) (by simp);have h:c.lines.length<=8:=QW hs i (λx o=>(hh x o).2.2.1) c (by rw[ea];simp);have C:=hk0 (c,u) (by rw[b];simp);rw[QM Q];refine⟨BB (by rw[ai];show c.lines.length<=1000;ext),uE (uE (uE (up ⟨by ext,_,_,_,rfl,?_,by rw[eb];exact Y.line,(U.trans g).put C,λc' hm=>?_⟩)))⟩
       ·rw[bn (Y.ne (c,u) (by simp)).2];exact g.at_ gan
       ·rcases aZ.mp hm with z|z
        ·exact hk0 c' (by rw[b];simp[z])
        ·rw[aC.mp z];exact C
     ·exfalso
      have ek:i=k:=by ext
      rcases (H ek).1 with z|z
      ·rw[ek,z,Hg]at O;have:=O.fst;rw[b]at this;simp at this
      ·rw[z]at e;cases e
    ·by_cases E:i < k
     ·exfalso
      rcases G E with ⟨x,o,I,ep⟩|⟨x,o,l,L,c0,c',I,ea,eb⟩
      ·rw[h o I]at J;exact J ⟨rfl,rfl⟩
      ·obtain⟨ew,h8⟩:=hw2 o L I;rw[ew,QQ h8]at e;cases e
     ·have ek:i=k:=by ext
      have:=(H ek).2 v (U.trans g);rw[ek];exact this
 ·obtain⟨hik,y3,y4,cs,el,ga,O,xs0,hk0⟩:=hZ0;subst el;have I:(gG (f:Int) (R.length-f)).length=R.length-f:=by simp[gG]
  rw[I]at hik O;have ek:R.length=f+k:=by
   by_cases e:R.length-f < k
   ·exfalso
    have h1:=ar (show R.length-f < (iw hs).length by ext);have:=good _ _ e h1;rw[dq (by ext)]at this;cases this
   ·ext
  obtain⟨h,b⟩:=hend ek;rw[show R.length-f=(iw hs).length by ext,Oa]at O;have q1:∀Q,wp (getL s.length) Q s'=Q (cs.map xM) s':=λQ=>ka O.at_;have lc:cs.length<=eK:=eT (by have:=bS cw O.fst;rw[ai]at this;ext)
  refine kK (tW ?_);simp![↓q1,gL,ai,lc];refine Q_ (g1:=λc:Hd×Nat=>.tup ([c.1.b0,c.1.b1].map eZ)) (g2:=λc:Hd×Nat=>.ref c.2) (f:=λc:Hd×Nat=>pM c.1) (λu x=>x.at_ O.at_) (λc hm u x Q b=>?_) λu x=>?_
  ·have g:∀Q,wp (getL c.2) Q u=Q (c.1.lines.map pZ) u:=λQ=>ka (x.at_ (O.ls c hm));simp![↓g,l2];exact b _ (dJ.refl _)
  ·have e:cs.map (λc=>pM c.1)=hs.map pM:=by rw[<- O.fst,iQ];rfl
   simp![e];exact b u (xs0.trans x)
end
open PySem (Str)
theorem PV:((("settle":Str)) == "settle")=true:=by nofun
theorem Ng:((("do":Str)) == "settle")=false:=by nofun
def nV(d:D):Prop:=∃(S dn:Nat)(nx un:Nat->Nat->Nat)(st:Nat),d=.tup [fq S dn nx un,.int st]/\on S dn nx un/\st < S
noncomputable def uT(m:Nat)(b:List D):Prop:=∀g∈b,∃k:Nat,g=.int k/\k < m
def wG(c:List D)(m:Nat)(d:D):Prop:=(∃v:Int,(v=0\/v=1)/\d=.tup [.str "settle",.int v]) \/
 ∃(b h S dn:Nat)(nx un:Nat->Nat->Nat)(st:Nat)(g:List D),c[b]?=some (.tup [fq S dn nx un,.int st])/\h < dn/\d=.tup [.str "do",.int b,.int h,.tup g]/\g.length=1+mx (un · h) S/\uT m g
def wr(c:List D)(d:D):Prop:=∃(h g:Nat)(b:List D),d=.tup [.tup [.int h,.int g],.tup b]/\h < b.length/\g < b.length/\b.length<=12/\∀l∈b,wG c b.length l
def uV(h:D):Prop:=∃c g,h=.tup [.tup c,.tup g]/\c.length<=7/\(∀b∈c,nV b)/\2<=g.length/\g.length<=3/\∀x∈g,wr c x
section
variable{S dn:Nat}{nx un:Nat->Nat->Nat}{Q:D->aT->Prop}{s:aT}
theorem Sz{j:Nat}(h:on S dn nx un)(g:j < dn):wp (jL [fq S dn nx un,.int j]) Q s=Q (.int ((1+mx (un · j) S:Nat):Int)) s:=by
 obtain⟨G,E,C,v,u⟩:=h;have w:∀Q s,wp (collect (aU 0) cD (c2 bz (c2 bz (am 0) (am 1)) (ay (.int 1))) eQ (b5 S λs=>.tup (b5 dn λd=>D.tup [.int (nx s d:Nat),.int (un s d:Nat)])) [none,some (.int j)]) Q s=Q (b5 S λi=>.int (un i j:Nat)) s:=λQ s=>GW BW λi o Q=>by simp![↓KN g]
 have c:S<=eK:=eT (by ext);have b:∀Q s,wp (rX (b5 S λi=>.int (un i j:Nat))) Q s=Q (.int (mx (un · j) S:Nat)) s:=λQ s=>Pk (f:=(un · j)) (by ext);have l:((1+mx (un · j) S:Nat):Int)=1+(mx (un · j) S:Nat):=by ext
 rw[l]
 (simp![jL];simp![yv,fq,gL,n5,↓w,↓b,c])
theorem UN{i:Nat}(h:on S dn nx un)(c:i < S):wp (jj [fq S dn nx un,.tup (b5 dn λd=>D.tup [.int (nx i d:Nat),.int (un i d:Nat)])]) Q s=Q (.bl true) s:=by
 obtain⟨G,E,C,v,g⟩:=h;have w:∀Q s,wp (collect (fS 2 (cm (aU 0) (cm (aU 1) gf))) cD (qV (ii tm vW (ay (.int 0)) (am 0) (c1 dL (am 2))) (c2 Dg (am 1) (ay (.int 0)))) eQ (b5 dn λd=>D.tup [.int (nx i d:Nat),.int (un i d:Nat)]) [none,none,some (.tup (b5 S λs=>.tup (b5 dn λd=>D.tup [.int (nx s d:Nat),.int (un s d:Nat)])))]) Q s=Q (b5 dn λ_=>.bl true) s:=λQ s=>Qs BW λd hd Q=>by have u:decide ((0:Int)<=(nx i d:Nat))=true:=aP (by ext);have o:decide (((nx i d:Nat):Int) < (S:Nat))=true:=aP (by have:=(g i d c hd).1;ext);have l:decide ((0:Int)<=(un i d:Nat))=true:=aP (by ext);simp![n5,u,o,l]
 have b:dn<=eK:=eT (by ext)
 (simp![jj];simp![jZ,fq,gL,n5,↓G_ (show 0 < S by ext),beq_self_eq_true,↓w,↓GZ,b])
theorem Qom(h:on S dn nx un):wp (ji [fq S dn nx un]) Q s=Q (.bl true) s:=by
 have g:=h;obtain⟨G,E,C,v,u⟩:=h;have w:∀Q s,wp (collect (aU 0) cD (ba jj (ak (am 1) (ak (am 0) aY))) eQ (b5 S λs=>.tup (b5 dn λd=>D.tup [.int (nx s d:Nat),.int (un s d:Nat)])) [none,some (.tup (b5 S λs=>.tup (b5 dn λd=>D.tup [.int (nx s d:Nat),.int (un s d:Nat)])))]) Q s=Q (b5 S λ_=>.bl true) s:=λQ s=>GW BW λi c Q=>by have q:∀Q s,wp (jj [fq S dn nx un,.tup (b5 dn λd=>D.tup [.int (nx i d:Nat),.int (un i d:Nat)])]) Q s=Q (.bl true) s:=λQ s=>UN g c;unfold fq at q;simp![↓q]
 have b:S<=eK:=eT (by ext);have o:(((S:Nat):Int) == 0)=false:=by simp;ext
 have l:(((dn:Nat):Int) == 0)=false:=by simp;ext
 (simp![ji];simp![j4,fq,gL,n5,o,l,↓G_ (show 0 < S by ext),↓w,↓GZ,b])
theorem Nn{c b:List D}(h:uT b.length c)(g:c.length<=100):wp (jq [.tup c,.tup b]) Q s=Q (.bl true) s:=by
 have w:∀Q s,wp (collect (aU 0) cD (ii tm vW (ay (.int 0)) (am 0) (c1 dL (am 1))) eQ c [none,some (.tup b)]) Q s=Q (b5 c.length λ_=>.bl true) s:=λQ s=>JC BW λi d hd Q=>by obtain⟨k,e,u⟩:=h d (aX hd);subst e;have o:decide ((0:Int)<=(k:Nat))=true:=aP (by ext);have l:decide (((k:Nat):Int) < (b.length:Nat))=true:=aP (by ext);simp![o,l]
 have g:c.length<=eK:=eT (by ext)
 (simp![jq];simp![yn,gL,↓w,↓GZ,g])
end
def qh(s:aT)(n:Nat)(c:List D):Prop:=∃cs,s[n]?=some (.lst cs)/\cs.length=c.length/\∀(b S dn:Nat)(nx un:Nat->Nat->Nat)(st:Nat),c[b]?=some (.tup [fq S dn nx un,.int st])->∃r,cs[b]?=some (.ref r)/\s[r]?=some (.lst (b5 dn λd=>.int ((1+mx (un · d) S:Nat):Int)))
theorem OJ{S dn o b:Nat}{nx un g c:Nat->Nat->Nat}(h:fq S dn nx un=fq o b g c):S=o/\(1<=S->dn=b)/\∀s d,s < S->d < dn->nx s d=g s d/\un s d=c s d:=by
 unfold fq at h;have v:=D.tup.inj h;have e:S=o:=by have:=bS cw v;simpa [n5] using this
 subst e;have row:∀s,s < S->(b5 dn λd=>D.tup [.int (nx s d:Nat),.int (un s d:Nat)])=(b5 b λd=>D.tup [.int (g s d:Nat),.int (c s d:Nat)]):=by intro s hs;have q:=bS (λl=>l[s]?) v;simp only[AM hs]at q;exact D.tup.inj (bq q)
 refine⟨rfl,λE=>by have:=bS cw (row 0 (by ext));simpa [n5] using this,λs d hs hd=>?_⟩;have q:=row s hs;have e:dn=b:=by have:=bS cw q;simpa [n5] using this
 subst e;have u:=bS (λl=>l[d]?) q;simp only[AM hd]at u;have C:=D.tup.inj (bq u);simp at C;exact⟨by ext,by ext⟩
theorem Y_{f g:Nat->Nat}{n:Nat}(h:∀i,i < n->f i=g i):mx f n=mx g n:=by
 induction n with
 |zero=>rfl
 |succ n ih=>unfold mx;rw[ih λi b=>h i (by ext),h n (by ext)]
section
variable{Q:D->aT->Prop}{s:aT}
theorem ZZ{n:Nat}{c g:List D}{line:D}(hc:qh s n c)(E:∀b∈c,nV b)(hbl:c.length<=7)(h:wG c g.length line):wp (jK [.ref n,.tup g,line]) Q s=Q (.bl true) s:=by
 rcases h with ⟨v,hv,e⟩|⟨b,l,S,dn,nx,un,st,L,G,hd,e,hg,u⟩
 ·subst e;have b:2<=eK:=eT (by ext)
  (simp![jK];simp![yi,PV,b,↓Vu hv])
 ·subst e;obtain⟨cs,c1,c2,c3⟩:=hc;obtain⟨r,hr,o⟩:=c3 b S dn nx un st G;obtain⟨S',H,h,O,U,e,ok,_⟩:=E _ (aX G);have J:=(aq.mp G).1;have ei:=OJ (gc (D.tup.inj e)).1;obtain⟨c,o2,o3,o4,Y⟩:=ok;obtain⟨eS,ed,eu⟩:=ei;subst eS;have C:dn=H:=ed c;subst C;have hm:mx (un · l) S<=3:=Lw λi I=>by have:=(Y i l I hd).2;have:=(eu i l I hd).2;ext
  have g1:∀Q,wp (getL n) Q s=Q cs s:=λQ=>ka c1;have g2:∀Q,wp (getL r) Q s=Q (b5 dn λd=>.int ((1+mx (un · d) S:Nat):Int)) s:=λQ=>ka o;have v:∀Q,wp (dM cs (b:Int)) Q s=Q (.ref r) s:=λQ=>oT hr;have al:∀Q s,wp (jq [.tup L,.tup g]) Q s=Q (.bl true) s:=λQ s=>Nn u (by ext);have e1:decide ((0:Int)<=(b:Nat))=true:=aP (by ext);have e2:decide (((b:Nat):Int) < (cs.length:Nat))=true:=aP (by ext);have e3:decide ((0:Int)<=(l:Nat))=true:=aP (by ext);have e4:decide (((l:Nat):Int) < (dn:Nat))=true:=aP (by ext);have e5:((L.length:Int) == ((1+mx (un · l) S:Nat):Int))=true:=by rw[hg];simp
  (simp![jK];simp![yi,Ng,↓g1,↓g2,↓v,n5,↓KN hd,e1,e2,e3,e4,e5,↓al,bf,if_false])
end
section
variable{Q:D->aT->Prop}{s:aT}
theorem Qor{c:List D}(u:∀b∈c,nV b):wp (jk [.tup c]) Q s=Q .non s:=by
 apply Dh
 (simp![jk];simp![jT])
 refine Ao (λi l s'=>s'=s/\∃o h g,l=[some (.tup c),o,h,g]) (λ_ _ _ _=>trivial) ⟨rfl,_,_,_,rfl⟩ (λi d l s' hd C=>?_) (λl s' v=>?_)
 ·obtain ⟨E,o,h,g,el⟩:=C;subst E;subst el;obtain⟨b,I,J⟩:=HH hd;subst J;obtain⟨S,dn,nx,un,st,e,ok,H⟩:=u b (aX I);subst e;have q:∀Q s,wp (ji [fq S dn nx un]) Q s=Q (.bl true) s:=λQ s=>Qom ok;have G:wp (dL (fq S dn nx un))=λQ s=>Q (.int S) s:=by funext Q s;unfold fq;rw[ue,n5]
  have O:decide ((0:Int)<=(st:Nat))=true:=aP (by ext);have L:decide (((st:Nat):Int) < (S:Nat))=true:=aP (by ext);simp![↓q,↓G,O,L,bf,if_false];exact⟨_,_,_,rfl⟩
 ·obtain ⟨E,o,h,g,el⟩:=v;subst E;simp![]
theorem Wj{S dn:Nat}{nx un:Nat->Nat->Nat}(h:on S dn nx un):wp (jf [fq S dn nx un]) Q s=Q (.ref s.length) (s++[.lst (b5 dn λd=>.int ((1+mx (un · d) S:Nat):Int))]):=by
 have l:=h;obtain⟨E,C,v,u,o⟩:=h;have w:∀Q s,wp (collect (aU 0) cD (ba jL (ak (am 1) (ak (am 0) aY))) eQ (b5 dn λi=>.int i) [none,some (fq S dn nx un)]) Q s=Q (b5 dn λd=>.int ((1+mx (un · d) S:Nat):Int)) s:=λQ s=>GW BW λj c Q=>by have q:∀Q s,wp (jL [fq S dn nx un,.int j]) Q s=Q (.int ((1+mx (un · j) S:Nat):Int)) s:=λQ s=>Sz l c;simp![↓q]
 have b:dn<=eK:=eT (by ext);have g:(-(2^62)<=(dn:Int)/\(dn:Int) < 2^62):=by ext
 have tb:wp (bz (fq S dn nx un) (.int 0))=λQ s=>Q (D.tup (b5 dn λd=>D.tup [.int (nx 0 d:Nat),.int (un 0 d:Nat)])) s:=by funext Q s;unfold fq;rw[rY,G_ (by ext)]
 (simp![jf];simp![jV,↓tb,gL,n5,bI,Vb,↓w,b,g])
theorem Zq{c:List D}{A:List D->aT->Prop}(L:∀b∈c,nV b)(h:∀cs s',dJ s s'->cs.length=c.length->(∀(b S dn:Nat)(nx un:Nat->Nat->Nat)(st:Nat),c[b]?=some (.tup [fq S dn nx un,.int st])->∃r,cs[b]?=some (.ref r)/\s'[r]?=some (.lst (b5 dn λd=>.int ((1+mx (un · d) S:Nat):Int))))->A cs s'):
  wp (collect (fS 2 (cm (aU 0) (cm (aU 1) gf))) cD (ba jf (ak (am 0) aY)) eQ c [none,none]) A s:=by
 have chk:∀{s:aT}{R:Unit->aT->Prop},R () s->wp (chkS eQ) R s:=λr=>by rw[Ye];exact r
 refine Di (Q:=A) (λg xs l s'=>∃i,xs=c.drop i/\i<=c.length/\(∃x y,l=[x,y])/\g.length=i/\dJ s s'/\(∀(b S dn:Nat)(nx un:Nat->Nat->Nat)(st:Nat),b < i->c[b]?=some (.tup [fq S dn nx un,.int st])->∃r,g[b]?=some (.ref r)/\s'[r]?=some (.lst (b5 dn λd=>.int ((1+mx (un · d) S:Nat):Int))))) (λg l s' U=>?_) (λg d xs l s' O=>?_) c [] _ s ⟨0,by simp,bJ _,⟨_,_,rfl⟩,rfl,dJ.refl _,λb S dn nx un st C=>by ext⟩
 ·obtain ⟨i,v,J,_,E,ex,hh⟩:=U;have : i = c.length := by have:=bS cw v;simp at this;ext
  subst this;exact chk (h g s' ex E λb S dn nx un st C=>hh b S dn nx un st (aq.mp C).1 C)
 ·obtain ⟨i,v,J,⟨x,y,el⟩,E,ex,hh⟩:=O;have o : i < c.length := by have:=bS cw v;simp at this;ext
  rw[bR o]at v;obtain⟨g,e4⟩:=gc v;obtain⟨S,dn,nx,un,st,e,ok,U⟩:=L d (by rw[g];exact cR o);have hd:c[i]?=some (.tup [fq S dn nx un,.int st]):=by rw[ar o,<- g,e]
  subst e;subst el;refine chk ?_;have q:∀Q s,wp (jf [fq S dn nx un]) Q s=Q (.ref s.length) (s++[.lst (b5 dn λd=>.int ((1+mx (un · d) S:Nat):Int))]):=λQ s=>Wj ok;simp![↓q];refine⟨i+1,e4,o,⟨_,_,rfl⟩,by simp[E],ex.snoc _,λb S' Y I G H C u=>?_⟩;by_cases e:b=i
  ·subst e;rw[hd]at u;have h:=gc (D.tup.inj (bq u));obtain⟨g,c,b⟩:=OJ h.1;subst g;have:=c ok.1;subst this;refine⟨s'.length,by rw[<- E];simp,?_⟩;rw[bo (az _)];simp only[mM,List.getElem?_cons_zero];congr 2;exact S6 λd hd=>by rw[Y_ λi J=>(b i d J hd).2]
  ·obtain⟨r,l,h⟩:=hh b S' Y I G H (by ext) u;exact⟨r,by rw[aJ (by ext)];exact l,(dJ.snoc (dJ.refl _) _).at_ h⟩
theorem Sk{n:Nat}{c:List D}{lM:D}{k:Int}(hc:qh s n c)(H:∀b∈c,nV b)(G:c.length<=7)(h:wr c lM):wp (jr [.ref n,.int k,lM]) Q s=Q .non s:=by
 obtain⟨U,O,o,e,h0,h1,hl,E⟩:=h;subst e;apply Dh;have al:∀Q s,wp (jq [.tup [.int U,.int O],.tup o]) Q s=Q (.bl true) s:=λQ s=>Nn (λg Y=>by
  simp at Y;rcases Y with e|e
  ·exact⟨U,e,h0⟩
  ·exact⟨O,e,h1⟩) (by simp)
 (simp![jr];simp![jX,↓al,bf,if_false])
 refine Ao (λi l s'=>s'=s/\∃C v,l=[some (.ref n),some (.int k),some (.tup [.tup [.int U,.int O],.tup o]),some (.tup o),C,v]) (λ_ _ _ _=>trivial) ⟨rfl,_,_,rfl⟩ (λi d l s' hd J=>?_) (λl s' I=>?_)
 ·obtain ⟨L,C,v,el⟩:=J;subst L;subst el;obtain⟨line,u,b⟩:=HH hd;subst b;have q:∀Q,wp (jK [.ref n,.tup o,line]) Q s'=Q (.bl true) s':=λQ=>ZZ hc H G (E line (aX u));simp![↓q,bf,if_false];exact⟨_,_,rfl⟩
 ·obtain ⟨L,C,v,el⟩:=I;subst L;simp![]
theorem XC{h:D}(hh:uV h)(hq:∀s',dJ s s'->Q (.bl true) s'):wp (yu [h]) Q s:=by
 obtain⟨g,o,e,J,v,hn1,hn2,H⟩:=hh;subst e;have q1:∀Q s,wp (jk [.tup g]) Q s=Q .non s:=λQ s=>Qor v;have e1:decide ((2:Int)<=(o.length:Nat))=true:=aP (by ext);have e2:decide (((o.length:Nat):Int)<=3)=true:=aP (by ext);have l1:g.length<=eK:=eT (by ext)
 (simp![yu];simp![yw,↓q1,e1,e2,bf,if_false,gL,l1])
 refine Zq v λcs C x1 hl I=>?_;have hc:qh (C++[.lst cs]) C.length g:=⟨cs,by simp,hl,λb S dn nx un st hb=>let ⟨r,a,c⟩:=I b S dn nx un st hb;⟨r,a,(dJ.snoc (dJ.refl _) _).at_ c⟩⟩
 have Y:dJ s (C++[.lst cs]):=x1.snoc _;generalize C++[MO.lst cs]=s2 at *;simp![];refine Ao (λi l s'=>s'=s2/\∃G E,l=[some (.tup [.tup g,.tup o]),some (.tup g),some (.tup o),some (.ref C.length),G,E]) (λ_ _ _ _=>trivial) ⟨rfl,_,_,rfl⟩ (λi d l s' hd O=>?_) (λl s' L=>?_)
 ·obtain ⟨U,G,E,el⟩:=O;subst U;subst el;obtain⟨lM,u,b⟩:=HH hd;subst b;have q:∀Q,wp (jr [.ref C.length,.int i,lM]) Q s'=Q .non s':=λQ=>Sk hc v J (H lM (aX u));simp![↓q];exact⟨_,_,rfl⟩
 ·obtain ⟨U,G,E,el⟩:=L;subst U;subst el;simp![];exact hq _ Y
theorem ZK{h:Hs}(L:zA h):uV (sD h):=by
 obtain⟨I,u,H,G,E⟩:=L;refine⟨_,_,rfl,by simpa using I,λb hb=>?_,by simpa using H,by simpa using G,λx J=>?_⟩
 ·obtain⟨c,o,rfl⟩:=cZ.mp hb;exact⟨c.S,c.dn,c.nx,c.un,c.st,rfl,(u c o).1,(u c o).2⟩
 ·obtain⟨hd,o,rfl⟩:=cZ.mp J;obtain⟨L,I,H,G⟩:=E hd o;refine⟨hd.b0,hd.b1,hd.lines.map pZ,rfl,by simpa using L,by simpa using I,by simpa using H,λl U=>?_⟩;obtain⟨C,O,rfl⟩:=cZ.mp U;have z:=G C O;rw[ai];cases C with
  |settle v=>
   have hv:v < 2:=z;exact .inl ⟨v,by ext,rfl⟩
  |act b d gs=>
   obtain⟨c,g1,g2,u,h⟩:=z;refine .inr ⟨b,d,c.S,c.dn,c.nx,c.un,c.st,gs.map eZ,by rw[aG,g1];rfl,g2,rfl,by rw[ai];exact u,λg Q=>?_⟩;obtain⟨k,Y,rfl⟩:=cZ.mp Q;exact⟨k,rfl,h k Y⟩
end
open PySem (Str)
noncomputable def Pl:Nat->D->Prop
 |0,_=>False
 |_+1,.int _=>True
 |_+1,.str _=>True
 |n+1,.tup ds=>ds.length<=1000/\∀d∈ds,Pl n d
 |_+1,_=>False
section
variable{s:aT}{Q:D->aT->Prop}
theorem YT{a b:CE}{l:Loc}{I:Wk->aT->Prop}: wp (tF a b l) I s=wp (a l) (λx c=>wp (b l) (λy s2=>match x,y with
  | .tup xs,.tup ys=>I ⟨xs.zipWith (λa b=>.tup [a,b]) ys,eQ⟩ s2
  |_,_=>False) c) s:=by
 unfold tF;rw[fk];congr 1;funext x c;rw[fk];congr 1;funext y s2;cases x<;>cases y<;>first|bv_omega|exact cO
theorem PZ:∀{ds:List D},ds.zipWith (λa b=>D.tup [a,b]) ds=ds.map λd=>.tup [d,d]
 |[]=>rfl
 |d::ds=>by rw[List.zipWith_cons_cons,PZ];rfl
theorem Yq:∀{ds:List D},(ds.map λ_=>D.bl true)=b5 ds.length λ_=>.bl true:=by intro ds;unfold b5;rw[Ah,Ah,xD]
theorem Vr{x:Str}:wp (eY ["tuple"] (.str x)) Q s=Q (.bl false) s:=cM rfl
theorem Uv{i:Int}:wp (eY ["tuple"] (.int i)) Q s=Q (.bl false) s:=cM rfl
theorem Zh{i:Int}:wp (eY ["str"] (.int i)) Q s=Q (.bl false) s:=cM rfl
theorem Am{g:List D->M D}{n:Nat}(o:∀d,Pl n d->∀(Q:D->aT->Prop)s,(∀s',dJ s s'->Q (.bl true) s')->wp (g [d,d]) Q s):∀d,Pl (n+1) d->∀(Q:D->aT->Prop)s,(∀s',dJ s s'->Q (.bl true) s')->wp (bW 2 (jb g) [d,d]) Q s
 | .int i,_,Q,s,h=>by simp![jb,↓Uv,↓Zh];rw[beq_self_eq_true i];exact h s (dJ.refl _)
 | .str x,_,Q,s,h=>by simp![jb,↓Vr,↓Wd];rw[beq_self_eq_true x];exact h s (dJ.refl _)
 | .tup ds,hd,Q,s,h=>by
  obtain⟨C,v⟩:=hd;have l:ds.length<=eK:=eT (by ext);simp![jb,↓YT,PZ,ai,l,gL];rw[aA (by rw[beq_self_eq_true];decide)];refine Q_ (g1:=λd=>d) (g2:=λd=>d) (f:=λ_=>.bl true) (λ_ _=>trivial) (λd c u x Q b=>?_) λu x=>?_
  ·simp![];exact o d (v d c) Q u b
  ·simp![Yq,↓GZ];exact h u x
 | .bl _,hd,_,_,_=>hd.elim
 | .non,hd,_,_,_=>hd.elim
 | .ref _,hd,_,_,_=>hd.elim
theorem IT{d:D}(hd:Pl 8 d)(h:∀s',dJ s s'->Q (.bl true) s'):wp (lb [d,d]) Q s:=by
 have E:∀d,Pl 0 d->∀(Q:D->aT->Prop)s,(∀s',dJ s s'->Q (.bl true) s')->wp (j7 [d,d]) Q s:=λd hd=>hd.elim;have C:∀d,Pl 1 d->∀(Q:D->aT->Prop)s,(∀s',dJ s s'->Q (.bl true) s')->wp (jx [d,d]) Q s:=by unfold jx;exact Am E
 have v:∀d,Pl 2 d->∀(Q:D->aT->Prop)s,(∀s',dJ s s'->Q (.bl true) s')->wp (jz [d,d]) Q s:=by unfold jz;exact Am C
 have u:∀d,Pl 3 d->∀(Q:D->aT->Prop)s,(∀s',dJ s s'->Q (.bl true) s')->wp (jv [d,d]) Q s:=by unfold jv;exact Am v
 have o:∀d,Pl 4 d->∀(Q:D->aT->Prop)s,(∀s',dJ s s'->Q (.bl true) s')->wp (js [d,d]) Q s:=by unfold js;exact Am u
 have l:∀d,Pl 5 d->∀(Q:D->aT->Prop)s,(∀s',dJ s s'->Q (.bl true) s')->wp (jw [d,d]) Q s:=by unfold jw;exact Am o
 have g:∀d,Pl 6 d->∀(Q:D->aT->Prop)s,(∀s',dJ s s'->Q (.bl true) s')->wp (ju [d,d]) Q s:=by unfold ju;exact Am l
 have c:∀d,Pl 7 d->∀(Q:D->aT->Prop)s,(∀s',dJ s s'->Q (.bl true) s')->wp (jy [d,d]) Q s:=by unfold jy;exact Am g
 have b:∀d,Pl 8 d->∀(Q:D->aT->Prop)s,(∀s',dJ s s'->Q (.bl true) s')->wp (jA [d,d]) Q s:=by unfold jA;exact Am c
 exact b d hd Q s h
end
theorem En{α:Type}{n:Nat}{xs:List α}{f:α->D}(c:xs.length<=1000)(h:∀x∈xs,Pl n (f x)):Pl (n+1) (.tup (xs.map f)):=by refine⟨by rw[ai];exact c,λd hd=>?_⟩;obtain⟨x,b,rfl⟩:=cZ.mp hd;exact h x b
theorem Qd{m n:Nat}{f:Nat->D}(b:n<=1000)(h:∀i,i < n->Pl m (f i)):Pl (m+1) (.tup (b5 n f)):=by unfold b5;refine En (by rw[xD];exact b) λi c=>h i (fT.mp c)
theorem CU{n:Nat}{a b:D}(g:Pl n a)(c:Pl n b):Pl (n+1) (.tup [a,b]):=⟨by show 2<=1000;ext,λd hd=>by
 rcases aI.mp hd with rfl|hd
 ·exact g
 ·rw[aC.mp hd];exact c⟩
theorem NI{h:Hs}(c:pP 3 h):Pl 8 (sD h):=by
 have Q:=c.1;have J:=c.2.2.2.1;refine CU (En (by ext) λb g=>?_) (En (by ext) λx u=>?_)
 ·have g:=c.2.1 b g;have U:=g.1.2.1;have O:=g.1.2.2.2.1;refine CU (n:=5) ?_ trivial;rw[Ri];exact Qd (m:=4) (by ext) λi I=>Qd (m:=3) (by ext) λd hd=>CU (n:=2) trivial trivial
 ·obtain⟨_,_,H,E⟩:=c.2.2.2.2 x u;refine CU (n:=5) (CU (n:=4) trivial trivial) (En (n:=4) (by ext) λl C=>?_);have G:=E l C;cases l with
  |settle v=>exact CU (n:=3) trivial trivial
  |act b d gs=>
   have L:gs.length<=4+3:=G.2.2.1;refine⟨by show 4<=1000;ext,λe o=>?_⟩;simp only[aI,dS,or_false]at o;rcases o with rfl|rfl|rfl|rfl
   ·exact trivial
   ·exact trivial
   ·exact trivial
   ·exact En (n:=2) (by ext) λ_ _=>trivial
open PySem (Str)
theorem wI{α:Type}{F:α->D}{xs:List α}{i:Nat}(b:i < xs.length):cutD (xs.map F) none (some (i:Int))=(xs.take i).map F:=by unfold cutD gp;simp only[bI,ai];rw[aA (by ext),fU,<- oA];congr 2;ext
theorem F9{α:Type}{F:α->D}{xs:List α}{k:Nat}:cutD (xs.map F) none (some (k:Int))=(xs.take k).map F:=by
 by_cases b:k < xs.length
 ·exact wI b
 ·unfold cutD gp;simp only[bI,ai];rw[aA (by ext),fU,eX (by rw[ai];ext),eX (show xs.length<=k by ext)]
theorem wc{α:Type}{F:α->D}{xs:List α}{i:Nat}(b:i < xs.length):cutD (xs.map F) (some ((i:Int)+1)) none=(xs.drop (i+1)).map F:=by
 unfold cutD gp;have:(if (i:Int)+1 < 0 then ((i:Int)+1+((xs.map F).length:Int)).toNat else min ((i:Int)+1).toNat (xs.map F).length)=i+1:=by rw[aA (by ext),ai];ext
 simp only[this];rw[<- kg];exact eX (by rw[ai,bE,ai];exact az _)
theorem GU{α:Type}{F:α->D}{xs:List α}{i:Nat}{y:α}(b:i < xs.length):(xs.take i).map F++[F y]++(xs.drop (i+1)).map F=(xs.set i y).map F:=by rw[List.set_eq_take_append_cons_drop,aE b,bh,aN,cL];rfl
section
variable{p q n:Nat}{s s1:aT}{Q:D->aT->Prop}
theorem Ay{a:CE}{lo c:CO}{l:Loc}: wp (fV a lo c l) Q s=wp (a l) (λx s1=>wp (lo l) (λi s2=>wp (c l) (λj b=>match x with
  | .tup ds=>Q (.tup (cutD ds i j)) b
  |_=>False) s2) s1) s:=by
 unfold fV;rw[fk];congr 1;funext x s1;rw[fk];congr 1;funext i s2;rw[fk];congr 1;funext j b;cases x<;>first|bv_omega
theorem VL{h:Hs}{l:Ln}{m:Nat}(hp:PK p q s s1)(hb:h.boards.length<=4)(hl:vg n l)(hm:m<=8)(hn:n<=3)(hq:∀l' s',vg (n+1) l'->PK p q s s'->Kept p q s1 s'->Q (pZ l') s'):wp (jp [.ref p,sD h,pZ l,.int m]) Q s1:=by
 have l5:5<=eK:=eT (by ext);have l1:1<=eK:=eT (by ext);have l2:2<=eK:=eT (by ext);have H:4<=eK:=eT (by ext);have eb:∀(Q:D->aT->Prop)s,wp (bz (sD h) (.int 0)) Q s=Q (.tup (h.boards.map mV)) s:=λQ s=>cM rfl;generalize sD h=dh at *
 (simp![jp];simp![jR,l5])
 refine lV hp (by ext) (by ext) λr s2 r0 r1 I w2=>?_;obtain⟨w,hw,it⟩:∃w:Nat,w<=900/\∀(Q:D->aT->Prop)s,wp (dM [.int 0,.int 1,.int 2,.int 90,.int 900] r) Q s=Q (.int (w:Nat)) s:=by
  rcases (show r=0\/r=1\/r=2\/r=3\/r=4 by ext) with rfl|rfl|rfl|rfl|rfl
  ·exact⟨0,by ext,λQ s=>oT (i:=0) rfl⟩
  ·exact⟨1,by ext,λQ s=>oT (i:=1) rfl⟩
  ·exact⟨2,by ext,λQ s=>oT (i:=2) rfl⟩
  ·exact⟨90,by ext,λQ s=>oT (i:=3) rfl⟩
  ·exact⟨900,by ext,λQ s=>oT (i:=4) rfl⟩
 cases l with
 |settle v=>
  simp![↓it,pZ,eZ,PV,if_true];refine⟨l2,?_⟩;rw[show (2:Int)+(w:Int)=((2+w:Nat):Int) by ext];exact hq (.settle (2+w)) s2 (by show 2+w < 1000;ext) I w2
 |act b d gs=>
  obtain⟨Y,U,h3,h5,L⟩:=hl;have g0:0 < gs.length:=kJ.mpr h5;simp![↓it,pZ,eZ,Ng,bf,if_false];refine lV I (by ext) (by ext) λv s3 v0 v1 C w3=>?_;have E:∀(b' d':Nat)(o:List Nat)G,b' < 1000->d' < 1000->o.length<=4+(n+1)->o≠[]->(∀g∈o,g < 1000)->PK p q s G->Kept p q s1 G->Q (.tup [.str "do",.int b',.int d',.tup (o.map eZ)]) G:=λb' d' o G a1 a2 a3 a4 a5 a6 a7=>hq (.act b' d' o) G ⟨a1,a2,a3,a4,a5⟩ a6 a7;have u:=w2.trans w3;simp![];by_cases c0:v=0
  ·rw[aE c0];simp![↓eb,ai];refine⟨H,?_⟩;rw[show (h.boards.length:Int)+(w:Int)=((h.boards.length+w:Nat):Int) by ext];exact E _ _ _ _ (by ext) U (by ext) h5 L C u
  rw[aA c0];by_cases c1:v=1
  ·rw[aE c1];refine⟨H,?_⟩;rw[show (4:Int)+(w:Int)=((4+w:Nat):Int) by ext];exact E _ _ _ _ Y (by ext) (by ext) h5 L C u
  rw[aA c1];by_cases c2:v=2
  ·rw[aE c2];simp![ai,bL];refine⟨l1,eT (by ext),H,?_⟩;have e:gs.map eZ++[D.int 0]=(gs++[0]).map eZ:=by rw[bh];rfl
   rw[e];refine E b d (gs++[0]) s3 Y U (by rw[aS,bL];ext) (by simp) (λg J=>?_) C u;rcases aZ.mp J with z|z
   ·exact L g z
   ·rw[aC.mp z];ext
  rw[aA c2];rw[ai];have O:∀{A B:Prop},(1 < (gs.length:Int)->A)->B->(if v=3 then (if 1 < (gs.length:Int) then A else B) else B):=λ{A B}a b=>by
   by_cases e:v=3
   ·rw[aE e];by_cases f:1 < (gs.length:Int)
    ·rw[aE f];exact a f
    ·rw[aA f];exact b
   ·rw[aA e];exact b
  refine O (λc3=>?_) ?_
  ·have c:cutD (gs.map eZ) (some 1) none=(gs.drop 1).map eZ:=wc (i:=0) g0;simp![↓Ay,c];refine⟨H,E b d (gs.drop 1) s3 Y U (by rw[bE];ext) (λe=>?_) (λg J=>L g (fH J)) C u⟩;have:=bS cw e;rw[bE,fC]at this;ext
  ·refine lV C (by ext) (by ext) λi G v Q c o=>?_;obtain⟨i,rfl⟩:=oC v;have h:i < gs.length:=by ext
   have O:=wI (F:=eZ) h;have I:=wc (F:=eZ) h;have l:=GU (F:=eZ) (y:=m+w) h;rw[show eZ (m+w)=.int ((m:Int)+(w:Int)) by show D.int _=_;congr 1]at l;simp![↓Ay,O,I,aS,ai,bj,bE,bL,l];refine⟨l1,eT (by ext),eT (by ext),H,?_⟩;refine E b d (gs.set i (m+w)) G Y U (by rw[dO];ext) (λe=>?_) (λg J=>?_) c (u.trans o)
   ·have:=bS cw e;rw[dO,fC]at this;ext
   ·rcases ie J with z|z
    ·exact L g z
    ·ext
theorem Yd{h:Hs}{x:Hd}(hp:PK p q s s1)(hb:h.boards.length<=4)(hx:An n x)(hn:n<=3)(hq:∀x' s',An (n+1) x'->PK p q s s'->Kept p q s1 s'->Q (pM x') s'):wp (jo [.ref p,sD h,pM x]) Q s1:=by
 have l1:1<=eK:=eT (by ext);have o:2<=eK:=eT (by ext);obtain⟨L,J,H,hl⟩:=hx;have up:∀{l},l∈x.lines->vg (n+1) l:=λz=>(hl _ z).mono (by ext);have g:∀(U O:Nat)(E:List Ln)s',U < 1000->O < 1000->E.length<=8->(∀l∈E,vg (n+1) l)->PK p q s s'->Kept p q s1 s'->Q (.tup [.tup [.int U,.int O],.tup (E.map pZ)]) s':=λU O E s' a1 a2 a3 a4 a5 a6=>hq ⟨U,O,E⟩ s' ⟨a1,a2,a3,a4⟩ a5 a6
 (simp![jo];simp![jQ,pM,eZ])
 refine lV hp (by ext) (by ext) λr s2 r0 r1 c C=>?_;simp![ai];by_cases c0:r=0
 ·rw[aE c0];exact⟨bJ _,o,g x.b0 x.b1 [] s2 L J (bJ _) (λ_ z=>(by cases z)) c C⟩
 rw[aA c0];by_cases c1:r=1
 ·rw[aE c1];refine lV c (by ext) (by ext) λv I v0 v1 b u=>?_;obtain⟨v,rfl⟩:=oC v0;simp![ai];refine⟨o,o,?_⟩;rw[show (x.lines.length:Int)+(v:Int)=((x.lines.length+v:Nat):Int) by ext];exact g _ x.b1 x.lines I (by ext) J H (λ_=>up) b (C.trans u)
 rw[aA c1];by_cases c2:r=2
 ·rw[aE c2];refine lV c (by ext) (by ext) λv I v0 v1 b u=>?_;obtain⟨v,rfl⟩:=oC v0;simp![ai];refine⟨o,o,?_⟩;rw[show (x.lines.length:Int)+(v:Int)=((x.lines.length+v:Nat):Int) by ext];exact g x.b0 _ x.lines I L (by ext) H (λ_=>up) b (C.trans u)
 rw[aA c2];by_cases c3:(x.lines.length:Int)=0
 ·rw[aE c3];exact g x.b0 x.b1 x.lines s2 L J H (λ_=>up) c C
 rw[aA c3];refine lV c (by ext) (by ext) λi I i0 i1 b u=>?_;obtain⟨i,rfl⟩:=oC i0;have G:i < x.lines.length:=by ext
 have e1:=wI (F:=pZ) G;have e2:=wc (F:=pZ) G;have it:∀(Q:D->aT->Prop)s,wp (dM (x.lines.map pZ) (i:Int)) Q s=Q (pZ x.lines[i]) s:=λQ s=>oT (by rw[aG,ar G];rfl);simp![↓Ay,e1,↓it,ai];refine VL b hb (hl _ (cR G)) H hn λl' s4 hl' Y w4=>?_;have e3:=GU (F:=pZ) (y:=l') G;simp![↓Ay,e1,e2,aS,ai,bj,bE,bL,e3];refine⟨l1,eT (by ext),eT (by ext),o,?_⟩;refine g x.b0 x.b1 (x.lines.set i l') s4 L J (by rw[dO];exact H) (λl hm=>?_) Y ((C.trans u).trans w4);rcases ie hm with z|z
 ·exact up z
 ·rw[z];exact hl'
theorem QoN{h:Hs}(hp:PK p q s s1)(hr:pP n h)(hn:n<=2)(hq:∀h' s',pP (n+1) h'->h'.boards.length=h.boards.length->PK p q s s'->Kept p q s1 s'->Q (sD h') s'):wp (jJ [.ref p,sD h]) Q s1:=by
 have l1:1<=eK:=eT (by ext);have L:2<=eK:=eT (by ext);obtain⟨b4,u,n1,n3,O⟩:=hr;have up:∀{x},x∈h.hands->An (n+1) x:=λz=>let ⟨a,b,c,d⟩:=O _ z;⟨a,b,c,λl C=>(d l C).mono (by ext)⟩
 have E:∀(bs:List Bd)(hs:List Hd)s',bs.length=h.boards.length->(∀b∈bs,yN b)->1<=hs.length->hs.length<=3+2*(n+1)->(∀x∈hs,An (n+1) x)->PK p q s s'->Kept p q s1 s'->Q (.tup [.tup (bs.map mV),.tup (hs.map pM)]) s':=λbs hs s' Y a2 a3 a4 a5 a6 a7=>hq ⟨bs,hs⟩ s' ⟨bv (uM Y) b4,a2,a3,a4,a5⟩ Y a6 a7;have hD:sD h=.tup [.tup (h.boards.map mV),.tup (h.hands.map pM)]:=rfl;generalize hd0:sD h=dh at *
 (simp![jJ];simp![j6])
 rw[hD];simp![];refine lV hp (by ext) (by ext) λr s2 r0 r1 I w2=>?_;simp![ai];have U:∀{A B:Prop},(0 < (h.boards.length:Int)->A)->B->(if r=0 then (if 0 < (h.boards.length:Int) then A else B) else B):=λ{A B}a b=>by
  by_cases e:r=0
  ·rw[aE e];by_cases f:0 < (h.boards.length:Int)
   ·rw[aE f];exact a f
   ·rw[aA f];exact b
  ·rw[aA e];exact b
 refine U (λc0=>?_) ?_
 ·refine lV I (by ext) (by ext) λi s3 i0 i1 g J=>?_;obtain⟨i,rfl⟩:=oC i0;have o:i < h.boards.length:=by ext
  have c:=u _ (cR o);have G:∀(Q:D->aT->Prop)s,wp (dM (h.boards.map mV) (i:Int)) Q s=Q (mV h.boards[i]) s:=λQ s=>oT (by rw[aG,ar o];rfl);have O:∀(Q:D->aT->Prop)s,wp (bz (mV h.boards[i]) (.int 0)) Q s=Q (fq h.boards[i].S h.boards[i].dn h.boards[i].nx h.boards[i].un) s:=λQ s=>cM rfl;have l:∀Q s,wp (dL (fq h.boards[i].S h.boards[i].dn h.boards[i].nx h.boards[i].un)) Q s=Q (.int h.boards[i].S) s:=λQ s=>OD;have U:=c.1.2.1;simp![↓G,↓O,↓l];refine lV g (by ext) (by ext) λv s4 v0 v1 H w4=>?_;obtain⟨v,rfl⟩:=oC v0;have e1:=wI (F:=mV) o;have e2:=wc (F:=mV) o;have e3:=GU (F:=mV) (y:=⟨h.boards[i].S,h.boards[i].dn,h.boards[i].nx,h.boards[i].un,h.boards[i].S+v⟩) o;rw[show mV ⟨h.boards[i].S,h.boards[i].dn,h.boards[i].nx,h.boards[i].un,h.boards[i].S+v⟩=.tup [fq h.boards[i].S h.boards[i].dn h.boards[i].nx h.boards[i].un,.int ((h.boards[i].S:Int)+(v:Int))] by show D.tup [_,D.int _]=_;congr 3]at e3;simp![↓Ay,e1,e2,aS,ai,bj,bE,bL,e3];refine⟨L,l1,eT (by ext),eT (by ext),L,?_⟩;refine E _ _ s4 (by rw[dO]) (λb C=>?_) n1 (by ext) (λ_=>up) H ((w2.trans J).trans w4);rcases ie C with z|z
  ·exact u b z
  ·rw[z];exact⟨c.1,by show h.boards[i].S+v < 1000;ext⟩
 by_cases c1:r=1
 ·rw[aE c1];have Y:cutD (h.hands.map pM) none (some 1)=(h.hands.take 1).map pM:=F9 (k:=1);have a2:cutD (h.hands.map pM) none (some 2)=(h.hands.take 2).map pM:=F9 (k:=2);simp![↓Ay,Y,a2,ai,bj];refine⟨eT (by ext),L,?_⟩;refine lV I (by ext) (by ext) λv s3 v0 v1 g J=>?_;rcases (show v=0\/v=1 by ext) with rfl|rfl
  ·have G:∀(a b:D)(Q:D->aT->Prop)s,wp (dM [a,b] 0) Q s=Q a s:=λa b Q s=>oT (i:=0) rfl;simp![↓G,Y];refine⟨L,E _ _ s3 rfl u (by rw[bj];ext) (by rw[bj];ext) (λx C=>up (dU C)) g (w2.trans J)⟩
  ·have G:∀(a b:D)(Q:D->aT->Prop)s,wp (dM [a,b] 1) Q s=Q b s:=λa b Q s=>oT (i:=1) rfl;simp![↓G,a2];rw[<- bh];refine⟨L,E _ _ s3 rfl u (by rw[aS];ext) (by rw[aS,bj];ext) (λx C=>?_) g (w2.trans J)⟩;rcases aZ.mp C with z|z
   ·exact up z
   ·exact up (dU z)
 rw[aA c1];refine lV I (by ext) (by ext) λi s3 i0 i1 g J=>?_;obtain⟨i,rfl⟩:=oC i0;have o:i < h.hands.length:=by ext
 have e1:=wI (F:=pM) o;have e2:=wc (F:=pM) o;have G:∀(Q:D->aT->Prop)s,wp (dM (h.hands.map pM) (i:Int)) Q s=Q (pM h.hands[i]) s:=λQ s=>oT (by rw[aG,ar o];rfl);simp![↓Ay,e1,↓G];refine Yd (h:=h) g b4 (O _ (cR o)) (by ext) λx' s4 hx' H w4=>?_;have e3:=GU (F:=pM) (y:=x') o;simp![↓Ay,e1,e2,aS,ai,bj,bE,bL,e3];refine⟨l1,eT (by ext),eT (by ext),L,?_⟩;refine E _ _ s4 rfl u (by rw[dO];exact n1) (by rw[dO];ext) (λx C=>?_) H ((w2.trans J).trans w4);rcases ie C with z|z
 ·exact up z
 ·rw[z];exact hx'
end
open PySem (Str)
structure m7(h:Hs)(R:List Str)(a:Nat):Prop where
 le:a<=(cy h).length
 same:∀i,i < a->R[i]?=(cy h)[i]?
 txo:∀r∈R,ma 90 r
 no:∀r∈R,No 10 r
 len:R.length<=200
 what:(R.length=a/\a=h.boards.length)\/∃r,R[a]?=some r/\(a<=h.boards.length->bX r ("board ":Str)=true->kC r=none)/\oR (a-h.boards.length) r
theorem ma.mono{n m:Nat}{x:Str}(h:ma n x)(e:n<=m):ma m x:=⟨bv h.1 e,h.2⟩
theorem Rl{h:Hs}{i:Nat}{b:Bd}(e:h.boards[i]?=some b):(cy h)[i]?=some (kF b):=by unfold cy;rw[aJ (by rw[ai];exact (aq.mp e).1),aG,e];rfl
theorem Hb{h:Hs}{i:Nat}:(cy h)[h.boards.length+i]?=(iw h.hands)[i]?:=by show (h.boards.map kF++iw h.hands)[_]?=_;rw[bo (by rw[ai];ext),ai,mv]
theorem DY{h:Hs}:(cy h).length=h.boards.length+(iw h.hands).length:=by show (h.boards.map kF++iw h.hands).length=_;rw[aS,ai]
theorem MB{h:Hs}(b:1<=h.hands.length):∃x,(iw h.hands)[0]?=some (i4 x):=by
 cases hh:h.hands with
 |nil=>rw[hh]at b;simp at b
 |cons x xs=>exact⟨x,rfl⟩
section
variable{s s1:aT}{Q:D->aT->Prop}{W:D->aT->Prop}
theorem MQ:(((("\n":Str)).length == 0)=false):=by nofun
theorem wq:(("\n":Str)).length=1:=by nofun
theorem VR{h:Hs}{R:List Str}{a:Nat}{x:Str}(C:pP 3 h)(hb:m7 h R a)(hx:au x ("\n":Str)=R)(xl:x.length<=30000)(J:∀s',dJ s s'->W (oQ (a:Nat)) s'):gi (jd [.str x]) Q W s:=by
 obtain⟨le,same,I,no,len,c⟩:=hb;have b4:=C.1;have h9:=C.2.2.2.1;have O:∀r∈R,ma 900 r:=λr hr=>(I r hr).mono (by ext);have l2:2<=eK:=eT (by ext);have l3:R.length<=eK:=eT (by ext);have Y:x.length+2<=eK:=bv (show x.length+2<=30002 by ext) (by decide);have hk:min a h.boards.length<=h.boards.length:=qG _ _;unfold jd jU;refine xG (kK (tW ?_));simp![↓C_,hx,MQ,l3,Y];refine kK (MM.mO (ul ?_));simp![];have L:dJ s (s++[MO.lst (R.map D.str)]):=(dJ.refl _).snoc _;refine M3 O C.2.1 hk b4 (by ext) lT (λi b hi eb=>?_) (λe u o=>?_) (λr l=>?_)
 ·rw[same i (by ext),Rl eb]
 ·have b : a = min a h.boards.length := by
    rcases c with ⟨g,H⟩|⟨r,g,_⟩
    ·ext
    ·have:=(aq.mp g).1;ext
  rw[<- b];exact J u (L.trans o)
 ·obtain ⟨r', g, H, b⟩ : ∃r, R[a]? = some r /\ (a <= h.boards.length -> bX r ("board " : Str) = true -> kC r = none) /\ oR (a-h.boards.length) r := by
    rcases c with ⟨g,H⟩|w
    ·have:=(aq.mp l).1;ext
    ·exact w
  have ra:=(aq.mp g).1;refine⟨λ_ u o=>?_,λst=>?_⟩
  ·have lt:((h.boards.take (min a h.boards.length)).map mV).length=min a h.boards.length:=by rw[ai,bj];ext
   simp![];refine kK (MM.mO (FA (zM (C3 ?_))));simp![];refine zM (ul ?_);simp![lt];refine OQ (hs:=h.hands) (k:=a-min a h.boards.length) O (by ext) C.2.2.2.2 (by ext) (o.at_ lT) (by ext) (by rw[DY]at le;ext) (λi I hi G=>?_) (λe=>?_) λI G=>?_
   ·have E:min a h.boards.length=h.boards.length:=by ext
    rw[E,same _ (by ext),Hb,G]
   ·ext
   ·rw[show min a h.boards.length+(a-min a h.boards.length)=a by ext]at G ⊢;rw[g]at G;cases G;exact⟨(show a-h.boards.length=a-min a h.boards.length by ext) ▸ b,λv U=>J v ((L.trans o).trans U)⟩
  ·by_cases Y:a<=h.boards.length
   ·have E:min a h.boards.length=a:=by ext
    rw[E]at l ⊢;rw[g]at l;cases l;exact⟨H Y st,λu o=>J u (L.trans o)⟩
   ·exfalso
    have E:min a h.boards.length=h.boards.length:=by ext
    obtain⟨y,Q⟩:=MB C.2.2.1;rw[E,same _ (by ext)]at l;have:=Hb (h:=h) (i:=0);rw[uO,Q]at this;rw[this]at l;cases l;rw[Qk]at st;cases st
theorem TJ{h:Hs}(c:pP 3 h):(qg h).length<=8000:=by have a:(qg h).length<=(cy h).length*(90+(("\n":Str)).length):=ME (JS c);have b:=Dj c;rw[wq]at a;have:(cy h).length*(90+1)<=85*(90+1):=g8 _ b;ext
theorem M5{h:Hs}(c:pP 3 h)(hg:zA h)(Y:∀s',dJ s s'->Q (sD h) s'):wp (jd [.str (qg h)]) Q s:=by
 have b4:=c.1;have h9:=c.2.2.2.1;have tl:=TJ c;have rn:=Dj c;have E:∀r∈cy h,ma 900 r:=λr U=>(LI c r U).mono (by ext);have O:2<=eK:=eT (by ext);have L:(cy h).length<=eK:=eT (by ext);have I:(qg h).length+2<=eK:=bv (show (qg h).length+2<=30002 by ext) (by decide);have e0:dJ s (s++[MO.lst ((cy h).map D.str)]):=(dJ.refl _).snoc _;obtain⟨y,ey⟩:=MB c.2.2.1;have l:=Hb (h:=h) (i:=0);rw[uO,ey]at l;refine Uz ?_;unfold jd jU;refine xG (kK (tW ?_));simp![↓C_,Qno c,MQ,L,I];refine kK (MM.mO (ul ?_));simp![];refine M3 E c.2.1 (az _) b4 (by ext) lT (λi b hi eb=>Rl eb) (λe=>?_) (λr C=>?_)
 ·have:=(aq.mp l).1;ext
 ·rw[l]at C;cases C;refine⟨λ_ u o=>?_,λst=>by rw[Qk]at st;cases st⟩;have lt:((h.boards.take h.boards.length).map mV).length=h.boards.length:=by rw[ai,dj]
  simp![];refine kK (MM.mO (FA (zM (C3 ?_))));simp![];refine zM (ul ?_);simp![lt];refine OQ (hs:=h.hands) (k:=(iw h.hands).length) E (by ext) c.2.2.2.2 (by ext) (o.at_ lT) (by rw[DY];ext) (az _) (λi J hi g=>by rw[Hb,g]) (λe=>⟨rfl,λv H=>?_⟩) λJ g=>?_
  ·refine Hy ⟨O,?_⟩;rw[dj];refine kK (tW ?_);simp![];refine XC (h:=sD h) (ZK hg) λw G=>?_;simp![];refine kK (tW ?_);simp![];exact Y w (((e0.trans o).trans H).trans G)
  ·rw[<- DY,dq (az _)]at g;cases g
end
open PySem (Str)
def BE(r:Str):Bool:=decide (r.length<=90)&&((r.cps.toList.all λc=>decide (c < 128))&&(!(r.cps.toList.contains 10)&&((!(bX r ("board ":Str))||(kC r).isNone)&&(if (au r (" ":Str)).headD ("":Str)=("hand":Str)/\(au r (" ":Str)).length=3 then (cG fe ((au r (" ":Str)).drop 1)).isNone else (pi (au r (" ":Str))).isNone))))
structure s_(r:Str):Prop where
 txo:ma 90 r
 no:No 10 r
 brd:bX r ("board ":Str)=true->kC r=none
 hnd:∀k,oR k r
theorem O3{r:Str}(h:BE r=true):s_ r:=by
 unfold BE at h;rw[aO,aO,aO,aO]at h;obtain⟨o,l,g,c,b⟩:=h;refine⟨⟨of_decide_eq_true o,vq l⟩,tT (by simpa using g),λst=>?_,λk=>?_⟩
 ·rw[st]at c;exact g9.mp c
 ·unfold oR;split
  ·rename_i e;rw[aE e]at b;exact g9.mp b
  ·rename_i e;rw[aA e]at b;exact .inr (g9.mp b)
def Go:D->Bool
 | .str r=>BE r
 |_=>false
theorem Wo{d:D}(h:Go d=true):∃r,d=.str r/\s_ r:=by cases d<;>first|exact⟨_,rfl,O3 h⟩|cases h
section
variable{p q:Nat}{s s1:aT}{Q:D->aT->Prop}{R:o_->aT->Prop}
theorem PK.ext(a:PK p q s s1){v:aT}(x:dJ s1 v):PK p q s v:=by obtain⟨y,c,k,b,l,h,r⟩:=a.1.ex;exact⟨⟨a.1.ne,y,c,k,b,x.at_ l,x.at_ h,r⟩,a.2.trans ⟨x.le,λn g _ _=>by obtain⟨t,e⟩:=x;rw[e,aJ g]⟩⟩
theorem Kept.ext{v:aT}(x:dJ s v):Kept p q s v:=⟨x.le,λn b _ _=>by obtain⟨t,e⟩:=x;rw[e,aJ b]⟩
structure yR(s1 s:aT)(n N:Nat)(ds:List D):Prop where
 x:dJ s1 s
 g:s[n]?=some (.lst ds)
 l:s1.length<=n
 pos:0 < ds.length
 le:ds.length<=N
theorem Um{g:Option D}{e:D}{c:List D}{h:CA}{b:CS}(o:∀(Q:List D->aT->Prop)s,wp (h [g,none]) Q s=Q (e::c) s)(u:(e::c).length<=900)(k:∀m s',yR s s' m (e::c).length (e::c)->wp (b [g,some (.ref m)]) R s'):wp (aF (bY (aU 1) (bZ (dE h))) b [g,none]) R s:=by have l:(e::c).length<=eK:=eT (by ext);generalize hd:e::c=ds at *;simp![↓o,l];exact k _ _ ⟨(dJ.refl _).snoc _,lT,az _,by rw[<- hd];exact Nat.succ_pos _,az _⟩
theorem vv{g:Option D}{n N:Nat}{ds c:List D}{l:CA}{b:CS}(h:yR s1 s n N ds)(u:∀(Q:List D->aT->Prop)s,wp (l [g,some (.ref n)]) Q s=Q c s)(C:N+c.length<=900)(k:∀m s',yR s1 s' m (N+c.length) (ds++c)->wp (b [g,some (.ref m)]) R s'):wp (aF (bY (aU 1) (c2 bQ (am 1) (bZ (dE l)))) b [g,some (.ref n)]) R s:=by have o:c.length<=eK:=eT (by ext);have v:=h.le;have a:∀Q,wp (bQ (.ref n) (.ref s.length)) Q (s++[MO.lst c])=(ds.length+c.length<=eK/\Q (.ref (s++[MO.lst c]).length) (s++[MO.lst c]++[.lst (ds++c)])):=λQ=>B9 (qW h.g) lT;simp![↓u,o,↓a];exact⟨eT (by ext),k _ _ ⟨(h.x.snoc _).snoc _,lT,by have:=h.x.le;simp;ext,by rw[aS];have:=h.pos;ext,by rw[aS];ext⟩⟩
theorem XQ{n N:Nat}{ds:List D}{s2:aT}(o:PK p q s s1)(h:yR s1 s2 n N ds)(hN:N<=900)(H:ds.all Go=true)(I:∀r s',s_ r->PK p q s s'->Kept p q s1 s'->Q (.str r) s'):wp (aF (cH (c2 bz (am 1) (ba ja (ak (am 0) (ak (c1 dL (am 1)) aY))))) aH [some (.ref p),some (.ref n)]) (λf s'=>wp (vi f) Q s') s2:=by
 have g1:∀Q,wp (getL n) Q s2=Q ds s2:=λQ=>ka h.g;have l:=h.l;have Y:=h.le;have U:=h.pos;have O:=o.1.lt;have v:ds.length<=eK:=eT (by ext);simp![↓g1,v];refine lV (o.ext h.x) (by ext) (by ext) λi b E i1 c g=>?_;obtain⟨i,rfl⟩:=oC E;have u:i < ds.length:=by ext
 have J:∀Q,wp (getL n) Q b=Q ds b:=λQ=>ka (g.same (by ext) (by ext) h.g);obtain⟨r,L,G⟩:=Wo (cJ.mp H _ (cR u));have C:∀(Q:D->aT->Prop)s,wp (dM ds (i:Int)) Q s=Q (.str r) s:=λQ s=>oT (by rw[ar u,L]);simp![↓J,↓C];exact I r b G c ((Kept.ext h.x).trans g)
theorem Ou(b:PK p q s s1)(h:∀r s',s_ r->PK p q s s'->Kept p q s1 s'->Q (.str r) s'):wp (jh [.ref p]) Q s1:=by unfold jh yb;rw[wU];refine Um (λQ s=>cM rfl) (by decide) λm s2 c=>?_;refine vv c (λQ s=>cM rfl) (by decide) λm s2 c=>?_;refine vv c (λQ s=>cM rfl) (by decide) λm s2 c=>?_;refine vv c (λQ s=>cM rfl) (by decide) λm s2 c=>?_;refine vv c (λQ s=>cM rfl) (by decide) λm s2 c=>?_;refine vv c (λQ s=>cM rfl) (by decide) λm s2 c=>?_;refine vv c (λQ s=>cM rfl) (by decide) λm s2 c=>?_;refine vv c (λQ s=>cM rfl) (by decide) λm s2 c=>?_;refine vv c (λQ s=>cM rfl) (by decide) λm s2 c=>?_;refine vv c (λQ s=>cM rfl) (by decide) λm s2 c=>?_;refine vv c (λQ s=>cM rfl) (by decide) λm s2 c=>?_;refine vv c (λQ s=>cM rfl) (by decide) λm s2 c=>?_;refine vv c (λQ s=>cM rfl) (by decide) λm s2 c=>?_;refine vv c (λQ s=>cM rfl) (by decide) λm s2 c=>?_;exact XQ b c (by decide) (by nofun) h
end
open PySem (Str)
theorem NT{ds:List D}{a:Nat}(h:a<=ds.length):cutD ds none (some (a:Int))=ds.take a:=by unfold cutD gp;dsimp only;rw[aA (by ext),bI,qZ h];rfl
theorem YC{ds:List D}{b:Nat}:cutD ds (some (b:Int)) none=ds.drop b:=by
 unfold cutD gp;dsimp only;rw[aA (by ext),bI,eX (by rw[bE];exact az _)];by_cases h:b<=ds.length
 ·rw[qZ h]
 ·rw[zX (by ext),e_,List.drop_eq_nil_of_le (by ext)]
section
variable{p q n:Nat}{s s0 s1:aT}{Q:D->aT->Prop}{l:Loc}
theorem Hz{i a b:Nat}{e H G:CE}{ds:List D}{P:Str->Prop}(E:PK p q s0 s)(u:s[n]?=some (.lst ds))(np:n≠p)(J:n≠q)(C:∀(Q:D->aT->Prop)s,wp (am i l) Q s=Q (.ref n) s)(ha:∀(Q:D->aT->Prop)s,wp (H l) Q s=Q (.int (a:Nat)) s)(Y:∀(Q:D->aT->Prop)s,wp (G l) Q s=Q (.int (b:Nat)) s)(al:a<=ds.length)(len:ds.length<=300)
  (U:∀(I:D->aT->Prop)t0,PK p q s0 t0->(∀r c,P r->PK p q s0 c->Kept p q t0 c->I (.str r) c)->wp (e l) I t0)
  (hQ:∀m r s',P r->s'[m]?=some (.lst (ds.take a++[.str r]++ds.drop b))->s.length<=m->PK p q s0 s'->Kept p q s s'->Q (.ref m) s'):wp (c2 bQ (c2 bQ (bZ (d_ (am i) eF (dW H))) (bZ (dE (ak e aY)))) (bZ (d_ (am i) (dW G) eF)) l) Q s:=by
 have L:1<=eK:=eT (by ext);have g1:∀Q,wp (getL n) Q s=Q ds s:=λQ=>ka u;have lp:=E.1.lt;have ct:=NT al;have cd:=YC (ds:=ds) (b:=b);have ln:=qA u;simp![↓pY,↓C,↓ha,↓g1,ct];refine U _ _ (E.ext ((dJ.refl s).snoc _)) λr c O h v=>?_;have g:=(Kept.refl (p:=p) (q:=q) (s:=s)).snoc (o:=MO.lst (ds.take a)) |>.trans v
 have gt:=v.same (n:=s.length) (o:=.lst (ds.take a)) (by ext) (by ext) lT;have gn:=g.same np J u;have a1:∀Q,wp (bQ (.ref s.length) (.ref c.length)) Q (c++[MO.lst [.str r]])=((ds.take a).length+[D.str r].length<=eK/\Q (.ref (c++[MO.lst [.str r]]).length) (c++[MO.lst [.str r]]++[.lst (ds.take a++[.str r])])):=λQ=>B9 (qW gt) lT;have g2:∀(A B:List D)Q,wp (getL n) Q (c++[MO.lst A]++[MO.lst B])=Q ds (c++[MO.lst A]++[MO.lst B]):=λA B Q=>ka (qW (qW gn));have a2:∀(A:List D)Q,wp (bQ (.ref (c++[MO.lst A]).length) (.ref (c++[MO.lst A]++[MO.lst (ds.take a++[D.str r])]).length)) Q (c++[MO.lst A]++[MO.lst (ds.take a++[D.str r])]++[MO.lst (ds.drop b)])=((ds.take a++[D.str r]).length+(ds.drop b).length<=eK/\Q (.ref (c++[MO.lst A]++[MO.lst (ds.take a++[D.str r])]++[MO.lst (ds.drop b)]).length) (c++[MO.lst A]++[MO.lst (ds.take a++[D.str r])]++[MO.lst (ds.drop b)]++[.lst (ds.take a++[D.str r]++ds.drop b)])):=λA Q=>B9 (qW lT) lT;have lq:=g.le;simp![L,↓a1,↓pY,↓C,↓Y,↓g2,cd,↓a2];refine⟨eT (by rw[bj];show _+1<=1000;ext),eT (by rw[aS,bj,bE];show _+1+_<=1000;ext),?_⟩;exact hQ _ r _ O lT (by simp;ext) (h.ext ((((dJ.refl _).snoc _).snoc _).snoc _ |>.snoc _)) (g.trans (Kept.ext ((((dJ.refl _).snoc _).snoc _).snoc _ |>.snoc _)))
end
theorem GG{R:List Str}{a b:Nat}{r:Str}:(R.map D.str).take a++[.str r]++(R.map D.str).drop b=(R.take a++[r]++R.drop b).map D.str:=by rw[bh,bh,oA,kg];rfl
theorem HL{h:Hs}{a b:Nat}{r:Str}(g:pP 3 h)(C:a<=(cy h).length)(u:ma 90 r)(no:No 10 r)(o:a<=h.boards.length->bX r ("board ":Str)=true->kC r=none)(l:oR (a-h.boards.length) r):m7 h ((cy h).take a++[r]++(cy h).drop b) a:=by
 have E:=Dj g;have lt:((cy h).take a).length=a:=by rw[bj];ext
 have mem:∀{x},x∈(cy h).take a++[r]++(cy h).drop b->x∈cy h\/x=r:=λc=>by
  rcases aZ.mp c with z|z
  ·rcases aZ.mp z with z|z
   ·exact .inl (dU z)
   ·exact .inr (aC.mp z)
  ·exact .inl (fH z)
 refine⟨C,λi v=>?_,λx c=>?_,λx c=>?_,by simp only[aS,bj,bE,bL];ext,.inr ⟨r,?_,o,l⟩⟩
 ·rw[cL,aJ (by ext),eM v]
 ·rcases mem c with z|z
  ·exact LI g x z
  ·rw[z];exact u
 ·rcases mem c with z|z
  ·exact Mo g x z
  ·rw[z];exact no
 ·rw[cL,bo (by ext),lt,mM];rfl
theorem X2{h:Hs}{R:List Str}{a c:Nat}{r:Str}(G:m7 h R a)(H:a < c)(J:c<=R.length)(I:R.length<=100)(C:s_ r):m7 h (R.take c++[r]++R.drop c) a:=by
 obtain⟨le,same,l,no,len,b⟩:=G;have lt:(R.take c).length=c:=by rw[bj];ext
 have mem:∀{x},x∈R.take c++[r]++R.drop c->x∈R\/x=r:=λg=>by
  rcases aZ.mp g with z|z
  ·rcases aZ.mp z with z|z
   ·exact .inl (dU z)
   ·exact .inr (aC.mp z)
  ·exact .inl (fH z)
 have at_:∀i,i < c->(R.take c++[r]++R.drop c)[i]?=R[i]?:=λi o=>by rw[cL,aJ (by ext),eM o]
 refine⟨le,λi o=>by rw[at_ i (by ext)];exact same i o,λx g=>?_,λx g=>?_,by simp only[aS,bj,bE,bL];ext,?_⟩
 ·rcases mem g with z|z
  ·exact l x z
  ·rw[z];exact C.txo
 ·rcases mem g with z|z
  ·exact no x z
  ·rw[z];exact C.no
 ·rcases b with ⟨v,u⟩|⟨E,v,u⟩
  ·ext
  ·exact .inr ⟨E,by rw[at_ a H];exact v,u⟩
theorem Aj:s_ ("":Str):=O3 (by nofun)
theorem Pz{h:Hs}:m7 h [("":Str)] 0:=⟨bJ _,λi c=>bc c (by ext),λr b=>by rw[aC.mp b];exact Aj.txo,λr b=>by rw[aC.mp b];exact Aj.no,by decide,.inr ⟨_,rfl,λ_=>Aj.brd,Aj.hnd _⟩⟩
theorem T8{h:Hs}(c:pP 3 h):m7 h ((cy h).take h.boards.length) h.boards.length:=by have l:=Dj c;have o:=DY (h:=h);refine⟨by ext,λi g=>eM g,λr b=>LI c r (dU b),λr b=>Mo c r (dU b),by rw[bj];ext,.inl ⟨by rw[bj];ext,rfl⟩⟩
theorem X6{h:Hs}{R:List Str}{a:Nat}(b:m7 h R a):∃u,au (bM ("\n":Str) R) ("\n":Str)=u/\m7 h u a/\(bM ("\n":Str) R).length<=30000/\gX (R.map D.str)=some R/\(R.map (·.length)).sum+R.length*(("\n":Str)).length<=16777216:=by
 have o:gX (R.map D.str)=some R:=by have:=G5 (f:=λx:Str=>x) (xs:=R);simpa using this
 have E:=Ec (f:=λx:Str=>x.length) (k:=90) λx g=>(b.txo x g).1;have l:=b.len;have H:R.length*90<=200*90:=g8 _ l;have v:(bM ("\n":Str) R).length<=R.length*(90+(("\n":Str)).length):=ME λx g=>(b.txo x g).1;rw[wq]at v;have G:R.length*(90+1)<=200*(90+1):=g8 _ l;by_cases e:R=[]
 ·have C : a = 0 := by
    rcases b.what with ⟨c,_⟩|⟨r,c,_⟩
    ·rw[e]at c;exact c.symm
    ·rw[e]at c;cases c
  rw[C];exact⟨_,by rw[e];exact (by nofun:au (bM ("\n":Str) []) ("\n":Str)=[("":Str)]),Pz,by ext,o,by rw[wq];ext⟩
 ·exact⟨R,BQ QB e b.no,b,by ext,o,by rw[wq];ext⟩
open PySem (Str)
theorem N_:ma 90 ("board 0.0 at 0":Str)/\No 10 ("board 0.0 at 0":Str):=⟨⟨by nofun,vq (by nofun)⟩,tT (by nofun)⟩
theorem X5{k:Nat}:oR k ("board 0.0 at 0":Str):=by unfold oR;rw[aA (by nofun)];exact .inr (g9.mp (by nofun))
def Gd(r:Str):Prop:=r=("settle 0":Str)\/r=("do 0 0 : 0":Str)
theorem Sd{r:Str}(h:Gd r):ma 90 r/\No 10 r/\bX r ("board ":Str)=false/\oR 0 r:=by
 rcases h with rfl|rfl
 ·refine⟨⟨by nofun,vq (by nofun)⟩,tT (by nofun),by nofun,?_⟩;unfold oR;rw[aA (by nofun)];exact .inl rfl
 ·refine⟨⟨by nofun,vq (by nofun)⟩,tT (by nofun),by nofun,?_⟩;unfold oR;rw[aA (by nofun)];exact .inl rfl
section
variable{p q n:Nat}{s s1:aT}{Q:D->aT->Prop}
theorem Qpf{h:Hs}(L:pP 3 h)(hp:PK p q s s1)(hg:s1[n]?=some (.lst ((cy h).map D.str)))(np:n≠p)(J:n≠q)(O:∀R m(a:Nat)s',m7 h R a->s'[m]?=some (.lst (R.map D.str))->PK p q s s'->Kept p q s1 s'->Q (.tup [.ref m,.int (a:Nat)]) s'):wp (jG [.ref p,.ref n,.int (h.boards.length:Nat)]) Q s1:=by
 have l1:1<=eK:=eT (by ext);have E:2<=eK:=eT (by ext);have rn:=Dj L;have rl:=DY (h:=h);have r0:1<=(iw h.hands).length:=by obtain⟨x,e⟩:=MB L.2.2.1;have:=(aq.mp e).1;ext
 have lm:((cy h).map D.str).length=(cy h).length:=ai ..;have lp:=hp.1.lt;unfold jG yd;generalize hI2:c2 bQ (c2 bQ (bZ (d_ (am 1) eF (dW (am 4)))) (bZ (dE (ak (ay (.str "board 0.0 at 0")) aY)))) (bZ (d_ (am 1) (dW (am 4)) eF))=i2;generalize hI3:c2 bQ (c2 bQ (bZ (d_ (am 1) eF (dW (am 4)))) (bZ (dE (ak (kW (dE (ak (ay (.str "settle 0")) (ak (ay (.str "do 0 0 : 0")) aY))) (ba ja (ak (am 0) (ak (ay (.int 2)) aY)))) aY)))) (bZ (d_ (am 1) (dW (am 4)) eF))=i3;generalize hI5:c2 bQ (c2 bQ (bZ (d_ (am 1) eF (dW (am 4)))) (bZ (dE (ak (ba jh (ak (am 0) aY)) aY)))) (bZ (d_ (am 1) (dW (c2 bQ (am 4) (c2 lL (am 3) (ay (.int 2))))) eF))=i5;generalize hI6:c2 bQ (c2 bQ (bZ (d_ (am 5) eF (dW (am 6)))) (bZ (dE (ak (ba jh (ak (am 0) aY)) aY)))) (bZ (d_ (am 5) (dW (am 6)) eF))=i6;simp![];refine lV hp (by ext) (by ext) λr s2 a0 a1 g C=>?_;have g2:=C.same np J hg;have q2:∀Q,wp (getL n) Q s2=Q ((cy h).map D.str) s2:=λQ=>ka g2;have lr:(cy h).length<=eK:=eT (by ext);by_cases c0:r=0
 ·subst c0;have b:=NT (ds:=(cy h).map D.str) (a:=h.boards.length) (by ext);simp![↓q2,↓pY,b,if_true];refine⟨E,O ((cy h).take h.boards.length) _ _ _ (T8 L) (by rw[lT,oA]) (g.ext ((dJ.refl _).snoc _)) C.snoc⟩
 by_cases c1:r=1
 ·subst c1;have a1:∀Q,wp (bQ (.ref n) (.ref s2.length)) Q (s2++[MO.lst [D.str ""]])=(((cy h).map D.str).length+[D.str ""].length<=eK/\Q (.ref (s2++[MO.lst [D.str ""]]).length) (s2++[MO.lst [D.str ""]]++[.lst ((cy h).map D.str++[D.str ""])])):=λQ=>B9 (qW g2) lT;have c:∀(A B:List D)Q,wp (getL n) Q (s2++[MO.lst A]++[MO.lst B])=Q ((cy h).map D.str) (s2++[MO.lst A]++[MO.lst B]):=λA B Q=>ka (qW (qW g2));have hb:=HL (b:=(cy h).length) L (az _) Aj.txo Aj.no (λ_=>Aj.brd) (Aj.hnd _);rw[dj,e_,bH]at hb;simp![l1,↓a1,↓c,lm,lr,Int.reduceEq,decide_false,bf,if_false,if_true];refine⟨eT (by show _+1<=1000;ext),E,O _ _ _ _ hb (by rw[lT,bh];rfl) (g.ext (((dJ.refl _).snoc _).snoc _)) C.snoc.snoc⟩
 by_cases c2:r=2
 ·subst c2;simp![↓q2,lm,lr,Int.reduceEq,decide_false,bf,if_false,if_true];refine lV g (by ext) (by ext) λv s3 v0 v1 l o=>?_;obtain⟨v,rfl⟩:=oC v0;have ev:(h.boards.length:Int)+1+(v:Int)=((h.boards.length+1+v:Nat):Int):=by ext
  simp![ev];subst hI2;refine Hz (n:=n) (i:=1) (a:=h.boards.length+1+v) (b:=h.boards.length+1+v) (P:=λr=>r=("board 0.0 at 0":Str)) l (o.same np J g2) np J (λQ s=>by simp![]) (λQ s=>by simp![]) (λQ s=>by simp![]) (by ext) (by ext) (λQ' t0 k G=>by simp![];exact G _ _ rfl k Kept.refl) λm Y I H u lm4 c U=>?_;subst H;rw[GG]at u;simp![E];exact O _ m _ I (HL L (by ext) N_.1 N_.2 (λz=>by ext) X5) u c ((C.trans o).trans U)
 by_cases c3:r=3
 ·subst c3;simp![↓q2,lm,lr,Int.reduceEq,decide_false,bf,if_false,if_true];refine lV g (by ext) (by ext) λv s3 v0 v1 l o=>?_;obtain⟨v,rfl⟩:=oC v0;simp![];subst hI3;refine Hz (n:=n) (i:=1) (a:=v) (b:=v) (P:=Gd) l (o.same np J g2) np J (λQ s=>by simp![]) (λQ s=>by simp![]) (λQ s=>by simp![]) (by ext) (by ext) (λQ' t0 k G=>?_) λm Y I H u lm4 c U=>?_
  ·simp![E];refine lV k (by ext) (by ext) λz t1 z0 z1 c b=>?_;rcases (show z=0\/z=1 by ext) with rfl|rfl
   ·exact (oT (i:=0) rfl).mpr (G _ _ (.inl rfl) c b)
   ·exact (oT (i:=1) rfl).mpr (G _ _ (.inr rfl) c b)
  rw[GG]at u;obtain⟨t1,t2,t3,t4⟩:=Sd H;simp![E];exact O _ m _ I (HL L (by ext) t1 t2 (λ_ z=>by rw[t3]at z;cases z) (by rw[show v-h.boards.length=0 by ext];exact t4)) u c ((C.trans o).trans U)
 by_cases c4:r=4
 ·subst c4;simp![l1,Int.reduceEq,decide_false,bf,if_false,if_true];exact⟨E,O [("":Str)] _ 0 _ Pz lT (g.ext ((dJ.refl _).snoc _)) C.snoc⟩
 simp![↓q2,lm,lr,c0,c1,c2,c3,c4,if_false];refine lV g (by ext) (by ext) λv s3 v0 v1 l o=>?_;obtain⟨v,rfl⟩:=oC v0;obtain⟨r,rfl⟩:=oC a0;have eb:(v:Int)+(r:Int) % 2=((v+r % 2:Nat):Int):=by ext
 have g3:=o.same np J g2;simp![];subst hI5;refine Hz (n:=n) (i:=1) (a:=v) (b:=v+r % 2) (P:=s_) l g3 np J (λQ s=>by simp![]) (λQ s=>by simp![]) (λQ s=>by simp![];try rw[eb]) (by ext) (by ext) (λQ' t0 k G=>by simp![];exact Ou k G) λm Y I H u lm4 c U=>?_;rw[GG]at u;have hb:=HL (b:=v+r % 2) L (show v<=(cy h).length by ext) H.txo H.no (λ_=>H.brd) (H.hnd _);have lR:((cy h).take v++[Y]++(cy h).drop (v+r % 2)).length<=90/\v < ((cy h).take v++[Y]++(cy h).drop (v+r % 2)).length:=by simp only[aS,bj,bE,bL];ext
 generalize (cy h).take v++[Y]++(cy h).drop (v+r % 2)=RR at *;simp![];by_cases c6:(6:Int) < (r:Int)
 ·have q4:∀Q,wp (getL m) Q I=Q (RR.map D.str) I:=λQ=>ka u;have g:RR.length<=eK:=eT (by ext);have l3:=o.le;have l22:=C.le;simp![c6,if_true,↓q4,ai,g];refine lV c (by ext) (by ext) λz s5 z0 z1 H J=>?_;obtain⟨z,rfl⟩:=oC z0;have ez:(v:Int)+1+(z:Int)=((v+1+z:Nat):Int):=by ext
  simp![ez];subst hI6;refine Hz (n:=m) (i:=5) (a:=v+1+z) (b:=v+1+z) (P:=s_) H (J.same (by ext) (by ext) u) (by ext) (by ext) (λQ s=>by simp![]) (λQ s=>by simp![]) (λQ s=>by simp![]) (by rw[ai];ext) (by rw[ai];ext) (λQ' t0 k G=>by simp![];exact Ou k G) λm2 r2 s6 h L lm6 l Y=>?_;rw[GG]at L;simp![E];exact O _ m2 _ s6 (X2 hb (by ext) (by ext) (by ext) h) L l ((((C.trans o).trans U).trans J).trans Y)
 ·simp![c6,if_false,E];exact O _ m _ I hb u c ((C.trans o).trans U)
end
open PySem (Str)
section
variable{p q n:Nat}{s s1 s2:aT}{Q:D->aT->Prop}{h:Hs}
theorem V6{ds:List D}:wp (u4 (.lit ds)) Q s=Q (.ref s.length) (s++[.lst ds]):=cM rfl
theorem Rx(b:pP 3 h):gX ((cy h).map D.str)=some (cy h)/\((cy h).map (·.length)).sum+(cy h).length*(("\n":Str)).length<=16777216:=by
 have g:gX ((cy h).map D.str)=some (cy h):=by have:=G5 (f:=λx:Str=>x) (xs:=cy h);simpa using this
 have l:=Ec (f:=λx:Str=>x.length) (JS b);have c:=Dj b;have:(cy h).length*90<=85*90:=g8 _ c;exact⟨g,by rw[wq];ext⟩
theorem OB{R:List Str}{a:Nat}{x:Str}(u:pP 3 h)(v:m7 h R a)(o:au x ("\n":Str)=R)(c:x.length<=30000)(C:∀s',dJ s s'->Q (.bl true) s'):wp (jg [.str x,.int (a:Nat)]) Q s:=by
 have l:∀(b:Str->Bool)(Q:D->aT->Prop)s,wp (qr ["NoText"] b (oQ (a:Nat))) Q s=Q (.bl (b "NoText")) s:=λb Q s=>cM (by unfold qr oQ;dsimp only;unfold chk;rw[aE (by simp)];rfl);have g:∀(Q:D->aT->Prop)s,wp (tJ "NoText" "row" (oQ (a:Nat))) Q s=Q (.int (a:Nat)) s:=λQ s=>cM (by unfold tJ oQ;dsimp only;unfold chk;rw[aE ⟨rfl,rfl⟩];rfl);have n1:(["NoHouse","NoMark","NoRow","NoTable","NotGood","NotMeek","TooMany"].any λt=>ag "NoText" == ag t||ag "PactError" == ag t)=false:=by nofun
 (simp![jg];simp![j8])
 refine MM.zO ?_;simp![];refine VR u v o c λs' xs=>⟨"NoText",[.str "row",.int (a:Nat)],rfl,by simp,?_⟩
 rw[show (D.exn "NoText" [.str "row",.int (a:Nat)])=oQ (a:Nat) from rfl];simp![↓l,↓g,n1,beq_self_eq_true,Du,iA,bf,if_false];exact IT trivial λs2 y=>by simp![];exact C s2 (xs.trans y)
theorem QD{R:List Str}(l:PK p q s s1)(g:s1[n]?=some (.lst (R.map D.str)))(b:R≠[]):n≠p/\n≠q:=by
 obtain⟨x,c,k,ns,u,o,_⟩:=l.1.ex;cases R with
 |nil=>exact bc rfl b
 |cons r R=>
  refine⟨λe=>?_,λe=>?_⟩
  ·rw[e,u]at g;cases g
  ·rw[e,o]at g;cases ns with
   |nil=>cases g
   |cons i ns=>cases g
theorem Yo(ns:List Int)(hn:ns.length<=63)(hQ:∀s,Q (.bl true) s):wp (yp [.lit (ns.map D.int)]) Q s:=by
 have l4:4<=eK:=eT (by ext);have l2:2<=eK:=eT (by ext);have h4:(-(2^62)<=(4:Int)/\(4:Int) < 2^62)=True:=eq_true (by ext)
 (simp![yp];simp![yx,↓V6,l4])
 have hp:kU (s++[MO.lst (ns.map D.int)]++[MO.lst [.ref s.length,.int 0,.int 0,.int 0]]) (s++[MO.lst (ns.map D.int)]).length s.length:=⟨by simp,0,0,0,ns,lT,qW lT,by ext,by ext,hn⟩
 generalize (s++[MO.lst (ns.map D.int)]).length=p at *;generalize s++[MO.lst (ns.map D.int)]++[MO.lst [.ref s.length,.int 0,.int 0,.int 0]]=s0 at *;generalize s.length=q at *;refine Sw (PK.refl hp) λh s1 o1 b1 e1 k1 w1=>?_;have r0:=Qm1 o1 b1 e1;have b:=r0.mono (bJ 3);obtain⟨j1,j2⟩:=Rx b;have et:∀h,bM ("\n":Str) (cy h)=qg h:=λ_=>rfl;simp![];refine Pt b λn u gu xu=>?_;have q1:∀Q,wp (getL n) Q u=Q ((cy h).map D.str) u:=λQ=>ka gu;simp![↓B6,↓q1,j1,et];refine⟨j2,?_⟩;refine M5 b o1 λv xv=>?_;simp![];refine IT (NI b) λv2 Y=>?_;have o:dJ u v2:=xv.trans Y;have C:PK p q s0 v2:=(k1.ext xu).ext o;have g2:=o.at_ gu;obtain⟨np,nq⟩:=QD C g2 (IM b);simp![h4];refine SM (λi l v=>∃U O g c,l=[some (.lit (ns.map D.int)),some (.ref p),some (sD h),some (.ref n),U,O,g,c]/\PK p q s0 v/\v[n]?=some (.lst ((cy h).map D.str))) (λ_ _ _ _=>trivial) ⟨_,_,_,_,rfl,C,g2⟩ (λRw i d l v up rt hd hW=>?_) (λl v hW=>?_)
 ·obtain⟨U,O,g,c,el,kv,gv⟩:=hW;subst el;generalize hT:aF (bY (fS 2 (cm (aU 6) (cm (aU 7) gf))) (ba jG (ak (am 1) (ak (am 5) (ak (c1 dL (c2 bz (am 2) (ay (.int 0)))) aY))))) (aF (ik (n9 (gz (kP (ba jg (ak (lG (ay (.str "\n")) (am 6)) (ak (am 7) aY))))) (gz (kP (ba jg (ak (lG (ay (.str "\n")) (am 6)) (ak (am 7) aY)))))) (aF (cH (ay (.bl false))) aH) aH) aH)=tl;have hB:∀(h':Hs)(G:Nat)(w:aT)(g c:Option D),pP 3 h'->h'.boards.length=h.boards.length->PK p q s0 w->w[n]?=some (.lst ((cy h).map D.str))->w[G]?=some (.lst ((cy h').map D.str))->wp (tl [some (.lit (ns.map D.int)),some (.ref p),some (sD h),some (.ref n),some d,some (.ref G),g,c]) Rw w:=by intro h' G w g c L eb kw gw I;subst hT;obtain⟨Y,v⟩:=QD kw I (IM L);have es:∀(Q:D->aT->Prop)s,wp (bz (sD h) (.int 0)) Q s=Q (.tup (h.boards.map mV)) s:=λQ s=>cM rfl;simp![↓es,ai];rw[<- eb];refine Qpf L kw I Y v λR m a J hb gm C l=>?_;obtain⟨R',t1,t2,t3,t4,t5⟩:=X6 hb;have qm:∀Q,wp (getL m) Q J=Q (R.map D.str) J:=λQ=>ka gm;simp![↓B6,↓qm,t4];refine⟨t5,OB L t2 t1 t3 λw3 o=>?_⟩;have u:∀Q,wp (getL m) Q w3=Q (R.map D.str) w3:=λQ=>ka (o.at_ gm);simp![↓B6,↓u,t4];refine⟨t5,OB L t2 t1 t3 λw4 x4=>?_⟩;simp![];exact up ⟨_,_,_,_,rfl,C.ext (o.trans x4),(o.trans x4).at_ (l.same np nq gw)⟩
  clear hT;simp![];refine lV kv (by ext) (by ext) λr v1 a0 a1 H w1=>?_;have g1:=w1.same np nq gv;by_cases c0:r=0
  ·subst c0;simp![if_true];refine QoN H r0 (by ext) λh w g eb C J=>?_;have E:=g.mono (show 0+1<=3 by ext);simp![];refine Pt E λG c gw b=>?_;simp![];exact hB h G c _ _ E eb (C.ext b) (b.at_ (J.same np nq g1)) gw
  ·simp![c0,if_false];exact hB h n v1 _ _ b rfl H g1 g1
 ·obtain⟨U,O,g,c,el,kv,gv⟩:=hW;subst el;have q1:∀Q,wp (getL n) Q v=Q ((cy h).map D.str) v:=λQ=>ka gv;simp![↓B6,↓q1,j1,et];refine⟨j2,?_⟩;refine M5 b o1 λo _=>?_;simp![];refine IT (NI b) λl _=>?_;simp![];exact hQ _
theorem wB(ns:List Int)(c:ns.length<=63):∃b,yp [.lit (ns.map D.int)] []=.ok (.bl true) b:=Ut (Yo ns c λ_=>rfl)
end
open PySem PySem.Spec PyProof.Rows L2
theorem Lb{l:pT}{q:Program}{b:List Str}{XP:(Str->Option ac)->bu->Prop}{C:bw->bu->Prop}{d:DefRec}{K:Cu->aj}(I:l.most=some 63)(v:d.params.defaults=[])(o:d.name="law")
  (Q:∀(w:bw)(h:bu),C w h->(K w.params).In h) (F:∀(w:bw)(mg:Str->Option ac)(h:bu),(K w.params).In h->h.Ns bN mg->Txt (K w.params) mg):
  rc q b XP C l.row.toRowW d [] (λf E=>rb f E):=by
 refine L2.wn (n:=63) (k:=11) (x:="_law_script") (CX:=m9) (K:=K) (sp:=λK=>mU K 1 yp) I (by decide) v ⟨rfl,by decide,by decide⟩ Q (λw mg fa h g ns c=>?_) (λK H a ns J Y U=>Ss Y U (wB ns J)) (λ_ _ _ _ z=>z);have T:=F w mg h g ns;obtain⟨a,fd,L,m⟩:=T.f33;rw[o,m]at c;cases c;refine⟨fd,λs u=>?_,λbase _ _=>yz L T⟩;obtain⟨oc,od,kV,doc,pm,an,cdv,ct,G,e,lk,O⟩:=L.ex;rw[e];exact .of_eq rfl
end My
noncomputable def PySem.W.Fast.tw7818486550918018854:PySem.Program:=PySem.Challenge.pw_pactboards_k21_texts_refused
theorem PySem.W.Fast.te7818486550918018854:PySem.Challenge.pw_pactboards_k21_texts_refused=PySem.W.Fast.tw7818486550918018854:=rfl
namespace PySem.W.Fast
def tw5667599916490248048:=True
def tw8080980966752470987:=True
def tw9491948543512595989:=True
def tw644397803398331145:=True
def tw3182939760016398228:=True
def tw11930431034707339524:=True
def tw4884335089255486649:=True
def tw17245186193177516091:=True
def tw7132514680164467029:=True
def tw11102447781837105641:=True
def tw5679743556722506674:=True
def tw9185825289959052948:=True
def tw14310958594126145610:=True
def tw234670069081050777:=True
def tw15884319501943585790:=True
def tw17462185565598357538:=True
def tw16650125989530067175:=True
def tw4236283565896177679:=True
def tw4270297945711428431:=True
def tw6670443243217881123:=True
def tw13480730645965778940:=True
def tw14111550104501620170:=True
def tw15918645603291554830:=True
def tw11993002493830968949:=True
def tw6162854646086817479:=True
def tw745555979942521317:=True
def tw117160087588516765:=True
def tw3938956418769352116:=True
def tw10141531645696151171:=True
def tw9044188610364775445:=True
def tw18343598804395761245:=True
def tw11859826531115810961:=True
def tw6309999452282453439:=True
def tw1730568656931577130:=True
def tw1534368137849760304:=True
def tw7295853708060060147:=True
def tw9150563347255307111:=True
def tw4488754843304806065:=True
def tw6919891415629209060:=True
def tw11831219788047448721:=True
def tw13998222373989584605:=True
def tw13030729761791134945:=True
def tw4487513905785108301:=True
def tw18244361752844876565:=True
def tw1056724486255494779:=True
def tw15590121840043810364:=True
def tw12098747288765076101:=True
def tw11026116465103048919:=True
def tw4665260544339628510:=True
def tw6493606462415895278:=True
def tw6033841754880291248:=True
def tw13741638438323746684:=True
def tw7098192661324587767:=True
def tw14006253623597409563:=True
def tw1239756868497611344:=True
def tw11116585378510028386:=True
def tw17979602870773205220:=True
def tw17166501512994773171:=True
def tw16041975516734659934:=True
def tw4522545259866117893:=True
def tw15169536437914578652:=True
def tw3557222293812482489:=True
def tw16715212531888430489:=True
def tw10189918005772836745:=True
def tw3156240239944436081:=True
def tw6575568335029936243:=True
def tw3516889083466343577:=True
def tw6472128239042238819:=True
def tw4624999235826378711:=True
def tw1998668061112066679:=True
def tw6944789967668132752:=True
def tw8032793545906146463:=True
def tw7328520057066765471:=True
def tw2441888386307158196:=True
def tw15429000097783823196:=True
def tw16195154733348230618:=True
def tw212434703805587080:=True
def tw7806486657731711815:=True
def tw17372060956666410393:=True
def tw12483985247858394766:=True
def tw1093333700957721893:=True
def tw3885870136528968023:=True
def tw11858438082426860475:=True
def tw5920786368233432262:=True
def tw5811222670401848805:=True
def tw3229526299381500871:=True
def tw9264857680146249632:=True
def tw5250725129529904772:=True
def tw11300875610982704266:=True
def tw11773896262168411302:=True
def tw10549083420371373465:=True
def tw8021803299695277811:=True
def tw8204223889587516627:=True
def tw16707392686387720010:=True
def tw139884072071809029:=True
def tw11379683710150871014:=True
def tw17919481842771630324:=True
def tw12311959310067420458:=True
def tw17213610477673006521:=True
def tw9994950136911816431:=True
def tw842368976073416056:=True
def tw12310086694412911965:=True
def tw4711614560486982988:=True
def tw1340320155702064817:=True
def tw12587997243771007532:=True
def tw9039073798699986689:=True
def tw7658628873225860036:=True
def tw12872856754715508352:=True
def tw2704700052232292486:=True
def tw453371524305661740:=True
def tw13773524081402396888:=True
def tw16532671943712376952:=True
def tw833484269400768944:=True
def tw693658627288529709:=True
def tw8938824193784969108:=True
def tw15747188485409188205:=True
def tw13586266841588006208:=True
def tw7924357617533002820:=True
def tw6356314707254180793:=True
def tw16869371805303495120:=True
def tw14589034581742862963:=True
def tw5056215325689695459:=True
def tw13185553769193153618:=True
def tw11399357261731359732:=True
def tw4750031822791131474:=True
def tw13323125739470926620:=True
def tw12103384869404683736:=True
def tw584349756423441913:=True
def tw4770186157818691571:=True
def tw2730714378206423673:=True
def tw16125245200495126652:=True
def tw17077376748485150834:=True
def tw14440710264571990358:=True
def tw5053932109966146862:=True
def tw2876691781915920457:=True
def tw14268617274635648981:=True
def tw6704480002453436537:=True
def tw5386915639657788455:=True
def tw605730533753611133:=True
def tw7535404447995274626:=True
def tw9943428823586725616:=True
def tw12032165714112127776:=True
def tw3452808857897787228:=True
def tw2780397470218068805:=True
def tw2898377906541272254:=True
def tw17517593317282795445:=True
def tw15049296313875397635:=True
def tw15359832198595913651:=True
def tw14949304886121691272:=True
def tw18208202883911416301:=True
def tw9562310567448528986:=True
def tw15998295521671960771:=True
def tw13627266505333698653:=True
def tw6019186962461719386:=True
def tw1662889490164535397:=True
def tw8878785142258455079:=True
def tw10226920962466231534:=True
def tw13144761139687644761:=True
def tw3980237390978946262:=True
def tw12240656408420159603:=True
def tw7566203650674506091:=True
def tw3665533910282305059:=True
def tw8613262412920943872:=True
def tw14339146332509288429:=True
def tw4300785100282590364:=True
def tw6874750967076372644:=True
def tw8861782211229633065:=True
def tw46927112511129962:=True
def tw17733725161717853893:=True
def tw274801030784633974:=True
def tw16144320597572456112:=True
def tw11769124190458605586:=True
def tw4550916961725739295:=True
def tw997628064310813034:=True
def tw2492184348032158469:=True
def tw9993009013917083232:=True
def tw18095805211898670932:=True
def tw8889899590368166683:=True
def tw3714091229145043147:=True
def tw8655869932525452967:=True
def tw14503171470010284817:=True
def tw10681423765109144446:=True
def tw14415128775105149637:=True
def tw12545915955353926732:=True
def tw11867651374806939884:=True
def tw465438978502506618:=True
def tw6844701519938917493:=True
def tw1634152687079393250:=True
def tw15710051867612755628:=True
def tw17428582847687466777:=True
def tw12816645909631141116:=True
def tw16272888788190980772:=True
def tw14152524182674056659:=True
def tw12606560393722593997:=True
def tw5664376144733690527:=True
def tw3003902523409166068:=True
def tw6040800473982552182:=True
def tw6314860209657358757:=True
def tw10726123303371429645:=True
def tw1069122933813532263:=True
def tw1647033634412030985:=True
def tw11062406440822338556:=True
def tw3009190167479321191:=True
def tw2468907441070045741:=True
def tw5864977773359425271:=True
def tw14115053544424485031:=True
def tw1545315043435865336:=True
def tw3709428789277151538:=True
def tw208734090823529288:=True
def tw8775299524251805138:=True
def tw14505268093280558129:=True
def tw10596584745607158143:=True
def tw6457365051551131144:=True
def tw13319673093416660076:=True
def tw13194193802662960678:=True
def tw11963835194878064691:=True
def tw7939017881605218786:=True
def tw11969366508035690678:=True
def tw1688657093689524023:=True
def tw10637805000883702067:=True
def tw14875191692280514434:=True
def tw7910605116981485341:=True
def tw14800982394196655148:=True
def tw10351928546800988521:=True
def tw3115870298010716635:=True
def tw14227383101395887297:=True
def tw9687158111493020004:=True
def tw15130265684037759280:=True
def tw14022712875214713112:=True
def tw13215379649137498532:=True
def tw797726187967523116:=True
def tw10361527928943499017:=True
def tw14770195220639247728:=True
def tw2809738660493248186:=True
def tw17230158857295069147:=True
def tw14525250094325836551:=True
def tw18175420064842694568:=True
def tw5286445611937231016:=True
def tw5065052685166071025:=True
def tw2064039186153232374:=True
def tw15923508235490578198:=True
def tw7898880129351041469:=True
def tw5378485096257764427:=True
def tw7206812618223170869:=True
def tw12569020594842474029:=True
def tw13176271615893108459:=True
def tw2351133770311686763:=True
def tw15309413827481781947:=True
def tw5944284495351508460:=True
def tw9769561497623195084:=True
def tw3950506253642198479:=True
def tw7987723978547611132:=True
def tw9460798488853264859:=True
def tw3964873269631063765:=True
def tw17431024068266359726:=True
def tw3876821093392542218:=True
def tw875484158382559765:=True
def tw7549172391223280649:=True
def tw3774679495689454456:=True
def tw6896229276428163300:=True
def tw13810458383453924019:=True
def tw2111527679570603470:=True
def tw496728906474125006:=True
def tw5079897492384181910:=True
def tw10553489545198264686:=True
def tw3183569205462127022:=True
def tw17502533824685280000:=True
def tw3115154590190147810:=True
def tw13947951912047651288:=True
def tw7369838613349676182:=True
def tw6052035362854347424:=True
def tw1617976715931849125:=True
def tw4927578268547572194:=True
def tw8850749269875311001:=True
def tw15242905564248632697:=True
def tw4045996386981093675:=True
def tw12655434176490833155:=True
def tw8384919490202681241:=True
def tw13049002670938800964:=True
def tw323369546965873262:=True
def tw7735316471061871965:=True
def tw3954980488154208421:=True
def tw9716995190676207873:=True
def tw7869393592368260932:=True
def tw10984208286186139444:=True
def tw18352795576525755777:=True
def tw15748122814954727764:=True
def tw15236594822618393584:=True
def tw4449668852946216462:=True
def tw4337374976674669311:=True
def tw9904784842878397458:=True
def tw17077598753707488499:=True
def tw412457048024832360:=True
def tw18057158332544359995:=True
def tw3963591992859119385:=True
def tw3841421603041386000:=True
def tw47746437698867282:=True
def tw4057095257750849608:=True
def tw5347652312991161280:=True
def tw3564293339412752611:=True
def tw7311701257337256453:=True
def tw1887659682445257434:=True
def tw17920538091521174363:=True
def tw13847317208549577213:=True
def tw16924592690813281049:=True
def tw1958502178806431571:=True
def tw7970467301599048126:=True
def tw12919970823931483960:=True
def tw6076081687486032551:=True
def tw7839371491977520774:=True
def tw8205552749119913933:=True
def tw12352927557044708261:=True
def tw17582784233814652887:=True
def tw14098383376261574013:=True
def tw11320344078293135600:=True
def tw14631988793426673855:=True
def tw10676641697565623466:=True
def tw1974573347698821550:=True
def tw4025242465726623845:=True
def tw1629147603339192732:=True
def tw7476427442911663833:=True
def tw1742055788200404288:=True
def tw8608073501831976537:=True
def tw7007729524851803503:=True
def tw4230718301538024270:=True
def tw236476708878260620:=True
def tw9695090386143265637:=True
def tw1732334447075076406:=True
def tw16894426257923053496:=True
def tw7101857464285656451:=True
def tw12514593953957324421:=True
def tw11386531253557106644:=True
def tw9906598581795481802:=True
def tw294459715184151899:=True
def tw17193895165996316231:=True
def tw8044774962338933719:=True
def tw687293827993414160:=True
def tw15866246442051169331:=True
def tw6100451734776541661:=True
def tw7349217631579355304:=True
def tw15920804864422569560:=True
def tw8879873128093903949:=True
def tw12702188886000024094:=True
def tw17111328433301170222:=True
def tw2741475248202474671:=True
end PySem.W.Fast
open PySem PySem.W PyProof.Rows
set_option maxHeartbeats 0 in
theorem PySem.Challenge.cw_pactboards_k21_texts_refused_holds : PySem.Challenge.rw_pactboards_k21_texts_refused.Holds := by
 w_on;o_law;k_head;(case hw=>w_witness2)
 k_fill
 refine My.Lb (l:=PySem.Challenge.rw_pactboards_k21_texts_refused) rfl rfl rfl (λw h Y=>PySem.W.kIn_of Y) ?F
 case F=>
  intro w mg h KX G;refine' My.Txt.mk (MM.gQ KX G ?a0 ?l0 ?c0 ?k0) (MM.gQ KX G ?a1 ?l1 ?c1 ?k1) (MM.gQ KX G ?a2 ?l2 ?c2 ?k2) (MM.gQ KX G ?a3 ?l3 ?c3 ?k3) (MM.gQ KX G ?a4 ?l4 ?c4 ?k4) (MM.gQ KX G ?a5 ?l5 ?c5 ?k5) (MM.gQ KX G ?a6 ?l6 ?c6 ?k6) (MM.gQ KX G ?a7 ?l7 ?c7 ?k7) (MM.gQ KX G ?a8 ?l8 ?c8 ?k8) (MM.gQ KX G ?a9 ?l9 ?c9 ?k9) (MM.gQ KX G ?a10 ?l10 ?c10 ?k10) (MM.gQ KX G ?a11 ?l11 ?c11 ?k11) (MM.gQ KX G ?a12 ?l12 ?c12 ?k12) (MM.gQ KX G ?a13 ?l13 ?c13 ?k13) (MM.gQ KX G ?a14 ?l14 ?c14 ?k14) (MM.gQ KX G ?a15 ?l15 ?c15 ?k15) (MM.gQ KX G ?a16 ?l16 ?c16 ?k16) (MM.gQ KX G ?a17 ?l17 ?c17 ?k17) (MM.gQ KX G ?a18 ?l18 ?c18 ?k18) (MM.gQ KX G ?a19 ?l19 ?c19 ?k19) (MM.gQ KX G ?a20 ?l20 ?c20 ?k20) (MM.gQ KX G ?a21 ?l21 ?c21 ?k21) (MM.gQ KX G ?a22 ?l22 ?c22 ?k22) (MM.gQ KX G ?a23 ?l23 ?c23 ?k23) (MM.gQ KX G ?a24 ?l24 ?c24 ?k24) (MM.gQ KX G ?a25 ?l25 ?c25 ?k25) (MM.gQ KX G ?a26 ?l26 ?c26 ?k26) (MM.gQ KX G ?a27 ?l27 ?c27 ?k27) (MM.gQ KX G ?a28 ?l28 ?c28 ?k28) (MM.gQ KX G ?a29 ?l29 ?c29 ?k29) (MM.gQ KX G ?a30 ?l30 ?c30 ?k30) (MM.gQ KX G ?a31 ?l31 ?c31 ?k31) (MM.gQ KX G ?a32 ?l32 ?c32 ?k32) (MM.gQ KX G ?a33 ?l33 ?c33 ?k33) (MM.iT (cA KX G ?z0) (MM.iT (cA KX G ?z1) (MM.iT (cA KX G ?z2) (MM.iT (cA KX G ?z3) (MM.iT (cA KX G ?z4) (MM.iT (cA KX G ?z5) (MM.iT (cA KX G ?z6) (MM.iT (cA KX G ?z7) (MM.iT (cA KX G ?z8) (MM.iT (cA KX G ?z9) (MM.iT (cA KX G ?z10) (MM.iT (cA KX G ?z11) (MM.iT (cA KX G ?z12) MM.Fv))))))))))))) (MM.DI (rB KX G ?y0) (MM.EB (rB KX G ?y1) MM.E7)) (MM.AN KX G ?xg ?xl ?xn ?xh ?xc ?pg ?pl ?pn ?ph ?xi ?xf ?xe ?xk) (MM.kr KX G ?og0 ?ol0 (MM.kr KX G ?og1 ?ol1 (MM.kr KX G ?og2 ?ol2 (MM.kr KX G ?og3 ?ol3 (MM.kr KX G ?og4 ?ol4 (MM.kr KX G ?og5 ?ol5 (MM.kr KX G ?og6 ?ol6 (MM.kr KX G ?og7 ?ol7 (MM.kr KX G ?og8 ?ol8 MM.BU))))))))) (MM.AN KX G ?xg0 ?xl0 ?xn0 ?xh0 ?xc0 ?pg0 ?pl0 ?pn0 ?ph0 ?xi0 ?xf0 ?xe0 ?xk0)
  case xg0|xl0|xn0|xc0|pg0|pl0|pn0|xi0|xf0|xe0|xk0|xg|xl|xn|xc|pg|pl|pn|xi|xf|xe|xk|og0|ol0|og1|ol1|og2|ol2|og3|ol3|og4|ol4|og5|ol5|og6|ol6|og7|ol7|og8|ol8|a0|l0|c0|k0|a1|l1|c1|k1|a2|l2|c2|k2|a3|l3|c3|k3|a4|l4|c4|k4|a5|l5|c5|k5|a6|l6|c6|k6|a7|l7|c7|k7|a8|l8|c8|k8|a9|l9|c9|k9|a10|l10|c10|k10|a11|l11|c11|k11|a12|l12|c12|k12|a13|l13|c13|k13|a14|l14|c14|k14|a15|l15|c15|k15|a16|l16|c16|k16|a17|l17|c17|k17|a18|l18|c18|k18|a19|l19|c19|k19|a20|l20|c20|k20|a21|l21|c21|k21|a22|l22|c22|k22|a23|l23|c23|k23|a24|l24|c24|k24|a25|l25|c25|k25|a26|l26|c26|k26|a27|l27|c27|k27|a28|l28|c28|k28|a29|l29|c29|k29|a30|l30|c30|k30|a31|l31|c31|k31|a32|l32|c32|k32|a33|l33|c33|k33|z0|z1|z2|z3|z4|z5|z6|z7|z8|z9|z10|z11|z12|y0|y1=>k_is
  case xh|ph=>rfl
  case xh0|ph0=>rfl