import PyProof.Rows.All
import Wide.All
import OpenK.AllK
import Wide.FinOn
import Lean
import PyProof.EqAt
import PyProof.EqKinds
import PyProof.TupleCall
import PySem.Syntax
import KE.KNestM
import KE.KLam
import PyProof.NeKinds
import PyProof.IsRules
import PyProof.Rows.StrRev
import KE.KSortTup
import PyProof.Rows.ZipGen
import PyProof.EnumIter
import KE.KRevIter
import KE.KDictList
import KE.KIntText
import PyProof.Rows.StrNews
import PyProof.Rows.StrJoin2
import PyProof.Rows.FStr
import PyProof.StrWalks
import PyProof.StrLawsTight
import KE.KSort
import PyProof.Rows.SetFrom
import KE.KDictSum
import PyProof.ExcInit
import PyProof.ExcClass3
import PyProof.ExcBaseAll.ValueError
import PyProof.ExcAttrAll.ValueError
import PyProof.ExcArgsOwn
import PySem.SetOps
import PyProof.TupleOfGen
import PyProof.MinMaxWalk
import PyProof.FactsAll.tuple_2
import KE.KMinBuiltin
import PyProof.Rows.CallKwBuiltin
import PyProof.RaisesMany
import PyProof.RulesDel
import PyProof.RulesAs
import PyProof.IsiTuple
import PyProof.WalkInts
import PySem.Challenge.RW_pactboards_k20_texts_of_no_house
local macro_rules|`(tactic| nofun)=>`(tactic| decide +kernel)
local macro_rules|`(tactic| ext)=>`(tactic| first|decide|lia|omega)
set_option compiler.extract_closed false
set_option genSizeOf false
set_option Elab.async false
set_option linter.all false
set_option maxRecDepth 100000
set_option maxHeartbeats 4000000
open And renaming intro->aw
open Array renaming find?_toList->uo,forIn_toList->nK,getElem?_eq_some_iff->fZ,getElem?_toList->lF,length_toList->mJ,toList->A1,toList_append->mU,toList_inj->o7
open Bool renaming and_eq_true->aI,and_false->mv,and_true->nN,decide_and->pW,eq_iff_iff->iQ,false_and->gf,false_eq_true->aN,false_ne_true->aW,false_or->A4,not_eq_true'->vR,not_false->kr,not_true->cD,or_eq_false_iff->mr,or_eq_true->gN,or_false->nJ,or_true->BV,true_and->gL,true_or->BQ
open Classical renaming choose->kB,choose_spec->g8,propDecidable->pX
open False renaming elim->bK
open ForInStep renaming yield->iz
open Int renaming add_le_add_right->ut,emod_lt_of_pos->dX,emod_nonneg->e9,le_antisymm->y9,le_max_left->yZ,le_max_right->xJ,le_of_lt->EQ,le_trans->o0,max_eq_left->yY,max_eq_right->pN,min_eq_left->yW,mul_one->F4,not_lt->vG,ofNat_le->ES,toNat_natCast->bE,toNat_of_nonneg->gF,zero_add->ER
open List renaming all_cons->bu,all_eq_true->cq,all_map->so,all_nil->oM,any_cons->b9,append_assoc->dL,append_nil->cg,contains_cons->cW,contains_iff_mem->lP,drop_drop->qG,drop_eq_getElem_cons->bR,drop_left->ku,drop_length->dC,drop_nil->A8,drop_zero->gi,ext_getElem?->oH,filterMap_cons->iX,find?->F9,find?_cons->cX,foldl_cons->xI,forIn_cons->cM,forIn_nil->y_,getElem?_append_left->aL,getElem?_append_right->a_,getElem?_drop->nR,getElem?_eq_getElem->au,getElem?_eq_none->dm,getElem?_eq_some_iff->am,getElem?_inj->oJ,getElem?_map->aD,getElem?_of_mem->iI,getElem?_range->gz,getElem?_replicate->gZ,getElem?_set_ne->aZ,getElem?_set_self->bj,getElem?_take_of_lt->kL,getElem?_zipWith->lO,getElem_mem->cv,getElem_toArray->iK,length->b6,length_append->aV,length_cons->cm,length_drop->cO,length_map->ae,length_nil->eX,length_range->vT,length_replicate->fR,length_set->dy,length_singleton->cf,length_take->b5,length_zipWith->eA,lookup->tM,lookup_cons->pd,lookup_cons_self->dR,map->zk,map_append->bA,map_cons->aQ,map_const'->xR,map_map->i_,map_nil->oC,mem_append->br,mem_append_left->iH,mem_append_right->cc,mem_cons->aF,mem_cons_of_mem->aT,mem_cons_self->bQ,mem_map->dJ,mem_of_getElem?->bo,mem_of_mem_take->tR,mem_or_eq_of_mem_set->gy,mem_range->fu,mem_singleton->aE,nodup_append->vK,nodup_cons->lC,nodup_nil->zj,not_mem_nil->c_,of_mem_zip->pV,range->db,range_succ->xO,range_succ_eq_map->sj,replicate->cL,set_set->BW,size_toArray->aH,take_left->ky,take_length->eJ,take_nil->A7,take_of_length_le->fF,take_succ->ib,zipIdx_cons->v_,zipIdx_nil->xM
open List.cons renaming inj->ia
open Nat renaming add_assoc->nQ,add_sub_cancel_left->lm,le_of_eq->EU,le_of_lt->td,le_of_not_lt->pO,le_refl->ax,le_succ->F7,le_trans->bC,lt_irrefl->cY,lt_of_le_of_lt->vS,lt_of_lt_of_le->bf,lt_succ_of_lt->kM,lt_succ_self->xH,lt_trichotomy->o8,min_le_right->xE,min_self->km,mul_add->F_,mul_le_mul->Bc,mul_le_mul_right->uv,ne_of_gt->gw,ne_of_lt->bY,sub_self->o9,sub_zero->EZ,succ_mul->E4,zero_le->bL
open Nat.succ renaming inj->gT
open Ne renaming symm->fB
open Option renaming getD_some->oK,isSome_iff_exists->qF,isSome_map->nP,isSome_some->tL,map_eq_some_iff->dF,map_some->iJ
open Option.some renaming inj->bw
open PyProof.Rows renaming AllBare->kJ,IntsAre->oB,IsTup->BK,args_tuple_getitem->A2,callWith_type1->d7,call_isinstance_of->Ba,entry_tuple_getitem->yX,envOfC->iB,slot_tuple_getitem->cQ,subscriptTail_builtinR->vJ
open PySem renaming Addr->af,Arguments->EO,Around->bn,BindsTo->lv,Builtin->zi,CmpOp->lV,DictEntry->oE,Expr->EV,Fin->vO,FuncData->bN,Heap->bh,HeapKind->xG,IsPair->gB,IsPart->n9,IsTupleKey->A6,IsZip->mY,Keyword->di,Model->xB,NameKind->eK,Operator->xC,Paired->ii,Params->A3,PassesOwn->oA,Scope->dD,Shared->ah,Spec->cP,Str->o_,Value->ac,Within->AZ,World->bq,assign->mK,assignEach->da,atKey->lX,attributeBase->cR,backToKw->dZ,behindInMarks->fC,binaryOp->eV,bindArgs->lW,bindC->uJ,bindL->uI,bootBuiltins->cN,builtinOwn->pS,builtinsNs->pK,cLine->dM,call->qg,callSpecial?->vL,call_meets->kS,callerA->oD,cellsFrom->dj,classOwn->tu,closureFor->A9,codeAny->mM,codeAny_builtin->F8,codeAny_call_builtin->oj,codeAny_call_builtin_code->tQ,codeAny_mono->iA,compareOp->bG,concat_meets->vF,entryOfKey->pJ,eqIsQuiet->oG,eqIsQuiet_byValue->BR,excClassObj->eP,excMatches->Bb,field->tq,foldedSetIterable->dQ,getItem->mQ,holding->mL,intItems->qk,intItems_at->xK,intKind->oz,intText?->l_,isInstance->i4,isSubtype_tuple_tuple->nL,isType->vQ,keywordEach->cz,lastMarks->uH,letOwnedTupleGo->mW,loadHead->xN,mainGlobals->bz,mem_of_lookup->dH,model->aP,noFill_tuple_add->qV,noteFrame->EW,numAt->lZ,numAt_eq->xL,pushCells->uL,pushCells_keeps->rX,putAt->rm,pyNext->vD,raiseStmt->E2,rawInt->ik,relabel->hU,seqIndex_neg->vI,seqIndex_of->xF,seqItems?->EX,seq_tuple_add->ur,setFlight->E1,setItem->qd,sizeLine_eq->rf,size_of_entries->rW,sliceBounds->og,slot_list_getitem->BO,specialOf->q_,standAt->qe,storedH->oF,swapsWith->eD,sysModules->eU,tupleKind->qU,tupleKind_room_in1->pP,typeIs_str->iZ,typeLookup->cS,unaryOp->BN,unbindBehindTheSuite->xQ,valueAt->qi,wpAny->aA,wpAny_Assign_Name->BM,wpAny_Call_Name_kw->eW,wpAny_Expr_any->tf,wpAny_Name->A0,wpAny_Try_except->E3,wpAny_assign_Name->BL,wpAny_attempt->lH,wpAny_bind->aa,wpAny_call->im,wpAny_callSpecial?_slot->cE,wpAny_call_entry->dG,wpAny_eqBool_int->EM,wpAny_execs_cons->iY,wpAny_execs_nil->eG,wpAny_field->cA,wpAny_forIn_list->lY,wpAny_getItem_heap->A5,wpAny_holding->b_,wpAny_isInstance->gM,wpAny_isSubtype_exc->kD,wpAny_letGo->rp,wpAny_load->pL,wpAny_loadPart->gE,wpAny_loadPart'->g_,wpAny_loadPart_at->iD,wpAny_mkText->vP,wpAny_mono->bS,wpAny_newObj_type->eE,wpAny_onRaise->lG,wpAny_passesOwn->fY,wpAny_pure->ai,wpAny_pyHash_int->EL,wpAny_pyIter_enum->BU,wpAny_pyIter_list->qj,wpAny_pyIter_tuple->io,wpAny_pyIter_zip->EY,wpAny_ret_mkInt->F6,wpAny_rule->eI,wpAny_seqItems->d_,wpAny_sequenceKey->qf,wpAny_setField->kT,wpAny_setField_rec->fU,wpAny_specialOf->mX,wpAny_standAt->i8,wpAny_truthy_bool->du,wpAny_tupleItemsOf->pQ,wpAny_typeOf->vH,wpAny_typeOf_ref->gO,wpAny_updateSeq_pair->oi
open PySem.Around renaming under->rg
open PySem.Builtin.ObjectAttr renaming find->mR,refuseIfOverridden->kl
open PySem.Builtin.Slice renaming sliceAdjust->iC,sliceApplied->nI,slicePlaces->fL
open PySem.Builtin.SmallTypes renaming nextOf->bJ,ownedTupleHandOut->kt,ownedTupleIsFree->dU
open PySem.Builtin.Str renaming glued->cG,occurrences->ki,strKind->ll,strSub->kU
open PySem.Builtin.Tuple renaming tupleExact->fT,tupleHashOf->cU,tupleItemsOf->iy
open PySem.Calls renaming Name_function_global->qc,evalArgs_plain->tm
open PySem.Challenge renaming pw_pactboards_k20_texts_of_no_house->ic
open PySem.Code renaming frames->EN,isFrame->si,quiet_builtin->nS
open PySem.EntryCells renaming newEntry->ra
open PySem.F renaming args_str_split_2->o6,args_tuple_add_2->kz,args_tuple_iterator_next_1->qX,args_zip_next_1->zc,entry_str_split->pR,entry_tuple_add->kK,entry_tuple_iterator_next->rA,entry_zip_next->A_,excBase_ValueError->nM,plainAttrs_str->fD,slot_dict_len->BS,slot_dict_setitem->v9,slot_enumerate_next->uM,slot_str_split->ql,slot_tuple_add->kR,slot_tuple_eq->mo,slot_tuple_hash->kZ,slot_tuple_iterator_next->gx,slot_zip_next->mq,typeOf_object_class->mS
open PySem.Heap renaming ExtBut->tN,SameBut->eB,get?_push_of_some->aq,get?_push_size->aK,get?_update_other->dI,get?_update_self->ce,lt_size->aJ,size_push->dq
open PySem.Heap.SameBut renaming update->dB
open PySem.NameKind renaming cell->gq,free->bM
open PySem.Obj renaming data_mapDict->lj,data_mapDictKeys->iN,data_mapFields->vN,isFreed_of_dict->i9,mapFields->gQ,mapSeq->n_
open PySem.Paired renaming length->e8,snoc->lM
open PySem.PassesOwn renaming never->kN
open PySem.ScopeKind renaming function->rY
open PySem.SeqAt renaming EqAt->ET
open PySem.SeqAt.EqAt renaming int_str->rb,str_int->rc
open PySem.Shared renaming heap->su
open PySem.Str renaming append_assoc->fq,cps_append->kA,empty->xD,ext'->uu,join->iO,length->qW,length_append->bx,length_append->wa,ofString->ag
open PySem.StrLaws renaming glued_eq_join->cJ,join_length_le->g9
open PySem.Txt renaming join->bV,join->qZ,partition->f_,partition->nU,rpartition->fP,rpartition->mT,split->fS,split->gr,startswith->fQ,startswith->qY
open PySem.Value renaming bool->dS,builtin->fM,float->BJ,int->gR,isInt->pc,isStrOf->yV,none->bO,ref->av,str->gS,type->ff
open PySem.Value.type renaming inj->tP
open PySem.W renaming Frag->aj,OpenLaw->oZ,WalkO->qh,callWith_K->mO,cellsFrom_some->kQ,codeHdIn->oh,codeIn->lE,findIn->vE,fnOf->d9,instObj->oY,keepIn->fm,kia_one->cH,kitOne->fk,kitx_dict->tK,kitx_list->nG,kitx_tuple->tj,kla_obj->uK,lookIn->pM,methodObj->nF,mg_none_of->bW,mg_of->qo,nsIn->g6,plainGet->uq
open PySem.W.WData renaming int->F5
open PySem.W.WShape renaming has->BP
open Sum renaming inl->kh,inr->oX
open True renaming intro->eN
noncomputable section
noncomputable def aG:=@if_pos
noncomputable def az:=@if_neg
noncomputable def aO:=@decide_eq_false
noncomputable def aM:=@decide_eq_true
noncomputable def bp:=@absurd
noncomputable def bH:=@congrArg
namespace L2
open PySem PySem.Spec PyProof.Rows
noncomputable abbrev Key:=Sum Int Str
def qA:Key->ac->Bool
 | .inl k,v=>pc k v
 | .inr x,v=>yV x v
def HZ(w:bq):Key->Int
 | .inl k=>hashInt k
 | .inr x=>hashStr w x
theorem eS:∀{k:Key}{v:ac},qA k v=true->(∃i t,k=kh i/\v=gR i t)\/(∃x t,k=oX x/\v=gS x t)
 | .inl i,v,h=>by obtain⟨t,e⟩:=ac.isInt_shape (k:=i) (v:=v) h;exact .inl ⟨i,t,rfl,e⟩
 | .inr x,v,h=>by obtain⟨t,e⟩:=ac.isStrOf_shape (x:=x) (v:=v) h;exact .inr ⟨x,t,rfl,e⟩
theorem PQ(i:Int)(t:Tok):qA (.inl i) (.int i t)=true:=by simp[qA,pc]
theorem Xt(x:Str)(t:Tok):qA (.inr x) (.str x t)=true:=by simp[qA,yV]
theorem XE(a b:Int):decide ((kh a:Key)=kh b)=(a == b):=by
 by_cases e:a=b
 ·subst e;simp
 ·have h:¬ (kh a:Key)=kh b:=λq=>e (kh.inj q);rw[aO h];exact (beq_eq_false_iff_ne.mpr e).symm
theorem VM(a b:Str):decide ((oX a:Key)=oX b)=decide (a=b):=by
 by_cases e:a=b
 ·subst e;simp
 ·have h:¬ (oX a:Key)=oX b:=λq=>e (oX.inj q);rw[aO h,aO e]
theorem Sy(a:Int)(b:Str):decide ((kh a:Key)=oX b)=false:=aO (λq=>(by cases q))
theorem WP(a:Str)(b:Int):decide ((oX a:Key)=kh b)=false:=aO (λq=>(by cases q))
def fH(prog:Program)(w:bq):PySem.KeyKind prog w Key where
 is:=qA
 hash:=HZ w
 inj:=λv a b o g=>by
  rcases eS o with ⟨i,t,rfl,rfl⟩|⟨x,t,rfl,rfl⟩
  ·rcases eS g with ⟨j,u,rfl,e⟩|⟨y,u,rfl,e⟩
   ·injection e with e1 _;rw[e1]
   ·cases e
  ·rcases eS g with ⟨j,u,rfl,e⟩|⟨y,u,rfl,e⟩
   ·cases e
   ·injection e with e1 _;rw[e1]
 byValue:=λk v h=>by rcases eS h with ⟨i,t,rfl,rfl⟩|⟨x,t,rfl,rfl⟩<;>rfl
 pyHash:=λc h=>by
  rcases eS c with ⟨i,t,rfl,rfl⟩|⟨x,t,rfl,rfl⟩
  ·exact EL h
  ·exact wpAny_pyHash_str h
 eqBool:=λhu c h=>by
  rcases eS hu with ⟨i,t,rfl,rfl⟩|⟨x,t,rfl,rfl⟩
  ·rcases eS c with ⟨j,u,rfl,rfl⟩|⟨y,u,rfl,rfl⟩
   ·rw[XE]at h;exact EM h
   ·rw[Sy]at h;exact rb i t y u _ _ _ _ h
  ·rcases eS c with ⟨j,u,rfl,rfl⟩|⟨y,u,rfl,rfl⟩
   ·rw[WP]at h;exact rc x t j u _ _ _ _ h
   ·rw[VM]at h;exact wpAny_eqBool_str h
 «strs»:=λk x t v h=>by
  rcases eS h with ⟨i,u,rfl,e⟩|⟨y,u,rfl,e⟩
  ·cases e
  ·injection e with e1 _
   subst e1;cases v<;>rfl
theorem Qf(prog:Program)(w:bq)(i:Int)(t:Tok):(fH prog w).is (.inl i) (.int i t)=true:=PQ i t
theorem OQ(prog:Program)(w:bq)(x:Str)(t:Tok):(fH prog w).is (.inr x) (.str x t)=true:=Xt x t
inductive V where
 |non|bl (b:Bool)|int (i:Int)|str (x:Str)|byt (b:Array UInt8)|flt (b:UInt64)|ref (a:af)|ty (n:String)
 deriving DecidableEq
noncomputable def RelV:V->ac->Prop
 | .non,u=>u=bO
 | .bl b,u=>u=dS b
 | .int i,u=>∃t,u=gR i t
 | .str x,u=>∃t,u=gS x t
 | .byt b,u=>∃t,u=ac.bytes b t
 | .flt b,u=>∃t,u=BJ b t
 | .ref a,u=>u=av a
 | .ty n,u=>u=ff n
abbrev cB:List V->List ac->Prop:=ii RelV
theorem cB.length{xs:List V}{c:List ac}(r:cB xs c):xs.length=c.length:=e8 r
theorem cB.get{xs:List V}{c:List ac}{i:Nat}{x:V}(h:cB xs c)(e:xs[i]?=some x):∃u,c[i]?=some u/\RelV x u:=by
 induction h generalizing i with
 |nil=>cases e
 |cons r t ih=>cases i with
  |zero=>cases e;exact⟨_,rfl,r⟩
  |succ i=>exact ih e
theorem cB.set{x:V}{u:ac}(r:RelV x u){xs:List V}{c:List ac}(i:Nat)(h:cB xs c):cB (xs.set i x) (c.set i u):=by
 induction h generalizing i with
 |nil=>exact .nil
 |cons q t ih=>cases i with
  |zero=>exact .cons r t
  |succ i=>exact .cons q (ih i)
theorem cB.append{xs ys:List V}{g c:List ac}(h:cB xs g)(q:cB ys c):cB (xs++ys) (g++c):=by
 induction h with
 |nil=>exact q
 |cons r t ih=>exact .cons r ih
theorem cB.take:∀{xs:List V}{c:List ac}(n:Nat),cB xs c->cB (xs.take n) (c.take n)
 |_,_,0,_=>.nil
 |_,_,_+1,.nil=>.nil
 |_,_,n+1,.cons r t=>.cons r (cB.take n t)
theorem cB.drop:∀{xs:List V}{c:List ac}(n:Nat),cB xs c->cB (xs.drop n) (c.drop n)
 |_,_,0,r=>r
 |_,_,_+1,.nil=>.nil
 |_,_,n+1,.cons _ t=>cB.drop n t
def nh:Option V->Option ac->Prop
 |some v,some u=>RelV v u
 |none,none=>True
 |_,_=>False
def KV{κ:Type}:List (κ×V)->List (κ×ac)->Prop:=ii λ(p:κ×V)(q:κ×ac)=>p.1=q.1/\RelV p.2 q.2
def kV:Key->V
 | .inl i=>.int i
 | .inr x=>.str x
inductive HO where
 |lst (xs:List V)
 |tup (xs:List V)
 |dK (bb:List (Key×V))|dT (bb:List (List Key×V))
 |set (S:Int->Bool) (n:Nat)
 |ins (C dx:af) (fs:List (Str×V))
 |own (x:af)
 |xd (fs:List (Str×V))
 |met (f x:af)
 |rng (lo hi:Int)
 |frz (o:Obj) (u:HO)
 |tbl (ps:Array ac)
 |ext (φ:bh->Prop)
noncomputable abbrev Hp:=af->Option HO
noncomputable def eO(H:Hp)(a:af)(o:HO):Hp:=λb=>if b=a then some o else H b
theorem i5{H:Hp}{a:af}{o:HO}:eO H a o a=some o:=by unfold eO;rw[aG rfl]
theorem gm{H:Hp}{a b:af}{o:HO}(h:b≠a):eO H a o b=H b:=by unfold eO;rw[az h]
theorem V2{H:Hp}{a b:af}{o u:HO}(h:H a=some o)(h':H b=some u)(d:o≠u):a≠b:=by intro e;subst e;rw[h]at h';exact d (bw h')
theorem pi{H:Hp}{a b:af}{o:HO}(h:H a=some o)(h':H b=none):a≠b:=by intro e;subst e;rw[h]at h';cases h'
noncomputable def gn(h:bh)(a:af)(its:Array ac):Prop:=∃o,h.get? a=some o/\o.cls=.type "tuple"/\(∃n,o.data=.seq its n)/\o.dict=none
theorem gn.is{h:bh}{a:af}{its:Array ac}(p:gn h a its):BK h a its:=by obtain ⟨o,e,c,d,_⟩:=p;exact ⟨o,e,c,d⟩
theorem gn.lt{h:bh}{a:af}{its:Array ac}(p:gn h a its):a < h.objs.size:=p.is.lt
theorem gn.new(h:bh)(its:Array ac):gn (h.push { cls:=.type "tuple",data:=.seq its }) h.objs.size its:=⟨_,aK _ rfl,rfl,⟨_,rfl⟩,rfl⟩
section
variable(P:Program)(w:bq)
def dE(H:Hp)(h:bh)(a:af):HO->Prop
 | .lst xs=>xs.length<=sizeLine/\∃(its:List ac)(n:Nat),cB xs its/\h.get? a=some { cls:=.type "list",data:=.seq its.toArray n }
 | .tup xs=>xs.length<=sizeLine/\∃its:List ac,cB xs its/\gn h a its.toArray
 | .dK bb=>bb.length<=sizeLine/\(a == eU)=false/\∃g,KV bb g/\h.DictOf (fH P w) a g
 | .dT bb => bb.length <= sizeLine /\ (a == eU) = false /\ ∃xs : List (List Key×af×ac),
   ii (λ(p:List Key×V)(q:List Key×af×ac)=>p.1=q.1/\H q.2.1=some (.tup (p.1.map kV))/\RelV p.2 q.2.2) bb xs /\
   ∃o es I,h.get? a=some o/\o.ExactDict/\o.data=.dict es I/\es.toList=xs.map (pJ (qU (fH P w)))/\(xs.map (·.1)).Nodup
 | .set S n=>h.SetOf (oz P w) a S n
 | .ins C dx fs => H dx = some (.own a) /\ fs.length <= 1000 /\ dx ≠ a /\ h.get? a = some (oY C dx) /\
   ∃c,h.Ns1 dx c/\(∀f,nh (fs.lookup f) (c f))/\AZ c (fs.map (·.1))
 | .own _=>∃o,h.get? a=some o
 | .xd fs=>∃c,h.Ns1 a c/\∀f,nh (fs.lookup f) (c f)
 | .rng lo hi=>∃t u v,h.get? a=some { cls:=.type "range",data:=.fields #[.int lo t,.int hi u,.int 1 v] }
 | .frz o u=>h.get? a=some o/\dE H h a u
 | .tbl ps=>h.get? a=some { cls:=.none,data:=.fields ps }
 | .met f x=>h.get? a=some (nF (.ref f) (.ref x))
 | .ext φ=>φ h/\(∃o,h.get? a=some o)/\∀G E:bh,φ G->(∀o,G.get? a=some o->E.get? a=some o)->φ E
def lL(H:Hp)(h:bh):Prop:=∀a o,H a=some o->dE P w H h a o
end
section
variable{P:Program}{w:bq}{H H':Hp}{h h':bh}{a:af}{o:HO}
theorem dE.lt(x:dE P w H h a o):a < h.objs.size:=by
 cases o with
 |lst xs=>obtain⟨_,_,_,_,e⟩:=x;exact aJ e
 |tup xs=>obtain⟨_,_,_,p⟩:=x;exact p.lt
 |dK bb=>obtain⟨_,_,_,_,o,_,_,e,_⟩:=x;exact aJ e
 |dT bb=>obtain⟨_,_,_,_,o,_,_,e,_⟩:=x;exact aJ e
 |set S n=>obtain⟨o,_,_,_,e,_⟩:=x;exact aJ e
 |ins C dx fs=>obtain⟨_,_,_,e,_⟩:=x;exact aJ e
 |own y=>obtain⟨_,e⟩:=x;exact aJ e
 |xd fs=>obtain⟨_,⟨_,_,_,e,_⟩,_⟩:=x;exact aJ e
 |rng lo hi=>obtain⟨_,_,_,e⟩:=x;exact aJ e
 |frz ob u=>obtain⟨e,_⟩:=x;exact aJ e
 |tbl ps=>exact aJ (show h.get? a=some _ from x)
 |met f y=>exact aJ (show h.get? a=some _ from x)
 |ext φ=>obtain⟨_,⟨_,e⟩,_⟩:=x;exact aJ e
theorem ii.mapP{α β:Type}{F G:α->β->Prop}{l₁:List α}{l₂:List β}(h:ii F l₁ l₂)(f:∀a b,F a b->G a b):ii G l₁ l₂:=by
 induction h with
 |nil=>exact .nil
 |cons r t ih=>exact .cons (f _ _ r) ih
theorem dE.stay(x:dE P w H h a o)(k:∀b u,(b=a\/H b=some (.own a))->h.get? b=some u->h'.get? b=some u)
  (L:∀b,H b=some (.own a)->H' b=some (.own a)) (J:∀b xs,H b=some (.tup xs)->H' b=some (.tup xs)):dE P w H' h' a o:=by
 induction o with
 |lst xs=>obtain⟨z,its,n,r,e⟩:=x;exact⟨z,its,n,r,k _ _ (.inl rfl) e⟩
 |tup xs=>obtain⟨z,its,r,ob,e,c⟩:=x;exact⟨z,its,r,ob,k _ _ (.inl rfl) e,c⟩
 |dK bb=>obtain⟨z,y,I,r,ob,es,g,e,c⟩:=x;exact⟨z,y,I,r,ob,es,g,k _ _ (.inl rfl) e,c⟩
 |dT bb=>
  obtain⟨z,y,xs,r,ob,es,g,e,c⟩:=x;exact⟨z,y,xs,ii.mapP r λp q z=>⟨z.1,J _ _ z.2.1,z.2.2⟩,ob,es,g,k _ _ (.inl rfl) e,c⟩
 |set S n=>obtain⟨ob,es,g,t,e,c⟩:=x;exact⟨ob,es,g,t,k _ _ (.inl rfl) e,c⟩
 |ins C dx fs=>
  obtain⟨d,z,ne,e,G,⟨E,es,g,O,c⟩,r⟩:=x;exact⟨L _ d,z,ne,k _ _ (.inl rfl) e,G,⟨E,es,g,k _ _ (.inr d) O,c⟩,r⟩
 |own y=>obtain⟨ob,e⟩:=x;exact⟨ob,k _ _ (.inl rfl) e⟩
 |xd fs=>obtain⟨G,⟨E,es,g,e,c⟩,r⟩:=x;exact⟨G,⟨E,es,g,k _ _ (.inl rfl) e,c⟩,r⟩
 |rng lo hi=>obtain⟨t,u,v,e⟩:=x;exact⟨t,u,v,k _ _ (.inl rfl) e⟩
 |frz ob u ih=>obtain⟨e,q⟩:=x;exact⟨k _ _ (.inl rfl) e,ih q⟩
 |tbl ps=>
  have e:h.get? a=some { cls:=.none,data:=.fields ps }:=x
  show h'.get? a=some { cls:=.none,data:=.fields ps };exact k a _ (.inl rfl) e
 |met f y=>
  have e:h.get? a=some (nF (.ref f) (.ref y)):=x
  show h'.get? a=some (nF (.ref f) (.ref y));exact k a _ (.inl rfl) e
 |ext φ=>obtain⟨p,⟨o,e⟩,st⟩:=x;exact⟨st _ _ p λo q=>k _ _ (.inl rfl) q,⟨o,k _ _ (.inl rfl) e⟩,st⟩
theorem lL.lt(x:lL P w H h)(e:H a=some o):a < h.objs.size:=(x a o e).lt
theorem lL.fresh(x:lL P w H h)(e:h.objs.size<=a):H a=none:=by
 cases q:H a with
 |none=>rfl
 |some u=>exact bp (bf (x.lt q) e) (cY _)
theorem lL.kept(x:lL P w H h)(k:∀b u,h.get? b=some u->h'.get? b=some u):lL P w H h':=λa o e=>
 (x a o e).stay (λb u _ q=>k b u q) (λ_ q=>q) λ_ _ q=>q
theorem lL.laid(x:lL P w H h)(k:∀b u,h.get? b=some u->h'.get? b=some u)(E:h.objs.size<=a)(new:dE P w (eO H a o) h' a o):lL P w (eO H a o) h':=λb u e=>by
 have g:=x.fresh E;by_cases C:b=a
 ·subst C;rw[i5]at e;cases e;exact new
 ·rw[gm C]at e;exact (x b u e).stay (λc v _ q=>k c v q) (λc q=>by rw[gm (pi q g)];exact q) λc xs q=>by rw[gm (pi q g)];exact q
end
noncomputable def Rd(H:Hp)(a:af)(u:HO):Prop:=H a=some u\/∃o,H a=some (.frz o u)
theorem Rd.ok{P:Program}{w:bq}{H:Hp}{h:bh}{a:af}{u:HO}(r:Rd H a u)(x:lL P w H h):dE P w H h a u:=by
 rcases r with r|⟨o,r⟩
 ·exact x a u r
 ·obtain⟨_,q⟩:=x a _ r;exact q
noncomputable def D8:Option HO->Prop
 |some (.lst _)=>True
 |some (.dK _)=>True
 |some (.dT _)=>True
 |some (.set _ _)=>True
 |some (.ins _ _ _)=>True
 |some (.ext _)=>True
 |_=>False
section
variable{P:Program}{w:bq}{H:Hp}{h h':bh}{x e:af}{o':HO}
theorem lL.write(ok:lL P w H h)(E:D8 (H x))(O:e=x\/H e=some (.own x))(k:∀b u,b≠e->h.get? b=some u->h'.get? b=some u)(J:∃u,h'.get? e=some u)
  (new:dE P w (eO H x o') h' x o'):lL P w (eO H x o') h':=λb u q=>by
 have o:∀c y,H c=some (.own y)->c≠x:=λc y r z=>by subst z;rw[r]at E;exact E
 have C:∀c xs,H c=some (.tup xs)->c≠x:=λc xs r z=>by subst z;rw[r]at E;exact E
 by_cases I:b=x
 ·subst I;rw[i5]at q;cases q;exact new
 ·rw[gm I]at q;by_cases g:b=e
  ·have L : H b = some (.own x) := by
     rcases O with z|z
     ·exact bp (g.trans z) I
     ·rw[g];exact z
   rw[q]at L;cases L;obtain⟨v,Q⟩:=J;exact⟨v,by rw[g];exact Q⟩
  ·refine (ok b u q).stay (λc v G r=>k c v ?_ r) (λc r=>by rw[gm (o c b r)];exact r) λc xs r=>by rw[gm (C c xs r)];exact r
   rcases G with rfl|G
   ·exact g
   ·rintro rfl
    rcases O with z|z
    ·exact o c b G z
    ·rw[G]at z;cases z;exact I rfl
end
structure Un(fs ex:List af)(H H':Hp)(h h':bh):Prop where
 keep:∀b o,h.get? b=some o->H b=none->b∉fs->b∉ex->h'.get? b=some o
 slot:∀b o,h.get? b=some o->H b=none->b∈fs->b∉ex->∃sl,h'.get? b=some { o with slots:=sl }
 free:∀b o,h.get? b=some o->H b=none->b∉ex->H' b=none
 there:∀b o,h.get? b=some o->b∉ex->∃o',h'.get? b=some o'
 tups:∀b xs,H b=some (.tup xs)->H' b=some (.tup xs)
 frzs:∀b o u,H b=some (.frz o u)->H' b=some (.frz o u)
 tbls:∀b ps,H b=some (.tbl ps)->∃more,H' b=some (.tbl (ps++more))
section
variable{fs h7 ex h9:List af}{H H1 H2:Hp}{h h1 h2 h':bh}{a x e:af}{o:HO}
theorem Un.any(u:Un fs ex H H1 h h1){b:af}{ob:Obj}(q:h.get? b=some ob)(n:H b=none)(c:b∉ex):∃v,h1.get? b=some { ob with slots:=v }:=by
 by_cases g:b∈fs
 ·exact u.slot b ob q n g c
 ·exact⟨ob.slots,u.keep b ob q n g c⟩
theorem Un.kept(k:∀b u,h.get? b=some u->h'.get? b=some u):Un fs ex H H h h':=
 ⟨λb ob q _ _ _=>k b ob q,λb ob q _ _ _=>⟨ob.slots,k b ob q⟩,λ_ _ _ n _=>n,λb ob q _=>⟨ob,k b ob q⟩,λ_ _ q=>q,λ_ _ _ q=>q,λ_ ps q=>⟨#[],by rw[q];simp⟩⟩
theorem Un.refl:Un fs ex H H h h:=Un.kept λ_ _ q=>q
theorem Un.laid(k:∀b u,h.get? b=some u->h'.get? b=some u)(g:h.objs.size<=a)(c:H a=none):Un fs ex H (eO H a o) h h' where
 keep:=λb u q _ _ _=>k b u q
 slot:=λb u q _ _ _=>⟨u.slots,k b u q⟩
 free:=λb u q n _=>by rw[gm (bY (bf (aJ q) g))];exact n
 there:=λb u q _=>⟨u,k b u q⟩
 tups:=λb xs q=>by rw[gm (pi q c)];exact q
 frzs:=λb u xs q=>by rw[gm (pi q c)];exact q
 tbls:=λb ps q=>⟨#[],by rw[gm (pi q c),q];simp⟩
theorem Un.write(g:D8 (H x))(J:e=x\/H e=some (.own x))(k:∀b u,b≠e->h.get? b=some u->h'.get? b=some u)(C:∃u,h'.get? e=some u):Un fs ex H (eO H x o) h h':=by
 have E:∀b,H b=none->b≠x:=λb n z=>by subst z;rw[n]at g;exact g
 have G:∀b,H b=none->b≠e:=λb n z=>by
  subst z;rcases J with r|r
  ·exact E b n r
  ·rw[n]at r;cases r
 have v:∀b u,H b=some u->¬ D8 (some u)->b≠x:=λb u q I z=>by subst z;rw[q]at g;exact I g
 refine⟨λb u q n _ _=>k b u (G b n) q,λb u q n _ _=>⟨u.slots,k b u (G b n) q⟩,λb u q n _=>by rw[gm (E b n)];exact n,λb u q _=>?_,
  λb xs q=>by rw[gm (v b _ q λz=>z)];exact q,λb u xs q=>by rw[gm (v b _ q λz=>z)];exact q,λb ps q=>⟨#[],by rw[gm (v b _ q λz=>z),q];simp⟩⟩
 by_cases c:b=e
 ·subst c;exact C
 ·exact⟨u,k b u c q⟩
end
noncomputable def trk(h:bh)(H:Hp):List af:=(db h.objs.size).filter λa=>(H a).isSome
def qT(h:bh)(H:Hp):bh:=PySem.W.hideAll h (trk h H)
theorem SM(h:bh)(H:Hp):(qT h H).objs.size=h.objs.size:=PySem.W.hideAll_size _ _
theorem Rc{h:bh}{H:Hp}{b:af}{o:Obj}(e:h.get? b=some o)(n:H b=none):(qT h H).get? b=some o:=
 PySem.W.hideAll_get _ e λc=>by have q:(H b).isSome=true:=(List.mem_filter.mp c).2;rw[n]at q;simp at q
theorem WX{h:bh}{H:Hp}{b:af}{o:Obj}(e:(qT h H).get? b=some o):h.get? b=some o/\H b=none:=by
 have c:h.get? b=some o:=PySem.W.of_hideAll (trk h H) e;refine⟨c,?_⟩;cases q:H b with
 |none=>rfl
 |some x=>
  have g:b∈trk h H:=List.mem_filter.mpr ⟨fu.mpr (aJ c),by simp[q]⟩;have z:(qT h H).get? b=none:=PySem.W.hideAll_none (trk h H) g;rw[z]at e;cases e
noncomputable def wZ(g h:bh)(L:af):List (af×Obj):=(db h.objs.size).filterMap λa=>if a=L\/(g.get? a).isSome=true then none else (h.get? a).map λo=>(a,o)
def dA(g h:bh)(L d:af):List (af×Obj):=(wZ g h L).filter λp=>decide (p.1≠d)
structure Mod(K:aj)(mg:Str->Option ac)(base:bh):Prop where
 kin:K.In base
 glob:base.Ns bz mg
 blt:∃mb,base.Ns pK mb/\∀x:Str,x≠"__name__"->mb x=cN x
 nolimit:base.NoLimit
structure Cx where
 prog:Program
 w:bq
 K:aj
 mg:Str->Option ac
 base:bh
 A:bn
 N:List Str
 s₀:ah
 H₀:Hp
 env:Env
 outer:List Env
 stack:List Env
 ex:List af
 fn:Str->Bool
 calm:Bool
 pn:List (af×Obj)
 xe:ac->ah->Prop
noncomputable def sX(l:List Env):List af:=l.filterMap (·.frame)
abbrev Cx.fs(X:Cx):List af:=sX X.outer
noncomputable def zy(sc:dD)(x:Str):Prop:=sc.names.lookup x=some .local\/sc.names.lookup x=some .cell\/sc.names.lookup x=some .free
noncomputable def Loc(sc:dD)(x:Str):Prop:=sc.names.lookup x=some .local\/sc.names.lookup x=some .cell
noncomputable def Look(env:Env)(h:bh)(m:Str->Option ac)(x:Str)(u:ac):Prop:=
 (env.kindOf x=some .local/\m x=some u)\/((env.kindOf x=some .cell\/env.kindOf x=some .free)/\∃c,env.cells.lookup x=some c/\h.IsCell c (some u))
structure Cx.Ok(X:Cx):Prop where
 mod:Mod X.K X.mg X.base
 kind:X.env.scope.kind=.function
 glob:X.env.globals=bz
 blt:X.env.builtins=pK
 above:X.s₀.heap.objs.size<=X.env.locals
 inj:∀x y c,X.env.cells.lookup x=some c->X.env.cells.lookup y=some c->x=y
 has:∀x,(X.env.kindOf x=some .cell\/X.env.kindOf x=some .free)->∃c,X.env.cells.lookup x=some c
 cab:∀x c,X.fn x=true->X.env.cells.lookup x=some c->X.s₀.heap.objs.size<=c
 hd:X.calm=true->X.A.handled=none
 frames:X.A.frames=some X.stack
 stk:X.stack=X.outer\/(X.stack=X.env::X.outer/\X.env.frame=some X.env.locals)
 exf:∀b∈X.ex,b≠X.env.locals/\∀x c,X.env.cells.lookup x=some c->c≠b
 bs:∀b o,X.base.get? b=some o->X.s₀.heap.get? b=some o/\X.H₀ b=none
 bsz:X.base.objs.size<=X.s₀.heap.objs.size
 noex:∀b o,X.base.get? b=some o->b∉X.ex
 exfs:∀b∈X.ex,b∉X.fs
 funs:X.s₀.heap.FunFrames X.base X.outer
 frf:∀b∈X.fs,X.H₀ b=none
structure Inv(X:Cx)(ao:List (af×Obj))(σ:List (Option V))(H:Hp)(s:ah):Prop where
 ok:X.Ok
 os:s.os=X.s₀.os
 bare:kJ s.gens
 base:Un X.fs X.ex X.H₀ H X.s₀.heap s.heap
 loc:∃m,s.heap.Ns X.env.locals m/\∀(i:Nat)(x:Str)(v:V),X.N[i]?=some x->σ[i]?=some (some v)->zy X.env.scope x->∃u,RelV v u/\Look X.env s.heap m x u
 cell:∀x c,X.env.cells.lookup x=some c->∃v,s.heap.IsCell c v
 free:H X.env.locals=none
 freeC:∀x c,X.env.cells.lookup x=some c->H c=none
 pin:∀p∈X.pn++ao,s.heap.get? p.1=some p.2/\H p.1=none/\p.1≠X.env.locals/\p.1∉X.fs/\∀v,p.2.data≠.cell v
 hok:lL X.prog X.w H s.heap
 len:σ.length=X.N.length
section
variable{X:Cx}{ao:List (af×Obj)}{σ:List (Option V)}{H H':Hp}{s:ah}{h':bh}
theorem Cx.Ok.nofr(ok:X.Ok){b:af}{o:Obj}(e:X.base.get? b=some o):b∉X.fs:=λc=>by have:=(ok.funs.mem c).1;rw[e]at this;cases this
theorem Inv.bs(I:Inv X ao σ H s):∀b o,X.base.get? b=some o->s.heap.get? b=some o/\H b=none:=λb o e=>
 ⟨I.base.keep b o (I.ok.bs b o e).1 (I.ok.bs b o e).2 (I.ok.nofr e) (I.ok.noex b o e),I.base.free b o (I.ok.bs b o e).1 (I.ok.bs b o e).2 (I.ok.noex b o e)⟩
theorem Inv.bk(I:Inv X ao σ H s):∀b o,X.base.get? b=some o->s.heap.get? b=some o:=λb o e=>(I.bs b o e).1
theorem Inv.mod(I:Inv X ao σ H s):Mod X.K X.mg X.base:=I.ok.mod
theorem Inv.kIn(I:Inv X ao σ H s):X.K.In s.heap:=I.ok.mod.kin.keeps I.bk
theorem Inv.lt(I:Inv X ao σ H s):X.env.locals < s.heap.objs.size:=by obtain ⟨_,c,_⟩:=I.loc;exact c.lt
theorem Inv.sz(I:Inv X ao σ H s):X.s₀.heap.objs.size<=s.heap.objs.size:=bC I.ok.above (td I.lt)
theorem Inv.nofs(I:Inv X ao σ H s){a:af}(h:s.heap.objs.size<=a):a∉X.fs:=λg=>by obtain⟨_,o,c,_⟩:=I.ok.funs.mem g;exact bp (bf (aJ c) (bC I.sz h)) (cY _)
theorem Inv.cne(I:Inv X ao σ H s):∀x c,X.env.cells.lookup x=some c->c≠X.env.locals:=λx c e z=>by obtain⟨v,o,q,hd⟩:=I.cell x c e;obtain⟨m,⟨o',es,u,g,h,_⟩,_⟩:=I.loc;rw[z,g]at q;cases q;rw[h]at hd;cases hd
theorem Inv.funs(I:Inv X ao σ H s):s.heap.FunFrames X.base X.outer:=by
 have all:∀(l:List Env),(∀b∈sX l,b∈X.fs)->X.s₀.heap.FunFrames X.base l->s.heap.FunFrames X.base l:=by
  intro l
  induction l with
  |nil=>intro _ _;trivial
  |cons env r ih=>
   intro q E;obtain⟨G,⟨L,o,c,C,v,hd⟩,u⟩:=E;have h:L∈X.fs:=q L (by unfold sX;rw[iX,c];exact bQ);obtain⟨J,e⟩:=I.base.slot L o v (I.ok.frf L h) h λz=>I.ok.exfs L z h;exact⟨G,⟨L,_,c,C,e,hd⟩,ih (λb g=>q b (by unfold sX;rw[iX,c];exact aT _ g)) u⟩
 exact all X.outer (λ_ g=>g) I.ok.funs
theorem Inv.stack(I:Inv X ao σ H s):s.heap.FunFrames X.base X.stack:=by
 rcases I.ok.stk with e|⟨e,g⟩
 ·rw[e];exact I.funs
 ·rw[e];obtain⟨m,c,_⟩:=I.loc;refine .cons (by rw[I.ok.kind];decide) g c ?_ I.funs;exact bh.get?_none_of_le (bC I.ok.bsz I.ok.above)
theorem Inv.stkSub(I:Inv X ao σ H s):∀b∈sX X.stack,b∈X.env.locals::X.fs:=λb c=>by
 rcases I.ok.stk with e|⟨e,g⟩
 ·rw[e]at c;exact aT _ c
 ·rw[e]at c;unfold sX at c;rw[iX,g]at c;exact c
theorem Inv.stkFree(I:Inv X ao σ H s):∀b∈sX X.stack,H b=none:=λb c=>by
 rcases aF.mp (I.stkSub b c) with e|c
 ·rw[e];exact I.free
 ·obtain⟨_,o,g,_⟩:=I.ok.funs.mem c;exact I.base.free b o g (I.ok.frf b c) λz=>I.ok.exfs b z c
theorem Inv.step{g':Array GenState}{t':Nat}{d':Drawn}{ch:List af}(I:Inv X ao σ H s)
  (C:∀b∈ch,(b∈X.ex\/X.s₀.heap.objs.size<=b)/\b≠X.env.locals/\(∀x c,X.env.cells.lookup x=some c->c≠b)/\∀p∈X.pn++ao,p.1≠b)
  (keep:∀b o,b≠X.env.locals->b∉X.fs->b∉ch->s.heap.get? b=some o->H b=none->h'.get? b=some o)
  (slot:∀b o,b≠X.env.locals->b∈X.fs->b∉ch->s.heap.get? b=some o->H b=none->∃sl,h'.get? b=some { o with slots:=sl }) (free:∀b o,b∉ch->s.heap.get? b=some o->H b=none->H' b=none)
  (there:∀b o,b∉ch->s.heap.get? b=some o->∃o',h'.get? b=some o')
  (tups:∀b xs,H b=some (.tup xs)->H' b=some (.tup xs)) (frzs:∀b o u,H b=some (.frz o u)->H' b=some (.frz o u)) (tbls:∀b ps,H b=some (.tbl ps)->∃more,H' b=some (.tbl (ps++more)))
  (ns:∀m,s.heap.Ns X.env.locals m->h'.Ns X.env.locals m) (hok:lL X.prog X.w H' h') (hg:kJ g'):
  Inv X ao σ H' { s with heap:=h',gens:=g',drawn:=d',toks:=t' }:=by
 have Q:∀b o,X.s₀.heap.get? b=some o->b≠X.env.locals:=λb o e=>bY (bf (aJ e) I.ok.above);have G:∀b o,X.s₀.heap.get? b=some o->b∉X.ex->b∉ch:=λb o e g L=>by
  rcases (C b L).1 with z|z
  ·exact g z
  ·exact bp (bf (aJ e) z) (cY _)
 have E:∀x c,X.env.cells.lookup x=some c->∀v,s.heap.IsCell c v->h'.IsCell c v:=λx c e v pq1=>by
  obtain⟨o,O,hd⟩:=pq1;have h:c∉ch:=λz=>(C c z).2.2.1 x c e rfl;by_cases hc:c∈X.fs
  ·obtain⟨sl,q⟩:=slot c o (I.cne x c e) hc h O (I.freeC x c e);exact⟨_,q,hd⟩
  ·exact⟨o,keep c o (I.cne x c e) hc h O (I.freeC x c e),hd⟩
 refine⟨I.ok,I.os,hg,⟨λb o e n L g=>?_,λb o e n L g=>?_,λb o e n g=>?_,λb o e g=>?_,λb xs e=>tups b xs (I.base.tups b xs e),λb o xs e=>frzs b o xs (I.base.frzs b o xs e),λb ps e=>?_⟩,?_,λx c e=>?_,?_,λx c e=>?_,λp hp=>?_,hok,I.len⟩
 ·exact keep b o (Q b o e) L (G b o e g) (I.base.keep b o e n L g) (I.base.free b o e n g)
 ·obtain⟨sl,J⟩:=I.base.slot b o e n L g;obtain⟨Y,U⟩:=slot b _ (Q b o e) L (G b o e g) J (I.base.free b o e n g);exact⟨Y,U⟩
 ·obtain⟨o',J⟩:=I.base.there b o e g;exact free b o' (G b o e g) J (I.base.free b o e n g)
 ·obtain⟨o',J⟩:=I.base.there b o e g;exact there b o' (G b o e g) J
 ·obtain⟨g,J⟩:=I.base.tbls b ps e;obtain⟨c,U⟩:=tbls b _ J;exact⟨g++c,by rw[U,Array.append_assoc]⟩
 ·obtain⟨m,g,h⟩:=I.loc;refine⟨m,ns m g,λi x v J U o=>?_⟩;obtain⟨u,r,l⟩:=h i x v J U o;refine⟨u,r,?_⟩;rcases l with l|⟨k,c,e,z⟩
  ·exact .inl l
  ·exact .inr ⟨k,c,e,E x c e _ z⟩
 ·obtain⟨v,z⟩:=I.cell x c e;exact⟨v,E x c e v z⟩
 ·obtain⟨m,⟨o,_,_,O,_⟩,_⟩:=I.loc;exact free _ o (λz=>(C _ z).2.1 rfl) O I.free
 ·obtain⟨v,o,O,hd⟩:=I.cell x c e;exact free c o (λz=>(C c z).2.2.1 x c e rfl) O (I.freeC x c e)
 ·obtain⟨e,n,ne,c,d⟩:=I.pin p hp;have h:p.1∉ch:=λz=>(C p.1 z).2.2.2 p hp rfl;exact⟨keep p.1 p.2 ne c h e n,free p.1 p.2 h e n,ne,c,d⟩
theorem Inv.un{t':Nat}(I:Inv X ao σ H s)(u:Un X.fs [] H H' s.heap h')(g:lL X.prog X.w H' h'):Inv X ao σ H' { s with heap:=h',toks:=t' }:=by
 obtain⟨m,⟨o,es,Q,C,r⟩,_⟩:=id I.loc;obtain⟨L,J⟩:=u.any C I.free (by simp);exact I.step (g':=s.gens) (d':=s.drawn) (ch:=[]) (λ_ z=>(by cases z)) (λb o _ h _ e n=>u.keep b o e n h (by simp)) (λb o _ h _ e n=>u.slot b o e n h (by simp)) (λb o _ e n=>u.free b o e n (by simp)) (λb o _ e=>u.there b o e (by simp)) u.tups u.frzs u.tbls (λO G=>by obtain⟨o',q,v,c,E⟩:=G;rw[C]at c;cases c;exact⟨_,q,v,J,E⟩) g I.bare
theorem Inv.call{g':Array GenState}{t':Nat}{d':Drawn}{ch:List af}(I:Inv X ao σ H s)(u:Un (sX X.stack) ch H H' s.heap h')(v:lL X.prog X.w H' h')(Q:kJ g')
  (q:∀b∈ch,(b∈X.ex\/X.s₀.heap.objs.size<=b)/\b≠X.env.locals/\(∀x c,X.env.cells.lookup x=some c->c≠b)/\∀p∈X.pn++ao,p.1≠b):
  Inv X ao σ H' { s with heap:=h',gens:=g',drawn:=d',toks:=t' }:=by
 obtain⟨m,⟨o,es,ep,J,r⟩,_⟩:=id I.loc;obtain⟨Y,C⟩:=u.any J I.free λz=>(q _ z).2.1 rfl;exact I.step (ch:=ch) q (λb o C U g e n=>u.keep b o e n (λz=>(aF.mp (I.stkSub b z)).elim C U) g) (λb o _ _ g e n=>u.any e n g) (λb o g e n=>u.free b o e n g) (λb o g e=>u.there b o e g) u.tups u.frzs u.tbls (λm' O=>by obtain⟨o',E,G,h,L⟩:=O;rw[J]at h;cases h;exact⟨_,E,G,C,L⟩) v Q
theorem Inv.turned{t':Nat}{g:af}(I:Inv X ao σ H s)(k:∀b o,b≠g->s.heap.get? b=some o->h'.get? b=some o)(J:H g=none)(E:g≠X.env.locals)
  (Y:g∈X.ex\/X.s₀.heap.objs.size<=g) (U:∀x c,X.env.cells.lookup x=some c->c≠g) (Q:∀p∈X.pn++ao,p.1≠g):Inv X ao σ H { s with heap:=h',toks:=t' }:=by
 have C:∀b u,H b=some u->b≠g:=λb u e z=>by rw[z,J]at e;cases e
 refine I.step (g':=s.gens) (d':=s.drawn) (ch:=[g]) (λb O=>?_) (λb o _ _ h e _=>k b o (λz=>h (by simp[z])) e) (λb o _ _ h e _=>⟨o.slots,k b o (λz=>h (by simp[z])) e⟩) (λ_ _ _ _ n=>n)
  (λb o h e=>⟨o,k b o (λz=>h (by simp[z])) e⟩) (λ_ _ e=>e) (λ_ _ _ e=>e) (λb ps e=>⟨#[],by rw[e];simp⟩) (λm L=>?_) (λb u e=>?_) I.bare
 ·have e:b=g:=by simpa using O
  subst e;exact⟨Y,E,U,Q⟩
 ·obtain⟨o,es,c,G,r⟩:=L;exact⟨o,es,c,k _ o (fB E) G,r⟩
 ·refine (I.hok b u e).stay (λc v h q=>k c v ?_ q) (λ_ q=>q) λ_ _ q=>q;rcases h with z|z
  ·rw[z];exact C b u e
  ·exact C c _ z
theorem Inv.tok(I:Inv X ao σ H s)(t:Nat):Inv X ao σ H { s with toks:=t }:=I.un (h':=s.heap) (t':=t) Un.refl I.hok
theorem Inv.kept{t':Nat}(I:Inv X ao σ H s)(k:∀b u,s.heap.get? b=some u->h'.get? b=some u):Inv X ao σ H { s with heap:=h',toks:=t' }:=I.un (Un.kept k) (I.hok.kept k)
theorem Inv.laid{a:af}{o:HO}{t':Nat}(I:Inv X ao σ H s)(k:∀b u,s.heap.get? b=some u->h'.get? b=some u)(c:s.heap.objs.size<=a)(new:dE X.prog X.w (eO H a o) h' a o):
  Inv X ao σ (eO H a o) { s with heap:=h',toks:=t' }:=I.un (Un.laid k c (I.hok.fresh c)) (I.hok.laid k c new)
theorem Inv.write{x e:af}{o:HO}{t':Nat}(I:Inv X ao σ H s)(g:D8 (H x))(h:e=x\/H e=some (.own x))(k:∀b u,b≠e->s.heap.get? b=some u->h'.get? b=some u)(c:∃u,h'.get? e=some u)
  (new:dE X.prog X.w (eO H x o) h' x o):Inv X ao σ (eO H x o) { s with heap:=h',toks:=t' }:=I.un (Un.write g h k c) (I.hok.write g h k c new)
theorem Inv.pins_of{c:List (af×Obj)}(I:Inv X ao σ H s)(h:∀p∈c,s.heap.get? p.1=some p.2/\H p.1=none/\p.1≠X.env.locals/\p.1∉X.fs/\∀v,p.2.data≠.cell v):Inv X c σ H s:=
 ⟨I.ok,I.os,I.bare,I.base,I.loc,I.cell,I.free,I.freeC,λp g=>(br.mp g).elim (λz=>I.pin p (iH _ z)) (h p),I.hok,I.len⟩
theorem Mx{N:List Str}(c:N.Nodup){i j:Nat}{x:Str}(a:N[i]?=some x)(b:N[j]?=some x):i=j:=by obtain⟨q,h⟩:=am.mp a;obtain⟨o,g⟩:=am.mp b;exact (List.getElem_inj c).mp (h.trans g.symm)
theorem NG{M:xB}{A:bn}{E:ac->ah->Prop}{i:Nat}{x:Str}{v:V}{u:ac}{Q:Unit->ah->Prop}(I:Inv X ao σ H s)(hN:X.N.Nodup)(hi:X.N[i]?=some x)(L:Loc X.env.scope x)(r:RelV v u)
  (h:∀s',Inv X ao (σ.set i (some v)) H s'->(∃a,eB a s.heap s'.heap/\(a=X.env.locals\/X.env.cells.lookup x=some a))->Q () s') (hf:X.fn x=true\/X.env.scope.names.lookup x=some .local:=by first|exact .inl rfl|exact .inr rfl|assumption):aA M A (storeName X.env x u) Q E s:=by
 obtain⟨m,hn,hl⟩:=id I.loc;have hcls:(X.env.scope.kind == .class||(X.env.scope.kind == .module&&X.env.locals != X.env.globals))=false:=by rw[I.ok.kind];rfl
 have hiσ:i < σ.length:=by rw[I.len];exact (am.mp hi).1
 have cne:=I.cne;have C:∀{a:af}{h':bh},(∃o,s.heap.get? a=some o/\H a=none)->eB a s.heap h'->lL X.prog X.w H h':=λ{a h'}ha g b ob e=>by
  obtain⟨_,_,O⟩:=ha;refine (I.hok b ob e).stay (λc w' J q=>(g.2 c ?_).trans q) (λ_ q=>q) λ_ _ q=>q
  rintro rfl
  rcases J with rfl|J
  ·rw[O]at e;cases e
  ·rw[O]at J;cases J
 rcases L with Y|Y
 ·refine wpAny_storeName_local Y hn (λh' E g=>?_) hcls;obtain⟨H,_,_,v,_⟩:=id hn;refine h _ ⟨I.ok,I.os,I.bare,⟨λb o e n hb L=>?_,λb o e n hb L=>?_,I.base.free,λb o e L=>?_,I.base.tups,I.base.frzs,I.base.tbls⟩,⟨_,E,λj y v' G U e3=>?_⟩,λy c e=>?_,I.free,I.freeC,λp hp=>?_,C ⟨H,v,I.free⟩ g,by simpa using I.len⟩ ⟨_,g,.inl rfl⟩
  ·exact (g.2 b (bY (bf (aJ e) I.ok.above))).trans (I.base.keep b o e n hb L)
  ·obtain⟨sl,G⟩:=I.base.slot b o e n hb L;exact⟨sl,(g.2 b (bY (bf (aJ e) I.ok.above))).trans G⟩
  ·obtain⟨o',G⟩:=I.base.there b o e L;exact⟨o',(g.2 b (bY (bf (aJ e) I.ok.above))).trans G⟩
  ·by_cases hj:j=i
   ·subst hj;rw[hi]at G;cases G;rw[bj hiσ]at U;cases U;exact⟨u,r,.inl ⟨Y,by simp⟩⟩
   ·rw[aZ (fB hj)]at U;obtain⟨u',r',q⟩:=hl j y v' G U e3;refine⟨u',r',?_⟩;rcases q with ⟨k,e⟩|⟨k,c,e,z⟩
    ·refine .inl ⟨k,?_⟩;have:y≠x:=λe=>hj (Mx hN G (e ▸ hi));simp[this,e]
    ·exact .inr ⟨k,c,e,z.sameBut g (cne y c e)⟩
  ·obtain⟨w',z⟩:=I.cell y c e;exact⟨w',z.sameBut g (cne y c e)⟩
  ·obtain⟨e,n,ne,nf,d⟩:=I.pin p hp;exact⟨(g.2 p.1 ne).trans e,n,ne,nf,d⟩
 ·have v : X.fn x = true := by
    rcases hf with z|z
    ·exact z
    ·rw[z]at Y;cases Y
  obtain⟨c,J⟩:=I.ok.has x (.inl Y);obtain⟨w',z⟩:=I.cell x c J;refine wpAny_storeName_cell I.ok.kind Y J z (λh' Q g=>?_);obtain⟨oc,H,E⟩:=id z;refine h { s with heap:=h' } ⟨I.ok,I.os,I.bare,⟨λb o e n hb L=>?_,λb o e n hb L=>?_,I.base.free,λb o e L=>?_,I.base.tups,I.base.frzs,I.base.tbls⟩,⟨m,hn.sameBut g (fB (cne x c J)),λj y v' G U e3=>?_⟩,λy c' e=>?_,I.free,I.freeC,λp hp=>?_,C ⟨oc,H,I.freeC x c J⟩ g,by simpa using I.len⟩ ⟨c,g,.inr J⟩
  ·exact (g.2 b (bY (bf (aJ e) (I.ok.cab x c v J)))).trans (I.base.keep b o e n hb L)
  ·obtain⟨sl,G⟩:=I.base.slot b o e n hb L;exact⟨sl,(g.2 b (bY (bf (aJ e) (I.ok.cab x c v J)))).trans G⟩
  ·obtain⟨o',G⟩:=I.base.there b o e L;exact⟨o',(g.2 b (bY (bf (aJ e) (I.ok.cab x c v J)))).trans G⟩
  ·by_cases hj:j=i
   ·subst hj;rw[hi]at G;cases G;rw[bj hiσ]at U;cases U;exact⟨u,r,.inr ⟨.inl Y,c,J,Q⟩⟩
   ·rw[aZ (fB hj)]at U;obtain⟨u',r',q⟩:=hl j y v' G U e3;refine⟨u',r',?_⟩;rcases q with q|⟨k,c',e,h⟩
    ·exact .inl q
    ·refine .inr ⟨k,c',e,h.sameBut g ?_⟩
     rintro rfl
     exact hj (Mx hN G (I.ok.inj _ _ _ e J ▸ hi))
  ·by_cases O:c'=c
   ·subst O;exact⟨_,Q⟩
   ·obtain⟨o,h⟩:=I.cell y c' e;exact⟨o,h.sameBut g O⟩
  ·obtain⟨e,n,ne,nf,d⟩:=I.pin p hp;refine⟨(g.2 p.1 ?_).trans e,n,ne,nf,d⟩;intro q;rw[q,H]at e;have c:oc=p.2:=bw e;exact d w' (by rw[<- c];exact E)
theorem CB{M:xB}{A:bn}{E:ac->ah->Prop}{i:Nat}{x:Str}{v:V}{u:ac}{Q:Unit->ah->Prop}(I:Inv X ao σ H s)(q:X.N.Nodup)(g:X.N[i]?=some x)(c:Loc X.env.scope x)(r:RelV v u)
  (h:∀s',Inv X ao (σ.set i (some v)) H s'->Q () s') (o:X.fn x=true\/X.env.scope.names.lookup x=some .local:=by first|exact .inl rfl|exact .inr rfl|assumption):aA M A (storeName X.env x u) Q E s:=
 NG I q g c r (λs' C _=>h s' C) o
theorem Inv.call'{s':ah}{ch:List af}(I:Inv X ao σ H s)(o:s'.os=s.os)(u:Un (sX X.stack) ch H H' s.heap s'.heap)(g:lL X.prog X.w H' s'.heap)(q:kJ s'.gens)
  (h:∀b∈ch,(b∈X.ex\/X.s₀.heap.objs.size<=b)/\b≠X.env.locals/\(∀x c,X.env.cells.lookup x=some c->c≠b)/\∀p∈X.pn++ao,p.1≠b):Inv X ao σ H' s':=by
 obtain⟨h',g',d',t',o'⟩:=s';have e:o'=s.os:=o;subst e;exact I.call (g':=g') (t':=t') (d':=d') u g q h
end
abbrev XK:=ac->Option af->Hp->Prop
noncomputable abbrev St:=List (Option V)
abbrev VK:=V->Hp->Prop
abbrev TE:=St->Hp->VK->Prop
abbrev TT:=St->Hp->(Bool->Hp->Prop)->Prop
abbrev TA:=St->Hp->(List V->Hp->Prop)->Prop
structure Ends where
 nx:St->Hp->Prop
 rt:VK
 bk:St->Hp->Prop:=λ_ _=>False
 ct:St->Hp->Prop:=λ_ _=>False
abbrev TS:=Ends->St->Hp->Prop
def EP(X:Cx)(c:List (af×Obj))(σ:St)(Q:VK)(u:ac)(s':ah):Prop:=∃v g,Inv X c σ g s'/\RelV v u/\Q v g
noncomputable def TP(X:Cx)(c:List (af×Obj))(σ:St)(Q:Bool->Hp->Prop)(b:Bool)(s':ah):Prop:=∃g,Inv X c σ g s'/\Q b g
def AP(X:Cx)(c:List (af×Obj))(σ:St)(Q:List V->Hp->Prop)(o:List ac)(s':ah):Prop:=∃g h,Inv X c σ h s'/\cB g o/\Q g h
def SP(X:Cx)(c:List (af×Obj))(D:Ends)(f:Flow)(s':ah):Prop:=
 match f with
 | .next=>∃σ' g,Inv X c σ' g s'/\D.nx σ' g
 | .brk=>∃σ' g,Inv X c σ' g s'/\D.bk σ' g
 | .cont=>∃σ' g,Inv X c σ' g s'/\D.ct σ' g
 | .ret u=>∃v σ' g,Inv X c σ' g s'/\RelV v u/\D.rt v g
def PE(X:Cx)(e:Expr)(t:TE):Prop:=
 ∀(ao:List (af×Obj))(s:ah)(σ:St)(H:Hp)(Q:VK),Inv X ao σ H s->t σ H Q->aA (aP X.prog X.w) X.A (eval e X.env) (EP X ao σ Q) X.xe s
def PT(X:Cx)(e:Expr)(t:TT):Prop:=
 ∀(ao:List (af×Obj))(s:ah)(σ:St)(H:Hp)(Q:Bool->Hp->Prop),Inv X ao σ H s->t σ H Q->aA (aP X.prog X.w) X.A (isTrue e X.env (eval e X.env)) (TP X ao σ Q) X.xe s
def PW(X:Cx)(e:Expr)(t:TT):Prop:=
 ∀(whole:Sem ac)(ao:List (af×Obj))(s:ah)(σ:St)(H:Hp)(Q:Bool->Hp->Prop),Inv X ao σ H s->t σ H Q->aA (aP X.prog X.w) X.A (isTrue e X.env whole) (TP X ao σ Q) X.xe s
theorem PW.pt{X:Cx}{e:Expr}{t:TT}(h:PW X e t):PT X e t:=h _
def PA(X:Cx)(es:List Expr)(t:TA):Prop:=
 ∀(pos:Pos)(ao:List (af×Obj))(s:ah)(σ:St)(H:Hp)(Q:List V->Hp->Prop),Inv X ao σ H s->t σ H Q->aA (aP X.prog X.w) X.A (spliced (backTo pos (starEach es X.env))) (AP X ao σ Q) X.xe s
def PS(X:Cx)(st:Stmt)(t:TS):Prop:=
 ∀(ao:List (af×Obj))(s:ah)(σ:St)(H:Hp)(D:Ends),Inv X ao σ H s->t D σ H->aA (aP X.prog X.w) X.A (exec st X.env) (SP X ao D) X.xe s
def PSs(X:Cx)(st:List Stmt)(t:TS):Prop:=
 ∀(ao:List (af×Obj))(s:ah)(σ:St)(H:Hp)(D:Ends),Inv X ao σ H s->t D σ H->aA (aP X.prog X.w) X.A (execs st X.env) (SP X ao D) X.xe s
theorem fE{α:Type}{t:Sem α}{Q c:α->ah->Prop}{M:xB}{A:bn}{E:ac->ah->Prop}{s:ah}(h:aA M A t Q E s)(g:∀a s,Q a s->c a s):aA M A t c E s:=bS h g λ_ _ x=>x
section
variable{X:Cx}
noncomputable def DG(i:Nat):TE:=λσ H Q=>∃v,σ[i]?=some (some v)/\Q v H
noncomputable def tC(v:V):TE:=λ_ H Q=>Q v H
theorem AI{i:Nat}{x:Str}{pos:Pos}(Y:X.N[i]?=some x)(J:zy X.env.scope x)(hd:(x == ("__debug__":Str))=false:=by decide)(E:(x == ("__classdict__":Str))=false:=by decide):PE X (.Name x pos) (DG i):=by
 intro C s σ H Q I h;obtain⟨v,e,h⟩:=h;obtain⟨m,L,U⟩:=I.loc;obtain⟨u,r,l⟩:=U i x v Y e J;have q:EP X C σ Q u s:=⟨v,H,I,r,h⟩
 rcases l with ⟨o,O⟩|⟨o,c,G,g⟩
 ·exact A0 (wpAny_loadName_local I.ok.kind o L O q) hd
 ·rcases o with o|o
  ·exact A0 (wpAny_loadName_cell I.ok.kind o G g q) hd
  ·exact A0 (wpAny_loadName_free I.ok.kind o G g q E) hd
theorem RA{i j pos}:PE X (.Constant (.int i) j pos) (tC (.int i)):=λ_ _ _ H _ I h=>wpAny_Constant_int ⟨.int i,H,I.tok _,⟨_,rfl⟩,h⟩
theorem S5{b j pos}:PE X (.Constant (.bool b) j pos) (tC (.bl b)):=λ_ _ _ H _ I h=>Constant_bool ⟨.bl b,H,I,rfl,h⟩
theorem ON{j pos}:PE X (.Constant .none j pos) (tC .non):=λ_ _ _ H _ I h=>Constant_none ⟨.non,H,I,rfl,h⟩
theorem Px{x j pos}:PE X (.Constant (.str x) j pos) (tC (.str x)):=λ_ _ _ H _ I h=>Calls.Constant_str ⟨.str x,H,I.tok _,⟨_,rfl⟩,h⟩
noncomputable def Gl(X:Cx)(x:Str):Prop:=X.env.kindOf x=some .globalImplicit
theorem Bg{E:ac->ah->Prop}{c:List (af×Obj)}{s:ah}{σ:St}{H:Hp}{x:Str}{u:ac}{pos:Pos}{Q:ac->ah->Prop}(I:Inv X c σ H s)(o:Gl X x)(g:X.mg x=some u)(h:Q u s)
  (hd:(x == ("__debug__":Str))=false:=by decide):aA (aP X.prog X.w) X.A (eval (.Name x pos) X.env) Q E s:=
 qc I.ok.kind o (Calls.loadGlobal_global (by rw[I.ok.glob];exact I.mod.glob.keeps I.bk) g h) hd
theorem zQ{E:ac->ah->Prop}{c:List (af×Obj)}{s:ah}{σ:St}{H:Hp}{x:Str}{u:ac}{pos:Pos}{Q:ac->ah->Prop}(I:Inv X c σ H s)(v:Gl X x)(q:X.mg x=none)(g:cN x=some u)(h:Q u s)
  (o:x≠"__name__":=by decide) (hd:(x == ("__debug__":Str))=false:=by decide):aA (aP X.prog X.w) X.A (eval (.Name x pos) X.env) Q E s:=by
 obtain⟨J,G,C⟩:=I.mod.blt;exact qc I.ok.kind v (Calls.loadGlobal_builtin (by rw[I.ok.glob];exact I.mod.glob.keeps I.bk) q (by rw[I.ok.blt];exact G.keeps I.bk) ((C x o).trans g) h) hd
theorem Ht{x:Str}{v:V}{u:ac}{pos:Pos}(g:Gl X x)(c:X.mg x=some u)(r:RelV v u)(hd:(x == ("__debug__":Str))=false:=by decide):PE X (.Name x pos) (tC v):=
 λ_ _ _ H _ I h=>Bg I g c ⟨v,H,I,r,h⟩ hd
theorem L0{x:Str}{v:V}{u:ac}{pos:Pos}(q:Gl X x)(o:X.mg x=none)(c:cN x=some u)(r:RelV v u)(g:x≠"__name__":=by decide)(hd:(x == ("__debug__":Str))=false:=by decide):PE X (.Name x pos) (tC v):=
 λ_ _ _ H _ I h=>zQ I q o c ⟨v,H,I,r,h⟩ g hd
variable{a b:Expr}{ta tb:TE}{pos:Pos}
variable{tA fi:TT}{dA:List Expr}
noncomputable def zT(t u:TT):TT:=λσ H Q=>t σ H λc g=>if c=true then u σ g Q else Q false g
noncomputable def WF(t u:TT):TT:=λσ H Q=>t σ H λc g=>if c=true then Q true g else u σ g Q
noncomputable def zN(t:TT):TT:=λσ H Q=>t σ H λc g=>Q (!c) g
theorem WY(o:PT X a tA):PW X (.BoolOp .And [a] pos) tA:=by
 intro wh g s σ H Q I h;refine isTrue_and (fE (o g s σ H Q I h) λc q e=>?_);cases c with
 |true=>exact isTrue_and_nil e
 |false=>exact e
theorem Qo(o:PT X a tA):PW X (.BoolOp .Or [a] pos) tA:=by
 intro wh g s σ H Q I h;refine isTrue_or (fE (o g s σ H Q I h) λc q e=>?_);cases c with
 |false=>exact isTrue_or_nil e
 |true=>exact e
theorem VD(G:PT X a tA)(E:PW X (.BoolOp .And (b::dA) pos) fi):PW X (.BoolOp .And (a::b::dA) pos) (zT tA fi):=by
 intro wh g s σ H Q I h;refine isTrue_and (fE (G g s σ H _ I h) λc C o=>?_);obtain⟨v,u,q⟩:=o;cases c with
 |true=>exact E wh g C σ v Q u q
 |false=>exact⟨v,u,q⟩
theorem PB(G:PT X a tA)(E:PW X (.BoolOp .Or (b::dA) pos) fi):PW X (.BoolOp .Or (a::b::dA) pos) (WF tA fi):=by
 intro wh g s σ H Q I h;refine isTrue_or (fE (G g s σ H _ I h) λc C o=>?_);obtain⟨v,u,q⟩:=o;cases c with
 |true=>exact⟨v,u,q⟩
 |false=>exact E wh g C σ v Q u q
theorem UK(o:PT X a tA):PT X (.UnaryOp .Not a pos) (zN tA):=by intro g s σ H Q I h;exact isTrue_not (o g s σ H (λc q=>Q (!c) q) I h)
noncomputable def Di(ta tb:TE):TE:=λσ H Q=>ta σ H λx g=>∃c,x=.bl c/\if c=true then tb σ g Q else Q (.bl false) g
noncomputable def JO(ta tb:TE):TE:=λσ H Q=>ta σ H λx g=>∃c,x=.bl c/\if c=true then Q (.bl true) g else tb σ g Q
noncomputable def Eb(ta:TE):TE:=λσ H Q=>ta σ H λx g=>∃c,x=.bl c/\Q (.bl (!c)) g
theorem S3{op}{t:TE}(h:PE X a t):PE X (.BoolOp op [a] pos) t:=λc s σ H Q I g=>BoolOp_one (h c s σ H Q I g)
theorem XG(L:PE X a ta)(J:PE X (.BoolOp .And (b::dA) pos) tb):PE X (.BoolOp .And (a::b::dA) pos) (Di ta tb):=by
 intro g s σ H Q I h;refine BoolOp_and (fE (L g s σ H _ I h) λv E q=>?_);obtain⟨x,C,u,G,o⟩:=q;obtain⟨c,rfl,o⟩:=o;cases G;refine du ?_;cases c with
 |true=>exact J g E σ C Q u o
 |false=>exact⟨.bl false,C,u,rfl,o⟩
theorem V3(L:PE X a ta)(J:PE X (.BoolOp .Or (b::dA) pos) tb):PE X (.BoolOp .Or (a::b::dA) pos) (JO ta tb):=by
 intro g s σ H Q I h;refine BoolOp_or (fE (L g s σ H _ I h) λv E q=>?_);obtain⟨x,C,u,G,o⟩:=q;obtain⟨c,rfl,o⟩:=o;cases G;refine du ?_;cases c with
 |false=>exact J g E σ C Q u o
 |true=>exact⟨.bl true,C,u,rfl,o⟩
theorem Pk(C:PE X a ta):PE X (.UnaryOp .Not a pos) (Eb ta):=by intro g s σ H Q I h;refine UnaryOp_ (fE (C g s σ H _ I h) λv J q=>?_);obtain⟨x,G,E,u,o⟩:=q;obtain⟨c,rfl,o⟩:=o;cases u;exact not_of (du ⟨.bl (!c),G,E,rfl,o⟩)
end
def ir(K:aj)(H:Hp)(a:af)(xs:List V):Prop:=
 Rd H a (.lst xs) \/
  ∃(o:Obj)(its:Array ac)(n:Nat),K.lookup a=some o/\o.cls=.type "list"/\o.dict=none/\o.data=.seq its n/\its.size<=sizeLine/\cB xs its.toList
def i7(K:aj)(H:Hp)(a:af)(xs:List V):Prop:=
 Rd H a (.tup xs) \/
  ∃(o:Obj)(its:Array ac)(n:Nat),K.lookup a=some o/\o.cls=.type "tuple"/\o.dict=none/\o.data=.seq its n/\its.size<=sizeLine/\cB xs its.toList
noncomputable def Gg:ac->Option V
 | .none=>some .non
 | .bool b=>some (.bl b)
 | .int i _=>some (.int i)
 | .str x _=>some (.str x)
 | .bytes b _=>some (.byt b)
 | .float b _=>some (.flt b)
 | .ref a=>some (.ref a)
 | .type n=>some (.ty n)
 |_=>none
theorem RelV.abs{x:V}{u:ac}(r:RelV x u):Gg u=some x:=by
 cases x with
 |non=>cases r;rfl
 |bl _=>cases r;rfl
 |int _=>obtain⟨t,rfl⟩:=r;rfl
 |str _=>obtain⟨t,rfl⟩:=r;rfl
 |byt _=>obtain⟨t,rfl⟩:=r;rfl
 |flt _=>obtain⟨t,rfl⟩:=r;rfl
 |ref _=>cases r;rfl
 |ty _=>cases r;rfl
theorem RelV.inj{x y:V}{u:ac}(r:RelV x u)(q:RelV y u):x=y:=bw (r.abs.symm.trans q.abs)
theorem cB.inj{xs ys:List V}{c:List ac}(h:cB xs c)(q:cB ys c):xs=ys:=by
 induction h generalizing ys with
 |nil=>cases q;rfl
 |cons r t ih=>cases q with|cons r' t'=>rw[r.inj r',ih t']
section
variable{X:Cx}{ao:List (af×Obj)}{σ:St}{H:Hp}{s:ah}{a:af}{xs ys:List V}
theorem ir.of{K:aj}(h:H a=some (.lst xs)):ir K H a xs:=.inl (.inl h)
theorem i7.of{K:aj}(h:H a=some (.tup xs)):i7 K H a xs:=.inl (.inl h)
theorem Inv.list(I:Inv X ao σ H s)(h:ir X.K H a xs):∃its:List ac,cB xs its/\PlainL s.heap a its.toArray/\xs.length<=sizeLine:=by
 rcases h with h|⟨o,its,n,g,q,hd,c,hz,r⟩
 ·obtain⟨z,its,n,r,e⟩:=h.ok I.hok;exact⟨its,r,⟨_,n,e,rfl,rfl,rfl⟩,z⟩
 ·refine⟨its.toList,r,⟨o,n,I.kIn a o g,q,hd,by simpa using c⟩,?_⟩;have e:=r.length;simp only[mJ]at e;ext
theorem Inv.tupleD(I:Inv X ao σ H s)(h:i7 X.K H a xs):∃its:List ac,cB xs its/\gn s.heap a its.toArray/\xs.length<=sizeLine:=by
 rcases h with h|⟨o,its,n,g,q,hd,c,hz,r⟩
 ·obtain⟨z,its,r,p⟩:=h.ok I.hok;exact⟨its,r,p,z⟩
 ·refine⟨its.toList,r,⟨o,I.kIn a o g,q,⟨n,by simpa using c⟩,hd⟩,?_⟩;have e:=r.length;simp only[mJ]at e;ext
theorem Inv.tuple(I:Inv X ao σ H s)(h:i7 X.K H a xs):∃its:List ac,cB xs its/\BK s.heap a its.toArray/\xs.length<=sizeLine:=by obtain ⟨its,r,p,z⟩:=I.tupleD h;exact ⟨its,r,p.is,z⟩
theorem Inv.list_inj(I:Inv X ao σ H s)(h:ir X.K H a xs)(h':ir X.K H a ys):xs=ys:=by
 obtain⟨its,r,⟨o,n,e,_,_,d⟩,_⟩:=I.list h;obtain⟨its',g,⟨o',q,c,_,_,d'⟩,_⟩:=I.list h';rw[e]at c;cases c;rw[d]at d';injection d' with d1 _
 have:its=its':=by simpa using bH A1 d1
 subst this;exact r.inj g
theorem Inv.tuple_inj(I:Inv X ao σ H s)(h:i7 X.K H a xs)(h':i7 X.K H a ys):xs=ys:=by
 obtain⟨its,r,⟨o,e,_,n,d⟩,_⟩:=I.tuple h;obtain⟨its',g,⟨o',c,_,q,d'⟩,_⟩:=I.tuple h';rw[e]at c;cases c;rw[d]at d';injection d' with d1 _
 have:its=its':=by simpa using bH A1 d1
 subst this;exact r.inj g
end
noncomputable abbrev Cx.wish(X:Cx)(E:ac->ah->Prop):Cx:={ X with xe:=E }
abbrev Cx.nox(X:Cx):Cx:=X.wish λ_ _=>False
theorem Cx.Ok.wish{X:Cx}(ok:X.Ok)(E:ac->ah->Prop):(X.wish E).Ok:=
 ⟨ok.mod,ok.kind,ok.glob,ok.blt,ok.above,ok.inj,ok.has,ok.cab,ok.hd,ok.frames,ok.stk,ok.exf,ok.bs,ok.bsz,ok.noex,ok.exfs,ok.funs,ok.frf⟩
theorem Cx.Ok.unwish{X:Cx}{E:ac->ah->Prop}(ok:(X.wish E).Ok):X.Ok:=
 ⟨ok.mod,ok.kind,ok.glob,ok.blt,ok.above,ok.inj,ok.has,ok.cab,ok.hd,ok.frames,ok.stk,ok.exf,ok.bs,ok.bsz,ok.noex,ok.exfs,ok.funs,ok.frf⟩
section
variable{X:Cx}{ao:List (af×Obj)}{σ:St}{H:Hp}{s:ah}{E:ac->ah->Prop}
theorem Inv.wish(I:Inv X ao σ H s)(E:ac->ah->Prop):Inv (X.wish E) ao σ H s:=⟨I.ok.wish E,I.os,I.bare,I.base,I.loc,I.cell,I.free,I.freeC,I.pin,I.hok,I.len⟩
theorem Inv.unwish(I:Inv (X.wish E) ao σ H s):Inv X ao σ H s:=⟨I.ok.unwish,I.os,I.bare,I.base,I.loc,I.cell,I.free,I.freeC,I.pin,I.hok,I.len⟩
theorem SP.unwish{D:Ends}{f:Flow}{s':ah}(h:SP (X.wish E) ao D f s'):SP X ao D f s':=by
 cases f with
 |next=>obtain⟨σ',c,I,q⟩:=h;exact⟨σ',c,I.unwish,q⟩
 |brk=>obtain⟨σ',c,I,q⟩:=h;exact⟨σ',c,I.unwish,q⟩
 |cont=>obtain⟨σ',c,I,q⟩:=h;exact⟨σ',c,I.unwish,q⟩
 |ret u=>obtain⟨v,σ',c,I,r,q⟩:=h;exact⟨v,σ',c,I.unwish,r,q⟩
theorem PSs.nox{st:List Stmt}{t:TS}(h:PSs X.nox st t):PSs X st t:=λao s σ H D I c=>
 bS (h ao s σ H D (I.wish _) c) (λ_ _ q=>q.unwish) λ_ _ z=>bK z
end
section
variable{X:Cx}{st:Stmt}{dA:List Stmt}{t u:TS}{e:Expr}{te:TE}{pos:Pos}
noncomputable def Cj:TS:=λD σ H=>D.nx σ H
noncomputable def Hz(t u:TS):TS:=λD σ H=>t { D with nx:=u D } σ H
theorem HM:PSs X [] Cj:=λ_ _ σ H _ I h=>eG ⟨σ,H,I,h⟩
theorem ID(C:PS X st t)(o:PSs X dA u):PSs X (st::dA) (Hz t u):=by
 intro c s σ H D I h;refine iY (fE (C c s σ H { D with nx:=u D } I h) λf g q=>?_);cases f with
 |next=>
  obtain⟨σ',G,E,q⟩:=q;exact o c g σ' G D E q
 |ret v=>exact q
 |brk=>exact q
 |cont=>exact q
theorem Inv.quiet{c:List (af×Obj)}{σ:St}{H:Hp}{s:ah}(I:Inv X c σ H s):interactive X.env=false:=by simp[interactive,I.ok.kind]
noncomputable def D7(te:TE):TS:=λD σ H=>te σ H λ_ c=>D.nx σ c
theorem Ma(C:PE X e te)(q:eD e none pos.line X.env=pure false:=by rfl):PS X (.Expr e pos) (D7 te):=by intro c s σ H D I h;exact tf (fE (C c s σ H _ I h) λv J g=>by obtain⟨x,G,E,L,o⟩:=g;exact⟨σ,G,E,o⟩) I.quiet q
noncomputable def Ih(te:TE):TS:=λD σ H=>te σ H D.rt
theorem LG(C:PE X e te):PS X (.Return (some e) pos) (Ih te):=by intro g s σ H D I h;exact wpAny_Return_some (fE (C g s σ H _ I h) λv J c=>by obtain⟨x,G,E,o,q⟩:=c;exact⟨x,σ,G,E,o,q⟩)
noncomputable def Gs(c:TT)(t u:TS):TS:=λD σ H=>c σ H λb g=>if b=true then t D σ g else u D σ g
theorem Mu{c:Expr}{a b:List Stmt}{q:TT}(J:PT X c q)(O:PSs X a t)(L:PSs X b u):PS X (.If c a b pos) (Gs q t u):=by
 intro g s σ H D I h;refine wpAny_If (fE (J g s σ H _ I h) λd v o=>?_);obtain⟨G,E,C⟩:=o;cases d with
 |true=>exact O g v σ G D E C
 |false=>exact L g v σ G D E C
noncomputable def zZ:TS:=λ_ _ _=>False
theorem Sj:PS X st zZ:=λ_ _ _ _ _ _ h=>h.elim
end
abbrev TG:=V->St->Hp->(St->Hp->Prop)->Prop
abbrev ww:=List V->St->Hp->(St->Hp->Prop)->Prop
def PG(X:Cx)(c:Expr)(t:TG):Prop:=
 ∀(ao:List (af×Obj))(s:ah)(σ:St)(H:Hp)(v:V)(u:ac)(Q:St->Hp->Prop),Inv X ao σ H s->RelV v u->t v σ H Q ->
  aA (aP X.prog X.w) X.A (mK c X.env u) (λ_ s'=>∃σ' H',Inv X ao σ' H' s'/\Q σ' H') X.xe s
def PGs(X:Cx)(c:List Expr)(t:ww):Prop:=
 ∀(ao:List (af×Obj))(s:ah)(σ:St)(H:Hp)(vs:List V)(us:List ac)(Q:St->Hp->Prop),Inv X ao σ H s->cB vs us->t vs σ H Q ->
  aA (aP X.prog X.w) X.A (assignInOrder ((da c X.env).map (·.2)) us) (λ_ s'=>∃σ' H',Inv X ao σ' H' s'/\Q σ' H') X.xe s
abbrev wN:=V->V->V->Hp->(Hp->Prop)->Prop
def PSet(X:Cx)(t:wN):Prop:=
 ∀(ao:List (af×Obj))(s:ah)(σ:St)(H:Hp)(o i v:V)(ov iv u:ac)(Q:Hp->Prop),Inv X ao σ H s->RelV o ov->RelV i iv->RelV v u->t o i v H Q ->
  aA (aP X.prog X.w) X.A (qd ov iv u) (λ_ s'=>∃c,Inv X ao σ c s'/\Q c) X.xe s
section
variable{X:Cx}{pos:Pos}
noncomputable def rH(i:Nat):TG:=λv σ H Q=>Q (σ.set i (some v)) H
theorem T6{i:Nat}{x:Str}(C:X.N.Nodup)(o:X.N[i]?=some x)(g:Loc X.env.scope x)(q:X.fn x=true\/X.env.scope.names.lookup x=some .local:=by first|exact .inl rfl|exact .inr rfl|assumption):PG X (.Name x pos) (rH i):=by intro c s σ H v u Q I r h;exact BL (CB I C o g r (λs' E=>⟨_,H,E,h⟩) q)
noncomputable def JX:ww:=λc σ H Q=>c=[]/\Q σ H
noncomputable def DS(t:TG)(u:ww):ww:=λc σ H Q=>∃v r,c=v::r/\t v σ H λσ' g=>u r σ' g Q
theorem VR:PGs X [] JX:=by intro c s σ H g o Q I r h;obtain⟨e,h⟩:=h;subst e;cases r;exact assignInOrder_nil ⟨σ,H,I,h⟩
theorem SY{e:Expr}{es:List Expr}{t:TG}{u:ww}(G:PG X e t)(E:PGs X es u)
  (C:(da (e::es) X.env).map (·.2)=mK e X.env::(da es X.env).map (·.2):=by rfl):PGs X (e::es) (DS t u):=by
 intro c s σ H U us Q I r h;obtain⟨v,Y,J,h⟩:=h;subst J;cases r with
 |cons r rr=>
  rw[C];refine assignInOrder_cons (fE (G c s σ H _ _ _ I r h) λ_ o g=>?_);obtain⟨σ1,O,L,q⟩:=g;exact E c o σ1 O _ _ Q L rr q
def KC(K:aj)(n:Nat)(t:ww):TG:=λv σ H Q=>∃a xs,v=.ref a/\i7 K H a xs/\xs.length=n/\t xs σ H Q
theorem RJ{es:List Expr}{k:Nat}{t:ww}{n:Nat}(U:X.calm=true)(h:PGs X es t)
  (L:(da es X.env).length=n:=by rfl) (q:(da es X.env).findIdx? (·.1)=none:=by rfl):PG X (.Tuple es k pos) (KC X.K n t):=by
 intro c s σ H v u Q I r g;obtain⟨a,xs,Y,J,O,g⟩:=g;subst Y;cases r;obtain⟨its,C,G,hz⟩:=I.tuple J;refine assign_Tuple_tuple (I.ok.hd U) G (by simp[L,<- O,C.length]) q λh' E=>?_;have I1:Inv X c σ H { s with heap:=h' }:=I.kept (t':=s.toks) λb o e=>E b o (bY (aJ e)) e;exact h c _ σ H xs _ Q I1 (by simpa using C) g
noncomputable def JV(to c:TE)(t:wN):TG:=λv σ H Q=>to σ H λo q=>c σ q λi h=>t o i v h λg=>Q σ g
theorem Qs{o i:Expr}{to J:TE}{t:wN}(ho:PE X o to)(hi:PE X i J)(hs:PSet X t)
  (ha:∀v,mK (.Subscript o i pos) X.env v=(do
   let g <- mL [v] (eval o X.env)
   let G <- mL [v,g] (eval i X.env)
   qe pos
   mL [v,g,G] (qd g G v)
   release [v,g,G] []):=by intro _;rfl):PG X (.Subscript o i pos) (JV to J t):=by
 intro c s σ H v u Q I r h;rw[ha];refine aa (b_ (fE (ho c s σ H _ I h) λg O E=>?_));obtain⟨x,H1,I1,Y,q1⟩:=E;refine aa (b_ (fE (hi c O σ H1 _ I1 q1) λG L C=>?_));obtain⟨y,H2,I2,U,q2⟩:=C;refine aa (i8 (aa (b_ (fE (hs c L σ H2 x y v g G u _ I2 Y U r q2) λ_ s3 q=>?_))));obtain⟨H3,I3,q3⟩:=q;exact wpAny_release ⟨σ,H3,I3,q3⟩
noncomputable def wC(c:TE)(g:TG):TS:=λD σ H=>c σ H λx h=>g x σ h D.nx
theorem V8{tg e : Expr}{u : TE}{g : TG}(Q : PE X e u)(O : PG X tg g)(L : swapsWithSole [tg] e pos.line X.env = pure false := by rfl)(J : swappedStores [tg] e X.env = pure none := by rfl)
  (U:(da [tg] X.env).map (·.2)=[mK tg X.env]:=by rfl):PS X (.Assign [tg] e pos) (wC u g):=by
 intro c s σ H D I h;refine wpAny_Assign_stores (fE (Q c s σ H _ I h) λv C o=>?_) L J;obtain ⟨x,H1,Y,E,G⟩:=o;rw[U];exact fE (O c C σ H1 x v _ Y E G) λ_ s2 q=>q
theorem Oy{i : Nat}{x : Str}{e : Expr}{q : TE}{c : Pos}(Q : X.N.Nodup)(J : X.N[i]? = some x)(E : Loc X.env.scope x)(O : PE X e q)(G : eD e (some (.Name x c)) pos.line X.env = pure false := by rfl)(L : X.fn x = true \/ X.env.scope.names.lookup x = some .local := by first|exact .inl rfl|exact .inr rfl|assumption):
  PS X (.Assign [.Name x c] e pos) (wC q (rH i)):=by
 intro g s σ H D I h;refine BM (fE (O g s σ H _ I h) λv s1 o=>?_) G;obtain ⟨y,H1,Y,u,C⟩:=o;exact CB Y Q J E u (λs2 U=>⟨_,H1,U,C⟩) L
end
section
variable{X:Cx}{pos:Pos}
def zA(c:TT)(tb:TS):TS:=λD σ H=>∃W:Nat->St->Hp->Prop,(∃m,W m σ H)/\∀m σ H,W m σ H ->
 c σ H λb h=>if b=true then ∃N:St->Hp->Prop,(∀σ' H',N σ' H'->∃g,g < m/\W g σ' H')/\tb { D with nx:=N,ct:=N,bk:=D.nx } σ h else D.nx σ h
theorem R_{c:Expr}{o:List Stmt}{U:TT}{tb:TS}(Y:oA (aP X.prog X.w) X.A X.env X.xe)(hc:PT X c U)(hb:PSs X o tb):PS X (.While c o [] pos) (zA U tb):=by
 intro g s σ H D I h;obtain⟨W,⟨m0,w0⟩,turn⟩:=h;refine wpAny_While (codeAny_whileLoop (λn s'=>∃σ' H',Inv X g σ' H' s'/\W n σ' H') ?_ m0 ⟨σ,H,I,w0⟩)
 rintro n s1 ⟨σ1,H1,I1,w1⟩
 refine fY Y (fE (hc g s1 σ1 H1 _ I1 (turn n σ1 H1 w1)) λb s2 q=>?_);obtain⟨H2,I2,E⟩:=q;cases b with
 |true=>
  obtain⟨N,hN,E⟩:=E;rw[aG rfl];refine fY Y (fE (hb g s2 σ1 H2 _ I2 E) λf s3 C=>?_);cases f with
  |next=>
   obtain⟨σ3,u,Q,J⟩:=C;obtain⟨L,O,G⟩:=hN σ3 u J;exact⟨L,O,σ3,u,Q,G⟩
  |cont=>
   obtain⟨σ3,u,Q,J⟩:=C;obtain⟨L,O,G⟩:=hN σ3 u J;exact⟨L,O,σ3,u,Q,G⟩
  |brk=>exact C
  |ret v=>exact C
 |false=>
  rw[az aW];exact eG ⟨σ1,H2,I2,E⟩
end
structure It where
 go:Nat->Hp->Prop
 yld:Nat->Hp->V->Hp->Prop
 stop:Nat->Hp->Prop
def oO(X:Cx)(g:List (af×Obj))(H:Hp)(b:af):Prop:=
 H b=none/\b≠X.env.locals/\b∉X.fs/\(b∈X.ex\/X.s₀.heap.objs.size<=b)/\(∀x c,X.env.cells.lookup x=some c->c≠b)/\∀p∈X.pn++g,p.1≠b
theorem Inv.fpOk{X:Cx}{g:List (af×Obj)}{σ:St}{H o:Hp}{s:ah}{b:af}(I:Inv X g σ H s)(h:s.heap.objs.size<=b)(C:o b=none):oO X g o b:=by
 refine⟨C,gw (bf I.lt h),I.nofs h,.inr (bC I.sz h),λx c e z=>?_,λp u z=>?_⟩
 ·obtain⟨v,q⟩:=I.cell x c e;exact bp (bf q.lt (by rw[z];exact h)) (cY _)
 ·exact bp (bf (aJ (I.pin p u).1) (by rw[z];exact h)) (cY _)
structure sA(P:Program)(w:bq)(K:aj)(tg:Expr)(J:It)(fp:List af)(it:af)(tn:Nat->bh->Prop):Prop where
 mem:it∈fp
 obj:∀i h,tn i h->∀b∈fp,∃o,h.get? b=some o/\∀v,o.data≠.cell v
 keep:∀i h h',tn i h->(∀b∈fp,∀o,h.get? b=some o->h'.get? b=some o)->tn i h'
 item:∀(X:Cx),X.prog=P->X.w=w->X.K=K->X.calm=true->∀(i:Nat)(ao:List (af×Obj))(s:ah)(σ:St)(H:Hp)(E:ac->ah->Prop),Inv X ao σ H s->(∀b∈fp,oO X ao H b)->tn i s.heap->J.go i H ->
  aA (aP P w) X.A (vD (.ref it)) (λr s1=>∃u,r=some u /\
   aA (aP P w) X.A (mW tg (.ref it) u) (λ_ s2=>∃x H',Inv X ao σ H' s2/\RelV x u/\J.yld i H x H'/\tn (i+1) s2.heap/\∀b∈fp,H' b=none) E s1) E s
 done:∀(X:Cx),X.prog=P->X.w=w->X.K=K->X.calm=true->∀(i:Nat)(ao:List (af×Obj))(s:ah)(σ:St)(H:Hp)(E:ac->ah->Prop),Inv X ao σ H s->(∀b∈fp,oO X ao H b)->tn i s.heap->J.stop i H ->
  aA (aP P w) X.A (vD (.ref it)) (λr s1=>r=none/\Inv X ao σ H s1) E s
 self:∀(A:bn)(i:Nat)(s:ah)(Q:ac->ah->Prop)(E:ac->ah->Prop),tn i s.heap->Q (.ref it) s->aA (aP P w) A (pyIter (.ref it)) Q E s
abbrev TI:=St->Hp->(It->Hp->Prop)->Prop
def Mf(X:Cx)(c:List (af×Obj))(σ:St)(tg:Expr)(R:It->Hp->Prop)(g:ac)(q:ah):Prop:=
 ∃(u:af)(v:List af)(o:Nat->bh->Prop)(J:It)(h:Hp),g=.ref u/\Inv X c σ h q/\sA X.prog X.w X.K tg J v u o/\o 0 q.heap/\(∀b∈v,oO X c h b)/\R J h
def PI(X:Cx)(tg iter:Expr)(c:TI):Prop:=
 ∀(ao:List (af×Obj))(s:ah)(σ:St)(H:Hp)(R:It->Hp->Prop),Inv X ao σ H s->c σ H R ->
  aA (aP X.prog X.w) X.A (eval iter X.env) (λv g=>aA (aP X.prog X.w) X.A (pyIter v) (Mf X ao σ tg R) X.xe g) X.xe s
theorem FX{M:xB}{A:bn}{E:ac->ah->Prop}{s:ah}{tg:Expr}{q:af}{u:ac}{o:Obj}{n:String}{g:Array ac}{Q:Unit->ah->Prop}(v:s.heap.get? q=some o)(G:o.cls=.type n)(hd:o.data=.fields g)
  (C:["enumerate","zip","dict_itemiterator","dict_reverseitemiterator","odict_iterator","itertools.zip_longest","itertools.pairwise"].contains n=false) (c:Q () s):aA M A (mW tg (.ref q) u) Q E s:=by
 unfold mW;cases tg<;>first
  |exact ai c
  | (cases u <;> first
    |exact ai c
    | (refine aa (pL v ?_)
       rw[G,hd]
       show aA M A (if (["enumerate","zip","dict_itemiterator","dict_reverseitemiterator","odict_iterator","itertools.zip_longest","itertools.pairwise"].contains n&&g[0]? == some (ik _))=true then _ else _) Q E s;rw[az (by intro h;rw[C,gf]at h;cases h)];exact ai c))
def Gf(K:aj)(a:af):It:=
 ⟨λi H=>∃xs x,ir K H a xs/\xs[i]?=some x,λi H x c=>c=H/\∀xs,ir K H a xs->xs[i]?=some x,λi H=>∃xs,ir K H a xs/\xs.length<=i⟩
def Hf(K:aj)(a:af):It:=
 ⟨λi H=>∃xs x,i7 K H a xs/\xs[i]?=some x,λi H x c=>c=H/\∀xs,i7 K H a xs->xs[i]?=some x,λi H=>∃xs,i7 K H a xs/\xs.length<=i⟩
noncomputable def DE(lo:Int)(n:Nat):It:=⟨λi _=>i < n,λi H x c=>c=H/\x=.int (lo+i),λi _=>n<=i⟩
theorem PN{P:Program}{w:bq}{K:aj}{tg:Expr}(a q:af):sA P w K tg (Gf K a) [q] q (λi h=>h.IsListIter q a i) where
 mem:=by simp
 obj:=λi h st b C=>by
  have e:b=q:=by simpa using C
  subst e;obtain⟨o,e,c,d⟩:=st;exact⟨o,e,λv z=>by rw[d]at z;cases z⟩
 keep:=λi h h' st k=>st.at λo e=>k q (by simp) o e
 item:=by intro X hP U hK hc i g s σ H E I L st Y;subst hP U hK;obtain⟨xs,x,J,Q⟩:=Y;obtain⟨its,O,p,hz⟩:=I.list J;obtain⟨u,hu,ru⟩:=O.get Q;obtain⟨f0,f1,f2,f3,f4,f5⟩:=L q (by simp);refine wpAny_pyNext_list_item st p.isList (x:=u) (by simpa using hu) λh' G sb=>?_;have I1:Inv X g σ H { s with heap:=h' }:=I.turned (t':=s.toks) (λb o C e=>(sb.2 b C).trans e) f0 f1 f3 f4 f5;obtain⟨o,e,c,d⟩:=id G;exact⟨u,rfl,FX (s:={ s with heap:=h' }) e c d (by decide) ⟨x,H,I1,ru,⟨rfl,λys hy=>by rw[I.list_inj hy J];exact Q⟩,G,λb C=>(L b C).1⟩⟩
 done:=by intro X hP U hK hc i g s σ H E I L st Y;subst hP U hK;obtain⟨xs,J,Q⟩:=Y;obtain⟨its,O,p,hz⟩:=I.list J;obtain⟨f0,f1,f2,f3,f4,f5⟩:=L q (by simp);have hl:=O.length;exact wpAny_pyNext_list_end (I.ok.hd hc) st p.isList (by simp;ext) λh' eb=>⟨rfl,I.turned (t':=s.toks) (λb o C e=>eb b o C e) f0 f1 f3 f4 f5⟩
 self:=λ_ _ _ _ _ st h=>wpAny_pyIter_listiter st h
theorem VC{P:Program}{w:bq}{K:aj}{tg:Expr}(a q:af):sA P w K tg (Hf K a) [q] q (λi h=>h.IsTupleIter q a i) where
 mem:=by simp
 obj:=λi h st b C=>by
  have e:b=q:=by simpa using C
  subst e;obtain⟨o,e,c,d⟩:=st;exact⟨o,e,λv z=>by rw[d]at z;cases z⟩
 keep:=λi h h' st k=>st.at λo e=>k q (by simp) o e
 item:=by intro X hP U hK hc i g s σ H E I L st Y;subst hP U hK;obtain⟨xs,x,J,Q⟩:=Y;obtain⟨its,O,p,hz⟩:=I.tuple J;obtain⟨u,hu,ru⟩:=O.get Q;obtain⟨f0,f1,f2,f3,f4,f5⟩:=L q (by simp);refine wpAny_pyNext_tuple_item st (show s.heap.IsTuple a its.toArray from p) (x:=u) (by simpa using hu) λh' G sb=>?_;have I1:Inv X g σ H { s with heap:=h' }:=I.turned (t':=s.toks) (λb o C e=>(sb.2 b C).trans e) f0 f1 f3 f4 f5;obtain⟨o,e,c,d⟩:=id G;exact⟨u,rfl,FX (s:={ s with heap:=h' }) e c d (by decide) ⟨x,H,I1,ru,⟨rfl,λys hy=>by rw[I.tuple_inj hy J];exact Q⟩,G,λb C=>(L b C).1⟩⟩
 done:=by intro X hP U hK hc i g s σ H E I L st Y;subst hP U hK;obtain⟨xs,J,Q⟩:=Y;obtain⟨its,O,p,hz⟩:=I.tuple J;obtain⟨f0,f1,f2,f3,f4,f5⟩:=L q (by simp);have hl:=O.length;exact wpAny_pyNext_tuple_end (I.ok.hd hc) st (show s.heap.IsTuple a its.toArray from p) (by simp;ext) λh' eb=>⟨rfl,I.turned (t':=s.toks) (λb o C e=>eb b o C e) f0 f1 f3 f4 f5⟩
 self:=λ_ _ _ _ _ st h=>wpAny_pyIter_tupleiter st h
theorem S6{P:Program}{w:bq}{K:aj}{tg:Expr}(g:af)(lo:Int)(n:Nat):sA P w K tg (DE lo n) [g] g (λi h=>IsRangeIter h g (lo+(i:Nat)*1) ((n:Int)-(i:Nat)) 1) where
 mem:=by simp
 obj:=λi h st b q=>by
  have e:b=g:=by simpa using q
  subst e;exact⟨_,st,λv z=>by have z':Data.fields _=Data.cell v:=z;cases z'⟩
 keep:=λi h h' st k=>k g (by simp) _ st
 item:=by intro X O G Q L i c s σ H E I C st J;subst O G Q;obtain⟨f0,f1,f2,f3,Y,U⟩:=C g (by simp);have W:=Walks.range (prog:=X.prog) (w:=X.w) (I.ok.hd L) g lo 1 n;refine W.item i s _ _ J st λv h' tk hv u kk=>?_;obtain⟨t,rfl⟩:=hv;have I1:Inv X c σ H { s with heap:=h',toks:=tk }:=I.turned (λb o q e=>kk b o (by simpa using q) e) f0 f1 f3 Y U;refine⟨_,rfl,FX (s:={ s with heap:=h',toks:=tk }) (n:="range_iterator") u rfl rfl (by decide) ⟨.int (lo+i),H,I1,⟨t,?_⟩,⟨rfl,rfl⟩,u,λb q=>(C b q).1⟩⟩;rw[F4]
 done:=by intro X O G Q L i c s σ H E I C st J;subst O G Q;obtain⟨f0,f1,f2,f3,Y,U⟩:=C g (by simp);exact wpAny_pyNext_range_end (I.ok.hd L) st (by have:n<=i:=J;ext) λh' eb=>⟨rfl,I.turned (t':=s.toks) (λb o q e=>eb b o q e) f0 f1 f3 Y U⟩
 self:=λ_ _ _ _ _ st h=>wpAny_pyIter_rangeiter st h
section
variable{X:Cx}{tg:Expr}
theorem LU{g:List (af×Obj)}{σ:St}{H:Hp}{s:ah}{R:It->Hp->Prop}{E:ac->ah->Prop}{lo c:Int}{t u v:Tok}{h:Nat}(I:Inv X g σ H s)(Q : -(2^62)<=lo)(O:lo < 2^62)(L : -(2^62)<=c)(J:c < 2^62)
  (q:R (DE lo (c-lo).toNat) H):aA (aP X.prog X.w) X.A (pyIter (.ref s.heap.objs.size)) (Mf X g σ tg R) E { s with heap:=s.heap.push { cls:=.type "range",data:=.fields #[.int lo t,.int c u,.int 1 v] },toks:=h }:=by
 refine wpAny_pyIter_range (IsRange.new ..) (small_one Q O L J) ?_;have C:Inv X g σ H { s with heap:=s.heap.push { cls:=.type "range",data:=.fields #[.int lo t,.int c u,.int 1 v] },toks:=h }:=I.kept λb o e=>aq _ e;refine⟨(s.heap.push { cls:=.type "range",data:=.fields #[.int lo t,.int c u,.int 1 v] }).objs.size,[(s.heap.push { cls:=.type "range",data:=.fields #[.int lo t,.int c u,.int 1 v] }).objs.size],_,_,H,rfl,
  C.kept (t':=h) λb o e=>aq _ e,S6 _ lo (c-lo).toNat,?_,λb G=>?_,q⟩
 ·have Y:lo+((0:Nat):Int)*1=lo:=by simp
  have U:(((c-lo).toNat:Nat):Int)-((0:Nat):Int)=Builtin.Range.rangeSize lo c 1:=by rw[rangeSize_one];split<;>ext
  show IsRangeIter _ _ (lo+((0:Nat):Int)*1) ((((c-lo).toNat:Nat):Int)-((0:Nat):Int)) 1;rw[Y,U];exact aK _ rfl
 ·have e:b=(s.heap.push { cls:=.type "range",data:=.fields #[.int lo t,.int c u,.int 1 v] }).objs.size:=by simpa using G
  subst e;exact C.fpOk (ax _) (C.hok.fresh (ax _))
def gc(g:TA):TI:=λσ H R=>g σ H λc h=>∃j:Int,c=[.int j] /\ -(2^62)<=j/\j < 2^62/\R (DE 0 j.toNat) h
def m7(g:TA):TI:=λσ H R=>g σ H λc h=>∃i j:Int,c=[.int i,.int j]/\(-(2^62)<=i/\i < 2^62 /\ -(2^62)<=j/\j < 2^62)/\R (DE i (j-i).toNat) h
theorem Wa{a:Expr}{u:TA}{p pos:Pos}(J:Gl X "range")(G:X.mg "range"=none)(L:PA X [a] u)(E:starEach [a] X.env=[(false,eval a X.env)]:=by rfl):PI X tg (.Call (.Name "range" p) [a] [] pos) (gc u):=by
 intro c s σ H R I h;refine Call_ (zQ I J G boot_range (d7 (fE (L pos c s σ H _ I h) λU Y o=>?_) E rfl));obtain ⟨Q,H1,O,v,g⟩:=o;obtain⟨j,e,g,C,q⟩:=g;subst e;cases v with
 |cons r rr=>
  cases rr;obtain⟨t,rfl⟩:=r;exact call_range_1 (LU O (by ext) (by ext) g C (by simpa using q))
theorem Te{a b : Expr}{v : TA}{p pos : Pos}(Q : Gl X "range")(O : X.mg "range" = none)(U : PA X [a, b] v)(L : starEach [a, b] X.env = [(false, eval a X.env), (false, eval b X.env)] := by rfl)(g : starEach [b] X.env = [(false, eval b X.env)] := by rfl):
  PI X tg (.Call (.Name "range" p) [a,b] [] pos) (m7 v):=by
 intro c s σ H R I h;refine Call_ (zQ I Q O boot_range (d7 (fE (U pos c s σ H _ I h) λus s1 u=>?_) (by rw[L,g]) (by rw[g];rfl)));obtain ⟨vs,H1,Y,C,o⟩:=u;obtain⟨i,j,e,⟨o,J,G,E⟩,q⟩:=o;subst e;cases C with
 |cons r rr=>
  cases rr with
  |cons r' rr=>
   cases rr;obtain⟨t,rfl⟩:=r;obtain⟨t',rfl⟩:=r';exact call_range_2 (LU Y o J G E q)
def Kb(o:TI)(g:TG)(tb:TS):TS:=λD σ H=>o σ H λJ u=>∃W:Nat->Nat->St->Hp->Prop,(∃m,W 0 m σ u)/\∀i m σ H,W i m σ H ->
 (J.stop i H/\D.nx σ H)\/(J.go i H/\∃N:St->Hp->Prop,(∀σ' c,N σ' c->∃h,h < m/\W (i+1) h σ' c)/\∀x c,J.yld i H x c->g x σ c λσ2 q=>tb { D with nx:=N,ct:=N,bk:=D.nx } σ2 q)
noncomputable def pE(c:List af)(h:bh):List (af×Obj):=c.filterMap λb=>(h.get? b).map λo=>(b,o)
theorem Fu{c:List af}{h:bh}{b:af}{o:Obj}(g:b∈c)(e:h.get? b=some o):(b,o)∈pE c h:=List.mem_filterMap.mpr ⟨b,g,by rw[e];rfl⟩
theorem U7{c:List af}{h:bh}{p:af×Obj}(g:p∈pE c h):p.1∈c/\h.get? p.1=some p.2:=by
 obtain⟨b,u,e⟩:=List.mem_filterMap.mp g;cases q:h.get? b with
 |none=>rw[q]at e;cases e
 |some o=>
  rw[q]at e;have v:(b,o)=p:=bw e;subst v;exact⟨u,q⟩
theorem Inv.pinned{c:List (af×Obj)}{σ:St}{H:Hp}{s:ah}{g:List af}(I:Inv X c σ H s)(E:∀b∈g,oO X c H b)(C:∀b∈g,∃o,s.heap.get? b=some o/\∀v,o.data≠.cell v):Inv X (c++pE g s.heap) σ H s:=
 I.pins_of λp u=>(br.mp u).elim (λz=>I.pin p (cc _ z)) λz=>by obtain⟨h,e⟩:=U7 z;obtain⟨L,J,G,_⟩:=E p.1 h;obtain⟨o,q,d⟩:=C p.1 h;rw[e]at q;cases q;exact⟨e,L,J,G,d⟩
theorem Inv.unpinned{c g:List (af×Obj)}{σ:St}{H:Hp}{s:ah}(I:Inv X (c++g) σ H s):Inv X c σ H s:=I.pins_of λp h=>I.pin p (cc _ (iH _ h))
theorem KU{iter:Expr}{Q:List Stmt}{wi:TI}{g:TG}{tb:TS}{pos:Pos}(hp:oA (aP X.prog X.w) X.A X.env X.xe)(hc:X.calm=true)(hi:PI X tg iter wi)(hg:PG X tg g)(C:PSs X Q tb)
  (hs:∀x,dQ iter X.env x=pure x:=by intro _;rfl):PS X (.For tg iter Q [] pos) (Kb wi g tb):=by
 intro c s σ H D I h;refine wpAny_For (fE (hi c s σ H _ I h) λv s1 h1=>fE h1 λitv s2 h2=>?_) hs;obtain⟨it,fp,tn,J,H2,e,I2,T,st2,f2,W,⟨m0,w0⟩,turn⟩:=h2;subst e;have q:∀{L:Hp},(∀b∈fp,L b=none)->∀b∈fp,oO X c L b:=λhn b C=>⟨hn b C,(f2 b C).2⟩
 refine codeAny_forLoop_any (λn s'=>∃i σ' L,Inv X c σ' L s'/\tn i s'.heap/\(∀b∈fp,L b=none)/\W i n σ' L) ?_ m0 ⟨0,σ,H2,I2,st2,λb C=>(f2 b C).1,w0⟩
 rintro n s3 ⟨i,σ3,H3,I3,st3,fr3,w3⟩
 rcases turn i n σ3 H3 w3 with ⟨stop,qn⟩|⟨go,N,hN,step⟩
 ·refine fY hp (fE (T.done X rfl rfl rfl hc i c s3 σ3 H3 X.xe I3 (q fr3) st3 stop) λr s4 g=>?_);obtain⟨hr,h⟩:=g;subst hr;exact eG ⟨σ3,H3,h,qn⟩
 ·refine fY hp (fE (T.item X rfl rfl rfl hc i c s3 σ3 H3 X.xe I3 (q fr3) st3 go) λr s4 h=>?_);obtain⟨u,hr,h4⟩:=h;subst hr;refine fY hp (fE h4 λ_ s5 g=>?_);obtain⟨x,H5,I5,r5,y5,U,J⟩:=g;have Q:=I5.pinned (q J) (T.obj _ _ U);refine fY hp (fE (hg _ s5 σ3 H5 x u _ Q r5 (step x H5 y5)) λ_ s6 Y=>?_);obtain⟨σ6,H6,I6,q6⟩:=Y;refine fY hp (fE (C _ s6 σ6 H6 _ I6 q6) λf I O=>?_);have again:∀{σ7:St}{G:Hp},Inv X (c++pE fp s5.heap) σ7 G I->N σ7 G->∃m,m < n/\∃i σ' L,Inv X c σ' L I/\tn i I.heap/\(∀b∈fp,L b=none)/\W i m σ' L:=λ{σ7 G}E H=>by obtain⟨m',hm,w7⟩:=hN σ7 G H;refine⟨m',hm,i+1,σ7,G,E.unpinned,T.keep _ _ _ U λb C o e=>(E.pin (b,o) (cc _ (cc _ (Fu C e)))).1,λb C=>?_,w7⟩;obtain⟨o,e,d⟩:=T.obj _ _ U b C;exact (E.pin (b,o) (cc _ (cc _ (Fu C e)))).2.1
  cases f with
  |next=>obtain⟨σ7,G,E,H⟩:=O;exact again E H
  |cont=>obtain⟨σ7,G,E,H⟩:=O;exact again E H
  |brk=>obtain⟨σ7,G,E,O⟩:=O;exact⟨σ7,G,E.unpinned,O⟩
  |ret v=>obtain⟨x7,σ7,G,E,r7,O⟩:=O;exact⟨x7,σ7,G,E.unpinned,r7,O⟩
end
abbrev R2:=V->V->Hp->VK->Prop
def OpR(X:Cx)(f:ac->ac->Sem ac)(r:R2):Prop:=
 ∀(ao:List (af×Obj))(s:ah)(σ:St)(H:Hp)(x y:V)(v u:ac)(Q:VK),Inv X ao σ H s->RelV x v->RelV y u->r x y H Q ->
  aA (aP X.prog X.w) X.A (f v u) (EP X ao σ Q) X.xe s
def Cr(X:Cx)(f:ac->Sem ac)(r:V->Hp->VK->Prop):Prop:=
 ∀(ao:List (af×Obj))(s:ah)(σ:St)(H:Hp)(x:V)(v:ac)(Q:VK),Inv X ao σ H s->RelV x v->r x H Q ->
  aA (aP X.prog X.w) X.A (f v) (EP X ao σ Q) X.xe s
def CallR(X:Cx)(f:ac)(r:List V->Hp->VK->Prop):Prop:=
 ∀(ao:List (af×Obj))(s:ah)(σ:St)(H:Hp)(xs:List V)(us:List ac)(Q:VK),Inv X ao σ H s->cB xs us->r xs H Q ->
  aA (aP X.prog X.w) X.A (call f us) (EP X ao σ Q) X.xe s
def GJ(X:Cx)(r:V->Hp->(Bool->Hp->Prop)->Prop):Prop:=
 ∀(ao:List (af×Obj))(s:ah)(σ:St)(H:Hp)(x:V)(v:ac)(Q:Bool->Hp->Prop),Inv X ao σ H s->RelV x v->r x H Q ->
  aA (aP X.prog X.w) X.A (truthy v) (TP X ao σ Q) X.xe s
noncomputable def CW(r:R2)(c tb:TE):TE:=λσ H Q=>c σ H λx h=>tb σ h λy g=>r x y g Q
noncomputable def WV(r:V->Hp->VK->Prop)(c:TE):TE:=λσ H Q=>c σ H λx g=>r x g Q
noncomputable def rI(C:Int->Int->Prop)(g:Int->Int->V):R2:=λx y H Q=>∃i j,x=.int i/\y=.int j/\C i j/\Q (g i j) H
noncomputable def zS(g:Int->Int->V):R2:=λx y H Q=>∃i j,x=.int i/\y=.int j/\Q (g i j) H
noncomputable def rU(g:Int->V):V->Hp->VK->Prop:=λx H Q=>∃i,x=.int i/\Q (g i) H
section
variable{X:Cx}{a b c:Expr}{ta tb tc:TE}{pos:Pos}
theorem zC(ha:PE X a ta)(hb:PE X b tb){g:List (af×Obj)}{s:ah}{σ:St}{H:Hp}{R:V->V->Hp->Prop}(I:Inv X g σ H s)
  (h:ta σ H λx G=>tb σ G λy o=>R x y o) {Q:ac->ah->Prop}{f:ac->ac->Sem ac}
  (c:∀v u E x y o,Inv X g σ o E->RelV x v->RelV y u->R x y o->aA (aP X.prog X.w) X.A (f v u) Q X.xe E):
  aA (aP X.prog X.w) X.A (eval a X.env) (λv s₁=>aA (aP X.prog X.w) X.A (eval b X.env) (λu s₂=>aA (aP X.prog X.w) X.A (f v u) Q X.xe s₂) X.xe s₁) X.xe s:=by
 refine fE (ha g s σ H _ I h) λv J C=>?_;obtain⟨x,G,I1,O,Y⟩:=C;refine fE (hb g J σ G _ I1 Y) λu E q=>?_;obtain⟨y,o,I2,L,U⟩:=q;exact c v u E x y o I2 O L U
theorem PV{op:xC}{r:R2}(G:OpR X (eV op) r)(L:PE X a ta)(J:PE X b tb):PE X (.BinOp a op b pos) (CW r ta tb):=by intro g s σ H Q I h;exact wpAny_BinOp (zC L J I h λv u o x y U O E C q=>G g o σ U x y v u Q O E C q)
theorem X8{op:UnaryOp}{r:V->Hp->VK->Prop}(E:Cr X (BN op) r)(G:PE X a ta):PE X (.UnaryOp op a pos) (WV r ta):=by intro g s σ H Q I h;exact UnaryOp_ (fE (G g s σ H _ I h) λv q o=>by obtain⟨x,L,J,u,C⟩:=o;exact E g q σ L x v Q J u C)
theorem r8{f:ac->ac->Sem ac}{C:Int->Int->Prop}{g:Int->Int->Int}
  (rule:∀(i j:Int)(t u:Tok)(s:ah)(Q:ac->ah->Prop)(E:ac->ah->Prop),C i j->Q (.int (g i j) s.toks) { s with toks:=s.toks+1 }->aA (aP X.prog X.w) X.A (f (.int i t) (.int j u)) Q E s):
  OpR X f (rI C λi j=>.int (g i j)):=by
 intro o s σ H x y v u Q I J G h;obtain⟨i,j,rfl,rfl,L,q⟩:=h;obtain⟨t,rfl⟩:=J;obtain⟨t',rfl⟩:=G;exact rule i j t t' s _ _ L ⟨.int (g i j),H,I.tok _,⟨_,rfl⟩,q⟩
theorem Jn{f:ac->ac->Sem ac}{g:Int->Int->Int}
  (rule:∀(i j:Int)(t u:Tok)(s:ah)(Q:ac->ah->Prop)(E:ac->ah->Prop),Q (.int (g i j) s.toks) { s with toks:=s.toks+1 }->aA (aP X.prog X.w) X.A (f (.int i t) (.int j u)) Q E s):
  OpR X f (zS λi j=>.int (g i j)):=by
 intro o s σ H x y v u Q I G C h;obtain⟨i,j,rfl,rfl,q⟩:=h;obtain⟨t,rfl⟩:=G;obtain⟨t',rfl⟩:=C;exact rule i j t t' s _ _ ⟨.int (g i j),H,I.tok _,⟨_,rfl⟩,q⟩
theorem wv{f:ac->ac->Sem ac}{g:Int->Int->Bool}
  (rule:∀(i j:Int)(t u:Tok)(s:ah)(Q:ac->ah->Prop)(E:ac->ah->Prop),Q (.bool (g i j)) s->aA (aP X.prog X.w) X.A (f (.int i t) (.int j u)) Q E s):
  OpR X f (zS λi j=>.bl (g i j)):=by
 intro o s σ H x y v u Q I G C h;obtain⟨i,j,rfl,rfl,q⟩:=h;obtain⟨t,rfl⟩:=G;obtain⟨t',rfl⟩:=C;exact rule i j t t' s _ _ ⟨.bl (g i j),H,I,rfl,q⟩
noncomputable def HS(i j:Int):Prop:=0 < j/\j < 1073741824
noncomputable def Im(i j:Int):Prop:=0<=j/\j<=1000000/\i.natAbs < 2^64
noncomputable def zV(i j:Int):Prop:=(-(2^64) < i/\i < 2^64)\/(-(2^64) < j/\j < 2^64)
theorem zV.ok{i j:Int}(h:zV i j):IntMulOk i j:=by
 rcases h with ⟨o,g⟩|⟨o,g⟩
 ·exact .of_left (intBits_le_64 o g)
 ·exact .of_right (intBits_le_64 o g)
theorem TW:OpR X (eV .Add) (zS λi j=>.int (i+j)):=Jn λ_ _ _ _ _ _ _ q=>add_int q
theorem Rv:OpR X (eV .Mult) (rI zV λi j=>.int (i*j)):=r8 λ_ _ _ _ _ _ _ g q=>mul_int q g.ok
theorem Pq:OpR X (eV .FloorDiv) (rI HS λi j=>.int (i / j)):=r8 λi j _ _ _ _ _ g q=>by have o:(0:Int) < j:=g.1;have h:j < 1073741824:=g.2;exact floordiv_int (by ext) (by rw[Int.fdiv_eq_ediv_of_nonneg i (by ext)];exact q) (.inl (PyProof.noPylong_small (by ext)))
theorem U2:OpR X (eV .Mod) (rI (λ_ j=>0 < j) λi j=>.int (i % j)):=r8 λi j _ _ _ _ _ g q=>by have h:(0:Int) < j:=g;exact mod_int' (by ext) (by rw[Int.fmod_eq_emod_of_nonneg i (by ext)];exact q)
theorem Q9:OpR X (eV .Pow) (rI Im λi j=>.int (i^j.toNat)):=r8 λ_ _ _ _ _ _ _ g q=>pow_int_small g.1 g.2.1 g.2.2 q
theorem U6{f:ac->Sem ac}{g:Int->Int}
  (rule:∀(i:Int)(t:Tok)(s:ah)(Q:ac->ah->Prop)(E:ac->ah->Prop),Q (.int (g i) s.toks) { s with toks:=s.toks+1 }->aA (aP X.prog X.w) X.A (f (.int i t)) Q E s):
  Cr X f (rU λi=>.int (g i)):=by
 intro o s σ H x v Q I u h;obtain⟨i,rfl,q⟩:=h;obtain⟨t,rfl⟩:=u;exact rule i t s _ _ ⟨.int (g i),H,I.tok _,⟨_,rfl⟩,q⟩
theorem X5:Cr X (BN .USub) (rU λi=>.int (-i)):=U6 λ_ _ _ _ _ q=>neg_int q
end
section
variable{X:Cx}{a b c:Expr}{ta tb tc:TE}{pos:Pos}
theorem J_{g:List (af×Obj)}{σ:St}{H:Hp}{s:ah}{Q:VK}{k h:Bool}(I:Inv X g σ H s)(q:Q (.bl k) H)(e:k=h):EP X g σ Q (.bool h) s:=by subst e;exact⟨.bl k,H,I,rfl,q⟩
theorem W8:OpR X (bG .Lt) (zS λi j=>.bl (decide (i < j))):=wv λ_ _ _ _ _ _ _ q=>lt_int q
theorem OS:OpR X (bG .LtE) (zS λi j=>.bl (decide (i<=j))):=wv λ_ _ _ _ _ _ _ q=>le_int q
theorem Ti:OpR X (bG .Gt) (zS λi j=>.bl (decide (j < i))):=wv λ_ _ _ _ _ _ _ q=>gt_int q
theorem WI:OpR X (bG .GtE) (zS λi j=>.bl (decide (j<=i))):=wv λ_ _ _ _ _ _ _ q=>ge_int q
theorem Xa:OpR X (bG .In) (λx y H Q=>∃i j,x=.str i/\y=.str j/\Q (.bl (!(ki j i 0 j.length 1).isEmpty)) H):=by intro g s σ H x y v u Q I C o h;obtain⟨i,j,rfl,rfl,q⟩:=h;obtain⟨t,rfl⟩:=C;obtain⟨t',rfl⟩:=o;exact in_str (J_ I q rfl)
theorem WC:OpR X (bG .Is) (λx y H Q=>y=.non/\Q (.bl (decide (x=.non))) H):=by
 intro o s σ H x y v u Q I g C h;obtain⟨rfl,q⟩:=h;cases C;refine is_none_gen (J_ I q ?_);cases x<;>first
  | (cases g;rfl)
  | (obtain⟨t,rfl⟩:=g;rfl)
theorem Va:OpR X (bG .IsNot) (λx y H Q=>y=.non/\Q (.bl (!decide (x=.non))) H):=by
 intro o s σ H x y v u Q I g C h;obtain⟨rfl,q⟩:=h;cases C;refine isnot_none_gen (J_ I q ?_);cases x<;>first
  | (cases g;rfl)
  | (obtain⟨t,rfl⟩:=g;rfl)
theorem Yb(b:Expr){op:lV}(h:op≠.In:=by decide)(g:op≠.NotIn:=by decide):fC op b=false:=by
 have q:(op == lV.In)=false:=by cases op<;>first|rfl|exact bp rfl h
 have o:(op == lV.NotIn)=false:=by cases op<;>first|rfl|exact bp rfl g
 cases b<;>simp[fC,q,o]
theorem QU{op:lV}{r:R2}(G:OpR X (bG op) r)(O:PE X a ta)(L:PE X b tb)(J:fC op b=false):PE X (.Compare a [op] [b] pos) (CW r ta tb):=by intro g s σ H Q I h;exact wpAny_Compare1 (zC O L I h λv u o x y Y U E C q=>G g o σ Y x y v u Q U E C q) J
noncomputable def yN(t:TE):TT:=λσ H Q=>t σ H λx g=>∃k,x=.bl k/\Q k g
theorem Tk{op:lV}{r:R2}(ho:OpR X (bG op) r)(ha:PE X a ta)(hb:PE X b tb)(hm:fC op b=false):PT X (.Compare a [op] [b] pos) (yN (CW r ta tb)):=by intro g s σ H Q I h;refine wpAny_isTrue_Compare1 (fE (ha g s σ H _ I h) λv G C=>?_) hm;obtain⟨x,H1,I1,O,q1⟩:=C;refine fE (hb g G σ H1 _ I1 q1) λu E q=>?_;obtain⟨y,H2,I2,L,Y⟩:=q;refine fE (ho g E σ H2 x y v u _ I2 O L Y) λc s3 o=>?_;obtain⟨z,H3,I3,J,k,e,U⟩:=o;subst e;cases J;exact du ⟨H3,I3,U⟩
noncomputable def sY(r o:R2)(ta tb tc:TE):TE:=λσ H Q=>ta σ H λx v=>tb σ v λy u=>r x y u λz g=>∃k,z=.bl k /\
 (if k=true then tc σ g λh q=>o y h q Q else Q (.bl false) g)
theorem U3{op o:lV}{r E:R2}(ho:OpR X (bG op) r)(q:OpR X (bG o) E)(ha:PE X a ta)(hb:PE X b tb)(hc:PE X c tc)
  (hm:uH [op,o] [b,c]=false:=by with_unfolding_all rfl):PE X (.Compare a [op,o] [b,c] pos) (sY r E ta tb tc):=by
 intro g s σ H Q I h;refine Compare_chain (fE (ha g s σ H _ I h) λv s1 ⟨x,H1,I1,r1,q1⟩=>chain_link (fE (hb g s1 σ H1 _ I1 q1) λu s2 ⟨y,H2,I2,C,q2⟩=>
  fE (ho g s2 σ H2 x y v u _ I2 r1 C q2) λd s3 ⟨z,L,J,r3,k,e,G⟩=>?_)) hm
 subst e;cases r3;refine du ?_;cases k with
 |false=>exact ite_ff ⟨.bl false,L,J,rfl,G⟩
 |true=>exact ite_tt (chain_last (fE (hc g s3 σ L _ J G) λU Y ⟨O,H4,I4,r4,q4⟩=>q g Y σ H4 y O u U Q I4 C r4 q4))
theorem RI{op o:lV}{r G:R2}(ho:OpR X (bG op) r)(q:OpR X (bG o) G)(ha:PE X a ta)(hb:PE X b tb)(hc:PE X c tc)
  (hm:uH [op,o] [b,c]=false:=by with_unfolding_all rfl):PT X (.Compare a [op,o] [b,c] pos) (yN (sY r G ta tb tc)):=by
 intro g s σ H Q I h;refine isTrue_chain (fE (ha g s σ H _ I h) λv s1 ⟨x,H1,I1,r1,q1⟩=>test_link (fE (hb g s1 σ H1 _ I1 q1) λu s2 ⟨y,H2,I2,E,q2⟩=>
  fE (ho g s2 σ H2 x y v u _ I2 r1 E q2) λd s3 ⟨z,O,L,r3,k,e,J⟩=>?_)) hm
 subst e;cases r3;refine du ?_;cases k with
 |false=>
  obtain⟨k',e',q'⟩:=J;cases e';exact ite_ff ⟨O,L,q'⟩
 |true=>
  refine ite_tt (test_last (fE (hc g s3 σ O _ L J) λY s4 ⟨U,H4,I4,r4,q4⟩=>fE (q g s4 σ H4 y U u Y _ I4 E r4 q4) λd' s5 C=>?_));obtain ⟨z2,H5,I5,r5,k2,e2,q5⟩:=C;subst e2;cases r5;exact du ⟨H5,I5,q5⟩
def AG(K:aj)(x:V)(H:Hp)(k:Bool):Prop:=
 match x with
 | .non=>k=false
 | .bl b=>k=b
 | .int i=>k=(i != 0)
 | .str y=>y.length<=sizeLine/\k=((y.length:Int) != 0)
 | .byt y=>y.size<=sizeLine/\k=((y.size:Int) != 0)
 | .ref p=>(∃xs,ir K H p xs/\k = !xs.isEmpty)\/(∃xs,i7 K H p xs/\k = !xs.isEmpty)\/∃g,H p=some (.dK g)/\k = !g.isEmpty
 |_=>False
theorem Ql{κ:Type}{g:List (κ×V)}{h:List (κ×ac)}(r:KV g h):(!h.isEmpty) = !g.isEmpty:=by cases r<;>rfl
theorem KQ{xs:List V}{its:List ac}(r:cB xs its):(!its.toArray.isEmpty) = !xs.isEmpty:=by cases r<;>simp
theorem AK:(sizeLine:Nat) < 2^63:=by rw[rf];decide
theorem Wr:GJ X (λx H Q=>∃k,AG X.K x H k/\Q k H):=by
 intro L s σ H x v Q I C h;obtain⟨k,e,q⟩:=h;have c:=AK;have Y:sizeLine=16777216:=rf;cases x with
 |non=>
  cases C;have g:k=false:=e;subst g;exact truthy_none ⟨H,I,q⟩
 |bl b=>
  cases C;have g:k=b:=e;subst g;exact du ⟨H,I,q⟩
 |int i=>
  obtain⟨t,rfl⟩:=C;have g:k=(i != 0):=e;subst g;exact PySem.P.truthy_int ⟨H,I,q⟩
 |str y=>
  obtain⟨t,rfl⟩:=C;obtain⟨O,g⟩:y.length<=sizeLine/\k=((y.length:Int) != 0):=e;subst g;exact PySem.P.truthy_str (by ext) ⟨H,I.tok _,q⟩
 |byt y=>
  obtain⟨t,rfl⟩:=C;obtain⟨O,g⟩:y.size<=sizeLine/\k=((y.size:Int) != 0):=e;subst g;exact PySem.W.truthy_bytes (by ext) ⟨H,I.tok _,q⟩
 |ref p=>
  cases C;have g:(∃xs,ir X.K H p xs/\k = !xs.isEmpty)\/(∃xs,i7 X.K H p xs/\k = !xs.isEmpty)\/∃o,H p=some (.dK o)/\k = !o.isEmpty:=e;rcases g with ⟨xs,E,g⟩|⟨xs,E,g⟩|⟨o,E,g⟩
  ·subst g;obtain⟨its,r,J,hz⟩:=I.list E;have u:=r.length;exact wpAny_truthy_list J.isList (by simp only[aH];ext) ⟨H,I.tok _,by rw[KQ r];exact q⟩
  ·subst g;obtain⟨its,r,J,hz⟩:=I.tuple E;have u:=r.length;exact truthy_tuple J (by simp only[aH];ext) ⟨H,I.tok _,by rw[KQ r];exact q⟩
  ·subst g;obtain⟨hz,U,G,r,m⟩:o.length<=sizeLine/\(p == eU)=false/\∃G,KV o G/\s.heap.DictOf (fH X.prog X.w) p G:=I.hok p _ E;have u:o.length=G.length:=e8 r;exact wpAny_truthy_dict U m (by ext) ⟨H,I.tok _,by rw[Ql r];exact q⟩
 |_=>exact (show False from e).elim
theorem SJ(J:PE X a ta)(G:∀whole,isTrue a X.env whole=(do let v <- whole; qe a.pos; mL [v] (truthy v))):
  PT X a (λσ H Q=>ta σ H λx q=>∃k,AG X.K x q k/\Q k q):=by
 intro g s σ H Q I h;exact isTrue_plain (fE (J g s σ H _ I h) λv u o=>by obtain⟨x,O,L,C,E⟩:=o;exact Wr g u σ O x v Q L C E) (G _)
theorem RE:OpR X (eV .Add) (λx y H Q=>∃i j,x=.str i/\y=.str j/\i.length+j.length<=sizeLine/\Q (.str (i++j)) H):=by intro g s σ H x y v u Q I C o h;obtain⟨i,j,rfl,rfl,hz,q⟩:=h;obtain⟨t,rfl⟩:=C;obtain⟨t',rfl⟩:=o;exact add_str (λt' E=>⟨.str (i++j),H,I.tok _,⟨_,rfl⟩,q⟩) hz
theorem uF{x:V}{g:List ac}(r:cB [x] g):∃u,g=[u]/\RelV x u:=by
 cases r with
 |cons r1 r2=>cases r2;exact⟨_,rfl,r1⟩
theorem Vf{x y:V}{h:List ac}(r:cB [x,y] h):∃u g,h=[u,g]/\RelV x u/\RelV y g:=by
 cases r with
 |cons r1 r2=>
  cases r2 with
  |cons r3 r4=>cases r4;exact⟨_,_,rfl,r1,r3⟩
theorem Ur:CallR X (.type "str") (λxs H Q=>∃i,xs=[.int i]/\i.natAbs.log2 < 1920/\Q (.str (toString i)) H):=by intro g s σ H xs o Q I r h;obtain⟨i,rfl,hz,q⟩:=h;obtain⟨u,rfl,t,rfl⟩:=uF r;exact PySem.P.str_of_int hz ⟨.str _,H,I.tok _,⟨_,rfl⟩,q⟩
end
structure zE(h:bh)(x dx C:af)(mA:Str->Option ac):Prop where
 obj:h.get? x=some (oY C dx)
 ns:h.Ns1 dx mA
 ne:dx≠x
theorem VL{h:bh}{v:af}{u:Str->Option ac}(n:h.Ns1 v u):∃g,h.get? v=some g/\∀name,pM name g=some (u name):=by
 obtain⟨o,es,J,E,hd,H,_,G⟩:=n;refine⟨o,E,λname=>?_⟩;have e:=G name;unfold nsFind findBy at e;rw[<- uo]at e;unfold pM;rw[hd];dsimp only;split
 ·rename_i y q;rw[q]at e;exact bH some e
 ·rename_i q;rw[q]at e;have a:es.toList.any (·.refKey)=false:=by rw[List.any_eq_false];intro y C;obtain⟨z,t,c⟩:=H y (Array.mem_toList_iff.mp C);simp[oE.refKey,c]
  have I:¬ es.toList.any (·.refKey)=true:=by rw[a];exact aW
  rw[az I];exact bH some e
theorem zE.look{h:bh}{x o C:af}{g:Str->Option ac}(I:zE h x o C g):∃c,PySem.W.InstAt h x (oY C o) C (some c)/\∀name,pM name c=some (g name):=
 let ⟨c,ho,hl⟩:=VL I.ns
 ⟨c,⟨I.obj,rfl,rfl,ho⟩,hl⟩
theorem nh.some_of{v:V}{o:Option ac}(r:nh (some v) o):∃u,o=some u/\RelV v u:=by
 cases o with
 |none=>exact (show False from r).elim
 |some u=>exact⟨u,rfl,r⟩
section
variable{P:Program}{w:bq}{H H':Hp}{h h':bh}{a C dx:af}{fs h7:List (Str×V)}
theorem XI(g:lL P w H h)(e:H a=some (.ins C dx fs)):∃c,zE h a dx C c/\(∀f,nh (fs.lookup f) (c f))/\AZ c (fs.map (·.1))/\fs.length<=1000/\H dx=some (.own a):=by
 obtain⟨d,z,ne,ob,c,n,r,q⟩:=(show dE P w H h a (.ins C dx fs) from g a _ e)
 exact⟨c,⟨ob,n,ne⟩,r,q,z,d⟩
end
structure GN(K:aj)(C:af):Prop where
 pg:uq K C xD=true
 hd:PySem.W.hasDictIn K C=true
 po:PySem.W.plainOver K C=true
 sa:vE K (.ref C) "__setattr__"=some (some (.builtin "object.__setattr__"))
theorem GN.get{K:aj}{C:af}(c:GN K C)(f:Str):uq K C f=true:=c.pg
section
variable{X:Cx}{ao:List (af×Obj)}{σ:St}{H:Hp}{s:ah}{a C dx:af}{fs:List (Str×V)}{f:Str}{v:V}{A:bn}{E:ac->ah->Prop}
theorem Xu{prog:Program}{w:bq}{env:Env}{e:Expr}{f:Str}{pos:Pos}{s:ah}{Q:ac->ah->Prop}(c:cR e f env (eval e env)=eval e env)
  (h:aA (aP prog w) A (eval e env) (λo s₁=>aA (aP prog w) A (getAttr o f true) Q E s₁) E s):aA (aP prog w) A (eval (.Attribute e f pos) env) Q E s:=
 Attribute_any_ h (by rw[arm_eval_Attribute,c])
end
section
variable{X:Cx}{o e value:Expr}{f:Str}{pos fe hL:Pos}{ta tv:TE}
noncomputable def EB:V->V->Hp->VK->Prop:=λx y H Q=>∃i j,x=.int i/\y=.int j/\Q (.int (i-j)) H
end
section
variable{X:Cx}{ao:List (af×Obj)}{σ:St}{H:Hp}{s:ah}{A:bn}{E:ac->ah->Prop}{Q:ac->ah->Prop}{c:ac}{b:Bool}
inductive oQ(K:aj)(H:Hp):V->ac->Prop where
 |non:oQ K H .non (.type "NoneType")
 |bl (x:Bool):oQ K H (.bl x) (.type "bool")
 |int (i:Int):oQ K H (.int i) (.type "int")
 |str (x:Str):oQ K H (.str x) (.type "str")
 |flt (x:UInt64):oQ K H (.flt x) (.type "float")
 |lst {a:af}{xs:List V} (e:H a=some (.lst xs)):oQ K H (.ref a) (.type "list")
 |frz {a:af}{o:Obj}{xs:List V} (e:H a=some (.frz o (.lst xs))):oQ K H (.ref a) (.type "list")
 |tup {a:af}{xs:List V} (e:H a=some (.tup xs)):oQ K H (.ref a) (.type "tuple")
 |dK {a:af}{bb:List (Key×V)} (e:H a=some (.dK bb)):oQ K H (.ref a) (.type "dict")
 |dT {a:af}{bb:List (List Key×V)} (e:H a=some (.dT bb)):oQ K H (.ref a) (.type "dict")
 |ins {a C dx : af} {fs : List (Str×V)} (e : H a = some (.ins C dx fs)) (cl : GN K C) (ha : vE K (.ref C) "__class__" = some (some (.builtin "object.__class__")))
   (hn:PySem.W.specialIn K (.builtin "object.__class__") "__get__"=some (some (.builtin "getset_descriptor.__get__"))) (htk:PySem.W.takesIn K (.builtin "object.__class__")=some true)
   (hm:PySem.W.mroIn K C (.type "object")=some true):oQ K H (.ref a) (.ref C)
theorem FT{x:V}{u t:ac}(I:Inv X ao σ H s)(g:RelV x u)(ty:oQ X.K H x t)(e:fk X.K t c=some b)(h:∀L,Q (.bool b) { s with toks:=L }):
  aA (aP X.prog X.w) A (call (.builtin "isinstance") [u,c]) Q E s:=by
 cases ty with
 |non=>cases (show u=bO from g);exact cH PySem.W.kitx_none I.kIn eN e (λz=>(by cases z)) h
 |bl y=>cases (show u=dS y from g);exact cH PySem.W.kitx_bool I.kIn eN e (λz=>(by cases z)) h
 |int i=>obtain⟨t,q⟩:=(show ∃t,u=gR i t from g);cases q;exact cH PySem.W.kitx_int I.kIn eN e (λz=>(by cases z)) h
 |str y=>obtain⟨t,q⟩:=(show ∃t,u=gS y t from g);cases q;exact cH PySem.W.kitx_str I.kIn eN e (λz=>(by cases z)) h
 |flt y=>obtain⟨t,q⟩:=(show ∃t,u=BJ y t from g);cases q;exact cH PySem.W.kitx_float I.kIn eN e (λz=>(by cases z)) h
 |@lst a xs ea=>
  cases (show u=av a from g);obtain⟨_,_,n,_,v⟩:=(show dE X.prog X.w H s.heap a (.lst xs) from I.hok a _ ea)
  exact cH nG I.kIn ⟨_,v,rfl⟩ e (λz=>(by cases z)) h
 |@frz a ob xs ea=>
  cases (show u=av a from g);obtain⟨_,_,_,n,_,v⟩:=(show dE X.prog X.w H s.heap a (.frz ob (.lst xs)) from I.hok a _ ea)
  exact cH nG I.kIn ⟨_,v,rfl⟩ e (λz=>(by cases z)) h
 |@tup a xs ea=>
  cases (show u=av a from g);obtain⟨_,_,_,p⟩:=(show dE X.prog X.w H s.heap a (.tup xs) from I.hok a _ ea)
  obtain⟨o,v,G,_⟩:=p;exact cH tj I.kIn ⟨o,v,G⟩ e (λz=>(by cases z)) h
 |@dK a bb ea=>
  cases (show u=av a from g);obtain⟨_,_,Y,_,p⟩:=(show dE X.prog X.w H s.heap a (.dK bb) from I.hok a _ ea)
  obtain⟨o,es,U,v,G,_⟩:=p;exact cH tK I.kIn ⟨o,v,G.1⟩ e (λz=>(by cases z)) h
 |@dT a bb ea=>
  cases (show u=av a from g);obtain⟨_,_,xs,_,o,es,U,v,G,_⟩:=(show dE X.prog X.w H s.heap a (.dT bb) from I.hok a _ ea)
  exact cH tK I.kIn ⟨o,v,G.1⟩ e (λz=>(by cases z)) h
 |@ins a C dx fs ea cl ha hn htk hm=>
  cases (show u=av a from g);obtain⟨mA,O,_⟩:=XI I.hok ea;obtain⟨od,J,_⟩:=O.look;exact cH (PySem.W.kitx_own (cl.get _) cl.hd ha hn htk hm) I.kIn J e (λz=>(by cases z)) h
end
structure fo(k:Nat)(A:bn):Prop where
 hd:A.handled=none
 dp:A.depth+3*k+5 < recursionLimit
 un:A.units+16*k+200 < dM
theorem fo.mono{j k:Nat}{A:bn}(r:fo k A)(h:j<=k):fo j A:=⟨r.hd,by have:=r.dp;ext,by have:=r.un;ext⟩
theorem fo.deeper{k:Nat}{A:bn}(r:fo (k+1) A)(env:Env):fo k (A.deeper env):=
 ⟨r.hd,by have:=r.dp;show A.depth+1+3*k+5 < _;ext,by have:=r.un;show A.units+3+16*k+200 < _;ext⟩
theorem VT{A:bn}{C:af}{c:List ac}{g:List (Str×ac)}:(A.under (.builtin "type.__call__" ⟨.ref C::c,g⟩)).depth=A.depth+1:=by first|rfl|simp[rg,Code.weight,Code.isCreation,Code.isGuard,Code.isCaller,EN,si,guardIds]
theorem Vk{A:bn}{C:af}{c:List ac}{g:List (Str×ac)}:(A.under (.builtin "type.__call__" ⟨.ref C::c,g⟩)).units=A.units+1:=by first|rfl|simp[rg,Code.cUnits,EN,si]
theorem fo.make{k:Nat}{A:bn}(r:fo (k+1) A)(C:af)(c:List ac)(g:List (Str×ac)):fo k (A.under (.builtin "type.__call__" ⟨.ref C::c,g⟩)):=
 ⟨r.hd,by have:=r.dp;rw[VT];ext,by have:=r.un;rw[Vk];ext⟩
theorem fo.depth{k:Nat}{A:bn}(r:fo k A):A.depth < recursionLimit:=by have:=r.dp;ext
theorem fo.units{k:Nat}{A:bn}(r:fo k A):A.units+64 < dM:=by have:=r.un;ext
noncomputable def DO:TA:=λ_ H Q=>Q [] H
noncomputable def yJ(g:TE)(c:TA):TA:=λσ H Q=>g σ H λx o=>c σ o λxs h=>Q (x::xs) h
section
variable{X:Cx}{e:Expr}{es:List Expr}{te:TE}{t:TA}{pos:Pos}
theorem qp:PA X [] DO:=λ_ _ _ _ H Q I h=>Calls.spliced_nil ⟨[],H,I,.nil,h⟩
theorem n8(O:PE X e te)(L:PA X es t)(J:starEach (e::es) X.env=(false,eval e X.env)::starEach es X.env:=by rfl):PA X (e::es) (yJ te t):=by
 intro pos c s σ H Q I h;rw[J]
 show aA _ _ (spliced ((false,eval e X.env)::backTo pos (starEach es X.env))) _ _ s;refine Calls.spliced_cons (fE (O c s σ H _ I h) λu q o=>?_);obtain⟨x,H1,Y,C,G⟩:=o;exact fE (L pos c q σ H1 _ Y G) λus s2 g=>by obtain⟨xs,H2,U,v,E⟩:=g;exact⟨x::xs,H2,U,.cons C v,E⟩
def IJ(t:TA):TE:=λσ H Q=>t σ H λxs c=>xs.length<=sizeLine/\∀p,c p=none->Q (.ref p) (eO c p (.tup xs))
def Gn(t:TA):TE:=λσ H Q=>t σ H λxs c=>xs.length<=sizeLine/\∀p,c p=none->Q (.ref p) (eO c p (.lst xs))
theorem LP{C}(h:PA X es t):PE X (.Tuple es C pos) (IJ t):=by intro c s σ H Q I G;refine wpAny_Tuple_spliced (fE (h pos c s σ H _ I G) λE g ⟨xs,v,o,r,z,q⟩=>⟨by rw[<- r.length];exact z,?_⟩);have J:v g.heap.objs.size=none:=o.hok.fresh (ax _);refine⟨.ref g.heap.objs.size,eO v g.heap.objs.size (.tup xs),o.laid (t':=g.toks) (λb u e=>aq _ e) (ax _) ?_,rfl,q _ J⟩;exact⟨z,E,r,⟨_,aK _ rfl,rfl,⟨_,rfl⟩,rfl⟩⟩
theorem UB(h:PA X es t):PE X (.List es pos) (Gn t):=by intro c s σ H Q I E;refine wpAny_List_spliced (fE (h pos c s σ H _ I E) λC g ⟨xs,v,o,r,z,q⟩=>⟨by rw[<- r.length];exact z,?_⟩);have G:v g.heap.objs.size=none:=o.hok.fresh (ax _);refine⟨.ref g.heap.objs.size,eO v g.heap.objs.size (.lst xs),o.laid (t':=g.toks) (λb u e=>aq _ e) (ax _) ?_,rfl,q _ G⟩;exact⟨z,C,0,r,aK _ rfl⟩
end
abbrev Sp:=List V->Hp->VK->XK->Prop
abbrev sG:=List Env->Hp->ah->XK->ac->ah->Prop
structure qS(P:Program)(w:bq)(K:aj)(mg:Str->Option ac)(base:bh)(A:bn)(outer:List Env)(s:ah)(H:Hp):Prop where
 frames:A.frames=some outer
 mod:Mod K mg base
 bs:∀b o,base.get? b=some o->s.heap.get? b=some o/\H b=none
 bsz:base.objs.size<=s.heap.objs.size
 funs:s.heap.FunFrames base outer
 frf:∀b∈sX outer,H b=none
 hok:lL P w H s.heap
 bare:kJ s.gens
def CE(outer:List Env)(P:Program)(w:bq)(H:Hp)(s:ah)(Q:VK)(u:ac)(s':ah):Prop:=
 ∃v c,s'.os=s.os/\kJ s'.gens/\Un (sX outer) [] H c s.heap s'.heap/\lL P w c s'.heap/\RelV v u/\Q v c
def CR(CX:sG)(outer:List Env)(P:Program)(w:bq)(H:Hp)(s:ah)(Q:VK)(E:XK)(r:Result)(s':ah):Prop:=
 match r with
 | .ok (.ret u)=>CE outer P w H s Q u s'
 | .ok _=>False
 | .error e=>CX outer H s E e s'
structure fV(P:Program)(w:bq)(K:aj)(mg:Str->Option ac)(base:bh)(CX:sG)(k:Nat)(f:af)(fd:bN)(ps:List Str)(sp:Sp):Prop where
 len:∀vs H Q E,sp vs H Q E->vs.length=ps.length
 run:∀(A:bn)(outer:List Env)(s:ah)(H:Hp)(args:Args)(us:List ac)(vs:List V)(Q:VK)(E:XK),fo k A->qS P w K mg base A outer s H->lv s fd args (ps.zip us)->cB vs us->sp vs H Q E ->
  mM (aP P w) A (.call (.ref f) args) (CR CX outer P w H s Q E) s
theorem qS.make{P:Program}{w:bq}{K:aj}{mg:Str->Option ac}{base:bh}{A:bn}{outer:List Env}{s:ah}{H:Hp}(e:qS P w K mg base A outer s H)(C:af)(c:List ac)(g:List (Str×ac)):
  qS P w K mg base (A.under (.builtin "type.__call__" ⟨.ref C::c,g⟩)) outer s H:=⟨by first|exact e.frames|(simpa [rg,Code.envs,si,pushEnvs] using e.frames),e.mod,e.bs,e.bsz,e.funs,e.frf,e.hok,e.bare⟩
section
variable{X:Cx}{ao:List (af×Obj)}{σ:St}{H:Hp}{s s':ah}
theorem Inv.env0(I:Inv X ao σ H s):qS X.prog X.w X.K X.mg X.base X.A X.stack s H:=
 ⟨I.ok.frames,I.ok.mod,I.bs,bC I.ok.bsz I.sz,I.stack,I.stkFree,I.hok,I.bare⟩
theorem Inv.after{Q:VK}{u:ac}(I:Inv X ao σ H s)(h:CE X.stack X.prog X.w H s Q u s'):EP X ao σ Q u s':=by obtain⟨v,E,os,c,un,C,r,q⟩:=h;obtain⟨hh,g,d,t,o⟩:=s';obtain rfl:o=s.os:=os;exact⟨v,E,I.call (h':=hh) (g':=g) (d':=d) (t':=t) (ch:=[]) un C c (λb z=>bp z (by simp)),r,q⟩
end
noncomputable def DU(sp:Sp)(c:List V)(E:XK)(t:TA):TE:=λσ H Q=>t σ H λg h=>sp (g++c) h Q E
noncomputable def Binds(K:aj)(g:bN)(ps:List Str)(ds:List ac):Prop:=
 ∀(s:ah)(c:List ac),K.In s.heap->(c++ds).length=ps.length->lv s g ⟨c,[]⟩ (ps.zip (c++ds))
theorem Binds.all{K:aj}{o:bN}{ps:List Str}(h:∀c:List ac,c.length=ps.length->lW o ⟨c,[]⟩=pure (ps.zip c)):Binds K o ps []:=λs c _ g=>by rw[cg]at g ⊢;exact .of_eq (h c g)
def pC(CX:sG)(X:Cx)(E:XK):Prop:=∀(ao:List (af×Obj))(σ:St)(H:Hp)(s:ah)(e:ac)(s':ah),Inv X ao σ H s->CX X.stack H s E e s'->X.xe e s'
section
variable{X:Cx}{CX:sG}{k:Nat}{f C:af}{fd:bN}{ps:List Str}{sp:Sp}{fg:List V}{ds:List ac}{E:XK}{x m:Str}{p pos b3:Pos}{e o:Expr}{es:List Expr}{ta:TE}{t:TA}
theorem Qb{c:List (af×Obj)}{σ:St}{H:Hp}{s:ah}{Q:VK}{g:List ac}{v:List V}(F:fV X.prog X.w X.K X.mg X.base CX k f fd ps sp)(L:fo k X.A)(U:Binds X.K fd ps ds)(hd:cB fg ds)(J:pC CX X E)
  (I:Inv X c σ H s) (r:cB v g) (h:sp (v++fg) H Q E):aA (aP X.prog X.w) X.A (call (.ref f) g) (EP X c σ Q) X.xe s:=by
 have G:cB (v++fg) (g++ds):=r.append hd;have O:(g++ds).length=ps.length:=by rw[<- G.length];exact F.len _ _ _ _ h
 refine im (iA (F.run X.A X.stack s H ⟨g,[]⟩ (g++ds) (v++fg) Q E L I.env0 (U s g I.kIn O) G h) λr s' q=>?_);cases r with
 |error e=>exact J c σ H s e s' I q
 |ok fl=>
  cases fl with
  |ret u=>exact I.after q
  |next=>exact bK q
  |brk=>exact bK q
  |cont=>exact bK q
theorem Je(F:fV X.prog X.w X.K X.mg X.base CX k f fd ps sp)(J:fo k X.A)(U:Gl X x)(L:X.mg x=some (.ref f))(O:fm X.K (.ref f)=true)(o:Binds X.K fd ps ds)(hd:cB fg ds)(G:pC CX X E)
  (C:PA X (e::es) t) (u:(x == ("__debug__":Str))=false:=by decide) (Y:starEach (e::es) X.env=(false,eval e X.env)::starEach es X.env:=by rfl) (g:(backTo pos (starEach es X.env)).any (·.1)=false:=by rfl):
  PE X (.Call (.Name x p) (e::es) [] pos) (DU sp fg E t):=by
 intro c s σ H Q I h;refine eW (Bg I U L ?_ u);refine mO (h₀:=X.base) I.ok.mod.kin O (fE (C pos c s σ H _ I h) λus s1 ⟨vs,H1,v,r,q⟩=>⟨v.kIn,?_⟩) Y g;exact Qb F J o hd G v r q
end
def PK(X:Cx)(c:List di)(t:TA):Prop:=
 ∀(pos:Pos)(ao:List (af×Obj))(s:ah)(σ:St)(H:Hp)(Q:List V->Hp->Prop),Inv X ao σ H s->t σ H Q->aA (aP X.prog X.w) X.A (evalAll ((dZ pos (cz c X.env)).map (·.2))) (AP X ao σ Q) X.xe s
section
variable{X:Cx}{CX:sG}{k:Nat}{f C:af}{fd:bN}{ps ks:List Str}{sp:Sp}{E:XK}{x m:Str}{p pos b3 ft:Pos}{e o:Expr}{es:List Expr}{d3:List di}{te ta:TE}{t tk:TA}{nm:Option Str}
theorem SW:PK X [] DO:=λ_ _ _ _ H Q I h=>wpAny_evalAll_nil ⟨[],H,I,.nil,h⟩
theorem US(Y:PE X e te)(U:PK X d3 t):PK X (⟨nm,e,ft⟩::d3) (yJ te t):=by
 intro pos c s σ H Q I h
 show aA _ _ (evalAll ((do let v <- eval e X.env;qe pos;pure v)::(dZ pos (cz d3 X.env)).map (·.2))) _ _ s;refine wpAny_evalAll_cons (aa (fE (Y c s σ H _ I h) λu q ⟨x,H1,C,J,O⟩=>aa (i8 (ai ?_))));exact fE (U pos c q σ H1 _ C O) λus s2 g=>by obtain⟨xs,E,o,G,L⟩:=g;exact⟨x::xs,E,o,.cons J G,L⟩
variable{g:List ac->List ac->List ac}{gV:List V->List V->List V}
end
structure iq(N P:List Str)(sc:dD):Prop where
 kind:sc.kind=.function
 co:sc.isCoroutine=false
 gen:sc.isGenerator=false
 nd:N.Nodup
 pre:N.take P.length=P
 par:∀x∈P,sc.names.lookup x=some .local\/sc.names.lookup x=some .cell
 nofree:∀y∈sc.names,y.2≠.free
theorem Om{kindOf:Str->Option eK}{x:Str}:∀{binds:List (Str×ac)}{m:Str->Option ac},(∀v,(x,v)∉binds)->uI kindOf binds m x=m x
 |[],_,_=>rfl
 | (n,v)::r,m,h=>by
  unfold uI;rw[Om λw c=>h w (aT _ c)];split
  ·have:x≠n:=by rintro rfl;exact h v bQ
   simp[this]
  ·rfl
theorem NY{kindOf:Str->Option eK}{x:Str}:∀{binds:List (Str×ac)}{m:Str->Option ac},(∀v,(x,v)∉binds)->uJ kindOf binds m x=m x
 |[],_,_=>rfl
 | (n,v)::r,m,h=>by
  unfold uJ;rw[NY λw c=>h w (aT _ c)];split
  ·rfl
  ·have:x≠n:=by rintro rfl;exact h v bQ
   simp[this]
theorem Mt{kindOf:Str->Option eK}{x:Str}{v:ac}: ∀{P:List Str}{c:List ac}{i:Nat}{m:Str->Option ac},P.Nodup->P[i]?=some x->c[i]?=some v->kindOf x=some .local ->
  uI kindOf (P.zip c) m x=some v
 |[],_,_,_,_,h,_,_=>by simp at h
 |_::_,[],_,_,_,_,h,_=>by simp at h
 |p::P,w::c,0,m,nd,h1,h2,hk=>by
  simp at h1 h2;subst h1;subst h2
  show uI kindOf ((p,w)::P.zip c) m p=_;unfold uI;rw[Om λv g=>(lC.mp nd).1 (pV g).1,aG hk];simp
 |p::P,w::c,i+1,m,nd,h1,h2,hk=>by show uI kindOf ((p,w)::P.zip c) m x=_;unfold uI;exact Mt (i:=i) (lC.mp nd).2 (by simpa using h1) (by simpa using h2) hk
theorem Lg{kindOf:Str->Option eK}{x:Str}{v:ac}: ∀{P:List Str}{c:List ac}{i:Nat}{m:Str->Option ac},P.Nodup->P[i]?=some x->c[i]?=some v->kindOf x≠some .local ->
  uJ kindOf (P.zip c) m x=some v
 |[],_,_,_,_,h,_,_=>by simp at h
 |_::_,[],_,_,_,_,h,_=>by simp at h
 |p::P,w::c,0,m,nd,h1,h2,hk=>by
  simp at h1 h2;subst h1;subst h2
  show uJ kindOf ((p,w)::P.zip c) m p=_;unfold uJ;rw[NY λv g=>(lC.mp nd).1 (pV g).1,az hk];simp
 |p::P,w::c,i+1,m,nd,h1,h2,hk=>by show uJ kindOf ((p,w)::P.zip c) m x=_;unfold uJ;exact Lg (i:=i) (lC.mp nd).2 (by simpa using h1) (by simpa using h2) hk
noncomputable def start(N:List Str)(c:List V):St:=c.map some++cL (N.length-c.length) none
noncomputable def mD(CX:sG)(P:Program)(w:bq)(K:aj)(mg:Str->Option ac)(base:bh)(N:List Str)(qual:Str)(scope:dD)(f:af)(g:ac)(A:bn)(outer:List Env)(s:ah)(H:Hp)(E:XK):Cx where
 prog:=P
 w:=w
 K:=K
 mg:=mg
 base:=base
 A:=A.deeper (iB qual scope s.heap.objs.size f g)
 N:=N
 s₀:=s
 H₀:=H
 env:=iB qual scope s.heap.objs.size f g
 outer:=outer
 stack:=iB qual scope s.heap.objs.size f g::outer
 ex:=[]
 calm:=true
 fn:=λ_=>true
 pn:=[]
 xe:=λe s'=>aA (aP P w) (A.deeper (iB qual scope s.heap.objs.size f g)) (leaving (iB qual scope s.heap.objs.size f g) e) (λ_ c=>CX outer H s E e c) (λh c=>CX outer H s E h c) s'
theorem LO{sc:dD}{n:Nat}{x:Str}(h:sc.names.lookup x=some .cell):∃c,(dj n sc.names []).lookup x=some c:=by have q:=kQ sc.names n [] (.inl h);exact qF.mp q
theorem T0{CX:sG}{P:Program}{w:bq}{K:aj}{mg:Str->Option ac}{base:bh}{N ps:List Str}{qual:Str}{scope:dD}{f:af}{Q:ac}{A:bn}{outer:List Env}{s Y:ah}{H:Hp}{E:XK}{U:List ac}{C:List V}
  (S:iq N ps scope) (hd:A.handled=none) (o:qS P w K mg base A outer s H) (hl:C.length=ps.length) (r:cB C U)
  (x:InCallC s s.heap.objs.size (uI (iB qual scope s.heap.objs.size f Q).kindOf (ps.zip U) λ_=>none) (dj (s.heap.objs.size+1) scope.names []) (uJ (iB qual scope s.heap.objs.size f Q).kindOf (ps.zip U) λ_=>none) Y):
  Inv (mD CX P w K mg base N qual scope f Q A outer s H E) [] (start N C) H Y:=by
 have hpl:ps.length<=N.length:=by have:=bH b6 S.pre;rw[b5]at this;ext
 obtain⟨O,tk,rfl,hk⟩:=x.done;have qz:∀b:af,b∉(mD CX P w K mg base N qual scope f Q A outer s H E).ex:=λb z=>bp (show b∈([]:List af) from z) (by simp);refine⟨⟨o.mod,S.kind,rfl,rfl,ax _,λy z c O g=>?_,λy G=>?_,λy c _ h=>?_,λ_=>hd,bn.frames_deeper o.frames,.inr ⟨rfl,rfl⟩,λb z=>bp z (qz b),o.bs,o.bsz,λb _ _=>qz b,λb z=>bp z (qz b),o.funs,o.frf⟩,
  rfl,o.bare,Un.kept hk,⟨_,x.toInCall.ns,λi y v O g h3=>?_⟩,λy c h=>⟨_,x.cell y c h⟩,o.hok.fresh (ax _),λy c h=>?_,λp J=>bp (show p∈([]:List (af×Obj)) from J) (by simp),o.hok.kept hk,?_⟩
 ·exact name_of_addr x.apart (dH O) (dH g)
 ·have G:scope.names.lookup y=some .cell\/scope.names.lookup y=some .free:=G;rcases G with G|G
  ·exact LO G
  ·exact bp rfl (S.nofree _ (dH G))
 ·exact td (x.above y c (dH h))
 ·have L : i < C.length := by
    unfold start at g;by_cases L:i < C.length
    ·exact L
    ·rw[a_ (by simpa using L)]at g;rw[gZ]at g;split at g<;>cases g
  have o:C[i]?=some v:=by
   unfold start at g;rw[aL (by simpa using L),aD]at g;cases e:C[i]? with
   |none=>rw[e]at g;cases g
   |some a=>rw[e]at g;cases g;rfl
  obtain⟨u,hu,h⟩:=r.get o;have J:ps[i]?=some y:=by rw[<- S.pre,kL (by ext)];exact O
  have I:ps.Nodup:=by rw[<- S.pre];exact S.nd.sublist (List.take_sublist _ _)
  refine⟨u,h,?_⟩;rcases S.par y (bo J) with k|k
  ·exact .inl ⟨k,Mt I J hu k⟩
  ·obtain⟨c,e⟩:=LO (n:=s.heap.objs.size+1) k;refine .inr ⟨.inl k,c,e,?_⟩;have q:=x.cell y c e;rw[Lg I J hu (by show scope.names.lookup y≠_;rw[k];decide)]at q;exact q
 ·exact o.hok.fresh (td (x.above y c (dH h)))
 ·unfold start
  show _=N.length;rw[aV,ae,fR];ext
theorem Hj{CX:sG}{P:Program}{w:bq}{K:aj}{mg:Str->Option ac}{base:bh}{k:Nat}{f:af}{name qual:Str}{g:EO}{h:List Stmt}{scope:dD}{dV kV doc pm c ct oc:ac}{an od:Option af}
  {osl:Array (Option ac)}{N ps:List Str}{sp:Sp} (lk:K.lookup f=some ⟨oc,od,.func (d9 name qual g h scope dV kV doc pm an c ct),osl⟩) (hcd:lE K c qual=true) (S:iq N ps scope)
  (len:∀C H Q E,sp C H Q E->C.length=ps.length)
  (O:∀(A:bn)(outer:List Env)(s:ah)(H:Hp)(C:List V)(Q:VK)(E:XK),fo k (A.deeper (iB qual scope s.heap.objs.size f c))->sp C H Q E ->
   ∃t,PSs (mD CX P w K mg base N qual scope f c A outer s H E) h t/\t { nx:=λ_ G=>Q .non G,rt:=Q } (start N C) H):
  fV P w K mg base CX (k+1) f (d9 name qual g h scope dV kV doc pm an c ct) ps sp:=by
 refine⟨len,λA outer s H args us C Q E hr e0 hb r hsp=>?_⟩;have hl:=len _ _ _ _ hsp;have KX:K.In s.heap:=e0.mod.kin.keeps λb o e=>(e0.bs b o e).1;have eQ:s.heap.NoLimit:=e0.mod.nolimit.keeps λb o e=>(e0.bs b o e).1;have L:∀y∈ps.zip us,scope.names.lookup y.1=some .local\/(scope.names.lookup y.1=some .cell/\((dj (s.heap.objs.size+1) scope.names []).lookup y.1).isSome=true):=λY hy=>by
  obtain⟨n,v⟩:=Y;rcases S.par n (pV hy).1 with q|q
  ·exact .inl q
  ·exact .inr ⟨q,kQ _ _ _ (.inl q)⟩
 refine codeAny_call_function hr.depth (KX _ _ lk) rfl S.co S.gen rfl (PySem.W.codeRec_of KX hcd) (hb _ _ _ _ ?_);refine wpAny_newFunctionEnv_cells S.kind L λenv he s1 x=>?_;subst he;refine⟨eQ.keeps x.toInCall.keep,codeAny_func ?_⟩;obtain⟨t,ht,hq⟩:=O A outer s H C Q E (hr.deeper _) hsp;have I:Inv (mD CX P w K mg base N qual scope f c A outer s H E) [] (start N C) H s1:=T0 S hr.hd e0 hl r x;refine bS (ht [] s1 (start N C) H _ I hq) (λfl s' U=>?_) λe s' U=>U;have fin:∀{σ':St}{G:Hp}{v:V}{u:ac},Inv (mD CX P w K mg base N qual scope f c A outer s H E) [] σ' G s'->RelV v u->Q v G->CE outer P w H s Q u s':=
  λ{σ' G v u}J rv q=>⟨v,G,J.os,J.bare,J.base,J.hok,rv,q⟩
 cases fl with
 |ret u=>
  obtain⟨v,σ',G,J,rv,q⟩:=U;exact fin J rv q
 |next=>
  obtain⟨σ',G,J,q⟩:=U;exact fin (v:=V.non) (u:=bO) J rfl q
 |brk=>
  obtain⟨_,_,_,q⟩:=U;exact bK q
 |cont=>
  obtain⟨_,_,_,q⟩:=U;exact bK q
section
variable{X:Cx}{x:Str}{p pos:Pos}{e:Expr}{es:List Expr}{t:TA}{id T:String}{r:List V->Hp->VK->Prop}
noncomputable def MK(r:List V->Hp->VK->Prop)(t:TA):TE:=λσ H Q=>t σ H λc g=>r c g Q
theorem Bl(hc : CallR X (.builtin id) r)(U : Gl X x)(O : X.mg x = none)(J : cN x = some (.builtin id))(ha : PA X (e :: es) t)(L : x ≠ "__name__" := by decide)(q : (x == ("__debug__" : Str)) = false := by decide)
  (Y:starEach (e::es) X.env=(false,eval e X.env)::starEach es X.env:=by rfl) (o:(backTo pos (starEach es X.env)).any (·.1)=false:=by rfl):PE X (.Call (.Name x p) (e::es) [] pos) (MK r t):=by
 intro c s σ H Q I h;refine eW (zQ I U O J ?_ L q);exact PyProof.Rows.callWith_builtin1 (fE (ha pos c s σ H _ I h) λv C g=>by obtain⟨u,H1,I1,E,G⟩:=g;exact hc c C σ H1 u v Q I1 E G) Y o
theorem OD(hc : CallR X (.type T) r)(U : Gl X x)(O : X.mg x = none)(J : cN x = some (.type T))(ha : PA X (e :: es) t)(L : x ≠ "__name__" := by decide)(q : (x == ("__debug__" : Str)) = false := by decide)
  (Y:starEach (e::es) X.env=(false,eval e X.env)::starEach es X.env:=by rfl) (o:(backTo pos (starEach es X.env)).any (·.1)=false:=by rfl):PE X (.Call (.Name x p) (e::es) [] pos) (MK r t):=by
 intro c s σ H Q I h;refine eW (zQ I U O J ?_ L q);exact d7 (fE (ha pos c s σ H _ I h) λv C g=>by obtain⟨u,H1,I1,E,G⟩:=g;exact hc c C σ H1 u v Q I1 E G) Y o
end
end L2
namespace HT
open PySem PyProof.Rows
section
open PySem.SeqAt
open PySem.AutoSeq1 (wpAny_loadPart')
open PySem.MeetsSeq PySem.MeetsSeq2 PySem.MeetsSeq3
end
section
variable{prog:Program}{w:bq}{A:bn}{E:ac->ah->Prop}{s:ah}
theorem wf{t b:af}{h c:List ac}{Q:ac->ah->Prop}(U:BK s.heap t h.toArray)(Y:BK s.heap b c.toArray)(I:h≠[])
  (h1:c=[]->Q (.ref t) s) (h2:c≠[]->Q (.ref s.heap.objs.size) { s with heap:=s.heap.push { cls:=.type "tuple",data:=.seq (h++c).toArray } })
  (hsz:h.length+c.length<=sizeLine):aA (aP prog w) A (eV .Add (.ref t) (.ref b)) Q E s:=by
 obtain⟨⟨cls,L,data,H⟩,G,J,n,hd⟩:=id U;obtain⟨⟨O,v,data2,o⟩,g,u,n2,q⟩:=id Y;simp only at J hd u q;subst J hd u q;have e:h.toArray++c.toArray=(h++c).toArray:=by simp
 by_cases C:c=[]
 ·exact vF ⟨_, G, rfl⟩ ⟨_, g, rfl⟩ qV ur kR kK (kz _ _)
    (tuple_addW1 t b h.toArray c.toArray n n2 L v H o (by simpa using I) (by simp[C])) ⟨G,g,h1 C⟩
 ·refine vF ⟨_, G, rfl⟩ ⟨_, g, rfl⟩ qV ur kR kK (kz _ _)
    (tuple_addW2 t b h.toArray c.toArray n n2 L v H o (by simpa using I) (by simpa using C) (by rw[aH,aH];exact hsz)) ⟨G,g,?_⟩
  rw[e];exact h2 C
noncomputable def fJ(n d:Nat):Option Int->Nat
 |none=>d
 |some v=>if v < 0 then (v+(n:Int)).toNat else min v.toNat n
theorem PR(n d:Nat)(hd:d<=n)(o:Option Int):fJ n d o<=n:=by
 cases o with
 |none=>exact hd
 |some v=>
  refine (?_:(if v < 0 then _ else _)<=n);by_cases c:v < 0
  ·rw[aG c];exact Int.toNat_le.mpr (by have:=ut (EQ c) (n:Int);rwa [ER]at this)
  ·rw[az c];exact xE _ _
theorem Ik(v:Int)(n d:Nat):(if v < 0 then max (v+(n:Int)) 0 else min v (n:Int))=((fJ n d (some v):Nat):Int):=by
 refine (?_:_=(((if v < 0 then _ else _):Nat):Int));by_cases c:v < 0
 ·rw[aG c,aG c,Int.ofNat_toNat]
 ·obtain⟨k,rfl⟩:=Int.eq_ofNat_of_zero_le (vG.mp c);rw[az c,az c,bE];rcases Nat.le_total k n with h|h
  ·rw[Nat.min_eq_left h];exact yW (ES.mpr h)
  ·rw[Nat.min_eq_right h];exact Int.min_eq_right (ES.mpr h)
theorem u5(v:Int)(n d:Nat):max 0 (min (if v < 0 then v+(n:Int) else v) (n:Int))=((fJ n d (some v):Nat):Int):=by
 rw[<- Ik];by_cases c:v < 0
 ·rw[aG c,aG c,yW (by have:=ut (EQ c) (n:Int);rwa [ER]at this),Int.max_comm]
 ·rw[az c,az c];exact pN (Int.le_min.mpr ⟨vG.mp c,Int.natCast_nonneg _⟩)
theorem TJ(lo c:Option Int)(n:Nat):iC lo c 1 (n:Int)=(((fJ n 0 lo:Nat):Int),((fJ n n c:Nat):Int)):=by
 have g:¬ ((1:Int) < 0):=by ext
 unfold iC;simp only[g,if_false];refine Prod.ext ?_ ?_
 ·cases lo with
  |none=>rfl
  |some v=>exact Ik v n 0
 ·cases c with
  |none=>rfl
  |some v=>exact Ik v n n
theorem Sn(i j:Nat):fL (i:Int) (j:Int) 1=j-i:=by
 unfold fL;have c:(1:Int) > 0:=by decide
 simp only[c,if_true,Int.ediv_one,Int.sub_add_cancel];by_cases h:(i:Int) < j
 ·rw[aG h];exact Int.toNat_sub j i
 ·rw[az h];exact (Nat.sub_eq_zero_of_le (ES.mp (vG.mp h))).symm
theorem Nn{v:ac}{o:Option Int}{Q:Option Int->ah->Prop}(p:n9 v o)(h:Q o s):aA (aP prog w) A (Builtin.Slice.slicePartIndex v) Q E s:=by
 cases p with
 |none=>exact slicePart_none h
 |int i t=>exact slicePart_int h
theorem Lc{v:af}{u q:ac}{lo g:Option Int}{n:Nat}{Q:Int×Int×Nat->ah->Prop}(H:s.heap.IsSliceOf v u q .none)(G:n9 u lo)(C:n9 q g)
  (h:Q (((fJ n 0 lo:Nat):Int),1,fJ n n g-fJ n 0 lo) s):aA (aP prog w) A (nI (.ref v) (pure (n:Int))) Q E s:=by
 obtain⟨os,c,I,o⟩:=id H;unfold nI Builtin.Slice.sliceFields;refine aa (aa (cA c o (x:=u) rfl (aa (cA c o (x:=q) rfl (aa (cA c o (x:=.none) rfl (ai ?_)))))));refine aa (slicePart_none ?_)
 show aA _ _ (if ((1:Int) == 0)=true then _ else _) _ _ s;rw[az (by decide)];refine aa (Nn G (aa (Nn C (aa (ai ?_)))))
 show aA _ _ (match iC lo g 1 (n:Int) with|(lo,g)=>pure (lo,(1:Int),fL lo g 1)) _ _ s;rw[TJ lo g n]
 show aA _ _ (pure (((fJ n 0 lo:Nat):Int),(1:Int),fL ((fJ n 0 lo:Nat):Int) ((fJ n n g:Nat):Int) 1)) _ _ s;rw[Sn];exact ai h
theorem O8(xs:Array ac)(i k:Nat):((db k).filterMap λ(m:Nat)=>xs[((i:Int)+(m:Int)*1).toNat]?).toArray=((xs.toList.drop i).take k).toArray:=by
 have e:(λ(m:Nat)=>xs[((i:Int)+(m:Int)*1).toNat]?)=λm=>xs[i+m]?:=by funext m;rw[F4];rfl
 rw[e];have:=pick_run xs i k;rw[List.filterMap_map]at this;exact bH _ this
theorem m_{t v:af}{c:Array ac}{J I:ac}{lo o:Option Int}{Q:ac->ah->Prop}(u:BK s.heap t c)(O:s.heap.IsSliceOf v J I .none)(pl:n9 J lo)(Y:n9 I o)
  (hw:¬ (fJ c.size 0 lo=0/\fJ c.size c.size o=c.size))
  (h:Q (.ref s.heap.objs.size) { s with heap:=s.heap.push { cls:=.type "tuple",data:=.seq ((c.toList.drop (fJ c.size 0 lo)).take (fJ c.size c.size o-fJ c.size 0 lo)).toArray } })
  (hsz:c.size<=sizeLine):aA (aP prog w) A (mQ (.ref t) (.ref v)) Q E s:=by
 have g:sizeOk (.seq ((c.toList.drop (fJ c.size 0 lo)).take (fJ c.size c.size o-fJ c.size 0 lo)).toArray):=by show ((c.toList.drop (fJ c.size 0 lo)).take (fJ c.size c.size o-fJ c.size 0 lo)).toArray.size<=sizeLine;rw[aH,b5,cO,mJ];exact bC (xE _ _) (bC (Nat.sub_le _ _) hsz)
 have hj:fJ c.size c.size o<=c.size:=PR _ _ (ax _) o;obtain⟨os,C,H,hds⟩:=id O;have zo:s.TypeIs (.ref v) "slice":=⟨os,C,H⟩
 unfold mQ
 try with_reducible refine b_ ?_
 first|refine aa (ai ?_)|skip
 refine aa (qf u.typeIs (by decide) ?_);refine aa (cE (name:=ag "__getitem__") u.typeIs cQ
  (dG cQ u.typeIs yX ?_ (A2 _ _)))
 show aA _ _ (iy (.ref t) >>= _) _ _ s;refine aa (tupleItemsOf_ u ?_);refine aa (vH zo ?_);rw[aG (by decide)];refine aa (Lc O pl Y ?_);have G:¬ ((((fJ c.size 0 lo:Nat):Int) == 0&&(1:Int) == 1&&(fJ c.size c.size o-fJ c.size 0 lo) == c.size)=true):=by intro q;rw[aI,aI]at q;have L:=Int.ofNat.inj (eq_of_beq q.1.1);have U:=eq_of_beq q.2;exact hw ⟨L,by rwa [L]at U⟩
 show aA _ _ (if (((fJ c.size 0 lo:Nat):Int) == 0&&(1:Int) == 1&&(fJ c.size c.size o-fJ c.size 0 lo) == c.size)=true then _ else _) _ _ s;rw[az G,O8]
 first
  |exact aa (m:=fT _) (eE (ai ⟨_,rfl,ai h⟩) g)
  |exact aa (m:=fT _) (eE (aa (ai (ai ⟨_,rfl,ai h⟩))) g)
  |exact aa (aa (m:=fT _) (eE (ai (ai ⟨_,rfl,ai h⟩)) g))
  |exact aa (aa (m:=fT _) (eE (ai ⟨_,rfl,ai h⟩) g))
end
end HT
namespace L2
open PySem PySem.Spec PyProof.Rows
abbrev TO:=St->Hp->(Option Int->Hp->Prop)->Prop
def PO(X:Cx)(e:Option Expr)(t:TO):Prop:=
 ∀(ao:List (af×Obj))(s:ah)(σ:St)(H:Hp)(Q:Option Int->Hp->Prop),Inv X ao σ H s->t σ H Q ->
  aA (aP X.prog X.w) X.A (evalPart e X.env) (λu s'=>∃o c,Inv X ao σ c s'/\n9 u o/\Q o c) X.xe s
noncomputable def wH:TO:=λ_ H Q=>Q none H
noncomputable def B3(t:TE):TO:=λσ H Q=>t σ H λx c=>∃i,x=.int i/\Q (some i) c
theorem K6{ns:List Int}:∀{c:List ac},cB (ns.map V.int) c->oB c ns:=by
 induction ns with
 |nil=>intro c r;rw[oC]at r;cases r;exact .nil
 |cons n ns ih=>
  intro c r;rw[aQ]at r;cases r with
  |cons r1 r2=>
   obtain⟨t,e⟩:=r1;subst e;exact .cons n t (ih r2)
section
variable{X:Cx}{e:Expr}{te:TE}{lo hi:Option Expr}{tl th:TO}{pos p2:Pos}
theorem VI:PO X none wH:=by intro c s σ H Q I h;rw[evalPart_none];exact ai ⟨none,H,I,.none,h⟩
theorem WB(h:PE X e te):PO X (some e) (B3 te):=by intro g s σ H Q I C;rw[evalPart_some];refine fE (h g s σ H _ I C) λu J c=>?_;obtain⟨x,G,E,o,v⟩:=c;obtain⟨i,rfl,q⟩:=v;obtain⟨t,rfl⟩:=o;exact⟨some i,G,E,.int i t,q⟩
def Fd(X:Cx)(r:V->Option Int->Option Int->Hp->VK->Prop):Prop:=
 ∀(ao:List (af×Obj))(s:ah)(σ:St)(H:Hp)(x:V)(v vl vu:ac)(lo hi:Option Int)(sl:af)(Q:VK),Inv X ao σ H s->RelV x v->s.heap.IsSliceOf sl vl vu .none->n9 vl lo->n9 vu hi->r x lo hi H Q ->
  ∃T id,cS (.type T) "__getitem__"=pure (some (.builtin id))/\s.TypeIs v T/\aA (aP X.prog X.w) X.A (mQ v (.ref sl)) (EP X ao σ Q) X.xe s
noncomputable def QL(r:V->Option Int->Option Int->Hp->VK->Prop)(te:TE)(tl th:TO):TE:=λσ H Q=>te σ H λx h=>tl σ h λl g=>th σ g λu c=>r x l u c Q
theorem Lb{r:V->Option Int->Option Int->Hp->VK->Prop}(hr:Fd X r)(he:PE X e te)(hl:PO X lo tl)(hu:PO X hi th):PE X (.Subscript e (.Slice lo hi none p2) pos) (QL r te tl th):=by
 intro c s σ H Q I h;refine Subscript_ (fE (he c s σ H _ I h) λv O C=>?_);obtain⟨x,H1,I1,U,q1⟩:=C;refine wpAny_Slice (fE (hl c O σ H1 _ I1 q1) λG L ⟨l,H2,I2,pl,q2⟩=>fE (hu c L σ H2 _ I2 q2) λE g o=>?_);obtain⟨u,J,I3,pu,Y⟩:=o;rw[evalPart_none];refine ai ?_;have I4:Inv X c σ J { g with heap:=g.heap.push { cls:=.type "slice",data:=.fields #[G,E,.none] } }:=I3.kept (t':=g.toks) λb ob q=>aq _ q;obtain⟨T,id,hT,ht,hg⟩:=hr c { g with heap:=g.heap.push { cls:=.type "slice",data:=.fields #[G,E,.none] } } σ J x v G E l u g.heap.objs.size Q I4 U (bh.IsSliceOf.new ..) pl pu Y
 show aA (aP X.prog X.w) X.A (subscriptTail e (.Slice lo hi none p2) v (.ref g.heap.objs.size)) (EP X c σ Q) X.xe { g with heap:=g.heap.push { cls:=.type "slice",data:=.fields #[G,E,.none] } };exact tail_any (ops:=[.ref g.heap.objs.size,v]) ht hT hg (by with_unfolding_all rfl)
def qH(xs:List V)(lo hi:Option Int):List V:=(xs.drop (HT.fJ xs.length 0 lo)).take (HT.fJ xs.length xs.length hi-HT.fJ xs.length 0 lo)
theorem MA(xs:List V)(lo hi:Option Int):(qH xs lo hi).length<=xs.length:=by unfold qH;rw[b5,cO];ext
def Hx(K:aj):V->Option Int->Option Int->Hp->VK->Prop:=λx lo hi H Q=>∃a xs,x=.ref a/\i7 K H a xs /\
 ¬ (HT.fJ xs.length 0 lo=0/\HT.fJ xs.length xs.length hi=xs.length)/\∀p,H p=none->Q (.ref p) (eO H p (.tup (qH xs lo hi)))
theorem Xk:Fd X (Hx X.K):=by
 intro g s σ H x v Y U lo hi sl Q I C O G E h;obtain⟨a,xs,rfl,J,L,q⟩:=h;cases C;obtain⟨its,r,u,hz⟩:=I.tuple J;have c:its.toArray.size=xs.length:=by rw[aH];exact r.length.symm
 refine⟨"tuple",_,cQ.lookup,u.typeIs,?_⟩;refine HT.m_ u O G E (by rw[c];exact L) ?_ (by rw[c];exact hz);rw[c];refine⟨.ref s.heap.objs.size,_,I.laid (t':=s.toks) (o:=.tup (qH xs lo hi)) (λb ob q=>aq _ q) (ax _) ?_,rfl,q _ (I.hok.fresh (ax _))⟩;exact⟨bC (MA xs lo hi) hz,_,(r.drop (HT.fJ xs.length 0 lo)).take (HT.fJ xs.length xs.length hi-HT.fJ xs.length 0 lo),gn.new _ _⟩
def DC(K:aj):R2:=λx y H Q=>∃a b xs ys,x=.ref a/\y=.ref b/\i7 K H a xs/\i7 K H b ys/\xs≠[]/\xs.length+ys.length<=sizeLine /\
 (ys=[]->Q (.ref a) H)/\(ys≠[]->∀p,H p=none->Q (.ref p) (eO H p (.tup (xs++ys))))
theorem cB.nil_iff{xs:List V}{c:List ac}(r:cB xs c):c=[]↔xs=[]:=by
 cases r with
 |nil=>simp
 |cons _ _=>simp
theorem R8:OpR X (eV .Add) (DC X.K):=by intro C s σ H x y v u Q I J G h;obtain⟨a,b,xs,ys,rfl,rfl,ha,hb,Y,hz,O,L⟩:=h;cases J;cases G;obtain⟨its,g,U,_⟩:=I.tuple ha;obtain⟨E,c,p2,_⟩:=I.tuple hb;refine HT.wf U p2 (λz=>Y (g.nil_iff.mp z)) (λz=>⟨.ref a,H,I,rfl,O (c.nil_iff.mp z)⟩) (λz=>?_) (by rw[<- g.length,<- c.length];exact hz);refine⟨.ref s.heap.objs.size,_,I.laid (t':=s.toks) (o:=.tup (xs++ys)) (λb ob q=>aq _ q) (ax _) ?_,rfl,L (λw=>z (c.nil_iff.mpr w)) _ (I.hok.fresh (ax _))⟩;exact⟨by rw[aV];exact hz,_,g.append c,gn.new _ _⟩
end
noncomputable def oT(n:Nat)(i:Int):Option Nat:=if 0<=i then (if i < n then some i.toNat else none) else if -(n:Int)<=i then some (i+n).toNat else none
def yA{α:Type}(xs:List α)(i:Int):Option α:=(oT xs.length i).bind λj=>xs[j]?
theorem Of{n:Nat}{i:Int}{j:Nat}(h:oT n i=some j):seqIndex? i n=some j/\j < n /\ -(n:Int)<=i/\i < n:=by
 unfold oT at h;by_cases g:0<=i
 ·rw[aG g]at h;by_cases c:i < n
  ·rw[aG c]at h;have e:i.toNat=j:=bw h;exact⟨by rw[xF g c,e],by ext,by ext,c⟩
  ·rw[az c]at h;cases h
 ·rw[az g]at h;by_cases c : -(n:Int)<=i
  ·rw[aG c]at h;have e:(i+n).toNat=j:=bw h;exact⟨by rw[vI (by ext) c,e],by ext,c,by ext⟩
  ·rw[az c]at h;cases h
theorem HG{α:Type}{xs:List α}{i:Int}{v:α}(h:yA xs i=some v):∃j,seqIndex? i xs.length=some j/\xs[j]?=some v/\j < xs.length /\ -(xs.length:Int)<=i/\i < xs.length:=by
 unfold yA at h;cases e:oT xs.length i with
 |none=>rw[e]at h;cases h
 |some j=>
  rw[e]at h;obtain⟨q,o,g,c⟩:=Of e;exact⟨j,q,h,o,g,c⟩
noncomputable def ng(b:Expr):Prop:=∀o i,subscripted b false o i=operate [o,i] (mQ o i)
def IxR(X:Cx)(r:R2):Prop:=
 ∀(g c:Expr)(ao:List (af×Obj))(s:ah)(σ:St)(H:Hp)(x y:V)(v u:ac)(Q:VK),Inv X ao σ H s->RelV x v->RelV y u->r x y H Q ->
  subscripted c false v u=operate [v,u] (mQ v u)->aA (aP X.prog X.w) X.A (subscriptTail g c v u) (EP X ao σ Q) X.xe s
def Be(X:Cx)(id:String)(r:V->List V->Hp->VK->Prop):Prop:=
 ∀(ao:List (af×Obj))(s:ah)(σ:St)(H:Hp)(x:V)(xs:List V)(v:ac)(us:List ac)(Q:VK),Inv X ao σ H s->RelV x v->cB xs us->r x xs H Q ->
  aA (aP X.prog X.w) X.A (call (.builtin id) (v::us)) (EP X ao σ Q) X.xe s
section
variable{X:Cx}{a b:Expr}{ta tb:TE}{pos:Pos}
theorem IxR.or{r G:R2}(h:IxR X r)(h':IxR X G):IxR X (λx y H Q=>r x y H Q\/G x y H Q):=by
 intro c g o s σ H x y v u Q I E C q J;rcases q with q|q
 ·exact h c g o s σ H x y v u Q I E C q J
 ·exact h' c g o s σ H x y v u Q I E C q J
theorem JW{r:R2}(G:IxR X r)(L:PE X a ta)(J:PE X b tb)(E:ng b):PE X (.Subscript a b pos) (CW r ta tb):=by intro c s σ H Q I h;exact Subscript_ (zC L J I h λv u g x y U O C o q=>G a b c g σ U x y v u Q O C o q (E _ _))
def Dp(K:aj):R2:=λx y H Q=>∃p xs i v,x=.ref p/\y=.int i/\ir K H p xs/\yA xs i=some v/\Q v H
def Dt(K:aj):R2:=λx y H Q=>∃p xs i v,x=.ref p/\y=.int i/\i7 K H p xs/\yA xs i=some v/\Q v H
def D3:R2:=λx y H Q=>∃z i c,x=.str z/\y=.int i/\z.length<=sizeLine/\yA z.cps.toList i=some c/\Q (.str ⟨#[c]⟩) H
theorem MB:IxR X (Dp X.K):=by
 intro C E c s σ H x y v u Q I rx ry h O;obtain⟨p,xs,i,z,rfl,rfl,hq,he,q⟩:=h;cases rx;obtain⟨t,rfl⟩:=ry;obtain⟨its,r,J,hz⟩:=I.list hq;obtain⟨j,o,h2,h3,h4,h5⟩:=HG he;obtain⟨w,Y,G⟩:=r.get h2;have hl:=r.length;have hn:=AK;have g:EP X c σ Q w s:=⟨z,H,I,G,q⟩
 by_cases U:0<=i
 ·have L : i.toNat = j := by rw[xF U h5]at o;exact bw o
  exact item_listR J.isList U (by ext) (by rw[L];simpa using Y) g O
 ·have L : (i+(its.toArray.size : Int)).toNat = j := by rw[vI (by ext) h4]at o;rw[aH,<- hl];exact bw o
  exact vJ (x:=w) J.isList.typeIs BO.lookup
   (wpAny_getItem_list_neg (Q:=λr s'=>r=w/\EP X c σ Q r s') J.isList (by ext) (by rw[aH]<;>ext) (by ext) (by rw[L];simpa using Y) ⟨rfl,g⟩) O
theorem RN:IxR X (Dt X.K):=by
 intro g o c s σ H x y v u Q I L J h O;obtain⟨p,xs,i,z,rfl,rfl,U,he,q⟩:=h;cases L;obtain⟨t,rfl⟩:=J;obtain⟨its,r,G,hz⟩:=I.tuple U;obtain⟨j,h1,h2,h3,h4,h5⟩:=HG he;obtain⟨w,ew,C⟩:=r.get h2;have Y:=r.length;have hn:=AK;have E:EP X c σ Q w s:=⟨z,H,I,C,q⟩
 exact vJ (x:=w) G.typeIs slot_tuple_getitem.lookup
  (getItem_tuple (j:=j) (Q:=λr s'=>r=w/\EP X c σ Q r s') G (by ext) (by ext) (by rw[aH,<- Y];exact h1) (by simpa using ew) ⟨rfl,E⟩) O
theorem U0:IxR X D3:=by
 intro g o C s σ H x y v u Q I J G h L;obtain⟨z,i,c,rfl,rfl,hz,U,q⟩:=h;obtain⟨t,rfl⟩:=J;obtain⟨t',rfl⟩:=G;obtain⟨j,E,h2,h3,h4,Y⟩:=HG U;have O:z.cps.toList.length=z.length:=by simp[qW]
 rw[O]at E h4 Y;have hn:=AK;exact tail_any (iZ s z t) slot_str_getitem.lookup (getItem_str (c:=c) (by have e1:decide (i < -(2^63:Int))=false:=aO (by ext);have e2:decide (i ≥ 2^63)=false:=aO (by ext);rw[e1,e2,nJ]) (by rw[E];simpa using h2) ⟨.str ⟨#[c]⟩,H,I.tok _,⟨_,rfl⟩,q⟩) L
def LH(K:aj):R2:=λx y H Q=>Dp K x y H Q\/Dt K x y H Q\/D3 x y H Q
theorem XA:IxR X (LH X.K):=MB.or (RN.or U0)
theorem RY(its:List ac)(n j:Nat)(u:ac):n_ (·.setIfInBounds j u) { cls:=.type "list",data:=.seq its.toArray n }={ cls:=.type "list",data:=.seq (its.set j u).toArray n }:=by simp[n_]
theorem Inv.lst{c:List (af×Obj)}{σ:St}{H:Hp}{s:ah}{p:af}{xs:List V}(I:Inv X c σ H s)(h:H p=some (.lst xs)):
  ∃(its:List ac)(n:Nat),cB xs its/\s.heap.get? p=some { cls:=.type "list",data:=.seq its.toArray n }/\xs.length<=sizeLine:=by
 obtain⟨z,its,n,r,e⟩:=I.hok p _ h;exact⟨its,n,r,e,z⟩
theorem Inv.lstUpd{c:List (af×Obj)}{σ:St}{H:Hp}{s:ah}{p:af}{xs ys:List V}{its its':List ac}{n g:Nat}{f:Obj->Obj}(I:Inv X c σ H s)(h:H p=some (.lst xs))
  (v:s.heap.get? p=some { cls:=.type "list",data:=.seq its.toArray n }) (o:f { cls:=.type "list",data:=.seq its.toArray n }={ cls:=.type "list",data:=.seq its'.toArray g }) (r:cB ys its') (hz:ys.length<=sizeLine) (t:Nat):
  Inv X c σ (eO H p (.lst ys)) { s with heap:=s.heap.update p f,toks:=t }:=by
 have e:(s.heap.update p f).get? p=some { cls:=.type "list",data:=.seq its'.toArray g }:=by rw[ce f v (by rw[o]<;>rfl),o]
 refine I.write (x:=p) (e:=p) (by rw[h];trivial) (.inl rfl) (λb u C q=>(dI _ _ (fB C)).trans q) ⟨_,e⟩ ?_;exact⟨hz,its',g,r,e⟩
def Ca:V->V->V->Hp->(Hp->Prop)->Prop:=λo i v H Q=>∃p xs k j,o=.ref p/\i=.int k/\H p=some (.lst xs)/\oT xs.length k=some j/\Q (eO H p (.lst (xs.set j v)))
theorem Pp:PSet X Ca:=by
 intro c s σ H o i v ov iv u Q I ro ri rv h;obtain⟨p,xs,k,j,rfl,rfl,J,hj,q⟩:=h;cases ro;obtain⟨t,rfl⟩:=ri;obtain⟨its,n,r,C,hz⟩:=I.lst J;obtain⟨g,h2,O,L⟩:=Of hj;have E:=r.length;have hn:=AK;have Y:Inv X c σ (eO H p (.lst (xs.set j v))) { s with heap:=s.heap.update p (n_ (·.setIfInBounds j u)) }:=
  I.lstUpd J C (RY its n j u) (r.set rv j) (by rw[dy];exact hz) s.toks
 by_cases U:0<=k
 ·have G : k.toNat = j := by rw[xF U L]at g;exact bw g
  exact PySem.W.ki_setAt C U (by ext) (by rw[aH,<- E];exact L) (by rw[G];exact⟨_,Y,q⟩)
 ·have G : (k+(its.toArray.size : Int)).toNat = j := by rw[vI (by ext) O]at g;rw[aH,<- E];exact bw g
  exact PySem.W.ki_setBack C (by ext) (by rw[aH,<- E];exact O) (by ext) (by rw[G];exact⟨_,Y,q⟩)
theorem P9(lo c:Option Int)(n:Nat):(og lo c none n).1=((HT.fJ n 0 lo:Nat):Int)/\(og lo c none n).2.1=((HT.fJ n n c:Nat):Int)/\(og lo c none n).2.2=1:=by
 refine⟨?_,?_,rfl⟩
 ·cases lo with
  |none=>rfl
  |some i=>exact HT.u5 i n 0
 ·cases c with
  |none=>rfl
  |some i=>exact HT.u5 i n n
theorem Qd(its:List ac)(lo c:Option Int):slicePick its.toArray lo c none=((its.drop (HT.fJ its.length 0 lo)).take (HT.fJ its.length its.length c-HT.fJ its.length 0 lo)).toArray:=by obtain⟨o,h,g⟩:=P9 lo c its.toArray.size;unfold slicePick;rw[o,h,g];simp only[sliceRange_one,pick_run,aH]<;>rfl
def CL(K:aj):V->Option Int->Option Int->Hp->VK->Prop:=λx lo c H Q=>∃a xs,x=.ref a/\ir K H a xs/\∀p,H p=none->Q (.ref p) (eO H p (.lst (qH xs lo c)))
theorem W2:Fd X (CL X.K):=by intro u s σ H x v Y U lo g sl Q I E O J G h;obtain⟨a,xs,rfl,L,q⟩:=h;cases E;obtain⟨its,r,C,hz⟩:=I.list L;have c:=r.length;refine⟨"list",_,BO.lookup,C.isList.typeIs,?_⟩;refine wpAny_getItem_list_slice C.isList O J G .none (by simp) ?_ (by rw[aH]<;>ext);rw[Qd,<- c];refine⟨.ref s.heap.objs.size,_,I.laid (t':=s.toks) (o:=.lst (qH xs lo g)) (λb ob q=>aq _ q) (ax _) ?_,rfl,q _ (I.hok.fresh (ax _))⟩;exact⟨bC (MA xs lo g) hz,_,0,(r.drop (HT.fJ xs.length 0 lo)).take (HT.fJ xs.length xs.length g-HT.fJ xs.length 0 lo),aK _ rfl⟩
noncomputable def ma:V->Bool
 | .non=>true
 | .bl _=>true
 | .int _=>true
 | .str _=>true
 |_=>false
noncomputable def wc:V->V->Bool
 | .non,.non=>true
 | .bl a,.bl b=>a == b
 | .bl a,.int b=>(if a then 1 else 0) == b
 | .int a,.bl b=>a == (if b then 1 else 0)
 | .int a,.int b=>a == b
 | .str a,.str b=>a == b
 |_,_=>false
theorem Wu{A:bn}{s:ah}{y x:V}{u v:ac}(g:RelV y u)(c:RelV x v)(o:ma y=true)(h:ma x=true):ET A s u v (wc y x):=by
 cases y with
 |non=>
  cases g;cases x with
  |non=>cases c;exact ET.same _
  |bl b=>cases c;exact ET.none_bool b
  |int b=>obtain⟨t,rfl⟩:=c;exact ET.none_int b t
  |str b=>obtain⟨t,rfl⟩:=c;exact ET.none_str b t
  |_=>exact bp (show false=true from h) aW
 |bl a=>
  cases g;cases x with
  |non=>cases c;exact ET.bool_none a
  |bl b=>cases c;exact ET.bool_bool a b
  |int b=>obtain⟨t,rfl⟩:=c;exact ET.bool_int a b t
  |str b=>obtain⟨t,rfl⟩:=c;exact ET.bool_str a b t
  |_=>exact bp (show false=true from h) aW
 |int a=>
  obtain⟨t',rfl⟩:=g;cases x with
  |non=>cases c;exact ET.int_none a t'
  |bl b=>cases c;exact ET.int_bool a t' b
  |int b=>obtain⟨t,rfl⟩:=c;exact ET.int_int a t' b t
  |str b=>obtain⟨t,rfl⟩:=c;exact rb a t' b t
  |_=>exact bp (show false=true from h) aW
 |str a=>
  obtain⟨t',rfl⟩:=g;cases x with
  |non=>cases c;exact ET.str_none a t'
  |bl b=>cases c;exact ET.str_bool a t' b
  |int b=>obtain⟨t,rfl⟩:=c;exact rc a t' b t
  |str b=>obtain⟨t,rfl⟩:=c;exact ET.str_str a t' b t
  |_=>exact bp (show false=true from h) aW
 |_=>exact bp (show false=true from o) aW
def wM(x:V)(u:ac):Bool:=match u with
 | .none=>wc .non x
 | .bool b=>wc (.bl b) x
 | .int i _=>wc (.int i) x
 | .str z _=>wc (.str z) x
 |_=>false
theorem M7{x y:V}{u:ac}(r:RelV y u)(f:ma y=true):wM x u=wc y x:=by
 cases y with
 |non=>cases r;rfl
 |bl b=>cases r;rfl
 |int i=>obtain⟨t,rfl⟩:=r;rfl
 |str z=>obtain⟨t,rfl⟩:=r;rfl
 |_=>exact bp (show false=true from f) aW
theorem LQ{x:V}{xs:List V}{c:List ac}(h:cB xs c)(f:xs.all ma=true):c.any (wM x)=xs.any λy=>wc y x:=by
 induction h with
 |nil=>rfl
 |cons r t ih=>
  rw[bu,aI]at f;rw[b9,b9,M7 r f.1,ih f.2]
theorem IP{A:bn}{s:ah}{x:V}{v:ac}(g:RelV x v)(h:ma x=true):∀{xs:List V}{c:List ac},cB xs c->xs.all ma=true->∀u∈c,ET A s u v (wM x u)
 |_,_,.nil,_=>λu hu=>by cases hu
 |y::xs,u::c,.cons r t,f=>λu' hu=>by
  rw[bu,aI]at f;rcases aF.mp hu with rfl|hu
  ·rw[M7 r f.1];exact Wu r g f.1 h
  ·exact IP g h t f.2 u' hu
def FV(x:V)(xs:List V):Bool:=xs.any λy=>wc y x
def Mc(K:aj)(c:Bool):R2:=λx y H Q=>∃p xs,y=.ref p/\(ir K H p xs\/i7 K H p xs)/\ma x=true/\xs.all ma=true/\Q (.bl (if c then !FV x xs else FV x xs)) H
theorem Ug:OpR X (bG .In) (Mc X.K false):=by
 intro E s σ H x y v u Q I C J h;obtain⟨p,xs,rfl,c,G,fs,q⟩:=h;cases J;rcases c with c|c
 ·obtain⟨its,r,g,hz⟩:=I.list c;refine SeqAt.in_listAt (wM x) g.isList (λw o=>IP C G r fs w (by simpa using o)) ⟨.bl _,H,I,rfl,?_⟩;rw[show its.toArray.any (wM x)=its.any (wM x) by simp,LQ r fs];exact q
 ·obtain⟨its,r,g,hz⟩:=I.tuple c;refine SeqAt.in_tupleAt (wM x) g (λw o=>IP C G r fs w (by simpa using o)) ⟨.bl _,H,I,rfl,?_⟩;rw[show its.toArray.any (wM x)=its.any (wM x) by simp,LQ r fs];exact q
theorem Si:CallR X (.builtin "len") (λxs H Q=>∃p ys,xs=[.ref p]/\(ir X.K H p ys\/i7 X.K H p ys)/\Q (.int ys.length) H):=by
 intro C s σ H xs G Q I r h;obtain⟨p,ys,rfl,g,q⟩:=h;obtain⟨u,rfl,E⟩:=uF r;cases E;have J:=AK;rcases g with g|g
 ·obtain⟨its,o,v,hz⟩:=I.list g;have c:=o.length;exact Calls.call_len_list v.isList (by simp only[aH]<;>ext) ⟨.int ys.length,H,I.tok _,⟨s.toks+1,by rw[aH,c]⟩,q⟩
 ·obtain⟨its,o,v,hz⟩:=I.tuple g;have c:=o.length;exact len_tuple v (by simp only[aH]<;>ext) ⟨.int ys.length,H,I.tok _,⟨s.toks+1,by rw[aH,c]⟩,q⟩
theorem P4:CallR X (.builtin "len") (λxs H Q=>∃z,xs=[.str z]/\z.length<=sizeLine/\Q (.int z.length) H):=by intro c s σ H xs g Q I r h;obtain⟨z,rfl,hz,q⟩:=h;obtain⟨u,rfl,t,rfl⟩:=uF r;have o:=AK;exact len_str (by ext) ⟨.int z.length,H,I.tok _,⟨_,rfl⟩,q⟩
theorem CallR.or{f:ac}{r u:List V->Hp->VK->Prop}(h:CallR X f r)(h':CallR X f u):CallR X f (λxs H Q=>r xs H Q\/u xs H Q):=by
 intro c s σ H xs g Q I o q;rcases q with q|q
 ·exact h c s σ H xs g Q I o q
 ·exact h' c s σ H xs g Q I o q
theorem Pg:CallR X (.type "list") (λxs H Q=>∃p ys,xs=[.ref p]/\(ir X.K H p ys\/i7 X.K H p ys)/\∀l,H l=none->Q (.ref l) (eO H l (.lst ys))):=by
 intro v s σ H xs Y Q I r h;obtain⟨p,ys,rfl,C,q⟩:=h;obtain⟨u,rfl,U⟩:=uF r;cases U;have G : ∀(its : List ac), cB ys its -> ys.length <= sizeLine -> ∀(h' : bh)(g : Nat), (∀b o', s.heap.get? b = some o' -> h'.get? b = some o') ->
   h'.get? s.heap.objs.size=some { cls:=.type "list",dict:=none,data:=.seq its.toArray g,slots:=#[] }->EP X v σ Q (.ref s.heap.objs.size) { s with heap:=h' }:=λits c hz h' g kp e=>
  ⟨.ref s.heap.objs.size,_,I.laid (t':=s.toks) kp (ax _) (show dE X.prog X.w _ h' _ (.lst ys) from ⟨hz,its,g,c,e⟩),rfl,q _ (I.hok.fresh (ax _))⟩
 rcases C with C|C
 ·obtain⟨its,c,J,hz⟩:=I.list C;have E:=c.length;obtain⟨o,L,O,n,hd⟩:=J.isList;exact call_list_seq p (.inl rfl) L O hd (λh' g kp e=>G its c hz h' g kp e) (by simp only[aH]<;>ext)
 ·obtain⟨its,c,J,hz⟩:=I.tuple C;have E:=c.length;obtain⟨o,L,O,n,hd⟩:=J;exact call_list_seq p (.inr rfl) L O hd (λh' g kp e=>G its c hz h' g kp e) (by simp only[aH]<;>ext)
theorem N3:CallR X (.type "tuple") (λxs H Q=>∃p ys,xs=[.ref p]/\((ir X.K H p ys/\∀l,H l=none->Q (.ref l) (eO H l (.tup ys)))\/(i7 X.K H p ys/\Q (.ref p) H))):=by
 intro c s σ H xs O Q I r h;obtain⟨p,ys,rfl,h⟩:=h;obtain⟨u,rfl,J⟩:=uF r;cases J;rcases h with ⟨C,q⟩|⟨C,q⟩
 ·obtain⟨its,g,v,hz⟩:=I.list C;have E:=g.length;refine call_tuple_list v.isList (λh' kp=>?_) (by simp only[aH]<;>ext);have G:Inv X c σ H { s with heap:=h' }:=I.kept (t':=s.toks) kp;have L:Inv X c σ (eO H h'.objs.size (.tup ys)) { s with heap:=h'.push { cls:=.type "tuple",data:=.seq its.toArray } }:=
   G.laid (t':=s.toks) (λb o e=>aq _ e) (ax _) (show dE X.prog X.w _ _ _ (.tup ys) from ⟨hz,its,g,gn.new _ _⟩)
  exact⟨.ref h'.objs.size,_,L,rfl,q _ (G.hok.fresh (ax _))⟩
 ·obtain⟨its,g,v,hz⟩:=I.tuple C;exact call_tuple_same v ⟨.ref p,H,I,rfl,q⟩
def OF(K:aj)(T:String)(x:V)(H:Hp):Prop:=match x with
 | .str _=>T="str"
 | .int _=>T="int"
 | .ref p => (T = "list" /\ ∃xs, ir K H p xs) \/ (T = "tuple" /\ ∃o, K.lookup p = some o /\ o.cls = .type "tuple" /\ o.dict = none) \/
   (T="dict"/\((∃c,H p=some (.dK c))\/∃c,H p=some (.dT c)))\/(T="set"/\∃S n,H p=some (.set S n))
 |_=>False
theorem W_{h:List (af×Obj)}{σ:St}{H:Hp}{s:ah}{T:String}{x:V}{v:ac}(I:Inv X h σ H s)(r:RelV x v)(ty:OF X.K T x H):
  s.TypeIs v T/\∀a,v=.ref a->∃ob,s.heap.get? a=some ob/\ob.dict=none:=by
 cases x with
 |str z=>
  obtain⟨t,rfl⟩:=r;cases (show T="str" from ty);exact⟨iZ s z t,λ_ e=>(by cases e)⟩
 |int i=>
  obtain⟨t,rfl⟩:=r;cases (show T="int" from ty);exact⟨typeIs_int s i t,λ_ e=>(by cases e)⟩
 |ref p=>
  cases r;rcases ty with ⟨rfl,xs,E⟩|⟨rfl,o,g,G,hd⟩|⟨rfl,g⟩|⟨rfl,S,n,g⟩
  ·obtain⟨its,_,C,_⟩:=I.list E;refine⟨C.isList.typeIs,λa e=>?_⟩;cases e;obtain⟨o,n,e,c,hd,_⟩:=C;exact⟨o,e,hd⟩
  ·refine⟨⟨o,I.kIn p o g,G⟩,λa e=>?_⟩;cases e;exact⟨o,I.kIn _ o g,hd⟩
  ·have z : ∃o, s.heap.get? p = some o /\ o.ExactDict := by
     rcases g with ⟨q,g⟩|⟨q,g⟩
     ·obtain⟨_,_,_,_,o,_,_,e,ex,_⟩:=I.hok p _ g;exact⟨o,e,ex⟩
     ·obtain⟨_,_,_,_,o,_,_,e,ex,_⟩:=I.hok p _ g;exact⟨o,e,ex⟩
   obtain⟨o,e,ex⟩:=z;refine⟨⟨o,e,ex.1⟩,λa u=>?_⟩;cases u;exact⟨o,e,ex.2.1⟩
  ·obtain⟨o,_,_,_,e,ex,_⟩:=I.hok p _ g;refine⟨⟨o,e,ex.1⟩,λa u=>?_⟩;cases u;exact⟨o,e,ex.2.1⟩
 |_=>exact bK ty
def UF(K:aj)(T:String)(r:V->List V->Hp->VK->Prop)(to:TE)(t:TA):TE:=λσ H Q=>to σ H λx c=>OF K T x c/\t σ c λxs g=>r x xs g Q
variable{o e:Expr}{es:List Expr}{to:TE}{t:TA}{name:Str}{b3 ap:Pos}{T id:String}{r:V->List V->Hp->VK->Prop}
theorem Bt(pa:PlainAttrs T)(slot:Slot T name id)(J:typeOf (.builtin id)=pure (.type "method_descriptor"))(hm:Be X id r)(ho:PE X o to)(ha:PA X (e::es) t)
  (u:cR o name X.env (eval o X.env)=eval o X.env:=by rfl)
  (G:((backTo ap (starEach (e::es) X.env)).all (λx => !x.1)&&(dZ ap (cz [] X.env)).all (λx=>x.1.isSome)
   && decide ((e::es).length+([]:List di).length+(if ([]:List di).isEmpty then 0 else 1) < 30))=true:=by rfl)
  (q:(b3.endLine == ap.line)=true:=by rfl) (hs:starEach (e::es) X.env=(false,eval e X.env)::starEach es X.env:=by rfl) (g:(backTo ap (starEach es X.env)).any (·.1)=false:=by rfl):
  PE X (.Call (.Attribute o name b3) (e::es) [] ap) (UF X.K T r to t):=by
 intro c s σ H Q I h;refine wpAny_Call_method_late u G q rfl (fE (ho c s σ H _ I h) λv s1 E=>?_);obtain⟨x,H1,U,L,ty,q1⟩:=E;obtain⟨h1,h2⟩:=W_ U L ty;refine⟨T,id,pa,slot,J,h1,h2,?_⟩;have O:=ha ap c s1 σ H1 _ U q1;rw[hs]at O ⊢;refine Calls.callWith_builtin (by show (false||(backTo ap (starEach es X.env)).any (·.1))=false;rw[g]<;>rfl) (tm ?_);exact fE O λus s2 C=>by obtain⟨Y,H2,I2,r2,q2⟩:=C;exact hm c s2 σ H2 x Y v us Q I2 L r2 q2
end
def X3(X:Cx)(id:String)(r:V->List V->Hp->VK->Prop):Prop:=
 ∀(ao:List (af×Obj))(s:ah)(σ:St)(H:Hp)(x:V)(xs:List V)(v:ac)(us:List ac)(Q:VK),Inv X ao σ H s->RelV x v->cB xs us->r x xs H Q ->
  aA (aP X.prog X.w) X.A (call (.builtin id) (v::us)) (EP X ao σ Q) X.xe s
theorem cB.one{x:V}{c:List ac}(h:cB [x] c):∃u,c=[u]/\RelV x u:=by
 cases h with
 |cons r h=>cases h;exact⟨_,rfl,r⟩
section
variable{X:Cx}{ao:List (af×Obj)}{σ:St}{H:Hp}{s:ah}{l b:af}{xs ys zs:List V}
theorem Inv.lset{its its':List ac}{n:Nat}{f:Array ac->Array ac}{t':Nat}(I:Inv X ao σ H s)(o:H l=some (.lst xs))
  (e:s.heap.get? l=some { cls:=.type "list",data:=.seq its.toArray n }) (g:f its.toArray=its'.toArray) (c:cB ys its') (hz:ys.length<=sizeLine):
  Inv X ao σ (eO H l (.lst ys)) { s with heap:=s.heap.update l (n_ f),toks:=t' }:=by
 have q:=PySem.IsL.update e f;rw[g]at q;refine I.write (x:=l) (e:=l) (by rw[o];exact trivial) (.inl rfl) (λv u h hu=>(dI s.heap (n_ f) (fB h)).trans hu) ⟨_,q⟩ ?_;exact⟨hz,its',_,c,q⟩
theorem Inv.lnew{its:List ac}{t':Nat}(I:Inv X ao σ H s)(c:cB ys its)(hz:ys.length<=sizeLine):
  Inv X ao σ (eO H s.heap.objs.size (.lst ys)) { s with heap:=s.heap.push { cls:=.type "list",data:=.seq its.toArray },toks:=t' }:=
 I.laid (λ_ _ q=>aq _ q) (ax _) ⟨hz,its,0,c,aK _ rfl⟩
theorem Inv.fresh(I:Inv X ao σ H s):H s.heap.objs.size=none:=I.hok.fresh (ax _)
theorem Inv.lstM(I:Inv X ao σ H s)(c:H l=some (.lst xs)):xs.length<=sizeLine/\∃(its:List ac)(n:Nat),cB xs its/\xs.length=its.length/\s.heap.get? l=some { cls:=.type "list",data:=.seq its.toArray n }:=by obtain⟨z,its,n,r,e⟩:=I.hok l _ c;exact⟨z,its,n,r,r.length,e⟩
end
section
variable{X:Cx}
def wr:V->List V->Hp->VK->Prop:=λx c H Q=>∃l xs y,x=.ref l/\c=[y]/\H l=some (.lst xs)/\xs.length < sizeLine/\Q .non (eO H l (.lst (xs++[y])))
theorem OG:X3 X "list.append" wr:=by intro c s σ H x G v J Q I o C h;obtain⟨l,xs,y,rfl,rfl,g,hz,q⟩:=h;cases o;obtain⟨u,rfl,E⟩:=C.one;obtain⟨z,its,n,r,L,e⟩:=I.lstM g;refine kS F.slot_list_append ⟨_,e,rfl⟩ F.entry_list_append (F.args_list_append_2 _ _) (PySem.list_append l its.toArray n u (by rw[aH];ext)) ⟨e,?_⟩;refine⟨.non,_,I.lset (its':=its++[u]) g e (by simp) (r.append (.cons E .nil)) ?_,rfl,q⟩;rw[aV,cf];ext
def IM:R2:=λx y H Q=>∃l b xs c,x=.ref l/\y=.ref b/\H l=some (.lst xs)/\H b=some (.lst c)/\xs.length+c.length<=sizeLine/\∀p,H p=none->Q (.ref p) (eO H p (.lst (xs++c)))
theorem Qu:OpR X (eV .Add) IM:=by
 intro g s σ H x y v u Q I C o h;obtain⟨l,b,xs,Y,rfl,rfl,J,L,hz,q⟩:=h;cases C;cases o;obtain⟨z,its,n,r,hl,e⟩:=I.lstM J;obtain⟨z2,c,n2,E,G,U⟩:=I.lstM L;refine PySem.P.add_list e U ?_ (by rw[aH,aH];ext);have O:its.toArray++c.toArray=(its++c).toArray:=by simp
 rw[O];exact⟨.ref _,_,I.lnew (t':=s.toks) (r.append E) (by rw[aV];ext),rfl,q _ I.fresh⟩
end
section
variable{prog:Program}{w:bq}{A:bn}{E:ac->ah->Prop}{s:ah}
theorem Ya{a c n:Nat}(g:a<=c)(q:c<=n):og (some (a:Int)) (some (c:Int)) none n=((a:Int),(c:Int),1):=by
 simp only[og,Option.getD_none];have o:¬ ((a:Int) < 0):=by ext
 have h:¬ ((c:Int) < 0):=by ext
 simp only[o,h,if_false,show (1:Int) > 0 by decide,if_true];congr 1
 ·ext
 ·congr 1;ext
end
end L2
namespace Att
open PySem PySem.W PySem.Calls PyProof.Rows
theorem Ts{P:A3}{h:bh}:∀(ns:List Int)(c:List ac),WellAll P h c (ns.map F5)->oB c ns:=by
 intro ns
 induction ns with
 |nil=>
  intro c w;rw[oC]at w;cases w;exact .nil
 |cons n ns ih=>
  intro c w;rw[aQ]at w;cases w with
  |cons a b=>
   cases a;exact .cons _ _ (ih _ b)
theorem RU{l:OpenLaw}{n:Nat}(J:l.most=some n){P:A3}{h:bh}{args:List WData}{c:List ac}
  (g:l.row.toRowW.claim.pre args=true) (C:WellAll P h c args):
  ∃a G ns,c=[av a]/\args=[WData.list (ns.map F5)]/\h.get? a=some { cls:=.type "list",data:=.seq G.toArray }/\oB G ns/\ns.length<=n:=by
 have E:WShape.hasAll [] args [.list .int]=true:=(pre_splitW g).1;have H:l.pre.holds [] { args:=args }=true:=(pre_splitW g).2;obtain⟨d,r,rfl,Q,O⟩:=hasAllW_cons E;obtain rfl:=hasAllW_nil O;obtain⟨xs,rfl,L⟩:=hasW_list Q;obtain⟨ns,rfl⟩:=items_int L;have o:ns.length<=n:=by
  unfold OpenLaw.pre at H;have v:(WTm.not (.lt (.lit (.int (n:Int))) (.len (.arg 0)))).holds [] { args:=[.list (ns.map .int)] }=true:=by have v:=(holds_andW H).1;rw[J]at v;exact v
  have u:=condW_of v (w_not (w_lt w_lit (w_len_list (w_arg rfl))));rw[ae]at u;refine pO λq=>?_;have I:(n:Int) < ((ns.length:Nat):Int):=by ext
  first
   | (rw[aM I]at u;exact bp u (by decide))
   | (simp at u;ext)
 cases C with
 |cons w1 w2=>
  cases w2;cases w1 with
  |list ho hall=>exact⟨_,_,ns,rfl,rfl,ho,Ts ns _ hall,o⟩
theorem U5(l:OpenLaw)(args:List WData):l.row.toRowW.claim.post args (.bool true) args=true:=
 postW_of (r:=l.row.toRowW) (X:=(true == true))
  (show BP [] (.bool true) .bool=true by first|rfl|decide|simp[BP,WShape.arms,WShape.armsAll])
  (show (WTm.eq .res (.lit (.bool true))).value [] { args:=args,res:=some (.bool true),after:=args }=some (.bool (true == true)) from w_eq_bool (w_res rfl) w_lit) rfl
theorem rS{l:OpenLaw}{n:Nat}{q:Program}{c:List Str}{XP:(Str->Option ac)->bh->Prop}{YP:bq->bh->Prop}{d:DefRec}
  (hn:l.most=some n) (U:d.params.defaults=[])
  (call:∀(w:bq)(s₀ s₁:ah)(mg L:Str->Option ac)(H:af)(o:Obj)(J I h:ac)(a:af)(u:List ac)(ns:List Int),
   Ground q c [] XP w s₀ mg L s₁.heap->YP w s₁.heap ->
   s₁.heap.get? H=some o->o.data=.func (docDef d.name d.params d.body d.scope J I h)->s₁.heap.CodeRec I d.name->mg d.name=some (.ref H) ->
   s₁.heap.get? a=some { cls:=.type "list",data:=.seq u.toArray }->oB u ns->ns.length<=n->s₁.gens=#[] ->
   mM (aP l.prog w) oD (.call (.ref H) ⟨[.ref a],[]⟩) (λr s'=>r=.ok (.ret (.bool true))/\OldK s₁.heap s'.heap/\s'.os=s₁.os/\kJ s'.gens) s₁):
  WalkO q c XP YP l.row.toRowW d [] (λf u=>qg f u):=by
 intro w s₀ s₁ mg L G Y H o J I h dV kV ho hd hcd hD Q hg args vals as v hlay hrd O hlo;obtain rfl:dV=.none:=Dflts.none hD U;obtain rfl:kV=.none:=Dflts.noKw hD;obtain⟨a,u,ns,rfl,rfl,C,g,E⟩:=RU hn v O;refine enter_call (iA (call w s₀ s₁ mg L H o J I h a u ns G Y ho (fd_plain hd) hcd Q C g E hg) λr s' hq=>?_);obtain⟨rfl,h2,h3,h4⟩:=hq;exact⟨.inl ⟨.bool true,.bool true,[],rfl,λ_=>rfl,.bool true,U5 l _,λ_=>⟨List.Pairwise.nil,λ_ hm=>(by cases hm)⟩⟩,h2,h3,h4⟩
end Att
namespace L2
open PySem PySem.Spec PyProof.Rows
theorem QF{c:List ac}{ns:List Int}(h:oB c ns):cB (ns.map V.int) c:=by
 induction h with
 |nil=>exact .nil
 |cons n t h ih=>exact .cons ⟨t,rfl⟩ ih
noncomputable def uN(H:Hp):Prop:=∀b,H b=none\/∃o xs,H b=some (.frz o (.lst xs))
theorem QX{P:Program}{w:bq}{K:aj}{mg mb:Str->Option ac}{CX:sG}{k:Nat}{fa a:af}{fd:bN}{x:Str}{sp:Sp}{s₁:ah}{G:List ac}{ns:List Int}
  (KX:K.In s₁.heap) (Y:s₁.heap.Ns bz mg) (g:s₁.heap.Ns pK mb) (hbb:∀x:Str,x≠"__name__"->mb x=cN x) (hlim:s₁.heap.NoLimit) (hg:s₁.gens=#[])
  (ha:s₁.heap.get? a=some { cls:=.type "list",data:=.seq G.toArray }) (hi:oB G ns) (hl:ns.length<=sizeLine) (hr:fo k oD)
  (F:∀base:bh,K.In base->base.Ns bz mg->fV P w K mg base CX k fa fd [x] sp) (I:∀(s:ah)(u:ac),lv s fd ⟨[u],[]⟩ [(x,u)])
  (hsp:∀H:Hp,uN H->ir K H a (ns.map V.int)->sp [.ref a] H (λv _=>v=.bl true) λ_ _ _=>False)
  (hCX:∀H e s',CX [] H s₁ (λ_ _ _=>False) e s'->False):
  mM (aP P w) oD (.call (.ref fa) ⟨[.ref a],[]⟩) (λr s'=>r=.ok (.ret (.bool true))/\OldK s₁.heap s'.heap/\s'.os=s₁.os/\kJ s'.gens) s₁:=by
 have rv:=QF hi;have O:=hi.length;have E : ∀H : Hp, uN H -> ir K H a (ns.map V.int) -> lL P w H s₁.heap -> (∀b, H b ≠ none -> b = a) -> (H a ≠ none -> K.lookup a = none) ->
   mM (aP P w) oD (.call (.ref fa) ⟨[.ref a],[]⟩) (λr s'=>r=.ok (.ret (.bool true))/\OldK s₁.heap s'.heap/\s'.os=s₁.os/\kJ s'.gens) s₁:=by
  intro H hO hS U hA hK;have c:∀{b:af}{o:Obj},s₁.heap.get? b=some o->H b=none->(qT s₁.heap H).get? b=some o:=λe n=>Rc e n;have qz:∀{b:af}{o:Obj}{es:Array oE}{ep:Nat},s₁.heap.get? b=some o->o.data=.dict es ep->H b=none:=λ{b o es ep}e d=>by
   cases q:H b with
   |none=>rfl
   |some u=>
    have e':b=a:=hA b (by rw[q];simp);subst e';rw[ha]at e;cases e;have d':Data.seq G.toArray _=Data.dict es ep:=d;cases d'
  have C:∀{b:af}{m:Str->Option ac},s₁.heap.Ns b m->(qT s₁.heap H).Ns b m:=λ{b m}L=>by obtain⟨o,es,ep,e,d,r⟩:=L;exact⟨o,es,ep,c e (qz e d),d,r⟩
  have hKb:K.In (qT s₁.heap H):=λb o e=>c (KX b o e) (by
   cases q:H b with
   |none=>rfl
   |some u=>
    have e':b=a:=hA b (by rw[q];simp);subst e';rw[hK (by rw[q];simp)]at e;cases e)
  have hM:Mod K mg (qT s₁.heap H):=⟨hKb,C Y,⟨mb,C g,hbb⟩,let ⟨mc,h1,h2⟩:=hlim;⟨mc,C h1,h2⟩⟩
  have e0:qS P w K mg (qT s₁.heap H) oD [] s₁ H:=⟨rfl,hM,λb o e=>WX e,EU (SM _ _),trivial,λb g=>bp (show b∈([]:List af) from g) (by simp),U,.of_eq hg⟩
  refine iA ((F _ hKb (C Y)).run oD [] s₁ H ⟨[.ref a],[]⟩ [.ref a] [.ref a] _ _ hr e0 (I s₁ (.ref a)) (.cons rfl .nil) (hsp H hO hS)) λr s' h=>?_;cases r with
  |error e=>exact (hCX H e s' h).elim
  |ok fl=>
   cases fl with
   |next=>exact bK h
   |brk=>exact bK h
   |cont=>exact bK h
   |ret u=>
    obtain⟨v,H',os,bare,un,Q,r',q⟩:=h;have q':v=.bl true:=q;subst q';obtain rfl:u=dS true:=r';refine⟨rfl,OldK.of_keep λb o e=>?_,os,bare⟩;cases q:H b with
    |none=>exact un.keep b o e q (by intro z;exact bp (show b∈([]:List af) from z) (by simp)) (by simp)
    |some u=>
     rcases hO b with z|⟨ob,xs,z⟩
     ·rw[q]at z;cases z
     ·have g:=un.frzs b ob _ z;obtain⟨c,_⟩:=U b _ z;obtain⟨h,_⟩:=Q b _ g;rw[e]at c;cases c;exact h
 cases hk:K.lookup a with
 |some o=>
  have e:=KX a o hk;rw[ha]at e;cases e;refine E (λ_=>none) (λ_=>.inl rfl) (.inr ⟨_,G.toArray,_,hk,rfl,rfl,rfl,by rw[aH,O];exact hl,by simpa using rv⟩) (λb u z=>by have J:(none:Option HO)=some u:=z;cases J) (λb z=>bp rfl z) λz=>bp rfl z
 |none=>
  refine E (λb=>if b=a then some (.frz { cls:=.type "list",data:=.seq G.toArray } (.lst (ns.map V.int))) else none) (λb=>?_) (.inl (.inr ⟨{ cls:=.type "list",data:=.seq G.toArray },aG rfl⟩)) (λb u z=>?_) (λb z=>?_) λ_=>hk
  ·by_cases g:b=a
   ·exact .inr ⟨_,_,aG g⟩
   ·exact .inl (az g)
  ·by_cases g:b=a
   ·have J:=(aG g).symm.trans z;cases J;subst g;exact⟨ha,by rw[ae];exact hl,G,_,rv,ha⟩
   ·have J:=(az g).symm.trans z;cases J
  ·by_cases g:b=a
   ·exact g
   ·exact bp (az g) z
theorem xt{l:oZ}{n k:Nat}{q:Program}{g:List Str}{XP:(Str->Option ac)->bh->Prop}{YP:bq->bh->Prop}{d:DefRec}{K:A3->aj}{CX:bq->sG}{sp:bq->Sp}{x:Str}
  (hn:l.most=some n) (L:n<=sizeLine) (Q:d.params.defaults=[]) (hr:fo k oD)
  (hY:∀(w:bq)(h:bh),YP w h->(K w.params).In h)
  (F:∀(w:bq)(mg:Str->Option ac)(I:af)(h:bh),(K w.params).In h->h.Ns bz mg->mg d.name=some (.ref I) ->
   ∃fd:bN,(∀(s:ah)(u:ac),lv s fd ⟨[u],[]⟩ [(x,u)]) /\
    ∀base:bh,(K w.params).In base->base.Ns bz mg->fV l.prog w (K w.params) mg base (CX w) k I fd [x] (sp w))
  (J:∀(w:bq)(H:Hp)(a:af)(ns:List Int),ns.length<=n->uN H->ir (K w.params) H a (ns.map V.int)->sp w [.ref a] H (λv _=>v=.bl true) λ_ _ _=>False)
  (U:∀(w:bq)(H:Hp)(s:ah)(e:ac)(s':ah),CX w [] H s (λ_ _ _=>False) e s'->False):
  qh q g XP YP l.row.toRowW d [] (λf vs=>qg f vs):=by
 refine Att.rS hn Q λw s₀ s₁ mg mb I o pm cd doc a vs ns G Y ho hd hcd O E C c hg=>?_;have KX:=hY w _ Y;obtain⟨fd,hb,hF⟩:=F w mg I _ KX G.T.g O;exact QX KX G.T.g G.T.b G.T.builtins G.T.nolimit hg E C (bC c L) hr hF hb (λH hO hS=>J w H a ns c hO hS) λH e s'=>U w H s₁ e s'
theorem vw{l:oZ}{n k:Nat}{q:Program}{c:List Str}{XP:(Str->Option ac)->bh->Prop}{J:bq->bh->Prop}{d:DefRec}{K:A3->aj}{CX:sG}{sp:aj->Sp}{x:Str}
  (Q:l.most=some n) (o:n<=sizeLine) (C:d.params.defaults=[]) (O:fo k oD)
  (U:∀(w:bq)(h:bh),J w h->(K w.params).In h)
  (F:∀(w:bq)(mg:Str->Option ac)(I:af)(h:bh),(K w.params).In h->h.Ns bz mg->mg d.name=some (.ref I) ->
   ∃G:bN,(∀(s:ah)(u:ac),lv s G ⟨[u],[]⟩ [(x,u)]) /\
    ∀base:bh,(K w.params).In base->base.Ns bz mg->fV l.prog w (K w.params) mg base CX k I G [x] (sp (K w.params)))
  (g:∀(K:aj)(H:Hp)(a:af)(ns:List Int),ns.length<=n->uN H->ir K H a (ns.map V.int)->sp K [.ref a] H (λv _=>v=.bl true) λ_ _ _=>False)
  (E:∀(H:Hp)(s:ah)(e:ac)(s':ah),CX [] H s (λ_ _ _=>False) e s'->False):
  qh q c XP J l.row.toRowW d [] (λf L=>qg f L):=
 xt (K:=K) (CX:=λ_=>CX) (sp:=λw=>sp (K w.params)) Q o C O U F (λw H a ns h1 h2 Y=>g (K w.params) H a ns h1 h2 Y) λ_ H s e s'=>E H s e s'
noncomputable def d8(s:Stmt):EO:=match s with
 | .FunctionDef _ a _ _ _ _ _ _ _ _=>a
 |_=>{ posonlyargs:=[],args:=[],vararg:=none,kwonlyargs:=[],kw_defaults:=[],kwarg:=none,defaults:=[] }
noncomputable def cK(s:Stmt):List Stmt:=match s with
 | .FunctionDef _ _ b _ _ _ _ _ _ _=>b
 |_=>[]
noncomputable def aX(s:Stmt):dD:=match s with
 | .FunctionDef _ _ _ _ _ _ sc _ _ _=>sc
 |_=>{ kind:=.function,names:=[],isGenerator:=false,isCoroutine:=false }
noncomputable abbrev ou:sG:=λ_ _ _ _ _ _=>False
noncomputable abbrev E0:XK:=λ_ _ _=>False
theorem N_{X:Cx}:pC ou X E0:=λ_ _ _ _ _ _ _ h=>h.elim
structure tH(K:aj)(x qual:Str)(st:Stmt)(f:af)(fd:bN):Prop where
 ex:∃(oc:ac)(od:Option af)(kV doc pm:ac)(an:Option af)(cdv ct:ac)(osl:Array (Option ac)),
  fd=d9 x qual (d8 st) (cK st) (aX st) .none kV doc pm an cdv ct/\K.lookup f=some ⟨oc,od,.func fd,osl⟩/\lE K cdv qual=true
 kp:fm K (.ref f)=true
section
variable{P:Program}{w:bq}{K:aj}{mg:Str->Option ac}{base:bh}
theorem tH.ok{x qual:Str}{st:Stmt}{f:af}{C:bN}{N ps:List Str}{k:Nat}{sp:Sp}(F:tH K x qual st f C)(S:iq N ps (aX st))(len:∀g H Q E,sp g H Q E->g.length=ps.length)
  (o:∀(c:ac)(A:bn)(outer:List Env)(s:ah)(H:Hp)(g:List V)(Q:VK)(E:XK),fo k (A.deeper (iB qual (aX st) s.heap.objs.size f c))->sp g H Q E ->
   ∃t,PSs (mD ou P w K mg base N qual (aX st) f c A outer s H E).nox (cK st) t/\t { nx:=λ_ O=>Q .non O,rt:=Q } (start N g) H):fV P w K mg base ou (k+1) f C ps sp:=by
 obtain⟨oc,Y,kV,L,U,an,c,ct,G,rfl,I,v⟩:=F.ex;refine Hj I v S len λA outer s H g Q E J u=>?_;obtain⟨t,h,q⟩:=o c A outer s H g Q E J u;exact⟨t,h.nox,q⟩
theorem tH.binds{x qual:Str}{st:Stmt}{f:af}{v:bN}{ps:List Str}(F:tH K x qual st f v)
  (h:∀(kV c q:ac)(u:Option af)(g ct:ac)(o:List ac),o.length=ps.length->lW (d9 x qual (d8 st) (cK st) (aX st) .none kV c q u g ct) ⟨o,[]⟩=pure (ps.zip o)):Binds K v ps []:=by
 obtain⟨H,G,kV,c,q,u,g,ct,C,rfl,I,E⟩:=F.ex;exact .all (h kV c q u g ct)
theorem NZ{x qual:Str}{st:Stmt}{f:af}{C:ac}{v u:Option af}{o:Array (Option ac)}{kV h q g ct:ac}(l:K.lookup f=some ⟨C,v,.func (d9 x qual (d8 st) (cK st) (aX st) .none kV h q u g ct),o⟩)
  (c:lE K g qual=true) (k:fm K (.ref f)=true):tH K x qual st f (d9 x qual (d8 st) (cK st) (aX st) .none kV h q u g ct):=⟨⟨C,v,kV,h,q,u,g,ct,o,rfl,l,c⟩,k⟩
end
section
variable{κ:Type}[DecidableEq κ]
noncomputable def oV(c:List (κ×V))(k:κ):Option V:=(c.find? λg=>decide (g.1=k)).map (·.2)
noncomputable def nv(c:List (κ×V))(k:κ)(v:V):List (κ×V):=
 if (c.any λg=>decide (g.1=k))=true then c.map (λg=>if g.1=k then (g.1,v) else g) else c++[(k,v)]
theorem FH{p:κ×V}{r:List (κ×V)}{k:κ}(e:p.1=k):oV (p::r) k=some p.2:=by simp[oV,cX,e]
theorem FP{p:κ×V}{r:List (κ×V)}{k:κ}(e:¬ p.1=k):oV (p::r) k=oV r k:=by simp[oV,cX,e]
theorem Nd(k:κ):∀c:List (κ×V),(c.any λg=>decide (g.1=k))=(oV c k).isSome
 |[]=>rfl
 |p::r=>by
  rw[b9];by_cases e:p.1=k
  ·simp only[FH e,aM e,BQ,tL]
  ·rw[FP e,aO e,A4];exact Nd k r
theorem K7(c:List (κ×V))(k:κ)(v:V):(nv c k v).length<=c.length+1:=by
 unfold nv;split
 ·rw[ae];ext
 ·rw[aV,cm,eX];ext
theorem nh.isSome_eq{o:Option V}{u:Option ac}(r:nh o u):o.isSome=u.isSome:=by
 cases o with
 |none=>cases u with
  |none=>rfl
  |some _=>exact (show False from r).elim
 |some _=>cases u with
  |none=>exact (show False from r).elim
  |some _=>rfl
theorem KV.val{c:List (κ×V)}{o:List (κ×ac)}(r:KV c o)(k:κ):nh (oV c k) (qi o k):=by
 unfold KV at r
 induction r with
 |nil=>exact eN
 |@cons p q ps qs h t ih=>
  obtain⟨u,v⟩:=h;by_cases e:p.1=k
  ·have g:q.1=k:=u.symm.trans e;have b:qi (q::qs) k=some q.2:=by simp[qi,cX,g]
   rw[FH e,b];exact v
  ·have g:¬ q.1=k:=λz=>e (u.trans z);have b:qi (q::qs) k=qi qs k:=by simp[qi,cX,g]
   rw[FP e,b];exact ih
theorem KV.any{c:List (κ×V)}{o:List (κ×ac)}(r:KV c o)(k:κ):(c.any λg=>decide (g.1=k))=o.any λg=>decide (g.1=k):=by
 unfold KV at r
 induction r with
 |nil=>rfl
 |cons h t ih=>rw[b9,b9,ih,h.1]
theorem KV.repl{g:List (κ×V)}{v:List (κ×ac)}(r:KV g v)(k:κ){y:V}{u:ac}(C:RelV y u):
  KV (g.map λc=>if c.1=k then (c.1,y) else c) (v.map λc=>if c.1=k then (c.1,u) else c):=by
 unfold KV at r ⊢
 induction r with
 |nil=>exact .nil
 |@cons p q ps qs h t ih=>
  rw[aQ,aQ];refine .cons ?_ ih;obtain⟨o,E⟩:=h;by_cases e:p.1=k
  ·rw[aG e,aG (o.symm.trans e)];exact⟨o,C⟩
  ·rw[az e,az (λz=>e (o.trans z))];exact⟨o,E⟩
theorem KV.put{c:List (κ×V)}{g:List (κ×ac)}(r:KV c g)(k:κ){y:V}{u:ac}(h:RelV y u):KV (nv c k y) (stored g k u):=by
 unfold nv stored;rw[r.any k];by_cases e:(g.any λo=>decide (o.1=k))=true
 ·rw[aG e,aG e];exact r.repl k h
 ·rw[az e,az e];exact lM r ⟨rfl,h⟩
theorem KV.length{c:List (κ×V)}{g:List (κ×ac)}(r:KV c g):c.length=g.length:=e8 r
end
theorem FC{P:Program}{w:bq}{k:Key}{u:ac}(r:RelV (kV k) u):(fH P w).is k u=true:=by
 cases k with
 |inl i=>obtain⟨t,e⟩:=(show ∃t,u=gR i t from r);subst e;exact Qf P w i t
 |inr x=>obtain⟨t,e⟩:=(show ∃t,u=gS x t from r);subst e;exact OQ P w x t
theorem N1{P:Program}{w:bq}:∀{ks:List Key}{c:List ac},cB (ks.map kV) c->ItemsAre (fH P w) ks c
 |[],_,r=>by rw[oC]at r;cases r;exact .nil
 |k::ks,_,r=>by
  rw[aQ]at r;cases r with
  |cons h t=>exact .cons (FC h) (N1 t)
abbrev KT(H:Hp):List (List Key×V)->List (List Key×af×ac)->Prop:=ii λp q=>p.1=q.1/\H q.2.1=some (.tup (p.1.map kV))/\RelV p.2 q.2.2
theorem KT.val{H:Hp}{c:List (List Key×V)}{xs:List (List Key×af×ac)}(r:KT H c xs)(k:List Key):nh (oV c k) ((lX xs k).map (·.2)):=by
 induction r with
 |nil=>exact eN
 |@cons p q ps qs h t ih=>
  obtain⟨o,_,u⟩:=h;by_cases e:p.1=k
  ·have g:q.1=k:=o.symm.trans e;have b:lX (q::qs) k=some q.2:=by simp[lX,cX,g]
   rw[FH e,b];exact u
  ·have g:¬ q.1=k:=λz=>e (o.trans z);have b:lX (q::qs) k=lX qs k:=by simp[lX,cX,g]
   rw[FP e,b];exact ih
theorem KT.repl{H:Hp}{c:List (List Key×V)}{xs:List (List Key×af×ac)}(r:KT H c xs)(k:List Key){y:V}{u:ac}(C:RelV y u):
  KT H (c.map λo=>if o.1=k then (o.1,y) else o) (xs.map (rm k u)):=by
 induction r with
 |nil=>exact .nil
 |@cons p q ps qs h t ih=>
  rw[aQ,aQ];refine .cons ?_ ih;obtain⟨g,v,E⟩:=h;unfold rm;by_cases e:p.1=k
  ·rw[aG e,aG (g.symm.trans e)];exact⟨g,v,C⟩
  ·rw[az e,az (λz=>e (g.trans z))];exact⟨g,v,E⟩
theorem KT.put{H:Hp}{c:List (List Key×V)}{xs:List (List Key×af×ac)}(r:KT H c xs)(k:List Key){b:af}{y:V}{u:ac}(o:H b=some (.tup (k.map kV)))(g:RelV y u):
  KT H (nv c k y) (oF xs k b u):=by
 have e:(c.any λh=>decide (h.1=k))=(lX xs k).isSome:=by rw[Nd,(r.val k).isSome_eq,nP]
 unfold nv oF;rw[e];by_cases q:(lX xs k).isSome=true
 ·rw[aG q,aG q];exact r.repl k g
 ·rw[az q,az q];exact lM r ⟨rfl,o,g⟩
theorem KT.keeps{H g:Hp}{c:List (List Key×V)}{xs:List (List Key×af×ac)}(r:KT H c xs)(h:∀b ys,H b=some (.tup ys)->g b=some (.tup ys)):KT g c xs:=
 ii.mapP r λ_ _ z=>⟨z.1,h _ _ z.2.1,z.2.2⟩
section
variable{P:Program}{w:bq}{H:Hp}{h:bh}{a:af}
theorem MH{u:HO}(ok:lL P w H h)(e:Rd H a u):dE P w H h a u:=e.ok ok
theorem FL{c:List (Key×V)}(ok:lL P w H h)(e:Rd H a (.dK c)):c.length<=sizeLine/\(a == eU)=false/\∃g,KV c g/\h.DictOf (fH P w) a g:=
 show dE P w H h a (.dK c) from MH ok e
theorem K4{c:List (Key×V)}(ok:lL P w H h)(e:H a=some (.dK c)):c.length<=sizeLine/\(a == eU)=false/\∃g,KV c g/\h.DictOf (fH P w) a g:=FL ok (.inl e)
theorem Fs{ks:List Key}(ok:lL P w H h)(e:H a=some (.tup (ks.map kV))):(qU (fH P w)).is h ks a:=by
 obtain⟨_,its,r,o,q,g,⟨n,c⟩,_⟩:=(show dE P w H h a (.tup (ks.map kV)) from ok a _ e)
 exact⟨o,its.toArray,n,q,g,c,by simpa using N1 r⟩
theorem Jo{c:List (List Key×V)}(ok:lL P w H h)(e:Rd H a (.dT c)): c.length<=sizeLine/\(a == eU)=false /\
  ∃xs,KT H c xs/\h.DictOfH (qU (fH P w)) a xs:=by
 obtain⟨z,y,xs,r,o,es,I,G,E,C,v,u⟩:=(show dE P w H h a (.dT c) from MH ok e)
 refine⟨z,y,xs,r,o,es,I,G,E,C,v,λx g=>?_,u⟩;have all:∀{l:List (List Key×V)}{m:List (List Key×af×ac)},KT H l m->∀x∈m,(qU (fH P w)).is h x.1 x.2.1:=by
  intro l m q
  induction q with
  |nil=>intro x g;cases g
  |@cons p q ps qs hq t ih=>
   intro x g;rcases aF.mp g with e|g
   ·subst e;exact Fs ok (by rw[<- hq.1];exact hq.2.1)
   ·exact ih x g
 exact all r x g
theorem SQ{c:List (List Key×V)}(ok:lL P w H h)(e:H a=some (.dT c)): c.length<=sizeLine/\(a == eU)=false /\
  ∃xs,KT H c xs/\h.DictOfH (qU (fH P w)) a xs:=Jo ok (.inl e)
end
def uj(H:Hp)(a:af)(y:V)(r:Option V):Prop:=
 (∃c k,Rd H a (.dK c)/\y=kV k/\r=oV c k)\/∃c k b,Rd H a (.dT c)/\y=.ref b/\H b=some (.tup (k.map kV))/\r=oV c k
def wU(H:Hp)(a:af)(y v:V)(g:Hp):Prop:=
 (∃c k,H a=some (.dK c)/\y=kV k/\c.length < sizeLine/\g=eO H a (.dK (nv c k v))) \/
 ∃c k b,H a=some (.dT c)/\y=.ref b/\H b=some (.tup (k.map kV))/\c.length < sizeLine/\g=eO H a (.dT (nv c k v))
theorem uj.k{H:Hp}{a:af}{c:List (Key×V)}{k:Key}(e:H a=some (.dK c)):uj H a (kV k) (oV c k):=.inl ⟨c,k,.inl e,rfl,rfl⟩
theorem wU.k{H:Hp}{a:af}{c:List (Key×V)}{k:Key}{v:V}(e:H a=some (.dK c))(g:c.length < sizeLine):wU H a (kV k) v (eO H a (.dK (nv c k v))):=.inl ⟨c,k,e,rfl,g,rfl⟩
section
variable{X:Cx}{ao:List (af×Obj)}{σ:St}{H:Hp}{s:ah}{a:af}{y v:V}{u r:ac}{o:Option V}{A:bn}{E:ac->ah->Prop}
theorem Wm{Q:ac->ah->Prop}(hu:A.units+1 < dM)(I:Inv X ao σ H s)(g:uj H a y (some v))(Y:RelV y u)(h:∀C s',Inv X ao σ H s'->RelV v C->Q C s'):
  aA (aP X.prog X.w) A (mQ (.ref a) u) Q E s:=by
 rcases g with ⟨G,k,e,O,l⟩|⟨G,k,b,e,O,eb,l⟩
 ·subst O;obtain⟨z,hd,g,q,U⟩:=FL I.hok e;obtain⟨C,J,c⟩:=nh.some_of (v:=v) (o:=qi g k) (by rw[l];exact q.val k);exact wpAny_getItem_of (FC Y) U.mapOf J (h C _ (I.tok _) c)
 ·subst O;cases (show u=av b from Y);obtain⟨z,hd,xs,q,U⟩:=Jo I.hok e;obtain⟨C,J,c⟩:=nh.some_of (v:=v) (o:=(lX xs k).map (·.2)) (by rw[l];exact q.val k);obtain⟨p,g,L⟩:=dF.mp J;refine A5 (pP hu) (Fs I.hok eb) U g ?_;rw[L];exact h C _ (I.tok _) c
theorem G9{Q:ac->ah->Prop}(hu:A.units+1 < dM)(I:Inv X ao σ H s)(g:uj H a y o)(L:RelV y u)(h:∀s',Inv X ao σ H s'->Q (.bool o.isSome) s'):
  aA (aP X.prog X.w) A (bG .In u (.ref a)) Q E s:=by
 rcases g with ⟨C,k,e,G,l⟩|⟨C,k,b,e,G,O,l⟩
 ·subst G;obtain⟨z,hd,U,c,J⟩:=FL I.hok e;refine wpAny_in_of (FC L) hd J.mapOf ?_;rw[<- (c.val k).isSome_eq,<- l];exact h _ (I.tok _)
 ·subst G;cases (show u=av b from L);obtain⟨z,hd,xs,c,J⟩:=Jo I.hok e;refine wpAny_in_heap (pP hu) (Fs I.hok O) hd J ?_;have q:=(c.val k).isSome_eq;rw[nP]at q;rw[<- q,<- l];exact h _ (I.tok _)
theorem Kp{h':bh}{t':Nat}{ob:HO}(I:Inv X ao σ H s)(c:D8 (H a))(g:eB a s.heap h')(h:∃q,h'.get? a=some q)(new:dE X.prog X.w (eO H a ob) h' a ob):
  Inv X ao σ (eO H a ob) { s with heap:=h',toks:=t' }:=
 I.write (x:=a) (e:=a) c (.inl rfl) (λb q C z=>(g.2 b C).trans z) h new
theorem Pf{P:Program}{w:bq}{C:Hp}{h':bh}{c:List (Key×V)}{g:List (Key×ac)}(z:c.length<=sizeLine)(hd:(a == eU)=false)(h:KV c g)(q:h'.DictOf (fH P w) a g):
  dE P w C h' a (.dK c):=⟨z,hd,g,h,q⟩
theorem Wb{H':Hp}{Q:Unit->ah->Prop}(hu:A.units+1 < dM)(I:Inv X ao σ H s)(g:wU H a y v H')(ry:RelV y u)(rv:RelV v r)(h:∀s',Inv X ao σ H' s'->Q () s'):
  aA (aP X.prog X.w) A (qd (.ref a) u r) Q E s:=by
 rcases g with ⟨G,k,e,Y,l,o⟩|⟨G,k,b,e,Y,eb,l,o⟩
 ·subst Y o;obtain⟨z,hd,c,C,dd⟩:=K4 I.hok e;have hz:c.length<=sizeLine:=by rw[<- C.length];exact z
  have U:(nv G k v).length<=sizeLine:=by have:=K7 G k v;ext
  refine wpAny_setItem_pairs (hsz:=hz) (FC ry) dd λh' J O=>h _ ?_;have g:∃q,h'.get? a=some q:=by obtain ⟨q,_,_,L,_⟩:=J;exact ⟨q,L⟩
  exact Kp I (by rw[e];exact eN) O g (Pf U hd (C.put k rv) J)
 ·subst Y o;cases (show u=av b from ry);obtain⟨z,hd,xs,C,dd⟩:=SQ I.hok e;have hz:xs.length<=sizeLine:=by rw[<- e8 C];exact z
  have U:(nv G k v).length<=sizeLine:=by have:=K7 G k v;ext
  refine wpAny_setItem_heap (hsz:=hz) (pP hu) (Fs I.hok eb) dd λh' J O=>h _ ?_;obtain⟨q,es,ep,L,h2,Q,H,_,E⟩:=J;refine Kp I (by rw[e];exact eN) O ⟨q,L⟩ ⟨U,hd,_,(C.put k eb rv).keeps λc ys g=>?_,q,es,ep,L,h2,Q,H,E⟩;rw[gm (V2 g e (λz=>(by cases z)))];exact g
end
section
variable{X:Cx}{ao:List (af×Obj)}{σ:St}{H:Hp}{s:ah}{a:af}{bb:List (Key×V)}{k:Key}{u:ac}{A:bn}{E:ac->ah->Prop}
theorem Qv{Q:ac->ah->Prop}(I:Inv X ao σ H s)(e:Rd H a (.dK bb))(h:∀t s',Inv X ao σ H s'->Q (.int bb.length t) s'):aA (aP X.prog X.w) A (call (.builtin "len") [.ref a]) Q E s:=by obtain⟨z,hd,o,c,g⟩:=FL I.hok e;refine call_len_dict hd g (by rw[<- c.length];rw[rf]at z;ext) ?_;rw[<- c.length];exact h _ _ (I.tok _)
end
structure M1(X:Cx)(o:Expr)(m:Str)(b3:Pos)(e:Expr)(ap:Pos):Prop where
 base:cR o m X.env (eval o X.env)=eval o X.env
 few:((backTo ap (starEach [e] X.env)).all (λx => !x.1)&&(dZ ap (cz [] X.env)).all (λx=>x.1.isSome)
  && decide (([e]:List Expr).length+([]:List di).length+(if ([]:List di).isEmpty then 0 else 1) < 30))=true
 line:(b3.endLine == ap.line)=true
 trees:backTo ap (starEach [e] X.env)=[(false,eval e X.env)]
structure M2(X:Cx)(o:Expr)(m:Str)(b3:Pos)(e f:Expr)(ap:Pos):Prop where
 base:cR o m X.env (eval o X.env)=eval o X.env
 few:((backTo ap (starEach [e,f] X.env)).all (λx => !x.1)&&(dZ ap (cz [] X.env)).all (λx=>x.1.isSome)
  && decide (([e,f]:List Expr).length+([]:List di).length+(if ([]:List di).isEmpty then 0 else 1) < 30))=true
 line:(b3.endLine == ap.line)=true
 trees:backTo ap (starEach [e,f] X.env)=[(false,eval e X.env),(false,eval f X.env)]
end L2
namespace MM
open PySem PySem.Spec PyProof.Rows L2
noncomputable abbrev KI:=Int ⊕ List Int
section
variable{prog:Program}{w:bq}
variable(prog w) in
inductive uc(h:bh):KI->ac->Prop
 |one (i:Int) (t:Tok):uc h (.inl i) (.int i t)
 |row {k:List Int}{b:af}:A6 (oz prog w) h k b->uc h (.inr k) (.ref b)
variable(prog w) in
inductive mC(h:bh):List KI->List ac->Prop
 |nil:mC h [] []
 |cons {k:KI}{v:ac}{ks:List KI}{vs:List ac}:uc prog w h k v->mC h ks vs->mC h (k::ks) (v::vs)
variable(prog w) in
noncomputable def dP(h:bh)(ks:List KI)(a:af):Prop:=∃o c n,h.get? a=some o/\o.cls=.type "tuple"/\o.data=.seq c n/\mC prog w h ks c.toList
theorem uc.inj{h:bh}{x y:KI}{v:ac}(a:uc prog w h x v)(b:uc prog w h y v):x=y:=by
 cases a with
 |one i t=>cases b;rfl
 |row a=>cases b with
  |row b=>rw[a.inj b]
theorem mC.inj{h:bh}{x y:List KI}{c:List ac}(a:mC prog w h x c)(b:mC prog w h y c):x=y:=by
 induction a generalizing y with
 |nil=>cases b;rfl
 |cons a t ih=>cases b with
  |cons b u=>rw[a.inj b,ih u]
theorem dP.typeIs{s:ah}{ks:List KI}{a:af}(x:dP prog w s.heap ks a):s.TypeIs (.ref a) "tuple":=by obtain ⟨o,_,_,c,g,_⟩:=x;exact ⟨o,c,g⟩
theorem dP.inj{h:bh}{a:af}{x y:List KI}(E:dP prog w h x a)(C:dP prog w h y a):x=y:=by
 obtain⟨o,q,n,G,_,hd,H⟩:=E;obtain⟨o',g,I,u,_,c,v⟩:=C;cases G.symm.trans u;rw[hd]at c;injection c with h1 _
 subst h1;exact H.inj v
theorem uc.keeps{h h':bh}{d:af}{o:Obj}{es q}(g:h.get? d=some o)(hd:o.data=.dict es q)(c:eB d h h'):∀{x:KI}{v:ac},uc prog w h x v->uc prog w h' x v
 |_,_,.one i t=>.one i t
 |_,_,.row a=>.row (a.keeps g hd c)
theorem mC.keeps{h h':bh}{d:af}{o:Obj}{es u}(q:h.get? d=some o)(hd:o.data=.dict es u)(g:eB d h h'){x:List KI}{c:List ac}(r:mC prog w h x c):mC prog w h' x c:=by
 induction x generalizing c with
 |nil=>cases r;exact .nil
 |cons k x ih=>cases r with|cons a t=>exact .cons (a.keeps q hd g) (ih t)
theorem dP.keeps{h h':bh}{ks:List KI}{a d:af}{o:Obj}{es H}(x:dP prog w h ks a)(C:h.get? d=some o)(hd:o.data=.dict es H)(v:eB d h h'):
  dP prog w h' ks a:=by
 obtain⟨o',c,n,q,G,g,E⟩:=x;have u:a≠d:=by
  rintro rfl
  obtain rfl:o'=o:=bw (q.symm.trans C);rw[hd]at g;exact nomatch g
 exact⟨o',c,n,(v.2 a u).trans q,G,g,E.keeps C hd v⟩
def Ab:KI->Int
 | .inl i=>hashInt i
 | .inr r=>reduceHash (cU (r.map hashInt))
def nB(ks:List KI):Int:=reduceHash (cU (ks.map Ab))
def GO:KI->Nat
 | .inl _=>1
 | .inr r=>r.length+1
def gK:List KI->Nat
 |[]=>0
 |k::ks=>GO k+gK ks
variable{A:bn}{E:ac->ah->Prop}{s:ah}
theorem HR(k:KI):∀(l:List KI),gK (l++[k])=gK l+GO k
 |[]=>by simp[gK]
 |x::l=>by simp[gK,HR k l];ext
theorem V0{k:KI}{v:ac}{Q:Int->ah->Prop}(hu:A.units < dM)(c:uc prog w s.heap k v)(h:Q (Ab k) { s with toks:=s.toks+GO k }):aA (aP prog w) A (pyHash v) Q E s:=by
 cases c with
 |one i t=>exact EL h
 |row c=>exact wpAny_pyHash_tuple (knd:=oz prog w) hu c h
theorem Tt{x y:KI}{u v:ac}{Q:Bool->ah->Prop}(hu:A.units < dM)(I:uc prog w s.heap x u)(G:uc prog w s.heap y v)(h:Q (decide (x=y)) s):aA (aP prog w) A (eqBool u v) Q E s:=by
 cases I with
 |one i t=>
  cases G with
  |one j t'=>
   refine EM ?_;have e:(i == j)=decide ((kh i:KI)=kh j):=by
    by_cases z:i=j
    ·subst z;simp
    ·have H:¬ ((kh i:KI)=kh j):=λq=>z (by injection q);rw[aO H];exact beq_eq_false_iff_ne.mpr z
   first|(rw[e];exact h)|(simpa [e] using h)
  |row h2=>
   obtain⟨o,c,n,g,C,hd,_⟩:=h2;rw[aO (by simp)]at h;exact ET.int_tuple i t ⟨o,g,C,n,hd⟩ hu prog w E Q h
 |row h1=>
  cases G with
  |one j t'=>
   obtain⟨o,c,n,g,C,hd,_⟩:=h1;rw[aO (by simp)]at h;exact ET.tuple_int j t' ⟨o,g,C,n,hd⟩ hu prog w E Q h
  |@row k2 b h2=>
   refine wpAny_eqBool_tuple (knd:=oz prog w) hu h1 h2 ?_;simpa using h
theorem OV{ks:List KI}{a:af}{Q:Int->ah->Prop}(hu:A.units+1 < dM)(u:dP prog w s.heap ks a)(h:Q (nB ks) { s with toks:=s.toks+(gK ks+1) }):
  aA (aP prog w) A (pyHash (.ref a)) Q E s:=by
 have g:=u.typeIs;obtain⟨o,q,n,v,_,hd,C⟩:=u;unfold pyHash
 first|unfold pyHashByItsType|skip
 first|refine aa (wpAny_cRoomFor_or (.inr (by ext)) ?_)|skip
 refine aa (mX g kZ.lookup ?_)
 show aA _ _ (if (some (fM "tuple.__hash__") == some bO)=true then _ else _) Q E s;rw[az (by rw[beq_builtin_none];exact aW)];refine aa (mX g kZ.lookup ?_)
 show aA _ _ (callSpecialIfBoundUnlessNone? (.ref a) "__hash__" _ >>= _) Q E s;refine aa (wpAny_callSpecialIfBoundUnlessNone?_slot g kZ (dG kZ g F.entry_tuple_hash ?_ (F.args_tuple_hash_1 _)))
 show aA _ _ (iy (.ref a) >>= _) _ _ s;refine aa (pQ v hd ?_);refine aa ?_;rw[<- nK];refine lY _
  (λdA(b:Array Int)s'=>∃done left,ks=done++left/\mC prog w s.heap left dA/\b.toList=done.map (Ab)/\s'={ s with toks:=s.toks+gK done })
  _ ?_ ?_ _ _ ⟨[],ks,rfl,C,rfl,rfl⟩
 ·rintro x dA b s' ⟨done,left,rfl,hl,hb,rfl⟩
  cases hl with
  |@cons k b' ks' _ h1 hl'=>
   refine aa (V0 (k:=k) hu h1 ?_)
   first
    |exact ai ⟨done++[k],ks',by simp,hl',by simp[hb],by simp[HR,nQ]⟩
    |exact aa (ai (ai ⟨done++[k],ks',by simp,hl',by simp[hb],by simp[HR,nQ]⟩))
 ·rintro b s' ⟨done,left,rfl,hl,hb,rfl⟩
  cases hl;rw[cg]at h
  show aA _ _ (retInt (cU b.toList)) _ _ _;rw[hb];refine F6 ?_
  show aA _ _ (if (decide (-(2:Int)^63<=cU (done.map (Ab)))&&decide (cU (done.map (Ab)) < 2^63))=true then _ else _) Q E _;unfold nB reduceHash at h;by_cases c:(decide (-(2:Int)^63<=cU (done.map (Ab)))&&decide (cU (done.map (Ab)) < 2^63))=true
  ·rw[aG c];rw[aG c]at h;exact ai (by simpa [nQ] using h)
  ·rw[az c];rw[az c]at h;exact aa (eI (ai (by simpa [nQ] using h)))
theorem Qy{x y:List KI}{a b:af}{P:Fin->ah->Prop}(hu:A.units < dM)(hx:dP prog w s.heap x a)(hy:dP prog w s.heap y b)(h:P (.done (.ret (.bool (decide (x=y))))) s):
  aA (aP prog w) A (Builtin.«tuple.__eq__» ⟨[.ref a,.ref b],[]⟩) P E s:=by
 have Y:=hy.typeIs;obtain⟨oa,xs,na,I,_,U,O⟩:=hx;obtain⟨ob,ys,nb,H,_,Q,L⟩:=hy
 show aA _ _ (i4 (.ref b) (.type "tuple") >>= _) _ _ s;refine aa (gM Y nL ?_);simp only[cD,aN,if_false];refine aa (pQ I U ?_);refine aa (pQ H Q ?_);refine aa ?_;refine lY _
  (λdA r s'=>r.1=none/\s'=s/\∃G C g c,dA=List.zip g c/\mC prog w s.heap G g/\mC prog w s.heap C c/\decide (G=C)=decide (x=y)/\(g.length == c.length)=(xs.size == ys.size))
  _ ?_ ?_ _ _ ⟨rfl,rfl,x,y,xs.toList,ys.toList,rfl,O,L,rfl,by simp⟩
 ·rintro ⟨u,v⟩ dA r s' ⟨hr,rfl,G,C,g,c,hz,hx',hy',hdec,hlen⟩
  cases hx' with
  |nil=>simp at hz
  |@cons k1 u' x'' xs'' h1 hx''=>
   cases hy' with
   |nil=>simp at hz
   |@cons k2 v' y'' ys'' h2 hy''=>
    simp only[List.zip_cons_cons,List.cons.injEq,Prod.mk.injEq]at hz;obtain⟨⟨rfl,rfl⟩,rfl⟩:=hz;refine aa (Tt (x:=k1) (y:=k2) hu h1 h2 ?_);by_cases J:k1=k2
    ·subst J;rw[aM rfl];simp only[cD,aN,if_false];refine ai ⟨rfl,rfl,x'',y'',xs'',ys'',rfl,hx'',hy'',?_,by simpa using hlen⟩;rw[<- hdec];by_cases o:x''=y''
     ·simp[o]
     ·simp[o]
    ·rw[aO J];simp only[kr,if_true];have q:decide (x=y)=false:=by rw[<- hdec];simp[J]
     rw[q]at h;exact aa (ai (ai (ai h)))
 ·rintro ⟨r1,r2⟩ s' ⟨hr,rfl,G,C,g,c,hz,hx',hy',hdec,hlen⟩
  simp only at hr;subst hr;refine ai ?_;have q:(xs.size == ys.size)=decide (x=y):=by
   rw[<- hdec,<- hlen];cases hx' with
   |nil=>
    cases hy' with
    |nil=>simp
    |cons _ _=>simp
   |cons _ _=>
    cases hy' with
    |nil=>simp
    |cons _ _=>simp at hz
  show P (.done (.ret (.bool (xs.size == ys.size)))) s';rw[q];exact h
theorem Vu{x y:List KI}{a b:af}{Q:Bool->ah->Prop}(hu:A.units+1 < dM)(g:dP prog w s.heap x a)(o:dP prog w s.heap y b)(h:Q (decide (x=y)) s):
  aA (aP prog w) A (eqBool (.ref a) (.ref b)) Q E s:=by
 unfold eqBool
 try with_reducible refine b_ ?_
 show aA _ _ (if (av a == av b)=true then _ else _) Q E s;by_cases c:(av a == av b)=true
 ·rw[aG c];have e:a=b:=by have:=eq_of_beq c;injection this
  subst e;obtain rfl:=g.inj o;exact aa (eI (ai (by simpa using h)))
 ·rw[az c];exact aa (wpAny_richCompare_same_room (op:=.Eq) g.typeIs o.typeIs mo
   (dG mo g.typeIs F.entry_tuple_eq (Qy (by exact hu) g o ⟨_,rfl,(λe=>(by cases e)),du h⟩) (F.args_tuple_eq_2 _ _)) (by ext))
theorem TD{n:Nat}{ks:List Int}{a:af}{Q:Bool->ah->Prop}(q:A6 (oz prog w) s.heap ks a)(h:Q true s):aA (aP prog w) A (oG (n+1) (.ref a)) Q E s:=by
 have C:=q.typeIs;obtain⟨o,c,n,G,_,hd,H⟩:=q;unfold oG;refine aa (mX C mo.lookup ?_)
 show aA _ _ (i4 (.ref a) (.type "tuple") >>= _) _ _ s;refine aa (gM C nL ?_);simp only[cD,aN,if_false];refine aa (d_ G hd ?_);refine aa ?_
 show aA _ _ (forIn c _ _) _ _ s;rw[<- nK];refine lY _ (λdA r s'=>r.1=none/\s'=s/\∀v∈dA,carriedByValue v=true) _ ?_ ?_ _ _ ⟨rfl,rfl,H.byValue⟩
 ·rintro v dA r s' ⟨hr,rfl,hall⟩
  rw[BR _ (hall v bQ)];refine aa (ai ?_);simp only[cD,aN,if_false];exact ai ⟨rfl,rfl,λu g=>hall u (aT _ g)⟩
 ·rintro ⟨r1,r2⟩ s' ⟨hr,rfl,_⟩
  simp only at hr;subst hr;exact ai h
theorem UO{n:Nat}{k:KI}{v:ac}{Q:Bool->ah->Prop}(c:uc prog w s.heap k v)(h:Q true s):aA (aP prog w) A (oG (n+1) v) Q E s:=by
 cases c with
 |one i t=>rw[BR _ (show carriedByValue (gR i t)=true from rfl)];exact ai h
 |row c=>exact TD c h
theorem T1{ks:List KI}{a:af}{Q:Bool->ah->Prop}(g:dP prog w s.heap ks a)(h:Q true s):aA (aP prog w) A (oG 8 (.ref a)) Q E s:=by
 have q:=g.typeIs;obtain⟨o,c,n,u,_,hd,C⟩:=g;unfold oG;refine aa (mX q mo.lookup ?_)
 show aA _ _ (i4 (.ref a) (.type "tuple") >>= _) _ _ s;refine aa (gM q nL ?_);simp only[cD,aN,if_false];refine aa (d_ u hd ?_);refine aa ?_
 show aA _ _ (forIn c _ _) _ _ s;rw[<- nK];refine lY _ (λdA r s'=>r.1=none/\s'=s/\∃left,mC prog w s.heap left dA) _ ?_ ?_ _ _ ⟨rfl,rfl,ks,C⟩
 ·rintro v dA r s' ⟨hr,rfl,left,hall⟩
  cases hall with
  |cons h1 hl=>
   refine aa (UO (n:=6) h1 ?_);simp only[cD,aN,if_false];exact ai ⟨rfl,rfl,_,hl⟩
 ·rintro ⟨r1,r2⟩ s' ⟨hr,rfl,_⟩
  simp only at hr;subst hr;exact ai h
end
def rB(prog:Program)(w:bq):xG prog w (List KI) where
 is:=dP prog w
 hash:=nB
 draws:=λks=>gK ks+1
 room:=λA=>A.units+1 < dM
 inj:=λg c=>g.inj c
 keeps:=λx u hd q=>x.keeps u hd q
 pyHash:=λhu o h=>OV hu o h
 eqBool:=λhu g c h=>Vu hu g c h
 quiet:=λo h=>T1 o h
end MM
namespace MM
open PySem PyProof.Rows
noncomputable def tS(h:bh)(d:af)(n:Nat):Prop:=∃o es,h.get? d=some o/\o.data=.dict es n
section
variable{prog:Program}{w:bq}{K:Type}[DecidableEq K]{knd:xG prog w K}{A:bn}{E:ac->ah->Prop}{s:ah}{d a:af}{k:K}{xs:List (K×af×ac)}
theorem UP{v:ac}{Q:Unit->ah->Prop}(hu:knd.room A)(u:knd.is s.heap k a)(hm:s.heap.DictOfH knd d xs)(hp:tS s.heap d xs.length)(hsz:xs.length<=sizeLine)
  (h:∀h',h'.DictOfH knd d (oF xs k a v)->tS h' d (oF xs k a v).length->eB d s.heap h'->Q () { s with heap:=h',toks:=s.toks+knd.draws k }):
  aA (aP prog w) A (dictSet d (.ref a) v) Q E s:=by
 obtain⟨o,es,ep,g,hc,hd,U,G,L⟩:=id hm;obtain⟨o',es',H,Y⟩:=hp;rw[g]at H;cases H;rw[hd]at Y;cases Y;unfold dictSet;refine b_ (aa (knd.pyHash hu u ?_));unfold dictSetHashed;refine b_ (aa (wpAny_dictFind_heap (s:={ s with toks:=s.toks+knd.draws k }) hu u g hd U G L (λJ=>?_) λj p O=>?_))
 ·have I:k∉xs.map (·.1):=not_mem_keys_of_get J;have e0:=atKey_none_of_get J;have C:=storedH_new (a:=a) (v:=v) e0;have o:=rW U;refine aa (eI (wpAny_updateDictKeys (hz:=by ext) (s:={ s with toks:=s.toks+knd.draws k }) g hd
   (h _ ⟨_,_,_,ce _ g (i9 (iN hd _)),hc.mapDictKeys _,iN hd _,?_,?_,?_⟩ ?_ (dB ..))))
  ·rw[C];simp[U,pJ]
  ·rw[C];intro x c;rcases br.mp c with c|c
   ·exact knd.keeps (G x c) g hd (dB ..)
   ·cases aE.mp c;exact knd.keeps u g hd (dB ..)
  ·rw[C,bA,vK];refine⟨L,by simp,λx c y hy=>?_⟩;cases aE.mp hy;exact λe=>I ((show x=k from e) ▸ c)
  ·rw[C,aV];exact⟨_,_,ce _ g (i9 (iN hd _)),iN hd _⟩
 ·have e0:=atKey_of_get L O;have C:=storedH_old e0 a v;have J:j < es.size:=by rw[rW U];exact (am.mp O).1
  have o:(es.modify j λe=>{ hash:=e.hash,key:=e.key,val:=v }).toList=(xs.map (rm k v)).map (pJ knd):=by
   apply oH;intro i;rw[lF,Array.getElem?_modify,aD,aD];have E:es[i]?=(xs[i]?).map (pJ knd):=by rw[<- lF,U,aD]
   rw[E];by_cases z:j=i
   ·subst z;rw[aG rfl,O];simp[rm,pJ]
   ·rw[az z];cases c:xs[i]? with
    |none=>rfl
    |some x=>
     have u:x.1≠k:=λq=>by
      have I:(xs.map (·.1))[i]?=some k:=by rw[aD,c,<- q];rfl
      have H:(xs.map (·.1))[j]?=some k:=by rw[aD,O];rfl
      exact z ((oJ (by rw[ae];exact (am.mp O).1) L).mp (H.trans I.symm))
     simp[rm,u]
  refine aa (eI (aa (wpAny_updateDict (s:={ s with toks:=s.toks+knd.draws k }) g hd (wpAny_point
   (h _ ⟨_,_,_,ce _ g (i9 (lj hd _)),hc.mapDict _,lj hd _,?_,?_,?_⟩ ?_ (dB ..))))))
  ·rw[C];exact o
  ·rw[C];intro x c;obtain⟨y,hy,e⟩:=dJ.mp c;have q:=knd.keeps (G y hy) g hd (dB s.heap d (Obj.mapDict λx=>x.modify j λe=>{ hash:=e.hash,key:=e.key,val:=v }));rw[<- e];unfold rm;split
   ·exact q
   ·exact q
  ·rw[C,i_];have:(xs.map ((λx=>x.1)∘rm k v))=xs.map (·.1):=List.map_congr_left λx _=>by show (rm k v x).1=x.1;unfold rm;split<;>rfl
   rw[this];exact L
  ·rw[C,ae];exact⟨_,_,ce _ g (i9 (lj hd _)),lj hd _⟩
theorem W9{v:ac}{Q:Unit->ah->Prop}(hu:knd.room A.in1)(c:knd.is s.heap k a)(g:s.heap.DictOfH knd d xs)(o:tS s.heap d xs.length)(hsz:xs.length<=sizeLine)
  (h:∀h',h'.DictOfH knd d (oF xs k a v)->tS h' d (oF xs k a v).length->eB d s.heap h'->Q () { s with heap:=h',toks:=s.toks+knd.draws k }):
  aA (aP prog w) A (qd (.ref d) (.ref a) v) Q E s:=by
 have T:=g.typeIs;unfold qd;refine b_ (aa (qf T (by decide) (aa (cE T v9 (dG v9 T F.entry_dict_setitem ?_ (F.args_dict_setitem_3 _ _ _))))));unfold Builtin.«dict.__setitem__»;refine aa (wpAny_notOrdered_dict T ?_);rw[az (by simp)]
 show aA _ _ (dictSet d (.ref a) v >>= _) _ _ s;refine aa (UP hu c g o hsz λh' C u q=>ai ⟨_,rfl,ai (h h' C u q)⟩)
end
end MM
namespace MM
open PySem
inductive D where
 |non|bl (b:Bool)|int (i:Int)|str (x:Str)|tup (ds:List D)|lit (ds:List D)|ref (n:Nat)|dic (n:Nat)|exn (x:Str) (ds:List D)|fn (n:Nat)
inductive rM where
 |lam (e:EV)|dfn (s:PySem.Stmt)
inductive MO where
 |lst (ds:List D)|dct (b:Bool) (bb:List (D×D))|lam (e:EV)|tbl (x w:Str)|dcf (bb:List (D×D))|clo (c:rM) (vs:List D)|ded
noncomputable abbrev aR:=List MO
noncomputable abbrev Qi:=D
inductive Rs(α:Type) where
 |ok (a:α) (s:aR)|exc (x:Qi) (s:aR)|bad
def M(α:Type):=aR->Rs α
section
variable{α β:Type}
noncomputable def ret(a:α):M α:=λs=>.ok a s
noncomputable def bnd(m:M α)(f:α->M β):M β:=λs=>match m s with
 | .ok a s'=>f a s'
 | .exc x s'=>.exc x s'
 | .bad=>.bad
noncomputable def bad:M α:=λ_=>.bad
@[irreducible] def chk(c:Prop)[Decidable c](m:M α):M α:=if c then m else bad
end
noncomputable abbrev Loc:=List (Option D)
abbrev CE:=Loc->M D
abbrev CT:=Loc->M Bool
abbrev CA:=Loc->M (List D)
inductive r9 where
 |next (l:Loc)|ret (d:D)|brk (l:Loc)|cnt (l:Loc)
abbrev CS:=Loc->M r9
noncomputable def eQ:Nat:=2^24
noncomputable def alloc(o:MO):M D:=λs=>.ok (.ref s.length) (s++[o])
def getL(n:Nat):M (List D):=λs=>match s[n]? with
 |some (.lst ds)=>.ok ds s
 |_=>.bad
def putL(n:Nat)(ds:List D):M Unit:=λs=>match s[n]? with
 |some (.lst _)=>.ok () (s.set n (.lst ds))
 |_=>.bad
def getDc(n:Nat):M (Bool×List (D×D)):=λs=>match s[n]? with
 |some (.dct b bb)=>.ok (b,bb) s
 |_=>.bad
def yO(n:Nat)(b:Bool)(g:List (D×D)):M Unit:=λs=>match s[n]? with
 |some (.dct c _)=>if b=c then .ok () (s.set n (.dct b g)) else .bad
 |_=>.bad
mutual
noncomputable def r_:D->D->Bool
 | .int i,.int j=>decide (i=j)
 | .str x,.str y=>decide (x=y)
 | .tup xs,.tup ys=>nZ xs ys
 |_,_=>false
noncomputable def nZ:List D->List D->Bool
 |[],[]=>true
 |x::xs,y::ys=>r_ x y&&nZ xs ys
 |_,_=>false
end
noncomputable def pI:List D->Option (List Int)
 |[]=>some []
 | .int i::ds=>(pI ds).map (i::·)
 |_=>none
def nA:List D->Option (List (Int ⊕ List Int))
 |[]=>some []
 | .tup xs::ds=>match pI xs,nA ds with
  |some r,some rs=>some (.inr r::rs)
  |_,_=>none
 | .int i::ds=>(nA ds).map (.inl i::·)
 |_=>none
def stK:D->Option (List (Int ⊕ List Int))
 | .tup ds=>nA ds
 |_=>none
def sB:Bool->D->Bool
 |false,.int _=>true
 |false,.str _=>true
 |true,d=>(stK d).isSome
 |_,_=>false
def t9(c:List (D×D))(k:D):Option D:=(c.find? λp=>r_ p.1 k).map (·.2)
def v7(c:List (D×D))(k v:D):List (D×D):=if (c.any λp=>r_ p.1 k)=true then c.map λp=>if r_ p.1 k=true then (p.1,v) else p else c++[(k,v)]
def itemK(n:Nat)(k:D):M D:=bnd (getDc n) λp=>chk (sB p.1 k=true) (match t9 p.2 k with
 |some d=>ret d
 |none=>bad)
def storeK(n:Nat)(k v:D):M Unit:=bnd (getDc n) λp=>chk (sB p.1 k=true/\p.2.length < eQ) (yO n p.1 (v7 p.2 k v))
def hasK(n:Nat)(k:D):M Bool:=bnd (getDc n) λp=>chk (sB p.1 k=true) (ret (t9 p.2 k).isSome)
def yU:D->M (List D)
 | .tup ds=>ret ds
 | .lit ds=>ret ds
 | .ref n=>getL n
 |_=>bad
noncomputable def oT(n:Nat)(i:Int):Option Nat:=if 0<=i then (if i < n then some i.toNat else none) else (if -(n:Int)<=i then some (i+n).toNat else none)
def cC:D->D->M D
 | .int i,.int j=>ret (.int (i+j))
 | .str x,.str y=>chk (x.length+y.length<=eQ) (ret (.str (x++y)))
 | .tup x,.tup y=>chk (x.length+y.length<=eQ) (ret (.tup (x++y)))
 | .ref a,.ref b=>bnd (getL a) λx=>bnd (getL b) λy=>chk (x.length+y.length<=eQ) (alloc (.lst (x++y)))
 |_,_=>bad
def r8(f:Int->Int->M D):D->D->M D
 | .int i,.int j=>f i j
 |_,_=>bad
theorem Af(f:Int->Int->M D)(d e:D):(∃i j,d=.int i/\e=.int j)\/r8 f d e=bad:=by
 cases d<;>first|exact .inr rfl|skip
 cases e<;>first|exact .inr rfl|exact .inl ⟨_,_,rfl,rfl⟩
noncomputable def qD(i j:Int):Prop:=(-(2^64) < i/\i < 2^64)\/(-(2^64) < j/\j < 2^64)
instance(i j:Int):Decidable (qD i j):=by unfold qD;infer_instance
def lR:D->D->M D:=r8 λi j=>chk (qD i j) (ret (.int (i*j)))
def qr:D->D->M D:=r8 λi j=>chk (0 < j/\j < 1073741824) (ret (.int (i / j)))
def li:D->D->M D:=r8 λi j=>chk (0 < j) (ret (.int (i % j)))
def uP:D->D->M D:=r8 λi j=>chk (0<=j/\j<=1000000/\i.natAbs < 2^64) (ret (.int (i^j.toNat)))
def vh:D->M D
 | .int i=>ret (.int (-i))
 |_=>bad
def wd(p:Int->Int->Bool):D->D->M D:=r8 λi j=>ret (.bl (p i j))
def sT:=wd λi j=>decide (i < j)
def rG:=wd λi j=>decide (i<=j)
def vy:=wd λi j=>decide (j < i)
def v6:=wd λi j=>decide (j<=i)
noncomputable def ni(f:D->D->Option Bool):List D->List D->Option Bool
 |[],[]=>some true
 |x::xs,y::ys=>match f x y with
  |some true=>ni f xs ys
  |some false=>(ni f xs ys).map λ_=>false
  |none=>none
 |_::_,[]=>some false
 |[],_::_=>some false
noncomputable def Fg(g:List D->List D->Option Bool):D->D->Option Bool
 | .non,.non=>some true
 | .non,.int _=>some false
 | .bl a,.bl b=>some (a == b)
 | .int _,.non=>some false
 | .int a,.int b=>some (a == b)
 | .str a,.str b=>some (a == b)
 | .tup xs,.tup ys=>g xs ys
 |_,_=>none
def uG:Nat->D->D->Option Bool
 |0,d,e=>Fg (λ_ _=>none) d e
 |n+1,d,e=>Fg (ni (uG n)) d e
def Gi(d e:D):M Bool:=match d,e with
 | .ref a,.ref b=>bnd (getL a) λx=>bnd (getL b) λy=>match (if x.length=y.length then ni (uG 50) x y else some false) with
  |some r=>ret r
  |none=>bad
 | .ref a,.non=>bnd (getL a) λ_=>ret false
 | .non,.ref a=>bnd (getL a) λ_=>ret false
 |d,e=>match uG 50 d e with
  |some r=>ret r
  |none=>bad
def lq(d e:D):M D:=bnd (Gi d e) λb=>ret (.bl b)
def x9(d e:D):M D:=bnd (Gi d e) λb=>ret (.bl !b)
def I0:D->M D
 | .non=>ret (.bl true)
 |_=>ret (.bl false)
def Cg:D->M D
 | .non=>ret (.bl false)
 |_=>ret (.bl true)
def dz(ds:List D)(i:Int):M D:=match oT ds.length i with
 |some k=>match ds[k]? with
  |some d=>ret d
  |none=>bad
 |none=>bad
def aY:D->D->M D
 | .tup ds,.int i=>dz ds i
 | .lit ds,.int i=>dz ds i
 | .ref n,.int i=>bnd (getL n) λds=>dz ds i
 | .dic n,k=>itemK n k
 | .str x,.int i=>chk (x.length<=eQ) (match oT x.length i with
  |some k=>match x.cps.toList[k]? with
   |some c=>ret (.str ⟨#[c]⟩)
   |none=>bad
  |none=>bad)
 |_,_=>bad
def wj:D->M Bool
 | .non=>ret false
 | .bl b=>ret b
 | .int i=>ret (i != 0)
 | .str x=>chk (x.length<=eQ) (ret ((x.length:Int) != 0))
 | .tup ds=>ret (!ds.isEmpty)
 | .lit ds=>ret (!ds.isEmpty)
 | .ref n=>bnd (getL n) λds=>ret (!ds.isEmpty)
 | .dic _=>bad
 | .exn _ _=>bad
 | .fn _=>bad
def ak(i:Nat):CE:=λl=>match l[i]? with
 |some (some d)=>ret d
 |_=>bad
def ay(d:D):CE:=λ_=>ret d
def c1(g:D->M D)(a:CE):CE:=λl=>bnd (a l) g
def c2(g:D->D->M D)(a b:CE):CE:=λl=>bnd (a l) λx=>bnd (b l) λy=>g x y
def bc:CA:=λ_=>ret []
def ar(a:CE)(r:CA):CA:=λl=>bnd (a l) λx=>bnd (r l) λxs=>ret (x::xs)
def dO(a:CA):CE:=λl=>bnd (a l) λxs=>chk (xs.length<=eQ) (ret (.tup xs))
def gA(f g:D->D->M D)(a b c:CE):CE:=λl=>bnd (a l) λx=>bnd (b l) λy=>bnd (f x y) λz=>match z with
 | .bl true=>bnd (c l) λw=>g y w
 | .bl false=>ret (.bl false)
 |_=>bad
def pz(a b:CE):CE:=λl=>bnd (a l) λx=>match x with
 | .bl true=>b l
 | .bl false=>ret (.bl false)
 |_=>bad
def Lo(a b:CE):CE:=λl=>bnd (a l) λx=>match x with
 | .bl true=>ret (.bl true)
 | .bl false=>b l
 |_=>bad
def ud(a:CE):CE:=λl=>bnd (a l) λx=>match x with
 | .bl b=>ret (.bl !b)
 |_=>bad
def bv(g:List D->M D)(a:CA):CE:=λl=>bnd (a l) g
def j_(a:CE):CT:=λl=>bnd (a l) wj
def bT(a:CE):CT:=λl=>bnd (a l) λx=>match x with
 | .bl b=>ret b
 |_=>bad
def kY(a b:CT):CT:=λl=>bnd (a l) λc=>if c=true then b l else ret false
def my(a b:CT):CT:=λl=>bnd (a l) λc=>if c=true then ret true else b l
def fK(a:CT):CT:=λl=>bnd (a l) λc=>ret !c
structure Wk where
 ds:List D
 same:aR->Prop
abbrev CI:=Loc->M Wk
open Classical in
def chkS(p:aR->Prop):M Unit:=λs=>if p s then .ok () s else .bad
noncomputable def d6:aR->Prop:=λ_=>True
noncomputable def om(n:Nat)(ds:List D):aR->Prop:=λs=>s[n]?=some (.lst ds)
def kf(a:CE):CI:=λl=>bnd (a l) λx=>match x with
 | .tup ds=>ret ⟨ds,d6⟩
 | .lit ds=>ret ⟨ds,d6⟩
 | .ref n=>bnd (getL n) λds=>ret ⟨ds,om n ds⟩
 |_=>bad
noncomputable def fO(lo:Int)(n:Nat):List D:=(db n).map λk=>.int (lo+(k:Nat))
def gc(a:CE):CI:=λl=>bnd (a l) λx=>match x with
 | .int j=>chk (-(2^62)<=j/\j < 2^62) (ret ⟨fO 0 j.toNat,d6⟩)
 |_=>bad
def m7(a b:CE):CI:=λl=>bnd (a l) λx=>bnd (b l) λy=>match x,y with
 | .int i,.int j=>chk ((-(2^62)<=i/\i < 2^62)/\(-(2^62)<=j/\j < 2^62)) (ret ⟨fO i (j-i).toNat,d6⟩)
 |_,_=>bad
def ml(a:CE):CI:=λl=>bnd (a l) λx=>match x with
 | .tup ds=>ret ⟨(fO 0 ds.length).zipWith (λi d=>.tup [i,d]) ds,d6⟩
 |_=>bad
abbrev CG:=D->Loc->M Loc
def aS(i:Nat):CG:=λd l=>ret (l.set i (some d))
def eZ:List D->Loc->M Loc
 |[],l=>ret l
 |_,_=>bad
def bD(g:CG)(r:List D->Loc->M Loc):List D->Loc->M Loc
 |d::ds,l=>bnd (g d l) λc=>r ds c
 |_,_=>bad
def eR(n:Nat)(r:List D->Loc->M Loc):CG:=λd l=>match d with
 | .tup ds=>chk (ds.length=n) (r ds l)
 |_=>bad
noncomputable def fG(n:Nat)(caps:List Nat)(l:Loc):Loc:=cL n none++caps.map λi=>(l[i]?).join
def collect(g:CG)(t:CT)(e:CE)(same:aR->Prop):List D->Loc->M (List D)
 |[],_=>bnd (chkS same) λ_=>ret []
 |d::ds,l=>bnd (chkS same) λ_=>bnd (g d l) λc=>bnd (t c) λb=>if b=true then bnd (e c) λx=>bnd (collect g t e same ds c) λxs=>ret (x::xs) else collect g t e same ds c
def dN(n:Nat)(caps:List Nat)(i:CI)(g:CG)(t:CT)(e:CE):CA:=λl=>bnd (i l) λw=>chk (w.ds.length<=eQ) (collect g t e w.same w.ds (fG n caps l))
noncomputable def fJ(n d:Nat):Option Int->Nat
 |none=>d
 |some v=>if v < 0 then (v+(n:Int)).toNat else min v.toNat n
def cutD(xs:List D)(lo c:Option Int):List D:=(xs.drop (fJ xs.length 0 lo)).take (fJ xs.length xs.length c-fJ xs.length 0 lo)
abbrev CO:=Loc->M (Option Int)
def iu:CO:=λ_=>ret none
def gJ(a:CE):CO:=λl=>bnd (a l) λx=>match x with
 | .int i=>ret (some i)
 |_=>bad
def ly(a:CE)(lo c:CO):CA:=λl=>bnd (a l) λx=>bnd (lo l) λi=>bnd (c l) λj=>match x with
 | .lit ds=>ret (cutD ds i j)
 | .ref n=>bnd (getL n) λds=>ret (cutD ds i j)
 |_=>bad
def bZ:CT:=λ_=>ret true
def eY(a:CA):CE:=λl=>bnd (a l) λds=>alloc (.lst ds)
def iE(a:CA):CA:=λl=>bnd (a l) λxs=>chk (xs.length<=eQ) (ret xs)
def lJ(a:CA)(b:CE):CE:=λl=>bnd (a l) λds=>bnd (b l) λi=>match i with
 | .int k=>dz ds k
 |_=>bad
def gW(g:List D->M D)(a:CA):CE:=λl=>bnd (a l) g
def aB:CS:=λl=>ret (.next l)
def aC(a b:CS):CS:=λl=>bnd (a l) λf=>match f with
 | .next l'=>b l'
 |f=>ret f
def bX(g:CG)(a:CE):CS:=λl=>bnd (a l) λd=>bnd (g d l) λc=>ret (.next c)
def b8(a:CE):CS:=λl=>bnd (a l) λd=>ret (.ret d)
def kg(a:CE):CS:=λl=>bnd (a l) λ_=>ret (.next l)
def gj(t:CT)(a b:CS):CS:=λl=>bnd (t l) λc=>if c=true then a l else b l
def rO:CS:=λ_=>bad
def kc(g:CG)(b:CS)(same:aR->Prop):List D->CS
 |[],l=>bnd (chkS same) λ_=>ret (.next l)
 |d::ds,l=>bnd (chkS same) λ_=>bnd (g d l) λc=>bnd (b c) λf=>match f with
  | .next l2=>kc g b same ds l2
  | .cnt l2=>kc g b same ds l2
  | .brk l2=>ret (.next l2)
  | .ret d=>ret (.ret d)
def iS(i:CI)(g:CG)(b:CS):CS:=λl=>bnd (i l) λw=>kc g b w.same w.ds l
def ue:r9->M D
 | .ret d=>ret d
 | .next _=>ret .non
 |_=>bad
def bF(n:Nat)(c:CS)(ds:List D):M D:=bnd (c (ds.map some++cL (n-ds.length) none)) ue
def nc(o i v:D):M Unit:=match o,i with
 | .ref n,.int k=>bnd (getL n) λds=>match oT ds.length k with
  |some j=>putL n (ds.set j v)
  |none=>bad
 | .dic n,k=>storeK n k v
 |_,_=>bad
def on(o i:CE):CG:=λv l=>bnd (o l) λy=>bnd (i l) λz=>bnd (nc y z v) λ_=>ret l
def dk:D->M D
 | .tup ds=>ret (.int ds.length)
 | .lit ds=>ret (.int ds.length)
 | .ref n=>bnd (getL n) λds=>ret (.int ds.length)
 | .str x=>chk (x.length<=eQ) (ret (.int x.length))
 | .dic n=>bnd (getDc n) λp=>ret (.int p.2.length)
 |_=>bad
def tJ(n:Nat)(v:D):M D:=bnd (getL n) λds=>chk (ds.length < eQ) (bnd (putL n (ds++[v])) λ_=>ret .non)
def gX(a b:CE):CE:=λl=>bnd (a l) λx=>match x with
 | .ref n=>bnd (b l) λv=>tJ n v
 |_=>bad
def tupleD:D->M D
 | .tup ds=>ret (.tup ds)
 | .lit ds=>ret (.tup ds)
 | .ref n=>bnd (getL n) λds=>ret (.tup ds)
 |_=>bad
noncomputable def rL:D->Option (List String)
 | .non=>some ["NoneType"]
 | .bl _=>some ["bool","int"]
 | .int _=>some ["int"]
 | .str _=>some ["str"]
 | .tup _=>some ["tuple"]
 | .lit _=>some ["list"]
 | .ref _=>some ["list"]
 |_=>none
noncomputable def lx:List D->Option (List Int)
 |[]=>some []
 | .int i::ds=>(lx ds).map (i::·)
 |_=>none
noncomputable def iW:List D->Option (List Bool)
 |[]=>some []
 | .bl b::ds=>(iW ds).map (b::·)
 |_=>none
def mF(ds:List D):M D:=match lx ds with
 |some (n::ns)=>ret (.int (ns.foldl max n))
 |_=>bad
def nY(ds:List D):M D:=match iW ds with
 |some bs=>ret (.bl (bs.all id))
 |_=>bad
def k_(ds:List D):M D:=ret (.tup ds)
def eF(c:List String)(d:D):M D:=match rL d with
 |some us=>ret (.bl (c.any λt=>us.contains t))
 |none=>bad
def Ar:D->D->M D
 | .bl a,.bl b=>ret (.bl (a == b))
 |x,.non=>I0 x
 |_,_=>bad
def pv:D->D->M D
 | .bl a,.bl b=>ret (.bl !(a == b))
 |x,.non=>Cg x
 |_,_=>bad
noncomputable def ny:D->Bool
 | .non=>true
 | .bl _=>true
 | .int _=>true
 | .str _=>true
 |_=>false
noncomputable def t8:D->D->Bool
 | .non,.non=>true
 | .bl a,.bl b=>a == b
 | .bl a,.int b=>(if a then 1 else 0) == b
 | .int a,.bl b=>a == (if b then 1 else 0)
 | .int a,.int b=>a == b
 | .str a,.str b=>a == b
 |_,_=>false
def v8(x:D)(ds:List D):M D:=chk (ny x=true/\ds.all ny=true) (ret (.bl (ds.any λd=>t8 d x)))
def Bx(x y:D):M D:=match y with
 | .dic n=>bnd (hasK n x) λb=>ret (.bl b)
 |y=>bnd (yU y) (v8 x)
def tD(d:D):M D:=bnd (yU d) λds=>alloc (.lst ds)
def mI(t:CT)(b:CS):Nat->CS
 |0=>λ_=>bad
 |n+1 => λl => bnd (t l) λc => if c = true then bnd (b l) λf => match f with
   | .next l2=>mI t b n l2
   | .cnt l2=>mI t b n l2
   | .brk l2=>ret (.next l2)
   | .ret d=>ret (.ret d) else ret (.next l)
open Classical in
def sJ(t:CT)(b:CS):CS:=λl s=>if h:∃n,(∀r,mI t b n l s=r->r≠.bad) then mI t b (choose h) l s else .bad
end MM
namespace MM
open PySem PySem.Spec PyProof.Rows L2
abbrev St:=L2.St
def uz(K:aj)(H:Hp)(a:af)(xs:List V):Prop:=
 (∃o,H a=some (.frz o (.lst xs))) \/
  ∃(o:Obj)(its:Array ac)(n:Nat),K.lookup a=some o/\o.cls=.type "list"/\o.dict=none/\o.data=.seq its n/\its.size<=sizeLine/\cB xs its.toList
theorem uz.seq{K:aj}{H:Hp}{a:af}{xs:List V}(h:uz K H a xs):ir K H a xs:=by
 rcases h with ⟨o,h⟩|h
 ·exact .inl (.inr ⟨o,h⟩)
 ·exact .inr h
noncomputable def kO:HO->Nat
 | .lst _=>0
 | .dK _=>1
 | .ext _=>2
 | .tbl _=>4
 |_=>3
abbrev NK:=List KI
def nH(k:NK):Int:=nB k
def EK(x:NK×af×ac):oE:=⟨nH x.1,.ref x.2.1,x.2.2⟩
def O_(a:af)(es:List (NK×af×V))(h:bh):Prop:=es.length<=sizeLine/\(a == eU)=false/\∃xs:List (NK×af×ac),ii (λ(p:NK×af×V)(q:NK×af×ac)=>p.1=q.1/\p.2.1=q.2.1/\RelV p.2.2 q.2.2) es xs /\
 ∃o c g,h.get? a=some o/\o.ExactDict/\o.data=.dict c g/\c.toList=xs.map EK/\(xs.map (·.1)).Nodup/\g=xs.length
def u7(a:af)(es:List (NK×af×V)):HO:=.ext (O_ a es)
def Ux(a:af)(es:List (NK×af×V))(h:bh):Prop:=es.length<=sizeLine/\(a == eU)=false/\∃xs:List (NK×af×ac),ii (λ(p:NK×af×V)(q:NK×af×ac)=>p.1=q.1/\p.2.1=q.2.1/\RelV p.2.2 q.2.2) es xs /\
 ∃o c g,h.get? a=some o/\o.ExactDict/\o.data=.dict c g/\c.toList=xs.map EK/\(xs.map (·.1)).Nodup
def Vv(a:af)(es:List (NK×af×V)):HO:=.ext (Ux a es)
noncomputable def ke(r:List Int):D:=.tup (r.map .int)
def wV:KI->D
 | .inl i=>.int i
 | .inr r=>ke r
def sf(k:NK):D:=.tup (k.map wV)
def oP:Key->D
 | .inl i=>.int i
 | .inr x=>.str x
noncomputable def vB(x:Str)(c:Array ac):Prop:=x=ag "NoText"\/c[2]?=some bO
mutual
inductive dg(K:aj)(ρ:List af)(H:Hp):V->D->Prop
 |non:dg K ρ H .non .non
 |bl (b:Bool):dg K ρ H (.bl b) (.bl b)
 |int (i:Int):dg K ρ H (.int i) (.int i)
 |str (x:Str):dg K ρ H (.str x) (.str x)
 |tup {a:af}{vs:List V}{ds:List D} (h:i7 K H a vs) (r:bI K ρ H vs ds):dg K ρ H (.ref a) (.tup ds)
 |lit {a:af}{vs:List V}{ds:List D} (h:uz K H a vs) (r:bI K ρ H vs ds):dg K ρ H (.ref a) (.lit ds)
 |ref {a:af}{n:Nat} (k:∃o,H a=some o/\kO o=0) (h:ρ[n]?=some a):dg K ρ H (.ref a) (.ref n)
 |dic {a:af}{n:Nat} (k:∃o,H a=some o/\(kO o=1\/kO o=2)) (h:ρ[n]?=some a):dg K ρ H (.ref a) (.dic n)
 |exn0 {a C:af}{x:Str} (g:g6 K bz x=some (some (.ref C))) (h:∃o,H a=some (.frz o (.own a))/\o.cls=.ref C):dg K ρ H (.ref a) (.exn x [])
 |exn {a C dx:af}{x f:Str}{v:V}{d:D} (g:g6 K bz x=some (some (.ref C))) (h:∃o,H a=some (.frz o (.own a))/\o.cls=.ref C/\o.dict=some dx/\∃vs,o.data=.fields vs/\vB x vs) (h2:H dx=some (.xd [(f,v)])) (r:dg K ρ H v d):dg K ρ H (.ref a) (.exn x [.str f,d])
 |fn {a:af}{n:Nat} (h:ρ[n]?=some a):dg K ρ H (.ref a) (.fn n)
 |gfn {a:af}{x:Str} (g:g6 K bz x=some (some (.ref a))) (h:∃o fd,K.lookup a=some o/\o.data=.func fd):dg K ρ H (.ref a) (.exn x [.non])
inductive bI(K:aj)(ρ:List af)(H:Hp):List V->List D->Prop
 |nil:bI K ρ H [] []
 |cons {v:V}{d:D}{vs:List V}{ds:List D} (r:dg K ρ H v d) (t:bI K ρ H vs ds):bI K ρ H (v::vs) (d::ds)
end
def J7(K:aj)(ρ:List af)(H:Hp)(v:V):D->Prop
 | .non=>v=.non
 | .bl b=>v=.bl b
 | .int i=>v=.int i
 | .str x=>v=.str x
 | .tup ds=>∃a c,v=.ref a/\i7 K H a c/\bI K ρ H c ds
 | .lit ds=>∃a c,v=.ref a/\uz K H a c/\bI K ρ H c ds
 | .ref n=>∃a,v=.ref a/\(∃o,H a=some o/\kO o=0)/\ρ[n]?=some a
 | .dic n=>∃a,v=.ref a/\(∃o,H a=some o/\(kO o=1\/kO o=2))/\ρ[n]?=some a
 | .fn n=>∃a,v=.ref a/\ρ[n]?=some a
 |_=>True
theorem dg.inv{K:aj}{ρ:List af}{H:Hp}{v:V}{d:D}(r:dg K ρ H v d):J7 K ρ H v d:=by
 cases r with
 |non=>rfl
 |bl=>rfl
 |int=>rfl
 |str=>rfl
 |tup h q=>exact⟨_,_,rfl,h,q⟩
 |lit h q=>exact⟨_,_,rfl,h,q⟩
 |ref k h=>exact⟨_,rfl,k,h⟩
 |dic k h=>exact⟨_,rfl,k,h⟩
 |exn0=>trivial
 |exn=>trivial
 |fn h=>exact⟨_,rfl,h⟩
 |gfn=>trivial
noncomputable def pZ(H:Hp)(c:af)(q:Str):Prop:=∃g h t,H c=some (.frz g (.frz g (.own c)))/\g.data=.fields h/\h[1]?=some (.str q t)
def GH(H:Hp)(a:af)(e:Expr):Prop:=∃ps b sc p q c g ct,e=.Lambda ps b sc p/\H a=some (.frz (uK "<lambda>" q ps b sc [] g c ct) (.own a))/\pZ H c q
noncomputable def TabOf(K:aj)(x:Str)(a:af):Prop:=∃f o g c,g6 K bz x=some (some (.ref f))/\K.lookup f=some o/\o.data=.func g/\g.code=.ref c/\oh K c a=true
noncomputable def Hb(x w:Str):Str:=x++".<locals>."++w
def Gp(K:aj)(H:Hp)(a:af)(x w:Str):Prop:=TabOf K x a/\∃ps,H a=some (.tbl ps)/\TriplesOk ps.toList/\∀p v,codeAmong p ps.toList=some v->∃c,v=.ref c/\pZ H c (Hb x w)
def tG(K:aj)(ρ:List af)(H:Hp)(p:Str×af)(d:D):Prop:=∃o u v,H p.2=some (.frz o (.frz o (.own p.2)))/\o.data=.cell (some u)/\RelV v u/\dg K ρ H v d
noncomputable def Jc(c:rM)(u:bN)(q:Str)(C:af)(v:List (Str×af)):Prop:=match c with
 | .lam e=>∃ps b sc p h ct,e=.Lambda ps b sc p/\u=PySem.W.kla_fn "<lambda>" q ps b sc v h (.ref C) ct
 | .dfn st=>∃o ps g ds rt G sc E I p H h ct,st=.FunctionDef o ps g ds rt G sc E I p/\u=PySem.W.fnX o q ps g sc v .none .none H h none (.ref C) ct
noncomputable def Ka(names:List (Str×eK)):List Str:=((names.filter λy=>y.2 == .free).map (·.1)).reverse
def KD(K:aj)(ρ:List af)(H:Hp)(a:af)(c:rM)(v:List D):Prop:=∃o h q u g,H a=some (.frz o (.own a))/\o.data=.func h/\Jc c h q u g/\pZ H u q/\((g.map (·.2)).Nodup/\g.map (·.1)=Ka h.scope.names)/\ii (tG K ρ H) g v
def p_(K:aj)(ρ:List af)(H:Hp)(a:af):MO->Prop
 | .lst ds=>∃g,H a=some (.lst g)/\bI K ρ H g ds
 | .dct false bb=>∃es,H a=some (.dK es)/\ii (λ(p:Key×V)(q:D×D)=>oP p.1=q.1/\dg K ρ H p.2 q.2) es bb
 | .lam e=>GH H a e
 | .tbl x w=>Gp K H a x w
 | .clo c g=>KD K ρ H a c g
 | .ded=>∃o,H a=some (.frz o (.own a))
 | .dcf bb=>∃es,H a=some (Vv a es)/\ii (λ(p:NK×af×V)(q:D×D)=>sf p.1=q.1/\dg K ρ H (.ref p.2.1) q.1/\dg K ρ H p.2.2 q.2) es bb
 | .dct true bb=>∃es,H a=some (u7 a es)/\ii (λ(p:NK×af×V)(q:D×D)=>sf p.1=q.1/\dg K ρ H (.ref p.2.1) q.1/\dg K ρ H p.2.2 q.2) es bb
structure SR(K:aj)(ρ:List af)(H:Hp)(st:aR):Prop where
 len:ρ.length=st.length
 nd:ρ.Nodup
 ob:∀(n:Nat)(a:af)(o:MO),ρ[n]?=some a->st[n]?=some o->p_ K ρ H a o
noncomputable def LR(K:aj)(ρ:List af)(H:Hp)(σ:St)(l:Loc):Prop:=
 σ.length=l.length/\∀(i:Nat)(d:D),l[i]?=some (some d)->∃v,σ[i]?=some (some v)/\dg K ρ H v d
structure Ex(ρ:List af)(H:Hp)(ρ':List af)(H':Hp):Prop where
 pre:∃τ,ρ'=ρ++τ/\∀a∈τ,H a=none
 fix:∀a o,kO o=3->H a=some o->H' a=some o
 oth:∀a o,a∉ρ->H a=some o->H' a=some o
 knd:∀a o,H a=some o->∃o',H' a=some o'/\kO o'=kO o
structure Up(ρ:List af)(H:Hp)(ρ':List af)(H':Hp):Prop where
 pre:∃τ,ρ'=ρ++τ
 fix:∀a o,kO o=3->H a=some o->H' a=some o
 knd:∀a o,H a=some o->∃o',H' a=some o'/\kO o'=kO o
section
variable{K:aj}{ρ ρ1 ρ2:List af}{H H1 H2:Hp}{st cw:aR}{v:V}{d:D}{vs:List V}{ds:List D}{a:af}
theorem Ex.lst(x:Ex ρ H ρ1 H1)(a:af)(xs:List V)(c:a∉ρ)(h:H a=some (.lst xs)):H1 a=some (.lst xs):=x.oth a _ c h
theorem Ex.trk(x:Ex ρ H ρ1 H1)(a:af)(o:HO)(h:H a=some o):H1 a≠none:=by obtain⟨o',e,_⟩:=x.knd a o h;rw[e];exact λz=>(by cases z)
theorem Ex.up(x:Ex ρ H ρ1 H1):Up ρ H ρ1 H1:=⟨let ⟨τ,e,_⟩:=x.pre;⟨τ,e⟩,x.fix,x.knd⟩
theorem Up.grow{τ:List af}:Up ρ H (ρ++τ) H:=⟨⟨τ,rfl⟩,λ_ _ _ e=>e,λ_ o e=>⟨o,e,rfl⟩⟩
theorem Ex.refl:Ex ρ H ρ H:=⟨⟨[],by simp,by simp⟩,λ_ _ _ e=>e,λ_ _ _ e=>e,λ_ o e=>⟨o,e,rfl⟩⟩
theorem Ex.trans(x:Ex ρ H ρ1 H1)(y:Ex ρ1 H1 ρ2 H2):Ex ρ H ρ2 H2:=by
 obtain⟨τ1,rfl,h⟩:=x.pre;obtain⟨τ2,rfl,I⟩:=y.pre;refine⟨⟨τ1++τ2,by simp,λa c=>?_⟩,λa o no e=>y.fix a o no (x.fix a o no e),λa o g e=>?_,λa o e=>?_⟩
 ·rcases br.mp c with c|c
  ·exact h a c
  ·cases q:H a with
   |none=>rfl
   |some o=>exact bp (I a c) (x.trk a o q)
 ·refine y.oth a o (λz=>?_) (x.oth a o g e);rcases br.mp z with z|z
  ·exact g z
  ·rw[h a z]at e;cases e
 ·obtain⟨C,L,G⟩:=x.knd a o e;obtain⟨u,J,E⟩:=y.knd a C L;exact⟨u,J,E.trans G⟩
theorem Ex.new{o:HO}(h:H a=none):Ex ρ H ρ (eO H a o):=
 ⟨⟨[],by simp,by simp⟩,λb u _ e=>by rw[gm (pi e h)];exact e,λb u _ e=>by rw[gm (pi e h)];exact e,
  λb u e=>⟨u,by rw[gm (pi e h)];exact e,rfl⟩⟩
theorem Ex.newO{o:HO}(h:H a=none):Ex ρ H (ρ++[a]) (eO H a o):=
 ⟨⟨[a],rfl,λb c=>by rw[aE]at c;rw[c];exact h⟩,(Ex.new (ρ:=ρ) h).fix,(Ex.new (ρ:=ρ) h).oth,(Ex.new (ρ:=ρ) h).knd⟩
theorem Ex.newL{vs:List V}(h:H a=none):Ex ρ H (ρ++[a]) (eO H a (.lst vs)):=Ex.newO h
theorem i7.mono(x:Up ρ H ρ1 H1)(h:i7 K H a vs):i7 K H1 a vs:=by
 rcases h with h|h
 ·rcases h with h|⟨o,h⟩
  ·exact .inl (.inl (x.fix a _ rfl h))
  ·exact .inl (.inr ⟨o,x.fix a _ rfl h⟩)
 ·exact .inr h
theorem uz.mono(x:Up ρ H ρ1 H1)(h:uz K H a vs):uz K H1 a vs:=by
 rcases h with ⟨o,h⟩|h
 ·exact .inl ⟨o,x.fix a _ rfl h⟩
 ·exact .inr h
theorem FG{α:Type}{l τ:List α}{n:Nat}{a:α}(h:l[n]?=some a):(l++τ)[n]?=some a:=by rw[aL (am.mp h).1];exact h
structure wJ(K:aj)(ρ:List af)(H:Hp)(ρ1:List af)(H1:Hp):Prop where
 sq:∀{a:af}{vs:List V},i7 K H a vs->i7 K H1 a vs
 fz:∀{a:af}{vs:List V},uz K H a vs->uz K H1 a vs
 kd:∀{a:af}{o:HO},H a=some o->kO o≠3->∃o',H1 a=some o'/\kO o'=kO o
 rt:∀{n:Nat}{a:af},ρ[n]?=some a->ρ1[n]?=some a
 ow:∀{a C:af},(∃o,H a=some (.frz o (.own a))/\o.cls=.ref C)->∃o,H1 a=some (.frz o (.own a))/\o.cls=.ref C
 ex:∀{a C dx:af}{x:Str},(∃o,H a=some (.frz o (.own a))/\o.cls=.ref C/\o.dict=some dx/\∃vs,o.data=.fields vs/\vB x vs)->∃o,H1 a=some (.frz o (.own a))/\o.cls=.ref C/\o.dict=some dx/\∃vs,o.data=.fields vs/\vB x vs
 xd:∀{a:af}{fs:List (Str×V)},H a=some (.xd fs)->H1 a=some (.xd fs)
theorem dg.map(m:wJ K ρ H ρ1 H1){v:V}{d:D}(r:dg K ρ H v d):dg K ρ1 H1 v d:=
 dg.rec (motive_1:=λv d _=>dg K ρ1 H1 v d) (motive_2:=λvs ds _=>bI K ρ1 H1 vs ds) .non .bl .int .str (λh _ r=>.tup (m.sq h) r) (λh _ r=>.lit (m.fz h) r)
  (λk h=>.ref (by obtain⟨o,q,c⟩:=k;obtain⟨o',e,k⟩:=m.kd q (by rw[c];decide);exact⟨o',e,k.trans c⟩) (m.rt h))
  (λk h=>.dic (by obtain⟨o,q,c⟩:=k;obtain⟨o',e,k⟩:=m.kd q (by ext);exact⟨o',e,by rw[k];exact c⟩) (m.rt h))
  (λg h=>.exn0 g (m.ow h)) (λg h u _ r=>.exn g (m.ex h) (m.xd u) r) (λh=>.fn (m.rt h))
  (λg h=>.gfn g h)
  .nil (λ_ _ r t=>.cons r t) r
theorem bI.map(m:wJ K ρ H ρ1 H1){vs:List V}{ds:List D}(h:bI K ρ H vs ds):bI K ρ1 H1 vs ds:=by
 induction ds generalizing vs with
 |nil=>cases h;exact .nil
 |cons d ds ih=>cases h with|cons r t=>exact .cons (r.map m) (ih t)
theorem Up.rmap(x:Up ρ H ρ1 H1):wJ K ρ H ρ1 H1 where
 sq:=i7.mono x
 fz:=uz.mono x
 kd h _:=x.knd _ _ h
 rt h:=by obtain⟨τ,e⟩:=x.pre;rw[e];exact FG h
 ow:=λq=>by obtain⟨o,h,c⟩:=q;exact⟨o,x.fix _ _ rfl h,c⟩
 ex:=λg=>by obtain⟨o,h,c⟩:=g;exact⟨o,x.fix _ _ rfl h,c⟩
 xd h:=x.fix _ _ rfl h
theorem dg.up(x:Up ρ H ρ1 H1){v:V}{d:D}(r:dg K ρ H v d):dg K ρ1 H1 v d:=r.map x.rmap
theorem bI.up(x:Up ρ H ρ1 H1){vs:List V}{ds:List D}(r:bI K ρ H vs ds):bI K ρ1 H1 vs ds:=r.map x.rmap
theorem dg.mono(r:dg K ρ H v d)(x:Ex ρ H ρ1 H1):dg K ρ1 H1 v d:=r.up x.up
theorem bI.mono(r:bI K ρ H vs ds)(x:Ex ρ H ρ1 H1):bI K ρ1 H1 vs ds:=r.up x.up
theorem bI.length{vs:List V}{ds:List D}(h:bI K ρ H vs ds):vs.length=ds.length:=by
 induction ds generalizing vs with
 |nil=>cases h;rfl
 |cons d ds ih=>cases h with|cons _ t=>simp[ih t]
theorem bI.get{vs:List V}{ds:List D}{i:Nat}{d:D}(h:bI K ρ H vs ds)(e:ds[i]?=some d):∃v,vs[i]?=some v/\dg K ρ H v d:=by
 induction ds generalizing vs i with
 |nil=>cases e
 |cons x ds ih=>
  cases h with
  |cons r t=>
   cases i with
   |zero=>cases e;exact⟨_,rfl,r⟩
   |succ i=>obtain⟨v,g,c⟩:=ih (i:=i) t e;exact⟨v,g,c⟩
theorem bI.app{vs c:List V}{ds es:List D}(h:bI K ρ H vs ds)(q:bI K ρ H c es):bI K ρ H (vs++c) (ds++es):=by
 induction ds generalizing vs with
 |nil=>cases h;exact q
 |cons d ds ih=>cases h with|cons r t=>exact .cons r (ih t)
theorem bI.set{vs:List V}{ds:List D}{v:V}{d:D}(i:Nat)(h:bI K ρ H vs ds)(q:dg K ρ H v d):bI K ρ H (vs.set i v) (ds.set i d):=by
 induction ds generalizing vs i with
 |nil=>cases h;exact .nil
 |cons x ds ih=>
  cases h with
  |cons r t=>
   cases i with
   |zero=>exact .cons q t
   |succ i=>exact .cons r (ih i t)
theorem bI.take{vs:List V}{ds:List D}(n:Nat)(h:bI K ρ H vs ds):bI K ρ H (vs.take n) (ds.take n):=by
 induction ds generalizing vs n with
 |nil=>cases h;rw[A7,A7];exact .nil
 |cons x ds ih=>
  cases h with
  |cons r t=>
   cases n with
   |zero=>exact .nil
   |succ n=>exact .cons r (ih n t)
theorem bI.drop{vs:List V}{ds:List D}(n:Nat)(h:bI K ρ H vs ds):bI K ρ H (vs.drop n) (ds.drop n):=by
 induction ds generalizing vs n with
 |nil=>cases h;rw[A8,A8];exact .nil
 |cons x ds ih=>
  cases h with
  |cons r t=>
   cases n with
   |zero=>exact .cons r t
   |succ n=>exact ih n t
theorem LR.mono{σ:St}{l:Loc}(x:Ex ρ H ρ1 H1)(h:LR K ρ H σ l):LR K ρ1 H1 σ l:=
 ⟨h.1,λi d e=>let ⟨v,e1,r⟩:=h.2 i d e;⟨v,e1,r.mono x⟩⟩
theorem SR.at(s:SR K ρ H st){n:Nat}{o:MO}(e:st[n]?=some o):∃a,ρ[n]?=some a/\p_ K ρ H a o:=by
 have c:n < ρ.length:=by rw[s.len];exact (am.mp e).1
 have q:ρ[n]?=some ρ[n]:=au c;exact⟨_,q,s.ob n _ o q e⟩
theorem SR.seq(s:SR K ρ H st){n:Nat}(e:st[n]?=some (.lst ds)):∃a vs,ρ[n]?=some a/\H a=some (.lst vs)/\bI K ρ H vs ds:=by obtain⟨a,h,vs,q,r⟩:=s.at e;exact⟨a,vs,h,q,r⟩
theorem p_.ex{o:MO}(h:p_ K ρ H a o):∃u,H a=some u:=by
 cases o with
 |lam e=>obtain⟨_,_,_,_,_,_,_,_,_,q,_⟩:=h;exact⟨_,q⟩
 |tbl x w=>obtain⟨_,_,q,_⟩:=h;exact⟨_,q⟩
 |dcf bb=>obtain⟨_,q,_⟩:=h;exact⟨_,q⟩
 |clo c vs=>obtain⟨_,_,_,_,_,q,_⟩:=h;exact⟨_,q⟩
 |ded=>obtain⟨_,q⟩:=h;exact⟨_,q⟩
 |lst ds=>obtain⟨vs,q,_⟩:=h;exact⟨_,q⟩
 |dct b bb=>cases b<;>(obtain⟨vs,q,_⟩:=h;exact⟨_,q⟩)
theorem SR.fresh(s:SR K ρ H st)(h:H a=none):a∉ρ:=λz=>by
 obtain⟨n,c⟩:=iI z;have g:n < st.length:=by rw[<- s.len];exact (am.mp c).1
 obtain⟨u,q⟩:=p_.ex (s.ob n a _ c (au g));rw[h]at q;cases q
theorem TL{n:Nat}{xs:List D}{s':aR}(h:getL n st=.ok xs s'):s'=st/\st[n]?=some (.lst xs):=by
 unfold getL at h;cases e:st[n]? with
 |none=>rw[e]at h;cases h
 |some o=>
  rw[e]at h;cases o with
  |lst ds=>cases h;exact⟨rfl,rfl⟩
  |_=>cases h
theorem ii.mapS{α β:Type}{F G:α->β->Prop}:∀{l₁:List α}{l₂:List β},ii F l₁ l₂->(∀a b,F a b->G a b)->ii G l₁ l₂
 |_,_,.nil,_=>.nil
 |_,_,.cons r t,f=>.cons (f _ _ r) (ii.mapS t f)
theorem pZ.up{c:af}{q:Str}(x:Up ρ H ρ1 H1)(h:pZ H c q):pZ H1 c q:=by obtain ⟨g,vs,t,e,r⟩:=h;exact ⟨g,vs,t,x.fix _ _ rfl e,r⟩
theorem tG.up{p:Str×af}(x:Up ρ H ρ1 H1)(h:tG K ρ H p d):tG K ρ1 H1 p d:=by obtain ⟨o,u,v,q,g,c,r⟩:=h;exact ⟨o,u,v,x.fix _ _ rfl q,g,c,r.up x⟩
theorem p_.mono{o:MO}(x:Up ρ H ρ1 H1)(h:p_ K ρ H a o)(g:∀u,H a=some u->H1 a=some u):p_ K ρ1 H1 a o:=by
 cases o with
 |lam e=>
  obtain⟨ps,b,sc,p,q,c,I,ct,G,E,C⟩:=h;exact⟨ps,b,sc,p,q,c,I,ct,G,g _ E,C.up x⟩
 |tbl y w=>
  obtain⟨t,ps,G,E,C⟩:=h;exact⟨t,ps,g _ G,E,λp v z=>let ⟨c,a,b⟩:=C p v z;⟨c,a,b.up x⟩⟩
 |clo c vs=>
  obtain⟨o,J,q,Y,U,G,E,C,Q,O,L⟩:=h;exact⟨o,J,q,Y,U,g _ G,E,C,Q.up x,O,ii.mapS L λ_ _ z=>z.up x⟩
 |ded=>obtain⟨u,e⟩:=h;exact⟨u,g _ e⟩
 |dcf bb=>
  obtain⟨es,q,r⟩:=h;exact⟨es,g _ q,ii.mapS r λp q z=>⟨z.1,z.2.1.up x,z.2.2.up x⟩⟩
 |lst ds=>
  obtain⟨vs,q,r⟩:=h;exact⟨vs,g _ q,r.up x⟩
 |dct b bb=>
  cases b with
  |false=>
   obtain⟨es,q,r⟩:=h;exact⟨es,g _ q,ii.mapS r λp q z=>⟨z.1,z.2.up x⟩⟩
  |true=>
   obtain⟨es,q,r⟩:=h;exact⟨es,g _ q,ii.mapS r λp q z=>⟨z.1,z.2.1.up x,z.2.2.up x⟩⟩
theorem SR.new{o:HO}(s:SR K ρ H st)(h:H a=none):SR K ρ (eO H a o) st:=
 ⟨s.len,s.nd,λn b ob g c=>p_.mono (o:=ob) (Ex.new (ρ:=ρ) h).up (s.ob n b ob g c) λvs q=>by rw[gm (pi q h)];exact q⟩
theorem SR.keepO{o':MO}(s:SR K ρ H st)(G:a∉ρ)(r:p_ K ρ H a o'):SR K (ρ++[a]) H (st++[o']):=by
 have E:=s.len;have h:∀(n:Nat)(b:af),(ρ++[a])[n]?=some b->(n < ρ.length/\ρ[n]?=some b)\/(n=ρ.length/\b=a):=λn b e=>by
  by_cases c:n < ρ.length
  ·rw[aL c]at e;exact .inl ⟨c,e⟩
  ·rw[a_ (by ext)]at e;have hz:n - ρ.length=0:=by
    cases q:n - ρ.length with
    |zero=>rfl
    |succ k=>rw[q]at e;simp at e
   rw[hz]at e;simp at e;exact .inr ⟨by ext,e.symm⟩
 refine⟨by simp[E],vK.mpr ⟨s.nd,by simp,λx I y C=>?_⟩,λn b o J g=>?_⟩
 ·rw[aE]at C;subst C;exact λz=>G (z ▸ I)
 ·rcases h n b J with ⟨c,u⟩|⟨c,u⟩
  ·rw[aL (by ext)]at g;exact p_.mono (o:=o) Up.grow (s.ob n b o u g) λ_ q=>q
  ·subst u;have:o=o':=by rw[c,E,a_ (ax _)]at g;simp at g;exact g.symm
   subst this;exact p_.mono (o:=o) Up.grow r λ_ q=>q
theorem SR.keep(s:SR K ρ H st)(h:H a=some (.lst vs))(c:a∉ρ)(r:bI K ρ H vs ds):SR K (ρ++[a]) H (st++[.lst ds]):=s.keepO c ⟨vs,h,r⟩
theorem SR.putO(s:SR K ρ H st){n:Nat}{o':MO}{u u':HO}(G:n < st.length)(h:ρ[n]?=some a)(hu:H a=some u)(E:kO u≠3)(I:kO u'=kO u)(r:p_ K ρ (eO H a u') a o'):
  SR K ρ (eO H a u') (st.set n o')/\Ex ρ H ρ (eO H a u'):=by
 have x:Ex ρ H ρ (eO H a u'):=by
  refine⟨⟨[],by simp,by simp⟩,λb o no q=>?_,λb xs C q=>?_,λb o q=>?_⟩
  ·have:b≠a:=λz=>by subst z;rw[hu]at q;cases q;exact E no
   rw[gm this];exact q
  ·have:b≠a:=λz=>by subst z;exact C (bo h)
   rw[gm this];exact q
  ·by_cases z:b=a
   ·subst z;rw[hu]at q;cases q;exact⟨u',i5,I⟩
   ·exact⟨o,by rw[gm z];exact q,rfl⟩
 refine⟨⟨by simp[s.len],s.nd,λm b o c g=>?_⟩,x⟩;by_cases z:m=n
 ·subst z;rw[h]at c;cases c;rw[bj G]at g;cases g;exact r
 ·rw[aZ (fB z)]at g;refine p_.mono (o:=o) x.up (s.ob m b o c g) λJ q=>?_;have:b≠a:=λw=>by subst w;exact z ((oJ (am.mp c).1 s.nd).mp (c.trans h.symm))
  rw[gm this];exact q
theorem SR.put(s:SR K ρ H st){n:Nat}{g:List V}(h:n < st.length)(C:ρ[n]?=some a)(c:H a=some (.lst g))(r:bI K ρ H vs ds):
  SR K ρ (eO H a (.lst vs)) (st.set n (.lst ds))/\Ex ρ H ρ (eO H a (.lst vs)):=by
 have u:Up ρ H ρ (eO H a (.lst vs)):=by
  refine⟨⟨[],by simp⟩,λb o no q=>?_,λb o q=>?_⟩
  ·have:b≠a:=λz=>by subst z;rw[c]at q;cases q;cases no
   rw[gm this];exact q
  ·by_cases z:b=a
   ·subst z;rw[c]at q;cases q;exact⟨_,i5,rfl⟩
   ·exact⟨o,by rw[gm z];exact q,rfl⟩
 exact s.putO h C c (by show (0:Nat)≠3;decide) rfl ⟨vs,i5,r.up u⟩
theorem Mp(k:∃o,H a=some o/\kO o=0):∃vs,H a=some (.lst vs):=by
 obtain⟨o,e,c⟩:=k;cases o with
 |lst vs=>exact⟨vs,e⟩
 |_=>cases c
noncomputable def aU{α:Type}(K:aj)(ρ:List af)(H:Hp)(r:Rs α)(R:α->aR->List af->Hp->Prop):Prop:=match r with
 | .ok a st=>∀ρ' H',Ex ρ H ρ' H'->SR K ρ' H' st->R a st ρ' H'
 |_=>False
theorem aU.left{α:Type}{r:Rs α}{R:α->aR->List af->Hp->Prop}(x:Ex ρ H ρ1 H1)(h:aU K ρ H r R):aU K ρ1 H1 r R:=by
 cases r with
 |ok a st=>exact λρ' c y s=>h ρ' c (x.trans y) s
 |exc _ _=>exact h
 |bad=>exact h
theorem aU.imp{α:Type}{r:Rs α}{R g:α->aR->List af->Hp->Prop}(h:aU K ρ H r R)(f:∀a st ρ' c,Ex ρ H ρ' c->SR K ρ' c st->R a st ρ' c->g a st ρ' c):aU K ρ H r g:=by
 cases r with
 |ok a st=>exact λρ' c y s=>f a st ρ' c y s (h ρ' c y s)
 |exc _ _=>exact h
 |bad=>exact h
theorem aU.bnd{α β:Type}{m:M α}{f:α->M β}{R:β->aR->List af->Hp->Prop}(h:aU K ρ H (bnd m f st) R):aU K ρ H (m st) λa c ρ' g=>aU K ρ' g (f a c) R:=by
 unfold MM.bnd at h;cases e:m st with
 |ok a s'=>
  rw[e]at h;exact λρ' g y s=>h.left y
 |exc _ _=>rw[e]at h;exact h
 |bad=>rw[e]at h;exact h
theorem aU.ret{α:Type}{a:α}{R:α->aR->List af->Hp->Prop}(h:aU K ρ H (MM.ret a st) R)(s:SR K ρ H st):R a st ρ H:=h ρ H Ex.refl s
theorem aU.chk{α:Type}{c:Prop}[Decidable c]{m:M α}{R:α->aR->List af->Hp->Prop}(h:aU K ρ H (MM.chk c m st) R):c/\aU K ρ H (m st) R:=by
 unfold MM.chk at h;by_cases g:c
 ·rw[aG g]at h;exact⟨g,h⟩
 ·rw[az g]at h;exact h.elim
theorem aU.getL{n:Nat}{R:List D->aR->List af->Hp->Prop}(h:aU K ρ H (MM.getL n st) R)(s:SR K ρ H st):∃xs,st[n]?=some (.lst xs)/\R xs st ρ H:=by
 cases e:MM.getL n st with
 |ok xs s'=>
  obtain⟨rfl,q⟩:=TL e;rw[e]at h;exact⟨xs,q,h ρ H Ex.refl s⟩
 |exc _ _=>rw[e]at h;exact h.elim
 |bad=>rw[e]at h;exact h.elim
def uC(K:aj)(f:CE):TE:=λσ H Q=>∃ρ l st,LR K ρ H σ l/\SR K ρ H st/\aU K ρ H (f l st) λd _ ρ' c=>∀v,dg K ρ' c v d->Q v c
def mG(K:aj)(f:CT):TT:=λσ H Q=>∃ρ l st,LR K ρ H σ l/\SR K ρ H st/\aU K ρ H (f l st) λb _ _ c=>Q b c
def uf(K:aj)(f:CA):TA:=λσ H Q=>∃ρ l st,LR K ρ H σ l/\SR K ρ H st/\aU K ρ H (f l st) λds _ ρ' c=>∀vs,bI K ρ' c vs ds->Q vs c
def D_(K:aj)(f:CA):TE:=λσ H Q=>∃ρ l st,LR K ρ H σ l/\SR K ρ H st/\aU K ρ H (f l st) λds _ ρ' c=>∀a vs,H a=none->a∉ρ'->c a=some (.lst vs)->bI K ρ' c vs ds->Q (.ref a) c
def uV(K:aj)(c:CS):TS:=λG σ H=>∃ρ l st,LR K ρ H σ l/\SR K ρ H st/\aU K ρ H (c l st) λf _ ρ' g=>match f with
 | .next l'=>∀σ',LR K ρ' g σ' l'->G.nx σ' g
 | .ret d=>∀v,dg K ρ' g v d->G.rt v g
 | .brk l'=>∀σ',LR K ρ' g σ' l'->G.bk σ' g
 | .cnt l'=>∀σ',LR K ρ' g σ' l'->G.ct σ' g
def wP(K:aj)(g:CG):TG:=λv σ H Q=>∃ρ l st d,LR K ρ H σ l/\SR K ρ H st/\dg K ρ H v d/\aU K ρ H (g d l st) λh _ ρ' c=>∀σ',LR K ρ' c σ' h->Q σ' c
def Cf(K:aj)(g:List D->Loc->M Loc):ww:=λvs σ H Q=>∃ρ l st ds,LR K ρ H σ l/\SR K ρ H st/\bI K ρ H vs ds/\aU K ρ H (g ds l st) λh _ ρ' c=>∀σ',LR K ρ' c σ' h->Q σ' c
def nD(K:aj)(g:D->D->M D):R2:=λx y H Q=>∃ρ st d e,SR K ρ H st/\dg K ρ H x d/\dg K ρ H y e/\aU K ρ H (g d e st) λr _ ρ' c=>∀v,dg K ρ' c v r->Q v c
def vn(K:aj)(g:D->M D):V->Hp->VK->Prop:=λx H Q=>∃ρ st d,SR K ρ H st/\dg K ρ H x d/\aU K ρ H (g d st) λr _ ρ' c=>∀v,dg K ρ' c v r->Q v c
def TZ(K:aj)(g:List D->M D):List V->Hp->VK->Prop:=λxs H Q=>∃ρ st ds,SR K ρ H st/\bI K ρ H xs ds/\aU K ρ H (g ds st) λr _ ρ' c=>∀v,dg K ρ' c v r->Q v c
def lU(K:aj)(n:Nat)(g:List D->M D):Sp:=λvs H Q _=>vs.length=n/\TZ K g vs H Q
end
section
variable{X:Cx}{a b c:Expr}{pos:Pos}
abbrev SE(X:Cx)(e:Expr)(f:CE):Prop:=PE X e (uC X.K f)
abbrev SL(X:Cx)(e:Expr)(f:CA):Prop:=PE X e (D_ X.K f)
abbrev ST(X:Cx)(e:Expr)(f:CT):Prop:=PT X e (mG X.K f)
abbrev SA(X:Cx)(es:List Expr)(f:CA):Prop:=PA X es (uf X.K f)
abbrev SS(X:Cx)(s:Stmt)(f:CS):Prop:=PS X s (uV X.K f)
abbrev ul(X:Cx)(s:List Stmt)(f:CS):Prop:=PSs X s (uV X.K f)
theorem _root_.L2.PE.of{e:Expr}{t t':TE}(h:PE X e t)(f:∀σ H Q,t' σ H Q->t σ H Q):PE X e t':=λg s σ H Q I q=>h g s σ H Q I (f σ H Q q)
theorem _root_.L2.PT.of{e:Expr}{t t':TT}(h:PT X e t)(f:∀σ H Q,t' σ H Q->t σ H Q):PT X e t':=λg s σ H Q I q=>h g s σ H Q I (f σ H Q q)
theorem _root_.L2.PA.of{e:List Expr}{t t':TA}(h:PA X e t)(f:∀σ H Q,t' σ H Q->t σ H Q):PA X e t':=λpos g s σ H Q I q=>h pos g s σ H Q I (f σ H Q q)
theorem _root_.L2.PS.of{e:Stmt}{t t':TS}(h:PS X e t)(f:∀D σ H,t' D σ H->t D σ H):PS X e t':=λg s σ H D I q=>h g s σ H D I (f D σ H q)
theorem _root_.L2.PSs.of{e:List Stmt}{t t':TS}(h:PSs X e t)(f:∀D σ H,t' D σ H->t D σ H):PSs X e t':=λg s σ H D I q=>h g s σ H D I (f D σ H q)
theorem _root_.L2.PG.of{e:Expr}{t t':TG}(h:PG X e t)(f:∀v σ H Q,t' v σ H Q->t v σ H Q):PG X e t':=λg s σ H v u Q I r q=>h g s σ H v u Q I r (f v σ H Q q)
theorem _root_.L2.PGs.of{e:List Expr}{t t':ww}(h:PGs X e t)(f:∀v σ H Q,t' v σ H Q->t v σ H Q):PGs X e t':=λg s σ H v u Q I r q=>h g s σ H v u Q I r (f v σ H Q q)
theorem _root_.L2.OpR.of{f:ac->ac->Sem ac}{r C:R2}(h:OpR X f r)(g:∀x y H Q,C x y H Q->r x y H Q):OpR X f C:=λo s σ H x y v u Q I G E q=>h o s σ H x y v u Q I G E (g x y H Q q)
theorem _root_.L2.CallR.of{f:ac}{r v:List V->Hp->VK->Prop}(h:CallR X f r)(g:∀x H Q,v x H Q->r x H Q):CallR X f v:=λo s σ H x u Q I C q=>h o s σ H x u Q I C (g x H Q q)
variable{fa fb fc:CE}
theorem Fy(i:Nat){x:Str}(h:PE X (.Name x pos) (DG i)):SE X (.Name x pos) (ak i):=h.of λσ H Q g=>by
 obtain⟨ρ,l,st,u,q,p⟩:=g;unfold ak at p;cases e:l[i]? with
 |none=>rw[e]at p;exact p.elim
 |some o=>
  rw[e]at p;cases o with
  |none=>exact p.elim
  |some d=>
   obtain⟨v,C,r⟩:=u.2 i d e;exact⟨v,C,p.ret q v r⟩
theorem Pa{i:Int}{j:Nat}:SE X (.Constant (.int i) j pos) (ay (.int i)):=(RA (i:=i) (j:=j) (pos:=pos)).of λσ H Q g=>by obtain⟨ρ,l,st,o,h,p⟩:=g;exact p.ret h _ (.int i)
theorem VA{i:Bool}{j:Nat}:SE X (.Constant (.bool i) j pos) (ay (.bl i)):=(S5 (b:=i) (j:=j) (pos:=pos)).of λσ H Q g=>by obtain⟨ρ,l,st,o,h,p⟩:=g;exact p.ret h _ (.bl i)
theorem O7{j:Nat}:SE X (.Constant .none j pos) (ay .non):=(ON (j:=j) (pos:=pos)).of λσ H Q g=>by obtain⟨ρ,l,st,o,h,p⟩:=g;exact p.ret h _ .non
theorem Vh{i:Str}{j:Nat}:SE X (.Constant (.str i) j pos) (ay (.str i)):=(Px (x:=i) (j:=j) (pos:=pos)).of λσ H Q g=>by obtain⟨ρ,l,st,o,h,p⟩:=g;exact p.ret h _ (.str i)
theorem Fv{g:D->D->M D}{r:R2}(hr:∀x y H Q,nD X.K g x y H Q->r x y H Q):∀σ H Q,uC X.K (c2 g fa fb) σ H Q->CW r (uC X.K fa) (uC X.K fb) σ H Q:=λσ H Q h=>
 by obtain⟨ρ,l,st,C,I,p⟩:=h;exact⟨ρ,l,st,C,I,p.bnd.imp λd q ρ1 H1 G L c v O=>⟨ρ1,l,q,C.mono G,L,c.bnd.imp λe o ρ2 H2 E J Y u U=>hr _ _ _ _ ⟨ρ2,o,d,e,J,O.mono E,U,Y⟩⟩⟩
theorem Uw{op:xC}{g:D->D->M D}(o:OpR X (eV op) (nD X.K g))(u:SE X a fa)(q:SE X b fb):SE X (.BinOp a op b pos) (c2 g fa fb):=
 (PV o u q).of (Fv λ_ _ _ _ h=>h)
theorem Ws{op:lV}{g:D->D->M D}(o:OpR X (bG op) (nD X.K g))(v:SE X a fa)(u:SE X b fb)(q:fC op b=false):SE X (.Compare a [op] [b] pos) (c2 g fa fb):=
 (QU o v u q).of (Fv λ_ _ _ _ h=>h)
end
theorem _root_.Exists.el{α β γ:Type}{A B C:α->β->γ->Prop}{G:Prop}(h:∃a b c,A a b c/\B a b c/\C a b c)(k:∀a b c,A a b c->B a b c->C a b c->G):G:=by obtain⟨ρ,l,st,a,b,c⟩:=h;exact k ρ l st a b c
theorem uC.el{K:aj}{f:CE}{σ:St}{H:Hp}{Q:VK}{C:Prop}(h:uC K f σ H Q)(k:∀ρ l st,LR K ρ H σ l->SR K ρ H st->aU K ρ H (f l st) (λd _ ρ' g=>∀v,dg K ρ' g v d->Q v g)->C):C:=by obtain⟨ρ,l,st,a,b,c⟩:=h;exact k ρ l st a b c
theorem mG.el{K:aj}{f:CT}{σ:St}{H:Hp}{Q:Bool->Hp->Prop}{C:Prop}(h:mG K f σ H Q)(k:∀ρ l st,LR K ρ H σ l->SR K ρ H st->aU K ρ H (f l st) (λb _ _ g=>Q b g)->C):C:=by obtain⟨ρ,l,st,a,b,c⟩:=h;exact k ρ l st a b c
theorem uV.el{K:aj}{c:CS}{σ:St}{H:Hp}{G:Ends}{C:Prop}(h:uV K c G σ H) (k:∀ρ l st,LR K ρ H σ l->SR K ρ H st->aU K ρ H (c l st) (λf _ ρ' g=>match f with
 | .next l'=>∀σ',LR K ρ' g σ' l'->G.nx σ' g
 | .ret d=>∀v,dg K ρ' g v d->G.rt v g
 | .brk l'=>∀σ',LR K ρ' g σ' l'->G.bk σ' g
 | .cnt l'=>∀σ',LR K ρ' g σ' l'->G.ct σ' g)->C):C:=by
 obtain⟨ρ,l,st,a,b,c⟩:=h;exact k ρ l st a b c
end MM
namespace MM
open PySem PySem.Spec PyProof.Rows L2
theorem Lx:∀(a b:List Int),nZ (a.map .int) (b.map .int)=decide (a=b)
 |[],[]=>by simp[nZ]
 |[],_::_=>by simp[nZ]
 |_::_,[]=>by simp[nZ]
 |x::xs,y::ys=>by
  rw[aQ,aQ]
  show (r_ (.int x) (.int y)&&nZ _ _)=_;rw[Lx xs ys]
  show (decide (x=y)&&_)=_;simp[pW]
theorem Qa:∀(a b:KI),r_ (wV a) (wV b)=decide (a=b)
 | .inl i,.inl j=>by
  show decide (i=j)=_;by_cases z:i=j
  ·subst z;simp
  ·rw[aO z,aO (λq=>z (by injection q))]
 | .inl i,.inr r=>by rw[aO (by simp)];rfl
 | .inr r,.inl i=>by rw[aO (by simp)];rfl
 | .inr r,.inr q=>by
  show nZ (r.map .int) (q.map .int)=_;rw[Lx];by_cases z:r=q
  ·subst z;simp
  ·rw[aO z,aO (λq=>z (by injection q))]
theorem N6:∀(a b:List KI),nZ (a.map wV) (b.map wV)=decide (a=b)
 |[],[]=>by simp[nZ]
 |[],_::_=>by simp[nZ]
 |_::_,[]=>by simp[nZ]
 |x::xs,y::ys=>by
  rw[aQ,aQ]
  show (r_ (wV x) (wV y)&&nZ _ _)=_;rw[N6 xs ys,Qa];simp[pW]
theorem E9(a b:NK):r_ (sf a) (sf b)=decide (a=b):=N6 a b
theorem Hu(a b:Key):r_ (oP a) (oP b)=decide (a=b):=by cases a<;>cases b<;>simp[oP,r_]
theorem NB:∀{ds:List D}{r:List Int},pI ds=some r->ds=r.map .int
 |[],r,h=>by simp[pI]at h;subst h;rfl
 |d::ds,r,h=>by
  cases d with
  |int i=>
   unfold pI at h;cases e:pI ds with
   |none=>rw[e]at h;cases h
   |some q=>
    rw[e]at h;cases h;rw[aQ,NB e]
  |_=>cases h
theorem Kg:∀{ds:List D}{r:NK},nA ds=some r->ds=r.map wV
 |[],r,h=>by simp[nA]at h;subst h;rfl
 |d::ds,r,h=>by
  cases d with
  |tup xs=>
   unfold nA at h;cases e:pI xs with
   |none=>rw[e]at h;cases h
   |some q=>
    cases c:nA ds with
    |none=>rw[e,c]at h;cases h
    |some q2=>
     rw[e,c]at h;cases h;rw[aQ,<- Kg c]
     show _=D.tup (q.map .int)::ds;rw[<- NB e]
  |int i=>
   unfold nA at h;cases c:nA ds with
   |none=>rw[c]at h;cases h
   |some q2=>
    rw[c]at h;cases h;rw[aQ,<- Kg c];rfl
  |_=>cases h
theorem X6{d:D}{r:NK}(h:stK d=some r):d=sf r:=by
 cases d with
 |tup ds=>show D.tup ds=D.tup _;rw[Kg h]
 |_=>cases h
theorem Gz{d:D}(h:sB true d=true):∃k,d=sf k:=by
 cases e:stK d with
 |none=>
  have:sB true d=(stK d).isSome:=by cases d<;>rfl
  rw[this,e]at h;cases h
 |some k=>exact⟨k,X6 e⟩
theorem JM{d:D}(h:sB false d=true):∃k,d=oP k:=by
 cases d with
 |int i=>exact⟨.inl i,rfl⟩
 |str x=>exact⟨.inr x,rfl⟩
 |_=>cases h
section
variable{X:Cx}{K:aj}{ρ:List af}{H:Hp}{st:aR}{ao:List (af×Obj)}{σ:St}{s:ah}{a b:af}
theorem Kz{k:Key}{v:V}(r:dg K ρ H v (oP k)):v=kV k:=by
 cases k with
 |inl i=>cases r;rfl
 |inr x=>cases r;rfl
abbrev KR(K:aj)(ρ:List af)(H:Hp):List (Key×V)->List (D×D)->Prop:=ii λ(p:Key×V)(q:D×D)=>oP p.1=q.1/\dg K ρ H p.2 q.2
def RO(K:aj)(ρ:List af)(H:Hp):Option V->Option D->Prop
 |some v,some d=>dg K ρ H v d
 |none,none=>True
 |_,_=>False
theorem RO.some_of{o:Option V}{d:D}(h:RO K ρ H o (some d)):∃v,o=some v/\dg K ρ H v d:=by
 cases o with
 |none=>exact h.elim
 |some v=>exact⟨v,rfl,h⟩
theorem RO.isSome_eq{o:Option V}{d:Option D}(h:RO K ρ H o d):o.isSome=d.isSome:=by cases o<;>cases d<;>first|rfl|exact h.elim
theorem KR.val{es:List (Key×V)}{c:List (D×D)}(r:KR K ρ H es c)(k:Key):RO K ρ H (oV es k) (t9 c (oP k)):=by
 induction r with
 |nil=>exact eN
 |@cons p q ps qs h t ih=>
  obtain⟨o,g⟩:=h;unfold t9;rw[cX,<- o,Hu];by_cases e:p.1=k
  ·rw[FH e,aM e];exact g
  ·rw[FP e,aO e];exact ih
theorem KR.any{es:List (Key×V)}{c:List (D×D)}(r:KR K ρ H es c)(k:Key):(es.any λg=>decide (g.1=k))=c.any λp=>r_ p.1 (oP k):=by
 induction r with
 |nil=>rfl
 |@cons p q ps qs h t ih=>rw[b9,b9,ih,<- h.1,Hu]
theorem KR.put{es:List (Key×V)}{c:List (D×D)}(r:KR K ρ H es c)(k:Key){v:V}{d:D}(g:dg K ρ H v d):KR K ρ H (L2.nv es k v) (v7 c (oP k) d):=by
 unfold L2.nv v7;rw[r.any k];by_cases e:(c.any λp=>r_ p.1 (oP k))=true
 ·rw[aG e,aG e];clear e
  induction r with
  |nil=>exact .nil
  |@cons p q ps qs h t ih=>
   rw[aQ,aQ];refine .cons ?_ ih;rw[<- h.1,Hu];by_cases e:p.1=k
   ·rw[aG e,aG (aM e)];exact⟨rfl,g⟩
   ·rw[az e,az (by rw[aO e];exact aW)];exact h
 ·rw[az e,az e];exact lM r ⟨rfl,g⟩
theorem KR.up{ρ1:List af}{g:Hp}(x:Up ρ H ρ1 g){es:List (Key×V)}{c:List (D×D)}(r:KR K ρ H es c):KR K ρ1 g es c:=ii.mapS r λ_ _ z=>⟨z.1,z.2.up x⟩
theorem KR.length{es:List (Key×V)}{c:List (D×D)}(r:KR K ρ H es c):es.length=c.length:=e8 r
abbrev NR(K:aj)(ρ:List af)(H:Hp):List (NK×af×V)->List (D×D)->Prop:=ii λ(p:NK×af×V)(q:D×D)=>sf p.1=q.1/\dg K ρ H (.ref p.2.1) q.1/\dg K ρ H p.2.2 q.2
abbrev NX:List (NK×af×V)->List (NK×af×ac)->Prop:=ii λ(p:NK×af×V)(q:NK×af×ac)=>p.1=q.1/\p.2.1=q.2.1/\RelV p.2.2 q.2.2
abbrev De(X:Cx):xG X.prog X.w NK:=rB X.prog X.w
theorem Ms{P:Program}{w:bq}:∀{r:List Int}{c:List V}{o:List ac},bI K ρ H c (r.map .int)->cB c o->ItemsAre (oz P w) r o
 |[],_,_,h,g=>by cases h;cases g;exact .nil
 |i::r,_,_,h,g=>by
  cases h with
  |cons h1 ht=>
   cases h1;cases g with
   |cons g1 gt=>
    obtain⟨t,e⟩:=g1;subst e;exact .cons (by show pc i (gR i t)=true;simp[pc]) (Ms ht gt)
theorem Tb{r:List Int}{v:V}{u:ac}(I:Inv X ao σ H s)(h:dg X.K ρ H v (ke r))(g:RelV v u):∃b,u=.ref b/\A6 (oz X.prog X.w) s.heap r b:=by
 cases h with
 |@tup b vs ds h q=>
  have e:u=av b:=g;subst e;obtain⟨its,c,⟨o,G,E,n,C⟩,_⟩:=I.tuple h;exact⟨b,rfl,o,its.toArray,n,G,E,C,by simpa using Ms q c⟩
theorem MP(I:Inv X ao σ H s):∀{k:NK}{c:List V}{o:List ac},bI X.K ρ H c (k.map wV)->cB c o->mC X.prog X.w s.heap k o
 |[],_,_,h,g=>by cases h;cases g;exact .nil
 |r::k,_,_,h,g=>by
  cases h with
  |cons h1 ht=>
   cases g with
   |cons g1 gt=>
    refine .cons ?_ (MP I ht gt);cases r with
    |inl i=>
     cases (show dg X.K ρ H _ (.int i) from h1);obtain⟨t,e⟩:=g1;subst e;exact .one i t
    |inr r=>
     obtain⟨b,e,q⟩:=Tb I h1 g1;subst e;exact .row q
theorem FW{k:NK}{v:V}{u:ac}(I:Inv X ao σ H s)(h:dg X.K ρ H v (sf k))(g:RelV v u):∃b,v=.ref b/\u=.ref b/\(De X).is s.heap k b:=by
 cases h with
 |@tup b vs ds h q=>
  have e:u=av b:=g;subst e;obtain⟨its,c,⟨o,G,E,n,C⟩,_⟩:=I.tuple h;exact⟨b,rfl,rfl,o,its.toArray,n,G,E,C,by simpa using MP I q c⟩
theorem Es{es:List (NK×af×V)}{c:List (D×D)}(I:Inv X ao σ H s)(e:H a=some (u7 a es))(r:NR X.K ρ H es c):
  es.length<=sizeLine/\(a == eU)=false/\∃xs,NX es xs/\s.heap.DictOfH (De X) a xs/\tS s.heap a xs.length:=by
 obtain⟨⟨z,y,xs,G,o,v,ep,E,O,C,L,J,h6⟩,U,Q⟩:=(show dE X.prog X.w H s.heap a (u7 a es) from I.hok a _ e)
 subst h6;refine⟨z,y,xs,G,⟨o,v,_,E,O,C,L,?_,J⟩,⟨o,v,E,C⟩⟩;clear E O C L J e z y U Q
 induction G generalizing c with
 |nil=>intro x u;cases u
 |@cons p q ps qs h t ih=>
  cases r with
  |cons g gt=>
   intro x u;rcases aF.mp u with e|u
   ·subst e;obtain⟨b,c,_,Y⟩:=FW I (by rw[g.1];exact g.2.1) (show RelV (.ref p.2.1) (.ref p.2.1) from rfl);cases c;rw[<- h.1,<- h.2.1];exact Y
   ·exact ih gt x u
theorem Tx{L:Hp}{h':bh}{P:Program}{w:bq}{es:List (NK×af×V)}{xs:List (NK×af×ac)}(z:es.length<=sizeLine)(y:(a == eU)=false)(r:NX es xs)(J:h'.DictOfH (rB P w) a xs)(I:tS h' a xs.length):
  dE P w L h' a (u7 a es):=by
 obtain⟨o,c,v,g,h,q,E,_,C⟩:=J;obtain⟨O,G,g1,u⟩:=I;rw[g]at g1;cases g1;rw[q]at u;cases u;refine⟨⟨z,y,xs,r,o,c,_,g,h,q,E,C,rfl⟩,⟨o,g⟩,?_⟩
 rintro g1 g2 ⟨z,y,xs,r,o,c,v,g,h⟩ k
 exact⟨z,y,xs,r,o,c,v,k o g,h⟩
noncomputable def valN(es:List (NK×af×V))(k:NK):Option V:=(es.find? λp=>decide (p.1=k)).map (·.2.2)
noncomputable def putN(es:List (NK×af×V))(k:NK)(b:af)(v:V):List (NK×af×V):=if (es.any λp=>decide (p.1=k))=true then es.map (λp=>if p.1=k then (p.1,p.2.1,v) else p) else es++[(k,b,v)]
theorem NR.val{es:List (NK×af×V)}{c:List (D×D)}(r:NR K ρ H es c)(k:NK):RO K ρ H (valN es k) (t9 c (sf k)):=by
 induction r with
 |nil=>exact eN
 |@cons p q ps qs h t ih=>
  obtain⟨o,_,g⟩:=h;unfold t9 valN;rw[cX,cX,<- o,E9];by_cases e:p.1=k
  ·rw[aM e];exact g
  ·rw[aO e];exact ih
theorem NX.val{es:List (NK×af×V)}{xs:List (NK×af×ac)}(r:NX es xs)(k:NK):nh (valN es k) ((lX xs k).map (·.2)):=by
 induction r with
 |nil=>exact eN
 |@cons p q ps qs h t ih=>
  obtain⟨g,_,c⟩:=h;unfold lX valN;rw[cX,cX,<- g];by_cases e:p.1=k
  ·rw[aM e];exact c
  ·rw[aO e];exact ih
theorem NX.put{es:List (NK×af×V)}{xs:List (NK×af×ac)}(r:NX es xs)(k:NK)(b:af){v:V}{u:ac}(c:RelV v u):NX (putN es k b v) (oF xs k b u):=by
 have e:(es.any λp=>decide (p.1=k))=(lX xs k).isSome:=by
  clear c
  induction r with
  |nil=>rfl
  |@cons p q ps qs h t ih=>
   rw[b9,ih];unfold lX;rw[cX,<- h.1];by_cases e:p.1=k
   ·rw[aM e];rfl
   ·rw[aO e];rfl
 unfold putN oF;rw[e];by_cases q:(lX xs k).isSome=true
 ·rw[aG q,aG q];clear q e
  induction r with
  |nil=>exact .nil
  |@cons p q ps qs h t ih=>
   rw[aQ,aQ];refine .cons ?_ ih;unfold rm;by_cases e:p.1=k
   ·rw[aG e,aG (h.1.symm.trans e)];exact⟨h.1,h.2.1,c⟩
   ·rw[az e,az (λz=>e (h.1.trans z))];exact h
 ·rw[az q,az q];exact lM r ⟨rfl,rfl,c⟩
theorem NR.put{es:List (NK×af×V)}{c:List (D×D)}(r:NR K ρ H es c)(k:NK)(b:af){v:V}{d:D}(o:dg K ρ H (.ref b) (sf k))(g:dg K ρ H v d):NR K ρ H (putN es k b v) (v7 c (sf k) d):=by
 have e:(es.any λp=>decide (p.1=k))=c.any λp=>r_ p.1 (sf k):=by
  clear o g
  induction r with
  |nil=>rfl
  |@cons p q ps qs h t ih=>rw[b9,b9,ih,<- h.1,E9]
 unfold putN v7;rw[e];clear e;by_cases e:(c.any λp=>r_ p.1 (sf k))=true
 ·rw[aG e,aG e];clear e
  induction r with
  |nil=>exact .nil
  |@cons p q ps qs h t ih=>
   rw[aQ,aQ];refine .cons ?_ ih;by_cases e:p.1=k
   ·have z:r_ q.1 (sf k)=true:=by rw[<- h.1,E9];exact aM e
    rw[aG e,aG z];exact⟨h.1,h.2.1,g⟩
   ·have z:¬ r_ q.1 (sf k)=true:=by rw[<- h.1,E9,aO e];exact aW
    rw[az e,az z];exact h
 ·rw[az e,az e];exact lM r ⟨rfl,o,g⟩
theorem NR.up{ρ1:List af}{g:Hp}(x:Up ρ H ρ1 g){es:List (NK×af×V)}{c:List (D×D)}(r:NR K ρ H es c):NR K ρ1 g es c:=ii.mapS r λ_ _ z=>⟨z.1,z.2.1.up x,z.2.2.up x⟩
theorem NR.length{es:List (NK×af×V)}{c:List (D×D)}(r:NR K ρ H es c):es.length=c.length:=e8 r
theorem Su(es:List (NK×af×V))(k:NK)(b:af)(v:V):(putN es k b v).length<=es.length+1:=by
 unfold putN;split
 ·rw[ae];ext
 ·rw[aV,cm,eX];ext
theorem V_{n:Nat}{p:Bool×List (D×D)}{s':aR}(h:getDc n st=.ok p s'):s'=st/\st[n]?=some (.dct p.1 p.2):=by
 unfold getDc at h;cases e:st[n]? with
 |none=>rw[e]at h;cases h
 |some o=>
  rw[e]at h;cases o with
  |dct b bb=>cases h;exact⟨rfl,rfl⟩
  |_=>cases h
theorem aU.getDc{n:Nat}{R:Bool×List (D×D)->aR->List af->Hp->Prop}(h:aU K ρ H (MM.getDc n st) R)(s:SR K ρ H st):∃b c,st[n]?=some (.dct b c)/\R (b,c) st ρ H:=by
 cases e:MM.getDc n st with
 |ok xs s'=>
  obtain⟨rfl,q⟩:=V_ e;rw[e]at h;exact⟨xs.1,xs.2,q,h ρ H Ex.refl s⟩
 |exc _ _=>rw[e]at h;exact h.elim
 |bad=>rw[e]at h;exact h.elim
theorem Ri{b:Bool}{J:List (D×D)}{k d:D}{y:V}{u:ac}{Q:ac->ah->Prop}{E:ac->ah->Prop}{A:bn}(hu:A.units+2 < dM)(I:Inv X ao σ H s)(g:p_ X.K ρ H a (.dct b J))(rk:dg X.K ρ H y k)(hk:sB b k=true)(hl:t9 J k=some d)(Y:RelV y u)
  (h:∀v G s',Inv X ao σ H s'->dg X.K ρ H v d->RelV v G->Q G s'):aA (aP X.prog X.w) A (mQ (.ref a) u) Q E s:=by
 cases b with
 |false=>
  obtain⟨es,e,r⟩:=g;obtain⟨k,rfl⟩:=JM hk;cases Kz rk;have q:=KR.val r k;rw[hl]at q;obtain⟨v,U,L⟩:=q.some_of;exact Wm (by ext) I (by have:=uj.k (k:=k) e;rw[U]at this;exact this) Y λG s' I' C=>h v G s' I' L C
 |true=>
  obtain⟨es,e,r⟩:=g;obtain⟨k,rfl⟩:=Gz hk;have q:=NR.val r k;rw[hl]at q;obtain⟨v,U,L⟩:=q.some_of;obtain⟨_,hd,xs,rx,dd,de⟩:=Es I e r;obtain⟨c,e2,e3,hc⟩:=FW I rk Y;subst e3;obtain⟨G,hw,C⟩:=nh.some_of (v:=v) (o:=(lX xs k).map (·.2)) (by rw[<- U];exact NX.val rx k);obtain⟨p,hp,O⟩:=dF.mp hw;refine A5 (knd:=De X) (show A.in1.units+1 < dM from hu) hc dd hp ?_;rw[O];exact h v G _ (I.tok _) L C
theorem XD{b:Bool}{o:List (D×D)}{k:D}{y:V}{u:ac}{Q:ac->ah->Prop}{E:ac->ah->Prop}{A:bn}(hu:A.units+2 < dM)(I:Inv X ao σ H s)(g:p_ X.K ρ H a (.dct b o))(C:dg X.K ρ H y k)(G:sB b k=true)(v:RelV y u)
  (h:∀s',Inv X ao σ H s'->Q (.bool (t9 o k).isSome) s'):aA (aP X.prog X.w) A (bG .In u (.ref a)) Q E s:=by
 cases b with
 |false=>
  obtain⟨es,e,r⟩:=g;obtain⟨k,rfl⟩:=JM G;cases Kz C;rw[<- (KR.val r k).isSome_eq]at h;exact G9 (by ext) I (uj.k (k:=k) e) v h
 |true=>
  obtain⟨es,e,r⟩:=g;obtain⟨k,rfl⟩:=Gz G;rw[<- (NR.val r k).isSome_eq]at h;obtain⟨_,hd,xs,J,U,de⟩:=Es I e r;obtain⟨c,Y,O,L⟩:=FW I C v;subst O;refine wpAny_in_heap (knd:=De X) (show A.in1.units+1 < dM from hu) L hd U ?_;have q:=(NX.val J k).isSome_eq;rw[nP]at q;rw[<- q];exact h _ (I.tok _)
theorem Xl{n:Nat}{b:Bool}{C:List (D×D)}{k d:D}{y v:V}{u r':ac}{Q:Unit->ah->Prop}{E:ac->ah->Prop}{A:bn}(hu:A.units+2 < dM)(I:Inv X ao σ H s)(L:SR X.K ρ H st)(U:ρ[n]?=some a)(hn:st[n]?=some (.dct b C))
  (O:dg X.K ρ H y k) (hk:sB b k=true) (hl:C.length < sizeLine) (rv:dg X.K ρ H v d) (ry:RelV y u) (rr:RelV v r')
  (h:∀H' s',Inv X ao σ H' s'->SR X.K ρ H' (st.set n (.dct b (v7 C k d)))->Ex ρ H ρ H'->Q () s'):aA (aP X.prog X.w) A (qd (.ref a) u r') Q E s:=by
 have G:=(am.mp hn).1;have g:=L.ob n a _ U hn;cases b with
 |false=>
  obtain⟨es,e,r⟩:=g;obtain⟨k,rfl⟩:=JM hk;cases Kz O;have w:=L.putO (o':=.dct false (v7 C (oP k) d)) (u':=.dK (L2.nv es k v)) G U e (by show (1:Nat)≠3;decide) rfl ⟨_,i5,(KR.put r k rv).up ?_⟩
  ·exact Wb (by ext) I (wU.k (k:=k) e (by rw[KR.length r];exact hl)) ry rr λs' c=>h _ s' c w.1 w.2
  ·refine⟨⟨[],by simp⟩,λc o no q=>?_,λc o q=>?_⟩
   ·rw[gm λz=>by subst z;rw[e]at q;cases q;cases no];exact q
   ·by_cases z:c=a
    ·subst z;rw[e]at q;cases q;exact⟨_,i5,rfl⟩
    ·exact⟨o,by rw[gm z];exact q,rfl⟩
 |true=>
  obtain⟨es,e,r⟩:=g;obtain⟨k,rfl⟩:=Gz hk;obtain⟨_,hd,xs,rx,dd,de⟩:=Es I e r;obtain⟨c,e2,e3,hc⟩:=FW I O ry;subst e2 e3;have w:=L.putO (o':=.dct true (v7 C (sf k) d)) (u':=u7 a (putN es k c v)) G U e (by show (2:Nat)≠3;decide) rfl ⟨_,i5,(NR.put r k c O rv).up ?_⟩
  ·have hz : xs.length <= sizeLine := by rw[<- e8 rx,NR.length r];ext
   refine W9 (knd:=De X) (show A.in1.units+1 < dM from hu) hc dd de hz λh' J Y g=>h _ _ ?_ w.1 w.2;have u:∃q,h'.get? a=some q:=by obtain ⟨q,_,_,o,_⟩:=J;exact ⟨q,o⟩
   refine Kp I (by rw[e];exact eN) g u (Tx ?_ hd (NX.put rx k c rr) J Y);have:=Su es k c v;rw[NR.length r]at this;ext
  ·refine⟨⟨[],by simp⟩,λc o no q=>?_,λc o q=>?_⟩
   ·rw[gm λz=>by subst z;rw[e]at q;cases q;cases no];exact q
   ·by_cases z:c=a
    ·subst z;rw[e]at q;cases q;exact⟨_,i5,rfl⟩
    ·exact⟨o,by rw[gm z];exact q,rfl⟩
end
noncomputable abbrev w6:ac->ah->Prop:=λ_ _=>False
noncomputable def yF(g:List Expr)(env:Env):Sem Bool:=forIn g true λc r=>if r=true then do let ok <- isTrue c env (eval c env);pure (iz ok) else pure (iz r)
section
variable{prog:Program}{w:bq}{A:bn}{R:Result->ah->Prop}{s:ah}
theorem WU{o c iter:Expr}{g:List Expr}{scope:dD}{pos:Pos}{u q:ac}{env:Env}(I:Nat->ah->Prop)
  (turn:∀n s,I n s->aA (aP prog w) A (vD u) (λr s₁=>match r with
   |none=>R (.ok .next) s₁
   |some v => aA (aP prog w) A (mW c u v) (λ_ s₁' => aA (aP prog w) A (mK c env v) (λ_ s₂ =>
     aA (aP prog w) A (yF g env) (λok s₃=>
      if ok=true then aA (aP prog w) A (eval o env) (λx s₄=>
       aA (aP prog w) A (call (.builtin "list.append") [q,x]) (λ_ s₅=>∃m,m < n/\I m s₅) w6 s₄) w6 s₃
      else ∃m,m < n/\I m s₃) w6 s₂) w6 s₁') w6 s₁) w6 s)
  (n:Nat) (h:I n s):mM (aP prog w) A (.compLoop (.ListComp o [⟨c,iter,g,0⟩] scope pos) 0 u q env) R s:=by
 refine codeAny_loop rfl I (λn s C=>?_) n h
 show aA _ A ((compTurn (.ListComp o [⟨c,iter,g,0⟩] scope pos) 0 u q env).onRaise (λx=>do EW x env;theTreesLotGoes x)) _ _ s;refine wpAny_noted ?_;rw[compTurn_list];refine aa (i8 (aa (bS (turn n s C) (λr s₁ h₁=>?_) λ_ _ h'=>h'.elim)));cases r with
 |none=>exact ai h₁
 |some v=>
  refine aa (bS h₁ (λ_ s₁' h₁'=>?_) λ_ _ h'=>h'.elim);refine aa (bS h₁' (λ_ s₂ h₂=>aa (bS h₂ (λok s₃ h₃=>?_) λ_ _ h'=>h'.elim)) λ_ _ h'=>h'.elim);cases ok with
  |false=>exact ai ⟨rfl,h₃⟩
  |true=>
   exact aa (aa (bS h₃ (λx s₄ h₄=>aa (bS h₄ (λ_ s₅ h₅=>ai (ai ⟨rfl,h₅⟩)) λ_ _ h'=>h'.elim)) λ_ _ h'=>h'.elim))
end
noncomputable def iT:List (Str×eK)->List (Str×af)->List (Str×af)->List (Str×af)
 |[],_,acc=>acc
 | (n,k)::r,cells,acc=>iT r cells (if k == .free then (match cells.lookup n with|some c=>(n,c)::acc|none=>acc) else acc)
theorem Jt{env:Env}: ∀(names:List (Str×eK))(acc:List (Str×af)),(∀x,(x,bM)∈names->∃c,env.cells.lookup x=some c) ->
  (forIn names acc λ(x:Str×eK)r=>if (x.2 == bM)=true then (do let a <- cellOf env x.1;pure (iz ((x.1,a)::r)):Sem _) else pure (iz r))=(pure (iT names env.cells acc):Sem _)
 |[],acc,_=>rfl
 | (n,k)::r,acc,h=>by
  rw[cM];by_cases o:(k == bM)=true
  ·have e:k=.free:=by simpa using o
   subst e;obtain⟨c,u⟩:=h n bQ;have q:cellOf env n=pure c:=by unfold cellOf;rw[u]
   simp only[beq_self_eq_true,if_true,q];unfold iT;simp only[beq_self_eq_true,if_true,u];exact Jt r ((n,c)::acc) λx g=>h x (aT _ g)
  ·simp only[o,if_false];unfold iT;simp only[o,if_false];exact Jt r acc λx g=>h x (aT _ g)
theorem Wn{scope:dD}{env:Env}(h:∀x,(x,bM)∈scope.names->∃c,env.cells.lookup x=some c):A9 scope env=pure (iT scope.names env.cells []):=by have q:=Jt (env:=env) scope.names [] h;simp only[A9];exact bH (λm=>m >>= λcs=>pure cs) q
theorem rJ{α:Type}{x y:Str}{v:α}{r:List (Str × α)}(h:x≠y):tM x ((y,v)::r)=r.lookup x:=by rw[pd];have:(x == y)=false:=beq_eq_false_iff_ne.mpr h;rw[this]
theorem lookup_cons_self{α:Type}{x:Str}{v:α}{r:List (Str × α)}:tM x ((x,v)::r)=some v:=by rw[pd,beq_self_eq_true]
theorem tB{cells:List (Str×af)}{x:Str}{c:af}:∀(names:List (Str×eK))(acc:List (Str×af)),(iT names cells acc).lookup x=some c->cells.lookup x=some c\/acc.lookup x=some c
 |[],acc,h=>.inr h
 | (n,k)::r,acc,h=>by
  unfold iT at h;rcases tB r _ h with q|q
  ·exact .inl q
  ·split at q
   ·split at q
    ·rename_i u o;by_cases g:x=n
     ·subst g;rw[lookup_cons_self]at q;cases q;exact .inl o
     ·rw[rJ g]at q;exact .inr q
    ·exact .inr q
   ·exact .inr q
theorem Cv{cells:List (Str×af)}{x:Str}{c:af}(o:cells.lookup x=some c):∀(names:List (Str×eK))(acc:List (Str×af)),((x,bM)∈names\/acc.lookup x=some c)->(∀d,acc.lookup x=some d->d=c)->(iT names cells acc).lookup x=some c
 |[],acc,h,_=>by
  rcases h with h|h
  ·cases h
  ·exact h
 | (n,k)::r,acc,h,ha=>by
  unfold iT;by_cases q:x=n
  ·subst q;by_cases u:(k == bM)=true
   ·rw[aG u,o];exact Cv o r _ (.inr lookup_cons_self) λd hd=>by rw[lookup_cons_self]at hd;cases hd;rfl
   ·rw[az u];refine Cv o r _ ?_ ha;rcases h with h|h
    ·rcases aF.mp h with e|e
     ·cases e;exact bp rfl u
     ·exact .inl e
    ·exact .inr h
  ·have step : ∀g, g.lookup x = acc.lookup x -> (iT r cells g).lookup x = some c := λg e => by
     refine Cv o r g ?_ (by rw[e];exact ha);rcases h with h|h
     ·rcases aF.mp h with z|z
      ·cases z;exact bp rfl q
      ·exact .inl z
     ·exact .inr (by rw[e];exact h)
   refine step _ ?_;split
   ·split
    ·exact rJ q
    ·rfl
   ·rfl
theorem iM{x:Str}{c:af}:∀(names:List (Str×eK))(n:Nat)(acc:List (Str×af)),(dj n names acc).lookup x=some c->n<=c\/acc.lookup x=some c
 |[],_,_,h=>.inr h
 | (y,k)::r,n,acc,h=>by
  unfold dj at h;split at h
  ·rcases iM r (n+1) _ h with q|q
   ·exact .inl (by ext)
   ·by_cases g:x=y
    ·subst g;rw[lookup_cons_self]at q;cases q;exact .inl (ax _)
    ·rw[rJ g]at q;exact .inr q
  ·exact iM r n acc h
theorem Gq: ∀(names:List (Str×eK))(n:Nat)(acc:List (Str×af)),(∀x y c,acc.lookup x=some c->acc.lookup y=some c->x=y)->(∀x c,acc.lookup x=some c->c < n) ->
  ∀x y c,(dj n names acc).lookup x=some c->(dj n names acc).lookup y=some c->x=y
 |[],_,_,hi,_=>hi
 | (z,k)::r,n,acc,hi,hb=>by
  unfold dj;split
  ·refine Gq r (n+1) _ (λx y c u g=>?_) (λx c h=>?_)
   ·by_cases q:x=z
    ·subst q;rw[lookup_cons_self]at u;cases u;by_cases o:y=x
     ·exact o.symm
     ·rw[rJ o]at g;exact bp (hb y _ g) (cY _)
    ·rw[rJ q]at u;by_cases o:y=z
     ·subst o;rw[lookup_cons_self]at g;cases g;exact bp (hb x _ u) (cY _)
     ·rw[rJ o]at g;exact hi x y c u g
   ·by_cases q:x=z
    ·subst q;rw[lookup_cons_self]at h;cases h;exact xH _
    ·rw[rJ q]at h;exact kM (hb x c h)
  ·exact Gq r n acc hi hb
theorem iV{x:Str}{c:af}:∀(names:List (Str×eK))(h:bh)(acc:List (Str×af)),(dj h.objs.size names acc).lookup x=some c->acc.lookup x=some c\/((uL h names).IsCell c none/\h.objs.size<=c)
 |[],_,_,q=>.inl q
 | (y,k)::r,h,acc,q=>by
  unfold dj at q;unfold uL;split at q
  ·rename_i g;rw[aG g];rw[<- dq h { cls:=.type "cell",data:=.cell none }]at q;rcases iV r _ _ q with z|z
   ·by_cases o:x=y
    ·subst o;rw[lookup_cons_self]at z;cases z;refine .inr ⟨?_,ax _⟩;refine⟨{ cls:=.type "cell",data:=.cell none },rX r _ _ _ (aK _ rfl),rfl⟩
    ·rw[rJ o]at z;exact .inl z
   ·refine .inr ⟨z.1,?_⟩;have:=z.2;rw[dq]at this;ext
  ·rename_i g;rw[az g];exact iV r h acc q
theorem GQ{x:Str}:∀(names:List (Str×eK))(n:Nat)(acc:List (Str×af)),(x,gq)∉names->(dj n names acc).lookup x=acc.lookup x
 |[],_,_,_=>rfl
 | (y,k)::r,n,acc,h=>by
  unfold dj;split
  ·rename_i g;have e:k=.cell:=by simpa using g
   subst e;have c:x≠y:=λz=>h (by rw[z];exact bQ);rw[GQ r (n+1) _ λz=>h (aT _ z),rJ c]
  ·exact GQ r n acc λz=>h (aT _ z)
theorem KZ{α β:Type}(f:Str->α->β)(x:Str):∀(l:List (Str × α)),(l.map λp=>(p.1,f p.1 p.2)).lookup x=(l.lookup x).map (f x)
 |[]=>rfl
 | (y,v)::r=>by
  by_cases c:x=y
  ·subst c;rw[aQ,lookup_cons_self,lookup_cons_self];rfl
  ·rw[aQ,rJ c,rJ c];exact KZ f x r
theorem Bq(scope:dD)(env:Env)(x:Str):
  (hU scope env).names.lookup x=(scope.names.lookup x).map λk=>if (k == bM&&env.scope.kind == .function&&env.kindOf x == some .cell)=true then .cell else k:=by
 have e:(hU scope env).names=scope.names.map λp=>(p.1,(λ(n:Str)k=>if (k == bM&&env.scope.kind == .function&&env.kindOf n == some .cell)=true then gq else k) p.1 p.2):=by show scope.names.map _=_;congr 1;funext p;obtain⟨n,k⟩:=p;dsimp only;split<;>rfl
 rw[e];exact KZ (λ(n:Str)k=>if (k == bM&&env.scope.kind == .function&&env.kindOf n == some .cell)=true then gq else k) x scope.names
theorem VX{M:xB}{A:bn}{E:ac->ah->Prop}{s:ah}{scope:dD}{globals:af}{g:List (Str×af)}{qual:Str}{env:Env}{Q:Env->ah->Prop}
  (h:Q { scope:=scope,locals:=s.heap.objs.size,globals:=globals,cells:=dj (s.heap.objs.size+1) scope.names g,qual:=qual,func:=none,code:=env.code,frame:=env.frame,builtins:=env.builtins }
   { s with heap:=uL (s.heap.push { cls:=.type "dict",data:=.dict #[] }) scope.names }):aA M A (newFunctionEnv scope globals g [] qual none .none (some env)) Q E s:=by
 simp only[newFunctionEnv,tL,if_true];refine aa (wpAny_alloc ?_);refine aa (wpAny_layCells _ (λname kind cells=>by cases c:kind == gq<;>simp[c]) _ _ _ _ ?_);rw[show ({ s with heap:=s.heap.push { cls:=.type "dict",data:=.dict #[] } }:ah).heap.objs.size=s.heap.objs.size+1 from dq ..];exact aa (ai (ai h))
def mV(X:Cx)(N:List Str)(scope:dD)(c:List af)(s:ah)(H:Hp):Cx where
 prog:=X.prog
 w:=X.w
 K:=X.K
 mg:=X.mg
 base:=X.base
 A:=X.A
 N:=N
 s₀:=s
 H₀:=H
 env:=compEnvC scope (dj (s.heap.objs.size+1) scope.names (iT scope.names X.env.cells [])) s.heap.objs.size X.env
 outer:=X.stack
 stack:=X.stack
 ex:=c
 fn:=λx=>decide (scope.names.lookup x=some .local\/scope.names.lookup x=some .cell)
 calm:=X.calm
 pn:=[]
 xe:=w6
structure fX(X:Cx)(scope:dD):Prop where
 kind:scope.kind=.function
 names:∀x∈scope.names,x.2=.local->scope.names.lookup x.1=some .local
 free:∀x,(x,bM)∈scope.names->X.env.kindOf x=some .cell\/X.env.kindOf x=some .free
 once:∀x,(x,bM)∈scope.names->(x,gq)∉scope.names
 own:∀x,(x,bM)∈scope.names->scope.names.lookup x≠some .local
noncomputable def wS(n:Nat)(ix:List Nat)(σ:St):St:=cL n none++ix.map λi=>(σ[i]?).join
structure ig(X:Cx)(scope:dD)(N:List Str)(n:Nat)(ix:List Nat):Prop where
 len:N.length=n+ix.length
 cap:∀(j i:Nat)(x:Str),ix[j]?=some i->N[n+j]?=some x->X.N[i]?=some x/\scope.names.lookup x=some .free
theorem rR{cells:List (Str×af)}{x:Str}{c:af}:∀(names:List (Str×eK))(acc:List (Str×af)),(iT names cells acc).lookup x=some c->(x,bM)∈names\/acc.lookup x=some c
 |[],acc,h=>.inr h
 | (n,k)::r,acc,h=>by
  unfold iT at h;rcases rR r _ h with q|q
  ·exact .inl (aT _ q)
  ·split at q
   ·rename_i o;have e:k=.free:=by simpa using o
    subst e;split at q
    ·by_cases g:x=n
     ·subst g;exact .inl bQ
     ·rw[rJ g]at q;exact .inr q
    ·exact .inr q
   ·exact .inr q
theorem WR{X:Cx}{scope:dD}{cells:List (Str×af)}{x:Str}{c:af}(h:(iT scope.names cells []).lookup x=some c)(g:scope.names.lookup x=some .local\/scope.names.lookup x=some .cell)(S:fX X scope):False:=by
 rcases rR _ _ h with q|q
 ·rcases g with z|z
  ·exact S.own x q z
  ·exact S.once x q (dH z)
 ·cases q
section
variable{X:Cx}{ao:List (af×Obj)}{σ:St}{H:Hp}{s:ah}{scope:dD}{N:List Str}{fp:List af}
theorem EH(I:Inv X ao σ H s){x:Str}{c:af}(h:(iT scope.names X.env.cells []).lookup x=some c):X.env.cells.lookup x=some c/\c < s.heap.objs.size/\(∃v,s.heap.IsCell c v)/\H c=none:=by
 rcases tB _ _ h with q|q
 ·obtain⟨v,z⟩:=I.cell x c q;exact⟨q,z.lt,⟨v,z⟩,I.freeC x c q⟩
 ·cases q
theorem Ra(I:Inv X ao σ H s)(S:fX X scope)(u:∀b∈fp,oO X ao H b)(E:∀b∈fp,b < s.heap.objs.size):(mV X N scope fp s H).Ok:=by
 have inj:∀x y c,(dj (s.heap.objs.size+1) scope.names (iT scope.names X.env.cells [])).lookup x=some c->(dj (s.heap.objs.size+1) scope.names (iT scope.names X.env.cells [])).lookup y=some c->x=y:=
  Gq scope.names _ _ (λx y c h1 h2=>I.ok.inj x y c (EH I h1).1 (EH I h2).1) λx c h=>kM (EH I h).2.1
 refine⟨I.ok.mod,S.kind,I.ok.glob,I.ok.blt,ax _,inj,λx hx=>?_,λx c hf G=>?_,I.ok.hd,I.ok.frames,.inl rfl,λb C=>?_,I.bs,bC I.ok.bsz I.sz,λb o e C=>?_,λb C z=>?_,I.stack,I.stkFree⟩
 ·have g:(hU scope X.env).names.lookup x=some .cell\/(hU scope X.env).names.lookup x=some .free:=hx;rw[Bq]at g;cases e:scope.names.lookup x with
  |none=>rw[e]at g;rcases g with z|z<;>cases z
  |some k=>
   refine qF.mp (kQ scope.names _ _ ?_);cases k with
   |cell=>exact .inl e
   |free=>
    have Y:=dH e;obtain⟨c,G⟩:=I.ok.has x (S.free x Y);exact .inr (by rw[Cv G scope.names [] (.inl Y) λd hd=>by cases hd];rfl)
   |_=>
    rw[e]at g;rcases g with z|z<;>(simp at z)
 ·have v:(dj (s.heap.objs.size+1) scope.names (iT scope.names X.env.cells [])).lookup x=some c:=G;rcases iM _ _ _ v with q|q
  ·exact Nat.le_of_succ_le q
  ·exfalso
   have J:scope.names.lookup x=some .local\/scope.names.lookup x=some .cell:=of_decide_eq_true hf;exact WR q J S
 ·obtain⟨f0,U,Q,O,L,f5⟩:=u b C;refine⟨bY (E b C),λx c G z=>?_⟩;have v:(dj (s.heap.objs.size+1) scope.names (iT scope.names X.env.cells [])).lookup x=some c:=G;rcases iM _ _ _ v with q|q
  ·rw[z]at q;exact bp (bf (kM (E b C)) q) (cY _)
  ·exact L x c (EH I q).1 z
 ·obtain⟨f0,U,Q,O,L,f5⟩:=u b C;rcases O with z|z
  ·exact I.ok.noex b o e z
  ·exact bp (bf (bf (aJ e) I.ok.bsz) z) (cY _)
 ·obtain⟨f0,U,Q,O,L,f5⟩:=u b C;rcases aF.mp (I.stkSub b z) with q|q
  ·exact U q
  ·exact Q q
noncomputable abbrev py(h:bh)(scope:dD):bh:=uL (h.push { cls:=.type "dict",data:=.dict #[] }) scope.names
theorem LD(h:bh)(scope:dD):∀b o,h.get? b=some o->(py h scope).get? b=some o:=λb o e=>rX _ _ b o (aq _ e)
theorem Sg{n:Nat}{ix:List Nat}(I:Inv X ao σ H s)(S:fX X scope)(T:ig X scope N n ix)(Q:∀b∈fp,oO X ao H b)(O:∀b∈fp,b < s.heap.objs.size):
  Inv (mV X N scope fp s H) [] (wS n ix σ) H { s with heap:=py s.heap scope }:=by
 have kp:=LD s.heap scope;have J:(py s.heap scope).Ns s.heap.objs.size λ_=>none:=(bh.Ns.new s.heap (.type "dict")).keeps (rX _ _);have cells : ∀x c, (dj (s.heap.objs.size+1) scope.names (iT scope.names X.env.cells [])).lookup x = some c ->
   (∃v,(py s.heap scope).IsCell c v)/\H c=none:=λx c h=>by
  have h':(dj (s.heap.push { cls:=.type "dict",data:=.dict #[] }).objs.size scope.names (iT scope.names X.env.cells [])).lookup x=some c:=by rw[dq];exact h
  rcases iV _ _ _ h' with q|⟨q,z⟩
  ·obtain⟨_,_,⟨v,c⟩,hn⟩:=EH I q;exact⟨⟨v,c.keeps kp⟩,hn⟩
  ·refine⟨⟨none,q⟩,I.hok.fresh ?_⟩;rw[dq]at z;ext
 refine⟨Ra I S Q O,rfl,I.bare,Un.kept kp,⟨_,J,λi x v h1 h2 h3=>?_⟩,λx c h=>(cells x c h).1,I.hok.fresh (ax _),λx c h=>(cells x c h).2,λp hp=>bp (show p∈([]:List (af×Obj)) from hp) (by simp),I.hok.kept kp,?_⟩
 ·have Y:N[i]?=some x:=h1;have g:(cL n none++ix.map λi=>(σ[i]?).join)[i]?=some (some v):=h2;have hi:n<=i:=pO λz=>by rw[aL (by simpa using z),gZ]at g;split at g<;>cases g
  rw[a_ (by simpa using hi),fR,aD]at g;cases e:ix[i-n]? with
  |none=>rw[e]at g;cases g
  |some k=>
   rw[e]at g;have E:(σ[k]?).join=some v:=bw g;have hk:σ[k]?=some (some v):=by
    cases q:σ[k]? with
    |none=>rw[q]at E;cases E
    |some o=>rw[q]at E;exact bH some E
   obtain⟨hN,C⟩:=T.cap (i-n) k x e (by rw[show n+(i-n)=i by ext];exact Y);have L:=dH C;have h:=S.free x L;obtain⟨m,hn,Q⟩:=I.loc;obtain⟨u,J,O⟩:=Q k x v hN hk (by
    rcases h with z|z
    ·exact .inr (.inl z)
    ·exact .inr (.inr z))
   have G:∃c,X.env.cells.lookup x=some c/\s.heap.IsCell c (some u):=by
    rcases O with ⟨z,_⟩|⟨_,c,U,q⟩
    ·rcases h with y|y<;>(rw[y]at z;cases z)
    ·exact⟨c,U,q⟩
   obtain⟨c,U,q⟩:=G;refine⟨u,J,.inr ⟨?_,c,?_,q.keeps kp⟩⟩
   ·show (hU scope X.env).names.lookup x=some .cell\/(hU scope X.env).names.lookup x=some .free;rw[Bq,C,iJ];by_cases H:(bM == bM&&X.env.scope.kind == .function&&X.env.kindOf x == some .cell)=true
    ·rw[aG H];exact .inl rfl
    ·rw[az H];exact .inr rfl
   ·show (dj (s.heap.objs.size+1) scope.names (iT scope.names X.env.cells [])).lookup x=some c;rw[GQ _ _ _ (S.once x L)];exact Cv U scope.names [] (.inl L) λd hd=>by cases hd
 ·show (cL n none++ix.map λi=>(σ[i]?).join).length=N.length;rw[aV,fR,ae,T.len]
def tF(E:TI)(n:Nat)(ix:List Nat)(g:TG)(G:TT)(I:TE):TE:=λσ H Q=>E σ H λJ C=>∀l,C l=none->∃W:Nat->Nat->St->Hp->Prop,(∃m,W 0 m (wS n ix σ) (eO C l (.lst []))) /\
 ∀i m σ' h,W i m σ' h->(J.stop i h/\Q (.ref l) h)\/(J.go i h/\∀x u,J.yld i h x u->g x σ' u λσ2 L=>G σ2 L λb q=>
  if b=true then I σ2 q λv o=>∃ys,o l=some (.lst ys)/\ys.length < sizeLine/\∃c,c < m/\W (i+1) c σ2 (eO o l (.lst (ys++[v]))) else ∃c,c < m/\W (i+1) c σ2 q)
def t6(X:Cx)(c:List Expr)(g:TT):Prop:=
 ∀(ao:List (af×Obj))(s:ah)(σ:St)(H:Hp)(Q:Bool->Hp->Prop),Inv X ao σ H s->g σ H Q->aA (aP X.prog X.w) X.A (yF c X.env) (TP X ao σ Q) X.xe s
theorem RD:t6 X [] (λ_ H Q=>Q true H):=λao s σ H Q I h=>wpAny_tests_nil ⟨H,I,h⟩
theorem WK{c:Expr}{g:TT}(h:PT X c g):t6 X [c] g:=λao s σ H Q I q=>wpAny_tests_one (h ao s σ H Q I q)
structure tx(X:Cx)(ao:List (af×Obj))(C:af)(H:Hp)(s:ah):Prop where
 ns:∃m,s.heap.Ns C m
 free:H C=none
 loc:C≠X.env.locals
 cell:∀x c,X.env.cells.lookup x=some c->c≠C
 sz:X.s₀.heap.objs.size<=C
 pin:∀p∈X.pn++ao,p.1≠C
theorem tx.go{C:af}{h':bh}(c:tx X ao C H s)(I:Inv X ao σ H s)(g:eB C s.heap h'):Inv X ao σ H { s with heap:=h' }:=
 I.turned (t':=s.toks) (λb o h e=>(g.2 b h).trans e) c.free c.loc (.inr c.sz) c.cell c.pin
theorem NC{elt E iter:Expr}{ifs:List Expr}{pos:Pos}{n:Nat}{ix:List Nat}{wi:TI}{g:TG}{tt:TT}{te:TE}{use:Option (ac->Sem Unit)}{Q:ac->ah->Prop}{QH:VK}
  (hc:X.calm=true) (S:fX X scope) (T:ig X scope N n ix) (hi:PI X E iter wi)
  (blk:∀(fp:List af)(s:ah)(H:Hp),PG (mV X N scope fp s H) E g/\t6 (mV X N scope fp s H) ifs tt/\PE (mV X N scope fp s H) elt te)
  (hs:∀x,dQ iter X.env x=pure x) (I:Inv X ao σ H s) (h:tF wi n ix g tt te σ H QH)
  (fin:∀(l C:af)(L:Hp)(s':ah),Inv X ao σ L s'->QH (.ref l) L->tx X ao C L s'->compPost (aP X.prog X.w) X.A X.xe use Q (.ref l) C (.ok .next) s'):
  aA (aP X.prog X.w) X.A (comprehension (.ListComp elt [⟨E,iter,ifs,0⟩] scope pos) scope X.env (firstIterPos [⟨E,iter,ifs,0⟩] pos) (newList []) false (eval iter X.env) use) Q X.xe s:=by
 have hclos:A9 scope X.env=pure (iT scope.names X.env.cells []):=Wn λx hx=>I.ok.has x (S.free x hx);refine wpAny_comprehension_free rfl hs hclos S.kind S.names ?_;refine fE (hi ao s σ H _ I h) λv s1 h1=>fE h1 λitv Y h2=>?_;obtain⟨it,fp,tn,J,H2,rfl,I2,TT,st2,f2,dA⟩:=h2;refine eE (hd:=by size_fits) ?_;have hf2:H2 Y.heap.objs.size=none:=I2.hok.fresh (ax _);obtain⟨W,⟨m0,w0⟩,turn⟩:=dA _ hf2;have fl:∀b∈fp,b < Y.heap.objs.size:=λb G=>by obtain⟨o,e,_⟩:=TT.obj _ _ st2 b G;exact aJ e
 have f3:∀b∈fp,oO X ao (eO H2 Y.heap.objs.size (.lst [])) b:=λb G=>by obtain⟨f0,fr⟩:=f2 b G;refine⟨?_,fr⟩;rw[gm (bY (fl b G))];exact f0
 have I3:Inv X ao σ (eO H2 Y.heap.objs.size (.lst [])) { Y with heap:=Y.heap.push { cls:=.type "list",dict:=none,data:=.seq ([]:List ac).toArray } }:=
  I2.laid (t':=Y.toks) (λb o e=>aq _ e) (ax _) ⟨bL _,[],0,.nil,aK _ rfl⟩
 have tn3:tn 0 (Y.heap.push { cls:=.type "list",dict:=none,data:=.seq ([]:List ac).toArray }):=TT.keep _ _ _ st2 λb G o e=>aq _ e;have fl3:∀b∈fp,b < (Y.heap.push { cls:=.type "list",dict:=none,data:=.seq ([]:List ac).toArray }).objs.size:=λb G=>by rw[dq];exact kM (fl b G)
 generalize Y.heap.objs.size=l at *;generalize hs3:({ Y with heap:=Y.heap.push { cls:=.type "list",dict:=none,data:=.seq ([]:List ac).toArray } }:ah)=O at *;have e3:Y.heap.push { cls:=.type "list",dict:=none,data:=.seq ([]:List ac).toArray }=O.heap:=by rw[<- hs3]
 rw[e3]at tn3 fl3;generalize eO H2 l (.lst [])=U at *;refine VX ?_;have I4:=Sg (N:=N) (n:=n) (ix:=ix) I3 S T f3 fl3;obtain⟨bg,bt,be⟩:=blk fp O U;have tn4:tn 0 (py O.heap scope):=TT.keep _ _ _ tn3 λb G o e=>LD _ _ _ _ e;have fr4:∀b∈fp,U b=none:=λb G=>(f3 b G).1
 show mM (aP X.prog X.w) X.A (.compStart (.ListComp elt [⟨E,iter,ifs,0⟩] scope pos) 0 (.ref it) (.ref l) (mV X N scope fp O U).env) (compPost (aP X.prog X.w) X.A X.xe use Q (.ref l) O.heap.objs.size) { O with heap:=py O.heap scope };have fpx:∀{σ':St}{L:Hp}{s':ah},Inv (mV X N scope fp O U) [] σ' L s'->(∀b∈fp,L b=none)->∀b∈fp,oO (mV X N scope fp O U) [] L b:=λI' hn b G=>by have q:=I'.ok.exf b G;exact⟨hn b G,q.1,I'.ok.exfs b G,.inl G,q.2,λp hp=>bp (show p∈([]:List (af×Obj)) from hp) (by simp)⟩
 have hc':(mV X N scope fp O U).calm=true:=hc;have loop:mM (aP X.prog X.w) X.A (.compLoop (.ListComp elt [⟨E,iter,ifs,0⟩] scope pos) 0 (.ref it) (.ref l) (mV X N scope fp O U).env) (compPost (aP X.prog X.w) X.A X.xe use Q (.ref l) O.heap.objs.size) { O with heap:=py O.heap scope }:=by
  refine WU (λk s'=>∃i σ' L,Inv (mV X N scope fp O U) [] σ' L s'/\tn i s'.heap/\(∀b∈fp,L b=none)/\W i k σ' L) ?_ m0 ⟨0,_,U,I4,tn4,fr4,w0⟩
  rintro k s5 ⟨i,σ5,H5,I5,tn5,fr5,w5⟩
  rcases turn i k σ5 H5 w5 with ⟨stop,q⟩|⟨go,step⟩
  ·refine fE (TT.done (mV X N scope fp O U) rfl rfl rfl hc' i [] s5 σ5 H5 w6 I5 (fpx I5 fr5) tn5 stop) λr s6 h=>?_;obtain⟨hr,g⟩:=h;subst hr;have E:Inv X ao σ H5 s6:=I3.call' g.os g.base g.hok g.bare λb G=>by obtain⟨H,g1,g2,C,u,o⟩:=f3 b G;exact⟨C,g1,u,o⟩
   obtain⟨m,hn,_⟩:=g.loc;refine fin l O.heap.objs.size H5 s6 E q ⟨⟨m,hn⟩,g.free,gw I3.lt,λx c e=>?_,I3.sz,λp hp=>?_⟩
   ·obtain⟨v,z⟩:=I3.cell x c e;exact bY z.lt
   ·exact bY (aJ (I3.pin p hp).1)
  ·refine fE (TT.item (mV X N scope fp O U) rfl rfl rfl hc' i [] s5 σ5 H5 w6 I5 (fpx I5 fr5) tn5 go) λr s6 I=>?_;obtain⟨u,hr,h6⟩:=I;subst hr;refine fE h6 λ_ s7 H=>?_;obtain⟨x,H7,I7,r7,y7,c,fr7⟩:=H;have I7':=I7.pinned (fpx I7 fr7) (TT.obj _ _ c);refine fE (bg _ s7 σ5 H7 x u _ I7' r7 (step x H7 y7)) λ_ s8 E=>?_;obtain⟨σ8,H8,I8,q8⟩:=E;refine fE (bt _ s8 σ8 H8 _ I8 q8) λok s9 C=>?_;obtain⟨H9,I9,q9⟩:=C;have again : ∀{s' : ah}{L : Hp}, Inv (mV X N scope fp O U) ([] ++ pE fp s7.heap) σ8 L s' -> (∃Q, Q < k /\ W (i+1) Q σ8 L) ->
     ∃m,m < k/\∃i σ' L,Inv (mV X N scope fp O U) [] σ' L s'/\tn i s'.heap/\(∀b∈fp,L b=none)/\W i m σ' L:=λ{s' L}I' q=>by
    obtain⟨Q,hm,w'⟩:=q;refine⟨Q,hm,i+1,σ8,L,I'.unpinned,TT.keep _ _ _ c λb G o e=>(I'.pin (b,o) (cc _ (cc _ (Fu G e)))).1,λb G=>?_,w'⟩;obtain⟨o,e,d⟩:=TT.obj _ _ c b G;exact (I'.pin (b,o) (cc _ (cc _ (Fu G e)))).2.1
   cases ok with
   |false=>exact again I9 q9
   |true=>
    refine fE (be _ s9 σ8 H9 _ I9 q9) λxv Y h=>?_;obtain⟨v,J,I10,r10,ys,hy,hz,q10⟩:=h;refine fE (OG (X:=mV X N scope fp O U) _ Y σ8 J (.ref l) [v] (.ref l) [xv] (λ_ L=>L=eO J l (.lst (ys++[v]))) I10 rfl (.cons r10 .nil) ⟨l,ys,v,rfl,rfl,hy,hz,rfl⟩) λ_ s11 g=>?_;obtain⟨_,H11,I11,_,e⟩:=g;subst e;exact again I11 q10
 exact codeAny_compStart_list loop (TT.self _ 0 _ _ _ tn4 loop)
theorem Q1{v o iter:Expr}{u:List Expr}{pos:Pos}{n:Nat}{ix:List Nat}{J:TI}{g:TG}{L:TT}{O:TE}
  (hc:X.calm=true) (S:fX X scope) (T:ig X scope N n ix) (hi:PI X o iter J)
  (G:∀(fp:List af)(s:ah)(H:Hp),PG (mV X N scope fp s H) o g/\t6 (mV X N scope fp s H) u L/\PE (mV X N scope fp s H) v O)
  (U:∀x,dQ iter X.env x=pure x:=by intro _;rfl):PE X (.ListComp v [⟨o,iter,u,0⟩] scope pos) (tF J n ix g L O):=by
 intro ao s σ H Q I h;rw[eval_ListComp];refine NC (use:=none) hc S T hi G U I h λl C H' s' I' q c=>?_;obtain⟨m,Y⟩:=c.ns;exact⟨m,Y,λh' E=>⟨.ref l,H',c.go I' E,rfl,q⟩⟩
theorem P8{G o iter:Expr}{E:List Expr}{pos u J:Pos}{n i:Nat}{ix:List Nat}{wi:TI}{g:TG}{tt:TT}{te:TE}{x:Str}
  (hN:X.N.Nodup) (Y:X.N[i]?=some x) (hx:L2.Loc X.env.scope x) (hf:X.fn x=true\/X.env.scope.names.lookup x=some .local)
  (hc:X.calm=true) (S:fX X scope) (T:ig X scope N n ix) (hi:PI X o iter wi)
  (blk:∀(fp:List af)(s:ah)(H:Hp),PG (mV X N scope fp s H) o g/\t6 (mV X N scope fp s H) E tt/\PE (mV X N scope fp s H) G te)
  (O:eD (.ListComp G [⟨o,iter,E,0⟩] scope pos) (some (.Name x u)) J.line X.env=pure true)
  (hs:∀x,dQ iter X.env x=pure x:=by intro _;rfl):PS X (.Assign [.Name x u] (.ListComp G [⟨o,iter,E,0⟩] scope pos) J) (wC (tF wi n ix g tt te) (rH i)):=by
 intro ao s σ H D I h;rw[exec_Assign_Name_used _ _ _ _ O];refine aa (i8 (aa ?_))
 show aA _ _ (comprehension (.ListComp G [⟨o,iter,E,0⟩] scope pos) scope X.env _ (newList []) false (eval iter X.env) (some (mK (.Name x u) X.env)) >>= λ_=>pure ()) _ _ s;refine aa (bS (NC (use:=some (mK (.Name x u) X.env)) (Q:=λ_ s'=>SP X ao D .next s') hc S T hi blk hs I h λl C H' s' I' q c=>?_) (λ_ s' hq=>ai (ai hq)) λ_ _ e=>e);obtain⟨m,hn⟩:=c.ns;refine BL (NG I' hN Y hx (v:=.ref l) rfl (λs2 I2 h1_=>?_) hf);obtain ⟨b,hb,hb2⟩:=h1_;have L:b≠C:=by
  rcases hb2 with z|z
  ·rw[z];exact c.loc.symm
  ·exact c.cell x b z
 refine⟨m,hn.sameBut hb L.symm,λh' U=>⟨_,H',?_,q⟩⟩;exact tx.go ⟨⟨m,hn.sameBut hb L.symm⟩,c.free,c.loc,c.cell,c.sz,c.pin⟩ I2 U
end
section
variable{X:Cx}{a b c e:Expr}{es:List Expr}{pos:Pos}{fa fb fc:CE}{ca cb:CA}{K:aj}{ρ:List af}{H:Hp}{st:aR}
theorem xW{K:aj}{f:Int->Int->M D}{x y:V}{H:Hp}{Q:VK}(h:nD K (r8 f) x y H Q):
  ∃(i j:Int)(ρ:List af)(st:aR),x=.int i/\y=.int j/\SR K ρ H st/\aU K ρ H (f i j st) (λr _ ρ' g=>∀v,dg K ρ' g v r->Q v g):=by
 obtain⟨ρ,st,d,e,o,u,q,p⟩:=h;rcases Af f d e with ⟨i,j,rfl,rfl⟩|C
 ·exact⟨i,j,ρ,st,u.inv,q.inv,o,p⟩
 ·rw[C]at p;exact p.elim
theorem QC:OpR X (eV .Mult) (nD X.K lR):=Rv.of λx y H Q h=>by obtain⟨i,j,ρ,st,rfl,rfl,g,p⟩:=xW h;exact⟨_,_,rfl,rfl,p.chk.1,p.chk.2.ret g _ (.int _)⟩
theorem Rl:OpR X (eV .FloorDiv) (nD X.K qr):=Pq.of λx y H Q h=>by obtain⟨i,j,ρ,st,rfl,rfl,g,p⟩:=xW h;exact⟨_,_,rfl,rfl,p.chk.1,p.chk.2.ret g _ (.int _)⟩
theorem UN:OpR X (eV .Mod) (nD X.K li):=U2.of λx y H Q h=>by obtain⟨i,j,ρ,st,rfl,rfl,g,p⟩:=xW h;exact⟨_,_,rfl,rfl,p.chk.1,p.chk.2.ret g _ (.int _)⟩
theorem Sh:OpR X (eV .Pow) (nD X.K uP):=Q9.of λx y H Q h=>by obtain⟨i,j,ρ,st,rfl,rfl,g,p⟩:=xW h;exact⟨_,_,rfl,rfl,p.chk.1,p.chk.2.ret g _ (.int _)⟩
theorem Lh:OpR X (bG .Lt) (nD X.K sT):=W8.of λx y H Q h=>by obtain⟨i,j,ρ,st,rfl,rfl,g,p⟩:=xW h;exact⟨_,_,rfl,rfl,p.ret g _ (.bl _)⟩
theorem FU:OpR X (bG .LtE) (nD X.K rG):=OS.of λx y H Q h=>by obtain⟨i,j,ρ,st,rfl,rfl,g,p⟩:=xW h;exact⟨_,_,rfl,rfl,p.ret g _ (.bl _)⟩
theorem RW:OpR X (bG .Gt) (nD X.K vy):=Ti.of λx y H Q h=>by obtain⟨i,j,ρ,st,rfl,rfl,g,p⟩:=xW h;exact⟨_,_,rfl,rfl,p.ret g _ (.bl _)⟩
theorem Ve:OpR X (bG .GtE) (nD X.K v6):=WI.of λx y H Q h=>by obtain⟨i,j,ρ,st,rfl,rfl,g,p⟩:=xW h;exact⟨_,_,rfl,rfl,p.ret g _ (.bl _)⟩
theorem Fw:SA X [] bc:=qp.of λσ H Q h=>h.el λρ l st o g p=>p.ret g [] .nil
theorem Kd(c:SE X e fa)(Y:SA X es ca)(U:starEach (e::es) X.env=(false,eval e X.env)::starEach es X.env:=by rfl):SA X (e::es) (ar fa ca):=
 (n8 c Y U).of λσ H Q h_=>h_.el λρ l st o E p=>⟨ρ,l,st,o,E,p.bnd.imp λd g ρ1 H1 u I O v J=>⟨ρ1,l,g,o.mono u,I,O.bnd.imp λds C ρ2 H2 q G L vs h=>L.ret G _ (.cons (J.mono q) h)⟩⟩
theorem RQ{k:Nat}(h:SA X es ca):SE X (.Tuple es k pos) (dO ca):=(LP h).of λσ H Q L=>L.el λρ l st I v p=>⟨ρ,l,st,I,v,p.bnd.imp λds u ρ1 Y O C G U g=>by obtain⟨J,E⟩:=G.chk;refine⟨by rw[g.length];exact J,λq o=>?_⟩;exact E ρ1 _ (Ex.new o) (C.new o) _ (.tup (i7.of i5) (g.mono (Ex.new o)))⟩
theorem UH(h:SA X es ca):SL X (.List es pos) (iE ca):=(UB h).of λσ H Q c=>c.el λρ l st O I p=>⟨ρ,l,st,O,I,p.bnd.imp λds G ρ1 H1 C v L E g=>by
 obtain⟨Y,J⟩:=L.chk;refine⟨by rw[g.length];exact Y,λq u=>?_⟩;have U:H q=none:=by
  cases z:H q with
  |none=>rfl
  |some o=>exact bp u (C.trk q o z)
 exact J ρ1 _ (Ex.new u) (v.new u) q E U (v.fresh u) i5 (g.mono (Ex.new u))⟩
theorem aU.bnd0{α β:Type}{m:M α}{f:α->M β}{R:β->aR->List af->Hp->Prop}(h:aU K ρ H (MM.bnd m f st) R):aU K ρ H (m st) λa g _ _=>aU K ρ H (f a g) R:=by
 unfold MM.bnd at h;cases e:m st with
 |ok a s'=>
  rw[e]at h;exact λρ' o y s=>h
 |exc _ _=>rw[e]at h;exact h
 |bad=>rw[e]at h;exact h
theorem Tj(h:SL X e ca):SE X e (eY ca):=h.of λσ H Q U=>U.el λρ l st L G p=>⟨ρ,l,st,L,G,p.bnd0.imp λds E ρ1 C o u I a Y O J v q=>by
 have x:Ex ρ H (ρ1++[a]) C:=by
  obtain⟨τ,e,f⟩:=o.pre;refine⟨⟨τ++[a],by rw[e,dL],λb g=>?_⟩,o.fix,o.oth,o.knd⟩;rcases br.mp g with g|g
  ·exact f b g
  ·rw[aE]at g;rw[g];exact O
 refine I (ρ1++[a]) C x (u.keep v J q) _ (.ref ⟨_,v,rfl⟩ ?_);rw[<- u.len];simp⟩
theorem _root_.L2.IxR.of{r G:R2}(h:IxR X r)(g:∀x y H Q,G x y H Q->r x y H Q):IxR X G:=λo C E s σ H x y v u Q I L J q O=>h o C E s σ H x y v u Q I L J (g x y H Q q) O
theorem aU.item{ds:List D}{i:Int}{R:D->aR->List af->Hp->Prop}(h:aU K ρ H (dz ds i st) R)(s:SR K ρ H st):∃k d,L2.oT ds.length i=some k/\ds[k]?=some d/\R d st ρ H:=by
 unfold dz at h;cases e:MM.oT ds.length i with
 |none=>rw[e]at h;exact h.elim
 |some k=>
  rw[e]at h;cases g:ds[k]? with
  |none=>dsimp only at h;rw[g]at h;exact h.elim
  |some d=>dsimp only at h;rw[g]at h;exact⟨k,d,e,g,h.ret s⟩
theorem E6{g:List V}{ds:List D}{i:Int}{k:Nat}{d:D}(r:bI K ρ H g ds)(q:L2.oT ds.length i=some k)(o:ds[k]?=some d):∃v,yA g i=some v/\dg K ρ H v d:=by obtain⟨v,e,h⟩:=r.get o;refine⟨v,?_,h⟩;unfold yA;rw[r.length,q];exact e
theorem aU.itemK{n:Nat}{k:D}{R:D->aR->List af->Hp->Prop}(h:aU K ρ H (MM.itemK n k st) R)(s:SR K ρ H st):∃b g d,st[n]?=some (.dct b g)/\sB b k=true/\t9 g k=some d/\R d st ρ H:=by
 obtain⟨b,g,e,u⟩:=aU.getDc (aU.bnd h) s;obtain⟨v,o⟩:=aU.chk u;cases q:t9 g k with
 |none=>dsimp only at o;rw[q]at o;exact o.elim
 |some d=>dsimp only at o;rw[q]at o;exact⟨b,g,d,e,v,q,o.ret s⟩
theorem p_.dictIs{X:Cx}{h:List (af×Obj)}{σ:St}{s:ah}{a:af}{b:Bool}{o:List (D×D)}(I:Inv X h σ H s)(g:p_ X.K ρ H a (.dct b o)):s.TypeIs (.ref a) "dict":=by
 cases b with
 |false=>
  obtain⟨es,e,r⟩:=g;obtain⟨_,_,u,_,q⟩:=K4 I.hok e;exact q.typeIs
 |true=>
  obtain⟨es,e,r⟩:=g;obtain⟨_,_,xs,_,q,_⟩:=Es I e r;exact q.typeIs
theorem Rg(hu:X.A.units+60 < dM):IxR X (λx y H Q=>∃(ρ:List af)(st:aR)(n:Nat)(a:af)(b:Bool)(o:List (D×D))(k d:D),x=.ref a/\SR X.K ρ H st/\ρ[n]?=some a/\st[n]?=some (.dct b o)/\dg X.K ρ H y k/\sB b k=true/\t9 o k=some d/\∀v,dg X.K ρ H v d->Q v H):=by intro C E J s σ H x y v u Q I U O h hs;obtain⟨ρ,st,n,a,b,o,k,d,ex,L,ha,hn,c,hk,hl,q⟩:=h;subst ex;cases U;have g:=L.ob n a _ ha hn;exact tail_any (p_.dictIs I g) PySem.F.slot_dict_getitem.lookup (Ri (by ext) I g c hk hl O λv w' s' I' Y G=>⟨v,H,I',G,q v Y⟩) hs
theorem Ph{x y:V}{d e:D}{Q:VK}(o:SR K ρ H st)(I:dg K ρ H x d)(U:dg K ρ H y e)(hd:∀n,d≠.dic n)(p:aU K ρ H (aY d e st) λr _ ρ' O=>∀v,dg K ρ' O v r->Q v O):LH K x y H Q:=by
 cases e with
 |int i=>
  obtain rfl:y=.int i:=U.inv;cases d with
  |dic _=>exact bp rfl (hd _)
  |tup ds=>
   obtain⟨_,_,rfl,h,r⟩:=I.inv;obtain⟨k,d,G,E,q⟩:=aU.item p o;obtain⟨v,C,u⟩:=E6 r G E;exact .inr (.inl ⟨_,_,i,v,rfl,rfl,h,C,q v u⟩)
  |lit ds=>
   obtain⟨_,_,rfl,h,r⟩:=I.inv;obtain⟨k,d,G,E,q⟩:=aU.item p o;obtain⟨v,C,u⟩:=E6 r G E;exact .inl ⟨_,_,i,v,rfl,rfl,h.seq,C,q v u⟩
  |ref n=>
   obtain⟨_,rfl,_,h⟩:=I.inv;obtain⟨xs,e,g⟩:=aU.getL (aU.bnd p) o;obtain⟨a,vs,L,Y,r⟩:=o.seq e;rw[h]at L;cases L;obtain⟨k,d,G,E,q⟩:=aU.item g o;obtain⟨v,C,u⟩:=E6 r G E;exact .inl ⟨_,_,i,v,rfl,rfl,ir.of Y,C,q v u⟩
  |str z=>
   obtain rfl:x=.str z:=I.inv;obtain⟨hz,g⟩:=aU.chk p;cases e:MM.oT z.length i with
   |none=>rw[e]at g;exact g.elim
   |some k=>
    rw[e]at g;cases J:z.cps.toList[k]? with
    |none=>dsimp only at g;rw[J]at g;exact g.elim
    |some c=>
     dsimp only at g;rw[J]at g;refine .inr (.inr ⟨z,i,c,rfl,rfl,hz,?_,g.ret o _ (.str _)⟩);unfold yA;rw[show z.cps.toList.length=z.length by simp[qW]]
     show (L2.oT z.length i).bind _=_;rw[show L2.oT z.length i=some k from e];exact J
  |_=>exact p.elim
 |_=>cases d<;>first|exact bp rfl (hd _)|exact p.elim
theorem Mk(hu:X.A.units+60 < dM):IxR X (nD X.K aY):=(XA.or (Rg hu)).of λx y H Q g=>by
 obtain⟨ρ,st,d,e,o,E,C,p⟩:=g;by_cases hd:∃n,d=.dic n
 ·obtain⟨n,rfl⟩:=hd;obtain⟨a,rfl,_,h⟩:=E.inv;have I:aU X.K ρ H (itemK n e st) λr _ ρ' G=>∀(v:V),dg X.K ρ' G v r->Q v G:=p;obtain⟨b,u,d,O,L,J,q⟩:=aU.itemK I o;exact .inr ⟨ρ,st,n,a,b,u,e,d,rfl,o,h,O,C,L,J,q⟩
 ·exact .inl (Ph o E C (λn z=>hd ⟨n,z⟩) p)
theorem UR(hu:X.A.units+60 < dM)(q:SE X a fa)(o:SE X b fb)(g:ng b):SE X (.Subscript a b pos) (c2 aY fa fb):=(JW (Mk hu) q o g).of (Fv λ_ _ _ _ h=>h)
theorem Ro(I:SL X a ca)(hb:SE X b fb)(hs:ng b):SE X (.Subscript a b pos) (lJ ca fb):=(JW MB I hb hs).of λσ H Q h_=>h_.el λρ l st G O p=>
 ⟨ρ,l,st,G,O,p.bnd.imp λds g ρ1 H1 J Y p1 a C I na hv h=>⟨ρ1,l,g,G.mono J,Y,p1.bnd.imp λe L ρ2 H2 o U E u ru=>by
  cases e with
  |int i=>
   cases (show u=.int i from ru.inv);obtain⟨k,d,h1,h2,q⟩:=aU.item E U;obtain⟨v,h3,c⟩:=E6 (h.mono o) h1 h2;exact⟨a,C,i,v,rfl,rfl,ir.of (o.lst a C na hv),h3,q v c⟩
  |_=>exact E.elim⟩⟩
theorem PZ{CX:sG}{k n:Nat}{f:af}{C:bN}{ps:List Str}{g:List D->M D}{x:Str}{p:Pos}(F:fV X.prog X.w X.K X.mg X.base CX k f C ps (lU X.K n g))(J:fo k X.A)(Y:Gl X x)(O:X.mg x=some (.ref f))
  (U:fm X.K (.ref f)=true) (hb:Binds X.K C ps []) (I:pC CX X E0) (ha:SA X (e::es) ca) (L:∀l st ds o,ca l st=.ok ds o->ds.length=n) (v:(x == ("__debug__":Str))=false:=by decide)
  (c:starEach (e::es) X.env=(false,eval e X.env)::starEach es X.env:=by rfl) (u:(backTo pos (starEach es X.env)).any (·.1)=false:=by rfl):SE X (.Call (.Name x p) (e::es) [] pos) (bv g ca):=
 (Je F J Y O U hb .nil I ha v c u).of λσ H Q h_=>h_.el λρ l st G E p=>⟨ρ,l,st,G,E,by
  have q:=aU.bnd p;cases h:ca l st with
  |bad=>rw[h]at q;exact q
  |exc _ _=>rw[h]at q;exact q
  |ok ds cw=>
   rw[h]at q;intro ρ1 H1 x1 s1 vs rvs;refine⟨by rw[cg,rvs.length];exact L l st ds cw h,ρ1,cw,ds,s1,by rw[cg];exact rvs,q ρ1 H1 x1 s1⟩⟩
variable{ta tb:CT}
theorem Qk{d:D}{v:V}{R:Bool->aR->List af->Hp->Prop}(p:aU K ρ H (wj d st) R)(o:SR K ρ H st)(u:dg K ρ H v d):∃k,AG K v H k/\R k st ρ H:=by
 cases u with
 |non=>exact⟨false,rfl,p.ret o⟩
 |bl b=>exact⟨b,rfl,p.ret o⟩
 |int i=>exact⟨_,rfl,p.ret o⟩
 |str x=>exact⟨_,⟨(aU.chk p).1,rfl⟩,(aU.chk p).2.ret o⟩
 |@tup a g ds h r=>
  refine⟨!g.isEmpty,.inr (.inl ⟨g,h,rfl⟩),?_⟩;have:g.isEmpty=ds.isEmpty:=by have:=r.length;cases g<;>cases ds<;>simp_all
  rw[this];exact p.ret o
 |@lit a g ds h r=>
  refine⟨!g.isEmpty,.inl ⟨g,h.seq,rfl⟩,?_⟩;have:g.isEmpty=ds.isEmpty:=by have:=r.length;cases g<;>cases ds<;>simp_all
  rw[this];exact p.ret o
 |ref _ h=>
  obtain⟨ds,e,C⟩:=aU.getL (aU.bnd p) o;obtain⟨a,g,q,E,r⟩:=o.seq e;rw[h]at q;cases q;refine⟨!g.isEmpty,.inl ⟨g,ir.of E,rfl⟩,?_⟩;have:g.isEmpty=ds.isEmpty:=by have:=r.length;cases g<;>cases ds<;>simp_all
  rw[this];exact C.ret o
 |_=>exact p.elim
theorem Jl(G:SE X a fa)(E:∀whole,isTrue a X.env whole=(do let v <- whole;qe a.pos;mL [v] (truthy v)):=by intro _;rfl):ST X a (j_ fa):=
 (SJ G E).of λσ H Q I=>I.el λρ l st C h p=>⟨ρ,l,st,C,h,p.bnd.imp λd g ρ1 L J o u v q=>Qk u o q⟩
theorem KP{op:lV}{g:D->D->M D}(I:OpR X (bG op) (nD X.K g))(O:SE X a fa)(L:SE X b fb)(J:fC op b=false):ST X (.Compare a [op] [b] pos) (bT (c2 g fa fb)):=
 (Tk I O L J).of λσ H Q U=>U.el λρ l st G u p=>Fv (X:=X) (λ_ _ _ _ h=>h) _ _ _ ⟨ρ,l,st,G,u,p.bnd.imp λd q ρ1 c Y C o v E=>by
  cases d with
  |bl k=>cases (show v=.bl k from E.inv);exact⟨k,rfl,o.ret C⟩
  |_=>exact o.elim⟩
theorem Ly(g:ST X a ta):PW X (.BoolOp .And [a] pos) (mG X.K ta):=WY g
theorem KN(g:ST X a ta):PW X (.BoolOp .Or [a] pos) (mG X.K ta):=Qo g
theorem _root_.L2.PW.of{e:Expr}{t t':TT}(h:PW X e t)(f:∀σ H Q,t' σ H Q->t σ H Q):PW X e t':=λwhole g s σ H Q I q=>h whole g s σ H Q I (f σ H Q q)
theorem Lm{dA:List Expr}(E:ST X a ta)(C:PW X (.BoolOp .And (b::dA) pos) (mG X.K tb)):PW X (.BoolOp .And (a::b::dA) pos) (mG X.K (kY ta tb)):=
 (VD E C).of λσ H Q G=>G.el λρ l st q v p=>⟨ρ,l,st,q,v,p.bnd.imp λc g ρ1 I u h o=>by
  cases c with
  |true=>exact⟨ρ1,l,g,q.mono u,h,o⟩
  |false=>exact o.ret h⟩
theorem Ny{dA:List Expr}(E:ST X a ta)(C:PW X (.BoolOp .Or (b::dA) pos) (mG X.K tb)):PW X (.BoolOp .Or (a::b::dA) pos) (mG X.K (my ta tb)):=
 (PB E C).of λσ H Q G=>G.el λρ l st q v p=>⟨ρ,l,st,q,v,p.bnd.imp λc g ρ1 I u h o=>by
  cases c with
  |true=>exact o.ret h
  |false=>exact⟨ρ1,l,g,q.mono u,h,o⟩⟩
theorem Gw(v:ST X a ta):ST X (.UnaryOp .Not a pos) (fK ta):=(UK v).of λσ H Q C=>C.el λρ l st u h p=>⟨ρ,l,st,u,h,p.bnd.imp λc g ρ1 G E o q=>q.ret o⟩
theorem L4{op:BoolOp}(h:SE X a fa):SE X (.BoolOp op [a] pos) fa:=S3 h
theorem Xm{dA:List Expr}(I:SE X a fa)(G:SE X (.BoolOp .And (b::dA) pos) fb):SE X (.BoolOp .And (a::b::dA) pos) (pz fa fb):=
 (XG I G).of λσ H Q J=>J.el λρ l st q C p=>⟨ρ,l,st,q,C,p.bnd.imp λd g ρ1 L u o h v E=>by
  cases d with
  |bl c=>
   cases (show v=.bl c from E.inv);refine⟨c,rfl,?_⟩;cases c with
   |true=>exact⟨ρ1,l,g,q.mono u,o,h⟩
   |false=>exact h.ret o _ (.bl false)
  |_=>exact h.elim⟩
theorem QY{dA:List Expr}(I:SE X a fa)(G:SE X (.BoolOp .Or (b::dA) pos) fb):SE X (.BoolOp .Or (a::b::dA) pos) (Lo fa fb):=
 (V3 I G).of λσ H Q J=>J.el λρ l st q C p=>⟨ρ,l,st,q,C,p.bnd.imp λd g ρ1 L u o h v E=>by
  cases d with
  |bl c=>
   cases (show v=.bl c from E.inv);refine⟨c,rfl,?_⟩;cases c with
   |true=>exact h.ret o _ (.bl true)
   |false=>exact⟨ρ1,l,g,q.mono u,o,h⟩
  |_=>exact h.elim⟩
theorem OI(E : SE X a fa): SE X (.UnaryOp .Not a pos) (ud fa) := (Pk E).of λσ H Q G => G.el λρ l st C o p => ⟨ρ, l, st, C, o, p.bnd.imp λd h ρ1 J I q g v u => by
  cases d with
  |bl c=>cases (show v=.bl c from u.inv);exact⟨c,rfl,g.ret q _ (.bl _)⟩
  |_=>exact g.elim⟩
theorem L9{f g:D->D->M D}:∀σ H Q,uC X.K (gA f g fa fb fc) σ H Q->sY (nD X.K f) (nD X.K g) (uC X.K fa) (uC X.K fb) (uC X.K fc) σ H Q:=λσ H Q h_=>h_.el λρ l st J sr p=>
 ⟨ρ,l,st,J,sr,p.bnd.imp λd E ρ1 H1 U s1 p1 v rv=>⟨ρ1,l,E,J.mono U,s1,p1.bnd.imp λe C ρ2 H2 O s2 p2 u c=>⟨ρ2,C,d,e,s2,rv.mono O,c,p2.bnd.imp λz o ρ3 H3 L Y I w G=>by
  cases z with
  |bl k=>
   cases (show w=.bl k from G.inv);refine⟨k,rfl,?_⟩;cases k with
   |true=>exact⟨ρ3,l,o,(J.mono U).mono (O.trans L),Y,I.bnd.imp λt h ρ4 H4 x4 s4 p4 q rq=>⟨ρ4,h,e,t,s4,(c.mono L).mono x4,rq,p4⟩⟩
   |false=>exact I.ret Y _ (.bl false)
  |_=>exact I.elim⟩⟩⟩
theorem OU{op h:lV}{f g:D->D->M D}(q:OpR X (bG op) (nD X.K f))(o:OpR X (bG h) (nD X.K g))(E:SE X a fa)(C:SE X b fb)(v:SE X c fc)
  (u:uH [op,h] [b,c]=false:=by with_unfolding_all rfl):SE X (.Compare a [op,h] [b,c] pos) (gA f g fa fb fc):=(U3 q o E C v u).of L9
theorem R7{op h:lV}{f g:D->D->M D}(J:OpR X (bG op) (nD X.K f))(o:OpR X (bG h) (nD X.K g))(Y:SE X a fa)(U:SE X b fb)(O:SE X c fc)
  (L:uH [op,h] [b,c]=false:=by with_unfolding_all rfl):ST X (.Compare a [op,h] [b,c] pos) (bT (gA f g fa fb fc)):=
 (RI J o Y U O L).of λσ H Q h_=>h_.el λρ l st I C p=>L9 _ _ _ ⟨ρ,l,st,I,C,p.bnd.imp λd u ρ1 H1 x1 E q v G=>by
  cases d with
  |bl k=>cases (show v=.bl k from G.inv);exact⟨k,rfl,q.ret E⟩
  |_=>exact q.elim⟩
end
theorem LR.set{K:aj}{ρ:List af}{H:Hp}{σ:St}{l:Loc}{v:V}{d:D}(h:LR K ρ H σ l)(i:Nat)(r:dg K ρ H v d):LR K ρ H (σ.set i (some v)) (l.set i (some d)):=by
 refine⟨by simp[h.1],λj e q=>?_⟩;by_cases z:i=j
 ·subst z;by_cases c:i < l.length
  ·rw[bj c]at q;cases q;exact⟨v,by rw[bj (by rw[h.1];exact c)],r⟩
  ·rw[dm (by simp;ext)]at q;cases q
 ·rw[aZ z]at q;obtain⟨w,o,g⟩:=h.2 j e q;exact⟨w,by rw[aZ z];exact o,g⟩
theorem LR.start{K:aj}{ρ:List af}{H:Hp}{N:List Str}{c:List V}{ds:List D}(r:bI K ρ H c ds):LR K ρ H (L2.start N c) (ds.map some++cL (N.length-ds.length) none):=by
 have u:=r.length;unfold L2.start;refine⟨by simp[u],λi d e=>?_⟩;by_cases g:i < ds.length
 ·rw[aL (by simpa using g),aD]at e;cases q:ds[i]? with
  |none=>rw[q]at e;cases e
  |some d'=>
   rw[q]at e;have C:d'=d:=bw (bw e);subst C;obtain⟨v,o,h⟩:=r.get q;refine⟨v,?_,h⟩;rw[aL (by simp;ext),aD,o];rfl
 ·rw[a_ (by simpa using g),gZ]at e;split at e<;>cases e
section
variable{X:Cx}{a b c e tg:Expr}{es:List Expr}{s:Stmt}{ss:List Stmt}{pos:Pos}{fa fb fc:CE}{ca cb:CA}{ta tb:CT}{cs cr:CS}{K:aj}{ρ:List af}{H:Hp}{st:aR}
abbrev SG(X:Cx)(e:Expr)(g:CG):Prop:=PG X e (wP X.K g)
abbrev zO(X:Cx)(e:List Expr)(g:List D->Loc->M Loc):Prop:=PGs X e (Cf X.K g)
theorem RX{i:Nat}{x:Str}(h:PG X (.Name x pos) (rH i)):SG X (.Name x pos) (aS i):=h.of λv σ H Q g=>by obtain⟨ρ,l,st,d,u,o,q,p⟩:=g;exact p.ret o _ (u.set i q)
theorem Qp:zO X [] eZ:=VR.of λu σ H Q g=>by
 obtain⟨ρ,l,st,ds,q,o,h,p⟩:=g;cases h with
 |nil=>exact⟨rfl,p.ret o σ q⟩
 |cons _ _=>exact p.elim
theorem Vr{g:CG}{r:List D->Loc->M Loc}(U:SG X e g)(O:zO X es r)(L:(da (e::es) X.env).map (·.2)=mK e X.env::(da es X.env).map (·.2):=by rfl):zO X (e::es) (bD g r):=
 (SY U O L).of λY σ H Q h=>by
  obtain⟨ρ,l,st,ds,I,C,q,p⟩:=h;cases q with
  |nil=>exact p.elim
  |cons rv rt=>exact⟨_,_,rfl,ρ,l,st,_,I,C,rv,(aU.bnd p).imp λJ o ρ1 c v E G σ1 u=>⟨ρ1,J,o,_,u,E,rt.mono v,G⟩⟩
theorem WQ{k n:Nat}{r:List D->Loc->M Loc}(G:X.calm=true)(h:zO X es r)(E:(da es X.env).length=n:=by rfl)(o:(da es X.env).findIdx? (·.1)=none:=by rfl):SG X (.Tuple es k pos) (eR n r):=
 (RJ G h E o).of λv σ H Q g=>by
  obtain⟨ρ,l,st,d,C,q,u,p⟩:=g;cases d with
  |tup ds_=>obtain⟨_,_,rfl,h,r⟩:=u.inv;exact⟨_,_,rfl,h,by rw[r.length];exact (aU.chk p).1,ρ,l,st,_,C,q,r,(aU.chk p).2⟩
  |_=>exact p.elim
theorem B4:ul X [] aB:=HM.of λG σ H o=>o.el λρ l st h g p=>p.ret g σ h
theorem FR(I:SS X s cs)(E:ul X ss cr):ul X (s::ss) (aC cs cr):=(ID I E).of λG σ H C=>C.el λρ l st v u p=>⟨ρ,l,st,v,u,p.bnd.imp λf o ρ1 L J g h=>by
 cases f with
 |next l'=>exact λσ' q=>⟨ρ1,l',o,q,g,h⟩
 |ret d=>exact h.ret g
 |brk l'=>exact h.ret g
 |cnt l'=>exact h.ret g⟩
theorem Vc:SS X s rO:=Sj.of λG σ H g=>g.el λρ l st o h p=>p.elim
theorem Fx(h:SE X e fa):SS X (.Return (some e) pos) (b8 fa):=(LG h).of λG σ H I=>I.el λρ l st E o p=>⟨ρ,l,st,E,o,p.bnd.imp λd g ρ1 L J q C v u=>C.ret q v u⟩
theorem W1(h:SE X e fa)(I:eD e none pos.line X.env=pure false:=by rfl):SS X (.Expr e pos) (kg fa):=(Ma h I).of λG σ H J=>J.el λρ l st g u p=>
 ⟨ρ,l,st,g,u,p.bnd.imp λd q ρ1 O o C E v L=>E.ret C σ (g.mono o)⟩
theorem GP(C:ST X c ta)(I:ul X ss cs){h:List Stmt}(E:ul X h cr):SS X (.If c ss h pos) (gj ta cs cr):=(Mu C I E).of λG σ H J=>J.el λρ l st o h p=>
 ⟨ρ,l,st,o,h,p.bnd.imp λk g ρ1 L q u v=>by
  cases k with
  |true=>exact⟨ρ1,l,g,o.mono q,u,v⟩
  |false=>exact⟨ρ1,l,g,o.mono q,u,v⟩⟩
theorem Hk{g:CG}{q:TE}{tg:TG}(he:∀σ H Q,uC X.K fa σ H Q->q σ H Q)(c:∀v σ H Q,wP X.K g v σ H Q->tg v σ H Q):∀G σ H,uV X.K (bX g fa) G σ H->wC q tg G σ H:=λG σ H h_=>h_.el λρ l st u I p=>
 he _ _ _ ⟨ρ,l,st,u,I,p.bnd.imp λd h ρ1 H1 C L Y v O=>c _ _ _ _ ⟨ρ1,l,h,d,u.mono C,L,O,Y.bnd.imp λl2 E ρ2 H2 x2 J U σ2 o=>U.ret J σ2 o⟩⟩
theorem K8{i:Nat}:∀v σ H Q,wP X.K (aS i) v σ H Q->rH i v σ H Q:=λv σ H Q g=>by obtain⟨ρ,l,st,d,q,h,o,p⟩:=g;exact p.ret h _ (q.set i o)
theorem Na{i : Nat}{x : Str}{g : Pos}(E : X.N.Nodup)(u : X.N[i]? = some x)(o : L2.Loc X.env.scope x)(C : SE X e fa)(q : eD e (some (.Name x g)) pos.line X.env = pure false := by rfl)
  (v:X.fn x=true\/X.env.scope.names.lookup x=some .local:=by first|exact .inl rfl|exact .inr rfl|assumption):SS X (.Assign [.Name x g] e pos) (bX (aS i) fa):=
 (Oy E u o C q v).of (Hk (λ_ _ _ h=>h) K8)
theorem Le{g : CG}(v : SE X e fa)(u : SG X tg g)(q : swapsWithSole [tg] e pos.line X.env = pure false := by rfl)(o : swappedStores [tg] e X.env = pure none := by rfl)
  (C:(da [tg] X.env).map (·.2)=[mK tg X.env]:=by rfl):SS X (.Assign [tg] e pos) (bX g fa):=(V8 v u q o C).of (Hk (λ_ _ _ h=>h) λ_ _ _ _ h=>h)
theorem aU.storeK{n:Nat}{k v:D}{R:Unit->aR->List af->Hp->Prop}(h:aU K ρ H (MM.storeK n k v st) R)(s:SR K ρ H st):∃b g,st[n]?=some (.dct b g)/\sB b k=true/\g.length < eQ/\aU K ρ H (.ok () (st.set n (.dct b (v7 g k v)))) R:=by obtain⟨b,g,e,q⟩:=aU.getDc (aU.bnd h) s;obtain⟨⟨C,u⟩,o⟩:=aU.chk q;refine⟨b,g,e,C,u,?_⟩;unfold yO at o;rw[e]at o;simpa using o
def B_(X:Cx):V->V->V->Hp->(Hp->Prop)->Prop:=λo i v H Q=>∃(ρ:List af)(st:aR)(n:Nat)(a:af)(b:Bool)(bb:List (D×D))(k d:D),o=.ref a/\SR X.K ρ H st/\ρ[n]?=some a/\st[n]?=some (.dct b bb)/\dg X.K ρ H i k/\sB b k=true/\bb.length < sizeLine/\dg X.K ρ H v d /\
 ∀g,SR X.K ρ g (st.set n (.dct b (v7 bb k d)))->Ex ρ H ρ g->Q g
theorem Sf(hu:X.A.units+60 < dM):PSet X (B_ X):=by intro h s σ H o i v ov iv u Q I O Y L g;obtain⟨ρ,st,n,a,b,bb,k,d,eo,G,ha,hn,U,hk,hl,c,q⟩:=g;subst eo;cases O;exact Xl (by ext) I G ha hn U hk hl c Y L λC s' I' J E=>⟨C,I',q C J E⟩
theorem _root_.L2.PSet.or{t t':wN}(h:PSet X t)(h':PSet X t'):PSet X (λo i v H Q=>t o i v H Q\/t' o i v H Q):=by
 intro g s σ H o i v J L u Q I E G C q;rcases q with q|q
 ·exact h g s σ H o i v J L u Q I E G C q
 ·exact h' g s σ H o i v J L u Q I E G C q
theorem O5{to ti:CE}{o i:Expr}(hu:X.A.units+60 < dM)(ho:SE X o to)(hi:SE X i ti)
  (ha:∀v,mK (.Subscript o i pos) X.env v=(do
   let ov <- mL [v] (eval o X.env)
   let iv <- mL [v,ov] (eval i X.env)
   qe pos
   mL [v,ov,iv] (qd ov iv v)
   release [v,ov,iv] []):=by intro _;rfl):SG X (.Subscript o i pos) (on to ti):=
 (Qs ho hi (Pp.or (Sf hu)) ha).of λv σ H Q L=>by obtain⟨ρ,l,st,d,lr,sr,rv,p⟩:=L;exact⟨ρ,l,st,lr,sr,p.bnd.imp λy cw ρ1 H1 U s1 p1 u ru=>⟨ρ1,l,cw,lr.mono U,s1,p1.bnd.imp λz g ρ2 H2 O I c w C=>by
  have J:=ru.mono O;have rd:dg X.K ρ2 H2 v d:=(rv.mono U).mono O;cases y with
  |ref n=>
   obtain⟨_,rfl,_,h⟩:=J.inv;cases z with
   |int k=>
    cases (show _=V.int k from C.inv);obtain⟨ds,e,Y⟩:=aU.getL (aU.bnd (aU.bnd c)) I;obtain⟨a,vs,ha,hv,r⟩:=I.seq e;rw[h]at ha;cases ha;cases e2:MM.oT ds.length k with
    |none=>rw[e2]at Y;exact Y.elim
    |some j=>
     rw[e2]at Y;have hl:=(am.mp e).1;obtain⟨G,E⟩:=I.put hl h hv (r.set j rd);refine .inl ⟨_,vs,k,j,rfl,rfl,hv,by rw[r.length];exact e2,?_⟩;have p4:aU X.K ρ2 H2 (putL _ (ds.set j d) g) _:=Y;unfold putL at p4;rw[e]at p4;exact (p4 ρ2 _ E G).ret G σ (((lr.mono U).mono O).mono E)
   |_=>exact (aU.bnd c).elim
  |dic n=>
   obtain⟨a,rfl,_,h⟩:=J.inv;have p':aU X.K ρ2 H2 (storeK n z d g) λa st' ρ' H'=>aU X.K ρ' H' (MM.ret l st') λl' _ ρ' H'=>∀σ',LR X.K ρ' H' σ' l'->Q σ' H':=by cases C<;>exact aU.bnd c
   obtain⟨b,bb,e1,hk,hl,q⟩:=aU.storeK p' I;exact .inr ⟨ρ2,g,n,a,b,bb,z,d,rfl,I,h,e1,C,hk,hl,rd,λH3 G E=>(q ρ2 H3 E G).ret G σ (((lr.mono U).mono O).mono E)⟩
  |_=>exact (aU.bnd c).elim⟩⟩
theorem Pu{P:Program}{w:bq}{K:aj}{mg:Str->Option ac}{base:bh}{x qual:Str}{u:Stmt}{f:af}{J:bN}{N ps:List Str}{k:Nat}{o:CS}(F:tH K x qual u f J)(S:iq N ps (aX u))
  (q:∀(g:ac)(A:bn)(outer:List Env)(s:ah)(H:Hp)(E:XK),J.code=g->fo k (A.deeper (iB qual (aX u) s.heap.objs.size f g))->ul (mD ou P w K mg base N qual (aX u) f g A outer s H E).nox (cK u) o):
  fV P w K mg base ou (k+1) f J ps (lU K ps.length (bF N.length o)):=by
 obtain⟨oc,od,kV,doc,pm,an,g,ct,osl,rfl,lk,I⟩:=F.ex;refine Hj lk I S (λO H Q E h=>h.1) λA outer s H O Q E hr h=>⟨_,(q g A outer s H E rfl hr).nox,?_⟩
 obtain⟨hl,ρ,st,ds,Y,G,p⟩:=h;refine⟨ρ,_,st,LR.start G,Y,?_⟩;unfold bF at p;exact p.bnd.imp λf U ρ1 H1 x1 L C=>by
  cases f with
  |next l=>exact λσ' _=>C.ret L _ .non
  |ret d=>exact λv c=>C.ret L v c
  |brk l=>exact C.elim
  |cnt l=>exact C.elim
noncomputable def Cm(K:aj)(ρ0:List af)(h:Hp)(w:Wk)(J:It):Prop:=∀ρ H st,Ex ρ0 h ρ H->SR K ρ H st->w.same st->J.stop w.ds.length H/\∀(i:Nat)(d:D),w.ds[i]?=some d->J.go i H/\∀x g,J.yld i H x g->Ex ρ H ρ g/\SR K ρ g st/\dg K ρ g x d
def D6(K:aj)(f:CI):TI:=λσ H R=>∃ρ l st,LR K ρ H σ l/\SR K ρ H st/\aU K ρ H (f l st) λw _ ρ' g=>∀J,Cm K ρ' g w J->R J g
abbrev SI(X:Cx)(tg e:Expr)(f:CI):Prop:=PI X tg e (D6 X.K f)
theorem _root_.L2.PI.of{tg e:Expr}{t t':TI}(h:PI X tg e t)(f:∀σ H R,t' σ H R->t σ H R):PI X tg e t':=λg s σ H R I q=>h g s σ H R I (f σ H R q)
theorem M0{ρ0:List af}{E:Hp}{ds:List D}{p:aR->Prop}{a:af}(h:∀ρ H st,Ex ρ0 E ρ H->SR K ρ H st->p st->∃g,ir K H a g/\bI K ρ H g ds):Cm K ρ0 E ⟨ds,p⟩ (Gf K a):=λρ H st x s q=>by obtain⟨g,u,r⟩:=h ρ H st x s q;refine⟨⟨g,u,by rw[r.length];exact ax _⟩,λi d e=>?_⟩;obtain⟨v,C,G⟩:=r.get e;refine⟨⟨g,v,u,C⟩,λy L o=>?_⟩;obtain⟨J,I⟩:=o;subst J;have:=I g u;rw[C]at this;cases this;exact⟨Ex.refl,s,G⟩
theorem U4{ρ0:List af}{E:Hp}{ds:List D}{p:aR->Prop}{a:af}(h:∀ρ H st,Ex ρ0 E ρ H->SR K ρ H st->p st->∃g,i7 K H a g/\bI K ρ H g ds):Cm K ρ0 E ⟨ds,p⟩ (Hf K a):=λρ H st x s q=>by obtain⟨g,u,r⟩:=h ρ H st x s q;refine⟨⟨g,u,by rw[r.length];exact ax _⟩,λi d e=>?_⟩;obtain⟨v,C,G⟩:=r.get e;refine⟨⟨g,v,u,C⟩,λy L o=>?_⟩;obtain⟨J,I⟩:=o;subst J;have:=I g u;rw[C]at this;cases this;exact⟨Ex.refl,s,G⟩
theorem Oi{ρ0:List af}{u:Hp}{lo:Int}{n:Nat}:Cm K ρ0 u ⟨fO lo n,d6⟩ (DE lo n):=λρ H st x s _=>by
 refine⟨by show n<=(fO lo n).length;unfold fO;simp,λi d e=>?_⟩;have h:i < n:=by have:=(am.mp e).1;simpa [fO] using this
 refine⟨h,λy v g=>?_⟩;obtain⟨q,o⟩:=g;subst q o;have:d=.int (lo+(i:Nat)):=by unfold fO at e;rw[aD,gz h]at e;exact (bw e).symm
 subst this;exact⟨Ex.refl,s,.int _⟩
theorem Xj{l:Expr}{O:TE}(Y:PE X l O):PI X tg l (λσ H R=>O σ H λx C=>∃a,x=.ref a/\((∃xs,ir X.K C a xs)/\R (Gf X.K a) C\/(∃xs,i7 X.K C a xs)/\R (Hf X.K a) C)):=by
 intro G s σ H R I h;refine fE (Y G s σ H _ I h) λv g E=>?_;obtain⟨x,C,u,U,a,e,q⟩:=E;subst e;cases U;rcases q with ⟨⟨xs,J⟩,q⟩|⟨⟨xs,J⟩,q⟩
 ·obtain⟨its,Q,p,hz⟩:=u.list J;refine qj p.isList ?_;refine⟨g.heap.objs.size,[g.heap.objs.size],_,_,C,rfl,u.kept (t':=g.toks) λb o e=>aq _ e,PN a _,⟨_,aK _ rfl,rfl,rfl⟩,λb L=>?_,q⟩;have e:b=g.heap.objs.size:=by simpa using L
  subst e;exact u.fpOk (ax _) (u.hok.fresh (ax _))
 ·obtain⟨its,Q,p,hz⟩:=u.tuple J;refine io (show g.heap.IsTuple a its.toArray from p) ?_;refine⟨g.heap.objs.size,[g.heap.objs.size],_,_,C,rfl,u.kept (t':=g.toks) λb o e=>aq _ e,VC a _,⟨_,aK _ rfl,rfl,rfl⟩,λb L=>?_,q⟩;have e:b=g.heap.objs.size:=by simpa using L
  subst e;exact u.fpOk (ax _) (u.hok.fresh (ax _))
theorem Rf(h:SE X e fa):SI X tg e (kf fa):=(Xj h).of λσ H R h_=>h_.el λρ l st U O p=>⟨ρ,l,st,U,O,p.bnd.imp λd L ρ1 H1 x1 o C v G=>by
 cases d with
 |tup ds=>obtain⟨a,g,rfl,h,r⟩:=G.inv;exact⟨a,rfl,.inr ⟨⟨g,h⟩,C.ret o _ (U4 λρ H st x s _=>⟨g,i7.mono x.up h,r.mono x⟩)⟩⟩
 |lit ds=>obtain⟨a,g,rfl,h,r⟩:=G.inv;exact⟨a,rfl,.inl ⟨⟨g,h.seq⟩,C.ret o _ (M0 λρ H st x s _=>⟨g,(uz.mono x.up h).seq,r.mono x⟩)⟩⟩
 |ref n=>
  obtain⟨a,rfl,_,h⟩:=G.inv;obtain⟨ds,e,Q⟩:=aU.getL (aU.bnd C) o;obtain⟨a',g,I,c,r⟩:=o.seq e;rw[h]at I;cases I;refine⟨a,rfl,.inl ⟨⟨g,ir.of c⟩,Q.ret o _ (M0 λρ H st x s q=>?_)⟩⟩;obtain⟨a2,J,u,Y,E⟩:=s.seq q;obtain⟨τ,eτ,_⟩:=x.pre;rw[eτ,FG h]at u;cases u;exact⟨J,ir.of Y,E⟩
 |_=>exact C.elim⟩
theorem Wv{p:Pos}(G:Gl X "range")(E:X.mg "range"=none)(h:SE X a fa)(o:starEach [a] X.env=[(false,eval a X.env)]:=by rfl):SI X tg (.Call (.Name "range" p) [a] [] pos) (MM.gc fa):=
 (Wa (tg:=tg) (p:=p) (pos:=pos) G E (Kd h Fw o) o).of λσ H R I=>I.el λρ l st C u p=>⟨ρ,l,st,C,u,by
  have q:=aU.bnd p;unfold ar
  show aU X.K ρ H (bnd (fa l) _ st) _;unfold MM.bnd;cases e:fa l st with
  |bad=>rw[e]at q;exact q
  |exc _ _=>rw[e]at q;exact q
  |ok d cw=>
   rw[e]at q
   show ∀ρ' H',Ex ρ H ρ' H'->SR X.K ρ' H' cw->_;intro ρ1 H1 x1 s1 vs rvs;have g:=q ρ1 H1 x1 s1;cases rvs with
   |cons rv rt=>
    cases rt;cases rv with
    |int j=>
     obtain⟨⟨L,J⟩,v⟩:=aU.chk g;exact⟨j,rfl,L,J,v.ret s1 _ Oi⟩
    |_=>exact g.elim⟩
theorem aU.chkS{p:aR->Prop}{R:Unit->aR->List af->Hp->Prop}(h:aU K ρ H (MM.chkS p st) R)(s:SR K ρ H st):p st/\R () st ρ H:=by
 unfold MM.chkS at h;by_cases g:p st
 ·rw[aG g]at h;exact⟨g,h ρ H Ex.refl s⟩
 ·rw[az g]at h;exact h.elim
theorem NA{iter:Expr}{u:List Stmt}{ci:CI}{g:CG}{cb:CS}(hp:oA (aP X.prog X.w) X.A X.env X.xe)(hc:X.calm=true)(hi:SI X tg iter ci)(hg:SG X tg g)(hb:ul X u cb)
  (hs:∀x,dQ iter X.env x=pure x:=by intro _;rfl):SS X (.For tg iter u [] pos) (iS ci g cb):=(KU hp hc hi hg hb hs).of λG σ H h_=>h_.el λρ l st lr sr p=>
 ⟨ρ,l,st,lr,sr,p.bnd.imp λw c ρ1 H1 x1 s1 p1 J hJ=>by
  refine⟨λi m σ' h=>m=w.ds.length-i/\i<=w.ds.length/\∃ρ' l' st',Ex ρ1 H1 ρ' h/\LR X.K ρ' h σ' l'/\SR X.K ρ' h st'/\aU X.K ρ' h (kc g cb w.same (w.ds.drop i) l' st') λf _ ρ' h=>match f with
   | .next l'=>∀σ',LR X.K ρ' h σ' l'->G.nx σ' h
   | .ret d=>∀v,dg X.K ρ' h v d->G.rt v h
   | .brk l'=>∀σ',LR X.K ρ' h σ' l'->G.bk σ' h
   | .cnt l'=>∀σ',LR X.K ρ' h σ' l'->G.ct σ' h,⟨w.ds.length,by simp,bL _,ρ1,l,c,Ex.refl,lr.mono x1,s1,p1⟩,?_⟩
  rintro i m σ2 H2 ⟨rfl,hi,ρ2,l2,st2,x2,lr2,s2,p2⟩
  by_cases C:i < w.ds.length
  ·have ed:w.ds.drop i=w.ds[i]::w.ds.drop (i+1):=bR C;rw[ed]at p2;unfold kc at p2;obtain⟨sm,p3⟩:=aU.chkS (aU.bnd p2) s2;obtain⟨_,go⟩:=hJ ρ2 H2 st2 x2 s2 sm;obtain⟨g1,g2⟩:=go i w.ds[i] (au C);refine .inr ⟨g1,λσ3 E=>∃ρ3 l3 st3,Ex ρ1 H1 ρ3 E/\LR X.K ρ3 E σ3 l3/\SR X.K ρ3 E st3/\aU X.K ρ3 E (kc g cb w.same (w.ds.drop (i+1)) l3 st3) λf _ ρ' h=>match f with
    | .next l'=>∀σ',LR X.K ρ' h σ' l'->G.nx σ' h
    | .ret d=>∀v,dg X.K ρ' h v d->G.rt v h
    | .brk l'=>∀σ',LR X.K ρ' h σ' l'->G.bk σ' h
    | .cnt l'=>∀σ',LR X.K ρ' h σ' l'->G.ct σ' h,λσ3 E q=>⟨_,by ext,rfl,C,q⟩,λy E hy=>?_⟩
   obtain⟨U,s3,c⟩:=g2 y E hy;refine⟨ρ2,l2,st2,_,lr2.mono U,s3,c,(aU.left U (aU.bnd p3)).imp λl4 Y ρ4 H4 J s4 p4 σ4 u=>⟨ρ4,l4,Y,u,s4,(aU.bnd p4).imp λf L ρ5 H5 H O Q=>?_⟩⟩;have I:Ex ρ1 H1 ρ5 H5:=(x2.trans U).trans (J.trans H);cases f with
   |next l5=>exact λσ5 o=>⟨ρ5,l5,L,I,o,O,Q⟩
   |cnt l5=>exact λσ5 o=>⟨ρ5,l5,L,I,o,O,Q⟩
   |brk l5=>exact λσ5 o=>Q.ret O σ5 o
   |ret d=>exact λv c=>Q.ret O v c
  ·have e:i=w.ds.length:=by ext
   subst e;rw[dC]at p2;unfold kc at p2;obtain⟨sm,p3⟩:=aU.chkS (aU.bnd p2) s2;obtain⟨g1,_⟩:=hJ ρ2 H2 st2 x2 s2 sm;exact .inl ⟨g1,p3.ret s2 σ2 lr2⟩⟩
end
section
variable{X:Cx}{a b c e tg:Expr}{es:List Expr}{pos:Pos}{fa fb fc:CE}{ca cb:CA}{ta tb:CT}{K:aj}{ρ:List af}{H:Hp}{st:aR}{x:Str}{p:Pos}{id T:String}
theorem QE{n:Nat}{ix:List Nat}{σ:St}{l:Loc}(h:LR K ρ H σ l):LR K ρ H (wS n ix σ) (fG n ix l):=by
 unfold wS fG;refine⟨by simp,λi d e=>?_⟩;have u:n<=i:=pO λz=>by rw[aL (by simpa using z),gZ]at e;split at e<;>cases e
 rw[a_ (by simpa using u),fR,aD]at e;cases q:ix[i-n]? with
 |none=>rw[q]at e;cases e
 |some k=>
  rw[q]at e;have g:(l[k]?).join=some d:=bw e;have G:l[k]?=some (some d):=by
   cases z:l[k]? with
   |none=>rw[z]at g;cases g
   |some o=>rw[z]at g;exact bH some g
  obtain⟨v,E,C⟩:=h.2 k d G;refine⟨v,?_,C⟩;rw[a_ (by simpa using u),fR,aD,q]
  show some ((σ[k]?).join)=some (some v);rw[E];rfl
abbrev vc(X:Cx)(g:List Expr)(t:CT):Prop:=t6 X g (mG X.K t)
theorem TX:vc X [] bZ:=λg s σ H Q I o=>o.el λρ l st q h p=>RD g s σ H Q I (p.ret h)
theorem Sm(h:ST X c ta):vc X [c] ta:=WK h
theorem Ex.own{ρ':List af}{g:Hp}{q:af}{u:List V}(x:Ex ρ H ρ' g)(h:H q=none):Ex ρ H ρ' (eO g q (.lst u)):=by
 have ne:∀b o,H b=some o->b≠q:=λb o e z=>by rw[z,h]at e;cases e
 exact⟨x.pre,λb o no e=>by rw[gm (ne b o e)];exact x.fix b o no e,λb xs v e=>by rw[gm (ne b _ e)];exact x.oth b xs v e,λb o e=>by rw[gm (ne b o e)];exact x.knd b o e⟩
theorem Up.own{ρ':List af}{g:Hp}{q:af}{v u:List V}(h:g q=some (.lst v)):Up ρ' g ρ' (eO g q (.lst u)):=
 ⟨⟨[],by simp⟩,λb o no e=>by rw[gm λz=>by subst z;rw[h]at e;cases e;cases no];exact e,
  λb o e=>by
   by_cases z:b=q
   ·subst z;rw[h]at e;cases e;exact⟨_,i5,rfl⟩
   ·exact⟨o,by rw[gm z];exact e,rfl⟩⟩
theorem LR.up{ρ':List af}{g:Hp}{σ:St}{l:Loc}(x:Up ρ H ρ' g)(h:LR K ρ H σ l):LR K ρ' g σ l:=⟨h.1,λi d e=>let ⟨v,e1,r⟩:=h.2 i d e;⟨v,e1,r.up x⟩⟩
theorem SR.own{q:af}{v u:List V}(s:SR K ρ H st)(h:H q=some (.lst v))(C:q∉ρ):SR K ρ (eO H q (.lst u)) st:=
 ⟨s.len,s.nd,λn b o g E=>p_.mono (o:=o) (Up.own h) (s.ob n b o g E) λG e=>by rw[gm (λ(z:b=q)=>C (by rw[<- z];exact bo g))];exact e⟩
theorem MT{ci:CI}{g:CG}{n:Nat}{ix:List Nat}:∀σ H Q,D_ K (dN n ix ci g ta fa) σ H Q->tF (D6 K ci) n ix (wP K g) (mG K ta) (uC K fa) σ H Q:=λσ H Q h_=>h_.el λρ l st lr sr p=>
 ⟨ρ,l,st,lr,sr,p.bnd0.imp λw cw ρ1 H1 x1 s1 p1 J hJ q hq=>by
  obtain⟨hz,p2⟩:=aU.chk p1;have hn:H q=none:=by
   cases z:H q with
   |none=>rfl
   |some o=>exact bp hq (x1.trk q o z)
  obtain⟨J0,L⟩:∃J0:Nat->Nat->St->Hp->Prop,J0=λi m σ' U=>m=w.ds.length-i/\i<=w.ds.length/\∃ρ' l' st' done h,Ex ρ H ρ' U/\Ex ρ1 H1 ρ' U/\LR K ρ' U σ' l'/\SR K ρ' U st'/\q∉ρ'/\U q=some (.lst h)/\bI K ρ' U h done/\done.length<=i /\
   aU K ρ H (collect g ta fa w.same (w.ds.drop i) l' st') (λdA C ρ2 u=>∀a ws,H a=none->a∉ρ2->u a=some (.lst ws)->bI K ρ2 u ws (done++dA)->Q (.ref a) u):=⟨_,rfl⟩
  refine⟨J0,
   ⟨w.ds.length,by rw[L];exact⟨by simp,bL _,ρ1,fG n ix l,cw,[],[],x1.trans (Ex.new hq),Ex.new hq,QE ((lr.mono x1).mono (Ex.new hq)),s1.new hq,s1.fresh hq,i5,.nil,bL _,p2⟩⟩,?_⟩
  intro i m σ2 u hj;rw[L]at hj;obtain⟨rfl,hi,ρ2,l2,C,done,h,O,y2,lr2,s2,nq,hv,E,hd,p3⟩:=hj;by_cases I:i < w.ds.length
  ·have ed:w.ds.drop i=w.ds[i]::w.ds.drop (i+1):=bR I;rw[ed]at p3;unfold collect at p3;obtain⟨sm,p4⟩:=aU.chkS (p3.bnd0.left O) s2;obtain⟨_,go⟩:=hJ ρ2 u C y2 s2 sm;obtain⟨g1,g2⟩:=go i w.ds[i] (au I);refine .inr ⟨g1,λy H3 hy=>?_⟩;obtain⟨x3,s3,rv⟩:=g2 y H3 hy;refine⟨ρ2,l2,C,_,lr2.mono x3,s3,rv,(p4.bnd0.left (O.trans x3)).imp λl4 st4 ρ4 H4 x4 s4 p5 σ4 G=>⟨ρ4,l4,st4,G,s4,(p5.bnd0.left (O.trans (x3.trans x4))).imp λb J ρ5 H5 Q s5 p6=>?_⟩⟩;have Y:Ex ρ2 u ρ5 H5:=x3.trans (x4.trans Q);have c:∀{ρ':List af}{U:Hp},Ex ρ2 u ρ' U->q∉ρ':=λz H=>by
    obtain⟨τ,e,f⟩:=z.pre;rw[e]at H;rcases br.mp H with H|H
    ·exact nq H
    ·rw[f q H]at hv;cases hv
   cases b with
   |false=>exact⟨w.ds.length-(i+1),by ext,by rw[L];exact⟨rfl,I,ρ5,l4,J,done,h,O.trans Y,y2.trans Y,G.mono Q,s5,c Y,Y.lst q h nq hv,E.mono Y,Nat.le_succ_of_le hd,p6⟩⟩
   |true=>
    refine⟨ρ5,l4,J,G.mono Q,s5,(p6.bnd0.left (O.trans Y)).imp λd st6 ρ6 H6 x6 s6 p7 v rv6=>?_⟩;have o:Ex ρ2 u ρ6 H6:=Y.trans x6;have g:=o.lst q h nq hv;have u6:Up ρ6 H6 ρ6 (eO H6 q (.lst (h++[v]))):=Up.own g;refine⟨h,g,?_,w.ds.length-(i+1),by ext,?_⟩
    ·have g:=E.length;have c:w.ds.length<=sizeLine:=hz;ext
    ·rw[L];refine⟨rfl,I,ρ6,l4,st6,done++[d],h++[v],(O.trans o).own hn,(y2.trans o).own hq,LR.up u6 ((G.mono Q).mono x6),s6.own g (c o),c o,i5,
     bI.app ((E.mono o).up u6) (.cons (rv6.up u6) .nil),by simp;ext,?_⟩
     refine p7.bnd0.imp λdA C ρ8 H8 u H J a ws ha U Y q=>?_;exact J ρ8 H8 u H a ws ha U Y (by rw[List.append_cons];exact q)
  ·have e:i=w.ds.length:=by ext
   subst e;rw[dC]at p3;unfold collect at p3;obtain⟨sm,p4⟩:=aU.chkS (p3.bnd0.left O) s2;obtain⟨g1,_⟩:=hJ ρ2 u C y2 s2 sm;refine .inl ⟨g1,p4 ρ2 u O s2 q h hn nq hv (by rw[cg];exact E)⟩⟩
theorem Q7{scope:dD}{N:List Str}{h:List Expr}{n:Nat}{ix:List Nat}{u:CI}{g:CG}(E:X.calm=true)(S:fX X scope)(T:ig X scope N n ix)(C:SI X tg b u)
  (q:∀(o:List af)(s:ah)(H:Hp),SG (mV X N scope o s H) tg g/\vc (mV X N scope o s H) h ta/\SE (mV X N scope o s H) e fa)
  (v:∀x,dQ b X.env x=pure x:=by intro _;rfl):SL X (.ListComp e [⟨tg,b,h,0⟩] scope pos) (dN n ix u g ta fa):=(Q1 E S T C q v).of MT
theorem XB{scope:dD}{N:List Str}{q:List Expr}{n i:Nat}{ix:List Nat}{U:CI}{g:CG}{y:Str}{o h:Pos}
  (hN:X.N.Nodup) (G:X.N[i]?=some y) (hy:L2.Loc X.env.scope y) (hf:X.fn y=true\/X.env.scope.names.lookup y=some .local)
  (hc:X.calm=true) (S:fX X scope) (T:ig X scope N n ix) (hi:SI X tg b U)
  (J:∀(I:List af)(s:ah)(H:Hp),SG (mV X N scope I s H) tg g/\vc (mV X N scope I s H) q ta/\SE (mV X N scope I s H) e fa)
  (E:eD (.ListComp e [⟨tg,b,q,0⟩] scope pos) (some (.Name y o)) h.line X.env=pure true)
  (hs:∀x,dQ b X.env x=pure x:=by intro _;rfl):SS X (.Assign [.Name y o] (.ListComp e [⟨tg,b,q,0⟩] scope pos) h) (bX (aS i) (eY (dN n ix U g ta fa))):=
 (P8 hN G hy hf hc S T hi J E hs).of (Hk (λσ H Q h_=>h_.el λρ l st lr sr p=>MT _ _ _ ⟨ρ,l,st,lr,sr,p.bnd0.imp λds c ρ1 Y v L p1 a vs ha na O C=>by
  have x:Ex ρ H (ρ1++[a]) Y:=by
   obtain⟨τ,e,f⟩:=v.pre;refine⟨⟨τ++[a],by rw[e,dL],λb u=>?_⟩,v.fix,v.oth,v.knd⟩;rcases br.mp u with u|u
   ·exact f b u
   ·rw[aE]at u;rw[u];exact ha
  refine p1 (ρ1++[a]) Y x (L.keep O na C) _ (.ref ⟨_,O,rfl⟩ ?_);rw[<- L.len];simp⟩) K8)
theorem LW{g : D -> M D}(Y : CallR X (.builtin id) (λxs H Q => ∃v, xs = [v] /\ vn X.K g v H Q))(U : Gl X x)(O : X.mg x = none)(J : cN x = some (.builtin id))(c : SE X e fa)(L : x ≠ "__name__" := by decide)(o : (x == ("__debug__" : Str)) = false := by decide)
  (q:starEach [e] X.env=[(false,eval e X.env)]:=by rfl):SE X (.Call (.Name x p) [e] [] pos) (c1 g fa):=
 (Bl Y U O J (n8 c qp q) L o q rfl).of λσ H Q h_=>h_.el λρ l st I u p=>⟨ρ,l,st,I,u,p.bnd.imp λd h ρ1 H1 x1 C G v E=>⟨v,rfl,ρ1,h,d,C,E,G⟩⟩
theorem Fo{g : D -> M D}(Y : CallR X (.type T) (λxs H Q => ∃v, xs = [v] /\ vn X.K g v H Q))(U : Gl X x)(O : X.mg x = none)(J : cN x = some (.type T))(c : SE X e fa)(L : x ≠ "__name__" := by decide)(o : (x == ("__debug__" : Str)) = false := by decide)
  (q:starEach [e] X.env=[(false,eval e X.env)]:=by rfl):SE X (.Call (.Name x p) [e] [] pos) (c1 g fa):=
 (OD Y U O J (n8 c qp q) L o q rfl).of λσ H Q h_=>h_.el λρ l st I u p=>⟨ρ,l,st,I,u,p.bnd.imp λd h ρ1 H1 x1 C G v E=>⟨v,rfl,ρ1,h,d,C,E,G⟩⟩
def CH(K:aj)(g:List D->M D):List V->Hp->VK->Prop:=λxs H Q=>∃a h ρ st ds,xs=[.ref a]/\ir K H a h/\SR K ρ H st/\bI K ρ H h ds/\aU K ρ H (g ds st) λr _ ρ' o=>∀v,dg K ρ' o v r->Q v o
theorem Lp{g : List D -> M D}(c : CallR X (.builtin id) (CH X.K g))(Y : Gl X x)(U : X.mg x = none)(q : cN x = some (.builtin id))(C : SL X e ca)(O : x ≠ "__name__" := by decide)(u : (x == ("__debug__" : Str)) = false := by decide)
  (v:starEach [e] X.env=[(false,eval e X.env)]:=by rfl):SE X (.Call (.Name x p) [e] [] pos) (gW g ca):=
 (Bl c Y U q (n8 C qp v) O u v rfl).of λσ H Q h_=>h_.el λρ l st L G p=>⟨ρ,l,st,L,G,p.bnd.imp λds h ρ1 H1 x1 I J a E C na q o=>⟨a,E,ρ1,h,ds,rfl,ir.of q,I,o,J⟩⟩
theorem Pm{g : List D -> M D}(c : CallR X (.type T) (CH X.K g))(Y : Gl X x)(U : X.mg x = none)(q : cN x = some (.type T))(C : SL X e ca)(O : x ≠ "__name__" := by decide)(u : (x == ("__debug__" : Str)) = false := by decide)
  (v:starEach [e] X.env=[(false,eval e X.env)]:=by rfl):SE X (.Call (.Name x p) [e] [] pos) (gW g ca):=
 (OD c Y U q (n8 C qp v) O u v rfl).of λσ H Q h_=>h_.el λρ l st L G p=>⟨ρ,l,st,L,G,p.bnd.imp λds h ρ1 H1 x1 I J a E C na q o=>⟨a,E,ρ1,h,ds,rfl,ir.of q,I,o,J⟩⟩
theorem SN{prog:Program}{w:bq}{A:bn}{E:ac->ah->Prop}{s:ah}{K:Type}[DecidableEq K]{knd:xG prog w K}{d:af}{xs:List (K×af×ac)}{Q:ac->ah->Prop}(hd:(d == eU)=false)(u:s.heap.DictOfH knd d xs)(hfit:(xs.length:Int) < 2^63)
  (h:Q (.int xs.length (s.toks+1)) { s with toks:=s.toks+1+1 }):aA (aP prog w) A (call (.builtin "len") [.ref d]) Q E s:=by
 refine Calls.call_function_entry kind_len plain_len entry_len (args_len1 _) ?_;unfold Builtin.«len»;have q:MeetsIn prog w (Builtin.«dict.__len__» ⟨[.ref d],[]⟩) (λ_ R s=>∃xs,s.heap.DictOfH knd d xs/\R (.ok (.ret (.int xs.length s.toks))) { s with toks:=s.toks+1 }):=.of_wp λA R s g=>by
  obtain⟨xs,u,h⟩:=g;obtain⟨o,es,L,C,J,v,G,_,I⟩:=u
  show aA _ _ (dictSize d >>= _) _ _ s;unfold dictSize;refine aa (aa (wpAny_dictEntries C v (ai ?_)))
  show aA _ _ (Builtin.Dict.pendingCount d >>= _) _ _ s;refine aa (wpAny_pendingCount_other hd ?_);refine F6 ?_;rw[Nat.add_zero,rW G];exact h
 refine aa (m:=oneArg "len" _) (ai ?_);refine aa (m:=vL (.ref d) (ag "__len__")) (cE (name:=ag "__len__") u.typeIs BS
  (call_meetsIn BS u.typeIs F.entry_dict_len (F.args_dict_len_1 _) q ⟨xs,u,?_⟩))
 show aA _ _ _ _ _ { s with toks:=s.toks+1 };refine aa (b_ (ai ?_));refine aa (rp ?_)
 show aA _ _ (if ((xs.length:Nat):Int) < 0 then _ else _) _ _ _;rw[az (by ext)]
 show aA _ _ (if ((xs.length:Nat):Int) ≥ 2^63 then _ else _) _ _ _;rw[az (by ext)];exact aa (wpAny_mkInt (ai ⟨_,rfl,h⟩))
theorem Pj:CallR X (.builtin "len") (λxs H Q=>∃(ρ:List af)(st:aR)(n:Nat)(a:af)(b:Bool)(o:List (D×D)),xs=[.ref a]/\SR X.K ρ H st/\ρ[n]?=some a/\st[n]?=some (.dct b o)/\Q (.int o.length) H):=by
 intro C s σ H xs Y Q I r h;obtain⟨ρ,st,n,a,b,o,e,E,L,J,q⟩:=h;subst e;obtain⟨u,rfl,G⟩:=uF r;cases G;have g:=E.ob n a _ L J;cases b with
 |false=>
  obtain⟨es,e,r⟩:=g;rw[<- KR.length r]at q;exact Qv I (.inl e) λt s' U=>⟨.int es.length,H,U,⟨t,rfl⟩,q⟩
 |true=>
  obtain⟨es,e,r⟩:=g;obtain⟨z,hd,xs,v,O,_⟩:=Es I e r;rw[<- NR.length r,e8 v]at q;have hz:xs.length<=sizeLine:=by rw[<- e8 v];exact z
  exact SN hd O (by rw[rf]at hz;ext) ⟨.int xs.length,H,I.tok _,⟨_,rfl⟩,q⟩
theorem W4:CallR X (.builtin "len") (λxs H Q=>∃v,xs=[v]/\vn X.K dk v H Q):=((Si.or P4).or Pj).of λxs H Q q=>by
 obtain⟨v,e,ρ,st,d,g,I,p⟩:=q;cases I with
 |@tup a o ds h r=>exact .inl (.inl ⟨a,o,e,.inr h,by rw[r.length];exact p.ret g _ (.int _)⟩)
 |@lit a o ds h r=>exact .inl (.inl ⟨a,o,e,.inl h.seq,by rw[r.length];exact p.ret g _ (.int _)⟩)
 |@ref a n _ h=>
  obtain⟨ds,E,u⟩:=aU.getL (aU.bnd p) g;obtain⟨L,o,G,J,r⟩:=g.seq E;rw[h]at G;cases G;exact .inl (.inl ⟨a,o,e,.inl (ir.of J),by rw[r.length];exact u.ret g _ (.int _)⟩)
 |str z=>exact .inl (.inr ⟨z,e,(aU.chk p).1,(aU.chk p).2.ret g _ (.int _)⟩)
 |@dic a n _ h=>
  obtain⟨b,C,E,u⟩:=aU.getDc (aU.bnd p) g;exact .inr ⟨ρ,st,n,a,b,C,e,g,h,E,u.ret g _ (.int _)⟩
 |_=>exact p.elim
theorem PF:CallR X (.type "tuple") (λxs H Q=>∃v,xs=[v]/\vn X.K tupleD v H Q):=N3.of λxs H Q u=>by
 obtain⟨v,e,ρ,st,d,q,E,p⟩:=u;cases E with
 |@tup a o ds h r=>exact⟨a,o,e,.inr ⟨h,p.ret q _ (.tup h r)⟩⟩
 |@lit a o ds h r=>exact⟨a,o,e,.inl ⟨h.seq,λl g=>p ρ _ (Ex.new g) (q.new g) _ (.tup (i7.of i5) (r.mono (Ex.new g)))⟩⟩
 |@ref a n _ h=>
  obtain⟨ds,J,G⟩:=aU.getL (aU.bnd p) q;obtain⟨L,o,C,I,r⟩:=q.seq J;rw[h]at C;cases C;exact⟨a,o,e,.inl ⟨ir.of I,λl g=>G ρ _ (Ex.new g) (q.new g) _ (.tup (i7.of i5) (r.mono (Ex.new g)))⟩⟩
 |_=>exact p.elim
theorem QS:CallR X (.type "tuple") (CH X.K k_):=N3.of λxs H Q g=>
 by obtain⟨a,o,ρ,st,ds,e,u,q,r,p⟩:=g;exact⟨a,o,e,.inl ⟨u,λl h=>p ρ _ (Ex.new h) (q.new h) _ (.tup (i7.of i5) (r.mono (Ex.new h)))⟩⟩
end
section
variable{X:Cx}{a b c e tg:Expr}{es:List Expr}{pos:Pos}{fa fb fc:CE}{ca cb:CA}{ta tb:CT}{K:aj}{ρ:List af}{H:Hp}{st:aR}{x:Str}{p:Pos}{T:String}
theorem MC{ds:List D}{ns:List Int}{o:List V}(h:lx ds=some ns)(g:bI K ρ H o ds):o=ns.map V.int:=by
 induction ds generalizing ns o with
 |nil=>cases g;cases h;rfl
 |cons d ds ih=>
  cases g with
  |cons r t=>
   cases r with
   |int i=>
    unfold lx at h;cases q:lx ds with
    |none=>rw[q]at h;cases h
    |some ms=>
     rw[q]at h;have h':i::ms=_:=bw h;subst h';rw[ih q t];rfl
   |_=>cases h
theorem Tz{ds:List D}{ns:List Bool}{g:List V}(h:iW ds=some ns)(o:bI K ρ H g ds):g=ns.map V.bl:=by
 induction ds generalizing ns g with
 |nil=>cases o;cases h;rfl
 |cons d ds ih=>
  cases o with
  |cons r t=>
   cases d with
   |bl i=>
    unfold iW at h;cases q:iW ds with
    |none=>rw[q]at h;cases h
    |some ms=>
     rw[q]at h;have h':i::ms=_:=bw h;subst h';cases r;rw[ih q t];rfl
   |_=>cases h
theorem Lv:∀{bs:List Bool}{g:List ac},cB (bs.map V.bl) g->g=bs.map dS
 |[],_,.nil=>rfl
 |_::_,_,.cons r t=>by cases r;rw[Lv t];rfl
theorem QZ(hc:X.calm=true):CallR X (.builtin "all") (λxs H Q=>∃(l:af)(bs:List Bool),xs=[.ref l]/\ir X.K H l (bs.map V.bl)/\Q (.bl (bs.all id)) H):=by
 intro U s σ H xs us Q I r h;obtain⟨l,bs,rfl,hq,q⟩:=h;obtain⟨u,rfl,rx⟩:=uF r;cases rx;obtain⟨its,rv,E,hz⟩:=I.list hq;have ei:=Lv rv;subst ei;refine call_all_walk (qj E.isList ?_);have J:l < s.heap.objs.size:=by obtain⟨o,G,_⟩:=E.isList;exact aJ G
 refine⟨s.heap.objs.size,_,_,_,_,_,λi=>(bs[i]?).getD true,rfl,Walks.list (A:=X.A.in1) (I.ok.hd hc) s.heap.objs.size l (bY J) (bs.map dS).toArray,⟨⟨_,aK _ rfl,rfl,rfl⟩,?_⟩,?_,λh' tk L=>?_⟩
 ·obtain⟨o,G,c⟩:=E.isList;exact⟨o,aq _ G,c⟩
 ·intro i v s' h o c O;have g:(bs.map dS)[i]?=some v:=by simpa using c
  rw[aD]at g;dsimp only at O;cases e:bs[i]? with
  |none=>rw[e]at g;cases g
  |some k=>
   rw[e]at g O;have:v=dS k:=(bw g).symm;subst this;exact du O
 ·have e : (db (bs.map dS).toArray.size).all (λi => (bs[i]?).getD true) = bs.all id := by
    have g:(bs.map dS).toArray.size=bs.length:=by simp
    rw[g,iQ,cq,cq];constructor
    ·intro hh k L;obtain⟨i,C⟩:=iI L;have:=hh i (fu.mpr (am.mp C).1);rw[C]at this;exact this
    ·intro hh i C;have Y:=fu.mp C;rw[au Y];exact hh _ (cv Y)
  rw[e];exact⟨.bl _,H,I.kept (t':=tk) λb o c=>L b o (by simp;exact bY (aJ c)) (aq _ c),rfl,q⟩
theorem Gr:∀(ns:List Int)(n:Int),ns.foldl max n∈n::ns/\∀a∈n::ns,a<=ns.foldl max n
 |[],n=>⟨by simp,by simp⟩
 |m::ns,n=>by
  obtain⟨u,h⟩:=Gr ns (max n m);rw[xI];refine⟨?_,λa q=>?_⟩
  ·rcases aF.mp u with e|e
   ·rw[e];by_cases o:n<=m
    ·rw[pN o];simp
    ·rw[yY (by ext)];simp
   ·exact aT _ (aT _ e)
  ·have g:=h (max n m) bQ;rcases aF.mp q with e|e
   ·subst e;exact o0 (yZ ..) g
   ·rcases aF.mp e with e|e
    ·subst e;exact o0 (xJ ..) g
    ·exact h a (aT _ e)
theorem L1{g:List ac}{ns:List Int}(h:oB g ns):∃xs,g.toArray=qk xs/\ns=xs.toList.map (·.1):=by obtain⟨xs,e⟩:=h.allInts.items;exact⟨xs,e,by rw[<- h.numsOf,<- nums_intItems,<- e]⟩
theorem RV(hc:X.calm=true):CallR X (.builtin "max") (λxs H Q=>∃(l:af)(n:Int)(ns:List Int),xs=[.ref l]/\ir X.K H l ((n::ns).map V.int)/\Q (.int (ns.foldl max n)) H):=by
 intro E s σ H xs us Q I r h;obtain⟨l,n,ns,rfl,hq,q⟩:=h;obtain⟨u,rfl,Y⟩:=uF r;cases Y;obtain⟨its,c,pl,hz⟩:=I.list hq;obtain⟨ys,e,g⟩:=L1 (K6 c);have G:=pl.isList;rw[e]at G;have hsz:ys.size=ns.length+1:=by have:=bH b6 g;simpa using this.symm
 refine max_intList (I.ok.hd hc) G (by ext) λv h' U hv hk=>?_;obtain⟨t,rfl⟩:=xK hv;obtain⟨b1,O⟩:=argBest_gt (lZ ys) (ys.size-1);obtain⟨L,f2⟩:=Gr ns n;generalize argBest (λi j=>decide (lZ ys i > lZ ys j)) (ys.size-1)=k at b1 O ⊢;have o:lZ ys k∈n::ns:=by rw[g,xL];exact getD_mem (by rw[<- g];simp;ext)
 have C:ns.foldl max n<=lZ ys k:=by rw[g]at L;obtain⟨j,J,ej⟩:=mem_getD L;rw[<- ej,<- xL];exact O j (by rw[<- g]at J;simp at J;ext)
 have hM:lZ ys k=ns.foldl max n:=y9 (f2 _ o) C;rw[hM];exact⟨.int _,H,I.kept (t':=U) hk,⟨t,rfl⟩,q⟩
theorem T4(u:X.calm=true):CallR X (.builtin "all") (CH X.K nY):=(QZ u).of λxs H Q g=>by
 obtain⟨a,v,ρ,st,ds,e,o,h,r,p⟩:=g;unfold nY at p;cases q:iW ds with
 |none=>rw[q]at p;exact p.elim
 |some bs=>
  rw[q]at p;have:=Tz q r;subst this;exact⟨a,bs,e,o,p.ret h _ (.bl _)⟩
theorem Tp(u:X.calm=true):CallR X (.builtin "max") (CH X.K mF):=(RV u).of λxs H Q g=>by
 obtain⟨a,v,ρ,st,ds,e,o,h,r,p⟩:=g;unfold mF at p;cases q:lx ds with
 |none=>rw[q]at p;exact p.elim
 |some ns=>
  rw[q]at p;have:=MC q r;subst this;cases ns with
  |nil=>exact p.elim
  |cons n ns=>exact⟨a,n,ns,e,o,p.ret h _ (.int _)⟩
structure pq(T:String):Prop where
 non:∀K,fk K (.type "NoneType") (.type T)=some (["NoneType"].contains T)
 bl:∀K,fk K (.type "bool") (.type T)=some (["bool","int"].contains T)
 int:∀K,fk K (.type "int") (.type T)=some (["int"].contains T)
 str:∀K,fk K (.type "str") (.type T)=some (["str"].contains T)
 tup:∀K,fk K (.type "tuple") (.type T)=some (["tuple"].contains T)
 lst:∀K,fk K (.type "list") (.type T)=some (["list"].contains T)
theorem QB:pq "int":=⟨λ_=>rfl,λ_=>rfl,λ_=>rfl,λ_=>rfl,λ_=>rfl,λ_=>rfl⟩
theorem Qc:pq "bool":=⟨λ_=>rfl,λ_=>rfl,λ_=>rfl,λ_=>rfl,λ_=>rfl,λ_=>rfl⟩
theorem Xn:pq "str":=⟨λ_=>rfl,λ_=>rfl,λ_=>rfl,λ_=>rfl,λ_=>rfl,λ_=>rfl⟩
theorem Q3:pq "tuple":=⟨λ_=>rfl,λ_=>rfl,λ_=>rfl,λ_=>rfl,λ_=>rfl,λ_=>rfl⟩
theorem Kk{g:List (af×Obj)}{σ:St}{s:ah}{Q:ac->ah->Prop}{t:String}{u:af}{k:Bool}(I:Inv X g σ H s)(q:∃o,s.heap.get? u=some o/\o.cls=.type t)(C:t="tuple"\/t="list")(e:fk X.K (.type t) (.type T)=some k)
  (h:∀v,Q (.bool k) { s with toks:=v }):aA (aP X.prog X.w) X.A (call (.builtin "isinstance") [.ref u,.type T]) Q X.xe s:=by
 rcases C with rfl|rfl
 ·exact cH tj I.kIn q e (λz=>(by cases z)) h
 ·exact cH nG I.kIn q e (λz=>(by cases z)) h
theorem Tc(B:pq T):CallR X (.builtin "isinstance") (λxs H Q=>∃v,xs=[v,.ty T]/\vn X.K (eF [T]) v H Q):=by
 intro J s σ H xs us Q I r G;obtain⟨v,e,ρ,st,d,C,rv,p⟩:=G;subst e;obtain⟨u,w',rfl,E,c⟩:=Vf r;have ew:w'=ff T:=c;subst ew;have g:∀k:Bool,Q (.bl k) H->∀Y,EP X J σ Q (.bool k) { s with toks:=Y }:=λk q Y=>⟨.bl k,H,I.tok Y,rfl,q⟩
 cases rv with
 |non=>
  refine FT I E .non (B.non _) (g _ ?_);simpa [eF,rL] using p.ret C _ (.bl _)
 |bl k=>
  refine FT I E (.bl k) (B.bl _) (g _ ?_);simpa [eF,rL] using p.ret C _ (.bl _)
 |int k=>
  refine FT I E (.int k) (B.int _) (g _ ?_);simpa [eF,rL] using p.ret C _ (.bl _)
 |str k=>
  refine FT I E (.str k) (B.str _) (g _ ?_);simpa [eF,rL] using p.ret C _ (.bl _)
 |tup h r=>
  have U:u=av _:=E;subst U;obtain⟨its,_,⟨o,O,L,_⟩,_⟩:=I.tuple h;refine Kk I ⟨o,O,L⟩ (.inl rfl) (B.tup _) (g _ ?_);simpa [eF,rL] using p.ret C _ (.bl _)
 |lit h r=>
  have U:u=av _:=E;subst U;obtain⟨its,_,pl,_⟩:=I.list h.seq;obtain⟨o,O,L,_⟩:=pl.isList;refine Kk I ⟨o,O,L⟩ (.inr rfl) (B.lst _) (g _ ?_);simpa [eF,rL] using p.ret C _ (.bl _)
 |@ref a n kk h=>
  have U:u=av _:=E;subst U;obtain⟨vs,hv⟩:=Mp kk;obtain⟨its,_,pl,_⟩:=I.list (ir.of hv);obtain⟨o,O,L,_⟩:=pl.isList;refine Kk I ⟨o,O,L⟩ (.inr rfl) (B.lst _) (g _ ?_);simpa [eF,rL] using p.ret C _ (.bl _)
 |_=>exact p.elim
theorem W3{y:Str}{g:Pos}(B:pq T)(hg:Gl X "isinstance")(hm:X.mg "isinstance"=none)(E:Gl X y)(C:X.mg y=none)(o:cN y=some (.type T))(ha:SE X e fa)(c:cN "isinstance"=some (.builtin "isinstance"))
  (u:y≠"__name__":=by decide) (I:(y == ("__debug__":Str))=false:=by decide)
  (J:starEach [e,.Name y g] X.env=(false,eval e X.env)::starEach [.Name y g] X.env:=by rfl) (G:starEach [.Name y g] X.env=(false,eval (.Name y g) X.env)::starEach [] X.env:=by rfl) (q:(backTo pos (starEach [.Name y g] X.env)).any (·.1)=false:=by rfl):
  SE X (.Call (.Name "isinstance" p) [e,.Name y g] [] pos) (c1 (eF [T]) fa):=
 (Bl (Tc B) hg hm c (n8 ha (n8 (L0 (v:=.ty T) E C o rfl u I) qp G) J) (by decide) (by decide) J q).of λσ H Q h_=>h_.el λρ l st Y L p=>⟨ρ,l,st,Y,L,p.bnd.imp λd h ρ1 H1 x1 O g v U=>⟨v,rfl,ρ1,h,d,O,U,g⟩⟩
end
section
variable{X:Cx}{K:aj}{ρ:List af}{H:Hp}{st:aR}{ao:List (af×Obj)}{σ:St}{s:ah}
theorem G7{f:D->D->Option Bool}:∀{xs ys:List D}{r:Bool},ni f xs ys=some r->∀(j:Nat)(x y:D),xs[j]?=some x->ys[j]?=some y->∃k,f x y=some k
 |[],_,_,_,j,x,y,h,_=>by cases j<;>cases h
 |_::_,[],_,_,j,x,y,_,h=>by cases j<;>cases h
 |a::xs,b::ys,r,h,j,x,y,hx,hy=>by
  unfold ni at h;cases e:f a b with
  |none=>rw[e]at h;cases h
  |some k=>
   cases j with
   |zero=>cases hx;cases hy;exact⟨k,e⟩
   |succ j=>
    rw[e]at h;have g:xs[j]?=some x:=hx;have c:ys[j]?=some y:=hy;cases k with
    |true=>exact G7 h j x y g c
    |false=>
     cases o:ni f xs ys with
     |none=>rw[o]at h;cases h
     |some r'=>exact G7 o j x y g c
noncomputable def Bf(f:D->D->Option Bool)(xs ys:List D)(j:Nat):Bool:=match xs[j]?,ys[j]? with
 |some x,some y=>(f x y).getD false
 |_,_=>true
theorem Mi{f:D->D->Option Bool}:∀{xs ys:List D}{r:Bool},ni f xs ys=some r->r=((db (min xs.length ys.length)).all (Bf f xs ys)&&xs.length == ys.length)
 |[],[],_,h=>by cases h;rfl
 |_::_,[],_,h=>by cases h;simp
 |[],_::_,_,h=>by cases h;simp
 |a::xs,b::ys,r,h=>by
  have step:(db (min (a::xs).length (b::ys).length)).all (Bf f (a::xs) (b::ys))=((f a b).getD false&&(db (min xs.length ys.length)).all (Bf f xs ys)):=by
   have e:min (a::xs).length (b::ys).length=min xs.length ys.length+1:=by simp only[cm];ext
   rw[e,sj,bu,so];rfl
  rw[step];unfold ni at h;cases e:f a b with
  |none=>rw[e]at h;cases h
  |some k=>
   rw[e]at h;cases k with
   |true=>
    have:=Mi h;simp only[oK,gL,cm];rw[this];congr 1;rw[iQ];simp
   |false=>
    simp only[oK,gf];cases c:ni f xs ys with
    |none=>rw[c]at h;cases h
    |some r'=>rw[c]at h;cases h;rfl
theorem cB.at{c:List V}{g:List ac}{j:Nat}{u:ac}(r:cB c g)(h:g[j]?=some u):∃v,c[j]?=some v/\RelV v u:=by
 have C:=r.length;have o:j < c.length:=by rw[C];exact (am.mp h).1
 obtain⟨u',e,q⟩:=r.get (au o);rw[h]at e;cases e;exact⟨_,au o,q⟩
theorem bI.at{c:List V}{ds:List D}{j:Nat}{v:V}(r:bI K ρ H c ds)(h:c[j]?=some v):∃d,ds[j]?=some d/\dg K ρ H v d:=by
 have q:=r.length;have g:j < ds.length:=by rw[<- q];exact (am.mp h).1
 obtain⟨u,e,o⟩:=r.get (au g);rw[h]at e;cases e;exact⟨_,au g,o⟩
theorem Nj{g:List D->List D->Option Bool}{v:V}{d e:D}{r:Bool}(I:Inv X ao σ H s)(G:∀xs ys u k,bI X.K ρ H u xs->bI X.K ρ H u ys->g xs ys=some k->k=true)(h:Fg g d e=some r)(q:dg X.K ρ H v d)(o:dg X.K ρ H v e):r=true:=by
 cases d with
 |non=>cases e<;>first|(cases h;rfl)|(cases h;done)|exact nomatch (show v=_ from q.inv).symm.trans (show v=_ from o.inv)|skip
 |bl b=>
  cases e with
  |bl c=>cases (show v=_ from q.inv).symm.trans (show v=_ from o.inv);cases h;simp
  |_=>cases h
 |int b=>
  cases e with
  |int c=>cases (show v=_ from q.inv).symm.trans (show v=_ from o.inv);cases h;simp
  |non=>exact nomatch (show v=_ from q.inv).symm.trans (show v=_ from o.inv)
  |_=>cases h
 |str b=>
  cases e with
  |str c=>cases (show v=_ from q.inv).symm.trans (show v=_ from o.inv);cases h;simp
  |_=>cases h
 |tup xs=>
  obtain⟨a,u,rfl,L,E⟩:=q.inv;cases e with
  |tup ys=>
   obtain⟨Q,O,e,J,C⟩:=o.inv;cases e;have:=I.tuple_inj L J;subst this;exact G _ _ _ _ E C h
  |_=>cases h
 |_=>cases h
theorem K_{f:D->D->Option Bool}(u:∀v d e k,dg K ρ H v d->dg K ρ H v e->f d e=some k->k=true){xs ys:List D}{g:List V}{k:Bool}(q:bI K ρ H g xs)(o:bI K ρ H g ys)(h:ni f xs ys=some k):k=true:=by
 induction xs generalizing ys g k with
 |nil=>cases q;cases o;cases h;rfl
 |cons x xs ih=>
  cases q with
  |cons a b=>cases o with
   |cons c d=>
    unfold ni at h;cases e:f _ _ with
    |none=>rw[e]at h;cases h
    |some k=>
     rw[e]at h;have:=u _ _ _ _ a c e;subst this;exact ih b d h
theorem Nb(I:Inv X ao σ H s):∀(n:Nat){v:V}{d e:D}{r:Bool},uG n d e=some r->dg X.K ρ H v d->dg X.K ρ H v e->r=true
 |0,_,_,_,_,h,r1,r2=>Nj I (λ_ _ _ _ _ _ z=>by cases z) h r1 r2
 |n+1,_,_,_,_,h,r1,r2=>Nj I (λxs ys q k o g z=>K_ (λv d e k a b c=>Nb I n c a b) o g z) h r1 r2
open SeqAt in
noncomputable abbrev RS(A:bn)(s:ah)(g c:ac)(r:Bool):Prop:=RcAt A s g c r/\RcNeAt A s g c (!r)/\EqAt A s g c r
open SeqAt in
theorem Np{g:List D->List D->Option Bool}{A:bn}{v w:V}{C q:ac}{d e:D}{r:Bool}(I:Inv X ao σ H s)(hu:A.units < dM)
  (hg:∀xs ys k,g xs ys=some k->∀u L its c,bI X.K ρ H u xs->bI X.K ρ H L ys->cB u its->cB L c ->
   ∃e:Nat->Bool,k=((db (min its.length c.length)).all e&&its.length == c.length)/\∀(j:Nat)x y,its[j]?=some x->c[j]?=some y->EqAt A.in1 s x y (e j))
  (hs:∀xs ys u k,bI X.K ρ H u xs->bI X.K ρ H u ys->g xs ys=some k->k=true)
  (h:Fg g d e=some r) (G:dg X.K ρ H v d) (E:dg X.K ρ H w e) (v1:RelV v C) (v2:RelV w q):RS A s C q r:=by
 cases d with
 |non=>
  cases (show v=_ from G.inv);cases (show C=bO from v1);cases e with
  |non=>cases (show w=_ from E.inv);cases (show q=bO from v2);cases h;exact⟨.none_none,.none_none,.same _⟩
  |int b=>cases (show w=_ from E.inv);obtain⟨t,rfl⟩:=(show ∃t,q=gR b t from v2);cases h;exact⟨.none_int b t,.none_int b t,.none_int b t⟩
  |_=>cases h
 |bl a=>
  cases e with
  |bl b=>cases (show v=_ from G.inv);cases (show w=_ from E.inv);cases (show C=dS a from v1);cases (show q=dS b from v2);cases h;exact⟨.bool_bool a b,.bool_bool a b,.bool_bool a b⟩
  |_=>cases h
 |int a=>
  cases (show v=_ from G.inv);obtain⟨o,rfl⟩:=(show ∃t,C=gR a t from v1)
  cases e with
  |non=>cases (show w=_ from E.inv);cases (show q=bO from v2);cases h;exact⟨.int_none a o,.int_none a o,.int_none a o⟩
  |int b=>cases (show w=_ from E.inv);obtain⟨t,rfl⟩:=(show ∃t,q=gR b t from v2);cases h;exact⟨.int_int a o b t,.int_int a o b t,.int_int a o b t⟩
  |_=>cases h
 |str a=>
  cases e with
  |str b=>cases (show v=_ from G.inv);cases (show w=_ from E.inv);obtain⟨o,rfl⟩:=(show ∃t,C=gS a t from v1);obtain⟨t,rfl⟩:=(show ∃t,q=gS b t from v2);cases h;exact⟨.str_str a o b t,.str_str a o b t,.str_str a o b t⟩
  |_=>cases h
 |tup xs=>
  obtain⟨l1,u,rfl,h1,q1⟩:=G.inv;cases (show C=av _ from v1);obtain⟨its,rv,p,_⟩:=I.tuple h1;cases e with
  |tup ys=>
   obtain⟨l2,L,rfl,h2,Y⟩:=E.inv;cases (show q=av _ from v2);obtain⟨c,Q,p2,_⟩:=I.tuple h2;obtain⟨ef,ek,he⟩:=hg xs ys r h u L its c q1 Y rv Q;have J:∀j(a1:j < its.toArray.size)(a2:j < c.toArray.size),EqAt A.in1 s its.toArray[j] c.toArray[j] (ef j):=λj a1 a2=>
    he j _ _ (by rw[iK];exact au (by simpa using a1)) (by rw[iK];exact au (by simpa using a2))
   have O:=RcAt.tuples (A:=A) (s:=s) p p2 hu J;have U:=RcNeAt.tuples (A:=A) (s:=s) p p2 hu J;simp only[aH]at O U;rw[<- ek]at O U;refine⟨O,U,?_⟩;by_cases hl:l1=l2
   ·subst hl;have:=I.tuple_inj h1 h2;subst this;rw[hs xs ys u r q1 Y h];exact .same _
   ·exact .of_refs hl O
  |_=>cases h
 |_=>cases h
open SeqAt in
theorem Lr{n:Nat}{A:bn}(I:Inv X ao σ H s)
  (ih:∀{v w:V}{E C:ac}{d e:D}{r:Bool},uG n d e=some r->dg X.K ρ H v d->dg X.K ρ H w e->RelV v E->RelV w C->EqAt A s E C r)
  {xs ys:List D}{k:Bool} (h:ni (uG n) xs ys=some k) {u q:List V}{its c:List ac} (L:bI X.K ρ H u xs) (J:bI X.K ρ H q ys) (G:cB u its) (g:cB q c):
  ∃e:Nat->Bool,k=((db (min its.length c.length)).all e&&its.length == c.length)/\∀(j:Nat)x y,its[j]?=some x->c[j]?=some y->EqAt A s x y (e j):=by
 refine⟨Bf (uG n) xs ys,?_,λj x y hx hy=>?_⟩
 ·have u:=G.length;have q:=g.length;have o:=L.length;have c:=J.length;rw[<- u,<- q,o,c];exact Mi h
 ·obtain⟨v,u,U⟩:=cB.at G hx;obtain⟨w,q,o⟩:=cB.at g hy;obtain⟨d,hd,c⟩:=bI.at L u;obtain⟨e,Q,Y⟩:=bI.at J q;obtain⟨r,O⟩:=G7 h j d e hd Q;have:Bf (uG n) xs ys j=r:=by unfold Bf;rw[hd,Q];dsimp only;rw[O];rfl
  rw[this];exact ih O c Y U o
open SeqAt in
theorem GB(I:Inv X ao σ H s):∀(n:Nat){A:bn}{v w:V}{u q:ac}{d e:D}{r:Bool},A.units+n < dM->uG n d e=some r->dg X.K ρ H v d->dg X.K ρ H w e->RelV v u->RelV w q->RcAt A s u q r/\RcNeAt A s u q (!r)/\EqAt A s u q r
 |0,_,_,_,_,_,_,_,_,hu,h,o,g,v1,v2=>Np I hu (λ_ _ _ z=>by cases z) (λ_ _ _ _ _ _ z=>by cases z) h o g v1 v2
 | n+1, A, _, _, _, _, _, _, _, hu, h, o, g, v1, v2 => Np I (by ext)
   (λxs ys k z L Q its J G E O C=>Lr I (λh o g v1 v2=>(GB I n (A:=A.in1) (by show A.units+1+n < dM;ext) h o g v1 v2).2.2) z G E O C)
   (λxs ys L k G E z=>K_ (λv d e k a b c=>Nb I n c a b) G E z) h o g v1 v2
end
section
variable{X:Cx}{K:aj}{ρ:List af}{H:Hp}{st:aR}{ao:List (af×Obj)}{σ:St}{s:ah}
open SeqAt in
theorem NE(hu:X.A.units+60 < dM)(I:Inv X ao σ H s)(o:SR X.K ρ H st){d e:D}{x y:V}{v u:ac}{R:Bool->aR->List af->Hp->Prop}(Q:dg X.K ρ H x d)(O:dg X.K ρ H y e)(rx:RelV x v)(ry:RelV y u)
  (p:aU X.K ρ H (Gi d e st) R):∃r,R r st ρ H/\RcAt X.A s v u r/\RcNeAt X.A s v u (!r):=by
 have g:X.A.units < dM:=by ext
 have L:aU X.K ρ H ((match uG 50 d e with|some r=>ret r|none=>bad:M Bool) st) R->∃r,R r st ρ H/\RcAt X.A s v u r/\RcNeAt X.A s v u (!r):=λq=>by
  cases h:uG 50 d e with
  |none=>rw[h]at q;exact q.elim
  |some r=>
   rw[h]at q;obtain⟨k1,k2,_⟩:=GB I 50 (A:=X.A) (by ext) h Q O rx ry;exact⟨r,q.ret o,k1,k2⟩
 cases d with
 |non=>
  cases e with
  |ref n=>
   obtain⟨a,rfl,_,h⟩:∃a,y=.ref a/\_/\_:=O.inv;cases (show x=.non from Q.inv);obtain⟨ds,e2,Y⟩:=aU.getL (aU.bnd p) o;obtain⟨a',vs,G,hv,r⟩:=o.seq e2;rw[h]at G;cases G;cases (show v=bO from rx);cases (show u=av a from ry);obtain⟨_,_,C,_⟩:=I.list (ir.of hv);exact⟨false,Y.ret o,.none_list C.isList g,.none_list C.isList g⟩
  |_=>exact L p
 |ref n=>
  cases e with
  |non=>
   obtain⟨a,rfl,_,h⟩:∃a,x=.ref a/\_/\_:=Q.inv;cases (show y=.non from O.inv);obtain⟨ds,e2,Y⟩:=aU.getL (aU.bnd p) o;obtain⟨a',vs,G,hv,r⟩:=o.seq e2;rw[h]at G;cases G;cases (show u=bO from ry);cases (show v=av a from rx);obtain⟨_,_,C,_⟩:=I.list (ir.of hv);exact⟨false,Y.ret o,.list_none C.isList g,.list_none C.isList g⟩
  |ref m=>
   obtain⟨a,rfl,_,h⟩:∃a,x=.ref a/\_/\_:=Q.inv;obtain⟨b,rfl,_,h'⟩:∃a,y=.ref a/\_/\_:=O.inv;obtain⟨xs,e2,Y⟩:=aU.getL (aU.bnd p) o;obtain⟨ys,e3,J⟩:=aU.getL (aU.bnd Y) o;obtain⟨a',vs,G,hv,q1⟩:=o.seq e2;obtain⟨b',ws,hb,hw,q2⟩:=o.seq e3;rw[h]at G;cases G;rw[h']at hb;cases hb;cases (show v=av a from rx);cases (show u=av b from ry);obtain⟨its,rv,C,_⟩:=I.list (ir.of hv);obtain⟨c,U,E,_⟩:=I.list (ir.of hw);have l1:=rv.length;have l2:=U.length;have l3:=q1.length;have l4:=q2.length;by_cases hl:xs.length=ys.length
   ·rw[aG hl]at J;cases u:ni (uG 50) xs ys with
    |none=>rw[u]at J;exact J.elim
    |some r=>
     rw[u]at J;obtain⟨G,ek,Y⟩:=Lr (A:=X.A.in1) I (λh Q O v1 v2=>(GB I 50 (A:=X.A.in1) (by show X.A.units+1+50 < dM;ext) h Q O v1 v2).2.2) u q1 q2 rv U;have hsz:its.toArray.size=c.toArray.size:=by rw[aH,aH];ext
     have q:∀j(L:j < its.toArray.size)(H:j < c.toArray.size),EqAt X.A.in1 s its.toArray[j] c.toArray[j] (G j):=λj L H=>
      Y j _ _ (by rw[iK];exact au (by simpa using L)) (by rw[iK];exact au (by simpa using H))
     have v:(db its.toArray.size).all G=r:=by
      rw[ek,aH];have:its.length=c.length:=by ext
      rw[this];simp
     have k1:=RcAt.lists (A:=X.A) (s:=s) C.isList E.isList hsz g q;have k2:=RcNeAt.lists (A:=X.A) (s:=s) C.isList E.isList hsz g q;rw[v]at k1 k2;exact⟨r,J.ret o,k1,k2⟩
   ·rw[az hl]at J;have h:(its.toArray.size != c.toArray.size)=true:=by rw[aH,aH];simp;ext
    exact⟨false,J.ret o,.lists_lengths C.isList E.isList h g,.lists_lengths C.isList E.isList h g⟩
  |_=>exact L p
 |_=>cases e<;>exact L p
theorem Vt(hu:X.A.units+60 < dM):OpR X (bG .Eq) (nD X.K lq):=by intro ao s σ H x y v u Q I o h c;obtain⟨ρ,st,d,e,g,E,C,p⟩:=c;obtain⟨r,q,G,_⟩:=NE hu I g E C o h p.bnd;exact G _ _ _ _ ⟨.bl r,H,I,rfl,q.ret g _ (.bl _)⟩
theorem OH(hu:X.A.units+60 < dM):OpR X (bG .NotEq) (nD X.K x9):=by intro ao s σ H x y v u Q I o h c;obtain⟨ρ,st,d,e,g,E,C,p⟩:=c;obtain⟨r,q,_,G⟩:=NE hu I g E C o h p.bnd;exact G _ _ _ _ ⟨.bl (!r),H,I,rfl,q.ret g _ (.bl _)⟩
end
section
variable{X:Cx}{a b c e o tg:Expr}{es:List Expr}{pos b3 ap:Pos}{fa fb fc:CE}{ca cb:CA}{ta tb:CT}{K:aj}{ρ:List af}{H:Hp}{st:aR}{x:Str}{p:Pos}{T:String}
theorem UY(ho : SE X o fa)(G : SE X e fb)(u : cR o "append" X.env (eval o X.env) = eval o X.env := by rfl)
  (E:((backTo ap (starEach [e] X.env)).all (λx => !x.1)&&(dZ ap (cz [] X.env)).all (λx=>x.1.isSome)
   && decide ([e].length+([]:List di).length+(if ([]:List di).isEmpty then 0 else 1) < 30))=true:=by rfl)
  (q:(b3.endLine == ap.line)=true:=by rfl) (hs:starEach [e] X.env=(false,eval e X.env)::starEach [] X.env:=by rfl) (g:(backTo ap (starEach [] X.env)).any (·.1)=false:=by rfl):
  SE X (.Call (.Attribute o "append" b3) [e] [] ap) (gX fa fb):=
 (Bt PySem.F.plainAttrs_list PySem.F.slot_list_append PySem.F.type_list_append OG ho (n8 G qp hs) u E q hs g).of λσ H Q h_=>h_.el λρ l st lr sr p=>⟨ρ,l,st,lr,sr,p.bnd.imp λd C ρ1 H1 x1 s1 p1 v rv=>by
  cases d with
  |ref n=>
   obtain⟨a,rfl,kk,h⟩:=rv.inv;have hl:n < C.length:=by rw[<- s1.len];exact (am.mp h).1
   obtain⟨I,U⟩:=Mp kk;refine⟨.inl ⟨rfl,I,ir.of U⟩,ρ1,l,C,lr.mono x1,s1,(aU.bnd p1).imp λy st2 ρ2 H2 x2 J p2 w L=>?_⟩;have h2:ρ2[n]?=some a:=by obtain⟨τ,e,_⟩:=x2.pre;rw[e];exact FG h
   obtain⟨ds,Y,p3⟩:=aU.getL (aU.bnd p2) J;obtain⟨a',vs,G,hv,r⟩:=J.seq Y;rw[h2]at G;cases G;obtain⟨hz,p4⟩:=aU.chk p3;obtain⟨c,x3⟩:=J.put (am.mp Y).1 h2 hv (bI.app r (.cons L .nil));have O:=aU.bnd p4;unfold putL at O;rw[Y]at O;exact⟨a,vs,w,rfl,rfl,hv,by rw[r.length];exact hz,(O ρ2 _ x3 c).ret c _ .non⟩
  |_=>exact p1.elim⟩
theorem Rh:OpR X (eV .Add) (nD X.K cC):=by
 intro g s σ H x y v u Q I o c O;obtain⟨ρ,st,d,e,C,r1,r2,p⟩:=O;cases d with
 |int i=>
  cases e with
  |int j=>
   cases r1.inv;cases r2.inv;exact TW g s σ H _ _ v u Q I o c ⟨i,j,rfl,rfl,p.ret C _ (.int _)⟩
  |_=>exact p.elim
 |str i=>
  cases e with
  |str j=>
   cases r1.inv;cases r2.inv;exact RE g s σ H _ _ v u Q I o c ⟨i,j,rfl,rfl,(aU.chk p).1,(aU.chk p).2.ret C _ (.str _)⟩
  |_=>exact p.elim
 |ref _=>
  cases e with
  |ref _=>
   obtain⟨_,rfl,_,h⟩:=r1.inv;obtain⟨_,rfl,_,h'⟩:=r2.inv;obtain⟨xs,e2,p1⟩:=aU.getL (aU.bnd p) C;obtain⟨ys,e3,U⟩:=aU.getL (aU.bnd p1) C;obtain⟨a',Y,ha,hv,L⟩:=C.seq e2;obtain⟨b',ws,hb,hw,J⟩:=C.seq e3;rw[h]at ha;cases ha;rw[h']at hb;cases hb;obtain⟨hz,p3⟩:=aU.chk U;refine Qu g s σ H _ _ v u Q I o c ⟨_,_,Y,ws,rfl,rfl,hv,hw,by rw[L.length,J.length];exact hz,λq G=>?_⟩;have nq:=C.fresh G;have x1:Ex ρ H (ρ++[q]) (eO H q (.lst (Y++ws))):=Ex.newL G;refine p3 _ _ x1 ((C.new G).keep i5 nq ((bI.app L J).mono (Ex.new G))) _ (.ref ⟨_,i5,rfl⟩ ?_);rw[<- C.len];simp
  |_=>exact p.elim
 |tup xs=>
  cases e with
  |tup ys=>
   obtain⟨a1,Y,rfl,h1,L⟩:=r1.inv;obtain⟨b1,ws,rfl,h2,J⟩:=r2.inv;obtain⟨hz,U⟩:=aU.chk p;by_cases hx:Y=[]
   ·subst hx;cases L;obtain⟨its,v1,ht,_⟩:=I.tuple h1;obtain⟨Q,v2,hb,_⟩:=I.tuple h2;cases v1;have ev:v=av a1:=o;have eu:u=av b1:=c;subst ev eu;obtain⟨⟨cls,dd,data,sl⟩,Y,hc,n,hd⟩:=ht;obtain⟨⟨cls2,O,data2,G⟩,g,q,n2,h⟩:=hb;simp only at hc hd q h;subst hc hd q h;refine vF (E:=X.xe) ⟨_,Y,rfl⟩ ⟨_,g,rfl⟩ qV ur kR kK (kz _ _) (tuple_addW0 a1 b1 _ _ n n2 dd O sl G (by simp)) ⟨Y,g,?_⟩;exact⟨.ref b1,H,I,rfl,U.ret C _ (.tup h2 J)⟩
   ·refine R8 g s σ H _ _ v u Q I o c ⟨_,_,Y,ws,rfl,rfl,h1,h2,hx,by rw[L.length,J.length];exact hz,λh=>?_,λ_ q G=>?_⟩
    ·subst h;cases J;rw[cg]at U;exact U.ret C _ (.tup h1 L)
    ·exact U _ _ (Ex.new G) (C.new G) _ (.tup (i7.of i5) ((bI.app L J).mono (Ex.new G)))
  |_=>exact p.elim
 |_=>cases e<;>exact p.elim
def Kv(K:aj)(f:CO):TO:=λσ H Q=>∃ρ l st,LR K ρ H σ l/\SR K ρ H st/\aU K ρ H (f l st) λo _ _ g=>Q o g
abbrev SO(X:Cx)(e:Option Expr)(f:CO):Prop:=PO X e (Kv X.K f)
theorem To:SO X none iu:=λg s σ H Q I q=>q.el λρ l st u h p=>VI g s σ H Q I (p.ret h)
theorem Rm(h:SE X e fa):SO X (some e) (gJ fa):=λg s σ H Q I L=>L.el λρ l st J C p=>WB h g s σ H Q I ⟨ρ,l,st,J,C,p.bnd.imp λd u ρ1 U O E q v G=>by
 cases d with
 |int i=>cases (show v=.int i from G.inv);exact⟨i,rfl,q.ret E⟩
 |_=>exact q.elim⟩
theorem bI.cut{g:List V}{ds:List D}(r:bI K ρ H g ds)(lo h:Option Int):bI K ρ H (qH g lo h) (cutD ds lo h):=by
 unfold qH cutD;have e:∀n d o,HT.fJ n d o=MM.fJ n d o:=λn d o=>by cases o<;>rfl
 rw[e,e,r.length];exact (r.drop _).take _
theorem Wo{lo hi:Option Expr}{fl fh:CO}{p2:Pos}(h:SE X e fa)(hl:SO X lo fl)(hh:SO X hi fh):SL X (.Subscript e (.Slice lo hi none p2) pos) (ly fa fl fh):=
 (Lb W2 h hl hh).of λσ H Q h_=>h_.el λρ l st lr sr p=>⟨ρ,l,st,lr,sr,p.bnd0.imp λd Y ρ1 H1 E s1 p1 v rv=>⟨ρ1,l,Y,lr.mono E,s1,(p1.bnd0.left E).imp λi U ρ2 H2 I s2 p2=>⟨ρ2,l,U,(lr.mono E).mono I,s2,(p2.bnd0.left (E.trans I)).imp λj O ρ3 H3 x3 J p3=>by
  have c:=(rv.mono I).mono x3;have C:=E.trans (I.trans x3);have G:∀{a:af}{u:List V}{ds:List D},ir X.K H3 a u->bI X.K ρ3 H3 u ds->aU X.K ρ H (ret (cutD ds i j) O) (λds _ ρ' H'=>∀a u,H a=none->a∉ρ'->H' a=some (.lst u)->bI X.K ρ' H' u ds->Q (.ref a) H')->CL X.K (.ref a) i j H3 Q:=λ{a u ds}hs r q=>
   ⟨a,u,rfl,hs,λL g=>by
    have hn:H L=none:=by
     cases z:H L with
     |none=>rfl
     |some o=>exact bp g (C.trk L o z)
    exact q ρ3 _ (C.trans (Ex.new g)) (J.new g) L _ hn (J.fresh g) i5 ((bI.cut r i j).mono (Ex.new g))⟩
  cases c with
  |lit h r=>exact G h.seq r p3
  |ref _ h=>
   obtain⟨ds,e2,p4⟩:=aU.getL (p3.bnd0.left C) J;obtain⟨a',u,ha,hv,r⟩:=J.seq e2;rw[h]at ha;cases ha;exact G (ir.of hv) r p4
  |_=>exact p3.elim⟩⟩⟩
end
open PySem.AutoSeq1 (wpAny_loadPart')
theorem UZ(l:af)(o:Array ac)(n:Nat)(dct:Option af)(E:Array (Option ac)):
  Meets (Builtin.«enumerate.__new__» ⟨[.type "enumerate",.ref l],[]⟩) (λ_ R s=>s.heap.get? l=some { cls:=.type "tuple",dict:=dct,data:=.seq o n,slots:=E } /\
   R (.ok (.ret (.ref (s.heap.push { cls:=.type "tuple_iterator",data:=.fields #[.ref l,.int 0 0] }).objs.size)))
    { s with heap:=(s.heap.push { cls:=.type "tuple_iterator",data:=.fields #[.ref l,.int 0 0] }).push { cls:=.type "enumerate",data:=.fields #[.none,.bool false,.ref s.heap.objs.size,ik 0,.none,.none] } }):=
 .of_wp λprog w A R s h=>by
  obtain⟨G,g,d,C,os⟩:=s;obtain⟨q,h⟩:=h;have u:=sub_enumerate;have v:bh.IsTuple (su ⟨G,g,d,C,os⟩) l o:=⟨_,q,rfl,n,rfl⟩
  wp_walk using g_ q;refine wpAny_stack_any λst=>ai ?_;split
  ·rename_i c _ _ _ _ _;cases (c == ff "enumerate")<;>(wp_walk using g_ q,io v;exact⟨_,rfl,h⟩)
  ·wp_walk using g_ q,io v;exact⟨_,rfl,h⟩
section
variable{prog:Program}{w:bq}{A:bn}{E:ac->ah->Prop}{s:ah}
theorem Vp{l:af}{g:Array ac}{Q:ac->ah->Prop}(H:s.heap.IsTuple l g)
  (h:∀h',IsEnum h' (s.heap.objs.size+1) s.heap.objs.size 0 .none->h'.IsTupleIter s.heap.objs.size l 0->h'.objs.size=s.heap.objs.size+2->(∀b o,s.heap.get? b=some o->h'.get? b=some o)->Q (.ref (s.heap.objs.size+1)) { s with heap:=h' }):
  aA (aP prog w) A (call (.type "enumerate") [.ref l]) Q E s:=by
 obtain⟨⟨c,dct,I,C⟩,G,u,n,hd⟩:=H
 replace u:c=.type "tuple":=u
 replace hd:I=.seq g n:=hd
 subst u hd;refine callType_new F.called_enumerate (by decide) (F.typeCall_enumerate_1 _) (F.newCall_enumerate_1 _) (λobj=>F.args_object_init_2 obj _) F.entry_enumerate_new (UZ l g n dct C) ⟨G,?_⟩;have hz:(s.heap.push { cls:=.type "tuple_iterator",data:=.fields #[.ref l,.int 0 0] }).objs.size=s.heap.objs.size+1:=dq ..
 show _/\_;rw[hz];have v:IsEnum ((s.heap.push { cls:=.type "tuple_iterator",data:=.fields #[.ref l,.int 0 0] }).push { cls:=.type "enumerate",data:=.fields #[.none,.bool false,.ref s.heap.objs.size,ik 0,.none,.none] }) (s.heap.objs.size+1) s.heap.objs.size 0 .none:=by have q:=aK (s.heap.push { cls:=.type "tuple_iterator",data:=.fields #[.ref l,.int 0 0] }) (o:={ cls:=.type "enumerate",data:=.fields #[.none,.bool false,.ref s.heap.objs.size,ik 0,.none,.none] }) rfl;rw[hz]at q;exact q
 exact⟨⟨_,v,rfl⟩,h _ v ⟨_,aq _ (aK _ rfl),rfl,rfl⟩ (by rw[dq,hz]) λb o x=>aq _ (aq _ x)⟩
theorem Xz{h l:af}{i:Nat}{c}{x:ac}{Q:ac->ah->Prop}(g:s.heap.IsTupleIter h l i)(G:s.heap.IsTuple l c)(C:c[i]?=some x)
  (I:∀h',h'.IsTupleIter h l (i+1)->eB h s.heap h'->Q x { s with heap:=h' }):aA (aP prog w) A (bJ (.ref h)) Q E s:=by
 obtain⟨o,q,H,hd⟩:=id g;obtain⟨J,u,_,L,v⟩:=G;unfold bJ;refine aa (cE (name:=ag "__next__") g.typeIs gx (dG gx g.typeIs rA ?_ (qX _)))
 show aA _ _ (tq (.ref h) 0 >>= _) _ _ s;refine aa (cA q hd (x:=.ref l) rfl ?_)
 show aA _ _ (if (av l == bO)=true then _ else _) _ _ s;rw[az (show ¬ ((av l == bO)=true) from aW)]
 show aA _ _ (tq (.ref h) 1 >>= _) _ _ s;refine aa (cA q hd (x:=.int i 0) rfl ?_)
 show aA _ _ (EX (.ref l) >>= _) _ _ s;refine aa (d_ u v ?_);simp only[bE,C];refine aa (kT q hd (by simp) (ai ⟨x,rfl,ai (I _ ⟨_,ce _ q (Obj.isFreed_of_fields (vN hd _)),(Obj.cls_mapFields ..).trans H,?_⟩ (dB ..))⟩));rw[vN hd];simp[ik]
theorem Xq{h l:af}{i:Nat}{c}{Q:ac->ah->Prop}(hh:A.handled=none)(g:s.heap.IsTupleIter h l i)(G:s.heap.IsTuple l c)(C:c[i]?=none)
  (H:∀h' e,tN h s.heap h'->(∃o,h'.get? e=some o/\o.cls=.type "StopIteration")->E (.ref e) { s with heap:=h' }):aA (aP prog w) A (bJ (.ref h)) Q E s:=by
 obtain⟨o,u,L,hd⟩:=id g;obtain⟨I,q,_,J,v⟩:=G;unfold bJ;refine aa (cE (name:=ag "__next__") g.typeIs gx (dG gx g.typeIs rA ?_ (qX _)))
 show aA _ _ (tq (.ref h) 0 >>= _) _ _ s;refine aa (cA u hd (x:=.ref l) rfl ?_)
 show aA _ _ (if (av l == bO)=true then _ else _) _ _ s;rw[az (show ¬ ((av l == bO)=true) from aW)]
 show aA _ _ (tq (.ref h) 1 >>= _) _ _ s;refine aa (cA u hd (x:=.int i 0) rfl ?_)
 show aA _ _ (EX (.ref l) >>= _) _ _ s;refine aa (d_ q v ?_);simp only[bE,C];refine aa (eI (aa (kT u hd (by simp) ?_)));show aA _ _ (newExc (.type "StopIteration") [] >>= _) _ _ _;refine aa ?_;simp only[newExc,newTuple];refine aa (eE ?_ (by size_fits));refine aa (m:=firstArgMember _ _) (wpAny_of_eq (a:=bO) (by first|rfl|(simp only[firstArgMember];rfl)) (eE ?_ (by size_fits)));simp only[raiseNew];refine aa (wpAny_handled ?_);first|rw[show A.in1.handled=none from hh]|rw[hh]
 exact aa (ai (wpAny_throw (H _ _ (((dB ..).extBut.push _).push _) ⟨_,aK _ rfl,rfl⟩)))
end
section
variable{X:Cx}{K:aj}{ρ:List af}{H:Hp}{st:aR}
theorem Wy{v:V}{d:D}(r:dg K ρ H v d):Ar d .non=ret (.bl (decide (v=.non))):=by cases r<;>rfl
theorem QK{v:V}{d:D}(r:dg K ρ H v d):pv d .non=ret (.bl (!decide (v=.non))):=by cases r<;>rfl
theorem Ut:OpR X (bG .Is) (nD X.K Ar):=by
 intro g s σ H x y v u Q I q o c;obtain⟨ρ,st,d,e,h,E,C,p⟩:=c;cases e with
 |non=>
  cases C.inv;refine WC g s σ H x .non v u Q I q o ⟨rfl,?_⟩;rw[Wy E]at p;exact p.ret h _ (.bl _)
 |bl b=>
  cases d with
  |bl a=>
   cases E.inv;cases C.inv;cases (show v=dS a from q);cases (show u=dS b from o);refine wpAny_is_plain rfl ⟨.bl (a == b),H,I,?_,p.ret h _ (.bl _)⟩;cases a<;>cases b<;>rfl
  |_=>exact p.elim
 |_=>cases d<;>exact p.elim
theorem Sb:OpR X (bG .IsNot) (nD X.K pv):=by
 intro g s σ H x y v u Q I q o c;obtain⟨ρ,st,d,e,h,E,C,p⟩:=c;cases e with
 |non=>
  cases C.inv;refine Va g s σ H x .non v u Q I q o ⟨rfl,?_⟩;rw[QK E]at p;exact p.ret h _ (.bl _)
 |bl b=>
  cases d with
  |bl a=>
   cases E.inv;cases C.inv;cases (show v=dS a from q);cases (show u=dS b from o);refine wpAny_isNot_plain rfl ⟨.bl (!(a == b)),H,I,?_,p.ret h _ (.bl _)⟩;cases a<;>cases b<;>rfl
  |_=>exact p.elim
 |_=>cases d<;>exact p.elim
theorem Nt{v:V}{d:D}(r:dg K ρ H v d)(h:ny d=true):ma v=true:=by cases r<;>first|rfl|cases h
theorem Vx{c:List V}{ds:List D}(r:bI K ρ H c ds)(h:ds.all ny=true):c.all ma=true:=by
 induction ds generalizing c with
 |nil=>cases r;rfl
 |cons d ds ih=>
  cases r with
  |cons r t=>
   rw[bu,aI]at h;rw[bu,aI];exact⟨Nt r h.1,ih t h.2⟩
theorem Pn{v w:V}{d e:D}(r:dg K ρ H v d)(q:dg K ρ H w e)(h:ny d=true)(h':ny e=true):wc v w=t8 d e:=by
 cases d<;>first|(cases h;done)|skip
 all_goals have r:=r.inv;cases (show v=_ from r);cases e<;>first|(cases h';done)|skip
 all_goals have q:=q.inv;cases (show w=_ from q);rfl
theorem M3{w:V}{e:D}(q:dg K ρ H w e)(h':ny e=true):∀{c:List V}{ds:List D},bI K ρ H c ds->ds.all ny=true->FV w c=ds.any λd=>t8 d e
 |_,_,.nil,_=>rfl
 |_,_,.cons r t,h=>by rw[bu,aI]at h;have:=M3 q h' t h.2;unfold FV at this ⊢;rw[b9,b9,this,Pn r q h.1 h']
theorem aU.hasK{n:Nat}{k:D}{R:Bool->aR->List af->Hp->Prop}(h:aU K ρ H (MM.hasK n k st) R)(s:SR K ρ H st):∃b c,st[n]?=some (.dct b c)/\sB b k=true/\R (t9 c k).isSome st ρ H:=by obtain⟨b,c,e,o⟩:=aU.getDc (aU.bnd h) s;obtain⟨q,g⟩:=aU.chk o;exact⟨b,c,e,q,g.ret s⟩
theorem _root_.L2.OpR.orO{f:ac->ac->Sem ac}{r C:R2}(h:OpR X f r)(h':OpR X f C):OpR X f (λx y H Q=>r x y H Q\/C x y H Q):=by
 intro c s σ H x y v u Q I o g q;rcases q with q|q
 ·exact h c s σ H x y v u Q I o g q
 ·exact h' c s σ H x y v u Q I o g q
theorem Uv(hu:X.A.units+60 < dM):OpR X (bG .In) (λx y H Q=>∃(ρ:List af)(st:aR)(n:Nat)(a:af)(b:Bool)(g:List (D×D))(k:D),y=.ref a/\SR X.K ρ H st/\ρ[n]?=some a/\st[n]?=some (.dct b g)/\dg X.K ρ H x k/\sB b k=true/\Q (.bl (t9 g k).isSome) H):=by intro h s σ H x y v u Q I E C c;obtain⟨ρ,st,n,a,b,g,k,e,o,O,J,G,L,q⟩:=c;subst e;cases C;exact XD (by ext) I (o.ob n a _ O J) G L E λs' U=>⟨.bl _,H,U,rfl,q⟩
theorem Xy(hu:X.A.units+60 < dM):OpR X (bG .In) (nD X.K Bx):=(Ug.orO (Uv hu)).of λx y H Q o=>by
 obtain⟨ρ,st,d,e,c,E,Y,p⟩:=o;have g:∀{a:af}{u:List V}{ds:List D}(I:ir X.K H a u\/i7 X.K H a u)(r:bI X.K ρ H u ds)(C:aU X.K ρ H (v8 d ds st) λr _ ρ' U=>∀v,dg X.K ρ' U v r->Q v U),Mc X.K false x (.ref a) H Q:=λI r C=>by obtain⟨⟨O,L⟩,p2⟩:=aU.chk C;refine⟨_,_,rfl,I,Nt E O,Vx r L,?_⟩;rw[az (by simp),M3 E O r L];exact p2.ret c _ (.bl _)
 cases Y with
 |tup h r=>exact .inl (g (.inr h) r ((aU.bnd p).ret c))
 |lit h r=>exact .inl (g (.inl h.seq) r ((aU.bnd p).ret c))
 |ref _ h=>
  obtain⟨ds,e2,C⟩:=aU.getL (aU.bnd p) c;obtain⟨a',u,J,hv,r⟩:=c.seq e2;rw[h]at J;cases J;exact .inl (g (.inl (ir.of hv)) r C)
 |@dic a n _ h=>
  obtain⟨b,G,e1,hk,q⟩:=aU.hasK (aU.bnd p) c;exact .inr ⟨ρ,st,n,a,b,G,d,rfl,c,h,e1,E,hk,(q.ret c) _ (.bl _)⟩
 |_=>exact (show False from p).elim
theorem OE:Cr X (BN .USub) (vn X.K vh):=by
 intro g s σ H x v Q I o c;obtain⟨ρ,st,d,h,q,p⟩:=c;cases q with
 |int i=>exact X5 g s σ H _ v Q I o ⟨i,rfl,p.ret h _ (.int _)⟩
 |_=>exact p.elim
end
section
variable{X:Cx}{a b c e o tg:Expr}{es:List Expr}{pos b3 ap:Pos}{fa fb fc:CE}{ca cb:CA}{ta tb:CT}{K:aj}{ρ:List af}{H:Hp}{st:aR}{x:Str}{p:Pos}{T id:String}{body:List Stmt}{cs:CS}
theorem L3{op:UnaryOp}{g:D->M D}(I:Cr X (BN op) (vn X.K g))(J:SE X a fa):SE X (.UnaryOp op a pos) (c1 g fa):=
 (X8 I J).of λσ H Q L=>L.el λρ l st G q p=>⟨ρ,l,st,G,q,p.bnd.imp λd h ρ1 U O u E v C=>⟨ρ1,h,d,u,C,E⟩⟩
theorem W0:CallR X (.type "list") (λxs H Q=>∃v,xs=[v]/\vn X.K tD v H Q):=Pg.of λxs H Q E=>by
 obtain⟨v,e,ρ,st,d,u,O,p⟩:=E;have C:∀{ds:List D}{q:List V}{l:af}(r:bI X.K ρ H q ds)(g:H l=none)(G:aU X.K ρ H (alloc (.lst ds) st) λr _ ρ' J=>∀v,dg X.K ρ' J v r->Q v J),Q (.ref l) (eO H l (.lst q)):=λ{ds q l}r g G=>by have U:=u.fresh g;have L:SR X.K (ρ++[l]) (eO H l (.lst q)) (st++[.lst ds]):=(u.new g).keep i5 U (r.mono (Ex.new g));refine G _ _ (Ex.newL g) L _ (.ref ⟨_,i5,rfl⟩ ?_);rw[<- u.len];simp
 cases O with
 |@tup a q ds h r=>exact⟨a,q,e,.inr h,λl g=>C r g ((aU.bnd p).ret u)⟩
 |@lit a q ds h r=>exact⟨a,q,e,.inl h.seq,λl g=>C r g ((aU.bnd p).ret u)⟩
 |@ref a n _ h=>
  obtain⟨ds,c,G⟩:=aU.getL (aU.bnd p) u;obtain⟨o,q,I,Y,r⟩:=u.seq c;rw[h]at I;cases I;exact⟨a,q,e,.inl (ir.of Y),λl g=>C r g G⟩
 |_=>exact (aU.bnd p).elim
theorem O1{p : Pos}(hg : Gl X "range")(hm : X.mg "range" = none)(h : SE X a fa)(h' : SE X b fb)(G : starEach [a, b] X.env = (false, eval a X.env) :: starEach [b] X.env := by rfl)(E : starEach [b] X.env = (false, eval b X.env) :: starEach [] X.env := by rfl)
  (hs:starEach [a,b] X.env=[(false,eval a X.env),(false,eval b X.env)]:=by rfl) (C:starEach [b] X.env=[(false,eval b X.env)]:=by rfl):SI X tg (.Call (.Name "range" p) [a,b] [] pos) (MM.m7 fa fb):=
 (Te (tg:=tg) (p:=p) (pos:=pos) hg hm (n8 h (n8 h' qp E) G) hs C).of λσ H R h_=>h_.el λρ l st I O p=>⟨ρ,l,st,I,O,p.bnd.imp λd g ρ1 H1 J U o v Y=>⟨ρ1,l,g,I.mono J,U,o.bnd.imp λe L ρ2 H2 x2 Q u w q=>by
  cases d with
  |int i=>
   cases e with
   |int j=>
    cases (show v=.int i from Y.inv);cases (show w=.int j from q.inv);obtain⟨⟨⟨h1,h2⟩,h3,h4⟩,c⟩:=aU.chk u;exact⟨i,j,rfl,⟨h1,h2,h3,h4⟩,c.ret Q _ Oi⟩
   |_=>exact u.elim
  |_=>exact u.elim⟩⟩
end
section
variable{X:Cx}{K:aj}{ρ:List af}{H:Hp}{st:aR}
theorem bI.pick{c:List V}{ds:List D}(i:Nat)(h:bI K ρ H c ds):dg K ρ H (c.getD i .non) (ds.getD i .non):=by
 induction ds generalizing c i with
 |nil=>cases h;exact .non
 |cons d ds ih=>
  cases h with
  |cons r t=>
   cases i with
   |zero=>exact r
   |succ i=>simpa using ih i t
theorem bI.picks{c:List V}{ds:List D}(r:bI K ρ H c ds):∀(p:List Nat),bI K ρ H (p.map λi=>c.getD i .non) (p.map λi=>ds.getD i .non)
 |[]=>.nil
 |i::p=>.cons (bI.pick i r) (bI.picks r p)
theorem Lq{P:Program}{w:bq}{H:Hp}{h:bh}{a:af}{o:HO}(x:dE P w H h a o):∃ob,h.get? a=some ob:=by
 cases o with
 |lst _=>obtain⟨_,_,_,_,e⟩:=x;exact⟨_,e⟩
 |tup _=>obtain⟨_,_,_,ob,e,_⟩:=x;exact⟨_,e⟩
 |dK _=>obtain⟨_,_,_,_,ob,_,_,e,_⟩:=x;exact⟨_,e⟩
 |dT _=>obtain⟨_,_,_,_,ob,_,_,e,_⟩:=x;exact⟨_,e⟩
 |set _ _=>obtain⟨ob,_,_,_,e,_⟩:=x;exact⟨_,e⟩
 |ins _ _ _=>obtain⟨_,_,_,e,_⟩:=x;exact⟨_,e⟩
 |own _=>obtain⟨_,e⟩:=x;exact⟨_,e⟩
 |xd _=>obtain⟨_,⟨_,_,_,e,_⟩,_⟩:=x;exact⟨_,e⟩
 |rng _ _=>obtain⟨_,_,_,e⟩:=x;exact⟨_,e⟩
 |frz _ _=>obtain⟨e,_⟩:=x;exact⟨_,e⟩
 |tbl _=>exact⟨_,(show h.get? a=some _ from x)⟩
 |met _ _=>exact⟨_,(show h.get? a=some _ from x)⟩
 |ext _=>obtain⟨_,⟨_,e⟩,_⟩:=x;exact⟨_,e⟩
end
section
variable{X:Cx}{ao:List (af×Obj)}{σ:St}{H:Hp}{s:ah}{h':bh}{ch:List af}
theorem Us{t':Nat}(I:Inv X ao σ H s)(h:∀b∈ch,oO X ao H b)(keep:∀b o,b∉ch->s.heap.get? b=some o->h'.get? b=some o):Inv X ao σ H { s with heap:=h',toks:=t' }:=by
 have ne:∀b o,H b=some o->b∉ch:=λb o e z=>by rw[(h b z).1]at e;cases e
 have C:X.env.locals∉ch:=λz=>(h _ z).2.1 rfl;refine I.step (g':=s.gens) (d':=s.drawn) (ch:=ch) (λb q=>?_) (λb o _ _ c e _=>keep b o c e) (λb o _ _ c e _=>⟨o.slots,keep b o c e⟩) (λb o _ _ e=>e) (λb o c e=>⟨o,keep b o c e⟩)
  (λb ys e=>e) (λb o ys e=>e) (λb ps e=>⟨#[],by rw[e];simp⟩) (λm v=>?_) ?_ I.bare
 ·obtain⟨U,L,Q,J,G,E⟩:=h b q;exact⟨J,L,G,E⟩
 ·obtain⟨o,es,O,e,r⟩:=v;exact⟨o,es,O,keep _ o C e,r⟩
 ·intro a o e;refine (I.hok a o e).stay (λb u q g=>keep b u ?_ g) (λb g=>g) (λb ys g=>g);rcases q with y|y
  ·rw[y];exact ne a o e
  ·exact ne b _ y
theorem Mm{t':Nat}{T:af}{q:List V}{its:List ac}(I:Inv X ao σ H s)(v:∀b∈ch,oO X ao H b)(keep:∀b o,b∉ch->s.heap.get? b=some o->h'.get? b=some o)(E:s.heap.objs.size<=T)
  (hz:q.length<=sizeLine) (G:cB q its) (J:gn h' T its.toArray):Inv X ao σ (eO H T (.tup q)) { s with heap:=h',toks:=t' }:=by
 have c:H T=none:=I.hok.fresh E;have ne:∀b o,H b=some o->b∉ch:=λb o e z=>by rw[(v b z).1]at e;cases e
 have O:X.env.locals∉ch:=λz=>(v _ z).2.1 rfl;refine I.step (g':=s.gens) (d':=s.drawn) (ch:=ch) (λb C=>?_) (λb o _ _ h e _=>keep b o h e) (λb o _ _ h e _=>⟨o.slots,keep b o h e⟩) (λb o _ e n=>by rw[gm (bY (bf (aJ e) E))];exact n) (λb o h e=>⟨o,keep b o h e⟩)
  (λb ys e=>by rw[gm (pi e c)];exact e) (λb o ys e=>by rw[gm (pi e c)];exact e) (λb ps e=>⟨#[],by rw[gm (pi e c),e];simp⟩) (λm L=>?_) ?_ I.bare
 ·obtain⟨h,c,g,Y,U,Q⟩:=v b C;exact⟨Y,c,U,Q⟩
 ·obtain⟨o,es,c,e,r⟩:=L;exact⟨o,es,c,keep _ o O e,r⟩
 ·intro a o e;by_cases z:a=T
  ·subst z;rw[i5]at e;cases e;exact⟨hz,its,G,J⟩
  ·rw[gm z]at e;refine (I.hok a o e).stay (λb u C g=>keep b u ?_ g) (λb g=>by rw[gm (pi g c)];exact g) (λb ys g=>by rw[gm (pi g c)];exact g);rcases C with y|y
   ·rw[y];exact ne a o e
   ·exact ne b _ y
end
structure Ai(prog:Program)(w:bq)(A:bn)(it src:af)(val:Nat->Option ac)(P:Nat->bh->Prop):Prop where
 there:∀k h,P k h->∃o,h.get? it=some o
 keep:∀k h h',P k h->(∀b,b=it\/b=src->∀o,h.get? b=some o->h'.get? b=some o)->P k h'
 item:∀k x(s:ah)(Q:ac->ah->Prop)(E:ac->ah->Prop),P k s.heap->val k=some x->(∀h',P (k+1) h'->eB it s.heap h'->Q x { s with heap:=h' })->aA (aP prog w) A (bJ (.ref it)) Q E s
 done:∀k(s:ah)(Q:ac->ah->Prop)(E:ac->ah->Prop),P k s.heap->val k=none->(∀h' e,tN it s.heap h'->(∃o,h'.get? e=some o/\o.cls=.type "StopIteration")->E (.ref e) { s with heap:=h' })->aA (aP prog w) A (bJ (.ref it)) Q E s
section
variable{prog:Program}{w:bq}{A:bn}{E:ac->ah->Prop}{s:ah}{z tI tO i1 i2 l1 l2:af}{v1 v2:Nat->Option ac}{P1 P2:Nat->bh->Prop}{k:Nat}{u v:ac}
theorem uw{C g b:af}{val:Nat->Option ac}{P:Nat->bh->Prop}{h h':bh}(S:Ai prog w A C g val P)(x:P k h)(e:tN b h h')(J:C≠b)(I:g≠b):P k h':=
 S.keep k h h' x λc H o G=>e c o (by rcases H with q|q<;>rw[q]<;>assumption) G
theorem Po{a J:af}{c:Array ac}(hh:A.handled=none)(U:a≠J):Ai prog w A J a (λi=>c[i]?) (λi h=>h.IsTupleIter J a i/\h.IsTuple a c) where
 there:=λk h H=>by obtain⟨⟨o,e,_⟩,_⟩:=H;exact⟨o,e⟩
 keep:=λk h h' G kp=>by obtain⟨⟨o,e,r⟩,⟨o',e',u⟩⟩:=G;exact⟨⟨o,kp J (.inl rfl) o e,r⟩,⟨o',kp a (.inr rfl) o' e',u⟩⟩
 item:=λk x s Q E C O v=>by obtain⟨L,I⟩:=C;exact Xz L I O λh' q Y=>v h' ⟨q,I.extBut Y.extBut U⟩ Y
 done:=λk s Q E g O hE=>by obtain⟨L,I⟩:=g;exact Xq hh L I O hE
theorem Sk{Q:ac->ah->Prop}(D:ZipApart z tI tO i1 i2 l1 l2)(H:Ai prog w A i1 l1 v1 P1)(G:Ai prog w A i2 l2 v2 P2)(hz:mY s.heap z tI tO .none)(hi:gB s.heap tI (.ref i1) (.ref i2))(ho:gB s.heap tO u v)
  (p1:P1 k s.heap) (p2:P2 k s.heap) {x y:ac} (hx:v1 k=some x) (hy:v2 k=some y)
  (hQ:∀h',mY h' z tI tO (ik s.heap.objs.size)->gB h' tO x y->P1 (k+1) h'->P2 (k+1) h'->gB h' s.heap.objs.size x y ->
   (∀c o,c≠z->c≠tO->c≠i1->c≠i2->s.heap.get? c=some o->h'.get? c=some o)->Q (.ref s.heap.objs.size) { s with heap:=h' }):
  aA (aP prog w) A (Builtin.«zip.__next__» ⟨[.ref z],[]⟩) (λf s'=>∃r,f=.done (.ret r)/\Q r s') E s:=by
 show aA _ _ (tq (.ref z) 2 >>= _) _ _ _;refine aa (cA hz rfl (x:=.bool false) rfl ?_);show aA _ _ (tq (.ref z) 3 >>= _) _ _ _;refine aa (cA hz rfl (x:=.ref tI) rfl (aa (d_ hi rfl ?_)));show aA _ _ (dU (.ref z) >>= _) _ _ _;refine aa ?_;unfold dU;refine aa (cA hz rfl (x:=.none) rfl (ai ?_));simp only[if_true];refine aa (eI (aa (cA hz rfl (x:=.ref tO) rfl (aa (fU hz (by simp) λha za Y=>?_)))));have za':mY ha z tI tO .ellipsis:=za;refine aa ?_;simp only[v_,xM,cM,y_];refine aa (aa (lG ?_));show aA _ _ (bJ (.ref i1) >>= _) _ _ _;refine aa (H.item k x _ _ _ (uw H p1 Y.extBut D.i1z D.l1z) hx λhb q1 U=>ai ?_);have ob:gB hb tO u v:=U.extBut _ _ D.TOi1 (Y.extBut _ _ D.TOz ho);refine aa (d_ ob rfl (aa (oi ob λC oc sc=>?_)));have oc':gB C tO x v:=oc;refine aa (rp (ai ?_));refine aa (aa (lG ?_));show aA _ _ (bJ (.ref i2) >>= _) _ _ _;have p2c:P2 k C:=uw G (uw G (uw G p2 Y.extBut D.i2z D.l2z) U.extBut D.i12.symm D.l2i1) sc.extBut D.TOi2.symm D.l2TO;refine aa (G.item k y _ _ _ p2c hy λhd q2 O=>ai ?_);have od:gB hd tO x v:=O.extBut _ _ D.TOi2 oc';refine aa (d_ od rfl (aa (oi od λg oe L=>?_)));have oe':gB g tO x y:=oe;refine aa (rp (ai (ai ?_)));refine aa (d_ oe' rfl (aa (wpAny_newTuple ?_)));have h:g.objs.size=s.heap.objs.size:=by rw[L.1,O.1,sc.1,U.1,Y.1]
 have ze:mY g z tI tO .ellipsis:=L.extBut _ _ D.TOz.symm (O.extBut _ _ D.i2z.symm (sc.extBut _ _ D.TOz.symm (U.extBut _ _ D.i1z.symm za')));have all:∀c o,c≠z->c≠tO->c≠i1->c≠i2->s.heap.get? c=some o->g.get? c=some o:=λc o n1 n2 n3 n4 e=>L.extBut _ _ n2 (O.extBut _ _ n4 (sc.extBut _ _ n2 (U.extBut _ _ n3 (Y.extBut _ _ n1 e))));have q1e:P1 (k+1) g:=uw H (uw H (uw H q1 sc.extBut D.TOi1.symm D.l1TO) O.extBut D.i12 D.l1i2) L.extBut D.TOi1.symm D.l1TO;have q2e:P2 (k+1) g:=uw G q2 L.extBut D.TOi2.symm D.l2TO;have I:z < g.objs.size:=aJ ze
 show aA _ _ (kt (.ref z) (.ref g.objs.size) >>= _) _ _ _;refine aa ?_;unfold kt;have zf:mY (g.push { cls:=.type "tuple",data:=.seq #[x,y] }) z tI tO .ellipsis:=aq _ ze;refine aa (fU zf (by simp) λhg zg sg=>?_);have zg':mY hg z tI tO (ik g.objs.size):=zg;refine fU zg' (by simp) λhh zh sh=>?_;have J:mY hh z tI tO (ik g.objs.size):=zh;have up:∀c o,c≠z->g.get? c=some o->hh.get? c=some o:=λc o n1 e=>sh.extBut _ _ n1 (sg.extBut _ _ n1 (aq _ e));have new:gB hh g.objs.size x y:=sh.extBut _ _ (gw I) (sg.extBut _ _ (gw I) (aK _ rfl));rw[h]at J new;refine ai ⟨_,rfl,?_⟩;show Q (.ref g.objs.size) _;rw[h];exact hQ hh J (up _ _ D.TOz oe') (H.keep _ _ _ q1e λc C o e=>up c o (C.elim (λq=>by rw[q];exact D.i1z) (λq=>by rw[q];exact D.l1z)) e) (G.keep _ _ _ q2e λc C o e=>up c o (C.elim (λq=>by rw[q];exact D.i2z) (λq=>by rw[q];exact D.l2z)) e) new λc o n1 n2 n3 n4 e=>up c o n1 (all c o n1 n2 n3 n4 e)
theorem R0{Q:vO->ah->Prop}(D:ZipApart z tI tO i1 i2 l1 l2)(S1:Ai prog w A i1 l1 v1 P1)(U:Ai prog w A i2 l2 v2 P2)(hz:mY s.heap z tI tO .none)(hi:gB s.heap tI (.ref i1) (.ref i2))(ho:gB s.heap tO u v)
  (p1:P1 k s.heap) (p2:P2 k s.heap) (L:v1 k=none\/v2 k=none)
  (hE:∀h' e,(∀c o,c≠z->c≠tO->c≠i1->c≠i2->s.heap.get? c=some o->h'.get? c=some o)->(∃o,h'.get? e=some o/\o.cls=.type "StopIteration")->E (.ref e) { s with heap:=h' }):
  aA (aP prog w) A (Builtin.«zip.__next__» ⟨[.ref z],[]⟩) Q E s:=by
 show aA _ _ (tq (.ref z) 2 >>= _) _ _ _;refine aa (cA hz rfl (x:=.bool false) rfl ?_);show aA _ _ (tq (.ref z) 3 >>= _) _ _ _;refine aa (cA hz rfl (x:=.ref tI) rfl (aa (d_ hi rfl ?_)));show aA _ _ (dU (.ref z) >>= _) _ _ _;refine aa ?_;unfold dU;refine aa (cA hz rfl (x:=.none) rfl (ai ?_));simp only[if_true];refine aa (eI (aa (cA hz rfl (x:=.ref tO) rfl (aa (fU hz (by simp) λha za G=>?_)))));have C:mY ha z tI tO .ellipsis:=za;refine aa ?_;simp only[v_,xM,cM,y_];refine aa (aa (lG ?_));show aA _ _ (bJ (.ref i1) >>= _) _ _ _;have J:P1 k ha:=uw S1 p1 G.extBut D.i1z D.l1z;cases hx:v1 k with
 |none=>
  refine aa (S1.done k _ _ _ J hx λhb e g I=>?_);obtain⟨oe,h,O⟩:=I;have zb:mY hb z tI tO .ellipsis:=g _ _ D.i1z.symm C;have ne:e≠z:=λq=>by rw[q,zb]at h;cases h;simp at O
  exact fU zb (by simp) λhc _ sc=>hE hc e (λc o n1 _ n3 _ q=>sc.extBut _ _ n1 (g _ _ n3 (G.extBut _ _ n1 q))) ⟨oe,sc.extBut _ _ ne h,O⟩
 |some x=>
  have hy:v2 k=none:=L.resolve_left (by rw[hx];simp);refine aa (S1.item k x _ _ _ J hx λhb q1 g=>ai ?_);have ob:gB hb tO u v:=g.extBut _ _ D.TOi1 (G.extBut _ _ D.TOz ho);refine aa (d_ ob rfl (aa (oi ob λhc oc sc=>?_)));refine aa (rp (ai ?_));refine aa (aa (lG ?_));show aA _ _ (bJ (.ref i2) >>= _) _ _ _;have Y:P2 k hc:=uw U (uw U (uw U p2 G.extBut D.i2z D.l2z) g.extBut D.i12.symm D.l2i1) sc.extBut D.TOi2.symm D.l2TO;refine aa (U.done k _ _ _ Y hy λhd e sd H=>?_);obtain⟨oe,h,O⟩:=H;have zd:mY hd z tI tO .ellipsis:=sd _ _ D.i2z.symm (sc.extBut _ _ D.TOz.symm (g.extBut _ _ D.i1z.symm C));have ne:e≠z:=λq=>by rw[q,zd]at h;cases h;simp at O
  exact fU zd (by simp) λhe _ se=>hE he e (λc o n1 n2 n3 n4 q=>se.extBut _ _ n1 (sd _ _ n4 (sc.extBut _ _ n2 (g.extBut _ _ n3 (G.extBut _ _ n1 q))))) ⟨oe,se.extBut _ _ ne h,O⟩
end
def rF(a b:CE):CI:=λl=>bnd (a l) λx=>bnd (b l) λy=>match x,y with
 | .tup ds,.tup es=>ret ⟨ds.zipWith (λp q=>.tup [p,q]) es,d6⟩
 |_,_=>bad
end MM
namespace MM
open PySem
def m4(a b:CE):CE:=λl=>bnd (a l) λx=>match x with
 | .str x=>bnd (b l) λy=>match y with
  | .str y=>ret (.bl (qY x y))
  |_=>bad
 |_=>bad
noncomputable def E7(p:Str×Str×Str):D:=.tup [.str p.1,.str p.2.1,.str p.2.2]
def ox(f:Str->Str->Str×Str×Str)(a b:CE):CE:=λl=>bnd (a l) λx=>match x with
 | .str x=>bnd (b l) λy=>match y with
  | .str y=>chk ((y.length == 0)=false/\x.length<=eQ) (ret (E7 (f x y)))
  |_=>bad
 |_=>bad
def pF(a:CE):CI:=λl=>bnd (a l) λx=>match x with
 | .ref n=>bnd (getL n) λds=>ret ⟨(fO 0 ds.length).zipWith (λi d=>.tup [i,d]) ds,om n ds⟩
 |_=>bad
open PySem.Spec PyProof.Rows L2
def rE(t:Bool)(K:aj)(H:Hp)(a:af)(xs:List V):Prop:=match t with
 |true=>i7 K H a xs
 |false=>ir K H a xs
noncomputable def qy(t:Bool)(h:bh)(a:af)(xs:Array ac):Prop:=match t with
 |true=>h.IsTuple a xs
 |false=>h.IsList a xs
noncomputable def lT(t:Bool)(h:bh)(c a:af)(i:Nat):Prop:=match t with
 |true=>h.IsTupleIter c a i
 |false=>h.IsListIter c a i
noncomputable def AE:Bool->af->Obj
 |true,a=>{ cls:=.type "tuple_iterator",data:=.fields #[.ref a,.int 0 0] }
 |false,a=>{ cls:=.type "list_iterator",data:=.fields #[.ref a,.int 0 0] }
section
variable{prog:Program}{w:bq}{A:bn}{E:ac->ah->Prop}{s:ah}{t u:Bool}{h h':bh}{a b it:af}{xs ys:Array ac}{i:Nat}
theorem qy.there(p:qy t h a xs):∃o,h.get? a=some o:=by cases t<;>(obtain ⟨o,e,_⟩:=p;exact ⟨o,e⟩)
theorem qy.keep(p:qy t h a xs)(k:∀o,h.get? a=some o->h'.get? a=some o):qy t h' a xs:=by cases t<;>(obtain ⟨o,e,r⟩:=p;exact ⟨o,k o e,r⟩)
theorem lT.keep(p:lT t h it a i)(k:∀o,h.get? it=some o->h'.get? it=some o):lT t h' it a i:=by cases t<;>(obtain ⟨o,e,r⟩:=p;exact ⟨o,k o e,r⟩)
theorem lT.obj(p:lT t h it a i):∃o,h.get? it=some o/\∀v,o.data≠.cell v:=by cases t<;>(obtain ⟨o,e,_,d⟩:=p;exact ⟨o,e,λv q=>by rw[d]at q;cases q⟩)
theorem K9(e:h.get? it=some (AE t a)):lT t h it a 0:=by cases t<;>exact⟨_,e,rfl,rfl⟩
theorem qy.ne(p:qy t h a xs)(q:lT u h it b i):a≠it:=λz=>by subst z;cases t<;>cases u<;>obtain⟨o,C,c,_⟩:=p<;>obtain⟨o',g,v,_⟩:=q<;>rw[C]at g<;>cases g<;>rw[c]at v<;>exact bp (tP v) (by decide)
theorem wA(hh:A.handled=none)(G:a≠it):Ai prog w A it a (λi=>xs[i]?) (λi h=>lT t h it a i/\qy t h a xs):=by
 cases t
 ·exact⟨λk h C=>by obtain⟨⟨o,e,_⟩,_⟩:=C;exact⟨o,e⟩,λk h h' v kp=>by obtain⟨p,q⟩:=v;exact⟨lT.keep (t:=false) p (kp it (.inl rfl)),qy.keep (t:=false) q (kp a (.inr rfl))⟩,λk x s Q E g J O=>by obtain⟨I,H⟩:=g;exact wpAny_nextOf_list_item I H J λh' q L=>O h' ⟨q,qy.keep (t:=false) H λo e=>L.extBut a o G e⟩ L,λk s Q E c J U=>by obtain⟨I,H⟩:=c;exact wpAny_nextOf_list_end hh I H J U⟩
 ·exact Po hh G
theorem KO{Q:ac->ah->Prop}(p:qy t s.heap a xs)(c:Q (.ref s.heap.objs.size) { s with heap:=s.heap.push (AE t a) }):aA (aP prog w) A (pyIter (.ref a)) Q E s:=by
 cases t
 ·exact qj p c
 ·exact io p c
theorem wg{X:Cx}{c:List (af×Obj)}{σ:St}{H:Hp}{o:List V}(I:Inv X c σ H s)(q:rE t X.K H a o):∃its,cB o its/\qy t s.heap a its.toArray:=by
 cases t
 ·obtain⟨its,g,p,_⟩:=I.list q;exact⟨its,g,p.isList⟩
 ·obtain⟨its,g,p,_⟩:=I.tuple q;exact⟨its,g,p⟩
theorem Kn{X:Cx}{c:List (af×Obj)}{σ:St}{H:Hp}{o g:List V}(I:Inv X c σ H s)(p:rE t X.K H a o)(q:rE t X.K H a g):o=g:=by
 cases t
 ·exact I.list_inj p q
 ·exact I.tuple_inj p q
abbrev Bi(t:Bool)(h:bh)(a:af):bh:=h.push (AE t a)
abbrev BA(t u:Bool)(h:bh)(a b:af):bh:=(Bi t h a).push (AE u b)
abbrev Bz(t u:Bool)(h:bh)(a b:af):bh:=(BA t u h a b).push { cls:=.type "tuple",data:=.seq #[.ref h.objs.size,.ref (Bi t h a).objs.size] }
abbrev Cu(t u:Bool)(h:bh)(a b:af):bh:=(Bz t u h a b).push { cls:=.type "tuple",data:=.seq #[.none,.none] }
abbrev vV(t u:Bool)(h:bh)(a b:af):bh:=(Cu t u h a b).push { cls:=.type "zip",data:=.fields #[.none,.bool false,.bool false,.ref (BA t u h a b).objs.size,.ref (Bz t u h a b).objs.size] }
theorem Uy(t u:Bool)(a b:af)(xs ys:Array ac):
  Meets (Builtin.«zip.__new__» ⟨[.type "zip",.ref a,.ref b],[]⟩) (λ_ R s=>qy t s.heap a xs/\qy u s.heap b ys/\R (.ok (.ret (.ref (Cu t u s.heap a b).objs.size))) { s with heap:=vV t u s.heap a b }):=
 .of_wp λprog w A R s h=>by
  obtain⟨v,g,d,c,os⟩:=s;obtain⟨I,H,h⟩:=h;have q:=sub_zip;have G:qy t (su ⟨v,g,d,c,os⟩) a xs:=I;have C:qy u (su ⟨v.push (AE t a),g,d,c,os⟩) b ys:=H.keep λo e=>aq _ e
  wp_walk using KO G,KO C
  exact⟨_,rfl,h⟩
theorem Tg{Q:ac->ah->Prop}(Y:qy t s.heap a xs)(U:qy u s.heap b ys)
  (h:∀h',mY h' (s.heap.objs.size+4) (s.heap.objs.size+2) (s.heap.objs.size+3) .none->gB h' (s.heap.objs.size+2) (.ref s.heap.objs.size) (.ref (s.heap.objs.size+1))->gB h' (s.heap.objs.size+3) .none .none ->
   lT t h' s.heap.objs.size a 0->lT u h' (s.heap.objs.size+1) b 0->(∀c o,s.heap.get? c=some o->h'.get? c=some o)->Q (.ref (s.heap.objs.size+4)) { s with heap:=h' }):
  aA (aP prog w) A (call (.type "zip") [.ref a,.ref b]) Q E s:=by
 refine callType_new F.called_zip (by decide) (F.typeCall_zip_2 _ _) (F.newCall_zip_2 _ _) (λobj=>F.args_object_init_3 obj _ _) F.entry_zip_new (Uy t u a b xs ys) ⟨Y,U,?_⟩;have n1:(Bi t s.heap a).objs.size=s.heap.objs.size+1:=dq ..;have n2:(BA t u s.heap a b).objs.size=s.heap.objs.size+2:=by rw[dq,n1]
 have G:(Bz t u s.heap a b).objs.size=s.heap.objs.size+3:=by rw[dq,n2]
 have L:(Cu t u s.heap a b).objs.size=s.heap.objs.size+4:=by rw[dq,G]
 have g:∀{c o},(Cu t u s.heap a b).get? c=some o->(vV t u s.heap a b).get? c=some o:=λe=>aq _ e;have q:∀{c o},(Bz t u s.heap a b).get? c=some o->(vV t u s.heap a b).get? c=some o:=λe=>g (aq _ e);have v:∀{c o},(BA t u s.heap a b).get? c=some o->(vV t u s.heap a b).get? c=some o:=λe=>q (aq _ e);have up1:∀{c o},(Bi t s.heap a).get? c=some o->(vV t u s.heap a b).get? c=some o:=λe=>v (aq _ e);have C:mY (vV t u s.heap a b) (Cu t u s.heap a b).objs.size (BA t u s.heap a b).objs.size (Bz t u s.heap a b).objs.size .none:=aK _ rfl;have H:gB (vV t u s.heap a b) (Bz t u s.heap a b).objs.size .none .none:=g (aK _ rfl);have I:gB (vV t u s.heap a b) (BA t u s.heap a b).objs.size (.ref s.heap.objs.size) (.ref (Bi t s.heap a).objs.size):=q (aK _ rfl);have J:(vV t u s.heap a b).get? (Bi t s.heap a).objs.size=some (AE u b):=v (aK _ (by cases u<;>rfl));have O:(vV t u s.heap a b).get? s.heap.objs.size=some (AE t a):=up1 (aK _ (by cases t<;>rfl))
 show _/\_;rw[n2,G,L]at C;rw[G]at H;rw[n1,n2]at I;rw[n1]at J;rw[L];exact⟨⟨_,C,rfl⟩,h _ C I H (K9 O) (K9 J) λc o e=>up1 (aq _ e)⟩
theorem Wd{Q:ac->ah->Prop}(p:qy t s.heap a xs)(h:∀h',IsEnum h' (s.heap.objs.size+1) s.heap.objs.size 0 .none->lT t h' s.heap.objs.size a 0->(∀b o,s.heap.get? b=some o->h'.get? b=some o)->Q (.ref (s.heap.objs.size+1)) { s with heap:=h' }):
  aA (aP prog w) A (call (.type "enumerate") [.ref a]) Q E s:=by
 cases t
 ·exact call_enumerate_list p λh' a b _ c=>h h' a b c
 ·exact Vp p λh' a b _ c=>h h' a b c
theorem R6(t:Bool)(hh:A.handled=none)(c:a≠it)(xs:Array ac):Draws prog w A it [it,a] xs.size (λi v=>xs[i]?=some v) (λi h=>lT t h it a i/\qy t h a xs) where
 live:=λi h st=>(wA (prog:=prog) (w:=w) hh c).there i h st
 frame:=λi h h' st G=>(wA (prog:=prog) (w:=w) hh c).keep i h h' st λb H o e=>G b (by rcases H with q|q<;>rw[q]<;>simp) o e
 item:=λi s Q E g st I=>(wA hh c).item i xs[i] s Q E st (by simp[g]) λh' p C=>I _ h' s.toks (by simp[g]) p C
 done:=λs Q E st J=>(wA hh c).done xs.size s Q E st (by simp) J
end
def AD(t u:Bool)(K:aj)(a b:af):It:=
 ⟨λi H=>∃xs ys x y,rE t K H a xs/\rE u K H b ys/\xs[i]?=some x/\ys[i]?=some y,
  λi H r c=>∃T x y,r=.ref T/\H T=none/\(∀xs,rE t K H a xs->xs[i]?=some x)/\(∀ys,rE u K H b ys->ys[i]?=some y)/\c=eO H T (.tup [x,y]),
  λi H=>∃xs ys,rE t K H a xs/\rE u K H b ys/\(xs.length<=i\/ys.length<=i)⟩
def Ap(t:Bool)(K:aj)(a:af):It:=
 ⟨λi H=>∃xs x,rE t K H a xs/\xs[i]?=some x,λi H x c=>∃T v,x=.ref T/\H T=none/\(∀xs,rE t K H a xs->xs[i]?=some v)/\c=eO H T (.tup [.int i,v]),λi H=>∃xs,rE t K H a xs/\xs.length<=i⟩
def Dj(t u:Bool)(z g c q o a b:af)(i:Nat)(h:bh):Prop:=mY h z g c .none/\gB h g (.ref q) (.ref o)/\(∃u v,gB h c u v)/\lT t h q a i/\lT u h o b i
section
variable{X:Cx}{tg:Expr}{es:List Expr}{pos:Pos}{fa fb:CE}{K:aj}{ρ:List af}{H:Hp}{st:aR}{t u:Bool}
theorem M4{z C g G E a b:af}{i:Nat}{h:bh}(p:Dj t u z C g G E a b i h){c:af}(I:c∈[z,C,g,G,E]):∃o,h.get? c=some o/\∀v,o.data≠.cell v:=by
 obtain⟨U,Q,⟨u,v,O⟩,L,J⟩:=p;simp only[aF,c_,or_false]at I;rcases I with e|e|e|e|e<;>subst e
 ·exact⟨_,U,λv q=>by cases q⟩
 ·exact⟨_,Q,λv q=>by cases q⟩
 ·exact⟨_,O,λv q=>by cases q⟩
 ·exact L.obj
 ·exact J.obj
theorem Ul{P:Program}{w:bq}{k:Nat}{z J tO i1 i2 a b:af}(D:ZipApart z J tO i1 i2 a b):sA P w K (.Tuple es k pos) (AD t u K a b) [z,J,tO,i1,i2] z (Dj t u z J tO i1 i2 a b) where
 mem:=by simp
 obj:=λi h p c q=>M4 p q
 keep:=λi h h' pq92 kp=>by obtain⟨C,h2,⟨u,v,h3⟩,h4,h5⟩:=pq92;exact⟨kp z (by simp) _ C,kp J (by simp) _ h2,⟨u,v,kp tO (by simp) _ h3⟩,h4.keep λo e=>kp i1 (by simp) o e,h5.keep λo e=>kp i2 (by simp) o e⟩
 item:=by
  intro X hP hw hK q i G s σ H E I hf p0 hg;obtain⟨C,h2,⟨u0,v0,h3⟩,h4,h5⟩:=id p0;subst hP hw hK;obtain⟨xs,ys,x,y,qa,qb,hx,hy⟩:=hg;obtain⟨its,rv,p⟩:=wg I qa;obtain⟨its2,L,p2⟩:=wg I qb;obtain⟨ux,hux,rux⟩:=rv.get hx;obtain⟨uy,huy,ruy⟩:=L.get hy;have U:s.TypeIs (.ref z) "zip":=⟨_,C,rfl⟩
  unfold vD;refine aa (lH (cE (name:=ag "__next__") U mq (dG mq U A_ (Sk D (wA (I.ok.hd q) D.l1i1) (wA (I.ok.hd q) D.l2i2) C h2 h3 ⟨h4,p⟩ ⟨h5,p2⟩ (x:=ux) (y:=uy) (by simpa using hux) (by simpa using huy) λh' g1 g2 g3 g4 g5 g7=>ai ?_) (zc _))));refine⟨_,rfl,wpAny_letOwnedTupleGo_zip g1 λY k1 k2=>?_⟩;have zlt:z < s.heap.objs.size:=aJ C;have keep:∀c o,c∉[z,J,tO,i1,i2]->s.heap.get? c=some o->Y.get? c=some o:=λc o q e=>by simp only[aF,c_,or_false,not_or]at q;exact (k2.2 c q.1).trans (g7 c o q.1 q.2.2.1 q.2.2.2.1 q.2.2.2.2 e)
  have U:gB Y s.heap.objs.size ux uy:=(k2.2 _ (gw zlt)).trans g5;have I2:Inv X G σ (eO H s.heap.objs.size (.tup [x,y])) { s with heap:=Y,toks:=s.toks }:=Mm (its:=[ux,uy]) I hf keep (ax _) (by show 2<=sizeLine;decide) (.cons rux (.cons ruy .nil)) ⟨_,U,rfl,⟨_,rfl⟩,rfl⟩;refine⟨.ref s.heap.objs.size,_,I2,rfl,⟨_,x,y,rfl,I.hok.fresh (ax _),λzs Q=>by rw[Kn I Q qa];exact hx,λzs Q=>by rw[Kn I Q qb];exact hy,rfl⟩,
   ⟨k1,(k2.2 J D.TIz).trans (g7 J _ D.TIz D.TITO D.TIi1 D.TIi2 h2),⟨_,_,(k2.2 tO D.TOz).trans g2⟩,g3.1.keep λo e=>(k2.2 i1 D.i1z).trans e,g4.1.keep λo e=>(k2.2 i2 D.i2z).trans e⟩,λc q=>?_⟩
  obtain⟨o,eo,_⟩:=M4 p0 q;rw[gm (bY (aJ eo))];exact (hf c q).1
 done:=by
  intro X hP hw hK q i G s σ H E I hf O hg;obtain⟨C,h2,⟨u,v,h3⟩,h4,h5⟩:=O;subst hP hw hK;obtain⟨xs,ys,qa,qb,hl⟩:=hg;obtain⟨its,rv,p⟩:=wg I qa;obtain⟨its2,L,p2⟩:=wg I qb;have l1:=rv.length;have l2:=L.length;have U:s.TypeIs (.ref z) "zip":=⟨_,C,rfl⟩
  unfold vD;refine aa (lH (cE (name:=ag "__next__") U mq (dG mq U A_ (R0 D (wA (I.ok.hd q) D.l1i1) (wA (I.ok.hd q) D.l2i2) C h2 h3 ⟨h4,p⟩ ⟨h5,p2⟩ ?_ λh' e g ⟨o,q1,q2⟩=>?_) (zc _))))
  ·rcases hl with hl|hl
   ·exact .inl (by simp;ext)
   ·exact .inr (by simp;ext)
  ·refine aa (gM (T:="StopIteration") (b:=true) ⟨o,q1,q2⟩ isSubtype_stop (ai ⟨rfl,Us (t':=s.toks) I hf λc o q e=>?_⟩));simp only[aF,c_,or_false,not_or]at q;exact g c o q.1 q.2.2.1 q.2.2.2.1 q.2.2.2.2 e
 self:=λ_ _ _ _ _ pq94 h=>by obtain⟨C,_⟩:=pq94;exact EY C h
theorem VY{P:Program}{w:bq}{k:Nat}(a e L:af)(hei:e≠L):sA P w K (.Tuple es k pos) (Ap t K a) [e,L] e (λi h=>(∃g,IsEnum h e L i g)/\lT t h L a i) where
 mem:=by simp
 obj:=λi h pq95 b C=>by
  obtain⟨⟨g,G⟩,c⟩:=pq95;simp only[aF,c_,or_false]at C;rcases C with z|z<;>subst z
  ·exact⟨_,G,λv q=>by cases q⟩
  ·exact c.obj
 keep:=λi h h' pq96 kp=>by obtain⟨⟨g,G⟩,c⟩:=pq96;exact⟨⟨g,kp e (by simp) _ G⟩,c.keep λo x=>kp L (by simp) o x⟩
 item:=by
  intro X hP hw hK hc i J s σ H E I hf U hg;obtain⟨⟨g,G⟩,c⟩:=U;subst hP hw hK;obtain⟨xs,x,hq,hx⟩:=hg;obtain⟨its,rv,p⟩:=wg I hq;obtain⟨u,hu,ru⟩:=rv.get hx;have hlt:i < its.toArray.size:=by rw[aH];exact (am.mp hu).1
  have hae:a≠e:=λz=>by subst z;cases t<;>obtain⟨o',e2,c',_⟩:=p<;>rw[G]at e2<;>cases e2<;>exact bp (tP c') (by decide)
  refine wpAny_pyNext_enum_itemD (R6 t (prog:=X.prog) (w:=X.w) (A:=X.A.in1) (I.ok.hd hc) (p.ne c) its.toArray) G ⟨c,p⟩ hlt hei (by simp;exact⟨hei,hae.symm⟩) λy h' tk hP ho hst hT hsz hk=>?_;have ey:y=u:=by
   have:its.toArray[i]?=some u:=by simpa using hu
   rw[this]at hP;cases hP;rfl
  subst ey;refine⟨_,rfl,wpAny_letOwnedTupleGo_enum ho λh2 he2 Y=>?_⟩;have O:e < s.heap.objs.size:=aJ G;have hT2:h2.get? s.heap.objs.size=some { cls:=.type "tuple",data:=.seq #[.int i tk,y] }:=(Y.2 _ (gw O)).trans hT;have I2:Inv X J σ (eO H s.heap.objs.size (.tup [.int i,x])) { s with heap:=h2,toks:=tk+1 }:=Mm (its:=[.int i tk,y]) I hf (λb o C e1=>by simp only[aF,c_,or_false,not_or]at C;exact (Y.2 b C.1).trans (hk b o C.1 C.2 e1)) (ax _) (by show 2<=sizeLine;decide) (.cons ⟨tk,rfl⟩ (.cons ru .nil)) ⟨_,hT2,rfl,⟨_,rfl⟩,rfl⟩
  refine⟨.ref s.heap.objs.size,_,I2,rfl,⟨_,x,rfl,I.hok.fresh (ax _),λys hy=>by rw[Kn I hy hq];exact hx,rfl⟩,⟨⟨y,by simpa using he2⟩,hst.1.keep λo e=>(Y.2 L hei.symm).trans e⟩,λb C=>?_⟩;rw[gm]
  ·exact (hf b C).1
  ·simp only[aF,c_,or_false]at C;rcases C with z|z<;>subst z
   ·exact bY O
   ·obtain⟨o,g,_⟩:=c.obj;exact bY (aJ g)
 done:=by
  intro X hP hw hK hc i J s σ H E I hf Q hg;obtain⟨⟨g,G⟩,c⟩:=Q;subst hP hw hK;obtain⟨xs,hq,hx⟩:=hg;obtain⟨its,rv,p⟩:=wg I hq;obtain⟨g0,g1,g2,g3,g4,g5⟩:=hf L (by simp);have hl:=rv.length;have hT:s.TypeIs (.ref e) "enumerate":=⟨_,G,rfl⟩
  unfold vD;refine aa (lH (cE (name:=ag "__next__") hT uM (dG uM hT F.entry_enumerate_next ?_ (F.args_enumerate_next_1 _))))
  show aA _ _ (tq (.ref e) 2 >>= _) _ _ _;refine aa (cA G rfl (x:=.ref L) rfl ?_);refine aa ((wA (A:=X.A.in1) (I.ok.hd hc) (p.ne c)).done i _ _ _ ⟨c,p⟩ (by simp;ext) λh' x he' pq97=>?_);obtain⟨o,ho,hc'⟩:=pq97;exact aa (gM (T:="StopIteration") (b:=true) ⟨o,ho,hc'⟩ isSubtype_stop (ai ⟨rfl,I.turned (t':=s.toks) (λb o C e=>he' b o C e) g0 g1 g3 g4 g5⟩))
 self:=λ_ _ _ _ _ pq98 h=>by obtain⟨⟨g,G⟩,_⟩:=pq98;exact BU G h
theorem Vg{a b:Expr}{ta:TA}{p G:Pos}{k:Nat}(hg:Gl X "zip")(hm:X.mg "zip"=none)(ha:PA X [a,b] ta)(hs:starEach [a,b] X.env=[(false,eval a X.env),(false,eval b X.env)])(J:starEach [b] X.env=[(false,eval b X.env)]):
  PI X (.Tuple es k G) (.Call (.Name "zip" p) [a,b] [] pos) (λσ H R=>ta σ H λvs E=>∃C v xs ys,vs=[.ref C,.ref v]/\rE t X.K E C xs/\rE u X.K E v ys/\R (AD t u X.K C v) E):=by
 intro g s σ H R I h;refine Call_ (zQ I hg hm boot_zip (d7 (fE (ha pos g s σ H _ I h) λus c Y=>?_) (by rw[hs,J]) (by rw[J];rfl)));obtain ⟨vs,E,O,r1,q1⟩:=Y;obtain⟨C,v,xs,ys,e,hx,hy,q⟩:=q1;subst e;cases r1 with
 |cons r rr=>
  cases rr with
  |cons r' rr=>
   cases rr;cases r;cases r';obtain⟨its,rv,p1⟩:=wg O hx;obtain⟨its2,rv2,p2⟩:=wg O hy;have U:C < c.heap.objs.size:=by obtain⟨o,e⟩:=p1.there;exact aJ e
   have Q:v < c.heap.objs.size:=by obtain⟨o,e⟩:=p2.there;exact aJ e
   refine Tg p1 p2 λh' g1 g2 g3 g4 g5 g7=>EY g1 ?_;have I2:Inv X g σ E { c with heap:=h' }:=O.kept (t':=c.toks) g7;refine⟨c.heap.objs.size+4,[c.heap.objs.size+4,c.heap.objs.size+2,c.heap.objs.size+3,c.heap.objs.size,c.heap.objs.size+1],_,AD t u X.K C v,E,rfl,I2,Ul (zipApart_new U Q),⟨g1,g2,⟨_,_,g3⟩,g4,g5⟩,λb hb=>?_,q⟩;have L:c.heap.objs.size<=b:=by simp only[aF,c_,or_false]at hb;rcases hb with e|e|e|e|e<;>rw[e]<;>ext
   exact O.fpOk L (O.hok.fresh L)
theorem XM{b:Expr}{L:TA}{p o:Pos}{k:Nat}(hg:Gl X "enumerate")(hm:X.mg "enumerate"=none)(ha:PA X [b] L)(hs:starEach [b] X.env=[(false,eval b X.env)]):
  PI X (.Tuple es k o) (.Call (.Name "enumerate" p) [b] [] pos) (λσ H R=>L σ H λJ v=>∃a xs,J=[.ref a]/\rE t X.K v a xs/\R (Ap t X.K a) v):=by
 intro g s σ H R I h;refine Call_ (zQ I hg hm boot_enumerate (d7 (fE (ha pos g s σ H _ I h) λus c G=>?_) hs rfl));obtain ⟨J,v,C,Y,q1⟩:=G;obtain⟨a,xs,e,hq,hR⟩:=q1;subst e;obtain⟨u,rfl,U⟩:=uF Y;cases U;obtain⟨its,rv,p1⟩:=wg C hq;refine Wd p1 λh' O E kp=>BU O ?_;have I2:Inv X g σ v { c with heap:=h' }:=C.kept (t':=c.toks) kp;refine⟨c.heap.objs.size+1,[c.heap.objs.size+1,c.heap.objs.size],_,Ap t X.K a,v,rfl,I2,VY a (c.heap.objs.size+1) c.heap.objs.size (Nat.succ_ne_self _),⟨⟨_,O⟩,E⟩,λb Q=>?_,hR⟩;have q:c.heap.objs.size<=b:=by simp only[aF,c_,or_false]at Q;rcases Q with e|e<;>rw[e]<;>ext
 exact C.fpOk q (C.hok.fresh q)
def E5:Bool->D->M (List D×(aR->Prop))
 |true,.tup ds=>ret (ds,d6)
 |false,.ref n=>bnd (getL n) λds=>ret (ds,om n ds)
 |_,_=>bad
theorem aU.sqx{α:Type}{d:D}{v:V}{f:List D×(aR->Prop)->M α}{R:α->aR->List af->Hp->Prop}(p:aU K ρ H (MM.bnd (E5 t d) f st) R)(O:dg K ρ H v d)(G:SR K ρ H st):
  ∃a g ds I,v=.ref a/\rE t K H a g/\aU K ρ H (f (ds,I) st) R/\∀ρ' o c,Ex ρ H ρ' o->SR K ρ' o c->(t=false->I c)->∃q,rE t K o a q/\bI K ρ' o q ds:=by
 cases t
 ·cases d with
  |ref n=>
   obtain⟨a,rfl,Q⟩:∃a,v=.ref a/\ρ[n]?=some a:=by cases O with|@ref a m _ h=>exact⟨_,rfl,h⟩
   obtain⟨ds,q,u⟩:=aU.getL (aU.bnd (aU.bnd p)) G;obtain⟨a1,U,E,g,r⟩:=G.seq q;rw[Q]at E;cases E;refine⟨a,U,ds,om n ds,rfl,ir.of g,u.ret G,λρ' o c x s' I=>?_⟩;obtain⟨τ,eτ,_⟩:=x.pre;obtain⟨H,J,C,L,Y⟩:=s'.seq (I rfl);rw[eτ,FG Q]at C;cases C;exact⟨J,ir.of L,Y⟩
  |_=>exact p.elim
 ·cases d with
  |tup ds=>
   obtain⟨a,g,rfl,h,r⟩:∃a g,v=.ref a/\i7 K H a g/\bI K ρ H g ds:=by cases O with|tup h r=>exact⟨_,_,rfl,h,r⟩
   exact⟨a,g,ds,d6,rfl,h,(aU.bnd p).ret G,λρ' o c x s' _=>⟨g,i7.mono x.up h,r.mono x⟩⟩
  |_=>exact p.elim
def SF(t u:Bool)(P Q:aR->Prop):aR->Prop:=match t,u with
 |true,true=>d6
 |false,true=>P
 |true,false=>Q
 |false,false=>λs=>P s/\Q s
def xV(t u:Bool)(a b:CE):CI:=λl=>bnd (a l) λx=>bnd (b l) λy=>bnd (E5 t x) λp=>bnd (E5 u y) λq=>ret ⟨p.1.zipWith (λp q=>.tup [p,q]) q.1,SF t u p.2 q.2⟩
def sH(t:Bool)(a:CE):CI:=λl=>bnd (a l) λx=>bnd (E5 t x) λp=>ret ⟨(fO 0 p.1.length).zipWith (λi d=>.tup [i,d]) p.1,p.2⟩
theorem Uq{a b:Expr}{p G:Pos}{k:Nat}(t u:Bool)(hg:Gl X "zip")(hm:X.mg "zip"=none)(h:SE X a fa)(h':SE X b fb)(he1:starEach [a,b] X.env=(false,eval a X.env)::starEach [b] X.env)(he2:starEach [b] X.env=(false,eval b X.env)::starEach [] X.env)
  (hs:starEach [a,b] X.env=[(false,eval a X.env),(false,eval b X.env)]) (hs2:starEach [b] X.env=[(false,eval b X.env)]):SI X (.Tuple es k G) (.Call (.Name "zip" p) [a,b] [] pos) (xV t u fa fb):=
 (Vg (t:=t) (u:=u) hg hm (n8 h (n8 h' qp he2) he1) hs hs2).of λσ H R h_=>h_.el λρ l st lr sr p=>⟨ρ,l,st,lr,sr,p.bnd.imp λd U ρ1 H1 x1 s1 p1 v rv=>⟨ρ1,l,U,lr.mono x1,s1,p1.bnd.imp λe st2 ρ2 H2 x2 Y p2 w rw'=>by
  obtain⟨a1,ws,ds,sm,rfl,q1,p3,J⟩:=aU.sqx p2 (rv.mono x2) Y;obtain⟨a2,Q,E,sm2,rfl,q2,p4,I⟩:=aU.sqx p3 rw' Y;refine⟨a1,a2,ws,Q,rfl,q1,q2,p4.ret Y _ ?_⟩;intro ρ3 H3 st3 x3 s3 sm3;obtain⟨g,C,r3⟩:=J ρ3 H3 st3 x3 s3 λe=>by subst e;cases u<;>first|exact sm3.1|exact sm3
  obtain⟨c,q,r4⟩:=I ρ3 H3 st3 x3 s3 λe=>by subst e;cases t<;>first|exact sm3.2|exact sm3
  have l1:=r3.length;have l2:=r4.length;refine⟨⟨g,c,C,q,?_⟩,λi d hd=>?_⟩
  ·show g.length<=(ds.zipWith _ E).length\/c.length<=(ds.zipWith _ E).length;rw[eA];ext
  ·rw[lO]at hd;cases L:ds[i]? with
   |none=>rw[L]at hd;cases hd
   |some d1=>
    cases v:E[i]? with
    |none=>rw[L,v]at hd;cases hd
    |some d2=>
     rw[L,v]at hd;have ed:d=.tup [d1,d2]:=(bw hd).symm;subst ed;obtain⟨v1,J,u⟩:=r3.get L;obtain⟨v2,I,h⟩:=r4.get v;refine⟨⟨g,c,v1,v2,C,q,J,I⟩,λy H4 o=>?_⟩;obtain⟨T,x,y',ey,Q,Y,U,eH⟩:=o;subst ey eH;have H:=Y g C;have G:=U c q;rw[J]at H;cases H;rw[I]at G;cases G;have O:Ex ρ3 H3 ρ3 (eO H3 T (.tup [v1,v2])):=Ex.new Q;exact⟨O,s3.new Q,.tup (i7.of i5) (.cons (u.mono O) (.cons (h.mono O) .nil))⟩⟩⟩
theorem Ml{b:Expr}{p g:Pos}{k:Nat}(t:Bool)(hg:Gl X "enumerate")(hm:X.mg "enumerate"=none)(h:SE X b fa)(O:starEach [b] X.env=[(false,eval b X.env)]):SI X (.Tuple es k g) (.Call (.Name "enumerate" p) [b] [] pos) (sH t fa):=
 (XM (t:=t) hg hm (n8 h qp O) O).of λσ H R h_=>h_.el λρ l st lr sr p=>⟨ρ,l,st,lr,sr,p.bnd.imp λd u ρ1 H1 x1 L p1 v C=>by
  obtain⟨a1,Y,ds,sm,rfl,q1,p3,k1⟩:=aU.sqx p1 C L;refine⟨a1,Y,rfl,q1,p3.ret L _ ?_⟩;intro ρ2 H2 st2 x2 s2 sm2;obtain⟨q,E,r⟩:=k1 ρ2 H2 st2 x2 s2 λ_=>sm2;have hl:=r.length;have len:((fO 0 ds.length).zipWith (λi d=>D.tup [i,d]) ds).length=ds.length:=by simp[fO]
  refine⟨⟨q,E,by rw[len,hl];exact ax _⟩,λi d I=>?_⟩;have G:i < ds.length:=by rw[<- len];exact (am.mp I).1
  have ed:d=.tup [.int i,ds[i]]:=by rw[lO,fO,aD,gz G,au G]at I;have:=bw I;rw[<- this];simp
  subst ed;obtain⟨v,o,C⟩:=r.get (au G);refine⟨⟨q,v,E,o⟩,λy H3 c=>?_⟩;obtain⟨T,w,ey,Q,hw,eH⟩:=c;subst ey eH;have U:=hw q E;rw[o]at U;cases U;have J:Ex ρ2 H2 ρ2 (eO H2 T (.tup [.int i,v])):=Ex.new Q;exact⟨J,s2.new Q,.tup (i7.of i5) (.cons (.int _) (.cons (C.mono J) .nil))⟩⟩
theorem Fe{α β:Type}{m:M α}{f g:α->M β}(h:∀x s,f x s=g x s){s:aR}:bnd m f s=bnd m g s:=by unfold bnd;cases m s<;>first|rfl|exact h _ _
theorem S0:rF fa fb=xV true true fa fb:=by
 funext l s;refine Fe λx s=>Fe λy s=>?_;cases x<;>first|rfl|skip
 cases y<;>rfl
theorem TR:ml fa=sH true fa:=by funext l s;refine Fe λx s=>?_;cases x<;>rfl
theorem WO:pF fa=sH false fa:=by
 funext l s;refine Fe λx s=>?_;cases x<;>first|rfl|skip
 rename_i n
 show bnd (getL n) _ s=bnd (bnd (getL n) _) _ s;unfold bnd;cases getL n s<;>rfl
end



































end MM
namespace MM
open PySem PyProof.Rows L2
def iw:D->M D
 | .int i=>chk (i.natAbs.log2 < 1920) (ret (.str (ag (toString i))))
 |_=>bad
def oy:D->M D
 | .str x=>match intText? x with
  |some n=>chk (x.length<=640) (ret (.int n))
  |none=>bad
 |_=>bad
def vi:D->D->M D
 | .str x,.str y=>ret (.bl (!(ki y x 0 y.length 1).isEmpty))
 |_,_=>bad
section
variable{X:Cx}
theorem Pb:CallR X (.type "str") (λxs H Q=>∃v,xs=[v]/\vn X.K iw v H Q):=Ur.of λxs H Q z=>by
 obtain⟨v,e,ρ,st,d,c,g,p⟩:=z;cases g with
 |int i=>
  obtain⟨hz,h⟩:=aU.chk p;exact⟨i,e,hz,h.ret c _ (.str _)⟩
 |_=>exact p.elim
theorem Wp:CallR X (.type "int") (λxs H Q=>∃x n,xs=[.str x]/\intText? x=some n/\x.length<=640/\Q (.int n) H):=by intro c s σ H xs v Q I r h;obtain⟨x,n,rfl,g,o,q⟩:=h;obtain⟨u,rfl,t,rfl⟩:=uF r;exact PySem.W.KIN.call_text g o ⟨.int n,H,I.tok _,⟨_,rfl⟩,q⟩
theorem VG:CallR X (.type "int") (λxs H Q=>∃v,xs=[v]/\vn X.K oy v H Q):=Wp.of λxs H Q z=>by
 obtain⟨v,e,ρ,st,d,g,h,p⟩:=z;cases h with
 |str x=>
  cases c:intText? x with
  |none=>unfold oy at p;dsimp only at p;rw[c]at p;exact p.elim
  |some n=>
   unfold oy at p;dsimp only at p;rw[c]at p;obtain⟨hz,o⟩:=aU.chk p;exact⟨x,n,e,c,hz,o.ret g _ (.int _)⟩
 |_=>exact p.elim
theorem Vy:OpR X (bG .In) (nD X.K vi):=Xa.of λx y H Q z=>by
 obtain⟨ρ,st,d,e,g,h,c,p⟩:=z;cases h with
 |str a=>
  cases c with
  |str b=>exact⟨a,b,rfl,rfl,p.ret g _ (.bl _)⟩
  |_=>exact p.elim
 |_=>first|exact p.elim|(cases c<;>exact p.elim)
end
section
open PySem.Builtin.Str
variable{prog:Program}{w:bq}{A:bn}{E:ac->ah->Prop}{s:ah}
theorem U8{x y:Str}{t u:Tok}{Q:ac->ah->Prop}(o:(y.length == 0)=false)(hsz:x.length+2<=sizeLine)
  (h:∀l k,l.map (·.1)=fS x y->Q (.ref s.heap.objs.size) { s with heap:=s.heap.push { cls:=.type "list",data:=.seq (strValues l).toArray },toks:=k }):
  aA (aP prog w) A (call (.builtin "str.split") [.str x t,.str y u]) Q E s:=by
 have q:(partsBetween x (occurrences x y 0 x.length (x.length+1)) y.length).length<=sizeLine:=by have v:=StrLaws.occ_length_le x y 0 x.length (x.length+1);rw[length_partsBetween];ext
 cases c:(decide (x.length < y.length)||decide (strKind x < strKind y)) with
 |true=>exact kS ql (iZ _ _ _) pR (o6 _ _) (meets_str_split_cannot_occur x y t u c) (h [(x,t)] s.toks (aG c).symm)
 |false=>
  cases g:(occurrences x y 0 x.length (x.length+1)).isEmpty with
  |true=>exact kS ql (iZ _ _ _) pR (o6 _ _) (meets_str_split_not_found x y t u c o g) (h [(x,t)] s.toks ((az (ne_true_of_eq_false c)).trans (aG g)).symm)
  |false=>
   refine kS ql (iZ _ _ _) pR (o6 _ _) (meets_str_split_sep x y t u c o g (by ext) q) ?_
   show wants Q E _ { s with toks:=_,heap:=s.heap.push { cls:=.type "list",data:=.seq (strsFrom s.toks (partsBetween x (occurrences x y 0 x.length (x.length+1)) y.length)).toArray } };rw[strsFrom_eq];exact h (numbered s.toks _) _ ((numbered_texts _ _).trans ((az (ne_true_of_eq_false c)).trans (az (ne_true_of_eq_false g))).symm)
end
section
variable{X:Cx}
theorem MZ:∀l:List (Str×Tok),L2.cB ((l.map (·.1)).map V.str) (strValues l)
 |[]=>.nil
 |p::l=>.cons ⟨p.2,rfl⟩ (MZ l)
def zJ:V->List V->Hp->VK->Prop:=λx c H Q=>∃a b,x=.str a/\c=[.str b]/\(b.length == 0)=false/\a.length+2<=sizeLine/\(fS a b).length<=sizeLine/\∀l,H l=none->Q (.ref l) (eO H l (.lst ((fS a b).map V.str)))
theorem Ta:Be X "str.split" zJ:=by intro g s σ H x U v Y Q I C E h;obtain⟨a,b,rfl,rfl,L,O,J,q⟩:=h;obtain⟨t,rfl⟩:=C;obtain⟨u,rfl,G⟩:=E.one;obtain⟨t',rfl⟩:=G;refine U8 L O λl k e=>?_;have c:=MZ l;rw[e]at c;exact⟨.ref s.heap.objs.size,_,I.laid (t':=k) (o:=.lst ((fS a b).map V.str)) (λb o e=>aq _ e) (ax _) ⟨by rw[ae];exact J,_,0,c,aK _ rfl⟩,rfl,q _ (I.hok.fresh (ax _))⟩
theorem K2:∀{ys:List Str}{c:List ac},L2.cB (ys.map V.str) c->StrsAre c ys
 |[],_,.nil=>.nil
 |y::ys,_,.cons r t=>by obtain⟨k,e⟩:=r;subst e;exact .cons y k (K2 t)
def CZ(K:aj):V->List V->Hp->VK->Prop:=λx c H Q=>∃(a:Str)(p:af)(ys:List Str),x=.str a/\c=[.ref p]/\ir K H p (ys.map V.str)/\(ys.map (·.length)).sum+ys.length*a.length<=16777216/\Q (.str (qZ a ys)) H
theorem Pc:Be X "str.join" (CZ X.K):=by intro g s σ H x O v U Q I C E h;obtain⟨a,p,ys,rfl,rfl,L,hz,q⟩:=h;obtain⟨t,rfl⟩:=C;obtain⟨u,rfl,G⟩:=E.one;cases G;obtain⟨its,c,J,_⟩:=I.list L;exact join_list J.isList (K2 c) hz λt' k=>⟨.str _,H,I.kept (t':=k) (λb o e=>e),⟨_,rfl⟩,q⟩
end
noncomputable def gU:List D->Option (List Str)
 |[]=>some []
 | .str x::ds=>(gU ds).map (x::·)
 |_::_=>none
def kP(a b:CE):CE:=λl=>bnd (a l) λx=>match x with
 | .str x=>bnd (b l) λy=>match y with
  | .str y=>chk ((y.length == 0)=false/\x.length+2<=eQ/\(fS x y).length<=eQ) (alloc (.lst ((fS x y).map .str)))
  |_=>bad
 |_=>bad
def m8(a b:CE):CE:=λl=>bnd (a l) λx=>match x with
 | .str x=>bnd (b l) λy=>match y with
  | .ref n=>bnd (getL n) λds=>match gU ds with
   |some ys=>chk ((ys.map (·.length)).sum+ys.length*x.length<=16777216) (ret (.str (qZ x ys)))
   |none=>bad
  |_=>bad
 |_=>bad
section
variable{X:Cx}{K:aj}{ρ:List af}{H:Hp}{st:aR}
theorem NT:∀ys:List Str,bI K ρ H (ys.map V.str) (ys.map D.str)
 |[]=>.nil
 |y::ys=>.cons (.str y) (NT ys)
theorem W7{ds:List D}{ys:List Str}{c:List V}(h:gU ds=some ys)(r:bI K ρ H c ds):c=ys.map V.str:=by
 induction ds generalizing ys c with
 |nil=>cases r;cases h;rfl
 |cons d ds ih=>
  cases r with
  |cons a t=>
   cases a with
   |str x=>
    unfold gU at h;cases e:gU ds with
    |none=>rw[e]at h;cases h
    |some zs=>
     rw[e]at h;cases h;rw[ih e t];rfl
   |_=>cases h
theorem Q_{o e : Expr}{fa fb : CE}{h c : Pos}(ho : SE X o fa)(ha : SE X e fb)(C : cR o "split" X.env (eval o X.env) = eval o X.env := by rfl)
  (E:((backTo c (starEach [e] X.env)).all (λx => !x.1)&&(dZ c (cz [] X.env)).all (λx=>x.1.isSome)&&decide ([e].length+([]:List di).length+(if ([]:List di).isEmpty then 0 else 1) < 30))=true:=by rfl)
  (u:(h.endLine == c.line)=true:=by rfl) (hs:starEach [e] X.env=(false,eval e X.env)::starEach [] X.env:=by rfl) (g:(backTo c (starEach [] X.env)).any (·.1)=false:=by rfl):
  SE X (.Call (.Attribute o "split" h) [e] [] c) (kP fa fb):=
 (Bt fD PySem.F.slot_str_split PySem.F.type_str_split Ta ho (n8 ha qp hs) C E u hs g).of λσ H Q h_=>h_.el λρ l st lr sr p=>⟨ρ,l,st,lr,sr,p.bnd.imp λd I ρ1 H1 x1 s1 p1 v rv=>by
  cases rv with
  |str x=>
   refine⟨rfl,ρ1,l,I,lr.mono x1,s1,(aU.bnd p1).imp λy G ρ2 H2 x2 J p2 w L=>?_⟩;cases L with
   |str y=>
    obtain⟨⟨hb,Y,U⟩,p3⟩:=aU.chk p2;refine⟨x,y,rfl,rfl,hb,Y,U,λq O=>?_⟩;have nl:=J.fresh O;have s3:SR X.K (ρ2++[q]) (eO H2 q (.lst ((fS x y).map V.str))) (G++[.lst ((fS x y).map D.str)]):=(J.new O).keep i5 nl (NT _);refine p3 _ _ (Ex.newL O) s3 _ (.ref ⟨_,i5,rfl⟩ ?_);rw[<- J.len];simp
   |_=>exact p2.elim
  |_=>exact p1.elim⟩
theorem Q6{o e : Expr}{fa fb : CE}{h c : Pos}(ho : SE X o fa)(G : SE X e fb)(u : cR o "join" X.env (eval o X.env) = eval o X.env := by rfl)
  (C:((backTo c (starEach [e] X.env)).all (λx => !x.1)&&(dZ c (cz [] X.env)).all (λx=>x.1.isSome)&&decide ([e].length+([]:List di).length+(if ([]:List di).isEmpty then 0 else 1) < 30))=true:=by rfl)
  (q:(h.endLine == c.line)=true:=by rfl) (hs:starEach [e] X.env=(false,eval e X.env)::starEach [] X.env:=by rfl) (g:(backTo c (starEach [] X.env)).any (·.1)=false:=by rfl):
  SE X (.Call (.Attribute o "join" h) [e] [] c) (m8 fa fb):=
 (Bt fD PySem.F.slot_str_join PySem.F.type_str_join Pc ho (n8 G qp hs) u C q hs g).of λσ H Q h_=>h_.el λρ l st Y sr p=>⟨ρ,l,st,Y,sr,p.bnd.imp λd I ρ1 H1 x1 s1 U v rv=>by
  cases rv with
  |str x=>
   refine⟨rfl,ρ1,l,I,Y.mono x1,s1,(aU.bnd U).imp λy st2 ρ2 H2 x2 J O w L=>?_⟩;cases L with
   |@ref b m kk2 hb=>
    obtain⟨ds,e2,E⟩:=aU.getL (aU.bnd O) J;obtain⟨a',vs,G,hv,r⟩:=J.seq e2;rw[hb]at G;cases G;cases es:gU ds with
    |none=>rw[es]at E;exact E.elim
    |some ys=>
     rw[es]at E;obtain⟨hz,p4⟩:=aU.chk E;have ev:=W7 es r;subst ev;exact⟨x,b,ys,rfl,rfl,ir.of hv,hz,p4.ret J _ (.str _)⟩
   |_=>exact O.elim
  |_=>exact U.elim⟩
end
abbrev CF:=Str->Loc->M D
noncomputable def signs(x:Str):List D:=x.cps.toList.map λc=>.str ⟨#[c]⟩
def uZ(a:CE):CI:=λl=>bnd (a l) λx=>match x with
 | .str x=>chk (x.cps.all (· < 128)=true) (ret ⟨signs x,d6⟩)
 |_=>bad
noncomputable def Iq(x:Str):It where
 go:=λi _=>∃c,x.cps[i]?=some c
 yld:=λi H v g=>g=H/\∃c,x.cps[i]?=some c/\v=.str ⟨#[c]⟩
 stop:=λi _=>x.cps[i]?=none
theorem PM{P:Program}{w:bq}{K:aj}{tg:Expr}(x:Str)(t:Tok)(q:af):sA P w K tg (Iq x) [q] q (λi h=>h.IsStrIter q "str_ascii_iterator" x t i) where
 mem:=by simp
 obj:=λi h st b u=>by
  have e:b=q:=by simpa using u
  subst e;obtain⟨o,e,c,d⟩:=st;exact⟨o,e,λv z=>by rw[d]at z;cases z⟩
 keep:=λi h h' st k=>by obtain⟨o,e,r⟩:=st;exact⟨o,k q (by simp) o e,r⟩
 item:=by intro X O J Q hc i g s σ H E I G st L;subst O J Q;obtain⟨c,hx⟩:=L;obtain⟨f0,f1,f2,f3,Y,U⟩:=G q (by simp);refine wpAny_pyNext_ascii_item st hx λh' C sb=>?_;have I1:Inv X g σ H { s with heap:=h',toks:=s.toks+1 }:=I.turned (t':=s.toks+1) (λb o u e=>(sb.2 b u).trans e) f0 f1 f3 Y U;obtain⟨o,e,cl,d⟩:=id C;exact⟨_,rfl,FX (s:={ s with heap:=h',toks:=s.toks+1 }) e cl d (by decide) ⟨.str ⟨#[c]⟩,H,I1,⟨_,rfl⟩,⟨rfl,c,hx,rfl⟩,C,λb u=>(G b u).1⟩⟩
 done:=by intro X O J Q hc i g s σ H E I G st L;subst O J Q;obtain⟨f0,f1,f2,f3,Y,U⟩:=G q (by simp);exact wpAny_pyNext_ascii_end (I.ok.hd hc) st L λh' eb=>⟨rfl,I.turned (t':=s.toks) (λb o u e=>eb b o u e) f0 f1 f3 Y U⟩
 self:=λ_ _ _ _ _ st h=>wpAny_pyIter_striter_ascii st h
section
variable{X:Cx}{K:aj}{tg e:Expr}{fa:CE}{te:TE}
theorem Sr(G:PE X e te):PI X tg e (λσ H R=>te σ H λx C=>∃z,x=.str z/\z.cps.all (· < 128)=true/\R (Iq z) C):=by
 intro c s σ H R I h;refine fE (G c s σ H _ I h) λv g y=>?_;obtain⟨x,C,u,E,z,rfl,hz,q⟩:=y;obtain⟨t,rfl⟩:=E;refine wpAny_pyIter_ascii hz ?_;refine⟨g.heap.objs.size,[g.heap.objs.size],_,_,C,rfl,u.kept (t':=g.toks) λb o e=>aq _ e,PM z t _,⟨_,aK _ rfl,rfl,rfl⟩,λb J=>?_,q⟩;have L:b=g.heap.objs.size:=by simpa using J
 subst L;exact u.fpOk (ax _) (u.hok.fresh (ax _))
theorem RG{ρ0:List af}{u:Hp}{x:Str}:Cm K ρ0 u ⟨signs x,d6⟩ (Iq x):=λρ H st y s _=>by
 refine⟨?_,λi d e=>?_⟩
 ·show x.cps[(signs x).length]?=none;unfold signs;simp
 ·unfold signs at e;rw[aD,lF]at e;cases g:x.cps[i]? with
  |none=>rw[g]at e;cases e
  |some c=>
   rw[g]at e;cases e;refine⟨⟨c,g⟩,λv E z=>?_⟩;obtain⟨q,C,h,o⟩:=z;subst q;rw[g]at h;cases h;subst o;exact⟨Ex.refl,s,.str _⟩
theorem Ss(h:SE X e fa):SI X tg e (uZ fa):=(Sr h).of λσ H R G=>G.el λρ l st E o p=>⟨ρ,l,st,E,o,p.bnd.imp λd g ρ1 J I q c v u=>by
 cases u with
 |str x=>
  obtain⟨hz,C⟩:=aU.chk c;exact⟨x,rfl,hz,C.ret q _ RG⟩
 |_=>exact c.elim⟩
end
end MM
namespace MM
open PySem PySem.StrLaws Builtin.Str
structure Av(y:Str)(m k:Nat):Prop where
 lt:k < y.length
 at_:y.cps.toList[k]?=some m
 un:∀j,y.cps.toList[j]?=some m->j=k
 kind:ll y<=1
theorem At.mark{x y:Str}{m k i:Nat}(h:Av y m k)(a:At x y x.length i):x.cps.toList[i+k]?=some m:=by
 have e:=a.2;rw[subAt_eq,beq_iff_eq]at e;have c:((x.cps.toList.drop i).take y.length)[k]?=some m:=by rw[e];exact h.at_
 rw[kL h.lt,nR]at c;exact c
theorem ip{l r:List Nat}{a t:Nat}(e:l.drop a=r):l[a+t]?=r[t]?:=by rw[<- e,nR]
theorem qw(p:Str):p.cps.toList.length=p.length:=by simp[qW]
theorem Og{x y:Str}{m k:Nat}(u:Av y m k): ∀(ps:List Str)(a:Nat)(g:List Nat)(f:Nat),ps≠[]->(∀p∈ps,m∉p.cps.toList)->x.cps.toList.drop a=(iO y ps).cps.toList->a<=x.length ->
  ChainG x y x.length a g f->(∀j,f<=j->¬ At x y x.length j)->partsFrom x y.length a g=ps
 |[],_,_,_,h,_,_,_,_,_=>bp rfl h
 |[p],a,g,f,_,hp,e,ha,hc,hf=>by
  have no:∀j,a<=j->¬ At x y x.length j:=λj J C=>by have o:=At.mark u C;rw[show j+k=a+(j-a+k) by ext,ip e]at o;exact hp p (by simp) (bo o)
  cases g with
  |cons c r=>exact bp hc.2.1 (no c hc.1)
  |nil=>
   show [kU x a x.length]=[p]
   congr 1;apply uu;apply o7.mp;rw[strSub_toList,e];have H:(x.cps.toList.drop a).length=p.cps.toList.length:=by rw[e];rfl
   rw[cO,qw]at H;exact fF (EU H.symm)
 |p::q::r,a,g,f,_,hp,e,ha,hc,hf=>by
  have L:(iO y (p::q::r)).cps.toList=p.cps.toList++(y.cps.toList++(iO y (q::r)).cps.toList):=by show (p++y++iO y (q::r)).cps.toList=_;rw[kA,kA];simp
  rw[L]at e;have G:=qw p;have E:=qw y;have Q:∀t,x.cps.toList[a+t]?=_:=λt=>ip e;have I:x.length=a+p.length+y.length+(iO y (q::r)).length:=by have:=bH b6 e;rw[cO,aV,aV,qw,qw,qw,qw]at this;have:=u.lt;ext
  have v:At x y x.length (a+p.length):=by refine⟨by ext,?_⟩;rw[subAt_eq,beq_iff_eq,<- qG,e,<- G,ku,<- E,ky]
  have no:∀j,a<=j->j < a+p.length->¬ At x y x.length j:=λj J U C=>by
   have o:=At.mark u C;rw[show j+k=a+(j-a+k) by ext,Q]at o;by_cases Y:j-a+k < p.length
   ·rw[aL (by ext)]at o;exact hp p (by simp) (bo o)
   ·have:=u.lt;rw[a_ (by ext),aL (by ext)]at o;have:=u.un _ o;ext
  cases g with
  |nil=>
   have:f=a:=hc;exact bp v (hf _ (by ext))
  |cons c cs=>
   have O:c=a+p.length:=by
    rcases o8 c (a+p.length) with h|h|h
    ·exact bp hc.2.1 (no c hc.1 h)
    ·exact h
    ·exact bp v (hc.2.2.1 _ (by ext) h)
   subst O
   show kU x a (a+p.length)::partsFrom x y.length (a+p.length+y.length) cs=_;congr 1
   ·apply uu;apply o7.mp;rw[strSub_toList,e,show a+p.length-a=p.cps.toList.length by ext,ky]
   ·refine Og u (q::r) _ cs f (by simp) (λz hz=>hp z (aT _ hz)) ?_ (by ext) hc.2.2.2 hf;rw[<- qG,<- qG,e,<- G,ku,<- E,ku]
theorem XX(x:Str):1<=ll x:=by
 unfold ll;split
 ·exact ax _
 ·split<;>decide
theorem Bj{y:Str}{m k:Nat}(h:Av y m k){ps:List Str}(o:ps≠[])(u:∀p∈ps,m∉p.cps.toList):fS (qZ y ps) y=ps:=by
 have H:qZ y ps=iO y ps:=glued_eq_join y ps;rw[H];generalize g:iO y ps=x;have J:=XX x;obtain⟨f,G,v⟩:=occ_tight x y (by have:=h.lt;ext);have c:=Og h ps 0 _ f o u (by rw[g];rfl) (bL _) G v;unfold fS;split
 ·rename_i E;rw[gN,decide_eq_true_eq,decide_eq_true_eq]at E;have I:x.length < y.length:=by have:=h.kind;ext
  match ps,o,g with
  |[p],_,g=>rw[<- g];rfl
  |p::q::r,_,g=>
   have:x.length=(p++y++iO y (q::r)).length:=by rw[<- g];rfl
   rw[wa,wa]at this;ext
 ·split
  ·rename_i C;rw[List.isEmpty_iff.mp C]at c;have:[kU x 0 x.length]=ps:=c;rw[sub_whole]at this;exact this
  ·rw[partsBetween_eq];exact c
end MM
namespace MM
noncomputable def sv(m:Nat):List Nat:=(db 4).filter λi=>m.testBit i
open PySem PySem.W PyProof.Rows L2
def tb(c:Bool)(m:Nat):SetTable:=⟨7,(sv m).toArray,#[],0,c,0,true⟩
end MM
namespace MM
open PySem
def qB(x f:Str):D->M D
 | .exn y [.str g,d]=>chk (y=x/\g=f) (ret d)
 |_=>bad
def mZ(xs:List Str)(b:Str->Bool):D->M D
 | .exn x _=>chk (x∈xs) (ret (.bl (b x)))
 |_=>bad
open PyProof.Rows
noncomputable def n5(h:bh)(C N:af)(bm:List ac)(u:Str->Option ac):Prop:=
 (∃o q bs g sub L c J I H G E v,h.get? C=some (eP o q C N bs bm true g sub L c J I H G E v "ValueError.__new__"))/\h.Ns N u
noncomputable def fv:List ac:=[.type "ValueError",.type "Exception",.type "BaseException",.type "object"]
structure r6(h:bh)(C N P NP:af)(mN mP:Str->Option ac):Prop where
 c:n5 h C N (.ref P::fv) mN
 p:n5 h P NP fv mP
section
variable{prog:Program}{w:bq}{A:bn}{E:ac->ah->Prop}{s:ah}{C N P NP e:af}{mN mP:Str->Option ac}{bm:List ac}{name:Str}
theorem Ez{h:bh}{a:af}(z:h.objs.size<=a):h.get? a=none:=by
 cases e:h.get? a with
 |none=>rfl
 |some o=>exact bp (bf (aJ e) z) (cY _)
theorem Jd{Q:Option ac->ah->Prop}(x:n5 s.heap C N bm mN)(q:Q (mN name) s):aA (aP prog w) A (tu (.ref C) name) Q E s:=by obtain⟨⟨v,u,bs,o,sub,Y,c,U,L,J,I,H,G,g⟩,ns⟩:=x;obtain⟨h,O,d,t,os⟩:=s;exact wpAny_classOwn_exc g ns q
theorem FY{Q:List ac->ah->Prop}(x:n5 s.heap C N bm mN)(q:Q (.ref C::bm) s):aA (aP prog w) A (mroOf (.ref C)) Q E s:=by obtain⟨⟨v,u,bs,o,sub,Y,c,U,L,J,I,H,G,g⟩,ns⟩:=x;obtain⟨h,O,d,t,os⟩:=s;exact wpAny_mroOf_exc g q
theorem Ae{base:ac}{Q:Bool->ah->Prop}(x:n5 s.heap C N bm mN)(q:Q ((av C::bm).contains base) s):aA (aP prog w) A (isSubtype (.ref C) base) Q E s:=by obtain⟨⟨v,u,bs,o,sub,Y,c,U,L,J,I,H,G,g⟩,ns⟩:=x;obtain⟨h,O,d,t,os⟩:=s;exact kD g q
theorem T_{v:ac}{Q:Option ac->ah->Prop}(x:n5 s.heap C N bm mN)(c:mN name=some v)(q:Q (some v) s):aA (aP prog w) A (cS (.ref C) name) Q E s:=by unfold cS;refine aa (FY x ?_);rw[cM];refine aa (aa (aa (Jd x ?_)));rw[c];dsimp only;refine ai (ai (ai q))
theorem U1{name:Str}{f:ac->Option (Option ac)×Unit->Sem (ForInStep (Option (Option ac)×Unit))}(o:∀n v b,pS n name=some v->f (.type n) b=pure (.done (some (some v),())))(g:∀n b,pS n name=none->f (.type n) b=pure (.yield (none,()))):∃z:Option (Option ac)×Unit,forIn fv (none,()) f=(pure z:Sem _):=by
 have st:∀(n:String)(dA:List ac),(∃z,forIn dA (none,()) f=(pure z:Sem _))->∃z,forIn (ff n::dA) (none,()) f=(pure z:Sem _):=λn dA h=>by
  obtain⟨z,hz⟩:=h;rw[cM];cases c:pS n name with
  |some v=>exact⟨(some (some v),()),by rw[o n v _ c];rfl⟩
  |none=>
   refine⟨z,?_⟩;rw[<- hz,g n _ c];rfl
 unfold fv;exact st _ _ (st _ _ (st _ _ (st _ _ ⟨_,rfl⟩)))
theorem BH{y:Option ac}{Q:Option ac->ah->Prop}(x:r6 s.heap C N P NP mN mP)(G:mN name=none)(u:mP name=none)(g:cS (.type "ValueError") name=pure y)(q:Q y s):aA (aP prog w) A (cS (.ref C) name) Q E s:=by
 have o:mroOf (.type "ValueError")=pure fv:=nM.mroIs;unfold cS at g ⊢;rw[o]at g;refine aa (FY x.c ?_);rw[cM];refine aa (aa (aa (Jd x.c ?_)));rw[G];dsimp only;refine ai ?_;dsimp only;rw[cM];refine aa (aa (Jd x.p ?_));rw[u];dsimp only;refine ai ?_;dsimp only;obtain ⟨z, hz⟩ := U1 (name := name) (f := λc __s => (do
   let __do_lift <- tu c name
   cS.match_1 (motive:=λ_=>Sem (ForInStep (Option (Option ac)×Unit))) __do_lift (λv=>pure (ForInStep.done (some (some v),()))) (λx=>pure (iz (none,()))))) (λn v b h=>by show (pure (pS n name) >>= _)=_;rw[h];rfl) (λn b h=>by show (pure (pS n name) >>= _)=_;rw[h];rfl)
 rw[hz];refine ai ?_
 change ((forIn fv (none,()) _:Sem (Option (Option ac)×Unit)) >>= _)=_ at g
 rw[hz]at g;exact (bH (λm=>aA (aP prog w) A m Q E s) g).mpr (ai q)
theorem rZ{o:Obj}{Q:ac->ah->Prop}(g:s.heap.get? e=some o)(c:o.cls=.ref C)(q:Q (.ref C) s):aA (aP prog w) A (typeOf (.ref e)) Q E s:=gO g (by rw[c];exact q)
theorem n5.keep{h h':bh}(x:n5 h C N bm mN)(k:∀b o,h.get? b=some o->h'.get? b=some o):n5 h' C N bm mN:=by obtain⟨⟨v,u,bs,q,sub,U,c,Q,L,J,I,H,G,g⟩,o,es,O,g2,r⟩:=x;exact⟨⟨v,u,bs,q,sub,U,c,Q,L,J,I,H,G,k _ _ g⟩,o,es,O,k _ _ g2,r⟩
theorem r6.keep{h h':bh}(x:r6 h C N P NP mN mP)(k:∀b o,h.get? b=some o->h'.get? b=some o):r6 h' C N P NP mN mP:=⟨x.c.keep k,x.p.keep k⟩
theorem Xr{dA:List ac}{G:af}{J:Obj}{Q:vO->ah->Prop}(x:r6 s.heap C N P NP mN mP)(u:mP (ag "__init__")=none)(hi:mN (ag "__init__")=some (.ref G))(gI:s.heap.get? G=some J)(cI:J.cls=.type "function")
  (run:∀h' e,s.heap.objs.size<=e->s.heap.MadeExcOf h' e (.ref C) dA->aA (aP prog w) A (call (.ref G) (.ref e::dA)) (λr s'=>r=.none/\Q (.done (.ret (.ref e))) s') E { s with heap:=h' }) (hl:dA.length<=sizeLine):
  aA (aP prog w) A (Builtin.«type.__call__» { pos:=.ref C::dA }) Q E s:=by
 unfold Builtin.«type.__call__»;dsimp only;rw[az (show ¬ ((av C == ff "type")=true) from aW)];refine aa (FY x.c ?_);rw[az (by simp)];refine aa ?_;obtain⟨⟨Y,U,bs,L,sub,ab,H,dd,k0,k1,k2,k3,k5,g⟩,ns⟩:=id x.c;have c:OwnTail s.heap fv (.ref P::fv):=by obtain⟨⟨Y,U,bs,L,sub,ab,H,dd,k0,k1,k2,k3,k5,g⟩,ns⟩:=id x.p;exact .own g ns u .base
 refine wpAny_madeBy_exc (h:=s.heap) g ?_;dsimp only;refine aa (ai (aa (b_ (im (tQ (nS _ (by nofun)) (wpAny_check_new_subU (h:=s.heap) nM rfl c g ?_))))));refine codeAny_exc_new_subU (h:=s.heap) nM rfl nM c g ?_ hl;have k:∀b o,s.heap.get? b=some o->((s.heap.push { cls:=.type "tuple",data:=.seq dA.toArray }).push { cls:=.ref C,data:=.fields #[.ref s.heap.objs.size,.none,.none,.none,.bool false,.none] }).get? b=some o:=λb o z=>aq _ (aq _ z);have sz:(s.heap.push { cls:=.type "tuple",data:=.seq dA.toArray }).objs.size=s.heap.objs.size+1:=by simp[bh.push]
 have v:((s.heap.push { cls:=.type "tuple",data:=.seq dA.toArray }).push { cls:=.ref C,data:=.fields #[.ref s.heap.objs.size,.none,.none,.none,.bool false,.none] }).get? (s.heap.objs.size+1)=some { cls:=.ref C,data:=.fields #[.ref s.heap.objs.size,.none,.none,.none,.bool false,.none] }:=by have:=aK (s.heap.push { cls:=.type "tuple",data:=.seq dA.toArray }) (o:={ cls:=.ref C,data:=.fields #[.ref s.heap.objs.size,.none,.none,.none,.bool false,.none] }) rfl;rw[sz]at this;exact this
 have md:s.heap.MadeExcOf ((s.heap.push { cls:=.type "tuple",data:=.seq dA.toArray }).push { cls:=.ref C,data:=.fields #[.ref s.heap.objs.size,.none,.none,.none,.bool false,.none] }) (s.heap.objs.size+1) (.ref C) dA:=
  ⟨k,Ez (F7 _),s.heap.objs.size,v,Ez (ax _),aq _ (aK _ rfl)⟩
 have O:=run _ _ (F7 _) md;have I:=x.keep k;generalize (s.heap.push { cls:=.type "tuple",data:=.seq dA.toArray }).push { cls:=.ref C,data:=.fields #[.ref s.heap.objs.size,.none,.none,.none,.bool false,.none] }=q at *;dsimp only;unfold i4;refine aa (aa (rZ (s:={ s with heap:=q }) v rfl (Ae (s:={ s with heap:=q }) I.c ?_)));rw[az (by simp)];refine aa (b_ ?_);unfold vL q_;refine aa (aa (rZ (s:={ s with heap:=q }) v rfl (T_ (s:={ s with heap:=q }) I.c hi ?_)));dsimp only;refine b_ (aa (wpAny_bindSpecial_def (s:={ s with heap:=q }) (k _ _ gI) cI ?_));dsimp only;refine aa (bS O (λr s' hr=>?_) λ_ _ z=>z);obtain⟨er,hq⟩:=hr;subst er;refine ai ?_;dsimp only;rw[az (by decide)];exact ai hq
theorem XN{dA:List ac}{Q:ac->ah->Prop}(x:n5 s.heap C N bm mN)
  (h:aA (aP prog w) (A.under (Code.builtin "type.__call__" { pos:=.ref C::dA })) (Builtin.«type.__call__» { pos:=.ref C::dA }) (λc s'=>∃v,c=.done (.ret v)/\Q v s') E s):aA (aP prog w) A (call (.ref C) dA) Q E s:=by
 obtain⟨⟨I,H,bs,G,sub,ab,u,dd,Y,U,O,L,J,g⟩,ns⟩:=id x;refine im (codeAny_of_tree ?_)
 show aA _ _ (callAny (.ref C) _) _ _ s;unfold callAny;dsimp only;refine aa (pL g ?_);dsimp only;unfold callAny.viaDunder q_;refine aa (aa (gO g ?_));dsimp only;rw[F.lookup_type_call];refine ai ?_;dsimp only;rw[F.bind_type_call];refine aa (ai ?_);dsimp only;unfold callAny.plainCallee;refine aa (ai ?_);rw[aG (by decide)];refine ai ⟨?_,tQ (nS _ (by nofun)) (wpAny_check_type_call_sub (h:=s.heap) g (F8 entry_typeCall ?_))⟩
 ·first|rfl|decide|simp[Code.quiet,Thread.loud]
 ·refine bS h (λc s' z=>?_) λ_ _ z=>z;obtain⟨v,q,o⟩:=z;subst q;exact o
end
theorem UT:cS (.type "ValueError") (ag "__setattr__")=pure (some (.builtin "object.__setattr__")):=by rfl
theorem UD(self:ac):bindSpecial (.builtin "object.__setattr__") self=pure (.builtin "object.__setattr__",[self]):=by rfl
section
variable{prog:Program}{w:bq}{A:bn}{E:ac->ah->Prop}{s:ah}{C N P NP e:af}{mN mP:Str->Option ac}{name:Str}
theorem Q4(x:r6 s.heap C N P NP mN mP){o:Obj}(g:s.heap.get? e=some o)(v:o.cls=.ref C){Q:Unit->ah->Prop}(q:Q () s):aA (aP prog w) A (kl (.ref e) (ag "__setattr__")) Q E s:=by
 unfold kl;refine aa (rZ g v (aa (FY x.c ?_)));rw[cM];refine aa (aa (ai ?_));dsimp only;rw[cM];refine aa (ai ?_);dsimp only;unfold fv;have u:tu (.type "ValueError") (ag "__setattr__")=pure none:=by rfl
 have h:tu (.type "Exception") (ag "__setattr__")=pure none:=by rfl
 have c:tu (.type "BaseException") (ag "__setattr__")=pure none:=by rfl
 rw[cM];dsimp only;rw[az (by decide),az (by decide),u];refine aa (aa (ai ?_));rw[az (by decide)];refine ai ?_;dsimp only;rw[cM];dsimp only;rw[az (by decide),az (by decide),h];refine aa (aa (ai ?_));rw[az (by decide)];refine ai ?_;dsimp only;rw[cM];dsimp only;rw[az (by decide),az (by decide),c];refine aa (aa (ai ?_));rw[az (by decide)];refine ai ?_;dsimp only;rw[cM];dsimp only;rw[az (by decide),az (by decide),F.own_object_setattr];refine aa (aa (ai ?_));rw[aG (show (some (fM "object.__setattr__")).isSome=true from rfl),az (by nofun)];refine ai (ai ?_);exact ai q
theorem Pe{v:ac}{u:Array ac}{G:Array (Option ac)}{Q:Unit->ah->Prop}(x:r6 s.heap C N P NP mN mP)(g:s.heap.get? e=some ⟨.ref C,none,.fields u,G⟩)
  (a1:mN (ag "__setattr__")=none) (a2:mP (ag "__setattr__")=none) (b1:mN name=none) (b2:mP name=none) (Y:cS (.type "ValueError") name=pure none)
  (q:∀h' H O,s.heap.get? H=none->h'.get? e=some ⟨.ref C,some H,.fields u,G⟩->(h'.Ns1 H λy=>if y=name then some v else none)->(∀b o,b≠e->s.heap.get? b=some o->h'.get? b=some o)->Q () { s with heap:=h',toks:=O }):
  aA (aP prog w) A (setAttr (.ref e) name v) Q E s:=by
 unfold setAttr;refine aa (vP ?_);refine aa ?_;unfold vL q_;refine aa (aa (rZ (s:={ s with toks:=s.toks+1 }) g rfl (BH (s:={ s with toks:=s.toks+1 }) x a1 a2 UT ?_)));dsimp only;refine b_ ?_;rw[UD];refine aa (ai ?_);dsimp only;refine aa (im (oj (by nofun) F.entry_object_setattr ?_));unfold checkBuiltinCall;rw[F.bk_object_setattr,F.sp_object_setattr];dsimp only;unfold i4;refine aa (aa (rZ (s:={ s with toks:=s.toks+1 }) g rfl (Ae (s:={ s with toks:=s.toks+1 }) x.c ?_)));rw[az (by simp[fv])];have L:=F.args_object_setattr_3 (.ref e) (.str name s.toks) v;unfold argsOk at L;refine wpAny_of_eq L ?_;unfold Builtin.«object.__setattr__»;rw[az (show ¬ ((!({ pos:=[av e]++[gS name s.toks,v] }:Args).kw.isEmpty)=true) from aW)];dsimp only;refine aa (Q4 (s:={ s with toks:=s.toks+1 }) x g rfl ?_);refine aa (ai ?_);refine aa (rZ (s:={ s with toks:=s.toks+1 }) g rfl (aa (BH (s:={ s with toks:=s.toks+1 }) x b1 b2 Y (aa (ai ?_)))));dsimp only;unfold Builtin.ObjectAttr.storeInOwnDict;refine aa (ai ?_);rw[az (show ¬ ((av C == ff "module")=true) from aW)];refine aa ?_;unfold Builtin.ObjectAttr.ownDictForStores instanceDict;dsimp only;obtain⟨⟨nm,q1,bs,sn,sub,ab,col,dd,k0,k1,k2,k3,k5,gC⟩,ns⟩:=id x.c;refine aa (gE (s:={ s with toks:=s.toks+1 }) g ?_);dsimp only;unfold classData;refine aa (aa (pL (s:={ s with toks:=s.toks+1 }) gC (ai ?_)));rw[az (by simp)];rw[az (by simp[typeHasDict])];have c:∀b o,s.heap.get? b=some o->(s.heap.push { cls:=.type "dict",data:=.dict #[] }).get? b=some o:=λb o z=>aq _ z;refine aa (wpAny_alloc (aa (wpAny_update (s:={ s with heap:=s.heap.push { cls:=.type "dict",data:=.dict #[] },toks:=s.toks+1 }) (c _ _ g) ?_)));refine ai ?_;dsimp only;have gd:(s.heap.push { cls:=.type "dict",data:=.dict #[] }).get? s.heap.objs.size=some { cls:=.type "dict",data:=.dict #[] }:=aK _ rfl;have ne:s.heap.objs.size≠e:=λz=>by have:=aJ g;rw[z]at this;exact cY _ this
 have ge:((s.heap.push { cls:=.type "dict",data:=.dict #[] }).update e λo=>{ cls:=o.cls,dict:=some s.heap.objs.size,data:=o.data,slots:=o.slots }).get? e=some ⟨.ref C,some s.heap.objs.size,.fields u,G⟩:=ce _ (c _ _ g) rfl;have I:=dB (s.heap.push { cls:=.type "dict",data:=.dict #[] }) e λo=>{ cls:=o.cls,dict:=some s.heap.objs.size,data:=o.data,slots:=o.slots }
 generalize (s.heap.push { cls:=.type "dict",data:=.dict #[] }).update e (λo=>{ cls:=o.cls,dict:=some s.heap.objs.size,data:=o.data,slots:=o.slots })=h1 at *;have U:h1.Ns1 s.heap.objs.size λ_=>none:=by
  have z:h1.get? s.heap.objs.size=some { cls:=.type "dict",data:=.dict #[] }:=by rw[I.2 _ ne];exact gd
  exact bh.Ns1.of_empty ⟨_,_,_,z,rfl,by intro e he;simp at he,λ_=>rfl⟩
 unfold Builtin.ObjectAttr.storeInDict;refine aa (ai ?_);refine aa (wpAny_nsSet1 (s:={ s with heap:=h1,toks:=s.toks+1 }) U λJ n2 h=>?_);obtain⟨o2,es2,ep2,g2,d2,hz⟩:=n2.count (Within.cons name v Within.nil);refine aa (wpAny_lookBehind (s:={ s with heap:=J,toks:=s.toks+1+1 }) g2 (by rw[d2];exact pastItsLine_dict (bC hz (show 1<=sizeLine+1 by decide))) ?_);refine ai (ai (ai ?_));refine q J s.heap.objs.size _ (Ez (ax _)) (by rw[h.2 _ (fB ne)];exact ge) n2 λb o hb z=>?_;rw[h.2 b (λy=>by rw[y,Ez (ax _)]at z;cases z),I.2 b hb];exact c _ _ z
end
theorem Wc:cS (.type "ValueError") (ag "__getattribute__")=pure (some (.builtin "BaseException.__getattribute__")):=by rfl
theorem QP:cS (.type "ValueError") (ag "__getattr__")=pure none:=by rfl
theorem Vj(self:ac):bindSpecial (.builtin "BaseException.__getattribute__") self=pure (.builtin "BaseException.__getattribute__",[self]):=by rfl
theorem Rn:entryFor table "BaseException.__getattribute__"=some Builtin.«object.__getattribute__»:=entryFor_alias (id':="object.__getattribute__") (by rfl) (by nofun) (by nofun) (by rfl)
theorem PC:plainId "BaseException.__getattribute__"=true:=by nofun
structure BI(mN mP:Str->Option ac)(name:Str):Prop where
 c:mN name=none
 p:mP name=none
structure oq(mN mP:Str->Option ac):Prop where
 ga:BI mN mP (ag "__getattribute__")
 gh:BI mN mP (ag "__getattr__")
 sa:BI mN mP (ag "__setattr__")
 cl:BI mN mP (ag "__class__")
 qt:∀n∈quietNames,mP n=none
section
variable{prog:Program}{w:bq}{A:bn}{E:ac->ah->Prop}{s:ah}{C N P NP e:af}{mN mP:Str->Option ac}{name:Str}
theorem Nm{c:ac}{fill q:Bool}{o:Obj}{Q:ac->ah->Prop}(x:r6 s.heap C N P NP mN mP)(G:oq mN mP)(g:s.heap.get? e=some o)(L:o.cls=.ref C)
  (h:aA (aP prog w) A.in1 (Builtin.«object.__getattribute__» { pos:=[.ref e,c] }) (λH s'=>∃v,H=.done (.ret v)/\(∀id,v≠.builtin id)/\Q v s') (λ_ _=>False) s):aA (aP prog w) A (getAttrBy (.ref e) c fill q) Q E s:=by
 unfold getAttrBy;refine b_ (aa (rZ g L (aa (BH x G.ga.c G.ga.p Wc ?_))));dsimp only;have Y:¬ ((onTheHeap (av C)&&(fM "BaseException.__getattribute__" == fM "object.__getattribute__"))=true):=(show ¬ ((true&&(fM "BaseException.__getattribute__" == fM "object.__getattribute__"))=true) by decide)
 rw[az Y];unfold getAttrByItsOwn hookBefore;rw[aG (show onTheHeap (.ref C)=true from rfl)];refine aa (BH x G.gh.c G.gh.p QP ?_);refine aa (lH (b_ ?_));unfold callGetattribute;rw[az (by cases q<;>exact aW)];unfold boundAndCalled;rw[Vj];refine aa (ai ?_);dsimp only;obtain⟨⟨nm,U,bs,O,sub,ab,J,dd,k0,k1,k2,k3,k5,gC⟩,ns⟩:=id x.c;have u:OwnTailQ s.heap fv (.ref P::fv):=by obtain⟨⟨nm,U,bs,O,sub,ab,J,dd,k0,k1,k2,k3,k5,gP⟩,I⟩:=id x.p;exact .own gP I G.qt .base
 refine im (oj PC Rn (wpAny_check_ga_own (h:=s.heap) F.attrBase_ValueError gC u g L ?_));refine bS h (λH s' z=>?_) λ_ _ z=>z.elim;obtain⟨v,e1,nb,hq⟩:=z;subst e1;dsimp only;unfold handedOut;cases v with
 |builtin id=>exact bp rfl (nb id)
 |_=>exact ai hq
theorem Pd{v:ac}{o:af}{u:Array ac}{H:Array (Option ac)}{h:Str->Option ac}{c:Bool}{Q:ac->ah->Prop}(x:r6 s.heap C N P NP mN mP)(I:oq mN mP)(g:s.heap.get? e=some ⟨.ref C,some o,.fields u,H⟩)(U:s.heap.Ns o h)(O:h name=some v)(J:∀id,v≠.builtin id)
  (no:BI mN mP name) (L:cS (.type "ValueError") name=pure none) (q:∀G,Q v { s with toks:=G }):aA (aP prog w) A (getAttr (.ref e) name c) Q E s:=by
 unfold getAttr;refine aa (vP (Nm (s:={ s with toks:=s.toks+1 }) x I g rfl ?_));unfold Builtin.«object.__getattribute__»;refine aa ?_
 show aA _ _ (pure (av e,[gS name s.toks])) _ _ _;refine ai ?_;dsimp only;refine aa (ai (aa (rZ (s:={ s with toks:=s.toks+1 }) g rfl (aa ?_))));unfold mR;refine aa (BH (s:={ s with toks:=s.toks+1 }) x no.c no.p L (aa (ai (aa (ai ?_)))));dsimp only;unfold Builtin.ObjectAttr.ownThenClass Builtin.ObjectAttr.inOwnDict;dsimp only;unfold Builtin.ObjectAttr.ownDict;obtain⟨⟨nm,q1,bs,sn,sub,ab,col,dd,k0,k1,k2,k3,k5,Y⟩,ns⟩:=id x.c;unfold xN;refine aa (aa (aa (gE (s:={ s with toks:=s.toks+1 }) g ?_)));dsimp only;unfold instanceDict;refine aa (gE (s:={ s with toks:=s.toks+1 }) g ?_);dsimp only;unfold classData;refine aa (aa (pL (s:={ s with toks:=s.toks+1 }) Y (ai ?_)));rw[az (by simp)];refine ai ?_;unfold Builtin.ObjectAttr.inDict;dsimp only;refine wpAny_nsGet (s:={ s with toks:=s.toks+1 }) U ?_;rw[O];dsimp only;refine aa (eI (ai ?_));exact ai ⟨v,rfl,J,q _⟩
theorem Xw:cS (.type "ValueError") (ag "__class__")=pure (some (.builtin "object.__class__")):=by rfl
theorem MF:cS (.type "getset_descriptor") (ag "__get__")=pure (some (.builtin "getset_descriptor.__get__")):=by rfl
theorem Xx:entryFor table "getset_descriptor.__get__"=some Builtin.«getset_descriptor.__get__»:=entryFor_of_tree (by rfl)
theorem Ot:Slot "getset_descriptor" (ag "__get__") "getset_descriptor.__get__":=Slot.of (owner:="getset_descriptor") (n:="__get__") MF (by nofun) (by nofun) (by nofun) (Or.inl (by nofun)) (by rw[isSubtype_type];rfl) (by nofun)
theorem U_(a b c:ac):argsOk "getset_descriptor.__get__" { pos:=[a,b,c] }:=by rfl
theorem Tw:∃n,Builtin.Getset_descriptor.descrNameAndClass (.builtin "object.__class__")=pure (n,.type "object"):=⟨_,rfl⟩
theorem UX:cS (.type "getset_descriptor") (ag "__set__")=pure (some (.builtin "getset_descriptor.__set__")):=by rfl
theorem LS{o:Obj}{Q:Option ac->ah->Prop}(x:r6 s.heap C N P NP mN mP)(h:oq mN mP)(g:s.heap.get? e=some o)(c:o.cls=.ref C)(q:∀u,Q (some (.ref C)) { s with toks:=u }):aA (aP prog w) A (getAttr? (.ref e) (ag "__class__")) Q E s:=by
 unfold getAttr? getAttrBy?;refine aa (vP (aa (lH (Nm (s:={ s with toks:=s.toks+1 }) x h g c ?_))));unfold Builtin.«object.__getattribute__»;refine aa ?_
 show aA _ _ (pure (av e,[gS (ag "__class__") s.toks])) _ _ _;refine ai ?_;dsimp only;refine aa (ai (aa (rZ (s:={ s with toks:=s.toks+1 }) g c (aa ?_))));unfold mR;refine aa (BH (s:={ s with toks:=s.toks+1 }) x h.cl.c h.cl.p Xw (aa ?_));unfold Builtin.ObjectAttr.getOf;dsimp only;unfold q_;rw[mS];refine aa (ai ?_);rw[MF];refine ai (aa ?_);unfold Builtin.ObjectAttr.dataDescriptor?;dsimp only;refine aa ?_;unfold Builtin.ObjectAttr.takesStores q_;rw[mS];refine aa (aa (ai ?_));rw[UX];refine ai ?_;rw[aG (show (some (fM "getset_descriptor.__set__")).isSome=true from rfl)];refine ai ?_;rw[aG rfl];refine ai ?_;dsimp only;refine aa (eI (ai ?_));dsimp only;unfold Builtin.ObjectAttr.bindTo;dsimp only;refine aa (b_ (im (oj Ot.plain Xx (Ot.check _ _ _ _ _ _ _ _ mS (U_ _ _ _) ?_))));unfold Builtin.«getset_descriptor.__get__» Builtin.Getset_descriptor.descrGet;refine aa ?_
 show aA _ _ (pure (fM "object.__class__",some (av e),some (av C))) _ _ _;refine ai ?_;dsimp only;unfold Builtin.Getset_descriptor.descrGetter;dsimp only;refine aa ?_;unfold Builtin.Getset_descriptor.descrCheckInstance;obtain⟨n,v⟩:=Tw;rw[v];refine aa (ai ?_);dsimp only;unfold i4;refine aa (aa (rZ (s:={ s with toks:=s.toks+1 }) g c (Ae (s:={ s with toks:=s.toks+1 }) x.c ?_)));rw[az (by simp[fv])];refine ai (ai ⟨nS _ (by nofun),F8 F.entry_object_class ?_⟩);unfold Builtin.«object.__class__»;dsimp only;unfold shownTypeOf;refine aa (aa (rZ (s:={ s with toks:=s.toks+1 }) g c ?_));rw[az (show ¬ ((av C == ff "builtin_function_or_method")=true) from aW)];refine ai (ai (ai ⟨_,rfl,aw (λid z=>by cases z) (ai (q _))⟩))
theorem Nf{o:Obj}{T:ac}{Q:ac->ah->Prop}(x:r6 s.heap C N P NP mN mP)(G:oq mN mP)(g:s.heap.get? e=some o)(v:o.cls=.ref C)
  (I:∀(A:bn)(E:ac->ah->Prop)(R:ac->ah->Prop)c,R (.type "type") { s with toks:=c }->aA (aP prog w) A (typeOf T) R E { s with toks:=c })
  (H:∀(A:bn)(E:ac->ah->Prop)(R:Bool->ah->Prop)c,R true { s with toks:=c }->aA (aP prog w) A (vQ T) R E { s with toks:=c })
  (q:∀c,Q (.bool ((av C::av P::fv).contains T)) { s with toks:=c }):aA (aP prog w) A (call (.builtin "isinstance") [.ref e,T]) Q E s:=by
 refine Ba ?_ (λz=>(by cases z));unfold Builtin.«isinstance.nested»;dsimp only[ik];refine aa (rZ g v ?_);by_cases u:(av C == T)=true
 ·rw[aG u];refine aa (eI (ai ?_));have L:(av C::av P::fv).contains T=true:=by
   rw[cW];have:(T == av C)=true:=by rw[beq_iff_eq]at u ⊢;exact u.symm
   rw[this];rfl
  have:=q s.toks;rw[L]at this;exact this
 ·rw[az u];refine aa (I _ _ _ s.toks ?_);rw[aG (by decide)];refine aa ?_
  show aA _ _ (vQ T >>= _) _ _ _;refine aa (H _ _ _ s.toks ?_);rw[az (by decide)];unfold i4;refine aa (aa (rZ g v (Ae x.c ?_)));by_cases h:(av C::av P::fv).contains T=true
  ·rw[aG h];refine ai (ai ?_);have:=q s.toks;rw[h]at this;exact this
  ·rw[az h];refine aa (LS x G g v λc=>?_);dsimp only;obtain⟨⟨o,Y,bs,U,sub,ab,O,dd,H,u,Q,L,E,J⟩,ns⟩:=id x.c;unfold vQ;dsimp only;unfold xN;refine aa (aa (gE (s:={ s with toks:=c }) J (ai ?_)));rw[az (by simp)];refine aa (eI (Ae (s:={ s with toks:=c }) x.c ?_));have I:(av C::av P::fv).contains T=false:=by simpa using h
   refine ai ?_;exact q c
end
open PySem.W L2
noncomputable abbrev FF(o:Obj):Prop:=∃c,o.data=.fields c/\c[1]?=some bO/\c[2]?=some bO
noncomputable def oW(e C:af)(h:bh):Prop:=∃c g,h.get? e=some ⟨.ref C,none,.fields c,g⟩/\c[1]?=some bO/\c[2]?=some bO
noncomputable def rD(K:Frag)(N:af):Prop:=∃c d es h g,K.lookup N=some ⟨c,d,.dict es h,g⟩/\StrKeys es
structure XF(K:Frag)(x f:Str)(C N P NP:af):Prop where
 gl:nsIn K bz x=some (some (.ref C))
 ob:∃q bs sn sub ab col dd k0 k1 k2 k3 k5,K.lookup C=some (eP x q C N bs (.ref P::fv) true sn sub ab col dd k0 k1 k2 k3 k5 "ValueError.__new__")
 obP:∃q bs sn sub ab col dd k0 k1 k2 k3 k5,K.lookup P=some (eP "PactError" q P NP bs fv true sn sub ab col dd k0 k1 k2 k3 k5 "ValueError.__new__")
 glP:nsIn K bz "PactError"=some (some (.ref P))
 sN:rD K N
 sP:rD K NP
 nn:∀n∈([ag "__getattribute__",ag "__getattr__",ag "__setattr__",ag "__class__",f]:List Str),nsIn K N n=some none
 np:∀n∈([ag "__getattribute__",ag "__getattr__",ag "__setattr__",ag "__class__",f,ag "__init__",ag "args"]:List Str),nsIn K NP n=some none
 kp:keepIn K (.ref C)=true
theorem XF.nofn{K:Frag}{x f:Str}{C N P u a:af}{F:Prop}(z:XF K x f C N P u)(g:nsIn K bz x=some (some (.ref a)))(h:∃o q,K.lookup a=some o/\o.data=.func q):F:=by
 have:=g.symm.trans z.gl;injection this with t;injection t with t;injection t with t
 subst t;obtain⟨o,q,l,e⟩:=h;obtain⟨_,_,_,_,_,_,_,_,_,_,_,_,c⟩:=z.ob;rw[l]at c;cases c;cases e
section
variable{K:Frag}{x f:Str}{C N P NP:af}{h:bh}
theorem rD.ns(z:rD K N)(k:K.In h):∃m,h.Ns N m:=by obtain⟨c,d,es,o,q,l,g⟩:=z;exact⟨nsFind es,_,es,o,k _ _ l,rfl,g,λ_=>rfl⟩
theorem Ng{m:Str->Option ac}{n:Str}{v:ac}(k:K.In h)(ns:h.Ns N m)(e:nsIn K N n=some (some v)):m n=some v:=by
 obtain⟨o,es,J,g,d,E,u⟩:=ns;unfold nsIn at e;cases c:tM N K with
 |none=>rw[c]at e;cases e
 |some o'=>
  have g':=k _ _ c;rw[g]at g';cases g';rw[c]at e;obtain⟨I,H,G,os⟩:=o;cases d;dsimp only at e;cases q:F9 (λx=>x.key.isStr n) es.toList with
  |none=>
   rw[q]at e;dsimp only at e;split at e<;>cases e
  |some en=>
   rw[q]at e;cases e;rw[<- u n];unfold nsFind findBy;rw[<- uo]
   show Option.map (λx=>x.val) (F9 (λx=>x.key.isStr n) es.toList)=_;rw[q];rfl
theorem XF.ch(F:XF K x f C N P NP)(k:K.In h):∃g c,r6 h C N P NP g c/\oq g c/\BI g c f/\h.Ns N g/\c (ag "__init__")=none:=by
 obtain⟨g,O⟩:=F.sN.ns k;obtain⟨c,hP⟩:=F.sP.ns k;obtain⟨q1,bs,sn,sub,ab,U,dd,k0,k1,k2,k3,k5,l⟩:=F.ob;obtain⟨E,Y,v,q,ab',u,Q,L,J,I,H,G,l'⟩:=F.obP;have a:∀n∈([ag "__getattribute__",ag "__getattr__",ag "__setattr__",ag "__class__",f]:List Str),g n=none:=λn o=>ns_none_of k O (F.nn n o);have b:∀n∈([ag "__getattribute__",ag "__getattr__",ag "__setattr__",ag "__class__",f,ag "__init__",ag "args"]:List Str),c n=none:=λn o=>ns_none_of k hP (F.np n o);refine⟨g,c,⟨⟨⟨x,q1,bs,sn,sub,ab,U,dd,k0,k1,k2,k3,k5,k _ _ l⟩,O⟩,⟨⟨_,E,Y,v,q,ab',u,Q,L,J,I,H,G,k _ _ l'⟩,hP⟩⟩,
  ⟨⟨a _ (by simp),b _ (by simp)⟩,⟨a _ (by simp),b _ (by simp)⟩,⟨a _ (by simp),b _ (by simp)⟩,⟨a _ (by simp),b _ (by simp)⟩,λn o=>b n ?_⟩,⟨a _ (by simp),b _ (by simp)⟩,O,b _ (by simp)⟩
 simp only[quietNames,aF,c_,or_false]at o;rcases o with z|z|z|z<;>(rw[z];simp)
end
section
variable{X:Cx}{x f:Str}{C N P NP:af}{pos fe:Pos}{o value:Expr}{ta tv:TE}
def iG(H:Hp)(e c:af)(f:Str)(v:V)(ob:Obj):Hp:=eO (eO H c (.xd [(f,v)])) e (.frz ob (.own e))
theorem Wz(F : XF X.K x f C N P NP)(hy : cS (.type "ValueError") f = pure none)(ha : PE X o ta)(hv : PE X value tv)(hs : eD value (some (.Attribute o f fe)) pos.line X.env = pure false := by rfl):
  PS X (.Assign [.Attribute o f fe] value pos) (λD σ H=>tv σ H λv H1=>ta σ H1 λy Q=>∃e,y=.ref e/\Q e=some (.ext (oW e C))/\∀G ob,Q G=none->G≠e->ob.cls=.ref C->ob.dict=some G->FF ob->D.nx σ (iG Q e G f v ob)):=by
 intro ao s σ H D I h;refine plainObj_wpAny_Assign_Attribute (fE (hv ao s σ H _ I h) λu s1 U=>?_) hs;obtain⟨y,H1,I1,ry,q⟩:=U;refine fE (ha ao s1 σ H1 _ I1 q) λov s2 U=>?_;obtain⟨z,Q,I2,rx,e,ex,ee,q2⟩:=U;subst ex;obtain rfl:ov=av e:=rx;obtain⟨mN,mP,ch,pl,no,_,_⟩:=F.ch I2.kIn;obtain⟨⟨vs,sl,g,gv1⟩,_,_⟩:=(show dE X.prog X.w Q s2.heap e (.ext (oW e C)) from I2.hok e _ ee)
 refine Pe ch g pl.sa.c pl.sa.p no.c no.p hy λh' G tk Y ge ns kp=>?_;have L:Q G=none:=by
  cases w:Q G with
  |none=>rfl
  |some ob=>
   obtain⟨ob',e'⟩:=Lq (I2.hok G ob w);rw[Y]at e';cases e'
 have hde:G≠e:=λw=>by rw[w,g]at Y;cases Y
 refine⟨σ,iG Q e G f y ⟨.ref C,some G,.fields vs,sl⟩,?_,q2 G _ L hde rfl rfl ⟨vs,rfl,gv1⟩⟩;have ne:∀b,Q b=none->b≠e:=λb w z=>by rw[z,ee]at w;cases w
 have nd:∀{b o},s2.heap.get? b=some o->b≠G:=λw z=>by rw[z,Y]at w;cases w
 have J:∀b,b≠e->b≠G->iG Q e G f y ⟨.ref C,some G,.fields vs,sl⟩ b=Q b:=λb h1 h2=>by unfold iG;rw[gm h1,gm h2]
 refine I2.step (g':=s2.gens) (d':=s2.drawn) (t':=tk) (ch:=[]) (λb hb=>by cases hb) (λb ob _ _ _ E n1=>kp b ob (ne b n1) E) (λb ob _ _ _ E n1=>⟨ob.slots,kp b ob (ne b n1) E⟩)
  (λb ob _ E n1=>by rw[J b (ne b n1) (nd E)];exact n1) (λb ob _ E=>by
   by_cases w:b=e
   ·exact⟨_,by rw[w];exact ge⟩
   ·exact⟨ob,kp b ob w E⟩)
  (λb ys E=>by rw[J b (λw=>by rw[w,ee]at E;cases E) (pi E L)];exact E) (λb ob ys E=>by rw[J b (λw=>by rw[w,ee]at E;cases E) (pi E L)];exact E)
  (λb ps E=>⟨#[],by rw[J b (λw=>by rw[w,ee]at E;cases E) (pi E L),E];simp⟩)
  (λm hm=>by obtain⟨ob,es,ep,g1,r1⟩:=hm;exact⟨ob,es,ep,kp _ _ (λw=>by have:=I2.free;rw[w,ee]at this;cases this) g1,r1⟩) ?_ I2.bare
 intro b ob E;by_cases w:b=e
 ·subst w;unfold iG at E;rw[i5]at E;cases E;exact⟨ge,_,ge⟩
 ·by_cases o:b=G
  ·subst o;unfold iG at E;rw[gm w,i5]at E;cases E;refine⟨_,ns,λg=>?_⟩
   show nh (([(f,y)]:List (Str×V)).lookup g) (if g=f then some u else none);by_cases q:g=f
   ·rw[aG q,q,dR];exact ry
   ·rw[az q,pd,show (g == f)=false from by simpa using q];exact trivial
  ·rw[J b w o]at E;refine (I2.hok b ob E).stay (λc u' hb O=>kp c u' (λU=>?_) O) (λc O=>by rw[J c (λU=>by rw[U,ee]at O;cases O) (pi O L)];exact O) (λc ys O=>by rw[J c (λU=>by rw[U,ee]at O;cases O) (pi O L)];exact O);rcases hb with h|h
   ·exact w (h.symm.trans U)
   ·rw[U,ee]at h;cases h
def Bn(C:af)(f:Str):Sp:=λg H Q _=>∃e v,g=[.ref e,v]/\H e=some (.ext (oW e C))/\∀c ob,H c=none->c≠e->ob.cls=.ref C->ob.dict=some c->FF ob->Q .non (iG H e c f v ob)
theorem Tf{PG:Program}{w:bq}{K:Frag}{mg:Str->Option ac}{base:bh}{qual:Str}{c:Stmt}{g:af}{G:bN}{U O L J:Pos}{n1 n2:Str}(F:XF K x f C N P NP)(Y:cS (.type "ValueError") f=pure none)
  (FI:L2.tH K "__init__" qual c g G) (S:iq [n1,n2] [n1,n2] (aX c)) (hb:cK c=[.Assign [.Attribute (.Name n1 U) f O] (.Name n2 L) J])
  (v1:zy (aX c) n1) (v2:zy (aX c) n2) (d1:(n1 == ("__debug__":Str))=false) (d2:(n2 == ("__debug__":Str))=false) (c1:(n1 == ("__classdict__":Str))=false) (c2:(n2 == ("__classdict__":Str))=false):fV PG w K mg base ou 1 g G [n1,n2] (Bn C f):=by
 refine FI.ok (k:=0) S (λI H Q E h=>?_) (λu A outer s H I Q E hr h=>?_)
 ·obtain⟨e,v,rfl,_⟩:=h;rfl
 ·obtain⟨e,v,rfl,o,q⟩:=h;rw[hb];refine⟨_,ID (Wz (X:=(mD ou PG w K mg base [n1,n2] qual (aX c) g u A outer s H E).nox) F Y (AI (i:=0) rfl v1 d1 c1) (AI (i:=1) rfl v2 d2 c2)) HM,?_⟩;exact⟨v,rfl,.ref e,rfl,e,rfl,o,λO ob L J I G C=>q O ob L J I G C⟩
theorem T5{c:List (af×Obj)}{σ:L2.St}{H:Hp}{s:ah}{Q:VK}{u:ac}{v:V}{Y:af}{fd:bN}{ps:List Str}(F:XF X.K x f C N P NP)(hi:nsIn X.K N (ag "__init__")=some (some (.ref Y)))(L:∃E,X.K.lookup Y=some E/\E.cls=.type "function")
  (G:fV X.prog X.w X.K X.mg X.base ou 1 Y fd ps (Bn C f)) (hr:fo 2 X.A) (hb:Binds X.K fd ps []) (I:Inv X c σ H s) (r:RelV v u)
  (h:∀e q ob,H e=none->(X.ex=[]->X.s₀.heap.get? e=none)->H q=none->q≠e->ob.cls=.ref C->ob.dict=some q->FF ob->Q (.ref e) (iG (eO H e (.ext (oW e C))) e q f v ob)):
  aA (aP X.prog X.w) X.A (call (.ref C) [u]) (EP X c σ Q) X.xe s:=by
 obtain⟨mN,mP,ch,pl,no,hN,J⟩:=F.ch I.kIn;obtain⟨E,lI,cI⟩:=L;refine XN ch.c (Xr ch J (Ng I.kIn hN hi) (I.kIn _ _ lI) cI (λh' e hz md=>?_) (show 1<=sizeLine by decide));obtain⟨t,ge,_,_⟩:=md.there;have o:Inv X c σ (eO H e (.ext (oW e C))) { s with heap:=h' }:=I.laid (t':=s.toks) md.keeps hz (show dE X.prog X.w _ h' e (.ext (oW e C)) from ⟨⟨_,_,ge,rfl,rfl⟩,⟨_,ge⟩,λU O y1 k=>by obtain⟨vs,sl,g1,g2⟩:=y1;exact⟨vs,sl,k _ g1,g2⟩⟩)
 have he:H e=none:=I.hok.fresh hz;have hq:Bn C f [.ref e,v] (eO H e (.ext (oW e C))) (λz H2=>z=.non/\Q (.ref e) H2) E0:=⟨e,v,rfl,i5,λq ob U O h3 h4 h5=>⟨rfl,h e q ob he (λ_=>Ez (bC I.sz hz)) (by rw[gm O]at U;exact U) O h3 h4 h5⟩⟩
 have hl:([av e,u]++[]).length=ps.length:=by have:=G.len _ _ _ _ hq;simpa using this
 refine im (iA (G.run _ X.stack _ _ ⟨[.ref e,u],[]⟩ ([.ref e,u]++[]) [.ref e,v] _ E0 (hr.make C [u] []) (o.env0.make C [u] []) (hb _ [.ref e,u] o.kIn hl) (.cons rfl (.cons r .nil)) hq) λr s' g=>?_);cases r with
 |error e=>exact g.elim
 |ok fl=>
  cases fl with
  |ret u2=>
   obtain⟨v2,H',I3,rv,ev,q3⟩:=o.after g;subst ev;exact⟨rv,_,rfl,⟨V.ref e,H',I3,rfl,q3⟩⟩
  |next=>exact bK g
  |brk=>exact bK g
  |cont=>exact bK g
theorem RH{O:af}{o:bN}{ps:List Str}{e:Expr}{t:TA}{p:Pos}(F:XF X.K x f C N P NP)(hi:nsIn X.K N (ag "__init__")=some (some (.ref O)))(J:∃Y,X.K.lookup O=some Y/\Y.cls=.type "function")
  (G:fV X.prog X.w X.K X.mg X.base ou 1 O o ps (Bn C f)) (hr:fo 2 X.A) (hb:Binds X.K o ps []) (hg:Gl X x) (hm:X.mg x=some (.ref C)) (ha:PA X [e] t) (L:(x == ("__debug__":Str))=false:=by decide)
  (he:starEach [e] X.env=[(false,eval e X.env)]:=by rfl):PE X (.Call (.Name x p) [e] [] pos) (λσ H Q=>t σ H λU E=>∃v,U=[v]/\∀e g ob,E e=none->(X.ex=[]->X.s₀.heap.get? e=none)->E g=none->g≠e->ob.cls=.ref C->ob.dict=some g->FF ob->Q (.ref e) (iG (eO E e (.ext (oW e C))) e g f v ob)):=by
 intro c s σ H Q I h;refine eW (Bg I hg hm ?_ L);refine mO (h₀:=X.base) I.ok.mod.kin F.kp (fE (ha pos c s σ H _ I h) λus s1 zz=>?_) he rfl;obtain⟨U,E,I1,r,v,ev,q⟩:=zz;refine⟨I1.kIn,?_⟩;subst ev;obtain⟨u,rfl,ru⟩:=uF r;exact T5 F hi J G hr hb I1 ru q
theorem WL{e : Expr}{Y : TE}(hy : cS (.type "ValueError") f = pure none)(he : PE X e Y)(hb : cR e f X.env (eval e X.env) = eval e X.env := by rfl):
  PE X (.Attribute e f pos) (λσ H Q=>Y σ H λy c=>∃a G v ob x C N P NP,y=.ref a/\XF X.K x f C N P NP/\c a=some (.frz ob (.own a))/\ob.cls=.ref C/\ob.dict=some G/\(∃U,ob.data=.fields U)/\c G=some (.xd [(f,v)])/\Q v c):=by
 intro E s σ H Q I h;refine Xu hb (fE (he E s σ H _ I h) λu o z=>?_);obtain⟨y,c,J,rx,a,G,v,ob,x,C,N,P,NP,ex,F,ea,oc,od,⟨U,ov⟩,ed,q⟩:=z;subst ex;obtain rfl:u=av a:=rx;obtain⟨mN,mP,ch,pl,no,hN,hpi⟩:=F.ch J.kIn;obtain⟨ga,_⟩:=(show dE X.prog X.w c o.heap a (.frz ob (.own a)) from J.hok a _ ea)
 obtain⟨mA,n1,rl⟩:=(show dE X.prog X.w c o.heap G (.xd [(f,v)]) from J.hok G _ ed)
 have g:=rl f;rw[dR]at g;cases O:mA f with
 |none=>rw[O]at g;exact g.elim
 |some u1=>
  rw[O]at g;have L:RelV v u1:=g;obtain⟨c0,d0,dd0,sl0⟩:=ob;cases oc;cases od;cases ov;refine Pd ch pl ga n1.ns O (λid z=>?_) no hy λtk=>⟨v,c,J.tok _,L,q⟩
  subst z;cases v<;>first|(obtain⟨_,z⟩:=L;cases z)|cases L
noncomputable def tV(C P:af)(T:V):Bool:=match T with
 | .ref D=>decide (D=C)||decide (D=P)
 | .ty n=>["ValueError","Exception","BaseException","object"].contains n
 |_=>false
theorem LN:CallR X (.builtin "isinstance") (λxs H Q=>∃a ob x f C N P NP T,xs=[.ref a,T]/\XF X.K x f C N P NP/\H a=some (.frz ob (.own a))/\ob.cls=.ref C/\(T=.ty "ValueError"\/∃D o q bs bm N L sub ab v dd k0 k1 k2 k3 k5,T=.ref D/\X.K.lookup D=some (eP o q D N bs bm true L sub ab v dd k0 k1 k2 k3 k5 "ValueError.__new__"))/\Q (.bl (tV C P T)) H):=by
 intro U s σ H xs us Q I r h;obtain⟨a,ob,x,f,C,N,P,NP,T,rfl,F,ea,Y,u,q⟩:=h;obtain⟨mN,mP,ch,O,no,hN,hpi⟩:=F.ch I.kIn;obtain⟨ga,_⟩:=(show dE X.prog X.w H s.heap a (.frz ob (.own a)) from I.hok a _ ea)
 cases r with
 |cons r1 r2=>
 cases r1;cases r2 with
 |cons r3 r4=>
 cases r4;rcases u with u|⟨D,o,q1,bs,bm,N',L,sub,ab,v,dd,k0,k1,k2,k3,k5,u,lD⟩
 ·subst u;cases r3;refine Nf ch O ga Y (λA E R c g=>ai g) (λA E R c g=>ai g) λc=>?_;have G:(av C::av P::fv).contains (ff "ValueError")=tV C P (.ty "ValueError"):=by show _=true;simp[fv]
  rw[G];exact⟨.bl _,H,I.tok _,rfl,q⟩
 ·subst u;cases r3;have h:=I.kIn _ _ lD;refine Nf ch O ga Y (λA E R c g=>gO (s:={ s with toks:=c }) h g) (λA E R c g=>?_) λc=>?_
  ·unfold vQ;dsimp only;unfold xN;exact aa (gE (s:={ s with toks:=c }) h (ai g))
  ·have G : (av C :: av P :: fv).contains (av D) = tV C P (.ref D) := by
     show _=(decide (D=C)||decide (D=P))
     rw[cW,cW];have z:fv.contains (av D)=false:=rfl;rw[z,nJ];have J:∀a b:af,(av a == av b)=decide (a=b):=λa b=>by
      by_cases w:a=b
      ·subst w;rw[aM rfl];exact beq_self_eq_true _
      ·rw[aO w];exact beq_eq_false_iff_ne.mpr (λz=>w (by injection z))
     rw[J,J]
   rw[G];exact⟨.bl _,H,I.tok _,rfl,q⟩
end
end MM
namespace MM
open PySem PySem.Spec PyProof.Rows L2
structure mE(x:Str):Prop where
 d:(x == ("__debug__":Str))=false
 c:(x == ("__classdict__":Str))=false
 n:x≠"__name__"
theorem V5{x:Str}(h:((x == ("__debug__":Str))||(x == ("__classdict__":Str))||decide (x=("__name__":Str)))=false):mE x:=by rw[mr,mr]at h;exact⟨h.1.1,h.1.2,of_decide_eq_false h.2⟩
structure Sc(X:Cx)(sc:dD):Prop where
 vis:∀x k,sc.names.lookup x=some k->(k=.local\/k=.cell\/k=.free)->zy X.env.scope x
 cel:∀x,(sc.names.lookup x=some .cell\/sc.names.lookup x=some .free)->(X.env.kindOf x=some .cell\/X.env.kindOf x=some .free)
 glo:∀x,sc.names.lookup x=some .globalImplicit->Gl X x
 loc:∀x k,sc.names.lookup x=some k->(k=.local\/k=.cell)->L2.Loc X.env.scope x/\(X.fn x=true\/X.env.scope.names.lookup x=some .local)
 calm:X.calm=true
theorem K5{P:Program}{w:bq}{K:aj}{mg:Str->Option ac}{base:bh}{N:List Str}{qual:Str}{sc:dD}{f:af}{g:ac}{A:bn}{outer:List Env}{s:ah}{H:Hp}{E:XK}:
  Sc (mD ou P w K mg base N qual sc f g A outer s H E).nox sc where
 vis:=λx k h c=>by
  rcases c with z|z|z<;>subst z
  ·exact .inl h
  ·exact .inr (.inl h)
  ·exact .inr (.inr h)
 cel:=λx h=>h
 glo:=λx h=>h
 loc:=λx k h c=>⟨by rcases c with z|z<;>subst z;exact .inl h;exact .inr h,.inl rfl⟩
 calm:=rfl
theorem Th{X:Cx}{N:List Str}{scope:dD}{q:List af}{s:ah}{H:Hp}(o:X.calm=true):Sc (mV X N scope q s H) scope where
 vis:=λx k h g=>by
  show (hU scope X.env).names.lookup x=_\/(hU scope X.env).names.lookup x=_\/(hU scope X.env).names.lookup x=_;rw[Bq,h,iJ];rcases g with z|z|z<;>subst z
  ·exact .inl rfl
  ·exact .inr (.inl rfl)
  ·by_cases c:(bM == bM&&X.env.scope.kind == .function&&X.env.kindOf x == some .cell)=true
   ·rw[aG c];exact .inr (.inl rfl)
   ·rw[az c];exact .inr (.inr rfl)
 cel:=λx h=>by
  show (hU scope X.env).names.lookup x=_\/(hU scope X.env).names.lookup x=_;rcases h with h|h<;>rw[Bq,h,iJ]
  ·exact .inl rfl
  ·by_cases c:(bM == bM&&X.env.scope.kind == .function&&X.env.kindOf x == some .cell)=true
   ·rw[aG c];exact .inl rfl
   ·rw[az c];exact .inr rfl
 glo:=λx h=>by show (hU scope X.env).names.lookup x=_;rw[Bq,h,iJ];rfl
 loc:=λx k h g=>by
  refine⟨?_,.inl ?_⟩
  ·show (hU scope X.env).names.lookup x=_\/(hU scope X.env).names.lookup x=_;rw[Bq,h,iJ];rcases g with z|z<;>subst z
   ·exact .inl rfl
   ·exact .inr rfl
  ·show decide (scope.names.lookup x=some .local\/scope.names.lookup x=some .cell)=true;rw[h];rcases g with z|z<;>subst z<;>decide
 calm:=o
noncomputable def qJ(sc scope:dD):Bool:=
 (scope.kind == .function)&&scope.names.all (λp=>p.2 != .local||scope.names.lookup p.1 == some .local) &&
 scope.names.all (λp=>p.2 != .free||((sc.names.lookup p.1 == some .cell||sc.names.lookup p.1 == some .free) && !scope.names.contains (p.1,.cell)&&scope.names.lookup p.1 != some .local))
theorem Oe{X:Cx}{sc scope:dD}(S:Sc X sc)(h:qJ sc scope=true):fX X scope:=by
 unfold qJ at h;rw[aI,aI]at h;obtain⟨⟨I,v⟩,u⟩:=h;rw[cq]at v u;have g:∀x,(x,bM)∈scope.names->(sc.names.lookup x=some .cell\/sc.names.lookup x=some .free)/\(x,gq)∉scope.names/\scope.names.lookup x≠some .local:=λx c=>by have q:=u _ c;simp only[bne_self_eq_false,A4,aI,gN,beq_iff_eq,vR,bne_iff_ne,ne_eq]at q;obtain⟨⟨E,o⟩,C⟩:=q;refine⟨E,λz=>?_,C⟩;have:scope.names.contains (x,gq)=true:=lP.mpr z;rw[this]at o;cases o
 refine⟨by simpa using I,λp G H=>?_,λx c=>S.cel x (g x c).1,λx c=>(g x c).2.1,λx c=>(g x c).2.2⟩;have q:=v p G;rw[H]at q;simpa using q
noncomputable def pk(c:List Str)(scope:dD)(N:List Str)(n:Nat)(ix:List Nat):Bool:=
 N.length == n+ix.length&&(db ix.length).all λj=>match ix[j]?,N[n+j]? with
  |some i,some x=>c[i]? == some x&&scope.names.lookup x == some .free
  |_,_=>false
theorem Lj{X:Cx}{g:List Str}{scope:dD}{N:List Str}{n:Nat}{ix:List Nat}(u:X.N=g)(h:pk g scope N n ix=true):ig X scope N n ix:=by unfold pk at h;rw[aI,cq]at h;refine⟨by simpa using h.1,λj i x c o=>?_⟩;have q:=h.2 j (fu.mpr (am.mp c).1);rw[c,o]at q;simp only[aI,beq_iff_eq]at q;rw[u];exact q
section
variable{X:Cx}{sc:dD}{a b c e o tg:Expr}{es:List Expr}{pos p:Pos}{fa fb fc:CE}{ca cb:CA}{x:Str}{T id:String}
theorem Ig(S:Sc X sc)(i:Nat)(q:X.N[i]?=some x){k:eK}(h:sc.names.lookup x=some k)(n:mE x)(g:k=.local\/k=.cell\/k=.free:=by decide):SE X (.Name x pos) (ak i):=Fy i (AI q (S.vis x k h g) n.d n.c)
theorem RZ(S:Sc X sc)(i:Nat)(q:X.N.Nodup)(u:X.N[i]?=some x){k:eK}(h:sc.names.lookup x=some k)(g:k=.local\/k=.cell:=by decide):SG X (.Name x pos) (aS i):=
 RX (T6 q u (S.loc x k h g).1 (S.loc x k h g).2)
theorem VV(S : Sc X sc)(i : Nat)(u : X.N.Nodup)(E : X.N[i]? = some x){k : eK}(h : sc.names.lookup x = some k){g : Pos}(C : SE X e fa)(q : k = .local \/ k = .cell := by decide)(v : eD e (some (.Name x g)) pos.line X.env = pure false := by rfl):
  SS X (.Assign [.Name x g] e pos) (bX (aS i) fa):=Na u E (S.loc x k h q).1 C v (S.loc x k h q).2
theorem Uh{v:V}{d:D}{u:ac}(S:Sc X sc)(h:sc.names.lookup x=some .globalImplicit)(C:X.mg x=some u)(r:RelV v u)(n:mE x)(q:∀ρ H,dg X.K ρ H v d):SE X (.Name x pos) (ay d):=
 (Ht (S.glo x h) C r n.d).of λσ H Q E=>E.el λρ l st G g p=>p.ret g _ (q _ _)
abbrev SK(X:Cx)(g:List di)(f:CA):Prop:=PK X g (uf X.K f)
theorem Vw:SK X [] bc:=λpos g s σ H Q I q=>q.el λρ l st u h p=>SW pos g s σ H Q I (p.ret h [] .nil)
theorem X7{h:List di}{nm:Option Str}{q:Pos}(ha:SE X e fa)(hr:SK X h ca):SK X (⟨nm,e,q⟩::h) (ar fa ca):=λpos g s σ H Q I h_=>h_.el λρ l st E O p=>
 US ha hr pos g s σ H Q I ⟨ρ,l,st,E,O,p.bnd.imp λd u ρ1 H1 J Y p1 v c=>⟨ρ1,l,u,E.mono J,Y,p1.bnd.imp λds L ρ2 H2 G U o vs C=>o.ret U _ (.cons (c.mono G) C)⟩⟩
theorem FQ{n:Nat}(h:∀l st ds g,ca l st=.ok ds g->ds.length=n):∀l st ds g,ar fa ca l st=.ok ds g->ds.length=n+1:=λl st ds g e=>by
 unfold ar bnd at e;cases q:fa l st with
 |ok d s1=>
  rw[q]at e;dsimp only at e;cases u:ca l s1 with
  |ok es s2=>
   rw[u]at e;have:=h l s1 es s2 u;cases e;simp[this]
  |exc _ _=>rw[u]at e;cases e
  |bad=>rw[u]at e;cases e
 |exc _ _=>rw[q]at e;cases e
 |bad=>rw[q]at e;cases e
theorem Jq:∀l st ds g,bc l st=.ok ds g->ds.length=0:=λl st ds g e=>by cases e;rfl
noncomputable def xA(K:aj)(h:bN)(ps:List Str):Prop:=∀(s:ah)(g:List ac),g.length=ps.length->lv s h ⟨[],ps.zip g⟩ (ps.zip g)
theorem N8{k n:Nat}{f:af}{v:bN}{ps:List Str}{g:List D->M D}(S:Sc X sc)(h:sc.names.lookup x=some .globalImplicit)(F:fV X.prog X.w X.K X.mg X.base ou k f v ps (lU X.K n g))(E:fo k X.A)(H:X.mg x=some (.ref f))
  (I:fm X.K (.ref f)=true) (L:Binds X.K v ps []) (C:mE x) (O:SA X (e::es) ca) (G:∀l st ds q,ca l st=.ok ds q->ds.length=n)
  (J:starEach (e::es) X.env=(false,eval e X.env)::starEach es X.env:=by rfl) (u:(backTo pos (starEach es X.env)).any (·.1)=false:=by rfl):SE X (.Call (.Name x p) (e::es) [] pos) (bv g ca):=
 PZ F E (S.glo x h) H I L N_ O G C.d J u
end
theorem UG{k:Nat}{X:Cx}(h:fo k X.A):X.A.units+60 < dM:=by have:=h.units;ext
theorem KH{P:Program}{w:bq}{K:aj}{mg:Str->Option ac}{base:bh}{x qual:Str}{o:Stmt}{f:af}{q:bN}{N ps:List Str}{k n m:Nat}{c:CS}(F:tH K x qual o f q)(S:iq N ps (aX o))(u:ps.length=n)(v:N.length=m)
  (g:∀(h:ac)(A:bn)(outer:List Env)(s:ah)(H:Hp)(E:XK),q.code=h->fo k (A.deeper (iB qual (aX o) s.heap.objs.size f h))->ul (mD ou P w K mg base N qual (aX o) f h A outer s H E).nox (cK o) c):
  fV P w K mg base ou (k+1) f q ps (lU K n (bF m c)):=by
 subst u v;exact Pu F S g
theorem Mb{K:aj}{ρ:List af}{H:Hp}:∀(ns:List Int),bI K ρ H (ns.map V.int) (ns.map D.int)
 |[]=>.nil
 |n::ns=>.cons (.int n) (Mb ns)
theorem Vn{K:aj}{H:Hp}{a:af}{ns:List Int}{g:List D->M D}(u:uN H)(q:ir K H a (ns.map V.int))(h:∃c,g [.lit (ns.map D.int)] []=.ok (.bl true) c):
  lU K 1 g [.ref a] H (λv _=>v=.bl true) λ_ _ _=>False:=by
 obtain⟨c,e⟩:=h;have fz:uz K H a (ns.map V.int):=by
  rcases q with (h|⟨o,h⟩)|h
  ·rcases u a with z|⟨ob,xs,z⟩<;>(rw[z]at h;cases h)
  ·exact .inl ⟨o,h⟩
  ·exact .inr h
 refine⟨rfl,[],[],_,⟨rfl,zj,λn b o z=>by cases z⟩,.cons (.lit fz (Mb ns)) .nil,?_⟩;rw[e];intro ρ' H' _ _ v rv;cases rv;rfl
@[elab_as_elim] theorem F2{A:Type}{P:List A->Prop}(h:∀a,P [a])(c:List A)(g:c.length=1):P c:=by
 cases c with
 |nil=>cases g
 |cons a t=>cases t with
  |nil=>exact h a
  |cons b u=>simp at g
@[elab_as_elim] theorem sC{A:Type}{P:List A->Prop}(h:∀q o,P [q,o])(c:List A)(g:c.length=2):P c:=by
 cases c with
 |nil=>cases g
 |cons a t=>exact F2 (P:=λt=>P (a::t)) (h a) t (gT g)
@[elab_as_elim] theorem GZ{A:Type}{P:List A->Prop}(h:∀u q o,P [u,q,o])(c:List A)(g:c.length=3):P c:=by
 cases c with
 |nil=>cases g
 |cons a t=>exact sC (P:=λt=>P (a::t)) (h a) t (gT g)
@[elab_as_elim] theorem T7{A:Type}{P:List A->Prop}(h:∀v u q o,P [v,u,q,o])(c:List A)(g:c.length=4):P c:=by
 cases c with
 |nil=>cases g
 |cons a t=>exact GZ (P:=λt=>P (a::t)) (h a) t (gT g)
end MM
namespace MM
open PySem PySem.W PyProof.Rows L2
section
variable{K:Frag}{ρ:List af}{H H1:Hp}{st:aR}
theorem Ex.more(h:∀b o,H b=some o->H1 b=some o):Ex ρ H ρ H1:=
 ⟨⟨[],by simp,by simp⟩,λb u _ e=>h b u e,λb u _ e=>h b u e,λb u e=>⟨u,h b u e,rfl⟩⟩
theorem SR.more(s:SR K ρ H st)(h:∀b o,H b=some o->H1 b=some o):SR K ρ H1 st:=
 ⟨s.len,s.nd,λn b ob g c=>p_.mono (o:=ob) (Ex.more (ρ:=ρ) h).up (s.ob n b ob g c) λu q=>h b u q⟩
theorem UA{e g:af}{f:Str}{v:V}{ob:Obj}{o:HO}(c:H e=none)(hd:H g=none):∀b u,H b=some u->iG (eO H e o) e g f v ob b=some u:=λb u q=>by unfold iG;rw[gm (pi q c),gm (pi q hd),gm (pi q c)];exact q
end
section
variable{X:Cx}{sc:dD}{x f y:Str}{C N P NP D:af}{pos p p1:Pos}{e:Expr}{fa:CE}{xs:List Str}
theorem LF(F : XF X.K x f C N P NP)(L : cS (.type "ValueError") f = pure none)(ha : SE X e fa)(hb : cR e f X.env (eval e X.env) = eval e X.env := by rfl):
  SE X (.Attribute e f pos) (c1 (qB x f) fa):=
 (WL L ha hb).of λσ H Q h_=>h_.el λρ l st J u q=>⟨ρ,l,st,J,u,q.bnd.imp λd h ρ1 H1 x1 E c v G=>by
  cases G with
  |@exn a C' dx x' f' v' d' g hh h2 r=>
   obtain⟨⟨rfl,rfl⟩,I⟩:=c.chk;obtain⟨o,U,Y,hd,O⟩:=hh;have eC:C'=C:=by have:=g.symm.trans F.gl;injection this with t;injection t with t;injection t
   subst eC;exact⟨a,dx,v',o,_,_,_,_,_,rfl,F,U,Y,hd,O.imp λ_ z=>z.1,h2,I.ret E _ r⟩
  |_=>exact c.elim⟩
structure XO(K:Frag)(y:Str)(D:af):Prop where
 gl:nsIn K bz y=some (some (.ref D))
 ob:∃N bm q bs sn sub ab col dd k0 k1 k2 k3 k5,K.lookup D=some (eP y q D N bs bm true sn sub ab col dd k0 k1 k2 k3 k5 "ValueError.__new__")
theorem XF.xo(F:XF X.K x f C N P NP):XO X.K x C:=⟨F.gl,_,_,F.ob⟩
theorem XF.xp(F:XF X.K x f C N P NP):XO X.K "PactError" P:=⟨F.glP,_,_,F.obP⟩
theorem XO.iff{K:Frag}{x y:Str}{C D:af}(a:XO K x C)(b:XO K y D):decide (D=C)=(x == y):=by
 by_cases z:x=y
 ·subst z;have e:C=D:=by have:=a.gl.symm.trans b.gl;injection this with t;injection t with t;injection t
  rw[e];simp
 ·rw[aO (λw=>?_),beq_eq_false_iff_ne.mpr z];subst w;obtain⟨N,bm,q,bs,U,sub,ab,J,dd,k0,k1,k2,k3,C,l⟩:=a.ob;obtain⟨N',O,Y,L,o,c,Q,h,I,H,G,E,v,u,g⟩:=b.ob;rw[l]at g;injection g with t
  injection t with _ _ t _
  injection t with t
  injection t with t
  exact z t
theorem FO{H:Hp}{Q:VK}{a u:af}{v:Str}{T:V}(B:∀x∈xs,∃f C N P NP,XF X.K x f C N P NP)(hx:v∈xs)(g:nsIn X.K bz v=some (some (.ref u)))(hh:∃o,H a=some (.frz o (.own a))/\o.cls=.ref u)
  (hT:T=.ty "ValueError"\/∃y D,T=.ref D/\XO X.K y D) (q:∀P,XO X.K v u->XO X.K "PactError" P->Q (.bl (tV u P T)) H):
  ∃b ob x f C N P NP E,[V.ref a,T]=[.ref b,E]/\XF X.K x f C N P NP/\H b=some (.frz ob (.own b))/\ob.cls=.ref C/\(E=.ty "ValueError"\/∃D nm q bs bm N G sub ab c dd Y U L J I,E=.ref D/\X.K.lookup D=some (eP nm q D N bs bm true G sub ab c dd Y U L J I "ValueError.__new__"))/\Q (.bl (tV C P E)) H:=by
 obtain⟨f,C,N,P,NP,F⟩:=B v hx;obtain⟨o,ho,hc⟩:=hh;have eC:u=C:=by have:=g.symm.trans F.gl;injection this with t;injection t with t;injection t
 subst eC;refine⟨a,o,v,f,u,N,P,NP,T,rfl,F,ho,hc,?_,q P F.xo F.xp⟩;rcases hT with h|⟨y,D,h,O⟩
 ·exact .inl h
 ·obtain⟨N,bm,q,bs,G,sub,ab,c,dd,Y,U,L,J,I,l⟩:=O.ob;exact .inr ⟨D,y,q,bs,bm,N,G,sub,ab,c,dd,Y,U,L,J,I,h,l⟩
theorem Lw(B:∀x∈xs,∃f C N P NP,XF X.K x f C N P NP)(hg:Gl X "isinstance")(hm:X.mg "isinstance"=none)(hv:cN "isinstance"=some (.builtin "isinstance"))(L:Gl X "ValueError")(J:X.mg "ValueError"=none)(G:cN "ValueError"=some (.type "ValueError"))(ha:SE X e fa)
  (Y:starEach [e,.Name "ValueError" p1] X.env=(false,eval e X.env)::starEach [.Name "ValueError" p1] X.env:=by rfl) (O:starEach [.Name "ValueError" p1] X.env=(false,eval (.Name "ValueError" p1) X.env)::starEach [] X.env:=by rfl) (I:(backTo pos (starEach [.Name "ValueError" p1] X.env)).any (·.1)=false:=by rfl):
  SE X (.Call (.Name "isinstance" p) [e,.Name "ValueError" p1] [] pos) (c1 (mZ xs λ_=>true) fa):=
 (Bl LN hg hm hv (n8 ha (n8 (L0 (v:=.ty "ValueError") L J G rfl (by decide) (by decide)) qp O) Y) (by decide) (by decide) Y I).of λσ H Q h_=>h_.el λρ l st lr sr q=>⟨ρ,l,st,lr,sr,q.bnd.imp λd cw ρ1 H1 x1 U c v rv=>by
  cases rv with
  |@exn a C' dx x' f' v' d' g hh h2 r=>
   obtain⟨E,u⟩:=c.chk;obtain⟨o,ho,hc,_⟩:=hh;exact FO B E g ⟨o,ho,hc⟩ (.inl rfl) λP h1 h2=>u.ret U _ (.bl _)
  |@exn0 a C' x' g hh=>
   obtain⟨E,u⟩:=c.chk;exact FO B E g hh (.inl rfl) λP h1 h2=>u.ret U _ (.bl _)
  |@gfn a x' g h=>exact (B x' c.chk.1).elim λ_ z=>z.elim λ_ z=>z.elim λ_ z=>z.elim λ_ z=>z.elim λ_ z=>z.nofn g h
  |_=>exact c.elim⟩
end
noncomputable def pe(es:Array oE)(ns:List Str):Bool:=es.toList.all λe=>match e.key with
 | .str n _ => !(ns.contains n)
 |_=>false
section
variable{K:Frag}{N:af}{es:Array oE}{ns:List Str}{n:Str}{o:ac}{d:Option af}{ep:Nat}{sl:Array (Option ac)}
theorem WS(h:pe es ns=true):StrKeys es:=λe c=>by
 have:=cq.mp h e (Array.mem_toList_iff.mpr c);cases k:e.key with
 |str n t=>exact⟨n,t,rfl⟩
 |_=>rw[k]at this;cases this
theorem NH(l:K.lookup N=some ⟨o,d,.dict es ep,sl⟩)(h:pe es ns=true)(q:n∈ns):nsIn K N n=some none:=by
 have a:∀e∈es.toList,e.key.isStr n=false/\e.refKey=false:=λe c=>by
  have:=cq.mp h e c;obtain⟨hh,k,v⟩:=e;cases k with
  |str m t=>
   have g:(!(ns.contains m))=true:=this;refine⟨?_,rfl⟩
   show (m == n)=false;refine beq_eq_false_iff_ne.mpr λz=>?_;subst z;rw[lP.mpr q]at g;cases g
  |_=>cases this
 unfold nsIn;rw[l];dsimp only;rw[List.find?_eq_none.mpr λe c=>by rw[(a e c).1];exact aW];dsimp only;rw[az];intro z;obtain⟨e,c,t⟩:=List.any_eq_true.mp z;rw[(a e c).2]at t;cases t
theorem NV(l:K.lookup N=some ⟨o,d,.dict es ep,sl⟩)(h:pe es ns=true):rD K N:=⟨_,_,_,_,_,l,WS h⟩
end
theorem Ww{K:Frag}{x f:Str}{C N P NP:af}{fs:List Str}{q q':Str}{bs bs':List ac}{sn G:List Str}{sub c:List ac}{ab ab':Bool}{col E:Option Bool}{dd dd':Option af}{k0 k1 k2 k3 k5 Q O L J I:Option ac}
  {o o':ac}{d d':Option af}{es v:Array oE}{ep Y:Nat}{sl H:Array (Option ac)}{ns:List Str}
  (g:nsIn K bz x=some (some (.ref C))) (l:K.lookup C=some (eP x q C N bs (.ref P::fv) true sn sub ab col dd k0 k1 k2 k3 k5 "ValueError.__new__")) (lN:K.lookup N=some ⟨o,d,.dict es ep,sl⟩) (h:pe es ns=true) (kp:keepIn K (.ref C)=true)
  (g':nsIn K bz "PactError"=some (some (.ref P))) (l':K.lookup P=some (eP "PactError" q' P NP bs' fv true G c ab' E dd' Q O L J I "ValueError.__new__")) (u:K.lookup NP=some ⟨o',d',.dict v Y,H⟩) (h':pe v fs=true)
  (s1:∀n∈([ag "__getattribute__",ag "__getattr__",ag "__setattr__",ag "__class__",f]:List Str),n∈ns:=by nofun)
  (s2:∀n∈([ag "__getattribute__",ag "__getattr__",ag "__setattr__",ag "__class__",f,ag "__init__",ag "args"]:List Str),n∈fs:=by nofun):XF K x f C N P NP where
 gl:=g
 ob:=⟨_,_,_,_,_,_,_,_,_,_,_,_,l⟩
 obP:=⟨_,_,_,_,_,_,_,_,_,_,_,_,l'⟩
 glP:=g'
 sN:=NV lN h
 sP:=NV u h'
 nn:=λn U=>NH lN h (s1 n U)
 np:=λn U=>NH u h' (s2 n U)
 kp:=kp
end MM
namespace MM
open PySem PySem.Spec PyProof.Rows L2
noncomputable def Kt(h h':bh):Prop:=∀c o,h.get? c=some o->o.cls=.type "tuple"->h'.get? c=some o
structure So(prog:Program)(w:bq)(K:Type)[DecidableEq K] where
 is:bh->K->af->Prop
 hash:K->Int
 draws:K->Nat
 keep:∀{h h':bh}{k:K}{b:af},Kt h h'->is h k b->is h' k b
 hashes:∀{A:bn}{E:ac->ah->Prop}{s:ah}{k:K}{b:af}{Q:Int->ah->Prop},A.units+1 < dM->is s.heap k b->Q (hash k) { s with toks:=s.toks+draws k }->aA (aP prog w) A (pyHash (.ref b)) Q E s
 eqs:∀{A:bn}{E:ac->ah->Prop}{s:ah}{x y:K}{a b:af}{Q:Bool->ah->Prop},A.units+1 < dM->is s.heap x a->is s.heap y b->Q (decide (x=y)) s->aA (aP prog w) A (eqBool (.ref a) (.ref b)) Q E s
 quiet:∀{A:bn}{E:ac->ah->Prop}{s:ah}{k:K}{b:af}{Q:Bool->ah->Prop},is s.heap k b->Q true s->aA (aP prog w) A (oG 8 (.ref b)) Q E s
 cls:∀{A:bn}{E:ac->ah->Prop}{s:ah}{k:K}{b:af}{Q:Bool->ah->Prop},is s.heap k b->Q false s->aA (aP prog w) A (ofAClassStatement 8 (.ref b)) Q E s
 byv:∀{A:bn}{E:ac->ah->Prop}{s:ah}{k:K}{b:af}{Q:Bool->ah->Prop},is s.heap k b->Q true s->aA (aP prog w) A (hashByValue 8 (.ref b)) Q E s
section
variable{prog:Program}{w:bq}{K:Type}[DecidableEq K](T:So prog w K)
variable{T}
variable{A:bn}{E:ac->ah->Prop}{s:ah}{a:af}{h8:Bool}{m:Nat}{key:Nat->K}{es:Array (Int×ac)}
end
section
variable{prog:Program}{w:bq}{A:bn}{E:ac->ah->Prop}{s:ah}
theorem items_int{k:List Int}{c:List ac}(h:ItemsAre (oz prog w) k c):∀v∈c,∃i t,v=gR i t:=by
 induction h with
 |nil=>simp
 |cons h1 h2 ih=>
  intro v g;rcases aF.mp g with z|z
  ·subst z;cases v with
   |int i t=>exact⟨i,t,rfl⟩
   |_=>cases h1
  ·exact ih v z
end
end MM
namespace MM
open PySem
noncomputable def yL:MO->Bool
 | .clo _ _=>true
 |_=>false
def DI(o:MO):MO:=if yL o=true then .ded else o
def Ei(n:Nat)(s:aR):aR:=s.take n++(s.drop n).map DI
noncomputable def EG(s:aR)(i:Nat)(o:MO):MO:=match s[i]? with
 |some (.clo c v)=>.clo c v
 |_=>o
open Classical in
def AQ(g:List D->M D)(c ds:List D):M D:=λs=>match g (ds++c) (Ei 0 s) with
 | .ok r s2=>if ∀(i:Nat)(o:MO),s[i]?=some o->yL o=true->s2[i]?=some MO.ded then .ok r (s2.mapIdx (EG s)) else .bad
 |_=>.bad
structure RK where
 n:Nat
 k:Nat
 g:List D->M D
structure RL where
 n:Nat
 k:Nat
 g:List D->M D
noncomputable abbrev WT:=List (Expr×RL)×List (rM×RK)
open PySem.Spec PyProof.Rows L2
noncomputable def BMod(base:bh)(mg:Str->Option ac):Prop:=∃bm ob,mg "__builtins__"=some (.ref bm)/\bm≠pK/\base.get? bm=some ob/\ob.cls=.type "module"/\ob.dict=some pK/\ob.data=.plain
section
variable{X:Cx}
def Ij(X:Cx)(x:Str):Prop:=∃f o g c P,g6 X.K bz x=some (some (.ref f))/\X.K.lookup f=some o/\o.data=.func g/\g.code=.ref c/\oh X.K c P=true/\X.env.code=.ref c/\X.env.qual=x++".<locals>."/\BMod X.base X.mg
def CK(P:Program)(w:bq)(K:aj)(mg:Str->Option ac)(base:bh)(k n:Nat)(e:Expr)(g:List D->M D):Prop:=
 ∀(ps:EO)(b:Expr)(sc:dD)(pos:Pos)(q:Str)(c:af)(u ct:ac),e=.Lambda ps b sc pos->∀(A:bn)(outer:List Env)(s:ah)(H:Hp)(a:af)(o:List ac)(h:List V)(Q:VK),fo k A->qS P w K mg base A outer s H ->
  H a=some (.frz (uK "<lambda>" q ps b sc [] u c ct) (.own a))->pZ H c q->cB h o->lU K n g h H Q E0->mM (aP P w) A (.call (.ref a) ⟨o,[]⟩) (CR ou outer P w H s Q E0) s
end
def Dx(P:Program)(w:bq)(K:aj)(mg:Str->Option ac)(base:bh)(k n:Nat)(c:rM)(g:List D->M D):Prop:=
 ∀(A:bn)(outer:List Env)(s:ah)(H:Hp)(ρ:List af)(st:aR)(m:Nat)(a:af)(o ds:List D)(q:List ac)(h:List V)(Q:VK),fo k A->qS P w K mg base A outer s H->SR K ρ H st->ρ[m]?=some a->st[m]?=some (.clo c o) ->
  bI K ρ H h ds->cB h q->ds.length=n->aU K ρ H (AQ g o ds st) (λr _ ρ' u=>∀v,dg K ρ' u v r->Q v u)->mM (aP P w) A (.call (.ref a) ⟨q,[]⟩) (CR ou outer P w H s Q E0) s
set_option genInjectivity false in
structure RF where
 n:Nat
 k:Nat
 ps:List Str
 kw:Bool
 g:List D->M D
set_option genInjectivity false in
structure RC where
 sc:dD
 N:List Str
 k:Nat
 G:List (Str×RF)
 Z:List Str
 C:List (Str×D)
 H:List (Nat×Nat×Nat)
 top:Bool
 W:WT
 T:Option (Nat×Str)
noncomputable def RC.tag(c:RC)(p:Pos)(t:Nat):Bool:=c.H.contains (p.line,p.col,t)
noncomputable def RC.glo(c:RC)(x:Str):Bool:=c.sc.names.lookup x == some .globalImplicit
noncomputable def ka(x:Str):Bool := !((x == ("__debug__":Str))||(x == ("__classdict__":Str))||decide (x=("__name__":Str)))
theorem pj{x:Str}(h:ka x=true):mE x:=V5 (by unfold ka at h;simpa only[vR] using h)
def JS(K:aj)(c:bN)(ps:List Str):Prop:=if ps.getLast?=some (ag "most") then ∃u,RelV (.int 500) u/\Binds K c ps [u] else xA K c ps
structure GF(P:Program)(w:bq)(K:aj)(mg:Str->Option ac)(base:bh)(x:Str)(r:RF):Prop where
 ex:∃f fd,mg x=some (.ref f)/\fV P w K mg base ou r.k f fd r.ps (lU K r.n r.g)/\fm K (.ref f)=true/\Binds K fd r.ps []/\(r.kw=true->JS K fd r.ps)
def NO(P:Program)(w:bq)(K:aj)(mg:Str->Option ac)(base:bh)(W:WT):Prop:=(∀e r,(e,r)∈W.1->CK P w K mg base r.k r.n e r.g)/\∀c r,(c,r)∈W.2->Dx P w K mg base r.k r.n c r.g
structure Good(X:Cx)(c:RC):Prop where
 S:Sc X c.sc
 N:X.N=c.N
 nd:X.N.Nodup
 hr:fo c.k X.A
 G:∀x r,c.G.lookup x=some r->GF X.prog X.w X.K X.mg X.base x r
 Z:∀x,c.Z.contains x=true->X.mg x=none
 C:∀x d,c.C.lookup x=some d->∃v u,X.mg x=some u/\RelV v u/\∀ρ H,dg X.K ρ H v d
 ps:oA (aP X.prog X.w) X.A X.env X.xe
 kd:c.top=true->X.env.blockKind=.function/\∀x,X.env.kindOf x=c.sc.names.lookup x
 W:NO X.prog X.w X.K X.mg X.base c.W
 T:∀t,c.T=some t->Ij X t.2
theorem Good.hu{X:Cx}{c:RC}(g:Good X c):X.A.units+60 < dM:=UG g.hr
noncomputable def pU:Expr->Bool
 | .Starred .. => false
 |_=>true
theorem m3{e:Expr}{es:List Expr}{env:Env}(h:pU e=true):starEach (e::es) env=(false,eval e env)::starEach es env:=by cases e<;>first|rfl|cases h
theorem wF{env:Env}{pos:Pos}:∀{es:List Expr},es.all pU=true->(backTo pos (starEach es env)).any (·.1)=false
 |[],_=>rfl
 |e::es,h=>by rw[bu,aI]at h;rw[m3 h.1];exact wF h.2
theorem Nw{env:Env}{pos:Pos}:∀{es:List Expr},es.all pU=true->(backTo pos (starEach es env)).all (λx => !x.1)=true
 |[],_=>rfl
 |e::es,h=>by rw[bu,aI]at h;rw[m3 h.1];exact Nw h.2
noncomputable def Et:Expr->Bool
 | .ListComp .. => false
 | .SetComp .. => false
 | .DictComp .. => false
 |_=>true
theorem xy{e:Expr}{t:Option Expr}{n:Nat}{env:Env}(h:Et e=true):eD e t n env=pure false:=by cases e<;>first|rfl|cases h
noncomputable def w_:Expr->Bool
 | .Set .. => false
 |_=>true
theorem Cd{e:Expr}{env:Env}(h:w_ e=true)(x:ac):dQ e env x=pure x:=by cases e<;>first|rfl|cases h
theorem Cs{op:lV}{e:Expr}(h:w_ e=true):fC op e=false:=by cases e<;>first|rfl|cases h
noncomputable def Fb:Expr->Bool
 | .Call _ [] _ _=>false
 |_=>true
theorem Hw{e:Expr}{x:Str}{env:Env}{w:Sem ac}(h:Fb e=true):cR e x env w=w:=by
 cases e with
 |Call f as ks p=>
  cases as with
  |nil=>cases h
  |cons a as=>unfold cR;cases f<;>rfl
 |_=>rfl
noncomputable def EA:Expr->Bool
 | .Slice .. => false
 |_=>true
theorem zB{e:Expr}(h:EA e=true):ng e:=by intro o i;cases e<;>first|rfl|cases h
noncomputable def Fi:Expr->Bool
 | .Compare .. => false
 | .BoolOp .. => false
 | .UnaryOp .. => false
 | .IfExp .. => false
 |_=>true
theorem HV{e:Expr}{env:Env}(h:Fi e=true)(w:Sem ac):PySem.isTrue e env w=(do let v <- w;qe e.pos;mL [v] (truthy v)):=by cases e<;>first|rfl|cases h
abbrev DZ(c:RC)(x:Expr):={r:CE // ∀{X:Cx},Good X c->SE X x r}
abbrev OJ(c:RC)(x:Expr):={r:CA // ∀{X:Cx},Good X c->SL X x r}
abbrev Mn(c:RC)(x:Expr):={r:CT // ∀{X:Cx},Good X c->ST X x r}
abbrev G5(c:RC)(tg x:Expr):={r:CI // ∀{X:Cx},Good X c->SI X tg x r}
abbrev Kh(c:RC)(x:Expr):={r:CG // ∀{X:Cx},Good X c->SG X x r}
abbrev NU(c:RC)(x:Stmt):={r:CS // ∀{X:Cx},Good X c->SS X x r}
set_option genInjectivity false in
structure lf where
 e:∀(c:RC)(x:Expr),Option (DZ c x)
 l:∀(c:RC)(x:Expr),Option (OJ c x)
 t:∀(c:RC)(x:Expr),Option (Mn c x)
 i:∀(c:RC)(tg x:Expr),Option (G5 c tg x)
 g:∀(c:RC)(x:Expr),Option (Kh c x)
 s:∀(c:RC)(x:Stmt),Option (NU c x)
abbrev kX:=lf->∀(c:RC)(x:Expr),Option (DZ c x)
abbrev FK:=lf->∀(c:RC)(x:Expr),Option (OJ c x)
abbrev Dd:=lf->∀(c:RC)(x:Expr),Option (Mn c x)
abbrev vY:=lf->∀(c:RC)(tg x:Expr),Option (G5 c tg x)
abbrev Fn:=lf->∀(c:RC)(x:Expr),Option (Kh c x)
abbrev vq:=lf->∀(c:RC)(x:Stmt),Option (NU c x)
set_option genInjectivity false in
structure mj where
 e:List kX
 l:List FK
 t:List Dd
 i:List vY
 g:List Fn
 s:List vq
noncomputable def sF{α β:Type}(f:α->Option β):List α->Option β
 |[]=>none
 |a::as=>match f a with
  |some b=>some b
  |none=>sF f as
def nV(R:mj):Nat->lf
 |0=>⟨λ_ _=>none,λ_ _=>none,λ_ _=>none,λ_ _ _=>none,λ_ _=>none,λ_ _=>none⟩
 |n+1 => ⟨λc x => sF (λr => r (nV R n) c x) R.e, λc x => sF (λr => r (nV R n) c x) R.l, λc x => sF (λr => r (nV R n) c x) R.t,
   λc tg x=>sF (λr=>r (nV R n) c tg x) R.i,λc x=>sF (λr=>r (nV R n) c x) R.g,λc x=>sF (λr=>r (nV R n) c x) R.s⟩
noncomputable def wh{α:Type}(C:Prop)[Decidable C](k:C->Option α):Option α:=if h:C then k h else none
section
variable{β:Type}
section
variable{α:Type}(e:List α)
noncomputable def v0(k:e=[]->Option β):Option β:=match e,k with
 |[],k=>k rfl
 |_,_=>none
noncomputable def vC(k:∀a c,e=a::c->Option β):Option β:=match e,k with
 |a::c,k=>k a c rfl
 |_,_=>none
def v1(k:∀a,e=[a]->Option β):Option β:=vC e λa g h=>v0 g λc=>k a (c ▸ h)
def v2(k:∀a b,e=[a,b]->Option β):Option β:=vC e λa g h=>v1 g λb c=>k a b (c ▸ h)
end
section
variable{α:Type}(e:Option α)
noncomputable def oN(k:e=none->Option β):Option β:=match e,k with
 |none,k=>k rfl
 |_,_=>none
noncomputable def oS(k:∀a,e=some a->Option β):Option β:=match e,k with
 |some a,k=>k a rfl
 |_,_=>none
end
section
variable(e:Expr)
noncomputable def rC(k:∀x p,e=.Name x p->Option β):Option β:=match e,k with
 | .Name x p,k=>k x p rfl
 |_,_=>none
noncomputable def vCl(k:∀f c ks p,e=.Call f c ks p->Option β):Option β:=match e,k with
 | .Call f c ks p,k=>k f c ks p rfl
 |_,_=>none
noncomputable def HI(k:∀o x p,e=.Attribute o x p->Option β):Option β:=match e,k with
 | .Attribute o x p,k=>k o x p rfl
 |_,_=>none
noncomputable def Bo(k:∀a b p,e=.Subscript a b p->Option β):Option β:=match e,k with
 | .Subscript a b p,k=>k a b p rfl
 |_,_=>none
noncomputable def HE(k:∀v n p,e=.Constant v n p->Option β):Option β:=match e,k with
 | .Constant v n p,k=>k v n p rfl
 |_,_=>none
noncomputable def PX(k:∀a o b p,e=.BinOp a o b p->Option β):Option β:=match e,k with
 | .BinOp a o b p,k=>k a o b p rfl
 |_,_=>none
noncomputable def LX(k:∀a os bs p,e=.Compare a os bs p->Option β):Option β:=match e,k with
 | .Compare a os bs p,k=>k a os bs p rfl
 |_,_=>none
noncomputable def FJ(k:∀o es p,e=.BoolOp o es p->Option β):Option β:=match e,k with
 | .BoolOp o es p,k=>k o es p rfl
 |_,_=>none
noncomputable def zW(k:∀o a p,e=.UnaryOp o a p->Option β):Option β:=match e,k with
 | .UnaryOp o a p,k=>k o a p rfl
 |_,_=>none
noncomputable def Eg(k:∀es n p,e=.Tuple es n p->Option β):Option β:=match e,k with
 | .Tuple es n p,k=>k es n p rfl
 |_,_=>none
noncomputable def RP(k:∀es p,e=.List es p->Option β):Option β:=match e,k with
 | .List es p,k=>k es p rfl
 |_,_=>none
noncomputable def Rp(k:∀a b s p,e=.Slice a b s p->Option β):Option β:=match e,k with
 | .Slice a b s p,k=>k a b s p rfl
 |_,_=>none
noncomputable def Ub(k:∀x c sc p,e=.ListComp x c sc p->Option β):Option β:=match e,k with
 | .ListComp x c sc p,k=>k x c sc p rfl
 |_,_=>none
def x_(k:∀x p c q,e=.Call (.Name x p) c [] q->Option β):Option β:=vCl e λf c ks q h=>rC f λx p o=>v0 ks λg=>k x p c q (o ▸ g ▸ h)
def E8(k:∀x p a q,e=.Call (.Name x p) [a] [] q->Option β):Option β:=x_ e λx p g q h=>v1 g λa c=>k x p a q (c ▸ h)
def Ff(k:∀x p a b q,e=.Call (.Name x p) [a,b] [] q->Option β):Option β:=x_ e λx p g q h=>v2 g λa b c=>k x p a b q (c ▸ h)
def vM(k:∀o x p c q,e=.Call (.Attribute o x p) c [] q->Option β):Option β:=vCl e λf c ks q h=>HI f λo x p u=>v0 ks λg=>k o x p c q (u ▸ g ▸ h)
def Ow(k:∀a o b p,e=.Compare a [o] [b] p->Option β):Option β:=LX e λa os bs p h=>v1 os λo g=>v1 bs λb c=>k a o b p (g ▸ c ▸ h)
def Dn(k:∀a lo c p q,e=.Subscript a (.Slice lo c none p) q->Option β):Option β:=Bo e λa b q h=>Rp b λlo c s p o=>oN s λg=>k a lo c p q (g ▸ o ▸ h)
end
section
variable(e:Stmt)
noncomputable def Qz(k:∀c a p,e=.Assign c a p->Option β):Option β:=match e,k with
 | .Assign c a p,k=>k c a p rfl
 |_,_=>none
noncomputable def Dq(k:∀o p,e=.Return o p->Option β):Option β:=match e,k with
 | .Return o p,k=>k o p rfl
 |_,_=>none
noncomputable def Ke(k:∀a p,e=.Expr a p->Option β):Option β:=match e,k with
 | .Expr a p,k=>k a p rfl
 |_,_=>none
noncomputable def C_(k:∀t a b p,e=.If t a b p->Option β):Option β:=match e,k with
 | .If t a b p,k=>k t a b p rfl
 |_,_=>none
noncomputable def WD(k:∀t a b p,e=.While t a b p->Option β):Option β:=match e,k with
 | .While t a b p,k=>k t a b p rfl
 |_,_=>none
noncomputable def GV(k:∀t i a b p,e=.For t i a b p->Option β):Option β:=match e,k with
 | .For t i a b p,k=>k t i a b p rfl
 |_,_=>none
noncomputable def LJ(k:∀a b p,e=.Raise a b p->Option β):Option β:=match e,k with
 | .Raise a b p,k=>k a b p rfl
 |_,_=>none
noncomputable def LM(k:∀a h b d p,e=.Try a h b d p->Option β):Option β:=match e,k with
 | .Try a h b d p,k=>k a h b d p rfl
 |_,_=>none
def AB(k:∀t a p,e=.Assign [t] a p->Option β):Option β:=Qz e λc a p h=>v1 c λt g=>k t a p (g ▸ h)
end
end
abbrev Um(c:RC)(es:List Expr):={r:CA // (∀{X:Cx},Good X c->SA X es r)/\es.all pU=true/\∀l st ds g,r l st=.ok ds g->ds.length=es.length}
def rV(q:lf)(c:RC):∀es:List Expr,Option (Um c es)
 |[]=>some ⟨bc,λ_=>Fw,rfl,Jq⟩
 |e::es=>wh (pU e=true) λh=>(q.e c e).bind λf=>(rV q c es).bind λr=>some ⟨ar f.1 r.1,λg=>Kd (f.2 g) (r.2.1 g) (m3 h),by rw[bu,h,r.2.2.1];rfl,FQ r.2.2.2⟩
abbrev Sz(c:RC)(es:List di):={r:CA // (∀{X:Cx},Good X c->SK X es r)/\∀l st ds g,r l st=.ok ds g->ds.length=es.length}
def LI(q:lf)(c:RC):∀es:List di,Option (Sz c es)
 |[]=>some ⟨bc,λ_=>Vw,Jq⟩
 |⟨nm,e,kp⟩::es=>(q.e c e).bind λf=>(LI q c es).bind λr=>some ⟨ar f.1 r.1,λg=>X7 (f.2 g) (r.2.1 g),FQ r.2.2⟩
theorem Op{env:Env}{pos:Pos}:∀{ks:List di},ks.all (λk=>k.arg.isSome)=true->(dZ pos (cz ks env)).all (·.1.isSome)=true/\(dZ pos (cz ks env)).filterMap (·.1)=ks.filterMap (·.arg)/\(dZ pos (cz ks env)).any (·.1.isNone)=false
 |[],_=>⟨rfl,rfl,rfl⟩
 |⟨none,e,kp⟩::ks,h=>by simp at h
 |⟨some x,e,kp⟩::ks,h=>by
  rw[bu,aI]at h;obtain⟨a,b,d⟩:=Op (env:=env) (pos:=pos) h.2;refine⟨?_,?_,?_⟩
  ·unfold cz dZ;rw[aQ,bu];exact (aI _ _).mpr ⟨rfl,a⟩
  ·exact bH (x::·) b
  ·unfold cz dZ;rw[aQ,b9];exact (mr).mpr ⟨rfl,d⟩
abbrev Tq(c:RC)(e:Option Expr):={r:CO // ∀{X:Cx},Good X c->SO X e r}
def wW(q:lf)(c:RC):∀e:Option Expr,Option (Tq c e)
 |none=>some ⟨iu,λ_=>To⟩
 |some e=>(q.e c e).bind λf=>some ⟨gJ f.1,λg=>Rm (f.2 g)⟩
abbrev Hl(c:RC)(g:List Stmt):={r:CS // ∀{X:Cx},Good X c->ul X g r}
def oR(q:lf)(c:RC):∀h:List Stmt,Option (Hl c h)
 |[]=>some ⟨aB,λ_=>B4⟩
 |s::h=>(q.s c s).bind λa=>(oR q c h).bind λb=>some ⟨aC a.1 b.1,λg=>FR (a.2 g) (b.2 g)⟩
def AF(c:RC)(x:Str):Option {i:Nat // c.N[i]?=some x/\(c.sc.names.lookup x=some .local\/c.sc.names.lookup x=some .cell\/c.sc.names.lookup x=some .free)/\ka x=true}:=wh _ λh=>some ⟨c.N.idxOf x,h⟩
theorem RT{X:Cx}{c:RC}{x:Str}{i:Nat}{p:Pos}(g:Good X c)(h:c.N[i]?=some x/\(c.sc.names.lookup x=some .local\/c.sc.names.lookup x=some .cell\/c.sc.names.lookup x=some .free)/\ka x=true):SE X (.Name x p) (ak i):=by
 obtain⟨q,o,u⟩:=h;rw[<- g.N]at q;rcases o with o|o|o
 ·exact Ig g.S _ q o (pj u) (.inl rfl)
 ·exact Ig g.S _ q o (pj u) (.inr (.inl rfl))
 ·exact Ig g.S _ q o (pj u) (.inr (.inr rfl))
def G0:kX:=λ_ c e=>rC e λx _ h=>(AF c x).bind λi=>some ⟨ak i.1,λg=>h ▸ RT g i.2⟩
def zt{α:Type}(l:List (Str × α))(x:Str):Option {a:α // l.lookup x=some a}:=oS (l.lookup x) λa h=>some ⟨a,h⟩
def BZ:kX:=λ_ c e=>rC e λx _ e=>wh (c.glo x=true/\ka x=true) λh=>(zt c.C x).bind λd=>some ⟨ay d.1,λg=>by subst e;obtain⟨v,u,a,b,k⟩:=g.C _ _ d.2;exact Uh g.S (beq_iff_eq.mp h.1) a b (pj h.2) k⟩
noncomputable def wG:Const->Option D
 | .int i=>some (.int i)
 | .str i=>some (.str i)
 | .bool i=>some (.bl i)
 | .none=>some .non
 |_=>none
theorem JC{X:Cx}{v:Const}{n:Nat}{p:Pos}{d:D}(h:wG v=some d):SE X (.Constant v n p) (ay d):=by
 cases v<;>cases h
 ·exact O7
 ·exact VA
 ·exact Pa
 ·exact Vh
def JU{α:Type}(o:Option α):Option {a:α // o=some a}:=oS o λa h=>some ⟨a,h⟩
def IL:kX:=λ_ _ e=>HE e λv _ _ h=>(JU (wG v)).bind λd=>some ⟨ay d.1,λ_=>h ▸ JC d.2⟩
def Cp:kX:=λq c e=>(q.l c e).bind λa=>some ⟨eY a.1,λg=>Tj (a.2 g)⟩
abbrev Ps(op:xC)(f:D->D->M D):Prop:=∀{X:Cx},X.A.units+60 < dM->OpR X (eV op) (nD X.K f)
abbrev FM(op:lV)(f:D->D->M D):Prop:=∀{X:Cx},X.A.units+60 < dM->OpR X (bG op) (nD X.K f)
def DQ(o:xC)(f:D->D->M D)(h:Ps o f):kX:=λq c e=>PX e λa op b _ v=>wh (op=o) λz=>(q.e c a).bind λu=>(q.e c b).bind λfb=>some ⟨c2 f u.1 fb.1,λg=>v ▸ z ▸ Uw (h g.hu) (u.2 g) (fb.2 g)⟩
abbrev Xh(c:RC)(x:Expr):={r:CE // ∀{X:Cx},Good X c->SE X x r/\ST X x (bT r)}
abbrev qK:=lf->∀(c:RC)(x:Expr),Option (Xh c x)
noncomputable def qK.e(r:qK):kX:=λq c x=>(r q c x).bind λf=>some ⟨f.1,λg=>(f.2 g).1⟩
def qK.t(r:qK):Dd:=λq c x=>(r q c x).bind λf=>some ⟨bT f.1,λg=>(f.2 g).2⟩
def p9(o:lV)(f:D->D->M D)(h:FM o f):qK:=λq c e=>Ow e λa op b _ v=>wh (op=o/\w_ b=true) λz=>(q.e c a).bind λu=>(q.e c b).bind λfb=>some ⟨c2 f u.1 fb.1,λg=>v ▸ z.1 ▸ ⟨Ws (h g.hu) (u.2 g) (fb.2 g) (Cs z.2),KP (h g.hu) (u.2 g) (fb.2 g) (Cs z.2)⟩⟩
def C0(t:Nat)(o:lV)(f:D->D->M D)(h:FM o f):qK:=λq c e=>wh (c.tag e.pos t=true) λ_=>p9 o f h q c e
def vz(o:lV)(f:D->D->M D)(h:FM o f)(o':lV)(G:D->D->M D)(h':FM o' G):qK:=λq c e=>LX e λa os bs _ J=>v2 os λop v I=>v2 bs λb d H=>wh (op=o/\v=o'/\w_ d=true) λz=>(q.e c a).bind λE=>(q.e c b).bind λfb=>(q.e c d).bind λC=>some ⟨gA f G E.1 fb.1 C.1,λg=>by subst J I H;obtain⟨rfl,rfl,u⟩:=z;exact⟨OU (h g.hu) (h' g.hu) (E.2 g) (fb.2 g) (C.2 g) (show fC _ _=false from Cs u),R7 (h g.hu) (h' g.hu) (E.2 g) (fb.2 g) (C.2 g) (show fC _ _=false from Cs u)⟩⟩
def Dm(q:lf)(c:RC)(p:Pos):∀es:List Expr,Option (DZ c (.BoolOp .And es p))
 |[a]=>(q.e c a).bind λh=>some ⟨h.1,λg=>L4 (h.2 g)⟩
 |a::b::r=>(q.e c a).bind λh=>(Dm q c p (b::r)).bind λfb=>some ⟨pz h.1 fb.1,λg=>Xm (h.2 g) (fb.2 g)⟩
 |_=>none
def OB(q:lf)(c:RC)(p:Pos):∀es:List Expr,Option (DZ c (.BoolOp .Or es p))
 |[a]=>(q.e c a).bind λh=>some ⟨h.1,λg=>L4 (h.2 g)⟩
 |a::b::r=>(q.e c a).bind λh=>(OB q c p (b::r)).bind λfb=>some ⟨Lo h.1 fb.1,λg=>QY (h.2 g) (fb.2 g)⟩
 |_=>none
def Ib:kX:=λq c e=>FJ e λo es p h=>match o,h with
 | .And,h=>(Dm q c p es).bind λf=>some ⟨f.1,λg=>h ▸ f.2 g⟩
 | .Or,h=>(OB q c p es).bind λf=>some ⟨f.1,λg=>h ▸ f.2 g⟩
def IY:kX:=λq c e=>zW e λo a _ h=>wh (o=.Not) λz=>(q.e c a).bind λu=>some ⟨ud u.1,λg=>h ▸ z ▸ OI (u.2 g)⟩
def Hv:kX:=λq c e=>zW e λo a _ h=>wh (o=.USub) λz=>(q.e c a).bind λu=>some ⟨c1 vh u.1,λg=>h ▸ z ▸ L3 OE (u.2 g)⟩
def Jf:kX:=λq c e=>Eg e λes _ _ h=>(rV q c es).bind λo=>some ⟨dO o.1,λg=>h ▸ RQ (o.2.1 g)⟩
def wk:kX:=λq c e=>Bo e λa b _ h=>wh (EA b=true) λz=>(q.l c a).bind λo=>(q.e c b).bind λfb=>some ⟨lJ o.1 fb.1,λg=>h ▸ Ro (o.2 g) (fb.2 g) (zB z)⟩
def EB:kX:=λq c e=>Bo e λa b _ h=>wh (EA b=true) λz=>(q.e c a).bind λo=>(q.e c b).bind λfb=>some ⟨c2 aY o.1 fb.1,λg=>h ▸ UR g.hu (o.2 g) (fb.2 g) (zB z)⟩
noncomputable abbrev Go(X:Cx)(c:Pos)(es:List Expr):Prop:=((backTo c (starEach es X.env)).all (λx => !x.1)&&(dZ c (cz [] X.env)).all (λx=>x.1.isSome)&&decide (es.length+([]:List di).length+(if ([]:List di).isEmpty then 0 else 1) < 30))=true
theorem Kq{X:Cx}{c:Pos}{es:List Expr}(h:es.all pU=true)(g:es.length < 30):Go X c es:=by unfold Go;rw[Nw h];exact (aI _ _).mpr ⟨rfl,aM g⟩
def qq(x:String)(f:CE->CE->CE)(ok:RC->Pos->Bool) (h:∀{X:Cx}{o e:Expr}{C fb:CE}{v u:Pos},X.A.units+60 < dM->SE X o C->SE X e fb->cR o (ag x) X.env (eval o X.env)=eval o X.env->Go X u [e]->(v.endLine == u.line)=true ->
  starEach [e] X.env=(false,eval e X.env)::starEach [] X.env->(backTo u (starEach [] X.env)).any (·.1)=false->SE X (.Call (.Attribute o (ag x) v) [e] [] u) (f C fb)):kX:=
 λq c e=>vM e λo y Q O G L=>v1 O λa J=>wh (y=ag x/\Fb o=true/\pU a=true/\ok c G=true/\(Q.endLine == G.line)=true) λz=>(q.e c o).bind λC=>(q.e c a).bind λfb=>some ⟨f C.1 fb.1,λg=>by subst L J;obtain⟨rfl,I,E,_,H⟩:=z;exact h g.hu (C.2 g) (fb.2 g) (Hw I) (Kq (by rw[bu,E];rfl) (Nat.lt_of_sub_eq_succ rfl)) H (m3 E) rfl⟩
def D4:kX:=λq c e=>x_ e λx _ h _ H=>vC h λa h G=>(zt c.G x).bind λr=>wh (c.glo x=true/\ka x=true/\r.1.k<=c.k/\r.1.n=(a::h).length) λz=>(rV q c (a::h)).bind λo=>some ⟨bv r.1.g o.1,λg=>by subst H G;obtain⟨E,C,v,u⟩:=z;obtain⟨f,I,m,F,kp,B,_⟩:=(g.G _ _ r.2).ex;obtain⟨x,y,l⟩:=o.2;rw[bu,aI]at y;exact N8 g.S (beq_iff_eq.mp E) F (g.hr.mono v) m kp B (pj C) (x g) (by rw[u];exact l) (m3 y.1) (wF y.2)⟩
def RC.bl(c:RC)(x:Str):Bool:=c.glo x&&c.Z.contains x
theorem Good.gl{X:Cx}{c:RC}(g:Good X c){x:Str}(h:c.bl x=true):Gl X x/\X.mg x=none:=by unfold RC.bl at h;rw[aI]at h;exact⟨g.S.glo _ (beq_iff_eq.mp h.1),g.Z _ h.2⟩
def sS(x:String)(ok:RC->Pos->Bool)(f:List D->M D)(h:∀{X:Cx}{e:Expr}{v:CA}{p pos:Pos},X.calm=true->X.A.units+60 < dM->Gl X (ag x)->X.mg (ag x)=none->SL X e v->starEach [e] X.env=[(false,eval e X.env)]->SE X (.Call (.Name (ag x) p) [e] [] pos) (gW f v)):kX:=
 λq c e=>E8 e λy _ a p e=>wh (y=ag x/\c.bl y=true/\pU a=true/\ok c p=true) λz=>(q.l c a).bind λu=>some ⟨gW f u.1,λg=>by subst e;obtain⟨rfl,o,C,_⟩:=z;exact h g.S.calm g.hu (g.gl o).1 (g.gl o).2 (u.2 g) (m3 C)⟩
def ug(x:String)(ok:RC->Pos->Bool)(f:D->M D)(h:∀{X:Cx}{e:Expr}{o:CE}{p pos:Pos},X.calm=true->X.A.units+60 < dM->Gl X (ag x)->X.mg (ag x)=none->SE X e o->starEach [e] X.env=[(false,eval e X.env)]->SE X (.Call (.Name (ag x) p) [e] [] pos) (c1 f o)):kX:=
 λq c e=>E8 e λy _ a p e=>wh (y=ag x/\c.bl y=true/\pU a=true/\ok c p=true) λz=>(q.e c a).bind λo=>some ⟨c1 f o.1,λg=>by subst e;obtain⟨rfl,u,v,_⟩:=z;exact h g.S.calm g.hu (g.gl u).1 (g.gl u).2 (o.2 g) (m3 v)⟩
def wq(y:String)(T:pq y)(h:cN (ag y)=some (.type y))(n1:ag y≠ag "__name__")(n2:(ag y == ag "__debug__")=false):kX:=
 λq c e=>Ff e λz _ a b _ G=>rC b λx _ E=>wh (z=ag "isinstance"/\x=ag y/\c.bl z=true/\c.bl x=true/\pU a=true) λz=>(q.e c a).bind λv=>some ⟨c1 (eF [y]) v.1,λg=>by subst G E;obtain⟨rfl,rfl,u,o,C⟩:=z;exact W3 T (g.gl u).1 (g.gl u).2 (g.gl o).1 (g.gl o).2 h (v.2 g) (by nofun) n1 n2 (m3 C) rfl rfl⟩
section
def IU:FK:=λq c e=>RP e λes _ h=>(rV q c es).bind λo=>some ⟨iE o.1,λg=>h ▸ UH (o.2.1 g)⟩
def zu:FK:=λq c e=>Dn e λa lo u _ p h=>wh (c.tag p 1=false) λ_=>(q.e c a).bind λo=>(wW q c lo).bind λfl=>(wW q c u).bind λfh=>some ⟨ly o.1 fl.1 fh.1,λg=>h ▸ Wo (o.2 g) (fl.2 g) (fh.2 g)⟩
noncomputable def vZ:Nat->Expr->List Str
 |_,.Name x _=>[x]
 |n+1,.Tuple es _ _=>es.flatMap (vZ n)
 |_,_=>[]
abbrev CC(c:RC)(es:List Expr):={r:CT // ∀{X:Cx},Good X c->vc X es r}
def HU(q:lf)(c:RC):∀es:List Expr,Option (CC c es)
 |[]=>some ⟨bZ,λ_=>TX⟩
 |[t]=>(q.t c t).bind λf=>some ⟨f.1,λg=>Sm (f.2 g)⟩
 |_=>none
noncomputable def RC.inn(c:RC)(sc:dD)(own:List Str):RC:={ c with sc:=sc,N:=own++c.N.filter λx=>sc.names.lookup x == some .free,top:=false,T:=none }
noncomputable def RC.ix(c:RC)(sc:dD):List Nat:=(c.N.filter λx=>sc.names.lookup x == some .free).map c.N.idxOf
def RC.cok(c:RC)(sc:dD)(own:List Str)(b:Expr):Prop:=qJ c.sc sc=true/\pk c.N sc (c.inn sc own).N own.length (c.ix sc)=true/\(c.inn sc own).N.Nodup/\w_ b=true
instance(c:RC)(sc:dD)(own:List Str)(b:Expr):Decidable (c.cok sc own b):=by unfold RC.cok;infer_instance
theorem Good.inn{X:Cx}{c:RC}(g:Good X c){sc:dD}{own:List Str}{b:Expr}(h:c.cok sc own b)(o:List af)(s:ah)(H:Hp):Good (mV X (c.inn sc own).N sc o s H) (c.inn sc own):=
 ⟨Th g.S.calm,rfl,h.2.2.1,g.hr,λx r z=>⟨(g.G x r z).ex⟩,g.Z,g.C,kN,(λz=>(by cases z)),g.W,λ_ z=>(by cases z)⟩
set_option genInjectivity false in
structure GD(c:RC)(e:Expr) where
 x:Expr
 tg:Expr
 b:Expr
 ifs:List Expr
 sc:dD
 p:Pos
 eq:e=.ListComp x [⟨tg,b,ifs,0⟩] sc p
 ok:c.cok sc (vZ 8 tg).eraseDups b
 i:G5 c tg b
 g:Kh (c.inn sc (vZ 8 tg).eraseDups) tg
 t:CC (c.inn sc (vZ 8 tg).eraseDups) ifs
 f:DZ (c.inn sc (vZ 8 tg).eraseDups) x
def GD.r{c:RC}{e:Expr}(m:GD c e):CA:=dN (vZ 8 m.tg).eraseDups.length (c.ix m.sc) m.i.1 m.g.1 m.t.1 m.f.1
theorem W6{a:Comprehension}(h:a.is_async=0):a=⟨a.target,a.iter,a.ifs,0⟩:=by cases a;exact bH _ h
def Cq(q:lf)(c:RC)(e:Expr):Option (GD c e):=Ub e λx u sc p h=>v1 u λa o=>wh (a.is_async=0/\c.cok sc (vZ 8 a.target).eraseDups a.iter) λz=>
 (q.i c a.target a.iter).bind λv=>(q.g (c.inn sc (vZ 8 a.target).eraseDups) a.target).bind λg=>(HU q (c.inn sc (vZ 8 a.target).eraseDups) a.ifs).bind λt=>(q.e (c.inn sc (vZ 8 a.target).eraseDups) x).bind λf=>
  some ⟨x,a.target,a.iter,a.ifs,sc,p,by rw[h,o,<- W6 z.1],z.2,v,g,t,f⟩
def DH:FK:=λq c e=>(Cq q c e).bind λm=>some ⟨m.r,λg=>by obtain⟨x,tg,b,v,sc,p,rfl,ok,o,mg,mt,u⟩:=m;exact Q7 g.S.calm (Oe g.S ok.1) (Lj g.N ok.2.1) (o.2 g) (λh s H=>⟨mg.2 (g.inn ok h s H),mt.2 (g.inn ok h s H),u.2 (g.inn ok h s H)⟩) (Cd ok.2.2.2)⟩
abbrev Ll(c:RC)(o:BoolOp)(es:List Expr):={r:CT // ∀{X:Cx}{p:Pos},Good X c->PW X (.BoolOp o es p) (mG X.K r)}
def yG(q:lf)(c:RC):∀es:List Expr,Option (Ll c .And es)
 |[]=>none
 |[a]=>(q.t c a).bind λh=>some ⟨h.1,λg=>Ly (h.2 g)⟩
 |a::b::r=>(q.t c a).bind λh=>(yG q c (b::r)).bind λfb=>some ⟨kY h.1 fb.1,λg=>Lm (h.2 g) (fb.2 g)⟩
def DY(q:lf)(c:RC):∀es:List Expr,Option (Ll c .Or es)
 |[]=>none
 |[a]=>(q.t c a).bind λh=>some ⟨h.1,λg=>KN (h.2 g)⟩
 |a::b::r=>(q.t c a).bind λh=>(DY q c (b::r)).bind λfb=>some ⟨my h.1 fb.1,λg=>Ny (h.2 g) (fb.2 g)⟩
def zT:Dd:=λq c e=>FJ e λo es p h=>match o,h with
 | .And,h=>(yG q c es).bind λf=>some ⟨f.1,λg=>h ▸ L2.PW.pt (f.2 g)⟩
 | .Or,h=>(DY q c es).bind λf=>some ⟨f.1,λg=>h ▸ L2.PW.pt (f.2 g)⟩
def zN:Dd:=λq c e=>zW e λo a _ h=>wh (o=.Not) λz=>(q.t c a).bind λf=>some ⟨fK f.1,λg=>h ▸ z ▸ Gw (f.2 g)⟩
def Tu:Dd:=λq c e=>wh (Fi e=true) λz=>(q.e c e).bind λf=>some ⟨j_ f.1,λg=>Jl (f.2 g) (HV z)⟩
noncomputable def Ft:Expr->Bool
 | .Tuple .. => true
 |_=>false
noncomputable def SD(tg:Expr):Prop:=∃es n p,tg=.Tuple es n p
theorem GR{tg:Expr}(h:Ft tg=true):SD tg:=by cases tg<;>first|exact⟨_,_,_,rfl⟩|cases h
def Gy(t:Expr->Bool)(x:String)(ok:RC->Pos->Bool)(f:CE->CI)(h:∀{X:Cx}{tg e:Expr}{o:CE}{p pos:Pos},t tg=true->Gl X (ag x)->X.mg (ag x)=none->SE X e o->starEach [e] X.env=[(false,eval e X.env)]->SI X tg (.Call (.Name (ag x) p) [e] [] pos) (f o)):vY:=
 λq c tg e=>E8 e λy _ a p e=>wh (y=ag x/\c.bl y=true/\pU a=true/\t tg=true/\ok c p=true) λz=>(q.e c a).bind λo=>some ⟨f o.1,λg=>by subst e;obtain⟨rfl,u,C,v,_⟩:=z;exact h v (g.gl u).1 (g.gl u).2 (o.2 g) (m3 C)⟩
def Ov(t:Expr->Bool)(x:String)(ok:RC->Pos->Bool)(f:CE->CE->CI) (h:∀{X:Cx}{tg a b:Expr}{u fb:CE}{p pos:Pos},t tg=true->Gl X (ag x)->X.mg (ag x)=none->SE X a u->SE X b fb->starEach [a,b] X.env=(false,eval a X.env)::starEach [b] X.env->starEach [b] X.env=(false,eval b X.env)::starEach [] X.env ->
  starEach [a,b] X.env=[(false,eval a X.env),(false,eval b X.env)]->SI X tg (.Call (.Name (ag x) p) [a,b] [] pos) (f u fb)):vY:=
 λq c tg e=>Ff e λy _ a b p e=>wh (y=ag x/\c.bl y=true/\pU a=true/\pU b=true/\t tg=true/\ok c p=true) λz=>(q.e c a).bind λu=>(q.e c b).bind λfb=>some ⟨f u.1 fb.1,λg=>by subst e;obtain⟨rfl,C,v,o,E,_⟩:=z;exact h E (g.gl C).1 (g.gl C).2 (u.2 g) (fb.2 g) (m3 v) (m3 o) (by rw[m3 v,m3 o];rfl)⟩
noncomputable abbrev En:Expr->Bool:=λ_=>true
noncomputable abbrev iF:RC->Pos->Bool:=λ_ _=>true
def xx:vY:=Gy En "range" iF MM.gc λ_ g m a s=>Wv g m a s
def wK:vY:=Ov En "range" iF MM.m7 λ_ g m a b s t u=>O1 g m a b s t u t
def AR(t:Bool):vY:=Ov Ft "zip" (λc p=>c.tag p 7 == t) rF λh g m a b s t u=>by obtain⟨_,_,_,rfl⟩:=GR h;rw[S0];exact Uq true true g m a b s t u t
def AH:vY:=Gy Ft "enumerate" iF ml λh g m a s=>by obtain⟨_,_,_,rfl⟩:=GR h;rw[TR];exact Ml true g m a s
def C6:vY:=λq c _ e=>(q.e c e).bind λf=>some ⟨kf f.1,λg=>Rf (f.2 g)⟩
noncomputable abbrev La(c:RC)(x:Str)(i:Nat):Prop:=c.N[i]?=some x/\(c.sc.names.lookup x=some .local\/c.sc.names.lookup x=some .cell)
def BB(c:RC)(x:Str):Option {i:Nat // La c x i}:=wh _ λh=>some ⟨c.N.idxOf x,h⟩
theorem Bw{X:Cx}{c:RC}(g:Good X c){x:Str}{i:Nat}(h:La c x i):X.N[i]?=some x/\∃k,c.sc.names.lookup x=some k/\(k=.local\/k=.cell):=by
 refine⟨by rw[g.N];exact h.1,?_⟩;rcases h.2 with o|o
 ·exact⟨_,o,.inl rfl⟩
 ·exact⟨_,o,.inr rfl⟩
def Pt:Fn:=λ_ c e=>rC e λx _ h=>(BB c x).bind λi=>some ⟨aS i.1,λg=>by obtain⟨u,k,q,o⟩:=Bw g i.2;exact h ▸ RZ g.S _ g.nd u q o⟩
abbrev Kj(c:RC)(es:List Expr):={r:List D->Loc->M Loc // ∀{X:Cx},Good X c->zO X es r/\(da es X.env).length=es.length/\(da es X.env).findIdx? (·.1)=none}
theorem Rk{X:Cx}{e:Expr}{es:List Expr}{a:CG}{b:List D->Loc->M Loc}(g:pU e=true)(o:SG X e a)(h:zO X es b/\(da es X.env).length=es.length/\(da es X.env).findIdx? (·.1)=none):zO X (e::es) (bD a b)/\(da (e::es) X.env).length=(e::es).length/\(da (e::es) X.env).findIdx? (·.1)=none:=by
 obtain⟨u,q,d⟩:=h;have c:da (e::es) X.env=(false,mK e X.env)::da es X.env:=by cases e<;>first|rfl|cases g
 refine⟨Vr o u (by rw[c];rfl),by rw[c];exact bH (· + 1) q,?_⟩;rw[c,List.findIdx?_cons,d];rfl
def LV(q:lf)(c:RC):∀es:List Expr,Option (Kj c es)
 |[]=>some ⟨eZ,λ_=>⟨Qp,rfl,rfl⟩⟩
 |e::es=>wh (pU e=true) λh=>(q.g c e).bind λa=>(LV q c es).bind λb=>some ⟨bD a.1 b.1,λg=>Rk h (a.2 g) (b.2 g)⟩
def Ea:Fn:=λq c e=>Eg e λes _ _ h=>(LV q c es).bind λf=>some ⟨eR es.length f.1,λg=>h ▸ WQ g.S.calm (f.2 g).1 (f.2 g).2.1 (f.2 g).2.2⟩
def Dg:Fn:=λq c e=>Bo e λo i _ h=>wh (EA i=true) λz=>(q.e c o).bind λf=>(q.e c i).bind λk=>some ⟨on f.1 k.1,λg=>h ▸ O5 g.hu (f.2 g) (k.2 g) (λv=>by cases i<;>first|rfl|cases z)⟩
def Eu:vq:=λq c e=>Dq e λo _ h=>oS o λa u=>(q.e c a).bind λf=>some ⟨b8 f.1,λg=>h ▸ u ▸ Fx (f.2 g)⟩
def C9:vq:=λq c e=>Ke e λa _ h=>wh (Et a=true) λz=>(q.e c a).bind λf=>some ⟨kg f.1,λg=>h ▸ W1 (f.2 g) (xy z)⟩
def wQ:vq:=λ_ _ e=>LJ e λ_ _ _ h=>some ⟨rO,λ_=>h ▸ Vc⟩
def KA:vq:=λq c e=>C_ e λt a b _ h=>(q.t c t).bind λo=>(oR q c a).bind λu=>(oR q c b).bind λfb=>some ⟨gj o.1 u.1 fb.1,λg=>h ▸ GP (o.2 g) (u.2 g) (fb.2 g)⟩
def Dz:vq:=λq c e=>GV e λtg o a b _ h=>v0 b λE=>wh (w_ o=true) λz=>(q.i c tg o).bind λu=>(q.g c tg).bind λv=>(oR q c a).bind λC=>some ⟨iS u.1 v.1 C.1,λg=>h ▸ E ▸ NA g.ps g.S.calm (u.2 g) (v.2 g) (C.2 g) (Cd z)⟩
def J2:vq:=λq c e=>AB e λt a _ h=>rC t λx _ o=>wh (Et a=true\/(c.top=true/\c.sc.names.lookup x=some .cell)) λz=>(BB c x).bind λi=>(q.e c a).bind λf=>some ⟨bX (aS i.1) f.1,λ{X}g=>by
 subst h o;obtain⟨o,k,G,E⟩:=Bw g i.2;refine VV g.S _ g.nd o G (f.2 g) E ?_;rcases z with v|⟨u,C⟩
 ·exact xy v
 ·have e:(X.env.kindOf x == some eK.local)=false:=by rw[(g.kd u).2 x,C];rfl
  cases a<;>first|rfl|(unfold eD;simp only[e,mv,gf])⟩
theorem UE{X:Cx}{c:RC}(g:Good X c){e:Expr}{C:List Comprehension}{sc:dD}{p h:Pos}{y:Str}{n:Nat}(o:c.top=true)(u:c.sc.names.lookup y=some .local)(q:(h.line == p.line)=true)(v:(sc.names.any λz=>z.1 == y&&(z.2 == .local||z.2 == .cell))=false):
  eD (.ListComp e C sc p) (some (.Name y h)) n X.env=pure true:=by
 have G:(X.env.kindOf y == some eK.local)=true:=by rw[(g.kd o).2 y,u];rfl
 have E:(X.env.blockKind == rY)=true:=by rw[(g.kd o).1];rfl
 show (pure (X.env.blockKind == rY&&X.env.kindOf y == some eK.local&&h.line == p.line && !(sc.names.any λz=>z.1 == y&&(z.2 == .local||z.2 == .cell))):Sem Bool)=pure true;rw[G,E,q,v];rfl
def zx:vq:=λq c s=>AB s λt a _ h=>rC t λy E o=>(Cq q c a).bind λm=>wh (c.top=true/\c.sc.names.lookup y=some .local/\(E.line == m.p.line)=true/\(m.sc.names.any λz=>z.1 == y&&(z.2 == .local||z.2 == .cell))=false) λz=>(BB c y).bind λi=>some ⟨bX (aS i.1) (eY m.r),λg=>by subst h o;obtain⟨o,k,C,v⟩:=Bw g i.2;obtain⟨x,tg,b,J,sc,p,rfl,ok,G,mg,mt,I⟩:=m;exact XB g.nd o (g.S.loc _ _ C v).1 (g.S.loc _ _ C v).2 g.S.calm (Oe g.S ok.1) (Lj g.N ok.2.1) (G.2 g) (λu s H=>⟨mg.2 (g.inn ok u s H),mt.2 (g.inn ok u s H),I.2 (g.inn ok u s H)⟩) (UE g z.1 z.2.1 z.2.2.1 z.2.2.2) (Cd ok.2.2.2)⟩
def B6:vq:=λq c s=>AB s λt a _ h=>Bo t λo i p u=>(q.e c a).bind λf=>(q.g c (.Subscript o i p)).bind λk=>some ⟨bX k.1 f.1,λg=>by subst h u;exact Le (f.2 g) (k.2 g) (by cases a<;>rfl) (by cases a<;>rfl) rfl⟩
noncomputable def P5:Expr->Bool
 | .Tuple _ _ _=>false
 |_=>true
def DA:vq:=λq c s=>AB s λt a _ h=>Eg t λes n p o=>wh (P5 a=true) λz=>(q.e c a).bind λf=>(q.g c (.Tuple es n p)).bind λk=>some ⟨bX k.1 f.1,λg=>by subst h o;exact Le (f.2 g) (k.2 g) (by cases a<;>rfl) (by cases a<;>first|rfl|cases z) rfl⟩
section
variable{P:Program}{w:bq}{K:aj}{mg:Str->Option ac}{base:bh}
variable(P w K mg base) in
def bU(l:List (Str×RF)):Prop:=∀x r,l.lookup x=some r->GF P w K mg base x r
theorem Vi:bU P w K mg base []:=λ_ _ h=>(by cases h)
theorem E_{l:List (Str×RF)}{x:Str}{r:RF}{f:af}{c:bN}(m:mg x=some (.ref f))(F:fV P w K mg base ou r.k f c r.ps (lU K r.n r.g))(kp:fm K (.ref f)=true)(b:Binds K c r.ps [])(g:r.kw=true->JS K c r.ps)(h:bU P w K mg base l):
  bU P w K mg base ((x,r)::l):=λy s z=>by
 by_cases e:y=x
 ·subst e;rw[dR]at z;cases z;exact⟨f,c,m,F,kp,b,g⟩
 ·rw[rJ e]at z;exact h y s z
def HA(K:aj)(mg:Str->Option ac)(base:bh)(x:Str)(f:af)(g:bN):Prop:=∃c P,g6 K bz x=some (some (.ref f))/\g.code=.ref c/\oh K c P=true/\BMod base mg
theorem OO(R:mj)(j:Nat){x:Str}{h:Stmt}{f:af}{o:bN}{N ps:List Str}{k n m:Nat}{g:CS}{G:List (Str×RF)}{Z:List Str}{C:List (Str×D)}{H:List (Nat×Nat×Nat)}{W:WT}{T:Option (Nat×Str)}(F:tH K x x h f o)(S:iq N ps (aX h))(hn:ps.length=n)(hm:N.length=m)
  (hG:bU P w K mg base G) (hZ:∀x,Z.contains x=true->mg x=none) (hC:∀x d,C.lookup x=some d->∃v u,mg x=some u/\RelV v u/\∀ρ H,dg K ρ H v d)
  (hb:(oR (nV R j) ⟨aX h,N,k,G,Z,C,H,true,W,T⟩ (cK h)).map (·.1)=some g) (hW:NO P w K mg base W) (hT:∀t,T=some t->t.2=x/\HA K mg base x f o):fV P w K mg base ou (k+1) f o ps (lU K n (bF m g)):=
 have ⟨v,_,e⟩:=dF.mp hb
 KH F S hn hm λcdv A outer s Hp E q hr=>e ▸ v.2 ⟨K5,rfl,S.nd,hr,hG,hZ,hC,kN,λ_=>⟨by show (if (aX h).kind.isAnnotationScope=true then _ else (aX h).kind)=_;rw[S.kind];rfl,λ_=>rfl⟩,hW,λt z=>by obtain⟨L,c,P,U,I,Q,O⟩:=hT t z;obtain⟨oc,od,kV,doc,pm,an,J,ct,Y,e1,lk,_⟩:=F.ex;rw[L];exact⟨f,_,o,c,P,U,lk,rfl,I,Q,by rw[<- I,q];rfl,rfl,O⟩⟩
end
end
section
variable{K:aj}{mg:Str->Option ac}
noncomputable def vm(mg:Str->Option ac)(Z:List Str):Prop:=∀x,Z.contains x=true->mg x=none
theorem D0:vm mg []:=λ_ h=>(by cases h)
theorem ie{a:Str}{l:List Str}(h:mg a=none)(t:vm mg l):vm mg (a::l):=λx z=>by
 rw[cW,gN]at z;rcases z with z|z
 ·rw[beq_iff_eq.mp z];exact h
 ·exact t x z
def rP(K:aj)(mg:Str->Option ac)(C:List (Str×D)):Prop:=∀x d,C.lookup x=some d->∃v u,mg x=some u/\RelV v u/\∀ρ H,dg K ρ H v d
theorem DX:rP K mg []:=λ_ _ h=>(by cases h)
theorem Gx{a:Str}{l:List (Str×D)}{v:V}{d:D}{u:ac}(m:mg a=some u)(r:RelV v u)(q:∀ρ H,dg K ρ H v d)(t:rP K mg l):rP K mg ((a,d)::l):=λx e z=>by
 by_cases h:x=a
 ·subst h;rw[dR]at z;cases z;exact⟨v,u,m,r,q⟩
 ·rw[rJ h]at z;exact t x e z
theorem Em{a y:Str}{l:List (Str×D)}{k:Tok}(m:mg a=some (.str y k))(t:rP K mg l):rP K mg ((a,.str y)::l):=Gx (v:=.str y) m ⟨k,rfl⟩ (λ_ _=>.str _) t
theorem Co{a:Str}{i:Int}{l:List (Str×D)}{k:Tok}(m:mg a=some (.int i k))(t:rP K mg l):rP K mg ((a,.int i)::l):=Gx (v:=.int i) m ⟨k,rfl⟩ (λ_ _=>.int _) t
end
section
theorem tX{x:Str}(h:ka x=true):x≠"__name__":=(pj h).n
def Dk:kX:=sS "max" iF mF λc _ g m a s=>Lp (Tp c) g m (by nofun) a (tX (by nofun)) (by nofun) s
def Ci:kX:=sS "all" iF nY λc _ g m a s=>Lp (T4 c) g m (by nofun) a (tX (by nofun)) (by nofun) s
def EC:kX:=sS "tuple" iF k_ λ_ _ g m a s=>Pm QS g m (by nofun) a (tX (by nofun)) (by nofun) s
def HQ:kX:=ug "len" iF dk λ_ _ g m a s=>LW W4 g m (by nofun) a (tX (by nofun)) (by nofun) s
def zK:kX:=ug "tuple" iF tupleD λ_ _ g m a s=>Fo PF g m (by nofun) a (tX (by nofun)) (by nofun) s
def DB:kX:=ug "list" iF tD λ_ _ g m a s=>Fo W0 g m (by nofun) a (tX (by nofun)) (by nofun) s
def JA:kX:=ug "str" iF iw λ_ _ g m a s=>Fo Pb g m (by nofun) a (tX (by nofun)) (by nofun) s
def DK:kX:=ug "int" (λc p=>c.tag p 4) oy λ_ _ g m a s=>Fo VG g m (by nofun) a (tX (by nofun)) (by nofun) s
def xq:kX:=wq "int" QB (by nofun) (tX (by nofun)) (by nofun)
def u4:kX:=wq "bool" Qc (by nofun) (tX (by nofun)) (by nofun)
def we:kX:=wq "str" Xn (by nofun) (tX (by nofun)) (by nofun)
def ua:kX:=wq "tuple" Q3 (by nofun) (tX (by nofun)) (by nofun)
def wO:kX:=qq "append" gX iF λ_ o a b f l s p=>UY o a b f l s p
def z_:kX:=qq "split" kP iF λ_ o a b f l s p=>Q_ o a b f l s p
def Ek:kX:=qq "join" m8 iF λ_ o a b f l s p=>Q6 o a b f l s p
def Cz:vY:=λq c _ e=>wh (c.tag e.pos 4=true) λ_=>(q.e c e).bind λf=>some ⟨uZ f.1,λg=>Ss (f.2 g)⟩
end
section
variable{P:Program}{w:bq}{K:aj}{mg:Str->Option ac}{base:bh}
noncomputable def FnAt(K:aj)(mg:Str->Option ac)(x:Str)(c:Stmt):Prop:=∃a g,tH K x x c a g/\mg x=some (.ref a)
theorem fW{h:bh}{x:Str}{g:Stmt}{f:af}{v H:Option af}{q:Array (Option ac)}{C kV E u o ct:ac}(X:K.In h)(G:h.Ns bz mg)(a:g6 K bz x=some (some (.ref f)))
  (l:K.lookup f=some ⟨C,v,.func (d9 x x (d8 g) (cK g) (aX g) .none kV E u H o ct),q⟩) (c:lE K o x=true) (k:fm K (.ref f)=true):FnAt K mg x g:=
 ⟨f,_,NZ (st:=g) l c k,qo X G a⟩
noncomputable def qQ(N P:List Str)(sc:dD):Bool:=(sc.kind == .function)&&(sc.isCoroutine == false)&&(sc.isGenerator == false)&&decide N.Nodup&&(N.take P.length == P)&&(P.all λx=>sc.names.lookup x == some .local||sc.names.lookup x == some .cell)&&(sc.names.all λy=>y.2 != .free)
theorem C3{N P:List Str}{sc:dD}(h:qQ N P sc=true):iq N P sc:=by unfold qQ at h;simp only[aI,beq_iff_eq,decide_eq_true_eq,cq,gN,bne_iff_ne,ne_eq]at h;obtain⟨⟨⟨⟨⟨⟨C,v⟩,u⟩,q⟩,o⟩,g⟩,c⟩:=h;exact⟨C,v,u,q,o,g,c⟩
theorem MU(R:mj){r:List Str}{x:Str}{g:Stmt}{f:af}{h:bN}{ps:List Str}{k n m:Nat}{c:CS}{G:List (Str×RF)}{Z:List Str}{C:List (Str×D)}{H:List (Nat×Nat×Nat)}(F:tH K x x g f h)(S:qQ (ps++r) ps (aX g)=true)
  (u:(oR (nV R 40) ⟨aX g,ps++r,k,G,Z,C,H,true,([],[]),none⟩ (cK g)).map (·.1)=some c) (E:bU P w K mg base G) (v:vm mg Z) (I:rP K mg C) (o:ps.length=n) (q:(ps++r).length=m):fV P w K mg base ou (k+1) f h ps (lU K n (bF m c)):=
 OO R 40 F (C3 S) o q E v I u ⟨(λ_ _ z=>(by cases z)),(λ_ _ z=>(by cases z))⟩ λ_ z=>(by cases z)
theorem wE(R:mj){r:List Str}{x:Str}{h:Stmt}{ps:List Str}{k n m:Nat}{I:Bool}{o:CS}{G:List (Str×RF)}{Z:List Str}{C:List (Str×D)}{H:List (Nat×Nat×Nat)}(F:FnAt K mg x h)(S:qQ (ps++r) ps (aX h)=true)
  (b:∀(kV c u:ac)(v:Option af)(g ct:ac)(E:List ac),E.length=ps.length->lW (d9 x x (d8 h) (cK h) (aX h) .none kV c u v g ct) { pos:=E }=pure (ps.zip E))
  (Q:I=true->∀(kV c u:ac)(v:Option af)(g ct:ac)(s:ah)(q:List ac),q.length=ps.length->lv s (d9 x x (d8 h) (cK h) (aX h) .none kV c u v g ct) ⟨[],ps.zip q⟩ (ps.zip q))
  (hb:(oR (nV R 40) ⟨aX h,ps++r,k,G,Z,C,H,true,([],[]),none⟩ (cK h)).map (·.1)=some o) (L:bU P w K mg base G) (hZ:vm mg Z) (hC:rP K mg C) (Y:ps.length=n:=by rfl) (hm:(ps++r).length=m:=by rfl) (U:I=true->¬ ps.getLast?=some (ag "most"):=by first|exact λz=>(by cases z)|exact λ_=>by decide):bU P w K mg base ((x,⟨n,k+1,ps,I,bF m o⟩)::G):=by
 obtain⟨f,fd,F,J⟩:=F;refine E_ J (MU R F S hb L hZ hC Y hm) F.kp (F.binds b) (λz=>?_) L;obtain⟨oc,od,kV,c,u,v,g,ct,O,e,lk,hcd⟩:=F.ex;unfold JS;rw[az (U z)];intro s q hl;rw[e];exact Q z kV c u v g ct s q hl
end
end MM
namespace PySem.SeqAt
open AutoSeq1 (wpAny_loadPart')
open MeetsSeq MeetsSeq2 MeetsSeq3 SeqRoads2
end PySem.SeqAt
namespace MM
open PySem PySem.Spec PyProof.Rows L2 PySem.SeqAt
section
variable{A:bn}{s:ah}
def sD(h:bh)(v:ac)(p:Int×List Int):Prop:=∃a t b xs,v=.ref a/\h.IsTuple a #[.int p.1 t,.ref b]/\h.IsTuple b xs/\oB xs.toList p.2
end
end MM
namespace MM
open PySem
abbrev At{α:Type}(_:α->aR->Prop):Type:=aR
inductive wp{α:Type}(m:M α)(Q:α->aR->Prop)(s:At Q):Prop
 |intro (a:α) (s':aR) (h:m s=.ok a s') (q:Q a s'):wp m Q s
theorem uh{α:Type}{m:M α}{Q:α->aR->Prop}{s:aR}:wp m Q s=(match m s with
 | .ok a s'=>Q a s'
 |_=>False):=by
 apply propext;constructor
 ·rintro ⟨a,s',h,q⟩;rw[h];exact q
 ·intro h;cases e:m s with
  |ok a s'=>rw[e]at h;exact⟨a,s',e,h⟩
  |exc _ _=>rw[e]at h;exact h.elim
  |bad=>rw[e]at h;exact h.elim
section
variable{α β:Type}{Q:α->aR->Prop}{s:aR}
theorem cF{m:M α}{a:α}{s':aR}(h:m s=.ok a s'):wp m Q s=Q a s':=by rw[uh,h]
theorem kF{m:M α}(h:m s=.bad):wp m Q s=False:=by rw[uh,h]
theorem kE{m:M β}{Q c:β->aR->Prop}{s:aR}(h:∀a s',Q a s'=c a s'):wp m Q s=wp m c s:=by rw[show Q=c from funext λa=>funext λt=>h a t]
theorem cy{a:α}:wp (ret a) Q s=Q a s:=cF rfl
theorem lB:wp (bad:M α) Q s=False:=kF rfl
theorem e_{m:M β}{f:β->M α}:wp (bnd m f) Q s=wp m (λa s'=>wp (f a) Q s') s:=by simp only[uh];unfold bnd;cases m s<;>rfl
theorem dW{c:Prop}[Decidable c]{m:M α}:wp (chk c m) Q s=(c/\wp m Q s):=by
 unfold chk;by_cases h:c
 ·simp[h]
 ·simp[h,lB]
theorem gY{o:MO}{Q:D->aR->Prop}:wp (alloc o) Q s=Q (.ref s.length) (s++[o]):=cF rfl
theorem kC{n:Nat}{ds:List D}{Q:List D->aR->Prop}(h:s[n]?=some (.lst ds)):wp (getL n) Q s=Q ds s:=by rw[uh];unfold getL;rw[h]
theorem wR{n:Nat}{ds es:List D}{Q:Unit->aR->Prop}(h:s[n]?=some (.lst ds)):wp (putL n es) Q s=Q () (s.set n (.lst es)):=by rw[uh];unfold putL;rw[h]
theorem Rx{Q:Unit->aR->Prop}:wp (chkS d6) Q s=Q () s:=by rw[uh];unfold chkS d6;simp
theorem sQ{m:M α}{c:α->aR->Prop}(h:wp m Q s)(f:∀a s',Q a s'->c a s'):wp m c s:=by
 simp only[uh]at *;cases e:m s with
 |ok a s'=>rw[e]at h;exact f a s' h
 |exc _ _=>rw[e]at h;exact h
 |bad=>rw[e]at h;exact h
theorem Jm{c:Prop}[Decidable c]{m n:M α}:wp (if c then m else n) Q s=if c then wp m Q s else wp n Q s:=by split<;>rfl
end
theorem Ew{ds:List D}{i:Int}{d:D}(c:0<=i)(h:ds[i.toNat]?=some d):dz ds i=ret d:=by have g:i.toNat < ds.length:=(am.mp h).1;unfold dz MM.oT;rw[aG c,aG (by ext)];dsimp only;rw[h]
theorem AC{n:Nat}{b:CS}{ds:List D}{Q:D->aR->Prop}{s:aR}:wp (bF n b ds) Q s=wp (b (ds.map some++cL (n-ds.length) none)) (λf s'=>wp (ue f) Q s') s:=by unfold bF;rw[e_]
theorem VQ{g:CG}{b:CS}{same:aR->Prop}{Q:r9->aR->Prop}(W:List D->Loc->aR->Prop)
  (u:∀l s,W [] l s->wp (chkS same) (λ_ s'=>Q (.next l) s') s)
  (o:∀d ds l s,W (d::ds) l s->wp (chkS same) (λ_ C=>wp (g d l) (λE v=>wp (b E) (λf c=>match f with
   | .next l2=>W ds l2 c
   | .cnt l2=>W ds l2 c
   | .brk l2=>Q (.next l2) c
   | .ret d=>Q (.ret d) c) v) C) s):∀ds l s,W ds l s->wp (kc g b same ds l) Q s:=by
 intro ds
 induction ds with
 |nil=>
  intro l s h;unfold kc;rw[e_];exact sQ (u l s h) λ_ s' q=>by rw[cy];exact q
 |cons d ds ih=>
  intro l s h;unfold kc;rw[e_];refine sQ (o d ds l s h) λ_ C q=>?_;rw[e_];refine sQ q λE v q=>?_;rw[e_];refine sQ q λf c q=>?_;cases f with
  |next l2=>exact ih l2 c q
  |cnt l2=>exact ih l2 c q
  |brk l2=>show wp (ret _) _ _;rw[cy];exact q
  |ret d=>show wp (ret _) _ _;rw[cy];exact q
theorem Bm{g:CG}{t:CT}{e:CE}{same:aR->Prop}{Q:List D->aR->Prop}(W:List D->List D->Loc->aR->Prop)
  (C:∀c l s,W c [] l s->wp (chkS same) (λ_ s'=>Q c s') s)
  (u:∀c d ds l s,W c (d::ds) l s->wp (chkS same) (λ_ H=>wp (g d l) (λo G=>wp (t o) (λb v=>if b=true then wp (e o) (λx E=>W (c++[x]) ds o E) v else W c ds o v) G) H) s):
  ∀ds c l s,W c ds l s->wp (collect g t e same ds l) (λxs s'=>Q (c++xs) s') s:=by
 intro ds
 induction ds with
 |nil=>
  intro c l s h;unfold collect;rw[e_];exact sQ (C c l s h) λ_ s' q=>by rw[cy,cg];exact q
 |cons d ds ih=>
  intro c l s h;unfold collect;rw[e_];refine sQ (u c d ds l s h) λ_ H q=>?_;rw[e_];refine sQ q λo G q=>?_;rw[e_];refine sQ q λb v q=>?_;cases b with
  |false=>exact ih c o v q
  |true=>
   show wp (bnd (e o) _) _ v;rw[e_];refine sQ q λx E q=>?_;rw[e_];refine sQ (ih (c++[x]) o E q) λxs I q=>?_;rw[cy];rw[dL]at q;exact q
theorem TK{e:CE}{xs:List D}{same:aR->Prop}{caps:Loc}{s:aR}{Q:List D->aR->Prop}(W:Nat->List D->aR->Prop)(H:∀i c s,W i c s->same s)(J:W 0 [] s)
  (g:∀(i:Nat)d c s,xs[i]?=some d->W i c s->wp (e (some d::caps)) (λx s'=>W (i+1) (c++[x]) s') s) (u:∀c s,W xs.length c s->Q c s):
  wp (collect (aS 0) bZ e same xs (none::caps)) Q s:=by
 have chk:∀{s:aR}{R:Unit->aR->Prop},same s->R () s->wp (chkS same) R s:=λh r=>by rw[uh];unfold chkS;rw[aG h];exact r
 refine Bm (Q:=Q) (λc ds l s=>∃i C,ds=xs.drop i/\i<=xs.length/\l=C::caps/\W i c s) (λc l s G=>?_) (λc d ds l s E=>?_) xs [] _ s ⟨0,none,by simp,bL _,rfl,J⟩
 ·obtain ⟨i,C,v,I,_,w⟩:=G;have : i = xs.length := by have:=bH b6 v;simp at this;ext
  subst this;exact chk (H _ _ _ w) (u c s w)
 ·obtain ⟨i,C,v,I,el,w⟩:=E;subst el;have o:i < xs.length:=by have:=bH b6 v;simp at this;ext
  rw[bR o]at v;obtain⟨O,L⟩:=ia v;refine chk (H _ _ _ w) ?_
  show wp (ret _) _ s;rw[cy]
  show wp (ret true) _ s;rw[cy]
  show wp (e (some d::caps)) _ s;exact sQ (g i d c s (by rw[O];exact au o) w) λx s' q=>⟨i+1,some d,L,o,rfl,q⟩
theorem Wi{n i:Nat}(h:i < n):(fO 0 n)[i]?=some (.int i):=by unfold fO;rw[aD,gz h];simp
theorem Hh{n i:Nat}{d:D}(h:(fO 0 n)[i]?=some d):i < n/\d=.int i:=by
 have c:i < n:=by have:=(am.mp h).1;simpa [fO] using this
 rw[Wi c]at h;cases h;exact⟨c,rfl⟩
theorem mH(n:Nat):(fO 0 n).length=n:=by simp[fO]
theorem eM{n:Nat}(h:n<=1000):n<=eQ:=bC h (by decide)
theorem Aq{n:Nat}(h:n<=1000):n < eQ:=vS h (by decide)
theorem Am{g:CG}{b:CS}{same:aR->Prop}{xs:List D}{l:Loc}{s:aR}{Q:r9->aR->Prop}(W:Nat->Loc->aR->Prop)(J:∀i l s,W i l s->same s)(U:W 0 l s)
  (o:∀(i:Nat)d l s,xs[i]?=some d->W i l s->wp (g d l) (λI H=>wp (b I) (λf u=>match f with
   | .next l2=>W (i+1) l2 u
   | .cnt l2=>W (i+1) l2 u
   | .brk l2=>Q (.next l2) u
   | .ret d=>Q (.ret d) u) H) s) (v:∀l s,W xs.length l s->Q (.next l) s):wp (kc g b same xs l) Q s:=by
 have chk:∀{s:aR}{R:Unit->aR->Prop},same s->R () s->wp (chkS same) R s:=λh r=>by rw[uh];unfold chkS;rw[aG h];exact r
 refine VQ (λds l s=>∃i,ds=xs.drop i/\i<=xs.length/\W i l s) (λl s G=>?_) (λd ds l s E=>?_) xs l s ⟨0,by simp,bL _,U⟩
 ·obtain ⟨i,C,O,w⟩:=G;have : i = xs.length := by have:=bH b6 C;simp at this;ext
  subst this;exact chk (J _ _ _ w) (v l s w)
 ·obtain ⟨i,C,O,w⟩:=E;have c : i < xs.length := by have:=bH b6 C;simp at this;ext
  rw[bR c]at C;obtain⟨Y,L⟩:=ia C;refine chk (J _ _ _ w) ?_;refine sQ (o i d l s (by rw[Y];exact au c) w) λI H q=>sQ q λf u q=>?_;cases f with
  |next l2=>exact⟨i+1,L,c,q⟩
  |cnt l2=>exact⟨i+1,L,c,q⟩
  |brk l2=>exact q
  |ret d=>exact q
end MM
local macro_rules|`(tactic| bv_omega)=>`(tactic| first|rfl|exact MM.cF rfl|exact MM.kF rfl)
local macro_rules|`(tactic| ac_rfl)=>`(tactic| first|rfl|simp only[MM.cy,MM.gY,MM.lB]|(refine MM.kE λ_ _=>?_;simp only[MM.cy,MM.gY,MM.lB]))
namespace MM
open PySem
theorem nr{α:Sort u}{a b:α}(h:a=b):a=b:=h
section
variable{Q:D->aR->Prop}{R:r9->aR->Prop}{T:Bool->aR->Prop}{A:List D->aR->Prop}{G:Loc->aR->Prop}{I:Wk->aR->Prop}{s:aR}{l:Loc}
theorem EI{a b:CS}: wp (aC a b l) R s=wp (a l) (λf s'=>match f with
  | .next l'=>wp (b l') R s'
  | .ret d=>R (.ret d) s'
  | .brk l'=>R (.brk l') s'
  | .cnt l'=>R (.cnt l') s') s:=by
 unfold aC;rw[e_];congr 1;funext f s';cases f<;>first|bv_omega
theorem AN:wp (aB l) R s=R (.next l) s:=cF rfl
theorem CD{g:CG}{a:CE}:wp (bX g a l) R s=wp (a l) (λd s'=>wp (g d l) (λh c=>R (.next h) c) s') s:=by unfold bX;rw[e_];congr 1;funext d s';rw[e_];ac_rfl
theorem Ey{a:CE}:wp (b8 a l) R s=wp (a l) (λd s'=>R (.ret d) s') s:=by unfold b8;rw[e_];ac_rfl
theorem B8{a:CE}:wp (kg a l) R s=wp (a l) (λd s'=>R (.next l) s') s:=by unfold kg;rw[e_];ac_rfl
theorem JL{t:CT}{a b:CS}:wp (gj t a b l) R s=wp (t l) (λc s'=>if c=true then wp (a l) R s' else wp (b l) R s') s:=by unfold gj;rw[e_];congr 1;funext c s';rw[Jm]
theorem CJ{a:CE}: wp (bT a l) T s=wp (a l) (λx s'=>match x with
  | .bl b=>T b s'
  |_=>False) s:=by
 unfold bT;rw[e_];congr 1;funext x s';cases x<;>first|bv_omega
theorem CN{a:CE}:wp (j_ a l) T s=wp (a l) (λx s'=>wp (wj x) T s') s:=by unfold j_;rw[e_]
theorem EJ{a:CT}:wp (fK a l) T s=wp (a l) (λx s'=>T (!x) s') s:=by unfold fK;rw[e_];ac_rfl
theorem D9{a b:CT}:wp (kY a b l) T s=wp (a l) (λc s'=>if c=true then wp (b l) T s' else T false s') s:=by unfold kY;rw[e_];congr 1;funext c s';rw[Jm];ac_rfl
theorem Il{a b:CT}:wp (my a b l) T s=wp (a l) (λc s'=>if c=true then T true s' else wp (b l) T s') s:=by unfold my;rw[e_];congr 1;funext c s';rw[Jm];ac_rfl
theorem fj{i:Nat}{d:D}:wp (aS i d l) G s=G (l.set i (some d)) s:=cF rfl
theorem Hc{d:D}{b:Option D}{r:Loc}{Q:Loc->aR->Prop}:wp (aS 0 d (b::r)) Q s=Q (some d::r) s:=fj
theorem IB{c:Option D}{d:D}{b:Option D}{r:Loc}{Q:Loc->aR->Prop}:wp (aS 1 d (c::b::r)) Q s=Q (c::some d::r) s:=fj
theorem Iw{g c:Option D}{d:D}{b:Option D}{r:Loc}{Q:Loc->aR->Prop}:wp (aS 2 d (g::c::b::r)) Q s=Q (g::c::some d::r) s:=fj
theorem HY{h g c:Option D}{d:D}{b:Option D}{r:Loc}{Q:Loc->aR->Prop}:wp (aS 3 d (h::g::c::b::r)) Q s=Q (h::g::c::some d::r) s:=fj
theorem Gv{o h g c:Option D}{d:D}{b:Option D}{r:Loc}{Q:Loc->aR->Prop}:wp (aS 4 d (o::h::g::c::b::r)) Q s=Q (o::h::g::c::some d::r) s:=fj
theorem Ha{q o h g c:Option D}{d:D}{b:Option D}{r:Loc}{Q:Loc->aR->Prop}:wp (aS 5 d (q::o::h::g::c::b::r)) Q s=Q (q::o::h::g::c::some d::r) s:=fj
theorem JN{u q o h g c:Option D}{d:D}{b:Option D}{r:Loc}{Q:Loc->aR->Prop}:wp (aS 6 d (u::q::o::h::g::c::b::r)) Q s=Q (u::q::o::h::g::c::some d::r) s:=fj
theorem Ip{v u q o h g c:Option D}{d:D}{b:Option D}{r:Loc}{Q:Loc->aR->Prop}:wp (aS 7 d (v::u::q::o::h::g::c::b::r)) Q s=Q (v::u::q::o::h::g::c::some d::r) s:=fj
theorem HH{C v u q o h g c:Option D}{d:D}{b:Option D}{r:Loc}{Q:Loc->aR->Prop}:wp (aS 8 d (C::v::u::q::o::h::g::c::b::r)) Q s=Q (C::v::u::q::o::h::g::c::some d::r) s:=fj
theorem Gj{E C v u q o h g c:Option D}{d:D}{b:Option D}{r:Loc}{Q:Loc->aR->Prop}:wp (aS 9 d (E::C::v::u::q::o::h::g::c::b::r)) Q s=Q (E::C::v::u::q::o::h::g::c::some d::r) s:=fj
theorem CY{H E C v u q o h g c:Option D}{d:D}{b:Option D}{r:Loc}{Q:Loc->aR->Prop}:wp (aS 10 d (H::E::C::v::u::q::o::h::g::c::b::r)) Q s=Q (H::E::C::v::u::q::o::h::g::c::some d::r) s:=fj
theorem AU{o i:CE}{d:D}:wp (on o i d l) G s=wp (o l) (λy g=>wp (i l) (λz c=>wp (nc y z d) (λ_ h=>G l h) c) g) s:=by unfold on;rw[e_];congr 1;funext y g;rw[e_];congr 1;funext z c;rw[e_];ac_rfl
theorem kW{i:Nat}: wp (ak i l) Q s=match l[i]? with
  |some (some d)=>Q d s
  |_=>False:=by
 unfold ak;rcases l[i]? with _|_|d<;>first|bv_omega
theorem JF{d:D}{r:Loc}:wp (ak 0 (some d::r)) Q s=Q d s:=kW
theorem Gm{c:Option D}{d:D}{r:Loc}:wp (ak 1 (c::some d::r)) Q s=Q d s:=kW
theorem Hg{g c:Option D}{d:D}{r:Loc}:wp (ak 2 (g::c::some d::r)) Q s=Q d s:=kW
theorem II{h g c:Option D}{d:D}{r:Loc}:wp (ak 3 (h::g::c::some d::r)) Q s=Q d s:=kW
theorem JE{o h g c:Option D}{d:D}{r:Loc}:wp (ak 4 (o::h::g::c::some d::r)) Q s=Q d s:=kW
theorem IK{q o h g c:Option D}{d:D}{r:Loc}:wp (ak 5 (q::o::h::g::c::some d::r)) Q s=Q d s:=kW
theorem Gu{u q o h g c:Option D}{d:D}{r:Loc}:wp (ak 6 (u::q::o::h::g::c::some d::r)) Q s=Q d s:=kW
theorem GS{v u q o h g c:Option D}{d:D}{r:Loc}:wp (ak 7 (v::u::q::o::h::g::c::some d::r)) Q s=Q d s:=kW
theorem Hr{C v u q o h g c:Option D}{d:D}{r:Loc}:wp (ak 8 (C::v::u::q::o::h::g::c::some d::r)) Q s=Q d s:=kW
theorem IE{E C v u q o h g c:Option D}{d:D}{r:Loc}:wp (ak 9 (E::C::v::u::q::o::h::g::c::some d::r)) Q s=Q d s:=kW
theorem C5{H E C v u q o h g c:Option D}{d:D}{r:Loc}:wp (ak 10 (H::E::C::v::u::q::o::h::g::c::some d::r)) Q s=Q d s:=kW
theorem Er{d:D}:wp (ay d l) Q s=Q d s:=cF rfl
theorem Ja{g:D->M D}{a:CE}:wp (c1 g a l) Q s=wp (a l) (λx s'=>wp (g x) Q s') s:=by unfold c1;rw[e_]
theorem IZ{g:D->D->M D}{a b:CE}:wp (c2 g a b l) Q s=wp (a l) (λx s'=>wp (b l) (λy c=>wp (g x y) Q c) s') s:=by unfold c2;rw[e_];congr 1;funext x s';rw[e_]
theorem An{g:List D->M D}{a:CA}:wp (bv g a l) Q s=wp (a l) (λx s'=>wp (g x) Q s') s:=by unfold bv;rw[e_]
theorem ED:wp (bc l) A s=A [] s:=cF rfl
theorem As{a:CE}{r:CA}:wp (ar a r l) A s=wp (a l) (λx s'=>wp (r l) (λxs c=>A (x::xs) c) s') s:=by unfold ar;rw[e_];congr 1;funext x s';rw[e_];ac_rfl
theorem DJ{a:CA}:wp (dO a l) Q s=wp (a l) (λxs s'=>xs.length<=eQ/\Q (.tup xs) s') s:=by unfold dO;rw[e_];congr 1;funext x s';rw[dW];ac_rfl
theorem Aw{a:CA}:wp (iE a l) A s=wp (a l) (λxs s'=>xs.length<=eQ/\A xs s') s:=by unfold iE;rw[e_];congr 1;funext x s';rw[dW];ac_rfl
theorem zH{a:CA}:wp (eY a l) Q s=wp (a l) (λxs s'=>Q (.ref s'.length) (s'++[.lst xs])) s:=by unfold eY;rw[e_];ac_rfl
theorem DD{g:List D->M D}{a:CA}:wp (gW g a l) Q s=wp (a l) (λx s'=>wp (g x) Q s') s:=by unfold gW;rw[e_]
theorem AT{n:Nat}{caps:List Nat}{i:CI}{g:CG}{t:CT}{e:CE}:wp (dN n caps i g t e l) A s=wp (i l) (λw s'=>w.ds.length<=eQ/\wp (collect g t e w.same w.ds (fG n caps l)) A s') s:=by unfold dN;rw[e_];congr 1;funext x s';rw[dW]
theorem Ep{i:CI}{g:CG}{b:CS}:wp (iS i g b l) R s=wp (i l) (λw s'=>wp (kc g b w.same w.ds l) R s') s:=by unfold iS;rw[e_]
theorem Ec{a:CE}: wp (MM.gc a l) I s=wp (a l) (λx s'=>match x with
  | .int j=>(-(2^62)<=j/\j < 2^62)/\I ⟨fO 0 j.toNat,d6⟩ s'
  |_=>False) s:=by
 unfold MM.gc;rw[e_];congr 1;funext x s';cases x<;>first|bv_omega|(dsimp only;rw[dW];ac_rfl)
theorem zI{a:CE}: wp (kf a l) I s=wp (a l) (λx s'=>match x with
  | .tup ds=>I ⟨ds,d6⟩ s'
  | .lit ds=>I ⟨ds,d6⟩ s'
  | .ref n=>wp (getL n) (λds c=>I ⟨ds,om n ds⟩ c) s'
  |_=>False) s:=by
 unfold kf;rw[e_];congr 1;funext x s';cases x<;>first|bv_omega|(dsimp only;rw[e_];ac_rfl)
theorem B7{i j:Int}:wp (cC (.int i) (.int j)) Q s=Q (.int (i+j)) s:=cF rfl
theorem D1{i j:Int}:wp (lR (.int i) (.int j)) Q s=(qD i j/\Q (.int (i*j)) s):=by unfold lR r8;rw[dW];ac_rfl
theorem CM{i j:Int}:wp (qr (.int i) (.int j)) Q s=((0 < j/\j < 1073741824)/\Q (.int (i / j)) s):=by unfold qr r8;rw[dW];ac_rfl
theorem Dh{i j:Int}:wp (li (.int i) (.int j)) Q s=(0 < j/\Q (.int (i % j)) s):=by unfold li r8;rw[dW];ac_rfl
theorem JT{i j:Int}:wp (sT (.int i) (.int j)) Q s=Q (.bl (decide (i < j))) s:=cF rfl
theorem J3{i j:Int}:wp (rG (.int i) (.int j)) Q s=Q (.bl (decide (i<=j))) s:=cF rfl
theorem Jg{i j:Int}:wp (vy (.int i) (.int j)) Q s=Q (.bl (decide (j < i))) s:=cF rfl
theorem Jv{i j:Int}:wp (v6 (.int i) (.int j)) Q s=Q (.bl (decide (j<=i))) s:=cF rfl
theorem GC{i j:Int}:wp (lq (.int i) (.int j)) Q s=Q (.bl (i == j)) s:=cF rfl
theorem IN{i j:Int}:wp (x9 (.int i) (.int j)) Q s=Q (.bl !(i == j)) s:=cF rfl
theorem qN{ds:List D}{i:Int}:wp (aY (.tup ds) (.int i)) Q s=wp (dz ds i) Q s:=nr rfl
theorem wb{n:Nat}{i:Int}:wp (aY (.ref n) (.int i)) Q s=wp (getL n) (λds s'=>wp (dz ds i) Q s') s:=by unfold aY;rw[e_]
theorem uQ{ds:List D}:wp (dk (.tup ds)) Q s=Q (.int ds.length) s:=cF rfl
theorem zr{n:Nat}:wp (dk (.ref n)) Q s=wp (getL n) (λds s'=>Q (.int ds.length) s') s:=by unfold dk;rw[e_];ac_rfl
theorem zp{n:Nat}{i:Int}{v:D}{U:Unit->aR->Prop}: wp (nc (.ref n) (.int i) v) U s=wp (getL n) (λds s'=>wp (match MM.oT ds.length i with
  |some j=>putL n (ds.set j v)
  |none=>bad) U s') s:=by
 unfold nc;rw[e_]<;>congr 1
theorem Ad{d:D}:wp (ue (.ret d)) Q s=Q d s:=cF rfl
end
theorem w8{a:CE}{lo o:CO}{A:List D->aR->Prop}{s:aR}{l:Loc}: wp (ly a lo o l) A s=wp (a l) (λx h=>wp (lo l) (λi g=>wp (o l) (λj c=>match x with
  | .lit ds=>A (cutD ds i j) c
  | .ref n=>wp (getL n) (λds q=>A (cutD ds i j) q) c
  |_=>False) g) h) s:=by
 unfold ly;rw[e_];congr 1;funext x h;rw[e_];congr 1;funext i g;rw[e_];congr 1;funext j c;cases x<;>first|bv_omega|(dsimp only;rw[e_];ac_rfl)
theorem AA{A:Option Int->aR->Prop}{s:aR}{l:Loc}:wp (iu l) A s=A none s:=cF rfl
theorem AS{a:CE}{A:Option Int->aR->Prop}{s:aR}{l:Loc}: wp (gJ a l) A s=wp (a l) (λx c=>match x with
  | .int i=>A (some i) c
  |_=>False) s:=by
 unfold gJ;rw[e_];congr 1;funext x c;cases x<;>first|bv_omega
theorem zq{a:CE}{I:Wk->aR->Prop}{s:aR}{l:Loc}: wp (ml a l) I s=wp (a l) (λx s'=>match x with
  | .tup ds=>I ⟨(fO 0 ds.length).zipWith (λi d=>.tup [i,d]) ds,d6⟩ s'
  |_=>False) s:=by
 unfold ml;rw[e_];congr 1;funext x s';cases x<;>first|bv_omega
theorem sw{n:Nat}{r:List D->Loc->M Loc}{ds:List D}{G:Loc->aR->Prop}{s:aR}{l:Loc}:wp (eR n r (.tup ds) l) G s=(ds.length=n/\wp (r ds l) G s):=by unfold eR;rw[dW]
theorem m5{g:CG}{r:List D->Loc->M Loc}{d:D}{ds:List D}{G:Loc->aR->Prop}{s:aR}{l:Loc}:wp (bD g r (d::ds) l) G s=wp (g d l) (λc s'=>wp (r ds c) G s') s:=by unfold bD;rw[e_]
theorem sR{G:Loc->aR->Prop}{s:aR}{l:Loc}:wp (eZ [] l) G s=G l s:=cF rfl
theorem zR{ds:List D}{i:Nat}{d:D}(h:((fO 0 ds.length).zipWith (λi d=>D.tup [i,d]) ds)[i]?=some d):∃x,ds[i]?=some x/\d=.tup [.int i,x]:=by
 rw[lO]at h;cases c:(fO 0 ds.length)[i]? with
 |none=>rw[c]at h;cases h
 |some a=>
  rw[c]at h;obtain⟨_,o⟩:=Hh c;cases g:ds[i]? with
  |none=>rw[g]at h;cases h
  |some x=>rw[g]at h;cases h;exact⟨x,rfl,by rw[o]⟩
def dY(s s':aR):Prop:=∃t,s'=s++t
theorem dY.refl(s:aR):dY s s:=⟨[],by simp⟩
theorem dY.snoc{s s':aR}(h:dY s s')(o:MO):dY s (s'++[o]):=by obtain⟨t,e⟩:=h;exact⟨t++[o],by rw[e];simp⟩
theorem dY.trans{s s' c:aR}(h:dY s s')(k:dY s' c):dY s c:=by obtain⟨t,e⟩:=h;obtain⟨u,f⟩:=k;exact⟨t++u,by rw[f,e];simp⟩
theorem dY.at_{s s':aR}{n:Nat}{o:MO}(h:dY s s')(k:s[n]?=some o):s'[n]?=some o:=by obtain⟨t,e⟩:=h;rw[e,aL (am.mp k).1];exact k
theorem nu{α:Type}(f:α->Int)(xs:List α):lx (xs.map λx=>.int (f x))=some (xs.map f):=by
 induction xs with
 |nil=>rfl
 |cons x xs ih=>simp only[aQ,lx,ih];ac_rfl
theorem BD{α:Type}{m:M α}{v:α}{s:aR}{Q:α->aR->Prop}(h:wp m (λa s'=>a=v/\s'=s) s):wp m Q s=Q v s:=by
 simp only[uh]at *;cases e:m s with
 |ok a s'=>rw[e]at h;obtain⟨g,c⟩:=h;subst g;subst c;ac_rfl
 |exc _ _=>rw[e]at h;exact h.elim
 |bad=>rw[e]at h;exact h.elim
theorem G6{a b:Nat}{x y:List D}{Q:D->aR->Prop}{s:aR}(g:s[a]?=some (.lst x))(c:s[b]?=some (.lst y)):wp (cC (.ref a) (.ref b)) Q s=(x.length+y.length<=eQ/\Q (.ref s.length) (s++[.lst (x++y)])):=by unfold cC;rw[e_,kC g,e_,kC c,dW];ac_rfl
def wX(x:D)(p q:Prop):Prop:=match x with
 | .bl true=>p
 | .bl false=>q
 |_=>False
theorem pA{p q:Prop}:wX (.bl true) p q=p:=nr rfl
theorem u8{p q:Prop}:wX (.bl false) p q=q:=nr rfl
section
variable{Q:D->aR->Prop}{T:Bool->aR->Prop}{R:r9->aR->Prop}{s:aR}{l:Loc}
theorem Ao{a b:CE}:wp (pz a b l) Q s=wp (a l) (λx s'=>wX x (wp (b l) Q s') (Q (.bl false) s')) s:=by unfold pz;rw[e_];congr 1;funext x s';rcases x with _|b|_|_|_|_|_|_<;>first|bv_omega|(cases b<;>first|bv_omega)
theorem zM{a:CE}: wp (ud a l) Q s=wp (a l) (λx s'=>match x with
  | .bl b=>Q (.bl !b) s'
  |_=>False) s:=by
 unfold ud;rw[e_];congr 1;funext x s';cases x<;>first|bv_omega
theorem zn{b:Bool}:wp (wj (.bl b)) T s=T b s:=cF rfl
theorem zP{ds:List D}:wp (k_ ds) Q s=Q (.tup ds) s:=cF rfl
theorem wY{d:D}{ds:List D}:wp (dz (d::ds) 0) Q s=Q d s:=by rw[Ew (d:=d) (by ext) rfl,cy]
theorem wx{d e:D}{ds:List D}:wp (dz (d::e::ds) 1) Q s=Q e s:=by rw[Ew (d:=e) (by ext) rfl,cy]
theorem wy{d e f:D}{ds:List D}:wp (dz (d::e::f::ds) 2) Q s=Q f s:=by rw[Ew (d:=f) (by ext) rfl,cy]
theorem xz{d e f g:D}{ds:List D}:wp (dz (d::e::f::g::ds) 3) Q s=Q g s:=by rw[Ew (d:=g) (by ext) rfl,cy]
theorem pG{ds:List D}{i:Nat}{d:D}(h:ds[i]?=some d):wp (dz ds i) Q s=Q d s:=by rw[Ew (d:=d) (by ext) (by simpa using h),cy]
theorem qL:wp (bZ l) T s=T true s:=cF rfl
end
noncomputable def bP(p:Prop):Bool:=@decide p (pX p)
theorem Ho{p:Prop}:bP p=true↔p:=by unfold bP;exact @decide_eq_true_iff p (pX p)
theorem zm{p:Prop}(h:p):bP p=true:=Ho.mpr h
theorem WE{p:Prop}(h:¬p):bP p=false:=by
 cases e:bP p with
 |false=>rfl
 |true=>exact (h (Ho.mp e)).elim
theorem UQ{b:Bool}{p:Prop}(h:b=true↔p):b=bP p:=by
 cases b with
 |true=>exact (zm (h.mp rfl)).symm
 |false=>exact (WE λk=>by cases h.mpr k).symm
noncomputable def bB{α:Type}(n:Nat)(f:Nat->α):List α:=(db n).map f
theorem DM{α:Type}{n i:Nat}{f:Nat->α}(h:i < n):(bB n f)[i]?=some (f i):=by unfold bB;rw[aD,gz h];ac_rfl
theorem FA{α:Type}{n i:Nat}{f:Nat->α}{x:α}(h:(bB n f)[i]?=some x):i < n/\x=f i:=by
 have c:i < n:=by have:=(am.mp h).1;simpa [bB] using this
 rw[DM c]at h;cases h;exact⟨c,rfl⟩
theorem mh{α:Type}{n:Nat}{f:Nat->α}:(bB n f).length=n:=by simp[bB]
theorem Eo{α:Type}{n:Nat}{f:Nat->α}:bB (n+1) f=bB n f++[f n]:=by unfold bB;rw[xO,bA];ac_rfl
theorem Ls{α:Type}{n:Nat}{xs:List α}{f:Nat->α}(g:xs.length=n)(h:∀i,i < n->xs[i]?=some (f i)):xs=bB n f:=by
 apply oH;intro i;by_cases c:i < n
 ·rw[h i c,DM c]
 ·rw[dm (by ext),dm (by rw[mh];ext)]
theorem Bk{α β:Type}{n:Nat}{f:Nat->α}{g:α->β}:(bB n f).map g=bB n λi=>g (f i):=by unfold bB;rw[i_];ac_rfl
theorem Vm{n:Nat}:fO 0 n=bB n λi=>.int i:=by unfold fO bB;congr 1;funext k;simp
theorem Qg{n:Nat}{f:Nat->Bool}:iW (bB n λi=>.bl (f i))=some (bB n f):=by
 have:∀(xs:List Nat),iW (xs.map λi=>.bl (f i))=some (xs.map f):=by
  intro xs
  induction xs with
  |nil=>rfl
  |cons x xs ih=>simp only[aQ,iW,ih];ac_rfl
 exact this _
theorem IG{n:Nat}{p:Nat->Prop}{Q:D->aR->Prop}{s:aR}:wp (nY (bB n λi=>.bl (bP (p i)))) Q s=Q (.bl (bP (∀i,i < n->p i))) s:=by unfold nY;rw[Qg];have:(bB n λi=>bP (p i)).all id=bP (∀i,i < n->p i):=UQ (by simp[bB,so,Ho]);dsimp only;rw[this,cy]
theorem MJ{g:CG}{e:CE}{same:aR->Prop}{ds:List D}{H:Loc}{f:Nat->D}{Q:List D->aR->Prop}{s:aR}(I:Loc->Prop)(U:same s)(h0:I H)
  (h:∀i d l,ds[i]?=some d->I l->∃q,(∀G,wp (g d l) G s=G q s)/\I q/\∀Q,wp (e q) Q s=Q (f i) s):
  wp (collect g bZ e same ds H) Q s=Q (bB ds.length f) s:=by
 have chk:∀{R:Unit->aR->Prop},R () s->wp (chkS same) R s:=λr=>by rw[uh];unfold chkS;rw[aG U];exact r
 apply BD;refine Bm (Q:=λc s'=>c=bB ds.length f/\s'=s) (λc xs l s'=>∃i,xs=ds.drop i/\i<=ds.length/\I l/\c=bB i f/\s'=s) (λc l s' C=>?_) (λc d xs l s' v=>?_) ds [] _ s ⟨0,by simp,bL _,h0,rfl,rfl⟩
 ·obtain ⟨i,u,Y,_,E,es⟩:=C;have : i = ds.length := by have:=bH b6 u;simp at this;ext
  subst this;subst es;exact chk ⟨E,rfl⟩
 ·obtain ⟨i,u,Y,c,E,es⟩:=v;have o : i < ds.length := by have:=bH b6 u;simp at this;ext
  rw[bR o]at u;obtain⟨C,g⟩:=ia u;obtain⟨q,O,L,J⟩:=h i d l (by rw[C];exact au o) c;subst es;refine chk ?_;rw[O]
  show wp (ret true) _ s';rw[cy]
  show wp (e q) _ s';rw[J];exact⟨i+1,g,o,L,by rw[E,Eo],rfl⟩
theorem Nr{e:CE}{same:aR->Prop}{ds:List D}{caps:Loc}{f:Nat->D}{Q:List D->aR->Prop}{s:aR}(g:same s)(h:∀i d,ds[i]?=some d->∀Q,wp (e (some d::caps)) Q s=Q (f i) s):
  wp (collect (aS 0) bZ e same ds (none::caps)) Q s=Q (bB ds.length f) s:=
 MJ (λl=>∃x,l=x::caps) g ⟨none,rfl⟩ λi d l hd c=>by obtain⟨x,el⟩:=c;exact⟨some d::caps,λG=>by rw[el,fj];rfl,⟨_,rfl⟩,h i d hd⟩
theorem PU{e:CE}{same:aR->Prop}{ds:List D}{caps:Loc}{f:Nat->D}{Q:List D->aR->Prop}{s:aR}(g:same s)(h:∀i d,ds[i]?=some d->∃a b,d=.tup [a,b]/\∀Q,wp (e (some a::some b::caps)) Q s=Q (f i) s):
  wp (collect (eR 2 (bD (aS 0) (bD (aS 1) eZ))) bZ e same ds (none::none::caps)) Q s=Q (bB ds.length f) s:=
 MJ (λl=>∃x y,l=x::y::caps) g ⟨none,none,rfl⟩ λi d l hd c=>by obtain⟨x,y,el⟩:=c;obtain⟨a,b,o,q⟩:=h i d hd;refine⟨some a::some b::caps,λG=>?_,⟨_,_,rfl⟩,q⟩;rw[o,el,sw,m5,fj,m5,fj,sR];exact propext ⟨λh=>h.2,λh=>⟨rfl,h⟩⟩
section
variable{n:Nat}{f:Nat->D}{Q:D->aR->Prop}{s:aR}
theorem F3{i:Nat}(h:i < n):wp (dz (bB n f) (i:Int)) Q s=Q (f i) s:=pG (DM h)
theorem Bs(h:0 < n):wp (dz (bB n f) 0) Q s=Q (f 0) s:=by have:=@pG Q s (bB n f) 0 (f 0) (DM h);simpa using this
end
theorem yC{s:aR}:d6 s:=trivial
theorem Gk{e:CE}{n:Nat}{f:Nat->D}{same:aR->Prop}{caps:Loc}{s:aR}{Q:List D->aR->Prop}(W:Nat->List D->aR->Prop)(o:∀i c s,W i c s->same s)(u:W 0 [] s)
  (g:∀(i:Nat)c s,i < n->W i c s->wp (e (some (f i)::caps)) (λx s'=>W (i+1) (c++[x]) s') s) (h:∀c s,W n c s->Q c s):
  wp (collect (aS 0) bZ e same (bB n f) (none::caps)) Q s:=
 TK W o u (λi d c s hd w=>by obtain⟨q,e⟩:=FA hd;subst e;exact g i c s q w) (λc s w=>h c s (by rw[mh]at w;exact w))
theorem zl{e:CE}{same:aR->Prop}{n:Nat}{g:Nat->D}{caps:Loc}{f:Nat->D}{Q:List D->aR->Prop}{s:aR}(c:same s)(h:∀i,i < n->∀Q,wp (e (some (g i)::caps)) Q s=Q (f i) s):
  wp (collect (aS 0) bZ e same (bB n g) (none::caps)) Q s=Q (bB n f) s:=by
 rw[Nr (f:=f) c (λi d hd=>by obtain⟨o,e⟩:=FA hd;subst e;exact h i o),mh]
theorem GW{e:CE}{same:aR->Prop}{n:Nat}{a b:Nat->D}{caps:Loc}{f:Nat->D}{Q:List D->aR->Prop}{s:aR}(c:same s)(h:∀i,i < n->∀Q,wp (e (some (a i)::some (b i)::caps)) Q s=Q (f i) s):
  wp (collect (eR 2 (bD (aS 0) (bD (aS 1) eZ))) bZ e same (bB n λi=>.tup [a i,b i]) (none::none::caps)) Q s=Q (bB n f) s:=by
 rw[PU (f:=f) c (λi d hd=>by obtain⟨g,e⟩:=FA hd;exact⟨_,_,e,h i g⟩),mh]
section
variable{Q:D->aR->Prop}{T:Bool->aR->Prop}{R:r9->aR->Prop}{A:List D->aR->Prop}{s:aR}{l:Loc}
theorem wI{f g:D->D->M D}{a b c:CE}:wp (gA f g a b c l) Q s=wp (a l) (λx q=>wp (b l) (λy o=>wp (f x y) (λz h=>wX z (wp (c l) (λw u=>wp (g y w) Q u) h) (Q (.bl false) h)) o) q) s:=by unfold gA;rw[e_];congr 1;funext x q;rw[e_];congr 1;funext y o;rw[e_];congr 1;funext z h;rcases z with _|b|_|_|_|_|_|_<;>first|bv_omega|(cases b<;>first|bv_omega|(dsimp only;rw[e_];first|ac_rfl|(refine bH _ ?_;refine kE λ_ _=>?_;simp only[cy,gY,lB])))
theorem uU{a b:CE}: wp (gX a b l) Q s=wp (a l) (λx h=>match x with
  | .ref n=>wp (b l) (λv g=>wp (getL n) (λds c=>ds.length < eQ/\wp (putL n (ds++[v])) (λ_ o=>Q .non o) c) g) h
  |_=>False) s:=by
 unfold gX;rw[e_];congr 1;funext x h;cases x<;>first|bv_omega|(dsimp only;rw[e_];congr 1;funext v g;unfold tJ;rw[e_];congr 1;funext ds c;rw[dW,e_];first|ac_rfl|(refine bH _ ?_;refine kE λ_ _=>?_;simp only[cy,gY,lB]))
theorem vt{n:Nat}:wp (tupleD (.ref n)) Q s=wp (getL n) (λds c=>Q (.tup ds) c) s:=by unfold tupleD;rw[e_];(try dsimp only);(try rw[e_]);refine kE λ_ _=>?_;simp only[cy,gY,lB]
theorem wo{a b:Bool}:wp (pv (.bl a) (.bl b)) Q s=Q (.bl !(a == b)) s:=cF rfl
theorem zX{x:D}{ds:List D}:wp (Bx x (.tup ds)) Q s=wp (v8 x ds) Q s:=nr rfl
theorem wn{a b:Str}:wp (lq (.str a) (.str b)) Q s=Q (.bl (a == b)) s:=cF rfl
theorem AL{ds:List D}:wp (eF ["tuple"] (.tup ds)) Q s=Q (.bl true) s:=cF rfl
theorem zG{i:Int}:wp (eF ["int"] (.int i)) Q s=Q (.bl true) s:=cF rfl
theorem AO{i:Int}:wp (eF ["bool"] (.int i)) Q s=Q (.bl false) s:=cF rfl
theorem Cw{i:Int}:wp (vh (.int i)) Q s=Q (.int (-i)) s:=cF rfl
theorem zw{a b:CE}{I:Wk->aR->Prop}: wp (MM.m7 a b l) I s=wp (a l) (λx g=>wp (b l) (λy c=>match x,y with
  | .int i,.int j=>((-(2^62)<=i/\i < 2^62)/\(-(2^62)<=j/\j < 2^62))/\I ⟨fO i (j-i).toNat,d6⟩ c
  |_,_=>False) g) s:=by
 unfold MM.m7;rw[e_];congr 1;funext x g;rw[e_];congr 1;funext y c;cases x<;>first|bv_omega|skip
 cases y<;>first|bv_omega|(dsimp only;rw[dW];first|ac_rfl|(refine bH _ ?_;refine kE λ_ _=>?_;simp only[cy,gY,lB]))
theorem Ac{x y:List D}:wp (cC (.tup x) (.tup y)) Q s=(x.length+y.length<=eQ/\Q (.tup (x++y)) s):=by unfold cC;rw[dW];first|ac_rfl|(refine bH _ ?_;refine kE λ_ _=>?_;simp only[cy,gY,lB])
theorem vo{a:CA}{b:CE}: wp (lJ a b l) Q s=wp (a l) (λds g=>wp (b l) (λi c=>match i with
  | .int k=>wp (dz ds k) Q c
  |_=>False) g) s:=by
 unfold lJ;rw[e_];congr 1;funext ds g;rw[e_];congr 1;funext i c;cases i<;>first|bv_omega
theorem IC{n:Nat}:wp (nY (bB n λ_=>.bl true)) Q s=Q (.bl true) s:=by have:=@IG n (λ_=>True) Q s;rw[show (λ_:Nat=>D.bl (bP True))=λ_=>D.bl true from by funext i;rw[zm trivial]]at this;rw[this,zm (λ_ _=>trivial)]
end
theorem CP{p q:Prop}:(if false=true then p else q)=q:=az (by simp)
noncomputable def mx(f:Nat->Nat):Nat->Nat
 |0=>0
 |n+1=>max (mx f n) (f n)
theorem MQ{f:Nat->Nat}{n m:Nat}(h:∀i,i < n->f i<=m):mx f n<=m:=by
 induction n with
 |zero=>exact bL _
 |succ n ih=>unfold mx;exact Nat.max_le.mpr ⟨ih λi c=>h i (by ext),h n (by ext)⟩
theorem HD{f:Nat->Nat}{n:Nat}{Q:D->aR->Prop}{s:aR}(g:0 < n):wp (mF (bB n λi=>.int (f i:Nat))) Q s=Q (.int (mx f n:Nat)) s:=by
 obtain⟨k,rfl⟩:∃k,n=k+1:=⟨n-1,by ext⟩
 have c:∀(k:Nat),(((db k).map (· + 1)).map λ(i:Nat)=>((f i:Nat):Int)).foldl max ((f 0:Nat):Int)=((mx f (k+1):Nat):Int):=by
  intro k
  induction k with
  |zero=>show ((f 0:Nat):Int)=((max 0 (f 0):Nat):Int);ext
  |succ k ih=>
   rw[xO,bA,bA,List.foldl_append,ih]
   show max ((mx f (k+1):Nat):Int) ((f (k+1):Nat):Int)=((max (mx f (k+1)) (f (k+1)):Nat):Int)
   ext
 unfold mF bB;rw[nu (λi=>((f i:Nat):Int)),sj,aQ];dsimp only;rw[cy,<- c k]
theorem dY.put{s s':aR}{n:Nat}{o:MO}(h:dY s s')(c:s.length<=n):dY s (s'.set n o):=by obtain⟨t,e⟩:=h;exact⟨t.set (n-s.length) o,by rw[e,List.set_append_right _ _ c]⟩
theorem dY.le{s s':aR}(h:dY s s'):s.length<=s'.length:=by obtain⟨t,e⟩:=h;rw[e];simp
theorem S7{lo:Int}{n:Nat}:fO lo n=bB n λi=>.int (lo+i):=rfl
section
variable{α β:Type}{γ:Sort _}
theorem Ct{p:Prop}[Decidable p]:(decide p=true)=p:=_root_.decide_eq_true_eq
theorem HL{n:Nat}{a:α}:cL (n+1) a=a::cL n a:=nr rfl
theorem JG{a:α}:cL 0 a=[]:=nr rfl
theorem Jb{x:Option α}:(some x).join=x:=nr rfl
theorem JD{f:α->β}{a:α}{l:List α}:zk f (a::l)=f a::zk f l:=nr rfl
theorem GI{f:α->β}:zk f []=[]:=nr rfl
theorem GG{a:α}{l k:List α}:(a::l)++k=a::(l++k):=nr rfl
theorem IS{l:List α}:[]++l=l:=nr rfl
theorem Jx{a:α}{l:List α}:(a::l)[0]?=some a:=nr rfl
theorem HB{a:α}{l:List α}{i:Nat}:(a::l)[i+1]?=l[i]?:=by simp
theorem IT{a b:α}{l:List α}:(a::l).set 0 b=b::l:=nr rfl
theorem Io{a b:α}{l:List α}{i:Nat}:(a::l).set (i+1) b=a::l.set i b:=nr rfl
theorem G3{a:α}{l:List α}:(a::l).length=l.length+1:=nr rfl
theorem Ga:([]:List α).length=0:=nr rfl
theorem J1{c d:γ}:(if True then c else d)=c:=aG trivial
theorem Gd{c d:γ}:(if False then c else d)=d:=az (λh=>h)
theorem JJ{p:Prop}:(p/\True)=p:=and_true p
theorem Jz{p:Prop}:(True/\p)=p:=true_and p
theorem Ix:(!true)=false:=nr rfl
theorem Ii:(!false)=true:=nr rfl
end
theorem T8{m:M D}{s:aR}(h:wp m (λd _=>d=.bl true) s):∃c,m s=.ok (.bl true) c:=by
 rw[uh]at h;cases e:m s with
 |ok a s'=>rw[e]at h;exact⟨s',by rw[show a=.bl true from h]⟩
 |exc _ _=>rw[e]at h;exact h.elim
 |bad=>rw[e]at h;exact h.elim
theorem pT{α:Type}{l:List α}{a:α}:(l++[a])[l.length]?=some a:=by rw[a_ (ax _),o9];ac_rfl
theorem tw{α:Type}{l:List α}{a b:α}{n:Nat}(h:l[n]?=some a):(l++[b])[n]?=some a:=by rw[aL (am.mp h).1];exact h
section
variable{Q:D->aR->Prop}{A:List D->aR->Prop}{s:aR}
theorem TN{g:CG}{e:CE}{same:aR->Prop}{xs:List D}{l:Loc}(V:D->Prop)(L:Loc->Prop)(P:D->Prop)(W:aR->Prop)(hs:∀s,W s->same s)(h0:W s)(hl:L l)(hV:∀d∈xs,V d)
  (v:∀d l s,V d->L l->W s->wp (g d l) (λG E=>L G/\wp (e G) (λx Y=>P x/\W Y) E) s) (C:∀c s',c.length=xs.length->(∀d∈c,P d)->W s'->A c s'):
  wp (collect g bZ e same xs l) A s:=by
 have chk:∀{s:aR}{R:Unit->aR->Prop},same s->R () s->wp (chkS same) R s:=λh r=>by rw[uh];unfold chkS;rw[aG h];exact r
 refine Bm (Q:=A) (λc ds l s=>c.length+ds.length=xs.length/\(∀d∈ds,V d)/\L l/\(∀d∈c,P d)/\W s) (λc l s O=>?_) (λc d ds l s J=>?_) xs [] l s ⟨by simp,hV,hl,λd hd=>bp hd (by simp),h0⟩
 ·obtain ⟨U,_,_,H,w⟩:=O;exact chk (hs _ w) (C c s (by simpa using U) H w)
 ·obtain ⟨U,c,C,H,w⟩:=J;refine chk (hs _ w) ?_;refine sQ (v d l s (c d (by simp)) C w) λG E u=>?_;obtain⟨I,q⟩:=u
  show wp (ret true) _ E;rw[cy]
  show wp (e G) _ E;exact sQ q λx Y o=>by obtain⟨h,g⟩:=o;exact⟨by simp at U ⊢;ext,λd hd=>c d (by simp[hd]),I,λd hd=>by
   rcases br.mp hd with hd|hd
   ·exact H d hd
   ·rw[aE.mp hd];exact h,g⟩
theorem uA{e:CE}{same:aR->Prop}{xs:List D}{caps:Loc}(V:D->Prop)(P:D->Prop)(W:aR->Prop)(v:∀s,W s->same s)(E:W s)(C:∀d∈xs,V d)
  (h:∀d s,V d->W s->wp (e (some d::caps)) (λx q=>P x/\W q) s) (o:∀g s',g.length=xs.length->(∀d∈g,P d)->W s'->A g s'):
  wp (collect (aS 0) bZ e same xs (none::caps)) A s:=
 TN V (λl=>∃x,l=x::caps) P W v E ⟨none,rfl⟩ C (λd l s u c w=>by obtain⟨x,el⟩:=c;subst el;rw[fj];exact⟨⟨_,rfl⟩,h d s u w⟩) o
noncomputable def vj(n:Nat)(d:D):Prop:=∃i:Nat,i < n/\d=.int i
theorem v5{n:Nat}:∀d∈fO 0 n,vj n d:=λd hd=>by obtain⟨i,c⟩:=iI hd;obtain⟨h,g⟩:=Hh c;exact⟨i,h,g⟩
end
end MM
noncomputable def MM.xP:=aw @MM.EI<|aw @MM.AN<|aw @MM.CD<|aw @MM.Ey<|aw @MM.B8<|aw @MM.JL<|aw @MM.CJ<|aw @MM.Ao<|aw @MM.zM<|aw @MM.zn<|aw @MM.zP<|aw @MM.wY<|aw @MM.wx<|aw @MM.wy<|aw @MM.xz<|aw @MM.qL<|aw @MM.zq<|aw @MM.sw<|aw @MM.m5<|aw @MM.sR<|aw @MM.w8<|aw @MM.AA<|aw @MM.AS<|aw @MM.CN<|aw @MM.EJ<|aw @MM.D9<|aw @MM.Il<|aw @MM.Hc<|aw @MM.IB<|aw @MM.Iw<|aw @MM.HY<|aw @MM.Gv<|aw @MM.Ha<|aw @MM.JN<|aw @MM.Ip<|aw @MM.HH<|aw @MM.Gj<|aw @MM.CY<|aw @MM.AU<|aw @MM.JF<|aw @MM.Gm<|aw @MM.Hg<|aw @MM.II<|aw @MM.JE<|aw @MM.IK<|aw @MM.Gu<|aw @MM.GS<|aw @MM.Hr<|aw @MM.IE<|aw @MM.C5<|aw @MM.Er<|aw @MM.Ja<|aw @MM.IZ<|aw @MM.An<|aw @MM.ED<|aw @MM.As<|aw @MM.DJ<|aw @MM.Aw<|aw @MM.zH<|aw @MM.DD<|aw @MM.AT<|aw @MM.Ep<|aw @MM.Ec<|aw @MM.zI<|aw @MM.B7<|aw @MM.D1<|aw @MM.CM<|aw @MM.Dh<|aw @MM.JT<|aw @MM.J3<|aw @MM.Jg<|aw @MM.Jv<|aw @MM.GC<|aw @MM.IN<|aw @MM.qN<|aw @MM.wb<|aw @MM.uQ<|aw @MM.zr<|aw @MM.zp<|aw @MM.Ad<|aw @MM.AC<|aw @MM.cy<|aw @MM.dW<|aw @MM.gY<|aw @MM.wI<|aw @MM.uU<|aw @MM.vt<|aw @MM.wo<|aw @MM.zX<|aw @MM.wn<|aw @MM.AL<|aw @MM.zG<|aw @MM.AO<|aw @MM.Cw<|aw @MM.zw<|aw @MM.Ac<|@MM.vo
local macro_rules
 | `(tactic| simp![$a,*])=>`(tactic| simp only[↓MM.xP,MM.fj,MM.kW,MM.pA,MM.u8,MM.Ct,MM.HL,MM.JG,MM.Jb,MM.JD,MM.GI,MM.GG,MM.IS,MM.Jx,MM.HB,MM.IT,MM.Io,MM.G3,MM.Ga,Nat.reduceAdd,Nat.reduceSub,Int.reduceLE,Int.reduceLT,MM.J1,MM.Gd,MM.JJ,MM.Jz,beq_iff_eq,MM.CP,MM.Ix,MM.Ii,Nat.reduceLT,Nat.reduceLeDiff,$a,*])
namespace MM
open PySem
noncomputable def pr:List Nat->Nat
 |[]=>1
 |b::bs=>b*pr bs
section
variable{l:Loc}{Q:D->aR->Prop}{A:List D->aR->Prop}{I:Wk->aR->Prop}{s:aR}
theorem BC{a b:CE}: wp (kP a b l) Q s=wp (a l) (λx g=>match x with
  | .str x=>wp (b l) (λy c=>match y with
   | .str y=>((y.length == 0)=false/\x.length+2<=eQ/\(fS x y).length<=eQ)/\Q (.ref c.length) (c++[.lst ((fS x y).map .str)])
   |_=>False) g
  |_=>False) s:=by
 unfold kP;rw[e_];refine kE λx g=>?_;cases x<;>first|exact kF rfl|skip
 dsimp only;rw[e_];refine kE λy c=>?_;cases y<;>first|exact kF rfl|skip
 dsimp only;rw[dW,gY]
theorem DP{a b:CE}: wp (m8 a b l) Q s=wp (a l) (λx h=>match x with
  | .str x=>wp (b l) (λy g=>match y with
   | .ref n=>wp (getL n) (λds c=>match gU ds with
    |some ys=>(ys.map (·.length)).sum+ys.length*x.length<=16777216/\Q (.str (qZ x ys)) c
    |none=>False) g
   |_=>False) h
  |_=>False) s:=by
 unfold m8;rw[e_];refine kE λx h=>?_;cases x<;>first|exact kF rfl|skip
 dsimp only;rw[e_];refine kE λy g=>?_;cases y<;>first|exact kF rfl|skip
 dsimp only;rw[e_];refine kE λds c=>?_;cases gU ds with
 |none=>exact kF rfl
 |some ys=>dsimp only;rw[dW,cy]
theorem PP{a:CE}: wp (uZ a l) I s=wp (a l) (λx c=>match x with
  | .str x=>x.cps.all (· < 128)=true/\I ⟨signs x,d6⟩ c
  |_=>False) s:=by
 unfold uZ;rw[e_];refine kE λx c=>?_;cases x<;>first|exact kF rfl|skip
 dsimp only;rw[dW,cy]
theorem QA{i:Int}:wp (iw (.int i)) Q s=(i.natAbs.log2 < 1920/\Q (.str (ag (toString i))) s):=by unfold iw;rw[dW,cy]
theorem Xi{x:Str}{n:Int}(h:intText? x=some n)(c:x.length<=640):wp (oy (.str x)) Q s=Q (.int n) s:=by unfold oy;dsimp only;rw[h];dsimp only;rw[dW,cy];exact propext ⟨λh=>h.2,λh=>⟨c,h⟩⟩
theorem Qw{x y:Str}:wp (vi (.str x) (.str y)) Q s=Q (.bl (!(ki y x 0 y.length 1).isEmpty)) s:=cF rfl
theorem Dl{x y:Str}:wp (cC (.str x) (.str y)) Q s=(x.length+y.length<=eQ/\Q (.str (x++y)) s):=by show wp (chk _ _) _ _=_;rw[dW,cy]
theorem Fp{x:Str}:wp (dk (.str x)) Q s=(x.length<=eQ/\Q (.int x.length) s):=by show wp (chk _ _) _ _=_;rw[dW,cy]
theorem Pz{x:Str}:wp (eF ["str"] (.str x)) Q s=Q (.bl true) s:=cF rfl
theorem VP{c:Nat}{r:List Nat}:wp (aY (.str ⟨(c::r).toArray⟩) (.int 0)) Q s=((⟨(c::r).toArray⟩:Str).length<=eQ/\Q (.str ⟨#[c]⟩) s):=by
 show wp (chk _ _) _ _=_;rw[dW];congr 1;have e:oT (⟨(c::r).toArray⟩:Str).length 0=some 0:=by unfold oT;rw[aG (Int.le_refl 0),aG (by simp[qW])];rfl
 rw[e];exact cF rfl
end
theorem L5{n:Nat}{f:Nat->Str}:gU (bB n λi=>.str (f i))=some (bB n f):=by
 unfold bB;generalize db n=r
 induction r with
 |nil=>rfl
 |cons a r ih=>
  rw[aQ,aQ]
  show (gU (r.map λi=>D.str (f i))).map (f a::·)=_;rw[ih];rfl
noncomputable def nX(n:Nat):Str:=⟨#[48+n]⟩
end MM
namespace MM
def fA(a:CE)(lo c:CO):CE:=λl=>bnd (a l) λx=>bnd (lo l) λi=>bnd (c l) λj=>match x with
 | .tup ds=>ret (.tup (cutD ds i j))
 |_=>bad
end MM
namespace HT
open PySem PySem.Spec PyProof.Rows L2
section
variable{prog:Program}{w:bq}{A:bn}{E:ac->ah->Prop}{s:ah}
theorem nC{t u:af}{c:Array ac}{H G:ac}{lo q:Option Int}{Q:ac->ah->Prop}(o:BK s.heap t c)(J:s.heap.IsSliceOf u H G .none)(O:n9 H lo)(L:n9 G q)
  (I:fJ c.size 0 lo=0/\fJ c.size c.size q=c.size) (h:Q (.ref t) s):aA (aP prog w) A (mQ (.ref t) (.ref u)) Q E s:=by
 obtain⟨os,v,C,U⟩:=id J;have zo:s.TypeIs (.ref u) "slice":=⟨os,v,C⟩
 unfold mQ
 try with_reducible refine b_ ?_
 first|refine aa (ai ?_)|skip
 refine aa (qf o.typeIs (by decide) ?_);refine aa (cE (name:=ag "__getitem__") o.typeIs cQ
  (dG cQ o.typeIs yX ?_ (A2 _ _)))
 show aA _ _ (iy (.ref t) >>= _) _ _ s;refine aa (tupleItemsOf_ o ?_);refine aa (vH zo ?_);rw[aG (by decide)];refine aa (Lc J O L ?_);have g:((((fJ c.size 0 lo:Nat):Int) == 0&&(1:Int) == 1&&(fJ c.size c.size q-fJ c.size 0 lo) == c.size)=true):=by rw[I.1,I.2];simp
 show aA _ _ (if (((fJ c.size 0 lo:Nat):Int) == 0&&(1:Int) == 1&&(fJ c.size c.size q-fJ c.size 0 lo) == c.size)=true then _ else _) _ _ s;rw[aG g];unfold Builtin.Tuple.tupleIsExact;refine aa (aa (vH o.typeIs ?_));refine ai ?_;rw[aG (by decide)];exact aa (eI (ai ⟨_,rfl,ai h⟩))
end
end HT
namespace MM
open PySem PySem.Spec PyProof.Rows L2
section
variable{X:Cx}{e:Expr}{fa:CE}{pos:Pos}
def Hi(K:aj):V->Option Int->Option Int->Hp->VK->Prop:=λx lo c H Q=>∃a xs,x=.ref a/\i7 K H a xs/\((HT.fJ xs.length 0 lo=0/\HT.fJ xs.length xs.length c=xs.length)->Q (.ref a) H) /\
 (¬ (HT.fJ xs.length 0 lo=0/\HT.fJ xs.length xs.length c=xs.length)->∀p,H p=none->Q (.ref p) (eO H p (.tup (qH xs lo c))))
theorem VH:Fd X (Hi X.K):=by
 intro c s σ H x v U O lo L Y Q I q J C u h;obtain⟨a,xs,rfl,E,h1,h2⟩:=h;by_cases o:HT.fJ xs.length 0 lo=0/\HT.fJ xs.length xs.length L=xs.length
 ·cases q;obtain⟨its,r,G,hz⟩:=I.tuple E;have g:its.toArray.size=xs.length:=by rw[aH];exact r.length.symm
  refine⟨"tuple",_,cQ.lookup,G.typeIs,?_⟩;exact HT.nC G J C u (by rw[g];exact o) ⟨.ref a,H,I,rfl,h1 o⟩
 ·exact Xk c s σ H _ v U O lo L Y Q I q J C u ⟨a,xs,rfl,E,o,h2 o⟩
theorem TC{ds:List D}{i j:Option Int}(h:MM.fJ ds.length 0 i=0/\MM.fJ ds.length ds.length j=ds.length):cutD ds i j=ds:=by unfold cutD;rw[h.1,h.2,gi,EZ,eJ]
theorem VJ{lo Y:Option Expr}{fl fh:CO}{E:Pos}(h:SE X e fa)(hl:SO X lo fl)(hh:SO X Y fh):SE X (.Subscript e (.Slice lo Y none E) pos) (fA fa fl fh):=
 (Lb VH h hl hh).of λσ H Q h_=>h_.el λρ l st G sr p=>⟨ρ,l,st,G,sr,p.bnd.imp λd u ρ1 H1 O s1 p1 v rv=>⟨ρ1,l,u,G.mono O,s1,p1.bnd.imp λi g ρ2 H2 L s2 E=>⟨ρ2,l,g,(G.mono O).mono L,s2,E.bnd.imp λj st3 ρ3 H3 x3 U c=>by
  have C:=(rv.mono L).mono x3;have e:∀n d o,HT.fJ n d o=MM.fJ n d o:=λn d o=>by cases o<;>rfl
  cases C with
  |@tup a vs ds h r=>
   refine⟨a,vs,rfl,h,λI=>?_,λI q J=>c ρ3 _ (Ex.new J) (U.new J) _ (.tup (i7.of i5) ((bI.cut r i j).mono (Ex.new J)))⟩;rw[e,e,r.length]at I;dsimp only at c;rw[TC I]at c;exact c.ret U _ (.tup h r)
  |_=>exact c.elim⟩⟩⟩
end
def wT:kX:=λq c e=>Dn e λa lo u _ p h=>wh (c.tag p 1=true) λ_=>(q.e c a).bind λo=>(wW q c lo).bind λfl=>(wW q c u).bind λfh=>some ⟨fA o.1 fl.1 fh.1,λg=>h ▸ VJ (o.2 g) (fl.2 g) (fh.2 g)⟩
section
variable{X:Cx}
theorem Fc{x y z:Str}{a b c:Tok}:cB [V.str x,.str y,.str z] [gS x a,.str y b,.str z c]:=.cons ⟨a,rfl⟩ (.cons ⟨b,rfl⟩ (.cons ⟨c,rfl⟩ .nil))
def wz:V->List V->Hp->VK->Prop:=λx c H Q=>∃a b,x=.str a/\c=[.str b]/\Q (.bl (qY a b)) H
theorem Pw:Be X "str.startswith" wz:=by intro c s σ H x G v J Q I g o h;obtain⟨a,b,rfl,rfl,q⟩:=h;obtain⟨t,rfl⟩:=g;obtain⟨u,rfl,C⟩:=o.one;obtain⟨t',rfl⟩:=C;refine kS F.slot_str_startswith (iZ _ _ _) F.entry_str_startswith (F.args_str_startswith_2 _ _) (S:=λA R s=>R (.ok (.ret (.bool (qY a b)))) s) ?_ ⟨.bl _,H,I,rfl,q⟩;intro prog w A R s E;exact gives_str_startswith a b t t' prog w A R s E
def yz(f:Str->Str->Str×Str×Str):V->List V->Hp->VK->Prop:=λx c H Q=>∃a b,x=.str a/\c=[.str b]/\(b.length == 0)=false/\a.length<=eQ/\∀l,H l=none->Q (.ref l) (eO H l (.tup [.str (f a b).1,.str (f a b).2.1,.str (f a b).2.2]))
theorem S8:Be X "str.partition" (yz nU):=by
 intro C s σ H x Y v us Q I E G h;obtain⟨a,b,rfl,rfl,O,U,q⟩:=h;obtain⟨t,rfl⟩:=E;obtain⟨u,rfl,J⟩:=G.one;obtain⟨t',rfl⟩:=J;have g:a.length<=sizeLine:=bC U (by decide);refine kS F.slot_str_partition (iZ _ _ _) F.entry_str_partition (F.args_str_partition_2 _ _) (meets_str_partition a b t t' O g) ?_;unfold nU at q;have L:=I.hok.fresh (ax s.heap.objs.size);have c:=q _ L;split<;>rename_i e<;>rw[e]at c
 ·exact⟨.ref s.heap.objs.size,_,I.laid (o:=.tup [.str _,.str _,.str _]) (λb o e=>aq _ e) (ax _) ⟨by show 3<=sizeLine;decide,[.str _ _,.str _ _,.str _ _],Fc,gn.new _ _⟩,rfl,c⟩
 ·exact⟨.ref s.heap.objs.size,_,I.laid (o:=.tup [.str _,.str _,.str _]) (λb o e=>aq _ e) (ax _) ⟨by show 3<=sizeLine;decide,[.str _ _,.str _ _,.str _ _],Fc,gn.new _ _⟩,rfl,c⟩
theorem OR:Be X "str.rpartition" (yz mT):=by
 intro C s σ H x Y v us Q I E G h;obtain⟨a,b,rfl,rfl,O,U,q⟩:=h;obtain⟨t,rfl⟩:=E;obtain⟨u,rfl,J⟩:=G.one;obtain⟨t',rfl⟩:=J;have g:a.length<=sizeLine:=bC U (by decide);refine kS F.slot_str_rpartition (iZ _ _ _) F.entry_str_rpartition (F.args_str_rpartition_2 _ _) (meets_str_rpartition a b t t' O g) ?_;unfold mT at q;have L:=I.hok.fresh (ax s.heap.objs.size);have c:=q _ L;split<;>rename_i e<;>rw[e]at c
 ·exact⟨.ref s.heap.objs.size,_,I.laid (o:=.tup [.str _,.str _,.str _]) (λb o e=>aq _ e) (ax _) ⟨by show 3<=sizeLine;decide,[.str _ _,.str _ _,.str _ _],Fc,gn.new _ _⟩,rfl,c⟩
 ·exact⟨.ref s.heap.objs.size,_,I.laid (o:=.tup [.str _,.str _,.str _]) (λb o e=>aq _ e) (ax _) ⟨by show 3<=sizeLine;decide,[.str _ _,.str _ _,.str _ _],Fc,gn.new _ _⟩,rfl,c⟩
theorem Q8{o e:Expr}{U fb:CE}{h c:Pos}(ho:SE X o U)(ha:SE X e fb)(u:cR o "startswith" X.env (eval o X.env)=eval o X.env)
  (C:((backTo c (starEach [e] X.env)).all (λx => !x.1)&&(dZ c (cz [] X.env)).all (λx=>x.1.isSome)&&decide ([e].length+([]:List di).length+(if ([]:List di).isEmpty then 0 else 1) < 30))=true)
  (q:(h.endLine == c.line)=true) (O:starEach [e] X.env=(false,eval e X.env)::starEach [] X.env) (g:(backTo c (starEach [] X.env)).any (·.1)=false):
  SE X (.Call (.Attribute o "startswith" h) [e] [] c) (m4 U fb):=
 (Bt fD PySem.F.slot_str_startswith PySem.F.type_str_startswith Pw ho (n8 ha qp O) u C q O g).of λσ H Q h_=>h_.el λρ l st L sr p=>⟨ρ,l,st,L,sr,p.bnd.imp λd E ρ1 H1 Y s1 J v rv=>by
  cases rv with
  |str x=>
   refine⟨rfl,ρ1,l,E,L.mono Y,s1,(aU.bnd J).imp λy st2 ρ2 H2 x2 s2 I w G=>?_⟩;cases G with
   |str y=>exact⟨x,y,rfl,rfl,I.ret s2 _ (.bl _)⟩
   |_=>exact I.elim
  |_=>exact J.elim⟩
theorem VE{o e:Expr}{fa fb:CE}{h c:Pos}(ho:SE X o fa)(ha:SE X e fb)(C:cR o "partition" X.env (eval o X.env)=eval o X.env)
  (E:((backTo c (starEach [e] X.env)).all (λx => !x.1)&&(dZ c (cz [] X.env)).all (λx=>x.1.isSome)&&decide ([e].length+([]:List di).length+(if ([]:List di).isEmpty then 0 else 1) < 30))=true)
  (u:(h.endLine == c.line)=true) (U:starEach [e] X.env=(false,eval e X.env)::starEach [] X.env) (g:(backTo c (starEach [] X.env)).any (·.1)=false):
  SE X (.Call (.Attribute o "partition" h) [e] [] c) (ox nU fa fb):=
 (Bt fD PySem.F.slot_str_partition PySem.F.type_str_partition S8 ho (n8 ha qp U) C E u U g).of λσ H Q h_=>h_.el λρ l st O sr p=>⟨ρ,l,st,O,sr,p.bnd.imp λd G ρ1 H1 x1 s1 L v rv=>by
  cases rv with
  |str x=>
   refine⟨rfl,ρ1,l,G,O.mono x1,s1,(aU.bnd L).imp λy st2 ρ2 H2 x2 s2 J w I=>?_⟩;cases I with
   |str y=>
    obtain⟨⟨hb,hl⟩,p3⟩:=aU.chk J;exact⟨x,y,rfl,rfl,hb,hl,λq Y=>p3 _ _ (Ex.new Y) (s2.new Y) _ (.tup (i7.of i5) (.cons (.str _) (.cons (.str _) (.cons (.str _) .nil))))⟩
   |_=>exact J.elim
  |_=>exact L.elim⟩
theorem V9{o e:Expr}{fa fb:CE}{h c:Pos}(ho:SE X o fa)(ha:SE X e fb)(C:cR o "rpartition" X.env (eval o X.env)=eval o X.env)
  (E:((backTo c (starEach [e] X.env)).all (λx => !x.1)&&(dZ c (cz [] X.env)).all (λx=>x.1.isSome)&&decide ([e].length+([]:List di).length+(if ([]:List di).isEmpty then 0 else 1) < 30))=true)
  (u:(h.endLine == c.line)=true) (U:starEach [e] X.env=(false,eval e X.env)::starEach [] X.env) (g:(backTo c (starEach [] X.env)).any (·.1)=false):
  SE X (.Call (.Attribute o "rpartition" h) [e] [] c) (ox mT fa fb):=
 (Bt fD PySem.F.slot_str_rpartition PySem.F.type_str_rpartition OR ho (n8 ha qp U) C E u U g).of λσ H Q h_=>h_.el λρ l st O sr p=>⟨ρ,l,st,O,sr,p.bnd.imp λd G ρ1 H1 x1 s1 L v rv=>by
  cases rv with
  |str x=>
   refine⟨rfl,ρ1,l,G,O.mono x1,s1,(aU.bnd L).imp λy st2 ρ2 H2 x2 s2 J w I=>?_⟩;cases I with
   |str y=>
    obtain⟨⟨hb,hl⟩,p3⟩:=aU.chk J;exact⟨x,y,rfl,rfl,hb,hl,λq Y=>p3 _ _ (Ex.new Y) (s2.new Y) _ (.tup (i7.of i5) (.cons (.str _) (.cons (.str _) (.cons (.str _) .nil))))⟩
   |_=>exact J.elim
  |_=>exact L.elim⟩
end
section
def xj:kX:=qq "startswith" m4 iF λ_ o a b f l s p=>Q8 o a b f l s p
def El:kX:=qq "partition" (ox nU) iF λ_ o a b f l s p=>VE o a b f l s p
def AM:kX:=qq "rpartition" (ox mT) iF λ_ o a b f l s p=>V9 o a b f l s p
end
end MM
namespace MM
def qu{α:Type}(m:M α):M α:=λs=>match m s with
 | .ok a s'=>.ok a s'
 |_=>.bad
def um(c:CS):CS:=λl=>qu (c l)
def KL(c:CE):CE:=λl=>qu (c l)
def tE(c:CT):CT:=λl=>qu (c l)
def qz(c:CA):CA:=λl=>qu (c l)
def Bv(c:CI):CI:=λl=>qu (c l)
def vb(c:CG):CG:=λd l=>qu (c d l)
noncomputable def uW(d:D):M r9:=λs=>.exc d s
def mB(x f:o_)(e:CE):CS:=λl=>bnd (qu (e l)) λd=>uW (.exn x [.str f,d])
open PySem PyProof.Rows
section
variable{M:xB}{A:bn}{E:ac->ah->Prop}{s:ah}
structure Ag(fs:List af)(e:af)(c:ac)(d:Option af)(sl:Array (Option ac))(vs:Array ac)(L T:af)(h h':bh):Prop where
 keep:∀b o,b≠e->b∉fs->h.get? b=some o->h'.get? b=some o
 slot:∀b o,b≠e->h.get? b=some o->∃sl,h'.get? b=some { o with slots:=sl }
 new:h.get? T=none
 ne:T≠e
 ex:h'.get? e=some ⟨c,d,.fields (vs.setIfInBounds 1 (.ref T)),sl⟩
 tr:∃ts,h'.get? T=some ⟨.type "traceback",none,.fields ts,#[]⟩/\ts[3]?=some (ik L)
theorem Mr{base:bh}{env:Env}{outer:List Env}{L e:af}{c:ac}{d:Option af}{sl:Array (Option ac)}{U:Array ac}{v:ac}{g:Bool}{Q:Unit->ah->Prop}
  (hfr:A.frames=some (env::outer)) (hl:s.heap.FunFrames base (env::outer)) (hf:env.frame=some L) (he:s.heap.get? e=some ⟨c,d,.fields U,sl⟩) (hsz:1 < U.size)
  (h:∀h' T,Ag ((env::outer).filterMap (·.frame)) e c d sl U L T s.heap h'->Q () { s with heap:=h' }):
  aA M A (do let a <- frameOf env;let Y <- entryPlaceOf L g;let b <- ra v a .none (ik L) .none Y;setField (.ref e) 1 b) Q E s:=by
 have H:e∉(env::outer).filterMap (·.frame):=λhm=>by obtain⟨_,o,ho,hnf⟩:=hl.mem hm;rw[he]at ho;cases ho;exact hnf U rfl
 refine aa (wpAny_frameOf_fun hfr hl hf λC u=>?_);refine aa (wpAny_entryPlaceOf λY hpl=>?_);unfold ra newFields;refine aa (eE ?_ (hpl.sizeOk5 _ _ _ _ _));have J:=(u.2.1 e H).trans he;generalize hts:([v,av L,bO,ik L,bO]++(if Y.isEmpty then cL 6 bO else Y)).toArray=ts;have h3:ts[3]?=some (ik L):=by rw[<- hts];simp
 have I:=aq (h:=C) { cls:=.type "traceback",dict:=none,data:=.fields ts } J;refine kT I rfl hsz (h _ C.objs.size ?_);have O:C.objs.size≠e:=gw (aJ J);have sz:∀{b:af}{o:Obj},C.get? b=some o->C.objs.size≠b:=λq=>gw (aJ q);refine⟨λb o G hbf hb=>?_,λb o G hb=>?_,?_,O,?_,ts,?_,h3⟩
 ·rw[dI _ _ (fB G)];exact aq _ ((u.2.1 b hbf).trans hb)
 ·obtain⟨c,e1⟩:=u.2.2 b o hb;refine⟨c,?_⟩;rw[dI _ _ (fB G)];exact aq _ e1
 ·cases z:s.heap.get? C.objs.size with
  |none=>rfl
  |some o=>
   obtain⟨_,e1⟩:=u.2.2 _ o z;exact bp rfl (sz e1)
 ·exact ce (gQ (·.setIfInBounds 1 (av C.objs.size))) I rfl
 ·rw[dI _ _ (fB O)];exact aK C rfl
def Kx(h:bh)(e:af)(g:Array ac):Prop:=g[1]?=some .none\/∃T o c d q,g[1]?=some (.ref T)/\T≠e/\h.get? T=some ⟨c,d,.fields o,q⟩/\o[3]?=some .none
structure oU(fs:List af)(e:af)(c:ac)(d:Option af)(sl:Array (Option ac))(vs:Array ac)(f:ac)(h h':bh):Prop where
 keep:∀b o,b≠e->vs[1]?≠some (.ref b)->b∉fs->h.get? b=some o->h'.get? b=some o
 slot:∀b o,b≠e->vs[1]?≠some (.ref b)->h.get? b=some o->∃sl,h'.get? b=some { o with slots:=sl }
 there:∀b o,h.get? b=some o->∃o',h'.get? b=some o'
 ex:∃vs' T ts c' d' sl',h'.get? e=some ⟨c,d,.fields vs',sl⟩/\vs'[1]?=some (.ref T)/\T≠e/\h.get? T=none/\h'.get? T=some ⟨c',d',.fields ts,sl'⟩/\ts[3]?=some f/\vs'[2]?=vs[2]?
theorem Ag.gone{fs:List af}{e L T:af}{c:ac}{d:Option af}{C:Array (Option ac)}{u:Array ac}{h h':bh}(g:Ag fs e c d C u L T h h')(hsz:1 < u.size):oU fs e c d C u (ik L) h h':=by
 obtain⟨G,I,H⟩:=g.tr;refine⟨λb o v _ O q=>g.keep b o v O q,λb o v _ q=>g.slot b o v q,λb o q=>?_,_,T,G,_,_,_,g.ex,?_,g.ne,g.new,I,H,by simp⟩
 ·by_cases z:b=e
  ·subst z;exact⟨_,g.ex⟩
  ·obtain⟨_,J⟩:=g.slot b o z q;exact⟨_,J⟩
 ·simp[hsz]
theorem Nh{base:bh}{env:Env}{outer:List Env}{L e:af}{c:ac}{d:Option af}{sl:Array (Option ac)}{O:Array ac}{Q:Unit->ah->Prop}
  (I:A.frames=some (env::outer)) (hl:s.heap.FunFrames base (env::outer)) (hf:env.frame=some L) (U:s.heap.get? e=some ⟨c,d,.fields O,sl⟩) (hv:Kx s.heap e O)
  (h:∀h',oU ((env::outer).filterMap (·.frame)) e c d sl O (ik L) s.heap h'->Q () { s with heap:=h' }):aA M A (EW (.ref e) env) Q E s:=by
 unfold EW;simp only[hf];rcases hv with H|⟨T,ts,cT,dT,slT,H,hTe,Y,h3⟩
 ·have hsz:=(fZ.mp H).1;refine aa (cA U rfl H ?_);rw[az (by decide)];exact Mr I hl hf U hsz λh' T g=>h h' (g.gone hsz)
 ·have hsz:=(fZ.mp H).1;refine aa (cA U rfl H ?_);rw[aG (by simp)];refine aa (cA Y rfl h3 ?_);rw[az (by simp[ik])];refine aa (kT Y rfl (fZ.mp h3).1 ?_);have u:∀b,b≠T->(s.heap.update T (gQ (·.setIfInBounds 3 bO))).get? b=s.heap.get? b:=λb G=>dI _ _ (fB G);have J:=ce (gQ (·.setIfInBounds 3 bO)) Y rfl;refine Mr (s:={ s with heap:=s.heap.update T (gQ (·.setIfInBounds 3 bO)) }) I (hl.of_keeps λb o G Q=>⟨o,?_,rfl⟩) hf ((u e (fB hTe)).trans U) hsz λh' c g=>h h' ?_
  ·rw[u b λz=>?_]
   ·exact G
   ·subst z;rw[Y]at G;cases G;exact Q ts rfl
  ·have I:∀b,O[1]?≠some (.ref b)->b≠T:=λb G z=>G (by rw[z];exact H);obtain⟨E,U,Q⟩:=g.tr;have Y:s.heap.get? c=none:=by
    by_cases z:c=T
    ·have:=g.new;rw[z,J]at this;cases this
    ·have:=g.new;rw[u c z]at this;exact this
   refine⟨λb o v C h q=>g.keep b o v h ((u b (I b C)).trans q),λb o v C q=>g.slot b o v ((u b (I b C)).trans q),λb o q=>?_,_,c,E,_,_,_,g.ex,by simp[hsz],g.ne,Y,U,Q,by simp⟩;by_cases z:b=e
   ·subst z;exact⟨_,g.ex⟩
   ·by_cases y:b=T
    ·subst y;obtain⟨_,L⟩:=g.slot _ _ z J;exact⟨_,L⟩
    ·obtain⟨_,L⟩:=g.slot b o z ((u b y).trans q);exact⟨_,L⟩
theorem WW{e T:af}{c I:ac}{d dT:Option af}{u g:Array (Option ac)}{o q:Array ac}{Q:Unit->ah->Prop}(v:s.heap.get? e=some ⟨c,d,.fields o,u⟩)(H:o[1]?=some (.ref T))(C:s.heap.get? T=some ⟨I,dT,.fields q,g⟩)(G:3 < q.size)
  (h:Q () { s with heap:=s.heap.update T (gQ (·.setIfInBounds 3 .none)) }):aA M A (E1 (.ref e) none) Q E s:=by
 unfold E1;refine aa (cA v rfl H ?_);rw[aG (by simp)];exact kT C rfl G h
theorem oU.calm{fs:List af}{e:af}{c f:ac}{d:Option af}{v:Array (Option ac)}{O:Array ac}{h:bh}{Q:Unit->ah->Prop}(g:oU fs e c d v O f h s.heap)(q:∀h',oU fs e c d v O .none h h'->Q () { s with heap:=h' }):aA M A (E1 (.ref e) none) Q E s:=by
 obtain⟨vs',T,ts,c',d',sl',e1,e2,e3,Y,U,e6,e7⟩:=g.ex;have C:=(fZ.mp e6).1;have u:∀b,b≠T->(s.heap.update T (gQ (·.setIfInBounds 3 bO))).get? b=s.heap.get? b:=λb hb=>dI _ _ (fB hb);have H:∀b o,h.get? b=some o->b≠T:=λb o z y=>by rw[y,Y]at z;cases z
 have I:=ce (gQ (·.setIfInBounds 3 bO)) U rfl;refine WW e1 e2 U C (q _ ⟨λb o L J C z=>(u b (H b o z)).trans (g.keep b o L J C z),λb o L J z=>?_,λb o z=>?_,vs',T,_,_,_,_,(u e (fB e3)).trans e1,e2,e3,Y,I,by simp[C],e7⟩)
 ·obtain⟨v,G⟩:=g.slot b o L J z;exact⟨v,(u b (H b o z)).trans G⟩
 ·obtain⟨o',G⟩:=g.there b o z;exact⟨o',(u b (H b o z)).trans G⟩
theorem TF{base:bh}{env:Env}{outer:List Env}{L e:af}{c:ac}{d:Option af}{u:Array (Option ac)}{o:Array ac}{Q:Unit->ah->Prop}
  (q:A.frames=some (env::outer)) (C:s.heap.FunFrames base (env::outer)) (G:env.frame=some L) (H:s.heap.get? e=some ⟨c,d,.fields o,u⟩) (v:Kx s.heap e o)
  (h:∀h',oU ((env::outer).filterMap (·.frame)) e c d u o .none s.heap h'->Q () { s with heap:=h' }):aA M A (leaving env (.ref e)) Q E s:=by
 unfold leaving;exact aa (Nh q C G H v λh' g=>oU.calm (s:={ s with heap:=h' }) g λI g2=>h I g2)
end
open PySem.W L2
noncomputable def Fl(C:bh)(I H:Hp)(h:bh)(a:af):Prop:=C.get? a=none/\(∀o u,I a≠some (.frz o u))/\∃c d g E,H a=some (.frz ⟨c,d,.fields g,E⟩ (.own a)) /\
 (g[1]?=some .none\/∃T v G d' q,g[1]?=some (.ref T)/\T≠a/\C.get? T=none/\H T=none/\h.get? T=some ⟨G,d',.fields v,q⟩/\v[3]?=some .none)
def sU(P:Program)(w:bq):sG:=λouter H s E e s'=>∃a c,e=.ref a/\s'.os=s.os/\kJ s'.gens/\Un (sX outer) [] H c s.heap s'.heap/\lL P w c s'.heap/\Fl s.heap H c s'.heap a/\E (.ref a) none c
def gp(a:af)(H o:Hp):Prop:=∃c d g vs' h,H a=some (.frz ⟨c,d,.fields g,h⟩ (.own a))/\vs'[2]?=g[2]?/\o=eO H a (.frz ⟨c,d,.fields vs',h⟩ (.own a))
section
variable{X:Cx}{ao:List (af×Obj)}{σ:L2.St}{H:Hp}{s:ah}{a:af}
theorem OL{P:Program}{w:bq}{h h':bh}{fs:List af}{c f:ac}{d:Option af}{E:Array (Option ac)}{G vs':Array ac}(I:lL P w H h)(J:∀b∈fs,H b=none)(L:H a=some (.frz ⟨c,d,.fields G,E⟩ (.own a)))(U:∀T,G[1]?=some (.ref T)->H T=none)(g:oU fs a c d E G f h h')(O:h'.get? a=some ⟨c,d,.fields vs',E⟩):
  lL P w (eO H a (.frz ⟨c,d,.fields vs',E⟩ (.own a))) h':=by
 intro b o e;by_cases z:b=a
 ·subst z;rw[i5]at e;cases e;exact⟨O,_,O⟩
 ·rw[gm z]at e;have kp:∀C u o',H C=some o'->C≠a->h.get? C=some u->h'.get? C=some u:=λC u o' v c Y=>g.keep C u c (λy=>by rw[U C y]at v;cases v) (λy=>by rw[J C y]at v;cases v) Y;refine (I b o e).stay (λC u Q v=>?_) (λC v=>?_) (λC xs v=>?_)
  ·rcases Q with y|y
   ·subst y;exact kp _ u o e z v
   ·exact kp C u _ y (λq=>by rw[q,L]at y;cases y) v
  ·rw[gm λq=>by rw[q,L]at v;cases v];exact v
  ·rw[gm λq=>by rw[q,L]at v;cases v];exact v
theorem Fl.fly{O:bh}{U:Hp}{h:bh}(f:Fl O U H h a):∃c d g v,H a=some (.frz ⟨c,d,.fields g,v⟩ (.own a))/\Kx h a g/\(∀T,g[1]?=some (.ref T)->H T=none/\O.get? T=none):=by
 obtain⟨_,_,c,d,g,v,e,z⟩:=f;refine⟨c,d,g,v,e,?_,λT q=>?_⟩
 ·rcases z with z|⟨T,L,Q,d',o,u,J,I,G,E,C⟩
  ·exact .inl z
  ·exact .inr ⟨T,L,Q,d',o,u,J,E,C⟩
 ·rcases z with z|⟨Y,L,Q,d',o,u,J,I,G,E,C⟩
  ·rw[z]at q;cases q
  ·rw[u]at q;cases q;exact⟨G,I⟩
end
section
variable{P:Program}{w:bq}{K:Frag}{mg:Str->Option ac}{base:bh}{N:List Str}{qual:Str}{scope:dD}{f:af}{cd:ac}{A:bn}{outer:List Env}{s:ah}{H:Hp}{E:XK}
variable{ao:List (af×Obj)}{σ:L2.St}{H':Hp}{s':ah}{a:af}
theorem O3(I:Inv (mD (sU P w) P w K mg base N qual scope f cd A outer s H E) ao σ H' s')(fl:Fl s.heap H H' s'.heap a)(hE:∀H2,gp a H' H2->E (.ref a) none H2):
  (mD (sU P w) P w K mg base N qual scope f cd A outer s H E).xe (.ref a) s':=by
 obtain⟨c,d,O,G,L,hv,hT⟩:=fl.fly;obtain⟨ga,_⟩:=(show dE P w H' s'.heap a (.frz ⟨c,d,.fields O,G⟩ (.own a)) from I.hok a _ L)
 have hfr:=I.ok.frames;have hst:=I.stack;have hsf:=I.stkFree
 show aA (aP P w) (A.deeper (iB qual scope s.heap.objs.size f cd)) (leaving (iB qual scope s.heap.objs.size f cd) (.ref a)) _ _ s';refine TF hfr hst rfl ga hv λh2 g=>?_;obtain⟨vs',T,ts,c',d',U,e1,e2,e3,e4,e5,e6,e7⟩:=g.ex;have th:∀b o,s.heap.get? b=some o->∃o',s'.heap.get? b=some o':=λb o q=>I.base.there b o q (by intro z;cases z);have Y:∀b o,s.heap.get? b=some o->b∉sX outer->b∉(iB qual scope s.heap.objs.size f cd::outer).filterMap (·.frame):=λb o q C z=>by
  rw[iX]at z;rcases aF.mp (show b∈s.heap.objs.size::sX outer from z) with z|z
  ·exact bp (aJ q) (by rw[z];exact cY _)
  ·exact C z
 have v:∀b o,s.heap.get? b=some o->b≠a:=λb o q z=>by rw[z,fl.1]at q;cases q
 have neT:∀b o,s.heap.get? b=some o->O[1]?≠some (.ref b):=λb o q z=>by rw[(hT b z).2]at q;cases q
 have J:∀b,b≠a->eO H' a (.frz ⟨c,d,.fields vs',G⟩ (.own a)) b=H' b:=λb z=>gm z;refine⟨a,eO H' a (.frz ⟨c,d,.fields vs',G⟩ (.own a)),rfl,I.os,I.bare,⟨λb o q n C _=>?_,λb o q n C _=>?_,λb o q n _=>?_,λb o q _=>?_,λb xs q=>?_,λb o u q=>?_,λb ps q=>?_⟩,OL I.hok hsf L (λT z=>(hT T z).1) g e1,⟨fl.1,fl.2.1,c,d,vs',G,i5,.inr ⟨T,ts,c',d',U,e2,e3,?_,?_,e5,e6⟩⟩,hE _ ⟨c,d,O,vs',G,L,e7,rfl⟩⟩
 ·exact g.keep b o (v b o q) (neT b o q) (Y b o q C) (I.base.keep b o q n C (by intro z;cases z))
 ·obtain⟨c,h⟩:=I.base.slot b o q n C (by intro z;cases z);obtain⟨Q,u⟩:=g.slot b _ (v b o q) (neT b o q) h;exact⟨Q,u⟩
 ·rw[J b (v b o q)];exact I.base.free b o q n (by intro z;cases z)
 ·obtain⟨o',h⟩:=th b o q;exact g.there b o' h
 ·have:=I.base.tups b xs q;rw[J b λz=>by rw[z,L]at this;cases this];exact this
 ·have:=I.base.frzs b o u q;rw[J b λz=>by rw[z]at q;exact fl.2.1 o u q];exact this
 ·obtain⟨more,h⟩:=I.base.tbls b ps q;exact⟨more,by rw[J b λz=>by rw[z,L]at h;cases h];exact h⟩
 ·cases z:s.heap.get? T with
  |none=>rfl
  |some o=>obtain⟨o',q⟩:=th T o z;rw[e4]at q;cases q
 ·rw[J T e3];cases z:H' T with
  |none=>rfl
  |some o=>obtain⟨ob,q⟩:=Lq (I.hok T o z);rw[e4]at q;cases q
end
section
variable{K:Frag}{ρ ρ1:List af}{H H1 H2:Hp}{st:aR}{a:af}
abbrev XW:=D->aR->List af->Hp->Prop
def ba{α:Type}(K:Frag)(ρ:List af)(H:Hp)(r:Rs α)(R:α->aR->List af->Hp->Prop)(W:XW):Prop:=match r with
 | .ok a st=>∀ρ' H',Ex ρ H ρ' H'->SR K ρ' H' st->R a st ρ' H'
 | .exc d st=>∀ρ' H',Ex ρ H ρ' H'->SR K ρ' H' st->W d st ρ' H'
 | .bad=>False
variable{α β:Type}{W:XW}
theorem ba.left{r:Rs α}{R:α->aR->List af->Hp->Prop}(x:Ex ρ H ρ1 H1)(h:ba K ρ H r R W):ba K ρ1 H1 r R W:=by
 cases r with
 |ok a st=>exact λρ' c y s=>h ρ' c (x.trans y) s
 |exc _ _=>exact λρ' c y s=>h ρ' c (x.trans y) s
 |bad=>exact h
theorem ba.imp{r:Rs α}{R g:α->aR->List af->Hp->Prop}(h:ba K ρ H r R W)(f:∀a st ρ' c,Ex ρ H ρ' c->SR K ρ' c st->R a st ρ' c->g a st ρ' c):ba K ρ H r g W:=by
 cases r with
 |ok a st=>exact λρ' c y s=>f a st ρ' c y s (h ρ' c y s)
 |exc _ _=>exact h
 |bad=>exact h
theorem ba.bnd{m:M α}{f:α->M β}{R:β->aR->List af->Hp->Prop}(h:ba K ρ H (bnd m f st) R W):ba K ρ H (m st) (λa c ρ' g=>ba K ρ' g (f a c) R W) W:=by
 unfold MM.bnd at h;cases e:m st with
 |ok a s'=>
  rw[e]at h;exact λρ' g y s=>ba.left y h
 |exc _ _=>rw[e]at h;exact h
 |bad=>rw[e]at h;exact h
theorem ba.ret{x:α}{R:α->aR->List af->Hp->Prop}(h:ba K ρ H (MM.ret x st) R W)(s:SR K ρ H st):R x st ρ H:=h ρ H Ex.refl s
theorem ba.no{m:M α}{R:α->aR->List af->Hp->Prop}(h:ba K ρ H (qu m st) R W):aU K ρ H (m st) R:=by
 unfold qu at h;cases e:m st with
 |ok a s'=>rw[e]at h;exact h
 |exc _ _=>rw[e]at h;exact h
 |bad=>rw[e]at h;exact h
theorem gp.ne{b:af}{o:HO}(t:gp a H H2)(h:H b=some o)(g:∀q,o≠.frz q (.own a)):H2 b=some o:=by
 obtain⟨c,d,u,vs',v,e,C,rfl⟩:=t;by_cases z:b=a
 ·subst z;rw[h]at e;cases e;exact bp rfl (g _)
 ·rw[gm z];exact h
theorem gp.knd{b:af}{o:HO}(t:gp a H H2)(h:H b=some o):∃o',H2 b=some o'/\kO o'=kO o:=by
 obtain⟨c,d,g,vs',q,e,u,rfl⟩:=t;by_cases z:b=a
 ·subst z;rw[h]at e;cases e;exact⟨_,i5,rfl⟩
 ·exact⟨o,by rw[gm z];exact h,rfl⟩
theorem gp.rmap(t:gp a H H2):wJ K ρ H ρ H2 where
 sq h:=by
  rcases h with (h|⟨o,h⟩)|h
  ·exact .inl (.inl (t.ne h λ_ z=>(by cases z)))
  ·exact .inl (.inr ⟨o,t.ne h λ_ z=>(by cases z)⟩)
  ·exact .inr h
 fz h:=by
  rcases h with ⟨o,h⟩|h
  ·exact .inl ⟨o,t.ne h λ_ z=>(by cases z)⟩
  ·exact .inr h
 kd h _:=t.knd h
 rt:=id
 ow {b _}:=λq=>by
  obtain⟨o,u,v⟩:=q;obtain⟨c,d,G,vs',I,e,E,rfl⟩:=t;by_cases z:b=a
  ·subst z;rw[u]at e;cases e;exact⟨_,i5,v⟩
  ·exact⟨o,by rw[gm z];exact u,v⟩
 ex {b _ _ _}:=λg=>by
  obtain⟨o,u,v⟩:=g;obtain⟨c,d,G,vs',I,e,E,rfl⟩:=t;by_cases z:b=a
  ·subst z;rw[u]at e;cases e;obtain⟨O,C,Q,L,J⟩:=v;cases L;exact⟨_,i5,O,C,_,rfl,J.imp id λz=>by rw[E];exact z⟩
  ·exact⟨o,by rw[gm z];exact u,v⟩
 xd h:=t.ne h λ_ z=>(by cases z)
theorem dg.turn(t:gp a H H2){v:V}{d:D}(r:dg K ρ H v d):dg K ρ H2 v d:=r.map t.rmap
theorem bI.turn(t:gp a H H2){c:List V}{ds:List D}(r:bI K ρ H c ds):bI K ρ H2 c ds:=r.map t.rmap
theorem pZ.turn{c:af}{q:Str}(t:gp a H H2)(h:pZ H c q):pZ H2 c q:=by obtain ⟨o,g,x,e,r⟩:=h;exact ⟨o,g,x,t.ne e (λ_ z=>by injection z with _ z;cases z),r⟩
theorem SR.turn(t:gp a H H2)(s:SR K ρ H st):SR K ρ H2 st:=⟨s.len,s.nd,λn b o C g=>by
 have q:=s.ob n b o C g;cases o with
 |lst ds=>obtain⟨G,h,r⟩:=q;exact⟨G,t.ne h λ_ z=>(by cases z),r.turn t⟩
 |dcf bb=>obtain⟨es,h,r⟩:=q;exact⟨es,t.ne h λ_ z=>(by cases z),ii.mapS r λ_ _ z=>⟨z.1,z.2.1.turn t,z.2.2.turn t⟩⟩
 |ded=>
  obtain⟨o,h⟩:=q;obtain⟨c,d,G,vs',I,e,J,rfl⟩:=t;by_cases z:b=a
  ·subst z;exact⟨_,i5⟩
  ·exact⟨o,by rw[gm z];exact h⟩
 |clo c G=>
  obtain⟨o,Q,q,cd,cl,C,g,E,e4,Y,U⟩:=q;refine⟨o,Q,q,cd,cl,?_,g,E,e4.turn t,Y,ii.mapS U λ_ _ z=>let ⟨o,u,v,C,g,E,r⟩:=z;⟨o,u,v,t.ne C (λ_ z=>by injection z with _ z;cases z),g,E,r.turn t⟩⟩;obtain⟨c,d,G,vs',I,e,J,rfl⟩:=t;by_cases z:b=a
  ·subst z;rw[C]at e;cases e;cases g
  ·rw[gm z];exact C
 |lam e=>
  obtain⟨ps,b',sc,p,q,c,O,ct,C,g,E⟩:=q;refine⟨ps,b',sc,p,q,c,O,ct,C,?_,E.turn t⟩;obtain⟨c,d,G,vs',I,e,J,rfl⟩:=t;by_cases z:b=a
  ·subst z;rw[g]at e;cases e
  ·rw[gm z];exact g
 |tbl y=>
  obtain⟨L,ps,C,g,E⟩:=q;exact⟨L,ps,t.ne C λ_ z=>(by cases z),g,λp v z=>let ⟨c,a,b⟩:=E p v z;⟨c,a,b.turn t⟩⟩
 |dct k bb=>
  cases k with
  |false=>obtain⟨es,h,r⟩:=q;exact⟨es,t.ne h λ_ z=>(by cases z),ii.mapS r λ_ _ z=>⟨z.1,z.2.turn t⟩⟩
  |true=>obtain⟨es,h,r⟩:=q;exact⟨es,t.ne h λ_ z=>(by cases z),ii.mapS r λ_ _ z=>⟨z.1,z.2.1.turn t,z.2.2.turn t⟩⟩⟩
theorem Ex.turn(t:gp a H1 H2)(x:Ex ρ H ρ1 H1)(n:∀o u,H a≠some (.frz o u)):Ex ρ H ρ1 H2:=by
 have key:∀b o,H b=some o->H1 b=some o->H2 b=some o:=λb o h g=>by
  obtain⟨c,d,J,vs',L,e,O,rfl⟩:=t;by_cases z:b=a
  ·subst z;rw[g]at e;cases e;exact bp h (n _ _)
  ·rw[gm z];exact g
 refine⟨x.pre,λb o k e=>key b o e (x.fix b o k e),λb o v e=>key b o e (x.oth b o v e),λb o e=>?_⟩;obtain⟨o',I,E⟩:=x.knd b o e;obtain⟨q,G,C⟩:=t.knd I;exact⟨q,G,C.trans E⟩
end
def zD(X:Cx):XW:=λd _ ρ' g=>∀c σ s' a,Inv X c σ g s'->dg X.K ρ' g (.ref a) d->Fl X.s₀.heap X.H₀ g s'.heap a->X.xe (.ref a) s'
def Ju(X:Cx)(f:CE):TE:=λσ H Q=>∃ρ l st,LR X.K ρ H σ l/\SR X.K ρ H st/\ba X.K ρ H (f l st) (λd _ ρ' c=>∀v,dg X.K ρ' c v d->Q v c) (zD X)
def MG(X:Cx)(c:CS):TS:=λG σ H=>∃ρ l st,LR X.K ρ H σ l/\SR X.K ρ H st/\ba X.K ρ H (c l st) (λf _ ρ' g=>match f with
 | .next l'=>∀σ',LR X.K ρ' g σ' l'->G.nx σ' g
 | .ret d=>∀v,dg X.K ρ' g v d->G.rt v g
 | .brk l'=>∀σ',LR X.K ρ' g σ' l'->G.bk σ' g
 | .cnt l'=>∀σ',LR X.K ρ' g σ' l'->G.ct σ' g) (zD X)
abbrev uB(X:Cx)(e:Expr)(f:CE):Prop:=PE X e (Ju X f)
abbrev SX(X:Cx)(s:Stmt)(c:CS):Prop:=PS X s (MG X c)
abbrev vX(X:Cx)(s:List Stmt)(c:CS):Prop:=PSs X s (MG X c)
def uk(K:Frag)(n:Nat)(g:List D->M D):Sp:=λh H Q E=>h.length=n/\∃ρ st ds,SR K ρ H st/\bI K ρ H h ds/\ba K ρ H (g ds st) (λr _ ρ' c=>∀v,dg K ρ' c v r->Q v c) (λd _ ρ' c=>∀a,dg K ρ' c (.ref a) d->E (.ref a) none c)
section
variable{X:Cx}{a b c e tg:Expr}{es:List Expr}{s:Stmt}{ss:List Stmt}{pos:Pos}{fa fb fc:CE}{ca cb:CA}{ta tb:CT}{cs cr:CS}{K:Frag}{ρ:List af}{H:Hp}{st:aR}
theorem T3(h:SS X s cs):SX X s (um cs):=h.of λG σ H g=>by obtain⟨ρ,l,st,q,o,p⟩:=g;exact⟨ρ,l,st,q,o,p.no⟩
theorem QJ:vX X [] aB:=HM.of λG σ H g=>by obtain⟨ρ,l,st,o,h,p⟩:=g;exact ba.ret p h σ o
theorem UC(I:SX X s cs)(E:vX X ss cr):vX X (s::ss) (aC cs cr):=(ID I E).of λG σ H g=>by obtain⟨ρ,l,st,C,v,p⟩:=g;exact⟨ρ,l,st,C,v,(ba.bnd p).imp λf q ρ1 L J h o=>by
 cases f with
 |next l'=>exact λσ' u=>⟨ρ1,l',q,u,h,o⟩
 |ret d=>exact ba.ret o h
 |brk l'=>exact ba.ret o h
 |cnt l'=>exact ba.ret o h⟩
theorem VB(E:ST X c ta)(J:vX X ss cs){o:List Stmt}(I:vX X o cr):SX X (.If c ss o pos) (gj (tE ta) cs cr):=(Mu E J I).of λG σ H g=>
 by obtain⟨ρ,l,st,q,o,p⟩:=g;exact⟨ρ,l,st,q,o,(ba.no (ba.bnd p)).imp λk h ρ1 L u v C=>by
  cases k with
  |true=>exact⟨ρ1,l,h,q.mono u,v,C⟩
  |false=>exact⟨ρ1,l,h,q.mono u,v,C⟩⟩
def XY(X:Cx):XK:=λv _ h=>∀g σ s' a,v=.ref a->Inv X g σ h s'->Fl X.s₀.heap X.H₀ h s'.heap a->X.xe (.ref a) s'
theorem Ui(hex:X.ex=[]):pC (sU X.prog X.w) X (XY X):=λg σ H s e s' I h=>by
 obtain⟨a,H',rfl,os,v,un,E,fl,q⟩:=h;have I2:Inv X g σ H' s':=I.call' os un E v (ch:=[]) (λb z=>bp z (by simp));have up:∀b,s.heap.get? b=none->X.s₀.heap.get? b=none:=λb z=>by
  cases y:X.s₀.heap.get? b with
  |none=>rfl
  |some o=>
   obtain⟨o',q⟩:=I.base.there b o y (by rw[hex];simp);rw[z]at q;cases q
 obtain⟨f1,f2,c,d,U,sl,f3,G⟩:=fl;refine q g σ s' a rfl I2 ⟨up a f1,λo u z=>f2 o u (I.base.frzs a o u z),c,d,U,sl,f3,?_⟩;rcases G with G|⟨T,Y,c',d',C,Q,O,L,J⟩
 ·exact .inl G
 ·exact .inr ⟨T,Y,c',d',C,Q,O,up T L,J⟩
theorem Tn{k n:Nat}{f:af}{L:bN}{ps:List Str}{g:List D->M D}{x:Str}{p:Pos}(hex:X.ex=[])(F:fV X.prog X.w X.K X.mg X.base (sU X.prog X.w) k f L ps (uk X.K n g))(c:fo k X.A)(hg:Gl X x)(hm:X.mg x=some (.ref f))
  (hk:keepIn X.K (.ref f)=true) (hb:Binds X.K L ps []) (ha:SA X (e::es) ca) (hn:∀l st ds C,ca l st=.ok ds C->ds.length=n) (G:(x == ("__debug__":Str))=false:=by decide)
  (he:starEach (e::es) X.env=(false,eval e X.env)::starEach es X.env:=by rfl) (E:(backTo pos (starEach es X.env)).any (·.1)=false:=by rfl):uB X (.Call (.Name x p) (e::es) [] pos) (bv g (qz ca)):=
 (Je F c hg hm hk hb .nil (Ui hex) ha G he E).of λσ H Q h=>by obtain⟨ρ,l,st,Y,U,p⟩:=h;exact⟨ρ,l,st,Y,U,by
  have q:=ba.no (ba.bnd p);cases u:ca l st with
  |bad=>rw[u]at q;exact q
  |exc _ _=>rw[u]at q;exact q
  |ok ds cw=>
   rw[u]at q;intro ρ1 H1 x1 s1 vs rvs;refine⟨by rw[cg,rvs.length];exact hn l st ds cw u,ρ1,cw,ds,s1,by rw[cg];exact rvs,?_⟩;have o:ba X.K ρ1 H1 (g ds cw) (λd _ ρ' O=>∀v,dg X.K ρ' O v d->Q v O) (zD X):=q ρ1 H1 x1 s1;cases J:g ds cw with
   |bad=>rw[J]at o;exact o
   |ok r st2=>rw[J]at o;exact o
   |exc d st2=>
    rw[J]at o;intro ρ2 H2 x2 s2 a rep ao σ s' a' ea I fl;cases ea;exact o ρ2 H2 x2 s2 ao σ s' a I rep fl⟩
theorem TV(h:uB X e fa)(J:eD e none pos.line X.env=pure false:=by rfl):SX X (.Expr e pos) (kg fa):=(Ma h J).of λG σ H g=>
 by obtain⟨ρ,l,st,o,C,p⟩:=g;exact⟨ρ,l,st,o,C,(ba.bnd p).imp λd u ρ1 O q E I v L=>ba.ret I E σ (o.mono q)⟩
theorem LY(h:uB X e fa):SX X (.Return (some e) pos) (b8 fa):=(LG h).of λG σ H g=>by obtain⟨ρ,l,st,I,q,p⟩:=g;exact⟨ρ,l,st,I,q,(ba.bnd p).imp λd o ρ1 L J u E v C=>ba.ret E u v C⟩
end
section
variable{X:Cx}{a b c e tg:Expr}{es:List Expr}{s:Stmt}{ss:List Stmt}{pos:Pos}{fa fb fc:CE}{ca cb:CA}{ta tb:CT}{cs cr:CS}{K:Frag}{ρ:List af}{H:Hp}{st:aR}
theorem ba.chkS{W:XW}{p:aR->Prop}{R:Unit->aR->List af->Hp->Prop}(h:ba K ρ H (MM.chkS p st) R W)(s:SR K ρ H st):p st/\R () st ρ H:=by
 unfold MM.chkS at h;by_cases g:p st
 ·rw[aG g]at h;exact⟨g,h ρ H Ex.refl s⟩
 ·rw[az g]at h;exact h.elim
theorem PL{i : Nat}{x : Str}{g : Pos}(c : X.N.Nodup)(Q : X.N[i]? = some x)(L : L2.Loc X.env.scope x)(Y : uB X e fa)(O : eD e (some (.Name x g)) pos.line X.env = pure false := by rfl)
  (U:X.fn x=true\/X.env.scope.names.lookup x=some .local:=by first|exact .inl rfl|exact .inr rfl|assumption):SX X (.Assign [.Name x g] e pos) (bX (aS i) fa):=
 (Oy c Q L Y O U).of λG σ H h=>by obtain⟨ρ,l,st,q,E,p⟩:=h;exact⟨ρ,l,st,q,E,(ba.bnd p).imp λd C ρ1 H1 u o J v I=>
  ba.ret (ba.ret (ba.bnd J) o) o _ ((q.mono u).set i I)⟩
theorem Qm{iter:Expr}{u:List Stmt}{ci:CI}{g:CG}{cb:CS}(hp:oA (aP X.prog X.w) X.A X.env X.xe)(hc:X.calm=true)(hi:SI X tg iter ci)(hg:SG X tg g)(hb:vX X u cb)
  (hs:∀x,dQ iter X.env x=pure x:=by intro _;rfl):SX X (.For tg iter u [] pos) (iS (Bv ci) (vb g) cb):=(KU hp hc hi hg hb hs).of λG σ H C=>
 by obtain⟨ρ,l,st,lr,sr,p⟩:=C;exact⟨ρ,l,st,lr,sr,(ba.no (ba.bnd p)).imp λw cw ρ1 H1 x1 s1 p1 J hJ=>by
  refine⟨λi m σ' h=>m=w.ds.length-i/\i<=w.ds.length/\∃ρ' l' st',Ex ρ1 H1 ρ' h/\LR X.K ρ' h σ' l'/\SR X.K ρ' h st'/\ba X.K ρ' h (kc (vb g) cb w.same (w.ds.drop i) l' st') (λf _ ρ' h=>match f with
   | .next l'=>∀σ',LR X.K ρ' h σ' l'->G.nx σ' h
   | .ret d=>∀v,dg X.K ρ' h v d->G.rt v h
   | .brk l'=>∀σ',LR X.K ρ' h σ' l'->G.bk σ' h
   | .cnt l'=>∀σ',LR X.K ρ' h σ' l'->G.ct σ' h) (zD X),⟨w.ds.length,by simp,bL _,ρ1,l,cw,Ex.refl,lr.mono x1,s1,p1⟩,?_⟩
  rintro i m σ2 H2 ⟨rfl,hi,ρ2,l2,st2,x2,lr2,s2,p2⟩
  by_cases E:i < w.ds.length
  ·have ed:w.ds.drop i=w.ds[i]::w.ds.drop (i+1):=bR E;rw[ed]at p2;unfold kc at p2;obtain⟨sm,p3⟩:=ba.chkS (ba.bnd p2) s2;obtain⟨_,go⟩:=hJ ρ2 H2 st2 x2 s2 sm;obtain⟨g1,g2⟩:=go i w.ds[i] (au E);refine .inr ⟨g1,λσ3 I=>∃ρ3 l3 st3,Ex ρ1 H1 ρ3 I/\LR X.K ρ3 I σ3 l3/\SR X.K ρ3 I st3/\ba X.K ρ3 I (kc (vb g) cb w.same (w.ds.drop (i+1)) l3 st3) (λf _ ρ' h=>match f with
    | .next l'=>∀σ',LR X.K ρ' h σ' l'->G.nx σ' h
    | .ret d=>∀v,dg X.K ρ' h v d->G.rt v h
    | .brk l'=>∀σ',LR X.K ρ' h σ' l'->G.bk σ' h
    | .cnt l'=>∀σ',LR X.K ρ' h σ' l'->G.ct σ' h) (zD X),λσ3 I q=>⟨_,by ext,rfl,E,q⟩,λy I hy=>?_⟩
   obtain⟨Y,s3,u⟩:=g2 y I hy;refine⟨ρ2,l2,st2,_,lr2.mono Y,s3,u,(ba.no (ba.left Y (ba.bnd p3))).imp λl4 c ρ4 H4 J s4 p4 σ4 C=>⟨ρ4,l4,c,C,s4,(ba.bnd p4).imp λf O ρ5 H5 H Q U=>?_⟩⟩;have L:Ex ρ1 H1 ρ5 H5:=(x2.trans Y).trans (J.trans H);cases f with
   |next l5=>exact λσ5 o=>⟨ρ5,l5,O,L,o,Q,U⟩
   |cnt l5=>exact λσ5 o=>⟨ρ5,l5,O,L,o,Q,U⟩
   |brk l5=>exact λσ5 o=>ba.ret U Q σ5 o
   |ret d=>exact λv u=>ba.ret U Q v u
  ·have e:i=w.ds.length:=by ext
   subst e;rw[dC]at p2;unfold kc at p2;obtain⟨sm,p3⟩:=ba.chkS (ba.bnd p2) s2;obtain⟨g1,_⟩:=hJ ρ2 H2 st2 x2 s2 sm;exact .inl ⟨g1,ba.ret p3 s2 σ2 lr2⟩⟩
end
section
variable{prog:Program}{w:bq}{A:bn}{E:ac->ah->Prop}{env:Env}{C N:af}{bm:List ac}
theorem Wx{s:ah}{x:Sem ac}{Q:Flow->ah->Prop}(L:bm.contains (.type "BaseException")=true)(hh:A.handled=none)
  (h:aA (aP prog w) A x (λv c=>∃e d o u G,v=.ref e/\n5 c.heap C N bm G/\c.heap.get? e=some ⟨.ref C,d,.fields o,u⟩/\o[1]?=some .none/\E (.ref e) c) E s):aA (aP prog w) A (E2 env (some x) none) Q E s:=by
 have q:(av C::bm).contains (.type "BaseException")=true:=by rw[cW,L,BV]
 unfold E2;refine aa (bS h (λv c U=>?_) λ_ _ x=>x);obtain⟨e,d,o,u,G,rfl,⟨⟨nm,q1,bs,sn,sub,ab,Y,dd,k0,k1,k2,k3,k5,H⟩,_⟩,J,I,O⟩:=U;obtain⟨hp,g,dr,tk,os⟩:=c
 repeat (first
  |with_reducible refine iD J ?_
  |with_reducible refine iD H ?_
  | (with_reducible refine kD H ?_
     rw[q])
  |wp_step)
 rw[I];refine ai ?_;rw[az (by decide)];exact ai (wpAny_raiseNew_none hh O)
end
theorem N5{P:af}:(av P::fv).contains (.type "BaseException")=true:=by simp[fv]
section
variable{X:Cx}{sc:dD}{x f:Str}{C N P NP:af}{pos p ap:Pos}{e:Expr}{fa:CE}
theorem Vz{fI:af}{fd:bN}{ps:List Str}(hex:X.ex=[])(hcm:X.calm=true)(F:XF X.K x f C N P NP)(hi:nsIn X.K N (ag "__init__")=some (some (.ref fI)))(hfn:∃oI,X.K.lookup fI=some oI/\oI.cls=.type "function")
  (G:fV X.prog X.w X.K X.mg X.base ou 1 fI fd ps (Bn C f)) (hr:fo 2 X.A) (hb:Binds X.K fd ps []) (hg:Gl X x) (hm:X.mg x=some (.ref C)) (hdb:(x == ("__debug__":Str))=false) (ha:SE X e fa)
  (he:starEach [e] X.env=[(false,eval e X.env)]:=by rfl):SX X (.Raise (some (.Call (.Name x p) [e] [] ap)) none pos) (mB x f fa):=by
 intro c s σ H D I h;obtain⟨ρ,l,st,lr,sr,q⟩:=h;rw[arm_exec_Raise];refine aa (i8 ?_)
 show aA _ _ (E2 X.env (some (do let v <- eval (.Call (.Name x p) [e] [] ap) X.env;qe pos;pure v)) none) _ _ _;have mk:=RH (X:=X) (p:=p) (pos:=ap) F hi hfn G hr hb hg hm (n8 ha qp he) hdb he;have q1:=ba.no (ba.bnd q);refine Wx (C:=C) (N:=N) (bm:=.ref P::fv) N5 (I.ok.hd hcm) (aa (fE (mk c s σ H (λv J=>∃a d g L,v=.ref a/\J a=some (.frz ⟨.ref C,d,.fields g,L⟩ (.own a))/\g[1]?=some .none/\X.s₀.heap.get? a=none/\(∀o u,X.H₀ a≠some (.frz o u))/\∀c σ s',Inv X c σ J s'->Fl X.s₀.heap X.H₀ J s'.heap a->X.xe (.ref a) s') I ?_) λv O z=>?_))
 ·refine⟨ρ,l,st,lr,sr,q1.imp λd cw ρ1 h L O p1 v rv=>⟨v,rfl,λa Q ob J h0 h2 h3 G h5 q=>?_⟩⟩;have k:=UA (f:=f) (v:=v) (ob:=ob) (o:=.ext (oW a C)) J h2;have E:iG (eO h a (.ext (oW a C))) a Q f v ob a=some (.frz ob (.own a)):=by unfold iG;rw[i5]
  have gd:iG (eO h a (.ext (oW a C))) a Q f v ob Q=some (.xd [(f,v)]):=by unfold iG;rw[gm h3,i5]
  have W:=p1 ρ1 _ (Ex.more k) (O.more k);have nH:H a=none:=by
   cases z:H a with
   |none=>rfl
   |some o=>exact bp J (L.trk a o z)
  have Y:dg X.K ρ1 (iG (eO h a (.ext (oW a C))) a Q f v ob) (.ref a) (.exn x [.str f,d]):=.exn F.gl ⟨ob,E,G,h5,q.imp λ_ z=>⟨z.1,.inr z.2.2⟩⟩ gd (rv.mono (Ex.more k));obtain⟨g,e1,e2,_⟩:=q;obtain⟨c0,d0,dd0,U⟩:=ob;cases G;cases e1;have nz:∀o u,X.H₀ a≠some (.frz o u):=λo u z=>by have:=I.base.frzs a o u z;rw[nH]at this;cases this
  exact⟨a,d0,g,U,rfl,E,e2,h0 hex,nz,λc σ s' I' fl=>W c σ s' a I' Y fl⟩
 ·obtain⟨y,J,h,q,a,d,g,L,rfl,E,o,h0,hz,G⟩:=z;obtain rfl:v=av a:=q;obtain⟨u,I,ch,_⟩:=F.ch h.kIn;obtain⟨H,_⟩:=(show dE X.prog X.w J O.heap a (.frz ⟨.ref C,d,.fields g,L⟩ (.own a)) from h.hok a _ E)
  exact aa (i8 (ai ⟨a,d,g,L,u,rfl,ch.c,H,o,G c σ O h ⟨h0,hz,_,_,_,_,E,.inl o⟩⟩))
end
section
variable{prog:Program}{w:bq}{A:bn}{E:ac->ah->Prop}{C N D N':af}{bm gD:List ac}{mN hX:Str->Option ac}
theorem Oj{s:ah}{e:af}{c:Obj}{Q:Bool->ah->Prop}(H:n5 s.heap C N bm mN)(xd:n5 s.heap D N' gD hX)(hb:gD.contains (.type "BaseException")=true)(he:s.heap.get? e=some c)(hc:c.cls=.ref C)(h:Q ((av C::bm).contains (.ref D)) s):
  aA (aP prog w) A (Bb (.ref e) (.ref D)) Q E s:=by
 have o:(av D::gD).contains (.type "BaseException")=true:=by rw[cW,hb,BV]
 obtain⟨⟨nm,q1,bs,sn,sub,ab,col,dd,k0,k1,k2,k3,k5,u⟩,_⟩:=xd;obtain⟨⟨O,L,bs',I,q,ab',G,dd',k0',k1',k2',k3',Y,v⟩,_⟩:=H;obtain⟨hp,g,dr,tk,os⟩:=s;obtain⟨c0,d0,dt0,J⟩:=c;cases hc;have f:=tc_notTuple;generalize hk:(av C::bm).contains (.ref D)=U at h;unfold Bb
 repeat (first
  |with_reducible refine iD he ?_
  |with_reducible refine iD u ?_
  |with_reducible refine iD v ?_
  | (with_reducible refine kD u ?_
     rw[o])
  | (with_reducible refine kD v ?_
     rw[hk])
  |wp_step)
 cases U<;>(wp_walk;exact h)
end
theorem XV{fs G:List af}{H1 H:Hp}{E h' h3:bh}{a:af}{c f:ac}{d:Option af}{J:Array (Option ac)}{I vs':Array ac}(un:Un fs [] H1 H E h')(fl1:E.get? a=none)(Y:∀o u,H1 a≠some (.frz o u))(hH:H a=some (.frz ⟨c,d,.fields I,J⟩ (.own a)))
  (hT:∀T,I[1]?=some (.ref T)->E.get? T=none) (g:oU G a c d J I f h' h3) (U:∀b o,E.get? b=some o->b∉fs->b∉G):Un fs [] H1 (eO H a (.frz ⟨c,d,.fields vs',J⟩ (.own a))) E h3:=by
 have v:∀b o,E.get? b=some o->b≠a:=λb o q z=>by rw[z,fl1]at q;cases q
 have neT:∀b o,E.get? b=some o->I[1]?≠some (.ref b):=λb o q z=>by rw[hT b z]at q;cases q
 have L:∀b,b≠a->eO H a (.frz ⟨c,d,.fields vs',J⟩ (.own a)) b=H b:=λb z=>gm z;refine⟨λb o q n O C=>?_,λb o q n O C=>?_,λb o q n C=>?_,λb o q C=>?_,λb xs q=>?_,λb o u q=>?_,λb ps q=>?_⟩
 ·exact g.keep b o (v b o q) (neT b o q) (U b o q O) (un.keep b o q n O C)
 ·obtain⟨c,h⟩:=un.slot b o q n O C;obtain⟨Q,u⟩:=g.slot b _ (v b o q) (neT b o q) h;exact⟨Q,u⟩
 ·rw[L b (v b o q)];exact un.free b o q n C
 ·obtain⟨o',h⟩:=un.there b o q C;exact g.there b o' h
 ·have:=un.tups b xs q;rw[L b λz=>by rw[z,hH]at this;cases this];exact this
 ·have:=un.frzs b o u q;rw[L b λz=>by rw[z]at q;exact Y o u q];exact this
 ·obtain⟨more,h⟩:=un.tbls b ps q;exact⟨more,by rw[L b λz=>by rw[z,hH]at h;cases h];exact h⟩
noncomputable def kH(X:Cx)(a:af):Cx:={ X with A:=X.A.mark (some (.ref a)),calm:=false,xe:=λ_ _=>False }
section
variable{X:Cx}{ao:List (af×Obj)}{σ:L2.St}{H:Hp}{s:ah}{a:af}
theorem Tl(ok:X.Ok):(kH X a).Ok:=⟨ok.mod,ok.kind,ok.glob,ok.blt,ok.above,ok.inj,ok.has,ok.cab,λz=>(by cases z),ok.frames,ok.stk,ok.exf,ok.bs,ok.bsz,ok.noex,ok.exfs,ok.funs,ok.frf⟩
theorem Oo(I:Inv X ao σ H s):Inv (kH X a) ao σ H s:=⟨Tl I.ok,I.os,I.bare,I.base,I.loc,I.cell,I.free,I.freeC,I.pin,I.hok,I.len⟩
theorem KS(ok:X.Ok)(I:Inv (kH X a) ao σ H s):Inv X ao σ H s:=⟨ok,I.os,I.bare,I.base,I.loc,I.cell,I.free,I.freeC,I.pin,I.hok,I.len⟩
theorem Uz{M:xB}{A:bn}{E:ac->ah->Prop}{i:Nat}{n:Str}{v:V}{Q:Unit->ah->Prop}(I:Inv X ao σ H s)(hN:X.N.Nodup)(hi:X.N[i]?=some n)(Y:X.env.scope.names.lookup n=some .local)(hv:σ[i]?=some (some v))
  (h:∀s',Inv X ao (σ.set i none) H s'->Q () s'):aA M A (unbindName X.env n) Q E s:=by
 obtain⟨m,hn,J⟩:=id I.loc;have O:(X.env.scope.kind == .class||(X.env.scope.kind == .module&&X.env.locals != X.env.globals))=false:=by rw[I.ok.kind];rfl
 have hk:X.env.kindOf n=some .local:=Y;obtain⟨u,ru,lu⟩:=J i n v hi hv (.inl Y);have hm:m n=some u:=by
  rcases lu with ⟨_,z⟩|⟨z,_⟩
  ·exact z
  ·rw[hk]at z;rcases z with z|z<;>cases z
 refine wpAny_unbindName_local hk hn hm O λh' u' hn' G=>h _ ?_;have ne0:∀b o,X.s₀.heap.get? b=some o->b≠X.env.locals:=λb o q z=>by have:=aJ q;rw[z]at this;exact bp (bf this I.ok.above) (cY _)
 have g:∀b o,X.s₀.heap.get? b=some o->h'.get? b=s.heap.get? b:=λb o q=>G.2 b (ne0 b o q);refine⟨I.ok,I.os,I.bare,⟨λb o q n hb C=>(g b o q).trans (I.base.keep b o q n hb C),λb o q n hb C=>?_,I.base.free,λb o q C=>?_,I.base.tups,I.base.frzs,I.base.tbls⟩,⟨_,hn',λj y v' h1 h2 h3=>?_⟩,λy c e=>?_,I.free,I.freeC,λp hp=>?_,λb o e=>?_,?_⟩
 ·obtain⟨c,z⟩:=I.base.slot b o q n hb C;exact⟨c,(g b o q).trans z⟩
 ·obtain⟨o',z⟩:=I.base.there b o q C;exact⟨o',(g b o q).trans z⟩
 ·have L : j ≠ i := λz => by subst z;have Y:j < σ.length:=(am.mp hv).1;rw[bj Y]at h2;cases h2
  rw[aZ (fB L)]at h2;obtain⟨w,h,u⟩:=J j y v' h1 h2 h3;refine⟨w,h,?_⟩;rcases u with ⟨g,U⟩|⟨g,c,U,q⟩
  ·refine .inl ⟨g,?_⟩;have:y≠n:=λz=>by subst z;exact L ((oJ (am.mp h1).1 hN).mp (h1.trans hi.symm))
   dsimp only;rw[az this];exact U
  ·refine .inr ⟨g,c,U,?_⟩;obtain⟨o,e1,e2⟩:=q;exact⟨o,(G.2 c (I.cne y c U)).trans e1,e2⟩
 ·obtain⟨w,o,e1,e2⟩:=I.cell y c e;exact⟨w,o,(G.2 c (I.cne y c e)).trans e1,e2⟩
 ·obtain⟨o,h,c,g⟩:=I.pin p hp;exact⟨(G.2 p.1 c).trans o,h,c,g⟩
 ·refine (I.hok b o e).stay (λc h g q=>(G.2 c ?_).trans q) (λ_ q=>q) λ_ _ q=>q
  rintro rfl
  rcases g with z|z
  ·rw[<- z,I.free]at e;cases e
  ·rw[I.free]at z;cases z
 ·rw[dy];exact I.len
end
theorem LR.unset{K:Frag}{ρ:List af}{H:Hp}{σ:L2.St}{l:Loc}{i:Nat}(h:LR K ρ H σ l):LR K ρ H (σ.set i none) (l.set i none):=by
 refine⟨by rw[dy,dy];exact h.1,λk d e=>?_⟩;have g:k≠i:=λz=>by
  subst z;by_cases c:k < l.length
  ·rw[bj c]at e;cases e
  ·rw[dm (by rw[dy];ext)]at e;cases e
 rw[aZ (fB g)]at e ⊢;exact h.2 k d e
theorem aU.no{α:Type}{K:Frag}{ρ:List af}{H:Hp}{st:aR}{m:M α}{R:α->aR->List af->Hp->Prop}(h:aU K ρ H (qu m st) R):aU K ρ H (m st) R:=by
 unfold qu at h;cases e:m st with
 |ok a s'=>rw[e]at h;exact h
 |exc _ _=>rw[e]at h;exact h
 |bad=>rw[e]at h;exact h
section
variable{X:Cx}{e:Expr}{es:List Expr}{ca:CA}{hc:CS}
variable{k n:Nat}{f:af}{fd:bN}{ps:List Str}{g:List D->M D}{fn x y nm fl:Str}{p p2 p3 ap b3 ez pos:Pos}{i j:Nat}{C N P NP:af}{b0:Stmt}{dt:List Stmt}
end
end MM
namespace MM
open PySem PySem.Spec PyProof.Rows L2
section
variable{X:Cx}
theorem OY{c:List Stmt}{h₀:ExceptHandler}{E:List ExceptHandler}{pos:Pos}{u:CS}(h:ul X.nox c u):SS X (.Try c (h₀::E) [] [] pos) u:=by
 intro g s σ H D I q;refine E3 (bS (h g s σ H D (I.wish _) q) (λf C z=>?_) λe C z=>(show False from z).elim);have o:=z.unwish;cases f with
 |next=>exact eG o
 |brk=>exact o
 |cont=>exact o
 |ret v=>exact o
theorem Good.nox{c:RC}(g:Good X c):Good X.nox c:=⟨⟨g.S.vis,g.S.cel,g.S.glo,g.S.loc,g.S.calm⟩,g.N,g.nd,g.hr,g.G,g.Z,g.C,kN,g.kd,g.W,g.T⟩
end
section
def Az:vq:=λq c e=>LM e λa o b d _ h=>vC o λ_ _ C=>v0 b λv=>v0 d λu=>(oR q c a).bind λf=>some ⟨f.1,λg=>by subst h C v u;exact OY (f.2 g.nox)⟩
end
section
variable{P:Program}{w:bq}{K:aj}{mg:Str->Option ac}{base:bh}
theorem Q2{x:Str}{g:Stmt}{ps:List Str}{k n:Nat}{G:List (Str×RF)}(F:FnAt K mg x g)(J:ps.length=n)
  (b:∀(kV q C:ac)(O:Option af)(u ct:ac)(c:List ac),c.length=ps.length->lW (d9 x x (d8 g) (cK g) (aX g) .none kV q C O u ct) { pos:=c }=pure (ps.zip c))
  (L:bU P w K mg base G):bU P w K mg base ((x,⟨n,k,ps,false,λ_=>bad⟩)::G):=by
 obtain⟨f,Y,F,o⟩:=F;refine E_ o ⟨λv H Q E h=>?_,λA outer s H args c v Q E U=>?_⟩ F.kp (F.binds b) (λz=>(by cases z)) L
 ·exact h.1.trans J.symm
 ·intro _ _ _ I;obtain⟨_,ρ,st,ds,_,_,p⟩:=I;exact (show False from p).elim
end
section
def wt:vY:=Gy Ft "enumerate" (λc p=>c.tag p 16) pF λh g m a s=>by obtain⟨_,_,_,rfl⟩:=GR h;rw[WO];exact Ml false g m a s
end
end MM
namespace MM
open PySem PySem.W PyProof.Rows L2
noncomputable def Fk(h:bh)(D:af):Prop:=∃o q bs bm N g sub I c H G E C v u,h.get? D=some (eP o q D N bs bm true g sub I c H G E C v u "ValueError.__new__")
section
variable{prog:Program}{w:bq}{A:bn}{E:ac->ah->Prop}{s:ah}{C N P NP e:af}{mN mP:Str->Option ac}
theorem O6{o:Obj}{D:af}{dep:Int}{u:Tok}{R:vO->ah->Prop}(x:r6 s.heap C N P NP mN mP)(L:oq mN mP)(g:s.heap.get? e=some o)(v:o.cls=.ref C)(Q:Fk s.heap D)
  (q:∀c,R (.done (.ret (.bool ((av C::av P::fv).contains (.ref D))))) { s with toks:=c }):aA (aP prog w) A (Builtin.«isinstance.nested» ⟨[.ref e,.ref D,.int dep u],[]⟩) R E s:=by
 obtain⟨O,q0,bs0,bm0,N0,J,Aj,ab0,I,dd0,j0,j1,j2,j3,j5,H⟩:=Q;unfold Builtin.«isinstance.nested»;dsimp only;refine aa (rZ g v ?_);by_cases h:(av C == av D)=true
 ·rw[aG h];refine aa (eI (ai ?_));have Y:(av C::av P::fv).contains (.ref D)=true:=by
   rw[cW];have:(av D == av C)=true:=by rw[beq_iff_eq]at h ⊢;exact h.symm
   rw[this];rfl
  have:=q s.toks;rw[Y]at this;exact this
 ·rw[az h];refine aa (gO H ?_);rw[aG (show (ff "type" == ff "type")=true by decide)];refine aa ?_
  show aA _ _ (vQ (.ref D) >>= _) _ _ _;unfold vQ;dsimp only;unfold xN;refine aa (aa (gE H (ai ?_)));rw[az (show ¬ ((!true)=true) by decide)];unfold i4;refine aa (aa (rZ g v (Ae x.c ?_)));by_cases G:(av C::av P::fv).contains (.ref D)=true
  ·rw[aG G];refine ai (ai ?_);have:=q s.toks;rw[G]at this;exact this
  ·rw[az G];refine aa (LS x L g v λc=>?_);dsimp only;obtain⟨⟨I,E,bs,u,sub,H,o,C,h,Y,Q,O,J,U⟩,ns⟩:=id x.c;refine aa (aa (gE (s:={ s with toks:=c }) U (ai ?_)));rw[az (by simp)];refine aa (eI (Ae (s:={ s with toks:=c }) x.c ?_));refine ai ?_;exact q c
def vp(C P D:af):Bool:=(av C::av P::fv).contains (.ref D)
theorem LZ{o:Obj}{u:ah->Prop}(G:o.cls=.ref C)(v:oq mN mP)(q:∀s,u s->r6 s.heap C N P NP mN mP/\s.heap.get? e=some o):∀{g:List af},(∀s,u s->∀D∈g,Fk s.heap D)->AnswersAll u (.ref e) (g.map av) (g.map (vp C P))
 |[],_=>trivial
 |D::g,h=>⟨λdep I prog w A R s c=>O6 (q s c.1).1 v (q s c.1).2 G (h s c.1 D bQ) c.2,LZ G v q λs z H m=>h s z H (aT _ m)⟩
theorem Sv{o o':Obj}{G:af}{h:List af}{n:Nat}{Q:ac->ah->Prop}(x:r6 s.heap C N P NP mN mP)(U:oq mN mP)(g:s.heap.get? e=some o)(O:o.cls=.ref C)(Y:∀D∈h,Fk s.heap D)
  (u:s.heap.get? G=some o') (c:o'.cls=.type "tuple") (H:o'.data=.seq (h.map av).toArray n) (q:∀J,Q (.bool (h.any (vp C P))) { s with toks:=J }):aA (aP prog w) A (call (.builtin "isinstance") [.ref e,.ref G]) Q E s:=by
 refine Ba ?_ (λz=>(by cases z));unfold Builtin.«isinstance.nested»;dsimp only[ik];refine aa (rZ g O ?_);have I:¬ ((av C == av G)=true):=λz=>by
  rw[beq_iff_eq]at z;injection z with z
  subst z;obtain⟨⟨nm,q1,bs,sn,sub,ab,col,dd,k0,k1,k2,k3,k5,gC⟩,ns⟩:=x.c;rw[gC]at u;cases u;exact bp (show ff "type"=ff "tuple" from c) (by decide)
 rw[az I];refine aa (gO u ?_);rw[c,az (by decide)];refine aa ?_;unfold Builtin.Builtins.unionMembers;refine aa (gO u ?_);rw[c,az (by decide)];refine ai (aa (gM (T:="tuple") (b:=true) ⟨o',u,c⟩ F.isi_sub_tuple ?_));rw[aG rfl];rw[az (by decide)];unfold EX;dsimp only;refine aa ?_;refine aa (pL u ?_);rw[H];refine ai (aa ?_);refine wpAny_arrayLoop ?_;simp only[oK,List.toList_toArray];refine isinstance_items (dep:=0) (P:=λs'=>r6 s'.heap C N P NP mN mP/\s'.heap.get? e=some o/\∀D∈h,Fk s'.heap D) (λs J z=>z) (h.map av) (h.map (vp C P)) _ _ (LZ O U (λs z=>⟨z.1,z.2.1⟩) λs z=>z.2.2) ⟨x,g,Y⟩ λv=>?_;have ea:(h.map (vp C P)).any id=h.any (vp C P):=by rw[List.any_map];rfl
 rw[ea];cases L:h.any (vp C P) with
 |true=>have:=q v;rw[L]at this;exact ai this
 |false=>have:=q v;rw[L]at this;exact ai this
end
section
variable{X:Cx}{e:Expr}{fa:CE}{p p1 pos:Pos}{xs ys zs:List Str}
theorem Qt(C P D:af):vp C P D=(decide (D=C)||decide (D=P)):=by
 show (av C::av P::fv).contains (av D)=_;rw[cW,cW];have z:fv.contains (av D)=false:=rfl;rw[z,nJ];have c:∀a b:af,(av a == av b)=decide (a=b):=λa b=>by
  by_cases w:a=b
  ·subst w;rw[aM rfl];exact beq_self_eq_true _
  ·rw[aO w];exact beq_eq_false_iff_ne.mpr (λz=>w (by injection z))
 rw[c,c]
theorem Ox:∀{c:List af}{its:List ac},cB (c.map V.ref) its->its=c.map av
 |[],_,r=>by cases r;rfl
 |D::c,_,r=>by
  cases r with
  |cons r1 r2=>cases r1;rw[Ox r2];rfl
theorem QD:CallR X (.builtin "isinstance") (λv H Q=>∃(a:af)(ob:Obj)(x f:Str)(C N P u c:af)(g:List af),v=[.ref a,.ref c]/\XF X.K x f C N P u/\H a=some (.frz ob (.own a))/\ob.cls=.ref C/\H c=some (.tup (g.map V.ref))/\(∀D∈g,∃y,XO X.K y D)/\Q (.bl (g.any (vp C P))) H):=by
 intro o s σ H xs us Q I r h;obtain⟨a,ob,x,f,C,N,P,u,c,g,rfl,F,ea,J,L,Y,q⟩:=h;obtain⟨mN,mP,ch,G,no,hN,U⟩:=F.ch I.kIn;obtain⟨ga,_⟩:=(show dE X.prog X.w H s.heap a (.frz ob (.own a)) from I.hok a _ ea)
 obtain⟨_,its,E,o',g1,g2,⟨n,g3⟩,_⟩:=(show dE X.prog X.w H s.heap c (.tup (g.map V.ref)) from I.hok c _ L)
 cases r with
 |cons r1 r2=>
 cases r1;cases r2 with
 |cons r3 r4=>
 cases r4;cases r3;refine Sv ch G ga J (λD hd=>?_) g1 g2 (by rw[g3,Ox E]) λtk=>⟨.bl _,H,I.tok _,rfl,q⟩
 obtain⟨y,O⟩:=Y D hd;obtain⟨N,bm,q,bs,sn,sub,ab,col,dd,k0,k1,k2,k3,k5,l⟩:=O.ob;exact⟨_,_,_,_,_,_,_,_,_,_,_,_,_,_,_,I.kIn _ _ l⟩
noncomputable def yR(K:Frag)(mg:Str->Option ac)(ys:List Str):Prop:=∀y,ys.contains y=true->∃D,XO K y D/\mg y=some (.ref D)
noncomputable def tY(ok:Str->Bool):List Expr->Option (List Str)
 |[]=>some []
 | .Name y _::es=>if ok y=true then (tY ok es).bind λzs=>some (y::zs) else none
 |_=>none
theorem NS{ok:Str->Bool}(o:yR X.K X.mg ys)(g:∀y,ok y=true->ys.contains y=true/\Gl X y/\ka y=true): ∀{es:List Expr}{zs:List Str},tY ok es=some zs->∃c:List af,PA X es (λσ H Q=>Q (c.map V.ref) H)/\zs.length=c.length/\(∀D∈c,∃y,XO X.K y D) /\
  ∀C P x,XO X.K x C->XO X.K "PactError" P->c.any (vp C P)=zs.any λy=>x == y||("PactError":Str) == y
 |[],zs,h=>by cases h;exact⟨[],qp,rfl,λD z=>(by cases z),λ_ _ _ _ _=>rfl⟩
 |e::es,zs,h=>by
  unfold tY at h;split at h
  ·cases ‹_::_=[]›
  ·rename_i y p es' J;injection J with e1 e2
   subst e1 e2;simp only[Option.ite_none_right_eq_some,Option.bind_eq_some_iff]at h;obtain⟨Q,E,H,h⟩:=h;cases h;obtain⟨a,b,d⟩:=g y Q;obtain⟨D,O,m⟩:=o y a;obtain⟨c,G,I,L,Y⟩:=NS o g H;refine⟨D::c,n8 (Ht (v:=.ref D) b m rfl (pj d).d) G,by simp[I],λD' U=>?_,λC P x q u=>?_⟩
   ·rcases aF.mp U with z|z
    ·subst z;exact⟨y,O⟩
    ·exact L D' z
   ·rw[b9,b9,Y C P x q u,Qt,q.iff O,u.iff O]
  ·cases h
theorem Mv{H:Hp}{Q:VK}{a h I:af}{u:Str}{G:List af}(B:∀x∈xs,∃f C N P E,XF X.K x f C N P E)(J:u∈xs)(g:nsIn X.K bz u=some (some (.ref h)))(hh:∃o,H a=some (.frz o (.own a))/\o.cls=.ref h)
  (L:H I=some (.tup (G.map V.ref))) (Y:∀D∈G,∃y,XO X.K y D) (q:∀P,XO X.K u h->XO X.K "PactError" P->Q (.bl (G.any (vp h P))) H):
  ∃(b:af)(ob:Obj)(x f:Str)(C N P E v:af)(c:List af),[V.ref a,V.ref I]=[.ref b,.ref v]/\XF X.K x f C N P E/\H b=some (.frz ob (.own b))/\ob.cls=.ref C/\H v=some (.tup (c.map V.ref))/\(∀D∈c,∃y,XO X.K y D)/\Q (.bl (c.any (vp C P))) H:=by
 obtain⟨f,C,N,P,E,F⟩:=B u J;obtain⟨o,O,U⟩:=hh;have eC:h=C:=by have:=g.symm.trans F.gl;injection this with t;injection t with t;injection t
 subst eC;exact⟨a,o,u,f,h,N,P,E,I,G,rfl,F,O,U,L,Y,q P F.xo F.xp⟩
theorem L6{ok:Str->Bool}{es:List Expr}{k:Nat}(B:∀x∈xs,∃f C N P NP,XF X.K x f C N P NP)(hy:yR X.K X.mg ys)(Y:∀y,ok y=true->ys.contains y=true/\Gl X y/\ka y=true)(hz:tY ok es=some zs)(hsz:zs.length<=10)(hg:Gl X "isinstance")(hm:X.mg "isinstance"=none)(hv:cN "isinstance"=some (.builtin "isinstance"))(ha:SE X e fa)
  (he:starEach [e,.Tuple es k p1] X.env=(false,eval e X.env)::starEach [.Tuple es k p1] X.env) (he2:starEach [.Tuple es k p1] X.env=(false,eval (.Tuple es k p1) X.env)::starEach [] X.env:=by rfl) (U:(backTo pos (starEach [.Tuple es k p1] X.env)).any (·.1)=false:=by rfl):
  SE X (.Call (.Name "isinstance" p) [e,.Tuple es k p1] [] pos) (c1 (mZ xs λx=>zs.any λy=>x == y||("PactError":Str) == y) fa):=by
 obtain⟨Ds,pa,hl,hO,hA⟩:=NS hy Y hz;refine (Bl QD hg hm hv (n8 ha (n8 (LP pa) qp he2) he) (by decide) (by decide) he U).of λσ H Q h_=>h_.el λρ l st lr sr q=>⟨ρ,l,st,lr,sr,q.bnd.imp λd I ρ1 c x1 s1 u v rv=>?_⟩
 refine⟨by rw[ae,<- hl];exact bC hsz (show 10<=2^24 by ext),λG O=>?_⟩;have x2:Ex ρ1 c ρ1 (eO c G (.tup (Ds.map V.ref))):=Ex.new O;have s2:SR X.K ρ1 (eO c G (.tup (Ds.map V.ref))) I:=s1.new O;have k1:∀b o,c b=some o->eO c G (.tup (Ds.map V.ref)) b=some o:=λb o z=>by rw[gm (pi z O)];exact z
 cases rv with
 |@exn a C' dx x' f' v' d' g hh E r=>
  obtain⟨L,J⟩:=u.chk;obtain⟨o,ho,hc,_⟩:=hh;refine Mv B L g ⟨o,k1 _ _ ho,hc⟩ i5 hO λP h1 E=>?_;rw[hA _ _ _ h1 E];exact (aU.left x2 J).ret s2 _ (.bl _)
 |@exn0 a C' x' g hh=>
  obtain⟨L,J⟩:=u.chk;obtain⟨o,ho,hc⟩:=hh;refine Mv B L g ⟨o,k1 _ _ ho,hc⟩ i5 hO λP h1 E=>?_;rw[hA _ _ _ h1 E];exact (aU.left x2 J).ret s2 _ (.bl _)
 |@gfn a x' g h=>exact (B x' u.chk.1).elim λ_ z=>z.elim λ_ z=>z.elim λ_ z=>z.elim λ_ z=>z.elim λ_ z=>z.nofn g h
 |_=>exact u.elim
end
end MM
namespace MM
def m9(c:CS)(ys:List o_)(i:Nat)(g:CS):CS:=λl s=>match c l s with
 | .ok f s'=>.ok f s'
 | .exc d s'=>(match d with
  | .exn x ds => if x ∈ ys then bnd (qu (g (l.set i (some (.exn x ds))))) (λf => match f with
    | .next l'=>ret (.next (l'.set i none))
    | .ret d=>ret (.ret d)
    |_=>bad) s' else .bad
  |_=>.bad)
 | .bad=>.bad
open PySem PySem.W PyProof.Rows L2
theorem VU:(fv:List ac).contains (.type "BaseException")=true:=by nofun
def qO(ys:List Str)(i:Nat)(c:CS)(l:Loc)(d:D):M r9:=λs'=>match d with
 | .exn x ds => if x ∈ ys then bnd (qu (c (l.set i (some (.exn x ds))))) (λf => match f with
   | .next l'=>ret (.next (l'.set i none))
   | .ret d=>ret (.ret d)
   |_=>bad) s' else .bad
 |_=>.bad
section
variable{X:Cx}{e:Expr}{es:List Expr}{ca:CA}{hc:CS}
variable{k n:Nat}{f:af}{fd:bN}{ps:List Str}{g:List D->M D}{fn x z nm:Str}{ys:List Str}{p p2 p3 ap b3 ez pos:Pos}{i j:Nat}{Z:af}{b0:Stmt}{dt:List Stmt}
end
end MM
namespace MM
open PySem PySem.Spec PyProof.Rows L2
def qC(c:Stmt):List Str:=((aX c).names.filter λp=>p.2 == .local||p.2 == .cell).map (·.1)
def qM(c:Stmt):List Str:=(qC c).take (d8 c).args.length
def qE(x:Str)(c:Stmt)(n k:Nat)(g:List D->M D)(G:List (Str×RF)):List (Str×RF):=(x,⟨n,k+1,qM c,false,g⟩)::G
section
variable{P:Program}{w:bq}{K:aj}{mg:Str->Option ac}{base:bh}{x:Str}{sd:Stmt}{k:Nat}{g:List D->M D}{G:List (Str×RF)}{Z:List Str}{C:List (Str×D)}
theorem Br:qM sd++(qC sd).drop (d8 sd).args.length=qC sd:=List.take_append_drop ..
theorem n6(R : mj)(H : List (Nat×Nat×Nat))(n : Nat)(F : FnAt K mg x sd)(Q : bU P w K mg base G)(O : vm mg Z)(U : rP K mg C)(L : (oR (nV R 40) ⟨aX sd, qC sd, k, G, Z, C, H, true, ([], []), none⟩ (cK sd)).map (λv => bF (qC sd).length v.1) = some g := by kernel_rfl)
  (S:qQ (qC sd) (qM sd) (aX sd)=true:=by kernel_rfl) (E:(qM sd).length=n:=by kernel_rfl)
  (b:∀(kV c q:ac)(u:Option af)(h ct:ac)(o:List ac),o.length=n->lW (d9 x x (d8 sd) (cK sd) (aX sd) .none kV c q u h ct) { pos:=o }=pure ((qM sd).zip o):=by and_intros):
  bU P w K mg base (qE x sd n k g G):=by
 obtain⟨v,I,rfl⟩:=dF.mp L;exact wE R (r:=(qC sd).drop (d8 sd).args.length) (ps:=qM sd) (H:=H) F (by rw[Br];exact S) (λkV c q u h ct o J=>b kV c q u h ct o (J.trans E)) (λz=>(by cases z)) (by rw[Br,I];rfl) Q O U E (by rw[Br]) (λz=>(by cases z))
theorem I_(R : mj)(H : List (Nat×Nat×Nat)){f : af}{c : bN}{n : Nat}{ps : List Str}(F : tH K x x sd f c)(I : bU P w K mg base G)(E : vm mg Z)(J : rP K mg C)(u : (oR (nV R 40) ⟨aX sd, qC sd, k, G, Z, C, H, true, ([], []), none⟩ (cK sd)).map (λv => bF (qC sd).length v.1) = some g := by kernel_rfl)
  (S:qQ (qC sd) (qM sd) (aX sd)=true:=by kernel_rfl) (q:(qM sd).length=n:=by kernel_rfl) (o:qM sd=ps:=by kernel_rfl):fV P w K mg base ou (k+1) f c ps (lU K n g):=by
 subst o;obtain⟨v,h,rfl⟩:=dF.mp u;exact MU R (r:=(qC sd).drop (d8 sd).args.length) (ps:=qM sd) (H:=H) F (by rw[Br];exact S) (by rw[Br,h];rfl) I E J q (by rw[Br])
end
end MM
local macro_rules
 | `(tactic| and_intros)=>`(tactic| first|exact λ_ _ _ _ _ _=>MM.F2 λ_=>by kernel_rfl|exact λ_ _ _ _ _ _=>MM.sC λ_ _=>by kernel_rfl|exact λ_ _ _ _ _ _=>MM.GZ λ_ _ _=>by kernel_rfl|exact λ_ _ _ _ _ _=>MM.T7 λ_ _ _ _=>by kernel_rfl|exact λ_ _ _ _ _ _=>MM.le5 λ_ _ _ _ _=>by kernel_rfl)
local macro_rules
 | `(tactic| subst_eqs)=>`(tactic| first|exact λ_ _ _ _ _ _ _ _=>MM.sC λ_ _=>⟨_,rfl,by kernel_rfl⟩|exact λ_ _ _ _ _ _ _ _=>MM.GZ λ_ _ _=>⟨_,rfl,by kernel_rfl⟩)
local macro_rules
 | `(tactic| subst_vars)=>`(tactic| first|exact λ_ _ _ _ _ _ _ _ us hl=>MM.F2 (λ_=>⟨_,rfl,by kernel_rfl⟩) us (gT hl)|exact λ_ _ _ _ _ _ _ _ us hl=>MM.sC (λ_ _=>⟨_,rfl,by kernel_rfl⟩) us (gT hl))
namespace MM
open PySem PySem.Spec PySem.W PyProof.Rows L2
section
variable{P:Program}{w:bq}{K:Frag}{mg:Str->Option ac}{base:bh}
structure GX(P:Program)(w:bq)(K:Frag)(mg:Str->Option ac)(base:bh)(x:Str)(r:RF):Prop where
 ex:∃f fd,mg x=some (.ref f)/\fV P w K mg base (sU P w) r.k f fd r.ps (uk K r.n r.g)/\keepIn K (.ref f)=true/\Binds K fd r.ps []
def wm(P:Program)(w:bq)(K:Frag)(mg:Str->Option ac)(base:bh)(l:List (Str×RF)):Prop:=∀x r,l.lookup x=some r->GX P w K mg base x r
structure XR(P:Program)(w:bq)(K:Frag)(mg:Str->Option ac)(base:bh)(y f:Str):Prop where
 ex:∃C N PA NP fI fd ps,XF K y f C N PA NP/\mg y=some (.ref C)/\nsIn K N (ag "__init__")=some (some (.ref fI))/\(∃oI,K.lookup fI=some oI/\oI.cls=.type "function")/\fV P w K mg base ou 1 fI fd ps (Bn C f)/\Binds K fd ps []
 hy:cS (.type "ValueError") f=pure none
theorem Vl{k n:Nat}{f:af}{q:bN}{ps:List Str}{g:List D->M D}(F:fV P w K mg base (sU P w) k f q ps (uk K n g)):fV P w K mg base ou k f q ps (lU K n g):=by
 have dn:∀c H Q E,lU K n g c H Q E->uk K n g c H Q (λ_ _ _=>False):=λc H Q E o=>by obtain⟨U,ρ,st,ds,v,C,p⟩:=o;exact⟨U,ρ,st,ds,v,C,by
  cases e:g ds st with
  |ok r s=>rw[e]at p;exact p
  |exc d s=>rw[e]at p;exact p.elim
  |bad=>rw[e]at p;exact p.elim⟩
 refine⟨λc H Q E h=>F.len c H Q _ (dn c H Q E h),λA outer s H args u c Q E J L O G I=>iA (F.run A outer s H args u c Q (λ_ _ _=>False) J L O G (dn c H Q E I)) λr s' h=>?_⟩;cases r with
 |ok f=>cases f<;>exact h
 |error e=>
  obtain⟨a,Y,_,_,_,_,_,_,z⟩:=h;exact z.elim
end
section
variable{X:Cx}{x f y:Str}{C N P NP D:af}{pos p p1:Pos}{e:Expr}{fa:CE}{xs:List Str}
theorem K0(B:∀x∈xs,∃f C N P NP,XF X.K x f C N P NP)(O:XO X.K y D)(hg:Gl X "isinstance")(hm:X.mg "isinstance"=none)(hv:cN "isinstance"=some (.builtin "isinstance"))(hgy:Gl X y)(Y:X.mg y=some (.ref D))(nk:mE y)(ha:SE X e fa)
  (he:starEach [e,.Name y p1] X.env=(false,eval e X.env)::starEach [.Name y p1] X.env:=by rfl) (he2:starEach [.Name y p1] X.env=(false,eval (.Name y p1) X.env)::starEach [] X.env:=by rfl) (U:(backTo pos (starEach [.Name y p1] X.env)).any (·.1)=false:=by rfl):
  SE X (.Call (.Name "isinstance" p) [e,.Name y p1] [] pos) (c1 (mZ xs λx=>x == y||("PactError":Str) == y) fa):=
 (Bl LN hg hm hv (n8 ha (n8 (Ht (v:=.ref D) hgy Y rfl nk.d) qp he2) he) (by decide) (by decide) he U).of λσ H Q h_=>h_.el λρ l st lr sr q=>⟨ρ,l,st,lr,sr,q.bnd.imp λd cw ρ1 H1 x1 s1 I v rv=>by
  have e:∀(E P:af)(c:Str),XO X.K c E->XO X.K "PactError" P->tV E P (.ref D)=(c == y||("PactError":Str) == y):=λE P c G u=>by show (decide (D=E)||decide (D=P))=_;rw[G.iff O,u.iff O]
  cases rv with
  |@exn a E dx c f' v' d' g hh u r=>
   obtain⟨L,J⟩:=I.chk;obtain⟨o,ho,hc,_⟩:=hh;refine FO B L g ⟨o,ho,hc⟩ (.inr ⟨y,D,rfl,O⟩) λP G u=>?_;rw[e _ _ _ G u];exact J.ret s1 _ (.bl _)
  |@exn0 a E c g hh=>
   obtain⟨L,J⟩:=I.chk;refine FO B L g hh (.inr ⟨y,D,rfl,O⟩) λP G u=>?_;rw[e _ _ _ G u];exact J.ret s1 _ (.bl _)
  |@gfn a c g h=>exact (B c I.chk.1).elim λ_ z=>z.elim λ_ z=>z.elim λ_ z=>z.elim λ_ z=>z.elim λ_ z=>z.nofn g h
  |_=>exact I.elim⟩
end
section
variable{X:Cx}{c:Expr}{body:List Stmt}{pos:Pos}{ta:CT}{cs:CS}
theorem Vs(hp:oA (aP X.prog X.w) X.A X.env X.xe)(hc:ST X c ta)(hb:vX X body cs):SX X (.While c body [] pos) (sJ (tE ta) cs):=(R_ hp hc hb).of λG σ H u=>by
 obtain⟨ρ,l,st,lr,sr,p⟩:=u;unfold sJ at p;by_cases h:∃n,∀r,mI (tE ta) cs n l st=r->r≠.bad
 ·rw[dif_pos h]at p;generalize kB h=n at p;refine⟨λm σ H=>∃ρ l st,LR X.K ρ H σ l/\SR X.K ρ H st/\ba X.K ρ H (mI (tE ta) cs m l st) (λf _ ρ' g=>match f with
   | .next l'=>∀σ',LR X.K ρ' g σ' l'->G.nx σ' g
   | .ret d=>∀v,dg X.K ρ' g v d->G.rt v g
   | .brk l'=>∀σ',LR X.K ρ' g σ' l'->G.bk σ' g
   | .cnt l'=>∀σ',LR X.K ρ' g σ' l'->G.ct σ' g) (zD X),⟨n,ρ,l,st,lr,sr,p⟩,?_⟩
  intro m σ1 H1 o;obtain⟨ρ1,l1,Q,C,U,p1⟩:=o;cases m with
  |zero=>exact p1.elim
  |succ m=>
   refine⟨ρ1,l1,Q,C,U,(ba.no (ba.bnd p1)).imp λk O ρ2 H2 Y c u=>?_⟩;cases k with
   |false=>exact ba.ret u c _ (C.mono Y)
   |true=>
    refine⟨λσ' g=>∃ρ l st,LR X.K ρ g σ' l/\SR X.K ρ g st/\ba X.K ρ g (mI (tE ta) cs m l st) _ _,λσ' g q=>⟨m,xH m,q⟩,ρ2,l1,O,C.mono Y,c,(ba.bnd u).imp λf I ρ3 H3 x3 J L=>?_⟩;cases f with
    |next l'=>exact λσ' E=>⟨ρ3,l',I,E,J,L⟩
    |ret d=>exact ba.ret L J
    |brk l'=>exact ba.ret L J
    |cnt l'=>exact λσ' E=>⟨ρ3,l',I,E,J,L⟩
 ·rw[dif_neg h]at p;exact p.elim
end
section
variable(E:List (Str×RF))(y fl:Str)
structure ui(X:Cx)(E:List (Str×RF))(y fl:Str):Prop where
 E:wm X.prog X.w X.K X.mg X.base E
 ex:X.ex=[]
 R:XR X.prog X.w X.K X.mg X.base y fl
abbrev Ax(c:RC)(s:Stmt):={r:CS // ∀{X:Cx},Good X c->ui X E y fl->SX X s r}
abbrev Dc(c:RC)(s:List Stmt):={r:CS // ∀{X:Cx},Good X c->ui X E y fl->vX X s r}
abbrev Jr(c:RC)(e:Expr):={r:CE // (∀{X:Cx},Good X c->ui X E y fl->uB X e r)/\Et e=true}
def rK(q:lf)(c:RC)(e:Expr):Option (Jr E y fl c e):=x_ e λx p Q pos v=>vC Q λa o O=>(zt E x).bind λr=>wh (c.glo x=true/\ka x=true/\r.1.k<=c.k/\r.1.n=(a::o).length) λz=>(rV q c (a::o)).bind λC=>
 some ⟨bv r.1.g (qz C.1),λg h=>by subst v O;obtain⟨L,J,I,H⟩:=z;obtain⟨f,U,m,F,kp,B⟩:=(h.E _ _ r.2).ex;obtain⟨x,y,l⟩:=C.2;rw[bu,aI]at y;exact Tn h.ex F (g.hr.mono I) (g.S.glo _ (beq_iff_eq.mp L)) m kp B (x g) (λG st ds u z=>by rw[H,l G st ds u z]) (pj J).d (m3 y.1) (wF y.2),by subst v;rfl⟩
def t7{c:RC}(k:∀s:Stmt,Option (Ax E y fl c s)):∀o:List Stmt,Option (Dc E y fl c o)
 |[]=>some ⟨aB,λ_ _=>QJ⟩
 |s::o=>(k s).bind λa=>(t7 k o).bind λb=>some ⟨aC a.1 b.1,λg h=>UC (a.2 g h) (b.2 g h)⟩
def xPl(q:lf)(c:RC)(s:Stmt):Option (Ax E y fl c s):=(q.s c s).bind λf=>some ⟨um f.1,λg _=>T3 (f.2 g)⟩
noncomputable def xOr{α:Type}(a b:Option α):Option α:=match a with
 |some x=>some x
 |none=>b
def IH(q:lf)(c:RC)(k:∀s:Stmt,Option (Ax E y fl c s))(s:Stmt): Option (Ax E y fl c s):=
  xOr (LJ s λa b _ e=>oS a λa u=>oN b λe2=>E8 a λx _ v _ e3=>wh (x=y/\c.glo y=true/\ka y=true/\2<=c.k/\pU v=true) λz=>(q.e c v).bind λf=>some ⟨mB y fl f.1,λg h=>by subst e2 u e e3;obtain⟨rfl,L,J,h4,h5⟩:=z;obtain⟨C,N,PA,NP,fI,fd,ps,F,m,hi,O,G,B⟩:=h.R.ex;exact Vz h.ex g.S.calm F hi O G (g.hr.mono h4) B (g.S.glo _ (beq_iff_eq.mp L)) m (pj J).d (f.2 g) (m3 h5)⟩) <|
  xOr (C_ s λt a b _ e=>(q.t c t).bind λH=>(t7 E y fl k a).bind λI=>(t7 E y fl k b).bind λfb=>some ⟨gj (tE H.1) I.1 fb.1,λg h=>e ▸ VB (H.2 g) (I.2 g h) (fb.2 g h)⟩) <|
  xOr (WD s λt a b _ e=>v0 b λu=>(q.t c t).bind λH=>(t7 E y fl k a).bind λI=>some ⟨sJ (tE H.1) I.1,λg h=>by subst u e;exact Vs g.ps (H.2 g) (I.2 g h)⟩) <|
  xOr (GV s λtg Q b r _ e=>v0 r λu=>wh (w_ Q=true) λz=>(q.i c tg Q).bind λU=>(q.g c tg).bind λY=>(t7 E y fl k b).bind λfb=>some ⟨iS (Bv U.1) (vb Y.1) fb.1,λg h=>by subst u e;exact Qm g.ps g.S.calm (U.2 g) (Y.2 g) (fb.2 g h) (Cd z)⟩) <|
  xOr (Ke s λa _ e=>(rK E y fl q c a).bind λf=>some ⟨kg f.1,λg h=>e ▸ TV (f.2.1 g h) (xy f.2.2)⟩) <|
  xOr (Dq s λo _ e=>oS o λa u=>(rK E y fl q c a).bind λf=>some ⟨b8 f.1,λg h=>by subst u e;exact LY (f.2.1 g h)⟩) <|
  xOr (AB s λt a _ e=>rC t λx _ u=>(rK E y fl q c a).bind λf=>(BB c x).bind λi=>some ⟨bX (aS i.1) f.1,λg h=>by subst u e;obtain⟨h1,k,L,J⟩:=Bw g i.2;exact PL g.nd h1 (g.S.loc _ _ L J).1 (f.2.1 g h) (xy f.2.2) (g.S.loc _ _ L J).2⟩) <|
  xPl E y fl q c s
end
section
variable{β:Type}
def Se(h:ExceptHandler)(k:∀z p g o c q,h=.ExceptHandler (some (.Name z p)) (some g) (o::c) q->Option β):Option β:=match h,k with
 | .ExceptHandler t n b q,k=>oS t λt E=>rC t λz p C=>oS n λg v=>vC b λo c u=>k z p g o c q (u ▸ v ▸ C ▸ E ▸ rfl)
end
section
variable(E:List (Str×RF))(ys:List Str)(y fl:Str)
structure rT(X:Cx)(E:List (Str×RF))(ys:List Str)(y fl:Str):Prop where
 E:wm X.prog X.w X.K X.mg X.base E
 R:XR X.prog X.w X.K X.mg X.base y fl
 hy:yR X.K X.mg ys
 nx:X.nox=X
 st:X.stack=X.env::X.outer
 fr:X.env.frame=some X.env.locals
variable{E ys y fl} in
theorem rT.B{X:Cx}(h:rT X E ys y fl):∀x∈[y],∃f C N P g,XF X.K x f C N P g:=λx c=>by rw[aE]at c;subst c;obtain⟨C,N,PA,g,q,o,ps,F,_⟩:=h.R.ex;exact⟨_,_,_,_,_,F⟩
abbrev DV(c:RC)(e:Expr):={r:CE // ∀{X:Cx},Good X c->rT X E ys y fl->SE X e r}
abbrev w9(c:RC)(e:Expr):={r:CT // ∀{X:Cx},Good X c->rT X E ys y fl->ST X e r}
abbrev Iu(c:RC)(es:List Expr):={r:CT // ∀{X:Cx}{p:Pos},Good X c->rT X E ys y fl->PW X (.BoolOp .Or es p) (mG X.K r)}
abbrev Ie(c:RC)(s:Stmt):={r:CS // ∀{X:Cx},Good X c->rT X E ys y fl->SS X s r}
def BE(q:lf)(c:RC)(e:Expr):Option (DV E ys y fl c e):=
 xOr (Ff e λz _ a b _ h=>wh (z=ag "isinstance"/\c.bl z=true/\pU a=true) λw=>(q.e c a).bind λu=>
  xOr (rC b λt _ I=>wh (t=ag "ValueError"/\c.bl t=true) λv=>some ⟨c1 (mZ [y] λ_=>true) u.1,λg o=>by subst I h;obtain⟨rfl,G,H⟩:=w;obtain⟨rfl,Q⟩:=v;obtain⟨J,M1⟩:=g.gl G;obtain⟨G2,M2⟩:=g.gl Q;exact Lw o.B J M1 (by nofun) G2 M2 (by nofun) (u.2 g) (m3 H)⟩) <|
  xOr (rC b λt _ I=>wh (ys.contains t=true/\c.glo t=true/\ka t=true) λv=>some ⟨c1 (mZ [y] λx=>x == t||("PactError":Str) == t) u.1,λg o=>by subst I h;obtain⟨rfl,G,H⟩:=w;obtain⟨h2,h3,h4⟩:=v;obtain⟨J,M1⟩:=g.gl G;obtain⟨D,O,m⟩:=o.hy _ h2;exact K0 o.B O J M1 (by nofun) (g.S.glo _ (beq_iff_eq.mp h3)) m (pj h4) (u.2 g) (m3 H)⟩)
  (Eg b λes n _ I=>oS (tY (λt=>ys.contains t&&c.glo t&&ka t) es) λU hz=>wh (U.length<=10) λY=>some ⟨c1 (mZ [y] λx=>U.any λt=>x == t||("PactError":Str) == t) u.1,λg o=>by subst I h;obtain⟨rfl,G,H⟩:=w;obtain⟨J,M1⟩:=g.gl G;refine L6 o.B o.hy (λt L=>?_) hz Y J M1 (by nofun) (u.2 g) (m3 H);rw[aI,aI]at L;exact⟨L.1.1,g.S.glo _ (beq_iff_eq.mp L.1.2),L.2⟩⟩)) <|
 xOr (HI e λa x _ h=>wh (x=fl/\Fb a=true) λw=>(q.e c a).bind λu=>some ⟨c1 (qB y fl) u.1,λg o=>by subst h;obtain⟨rfl,G⟩:=w;obtain⟨C,N,PA,NP,fI,fd,ps,F,_⟩:=o.R.ex;exact LF F o.R.hy (u.2 g) (Hw G)⟩)
 ((q.e c e).bind λf=>some ⟨f.1,λg _=>f.2 g⟩)
def DF(k:∀e,Option (w9 E ys y fl c e)):∀es:List Expr,Option (Iu E ys y fl c es)
 |[]=>none
 |[a]=>(k a).bind λh=>some ⟨h.1,λg o=>KN (h.2 g o)⟩
 |a::b::r=>(k a).bind λh=>(DF k (b::r)).bind λfb=>some ⟨my h.1 fb.1,λg o=>Ny (h.2 g o) (fb.2 g o)⟩
def Wq(q:lf)(c:RC)(k:∀e,Option (w9 E ys y fl c e))(e:Expr):Option (w9 E ys y fl c e):=
 xOr (zW e λo a _ h=>wh (o=.Not) λz=>(k a).bind λf=>some ⟨fK f.1,λg w=>h ▸ z ▸ Gw (f.2 g w)⟩) <|
 xOr (FJ e λo es _ h=>wh (o=.Or) λz=>(DF E ys y fl k es).bind λf=>some ⟨f.1,λg w=>by subst z h;exact L2.PW.pt (f.2 g w)⟩) <|
 xOr (Ow e λa o b _ h=>wh (o=.NotEq/\w_ b=true) λz=>(BE E ys y fl q c a).bind λu=>(BE E ys y fl q c b).bind λfb=>some ⟨bT (c2 x9 u.1 fb.1),λg w=>by subst h;obtain⟨rfl,z⟩:=z;exact KP (OH g.hu) (u.2 g w) (fb.2 g w) (Cs z)⟩)
 (wh (Fi e=true) λz=>(BE E ys y fl q c e).bind λf=>some ⟨j_ f.1,λg w=>Jl (f.2 g w) (HV z)⟩)
def Od(q:lf)(c:RC):Nat->∀e,Option (w9 E ys y fl c e)
 |0=>λ_=>none
 |n+1=>Wq E ys y fl q c (Od q c n)
abbrev Kf(c:RC)(es:List Expr):={r:CA // (∀{X:Cx},Good X c->rT X E ys y fl->SA X es r)/\es.all pU=true/\∀l st ds g,r l st=.ok ds g->ds.length=es.length}
def DW(q:lf)(c:RC):∀es:List Expr,Option (Kf E ys y fl c es)
 |[]=>some ⟨bc,λ_ _=>Fw,rfl,Jq⟩
 |e::es=>wh (pU e=true) λh=>(BE E ys y fl q c e).bind λf=>(DW q c es).bind λr=>some ⟨ar f.1 r.1,λg o=>Kd (f.2 g o) (r.2.1 g o) (m3 h),by rw[bu,h,r.2.2.1];rfl,FQ r.2.2.2⟩
def Du(q:lf)(c:RC)(e:Expr):Option (DV E ys y fl c e):=x_ e λx _ h _ J=>vC h λa h I=>(zt c.G x).bind λr=>wh (c.glo x=true/\ka x=true/\r.1.k<=c.k/\r.1.n=(a::h).length) λz=>(DW E ys y fl q c (a::h)).bind λu=>some ⟨bv r.1.g u.1,λg o=>by subst J I;obtain⟨H,G,C,v⟩:=z;obtain⟨f,L,m,F,kp,B,_⟩:=(g.G _ _ r.2).ex;obtain⟨x,y,l⟩:=u.2;rw[bu,aI]at y;exact N8 g.S (beq_iff_eq.mp H) F (g.hr.mono C) m kp B (pj G) (x g o) (by rw[v];exact l) (m3 y.1) (wF y.2)⟩
def X1(q:lf)(c:RC)(s:Stmt):Option (Ie E ys y fl c s):=
 xOr (C_ s λt a b _ h=>(Od E ys y fl q c 9 t).bind λC=>(oR q c a).bind λG=>(oR q c b).bind λfb=>some ⟨gj C.1 G.1 fb.1,λg o=>h ▸ GP (C.2 g o) (G.2 g) (fb.2 g)⟩) <|
 xOr (Dq s λo _ h=>oS o λe v=>xOr (zW e λu a _ H=>wh (u=.Not) λz=>(BE E ys y fl q c a).bind λf=>some ⟨b8 (ud f.1),λg w=>by subst z H v h;exact Fx (OI (f.2 g w))⟩)
  ((BE E ys y fl q c e).bind λf=>some ⟨b8 f.1,λg w=>by subst v h;exact Fx (f.2 g w)⟩))
 (xOr ((q.s c s).bind λf=>some ⟨f.1,λg _=>f.2 g⟩) (Dq s λo _ h=>oS o λe v=>(Du E ys y fl q c e).bind λf=>some ⟨b8 f.1,λg w=>by subst v h;exact Fx (f.2 g w)⟩))
end
section
variable{P:Program}{w:bq}{K:Frag}{mg:Str->Option ac}{base:bh}
theorem QI{CX:sG}{N:List Str}{qual:Str}{sc:dD}{f:af}{g:ac}{A:bn}{outer:List Env}{s:ah}{H:Hp}{E:XK}:Sc (mD CX P w K mg base N qual sc f g A outer s H E) sc where
 vis:=λx k h c=>by
  rcases c with z|z|z<;>subst z
  ·exact .inl h
  ·exact .inr (.inl h)
  ·exact .inr (.inr h)
 cel:=λx h=>h
 glo:=λx h=>h
 loc:=λx k h c=>⟨by rcases c with z|z<;>subst z;exact .inl h;exact .inr h,.inl rfl⟩
 calm:=rfl
def XT(K:Frag)(mg:Str->Option ac)(y f qual:Str)(h:Stmt):Prop:=∃C N PA q c o,XF K y f C N PA q/\mg y=some (.ref C)/\nsIn K N (ag "__init__")=some (some (.ref c))/\(∃g,K.lookup c=some g/\g.cls=.type "function")/\tH K "__init__" qual h c o
theorem UV{y f qual n1 n2:Str}{c:Stmt}{O L J I:Pos}(T:XT K mg y f qual c)(E:cS (.type "ValueError") f=pure none)(S:qQ [n1,n2] [n1,n2] (aX c)=true)(U:cK c=[.Assign [.Attribute (.Name n1 O) f L] (.Name n2 J) I])
  (v1:(aX c).names.lookup n1=some .local) (v2:(aX c).names.lookup n2=some .local) (v:ka n1=true) (u:ka n2=true)
  (b:∀(kV o H:ac)(an:Option af)(q ct:ac)(g:List ac),g.length=[n1,n2].length->lW (fnOf "__init__" qual (d8 c) (cK c) (aX c) .none kV o H an q ct) { pos:=g }=pure ([n1,n2].zip g)):XR P w K mg base y f:=by
 obtain⟨C,N,PA,NP,fI,Y,F,m,Q,h,G⟩:=T;exact⟨⟨C,N,PA,NP,fI,Y,[n1,n2],F,m,Q,h,Tf F E G (C3 S) U (.inl v1) (.inl v2) (pj v).d (pj u).d (pj v).c (pj u).c,G.binds b⟩,E⟩
theorem AX:yR K mg []:=λ_ h=>(by cases h)
theorem iL{h:bh}{y q:Str}{D N:af}{ys:List Str}{bs bm:List ac}{o:List Str}{sub:List ac}{J:Bool}{c:Option Bool}{I:Option af}{H E C v u:Option ac}(X:K.In h)(G:h.Ns bz mg)(g:nsIn K bz y=some (some (.ref D)))
  (l:K.lookup D=some (eP y q D N bs bm true o sub J c I H E C v u "ValueError.__new__")) (t:yR K mg ys):yR K mg (y::ys):=λx z=>by
 rw[cW,gN]at z;rcases z with z|z
 ·rw[beq_iff_eq.mp z];exact⟨D,⟨g,_,_,_,_,_,_,_,_,_,_,_,_,_,_,l⟩,mg_of X G g⟩
 ·exact t x z
theorem Ce{h:bh}{x f qual:Str}{u:Stmt}{C N PA NP H:af}{q q':Str}{bs bs':List ac}{sn I:List Str}{sub c:List ac}{ab ab':Bool}{col E:Option Bool}{dd dd':Option af}{k0 k1 k2 k3 k5 k0' k1' Y U Q:Option ac}
  {o o':ac}{d d':Option af}{es v:Array oE}{ep ep':Nat}{sl L:Array (Option ac)}{od an:Option af}{J:Array (Option ac)}{kV dc pm cd ct:ac} (X:K.In h) (G:h.Ns bz mg)
  (g:nsIn K bz x=some (some (.ref C))) (l:K.lookup C=some (eP x q C N bs (.ref PA::fv) true sn sub ab col dd k0 k1 k2 k3 k5 "ValueError.__new__")) (lN:K.lookup N=some ⟨o,d,.dict es ep,sl⟩)
  (h1:pe es [ag "__getattribute__",ag "__getattr__",ag "__setattr__",ag "__class__",f]=true) (kp:keepIn K (.ref C)=true)
  (g':nsIn K bz "PactError"=some (some (.ref PA))) (l':K.lookup PA=some (eP "PactError" q' PA NP bs' fv true I c ab' E dd' k0' k1' Y U Q "ValueError.__new__")) (O:K.lookup NP=some ⟨o',d',.dict v ep',L⟩)
  (h2:pe v [ag "__getattribute__",ag "__getattr__",ag "__setattr__",ag "__class__",f,ag "__init__",ag "args"]=true)
  (xi:nsIn K N (ag "__init__")=some (some (.ref H))) (xf:K.lookup H=some ⟨.type "function",od,.func (fnOf "__init__" qual (d8 u) (cK u) (aX u) .none kV dc pm an cd ct),J⟩) (xe:codeIn K cd qual=true) (xk:keepIn K (.ref H)=true):XT K mg x f qual u:=
 ⟨C,N,PA,NP,H,_,Ww g l lN h1 kp g' l' O h2 (λ_ z=>z) (λ_ z=>z),mg_of X G g,xi,⟨_,xf,rfl⟩,NZ (st:=u) xf xe xk⟩
theorem J9{x qual:Str}{o:Stmt}{f:af}{N ps:List Str}{k n m:Nat}{g:CS}{oc df kV C Y c ct:ac}{od an:Option af}{L:Array (Option ac)}(lk:K.lookup f=some ⟨oc,od,.func (fnOf x qual (d8 o) (cK o) (aX o) df kV C Y an c ct),L⟩)(O:codeIn K c qual=true)(S:iq N ps (aX o))(hn:ps.length=n)(hm:N.length=m)
  (u:∀(c:ac)(A:bn)(outer:List Env)(s:ah)(H:Hp)(E:XK),fo k (A.deeper (iB qual (aX o) s.heap.objs.size f c))->vX (mD (sU P w) P w K mg base N qual (aX o) f c A outer s H E) (cK o) g):
  fV P w K mg base (sU P w) (k+1) f (fnOf x qual (d8 o) (cK o) (aX o) df kV C Y an c ct) ps (uk K n (bF m g)):=by
 subst hn hm;refine Hj lk O S (λvs H Q E h=>h.1) λA outer s H vs Q E hr h=>⟨_,u c A outer s H E hr,?_⟩
 obtain⟨hl,ρ,st,ds,sr,J,p⟩:=h;refine⟨ρ,_,st,LR.start J,sr,?_⟩;unfold bF at p;have q:=ba.bnd p;cases U:g (ds.map some++cL (N.length-ds.length) none) st with
 |bad=>rw[U]at q;exact q
 |ok f cw=>
  rw[U]at q;intro ρ1 H1 x1 s1;have G:=q ρ1 H1 x1 s1;cases f with
  |next l=>exact λσ' _=>ba.ret G s1 _ .non
  |ret d=>exact λv rv=>ba.ret G s1 v rv
  |brk l=>exact G.elim
  |cnt l=>exact G.elim
 |exc d cw=>
  rw[U]at q;intro ρ1 H1 x1 s1 ao σ s' a I rep fl;exact O3 I fl λH2 t=>q ρ1 H2 (Ex.turn t x1 fl.2.1) (s1.turn t) a (rep.turn t)
variable{x y fl:Str}{sd:Stmt}{k n:Nat}{g:List D->M D}{G E:List (Str×RF)}{Z:List Str}{C:List (Str×D)}{H:List (Nat×Nat×Nat)}{ys:List Str}
theorem Vq(R:mj){v:Dc E y fl ⟨aX sd,qC sd,k,G,Z,C,H,true,([],[]),none⟩ (cK sd)}(u:bU P w K mg base G)(I:wm P w K mg base E)(q:XR P w K mg base y fl)(o:vm mg Z)(J:rP K mg C)(S:iq (qC sd) (qM sd) (aX sd))
  {f:af}{c:ac}{A:bn}{outer:List Env}{s:ah}{Hp:Hp}{Ex:XK} (h:fo k (A.deeper (iB x (aX sd) s.heap.objs.size f c))):vX (mD (sU P w) P w K mg base (qC sd) x (aX sd) f c A outer s Hp Ex) (cK sd) v.1:=
 v.2 ⟨QI,rfl,S.nd,h,u,o,J,oA.leaving,λ_=>⟨by show (if (aX sd).kind.isAnnotationScope=true then _ else (aX sd).kind)=_;rw[S.kind];rfl,λ_=>rfl⟩,⟨(λ_ _ z=>(by cases z)),(λ_ _ z=>(by cases z))⟩,λ_ z=>(by cases z)⟩ ⟨I,rfl,q⟩
end
end MM
namespace MM
def sO(g:List D->M D)(h:CA)(c:List D):CE:=λl=>bnd (qz h l) λds=>g (ds++c)
def ve(g:List D->M D)(o h:CA):CE:=λl=>bnd (qz o l) λds=>bnd (qz h l) λc=>g (ds++c)
def uS(g:List D->M D)(c:CA):CE:=bv (λds=>qu (g ds)) c
def yD(c fb:CE):CE:=λl=>bnd (c l) λd=>qu (bnd (fb l) λi=>aY d i)
open PySem PySem.W PyProof.Rows L2
def qI(X:Cx)(D:Ends):r9->aR->List af->Hp->Prop:=λf _ ρ' c=>match f with
 | .next l'=>∀σ',LR X.K ρ' c σ' l'->D.nx σ' c
 | .ret d=>∀v,dg X.K ρ' c v d->D.rt v c
 | .brk l'=>∀σ',LR X.K ρ' c σ' l'->D.bk σ' c
 | .cnt l'=>∀σ',LR X.K ρ' c σ' l'->D.ct σ' c
def sM(X:Cx)(g:List (af×Obj))(l:Loc)(W:XW)(v:ac)(c:ah):Prop:=
 ∃o u q a σ,Inv X g σ u o/\v=.ref a/\c.os=o.os/\kJ c.gens/\Un (sX X.stack) [] u q o.heap c.heap/\lL X.prog X.w q c.heap/\Fl o.heap u q c.heap a /\
  ∀h,gp a q h->∃ρ3 d st3,LR X.K ρ3 h σ l/\SR X.K ρ3 h st3/\dg X.K ρ3 h (.ref a) d/\W d st3 ρ3 h
noncomputable def xU(ρ:List af)(H:Hp)(W:XW):XW:=λd s _ _=>∀ρ' H',Ex ρ H ρ' H'->W d s ρ' H'
theorem ba.impW{α:Type}{K:Frag}{ρ:List af}{H:Hp}{r:Rs α}{R:α->aR->List af->Hp->Prop}{W g:XW}(h:ba K ρ H r R W)(f:∀d s ρ' c,W d s ρ' c->g d s ρ' c):ba K ρ H r R g:=by
 cases r with
 |ok _ _=>exact h
 |bad=>exact h
 |exc d st=>exact λρ' c x s=>f _ _ _ _ (h ρ' c x s)
def TB(X:Cx)(b:Stmt)(c:CS):Prop:=∀(ao:List (af×Obj))(s:ah)(σ:L2.St)(H:Hp)(ρ:List af)(l:Loc)(st:aR)(D:Ends)(W:XW),Inv X ao σ H s->LR X.K ρ H σ l->SR X.K ρ H st->ba X.K ρ H (c l st) (qI X D) (xU ρ H W) ->
 aA (aP X.prog X.w) X.A (execs [b] X.env) (SP X ao D) (sM X ao l W) s
section
variable{X:Cx}{e:Expr}{es:List Expr}{d3:List di}{ca ck:CA}{hc cb fy fx:CS}{tt:CT}{b b1 b2:Stmt}
variable{k n:Nat}{f:af}{fd:bN}{ps ks:List Str}{g:List D->M D}{fn x z nm:Str}{ys:List Str}{p p2 p3 ap b3 ez pos:Pos}{i j:Nat}{Z:af}{b0:Stmt}{dt:List Stmt}
theorem Nz{c:List (af×Obj)}{σ:L2.St}{H:Hp}{s:ah}{ρ:List af}{l:Loc}{st:aR}{D:Ends}{W:XW}{Y J:List ac}{kv:List (Str×ac)}{U:List V}{ds:List MM.D}(F:fV X.prog X.w X.K X.mg X.base (sU X.prog X.w) k f fd ps (uk X.K n g))(hr:fo k X.A)
  (I:Inv X c σ H s) (lr:LR X.K ρ H σ l) (sr:SR X.K ρ H st) (hb:J.length=ps.length->lv s fd ⟨Y,kv⟩ (ps.zip J)) (rv:cB U J) (rd:bI X.K ρ H U ds) (hn:ds.length=n)
  (q:ba X.K ρ H (g ds st) (λ_ st' ρ' H'=>qI X D (.next l) st' ρ' H') (xU ρ H W)):
  aA (aP X.prog X.w) X.A (call (.ref f) Y kv) (λ_ s1=>SP X c D .next s1) (sM X c l W) s:=by
 have sp:uk X.K n g U H (λv C=>D.nx σ C) (λv _ C=>∀a,v=.ref a->(∀o u,H a≠some (.frz o u))->∀E,gp a C E->∃ρ3 d st3,LR X.K ρ3 E σ l/\SR X.K ρ3 E st3/\dg X.K ρ3 E (.ref a) d/\W d st3 ρ3 E):=by
  refine⟨by rw[rd.length];exact hn,ρ,st,ds,sr,rd,?_⟩;cases eg:g ds st with
  |bad=>rw[eg]at q;exact q
  |ok r st2=>
   rw[eg]at q;exact λρ2 C G L v _=>q ρ2 C G L σ (lr.mono G)
  |exc d st2=>
   rw[eg]at q;intro ρ2 C G L a rep a' ea na E t;cases ea;exact⟨ρ2,d,st2,lr.mono (Ex.turn t G na),L.turn t,rep.turn t,q ρ2 C G L ρ2 E (Ex.turn t G na)⟩
 have O:J.length=ps.length:=by rw[<- rv.length];exact F.len _ _ _ _ sp
 refine im (iA (F.run X.A X.stack s H ⟨Y,kv⟩ J U _ _ hr I.env0 (hb O) rv sp) λr L h=>?_);cases r with
 |ok fl=>
  cases fl with
  |ret u=>
   obtain⟨v,C,I2,ru,nx⟩:=I.after h;exact⟨σ,C,I2,nx⟩
  |next=>exact bK h
  |brk=>exact bK h
  |cont=>exact bK h
 |error ev=>
  obtain⟨a,C,rfl,os,Q,un,hok,fl,hE⟩:=h;exact⟨s,H,C,a,σ,I,rfl,os,Q,un,hok,fl,hE a rfl fl.2.1⟩
theorem Me(F:fV X.prog X.w X.K X.mg X.base (sU X.prog X.w) k f fd ps (uk X.K n g))(hr:fo k X.A)(hg:Gl X fn)(hm:X.mg fn=some (.ref f))
  (hk:keepIn X.K (.ref f)=true) {dv:List ac}{J:List D}{vv:List V} (hb:Binds X.K fd ps dv) (hv:cB vv dv) (hd:∀ρ H,bI X.K ρ H vv J) (ha:SA X.nox (e::es) ca) (hn:∀l st ds E,ca l st=.ok ds E->(ds++J).length=n) (hdb:(fn == ("__debug__":Str))=false)
  (he:starEach (e::es) X.env=(false,eval e X.env)::starEach es X.env) (hpl:(backTo ap (starEach es X.env)).any (·.1)=false) (hs:eD (.Call (.Name fn p2) (e::es) [] ap) none b3.line X.env=pure false):
  TB X (.Expr (.Call (.Name fn p2) (e::es) [] ap) b3) (kg (sO g ca J)):=by
 intro C s σ H ρ l st D W I lr sr q;refine iY (tf (bS ?_ (λu G h=>eG h) λ_ _ z=>z) I.quiet hs);refine eW (Bg I hg hm ?_ hdb);have arg:uf X.K ca σ H λQ o=>∃ρ1 c ds,LR X.K ρ1 o σ l/\SR X.K ρ1 o c/\bI X.K ρ1 o Q ds/\(ds++J).length=n/\ba X.K ρ1 o (g (ds++J) c) (λ_ E ρ' H'=>qI X D (.next l) E ρ' H') (xU ρ1 o W):=by
  have v:=ba.no (ba.bnd (ba.bnd q));refine⟨ρ,l,st,lr,sr,?_⟩;cases L:ca l st with
  |bad=>rw[L]at v;exact v
  |exc _ _=>rw[L]at v;exact v
  |ok ds c=>
   rw[L]at v;exact λρ1 o O G Q Y=>⟨ρ1,c,ds,lr.mono O,G,Y,hn l st ds c L,((v ρ1 o O G).imp λd st2 ρ2 H2 x2 s2 p2=>ba.ret p2 s2).impW λ_ _ _ _ z ρ' H' y=>z ρ' H' (O.trans y)⟩
 refine mO (h₀:=X.base) I.ok.mod.kin hk (bS (ha ap C s σ H _ (I.wish _) arg) (λus G z=>?_) λ_ _ z=>bK z) he hpl;obtain⟨Q,o,I1',rv,ρ1,c,ds,lr1,U,rd,hl,v⟩:=z;have I1:Inv X C σ o G:=I1'.unwish;exact⟨I1.kIn,Nz F hr I1 lr1 U (λh=>hb G us I1.kIn h) (rv.append hv) (bI.app rd (hd _ _)) hl v⟩
theorem W5(F:fV X.prog X.w X.K X.mg X.base (sU X.prog X.w) k f fd ps (uk X.K n g))(hr:fo k X.A)(hg:Gl X fn)(hm:X.mg fn=some (.ref f))
  (hk:keepIn X.K (.ref f)=true) (hb:∀(s:ah)(Y J:List ac),X.K.In s.heap->(Y++J).length=ps.length->J.length=1->lv s fd ⟨Y,ks.zip J⟩ (ps.zip (Y++J))) (ha:SA X.nox (e::es) ca) (hw:SK X.nox d3 ck) (hn:∀l st ds C,ca l st=.ok ds C->∀o v st1',ck l o=.ok v st1'->(ds++v).length=n) (hck:∀l st v C,ck l st=.ok v C->v.length=1) (hdb:(fn == ("__debug__":Str))=false)
  (hall:(dZ ap (cz d3 X.env)).all (·.1.isSome)=true) (hks:(dZ ap (cz d3 X.env)).filterMap (·.1)=ks)
  (he:starEach (e::es) X.env=(false,eval e X.env)::starEach es X.env) (hpl:((backTo ap (starEach (e::es) X.env)).any (·.1)||(dZ ap (cz d3 X.env)).any (·.1.isNone))=false) (hs:eD (.Call (.Name fn p2) (e::es) d3 ap) none b3.line X.env=pure false):
  TB X (.Expr (.Call (.Name fn p2) (e::es) d3 ap) b3) (kg (ve g ca ck)):=by
 intro E s σ H ρ l st D W I lr sr q;refine iY (tf (bS ?_ (λu s1 h=>eG h) λ_ _ z=>z) I.quiet hs);refine eW (Bg I hg hm ?_ hdb);have arg:uf X.K ca σ H λvs Q=>∃ρ1 ds,bI X.K ρ1 Q vs ds/\uf X.K ck σ Q λJ G=>∃ρ2 c v,Ex ρ1 Q ρ2 G/\LR X.K ρ2 G σ l/\SR X.K ρ2 G c/\bI X.K ρ2 G J v/\(ds++v).length=n/\v.length=1/\ba X.K ρ2 G (g (ds++v) c) (λ_ C ρ' H'=>qI X D (.next l) C ρ' H') (xU ρ2 G W):=by
  have O:=ba.no (ba.bnd (ba.bnd q));refine⟨ρ,l,st,lr,sr,?_⟩;cases ec:ca l st with
  |bad=>rw[ec]at O;exact O
  |exc _ _=>rw[ec]at O;exact O
  |ok ds o=>
   rw[ec]at O;intro ρ1 Q x1 s1 vs rvs;have L:=ba.no (ba.bnd (O ρ1 Q x1 s1));refine⟨ρ1,ds,rvs,ρ1,l,o,lr.mono x1,s1,?_⟩;cases ek:ck l o with
   |bad=>rw[ek]at L;exact L
   |exc _ _=>rw[ek]at L;exact L
   |ok v c=>
    rw[ek]at L;exact λρ2 G U s2 J rws=>⟨ρ2,c,v,U,lr.mono (x1.trans U),s2,rws,hn l st ds o ec o v c ek,hck l o v c ek,((L ρ2 G U s2).imp λd st3 ρ3 H3 x3 s3 p3=>ba.ret p3 s3).impW λ_ _ _ _ z ρ' H' y=>z ρ' H' ((x1.trans U).trans y)⟩
 refine PySem.W.callWith_KW (h₀:=X.base) I.ok.mod.kin hk hall (bS (ha ap E s σ H _ (I.wish _) arg) (λY s1 z=>?_) λ_ _ z=>bK z) hpl he;obtain⟨vs,Q,I1',rv,ρ1,ds,rd,O⟩:=z;refine bS (hw ap E s1 σ Q _ I1' O) (λJ s2 z=>?_) λ_ _ z=>bK z;obtain⟨zs,G,I2',rz,ρ2,c,v,U,lr2,sr2,rw2,hl,hl1,L⟩:=z;have I2:Inv X E σ G s2:=I2'.unwish;refine⟨I2.kIn,?_⟩;rw[hks];exact Nz F hr I2 lr2 sr2 (λh=>hb s2 Y J I2.kIn h (by rw[<- rz.length,rw2.length];exact hl1)) (rv.append rz) (bI.app (rd.mono U) rw2) hl L
theorem Py{c:Expr}(hc:ST X.nox c tt)(h1:TB X b1 fy)(h2:TB X b2 fx):TB X (.If c [b1] [b2] pos) (gj (tE tt) fy fx):=by
 intro o s σ H ρ l st D W I Y sr q;have q1:=ba.no (ba.bnd q);have J:mG X.K tt σ H λk v=>∃ρ1 u,LR X.K ρ1 v σ l/\SR X.K ρ1 v u/\ba X.K ρ1 v ((if k=true then fy else fx) l u) (qI X D) (xU ρ1 v W):=⟨ρ,l,st,Y,sr,q1.imp λk u ρ1 v O E p1=>⟨ρ1,u,Y.mono O,E,ba.impW (W:=xU ρ H W) (by cases k<;>exact p1) λ_ _ _ _ z ρ' H' y=>z ρ' H' (O.trans y)⟩⟩
 have go:∀{Q:Flow->ah->Prop},(∀f s',SP X o D f s'->Q f s')->aA (aP X.prog X.w) X.A (exec (.If c [b1] [b2] pos) X.env) Q (sM X o l W) s:=λ{Q}g=>by
  refine wpAny_If (bS (hc o s σ H _ (I.wish _) J) (λk E z=>?_) λ_ _ z=>bK z);obtain⟨v,L,ρ1,u,G,C,U⟩:=z;have I1:Inv X o σ v E:=L.unwish;cases k with
  |true=>exact bS (h1 o E σ v ρ1 l u D W I1 G C U) g λ_ _ z=>z
  |false=>exact bS (h2 o E σ v ρ1 l u D W I1 G C U) g λ_ _ z=>z
 refine iY (go λf s' h=>?_);cases f with
 |next=>exact eG h
 |_=>exact h
theorem S_(hcm:X.calm=true)(Y:X.stack=X.env::X.outer)(hfr:X.env.frame=some X.env.locals)(hB:TB X b cb)
  (hN:X.N.Nodup) (G:∀y∈ys,∃fl C N P NP,XF X.K y fl C N P NP/\(Z=C\/Z=P)) (hgy:Gl X z) (hmy:X.mg z=some (.ref Z)) (hdy:(z == ("__debug__":Str))=false) (hi:X.N[i]?=some nm) (hl:X.env.scope.names.lookup nm=some .local)
  (hsuite:∀a,ul (kH X a) (b0::dt) hc):
  SS X (.Try [b] [.ExceptHandler (some (.Name z p3)) (some nm) (b0::dt) ez] [] [] pos) (m9 cb ys i hc):=by
 intro J s σ H D I pq169;obtain⟨ρ,l,st,lr,sr,q⟩:=pq169;have q0:ba X.K ρ H (cb l st) (qI X D) (xU ρ H λd s ρ' L=>aU X.K ρ' L (qO ys i hc l d s) (qI X D)):=by
  change aU X.K ρ H (m9 cb ys i hc l st) (qI X D) at q
  unfold m9 at q;cases e:cb l st with
  |ok f cw=>rw[e]at q;exact q
  |bad=>rw[e]at q;exact q
  |exc d cw=>
   rw[e]at q;refine λρ1 H1 x1 s1 ρ2 H2 x2=>aU.left x2 ?_;cases d<;>exact q
 refine E3 (bS (hB J s σ H ρ l st D _ I lr sr q0) (λf s1 h=>?_) λev U z=>?_)
 ·cases f with
  |next=>exact eG h
  |_=>exact h
 obtain⟨s1,H1,H2,a,σ,I1,rfl,os,bare,un,hok,fl,hE⟩:=z;have I2:Inv X J σ H2 U:=I1.call' os un hok bare (ch:=[]) (λb z=>bp z (by simp));obtain⟨c,d0,vs0,sl,hH,hv,hT⟩:=fl.fly;obtain⟨ga,_⟩:=(show dE X.prog X.w H2 U.heap a (.frz ⟨c,d0,.fields vs0,sl⟩ (.own a)) from I2.hok a _ hH)
 have hfs:X.A.frames=some (X.env::X.outer):=by rw[<- Y];exact I2.ok.frames
 have hstk:U.heap.FunFrames X.base (X.env::X.outer):=by rw[<- Y];exact I2.stack
 have hsf:∀b∈(X.env::X.outer).filterMap (·.frame),H2 b=none:=by have:=I2.stkFree;rw[Y]at this;exact this
 have un':Un ((X.env::X.outer).filterMap (·.frame)) [] H1 H2 s1.heap U.heap:=by rw[Y]at un;exact un
 have key:∀h4,oU ((X.env::X.outer).filterMap (·.frame)) a c d0 sl vs0 .none U.heap h4->∃H4 o4,Inv X J σ H4 { U with heap:=h4 }/\gp a H2 H4/\h4.get? a=some o4/\o4.cls=c:=λh4 g4=>by obtain⟨vs',T,ts,c',d',sl',e1,e2,e3,e4,e5,e6,e7⟩:=g4.ex;have un4:=XV (vs':=vs') un' fl.1 fl.2.1 hH (λT z=>(hT T z).2) g4 (λb o _ hb=>hb);refine⟨_,_,I1.call' (s':={ U with heap:=h4 }) os (by rw[Y];exact un4) (OL hok hsf hH (λT z=>(hT T z).1) g4 e1) bare (ch:=[]) (λb z=>bp z (by simp)),⟨c,d0,vs0,vs',sl,hH,e7,rfl⟩,e1,rfl⟩
 refine Nh hfs hstk hfr ga hv λh3 g3=>oU.calm (s:={ U with heap:=h3 }) g3 λh4 g4=>?_;obtain⟨H4,o4,I4,t4,ga4,hc4⟩:=key h4 g4;obtain⟨ρ4,d4,st4,lr4,sr4,rep4,p4⟩:=hE H4 t4;have O:∀{ρ':List af}{L:Hp}{d:MM.D}{st':aR}{R:r9->aR->List af->Hp->Prop},aU X.K ρ' L (qO ys i hc l d st') R->∃y ds,d=.exn y ds/\y∈ys:=λ{ρ' L d st' R}z=>by
  cases d with
  |exn x' ds=>
   by_cases e:x'∈ys
   ·exact⟨x',ds,rfl,e⟩
   ·unfold qO at z;dsimp only at z;rw[az e]at z;exact z.elim
  |_=>exact z.elim
 obtain⟨y4,ds4,ed4,hy4⟩:=O p4;subst ed4;obtain⟨fl4,C,N,P,NP,G4,hZ⟩:=G y4 hy4;have hcC:c=.ref C:=by
  obtain⟨c1,d1,vs1,vs1',sl1,e1,_,rfl⟩:=t4;rw[hH]at e1;cases e1;cases rep4 with
  |gfn g h=>exact G4.nofn g h
  |exn0 g h=>
   obtain⟨o,ho,hco⟩:=h;rw[i5]at ho;cases ho;have:=g.symm.trans G4.gl;injection this with t;injection t with t;rw[<- t];exact hco
  |exn g h h2 r=>
   obtain⟨o,ho,hco,_⟩:=h;rw[i5]at ho;cases ho;have:=g.symm.trans G4.gl;injection this with t;injection t with t;rw[<- t];exact hco
 refine wpAny_handleBy_cons (codeAny_handlers_test ?_) (by intro q;cases q);refine Bg (X:=kH X a) (Oo I4) hgy hmy ?_ hdy;obtain⟨mN,mP,ch,_⟩:=G4.ch I4.kIn;have hmt:∀{Q:Bool->ah->Prop}{E:ac->ah->Prop},Q true { U with heap:=h4 }->aA (aP X.prog X.w) (kH X a).A (Bb (.ref a) (.ref Z)) Q E { U with heap:=h4 }:=λ{Q E}hQ=>by
  rcases hZ with z|z
  ·subst z;refine Oj ch.c ch.c N5 ga4 (hc4.trans hcC) ?_;rw[show (av Z::av P::fv).contains (.ref Z)=true by simp];exact hQ
  ·subst z;refine Oj ch.c ch.p VU ga4 (hc4.trans hcC) ?_;rw[show (av C::av Z::fv).contains (.ref Z)=true by simp];exact hQ
 refine hmt ?_;refine codeAny_handlers_suite_as ?_;refine oU.calm (s:={ U with heap:=h4 }) g4 λh5 g5=>?_;obtain⟨H5,o5,I5,t5,ga5,hc5⟩:=key h5 g5;obtain⟨ρ5,d5,st5,lr5,sr5,rep5,p5⟩:=hE H5 t5;obtain⟨y,ds,ed5,hy5⟩:=O p5;subst ed5;have hlen:i < σ.length:=by rw[I1.len];exact (am.mp hi).1
 refine CB I5 hN hi (.inl hl) (v:=.ref a) rfl (λs6 I6=>?_) (.inr hl);refine bS (hsuite a J s6 _ H5 { nx:=λσ' L=>D.nx (σ'.set i none) L,rt:=D.rt,bk:=λ_ _=>False,ct:=λ_ _=>False } (Oo I6) ⟨ρ5,l.set i (some (.exn y ds)),st5,lr5.set i rep5,sr5,?_⟩) (λfw s7 hs7=>?_) (λ_ _ z=>bK z)
 ·unfold qO at p5;dsimp only at p5;rw[aG hy5]at p5;refine (aU.no (aU.bnd p5)).imp λfw o ρ6 C u c g=>?_;cases fw with
  |next l'=>exact λσ' h=>aU.ret g c _ h.unset
  |ret d=>exact λv q=>aU.ret g c v q
  |brk l'=>exact g.elim
  |cnt l'=>exact g.elim
 ·have o : ∀(σ' : L2.St)L, Inv X J σ' L s7 -> ∀{Q : Unit -> ah -> Prop}{E : ac -> ah -> Prop}, (∀c, Inv X J (σ'.set i none) L c -> Q () c) -> aA (aP X.prog X.w) X.A (do bindName X.env nm .none; xQ X.env nm ez) Q E s7 := λσ' L h{Q E}hQ => by
    have q:i < σ'.length:=by rw[h.len];exact (am.mp hi).1
    refine aa (wpAny_bindName (CB h hN hi (.inl hl) (v:=.non) rfl (λG C=>?_) (.inr hl)));unfold xQ;refine lG (Uz C hN hi hl (bj q) λc g=>hQ c ?_);rw[BW]at g;exact g
  cases fw with
  |next=>
   obtain⟨σ',L,h,nx⟩:=hs7;exact o σ' L (KS I.ok h) λc g=>⟨_,L,g,nx⟩
  |ret u=>
   obtain⟨v,σ',L,h,r,rt⟩:=hs7;exact o σ' L (KS I.ok h) λc g=>⟨v,_,L,g,r,rt⟩
  |brk=>obtain⟨_,_,_,z⟩:=hs7;exact bK z
  |cont=>obtain⟨_,_,_,z⟩:=hs7;exact bK z
end
end MM
namespace MM
def uX(c:List (o_×Nat×(List D->M D)))(d:D)(ds:List D):M D:=match d with
 | .exn y [.non]=>match c.lookup y with
  |some (n,g)=>chk (ds.length=n) (g ds)
  |none=>bad
 |_=>bad
def qP(c:List (o_×Nat×(List D->M D)))(i:Nat)(g:CA):CE:=λl=>bnd (ak i l) λd=>bnd (qz g l) λds=>uX c d ds
open PySem PySem.Spec PySem.W PyProof.Rows L2
theorem V6{K:Frag}{ρ:List af}{H:Hp}{c:List (Str×Nat×(List D->M D))}{d:D}{ds:List D}{st:aR}{R:D->aR->List af->Hp->Prop}{W:XW}(h:ba K ρ H (uX c d ds st) R W):∃y n g,d=.exn y [.non]/\c.lookup y=some (n,g)/\ds.length=n/\ba K ρ H (g ds st) R W:=by
 cases d with
 |exn y es=>
  match es,h with
  |[.non],h=>
   change ba K ρ H ((match c.lookup y with
    |some (n,g)=>chk (ds.length=n) (g ds)
    |none=>bad) st) R W at h
   cases e:c.lookup y with
   |none=>rw[e]at h;exact h.elim
   |some z=>
    rw[e]at h
    change ba K ρ H (chk (ds.length=z.1) (z.2 ds) st) R W at h
    unfold chk at h;by_cases o:ds.length=z.1
    ·rw[aG o]at h;exact⟨y,z.1,z.2,rfl,e,o,h⟩
    ·rw[az o]at h;exact h.elim
  |[],h=>exact h.elim
  |a::_::_,h=>cases a<;>exact (show False from h).elim
  |[.bl _],h=>exact h.elim
  |[.int _],h=>exact h.elim
  |[.str _],h=>exact h.elim
  |[.tup _],h=>exact h.elim
  |[.lit _],h=>exact h.elim
  |[.ref _],h=>exact h.elim
  |[.dic _],h=>exact h.elim
  |[.exn _ _],h=>exact h.elim
  |[.fn _],h=>exact h.elim
 |_=>exact h.elim
section
variable{X:Cx}{e:Expr}{es:List Expr}{ca:CA}{fn x:Str}{p p2 ap b3:Pos}{i j:Nat}{l0:List (Str×Nat×(List D->M D))}
theorem O2(hl:∀y n g,l0.lookup y=some (n,g)->∃k f fd ps,X.mg y=some (.ref f)/\fV X.prog X.w X.K X.mg X.base (sU X.prog X.w) k f fd ps (uk X.K n g)/\fo k X.A/\Binds X.K fd ps [])
  (hi:X.N[i]?=some fn) (hv:zy X.env.scope fn) (nk:mE fn) (ha:SA X.nox (e::es) ca)
  (he:starEach (e::es) X.env=(false,eval e X.env)::starEach es X.env) (hpl:(backTo ap (starEach es X.env)).any (·.1)=false)
  (hN:X.N.Nodup) (hj:X.N[j]?=some x) (hx:L2.Loc X.env.scope x) (hs:eD (.Call (.Name fn p2) (e::es) [] ap) (some (.Name x p)) b3.line X.env=pure false) (hf:X.fn x=true\/X.env.scope.names.lookup x=some .local):
  TB X (.Assign [.Name x p] (.Call (.Name fn p2) (e::es) [] ap) b3) (bX (aS j) (qP l0 i ca)):=by
 intro J s σ H ρ l st D W I lr sr q;have q1:=ba.bnd (ba.bnd q);cases el:l[i]? with
 |none=>rw[show ak i l st=.bad by unfold ak;rw[el];rfl]at q1;exact q1.elim
 |some o=>
 cases o with
 |none=>rw[show ak i l st=.bad by unfold ak;rw[el];rfl]at q1;exact q1.elim
 |some d=>
 rw[show ak i l st=.ok d st by unfold ak;rw[el];rfl]at q1;obtain⟨v,ev,rv⟩:=lr.2 i d el;have q2:=ba.bnd (q1 ρ H Ex.refl sr);refine iY (BM ?_ hs);refine eW (bS (AI (X:=X.nox) hi hv nk.d nk.c J s σ H (λz c=>z=v/\c=H/\True) (I.wish _) ⟨v,ev,rfl,rfl,trivial⟩) (λu s1 z=>?_) λ_ _ z=>bK z);obtain⟨v',H',I1',ru,rfl,rfl,_⟩:=z;have arg:uf X.K ca σ H' λvs c=>∃ρ1 C ds,LR X.K ρ1 c σ l/\SR X.K ρ1 c C/\dg X.K ρ1 c v' d/\bI X.K ρ1 c vs ds/\ba X.K ρ1 c (uX l0 d ds C) (λr st' ρ' H'=>qI X D (.next (l.set j (some r))) st' ρ' H') (xU ρ1 c W):=by
  have q3:=ba.no q2;refine⟨ρ,l,st,lr,sr,?_⟩;cases ec:ca l st with
  |bad=>rw[ec]at q3;exact q3
  |exc _ _=>rw[ec]at q3;exact q3
  |ok ds C=>
   rw[ec]at q3;exact λρ1 c x1 s1 vs O=>⟨ρ1,C,ds,lr.mono x1,s1,rv.mono x1,O,((q3 ρ1 c x1 s1).imp λd Y ρ2 E U G p2=>ba.ret p2 G).impW λ_ _ _ _ z ρ' H' y=>z ρ' H' (x1.trans y)⟩
 have hA:=ha ap J s1 σ H' _ I1' arg;rw[he]at hA ⊢;refine PySem.W.callWith_of (P:=λh=>∃a o fd,u=.ref a/\h.get? a=some o/\o.data=.func fd) (by show ((false||(backTo ap (starEach es X.env)).any (·.1))||false)=false;rw[hpl];rfl)
  (λh ⟨a,o,fd,eu,e1,e2⟩=>?_) (tm (bS hA (λus G z=>?_) λ_ _ z=>bK z))
 ·subst eu;refine⟨.frame,.inl rfl,(PySem.W.Looks.ld (part:=none) e1).andThen ?_⟩;simp only[e2];exact .now
 obtain⟨vs,c,I1,O,ρ1,C,ds,lr1,sr1,rd,rds,p1⟩:=z;have Q:Inv X J σ c G:=I1.unwish;obtain⟨y,n,g,rfl,elk,hln,p2⟩:=V6 p1;cases rd with
 |@gfn a _ gg hd=>
 obtain⟨o,fd0,lo,hdat⟩:=hd;obtain⟨k,f,fd,ps,hm,F,hr,hb⟩:=hl y n g elk;have em:X.mg y=some (.ref a):=Ng Q.kIn (Q.mod.glob.keeps Q.bk) gg;have ef:a=f:=by rw[em]at hm;injection hm with t;injection t
 subst ef;cases (show u=av a from ru);refine⟨⟨a,_,_,rfl,Q.kIn _ _ lo,hdat⟩,?_⟩;have sp:uk X.K n g vs c (λv E=>D.nx (σ.set j (some v)) E) (λv _ E=>∀a,v=.ref a->(∀o u,c a≠some (.frz o u))->∀H3,gp a E H3->∃ρ3 d st3,LR X.K ρ3 H3 σ l/\SR X.K ρ3 H3 st3/\dg X.K ρ3 H3 (.ref a) d/\W d st3 ρ3 H3):=by
  refine⟨by rw[rds.length];exact hln,ρ1,C,ds,sr1,rds,?_⟩;cases eg:g ds C with
  |bad=>rw[eg]at p2;exact p2
  |ok r Y=>
   rw[eg]at p2;exact λρ2 E U G v rv=>p2 ρ2 E U G _ ((lr1.mono U).set j rv)
  |exc d Y=>
   rw[eg]at p2;intro ρ2 E U G a rep a' ea na H3 t;cases ea;exact⟨ρ2,d,Y,lr1.mono (Ex.turn t U na),G.turn t,rep.turn t,p2 ρ2 E U G ρ2 H3 (Ex.turn t U na)⟩
 have hlen:(us++[]).length=ps.length:=by rw[cg,<- O.length];exact F.len _ _ _ _ sp
 refine im (iA (F.run X.A X.stack G c ⟨us,[]⟩ (us++[]) vs _ _ hr Q.env0 (hb G us Q.kIn hlen) (by rw[cg];exact O) sp) λr s3 L=>?_);cases r with
 |ok fl=>
  cases fl with
  |ret u=>
   obtain⟨v,E,I3,ru,nx⟩:=Q.after L;exact CB I3 hN hj hx ru (λs4 I4=>eG ⟨_,E,I4,nx⟩) hf
  |next=>exact bK L
  |brk=>exact bK L
  |cont=>exact bK L
 |error ev=>
  obtain⟨a,E,rfl,os,bare,un,hok,fl,hE⟩:=L;exact⟨G,c,E,a,σ,Q,rfl,os,bare,un,hok,fl,hE a rfl fl.2.1⟩
end
theorem DT{K:Frag}{mg:Str->Option ac}{h:bh}{x:Str}{a:af}{q:ac}{o:Option af}{u:bN}{c:Array (Option ac)}{l:List (Str×D)}(X:K.In h)(G:h.Ns bz mg)(g:nsIn K bz x=some (some (.ref a)))(k:K.lookup a=some ⟨q,o,.func u,c⟩)(t:rP K mg l):rP K mg ((x,.exn x [.non])::l):=
 Gx (v:=.ref a) (mg_of X G g) rfl (λ_ _=>.gfn g ⟨_,_,k,rfl⟩) t
def QN(X:Cx)(f:CA):TA:=λσ H Q=>∃ρ l st,LR X.K ρ H σ l/\SR X.K ρ H st/\ba X.K ρ H (f l st) (λds _ ρ' g=>∀c,bI X.K ρ' g c ds->Q c g) (zD X)
abbrev Bu(X:Cx)(es:List Expr)(f:CA):Prop:=PA X es (QN X f)
section
variable{X:Cx}{e a b:Expr}{es:List Expr}{pos p:Pos}{fa fb:CE}{ca:CA}
theorem TU(h:SA X es ca):Bu X es (qz ca):=h.of λσ H Q c=>by obtain⟨ρ,l,st,o,g,p⟩:=c;exact⟨ρ,l,st,o,g,ba.no p⟩
theorem Wl(h:SE X e fa):uB X e (KL fa):=h.of λσ H Q c=>by obtain⟨ρ,l,st,o,g,p⟩:=c;exact⟨ρ,l,st,o,g,ba.no p⟩
theorem QO:Bu X [] (qz bc):=TU Fw
theorem R1(ha:uB X e fa)(U:Bu X es ca)(Y:starEach (e::es) X.env=(false,eval e X.env)::starEach es X.env):Bu X (e::es) (ar fa ca):=(n8 ha U Y).of λσ H Q c=>
 by obtain⟨ρ,l,st,o,E,p⟩:=c;exact⟨ρ,l,st,o,E,(ba.bnd p).imp λd g ρ1 H1 u I O v J=>⟨ρ1,l,g,o.mono u,I,(ba.bnd O).imp λds C ρ2 H2 q G L vs h=>ba.ret L G _ (.cons (J.mono q) h)⟩⟩
theorem Pr{k n:Nat}{f:af}{C:bN}{ps:List Str}{g:List D->M D}{x:Str}(F:fV X.prog X.w X.K X.mg X.base ou k f C ps (lU X.K n g))(I:fo k X.A)(U:Gl X x)(L:X.mg x=some (.ref f))(O:keepIn X.K (.ref f)=true)(hb:Binds X.K C ps [])(ha:Bu X (e::es) ca)(J:∀l st ds o,ca l st=.ok ds o->ds.length=n)(v:(x == ("__debug__":Str))=false)
  (Y:starEach (e::es) X.env=(false,eval e X.env)::starEach es X.env) (u:(backTo pos (starEach es X.env)).any (·.1)=false):uB X (.Call (.Name x p) (e::es) [] pos) (uS g ca):=
 (Je F I U L O hb .nil N_ ha v Y u).of λσ H Q c=>by obtain⟨ρ,l,st,G,E,p⟩:=c;exact⟨ρ,l,st,G,E,by
  have q:=ba.bnd p;cases h:ca l st with
  |bad=>rw[h]at q;exact q
  |exc _ _=>rw[h]at q;exact q
  |ok ds cw=>
   rw[h]at q;intro ρ1 H1 x1 s1 vs rvs;exact⟨by rw[cg,rvs.length];exact J l st ds cw h,ρ1,cw,ds,s1,by rw[cg];exact rvs,ba.no (q ρ1 H1 x1 s1)⟩⟩
theorem Qn(hu:X.A.units+60 < dM)(ha:uB X a fa)(hb:SE X b fb)(Y:ng b):uB X (.Subscript a b pos) (yD fa fb):=(JW (Mk hu) ha hb Y).of λσ H Q c=>
 by obtain⟨ρ,l,st,o,E,p⟩:=c;exact⟨ρ,l,st,o,E,(ba.bnd p).imp λd h ρ1 H1 C I U v J=>⟨ρ1,l,h,o.mono C,I,(aU.bnd (ba.no U)).imp λe g ρ2 H2 q G O u L=>⟨ρ2,g,d,e,G,J.mono q,L,O⟩⟩⟩
end
section
variable{P:Program}{w:bq}{K:Frag}{mg:Str->Option ac}{base:bh}
structure MI(K:Frag)(fd:bN)(ps:List Str):Prop where
 dv:∃u,RelV (.int 500) u/\Binds K fd ps [u]
 kw:∀(s:ah)(us ws:List ac),K.In s.heap->(us++ws).length=ps.length->ws.length=1->lv s fd ⟨us,[ag "most"].zip ws⟩ (ps.zip (us++ws))
structure GY(P:Program)(w:bq)(K:Frag)(mg:Str->Option ac)(base:bh)(x:Str)(r:RF):Prop where
 ex:∃f fd,mg x=some (.ref f)/\fV P w K mg base (sU P w) r.k f fd r.ps (uk K r.n r.g)/\keepIn K (.ref f)=true/\Binds K fd r.ps []/\(r.kw=true->MI K fd r.ps)
def lz(P:Program)(w:bq)(K:Frag)(mg:Str->Option ac)(base:bh)(l:List (Str×RF)):Prop:=∀x r,l.lookup x=some r->GY P w K mg base x r
theorem lz.x{l:List (Str×RF)}(h:lz P w K mg base l):wm P w K mg base l:=λx r z=>let ⟨f,fd,m,F,k,b,_⟩:=(h x r z).ex;⟨f,fd,m,F,k,b⟩
theorem Sa{x:Str}{r:RF}{f:af}{c:bN}{E:List (Str×RF)}(m:mg x=some (.ref f))(F:fV P w K mg base (sU P w) r.k f c r.ps (uk K r.n r.g))(kp:keepIn K (.ref f)=true)(b:Binds K c r.ps [])(g:r.kw=true->MI K c r.ps)(h:lz P w K mg base E):lz P w K mg base ((x,r)::E):=λy s z=>by
 by_cases e:y=x
 ·subst e;rw[dR]at z;cases z;exact⟨f,c,m,F,kp,b,g⟩
 ·rw[rJ e]at z;exact h y s z
end
section
variable(E:List (Str×RF))(y fl:Str)
noncomputable def Ak(E:List (Str×RF)):Expr->Bool
 | .Call (.Name x _) _ [] _=>(E.lookup x).isSome
 |_=>false
abbrev Gh(c:RC)(es:List Expr):={r:CA // (∀{X:Cx},Good X c->ui X E y fl->Bu X es r)/\es.all pU=true/\∀l st ds g,r l st=.ok ds g->ds.length=es.length}
theorem XC:∀l st ds c,qz bc l st=.ok ds c->ds.length=0:=λl st ds c e=>by cases e;rfl
def yQ(q:lf)(c:RC):∀es:List Expr,Option (Gh E y fl c es)
 |[]=>some ⟨qz bc,λ_ _=>QO,rfl,XC⟩
 |e::es=>wh (pU e=true) λo=>(if Ak E e=true then (rK E y fl q c e).map λf=>(⟨f.1,f.2.1⟩:{r:CE // ∀{X:Cx},Good X c->ui X E y fl->uB X e r}) else (q.e c e).map λf=>⟨KL f.1,λg _=>Wl (f.2 g)⟩).bind λf=>(yQ q c es).bind λr=>
  some ⟨ar f.1 r.1,λg h=>R1 (f.2 g h) (r.2.1 g h) (m3 o),by rw[bu,o,r.2.2.1];rfl,FQ r.2.2.2⟩
def IA(q:lf)(c:RC)(e:Expr):Option {r:CE // ∀{X:Cx},Good X c->ui X E y fl->uB X e r}:=
 xOr (Bo e λa b _ h=>wh (EA b=true/\Ak E a=true) λz=>(rK E y fl q c a).bind λG=>(q.e c b).bind λfb=>some ⟨yD G.1 fb.1,λg o=>h ▸ Qn g.hu (G.2.1 g o) (fb.2 g) (zB z.1)⟩)
 (x_ e λx _ as _ e1=>vC as λa u e2=>(zt c.G x).bind λr=>wh (c.glo x=true/\ka x=true/\r.1.k<=c.k/\r.1.n=(a::u).length/\(a::u).any (Ak E)=true) λz=>(yQ E y fl q c (a::u)).bind λH=>
  some ⟨uS r.1.g H.1,λg o=>by subst e1 e2;obtain⟨Y,U,Q,O,_⟩:=z;obtain⟨f,fd,m,F,kp,B,_⟩:=(g.G _ _ r.2).ex;obtain⟨I,v,J⟩:=H.2;rw[bu,aI]at v;exact Pr F (g.hr.mono Q) (g.S.glo _ (beq_iff_eq.mp Y)) m kp B (I g o) (λL st ds C z=>by rw[O,J L st ds C z]) (pj U).d (m3 v.1) (wF v.2)⟩)
def Iz(q:lf)(c:RC)(k:∀s:Stmt,Option (Ax E y fl c s))(s:Stmt):Option (Ax E y fl c s):=
 xOr (Dq s λo _ e=>oS o λa u=>(IA E y fl q c a).bind λf=>some ⟨b8 f.1,λg h=>by subst u e;exact LY (f.2 g h)⟩)
 (IH E y fl q c k s)
def Ob(q:lf)(c:RC):Nat->∀s:Stmt,Option (Ax E y fl c s)
 |0=>λ_=>none
 |n+1=>Iz E y fl q c (Ob q c n)
end
section
variable(E:List (Str×RF))(ys:List Str)(y fl:Str)
structure yP(X:Cx)(E:List (Str×RF))(ys:List Str)(y fl:Str):Prop where
 o:rT X E ys y fl
 Y:lz X.prog X.w X.K X.mg X.base E
abbrev zv(c:RC)(s:Stmt):={r:CS // ∀{X:Cx},Good X c->yP X E ys y fl->TB X s r}
def WN(ks:List di){β:Type}(k:∀m e p,ks=[⟨some m,e,p⟩]->Option β):Option β:=match ks,k with
 |[⟨some m,e,p⟩],k=>k m e p rfl
 |_,_=>none
def AV(q:lf)(c:RC)(s:Stmt):Option (zv E ys y fl c s):=Ke s λe _ e0=>
 xOr (x_ e λx _ as _ e1=>vC as λa h e2=>(zt E x).bind λr=>wh (c.glo x=true/\ka x=true/\r.1.k<=c.k) λz=>(rV q c (a::h)).bind λG=>
  xOr (wh (r.1.n=(a::h).length) λY=>some ⟨kg (sO r.1.g G.1 []),λ{X}g o=>by subst e2 e1 e0;obtain⟨U,Q,O⟩:=z;obtain⟨f,fd,m,F,kp,B,_⟩:=(o.Y _ _ r.2).ex;obtain⟨I,C,J⟩:=G.2;rw[bu,aI]at C;exact Me F (g.hr.mono O) (g.S.glo _ (beq_iff_eq.mp U)) m kp B .nil (λ_ _=>.nil) (by rw[o.o.nx];exact I g) (λH st ds v z=>by rw[cg,Y,J H st ds v z]) (pj Q).d (m3 C.1) (wF C.2) (xy rfl)⟩)
  (wh (r.1.n=(a::h).length+1/\r.1.kw=true) λY=>some ⟨kg (sO r.1.g G.1 [.int 500]),λ{X}g o=>by subst e2 e1 e0;obtain⟨U,Q,O⟩:=z;obtain⟨f,fd,m,F,kp,B,kw⟩:=(o.Y _ _ r.2).ex;obtain⟨u,hu,B1⟩:=(kw Y.2).dv;obtain⟨I,C,J⟩:=G.2;rw[bu,aI]at C;exact Me F (g.hr.mono O) (g.S.glo _ (beq_iff_eq.mp U)) m kp B1 (.cons hu .nil) (λ_ _=>.cons (.int 500) .nil) (by rw[o.o.nx];exact I g) (λH st ds v z=>by rw[aV,Y.1,J H st ds v z];rfl) (pj Q).d (m3 C.1) (wF C.2) (xy rfl)⟩)) <|
 vCl e λf as ks cp e1=>rC f λx _ e2=>vC as λa h e3=>WN ks λnm u L e4=>(zt E x).bind λr=>wh (c.glo x=true/\ka x=true/\r.1.k<=c.k/\r.1.n=(a::h).length+1/\r.1.kw=true/\nm=ag "most") λz=>(rV q c (a::h)).bind λG=>(LI q c [⟨some nm,u,L⟩]).bind λck=>
  some ⟨kg (ve r.1.g G.1 ck.1),λ{X}g o=>by subst e4 e3 e2 e1 e0;obtain⟨U,Q,O,h4,h5,rfl⟩:=z;obtain⟨f,fd,m,F,kp,B,kw⟩:=(o.Y _ _ r.2).ex;have W:=(kw h5).kw;obtain⟨I,C,J⟩:=G.2;obtain⟨xk,lk⟩:=ck.2;have ya':=C;rw[bu,aI]at C;obtain⟨w1,w2,w3⟩:=Op (env:=X.env) (pos:=cp) (ks:=[⟨some (ag "most"),u,L⟩]) rfl;exact W5 F (g.hr.mono O) (g.S.glo _ (beq_iff_eq.mp U)) m kp (λs us ws k1 k2 k3=>W s us ws k1 k2 k3) (by rw[o.o.nx];exact I g) (by rw[o.o.nx];exact xk g) (λH st ds v z cw dw st1' z'=>by rw[aV,h4,J H st ds v z,lk _ _ _ _ z'];rfl) (λH st dw v z'=>lk _ _ _ _ z') (pj Q).d w1 w2 (m3 C.1) (by rw[wF (es:=a::h) ya',w3];rfl) (xy rfl)⟩
noncomputable def nE(E:List (Str×RF)):List (Str×Nat×(List D->M D)):=E.map λp=>(p.1,p.2.n,p.2.g)
theorem KJ{y:Str}{n:Nat}{g:List D->M D}:∀{E:List (Str×RF)},(nE E).lookup y=some (n,g)->∃r,E.lookup y=some r/\r.n=n/\r.g=g/\(y,r)∈E
 |[],h=>(by cases h)
 | (z,r)::E,h=>by
  by_cases e:y=z
  ·subst e;rw[show nE ((y,r)::E)=(y,r.n,r.g)::nE E from rfl,dR]at h;cases h;exact⟨r,dR,rfl,rfl,.head _⟩
  ·rw[show nE ((z,r)::E)=(z,r.n,r.g)::nE E from rfl,rJ e]at h;obtain⟨c,v,u,q,o⟩:=KJ h;exact⟨c,by rw[rJ e];exact v,u,q,.tail _ o⟩
def Au(q:lf)(c:RC)(s:Stmt):Option (zv E ys y fl c s):=AB s λt e _ e0=>rC t λv _ e1=>x_ e λx _ as _ e2=>vC as λa H e3=>(AF c x).bind λi=>(BB c v).bind λj=>wh (E.all (λp=>Nat.ble p.2.k c.k)=true) λz=>(rV q c (a::H)).bind λL=>
 some ⟨bX (aS j.1) (qP (nE E) i.1 L.1),λ{X}g o=>by
  subst e3 e2 e1 e0;obtain⟨O,C,la⟩:=L.2;rw[bu,aI]at C;obtain⟨G,u,Q⟩:=i.2;have G:X.N[i.1]?=some x:=by rw[g.N];exact G
  have vis:zy X.env.scope x:=by
   rcases u with u|u|u
   ·exact g.S.vis x _ u (.inl rfl)
   ·exact g.S.vis x _ u (.inr (.inl rfl))
   ·exact g.S.vis x _ u (.inr (.inr rfl))
  obtain⟨U,k,J,I⟩:=Bw g j.2;refine O2 (λy n g' h=>?_) G vis (pj Q) (by rw[o.o.nx];exact O g) (m3 C.1) (wF C.2) g.nd U (g.S.loc _ _ J I).1 (xy rfl) (g.S.loc _ _ J I).2;obtain⟨r,h1,rfl,rfl,Y⟩:=KJ h;obtain⟨f,fd,m,F,kp,B⟩:=(o.o.E _ _ h1).ex;exact⟨r.k,f,fd,r.ps,m,F,g.hr.mono (Nat.le_of_ble_eq_true (cq.mp z _ Y)),B⟩⟩
def uO(q:lf)(c:RC):Nat->∀s:Stmt,Option (zv E ys y fl c s)
 |0,_=>none
 |n+1,s=>xOr (AV E ys y fl q c s) <|
 xOr (Au E ys y fl q c s)
  (C_ s λt a b _ e=>v1 a λa C=>v1 b λb v=>(q.t c t).bind λh=>(uO q c n a).bind λu=>(uO q c n b).bind λfb=>some ⟨gj (tE h.1) u.1 fb.1,λ{X}g o=>by subst v C e;exact Py (by rw[o.o.nx];exact h.2 g) (u.2 g o) (fb.2 g o)⟩)
end
section
variable(E:List (Str×RF))(ys:List Str)(y fl:Str)
abbrev Df(c:RC)(e:Expr):={r:CE // ∀{X:Cx}{a:af},Good X c->yP X E ys y fl->SE (kH X a) e r}
abbrev Ef(c:RC)(e:Expr):={r:CT // ∀{X:Cx}{a:af},Good X c->yP X E ys y fl->ST (kH X a) e r}
abbrev Js(c:RC)(es:List Expr):={r:CT // ∀{X:Cx}{a:af}{p:Pos},Good X c->yP X E ys y fl->PW (kH X a) (.BoolOp .And es p) (mG X.K r)}
abbrev Ko(c:RC)(s:Stmt):={r:CS // ∀{X:Cx}{a:af},Good X c->yP X E ys y fl->SS (kH X a) s r}
abbrev HK(c:RC)(s:List Stmt):={r:CS // ∀{X:Cx}{a:af},Good X c->yP X E ys y fl->ul (kH X a) s r}
def vk(c:RC)(e:Expr):Option (Df E ys y fl c e):=
 xOr (rC e λx _ h=>(AF c x).bind λj=>some ⟨ak j.1,λ{X a}g _=>by
  subst h;obtain⟨C,q,G⟩:=j.2;have C:X.N[j.1]?=some x:=by rw[g.N];exact C
  have u:=pj G;rcases q with q|q|q
  ·exact Fy _ (AI C (g.S.vis x _ q (.inl rfl)) u.d u.c)
  ·exact Fy _ (AI C (g.S.vis x _ q (.inr (.inl rfl))) u.d u.c)
  ·exact Fy _ (AI C (g.S.vis x _ q (.inr (.inr rfl))) u.d u.c)⟩) <|
 xOr (HE e λv _ _ h=>(JU (wG v)).bind λd=>some ⟨ay d.1,λ_ _=>h ▸ JC d.2⟩)
 (zW e λo a _ h=>wh (o=.USub) λz=>HE a λv _ _ H=>(JU (wG v)).bind λd=>some ⟨c1 vh (ay d.1),λ_ _=>by subst z H h;exact L3 OE (JC d.2)⟩)
def M6(c:RC)(e:Expr):Option (Df E ys y fl c e):=
 xOr (Ff e λz _ a b _ h=>wh (z=ag "isinstance"/\c.bl z=true/\pU a=true) λw=>(vk E ys y fl c a).bind λq=>
  xOr (rC b λt _ H=>wh (t=ag "ValueError"/\c.bl t=true) λv=>some ⟨c1 (mZ [y] λ_=>true) q.1,λ{X a}g o=>by subst H h;obtain⟨rfl,u,G⟩:=w;obtain⟨rfl,L⟩:=v;obtain⟨I,M1⟩:=g.gl u;obtain⟨G2,M2⟩:=g.gl L;exact Lw (X:=kH X a) o.o.B I M1 (by nofun) G2 M2 (by nofun) (q.2 g o) (m3 G)⟩) <|
  xOr (rC b λt _ H=>wh (ys.contains t=true/\c.glo t=true/\ka t=true) λv=>some ⟨c1 (mZ [y] λx=>x == t||("PactError":Str) == t) q.1,λ{X a}g o=>by subst H h;obtain⟨rfl,u,G⟩:=w;obtain⟨h2,h3,Y⟩:=v;obtain⟨I,M1⟩:=g.gl u;obtain⟨D,O,m⟩:=o.o.hy _ h2;exact K0 (X:=kH X a) o.o.B O I M1 (by nofun) (g.S.glo _ (beq_iff_eq.mp h3)) m (pj Y) (q.2 g o) (m3 G)⟩)
  (Eg b λes n _ H=>oS (tY (λt=>ys.contains t&&c.glo t&&ka t) es) λQ hz=>wh (Q.length<=10) λU=>some ⟨c1 (mZ [y] λx=>Q.any λt=>x == t||("PactError":Str) == t) q.1,λ{X a}g o=>by subst H h;obtain⟨rfl,u,G⟩:=w;obtain⟨I,M1⟩:=g.gl u;refine L6 (X:=kH X a) o.o.B o.o.hy (λt J=>?_) hz U I M1 (by nofun) (q.2 g o) (m3 G);rw[aI,aI]at J;exact⟨J.1.1,g.S.glo _ (beq_iff_eq.mp J.1.2),J.2⟩⟩)) <|
 xOr (HI e λa x _ h=>wh (x=fl/\Fb a=true) λw=>(vk E ys y fl c a).bind λq=>some ⟨c1 (qB y fl) q.1,λ{X a}g o=>by subst h;obtain⟨rfl,u⟩:=w;obtain⟨C,N,PA,NP,fI,fd,ps,F,_⟩:=o.o.R.ex;exact LF (X:=kH X a) F o.o.R.hy (q.2 g o) (Hw u)⟩)
 (vk E ys y fl c e)
def yH(k:∀e,Option (Ef E ys y fl c e)):∀es:List Expr,Option (Js E ys y fl c es)
 |[]=>none
 |[a]=>(k a).bind λh=>some ⟨h.1,λ{X a _}g o=>Ly (X:=kH X a) (h.2 g o)⟩
 |a::b::r=>(k a).bind λh=>(yH k (b::r)).bind λfb=>some ⟨kY h.1 fb.1,λ{X a _}g o=>Lm (X:=kH X a) (h.2 g o) (fb.2 g o)⟩
def zo(c:RC):Nat->∀e,Option (Ef E ys y fl c e)
 |0,_=>none
 |n+1,e=>xOr (zW e λo a _ h=>wh (o=.Not) λz=>(zo c n a).bind λf=>some ⟨fK f.1,λg w=>h ▸ z ▸ Gw (f.2 g w)⟩) <|
  xOr (FJ e λo es _ h=>wh (o=.And) λz=>(yH E ys y fl (zo c n) es).bind λf=>some ⟨f.1,λ{X a}g w=>by subst z h;exact L2.PW.pt (f.2 g w)⟩)
  (wh (Fi e=true) λz=>(M6 E ys y fl c e).bind λf=>some ⟨j_ f.1,λ{X a}g w=>Jl (X:=kH X a) (f.2 g w) (HV z)⟩)
def LL(c:RC):Nat->∀s:Stmt,Option (Ko E ys y fl c s)
 |0,_=>none
 |n+1, s => xOr (AB s λt e _ h => rC t λv _ q => wh (Et e = true) λz => (M6 E ys y fl c e).bind λH => (BB c v).bind λi => some ⟨bX (aS i.1) H.1, λ{X a}g o => by subst q h;obtain⟨J,k,C,u⟩:=Bw g i.2;exact Na (X:=kH X a) g.nd J (g.S.loc _ _ C u).1 (H.2 g o) (xy z) (g.S.loc _ _ C u).2⟩)
  (C_ s λt a b _ h=>v1 a λa q=>v0 b λL=>(zo E ys y fl c 9 t).bind λG=>(LL c n a).bind λI=>some ⟨gj G.1 (aC I.1 aB) aB,λ{X a}g o=>by subst L q h;exact GP (X:=kH X a) (G.2 g o) (FR (I.2 g o) B4) B4⟩)
def Cc(c:RC):∀h:List Stmt,Option (HK E ys y fl c h)
 |[]=>some ⟨aB,λ_ _=>B4⟩
 |s::h=>(LL E ys y fl c 3 s).bind λa=>(Cc c h).bind λb=>some ⟨aC a.1 b.1,λg o=>FR (a.2 g o) (b.2 g o)⟩
abbrev zY(c:RC)(s:Stmt):={r:CS // ∀{X:Cx},Good X c->yP X E ys y fl->SS X s r}
abbrev GU(c:RC)(s:List Stmt):={r:CS // ∀{X:Cx},Good X c->yP X E ys y fl->ul X s r}
def Iv(q:lf)(c:RC)(s:Stmt):Option (zY E ys y fl c s):=LM s λb hs r1 r2 _ h=>v1 b λb h1=>v1 hs λhd h2=>v0 r1 λh3=>v0 r2 λh4=>Se hd λz p3 v b0 ss _ h5=>
 wh (ys.contains z=true/\(z=ag "PactError"\/z=y)/\c.glo z=true/\ka z=true/\c.top=true/\c.sc.names.lookup v=some .local/\c.N[c.N.idxOf v]?=some v) λw=>(Cc E ys y fl c (b0::ss)).bind λL=>
 (uO E ys y fl q c 9 b).bind λfb=>some ⟨m9 fb.1 [y] (c.N.idxOf v) L.1,λ{X}g o=>by
  subst h5 h4 h3 h2 h1 h;obtain⟨w0,H,w1,w2,Y,U,Q⟩:=w;obtain⟨Z,O,mz⟩:=o.o.hy _ w0;have G:∀x∈[y],∃fl C N P J,XF X.K x fl C N P J/\(Z=C\/Z=P):=λx I=>by
   obtain⟨fl,C,N,P,J,F⟩:=o.o.B x I;rw[aE]at I;refine⟨fl,C,N,P,J,F,?_⟩;rcases H with u|u
   ·subst u;have:=O.1.symm.trans F.glP;injection this with t;injection t with t;injection t with t;exact .inr t
   ·rw[u,<- I]at O;have:=O.1.symm.trans F.gl;injection this with t;injection t with t;injection t with t;exact .inl t
  exact S_ g.S.calm o.o.st o.o.fr (fb.2 g o) g.nd G (g.S.glo _ (beq_iff_eq.mp w1)) mz (pj w2).d (by rw[g.N];exact Q) ((g.kd Y).2 _ |>.trans U) λa=>L.2 g o⟩
def AY(k:∀s:Stmt,Option (zY E ys y fl c s)):∀h:List Stmt,Option (GU E ys y fl c h)
 |[]=>some ⟨aB,λ_ _=>B4⟩
 |s::h=>(k s).bind λa=>(AY k h).bind λb=>some ⟨aC a.1 b.1,λg o=>FR (a.2 g o) (b.2 g o)⟩
def yS(q:lf)(c:RC):Nat->∀s:Stmt,Option (zY E ys y fl c s)
 |0,_=>none
 |n+1,s=>xOr (Iv E ys y fl q c s) <| xOr ((X1 E ys y fl q c s).bind λf=>some ⟨f.1,λg o=>f.2 g o.o⟩)
  (GV s λtg u a b _ h=>v0 b λH=>wh (w_ u=true) λz=>(q.i c tg u).bind λv=>(q.g c tg).bind λC=>(AY E ys y fl (yS q c n) a).bind λG=>some ⟨iS v.1 C.1 G.1,λg o=>h ▸ H ▸ NA g.ps g.S.calm (v.2 g) (C.2 g) (G.2 g o) (Cd z)⟩)
end
section
variable{P:Program}{w:bq}{K:Frag}{mg:Str->Option ac}{base:bh}{x y fl:Str}{sd:Stmt}{k n:Nat}{g:List D->M D}{G E:List (Str×RF)}{Z:List Str}{C:List (Str×D)}{H:List (Nat×Nat×Nat)}{ys:List Str}
theorem Fm(R : mj)(H : List (Nat×Nat×Nat))(n : Nat)(F : FnAt K mg x sd)(hh : lz P w K mg base E /\ bU P w K mg base G)(hR : XR P w K mg base y fl)(hZ : vm mg Z)(hC : rP K mg C)(hb : (t7 E y fl (Ob E y fl (nV R 40) ⟨aX sd, qC sd, k, G, Z, C, H, true, ([], []), none⟩ 20) (cK sd)).map (λv => bF (qC sd).length v.1) = some g := by kernel_rfl)
  (S:qQ (qC sd) (qM sd) (aX sd)=true:=by kernel_rfl) (L:(qM sd).length=n:=by kernel_rfl)
  (b:∀(kV h u:ac)(I:Option af)(c ct:ac)(o:List ac),o.length=n->lW (fnOf x x (d8 sd) (cK sd) (aX sd) .none kV h u I c ct) { pos:=o }=pure ((qM sd).zip o):=by and_intros):
  lz P w K mg base (qE x sd n k g E)/\bU P w K mg base (qE x sd n k g G):=by
 obtain⟨Q,O⟩:=hh;obtain⟨v,hv,rfl⟩:=dF.mp hb;obtain⟨f,fd,F,q⟩:=F;have bs:=F.binds (ps:=qM sd) λkV h u I c ct o hl=>b kV h u I c ct o (hl.trans L);obtain⟨oc,od,kV,h,u,I,c,ct,U,rfl,Y,J⟩:=F.ex;have ok:=J9 (P:=P) (w:=w) (mg:=mg) (base:=base) (k:=k) Y J (C3 S) L rfl λc A outer s Hp Ex hr=>Vq R (v:=v) O Q.x hR hZ hC (C3 S) hr;exact⟨Sa q ok F.kp bs (λz=>(by cases z)) Q,E_ q (Vl ok) F.kp bs (λz=>(by cases z)) O⟩
theorem QM(R : mj)(H : List (Nat×Nat×Nat))(n : Nat)(F : FnAt K mg x sd)(Q : lz P w K mg base E)(O : bU P w K mg base G)(hR : XR P w K mg base y fl)(U : yR K mg ys)(hZ : vm mg Z)(hC : rP K mg C)(hb : (AY E ys y fl (yS E ys y fl (nV R 40) ⟨aX sd, qC sd, k, G, Z, C, H, true, ([], []), none⟩ 5) (cK sd)).map (λv => bF (qC sd).length v.1) = some g := by kernel_rfl)
  (S:qQ (qC sd) (qM sd) (aX sd)=true:=by kernel_rfl) (L:(qM sd).length=n:=by kernel_rfl)
  (b:∀(kV h q:ac)(I:Option af)(c ct:ac)(o:List ac),o.length=n->lW (fnOf x x (d8 sd) (cK sd) (aX sd) .none kV h q I c ct) { pos:=o }=pure ((qM sd).zip o):=by and_intros):
  bU P w K mg base (qE x sd n k g G):=by
 obtain⟨v,hv,rfl⟩:=dF.mp hb;obtain⟨f,fd,F,u⟩:=F;have bs:=F.binds (ps:=qM sd) λkV h q I c ct o hl=>b kV h q I c ct o (hl.trans L);have J:=C3 S;exact E_ u (KH F J L rfl λc A outer s Hp E' _ Y=>v.2 ⟨K5,rfl,J.nd,Y,O,hZ,hC,kN,λ_=>⟨by show (if (aX sd).kind.isAnnotationScope=true then _ else (aX sd).kind)=_;rw[J.kind];rfl,λ_=>rfl⟩,⟨(λ_ _ z=>(by cases z)),(λ_ _ z=>(by cases z))⟩,λ_ z=>(by cases z)⟩ ⟨⟨Q.x,hR,U,rfl,rfl,rfl⟩,Q⟩) F.kp bs (λz=>(by cases z)) O
end
end MM
local macro_rules
 | `(tactic| norm_cast0)=>`(tactic| first|exact λ_ _ _ _ _ _ _ _ _ us hl=>MM.F2 (λ_=>⟨_,rfl,by kernel_rfl⟩) us (gT hl)|exact λ_ _ _ _ _ _ _ _ _ us hl=>MM.sC (λ_ _=>⟨_,rfl,by kernel_rfl⟩) us (gT hl))
namespace MM
def pf:D->M D
 | .tup ds=>mF ds
 |_=>bad
open PySem PySem.Spec PyProof.Rows L2
section
variable{prog:Program}{w:bq}{A:bn}{E:ac->ah->Prop}{s:ah}{t:af}{xs:Array (Int×Tok)}{X:Cx}
theorem VZ{Q:ac->ah->Prop}(hh:A.handled=none)(g:s.heap.IsTuple t (qk xs))(q:0 < xs.size)
  (h:∀v h' c,(qk xs)[argBest (λi j=>decide (lZ xs i > lZ xs j)) (xs.size-1)]?=some v->(∀b o,s.heap.get? b=some o->h'.get? b=some o)->Q v { s with heap:=h',toks:=c }):
  aA (aP prog w) A (call (.builtin "max") [.ref t]) Q E s:=by
 obtain⟨o,G,L,n,hd⟩:=id g;have u:=aJ G;have hsz:(qk xs).size=xs.size:=by simp[qk]
 have W:=Walks.tuple (prog:=prog) (w:=w) (A:=A.in1) hh s.heap.objs.size t (bY u) (qk xs);rw[hsz]at W;refine call_max_walk (io g ?_);refine⟨s.heap.objs.size,_,_,_,_,_,_,rfl,W,⟨⟨_,aK _ rfl,rfl,rfl⟩,g.at λo e=>aq _ e⟩,λb C=>?_,q,CmpOf.ints_gt (lZ xs) (λ_ _=>xK),λv h' c J I=>?_⟩
 ·rcases aF.mp C with rfl|C
  ·exact aJ (aK _ rfl)
  ·obtain rfl:=aE.mp C;exact aJ (aq _ G)
 ·refine h v h' c J λb o e=>I b o (λH=>?_) (aq _ e);obtain rfl:=aE.mp H;exact bp (aJ e) (cY _)
theorem UJ(hc:X.calm=true):CallR X (.builtin "max") (λxs H Q=>∃v,xs=[v]/\vn X.K pf v H Q):=by
 intro J s σ H xs us Q I r h;obtain⟨v,rfl,ρ,st,d,E,g,p⟩:=h;obtain⟨u,rfl,rx⟩:=uF r;cases g with
 |@tup a vs ds ha rr=>
  cases rx;unfold pf mF at p;cases q:lx ds with
  |none=>simp only[q]at p;exact p.elim
  |some ns=>
   simp only[q]at p;have:=MC q rr;subst this;cases ns with
   |nil=>exact p.elim
   |cons n ns=>
    obtain⟨its,g,G,hz⟩:=I.tuple ha;obtain⟨ys,e,c⟩:=L1 (K6 g);rw[e]at G;have hsz:ys.size=ns.length+1:=by have:=bH b6 c;simpa using this.symm
    refine VZ (I.ok.hd hc) G (by ext) λv h' Y hv hk=>?_;obtain⟨t,rfl⟩:=xK hv;obtain⟨b1,U⟩:=argBest_gt (lZ ys) (ys.size-1);obtain⟨O,f2⟩:=Gr ns n;generalize argBest (λi j=>decide (lZ ys i > lZ ys j)) (ys.size-1)=k at b1 U ⊢;have o:lZ ys k∈n::ns:=by rw[c,xL];exact getD_mem (by rw[<- c];simp;ext)
    have C:ns.foldl max n<=lZ ys k:=by rw[c]at O;obtain⟨j,L,ej⟩:=mem_getD O;rw[<- ej,<- xL];exact U j (by rw[<- c]at L;simp at L;ext)
    have hM:lZ ys k=ns.foldl max n:=y9 (f2 _ o) C;rw[hM];exact⟨.int _,H,I.kept (t':=Y) hk,⟨t,rfl⟩,p.ret E _ (.int _)⟩
 |_=>exact p.elim
def AJ:kX:=ug "max" (λc p=>c.tag p 32) pf λc _ g m a s=>LW (UJ c) g m (by nofun) a (tX (by nofun)) (by nofun) s
end
end MM
namespace MM
inductive kG{α:Type}(m:M α)(Q:α->aR->Prop)(W:D->aR->Prop)(s:At Q):Prop
 |ok (a:α) (s':aR) (h:m s=.ok a s') (q:Q a s'):kG m Q W s
 |exc (d:D) (s':aR) (h:m s=.exc d s') (q:W d s'):kG m Q W s
section
variable{α β:Type}{m:M α}{Q:α->aR->Prop}{W:D->aR->Prop}{s:aR}
theorem R9(h:wp m Q s):kG m Q W s:=by obtain⟨a,s',e,q⟩:=h;exact .ok a s' e q
theorem Hm(h:kG m Q (λ_ _=>False) s):wp m Q s:=by
 rcases h with ⟨a,s',e,q⟩|⟨_,_,_,q⟩
 ·exact⟨a,s',e,q⟩
 ·exact q.elim
theorem By(h:wp m Q s):kG (qu m) Q W s:=by obtain⟨a,s',e,q⟩:=h;exact .ok a s' (by unfold qu;rw[e]) q
theorem tT{f:α->M β}{R:β->aR->Prop}(h:kG m (λa s'=>kG (f a) R W s') W s):kG (bnd m f) R W s:=by
 rcases h with ⟨a,s',e,q⟩|⟨d,s',e,q⟩
 ·rcases q with ⟨b,c,g,q⟩|⟨d,c,g,q⟩
  ·exact .ok b c (by unfold bnd;rw[e];exact g) q
  ·exact .exc d c (by unfold bnd;rw[e];exact g) q
 ·exact .exc d s' (by unfold bnd;rw[e]) q
theorem yT{R:α->aR->Prop}{V:D->aR->Prop}(h:kG m Q W s)(g:∀a s',Q a s'->R a s')(c:∀d s',W d s'->V d s'):kG m R V s:=by
 rcases h with ⟨a,s',e,q⟩|⟨d,s',e,q⟩
 ·exact .ok a s' e (g a s' q)
 ·exact .exc d s' e (c d s' q)
theorem yK{a:α}(h:Q a s):kG (ret a) Q W s:=.ok a s rfl h
theorem WH{d:D}{Q:r9->aR->Prop}(h:W d s):kG (uW d) Q W s:=.exc d s rfl h
end
section
variable{Q:r9->aR->Prop}{W:D->aR->Prop}{s:aR}{l:Loc}{a b:CS}
theorem m6 (h:kG (a l) (λf s'=>match f with
  | .next l'=>kG (b l') Q W s'
  |f=>Q f s') W s):kG (aC a b l) Q W s:=tT (yT h (λf s' q=>by cases f<;>first|exact q|exact yK q) λ_ _ q=>q)
theorem wL(h:Q (.next l) s):kG (aB l) Q W s:=yK h
theorem vU{c:CS}(h:wp (c l) Q s):kG (um c l) Q W s:=By h
theorem yM{t:CT}(h:wp (t l) (λk s'=>if k=true then kG (a l) Q W s' else kG (b l) Q W s') s):kG (gj (tE t) a b l) Q W s:=
 tT (yT (By h) (λk s' q=>by cases k<;>exact q) λ_ _ q=>q)
theorem EF{y f:o_}{e:CE}(h:wp (e l) (λd s'=>W (.exn y [.str f,d]) s') s):kG (mB y f e l) Q W s:=
 tT (yT (By h) (λd s' q=>WH q) λ_ _ q=>q)
theorem GK{g:List D->M D}{c:CA}{R:D->aR->Prop}(h:wp (c l) (λds s'=>kG (g ds) R W s') s):kG (bv g (qz c) l) R W s:=
 tT (By h)
theorem Kw{e:CE}(h:kG (e l) (λ_ s'=>Q (.next l) s') W s):kG (kg e l) Q W s:=tT (yT h (λ_ s' q=>yK q) λ_ _ q=>q)
theorem Ky{i:CI}{g:CG}(h:wp (i l) (λw s'=>kG (kc (vb g) b w.same w.ds l) Q W s') s):kG (iS (Bv i) (vb g) b l) Q W s:=tT (By h)
theorem Jy{g:CG}{same:aR->Prop}{xs:List D}(J:Nat->Loc->aR->Prop)(G:∀i l s,J i l s->same s)
  (o:∀(i:Nat)d l s,xs[i]?=some d->J i l s->wp (g d l) (λE C=>kG (b E) (λf c=>match f with
   | .next l2=>J (i+1) l2 c
   | .cnt l2=>J (i+1) l2 c
   | .brk l2=>Q (.next l2) c
   | .ret d=>Q (.ret d) c) W C) s) (u:∀l s,J xs.length l s->Q (.next l) s) (I:J 0 l s):kG (kc (vb g) b same xs l) Q W s:=by
 have chk:∀{s:aR}{R:Unit->aR->Prop},same s->R () s->kG (chkS same) R W s:=λh r=>.ok () _ (by unfold chkS;rw[aG h]) r;have key:∀(n i:Nat)l s,i+n=xs.length->J i l s->kG (kc (vb g) b same (xs.drop i) l) Q W s:=by
  intro n
  induction n with
  |zero=>
   intro i l s e j;have e:i=xs.length:=by ext
   subst e;rw[dC];unfold kc;exact tT (chk (G _ _ _ j) (yK (u l s j)))
  |succ n ih=>
   intro i l s e j;have H:i < xs.length:=by ext
   rw[bR H];unfold kc;refine tT (chk (G _ _ _ j) (tT (yT (By (o i _ l s (au H) j)) (λE C q=>tT (yT q (λf c v=>?_) λ_ _ q=>q)) λ_ _ q=>q)));cases f with
   |next l2=>exact ih (i+1) l2 c (by ext) v
   |cnt l2=>exact ih (i+1) l2 c (by ext) v
   |brk l2=>exact yK v
   |ret d=>exact yK v
 have:=key xs.length 0 l s (by ext) I;rw[gi]at this;exact this
theorem Fa{n:Nat}{c:CS}{ds:List D}{R:D->aR->Prop} (h:kG (c (ds.map some++cL (n-ds.length) none)) (λf s'=>match f with
  | .ret d=>R d s'
  | .next _=>R .non s'
  |_=>False) W s):kG (bF n c ds) R W s:=tT (yT h (λf s' q=>by cases f<;>first|exact yK q|exact q.elim) λ_ _ q=>q)
end
theorem BF{g:CG}{b:CS}{same:aR->Prop}{xs:List D}{l:Loc}{s:aR}{Q:r9->aR->Prop}(W:Nat->Loc->aR->Prop)(C:∀i l s,W i l s->same s)(E:W 0 l s)
  (c:∀(R:r9->aR->Prop)(i:Nat)d l s,(∀{q h},W (i+1) q h->R (.next q) h)->(∀{d h},Q (.ret d) h->R (.ret d) h)->xs[i]?=some d->W i l s->wp (g d l) (λv u=>wp (b v) R u) s) (o:∀l s,W xs.length l s->Q (.next l) s):wp (kc g b same xs l) Q s:=
 Am W C E (λi d l s hd w=>c _ i d l s (λz=>z) (λz=>z) hd w) o
end MM
namespace My
open PySem MM
def yu:CS:=(aC (b8 (c2 cC (ay (.int 1)) (gW mF (dN 1 [1] (kf (ak 0)) (aS 0) bZ (c2 aY (c2 aY (ak 0) (ak 1)) (ay (.int 1))))))) aB)
@[irreducible] def jH:List D->M D:=bF 2 yu
def j6:CS:=(aC (gj (bT (c2 x9 (c1 dk (ak 1)) (c1 dk (c2 aY (ak 0) (ay (.int 0)))))) (aC (b8 (ay (.bl false))) aB) aB) (aC (b8 (gW nY (dN 2 [0] (kf (ak 1)) (eR 2 (bD (aS 0) (bD (aS 1) eZ))) bZ (pz (gA rG sT (ay (.int 0)) (ak 0) (c1 dk (ak 2))) (c2 v6 (ak 1) (ay (.int 0))))))) aB))
@[irreducible] def jk:List D->M D:=bF 2 j6
def jW:CS:=(aC (b8 (eY (dN 1 [0] (MM.gc (c1 dk (c2 aY (ak 0) (ay (.int 0))))) (aS 0) bZ (bv jH (ar (ak 1) (ar (ak 0) bc)))))) aB)
@[irreducible] def ji:List D->M D:=bF 1 jW
def yn:CS:=(aC (b8 (gW nY (dN 1 [1] (kf (ak 0)) (aS 0) bZ (gA rG sT (ay (.int 0)) (ak 0) (c1 dk (ak 1)))))) aB)
@[irreducible] def jq:List D->M D:=bF 2 yn
def jT:CS:=(aC (gj (bT (c2 lq (c2 aY (ak 2) (ay (.int 0))) (ay (.str "settle")))) (aC (b8 (c2 Bx (c2 aY (ak 2) (ay (.int 1))) (dO (ar (ay (.int 0)) (ar (ay (.int 1)) bc))))) aB) aB) (aC (bX (aS 3) (c2 aY (ak 2) (ay (.int 1)))) (aC (bX (aS 4) (c2 aY (ak 2) (ay (.int 2)))) (aC (bX (aS 5) (c2 aY (ak 2) (ay (.int 3)))) (aC (gj (my (fK (bT (gA rG sT (ay (.int 0)) (ak 3) (c1 dk (ak 0))))) (fK (bT (gA rG sT (ay (.int 0)) (ak 4) (c1 dk (c2 aY (ak 0) (ak 3))))))) (aC (b8 (ay (.bl false))) aB) aB) (aC (b8 (pz (c2 lq (c1 dk (ak 5)) (c2 aY (c2 aY (ak 0) (ak 3)) (ak 4))) (bv jq (ar (ak 5) (ar (ak 1) bc))))) aB))))))
@[irreducible] def jr:List D->M D:=bF 6 jT
def yb:CS:=(aC (gj (fK (bT (gA rG rG (ay (.int 1)) (c1 dk (ak 0)) (ay (.int 3))))) (aC (b8 (ay .non)) aB) aB) (aC (gj (fK (j_ (gW nY (dN 1 [] (uZ (ak 0)) (aS 0) bZ (c2 vi (ak 0) (ay (.str "0123456789"))))))) (aC (b8 (ay .non)) aB) aB) (aC (gj (kY (bT (c2 lq (c2 aY (ak 0) (ay (.int 0))) (ay (.str "0")))) (bT (c2 vy (c1 dk (ak 0)) (ay (.int 1))))) (aC (b8 (ay .non)) aB) aB) (aC (b8 (c1 oy (ak 0))) aB))))
@[irreducible] def jd:List D->M D:=bF 1 yb
def j4:CS:=(aC (bX (aS 2) (gW k_ (dN 1 [] (kf (ak 1)) (aS 0) bZ (bv jd (ar (ak 0) bc))))) (aC (gj (bT (c2 Bx (ay .non) (ak 2))) (aC rO aB) aB) (aC (b8 (ak 2)) aB)))
@[irreducible] def jb:List D->M D:=bF 3 j4
def yp:CS:=(aC (bX (on (ak 0) (ay (.int 2))) (c2 cC (c2 aY (ak 0) (ay (.int 2))) (ay (.int 1)))) (aC (gj (bT (c2 vy (c2 aY (ak 0) (ay (.int 1))) (ay (.int 0)))) (aC (bX (aS 2) (c2 li (c2 aY (ak 0) (ay (.int 1))) (ak 1))) (aC (bX (on (ak 0) (ay (.int 1))) (c2 qr (c2 aY (ak 0) (ay (.int 1))) (ak 1))) (aC (b8 (ak 2)) aB))) aB) (aC (bX (aS 3) (ay (.int 7))) (aC (gj (bT (c2 sT (c2 aY (ak 0) (ay (.int 3))) (c1 dk (c2 aY (ak 0) (ay (.int 0)))))) (aC (bX (aS 3) (c2 aY (c2 aY (ak 0) (ay (.int 0))) (c2 aY (ak 0) (ay (.int 3))))) (aC (bX (on (ak 0) (ay (.int 3))) (c2 cC (c2 aY (ak 0) (ay (.int 3))) (ay (.int 1)))) (aC (gj (bT (c2 v6 (ak 3) (c2 uP (ay (.int 10)) (ay (.int 18))))) (aC (bX (on (ak 0) (ay (.int 1))) (c2 qr (ak 3) (ak 1))) (aC (b8 (c2 li (ak 3) (ak 1))) aB)) aB) aB))) (aC (gj (bT (c2 vy (c1 dk (c2 aY (ak 0) (ay (.int 0)))) (ay (.int 0)))) (aC (bX (aS 3) (c2 aY (c2 aY (ak 0) (ay (.int 0))) (c2 li (c2 aY (ak 0) (ay (.int 2))) (c1 dk (c2 aY (ak 0) (ay (.int 0))))))) aB) aB) aB)) (aC (bX (aS 4) (c2 li (c2 cC (c2 cC (c2 lR (ak 3) (ay (.int 48271))) (c2 lR (ay (.int 7919)) (c2 aY (ak 0) (ay (.int 2))))) (ay (.int 5))) (ay (.int 2147483647)))) (aC (bX (aS 4) (c2 li (c2 cC (c2 lR (ak 4) (ak 4)) (c2 lR (ay (.int 104729)) (c2 aY (ak 0) (ay (.int 2))))) (ay (.int 2147483629)))) (aC (bX (aS 4) (c2 li (c2 cC (c2 lR (ak 4) (ay (.int 69621))) (ay (.int 16807))) (ay (.int 2147483587)))) (aC (b8 (c2 li (c2 li (c2 lR (ak 4) (ak 4)) (ay (.int 2147483579))) (ak 1))) aB))))))))
@[irreducible] def ja:List D->M D:=bF 5 yp
def jX:CS:=(aC (bX (aS 1) (c2 cC (ay (.int 1)) (bv ja (ar (ak 0) (ar (ay (.int 4)) bc))))) (aC (bX (aS 2) (c2 cC (ay (.int 1)) (bv ja (ar (ak 0) (ar (ay (.int 4)) bc))))) (aC (bX (aS 3) (c2 cC (ay (.int 1)) (bv ja (ar (ak 0) (ar (ay (.int 4)) bc))))) (aC (b8 (gW k_ (dN 1 [0,1,2,3] (MM.gc (ak 1)) (aS 0) bZ (gW k_ (dN 1 [1,2,4] (MM.gc (ak 3)) (aS 0) bZ (dO (ar (bv ja (ar (ak 1) (ar (ak 2) bc))) (ar (bv ja (ar (ak 1) (ar (ak 3) bc))) bc)))))))) aB))))
@[irreducible] def jB:List D->M D:=bF 4 jX
def ym:CS:=(aC (bX (aS 1) (c2 cC (ay (.int 1)) (bv ja (ar (ak 0) (ar (ay (.int 3)) bc))))) (aC (bX (aS 2) (bv ja (ar (ak 0) (ar (ay (.int 6)) bc)))) (aC (gj (bT (c2 lq (ak 2) (ay (.int 0)))) (aC (bX (aS 3) (eY (iE (ar (gW k_ (dN 1 [] (MM.m7 (ay (.int 1)) (c2 cC (ak 1) (ay (.int 1)))) (aS 0) bZ (dO (ar (ak 0) (ar (ak 0) bc))))) bc)))) (aC (b8 (c1 tupleD (c2 cC (ak 3) (eY (dN 1 [1] (MM.m7 (ay (.int 1)) (c2 cC (ak 1) (ay (.int 1)))) (aS 0) bZ (gW k_ (dN 1 [0] (MM.gc (ak 1)) (aS 0) bZ (dO (ar (ak 1) (ar (ak 1) bc)))))))))) aB)) aB) (aC (gj (bT (c2 lq (ak 2) (ay (.int 1)))) (aC (b8 (gW k_ (dN 1 [1] (MM.gc (ak 1)) (aS 0) bZ (c1 tupleD (c2 cC (eY (iE (ar (dO (ar (ak 0) (ar (ak 0) bc))) bc))) (eY (dN 1 [] (MM.gc (ak 1)) (aS 0) bZ (dO (ar (ak 0) (ar (ay (.int 0)) bc)))))))))) aB) aB) (aC (gj (bT (c2 lq (ak 2) (ay (.int 2)))) (aC (b8 (gW k_ (dN 1 [1] (MM.gc (c2 cC (ak 1) (ay (.int 1)))) (aS 0) bZ (gW k_ (dN 1 [0] (MM.gc (c2 cC (ak 1) (ay (.int 1)))) (aS 0) bZ (dO (ar (ak 0) (ar (ak 1) bc)))))))) aB) aB) (aC (gj (bT (c2 lq (ak 2) (ay (.int 3)))) (aC (b8 (gW k_ (dN 1 [1] (MM.gc (c2 cC (ak 1) (ay (.int 1)))) (aS 0) bZ (dO (ar (dO (ar (c2 li (c2 cC (ak 0) (ay (.int 1))) (c2 cC (ak 1) (ay (.int 1)))) (ar (ak 0) bc))) bc))))) aB) aB) (aC (b8 (bv jB (ar (ak 0) bc))) aB)))))))
@[irreducible] def jQ:List D->M D:=bF 4 ym
def yt:CS:=(aC (gj (my (bT (c2 lq (c1 dk (ak 1)) (ay (.int 0)))) (bT (c2 lq (bv ja (ar (ak 0) (ar (ay (.int 4)) bc))) (ay (.int 0))))) (aC (b8 (dO (ar (ay (.str "settle")) (ar (bv ja (ar (ak 0) (ar (ay (.int 2)) bc))) bc)))) aB) aB) (aC (bX (aS 3) (bv ja (ar (ak 0) (ar (c1 dk (ak 1)) bc)))) (aC (bX (aS 4) (c2 aY (c2 aY (ak 1) (ak 3)) (ay (.int 0)))) (aC (bX (aS 5) (bv ja (ar (ak 0) (ar (c1 dk (c2 aY (ak 4) (ay (.int 0)))) bc)))) (aC (bX (aS 6) (gW mF (dN 1 [5] (kf (ak 4)) (aS 0) bZ (c2 aY (c2 aY (ak 0) (ak 1)) (ay (.int 1)))))) (aC (b8 (dO (ar (ay (.str "do")) (ar (ak 3) (ar (ak 5) (ar (gW k_ (dN 1 [0,2] (MM.gc (c2 cC (ak 6) (ay (.int 1)))) (aS 0) bZ (bv ja (ar (ak 1) (ar (ak 2) bc))))) bc)))))) aB))))))
@[irreducible] def jU:List D->M D:=bF 7 yt
def yj:CS:=(aC (bX (aS 3) (eY (iE bc))) (aC (iS (MM.gc (bv ja (ar (ak 0) (ar (c2 cC (ak 1) (ay (.int 1))) bc)))) (aS 4) (aC (bX (aS 5) (bv jQ (ar (ak 0) bc))) (aC (kg (gX (ak 3) (dO (ar (ak 5) (ar (bv ja (ar (ak 0) (ar (c1 dk (ak 5)) bc))) bc))))) aB))) (aC (bX (aS 6) (eY (iE bc))) (aC (iS (MM.gc (c2 cC (ay (.int 2)) (bv ja (ar (ak 0) (ar (ay (.int 2)) bc))))) (aS 4) (aC (bX (aS 7) (c2 cC (ay (.int 1)) (bv ja (ar (ak 0) (ar (ak 2) bc))))) (aC (bX (aS 8) (dO (ar (bv ja (ar (ak 0) (ar (ak 7) bc))) (ar (bv ja (ar (ak 0) (ar (ak 7) bc))) bc)))) (aC (kg (gX (ak 6) (dO (ar (ak 8) (ar (gW k_ (dN 1 [0,3,7] (MM.gc (ak 7)) (aS 0) bZ (bv jU (ar (ak 1) (ar (ak 2) (ar (ak 3) bc)))))) bc))))) aB)))) (aC (b8 (dO (ar (c1 tupleD (ak 3)) (ar (c1 tupleD (ak 6)) bc)))) aB)))))
@[irreducible] def jP:List D->M D:=bF 9 yj
def jJ:CS:=(aC (gj (bT (c2 lq (c2 aY (ak 0) (ay (.int 0))) (ay (.str "settle")))) (aC (b8 (c2 cC (ay (.str "settle ")) (c1 iw (c2 aY (ak 0) (ay (.int 1)))))) aB) aB) (aC (b8 (c2 cC (c2 cC (c2 cC (c2 cC (c2 cC (ay (.str "do ")) (c1 iw (c2 aY (ak 0) (ay (.int 1))))) (ay (.str " "))) (c1 iw (c2 aY (ak 0) (ay (.int 2))))) (ay (.str " : "))) (m8 (ay (.str " ")) (eY (dN 1 [] (kf (c2 aY (ak 0) (ay (.int 3)))) (aS 0) bZ (c1 iw (ak 0))))))) aB))
@[irreducible] def jp:List D->M D:=bF 1 jJ
def yr:CS:=(aC (bX (aS 1) (eY (iE bc))) (aC (iS (kf (c2 aY (ak 0) (ay (.int 0)))) (eR 2 (bD (aS 2) (bD (aS 3) eZ))) (aC (bX (aS 4) (eY (dN 1 [] (kf (ak 2)) (aS 0) bZ (m8 (ay (.str " ")) (eY (dN 2 [] (kf (ak 0)) (eR 2 (bD (aS 0) (bD (aS 1) eZ))) bZ (c2 cC (c2 cC (c1 iw (ak 0)) (ay (.str "."))) (c1 iw (ak 1))))))))) (aC (kg (gX (ak 1) (c2 cC (c2 cC (c2 cC (ay (.str "board ")) (m8 (ay (.str " / ")) (ak 4))) (ay (.str " at "))) (c1 iw (ak 3))))) aB))) (aC (iS (kf (c2 aY (ak 0) (ay (.int 1)))) (eR 2 (bD (aS 5) (bD (aS 6) eZ))) (aC (kg (gX (ak 1) (c2 cC (c2 cC (c2 cC (ay (.str "hand ")) (c1 iw (c2 aY (ak 5) (ay (.int 0))))) (ay (.str " "))) (c1 iw (c2 aY (ak 5) (ay (.int 1))))))) (aC (bX (aS 1) (c2 cC (ak 1) (eY (dN 1 [] (kf (ak 6)) (aS 0) bZ (bv jp (ar (ak 0) bc)))))) aB))) (aC (b8 (ak 1)) aB))))
@[irreducible] def jL:List D->M D:=bF 7 yr
def jf(g:List D->M D): CS:=
  (aC (gj (j_ (c1 (eF ["tuple"]) (ak 1)))
   (aC (gj (my (fK (j_ (c1 (eF ["tuple"]) (ak 0)))) (bT (c2 x9 (c1 dk (ak 0)) (c1 dk (ak 1)))))
    (aC (b8 (ay (.bl false)))
    aB)
    aB)
   (aC (b8 (gW nY (dN 2 [] (rF (ak 0) (ak 1)) (eR 2 (bD (aS 0) (bD (aS 1) eZ))) bZ (bv g (ar (ak 0) (ar (ak 1) bc))))))
   aB))
   aB)
  (aC (gj (j_ (c1 (eF ["str"]) (ak 1)))
   (aC (b8 (pz (c1 (eF ["str"]) (ak 0)) (c2 lq (ak 0) (ak 1))))
   aB)
   aB)
  (aC (b8 (pz (c1 (eF ["int"]) (ak 0)) (pz (ud (c1 (eF ["bool"]) (ak 0))) (c2 lq (ak 0) (ak 1)))))
  aB)))
def j9:List D->M D:=λ_=>bad
@[irreducible] def js:List D->M D:=bF 2 (jf j9)
@[irreducible] def jz:List D->M D:=bF 2 (jf js)
@[irreducible] def ju:List D->M D:=bF 2 (jf jz)
@[irreducible] def jv:List D->M D:=bF 2 (jf ju)
@[irreducible] def jx:List D->M D:=bF 2 (jf jv)
@[irreducible] def jA:List D->M D:=bF 2 (jf jx)
@[irreducible] def jt:List D->M D:=bF 2 (jf jA)
@[irreducible] def jy:List D->M D:=bF 2 (jf jt)
abbrev kq:List D->M D:=jy
def jS:CS:=(aC (bX (aS 4) (lJ (iE (ar (ay (.int 0)) (ar (ay (.int 1)) (ar (ay (.int 2)) (ar (ay (.int 90)) (ar (ay (.int 900)) bc)))))) (bv ja (ar (ak 0) (ar (ay (.int 5)) bc))))) (aC (gj (bT (c2 lq (c2 aY (ak 2) (ay (.int 0))) (ay (.str "settle")))) (aC (b8 (dO (ar (ay (.str "settle")) (ar (c2 cC (ay (.int 2)) (ak 4)) bc)))) aB) aB) (aC (bX (eR 4 (bD (aS 5) (bD (aS 6) (bD (aS 7) (bD (aS 8) eZ))))) (ak 2)) (aC (bX (aS 9) (bv ja (ar (ak 0) (ar (ay (.int 5)) bc)))) (aC (gj (bT (c2 lq (ak 9) (ay (.int 0)))) (aC (b8 (dO (ar (ak 5) (ar (c2 cC (c1 dk (c2 aY (ak 1) (ay (.int 0)))) (ak 4)) (ar (ak 7) (ar (ak 8) bc)))))) aB) aB) (aC (gj (bT (c2 lq (ak 9) (ay (.int 1)))) (aC (b8 (dO (ar (ak 5) (ar (ak 6) (ar (c2 cC (ay (.int 4)) (ak 4)) (ar (ak 8) bc)))))) aB) aB) (aC (gj (bT (c2 lq (ak 9) (ay (.int 2)))) (aC (b8 (dO (ar (ak 5) (ar (ak 6) (ar (ak 7) (ar (c2 cC (ak 8) (dO (ar (ay (.int 0)) bc))) bc)))))) aB) aB) (aC (gj (kY (bT (c2 lq (ak 9) (ay (.int 3)))) (bT (c2 vy (c1 dk (ak 8)) (ay (.int 1))))) (aC (b8 (dO (ar (ak 5) (ar (ak 6) (ar (ak 7) (ar (fA (ak 8) (gJ (ay (.int 1))) iu) bc)))))) aB) aB) (aC (bX (aS 10) (bv ja (ar (ak 0) (ar (c1 dk (ak 8)) bc)))) (aC (b8 (dO (ar (ak 5) (ar (ak 6) (ar (ak 7) (ar (c2 cC (c2 cC (fA (ak 8) iu (gJ (ak 10))) (dO (ar (c2 cC (ak 3) (ak 4)) bc))) (fA (ak 8) (gJ (c2 cC (ak 10) (ay (.int 1)))) iu)) bc)))))) aB))))))))))
@[irreducible] def jo:List D->M D:=bF 11 jS
def jR:CS:=(aC (bX (eR 2 (bD (aS 3) (bD (aS 4) eZ))) (ak 2)) (aC (bX (aS 5) (bv ja (ar (ak 0) (ar (ay (.int 6)) bc)))) (aC (gj (bT (c2 lq (ak 5) (ay (.int 0)))) (aC (b8 (dO (ar (ak 3) (ar (dO bc) bc)))) aB) aB) (aC (gj (bT (c2 lq (ak 5) (ay (.int 1)))) (aC (b8 (dO (ar (dO (ar (c2 cC (c1 dk (ak 4)) (bv ja (ar (ak 0) (ar (ay (.int 3)) bc)))) (ar (c2 aY (ak 3) (ay (.int 1))) bc))) (ar (ak 4) bc)))) aB) aB) (aC (gj (bT (c2 lq (ak 5) (ay (.int 2)))) (aC (b8 (dO (ar (dO (ar (c2 aY (ak 3) (ay (.int 0))) (ar (c2 cC (c1 dk (ak 4)) (bv ja (ar (ak 0) (ar (ay (.int 3)) bc)))) bc))) (ar (ak 4) bc)))) aB) aB) (aC (gj (bT (c2 lq (c1 dk (ak 4)) (ay (.int 0)))) (aC (b8 (ak 2)) aB) aB) (aC (bX (aS 6) (bv ja (ar (ak 0) (ar (c1 dk (ak 4)) bc)))) (aC (b8 (dO (ar (ak 3) (ar (c2 cC (c2 cC (fA (ak 4) iu (gJ (ak 6))) (dO (ar (bv jo (ar (ak 0) (ar (ak 1) (ar (c2 aY (ak 4) (ak 6)) (ar (c1 dk (ak 4)) bc))))) bc))) (fA (ak 4) (gJ (c2 cC (ak 6) (ay (.int 1)))) iu)) bc)))) aB))))))))
@[irreducible] def jm:List D->M D:=bF 7 jR
def j8:CS:=(aC (bX (eR 2 (bD (aS 2) (bD (aS 3) eZ))) (ak 1)) (aC (bX (aS 4) (bv ja (ar (ak 0) (ar (ay (.int 6)) bc)))) (aC (gj (kY (bT (c2 lq (ak 4) (ay (.int 0)))) (bT (c2 vy (c1 dk (ak 2)) (ay (.int 0))))) (aC (bX (aS 5) (bv ja (ar (ak 0) (ar (c1 dk (ak 2)) bc)))) (aC (bX (aS 6) (dO (ar (c2 aY (c2 aY (ak 2) (ak 5)) (ay (.int 0))) (ar (c2 cC (c1 dk (c2 aY (c2 aY (ak 2) (ak 5)) (ay (.int 0)))) (bv ja (ar (ak 0) (ar (ay (.int 3)) bc)))) bc)))) (aC (b8 (dO (ar (c2 cC (c2 cC (fA (ak 2) iu (gJ (ak 5))) (dO (ar (ak 6) bc))) (fA (ak 2) (gJ (c2 cC (ak 5) (ay (.int 1)))) iu)) (ar (ak 3) bc)))) aB))) aB) (aC (gj (bT (c2 lq (ak 4) (ay (.int 1)))) (aC (b8 (dO (ar (ak 2) (ar (lJ (iE (ar (fA (ak 3) iu (gJ (ay (.int 1)))) (ar (c2 cC (ak 3) (fA (ak 3) iu (gJ (ay (.int 2))))) bc))) (bv ja (ar (ak 0) (ar (ay (.int 2)) bc)))) bc)))) aB) aB) (aC (bX (aS 5) (bv ja (ar (ak 0) (ar (c1 dk (ak 3)) bc)))) (aC (b8 (dO (ar (ak 2) (ar (c2 cC (c2 cC (fA (ak 3) iu (gJ (ak 5))) (dO (ar (bv jm (ar (ak 0) (ar (ak 1) (ar (c2 aY (ak 3) (ak 5)) bc)))) bc))) (fA (ak 3) (gJ (c2 cC (ak 5) (ay (.int 1)))) iu)) bc)))) aB))))))
@[irreducible] def jG:List D->M D:=bF 7 j8
def jl:CS:=(aC (gj (bT (c2 lq (c2 aY (ak 2) (ay (.int 0))) (ay (.str "settle")))) (aC (b8 (c2 sT (c2 aY (ak 2) (ay (.int 1))) (ay (.int 2)))) aB) aB) (aC (bX (eR 4 (bD (aS 3) (bD (aS 4) (bD (aS 5) (bD (aS 6) eZ))))) (ak 2)) (aC (gj (my (bT (c2 v6 (ak 4) (c1 dk (c2 aY (ak 0) (ay (.int 0)))))) (bT (c2 v6 (ak 5) (c1 dk (c2 aY (c2 aY (c2 aY (c2 aY (ak 0) (ay (.int 0))) (ak 4)) (ay (.int 0))) (ay (.int 0))))))) (aC (b8 (ay (.bl false))) aB) aB) (aC (gj (bT (c2 x9 (c1 dk (ak 6)) (c2 cC (ay (.int 1)) (gW mF (dN 1 [5] (kf (c2 aY (c2 aY (c2 aY (ak 0) (ay (.int 0))) (ak 4)) (ay (.int 0)))) (aS 0) bZ (c2 aY (c2 aY (ak 0) (ak 1)) (ay (.int 1)))))))) (aC (b8 (ay (.bl false))) aB) aB) (aC (b8 (c2 sT (c1 pf (ak 6)) (c1 dk (ak 1)))) aB)))))
@[irreducible] def je:List D->M D:=bF 7 jl
def yk:CS:=(aC (iS (ml (c2 aY (ak 0) (ay (.int 0)))) (eR 2 (bD (aS 1) (bD (eR 2 (bD (aS 2) (bD (aS 3) eZ))) eZ))) (aC (gj (bT (c2 v6 (ak 3) (c1 dk (ak 2)))) (aC (b8 (dO (ar (ay (.str "board")) (ar (ak 1) bc)))) aB) aB) aB)) (aC (gj (my (bT (c2 sT (c1 dk (c2 aY (ak 0) (ay (.int 1)))) (ay (.int 2)))) (bT (c2 vy (c1 dk (c2 aY (ak 0) (ay (.int 1)))) (ay (.int 3))))) (aC (b8 (dO (ar (ay (.str "hands")) bc))) aB) aB) (aC (iS (ml (c2 aY (ak 0) (ay (.int 1)))) (eR 2 (bD (aS 1) (bD (eR 2 (bD (aS 4) (bD (aS 5) eZ))) eZ))) (aC (gj (bT (c2 v6 (c1 pf (ak 4)) (c1 dk (ak 5)))) (aC (b8 (dO (ar (ay (.str "hand")) (ar (ak 1) bc)))) aB) aB) (aC (iS (ml (ak 5)) (eR 2 (bD (aS 6) (bD (aS 7) eZ))) (aC (gj (fK (j_ (bv je (ar (ak 0) (ar (ak 5) (ar (ak 7) bc)))))) (aC (b8 (dO (ar (ay (.str "line")) (ar (ak 1) (ar (ak 6) bc))))) aB) aB) aB)) aB))) (aC (b8 (ay .non)) aB))))
@[irreducible] def jD:List D->M D:=bF 8 yk
def j7:CS:=(aC (gj (my (bT (c2 lq (c1 dk (ak 0)) (ay (.int 0)))) (bT (c2 lq (c1 dk (c2 aY (ak 0) (ay (.int 0)))) (ay (.int 0))))) (aC (b8 (ay (.bl false))) aB) aB) (aC (b8 (gW nY (dN 1 [0] (kf (ak 0)) (aS 0) bZ (bv jk (ar (ak 1) (ar (ak 0) bc)))))) aB))
@[irreducible] def jj:List D->M D:=bF 1 j7
def jV:CS:=(aC (iS (Bv (ml (ak 0))) (vb (eR 2 (bD (aS 1) (bD (aS 2) eZ)))) (aC (um (bX (aS 3) (c2 aY (ak 2) (ay (.int 0))))) (aC (gj (tE (my (fK (j_ (bv jj (ar (ak 3) bc)))) (fK (bT (gA rG sT (ay (.int 0)) (c2 aY (ak 2) (ay (.int 1))) (c1 dk (ak 3))))))) (aC (mB "NoHouse" "place" (dO (ar (ay (.str "board")) (ar (ak 1) bc)))) aB) aB) aB))) aB)
@[irreducible] def jc:List D->M D:=bF 4 jV
def jZ:CS:=(aC (um (bX (aS 3) (c2 aY (ak 2) (ay (.int 1))))) (aC (gj (tE (fK (j_ (bv jq (ar (c2 aY (ak 2) (ay (.int 0))) (ar (ak 3) bc)))))) (aC (mB "NoHouse" "place" (dO (ar (ay (.str "hand")) (ar (ak 1) bc)))) aB) aB) (aC (iS (Bv (ml (ak 3))) (vb (eR 2 (bD (aS 4) (bD (aS 5) eZ)))) (aC (gj (tE (fK (j_ (bv jr (ar (ak 0) (ar (ak 3) (ar (ak 5) bc))))))) (aC (mB "NoHouse" "place" (dO (ar (ay (.str "line")) (ar (ak 1) (ar (ak 4) bc))))) aB) aB) aB)) aB)))
@[irreducible] def jg:List D->M D:=bF 6 jZ
def yo:CS:=(aC (bX (aS 1) (gW k_ (dN 1 [] (kf (kP (ak 0) (ay (.str ".")))) (aS 0) bZ (bv jd (ar (ak 0) bc))))) (aC (gj (my (bT (c2 x9 (c1 dk (ak 1)) (ay (.int 2)))) (bT (c2 Bx (ay .non) (ak 1)))) (aC rO aB) aB) (aC (b8 (ak 1)) aB)))
@[irreducible] def jO:List D->M D:=bF 2 yo
def jY:CS:=(aC (gj (kY (bT (c2 lq (c2 aY (ak 1) (ay (.int 0))) (ay (.str "settle")))) (bT (c2 lq (c1 dk (ak 1)) (ay (.int 2))))) (aC (b8 (c2 cC (dO (ar (ay (.str "settle")) bc)) (bv jb (ar (ak 0) (ar (eY (ly (ak 1) (gJ (ay (.int 1))) iu)) bc))))) aB) aB) (aC (gj (kY (bT (c2 lq (c2 aY (ak 1) (ay (.int 0))) (ay (.str "do")))) (kY (bT (c2 vy (c1 dk (ak 1)) (ay (.int 4)))) (bT (c2 lq (c2 aY (ak 1) (ay (.int 3))) (ay (.str ":")))))) (aC (b8 (c2 cC (c2 cC (dO (ar (ay (.str "do")) bc)) (bv jb (ar (ak 0) (ar (eY (ly (ak 1) (gJ (ay (.int 1))) (gJ (ay (.int 3))))) bc)))) (dO (ar (bv jb (ar (ak 0) (ar (eY (ly (ak 1) (gJ (ay (.int 4))) iu)) bc))) bc)))) aB) aB) (aC rO aB)))
@[irreducible] def jE:List D->M D:=bF 2 jY
def yv:CS:=(aC (um (bX (aS 1) (c2 aY (ak 0) (ay (.int 0))))) (aC (um (bX (aS 2) (c2 aY (ak 0) (ay (.int 1))))) (aC (kg (bv jc (qz (ar (ak 1) bc)))) (aC (gj (tE (fK (bT (gA rG rG (ay (.int 2)) (c1 dk (ak 2)) (ay (.int 3)))))) (aC (mB "NoHouse" "place" (dO (ar (ay (.str "hands")) bc))) aB) aB) (aC (um (bX (aS 3) (eY (dN 2 [] (kf (ak 1)) (eR 2 (bD (aS 0) (bD (aS 1) eZ))) bZ (bv ji (ar (ak 0) bc)))))) (aC (iS (Bv (ml (ak 2))) (vb (eR 2 (bD (aS 4) (bD (aS 5) eZ)))) (aC (kg (bv jg (qz (ar (ak 3) (ar (ak 4) (ar (ak 5) bc)))))) aB)) (aC (um (b8 (ay (.bl true)))) aB)))))))
@[irreducible] def jC:List D->M D:=bF 6 yv
def ye:CS:=(aC (b8 (gW k_ (dN 1 [] (kf (kP (ak 0) (ay (.str " ")))) (aS 0) bZ (bv jO (ar (ak 0) bc))))) aB)
@[irreducible] def jI:List D->M D:=bF 1 ye
def yf:CS:=(aC (bX (aS 2) (eY (iE bc))) (aC (iS (MM.m7 (ak 1) (c1 dk (ak 0))) (aS 3) (aC (bX (aS 4) (kP (c2 aY (ak 0) (ak 3)) (ay (.str " ")))) (aC (gj (kY (bT (c2 lq (c2 aY (ak 4) (ay (.int 0))) (ay (.str "hand")))) (bT (c2 lq (c1 dk (ak 4)) (ay (.int 3))))) (aC (kg (gX (ak 2) (dO (ar (bv jb (ar (ak 3) (ar (eY (ly (ak 4) (gJ (ay (.int 1))) iu)) bc))) (ar (eY (iE bc)) bc))))) aB) (aC (gj (bT (c2 vy (c1 dk (ak 2)) (ay (.int 0)))) (aC (kg (gX (c2 aY (c2 aY (ak 2) (c1 vh (ay (.int 1)))) (ay (.int 1))) (bv jE (ar (ak 3) (ar (ak 4) bc))))) aB) (aC rO aB)) aB)) aB))) (aC (b8 (gW k_ (dN 2 [] (kf (ak 2)) (eR 2 (bD (aS 0) (bD (aS 1) eZ))) bZ (dO (ar (ak 0) (ar (c1 tupleD (ak 1)) bc)))))) aB)))
@[irreducible] def jK:List D->M D:=bF 5 yf
def yi:CS:=(aC (bX (aS 1) (gW k_ (dN 1 [] (kf (kP (ak 0) (ay (.str " / ")))) (aS 0) bZ (bv jI (ar (ak 0) bc))))) (aC (gj (fK (j_ (bv jj (ar (ak 1) bc)))) (aC rO aB) aB) (aC (b8 (ak 1)) aB)))
@[irreducible] def jM:List D->M D:=bF 2 yi
def yg:CS:=(aC (bX (aS 2) (ox fP (ak 1) (ay (.str " at ")))) (aC (bX (aS 3) (ox f_ (c2 aY (ak 2) (ay (.int 0))) (ay (.str " ")))) (aC (aC (bX (aS 4) (bv jM (ar (c2 aY (ak 3) (ay (.int 2))) bc))) aB) (aC (b8 (dO (ar (ak 4) (ar (c2 aY (bv jb (ar (ak 0) (ar (eY (iE (ar (c2 aY (ak 2) (ay (.int 2))) bc))) bc))) (ay (.int 0))) bc)))) aB))))
@[irreducible] def jN:List D->M D:=bF 5 yg
def yd:CS:=(aC (bX (aS 1) (eY (iE bc))) (aC (iS (pF (ak 0)) (eR 2 (bD (aS 2) (bD (aS 3) eZ))) (aC (gj (fK (j_ (m4 (ak 3) (ay (.str "board "))))) (aC (b8 (c1 tupleD (ak 1))) aB) aB) (aC (kg (gX (ak 1) (bv jN (ar (ak 2) (ar (ak 3) bc))))) aB))) (aC rO aB)))
@[irreducible] def jF:List D->M D:=bF 4 yd
def yh:CS:=(aC (um (bX (aS 1) (kP (ak 0) (ay (.str "\n"))))) (aC (um (bX (aS 2) (bv jF (ar (ak 1) bc)))) (aC (um (bX (aS 3) (dO (ar (ak 2) (ar (bv jK (ar (ak 1) (ar (c1 dk (ak 2)) bc))) bc))))) (aC (kg (bv jC (qz (ar (ak 3) bc)))) (aC (um (b8 (ak 3))) aB)))))
@[irreducible] def jh:List D->M D:=bF 4 yh
def yc:CS:=(aC (bX (aS 3) (ay .non)) (aC (bX (aS 4) (ay .non)) (aC (m9 (bX (aS 4) (qP [("read_house",1,jh),("look",1,jC),("look_at_hand",3,jg),("look_at_boards",1,jc)] 0 (ar (ak 1) bc))) ["NoHouse"] 5 (aC (bX (aS 3) (ak 5)) aB)) (aC (gj (bT (c2 Ar (ak 2) (ay .non))) (aC (b8 (pz (c2 Ar (ak 3) (ay .non)) (c2 pv (ak 4) (ay .non)))) aB) aB) (aC (gj (my (fK (j_ (c1 (mZ ["NoHouse"] λx=>x == "NoHouse" || ("PactError":Str) == "NoHouse") (ak 3)))) (fK (j_ (c1 (mZ ["NoHouse"] λ_=>true) (ak 3))))) (aC (b8 (ay (.bl false))) aB) aB) (aC (gj (j_ (c1 (mZ ["NoHouse"] λx=>["NoMark","NoRow","NoTable","NoText","NotGood","NotMeek","TooMany"].any λt=>x == t||("PactError":Str) == t) (ak 3))) (aC (b8 (ay (.bl false))) aB) aB) (aC (b8 (bv kq (ar (c1 (qB "NoHouse" "place") (ak 3)) (ar (ak 2) bc)))) aB)))))))
@[irreducible] def jw:List D->M D:=bF 6 yc
def yw:CS:=(aC (bX (aS 1) (eY (iE (ar (c1 tD (ak 0)) (ar (ay (.int 0)) (ar (ay (.int 0)) (ar (ay (.int 0)) bc))))))) (aC (bX (aS 2) (bv jP (ar (ak 1) (ar (ay (.int 4)) (ar (ay (.int 8)) bc))))) (aC (bX (aS 3) (m8 (ay (.str "\n")) (bv jL (ar (ak 2) bc)))) (aC (gj (my (fK (j_ (bv kq (ar (bv jh (ar (ak 3) bc)) (ar (ak 2) bc))))) (bT (c2 pv (bv jC (ar (ak 2) bc)) (ay (.bl true))))) (aC (b8 (ay (.bl false))) aB) aB) (aC (iS (MM.gc (ay (.int 3))) (aS 4) (aC (bX (aS 5) (ak 2)) (aC (iS (MM.gc (c2 cC (ay (.int 1)) (bv ja (ar (ak 1) (ar (ay (.int 3)) bc))))) (aS 6) (aC (bX (aS 5) (bv jG (ar (ak 1) (ar (ak 5) bc)))) aB)) (aC (bX (aS 7) (bv jD (ar (ak 5) bc))) (aC (iS (MM.gc (ay (.int 2))) (aS 8) (aC (gj (fK (j_ (bv jw (ar (ay (.exn "read_house" [.non])) (ar (m8 (ay (.str "\n")) (bv jL (ar (ak 5) bc))) (ar (ak 7) bc)))))) (aC (b8 (ay (.bl false))) aB) aB) (aC (gj (fK (j_ (bv jw (ar (ay (.exn "look" [.non])) (ar (ak 5) (ar (ak 7) bc)))))) (aC (b8 (ay (.bl false))) aB) aB) aB))) aB))))) (aC (b8 (bv kq (ar (bv jh (ar (ak 3) bc)) (ar (ak 2) bc)))) aB))))))
@[irreducible] def yq:List D->M D:=bF 9 yw
open PySem.Spec PyProof.Rows L2
noncomputable def top(i:Nat):Stmt:=ic.main.body.getD i (.Pass ⟨0,0,0,0⟩)
noncomputable def Ku:Stmt->Stmt
 | .ClassDef _ _ _ (s::_) _ _ _ _ _ _ _=>s
 |s=>s
noncomputable abbrev yy:List Str:=["NoMark","NoRow","NoTable","NoText","NotGood","NotMeek","TooMany","NoHouse","PactError"]
set_option genInjectivity false in
structure Txt(K:aj)(mg:Str->Option ac):Prop where
 f0:FnAt K mg "answers" (top 11)
 f1:FnAt K mg "is_state" (top 13)
 f2:FnAt K mg "answer_counts" (top 17)
 f3:FnAt K mg "are_lines" (top 19)
 f4:FnAt K mg "is_line" (top 20)
 f5:FnAt K mg "read_number" (top 27)
 f6:FnAt K mg "read_numbers" (top 34)
 f7:FnAt K mg "_law_draw" (top 36)
 f8:FnAt K mg "_law_any_table" (top 37)
 f9:FnAt K mg "_law_table" (top 38)
 f10:FnAt K mg "_law_line" (top 39)
 f11:FnAt K mg "_law_house" (top 40)
 f12:FnAt K mg "_law_line_text" (top 41)
 f13:FnAt K mg "_law_rows" (top 42)
 f14:FnAt K mg "_law_alike" (top 43)
 f15:FnAt K mg "_law_line_changed" (top 44)
 f16:FnAt K mg "_law_hand_changed" (top 45)
 f17:FnAt K mg "_law_changed" (top 46)
 f18:FnAt K mg "_law_line_right" (top 47)
 f19:FnAt K mg "_law_wrong" (top 48)
 f20:FnAt K mg "is_table" (top 12)
 f21:FnAt K mg "look_at_boards" (top 16)
 f22:FnAt K mg "look_at_hand" (top 18)
 f23:FnAt K mg "read_pair" (top 26)
 f24:FnAt K mg "read_line" (top 33)
 f25:FnAt K mg "look" (top 15)
 f26:FnAt K mg "read_state" (top 25)
 f27:FnAt K mg "read_hands" (top 32)
 f28:FnAt K mg "read_table" (top 24)
 f29:FnAt K mg "read_board" (top 31)
 f30:FnAt K mg "read_boards" (top 30)
 f31:FnAt K mg "read_house" (top 29)
 f32:FnAt K mg "_law_refused" (top 49)
 f33:FnAt K mg "law" (top 50)
 z:vm mg ["ValueError","all","bool","enumerate","int","isinstance","len","list","max","range","str","tuple","zip"]
 c:rP K mg [("FIGURES",.str "0123456789"),("MOST_FIGURES",.int 3),("look",.exn "look" [.non]),("read_house",.exn "read_house" [.non])]
 x:XT K mg "NoHouse" "place" "NoHouse.__init__" (Ku (top 3))
 o:yR K mg yy
section
variable{P:Program}{w:bq}{K:aj}{mg:Str->Option ac}{base:bh}
def NL:qK:=C0 4 .In vi (λ_=>Vy)
def Nk:qK:=p9 .Lt sT (λ_=>Lh)
def Lz:qK:=p9 .LtE rG (λ_=>FU)
def OK:qK:=p9 .Gt vy (λ_=>RW)
def OM:qK:=p9 .GtE v6 (λ_=>Ve)
def Nx:qK:=p9 .Eq lq (λh=>Vt h)
def OC:qK:=p9 .NotEq x9 (λh=>OH h)
def N2:qK:=p9 .Is Ar (λ_=>Ut)
def K3:qK:=p9 .IsNot pv (λ_=>Sb)
def MN:qK:=p9 .In Bx (λh=>Xy h)
def C1:qK:=vz .LtE rG (λ_=>FU) .LtE rG (λ_=>FU)
def DL:qK:=vz .LtE rG (λ_=>FU) .Lt sT (λ_=>Lh)
def RR:mj:=⟨[G0,IL,D4,AJ,wk,MM.EB,Jf,BZ,Dk,Ci,EC,JA,DK,xj,El,AM,HQ,zK,DB,xq,u4,we,ua,wO,z_,Ek,wT,Cp,DQ .Add cC (λ_=>Rh),DQ .Mult lR (λ_=>QC),DQ .FloorDiv qr (λ_=>Rl),DQ .Mod li (λ_=>UN),DQ .Pow uP (λ_=>Sh),NL.e,Nk.e,Lz.e,OK.e,OM.e,Nx.e,OC.e,N2.e,K3.e,MN.e,C1.e,DL.e,Ib,IY,Hv],[IU,DH,zu],[NL.t,Nk.t,Lz.t,OK.t,OM.t,Nx.t,OC.t,N2.t,K3.t,MN.t,C1.t,DL.t,zT,zN,Tu],[xx,wK,wt,AH,AR true,Cz,C6],[Pt,Ea,Dg],[J2,Eu,KA,C9,Dz,zx,wQ,Az,B6,DA]⟩
noncomputable abbrev hh:List (Nat×Nat×Nat):=[(95,16,4),(95,44,4),(99,11,4),(109,19,16),(218,69,7),(235,43,1),(237,39,1),(237,89,1),(250,25,1),(250,138,1),(257,16,1),(257,53,1),(259,30,1),(259,59,1),(261,25,1),(261,119,1),(270,11,32),(278,11,32)]
noncomputable def Oa:List (Str×RF):=[]
theorem Rz(T:Txt K mg):bU P w K mg base Oa:=Vi
noncomputable def LA:List (Str×RF):=[]
theorem Xd(T:Txt K mg):lz P w K mg base LA:=λ_ _ h=>(by cases h)
theorem xr(T:Txt K mg):XR P w K mg base "NoHouse" "place":=UV (n1:="self") (n2:="place") T.x rfl (by nofun) rfl (by nofun) (by nofun) (by nofun) (by nofun) (λ_ _ _ _ _ _=>sC λ_ _=>rfl)
def ND:List (Str×RF):=qE "answers" (top 11) 2 0 jH Oa
theorem P6(T:Txt K mg):bU P w K mg base ND:=n6 RR hh 2 T.f0 (Rz T) T.z T.c
def MX:List (Str×RF):=qE "is_state" (top 13) 2 0 jk ND
theorem R5(T:Txt K mg):bU P w K mg base MX:=n6 RR hh 2 T.f1 (P6 T) T.z T.c
def LK:List (Str×RF):=qE "answer_counts" (top 17) 1 1 ji MX
theorem UW(T:Txt K mg):bU P w K mg base LK:=n6 RR hh 1 T.f2 (R5 T) T.z T.c
def M_:List (Str×RF):=qE "are_lines" (top 19) 2 0 jq LK
theorem WG(T:Txt K mg):bU P w K mg base M_:=n6 RR hh 2 T.f3 (UW T) T.z T.c
def NI:List (Str×RF):=qE "is_line" (top 20) 3 1 jr M_
theorem Rq(T:Txt K mg):bU P w K mg base NI:=n6 RR hh 3 T.f4 (WG T) T.z T.c
def Md:List (Str×RF):=qE "read_number" (top 27) 1 0 jd NI
theorem Tv(T:Txt K mg):bU P w K mg base Md:=n6 RR hh 1 T.f5 (Rq T) T.z T.c
def M8:List (Str×RF):=qE "read_numbers" (top 34) 2 1 jb Md
theorem Uc(T:Txt K mg):bU P w K mg base M8:=n6 RR hh 2 T.f6 (Tv T) T.z T.c
def Ni:List (Str×RF):=qE "_law_draw" (top 36) 2 0 ja M8
theorem R3(T:Txt K mg):bU P w K mg base Ni:=n6 RR hh 2 T.f7 (Uc T) T.z T.c
def MD:List (Str×RF):=qE "_law_any_table" (top 37) 1 1 jB Ni
theorem T9(T:Txt K mg):bU P w K mg base MD:=n6 RR hh 1 T.f8 (R3 T) T.z T.c
def DN:List (Str×RF):=qE "_law_table" (top 38) 1 2 jQ MD
theorem HW(T:Txt K mg):bU P w K mg base DN:=n6 RR hh 1 T.f9 (T9 T) T.z T.c
def Dv:List (Str×RF):=qE "_law_line" (top 39) 3 1 jU DN
theorem Iy(T:Txt K mg):bU P w K mg base Dv:=n6 RR hh 3 T.f10 (HW T) T.z T.c
def DR:List (Str×RF):=qE "_law_house" (top 40) 3 3 jP Dv
theorem Kl(T:Txt K mg):bU P w K mg base DR:=n6 RR hh 3 T.f11 (Iy T) T.z T.c
def CV:List (Str×RF):=qE "_law_line_text" (top 41) 1 0 jp DR
theorem HN(T:Txt K mg):bU P w K mg base CV:=n6 RR hh 1 T.f12 (Kl T) T.z T.c
def Dw:List (Str×RF):=qE "_law_rows" (top 42) 1 1 jL CV
theorem Kr(T:Txt K mg):bU P w K mg base Dw:=n6 RR hh 1 T.f13 (HN T) T.z T.c
def uY:List (Str×RF):=("_law_alike",⟨2,1,["_law_found","_law_due"],false,λ_=>bad⟩)::Dw
theorem QQ(T:Txt K mg):bU P w K mg base uY:=Q2 T.f14 rfl (λ_ _ _ _ _ _=>sC λ_ _=>rfl) (Kr T)
def sL:List (Str×RF):=("_law_alike",⟨2,2,["_law_found","_law_due"],false,js⟩)::uY
theorem Vb(T:Txt K mg):bU P w K mg base sL:=by unfold sL js;exact wE RR (r:=[]) (H:=hh) T.f14 (by nofun) (λ_ _ _ _ _ _=>sC λ_ _=>rfl) (λz=>(by cases z)) (by kernel_rfl) (QQ T) T.z T.c
def sZ:List (Str×RF):=("_law_alike",⟨2,3,["_law_found","_law_due"],false,jz⟩)::sL
theorem Rr(T:Txt K mg):bU P w K mg base sZ:=by unfold sZ jz;exact wE RR (r:=[]) (H:=hh) T.f14 (by nofun) (λ_ _ _ _ _ _=>sC λ_ _=>rfl) (λz=>(by cases z)) (by kernel_rfl) (Vb T) T.z T.c
def s_:List (Str×RF):=("_law_alike",⟨2,4,["_law_found","_law_due"],false,ju⟩)::sZ
theorem P7(T:Txt K mg):bU P w K mg base s_:=by unfold s_ ju;exact wE RR (r:=[]) (H:=hh) T.f14 (by nofun) (λ_ _ _ _ _ _=>sC λ_ _=>rfl) (λz=>(by cases z)) (by kernel_rfl) (Rr T) T.z T.c
def sV:List (Str×RF):=("_law_alike",⟨2,5,["_law_found","_law_due"],false,jv⟩)::s_
theorem S9(T:Txt K mg):bU P w K mg base sV:=by unfold sV jv;exact wE RR (r:=[]) (H:=hh) T.f14 (by nofun) (λ_ _ _ _ _ _=>sC λ_ _=>rfl) (λz=>(by cases z)) (by kernel_rfl) (P7 T) T.z T.c
def sx:List (Str×RF):=("_law_alike",⟨2,6,["_law_found","_law_due"],false,jx⟩)::sV
theorem Sx(T:Txt K mg):bU P w K mg base sx:=by unfold sx jx;exact wE RR (r:=[]) (H:=hh) T.f14 (by nofun) (λ_ _ _ _ _ _=>sC λ_ _=>rfl) (λz=>(by cases z)) (by kernel_rfl) (S9 T) T.z T.c
def sE:List (Str×RF):=("_law_alike",⟨2,7,["_law_found","_law_due"],false,jA⟩)::sx
theorem OZ(T:Txt K mg):bU P w K mg base sE:=by unfold sE jA;exact wE RR (r:=[]) (H:=hh) T.f14 (by nofun) (λ_ _ _ _ _ _=>sC λ_ _=>rfl) (λz=>(by cases z)) (by kernel_rfl) (Sx T) T.z T.c
def sI:List (Str×RF):=("_law_alike",⟨2,8,["_law_found","_law_due"],false,jt⟩)::sE
theorem Q0(T:Txt K mg):bU P w K mg base sI:=by unfold sI jt;exact wE RR (r:=[]) (H:=hh) T.f14 (by nofun) (λ_ _ _ _ _ _=>sC λ_ _=>rfl) (λz=>(by cases z)) (by kernel_rfl) (OZ T) T.z T.c
def sy:List (Str×RF):=("_law_alike",⟨2,9,["_law_found","_law_due"],false,jy⟩)::sI
theorem UL(T:Txt K mg):bU P w K mg base sy:=by unfold sy jy;exact wE RR (r:=[]) (H:=hh) T.f14 (by nofun) (λ_ _ _ _ _ _=>sC λ_ _=>rfl) (λz=>(by cases z)) (by kernel_rfl) (Q0 T) T.z T.c
abbrev CU:List (Str×RF):=sy
theorem Kc(T:Txt K mg):bU P w K mg base CU:=UL T
def CQ:List (Str×RF):=qE "_law_line_changed" (top 44) 4 1 jo CU
theorem IF(T:Txt K mg):bU P w K mg base CQ:=n6 RR hh 4 T.f15 (Kc T) T.z T.c
def Dr:List (Str×RF):=qE "_law_hand_changed" (top 45) 3 2 jm CQ
theorem Gb(T:Txt K mg):bU P w K mg base Dr:=n6 RR hh 3 T.f16 (IF T) T.z T.c
def B5:List (Str×RF):=qE "_law_changed" (top 46) 2 3 jG Dr
theorem IX(T:Txt K mg):bU P w K mg base B5:=n6 RR hh 2 T.f17 (Gb T) T.z T.c
def BY:List (Str×RF):=qE "_law_line_right" (top 47) 3 0 je B5
theorem JP(T:Txt K mg):bU P w K mg base BY:=n6 RR hh 3 T.f18 (IX T) T.z T.c
def D2:List (Str×RF):=qE "_law_wrong" (top 48) 1 1 jD BY
theorem Ki(T:Txt K mg):bU P w K mg base D2:=n6 RR hh 1 T.f19 (JP T) T.z T.c
def Ck:List (Str×RF):=qE "is_table" (top 12) 1 1 jj D2
theorem He(T:Txt K mg):bU P w K mg base Ck:=n6 RR hh 1 T.f20 (Ki T) T.z T.c
def Ah:List (Str×RF):=qE "look_at_boards" (top 16) 1 2 jc Ck
def J4:List (Str×RF):=qE "look_at_boards" (top 16) 1 2 jc LA
theorem Ej(T:Txt K mg):lz P w K mg base J4/\bU P w K mg base Ah:=Fm RR hh 1 T.f21 ⟨Xd T,He T⟩ (xr T) T.z T.c
theorem JZ(T:Txt K mg):bU P w K mg base Ah:=(Ej T).2
theorem X_(T:Txt K mg):lz P w K mg base J4:=(Ej T).1
def Al:List (Str×RF):=qE "look_at_hand" (top 18) 3 2 jg Ah
def J5:List (Str×RF):=qE "look_at_hand" (top 18) 3 2 jg J4
theorem Ee(T:Txt K mg):lz P w K mg base J5/\bU P w K mg base Al:=Fm RR hh 3 T.f22 ⟨X_ T,JZ T⟩ (xr T) T.z T.c
theorem HJ(T:Txt K mg):bU P w K mg base Al:=(Ee T).2
theorem RM(T:Txt K mg):lz P w K mg base J5:=(Ee T).1
def Cb:List (Str×RF):=qE "read_pair" (top 26) 1 1 jO Al
theorem JR(T:Txt K mg):bU P w K mg base Cb:=n6 RR hh 1 T.f23 (HJ T) T.z T.c
def Cn:List (Str×RF):=qE "read_line" (top 33) 2 2 jE Cb
theorem Hn(T:Txt K mg):bU P w K mg base Cn:=n6 RR hh 2 T.f24 (JR T) T.z T.c
def zU:List (Str×RF):=qE "look" (top 15) 1 3 jC Cn
def IV:List (Str×RF):=qE "look" (top 15) 1 3 jC J5
theorem Ev(T:Txt K mg):lz P w K mg base IV/\bU P w K mg base zU:=Fm RR hh 1 T.f25 ⟨RM T,Hn T⟩ (xr T) T.z T.c
theorem Jp(T:Txt K mg):bU P w K mg base zU:=(Ev T).2
theorem UU(T:Txt K mg):lz P w K mg base IV:=(Ev T).1
def C4:List (Str×RF):=qE "read_state" (top 25) 1 2 jI zU
theorem Hy(T:Txt K mg):bU P w K mg base C4:=n6 RR hh 1 T.f26 (Jp T) T.z T.c
def Ed:List (Str×RF):=qE "read_hands" (top 32) 2 3 jK C4
theorem IW(T:Txt K mg):bU P w K mg base Ed:=n6 RR hh 2 T.f27 (Hy T) T.z T.c
def C8:List (Str×RF):=qE "read_table" (top 24) 1 3 jM Ed
theorem G_(T:Txt K mg):bU P w K mg base C8:=n6 RR hh 1 T.f28 (IW T) T.z T.c
def Dy:List (Str×RF):=qE "read_board" (top 31) 2 4 jN C8
theorem JY(T:Txt K mg):bU P w K mg base Dy:=n6 RR hh 2 T.f29 (G_ T) T.z T.c
def Eh:List (Str×RF):=qE "read_boards" (top 30) 1 5 jF Dy
theorem HF(T:Txt K mg):bU P w K mg base Eh:=n6 RR hh 1 T.f30 (JY T) T.z T.c
def Ay:List (Str×RF):=qE "read_house" (top 29) 1 6 jh Eh
def NQ:List (Str×RF):=qE "read_house" (top 29) 1 6 jh IV
theorem B2(T:Txt K mg):lz P w K mg base NQ/\bU P w K mg base Ay:=Fm RR hh 1 T.f31 ⟨UU T,HF T⟩ (xr T) T.z T.c
theorem GA(T:Txt K mg):bU P w K mg base Ay:=(B2 T).2
theorem VN(T:Txt K mg):lz P w K mg base NQ:=(B2 T).1
def Ge:List (Str×RF):=qE "_law_refused" (top 49) 3 9 jw Ay
theorem JB(T:Txt K mg):bU P w K mg base Ge:=QM (ys:=yy) RR hh 3 T.f32 (VN T) (GA T) (xr T) T.o T.z T.c
theorem yx{a:af}{c:bN}(F:tH K "law" "law" (top 50) a c)(T:Txt K mg):fV P w K mg base ou 11 a c ["_law_script"] (lU K 1 yq):=I_ RR hh F (JB T) T.z T.c
end
end My
namespace My
open MM
open PySem (Str)
theorem pY{s:aR}{n:Nat}{o:MO}(h:s[n]?=some o):n < s.length:=(am.mp h).1
structure kn(s:aR)(p q:Nat):Prop where
 ne:p≠q
 ex:∃(x c k:Int)(ns:List Int),s[p]?=some (.lst [.ref q,.int x,.int c,.int k])/\s[q]?=some (.lst (ns.map D.int))/\0<=c/\0<=k/\ns.length<=63
structure Kept(p q:Nat)(s s':aR):Prop where
 le:s.length<=s'.length
 at_:∀n,n < s.length->n≠p->n≠q->s'[n]?=s[n]?
section
variable{p q:Nat}{s s1 s2:aR}{Q:D->aR->Prop}
theorem Kept.refl:Kept p q s s:=⟨ax _,λ_ _ _ _=>rfl⟩
theorem Kept.trans(h:Kept p q s s1)(k:Kept p q s1 s2):Kept p q s s2:=⟨bC h.le k.le,λn o g c=>(k.at_ n (bf o h.le) g c).trans (h.at_ n o g c)⟩
theorem Kept.same{n:Nat}{o:MO}(h:Kept p q s s1)(u:n≠p)(c:n≠q)(g:s[n]?=some o):s1[n]?=some o:=(h.at_ n (pY g) u c).trans g
theorem Kept.snoc{o:MO}(h:Kept p q s s1):Kept p q s (s1++[o]):=h.trans ⟨by simp,λn c _ _=>aL c⟩
theorem Kept.put{n:Nat}{o:MO}(h:Kept p q s s1)(v:s.length<=n):Kept p q s (s1.set n o):=
 ⟨by simp;exact h.le,λm u g c=>by rw[aZ (by ext)];exact h.at_ m u g c⟩
theorem kn.lt(h:kn s p q):p < s.length/\q < s.length:=by obtain⟨x,c,k,ns,a,b,_⟩:=h.ex;exact⟨pY a,pY b⟩
theorem kn.snoc{o:MO}(h:kn s p q):kn (s++[o]) p q:=by obtain⟨x,c,k,ns,a,b,r⟩:=h.ex;exact⟨h.ne,x,c,k,ns,by rw[aL (pY a)];exact a,by rw[aL (pY b)];exact b,r⟩
theorem kn.put{n:Nat}{o:MO}(h:kn s p q)(u:n≠p)(g:n≠q):kn (s.set n o) p q:=by obtain⟨x,c,k,ns,a,b,r⟩:=h.ex;exact⟨h.ne,x,c,k,ns,by rw[aZ u];exact a,by rw[aZ g];exact b,r⟩
theorem V4{k:Int}(hp:kn s p q)(o:0 < k)(L:k < 1073741824)(h:∀r s',0<=r->r < k->kn s' p q->Kept p q s s'->Q (.int r) s'):wp (ja [.ref p,.int k]) Q s:=by
 obtain⟨x,c,j,ns,e1,e2,hc,hj,hns⟩:=hp.ex;have J:=hp.ne;have lp:=pY e1;have m2:∀a b:Int,0<=b->b < 10000000000->qD a b:=λa b h1 h2=>.inr ⟨by ext,by ext⟩;have m1:∀a b:Int,0<=a->a < 10000000000->qD a b:=λa b h1 h2=>.inl ⟨by ext,by ext⟩;have pw:∀Q s,wp (uP (.int 10) (.int 18)) Q s=Q (.int 1000000000000000000) s:=λQ s=>by unfold uP r8;rw[dW,cy];exact propext ⟨λh=>h.2,λh=>⟨by decide,h⟩⟩
 generalize (1000000000000000000:Int)=big at pw;have C:∀l,(s.set p (MO.lst l))[p]?=some (.lst l):=λl=>bj lp;have O:∀l,(s.set p (MO.lst l))[q]?=some (.lst (ns.map D.int)):=λl=>by rw[aZ J];exact e2
 have ss:∀l l',(s.set p (MO.lst l)).set p (MO.lst l')=s.set p (.lst l'):=λl l'=>BW ..;have g0:∀Q,wp (getL p) Q s=Q [.ref q,.int x,.int c,.int j] s:=λQ=>kC e1;have g0q:∀Q,wp (getL q) Q s=Q (ns.map D.int) s:=λQ=>kC e2;have u0:∀es Q,wp (putL p es) Q s=Q () (s.set p (.lst es)):=λes Q=>wR e1;have g1:∀l Q,wp (getL p) Q (s.set p (MO.lst l))=Q l (s.set p (MO.lst l)):=λl Q=>kC (C l);have g2:∀l Q,wp (getL q) Q (s.set p (MO.lst l))=Q (ns.map D.int) (s.set p (MO.lst l)):=λl Q=>kC (O l);have U:∀l es Q,wp (putL p es) Q (s.set p (MO.lst l))=Q () (s.set p (.lst es)):=λl es Q=>by rw[wR (C l),ss]
 have kp:∀l,Kept p q s (s.set p (MO.lst l)):=λl=>⟨by simp,λn hn hp' hq=>by rw[aZ (fB hp')]⟩
 have pt:∀E c' g,0<=c'->0<=g->kn (s.set p (MO.lst [.ref q,.int E,.int c',.int g])) p q:=λE c' g h1 h2=>⟨J,E,c',g,ns,C _,O _,h1,h2,hns⟩
 have ix2:oT 4 2=some 2:=rfl;have I:oT 4 1=some 1:=rfl;have ix3:oT 4 3=some 3:=rfl;have st2:∀v,[D.ref q,.int x,.int c,.int j].set 2 v=[.ref q,.int x,v,.int j]:=λv=>rfl;have H:∀a b d v,[D.ref q,a,b,d].set 1 v=[.ref q,v,b,d]:=λa b d v=>rfl;have sx3:∀a b d v,[D.ref q,a,b,d].set 3 v=[.ref q,a,b,v]:=λa b d v=>rfl;have i3:∀(a b d:D)(Q:D->aR->Prop)s,wp (dz [.ref q,a,b,d] 3) Q s=Q d s:=λa b d Q s=>pG (i:=3) rfl;have u:∀(cell E g:Int),0<=g->wp (aC (bX (aS 4) (c2 li (c2 cC (c2 cC (c2 lR (ak 3) (ay (.int 48271))) (c2 lR (ay (.int 7919)) (c2 aY (ak 0) (ay (.int 2))))) (ay (.int 5))) (ay (.int 2147483647))))
  (aC (bX (aS 4) (c2 li (c2 cC (c2 lR (ak 4) (ak 4)) (c2 lR (ay (.int 104729)) (c2 aY (ak 0) (ay (.int 2))))) (ay (.int 2147483629))))
  (aC (bX (aS 4) (c2 li (c2 cC (c2 lR (ak 4) (ay (.int 69621))) (ay (.int 16807))) (ay (.int 2147483587))))
  (aC (b8 (c2 li (c2 li (c2 lR (ak 4) (ak 4)) (ay (.int 2147483579))) (ak 1)))
  aB))) [some (.ref p),some (.int k),none,some (.int cell),none]) (λf s'=>wp (ue f) Q s') (s.set p (.lst [.ref q,.int E,.int (c+1),.int g])):=λcell E g hk'=>by
  simp![↓g1];have y0:=e9 (cell*48271+7919*(c+1)+5) (show (2147483647:Int)≠0 by ext);have y1:=dX (cell*48271+7919*(c+1)+5) (show (0:Int) < 2147483647 by ext);generalize (cell*48271+7919*(c+1)+5) % 2147483647=y at y0 y1 ⊢;have z0:=e9 (y*y+104729*(c+1)) (show (2147483629:Int)≠0 by ext);have z1:=dX (y*y+104729*(c+1)) (show (0:Int) < 2147483629 by ext);generalize (y*y+104729*(c+1)) % 2147483629=z at z0 z1 ⊢;have v0:=e9 (z*69621+16807) (show (2147483587:Int)≠0 by ext);have v1:=dX (z*69621+16807) (show (0:Int) < 2147483587 by ext);generalize (z*69621+16807) % 2147483587=v at v0 v1 ⊢;exact⟨m2 _ _ (by ext) (by ext),m1 _ _ (by ext) (by ext),m2 _ _ (by ext) (by ext),m1 _ _ (by ext) (by ext),m2 _ _ (by ext) (by ext),m2 _ _ (by ext) (by ext),o,h _ _ (e9 _ (by ext)) (dX _ o) (pt _ _ _ (by ext) hk') (kp _)⟩
 (simp![ja];simp![yp,↓g0,↓u0,cm,eX,Nat.reduceAdd,ix2,st2,↓g1,↓g2,↓U])
 by_cases cx:0 < x
 ·rw[aG cx];simp![I,H,↓U];exact⟨o,⟨o,L⟩,h _ _ (e9 _ (by ext)) (dX _ o) (pt _ _ _ (by ext) hj) (kp _)⟩
 rw[az cx];by_cases cj:j < (ns.length:Int)
 ·obtain⟨G,rfl⟩:∃n:Nat,j=n:=⟨j.toNat,(gF hj).symm⟩
  have c:G < ns.length:=by ext
  have ij:∀(Q:D->aR->Prop)s,wp (dz (ns.map D.int) (G:Int)) Q s=Q (.int ns[G]) s:=λQ s=>pG (by rw[aD,au c];rfl);simp![↓i3,ae,cj,decide_true,if_true,↓g1,↓g2,↓ij,cm,eX,Nat.reduceAdd,ix3,sx3,↓U,↓pw];by_cases g:big<=ns[G]
  ·rw[aG g];simp![↓g1,cm,eX,Nat.reduceAdd,I,H,↓U];exact⟨⟨o,L⟩,o,h _ _ (e9 _ (by ext)) (dX _ o) (pt _ _ _ (by ext) (by ext)) (kp _)⟩
  ·rw[az g];refine Eq.mp ?_ (u ns[G] x (G+1) (by ext));simp![↓g1]
 ·simp![↓i3,ae,cj,decide_false,aN,if_false,↓g1,↓g2];by_cases q:0 < (ns.length:Int)
  ·rw[aG q];have o:=e9 (c+1) (show (ns.length:Int)≠0 by ext);have v:=dX (c+1) q;obtain⟨Y,g⟩:∃n:Nat,(c+1) % (ns.length:Int)=n:=⟨((c+1) % (ns.length:Int)).toNat,(gF o).symm⟩
   have h:Y < ns.length:=by ext
   have ij:∀(Q:D->aR->Prop)s,wp (dz (ns.map D.int) (Y:Int)) Q s=Q (.int ns[Y]) s:=λQ s=>pG (by rw[aD,au h];rfl);simp![↓g1,↓g2,ae,g,↓ij];refine⟨by ext,?_⟩;refine Eq.mp ?_ (u ns[Y] x j hj);simp![↓g1]
  ·rw[az q];refine Eq.mp ?_ (u 7 x j hj);simp![↓g1]
end
open PySem (Str)
noncomputable def sD(S:Nat)(d:D):Prop:=∃a b:Int,d=.tup [.int a,.int b]/\0<=a/\a < S/\0<=b/\b < 4
def qx(S n:Nat)(d:D):Prop:=∃ps,d=.tup ps/\ps.length=n/\∀p∈ps,sD S p
def uR(d:D):Prop:=∃(S n:Nat)(c:List D),d=.tup c/\c.length=S/\1<=S/\S<=4/\1<=n/\n<=4/\∀r∈c,qx S n r
def fN(S dn:Nat)(nx un:Nat->Nat->Nat):D:=.tup (bB S λs=>.tup (bB dn λd=>.tup [.int (nx s d:Nat),.int (un s d:Nat)]))
noncomputable def ot(S dn:Nat)(nx un:Nat->Nat->Nat):Prop:=1<=S/\S<=4/\1<=dn/\dn<=4/\∀s d,s < S->d < dn->nx s d < S/\un s d < 4
theorem Qh{t:D}(h:uR t):∃S dn nx un,t=fN S dn nx un/\ot S dn nx un:=by
 obtain⟨S,dn,c,et,U,J,I,H,G,O⟩:=h;have key:∀s:Nat,∃p:Nat->Nat×Nat,s < S->c[s]?=some (.tup (bB dn λd=>.tup [.int ((p d).1:Nat),.int ((p d).2:Nat)]))/\∀d,d < dn->(p d).1 < S/\(p d).2 < 4:=by
  intro s;by_cases o:s < S
  ·have q:s < c.length:=by ext
   obtain⟨ds,e,E,Q⟩:=O c[s] (cv q);have C:∀d:Nat,∃p:Nat×Nat,d < dn->ds[d]?=some (.tup [.int (p.1:Nat),.int (p.2:Nat)])/\p.1 < S/\p.2 < 4:=by
    intro d;by_cases hd:d < dn
    ·have v:d < ds.length:=by ext
     obtain⟨g,u,o,Y,g1,L,G⟩:=Q ds[d] (cv v);refine⟨(g.toNat,u.toNat),λ_=>⟨?_,by show g.toNat < S;ext,by show u.toNat < 4;ext⟩⟩;rw[au v,o,gF Y,gF L]
    ·exact⟨(0,0),λh=>(hd h).elim⟩
   refine⟨λd=>kB (C d),λ_=>⟨?_,λd hd=>(g8 (C d) hd).2⟩⟩;rw[au q,e];congr 2;exact Ls E λd hd=>(g8 (C d) hd).1
  ·exact⟨λ_=>(0,0),λh=>(o h).elim⟩
 refine⟨S,dn,λs d=>(kB (key s) d).1,λs d=>(kB (key s) d).2,?_,J,I,H,G,λs d o hd=>(g8 (key s) o).2 d hd⟩;rw[et];unfold fN;congr 1;exact Ls U λs o=>(g8 (key s) o).1
section
variable{p q:Nat}{s s1 s2:aR}{Q:D->aR->Prop}
noncomputable def PK(p q:Nat)(s s':aR):Prop:=kn s' p q/\Kept p q s s'
theorem PK.refl(h:kn s p q):PK p q s s:=⟨h,Kept.refl⟩
theorem me{k:Int}(u:PK p q s s1)(E:0 < k)(g:k < 1073741824)(h:∀r s',0<=r->r < k->PK p q s s'->Kept p q s1 s'->Q (.int r) s'):wp (ja [.ref p,.int k]) Q s1:=
 V4 u.1 E g λr s' C v c o=>h r s' C v ⟨c,u.2.trans o⟩ o
theorem PK.snoc{o:MO}(h:PK p q s s1):PK p q s (s1++[o]):=⟨h.1.snoc,h.2.snoc⟩
theorem PK.put{n:Nat}{o:MO}(h:PK p q s s1)(u:s.length<=n)(g:n≠p)(c:n≠q):PK p q s (s1.set n o):=⟨h.1.put g c,h.2.put u⟩
end
open PySem (Str)
section
variable{p q:Nat}{s s1 s2:aR}{Q:D->aR->Prop}
theorem pB{r:Int}(h:0<=r):∃n:Nat,r=n:=⟨r.toNat,(gF h).symm⟩
theorem wB{n:Nat}(h:n<=1000):(-(2^62)<=(n:Int)/\(n:Int) < 2^62):=by ext
noncomputable def Jh(n:Nat)(d:D):Prop:=∃i:Int,1<=i/\i<=n/\d=.int i
theorem MY{n:Nat}:∀d∈fO 1 n,Jh n d:=λd hd=>by unfold fO at hd;obtain⟨i,c,e⟩:=dJ.mp hd;have:=fu.mp c;exact⟨1+(i:Int),by ext,by ext,e.symm⟩
theorem F0{lo:Int}{n:Nat}:(fO lo n).length=n:=by simp[fO]
theorem X2(hp:PK p q s s1)(h:∀t s',uR t->PK p q s s'->Kept p q s1 s'->Q t s'):wp (jB [.ref p]) Q s1:=by
 have l2:2<=eQ:=eM (by ext)
 (simp![jB];simp![jX])
 refine me hp (by ext) (by ext) λv t1 a0 a1 h1 w1=>?_;simp![];refine me h1 (by ext) (by ext) λu t2 Y b1 h2 I=>?_;simp![];refine me h2 (by ext) (by ext) λo t3 c0 c1 h3 H=>?_;obtain⟨v,rfl⟩:=pB a0;obtain⟨u,rfl⟩:=pB Y;obtain⟨o,rfl⟩:=pB c0;have e1:(1+(v:Int))=((1+v:Nat):Int):=by ext
 have e2:(1+(u:Int))=((1+u:Nat):Int):=by ext
 have e3:(1+(o:Int))=((1+o:Nat):Int):=by ext
 simp![e1,e2,e3];have m1:1<=1+v/\1+v<=4:=by ext
 have n1:1<=1+u/\1+u<=4:=by ext
 have k1:1<=1+o/\1+o<=4:=by ext
 generalize 1+v=m at m1;generalize 1+u=n at n1;generalize 1+o=k at k1;have C:=w1.trans (I.trans H);simp![fG,bE,mH];refine⟨wB (by ext),eM (by ext),?_⟩;refine uA (vj m) (qx m n) (λs'=>PK p q s s'/\Kept p q s1 s') (λ_ _=>trivial) ⟨h3,C⟩ v5 (λd s' _ c=>?_) (λE s' G U c=>?_)
 ·obtain⟨g,w⟩:=c;simp![fG,bE,mH];refine⟨wB (by ext),eM (by ext),?_⟩;refine uA (vj n) (sD m) (λs'=>PK p q s s'/\Kept p q s1 s') (λ_ _=>trivial) ⟨g,w⟩ v5 (λd s' _ c=>?_) (λJ s' G U c=>?_)
  ·obtain⟨g,w⟩:=c;simp![l2];refine me g (by ext) (by ext) λa s2 a0 a1 O I=>?_;simp![];refine me O (by ext) (by ext) λb h Y b1 L H=>?_;simp![l2];exact⟨⟨a,b,rfl,a0,a1,Y,by ext⟩,L,(w.trans I).trans H⟩
  ·obtain⟨g,w⟩:=c;rw[mH]at G;simp![];exact⟨⟨J,rfl,G,U⟩,g,w⟩
 ·obtain⟨g,w⟩:=c;rw[mH]at G;simp![];exact h _ _ ⟨m,n,E,rfl,G,m1.1,by ext,n1.1,by ext,U⟩ g w
theorem UI(hp:PK p q s s1)(h:∀S dn nx un s',ot S dn nx un->PK p q s s'->Kept p q s1 s'->Q (fN S dn nx un) s'):wp (jQ [.ref p]) Q s1:=by
 have O:2<=eQ:=eM (by ext);have l1:1<=eQ:=eM (by ext);have hI:∀t s',uR t->PK p q s s'->Kept p q s1 s'->Q t s':=λt s' ht J w=>by obtain⟨S,dn,nx,un,e,ok⟩:=Qh ht;rw[e];exact h S dn nx un s' ok J w
 (simp![jQ];simp![ym])
 refine me hp (by ext) (by ext) λL t1 a0 a1 h1 w1=>?_;simp![];refine me h1 (by ext) (by ext) λr2 E b0 b1 h2 w2=>?_;obtain⟨L,rfl⟩:=pB a0;have e2:(1+(L:Int))=((1+L:Nat):Int):=by ext
 have n1:1<=1+L/\1+L<=3:=by ext
 rw[e2];simp![];generalize 1+L=n at n1;have H:=w1.trans w2;have hb:=wB (n:=n) (by ext);have U:n<=eQ:=eM (by ext);have I:n+1<=eQ:=eM (by ext);have en:((n:Int)+1-1).toNat=n:=by ext
 have em:((n:Int)+1)=((n+1:Nat):Int):=by ext
 by_cases c0:r2=0
 ·subst c0;simp![decide_true,if_true,fG,en,F0];refine⟨⟨⟨by ext,by ext⟩,by ext,by ext⟩,U,?_⟩;refine uA (Jh n) (sD (n+1)) (λs'=>E=s') (λ_ _=>trivial) rfl MY (λd s' v es=>?_) (λo s' C G es=>?_)
  ·obtain⟨i,J,I,e⟩:=v;subst e es;simp![O];exact⟨i,i,rfl,by ext,by ext,by ext,by ext⟩
  subst es;rw[F0]at C;simp![l1,fG,en,F0];refine⟨⟨⟨by ext,by ext⟩,by ext,by ext⟩,U,?_⟩;refine uA (Jh n) (qx (n+1) n) (λs'=>E++[.lst [.tup o]]=s') (λ_ _=>trivial) rfl MY (λd s' v es=>?_) (λc s' h u es=>?_)
  ·obtain⟨i,J,I,e⟩:=v;subst e es;simp![fG,bE,mH];refine⟨hb,U,?_⟩;refine uA (vj n) (sD (n+1)) (λs'=>E++[MO.lst [.tup o]]=s') (λ_ _=>trivial) rfl v5 (λd s' v es=>?_) (λps s' C G es=>?_)
   ·subst es;simp![O];exact⟨i,i,rfl,by ext,by ext,by ext,by ext⟩
   ·subst es;rw[mH]at C;simp![];exact⟨ps,rfl,C,G⟩
  subst es;rw[F0]at h;have ad:∀Q:D->aR->Prop,wp (cC (.ref E.length) (.ref (E++[MO.lst [.tup o]]).length)) Q (E++[MO.lst [.tup o]]++[MO.lst c])=([D.tup o].length+c.length<=eQ/\Q (.ref (E++[MO.lst [.tup o]]++[MO.lst c]).length) (E++[MO.lst [.tup o]]++[MO.lst c]++[.lst ([.tup o]++c)])):=λQ=>G6 (by simp) (by simp);have g:∀Q:List D->aR->Prop,wp (getL (E++[MO.lst [D.tup o]]++[MO.lst c]).length) Q (E++[MO.lst [.tup o]]++[MO.lst c]++[.lst ([.tup o]++c)])=Q ([.tup o]++c) (E++[MO.lst [.tup o]]++[MO.lst c]++[.lst ([.tup o]++c)]):=λQ=>kC (by simp);simp![↓ad,↓g];refine⟨eM (by ext),hI _ _ ⟨n+1,n,_,rfl,by simp[h],by ext,by ext,n1.1,by ext,λr q=>?_⟩ h2.snoc.snoc.snoc H.snoc.snoc.snoc⟩;rcases aF.mp q with e|q
  ·exact⟨o,e,C,G⟩
  ·exact u r q
 by_cases c1:r2=1
 ·subst c1;simp![Int.reduceEq,decide_true,decide_false,aN,if_false,if_true,fG,bE,mH];refine⟨hb,U,?_⟩;refine uA (vj n) (qx n (n+1)) (λs'=>PK p q s s'/\Kept p q s1 s') (λ_ _=>trivial) ⟨h2,H⟩ v5 (λd s' v h=>?_) (λc s' C G h=>?_)
  ·obtain⟨i,hi,e⟩:=v;obtain⟨J,w⟩:=h;subst e;simp![O,l1,fG,bE,mH];refine⟨hb,U,?_⟩;refine uA (vj n) (sD n) (λu=>s'++[MO.lst [.tup [.int i,.int i]]]=u) (λ_ _=>trivial) rfl v5 (λd u v es=>?_) (λps u C G es=>?_)
   ·obtain⟨j,hj,e⟩:=v;subst e es;simp![O];exact⟨j,0,rfl,by ext,by ext,by ext,by ext⟩
   ·subst es;rw[mH]at C;have ad:∀Q:D->aR->Prop,wp (cC (.ref s'.length) (.ref (s'++[MO.lst [D.tup [.int i,.int i]]]).length)) Q (s'++[MO.lst [.tup [.int i,.int i]]]++[MO.lst ps])=([D.tup [.int i,.int i]].length+ps.length<=eQ/\Q (.ref (s'++[MO.lst [D.tup [.int i,.int i]]]++[MO.lst ps]).length) (s'++[MO.lst [.tup [.int i,.int i]]]++[MO.lst ps]++[.lst ([.tup [.int i,.int i]]++ps)])):=λQ=>G6 (by simp) (by simp);have g:∀Q:List D->aR->Prop,wp (getL (s'++[MO.lst [D.tup [.int i,.int i]]]++[MO.lst ps]).length) Q (s'++[MO.lst [.tup [.int i,.int i]]]++[MO.lst ps]++[.lst ([.tup [.int i,.int i]]++ps)])=Q ([.tup [.int i,.int i]]++ps) (s'++[MO.lst [.tup [.int i,.int i]]]++[MO.lst ps]++[.lst ([.tup [.int i,.int i]]++ps)]):=λQ=>kC (by simp);simp![↓ad,↓g];refine⟨eM (by ext),⟨_,rfl,by simp[C],λx Y=>?_⟩,J.snoc.snoc.snoc,w.snoc.snoc.snoc⟩;rcases aF.mp Y with e|Y
    ·exact⟨i,i,e,by ext,by ext,by ext,by ext⟩
    ·exact G x Y
  ·obtain⟨J,w⟩:=h;rw[mH]at C;simp![];exact hI _ _ ⟨n,n+1,c,rfl,C,by ext,by ext,by ext,by ext,G⟩ J w
 by_cases c2:r2=2
 ·subst c2;simp![Int.reduceEq,decide_true,decide_false,aN,if_false,if_true,fG,em,bE,mH];refine⟨wB (by ext),I,?_⟩;refine uA (vj (n+1)) (qx (n+1) (n+1)) (λs'=>E=s') (λ_ _=>trivial) rfl v5 (λd s' v es=>?_) (λc s' C G es=>?_)
  ·obtain⟨i,hi,e⟩:=v;subst e es;simp![fG,em,bE,mH];refine⟨wB (by ext),I,?_⟩;refine uA (vj (n+1)) (sD (n+1)) (λs'=>E=s') (λ_ _=>trivial) rfl v5 (λd s' v es=>?_) (λps s' C G es=>?_)
   ·obtain⟨j,hj,e⟩:=v;subst e es;simp![O];exact⟨j,i,rfl,by ext,by ext,by ext,by ext⟩
   ·subst es;rw[mH]at C;simp![];exact⟨ps,rfl,C,G⟩
  ·subst es;rw[mH]at C;simp![];exact hI _ _ ⟨n+1,n+1,c,rfl,C,by ext,by ext,by ext,by ext,G⟩ h2 H
 by_cases c3:r2=3
 ·subst c3;simp![Int.reduceEq,decide_true,decide_false,aN,if_false,if_true,fG,em,bE,mH];refine⟨wB (by ext),I,?_⟩;refine uA (vj (n+1)) (qx (n+1) 1) (λs'=>E=s') (λ_ _=>trivial) rfl v5 (λd s' v es=>?_) (λc s' C G es=>?_)
  ·obtain⟨i,hi,e⟩:=v;subst e es;simp![O,l1];refine⟨by ext,_,rfl,rfl,λx Y=>?_⟩;exact⟨_,_,aE.mp Y,e9 _ (by ext),dX _ (by ext),by ext,by ext⟩
  ·subst es;rw[mH]at C;simp![];exact hI _ _ ⟨n+1,1,c,rfl,C,by ext,by ext,by ext,by ext,G⟩ h2 H
 simp![c0,c1,c2,c3,decide_false,aN,if_false];exact X2 h2 λt s' ht J w=>by simp![];exact hI t s' ht J (H.trans w)
end
open PySem (Str)
structure Bd where
 S:Nat
 dn:Nat
 nx:Nat->Nat->Nat
 un:Nat->Nat->Nat
 st:Nat
inductive Ln where
 |settle (v:Nat)
 |act (b d:Nat) (gs:List Nat)
structure Hd where
 b0:Nat
 b1:Nat
 lines:List Ln
structure Hs where
 boards:List Bd
 hands:List Hd
noncomputable def cV(n:Nat):D:=.int (n:Int)
def iP(b:Bd):D:=.tup [fN b.S b.dn b.nx b.un,cV b.st]
def i6:Ln->D
 | .settle v=>.tup [.str "settle",cV v]
 | .act b d gs=>.tup [.str "do",cV b,cV d,.tup (gs.map cV)]
def lK(h:Hd):D:=.tup [.tup [cV h.b0,cV h.b1],.tup (h.lines.map i6)]
def nO(h:Hs):D:=.tup [.tup (h.boards.map iP),.tup (h.hands.map lK)]
def wD(b:Bd):Prop:=ot b.S b.dn b.nx b.un/\b.st < b.S
def tW(bs:List Bd)(m:Nat):Ln->Prop
 | .settle v=>v < 2
 | .act b d gs=>∃c,bs[b]?=some c/\d < c.dn/\gs.length=1+mx (c.un · d) c.S/\∀g∈gs,g < m
def xm(bs:List Bd)(h:Hd):Prop:=h.b0 < h.lines.length/\h.b1 < h.lines.length/\h.lines.length<=12/\∀l∈h.lines,tW bs h.lines.length l
def AW(h:Hs):Prop:=h.boards.length<=7/\(∀b∈h.boards,wD b)/\2<=h.hands.length/\h.hands.length<=3/\∀x∈h.hands,xm h.boards x
section
variable{p q:Nat}{s s1 s2:aR}{Q:D->aR->Prop}
theorem FD{S n:Nat}{nx un:Nat->Nat->Nat}:wp (dk (fN S n nx un)) Q s=Q (.int S) s:=by unfold fN;rw[uQ,mh]
theorem N9{S n:Nat}{nx un:Nat->Nat->Nat}(h:0 < S):wp (aY (fN S n nx un) (.int 0)) Q s=Q (.tup (bB n λd=>.tup [.int (nx 0 d:Nat),.int (un 0 d:Nat)])) s:=by unfold fN;rw[qN,Bs h]
end
open PySem (Str)
section
variable{p q:Nat}{s s1 s2:aR}{Q:D->aR->Prop}
def xT(bs:List Bd)(m:Nat)(d:D):Prop:=∃l,d=i6 l/\tW bs m l
theorem MR{bs:List Bd}{m:Nat}:∀{ds:List D},(∀d∈ds,xT bs m d)->∃g:List Ln,ds=g.map i6/\∀l∈g,tW bs m l
 |[],_=>⟨[],rfl,λl h=>bp h (by simp)⟩
 |d::ds,h=>by
  obtain⟨l,e,o⟩:=h d (by simp);obtain⟨g,v,u⟩:=MR (ds:=ds) λx c=>h x (by simp[c]);refine⟨l::g,by rw[e,v];rfl,λx c=>?_⟩;rcases aF.mp c with c|c
  ·rw[c];exact o
  ·exact u x c
theorem OA{P:Nat->Prop}:∀{ds:List D},(∀d∈ds,∃n:Nat,d=cV n/\P n)->∃ns:List Nat,ds=ns.map cV/\∀n∈ns,P n
 |[],_=>⟨[],rfl,λl h=>bp h (by simp)⟩
 |d::ds,h=>by
  obtain⟨l,e,o⟩:=h d (by simp);obtain⟨g,v,u⟩:=OA (ds:=ds) λx c=>h x (by simp[c]);refine⟨l::g,by rw[e,v];rfl,λx c=>?_⟩;rcases aF.mp c with c|c
  ·rw[c];exact o
  ·exact u x c
def MS(d:D):Prop:=∃b,d=iP b/\wD b
def Mh(bs:List Bd)(d:D):Prop:=∃h,d=lK h/\xm bs h/\h.lines.length<=8
theorem Nl:∀{ds:List D},(∀d∈ds,MS d)->∃g:List Bd,ds=g.map iP/\∀l∈g,wD l
 |[],_=>⟨[],rfl,λl h=>bp h (by simp)⟩
 |d::ds,h=>by
  obtain⟨l,e,o⟩:=h d (by simp);obtain⟨g,v,u⟩:=Nl (ds:=ds) λx c=>h x (by simp[c]);refine⟨l::g,by rw[e,v];rfl,λx c=>?_⟩;rcases aF.mp c with c|c
  ·rw[c];exact o
  ·exact u x c
theorem KW{bs:List Bd}:∀{ds:List D},(∀d∈ds,Mh bs d)->∃g:List Hd,ds=g.map lK/\∀l∈g,xm bs l/\l.lines.length<=8
 |[],_=>⟨[],rfl,λl h=>bp h (by simp)⟩
 |d::ds,h=>by
  obtain⟨l,e,o⟩:=h d (by simp);obtain⟨g,v,u⟩:=KW (ds:=ds) λx c=>h x (by simp[c]);refine⟨l::g,by rw[e,v];rfl,λx c=>?_⟩;rcases aF.mp c with c|c
  ·rw[c];exact o
  ·exact u x c
theorem PD{bs:List Bd}{o m:Nat}(hp:PK p q s s1)(hg:s1[o]?=some (.lst (bs.map iP)))(H:o≠p)(G:o≠q)(hb:∀b∈bs,wD b)(hbl:bs.length<=7)(hm1:1<=m)(hm2:m<=12)
  (h:∀ln s',tW bs m ln->PK p q s s'->Kept p q s1 s'->Q (i6 ln) s'):wp (jU [.ref p,.ref o,.int m]) Q s1:=by
 have O:2<=eQ:=eM (by ext);have l4:4<=eQ:=eM (by ext);have g1:∀Q,wp (getL o) Q s1=Q (bs.map iP) s1:=λQ=>kC hg
 (simp![jU];simp![yt,↓g1,ae])
 by_cases c0:(bs.length:Int)=0
 ·simp![c0,O,if_true,decide_true];refine me hp (by ext) (by ext) λv L v0 v1 g U=>?_;obtain⟨v,rfl⟩:=pB v0;simp![O];exact h (.settle v) L (by show v < 2;ext) g U
 simp![c0,if_false,decide_false,aN];refine me hp (by ext) (by ext) λr t a0 a1 h1 J=>?_;by_cases c1:r=0
 ·simp![c1,O,if_true,decide_true];refine me h1 (by ext) (by ext) λv L v0 v1 g U=>?_;obtain⟨v,rfl⟩:=pB v0;simp![O];exact h (.settle v) L (by show v < 2;ext) g (J.trans U)
 have g2:∀Q,wp (getL o) Q t=Q (bs.map iP) t:=λQ=>kC (J.same H G hg);simp![c1,if_false,decide_false,aN,↓g2,ae];refine me h1 (by ext) (by ext) λbi s2 bi0 bi1 hk2 v2=>?_;obtain⟨b,rfl⟩:=pB bi0;have I:b < bs.length:=by ext
 have E:bs[b]?=some bs[b]:=au I;obtain⟨ok,Y⟩:=hb bs[b] (cv I);generalize bs[b]=c at E ok Y;have q2:∀Q,wp (getL o) Q s2=Q (bs.map iP) s2:=λQ=>kC ((J.trans v2).same H G hg);have q3:∀(Q:D->aR->Prop)s,wp (dz (bs.map iP) (b:Int)) Q s=Q (.tup [fN c.S c.dn c.nx c.un,cV c.st]) s:=λQ s=>pG (by rw[aD,E];rfl);have t0:∀(Q:D->aR->Prop)s,wp (aY (fN c.S c.dn c.nx c.un) (.int 0)) Q s=Q (.tup (bB c.dn λd=>.tup [.int (c.nx 0 d:Nat),.int (c.un 0 d:Nat)])) s:=λQ s=>N9 ok.1;simp![↓q2,↓q3,↓t0,mh];have dn1:=ok.2.2.1;have dn2:=ok.2.2.2.1;refine me hk2 (by ext) (by ext) λdd L dd0 dd1 g v3=>?_;obtain⟨d,rfl⟩:=pB dd0;have C:d < c.dn:=by ext
 have hS:=ok.1;have hS4:=ok.2.1;have lS:c.S<=eQ:=eM (by ext);have mu:∀A s,wp (collect (aS 0) bZ (c2 aY (c2 aY (ak 0) (ak 1)) (ay (.int 1))) d6 (bB c.S λs=>.tup (bB c.dn λd=>D.tup [.int (c.nx s d:Nat),.int (c.un s d:Nat)])) [none,some (.int d)]) A s=A (bB c.S λi=>.int (c.un i d:Nat)) s:=λA s=>
  zl yC λi hi Q=>by simp![↓F3 C]
 have mm:∀(Q:D->aR->Prop)s,wp (mF (bB c.S λi=>.int (c.un i d:Nat))) Q s=Q (.int (mx (c.un · d) c.S:Nat)) s:=λQ s=>HD (f:=(c.un · d)) (by ext);have hmx:mx (c.un · d) c.S<=3:=MQ λi hi=>by have:=(ok.2.2.2.2 i d hi C).2;ext
 have em:((mx (c.un · d) c.S:Nat):Int)+1=((1+mx (c.un · d) c.S:Nat):Int):=by ext
 have eu:fN c.S c.dn c.nx c.un=.tup (bB c.S λs=>.tup (bB c.dn λd=>D.tup [.int (c.nx s d:Nat),.int (c.un s d:Nat)])):=rfl;simp![eu,fG,mh,lS,↓mu,↓mm,em,bE,mH,l4];refine⟨wB (by ext),eM (by ext),?_⟩;refine uA (vj (1+mx (c.un · d) c.S)) (λx=>∃n:Nat,x=cV n/\n < m) (λu=>PK p q s u/\Kept p q s1 u) (λ_ _=>trivial) ⟨g,(J.trans v2).trans v3⟩ v5 (λe u _ hW=>?_) (λgs u ho hP hW=>?_)
 ·obtain⟨hk,w⟩:=hW;simp![];refine me hk (by ext) (by ext) λy q g o c h=>?_;obtain⟨y,rfl⟩:=pB g;exact⟨⟨y,rfl,by ext⟩,c,w.trans h⟩
 ·obtain⟨hk,w⟩:=hW;obtain⟨ns,o,g⟩:=OA hP;rw[mH]at ho;subst o;rw[ae]at ho;simp![l4];exact h (.act b d ns) u ⟨c,E,C,ho,g⟩ hk w
theorem Uj(hp:PK p q s s1)(h:∀G s',AW G->G.boards.length<=4->(∀x∈G.hands,x.lines.length<=8)->PK p q s s'->Kept p q s1 s'->Q (nO G) s'):wp (jP [.ref p,.int 4,.int 8]) Q s1:=by
 have l2:2<=eQ:=eM (by ext);have pl:=hp.1.lt;have le:=hp.2.le
 (simp![jP];simp![yj,bL])
 refine me hp.snoc (by ext) (by ext) λr t a0 a1 h1 w1=>?_;obtain⟨r,rfl⟩:=pB a0;simp![bE];refine⟨wB (by ext),?_⟩;have lt1:=w1.le;simp at lt1;refine Am (λi l s'=>∃(o:List D)(J I:Option D),l=[some (.ref p),some (.int 4),some (.int 8),some (.ref s1.length),J,I,none,none,none]/\s'[s1.length]?=some (.lst o)/\o.length=i/\(∀r∈o,MS r)/\PK p q s s'/\Kept p q s1 s') (λ_ _ _ _=>trivial)
  ⟨[],none,none,rfl,w1.same (by ext) (by ext) pT,rfl,λr U=>bp U (by simp),h1,Kept.refl.snoc.trans w1⟩ (λi d l s' hd C=>?_) (λl s' C=>?_)
 ·obtain⟨o,J,I,el,g,hl,U,hk,w⟩:=C;subst el;have hi:=(am.mp hd).1;rw[mH]at hi;simp![];refine UI hk λS dn nx un s2 ok h2 L=>?_;have lt:∀(Q:D->aR->Prop)s,wp (dk (fN S dn nx un)) Q s=Q (.int S) s:=λQ s=>FD;have u:=ok.1;have q:=ok.2.1;simp![↓lt];refine me h2 (by ext) (by ext) λst c b0 b1 h3 w3=>?_;obtain⟨st,rfl⟩:=pB b0;have h:=(L.trans w3).same (by ext) (by ext) g;have q1:∀Q,wp (getL s1.length) Q c=Q o c:=λQ=>kC h;have q2:∀es Q,wp (putL s1.length es) Q c=Q () (c.set s1.length (.lst es)):=λes Q=>wR h;simp![l2,↓q1,↓q2];refine⟨Aq (by ext),_,_,_,rfl,bj (pY h),by simp[hl],λz hz=>?_,h3.put (by ext) (by ext) (by ext),((w.trans L).trans w3).put (by ext)⟩;rcases br.mp hz with hz|hz
  ·exact U z hz
  ·exact⟨⟨S,dn,nx,un,st⟩,aE.mp hz,ok,by show st < S;ext⟩
 ·obtain⟨o,J,I,el,g,hl,U,hk,w⟩:=C;subst el;rw[mH]at hl;obtain⟨bs,ebs,hbs⟩:=Nl U;subst ebs;rw[ae]at hl;have lg:=pY g;simp![bL];refine me hk.snoc (by ext) (by ext) λm t2 b0 b1 h2 L=>?_;obtain⟨m,rfl⟩:=pB b0;have em:((2:Int)+(m:Int)).toNat=2+m:=by ext
  have lt2:=L.le;simp at lt2;simp![em];refine⟨⟨by ext,by ext⟩,?_⟩;refine Am (λi l u=>∃(o:List D)(J I y7 y8:Option D),l=[some (.ref p),some (.int 4),some (.int 8),some (.ref s1.length),J,I,some (.ref s'.length),y7,y8]/\u[s1.length]?=some (.lst (bs.map iP))/\u[s'.length]?=some (.lst o)/\o.length=i/\(∀r∈o,Mh bs r)/\PK p q s u/\Kept p q s1 u) (λ_ _ _ _=>trivial)
   ⟨[],J,I,none,none,rfl,L.same (by ext) (by ext) (tw g),L.same (by ext) (by ext) pT,rfl,λr U=>bp U (by simp),h2,w.snoc.trans L⟩ (λi d l u hd C=>?_) (λl u C=>?_)
  ·obtain⟨o,J,I,y7,y8,el,g1,g2,H,O,hk2,wu⟩:=C;subst el;have hi:=(am.mp hd).1;rw[mH]at hi;simp![];refine me hk2 (by ext) (by ext) λc u1 c0 c1 h3 w3=>?_;obtain⟨c,rfl⟩:=pB c0;have ec:(1:Int)+(c:Int)=((1+c:Nat):Int):=by ext
   have c8:1<=1+c/\1+c<=8:=by ext
   simp![];rw[ec];generalize 1+c=cn at c8;refine me h3 (by ext) (by ext) λe0 u2 d0 d1 h4 w4=>?_;simp![];refine me h4 (by ext) (by ext) λe1 u3 f0 f1 h5 w5=>?_;obtain⟨e0,rfl⟩:=pB d0;obtain⟨e1,rfl⟩:=pB f0;simp![l2,fG,bE,mH];have W:=w3.trans (w4.trans w5);refine⟨wB (by ext),eM (by ext),?_⟩;refine uA (vj cn) (xT bs cn) (λv=>v[s1.length]?=some (.lst (bs.map iP))/\v[s'.length]?=some (.lst o)/\PK p q s v/\Kept p q s1 v) (λ_ _=>trivial) ⟨W.same (by ext) (by ext) g1,W.same (by ext) (by ext) g2,h5,wu.trans W⟩ v5 (λd v _ hW=>?_) (λls v Y hP hW=>?_)
   ·obtain⟨v1,v2,u,h⟩:=hW;simp![];exact PD u v1 (by ext) (by ext) hbs (by ext) c8.1 (by ext) λc o L U g=>⟨⟨c,rfl,L⟩,g.same (by ext) (by ext) v1,g.same (by ext) (by ext) v2,U,h.trans g⟩
   ·obtain⟨v1,v2,u,h⟩:=hW;rw[mH]at Y;obtain⟨E,c,G⟩:=MR hP;subst c;rw[ae]at Y;have q1:∀Q,wp (getL s'.length) Q v=Q o v:=λQ=>kC v2;have q2:∀es Q,wp (putL s'.length es) Q v=Q () (v.set s'.length (.lst es)):=λes Q=>wR v2;simp![l2,↓q1,↓q2];refine⟨Aq (by ext),_,_,_,_,_,rfl,?_,bj (pY v2),by simp[H],λz hz=>?_,u.put (by ext) (by ext) (by ext),h.put (by ext)⟩
    ·rw[aZ (by ext)];exact v1
    ·rcases br.mp hz with hz|hz
     ·exact O z hz
     ·exact⟨⟨e0,e1,E⟩,aE.mp hz,⟨by show e0 < E.length;ext,by show e1 < E.length;ext,by show E.length<=12;ext,λl hl=>by show tW bs E.length l;rw[Y];exact G l hl⟩,by show E.length<=8;ext⟩
  ·obtain⟨o,J,I,y7,y8,el,g1,g2,H,O,hk2,wu⟩:=C;subst el;rw[mH]at H;obtain⟨G,q,c⟩:=KW O;subst q;rw[ae]at H;have q1:∀Q,wp (getL s1.length) Q u=Q (bs.map iP) u:=λQ=>kC g1;have q2:∀Q,wp (getL s'.length) Q u=Q (G.map lK) u:=λQ=>kC g2;simp![↓q1,↓q2,l2];exact h ⟨bs,G⟩ u ⟨by show bs.length<=7;ext,hbs,by show 2<=G.length;ext,by show G.length<=3;ext,λx g=>(c x g).1⟩ (by show bs.length<=4;ext) (λx g=>(c x g).2) hk2 wu
end
open PySem (Str)
noncomputable def Hq(n:Nat)(x:Str):Prop:=x.length<=n/\∀c∈x.cps.toList,c < 128
noncomputable def qR(c:Nat):Bool:=decide (48<=c)&&decide (c<=57)
noncomputable def ub(cs:List Nat):Nat:=cs.foldl (λn c=>n*10+(c-48)) 0
def Aa(cs:List Nat):Option Nat:=if cs.length=0\/3 < cs.length\/(1 < cs.length/\cs[0]?=some 48) then none else if cs.all qR=true then some (ub cs) else none
def va(x:Str):Option Nat:=Aa x.cps.toList
theorem O9:("0123456789":Str)=⟨#[48,49,50,51,52,53,54,55,56,57]⟩:=by nofun
theorem Km:("0":Str)=⟨#[48]⟩:=by nofun
theorem Uf(c:Nat):(!(zi.Str.occurrences ("0123456789":Str) ⟨#[c]⟩ 0 ("0123456789":Str).length 1).isEmpty)=qR c:=by rw[PySem.StrLaws.found_one,O9];unfold qR;rw[<- pW,decide_eq_decide];simp;ext
theorem HX:∀a,a < 10->l_ ⟨#[48+a]⟩=some (a:Int):=by nofun
theorem Jj:∀a,a < 10->∀b,b < 10->l_ ⟨#[48+a,48+b]⟩=some ((a*10+b:Nat):Int):=by nofun
theorem Jk:∀a,a < 10->∀b,b < 10->∀c,c < 10->l_ ⟨#[48+a,48+b,48+c]⟩=some (((a*10+b)*10+c:Nat):Int):=by nofun
theorem xY{c:Nat}(h:qR c=true):∃k,k < 10/\c=48+k:=by unfold qR at h;simp at h;exact⟨c-48,by ext,by ext⟩
theorem H_(x:Str):x=⟨x.cps.toList.toArray⟩:=by cases x;simp
theorem SV{cs:List Nat}(G:cs.length≠0)(E:cs.length<=3)(h:cs.all qR=true):l_ ⟨cs.toArray⟩=some (ub cs:Int):=by
 match cs,G,E,h with
 |[a],_,_,h=>
  simp only[bu,oM,nN]at h;obtain⟨k,g,rfl⟩:=xY h;rw[HX k g];simp[ub]
 |[a,b],_,_,h=>
  simp only[bu,oM,nN,aI]at h;obtain⟨u,q⟩:=h;obtain⟨k,g,rfl⟩:=xY u;obtain⟨j,o,rfl⟩:=xY q;rw[Jj k g j o];simp[ub]
 |[a,b,c],_,_,h=>
  simp only[bu,oM,nN,aI]at h;obtain⟨u,q,C⟩:=h;obtain⟨k,g,rfl⟩:=xY u;obtain⟨j,o,rfl⟩:=xY q;obtain⟨i,v,rfl⟩:=xY C;rw[Jk k g j o i v];simp[ub]
section
variable{s s1 s2:aR}{Q:D->aR->Prop}
theorem X0{α:Type}{xs:List α}{f:α->D}:(bB xs.length λi=>match xs[i]? with|some x=>f x|none=>.non)=xs.map f:=by
 apply oH;intro i;by_cases h:i < xs.length
 ·rw[DM h,aD,au h];rfl
 ·rw[dm (by rw[mh];ext),dm (by rw[ae];ext)]
theorem F1{α:Type}{e:CE}{same:aR->Prop}{xs:List α}{g f:α->D}{caps:Loc}{Q:List D->aR->Prop}(o:same s)(h:∀x∈xs,∀Q,wp (e (some (g x)::caps)) Q s=Q (f x) s):
  wp (collect (aS 0) bZ e same (xs.map g) (none::caps)) Q s=Q (xs.map f) s:=by
 rw[Nr (f:=λi=>match xs[i]? with|some x=>f x|none=>.non) o λi d hd Q=>?_]
 ·rw[ae,X0]
 ·rw[aD]at hd;cases c:xs[i]? with
  |none=>rw[c]at hd;cases hd
  |some x=>rw[c]at hd;cases hd;exact h x (bo c) Q
theorem Nc{α:Type}{f:α->Bool}:∀{xs:List α},iW (xs.map λx=>.bl (f x))=some (xs.map f)
 |[]=>rfl
 |x::xs=>by show (iW (xs.map λx=>.bl (f x))).map (f x::·)=_;rw[Nc];rfl
theorem all_map{α:Type}{f:α->Bool}{xs:List α}:wp (nY (xs.map λx=>.bl (f x))) Q s=Q (.bl (xs.all f)) s:=by unfold nY;rw[Nc];dsimp only;rw[cy,so];rfl
noncomputable def sW:Option Nat->D
 |some n=>.int (n:Nat)
 |none=>.non
theorem XS{n:Nat}{x:Str}(h:Hq n x):x.cps.all (· < 128)=true:=by rw[Array.all_eq_true'];intro c g;exact aM (h.2 c (by simpa using g))
theorem TY{n:Nat}{x:Str}(h:Hq n x)(O:n<=1000):wp (jd [.str x]) Q s=Q (sW (va x)) s:=by
 have o:x.length<=eQ:=eM (bC h.1 O);have as:=XS h;have c0:∀l,fG 1 [] l=[none]:=λ_=>rfl;have c1:∀Q s,wp (collect (aS 0) bZ (c2 vi (ak 0) (ay (.str "0123456789"))) d6 (signs x) [none]) Q s=Q (x.cps.toList.map λc=>.bl (qR c)) s:=λQ s=>F1 trivial λc g Q=>by simp![↓Qw,Uf]
 have J:(signs x).length<=eQ:=by unfold signs;rw[ae,qw];exact o
 have u:=qw x;apply BD
 (simp![jd];simp![yb,↓Fp,o,as,c0,↓c1,↓PP,J,↓all_map])
 unfold va Aa;rw[u];by_cases h0:1<=x.length/\x.length<=3
 ·have q:decide ((1:Int)<=(x.length:Int))=true:=aM (by ext);have G:decide ((x.length:Int)<=3)=true:=aM (by ext);simp![q,G,pA];cases U:x.cps.toList.all qR with
  |false=>
   simp![];split<;>simp[sW]
  |true=>
   simp![];obtain⟨c,r,E⟩:∃c r,x.cps.toList=c::r:=by
    cases L:x.cps.toList with
    |nil=>rw[L]at u;simp at u;ext
    |cons c r=>exact⟨c,r,rfl⟩
   have v:∀(Q:D->aR->Prop)s,wp (aY (.str x) (.int 0)) Q s=Q (.str ⟨#[c]⟩) s:=λQ s=>by rw[H_ x,E,VP];refine propext ⟨λh=>h.2,λh=>⟨?_,h⟩⟩;rw[<- E,<- H_];exact o
   have I:∀(Q:D->aR->Prop)s,wp (oy (.str x)) Q s=Q (.int (ub x.cps.toList:Nat)) s:=λQ s=>Xi (by have:=SV (cs:=x.cps.toList) (by ext) (by ext) U;rw[<- H_]at this;exact this) (by ext)
   have C:((⟨#[c]⟩:Str) == ("0":Str))=decide (c=48):=by
    rw[Km];by_cases g:c=48
    ·subst g;decide
    ·rw[aO g];rw[beq_eq_false_iff_ne];intro e;apply g;have:=bH (λx:Str=>x.cps.toList) e;simpa using this
   have J:x.cps.toList[0]?=some c:=by rw[E];rfl
   rw[J];by_cases g:c=48
   ·by_cases Y:1 < x.length
    ·have H:((1:Int) < (x.length:Int)):=by ext
     rw[aG (.inr (.inr ⟨Y,by rw[g]⟩))];simp![↓v,C,aM g,↓Fp,o,H,sW]
    ·have H:¬ ((1:Int) < (x.length:Int)):=by ext
     rw[az (by ext),aG rfl];simp![↓v,C,aM g,↓Fp,o,H,↓I,sW]
   ·rw[az (by simp[g];ext),aG rfl];simp![↓v,C,aO g,↓Fp,o,↓I,sW]
 ·have c:x.length=0\/3 < x.length\/1 < x.length/\x.cps.toList[0]?=some 48:=by ext
  rw[aG c];by_cases g:1<=x.length
  ·have q:decide ((1:Int)<=(x.length:Int))=true:=aM (by ext);have G:decide ((x.length:Int)<=3)=false:=aO (by ext);simp![q,G,pA,sW]
  ·have q:decide ((1:Int)<=(x.length:Int))=false:=aO (by ext);simp![q,u8,sW]
end
noncomputable def nt(n:Nat):Str:=ag (toString (n:Int))
theorem TM:((db 1000).all λn=>decide (va (nt n)=some n))=true:=by nofun
theorem Mw{n:Nat}(h:n < 1000):va (nt n)=some n:=of_decide_eq_true (cq.mp TM n (fu.mpr h))
theorem u_{n:Nat}(h:n < 1000):(nt n).length≠0/\(nt n).length<=3/\(nt n).cps.toList.all qR=true:=by
 have e:=Mw h;have l:=qw (nt n);unfold va Aa at e;split at e
 ·cases e
 ·split at e
  ·rename_i g c;exact⟨by ext,by ext,c⟩
  ·cases e
theorem XH{n:Nat}(h:n < 1000):Hq 1000 (nt n):=by obtain⟨_,a,b⟩:=u_ h;refine⟨by ext,λc g=>?_⟩;obtain⟨k,o,rfl⟩:=xY (cq.mp b c g);ext
theorem Wf:((db 8).all λn=>decide (nt n=nX n))=true:=by nofun
theorem BX{n:Nat}(h:n < 8):nt n=nX n:=of_decide_eq_true (cq.mp Wf n (fu.mpr h))
theorem rN{n:Nat}{Q:D->aR->Prop}{s:aR}(h:n < 1000):wp (iw (.int (n:Nat))) Q s=Q (.str (nt n)) s:=by rw[QA];exact propext ⟨λh=>h.2,λq=>⟨vS (Nat.log2_le_self _) (by ext),q⟩⟩
theorem M9{n:Nat}{Q:D->aR->Prop}{s:aR}(h:n < 1000):wp (jd [.str (nt n)]) Q s=Q (.int (n:Nat)) s:=by rw[TY (XH h) (ax _),Mw h];rfl
open PySem (Str)
theorem BG:(" ":Str).length=1:=by nofun
theorem Li:(" / ":Str).length=3:=by nofun
noncomputable def gH(g u:Nat):Str:=⟨#[48+g,46,48+u]⟩
def lQ(dn:Nat)(p:Nat->Nat×Nat):Str:=bV (" ":Str) (bB dn λd=>gH (p d).1 (p d).2)
def tU(S dn:Nat)(p:Nat->Nat->Nat×Nat):Str:=bV (" / ":Str) (bB S λs=>lQ dn (p s))
def ke(dn:Nat)(p:Nat->Nat×Nat):D:=.tup (bB dn λd=>.tup [.int ((p d).1:Nat),.int ((p d).2:Nat)])
theorem Ia:(".":Str)=⟨#[46]⟩:=by nofun
theorem Nu:(" ":Str)=⟨#[32]⟩:=by nofun
theorem OT:(" / ":Str)=⟨#[32,47,32]⟩:=by nofun
theorem UM{g u:Nat}:xD++nX g++(".":Str)++nX u=gH g u:=by rw[Ia];exact uu (by simp[kA,xD,nX,gH])
theorem FN{n k:Nat}{f:Nat->Nat}(h:∀i,i < n->f i<=k):(bB n f).sum<=n*k:=by
 induction n with
 |zero=>simp[bB]
 |succ n ih=>
  rw[Eo,List.sum_append,E4];have:=ih λi c=>h i (by ext);have:=h n (by ext);simp;ext
theorem Ks{dn:Nat}{p:Nat->Nat×Nat}:(lQ dn p).length<=dn*4:=by
 unfold lQ
 show (cG _ _).length<=_;rw[cJ];refine bC (g9 _ _) ?_;rw[Bk,mh];have h:(bB dn λd=>(gH (p d).1 (p d).2).length).sum<=dn*3:=FN λi g=>ax 3;have c:((" ":Str)).length=1:=by nofun
 rw[c];ext
theorem Lu{S dn:Nat}{p:Nat->Nat->Nat×Nat}:(tU S dn p).length<=S*(dn*4+3):=by
 unfold tU
 show (cG _ _).length<=_;rw[cJ];refine bC (g9 _ _) ?_;rw[Bk,mh];have h:(bB S λs=>(lQ dn (p s)).length).sum<=S*(dn*4):=FN λi g=>Ks;have c:((" / ":Str)).length=3:=by nofun
 rw[c,F_];ext
theorem N4{n:Nat}{Q:D->aR->Prop}{s:aR}(h:n < 8):wp (iw (.int (n:Nat))) Q s=Q (.str (nX n)) s:=by rw[rN (by ext),BX h]
theorem U9{n:Nat}{Q:D->aR->Prop}{s:aR}(h:n < 8):wp (jd [.str (nX n)]) Q s=Q (.int (n:Nat)) s:=by rw[<- BX h];exact M9 (by ext)
theorem Cy:(".":Str).length=1:=by nofun
theorem We:Av (".":Str) 46 0:=by
 rw[Ia];exact⟨by decide,rfl,(λj h=>by
  cases j with
  |zero=>rfl
  |succ j=>cases h),by nofun⟩
theorem GL:Av (" ":Str) 32 0:=by
 rw[Nu];exact⟨by decide,rfl,(λj h=>by
  cases j with
  |zero=>rfl
  |succ j=>cases h),by nofun⟩
theorem TQ:Av (" / ":Str) 47 1:=by
 rw[OT];exact⟨by decide,rfl,(λj h=>by
  match j,h with
  |1,_=>rfl
  |0,h=>cases h
  |2,h=>cases h
  |j+3,h=>cases h),by nofun⟩
theorem SH{g u:Nat}(o:g < 4)(hu:u < 4):gr (gH g u) (".":Str)=[nX g,nX u]:=by
 have e:gH g u=bV (".":Str) [nX g,nX u]:=by rw[Ia];exact uu (by simp[gH,nX,bV,cG])
 rw[e];refine Bj We (by simp) λp c=>?_;rcases aF.mp c with h|h
 ·subst h;simp[nX];ext
 ·rw[aE]at h;subst h;simp[nX];ext
theorem Mj{α:Type}{n:Nat}{f:Nat->α}(h:1<=n):bB n f≠[]:=λe=>by have:=bH b6 e;rw[mh,eX]at this;ext
theorem B0{α:Type}{n:Nat}{f:Nat->α}{x:α}(h:x∈bB n f):∃i,i < n/\x=f i:=by obtain⟨i,c⟩:=iI h;exact⟨i,FA c⟩
theorem Td{dn:Nat}{p:Nat->Nat×Nat}(o:1<=dn)(g:∀d,d < dn->(p d).1 < 4/\(p d).2 < 4):gr (lQ dn p) (" ":Str)=bB dn λd=>gH (p d).1 (p d).2:=by refine Bj GL (Mj o) λq c=>?_;obtain⟨i,h,e⟩:=B0 c;obtain⟨a,b⟩:=g i h;subst e;simp[gH];ext
theorem mem_join{y:Str}{c:Nat}:∀{ps:List Str},c∈(iO y ps).cps.toList->c∈y.cps.toList\/∃p∈ps,c∈p.cps.toList
 |[],h=>by cases h
 |[p],h=>.inr ⟨p,by simp,h⟩
 |p::q::r,h=>by
  have h:c∈(p++y++iO y (q::r)).cps.toList:=h;rw[kA,kA,mU,mU,br,br]at h;rcases h with (h|h)|h
  ·exact .inr ⟨p,by simp,h⟩
  ·exact .inl h
  ·rcases mem_join h with h|⟨z,hz,h⟩
   ·exact .inl h
   ·exact .inr ⟨z,aT _ hz,h⟩
theorem Ua{dn c:Nat}{p:Nat->Nat×Nat}(h:c∈(lQ dn p).cps.toList)(g:∀d,d < dn->(p d).1 < 4/\(p d).2 < 4):c≠47:=by
 unfold lQ at h;have h:c∈(cG _ _).cps.toList:=h;rw[cJ]at h;rcases mem_join h with h|⟨z,hz,h⟩
 ·rw[Nu]at h;simp at h;ext
 ·obtain⟨i,o,e⟩:=B0 hz;obtain⟨a,b⟩:=g i o;subst e;simp[gH]at h;ext
theorem Wt{S dn:Nat}{p:Nat->Nat->Nat×Nat}(u:1<=S)(g:∀i d,i < S->d < dn->(p i d).1 < 4/\(p i d).2 < 4):gr (tU S dn p) (" / ":Str)=bB S λi=>lQ dn (p i):=by refine Bj TQ (Mj u) λq c h=>?_;obtain⟨i,o,e⟩:=B0 c;subst e;exact Ua h (λd hd=>g i d o hd) rfl
theorem R4{g u:Nat}{Q:D->aR->Prop}{s:aR}(v:g < 4)(hu:u < 4)(h:∀s',dY s s'->Q (.tup [.int (g:Nat),.int (u:Nat)]) s'):wp (jO [.str (gH g u)]) Q s:=by
 have o:(gH g u).length=3:=rfl;have c:(".":Str).length=1:=Cy;have H:∀l,fG 1 [] l=[none]:=λ_=>rfl;have E:[nX g,nX u].map D.str=bB 2 λi=>.str (nX (if i=0 then g else u)):=rfl;have g1:∀(ds:List D)Q,wp (getL s.length) Q (s++[MO.lst ds])=Q ds (s++[MO.lst ds]):=λds Q=>kC (by simp)
 (simp![jO];simp![yo,↓BC,SH v hu,E,↓g1,H,mh,o,c])
 have G:∀Q,wp (collect (aS 0) bZ (bv jd (ar (ak 0) bc)) (om s.length (bB 2 λi=>.str (nX (if i=0 then g else u)))) (bB 2 λi=>.str (nX (if i=0 then g else u))) [none]) Q (s++[MO.lst (bB 2 λi=>.str (nX (if i=0 then g else u)))])=Q (bB 2 λi=>.int ((if i=0 then g else u:Nat):Nat)) (s++[MO.lst (bB 2 λi=>.str (nX (if i=0 then g else u)))]):=λQ=>zl (by show _=_;simp) λi J Q=>by
  have I:(if i=0 then g else u) < 4:=by split<;>ext
  have r:∀Q s,wp (jd [.str (nX (if i=0 then g else u))]) Q s=Q (.int ((if i=0 then g else u:Nat):Nat)) s:=λQ s=>U9 (by ext);simp![↓r]
 refine⟨⟨rfl,eM (by decide),eM (by decide)⟩,eM (by decide),?_⟩;rw[G];have C:(bB 2 λi=>D.int ((if i=0 then g else u:Nat):Nat))=[.int (g:Nat),.int (u:Nat)]:=rfl;rw[C];have q:∀Q s,wp (v8 .non [.int (g:Nat),.int (u:Nat)]) Q s=Q (.bl false) s:=λQ s=>by unfold v8;rw[dW,cy];exact propext ⟨λh=>h.2,λh=>⟨⟨rfl,rfl⟩,h⟩⟩
 simp![↓q];rw[az (by decide)];exact h _ (dY.snoc (dY.refl _) _)
theorem P_{dn:Nat}{p:Nat->Nat×Nat}{Q:D->aR->Prop}{s:aR}(g:1<=dn)(hd:dn<=4)(u:∀d,d < dn->(p d).1 < 4/\(p d).2 < 4)(h:∀s',dY s s'->Q (ke dn p) s'):wp (jI [.str (lQ dn p)]) Q s:=by
 have U:=Ks (dn:=dn) (p:=p);have L:∀l,fG 1 [] l=[none]:=λ_=>rfl;have g1:∀(ds:List D)Q,wp (getL s.length) Q (s++[MO.lst ds])=Q ds (s++[MO.lst ds]):=λds Q=>kC (by simp);have E:(" ":Str).length=1:=BG
 (simp![jI];simp![ye,↓BC,Td g u,Bk,↓g1,L,mh,E])
 refine⟨⟨rfl,eM (by ext),eM (by ext)⟩,eM (by ext),?_⟩;have g2:(s++[MO.lst (bB dn λi=>.str (gH (p i).1 (p i).2))])[s.length]?=some (.lst (bB dn λi=>.str (gH (p i).1 (p i).2))):=by simp
 have J:dY s (s++[MO.lst (bB dn λi=>.str (gH (p i).1 (p i).2))]):=dY.snoc (dY.refl _) _;generalize s++[MO.lst (bB dn λi=>.str (gH (p i).1 (p i).2))]=C at *;refine Gk (caps:=[]) (λi c s'=>c=bB i (λi=>D.tup [.int ((p i).1:Nat),.int ((p i).2:Nat)])/\dY C s') (λ_ _ s' w=>w.2.at_ g2) ⟨rfl,dY.refl _⟩ (λi c s' G w=>?_) (λc s' w=>?_)
 ·obtain⟨q,o⟩:=w;obtain⟨I,H⟩:=u i G;simp![];refine R4 I H λO v=>⟨?_,o.trans v⟩
  rw[q,Eo]
 ·obtain⟨q,o⟩:=w;subst q;simp![];exact h _ (J.trans o)
theorem KY{dn:Nat}{p:Nat->Nat×Nat}{Q:D->aR->Prop}{s:aR}:wp (dk (ke dn p)) Q s=Q (.int (dn:Nat)) s:=by unfold ke;simp![mh]
theorem QR{S dn:Nat}{p:Nat->Nat->Nat×Nat}{i:Nat}{Q:D->aR->Prop}{s:aR}(o:1<=S)(hd:dn<=4)(v:i < S)(h:∀d,d < dn->(p i d).1 < S):wp (jk [.tup (bB S λi=>ke dn (p i)),ke dn (p i)]) Q s=Q (.bl true) s:=by
 have g:∀Q s,wp (dz (bB S λi=>ke dn (p i)) 0) Q s=Q (ke dn (p 0)) s:=λQ s=>Bs (by ext);apply BD
 (simp![jk];simp![j6,↓g,↓KY])
 rw[az (by simp)];have q:ke dn (p i)=.tup (bB dn λd=>.tup [.int ((p i d).1:Nat),.int ((p i d).2:Nat)]):=rfl;generalize ke dn (p i)=r at *;subst q;simp![mh];refine⟨eM (by ext),?_⟩;rw[show ∀t u,fG 2 [0] [some t,some u]=[none,none,some t] from λ_ _=>rfl];rw[GW (f:=λd=>.bl (bP True)) trivial λd c Q=>?_]
 ·simp![↓IG];rw[zm (λ_ _=>trivial)]
 ·have C:=h d c;simp![mh];rw[aM (by ext),pA,aM (by ext),pA,aM (by ext),zm trivial]
theorem VF{S dn:Nat}{p:Nat->Nat->Nat×Nat}{Q:D->aR->Prop}{s:aR}(g:1<=S)(C:S<=4)(u:1<=dn)(hd:dn<=4)(q:∀i d,i < S->d < dn->(p i d).1 < S):wp (jj [.tup (bB S λi=>ke dn (p i))]) Q s=Q (.bl true) s:=by
 have o:∀Q s,wp (dz (bB S λi=>ke dn (p i)) 0) Q s=Q (ke dn (p 0)) s:=λQ s=>Bs (by ext);have v:∀t,fG 1 [0] [some t]=[none,some t]:=λ_=>rfl;apply BD
 (simp![jj];simp![j7,↓o,↓KY,mh,v])
 rw[az (by ext)];rw[az (by ext)];refine⟨eM (by ext),?_⟩;rw[zl (f:=λd=>.bl (bP True)) trivial λi h Q=>?_]
 ·simp![↓IG];rw[zm (λ_ _=>trivial)]
 ·have w:∀Q s,wp (jk [.tup (bB S λi=>ke dn (p i)),ke dn (p i)]) Q s=Q (.bl true) s:=λQ s=>QR g hd h (λd c=>q i d h c);simp![↓w];rw[zm trivial]
theorem XZ{S dn:Nat}{p:Nat->Nat->Nat×Nat}{Q:D->aR->Prop}{s:aR}(v:1<=S)(H:S<=4)(u:1<=dn)(hd:dn<=4)(G:∀i d,i < S->d < dn->(p i d).1 < S/\(p i d).2 < 4)(h:∀s',dY s s'->Q (.tup (bB S λi=>ke dn (p i))) s'):wp (jM [.str (tU S dn p)]) Q s:=by
 have o:∀i d,i < S->d < dn->(p i d).1 < 4/\(p i d).2 < 4:=λi d q c=>by have:=G i d q c;ext
 have Y:=Lu (S:=S) (dn:=dn) (p:=p);have t2:S*(dn*4+3)<=4*19:=Bc H (by ext);have U:∀l,fG 1 [] l=[none]:=λ_=>rfl;have g1:∀(ds:List D)Q,wp (getL s.length) Q (s++[MO.lst ds])=Q ds (s++[MO.lst ds]):=λds Q=>kC (by simp);have L:(" / ":Str).length=3:=Li
 (simp![jM];simp![yi,↓BC,Wt v o,Bk,↓g1,U,mh,L])
 refine⟨⟨rfl,eM (by ext),eM (by ext)⟩,eM (by ext),?_⟩;have g2:(s++[MO.lst (bB S λi=>.str (lQ dn (p i)))])[s.length]?=some (.lst (bB S λi=>.str (lQ dn (p i)))):=by simp
 have O:dY s (s++[MO.lst (bB S λi=>.str (lQ dn (p i)))]):=dY.snoc (dY.refl _) _;generalize s++[MO.lst (bB S λi=>.str (lQ dn (p i)))]=J at *;refine Gk (caps:=[]) (λi g s'=>g=bB i (λi=>ke dn (p i))/\dY J s') (λ_ _ s' w=>w.2.at_ g2) ⟨rfl,dY.refl _⟩ (λi g s' q w=>?_) (λg s' w=>?_)
 ·obtain⟨E,C⟩:=w;simp![];refine P_ u hd (λd c=>o i d q c) λg I=>⟨?_,C.trans I⟩
  rw[E,Eo]
 ·obtain⟨E,C⟩:=w;subst E;have w:∀Q s,wp (jj [.tup (bB S λi=>ke dn (p i))]) Q s=Q (.bl true) s:=λQ s=>VF v H u hd (λi d q c=>(G i d q c).1);simp![↓w];exact h _ (O.trans C)
open PySem (Str)
def nW(b:Bd):Str:=tU b.S b.dn λs d=>(b.nx s d,b.un s d)
def gG(ns:List Nat):Str:=bV (" ":Str) (ns.map nt)
def iR(b:Bd):Str:=("board ":Str)++nW b++(" at ":Str)++nt b.st
def iU(h:Hd):Str:=("hand ":Str)++gG [h.b0,h.b1]
def lA:Ln->Str
 | .settle v=>("settle ":Str)++gG [v]
 | .act b d gs=>("do ":Str)++gG [b,d]++(" : ":Str)++gG gs
def pD(h:Hd):List Str:=iU h::h.lines.map lA
def cZ(h:Hs):List Str:=h.boards.map iR++(h.hands.map pD).flatten
def nj(h:Hs):Str:=bV ("\n":Str) (cZ h)
noncomputable def tz(n:Nat)(l:Ln):Prop:=match l with
 | .settle v=>v < 1000
 | .act b d gs=>b < 1000/\d < 1000/\gs.length<=4+n/\gs≠[]/\∀g∈gs,g < 1000
def xb(b:Bd):Prop:=ot b.S b.dn b.nx b.un/\b.st < 1000
def yE(n:Nat)(x:Hd):Prop:=x.b0 < 1000/\x.b1 < 1000/\x.lines.length<=8/\∀l∈x.lines,tz n l
def pp(n:Nat)(h:Hs):Prop:=h.boards.length<=4/\(∀b∈h.boards,xb b)/\1<=h.hands.length/\h.hands.length<=3+2*n/\∀x∈h.hands,yE n x
section
variable{p q:Nat}{s s1 s2:aR}{Q:D->aR->Prop}
theorem HP{α:Type}{f:α->Str}:∀{xs:List α},gU (xs.map λx=>.str (f x))=some (xs.map f)
 |[]=>rfl
 |x::xs=>by show (gU (xs.map λx=>.str (f x))).map (f x::·)=_;rw[HP];rfl
theorem FS{α:Type}{f:α->Nat}{k:Nat}:∀{xs:List α},(∀x∈xs,f x<=k)->(xs.map f).sum<=xs.length*k
 |[],_=>by simp
 |x::xs,h=>by rw[aQ,List.sum_cons,cm,E4];have:=FS (xs:=xs) λy c=>h y (aT _ c);have:=h x bQ;ext
theorem LB{y:Str}{k:Nat}{xs:List Str}(h:∀x∈xs,x.length<=k):(bV y xs).length<=xs.length*(k+y.length):=by show (cG _ _).length<=_;rw[cJ];refine bC (g9 _ _) ?_;have:=FS (f:=λx:Str=>x.length) h;rw[F_];ext
theorem C2{ns:List Nat}(h:∀n∈ns,n < 1000):(gG ns).length<=ns.length*4:=by
 unfold gG;have:=LB (y:=(" ":Str)) (k:=3) (xs:=ns.map nt) λx c=>by obtain⟨n,g,rfl⟩:=dJ.mp c;exact (u_ (h n g)).2.1
 rw[ae,BG]at this;exact this
theorem QG{ns:List Nat}{Q:List D->aR->Prop}(h:∀n∈ns,n < 1000):wp (collect (aS 0) bZ (c1 iw (ak 0)) d6 (ns.map cV) [none]) Q s=Q (ns.map λn=>.str (nt n)) s:=F1 yC λn c Q=>by have e:∀(Q:D->aR->Prop)s,wp (iw (.int (n:Nat))) Q s=Q (.str (nt n)) s:=λQ s=>rN (h n c);simp![cV,↓e]
theorem NN:(("settle ":Str)).length=7:=by nofun
theorem B9:(("do ":Str)).length=3:=by nofun
theorem L7:((" : ":Str)).length=3:=by nofun
theorem Oh:(("hand ":Str)).length=5:=by nofun
theorem Fj:(("board ":Str)).length=6:=by nofun
theorem C7:((" at ":Str)).length=4:=by nofun
theorem Lk:¬ (ag "do"=ag "settle"):=by decide
theorem Mz{a b:Nat}:gG [a,b]=nt a++(" ":Str)++nt b:=rfl
theorem xZ{a b k:Nat}(h:a < k)(g:b < k):∀n∈[a,b],n < k:=λn c=>by
 rcases aF.mp c with e|e
 ·rw[e];exact h
 ·rw[aE.mp e];exact g
theorem Qq{l:Ln}{n:Nat}(L:n<=3)(h:tz n l)(o:∀s',dY s s'->Q (.str (lA l)) s'):wp (jp [i6 l]) Q s:=by
 cases l with
 |settle v=>
  have e:∀(Q:D->aR->Prop)s,wp (iw (cV v)) Q s=Q (.str (nt v)) s:=λQ s=>rN h;have:=(u_ h).2.1
  (simp![jp];simp![jJ,i6,decide_true,if_true,↓e,↓Dl])
  exact⟨eM (by rw[NN];ext),o s (dY.refl _)⟩
 |act b d gs=>
  obtain⟨C,u,O,_,c⟩:=h;have H:∀(Q:D->aR->Prop)s,wp (iw (cV b)) Q s=Q (.str (nt b)) s:=λQ s=>rN C;have G:∀(Q:D->aR->Prop)s,wp (iw (cV d)) Q s=Q (.str (nt d)) s:=λQ s=>rN u;have Y:=(u_ C).2.1;have U:=(u_ u).2.1;have I:∀(Q:List D->aR->Prop)s,wp (collect (aS 0) bZ (c1 iw (ak 0)) d6 (gs.map cV) [none]) Q s=Q (gs.map λn=>.str (nt n)) s:=λQ s=>QG c;have l:gs.length<=eQ:=eM (by ext);have g:∀(ds:List D)(Q:List D->aR->Prop),wp (getL s.length) Q (s++[MO.lst ds])=Q ds (s++[MO.lst ds]):=λds Q=>kC (by simp);have J:((gs.map nt).map λx:Str=>x.length).sum<=gs.length*3:=by rw[i_];exact FS λx E=>(u_ (c x E)).2.1
  have n2:=C2 c
  (simp![jp];simp![jJ,i6,Lk,if_false,↓H,↓G,↓Dl,↓DP,fG,ae,l,↓I,↓g,HP,BG])
  simp only[bx,B9,BG,L7];refine⟨eM (by ext),eM (by ext),eM (by ext),eM (by ext),by ext,eM (by show _+(gG gs).length<=_;ext),?_⟩;have e:("do ":Str)++nt b++(" ":Str)++nt d++(" : ":Str)++bV (" ":Str) (gs.map nt)=lA (.act b d gs):=by show _=("do ":Str)++(nt b++(" ":Str)++nt d)++(" : ":Str)++gG gs;simp only[fq];rfl
  rw[e];exact o _ ((dY.refl _).snoc _)
theorem Oz{b:Bd}:fN b.S b.dn b.nx b.un=.tup (bB b.S λi=>ke b.dn λd=>(b.nx i d,b.un i d)):=rfl
theorem Sd{b:Bd}(h:xb b):∀i d,i < b.S->d < b.dn->(b.nx i d,b.un i d).1 < 4/\(b.nx i d,b.un i d).2 < 4:=λi d c hd=>by have:=h.1.2.2.2.2 i d c hd;have:=h.1.2.1;exact⟨by show b.nx i d < 4;ext,by show b.un i d < 4;ext⟩
theorem Jw{b:Bd}(h:xb b):(nW b).length<=76:=by have:=Lu (S:=b.S) (dn:=b.dn) (p:=λs d=>(b.nx s d,b.un s d));have c:b.S*(b.dn*4+3)<=4*19:=Bc h.1.2.1 (by have:=h.1.2.2.2.1;ext);exact bC this c
theorem LC{b:Bd}(h:xb b):(iR b).length<=90:=by unfold iR;have:=Jw h;have:=(u_ h.2).2.1;simp only[bx,Fj,C7];ext
end
open PySem (Str)
section
variable{p q:Nat}{s s1 s2:aR}{Q:D->aR->Prop}
theorem ME{α:Type}{e:CE}{xs:List α}{g1 g2 f:α->D}{caps:Loc}{A:List D->aR->Prop}{same:aR->Prop}(E:∀s',dY s s'->same s')(H:∀x∈xs,∀s',dY s s'->∀Q:D->aR->Prop,(∀s2,dY s' s2->Q (f x) s2)->wp (e (some (g1 x)::some (g2 x)::caps)) Q s')(h:∀s',dY s s'->A (xs.map f) s'):
  wp (collect (eR 2 (bD (aS 0) (bD (aS 1) eZ))) bZ e same (xs.map λx=>.tup [g1 x,g2 x]) (none::none::caps)) A s:=by
 have chk:∀{s':aR}{R:Unit->aR->Prop},dY s s'->R () s'->wp (chkS same) R s':=λx r=>by rw[cF (show chkS same _=.ok () _ from aG (E _ x))];exact r
 refine Bm (Q:=A) (λg ys l s'=>∃i,ys=(xs.drop i).map (λx=>.tup [g1 x,g2 x])/\i<=xs.length/\(∃x y,l=x::y::caps)/\g=(xs.take i).map f/\dY s s') (λg l s' o=>?_) (λg d ys l s' o=>?_) _ [] _ s ⟨0,by simp,bL _,⟨_,_,rfl⟩,rfl,dY.refl _⟩
 ·obtain⟨i,u,G,_,v,x⟩:=o;have:i=xs.length:=by have:=bH b6 u;simp at this;ext
  subst this;rw[v,eJ];exact chk x (h s' x)
 ·obtain⟨i,u,G,⟨a,b,el⟩,v,x⟩:=o;have c:i < xs.length:=by have:=bH b6 u;simp at this;ext
  rw[bR c,aQ]at u;obtain⟨J,I⟩:=ia u;subst J el;refine chk x ?_;rw[sw,m5,fj,m5,fj,sR];refine⟨rfl,?_⟩;rw[qL,aG rfl];refine H xs[i] (cv c) s' x _ λs2 C=>⟨i+1,I,c,⟨_,_,rfl⟩,?_,x.trans C⟩
  rw[v,ib,au c,bA];rfl
theorem T2{α:Type}{e:CE}{xs:List α}{g f:α->D}{caps:Loc}{A:List D->aR->Prop}{same:aR->Prop}(G:∀s',dY s s'->same s')(I:∀x∈xs,∀s',dY s s'->∀Q:D->aR->Prop,(∀s2,dY s' s2->Q (f x) s2)->wp (e (some (g x)::caps)) Q s')(h:∀s',dY s s'->A (xs.map f) s'):
  wp (collect (aS 0) bZ e same (xs.map g) (none::caps)) A s:=by
 have chk:∀{s':aR}{R:Unit->aR->Prop},dY s s'->R () s'->wp (chkS same) R s':=λx r=>by rw[cF (show chkS same _=.ok () _ from aG (G _ x))];exact r
 refine Bm (Q:=A) (λo ys l s'=>∃i,ys=(xs.drop i).map g/\i<=xs.length/\(∃x,l=x::caps)/\o=(xs.take i).map f/\dY s s') (λo l s' u=>?_) (λo d ys l s' u=>?_) _ [] _ s ⟨0,by simp,bL _,⟨_,rfl⟩,rfl,dY.refl _⟩
 ·obtain⟨i,v,H,_,C,x⟩:=u;have:i=xs.length:=by have:=bH b6 v;simp at this;ext
  subst this;rw[C,eJ];exact chk x (h s' x)
 ·obtain⟨i,v,H,⟨a,el⟩,C,x⟩:=u;have c:i < xs.length:=by have:=bH b6 v;simp at this;ext
  rw[bR c,aQ]at v;obtain⟨L,J⟩:=ia v;subst L el;refine chk x ?_;rw[fj,qL,aG rfl];refine I xs[i] (cv c) s' x _ λs2 E=>⟨i+1,J,c,⟨_,rfl⟩,?_,x.trans E⟩
  rw[C,ib,au c,bA];rfl
def kI(h:Hs)(i:Nat):List Str:=h.boards.map iR++((h.hands.take i).map pD).flatten
theorem L8{h:Hs}{i:Nat}{x:Hd}(e:h.hands[i]?=some x):kI h (i+1)=kI h i++[iU x]++x.lines.map lA:=by unfold kI;rw[ib,e,bA,List.flatten_append];simp[pD]
theorem MV{h:Hs}:kI h h.hands.length=cZ h:=by unfold kI cZ;rw[eJ]
theorem tz.mono{n m:Nat}{l:Ln}(h:tz n l)(e:n<=m):tz m l:=by
 cases l with
 |settle v=>exact h
 |act b d gs=>exact⟨h.1,h.2.1,by have:=h.2.2.1;ext,h.2.2.2⟩
theorem pp.mono{n m:Nat}{h:Hs}(r:pp n h)(e:n<=m):pp m h:=⟨r.1,r.2.1,r.2.2.1,by have:=r.2.2.2.1;ext,λx g=>let ⟨a,b,c,d⟩:=r.2.2.2.2 x g;⟨a,b,c,λl o=>(d l o).mono e⟩⟩
theorem TH{h:Hs}(c:AW h)(Y:h.boards.length<=4)(U:∀x∈h.hands,x.lines.length<=8):pp 0 h:=by
 refine⟨Y,λb o=>⟨(c.2.1 b o).1,by have:=(c.2.1 b o).1.2.1;have:=(c.2.1 b o).2;ext⟩,by have:=c.2.2.1;ext,c.2.2.2.1,λx C=>?_⟩;obtain⟨d1,Q,_,G⟩:=c.2.2.2.2 x C;have H:=U x C;refine⟨by ext,by ext,H,λl J=>?_⟩;have z:=G l J;cases l with
 |settle v=>
  have:v < 2:=z
  show v < 1000;ext
 |act b d gs=>
  obtain⟨u,g1,g2,E,q⟩:=z;have o:=(am.mp g1).1;obtain⟨ok,_⟩:=c.2.1 u (bo g1);have G:=ok.2.2.2.1;have I:mx (u.un · d) u.S<=3:=MQ λi L=>by have:=(ok.2.2.2.2 i d L g2).2;ext
  exact⟨by ext,by ext,by ext,λe=>by rw[e]at E;simp at E;ext,λg O=>by have:=q g O;ext⟩
theorem JI{l:Ln}(h:tz 3 l):(lA l).length<=60:=by
 cases l with
 |settle v=>
  have:(gG [v]).length<=4:=C2 (ns:=[v]) λn c=>by rw[aE.mp c];exact h
  show (("settle ":Str)++gG [v]).length<=60;rw[bx,NN];ext
 |act b d gs=>
  have n1:(gG [b,d]).length<=8:=C2 (ns:=[b,d]) (xZ h.1 h.2.1);have n2:=C2 h.2.2.2.2;have:=h.2.2.1
  show (("do ":Str)++gG [b,d]++(" : ":Str)++gG gs).length<=60;simp only[bx,B9,L7];ext
theorem Gc{x:Hd}(h:yE 3 x):(iU x).length<=13:=by have n1:(gG [x.b0,x.b1]).length<=8:=C2 (ns:=[x.b0,x.b1]) (xZ h.1 h.2.1);unfold iU;rw[bx,Oh];ext
theorem qv{h:Hs}{r:Str}(g:r∈cZ h):(∃b∈h.boards,r=iR b)\/∃x∈h.hands,r=iU x\/∃l∈x.lines,r=lA l:=by
 unfold cZ at g;rcases br.mp g with z|z
 ·obtain⟨b,v,e⟩:=dJ.mp z;exact .inl ⟨b,v,e.symm⟩
 ·obtain⟨l,u,hz⟩:=List.mem_flatten.mp z;obtain⟨x,c,rfl⟩:=dJ.mp u;rcases aF.mp hz with e|e
  ·exact .inr ⟨x,c,.inl e⟩
  ·obtain⟨y,o,e⟩:=dJ.mp e;exact .inr ⟨x,c,.inr ⟨y,o,e.symm⟩⟩
theorem JQ{h:Hs}(c:pp 3 h):∀r∈cZ h,r.length<=90:=λr o=>by
 rcases qv o with ⟨b,v,e⟩|⟨x,g,e|⟨l,u,e⟩⟩
 ·rw[e];exact LC (c.2.1 b v)
 ·rw[e];exact bC (Gc (c.2.2.2.2 x g)) (by ext)
 ·rw[e];exact bC (JI ((c.2.2.2.2 x g).2.2.2 l u)) (by ext)
theorem Ir{h:Hs}(c:pp 3 h):∀i,i<=h.hands.length->(kI h i).length<=4+i*9
 |0,_=>by unfold kI;have:=c.1;simp;ext
 |i+1,hi=>by have e:h.hands[i]?=some h.hands[i]:=au (by ext);rw[L8 e];have:=Ir c i (by ext);have:=(c.2.2.2.2 h.hands[i] (cv _)).2.2.1;simp only[aV,ae,cf];ext
theorem FE{h:Hs}(c:pp 3 h):(cZ h).length<=85:=by rw[<- MV];have:=Ir c _ (ax _);have:=c.2.2.2.1;ext
end
open PySem (Str)
section
variable{p q:Nat}{s s1 s2:aR}{Q:D->aR->Prop}
theorem Oc{h:Hs}(q:pp 3 h)(hQ:∀n s',s'[n]?=some (.lst ((cZ h).map D.str))->dY s s'->Q (.ref n) s'):wp (jL [nO h]) Q s:=by
 have o:∀n:Nat,n<=100->n<=eQ:=λn hn=>eM (by ext);unfold nO
 (simp![jL];simp![yr,bL])
 refine Am (λi l s'=>∃H G E:Option D,l=[some (.tup [.tup (h.boards.map iP),.tup (h.hands.map lK)]),some (.ref s.length),H,G,E,none,none]/\s'[s.length]?=some (.lst ((h.boards.take i).map λb=>.str (iR b)))/\dY s s') (λ_ _ _ _=>trivial) ⟨none,none,none,rfl,pT,(dY.refl _).snoc _⟩ (λi d l s' hd c=>?_) (λl s' c=>?_)
 ·obtain⟨H,G,E,el,g,J⟩:=c;subst el;rw[aD]at hd;cases C:h.boards[i]? with
  |none=>rw[C]at hd;cases hd
  |some b=>
   rw[C]at hd;cases hd;have hm:=bo C;have hix:=(am.mp C).1;have O:=q.2.1 b hm;have S4:=O.1.2.1;have d4:=O.1.2.2.2.1;have b7:=q.1;have st3:=(u_ O.2).2.1;have e:∀(Q:D->aR->Prop)s,wp (iw (cV b.st)) Q s=Q (.str (nt b.st)) s:=λQ s=>rN O.2;unfold iP;rw[Oz];simp![fG,mh];refine⟨o _ (by ext),?_⟩;refine Gk (caps:=[]) (λi L u=>L=bB i (λi=>D.str (lQ b.dn λd=>(b.nx i d,b.un i d)))/\dY s' u) (λ_ _ _ _=>trivial) ⟨rfl,dY.refl _⟩ (λi L u I Y=>?_) (λL u Y=>?_)
   ·obtain⟨a1,v⟩:=Y;unfold ke;simp![↓DP,mh,fG];refine⟨o _ (by ext),?_⟩;rw[GW (caps:=[]) (f:=λd=>.str (gH (b.nx i d) (b.un i d))) trivial λd U Q=>?_]
    ·have g1:∀(ds:List D)Q,wp (getL u.length) Q (u++[MO.lst ds])=Q ds (u++[MO.lst ds]):=λds Q=>kC (by simp);have h1:(bB b.dn λd=>(gH (b.nx i d) (b.un i d)).length).sum<=b.dn*3:=FN λi I=>ax 3;simp![↓g1,L5,Bk,mh,BG];exact⟨by ext,by rw[a1,Eo];rfl,v.snoc _⟩
    ·obtain⟨h1,c⟩:=Sd O i d I U;have e1:∀Q s,wp (iw (.int (b.nx i d:Nat))) Q s=Q (.str (nX (b.nx i d))) s:=λQ s=>N4 (by have:b.nx i d < 4:=h1;ext);have e2:∀Q s,wp (iw (.int (b.un i d:Nat))) Q s=Q (.str (nX (b.un i d))) s:=λQ s=>N4 (by have:b.un i d < 4:=c;ext);simp![↓e1,↓e2,↓Dl,bx,show ∀n,(nX n).length=1 from λ_=>rfl,Cy];have g:nX (b.nx i d)++(".":Str)++nX (b.un i d)=gH (b.nx i d) (b.un i d):=by rw[<- UM,o_.empty_append]
     rw[g];exact propext ⟨λh=>h.2.2,λh=>⟨o _ (by ext),o _ (by ext),h⟩⟩
   ·obtain⟨a1,v⟩:=Y;subst a1;have c:=v.at_ g;have g1:∀(ds:List D)Q,wp (getL u.length) Q (u++[MO.lst ds])=Q ds (u++[MO.lst ds]):=λds Q=>kC (by simp);have q1:∀(A:List D)Q,wp (getL s.length) Q (u++[MO.lst A])=Q ((h.boards.take i).map λb=>.str (iR b)) (u++[MO.lst A]):=λA Q=>kC (tw c);have q2:∀(A:List D)es Q,wp (putL s.length es) Q (u++[MO.lst A])=Q () ((u++[MO.lst A]).set s.length (.lst es)):=λA es Q=>wR (tw c);have h1:(bB b.S λs=>(lQ b.dn λd=>(b.nx s d,b.un s d)).length).sum<=b.S*16:=FN λi I=>by have:=Ks (dn:=b.dn) (p:=λd=>(b.nx i d,b.un i d));ext
    have q:(bV (" / ":Str) (bB b.S λs=>lQ b.dn λd=>(b.nx s d,b.un s d))).length<=76:=Jw O;simp![↓DP,↓g1,↓q1,↓q2,L5,Bk,mh,Li,↓Dl,↓e,bx,Fj,C7,ae];refine⟨by ext,o _ (by ext),o _ (by ext),o _ (by ext),Aq (by rw[b5];ext),_,_,_,rfl,?_,((J.trans v).snoc _).put (ax _)⟩;rw[bj (by have:=pY c;simp;ext),ib,C,bA];rfl
 ·obtain⟨H,G,E,el,g,J⟩:=c;subst el;rw[ae,eJ]at g;simp![];refine Am (λi l s'=>∃(n:Nat)(H G E L u:Option D),l=[some (.tup [.tup (h.boards.map iP),.tup (h.hands.map lK)]),some (.ref n),H,G,E,L,u]/\s'[n]?=some (.lst ((kI h i).map D.str))/\s.length<=n/\dY s s') (λ_ _ _ _=>trivial) ⟨s.length,H,G,E,none,none,rfl,?_,ax _,J⟩ (λi d l s' hd c=>?_) (λl s' c=>?_)
  ·rw[g];unfold kI;simp
  ·obtain⟨n,H,G,E,L,u,el,g,Y,I⟩:=c;subst el;rw[aD]at hd;cases C:h.hands[i]? with
   |none=>rw[C]at hd;cases hd
   |some x=>
    rw[C]at hd;cases hd;have hm:=bo C;have hix:=(am.mp C).1;have ln:=Ir q i (by ext);have h3:=q.2.2.2.1;obtain⟨b0,b1,l8,J⟩:=q.2.2.2.2 x hm;have b03:=(u_ b0).2.1;have b13:=(u_ b1).2.1;have e1:∀(Q:D->aR->Prop)s,wp (iw (cV x.b0)) Q s=Q (.str (nt x.b0)) s:=λQ s=>rN b0;have e2:∀(Q:D->aR->Prop)s,wp (iw (cV x.b1)) Q s=Q (.str (nt x.b1)) s:=λQ s=>rN b1;have q1:∀Q,wp (getL n) Q s'=Q ((kI h i).map D.str) s':=λQ=>kC g;have q2:∀es Q,wp (putL n es) Q s'=Q () (s'.set n (.lst es)):=λes Q=>wR g;unfold lK;simp![↓e1,↓e2,↓Dl,↓q1,↓q2,ae,bx,Oh,BG,fG];refine⟨o _ (by ext),o _ (by ext),o _ (by ext),Aq (by ext),o _ (by ext),?_⟩;refine T2 (g:=i6) (f:=λl=>.str (lA l)) (λ_ _=>trivial) (λl hl v O Q hq=>?_) λv O=>?_
    ·simp![];exact Qq (ax 3) (J l hl) hq
    have gv:=O.at_ (bj (pY g):(s'.set n (MO.lst ((kI h i).map D.str++[.str (("hand ":Str)++nt x.b0++(" ":Str)++nt x.b1)])))[n]?=_);have ad:∀(A:List D)(Q:D->aR->Prop),wp (cC (.ref n) (.ref v.length)) Q (v++[MO.lst A])=(((kI h i).map D.str++[D.str (("hand ":Str)++nt x.b0++(" ":Str)++nt x.b1)]).length+A.length<=eQ/\Q (.ref (v++[MO.lst A]).length) (v++[MO.lst A]++[MO.lst (((kI h i).map D.str++[D.str (("hand ":Str)++nt x.b0++(" ":Str)++nt x.b1)])++A)])):=λA Q=>G6 (tw gv) pT;simp![↓ad];have U:dY s v:=(I.put Y).trans O;refine⟨eM (by simp;ext),_,_,_,_,_,_,rfl,?_,(U.snoc _).le,(U.snoc _).snoc _⟩;rw[pT,L8 C];have eh:("hand ":Str)++nt x.b0++(" ":Str)++nt x.b1=iU x:=by unfold iU;rw[Mz];simp only[fq]
    rw[eh];simp[i_,Function.comp_def]
  ·obtain⟨n,H,G,E,L,u,el,g,Y,I⟩:=c;subst el;rw[ae,MV]at g;simp![];exact hQ n s' g I
end
open PySem (Str)
open PySem.StrLaws PySem.Builtin.Str
theorem NW{x y:Str}(h:x.cps.toList=y.cps.toList):x=y:=o_.ext' (o7.mp h)
theorem tZ{x y:Str}:(x++y).cps.toList=x.cps.toList++y.cps.toList:=by rw[o_.cps_append,mU]
theorem Aj{a b:Str}:kU (a++b) 0 a.length=a:=NW (by rw[strSub_toList,tZ,gi,EZ,<- qw,ky])
theorem Do{a b:Str}:kU (a++b) a.length (a++b).length=b:=NW (by rw[strSub_toList,tZ,<- qw a,ku,bx,<- qw a,lm,<- qw b,eJ])
theorem Fh{a y b:Str}:At (a++y++b) y (a++y++b).length a.length:=by refine⟨by simp only[bx];ext,?_⟩;rw[subAt_eq,beq_iff_eq,tZ,tZ,dL,<- qw a,ku,<- qw y,ky]
theorem WZ{a y b:Str}(no:∀k,k < a.length->¬ At (a++y++b) y (a++y++b).length k):f_ (a++y++b) y=(a,y,b):=by
 unfold f_;rcases occ_head (a++y++b) y 1 (ax _) with ⟨_,h⟩|⟨i,r,e,g,c⟩
 ·exact bp Fh (h _)
 ·have o : i = a.length := by
    rcases o8 i a.length with z|z|z
    ·exact bp g (no i z)
    ·exact z
    ·exact bp Fh (c _ z)
  rw[e,o]
  show (kU (a++y++b) 0 a.length,y,kU (a++y++b) (a.length+y.length) (a++y++b).length)=(a,y,b)
  have u:kU (a++y++b) 0 a.length=a:=by rw[fq];exact Aj
  have q:kU (a++y++b) (a.length+y.length) (a++y++b).length=b:=by rw[<- bx];exact Do
  rw[u,q]
theorem Ru{a y b:Str}(no:∀k,a.length < k->¬ At (a++y++b) y (a++y++b).length k):fP (a++y++b) y=(a,y,b):=by
 unfold fP;rcases last_spec (a++y++b) y with ⟨_,h⟩|⟨i,e,g,c⟩
 ·exact bp Fh (h _)
 ·have o : i = a.length := by
    rcases o8 i a.length with z|z|z
    ·exact bp Fh (c _ z)
    ·exact z
    ·exact bp g (no i z)
  rw[e,o]
  show (kU (a++y++b) 0 a.length,y,kU (a++y++b) (a.length+y.length) (a++y++b).length)=(a,y,b)
  have u:kU (a++y++b) 0 a.length=a:=by rw[fq];exact Aj
  have q:kU (a++y++b) (a.length+y.length) (a++y++b).length=b:=by rw[<- bx];exact Do
  rw[u,q]
theorem At.nth{x y:Str}{k j c:Nat}(h:At x y x.length k)(g:y.cps.toList[j]?=some c):x.cps.toList[k+j]?=some c:=by
 have e:=h.2;rw[subAt_eq,beq_iff_eq]at e;have l:j < y.length:=by rw[<- qw];exact (am.mp g).1
 have o:((x.cps.toList.drop k).take y.length)[j]?=some c:=by rw[e,g]
 rw[kL l,nR]at o;exact o
theorem At.first{x y:Str}{k c:Nat}{r:List Nat}(h:At x y x.length k)(g:y.cps.toList=c::r):x.cps.toList[k]?=some c:=At.nth (j:=0) h (by rw[g];rfl)
theorem L_{n c:Nat}(h:n < 1000)(g:c∈(nt n).cps.toList):48<=c/\c<=57:=by obtain⟨k,o,rfl⟩:=xY (cq.mp (u_ h).2.2 c g);ext
theorem Xs:("board ":Str)=("board":Str)++(" ":Str):=by nofun
theorem Ol:("board":Str).cps.toList=[98,111,97,114,100]:=by nofun
theorem ML:(" at ":Str).cps.toList=[32,97,116,32]:=by nofun
theorem Nq:(" ":Str).cps.toList=[32]:=by nofun
theorem Xo{b:Bd}(g:b.st < 1000):fP (iR b) (" at ":Str)=(("board ":Str)++nW b,(" at ":Str),nt b.st):=by
 refine Ru λk q h=>?_;have f:=At.nth (j:=1) (c:=97) h (by rw[ML];rfl);rw[tZ,tZ,dL,<- qw]at *;rw[a_ (by ext),ML]at f;obtain⟨m,o⟩:∃m,k+1-(("board ":Str)++nW b).cps.toList.length=m+2:=⟨k-1-(("board ":Str)++nW b).cps.toList.length,by ext⟩
 rw[o]at f
 match m,f with
 |0,f=>cases f
 |1,f=>cases f
 |m+2,f=>
  have:=L_ g (bo (show (nt b.st).cps.toList[m]?=some 97 from f));ext
theorem OX{b:Bd}:f_ (("board ":Str)++nW b) (" ":Str)=(("board":Str),(" ":Str),nW b):=by
 rw[Xs];refine WZ λk g h=>?_;have f:=At.first h Nq;have c:k < 5:=by rw[<- qw,Ol]at g;exact g
 rw[tZ,tZ,dL,Ol,aL (by simpa using c)]at f;have:∀k,k < 5->([98,111,97,114,100]:List Nat)[k]?≠some 32:=by decide
 exact this k c f
theorem Sl{b:Bd}:fQ (iR b) ("board ":Str)=true:=by unfold fQ iR;rw[aI];refine⟨aM (by simp only[bx];ext),?_⟩;rw[subAt_eq,beq_iff_eq,tZ,tZ,tZ,gi,dL,dL,<- qw,ky]
theorem Ud:("hand ":Str).cps.toList=[104,97,110,100,32]:=by nofun
theorem Xg{h:Hd}:fQ (iU h) ("board ":Str)=false:=by
 unfold fQ iU;rw[Bool.and_eq_false_iff];refine .inr ?_;rw[subAt_eq,tZ,Ud,gi];have e:("board ":Str).cps.toList=[98,111,97,114,100,32]:=by nofun
 rw[e,Fj];rfl
noncomputable def No(c:Nat)(x:Str):Prop:=c∉x.cps.toList
theorem No.app{c:Nat}{x y:Str}(h:No c x)(k:No c y):No c (x++y):=λz=>by
 rw[tZ]at z;rcases br.mp z with z|z
 ·exact h z
 ·exact k z
theorem No.join{c:Nat}{y:Str}{xs:List Str}(g:No c y)(h:∀x∈xs,No c x):No c (bV y xs):=λz=>by
 have z:c∈(cG y xs).cps.toList:=z;rw[cJ]at z;rcases mem_join z with z|⟨x,o,z⟩
 ·exact g z
 ·exact h x o z
theorem No.nt{c n:Nat}(h:c < 48)(g:n < 1000):No c (nt n):=λz=>by have:=L_ g z;ext
theorem uD{c:Nat}{x:Str}(h:x.cps.toList.contains c=false):No c x:=λz=>by rw[lP.mpr z]at h;cases h
theorem No.nums{c:Nat}(h:c < 32){ns:List Nat}(o:∀n∈ns,n < 1000):No c (gG ns):=No.join (λz=>by rw[Nq]at z;simp at z;ext) λx g=>by obtain⟨n,q,rfl⟩:=dJ.mp g;exact No.nt (by ext) (o n q)
theorem No.tab{b:Bd}:No 10 (nW b):=by unfold nW tU;refine No.join (uD (by nofun)) λx g=>?_;obtain⟨i,_,rfl⟩:=B0 g;refine No.join (uD (by nofun)) λy c=>?_;obtain⟨j,_,rfl⟩:=B0 c;intro z;simp[gH]at z;ext
theorem Wj{h:Hs}(c:pp 3 h):∀r∈cZ h,No 10 r:=λr o=>by
 rcases qv o with ⟨b,C,e⟩|⟨x,g,e|⟨l,u,e⟩⟩
 ·rw[e];exact (((uD (by nofun)).app No.tab).app (uD (by nofun))).app (No.nt (by ext) (c.2.1 b C).2)
 ·rw[e];exact (uD (by nofun)).app (No.nums (by ext) (xZ (c.2.2.2.2 x g).1 (c.2.2.2.2 x g).2.1))
 ·rw[e];have z:=(c.2.2.2.2 x g).2.2.2 l u;cases l with
  |settle v=>exact (uD (by nofun)).app (No.nums (by ext) λn q=>by rw[aE.mp q];exact z)
  |act b d gs=>exact (((uD (by nofun)).app (No.nums (by ext) (xZ z.1 z.2.1))).app (uD (by nofun))).app (No.nums (by ext) z.2.2.2.2)
theorem Xf:("\n":Str)=⟨#[10]⟩:=by nofun
theorem Rt:Av ("\n":Str) 10 0:=by
 rw[Xf];exact⟨by decide,rfl,(λj h=>by
  cases j with
  |zero=>rfl
  |succ j=>cases h),by nofun⟩
theorem QV{h:Hs}(o:pp 3 h):cZ h≠[]:=λe=>by
 have c:=o.2.2.1;unfold cZ at e;have g:=(List.append_eq_nil_iff.mp e).2;cases hh:h.hands with
 |nil=>rw[hh]at c;simp at c
 |cons x xs=>rw[hh]at g;cases g
theorem OP{h:Hs}(c:pp 3 h):gr (nj h) ("\n":Str)=cZ h:=Bj Rt (QV c) (Wj c)
end My
namespace My
open MM
open PySem (Str)
theorem Bp{y x:Str}:∀{xs:List Str},xs≠[]->bV y (x::xs)=x++y++bV y xs
 |[],h=>bp rfl h
 |z::xs,_=>by show cG y (x::z::xs)=x++y++cG y (z::xs);rw[cJ,cJ];rfl
def zF(h:Hd):List Str:=("hand":Str)::[h.b0,h.b1].map nt
def vA:Ln->List Str
 | .settle v=>("settle":Str)::[v].map nt
 | .act b d gs=>("do":Str)::nt b::nt d::(":":Str)::gs.map nt
theorem VW:("hand ":Str)=("hand":Str)++(" ":Str):=by nofun
theorem XQ:("settle ":Str)=("settle":Str)++(" ":Str):=by nofun
theorem Q5:("do ":Str)=("do":Str)++(" ":Str):=by nofun
theorem Xp:(" : ":Str)=(" ":Str)++(":":Str)++(" ":Str):=by nofun
theorem V1{h:Hd}:iU h=bV (" ":Str) (zF h):=by unfold iU zF;rw[Bp (by simp),VW];rfl
theorem Qx{l:Ln}(h:∀b d c,l=.act b d c->c≠[]):lA l=bV (" ":Str) (vA l):=by
 cases l with
 |settle v=>
  show ("settle ":Str)++gG [v]=bV (" ":Str) (("settle":Str)::[v].map nt);rw[Bp (by simp),XQ];rfl
 |act b d c=>
  have g:=h b d c rfl
  show ("do ":Str)++gG [b,d]++(" : ":Str)++gG c=bV (" ":Str) (("do":Str)::nt b::nt d::(":":Str)::c.map nt);rw[Bp (by simp),Bp (by simp),Bp (by simp),Bp (by simpa using g),Q5,Xp,Mz];unfold gG;simp only[fq]
theorem Ch{n:Nat}(h:n < 1000):No 32 (nt n):=No.nt (by ext) h
theorem QW{h:Hd}(hh:yE 3 h):gr (iU h) (" ":Str)=zF h:=by
 rw[V1];refine Bj GL (by unfold zF;simp) λx c=>?_;unfold zF at c;rcases aF.mp c with e|e
 ·rw[e];exact uD (by nofun)
 ·obtain⟨n,g,rfl⟩:=dJ.mp e;exact Ch (xZ hh.1 hh.2.1 n g)
theorem Uk{l:Ln}(c:tz 3 l)(h:∀b d o,l=.act b d o->o≠[]):gr (lA l) (" ":Str)=vA l:=by
 rw[Qx h];refine Bj GL (by cases l<;>simp[vA]) λx q=>?_;cases l with
 |settle v=>
  rcases aF.mp q with e|e
  ·rw[e];exact uD (by nofun)
  ·obtain⟨n,g,rfl⟩:=dJ.mp e;rw[aE.mp g];exact Ch c
 |act b d o=>
  rcases aF.mp q with e|e
  ·rw[e];exact uD (by nofun)
  rcases aF.mp e with e|e
  ·rw[e];exact Ch c.1
  rcases aF.mp e with e|e
  ·rw[e];exact Ch c.2.1
  rcases aF.mp e with e|e
  ·rw[e];exact uD (by nofun)
  ·obtain⟨n,g,rfl⟩:=dJ.mp e;exact Ch (c.2.2.2.2 n g)
section
variable{p q:Nat}{s s1 s2:aR}{Q:D->aR->Prop}
theorem J8:∀{ns:List Nat},((ns.map cV).all ny)=true/\((ns.map cV).any λd=>t8 d .non)=false
 |[]=>⟨rfl,rfl⟩
 |n::ns=>by obtain⟨a,b⟩:=J8 (ns:=ns);rw[aQ,bu,b9,a,b];exact⟨rfl,rfl⟩
theorem xX{ns:List Nat}{a:Int}{n:Nat}(h:∀x∈ns,x < 1000)(C:ns.length<=100)(o:s[n]?=some (.lst (ns.map λx=>D.str (nt x)))):wp (jb [.int a,.ref n]) Q s=Q (.tup (ns.map cV)) s:=by
 have l:ns.length<=eQ:=eM (by ext);have g:∀Q,wp (getL n) Q s=Q (ns.map λx=>D.str (nt x)) s:=λQ=>kC o;have c:∀Q,wp (collect (aS 0) bZ (bv jd (ar (ak 0) bc)) (om n (ns.map λx=>D.str (nt x))) (ns.map λx=>D.str (nt x)) [none]) Q s=Q (ns.map cV) s:=λQ=>F1 o λx v Q=>by have r:∀(Q:D->aR->Prop)s,wp (jd [.str (nt x)]) Q s=Q (.int (x:Nat)) s:=λQ s=>M9 (h x v);simp![↓r];rfl
 have u:∀(Q:D->aR->Prop)s,wp (v8 .non (ns.map cV)) Q s=Q (.bl false) s:=λQ s=>by unfold v8;rw[dW,cy,J8.1,J8.2];exact propext ⟨λh=>h.2,λh=>⟨⟨rfl,rfl⟩,h⟩⟩
 apply BD
 (simp![jb];simp![j4,↓g,fG,ae,l,↓c,↓u])
theorem Wh{ds:List D}{i:Nat}(h:i<=ds.length):cutD ds (some (i:Int)) none=ds.drop i:=by
 unfold cutD fJ;have:(if (i:Int) < 0 then ((i:Int)+(ds.length:Int)).toNat else min (i:Int).toNat ds.length)=i:=by rw[az (by ext)];ext
 simp only[this];exact fF (by rw[cO];exact ax _)
theorem QT{b:Bd}{a:Int}(h:xb b)(J:∀s',dY s s'->Q (iP b) s'):wp (jN [.int a,.str (iR b)]) Q s:=by
 have G:1<=eQ:=eM (by ext);have E:2<=eQ:=eM (by ext);have O:=LC h;have L:=Jw h;have pr : ∀(f : Str -> Str -> Str×Str×Str)(a b : CE)(l : Loc)(Q : D -> aR -> Prop)s, wp (ox f a b l) Q s = wp (a l) (λx s1 => match x with
   | .str x=>wp (b l) (λy s2=>match y with
    | .str y=>((y.length == 0)=false/\x.length<=eQ)/\Q (E7 (f x y)) s2
    |_=>False) s1
   |_=>False) s:=λf a b l Q s=>by
  unfold ox;rw[e_];congr 1;funext x s1;cases x with
  |str x=>
   dsimp only;rw[e_];congr 1;funext y s2;cases y with
   |str y=>dsimp only;rw[dW,cy]
   |_=>exact kF rfl
  |_=>exact kF rfl
 have C:E7 (fP (iR b) (" at ":Str))=.tup [.str (("board ":Str)++nW b),.str " at ",.str (nt b.st)]:=by rw[Xo h.2];rfl
 have v:E7 (f_ (("board ":Str)++nW b) (" ":Str))=.tup [.str "board",.str " ",.str (nW b)]:=by rw[OX];rfl
 have u:∀(a b c:D)(Q:D->aR->Prop)s,wp (dz [a,b,c] 2) Q s=Q c s:=λa b c Q s=>pG (i:=2) rfl;have bl:(("board ":Str)++nW b).length<=eQ:=eM (by rw[bx,Fj];ext);have o:(iR b).length<=eQ:=eM (by ext)
 (simp![jN];simp![yg,↓pr,C,v,↓u])
 refine⟨⟨by nofun,o⟩,⟨by nofun,bl⟩,?_⟩;refine XZ (S:=b.S) (dn:=b.dn) (p:=λs d=>(b.nx s d,b.un s d)) h.1.1 h.1.2.1 h.1.2.2.1 h.1.2.2.2.1 (λi d I hd=>h.1.2.2.2.2 i d I hd) λs' x=>?_;have g:(s'++[MO.lst [.str (nt b.st)]])[s'.length]?=some (.lst ([b.st].map λx=>D.str (nt x))):=pT;have r:∀(Q:D->aR->Prop),wp (jb [.int a,.ref s'.length]) Q (s'++[MO.lst [.str (nt b.st)]])=Q (.tup ([b.st].map cV)) (s'++[MO.lst [.str (nt b.st)]]):=λQ=>xX (λx H=>by rw[aE.mp H];exact h.2) (by show 1<=100;ext) g;simp![C,v,↓u,G,E,↓r];exact J _ (x.snoc _)
theorem Xv{h:Hs}{n:Nat}(E:pp 3 h)(J:s[n]?=some (.lst ((cZ h).map D.str)))(hQ:∀s',s'[n]?=some (.lst ((cZ h).map D.str))->dY s s'->Q (.tup (h.boards.map iP)) s'):wp (jF [.ref n]) Q s:=by
 have xl : ∀(a : CE)(l : Loc)(I : Wk -> aR -> Prop)s, wp (pF a l) I s = wp (a l) (λx s' => match x with
   | .ref n=>wp (getL n) (λds s2=>I ⟨(fO 0 ds.length).zipWith (λi d=>.tup [i,d]) ds,om n ds⟩ s2) s'
   |_=>False) s:=λa l I s=>by
  unfold pF;rw[e_];congr 1;funext x s1;cases x with
  |ref n=>dsimp only;rw[e_];exact kE λ_ _=>cy
  |_=>exact kF rfl
 have g:∀(A:List D)Q,wp (getL n) Q (s++[MO.lst A])=Q ((cZ h).map D.str) (s++[MO.lst A]):=λA Q=>kC (tw J);have lg:=pY J;have xs : ∀(a b : CE)(l : Loc)(Q : D -> aR -> Prop)s, wp (m4 a b l) Q s = wp (a l) (λx s1 => match x with
   | .str x=>wp (b l) (λy s2=>match y with
    | .str y=>Q (.bl (fQ x y)) s2
    |_=>False) s1
   |_=>False) s:=λa b l Q s=>by
  unfold m4;rw[e_];congr 1;funext x s1;cases x with
  |str x=>
   dsimp only;rw[e_];congr 1;funext y s2;cases y with
   |str y=>exact cF rfl
   |_=>exact kF rfl
  |_=>exact kF rfl
 have b7:=E.1;have lr:h.boards.length < (cZ h).length:=by
  have h2:=E.2.2.1;unfold cZ;rw[aV,ae];cases hh:h.hands with
  |nil=>rw[hh]at h2;simp at h2
  |cons x xs=>simp[pD]
 (simp![jF];simp![yd,bL,↓xl,↓g])
 refine Am (λi l s'=>i<=h.boards.length/\∃q Y:Option D,l=[some (.ref n),some (.ref s.length),q,Y]/\s'[n]?=some (.lst ((cZ h).map D.str))/\s'[s.length]?=some (.lst ((h.boards.take i).map iP))/\dY s s') (λ_ _ _ z=>z.2.choose_spec.choose_spec.2.1) ⟨bL _,none,none,rfl,tw J,pT,(dY.refl _).snoc _⟩ (λi d l s' hd o=>?_) (λl s' o=>?_)
 ·obtain⟨hi,q,Y,el,g,O,v⟩:=o;subst el;obtain⟨r,C,ed⟩:=zR hd;subst ed;rw[aD]at C;by_cases c:i < h.boards.length
  ·have U : (cZ h)[i]? = some (iR h.boards[i]) := by unfold cZ;rw[aL (by rw[ae];exact c),aD,au c];rfl
   rw[U]at C;cases C;simp![↓xs,Sl];refine QT (E.2.1 _ (cv c)) λu G=>?_;have L:=G.at_ O;have H:∀Q,wp (getL s.length) Q u=Q ((h.boards.take i).map iP) u:=λQ=>kC L;have I:∀es Q,wp (putL s.length es) Q u=Q () (u.set s.length (.lst es)):=λes Q=>wR L;simp![↓H,↓I];refine⟨Aq (by rw[ae,b5];ext),c,_,_,rfl,?_,?_,(v.trans G).put (ax _)⟩
   ·rw[aZ (by ext)];exact G.at_ g
   ·rw[bj (pY L),ib,au c,bA];rfl
  ·have J:i=h.boards.length:=by ext
   subst J;cases hh:h.hands with
   |nil=>have:=E.2.2.1;rw[hh]at this;simp at this
   |cons x xs'=>
    have U:(cZ h)[h.boards.length]?=some (iU x):=by unfold cZ;rw[a_ (by rw[ae];exact ax _),ae,o9,hh];rfl
    rw[U]at C;cases C;have H:∀Q,wp (getL s.length) Q s'=Q (h.boards.map iP) s':=λQ=>by rw[eJ]at O;exact kC O
    simp![↓xs,Xg,↓H];exact hQ s' g v
 ·obtain⟨hi,_⟩:=o
  exfalso
  simp[fO]at hi;ext
end
open PySem (Str)
section
variable{p q:Nat}{s s1 s2:aR}{Q:D->aR->Prop}
theorem PJ{l:Ln}{a:Int}{n:Nat}(h:tz 3 l)(H:∀b d c,l=.act b d c->c≠[])(u:s[n]?=some (.lst ((vA l).map D.str)))(O:∀s',dY s s'->Q (i6 l) s'):wp (jE [.int a,.ref n]) Q s:=by
 have o:1<=eQ:=eM (by ext);have l2:2<=eQ:=eM (by ext);have g:∀Q,wp (getL n) Q s=Q ((vA l).map D.str) s:=λQ=>kC u;have lg:=pY u;cases l with
 |settle v=>
  have L:v < 1000:=h;have C:(vA (.settle v)).map D.str=[.str "settle",.str (nt v)]:=rfl;have cu:cutD [D.str "settle",D.str (nt v)] (some 1) none=[v].map λx=>D.str (nt x):=rfl;have J:(s++[MO.lst ([v].map λx=>D.str (nt x))])[s.length]?=some (.lst ([v].map λx=>D.str (nt x))):=pT;have r:∀(Q:D->aR->Prop),wp (jb [.int a,.ref s.length]) Q (s++[MO.lst ([v].map λx=>D.str (nt x))])=Q (.tup ([v].map cV)) (s++[MO.lst ([v].map λx=>D.str (nt x))]):=λQ=>xX (λx G=>by rw[aE.mp G];exact L) (by show 1<=100;ext) J;rw[C]at g
  (simp![jE];simp![jY,↓g,cu,o])
  refine (xX (ns:=[v]) (λx G=>by rw[aE.mp G];exact L) (by show 1<=100;ext) pT).mpr ?_;simp![];exact⟨eM (by show 1+1<=1000;ext),O _ ((dY.refl _).snoc _)⟩
 |act b d c=>
  obtain⟨q,Y,h3,_,U⟩:=h;have I:=H b d c rfl;have C:(vA (.act b d c)).map D.str=.str "do"::.str (nt b)::.str (nt d)::.str ":"::c.map λx=>D.str (nt x):=by show _::_::_::_::(c.map nt).map D.str=_;rw[i_];rfl
  have i0:∀(Q:D->aR->Prop)s,wp (dz (.str "do"::.str (nt b)::.str (nt d)::.str ":"::c.map λx=>D.str (nt x)) 0) Q s=Q (.str "do") s:=λQ s=>pG (i:=0) rfl;have i3:∀(Q:D->aR->Prop)s,wp (dz (.str "do"::.str (nt b)::.str (nt d)::.str ":"::c.map λx=>D.str (nt x)) 3) Q s=Q (.str ":") s:=λQ s=>pG (i:=3) rfl;have c1:cutD (.str "do"::.str (nt b)::.str (nt d)::.str ":"::c.map λx=>D.str (nt x)) (some 1) (some 3)=[b,d].map λx=>D.str (nt x):=by
   unfold cutD fJ;simp only[cm,ae];rw[az (by ext),az (by ext)];have e1:min (Int.toNat 1) (c.length+1+1+1+1)=1:=by ext
   have e3:min (Int.toNat 3) (c.length+1+1+1+1)=3:=by ext
   rw[e1,e3];rfl
  have c4:cutD (.str "do"::.str (nt b)::.str (nt d)::.str ":"::c.map λx=>D.str (nt x)) (some 4) none=c.map λx=>D.str (nt x):=Wh (i:=4) (by simp only[cm];ext);have E:((4:Int) < ((c.map λx=>D.str (nt x)).length+1+1+1+1:Nat)):=by have:c.length≠0:=λz=>I (List.length_eq_zero_iff.mp z);rw[ae];ext
  rw[C]at g;have J:(s++[MO.lst ([b,d].map λx=>D.str (nt x))])[s.length]?=some (.lst ([b,d].map λx=>D.str (nt x))):=pT;have r1:∀(Q:D->aR->Prop),wp (jb [.int a,.ref s.length]) Q (s++[MO.lst ([b,d].map λx=>D.str (nt x))])=Q (.tup ([b,d].map cV)) (s++[MO.lst ([b,d].map λx=>D.str (nt x))]):=λQ=>xX (xZ q Y) (by show 2<=100;ext) J;have g':∀(A:List D)Q,wp (getL n) Q (s++[MO.lst A])=Q (.str "do"::.str (nt b)::.str (nt d)::.str ":"::c.map λx=>D.str (nt x)) (s++[MO.lst A]):=λA Q=>by rw[C]at u;exact kC (tw u)
  have gb:∀A:List D,(s++[MO.lst A]++[MO.lst (c.map λx=>D.str (nt x))])[(s++[MO.lst A]).length]?=some (.lst (c.map λx=>D.str (nt x))):=λA=>pT;have r2:∀(A:List D)(Q:D->aR->Prop),wp (jb [.int a,.ref (s++[MO.lst A]).length]) Q (s++[MO.lst A]++[MO.lst (c.map λx=>D.str (nt x))])=Q (.tup (c.map cV)) (s++[MO.lst A]++[MO.lst (c.map λx=>D.str (nt x))]):=λA Q=>xX U (by ext) (gb A)
  (simp![jE];simp![jY,↓g,↓i0,Lk,if_false,if_true,cm,E,decide_true,↓i3,c1,o,↓g'])
  refine (xX (ns:=[b,d]) (xZ q Y) (by show 2<=100;ext) pT).mpr ?_;simp![↓g',c4,o];refine⟨eM (by show 1+2<=1000;ext),?_⟩;refine (xX (ns:=c) U (by ext) pT).mpr ?_;simp![o];exact⟨eM (by show 3+1<=1000;ext),O _ (((dY.refl _).snoc _).snoc _)⟩
end
open PySem (Str)
noncomputable def pre:List Hd->Nat->List Hd
 |[],_=>[]
 |_::_,0=>[]
 |x::xs,j+1=>if j<=x.lines.length then [⟨x.b0,x.b1,x.lines.take j⟩] else x::pre xs (j-x.lines.length)
def ko(c:List Hd):List Str:=(c.map pD).flatten
theorem KG:∀{c:List Hd},pre c 0=[]
 |[]=>rfl
 |_::_=>rfl
theorem Fz{x:Hd}{xs:List Hd}{j:Nat}(h:x.lines.length<=j):pre (x::xs) (j+1)=x::pre xs (j-x.lines.length):=by
 show (if j<=x.lines.length then _ else _)=_;by_cases e:j<=x.lines.length
 ·have:j=x.lines.length:=by ext
  subst this;rw[aG e,o9,KG,eJ]
 ·rw[az e]
theorem FZ{x:Hd}{xs:List Hd}{j:Nat}(h:j<=x.lines.length):pre (x::xs) (j+1)=[⟨x.b0,x.b1,x.lines.take j⟩]:=by show (if j<=x.lines.length then _ else _)=_;rw[aG h]
theorem IQ{x:Hd}{xs:List Hd}:ko (x::xs)=iU x::(x.lines.map lA++ko xs):=rfl
theorem rQ: ∀{g:List Hd}{j:Nat}{r:Str},(ko g)[j]?=some r ->
  (∃x∈g,r=iU x/\pre g (j+1)=pre g j++[⟨x.b0,x.b1,[]⟩])\/∃x∈g,∃l∈x.lines,∃q c,r=lA l/\pre g j=q++[c]/\pre g (j+1)=q++[⟨c.b0,c.b1,c.lines++[l]⟩]
 |[],j,r,h=>by simp[ko]at h
 |x::xs,0,r,h=>by rw[IQ]at h;cases h;exact .inl ⟨x,bQ,rfl,by rw[FZ (bL _),KG];rfl⟩
 |x::xs,j+1,r,h=>by
  rw[IQ,List.getElem?_cons_succ]at h;by_cases o:j < x.lines.length
  ·rw[aL (by rw[ae];exact o),aD,au o]at h;cases h;refine .inr ⟨x,bQ,x.lines[j],cv o,[],⟨x.b0,x.b1,x.lines.take j⟩,rfl,by rw[FZ (by ext)];rfl,?_⟩;rw[FZ (by ext),ib,au o];rfl
  ·rw[a_ (by rw[ae];ext),ae]at h;have E:pre (x::xs) (j+1)=x::pre xs (j-x.lines.length):=Fz (by ext);have C:pre (x::xs) (j+1+1)=x::pre xs (j-x.lines.length+1):=by rw[Fz (by ext)];congr 2;ext
   rcases rQ h with ⟨y,u,v,H⟩|⟨y,u,l,G,q,c,v,J,I⟩
   ·exact .inl ⟨y,aT _ u,v,by rw[E,C,H];rfl⟩
   ·exact .inr ⟨y,aT _ u,l,G,x::q,c,v,by rw[E,J];rfl,by rw[C,I];rfl⟩
theorem MW:∀{c:List Hd},pre c (ko c).length=c
 |[]=>rfl
 |x::xs=>by
  have e:(ko (x::xs)).length=x.lines.length+(ko xs).length+1:=by rw[IQ,cm,aV,ae]
  rw[e,Fz (by ext),lm,MW]
def vg(c:Hd×Nat):D:=.tup [.tup ([c.1.b0,c.1.b1].map cV),.ref c.2]
section
variable{p q:Nat}{s s1 s2:aR}{Q:D->aR->Prop}
structure HC(s:aR)(hn n:Nat)(hs:List Hd)(cs:List (Hd×Nat)):Prop where
 fst:cs.map (·.1)=hs
 at_:s[hn]?=some (.lst (cs.map vg))
 ls:∀c∈cs,s[c.2]?=some (.lst (c.1.lines.map i6))
 nd:(cs.map (·.2)).Nodup
 ne:∀c∈cs,c.2≠hn/\c.2≠n
theorem HC.ext{o n:Nat}{g:List Hd}{cs:List (Hd×Nat)}(h:HC s o n g cs)(x:dY s s1):HC s1 o n g cs:=⟨h.fst,x.at_ h.at_,λc u=>x.at_ (h.ls c u),h.nd,h.ne⟩
theorem Ry{cs:List (Hd×Nat)}{h:List Hd}{c:Hd}(e:cs.map (·.1)=h++[c]):∃(d0:List (Hd×Nat))(k:Nat),cs=d0++[(c,k)]/\d0.map (·.1)=h:=by
 have g:cs≠[]:=λz=>by rw[z]at e;simp at e
 refine⟨cs.dropLast,(cs.getLast g).2,?_,?_⟩
 ·have u:=List.dropLast_concat_getLast g;have o:(cs.getLast g).1=c:=by have:=bH List.getLast? e;rw[List.getLast?_append,List.getLast?_map,List.getLast?_eq_getLast g]at this;simpa using this
  conv=>lhs;rw[<- u]
  rw[<- o]
 ·have:=bH List.dropLast e;rw[List.dropLast_concat]at this;rw[List.map_dropLast];exact this
end
open PySem (Str)
section
variable{p q:Nat}{s s1 s2:aR}{Q:D->aR->Prop}
theorem VS{ds:List D}{d:D}:wp (dz (ds++[d]) (-1)) Q s=Q d s:=by
 have e:oT (ds++[d]).length (-1)=some ds.length:=by
  unfold oT;rw[aV,cf]
  first
   | (rw[az (by ext),aG (by ext)];congr 1;ext)
   | (simp;ext)
 unfold dz;rw[e];dsimp only;rw[a_ (ax _),o9];exact cy
theorem HC.push{u n k:Nat}{v:List Hd}{cs:List (Hd×Nat)}{y:Hd}(h:HC s u n v cs)(x:dY s s1)(C:y.lines=[])(E:s1[k]?=some (.lst []))(L:s.length<=k)(J:n < s.length):HC (s1.set u (.lst (cs.map vg++[vg (y,k)]))) u n (v++[y]) (cs++[(y,k)]):=by
 have I:=pY h.at_;have o:=pY (x.at_ h.at_);refine⟨by rw[bA,h.fst];rfl,by rw[bj o,bA];rfl,λc g=>?_,?_,λc g=>?_⟩
 ·rcases br.mp g with g|g
  ·rw[aZ (h.ne c g).1.symm];exact x.at_ (h.ls c g)
  ·rw[aE.mp g];rw[aZ (by dsimp only;ext)];dsimp only;rw[C];exact E
 ·rw[bA];refine vK.mpr ⟨h.nd,by simp,λa H b G e=>?_⟩;obtain⟨c,g,rfl⟩:=dJ.mp H;have:=pY (h.ls c g);simp at G;ext
 ·rcases br.mp g with g|g
  ·exact h.ne c g
  ·rw[aE.mp g];dsimp only;ext
theorem HC.line{E n k:Nat}{G:List Hd}{c:Hd}{l:Ln}{v:List (Hd×Nat)}(h:HC s E n (G++[c]) (v++[(c,k)])):HC (s.set k (.lst (c.lines.map i6++[i6 l]))) E n (G++[⟨c.b0,c.b1,c.lines++[l]⟩]) (v++[(⟨c.b0,c.b1,c.lines++[l]⟩,k)]):=by
 have C:(c,k)∈v++[(c,k)]:=by simp
 have H:=pY (h.ls _ C);have u:=h.ne _ C;have o:=h.nd;rw[bA]at o;refine⟨?_,?_,λe g=>?_,by rw[bA];exact o,λe g=>?_⟩
 ·have:=h.fst;rw[bA]at this ⊢;have:=List.append_inj_left' this rfl;rw[this];rfl
 ·rw[aZ u.1,h.at_,bA,bA];rfl
 ·rcases br.mp g with g|g
  ·have hd:=(vK.mp o).2.2 e.2 (dJ.mpr ⟨e,g,rfl⟩) k (by simp);rw[aZ (λz=>hd z.symm)];exact h.ls e (iH _ g)
  ·rw[aE.mp g];rw[bj H,bA];rfl
 ·rcases br.mp g with g|g
  ·exact h.ne e (iH _ g)
  ·rw[aE.mp g];exact u
theorem Ld:∀(c:List Hd)(j:Nat),(pre c j).length<=c.length
 |[],_=>ax _
 |_::_,0=>bL _
 |x::xs,j+1=>by
  show (if j<=x.lines.length then _ else _:List Hd).length<=_;by_cases e:j<=x.lines.length
  ·rw[aG e];simp
  ·rw[az e];have:=Ld xs (j-x.lines.length);simp only[cm];ext
theorem Mq{m:Nat}:∀(o:List Hd)(j:Nat),(∀x∈o,x.lines.length<=m)->∀c∈pre o j,c.lines.length<=m
 |[],_,_,c,g=>(by cases g)
 |_::_,0,_,c,g=>(by cases g)
 |x::xs,j+1,h,c,g=>by
  have v:=h x bQ;by_cases e:j<=x.lines.length
  ·rw[FZ e]at g;rw[aE.mp g]
   show (x.lines.take j).length<=m;rw[b5];ext
  ·rw[Fz (by ext)]at g;rcases aF.mp g with rfl|g
   ·exact v
   ·exact Mq xs _ (λy u=>h y (aT _ u)) c g
theorem Vo:¬ (ag "settle"=ag "hand"):=by decide
theorem WM:¬ (ag "do"=ag "hand"):=by decide
theorem M5:(((" ":Str)).length == 0)=false:=by nofun
theorem V7{h:Hs}{n:Nat}(H:pp 3 h)(hg:s[n]?=some (.lst ((cZ h).map D.str)))(hQ:∀s',dY s s'->Q (.tup (h.hands.map lK)) s'):wp (jK [.ref n,.int (h.boards.length:Nat)]) Q s:=by
 have l1:1<=eQ:=eM (by ext);have l2:2<=eQ:=eM (by ext);have g:∀(A:List D)Q,wp (getL n) Q (s++[MO.lst A])=Q ((cZ h).map D.str) (s++[MO.lst A]):=λA Q=>kC (tw hg);have lg:=pY hg;have b7:=H.1;have rn:=FE H;have eT:cZ h=h.boards.map iR++ko h.hands:=rfl;have eL:(cZ h).length=h.boards.length+(ko h.hands).length:=by rw[eT,aV,ae]
 have en:(((cZ h).length:Int)-(h.boards.length:Int)).toNat=(ko h.hands).length:=by ext
 (simp![jK];simp![yf,bL,↓g,ae])
 refine⟨⟨⟨by ext,by ext⟩,⟨by ext,by ext⟩⟩,?_⟩;rw[en];refine Am (λi l s'=>∃(y3 y4:Option D)(cs:List (Hd×Nat)),l=[some (.ref n),some (.int (h.boards.length:Nat)),some (.ref s.length),y3,y4]/\s'[n]?=some (.lst ((cZ h).map D.str))/\HC s' s.length n (pre h.hands i) cs/\dY s s'/\∀c∈cs,s.length<=c.2) (λ_ _ _ _=>trivial) ⟨none,none,[],rfl,tw hg,⟨by rw[KG];rfl,pT,(λ_ h=>(by cases h)),zj,(λ_ h=>(by cases h))⟩,(dY.refl _).snoc _,λ_ h=>(by cases h)⟩ (λi d l s' hd L=>?_) (λl s' L=>?_)
 ·obtain⟨y3,y4,cs,el,ga,o,C,E⟩:=L;subst el;rw[S7]at hd;have hi:i < (ko h.hands).length:=by have:=(am.mp hd).1;simpa [bB] using this
  have ed:d=.int ((h.boards.length+i:Nat):Int):=by unfold bB at hd;rw[aD,gz hi]at hd;cases hd;rw[Int.natCast_add]
  subst ed;have hr:=au hi;generalize (ko h.hands)[i]=r at hr;have q:(cZ h)[h.boards.length+i]?=some r:=by rw[eT,a_ (by rw[ae];ext),ae,lm];exact hr
  have it:∀(Q:D->aR->Prop)s,wp (dz ((cZ h).map D.str) ((h.boards.length+i:Nat):Int)) Q s=Q (.str r) s:=λQ s=>pG (by rw[aD,q];rfl);have rl:=JQ H r (bo q);have ga':∀Q,wp (getL n) Q s'=Q ((cZ h).map D.str) s':=λQ=>kC ga;have ln':=pY ga;have lh':=pY o.at_;rcases rQ hr with ⟨x,Y,er,ep⟩|⟨x,Y,l,hl,c0,c,er,ea,eb⟩
  ·subst er;have g:=H.2.2.2.2 x Y;have J:=g.1;have I:=g.2.1;have q:(zF x).map D.str=[.str "hand",.str (nt x.b0),.str (nt x.b1)]:=rfl;have wl:(zF x).length<=eQ:=eM (by show 3<=1000;ext);have v:cutD [D.str "hand",D.str (nt x.b0),D.str (nt x.b1)] (some 1) none=[x.b0,x.b1].map λx=>D.str (nt x):=rfl;have g1:∀(A:List D)Q,wp (getL s'.length) Q (s'++[MO.lst A])=Q A (s'++[MO.lst A]):=λA Q=>kC pT;simp![↓ga',↓it,↓BC,QW g,q,M5,wl,↓g1,v,l2];refine⟨eM (by ext),?_⟩;refine (xX (ns:=[x.b0,x.b1]) (xZ J I) (by show 2<=100;ext) pT).mpr ?_;generalize hu:(s'++[MO.lst [D.str "hand",D.str (nt x.b0),D.str (nt x.b1)]]++[MO.lst ([x.b0,x.b1].map λx=>D.str (nt x))])=u;have G:dY s' u:=by rw[<- hu];exact ((dY.refl _).snoc _).snoc _
   have U:∀(A:List D)Q,wp (getL s.length) Q (u++[MO.lst A])=Q (cs.map vg) (u++[MO.lst A]):=λA Q=>kC (tw (G.at_ o.at_));have q2:∀(A:List D)es Q,wp (putL s.length es) Q (u++[MO.lst A])=Q () ((u++[MO.lst A]).set s.length (.lst es)):=λA es Q=>wR (tw (G.at_ o.at_));have lc:cs.length<=100:=by have:=bH b6 o.fst;rw[ae]at this;have:=Ld h.hands i;have:=H.2.2.2.1;ext
   simp![bL,l2,↓U,↓q2,ae];refine⟨Aq (by ext),_,_,cs++[(⟨x.b0,x.b1,[]⟩,u.length)],rfl,?_,?_,((C.trans G).snoc _).put (ax _),λc hm=>?_⟩
   ·rw[aZ (by ext)];exact tw (G.at_ ga)
   ·rw[ep];exact o.push (y:=⟨x.b0,x.b1,[]⟩) (G.snoc _) rfl pT (by rw[<- hu];simp) ln'
   ·rcases br.mp hm with z|z
    ·exact E c z
    ·rw[aE.mp z];exact (C.trans G).le
  ·subst er;rw[ea]at o;obtain⟨d0,k,ecs,e0⟩:=Ry o.fst;subst ecs;have L:=(H.2.2.2.2 x Y).2.2.2 l hl;have g:∀b d O,l=.act b d O->O≠[]:=λb d O e=>by subst e;exact L.2.2.2.1
   have lc:(vA l).length<=100:=by
    cases l with
    |settle v=>show 2<=100;ext
    |act b d O=>
     have:O.length<=4+3:=L.2.2.1
     show (O.map nt).length+1+1+1+1<=100;rw[ae];ext
   have wl:(vA l).length<=eQ:=eM (by ext);have g1:∀(A:List D)Q,wp (getL s'.length) Q (s'++[MO.lst A])=Q A (s'++[MO.lst A]):=λA Q=>kC pT;have fw:∃(w:Str)(ws:List D),(vA l).map D.str=.str w::ws/\¬ w=ag "hand":=by
    cases l with
    |settle v=>exact⟨_,_,rfl,Vo⟩
    |act b d O=>exact⟨_,_,rfl,WM⟩
   obtain⟨w,ws,e1,e2⟩:=fw;have i0:∀(Q:D->aR->Prop)s,wp (dz ((vA l).map D.str) 0) Q s=Q (.str w) s:=λQ s=>pG (i:=0) (by rw[e1];rfl);have U:∀(A:List D)Q,wp (getL s.length) Q (s'++[MO.lst A])=Q (d0.map vg++[vg (c,k)]) (s'++[MO.lst A]):=λA Q=>kC (tw (by rw[o.at_,bA];rfl));have lp:decide ((0:Int) < ((d0.map vg++[vg (c,k)]).length:Nat))=true:=aM (by rw[aV,cf];ext);have il:∀(Q:D->aR->Prop)s,wp (dz (d0.map vg++[vg (c,k)]) (-1)) Q s=Q (.tup [.tup ([c.b0,c.b1].map cV),.ref k]) s:=λQ s=>VS;simp![↓ga',↓it,↓BC,Uk L g,M5,wl,↓g1,↓i0,e2,if_false,↓U,lp,↓il];refine⟨eM (by ext),?_⟩;refine PJ L g pT λu G=>?_;have I:dY s' u:=((dY.refl _).snoc _).trans G;have J:=o.ext I;have gk:=J.ls (c,k) (by simp);have q3:∀Q,wp (getL k) Q u=Q (c.lines.map i6) u:=λQ=>kC gk;have q4:∀es Q,wp (putL k es) Q u=Q () (u.set k (.lst es)):=λes Q=>wR gk;have cl:c.lines.length<=8:=Mq h.hands i (λx Y=>(H.2.2.2.2 x Y).2.2.1) c (by rw[ea];simp);simp![↓q3,↓q4,ae];have q:=E (c,k) (by simp);refine⟨Aq (by ext),_,_,_,rfl,?_,by rw[eb];exact J.line,(C.trans I).put q,λc' hm=>?_⟩
   ·rw[aZ (J.ne (c,k) (by simp)).2];exact I.at_ ga
   ·rcases br.mp hm with z|z
    ·exact E c' (by simp[z])
    ·rw[aE.mp z];exact q
 ·obtain⟨y3,y4,cs,el,ga,o,C,E⟩:=L;subst el;rw[show (fO (h.boards.length:Int) (ko h.hands).length).length=(ko h.hands).length by simp[fO],MW]at o;have U:∀Q,wp (getL s.length) Q s'=Q (cs.map vg) s':=λQ=>kC o.at_;have lc:cs.length<=eQ:=eM (by have:=bH b6 o.fst;rw[ae]at this;have:=H.2.2.2.1;ext)
  simp![↓U,fG,ae,lc];refine ME (g1:=λc:Hd×Nat=>.tup ([c.1.b0,c.1.b1].map cV)) (g2:=λc:Hd×Nat=>.ref c.2) (f:=λc:Hd×Nat=>lK c.1) (λu x=>x.at_ o.at_) (λc hm u x Q g=>?_) λu x=>?_
  ·have q2:∀Q,wp (getL c.2) Q u=Q (c.1.lines.map i6) u:=λQ=>kC (x.at_ (o.ls c hm));simp![↓q2,l2];exact g _ (dY.refl _)
  ·have e:cs.map (λc=>lK c.1)=h.hands.map lK:=by rw[<- o.fst,i_];rfl
   simp![e];exact hQ u (C.trans x)
end
open PySem (Str)
theorem JH:((("settle":Str)) == "settle")=true:=by nofun
theorem zL:((("do":Str)) == "settle")=false:=by nofun
section
variable{S dn:Nat}{nx un:Nat->Nat->Nat}{Q:D->aR->Prop}{s:aR}
theorem WA{j:Nat}(h:ot S dn nx un)(o:j < dn):wp (jH [fN S dn nx un,.int j]) Q s=Q (.int ((1+mx (un · j) S:Nat):Int)) s:=by
 obtain⟨H,G,E,C,v⟩:=h;have w:∀Q s,wp (collect (aS 0) bZ (c2 aY (c2 aY (ak 0) (ak 1)) (ay (.int 1))) d6 (bB S λs=>.tup (bB dn λd=>D.tup [.int (nx s d:Nat),.int (un s d:Nat)])) [none,some (.int j)]) Q s=Q (bB S λi=>.int (un i j:Nat)) s:=λQ s=>zl yC λi u Q=>by simp![↓F3 o]
 have g:S<=eQ:=eM (by ext);have c:∀Q s,wp (mF (bB S λi=>.int (un i j:Nat))) Q s=Q (.int (mx (un · j) S:Nat)) s:=λQ s=>HD (f:=(un · j)) (by ext);have q:((1+mx (un · j) S:Nat):Int)=1+(mx (un · j) S:Nat):=by ext
 rw[q]
 (simp![jH];simp![yu,fN,fG,mh,↓w,↓c,g])
theorem Tr{i:Nat}(h:ot S dn nx un)(g:i < S):wp (jk [fN S dn nx un,.tup (bB dn λd=>D.tup [.int (nx i d:Nat),.int (un i d:Nat)])]) Q s=Q (.bl true) s:=by
 obtain⟨H,G,E,C,o⟩:=h;have w:∀Q s,wp (collect (eR 2 (bD (aS 0) (bD (aS 1) eZ))) bZ (pz (gA rG sT (ay (.int 0)) (ak 0) (c1 dk (ak 2))) (c2 v6 (ak 1) (ay (.int 0)))) d6 (bB dn λd=>D.tup [.int (nx i d:Nat),.int (un i d:Nat)]) [none,none,some (.tup (bB S λs=>.tup (bB dn λd=>D.tup [.int (nx s d:Nat),.int (un s d:Nat)])))]) Q s=Q (bB dn λ_=>.bl true) s:=λQ s=>GW yC λd hd Q=>by have v:decide ((0:Int)<=(nx i d:Nat))=true:=aM (by ext);have u:decide (((nx i d:Nat):Int) < (S:Nat))=true:=aM (by have:=(o i d g hd).1;ext);have q:decide ((0:Int)<=(un i d:Nat))=true:=aM (by ext);simp![mh,v,u,q]
 have c:dn<=eQ:=eM (by ext)
 (simp![jk];simp![j6,fN,fG,mh,↓Bs (show 0 < S by ext),beq_self_eq_true,↓w,↓IC,c])
theorem Uu(h:ot S dn nx un):wp (jj [fN S dn nx un]) Q s=Q (.bl true) s:=by
 have o:=h;obtain⟨I,H,G,E,C⟩:=h;have w:∀Q s,wp (collect (aS 0) bZ (bv jk (ar (ak 1) (ar (ak 0) bc))) d6 (bB S λs=>.tup (bB dn λd=>D.tup [.int (nx s d:Nat),.int (un s d:Nat)])) [none,some (.tup (bB S λs=>.tup (bB dn λd=>D.tup [.int (nx s d:Nat),.int (un s d:Nat)])))]) Q s=Q (bB S λ_=>.bl true) s:=λQ s=>zl yC λi g Q=>by have q:∀Q s,wp (jk [fN S dn nx un,.tup (bB dn λd=>D.tup [.int (nx i d:Nat),.int (un i d:Nat)])]) Q s=Q (.bl true) s:=λQ s=>Tr o g;unfold fN at q;simp![↓q]
 have c:S<=eQ:=eM (by ext);have v:(((S:Nat):Int) == 0)=false:=by simp;ext
 have u:(((dn:Nat):Int) == 0)=false:=by simp;ext
 (simp![jj];simp![j7,fN,fG,mh,v,u,↓Bs (show 0 < S by ext),↓w,↓IC,c])
theorem N7{h:List Nat}{c:List D}(v:h.length<=1000):wp (jq [.tup (h.map cV),.tup c]) Q s=Q (.bl (h.all λg=>decide (g < c.length))) s:=by
 have w:∀Q s,wp (collect (aS 0) bZ (gA rG sT (ay (.int 0)) (ak 0) (c1 dk (ak 1))) d6 (h.map cV) [none,some (.tup c)]) Q s=Q (h.map λg=>.bl (decide (g < c.length))) s:=λQ s=>F1 yC λg _ Q=>by
  have u:decide ((0:Int)<=(g:Nat))=true:=aM (by ext);have q:decide (((g:Nat):Int) < (c.length:Nat))=decide (g < c.length):=by rw[decide_eq_decide];ext
  simp![cV,u,q]
 have o:h.length<=eQ:=eM (by ext)
 (simp![jq];simp![yn,fG,ae,o,↓w,↓all_map])
theorem Qr{v:Int}:wp (v8 (.int v) [.int 0,.int 1]) Q s=Q (.bl ((v == 0)||(v == 1))) s:=by
 unfold v8;rw[dW,cy];have e:∀a:Int,t8 (.int a) (.int v)=(v == a):=λa=>by
  show (a == v)=(v == a)
  exact BEq.comm
 have c:([D.int 0,D.int 1].any λd=>t8 d (D.int v))=((v == 0)||(v == 1)):=by simp only[b9,List.any_nil,e,nJ]
 rw[c];exact propext ⟨λh=>h.2,λh=>⟨⟨rfl,rfl⟩,h⟩⟩
end
noncomputable def G8(b:Bd):Bool:=decide (b.st < b.S)
def sK(bs:List Bd)(m:Nat):Ln->Bool
 | .settle v=>decide (v < 2)
 | .act b d gs=>match bs[b]? with
  |some bd=>decide (d < bd.dn)&&(decide (gs.length=1+mx (bd.un · d) bd.S)&&gs.all λg=>decide (g < m))
  |none=>false
noncomputable def t_(h:Hd):Bool:=decide (h.b0 < h.lines.length)&&decide (h.b1 < h.lines.length)
def fb:Nat->List Bd->Option D
 |_,[]=>none
 |k,b::bs=>if G8 b=true then fb (k+1) bs else some (.tup [.str "board",.int k])
def fl(bs:List Bd)(m k:Nat):Nat->List Ln->Option D
 |_,[]=>none
 |i,l::ls=>if sK bs m l=true then fl bs m k (i+1) ls else some (.tup [.str "line",.int k,.int i])
def fh(bs:List Bd):Nat->List Hd->Option D
 |_,[]=>none
 |k,h::hs=>if t_ h=true then (match fl bs h.lines.length k 0 h.lines with
  |some p=>some p
  |none=>fh bs (k+1) hs) else some (.tup [.str "hand",.int k])
def pb(h:Hs):Option D:=match fb 0 h.boards with
 |some p=>some p
 |none=>if 2<=h.hands.length/\h.hands.length<=3 then fh h.boards 0 h.hands else some (.tup [.str "hands"])
noncomputable def uE(p:D):D:=.exn "NoHouse" [.str "place",p]
theorem ip{α:Type}{xs:List α}{i:Nat}{x:α}(h:xs[i]?=some x):xs.drop i=x::xs.drop (i+1):=by obtain⟨c,e⟩:=am.mp h;rw[bR c,e]
theorem Bh{α:Type}{xs:List α}{F:α->D}{i:Nat}{d:D}(h:(xs.map F)[i]?=some d):∃x,xs[i]?=some x/\d=F x:=by
 rw[aD]at h;cases c:xs[i]? with
 |none=>rw[c]at h;cases h
 |some x=>rw[c]at h;exact⟨x,rfl,(bw h).symm⟩
section
variable{Q:D->aR->Prop}{s:aR}
theorem Vd{S dn:Nat}{nx un:Nat->Nat->Nat}(h:ot S dn nx un):wp (ji [fN S dn nx un]) Q s=Q (.ref s.length) (s++[.lst (bB dn λd=>.int ((1+mx (un · d) S:Nat):Int))]):=by
 have u:=h;obtain⟨H,G,E,C,v⟩:=h;have w:∀Q s,wp (collect (aS 0) bZ (bv jH (ar (ak 1) (ar (ak 0) bc))) d6 (bB dn λi=>.int i) [none,some (fN S dn nx un)]) Q s=Q (bB dn λd=>.int ((1+mx (un · d) S:Nat):Int)) s:=λQ s=>zl yC λj g Q=>by have q:∀Q s,wp (jH [fN S dn nx un,.int j]) Q s=Q (.int ((1+mx (un · j) S:Nat):Int)) s:=λQ s=>WA u g;simp![↓q]
 have c:dn<=eQ:=eM (by ext);have o:(-(2^62)<=(dn:Int)/\(dn:Int) < 2^62):=by ext
 have tb:wp (aY (fN S dn nx un) (.int 0))=λQ s=>Q (D.tup (bB dn λd=>D.tup [.int (nx 0 d:Nat),.int (un 0 d:Nat)])) s:=by funext Q s;unfold fN;rw[qN,Bs (by ext)]
 (simp![ji];simp![jW,↓tb,fG,mh,bE,Vm,↓w,c,o])
end
def pH(s:aR)(n:Nat)(bs:List Bd):Prop:=∃cs,s[n]?=some (.lst cs)/\cs.length=bs.length/\∀(i:Nat)b,bs[i]?=some b->∃r,cs[i]?=some (.ref r)/\s[r]?=some (.lst (bB b.dn λd=>.int ((1+mx (b.un · d) b.S:Nat):Int)))
section
variable{Q:D->aR->Prop}{W:D->aR->Prop}{s:aR}
theorem Rb{n:Nat}{bs:List Bd}{u:List D}{l:Ln}(hc:pH s n bs)(Y:tz 3 l):wp (jr [.ref n,.tup u,i6 l]) Q s=Q (.bl (sK bs u.length l)) s:=by
 have L:2<=eQ:=eM (by ext);cases l with
 |settle v=>
  have w:∀Q s,wp (v8 (.int v) [.int 0,.int 1]) Q s=Q (.bl (decide (v < 2))) s:=λQ s=>by rw[Qr];congr 2;rw[iQ,gN,beq_iff_eq,beq_iff_eq,decide_eq_true_iff];ext
  (simp![jr];simp![jT,i6,cV,JH,L,↓w,sK])
 |act b d gs=>
  have hgs:=Y.2.2.1;obtain⟨cs,c1,q,c3⟩:=hc;have g1:∀Q,wp (getL n) Q s=Q cs s:=λQ=>kC c1;have al:∀Q s,wp (jq [.tup (gs.map cV),.tup u]) Q s=Q (.bl (gs.all λg=>decide (g < u.length))) s:=λQ s=>N7 (by ext);have G:(0:Int)<=(b:Nat):=by ext
  have J:(0:Int)<=(d:Nat):=by ext
  by_cases h2:b < bs.length
  ·have h:(b:Int) < (bs.length:Nat):=by ext
   have I:=au h2;obtain⟨r,U,C⟩:=c3 b _ I;have H:∀Q,wp (dz cs (b:Int)) Q s=Q (.ref r) s:=λQ=>pG U;simp only[sK,I];generalize bs[b]=c at *;have g2:∀Q,wp (getL r) Q s=Q (bB c.dn λd=>.int ((1+mx (c.un · d) c.S:Nat):Int)) s:=λQ=>kC C;by_cases E:d < c.dn
   ·have o:(d:Int) < (c.dn:Nat):=by ext
    have O:∀Q s,wp (dz (bB c.dn λd=>D.int ((1+mx (c.un · d) c.S:Nat):Int)) (d:Int)) Q s=Q (.int ((1+mx (c.un · d) c.S:Nat):Int)) s:=λQ s=>F3 E;have g:((gs.length:Int) == ((1+mx (c.un · d) c.S:Nat):Int))=decide (gs.length=1+mx (c.un · d) c.S):=by rw[iQ,beq_iff_eq,decide_eq_true_iff];ext
    simp![i6,cV,jr,jT,zL,↓g1,↓H,↓g2,↓O,↓al,mh,ae,q,G,h,J,o,E,decide_true,gL,cD,aN,if_false,g];cases decide (gs.length=1+mx (c.un · d) c.S)<;>rfl
   ·have o:¬ ((d:Int) < (c.dn:Nat)):=by ext
    simp![i6,cV,jr,jT,zL,↓g1,↓H,↓g2,mh,q,G,h,J,o,E,decide_true,decide_false,gL,mv,gf,cD,kr,aN,if_false,if_true]
  ·have h:¬ ((b:Int) < (bs.length:Nat)):=by ext
   simp only[sK,dm (show bs.length<=b by ext)];simp![i6,cV,jr,jT,zL,↓g1,q,G,h,decide_true,decide_false,gL,mv,gf,kr,if_true]
theorem VO{bs:List Bd}(Y:∀b∈bs,xb b)(U:fb 0 bs=none->Q .non s)(O:∀p,fb 0 bs=some p->W (uE p) s):kG (jc [.tup (bs.map iP)]) Q W s:=by
 unfold jc jV;refine Fa (m6 (Ky ?_));simp![ae];refine Jy (λi l s'=>s'=s/\(∃E C v,l=[some (.tup (bs.map iP)),E,C,v])/\fb 0 bs=fb i (bs.drop i)) (λ_ _ _ _=>trivial) (λi d l s' hd u=>?_) (λl s' u=>?_) ⟨rfl,⟨_,_,_,rfl⟩,rfl⟩
 ·obtain⟨es,⟨E,C,v,el⟩,g⟩:=u;subst es;subst el;obtain⟨x,L,U⟩:=zR (ds:=bs.map iP) (by rw[ae];exact hd);obtain⟨b,h,eb⟩:=Bh L;subst U;subst eb;have o:=(Y b (bo h)).1;rw[ip h]at g;have q:∀Q s,wp (jj [fN b.S b.dn b.nx b.un]) Q s=Q (.bl true) s:=λQ s=>Uu o;have G:∀Q s,wp (dk (fN b.S b.dn b.nx b.un)) Q s=Q (.int b.S) s:=λQ s=>FD;have J:2<=eQ:=eM (by ext);have I:(0:Int)<=(b.st:Nat):=by ext
  simp![iP];refine m6 (vU ?_);simp![];refine m6 (yM ?_);by_cases H:b.st < b.S
  ·have c:(b.st:Int) < (b.S:Nat):=by ext
   simp![cV,↓q,↓G,I,c,decide_true,cD,aN,if_false];exact wL (wL ⟨rfl,⟨_,_,_,rfl⟩,g.trans (aG (aM H))⟩)
  ·have c:¬ ((b.st:Int) < (b.S:Nat)):=by ext
   simp![cV,↓q,↓G,I,c,decide_true,decide_false,cD,kr,aN,if_false,if_true];refine m6 (EF ?_);simp![J];exact O _ (g.trans (az (by unfold G8;rw[aO H];exact aW)))
 ·obtain⟨es,_,g⟩:=u;subst es;rw[eA,mH,ae,km,dC]at g;exact wL (U g)
theorem Qe{bs:List Bd}{A:List D->aR->Prop}(J:∀b∈bs,xb b)
  (h:∀cs s',dY s s'->cs.length=bs.length->(∀(i:Nat)b,bs[i]?=some b->∃r,cs[i]?=some (.ref r)/\s'[r]?=some (.lst (bB b.dn λd=>.int ((1+mx (b.un · d) b.S:Nat):Int))))->A cs s'):
  wp (collect (eR 2 (bD (aS 0) (bD (aS 1) eZ))) bZ (bv ji (ar (ak 0) bc)) d6 (bs.map iP) [none,none]) A s:=by
 have chk:∀{s:aR}{R:Unit->aR->Prop},R () s->wp (chkS d6) R s:=λr=>by rw[Rx];exact r
 refine Bm (Q:=A) (λg xs l s'=>∃i,xs=(bs.map iP).drop i/\i<=bs.length/\(∃x y,l=[x,y])/\g.length=i/\dY s s'/\(∀(j:Nat)b,j < i->bs[j]?=some b->∃r,g[j]?=some (.ref r)/\s'[r]?=some (.lst (bB b.dn λd=>.int ((1+mx (b.un · d) b.S:Nat):Int))))) (λg l s' O=>?_) (λg d xs l s' L=>?_) _ [] _ s ⟨0,by simp,bL _,⟨_,_,rfl⟩,rfl,dY.refl _,λj b C=>by ext⟩
 ·obtain ⟨i,v,hi,_,E,ex,hh⟩:=O;have : i = bs.length := by have:=bH b6 v;simp at this;ext
  subst this;exact chk (h g s' ex E λj b C=>hh j b (am.mp C).1 C)
 ·obtain ⟨i,v,hi,⟨x,y,el⟩,E,ex,hh⟩:=L;have u : i < bs.length := by have:=bH b6 v;simp at this;ext
  have o:=au u;generalize bs[i]=b at o;have H:(bs.map iP)[i]?=some (iP b):=by rw[aD,o];rfl
  rw[ip H]at v;obtain⟨O,h⟩:=ia v;subst O;subst el;have g:=bo o;have G:=(J b g).1;refine chk ?_;have q:∀Q s,wp (ji [fN b.S b.dn b.nx b.un]) Q s=Q (.ref s.length) (s++[.lst (bB b.dn λd=>.int ((1+mx (b.un · d) b.S:Nat):Int))]):=λQ s=>Vd G;simp![iP,↓q];refine⟨i+1,h,u,⟨_,_,rfl⟩,by simp[E],ex.snoc _,λj c C I=>?_⟩;by_cases e:j=i
  ·subst e;rw[o]at I;cases I;exact⟨s'.length,by rw[<- E];simp,by rw[a_ (ax _)];simp⟩
  ·obtain⟨r,Y,U⟩:=hh j c (by ext) I;exact⟨r,by rw[aL (by ext)];exact Y,(dY.snoc (dY.refl _) _).at_ U⟩
theorem Sq{n k:Nat}{bs:List Bd}{h:Hd}(hc:pH s n bs)(Y:yE 3 h)
  (hq:t_ h=true->fl bs h.lines.length k 0 h.lines=none->Q .non s) (H:t_ h≠true->W (uE (.tup [.str "hand",.int k])) s) (G:t_ h=true->∀p,fl bs h.lines.length k 0 h.lines=some p->W (uE p) s):kG (jg [.ref n,.int k,lK h]) Q W s:=by
 have O:2<=eQ:=eM (by ext);have L:3<=eQ:=eM (by ext);have v:∀Q s,wp (jq [.tup [cV h.b0,cV h.b1],.tup (h.lines.map i6)]) Q s=Q (.bl (t_ h)) s:=λQ s=>by have:=@N7 Q s [h.b0,h.b1] (h.lines.map i6) (by simp);rw[ae]at this;simp only[aQ,oC,bu,oM,nN]at this;exact this
 unfold jg jZ;refine Fa (m6 (vU ?_));simp![lK];cases u:t_ h with
 |false=>
  rw[u]at v;refine m6 (yM ?_);simp![↓v];refine m6 (EF ?_);simp![O];exact H (by rw[u];exact aW)
 |true=>
  rw[u]at v;refine m6 (yM ?_);simp![↓v];refine wL ?_;dsimp only;refine m6 (Ky ?_);simp![ae];refine Jy (λi l s'=>s'=s/\(∃E C,l=[some (.ref n),some (.int k),some (.tup [.tup [cV h.b0,cV h.b1],.tup (h.lines.map i6)]),some (.tup (h.lines.map i6)),E,C])/\fl bs h.lines.length k 0 h.lines=fl bs h.lines.length k i (h.lines.drop i)) (λ_ _ _ _=>trivial) (λi d l s' hd J=>?_) (λl s' I=>?_) ⟨rfl,⟨_,_,rfl⟩,rfl⟩
  ·obtain ⟨es,⟨E,C,el⟩,g⟩:=J;subst es;subst el;obtain⟨x,U,v⟩:=zR (ds:=h.lines.map i6) (by rw[ae];exact hd);obtain⟨l,o,el⟩:=Bh U;subst v;subst el;rw[ip o]at g;have q:∀Q,wp (jr [.ref n,.tup (h.lines.map i6),i6 l]) Q s'=Q (.bl (sK bs h.lines.length l)) s':=λQ=>by have:=@Rb Q s' n bs (h.lines.map i6) l hc (Y.2.2.2 l (bo o));rw[ae]at this;exact this
   simp![];cases c:sK bs h.lines.length l with
   |true=>
    rw[c]at q;refine m6 (yM ?_);simp![↓q];exact wL (wL ⟨rfl,⟨_,_,rfl⟩,g.trans (aG c)⟩)
   |false=>
    rw[c]at q;refine m6 (yM ?_);simp![↓q];refine m6 (EF ?_);simp![L];exact G u _ (g.trans (az (by rw[c];exact aW)))
  ·obtain ⟨es,⟨E,C,el⟩,g⟩:=I;subst es;rw[eA,mH,ae,km,dC]at g;exact wL (hq u g)
theorem Ic{h:Hs}(hr:pp 3 h)(hq:pb h=none->∀s',dY s s'->Q (.bl true) s')(C:∀p s',pb h=some p->dY s s'->W (uE p) s'):kG (jC [nO h]) Q W s:=by
 obtain⟨z1,U,_,z3,z4⟩:=hr;have Y:1<=eQ:=eM (by ext);unfold jC yv;refine Fa (m6 (vU ?_));simp![nO];refine m6 (vU ?_);simp![];refine m6 (Kw (GK ?_));simp![];refine VO U (λI=>?_) (λp I=>?_)
 ·have v:pb h=if 2<=h.hands.length/\h.hands.length<=3 then fh h.boards 0 h.hands else some (.tup [.str "hands"]):=by unfold pb;rw[I]
  have bad:¬ (2<=h.hands.length/\h.hands.length<=3)->W (uE (.tup [.str "hands"])) s:=λz=>C _ s (by rw[v,az z]) (dY.refl _);by_cases h1:2<=h.hands.length
  ·have g:(2:Int)<=(h.hands.length:Nat):=by ext
   by_cases I:h.hands.length<=3
   ·have o:((h.hands.length:Nat):Int)<=3:=by ext
    rw[aG ⟨h1,I⟩]at v;refine m6 (yM ?_);simp![ae,g,o,decide_true];refine wL ?_;dsimp only;refine m6 (vU ?_);have lb:h.boards.length<=eQ:=eM (by ext);simp![fG,ae,lb];refine Qe U λcs u Y hl J=>?_;have hc:pH (u++[.lst cs]) u.length h.boards:=⟨cs,by simp,hl,λi b hb=>let ⟨r,a,c⟩:=J i b hb;⟨r,a,(dY.snoc (dY.refl _) _).at_ c⟩⟩
    have H:dY s (u++[.lst cs]):=Y.snoc _;generalize u++[MO.lst cs]=s2 at *
    try simp![]
    refine m6 (Ky ?_);simp![ae];refine Jy (λi l s'=>s'=s2/\(∃G E,l=[some (.tup [.tup (h.boards.map iP),.tup (h.hands.map lK)]),some (.tup (h.boards.map iP)),some (.tup (h.hands.map lK)),some (.ref u.length),G,E])/\fh h.boards 0 h.hands=fh h.boards i (h.hands.drop i)) (λ_ _ _ _=>trivial) (λi d l s' hd O=>?_) (λl s' L=>?_) ⟨rfl,⟨_,_,rfl⟩,rfl⟩
    ·obtain ⟨es,⟨G,E,el⟩,q⟩:=O;subst es;subst el;obtain⟨x,c,u⟩:=zR (ds:=h.hands.map lK) (by rw[ae];exact hd);obtain⟨k,Q,o⟩:=Bh c;subst u;subst o;rw[ip Q]at q;have g:=bo Q;simp![];refine m6 (Kw (GK ?_));simp![];refine Sq hc (z4 k g) (λa b=>?_) (λa=>?_) (λa p b=>?_)
     ·refine wL ⟨rfl,⟨_,_,rfl⟩,?_⟩;rw[q]
      show (if t_ k=true then _ else _)=_;rw[aG a,b]
     ·refine C _ _ ?_ H;rw[v,q];exact az a
     ·refine C _ _ ?_ H;rw[v,q]
      show (if t_ k=true then _ else _)=_;rw[aG a,b]
    ·obtain ⟨es,⟨G,E,el⟩,q⟩:=L;subst es;subst el;rw[eA,mH,ae,km,dC]at q;dsimp only;refine m6 (vU ?_);simp![];exact hq (v.trans q) _ H
   ·have o:¬ (((h.hands.length:Nat):Int)<=3):=by ext
    refine m6 (yM ?_);simp![ae,g,o,decide_true,decide_false];refine m6 (EF ?_);simp![Y];exact bad λz=>I z.2
  ·have g:¬ ((2:Int)<=(h.hands.length:Nat)):=by ext
   refine m6 (yM ?_);simp![ae,g,decide_false];refine m6 (EF ?_);simp![Y];exact bad λz=>h1 z.1
 ·exact C p s (by unfold pb;rw[I]) (dY.refl _)
end
open PySem (Str)
noncomputable def Pl:Nat->D->Prop
 |0,_=>False
 |_+1,.int _=>True
 |_+1,.str _=>True
 |n+1,.tup ds=>ds.length<=1000/\∀d∈ds,Pl n d
 |_+1,_=>False
section
variable{s:aR}{Q:D->aR->Prop}
theorem RB{a b:CE}{l:Loc}{I:Wk->aR->Prop}: wp (rF a b l) I s=wp (a l) (λx g=>wp (b l) (λy c=>match x,y with
  | .tup xs,.tup ys=>I ⟨xs.zipWith (λa b=>.tup [a,b]) ys,d6⟩ c
  |_,_=>False) g) s:=by
 unfold rF;rw[e_];congr 1;funext x g;rw[e_];congr 1;funext y c;cases x<;>cases y<;>first|bv_omega|exact cy
theorem Oq:∀{ds:List D},ds.zipWith (λa b=>D.tup [a,b]) ds=ds.map λd=>.tup [d,d]
 |[]=>rfl
 |d::ds=>by rw[List.zipWith_cons_cons,Oq];rfl
theorem PH:∀{ds:List D},(ds.map λ_=>D.bl true)=bB ds.length λ_=>.bl true:=by intro ds;unfold bB;rw[xR,xR,vT]
theorem XJ{x:Str}:wp (eF ["tuple"] (.str x)) Q s=Q (.bl false) s:=cF rfl
theorem WJ{i:Int}:wp (eF ["tuple"] (.int i)) Q s=Q (.bl false) s:=cF rfl
theorem XU{i:Int}:wp (eF ["str"] (.int i)) Q s=Q (.bl false) s:=cF rfl
theorem yB{g:List D->M D}{n:Nat}(q:∀d,Pl n d->∀(Q:D->aR->Prop)s,(∀s',dY s s'->Q (.bl true) s')->wp (g [d,d]) Q s):∀d,Pl (n+1) d->∀(Q:D->aR->Prop)s,(∀s',dY s s'->Q (.bl true) s')->wp (bF 2 (jf g) [d,d]) Q s
 | .int i,_,Q,s,h=>by simp![jf,↓WJ,↓XU];rw[beq_self_eq_true i];exact h s (dY.refl _)
 | .str x,_,Q,s,h=>by simp![jf,↓XJ,↓Pz];rw[beq_self_eq_true x];exact h s (dY.refl _)
 | .tup ds,hd,Q,s,h=>by
  obtain⟨C,v⟩:=hd;have l:ds.length<=eQ:=eM (by ext);simp![jf,↓RB,Oq,ae,l,fG];rw[az (by rw[beq_self_eq_true];decide)];refine ME (g1:=λd=>d) (g2:=λd=>d) (f:=λ_=>.bl true) (λ_ _=>trivial) (λd o u x Q c=>?_) λu x=>?_
  ·simp![];exact q d (v d o) Q u c
  ·simp![PH,↓IC];exact h u x
 | .bl _,hd,_,_,_=>hd.elim
 | .non,hd,_,_,_=>hd.elim
 | .ref _,hd,_,_,_=>hd.elim
theorem JK{d:D}(hd:Pl 8 d)(h:∀s',dY s s'->Q (.bl true) s'):wp (kq [d,d]) Q s:=by
 have G:∀d,Pl 0 d->∀(Q:D->aR->Prop)s,(∀s',dY s s'->Q (.bl true) s')->wp (j9 [d,d]) Q s:=λd hd=>hd.elim;have E:∀d,Pl 1 d->∀(Q:D->aR->Prop)s,(∀s',dY s s'->Q (.bl true) s')->wp (js [d,d]) Q s:=by unfold js;exact yB G
 have C:∀d,Pl 2 d->∀(Q:D->aR->Prop)s,(∀s',dY s s'->Q (.bl true) s')->wp (jz [d,d]) Q s:=by unfold jz;exact yB E
 have v:∀d,Pl 3 d->∀(Q:D->aR->Prop)s,(∀s',dY s s'->Q (.bl true) s')->wp (ju [d,d]) Q s:=by unfold ju;exact yB C
 have u:∀d,Pl 4 d->∀(Q:D->aR->Prop)s,(∀s',dY s s'->Q (.bl true) s')->wp (jv [d,d]) Q s:=by unfold jv;exact yB v
 have q:∀d,Pl 5 d->∀(Q:D->aR->Prop)s,(∀s',dY s s'->Q (.bl true) s')->wp (jx [d,d]) Q s:=by unfold jx;exact yB u
 have o:∀d,Pl 6 d->∀(Q:D->aR->Prop)s,(∀s',dY s s'->Q (.bl true) s')->wp (jA [d,d]) Q s:=by unfold jA;exact yB q
 have g:∀d,Pl 7 d->∀(Q:D->aR->Prop)s,(∀s',dY s s'->Q (.bl true) s')->wp (jt [d,d]) Q s:=by unfold jt;exact yB o
 have c:∀d,Pl 8 d->∀(Q:D->aR->Prop)s,(∀s',dY s s'->Q (.bl true) s')->wp (jy [d,d]) Q s:=by unfold jy;exact yB g
 exact c d hd Q s h
end
theorem Db{α:Type}{n:Nat}{xs:List α}{f:α->D}(g:xs.length<=1000)(h:∀x∈xs,Pl n (f x)):Pl (n+1) (.tup (xs.map f)):=by refine⟨by rw[ae];exact g,λd hd=>?_⟩;obtain⟨x,c,rfl⟩:=dJ.mp hd;exact h x c
theorem NM{m n:Nat}{f:Nat->D}(c:n<=1000)(h:∀i,i < n->Pl m (f i)):Pl (m+1) (.tup (bB n f)):=by unfold bB;refine Db (by rw[vT];exact c) λi g=>h i (fu.mp g)
theorem xS{n:Nat}{a b:D}(g:Pl n a)(c:Pl n b):Pl (n+1) (.tup [a,b]):=⟨by show 2<=1000;ext,λd hd=>by
 rcases aF.mp hd with rfl|hd
 ·exact g
 ·rw[aE.mp hd];exact c⟩
theorem Ou{h:Hs}(c:pp 3 h):Pl 8 (nO h):=by
 have O:=c.1;have I:=c.2.2.2.1;refine xS (Db (by ext) λb g=>?_) (Db (by ext) λx q=>?_)
 ·have g:=c.2.1 b g;have Q:=g.1.2.1;have L:=g.1.2.2.2.1;refine xS (n:=5) ?_ trivial;rw[Oz];exact NM (m:=4) (by ext) λi H=>NM (m:=3) (by ext) λd hd=>xS (n:=2) trivial trivial
 ·obtain⟨_,_,G,C⟩:=c.2.2.2.2 x q;refine xS (n:=5) (xS (n:=4) trivial trivial) (Db (n:=4) (by ext) λl u=>?_);have E:=C l u;cases l with
  |settle v=>exact xS (n:=3) trivial trivial
  |act b d gs=>
   have J:gs.length<=4+3:=E.2.2.1;refine⟨by show 4<=1000;ext,λe o=>?_⟩;simp only[aF,c_,or_false]at o;rcases o with rfl|rfl|rfl|rfl
   ·exact trivial
   ·exact trivial
   ·exact trivial
   ·exact Db (n:=2) (by ext) λ_ _=>trivial
theorem Mg:∀{bs:List Bd}{k:Nat}{p:D},fb k bs=some p->Pl 8 p
 |[],_,_,h=>(by cases h)
 |b::bs,k,p,h=>by
  unfold fb at h;split at h
  ·exact Mg h
  ·cases h;exact xS (n:=7) trivial trivial
theorem Mo{bs:List Bd}{m k:Nat}:∀{c:List Ln}{i:Nat}{p:D},fl bs m k i c=some p->Pl 8 p
 |[],_,_,h=>(by cases h)
 |l::c,i,p,h=>by
  unfold fl at h;split at h
  ·exact Mo h
  ·cases h;refine⟨by show 3<=1000;ext,λe g=>?_⟩;simp only[aF,c_,or_false]at g;rcases g with rfl|rfl|rfl<;>exact trivial
theorem Lf{bs:List Bd}:∀{c:List Hd}{k:Nat}{p:D},fh bs k c=some p->Pl 8 p
 |[],_,_,h=>(by cases h)
 |x::c,k,p,h=>by
  unfold fh at h;split at h
  ·split at h
   ·rename_i e;cases h;exact Mo e
   ·exact Lf h
  ·cases h;exact xS (n:=7) trivial trivial
theorem Xc{h:Hs}{p:D}(e:pb h=some p):Pl 8 p:=by
 unfold pb at e;split at e
 ·rename_i z;cases e;exact Mg z
 ·split at e
  ·exact Lf e
  ·cases e;exact⟨by show 1<=1000;ext,λe c=>by rw[aE.mp c];exact trivial⟩
open PySem (Str)
section
variable{s s1:aR}{Q:D->aR->Prop}
theorem nu:∀{ns:List Nat},lx (ns.map cV)=some (ns.map λ(n:Nat)=>(n:Int))
 |[]=>rfl
 |n::ns=>by
  rw[aQ]
  show (lx (ns.map cV)).map _=_;rw[nu];rfl
theorem NJ:∀(ns:List Int)(n:Int),ns.foldl max n∈n::ns/\∀a∈n::ns,a<=ns.foldl max n
 |[],n=>⟨by simp,by simp⟩
 |m::ns,n=>by
  obtain⟨q,g⟩:=NJ ns (max n m);rw[xI];refine⟨?_,λa o=>?_⟩
  ·rcases aF.mp q with e|e
   ·rw[e];by_cases h:n<=m
    ·rw[pN h];simp
    ·rw[yY (by ext)];simp
   ·exact aT _ (aT _ e)
  ·have c:=g (max n m) bQ;rcases aF.mp o with e|e
   ·subst e;exact o0 (yZ ..) c
   ·rcases aF.mp e with e|e
    ·subst e;exact o0 (xJ ..) c
    ·exact g a (aT _ e)
theorem Nv{ns:List Nat}(c:ns≠[]):∃m:Int,(∀k:Nat,m < (k:Int)↔∀n∈ns,n < k)/\∀(Q:D->aR->Prop)s,wp (pf (.tup (ns.map cV))) Q s=Q (.int m) s:=by
 cases ns with
 |nil=>exact bp rfl c
 |cons n ns=>
  obtain⟨h,o⟩:=NJ (ns.map λ(n:Nat)=>(n:Int)) n;refine⟨(ns.map λ(n:Nat)=>(n:Int)).foldl max n,λk=>⟨λz a g=>?_,λz=>?_⟩,λQ s=>?_⟩
  ·have:=o (a:Int) (by rw[<- aQ (f:=λ(n:Nat)=>(n:Int))];exact List.mem_map_of_mem g);ext
  ·rw[<- aQ (f:=λ(n:Nat)=>(n:Int))]at h;obtain⟨a,g,e⟩:=dJ.mp h;rw[<- e];have:=z a g;ext
  ·show wp (mF ((n::ns).map cV)) Q s=_;unfold mF;rw[nu,aQ];dsimp only;rw[cy]
theorem X9{h:Hs}{E:List D}{l:Ln}(hb:∀b∈h.boards,xb b)(hl:tz 3 l):wp (je [nO h,.tup E,i6 l]) Q s=Q (.bl (sK h.boards E.length l)) s:=by
 cases l with
 |settle v=>
  have e:decide ((v:Int) < 2)=decide (v < 2):=by rw[decide_eq_decide];ext
  (simp![je];simp![jl,i6,cV,JH,e,sK])
 |act b d gs=>
  have H:∀(Q:D->aR->Prop)s,wp (aY (nO h) (.int 0)) Q s=Q (.tup (h.boards.map iP)) s:=λQ s=>cF rfl;by_cases Y:b < h.boards.length
  ·have o:¬ ((b:Int) ≥ (h.boards.length:Nat)):=by ext
   have C:=au Y;have q:=(hb _ (cv Y)).1;simp only[sK,C];generalize h.boards[b]=c at *;have O:∀(Q:D->aR->Prop)s,wp (dz (h.boards.map iP) (b:Int)) Q s=Q (iP c) s:=λQ s=>pG (by rw[aD,C];rfl);have L:∀(Q:D->aR->Prop)s,wp (aY (iP c) (.int 0)) Q s=Q (fN c.S c.dn c.nx c.un) s:=λQ s=>cF rfl;have J:∀(Q:D->aR->Prop)s,wp (aY (fN c.S c.dn c.nx c.un) (.int 0)) Q s=Q (.tup (bB c.dn λd=>.tup [.int (c.nx 0 d:Nat),.int (c.un 0 d:Nat)])) s:=λQ s=>N9 (by have:=q.1;ext);by_cases G:d < c.dn
   ·have u:¬ ((d:Int) ≥ (c.dn:Nat)):=by ext
    have S4:c.S<=eQ:=eM (by have:=q.2.1;ext);have w:∀Q s,wp (collect (aS 0) bZ (c2 aY (c2 aY (ak 0) (ak 1)) (ay (.int 1))) d6 (bB c.S λs=>.tup (bB c.dn λd=>D.tup [.int (c.nx s d:Nat),.int (c.un s d:Nat)])) [none,some (.int d)]) Q s=Q (bB c.S λi=>.int (c.un i d:Nat)) s:=λQ s=>zl yC λi hi Q=>by simp![↓F3 G]
    have h:∀Q s,wp (mF (bB c.S λi=>.int (c.un i d:Nat))) Q s=Q (.int (mx (c.un · d) c.S:Nat)) s:=λQ s=>HD (f:=(c.un · d)) (by have:=q.1;ext);simp![i6,cV,je,jl,zL,↓H,↓O,↓L,↓J,mh,ae,o,u,if_false,aN,fG];rw[show fN c.S c.dn c.nx c.un=.tup (bB c.S λs=>.tup (bB c.dn λd=>D.tup [.int (c.nx s d:Nat),.int (c.un s d:Nat)])) from rfl];simp![mh,S4,↓w,↓h,ae];by_cases U:gs.length=1+mx (c.un · d) c.S
    ·have I:((gs.length:Int) == 1+(mx (c.un · d) c.S:Nat))=true:=by rw[beq_iff_eq];ext
     rw[I,az (by decide),aM G,aM U,gL,gL];obtain⟨m,C,v⟩:=Nv hl.2.2.2.1;have Y:decide (m < (E.length:Nat))=gs.all λg=>decide (g < E.length):=by rw[iQ,decide_eq_true_iff,C,cq];exact forall_congr' λg=>imp_congr_right λ_=>decide_eq_true_iff.symm
     simp![↓v,List.set_cons_succ,List.set_cons_zero,Y]
    ·have I:((gs.length:Int) == 1+(mx (c.un · d) c.S:Nat))=false:=by rw[beq_eq_false_iff_ne];ext
     rw[I,aG (by decide),aO U,gf,mv]
   ·have u:((d:Int) ≥ (c.dn:Nat)):=by ext
    simp![i6,cV,je,jl,zL,↓H,↓O,↓L,↓J,mh,ae,o,u,G,decide_false,decide_true,gf,if_true]
  ·have o:((b:Int) ≥ (h.boards.length:Nat)):=by ext
   simp only[sK,dm (show h.boards.length<=b by ext)];simp![i6,cV,je,jl,zL,↓H,ae,o,if_true]
noncomputable def vW:Option D->D
 |some p=>p
 |none=>.non
theorem Sw{x:Hd}{m:Int}(c:∀k:Nat,m < (k:Int)↔∀n∈[x.b0,x.b1],n < k):(m < (x.lines.length:Nat))↔t_ x=true:=by rw[c];unfold t_;rw[aI,decide_eq_true_iff,decide_eq_true_iff];simp
theorem Wg{d:D}:wp (ue (.ret d)) Q s=Q d s:=cF rfl
theorem Qj{h:Hs}(ho:pp 3 h):wp (jD [nO h]) Q s=Q (vW (pb h)) s:=by
 have l1:1<=eQ:=eM (by ext);have l2:2<=eQ:=eM (by ext);have l3:3<=eQ:=eM (by ext);have eb:∀(Q:D->aR->Prop)s,wp (aY (nO h) (.int 0)) Q s=Q (.tup (h.boards.map iP)) s:=λQ s=>cF rfl;have eh:∀(Q:D->aR->Prop)s,wp (aY (nO h) (.int 1)) Q s=Q (.tup (h.hands.map lK)) s:=λQ s=>cF rfl;apply BD;generalize hD:nO h=dh at *
 (simp![jD];simp![yk,↓eb,ae])
 have stop:∀{d:D},vW (pb h)=d->wp (ue (.ret d)) (λa s'=>a=vW (pb h)/\s'=s) s:=λe=>by rw[Wg];exact⟨e.symm,rfl⟩
 refine BF (λi l v=>v=s/\(∃J o g,l=[some dh,J,o,g,none,none,none,none])/\fb 0 h.boards=fb i (h.boards.drop i)) (λ_ _ _ _=>trivial) ⟨rfl,⟨_,_,_,rfl⟩,rfl⟩ (λRw i d l v up rt hd C=>?_) (λl v C=>?_)
 ·obtain⟨E,⟨J,o,g,el⟩,ef⟩:=C;subst E;subst el;obtain⟨x,hx,Y⟩:=zR (ds:=h.boards.map iP) (by rw[ae];exact hd);obtain⟨b,c,eb⟩:=Bh hx;subst Y;subst eb;rw[ip c]at ef;have q:∀Q s,wp (dk (fN b.S b.dn b.nx b.un)) Q s=Q (.int b.S) s:=λQ s=>FD;by_cases u:b.st < b.S
  ·have L:¬ ((b.st:Int) ≥ (b.S:Nat)):=by ext
   simp![iP,cV,↓q,L,decide_false,aN,if_false];exact up ⟨rfl,⟨_,_,_,rfl⟩,ef.trans (aG (aM u))⟩
  ·have L:((b.st:Int) ≥ (b.S:Nat)):=by ext
   simp![iP,cV,↓q,L,decide_true,if_true,l2];refine rt (stop ?_);unfold pb;rw[ef,show fb i (b::h.boards.drop (i+1))=some (.tup [.str "board",.int i]) from az (by unfold G8;rw[aO u];exact aW)];rfl
 ·obtain⟨E,⟨J,o,g,el⟩,ef⟩:=C;subst E;subst el;rw[eA,mH,ae,km,dC]at ef;have Y:pb h=if 2<=h.hands.length/\h.hands.length<=3 then fh h.boards 0 h.hands else some (.tup [.str "hands"]):=by unfold pb;rw[ef];rfl
  have bad:¬ (2<=h.hands.length/\h.hands.length<=3)->(D.tup [.str "hands"])=vW (pb h):=λz=>by rw[Y,az z];rfl
  simp![↓eh,ae];by_cases c1:(h.hands.length:Int) < 2
  ·simp![c1,decide_true,if_true,l1];exact bad (by ext)
  by_cases c2:(h.hands.length:Int) > 3
  ·simp![c1,c2,decide_true,decide_false,if_true,l1];exact bad (by ext)
  rw[aG (by ext)]at Y;simp![c1,c2,decide_false,aN,if_false,↓eh,ae];refine BF (λi l u=>u=v/\(∃J o g I y5 H G,l=[some dh,J,o,g,I,y5,H,G])/\fh h.boards 0 h.hands=fh h.boards i (h.hands.drop i)) (λ_ _ _ _=>trivial) ⟨rfl,⟨_,_,_,_,_,_,_,rfl⟩,rfl⟩ (λRw i d l u up rt hd C=>?_) (λl u C=>?_)
  ·obtain⟨E,⟨J,o,g,I,y5,H,G,el⟩,O⟩:=C;subst E;subst el;obtain⟨x,hx,U⟩:=zR (ds:=h.hands.map lK) (by rw[ae];exact hd);obtain⟨k,hk,ek⟩:=Bh hx;subst U;subst ek;rw[ip hk]at O;have hm:=bo hk;obtain⟨_,_,l8,hls⟩:=ho.2.2.2.2 k hm;obtain⟨m,hm',qm⟩:=Nv (ns:=[k.b0,k.b1]) (by simp);have qm:∀(Q:D->aR->Prop)s,wp (pf (.tup [cV k.b0,cV k.b1])) Q s=Q (.int m) s:=qm;have be:=Sw hm';by_cases c3:m ≥ (k.lines.length:Nat)
   ·simp![lK,↓qm,ae,c3,decide_true,if_true,l2];refine rt (stop ?_);rw[Y,O,show fh h.boards i (k::h.hands.drop (i+1))=some (.tup [.str "hand",.int i]) from az (λz=>by have:=be.mpr z;ext)];rfl
   have hbe:t_ k=true:=be.mp (by ext);have ef2:fh h.boards i (k::h.hands.drop (i+1))=match fl h.boards k.lines.length i 0 k.lines with
    |some p=>some p
    |none=>fh h.boards (i+1) (h.hands.drop (i+1)):=aG hbe
   simp![lK,↓qm,ae,c3,decide_false,aN,if_false];refine BF (λj l w=>w=u/\(∃o g I H G,l=[some dh,some (.int (i:Nat)),o,g,I,some (.tup (k.lines.map i6)),H,G])/\fl h.boards k.lines.length i 0 k.lines=fl h.boards k.lines.length i j (k.lines.drop j)) (λ_ _ _ _=>trivial) ⟨rfl,⟨_,_,_,_,_,rfl⟩,rfl⟩ (λRj j d l u upj rtj hd C=>?_) (λl u C=>?_)
   ·obtain⟨E,⟨o,g,I,H,G,el⟩,c⟩:=C;subst E;subst el;obtain⟨x,hx,U⟩:=zR (ds:=k.lines.map i6) (by rw[ae];exact hd);obtain⟨L,v,ek⟩:=Bh hx;subst U;subst ek;rw[ip v]at c;have q:∀(Q:D->aR->Prop)s,wp (je [dh,.tup (k.lines.map i6),i6 L]) Q s=Q (.bl (sK h.boards k.lines.length L)) s:=λQ s=>by rw[<- hD,X9 ho.2.1 (hls L (bo v)),ae]
    cases u:sK h.boards k.lines.length L with
    |true=>
     simp![↓q,u,cD,aN,if_false];exact upj ⟨rfl,⟨_,_,_,_,_,rfl⟩,c.trans (aG u)⟩
    |false=>
     simp![↓q,u,kr,if_true,l3];refine rtj (rt (stop ?_));rw[Y,O,ef2,c,show fl h.boards k.lines.length i j (L::k.lines.drop (j+1))=some (.tup [.str "line",.int i,.int j]) from az (by rw[u];exact aW)];rfl
   ·obtain⟨E,⟨o,g,I,H,G,el⟩,c⟩:=C;subst E;subst el;rw[eA,mH,ae,km,dC]at c;simp![];exact up ⟨rfl,⟨_,_,_,_,_,_,_,rfl⟩,by rw[O,ef2,c];rfl⟩
  ·obtain⟨E,⟨J,o,g,I,y5,H,G,el⟩,O⟩:=C;subst E;subst el;rw[eA,mH,ae,km,dC]at O;simp![];rw[Y,O];rfl
end
open PySem (Str)
theorem vx{α:Type}{F:α->D}{xs:List α}{i:Nat}(c:i < xs.length):cutD (xs.map F) none (some (i:Int))=(xs.take i).map F:=by unfold cutD fJ;simp only[bE,ae];rw[az (by ext),gi,<- List.map_take];congr 2;ext
theorem D5{α:Type}{F:α->D}{xs:List α}{k:Nat}:cutD (xs.map F) none (some (k:Int))=(xs.take k).map F:=by
 by_cases c:k < xs.length
 ·exact vx c
 ·unfold cutD fJ;simp only[bE,ae];rw[az (by ext),gi,fF (by rw[ae];ext),fF (show xs.length<=k by ext)]
theorem uT{α:Type}{F:α->D}{xs:List α}{i:Nat}(c:i < xs.length):cutD (xs.map F) (some ((i:Int)+1)) none=(xs.drop (i+1)).map F:=by
 unfold cutD fJ;have:(if (i:Int)+1 < 0 then ((i:Int)+1+((xs.map F).length:Int)).toNat else min ((i:Int)+1).toNat (xs.map F).length)=i+1:=by rw[az (by ext),ae];ext
 simp only[this];rw[<- List.map_drop];exact fF (by rw[ae,cO,ae];exact ax _)
theorem Fq{α:Type}{F:α->D}{xs:List α}{i:Nat}{y:α}(c:i < xs.length):(xs.take i).map F++[F y]++(xs.drop (i+1)).map F=(xs.set i y).map F:=by rw[List.set_eq_take_append_cons_drop,aG c,bA,aQ,dL];rfl
section
variable{p q n:Nat}{s s1:aR}{Q:D->aR->Prop}
theorem yI{a:CE}{lo h:CO}{l:Loc}: wp (fA a lo h l) Q s=wp (a l) (λx s1=>wp (lo l) (λi g=>wp (h l) (λj c=>match x with
  | .tup ds=>Q (.tup (cutD ds i j)) c
  |_=>False) g) s1) s:=by
 unfold fA;rw[e_];congr 1;funext x s1;rw[e_];congr 1;funext i g;rw[e_];congr 1;funext j c;cases x<;>first|bv_omega
theorem O4{h:Hs}{l:Ln}{m:Nat}(hp:PK p q s s1)(hb:h.boards.length<=4)(hl:tz n l)(hm:m<=8)(hn:n<=3)(hq:∀l' s',tz (n+1) l'->PK p q s s'->Kept p q s1 s'->Q (i6 l') s'):wp (jo [.ref p,nO h,i6 l,.int m]) Q s1:=by
 have l5:5<=eQ:=eM (by ext);have l1:1<=eQ:=eM (by ext);have l2:2<=eQ:=eM (by ext);have H:4<=eQ:=eM (by ext);have eb:∀(Q:D->aR->Prop)s,wp (aY (nO h) (.int 0)) Q s=Q (.tup (h.boards.map iP)) s:=λQ s=>cF rfl;generalize nO h=dh at *
 (simp![jo];simp![jS,l5])
 refine me hp (by ext) (by ext) λr s2 r0 r1 I w2=>?_;obtain⟨w,hw,it⟩:∃w:Nat,w<=900/\∀(Q:D->aR->Prop)s,wp (dz [.int 0,.int 1,.int 2,.int 90,.int 900] r) Q s=Q (.int (w:Nat)) s:=by
  rcases (show r=0\/r=1\/r=2\/r=3\/r=4 by ext) with rfl|rfl|rfl|rfl|rfl
  ·exact⟨0,by ext,λQ s=>pG (i:=0) rfl⟩
  ·exact⟨1,by ext,λQ s=>pG (i:=1) rfl⟩
  ·exact⟨2,by ext,λQ s=>pG (i:=2) rfl⟩
  ·exact⟨90,by ext,λQ s=>pG (i:=3) rfl⟩
  ·exact⟨900,by ext,λQ s=>pG (i:=4) rfl⟩
 cases l with
 |settle v=>
  simp![↓it,i6,cV,JH,if_true];refine⟨l2,?_⟩;rw[show (2:Int)+(w:Int)=((2+w:Nat):Int) by ext];exact hq (.settle (2+w)) s2 (by show 2+w < 1000;ext) I w2
 |act b d gs=>
  obtain⟨Y,U,h3,h5,L⟩:=hl;have g0:0 < gs.length:=List.length_pos_iff.mpr h5;simp![↓it,i6,cV,zL,aN,if_false];refine me I (by ext) (by ext) λv s3 v0 v1 C w3=>?_;have E:∀(b' d':Nat)(o:List Nat)G,b' < 1000->d' < 1000->o.length<=4+(n+1)->o≠[]->(∀g∈o,g < 1000)->PK p q s G->Kept p q s1 G->Q (.tup [.str "do",.int b',.int d',.tup (o.map cV)]) G:=λb' d' o G a1 a2 a3 a4 a5 a6 a7=>hq (.act b' d' o) G ⟨a1,a2,a3,a4,a5⟩ a6 a7;have u:=w2.trans w3;simp![];by_cases c0:v=0
  ·rw[aG c0];simp![↓eb,ae];refine⟨H,?_⟩;rw[show (h.boards.length:Int)+(w:Int)=((h.boards.length+w:Nat):Int) by ext];exact E _ _ _ _ (by ext) U (by ext) h5 L C u
  rw[az c0];by_cases c1:v=1
  ·rw[aG c1];refine⟨H,?_⟩;rw[show (4:Int)+(w:Int)=((4+w:Nat):Int) by ext];exact E _ _ _ _ Y (by ext) (by ext) h5 L C u
  rw[az c1];by_cases c2:v=2
  ·rw[aG c2];simp![ae,cf];refine⟨l1,eM (by ext),H,?_⟩;have e:gs.map cV++[D.int 0]=(gs++[0]).map cV:=by rw[bA];rfl
   rw[e];refine E b d (gs++[0]) s3 Y U (by rw[aV,cf];ext) (by simp) (λg J=>?_) C u;rcases br.mp J with z|z
   ·exact L g z
   ·rw[aE.mp z];ext
  rw[az c2];rw[ae];have O:∀{A B:Prop},(1 < (gs.length:Int)->A)->B->(if v=3 then (if 1 < (gs.length:Int) then A else B) else B):=λ{A B}a b=>by
   by_cases e:v=3
   ·rw[aG e];by_cases f:1 < (gs.length:Int)
    ·rw[aG f];exact a f
    ·rw[az f];exact b
   ·rw[az e];exact b
  refine O (λc3=>?_) ?_
  ·have c:cutD (gs.map cV) (some 1) none=(gs.drop 1).map cV:=uT (i:=0) g0;simp![↓yI,c];refine⟨H,E b d (gs.drop 1) s3 Y U (by rw[cO];ext) (λe=>?_) (λg J=>L g (List.mem_of_mem_drop J)) C u⟩;have:=bH b6 e;rw[cO,eX]at this;ext
  ·refine me C (by ext) (by ext) λi G v Q c q=>?_;obtain⟨i,rfl⟩:=pB v;have h:i < gs.length:=by ext
   have O:=vx (F:=cV) h;have I:=uT (F:=cV) h;have o:=Fq (F:=cV) (y:=m+w) h;rw[show cV (m+w)=.int ((m:Int)+(w:Int)) by show D.int _=_;congr 1]at o;simp![↓yI,O,I,aV,ae,b5,cO,cf,o];refine⟨l1,eM (by ext),eM (by ext),H,?_⟩;refine E b d (gs.set i (m+w)) G Y U (by rw[dy];ext) (λe=>?_) (λg J=>?_) c (u.trans q)
   ·have:=bH b6 e;rw[dy,eX]at this;ext
   ·rcases gy J with z|z
    ·exact L g z
    ·ext
theorem PY{h:Hs}{x:Hd}(hp:PK p q s s1)(hb:h.boards.length<=4)(hx:yE n x)(hn:n<=3)(hq:∀x' s',yE (n+1) x'->PK p q s s'->Kept p q s1 s'->Q (lK x') s'):wp (jm [.ref p,nO h,lK x]) Q s1:=by
 have l1:1<=eQ:=eM (by ext);have u:2<=eQ:=eM (by ext);obtain⟨O,L,I,hl⟩:=hx;have up:∀{l},l∈x.lines->tz (n+1) l:=λz=>(hl _ z).mono (by ext);have o:∀(Y U:Nat)(G:List Ln)s',Y < 1000->U < 1000->G.length<=8->(∀l∈G,tz (n+1) l)->PK p q s s'->Kept p q s1 s'->Q (.tup [.tup [.int Y,.int U],.tup (G.map i6)]) s':=λY U G s' a1 a2 a3 a4 a5 a6=>hq ⟨Y,U,G⟩ s' ⟨a1,a2,a3,a4⟩ a5 a6
 (simp![jm];simp![jR,lK,cV])
 refine me hp (by ext) (by ext) λr s2 r0 r1 g E=>?_;simp![ae];by_cases c0:r=0
 ·rw[aG c0];exact⟨bL _,u,o x.b0 x.b1 [] s2 O L (bL _) (λ_ z=>(by cases z)) g E⟩
 rw[az c0];by_cases c1:r=1
 ·rw[aG c1];refine me g (by ext) (by ext) λv J v0 v1 c C=>?_;obtain⟨v,rfl⟩:=pB v0;simp![ae];refine⟨u,u,?_⟩;rw[show (x.lines.length:Int)+(v:Int)=((x.lines.length+v:Nat):Int) by ext];exact o _ x.b1 x.lines J (by ext) L I (λ_=>up) c (E.trans C)
 rw[az c1];by_cases c2:r=2
 ·rw[aG c2];refine me g (by ext) (by ext) λv J v0 v1 c C=>?_;obtain⟨v,rfl⟩:=pB v0;simp![ae];refine⟨u,u,?_⟩;rw[show (x.lines.length:Int)+(v:Int)=((x.lines.length+v:Nat):Int) by ext];exact o x.b0 _ x.lines J O (by ext) I (λ_=>up) c (E.trans C)
 rw[az c2];by_cases c3:(x.lines.length:Int)=0
 ·rw[aG c3];exact o x.b0 x.b1 x.lines s2 O L I (λ_=>up) g E
 rw[az c3];refine me g (by ext) (by ext) λi J i0 i1 c C=>?_;obtain⟨i,rfl⟩:=pB i0;have H:i < x.lines.length:=by ext
 have e1:=vx (F:=i6) H;have e2:=uT (F:=i6) H;have it:∀(Q:D->aR->Prop)s,wp (dz (x.lines.map i6) (i:Int)) Q s=Q (i6 x.lines[i]) s:=λQ s=>pG (by rw[aD,au H];rfl);simp![↓yI,e1,↓it,ae];refine O4 c hb (hl _ (cv H)) I hn λl' s4 hl' hp4 w4=>?_;have e3:=Fq (F:=i6) (y:=l') H;simp![↓yI,e1,e2,aV,ae,b5,cO,cf,e3];refine⟨l1,eM (by ext),eM (by ext),u,?_⟩;refine o x.b0 x.b1 (x.lines.set i l') s4 O L (by rw[dy];exact I) (λl hm=>?_) hp4 ((E.trans C).trans w4);rcases gy hm with z|z
 ·exact up z
 ·rw[z];exact hl'
theorem Xb{h:Hs}(hp:PK p q s s1)(hr:pp n h)(hn:n<=2)(hq:∀h' s',pp (n+1) h'->PK p q s s'->Kept p q s1 s'->Q (nO h') s'):wp (jG [.ref p,nO h]) Q s1:=by
 have l1:1<=eQ:=eM (by ext);have L:2<=eQ:=eM (by ext);obtain⟨b4,u,n1,n3,U⟩:=hr;have up:∀{x},x∈h.hands->yE (n+1) x:=λz=>let ⟨a,b,c,d⟩:=U _ z;⟨a,b,c,λl C=>(d l C).mono (by ext)⟩
 have E:∀(bs:List Bd)(O:List Hd)s',bs.length<=4->(∀b∈bs,xb b)->1<=O.length->O.length<=3+2*(n+1)->(∀x∈O,yE (n+1) x)->PK p q s s'->Kept p q s1 s'->Q (.tup [.tup (bs.map iP),.tup (O.map lK)]) s':=λbs O s' a1 a2 a3 a4 a5 a6 a7=>hq ⟨bs,O⟩ s' ⟨a1,a2,a3,a4,a5⟩ a6 a7;have hD:nO h=.tup [.tup (h.boards.map iP),.tup (h.hands.map lK)]:=rfl;generalize hd0:nO h=dh at *
 (simp![jG];simp![j8])
 rw[hD];simp![];refine me hp (by ext) (by ext) λr s2 r0 r1 I w2=>?_;simp![ae];have Y:∀{A B:Prop},(0 < (h.boards.length:Int)->A)->B->(if r=0 then (if 0 < (h.boards.length:Int) then A else B) else B):=λ{A B}a b=>by
  by_cases e:r=0
  ·rw[aG e];by_cases f:0 < (h.boards.length:Int)
   ·rw[aG f];exact a f
   ·rw[az f];exact b
  ·rw[az e];exact b
 refine Y (λc0=>?_) ?_
 ·refine me I (by ext) (by ext) λi s3 i0 i1 g J=>?_;obtain⟨i,rfl⟩:=pB i0;have o:i < h.boards.length:=by ext
  have c:=u _ (cv o);have G:∀(Q:D->aR->Prop)s,wp (dz (h.boards.map iP) (i:Int)) Q s=Q (iP h.boards[i]) s:=λQ s=>pG (by rw[aD,au o];rfl);have O:∀(Q:D->aR->Prop)s,wp (aY (iP h.boards[i]) (.int 0)) Q s=Q (fN h.boards[i].S h.boards[i].dn h.boards[i].nx h.boards[i].un) s:=λQ s=>cF rfl;have q:∀Q s,wp (dk (fN h.boards[i].S h.boards[i].dn h.boards[i].nx h.boards[i].un)) Q s=Q (.int h.boards[i].S) s:=λQ s=>FD;have U:=c.1.2.1;simp![↓G,↓O,↓q];refine me g (by ext) (by ext) λv s4 v0 v1 H w4=>?_;obtain⟨v,rfl⟩:=pB v0;have e1:=vx (F:=iP) o;have e2:=uT (F:=iP) o;have e3:=Fq (F:=iP) (y:=⟨h.boards[i].S,h.boards[i].dn,h.boards[i].nx,h.boards[i].un,h.boards[i].S+v⟩) o;rw[show iP ⟨h.boards[i].S,h.boards[i].dn,h.boards[i].nx,h.boards[i].un,h.boards[i].S+v⟩=.tup [fN h.boards[i].S h.boards[i].dn h.boards[i].nx h.boards[i].un,.int ((h.boards[i].S:Int)+(v:Int))] by show D.tup [_,D.int _]=_;congr 3]at e3;simp![↓yI,e1,e2,aV,ae,b5,cO,cf,e3];refine⟨L,l1,eM (by ext),eM (by ext),L,?_⟩;refine E _ _ s4 (by rw[dy];exact b4) (λb C=>?_) n1 (by ext) (λ_=>up) H ((w2.trans J).trans w4);rcases gy C with z|z
  ·exact u b z
  ·rw[z];exact⟨c.1,by show h.boards[i].S+v < 1000;ext⟩
 by_cases c1:r=1
 ·rw[aG c1];have a1:cutD (h.hands.map lK) none (some 1)=(h.hands.take 1).map lK:=D5 (k:=1);have a2:cutD (h.hands.map lK) none (some 2)=(h.hands.take 2).map lK:=D5 (k:=2);simp![↓yI,a1,a2,ae,b5];refine⟨eM (by ext),L,?_⟩;refine me I (by ext) (by ext) λv s3 v0 v1 g J=>?_;rcases (show v=0\/v=1 by ext) with rfl|rfl
  ·have G:∀(a b:D)(Q:D->aR->Prop)s,wp (dz [a,b] 0) Q s=Q a s:=λa b Q s=>pG (i:=0) rfl;simp![↓G,a1];refine⟨L,E _ _ s3 b4 u (by rw[b5];ext) (by rw[b5];ext) (λx C=>up (tR C)) g (w2.trans J)⟩
  ·have G:∀(a b:D)(Q:D->aR->Prop)s,wp (dz [a,b] 1) Q s=Q b s:=λa b Q s=>pG (i:=1) rfl;simp![↓G,a2];rw[<- bA];refine⟨L,E _ _ s3 b4 u (by rw[aV];ext) (by rw[aV,b5];ext) (λx C=>?_) g (w2.trans J)⟩;rcases br.mp C with z|z
   ·exact up z
   ·exact up (tR z)
 rw[az c1];refine me I (by ext) (by ext) λi s3 i0 i1 g J=>?_;obtain⟨i,rfl⟩:=pB i0;have o:i < h.hands.length:=by ext
 have e1:=vx (F:=lK) o;have e2:=uT (F:=lK) o;have G:∀(Q:D->aR->Prop)s,wp (dz (h.hands.map lK) (i:Int)) Q s=Q (lK h.hands[i]) s:=λQ s=>pG (by rw[aD,au o];rfl);simp![↓yI,e1,↓G];refine PY (h:=h) g b4 (U _ (cv o)) (by ext) λx' s4 hx' H w4=>?_;have e3:=Fq (F:=lK) (y:=x') o;simp![↓yI,e1,e2,aV,ae,b5,cO,cf,e3];refine⟨l1,eM (by ext),eM (by ext),L,?_⟩;refine E _ _ s4 b4 u (by rw[dy];exact n1) (by rw[dy];ext) (λx C=>?_) H ((w2.trans J).trans w4);rcases gy C with z|z
 ·exact up z
 ·rw[z];exact hx'
end
open PySem (Str)
section
variable{s:aR}{Q:D->aR->Prop}{W:D->aR->Prop}{R:r9->aR->Prop}{l:Loc}
theorem Uo{c o:CS}{ys:List Str}{i:Nat} (h:kG (c l) R (λd C=>∃y es,d=.exn y es/\y∈ys/\wp (o (l.set i (some (.exn y es)))) (λf g=>match f with
  | .next l'=>R (.next (l'.set i none)) g
  | .ret d=>R (.ret d) g
  |_=>False) C) s):wp (m9 c ys i o l) R s:=by
 rcases h with ⟨f,s',e,q⟩|⟨d,s',e,y,es,rfl,E,q⟩
 ·exact⟨f,s',by unfold m9;rw[e],q⟩
 ·obtain⟨f,g,v,q⟩:=q;have u : m9 c ys i o l s = bnd (qu (o (l.set i (some (.exn y es))))) (λf => match f with
    | .next l'=>ret (.next (l'.set i none))
    | .ret d=>ret (.ret d)
    |_=>bad) s':=by
   unfold m9;rw[e];dsimp only;rw[aG E]
   try rfl
  cases f with
  |next l'=>exact⟨_,g,by rw[u];unfold bnd qu;rw[v];rfl,q⟩
  |ret d=>exact⟨_,g,by rw[u];unfold bnd qu;rw[v];rfl,q⟩
  |brk l'=>exact q.elim
  |cnt l'=>exact q.elim
theorem OW{g:CE}{j:Nat}(h:kG (g l) (λd s'=>R (.next (l.set j (some d))) s') W s):kG (bX (aS j) g l) R W s:=
 tT (yT h (λd s' q=>tT (R9 (by rw[fj];exact yK q))) λ_ _ q=>q)
theorem X4:(((("\n":Str)).length == 0)=false):=by nofun
theorem EE:(("\n":Str)).length=1:=by nofun
theorem Ue{h:Hs}(c:pp 3 h):(nj h).length<=8000:=by have a:(nj h).length<=(cZ h).length*(90+(("\n":Str)).length):=LB (JQ c);have b:=FE c;rw[EE]at a;have:(cZ h).length*(90+1)<=85*(90+1):=uv _ b;ext
theorem Ji{h:Hs}(c:pp 3 h)(I:pb h=none->∀s',dY s s'->Q (nO h) s')(H:∀p s',pb h=some p->dY s s'->W (uE p) s'):kG (jh [.str (nj h)]) Q W s:=by have G:2<=eQ:=eM (by ext);have L:=Ue c;have O:=FE c;have E:(cZ h).length<=eQ:=eM (by ext);unfold jh yh;refine Fa (m6 (vU ?_));simp![↓BC,OP c,X4,E];refine⟨bC (show (nj h).length+2<=8002 by ext) (by decide),?_⟩;refine m6 (vU ?_);simp![];refine Xv c pT λu J C=>?_;simp![];refine m6 (vU ?_);simp![ae];refine V7 c J λv q=>?_;have o:dY s v:=(((dY.refl s).snoc _).trans C).trans q;simp![G];refine m6 (Kw (GK ?_));simp![];refine Ic (h:=h) c (λe w g=>?_) (λp w e g=>H p w e (o.trans g));refine m6 (vU ?_);simp![];exact I e w (o.trans g)
theorem K1{h:Hs}{x:Str}{a:D}{g:List D->M D}{v:D}(O:pp 3 h)(H:([("read_house",1,jh),("look",1,jC),("look_at_hand",3,jg),("look_at_boards",1,jc)]:List (Str×Nat×(List D->M D))).lookup x=some (1,g))(I:∀(Q:D->aR->Prop)s,wp (pv v .non) Q s=Q (.bl true) s)
  (call:∀(Q W:D->aR->Prop)s,(pb h=none->∀s',dY s s'->Q v s')->(∀p s',pb h=some p->dY s s'->W (uE p) s')->kG (g [a]) Q W s)
  (q:∀s',dY s s'->Q (.bl true) s'):wp (jw [.exn x [.non],a,vW (pb h)]) Q s:=by
 have L:1<=eQ:=eM (by ext);have G:∀(Q:D->aR->Prop)s,wp (Ar .non .non) Q s=Q (.bl true) s:=λQ s=>cF rfl
 (simp![jw];simp![yc])
 have J:qP [("read_house",1,jh),("look",1,jC),("look_at_hand",3,jg),("look_at_boards",1,jc)] 0 (ar (ak 1) bc) [some (.exn x [.non]),some a,some (vW (pb h)),some .non,some .non,none]=g [a]:=by
  funext s
  show (match ([("read_house",1,jh),("look",1,jC),("look_at_hand",3,jg),("look_at_boards",1,jc)]:List (Str×Nat×(List D->M D))).lookup x with
   |some (n,g)=>chk ([a].length=n) (g [a])
   |none=>bad) s=_
  rw[H]
  show chk (1=1) (g [a]) s=_;unfold chk;rw[aG rfl]
 refine Uo (OW ?_);rw[J];refine call _ _ s (λe s' x=>?_) (λp s' e x=>?_)
 ·rw[e];simp![vW,↓G,↓I,if_true];exact q s' x
 ·have o:=Xc e;have E:∀(Q:D->aR->Prop)s,wp (Ar p .non) Q s=Q (.bl false) s:=λQ s=>by
   match p,o with
   | .int _,_=>exact cF rfl
   | .str _,_=>exact cF rfl
   | .tup _,_=>exact cF rfl
  have u:∀(b:Str->Bool)(Q:D->aR->Prop)s,wp (mZ ["NoHouse"] b (uE p)) Q s=Q (.bl (b "NoHouse")) s:=λb Q s=>cF (by unfold mZ uE;dsimp only;unfold chk;rw[aG (by simp)];rfl);have c:∀(Q:D->aR->Prop)s,wp (qB "NoHouse" "place" (uE p)) Q s=Q p s:=λQ s=>cF (by unfold qB uE;dsimp only;unfold chk;rw[aG ⟨rfl,rfl⟩];rfl);refine⟨"NoHouse",[.str "place",p],rfl,by simp,?_⟩;rw[e];simp![vW];rw[show (D.exn "NoHouse" [.str "place",p])=uE p from rfl];have n1:(["NoMark","NoRow","NoTable","NoText","NotGood","NotMeek","TooMany"].any λt=>ag "NoHouse" == ag t||ag "PactError" == ag t)=false:=by nofun
  simp![↓E,↓u,↓c,n1,beq_self_eq_true,BQ,cD,aN,if_false];exact JK o λC c=>by simp![];exact q C (x.trans c)
end
open PySem (Str)
section
variable{p q:Nat}{s s1 s2:aR}{Q:D->aR->Prop}{h:Hs}
theorem Xe{ds:List D}:wp (tD (.lit ds)) Q s=Q (.ref s.length) (s++[.lst ds]):=cF rfl
theorem NF(c:pp 3 h):gU ((cZ h).map D.str)=some (cZ h)/\((cZ h).map (·.length)).sum+(cZ h).length*(("\n":Str)).length<=16777216:=by
 have es:gU ((cZ h).map D.str)=some (cZ h):=by have:=HP (f:=λx:Str=>x) (xs:=cZ h);simpa using this
 have o:=FS (f:=λx:Str=>x.length) (JQ c);have g:=FE c;have:(cZ h).length*90<=85*90:=uv _ g;exact⟨es,by rw[EE];ext⟩
theorem SU(E:AW h):pb h=none:=by
 have b0:∀{bs:List Bd}{k:Nat},(∀b∈bs,b.st < b.S)->fb k bs=none:=λ{bs}=>by
  induction bs with
  |nil=>exact λ_=>rfl
  |cons b bs ih=>exact λ{k}z=>(aG (aM (z b (by simp)))).trans (ih λc C=>z c (by simp[C]))
 have L:∀{m k:Nat}{o:List Ln}{i:Nat},(∀l∈o,tW h.boards m l)->fl h.boards m k i o=none:=λ{m k o}=>by
  induction o with
  |nil=>exact λ_=>rfl
  |cons l o ih=>
   intro i z;have O:sK h.boards m l=true:=by
    have z:=z l (by simp);cases l with
    |settle v=>exact aM z
    |act b d gs=>
     obtain⟨bd,g1,g2,Q,q⟩:=z;simp only[sK,g1,aM g2,aM Q,gL];exact cq.mpr λg U=>aM (q g U)
   exact (aG O).trans (ih λc C=>z c (by simp[C]))
 have Y:∀{u:List Hd}{k:Nat},(∀x∈u,xm h.boards x)->fh h.boards k u=none:=λ{u}=>by
  induction u with
  |nil=>exact λ_=>rfl
  |cons x u ih=>
   intro k z;obtain⟨J,I,_,H⟩:=z x (by simp);have G:t_ x=true:=by unfold t_;rw[aM J,aM I];rfl
   refine (aG G).trans ?_;rw[L H];exact ih λc C=>z c (by simp[C])
 unfold pb;rw[b0 λb G=>(E.2.1 b G).2];dsimp only;rw[aG ⟨E.2.2.1,E.2.2.2.1⟩];exact Y E.2.2.2.2
theorem O0(ns:List Int)(hn:ns.length<=63)(hQ:∀s,Q (.bl true) s):wp (yq [.lit (ns.map D.int)]) Q s:=by
 have l4:4<=eQ:=eM (by ext);have l3:3<=eQ:=eM (by ext);have h3:(-(2^62)<=(3:Int)/\(3:Int) < 2^62)=True:=eq_true (by ext);have h2:(-(2^62)<=(2:Int)/\(2:Int) < 2^62)=True:=eq_true (by ext)
 (simp![yq];simp![yw,↓Xe,l4])
 have hp:kn (s++[MO.lst (ns.map D.int)]++[MO.lst [.ref s.length,.int 0,.int 0,.int 0]]) (s++[MO.lst (ns.map D.int)]).length s.length:=⟨by simp,0,0,0,ns,pT,tw pT,by ext,by ext,hn⟩
 generalize (s++[MO.lst (ns.map D.int)]).length=p at *;generalize s++[MO.lst (ns.map D.int)]++[MO.lst [.ref s.length,.int 0,.int 0,.int 0]]=U at *;generalize s.length=q at *;refine Uj (PK.refl hp) λh s1 o1 b1 e1 k1 w1=>?_;have r0:=TH o1 b1 e1;have L:=r0.mono (bL 3);have d0:=SU o1;obtain⟨j1,j2⟩:=NF L;have et:∀h,bV ("\n":Str) (cZ h)=nj h:=λ_=>rfl;have ext:∀{u v:aR},PK p q U u->dY u v->PK p q U v:=λa x=>by obtain⟨y,c,k,ms,e1,e2,r⟩:=a.1.ex;exact⟨⟨a.1.ne,y,c,k,ms,x.at_ e1,x.at_ e2,r⟩,a.2.trans ⟨x.le,λn hn _ _=>by obtain⟨t,e⟩:=x;rw[e,aL hn]⟩⟩
 simp![↓DP];refine Oc L λn u gu xu=>?_;have q1:∀Q,wp (getL n) Q u=Q ((cZ h).map D.str) u:=λQ=>kC gu;simp![↓q1,j1,et];refine⟨j2,?_⟩;refine Hm (Ji L (λ_ v xv=>?_) (λp' _ e _=>by rw[d0]at e;cases e));simp![];refine JK (Ou L) λv2 H=>?_;simp![cD,aN,if_false];refine Hm (Ic L (λ_ v3 G=>?_) (λp' _ e _=>by rw[d0]at e;cases e));have k3:=ext k1 (((xu.trans xv).trans H).trans G);simp![cD,beq_self_eq_true,aN,if_false,h3];refine BF (λi l v=>∃y4 y5 o E g,l=[some (.lit (ns.map D.int)),some (.ref p),some (nO h),some (.str (nj h)),y4,y5,o,E,g]/\PK p q U v) (λ_ _ _ _=>trivial) ⟨_,_,_,_,_,rfl,k3⟩ (λRw i d l v up rt hd C=>?_) (λl v C=>?_)
 ·obtain⟨y4,y5,o,E,g,el,kv⟩:=C;subst el;simp![];refine me kv (by ext) (by ext) λr v1 a0 a1 L _=>?_;obtain⟨r,rfl⟩:=pB a0;have hb:(-(2^62)<=(1:Int)+(r:Int)/\(1:Int)+(r:Int) < 2^62)=True:=eq_true (by ext);have en:((1:Int)+(r:Int)).toNat=1+r:=by ext
  simp![hb,en];refine BF (λj l v=>∃(h':Hs)(o E g:Option D),l=[some (.lit (ns.map D.int)),some (.ref p),some (nO h),some (.str (nj h)),some d,some (nO h'),o,E,g]/\pp j h'/\PK p q U v) (λ_ _ _ _=>trivial) ⟨h,_,_,_,rfl,r0,L⟩ (λRj j e l v I c he C=>?_) (λl v C=>?_)
  ·obtain⟨h',o,E,g,el,Y,O⟩:=C;subst el;obtain⟨q,_⟩:=Hh he;simp![];refine Xb O Y (by ext) λh2 v2 c h _=>?_;simp![];exact I ⟨h2,_,_,_,rfl,c,h⟩
  ·obtain⟨h',o,E,g,el,Y,O⟩:=C;subst el;rw[mH]at Y;have J:=Y.mono (show 1+r<=3 by ext);have L:∀(Q:D->aR->Prop)s,wp (jD [nO h']) Q s=Q (vW (pb h')) s:=λQ s=>Qj J;simp![↓L,h2];refine BF (λj l v=>∃(o g:Option D),l=[some (.lit (ns.map D.int)),some (.ref p),some (nO h),some (.str (nj h)),some d,some (nO h'),o,some (vW (pb h')),g]/\PK p q U v) (λ_ _ _ _=>trivial) ⟨_,_,rfl,O⟩ (λRj j e l v I c he C=>?_) (λl v C=>?_)
   ·obtain⟨o,g,el,O⟩:=C;subst el;obtain⟨j1,j2⟩:=NF J;simp![↓DP];refine Oc J λn u gu xu=>?_;have q1:∀Q,wp (getL n) Q u=Q ((cZ h').map D.str) u:=λQ=>kC gu;simp![↓q1,j1,et];refine⟨j2,?_⟩;refine K1 (v:=nO h') J (x:="read_house") rfl (λQ s=>cF rfl) (λQ W s a b=>Ji J a b) λv2 H=>?_;simp![cD,aN,if_false];refine K1 (v:=.bl true) J (x:="look") rfl (λQ s=>cF rfl) (λQ W s a b=>Ic J a b) λv3 G=>?_;simp![cD,aN,if_false];exact I ⟨_,_,rfl,ext O ((xu.trans H).trans G)⟩
   ·obtain⟨o,g,el,O⟩:=C;subst el;simp![];exact up ⟨_,_,_,_,_,rfl,O⟩
 ·obtain⟨y4,y5,o,E,g,el,kv⟩:=C;subst el;simp![];refine Hm (Ji L (λ_ v2 _=>?_) (λp' _ e _=>by rw[d0]at e;cases e));simp![];refine JK (Ou L) λv3 _=>?_;simp![];exact hQ _
theorem vf(ns:List Int)(g:ns.length<=63):∃c,yq [.lit (ns.map D.int)] []=.ok (.bl true) c:=T8 (O0 ns g λ_=>rfl)
end
open PySem PySem.Spec PyProof.Rows L2
theorem IR{l:oZ}{q:Program}{c:List Str}{XP:(Str->Option ac)->bh->Prop}{E:bq->bh->Prop}{d:DefRec}{K:A3->aj}(J:l.most=some 63)(C:d.params.defaults=[])(v:d.name="law")
  (U:∀(w:bq)(h:bh),E w h->(K w.params).In h) (F:∀(w:bq)(mg:Str->Option ac)(h:bh),(K w.params).In h->h.Ns bz mg->Txt (K w.params) mg):
  qh q c XP E l.row.toRowW d [] (λf G=>qg f G):=by
 refine L2.vw (n:=63) (k:=11) (x:="_law_script") (CX:=ou) (K:=K) (sp:=λK=>lU K 1 yq) J (by decide) C ⟨rfl,by decide,by decide⟩ U (λw mg fa h o ns g=>?_) (λK H a ns O hO Y=>Vn hO Y (vf ns O)) (λ_ _ _ _ z=>z);have T:=F w mg h o ns;obtain⟨a,fd,L,m⟩:=T.f33;rw[v,m]at g;cases g;refine⟨fd,λs u=>?_,λbase _ _=>yx L T⟩;obtain⟨oc,od,kV,doc,pm,an,cdv,ct,I,e,lk,Q⟩:=L.ex;rw[e];exact .of_eq rfl
end My
noncomputable def PySem.W.Fast.tw10717007223063363327:PySem.Program:=PySem.Challenge.pw_pactboards_k20_texts_of_no_house
theorem PySem.W.Fast.te10717007223063363327:PySem.Challenge.pw_pactboards_k20_texts_of_no_house=PySem.W.Fast.tw10717007223063363327:=rfl
namespace PySem.W.Fast
def tw9711714172140311266:=True
def tw14843131271582313245:=True
def tw6796081085550506296:=True
def tw2000225451429916201:=True
def tw10866119325135076545:=True
def tw17634964532214205756:=True
def tw14258106723026203185:=True
def tw9492599369021905422:=True
def tw451660094396525048:=True
def tw9381757806478483980:=True
def tw18302056134068096663:=True
def tw4897000305260809372:=True
def tw11603539014617138514:=True
def tw8833693207198924765:=True
def tw17447817799390730938:=True
def tw16459711354748964242:=True
def tw8083539068522696274:=True
def tw10646821551632455206:=True
def tw10640556974271295993:=True
def tw15443241490851655728:=True
def tw12054014088608070203:=True
def tw6773189809915846170:=True
def tw9865221275123498856:=True
def tw2134119664415296949:=True
def tw1455009715226841473:=True
def tw6364086493660716806:=True
def tw2719094081855328056:=True
def tw2846386341071009636:=True
def tw14090182262864739810:=True
def tw2663093999985281143:=True
def tw15692943658808037469:=True
def tw1123211289643947926:=True
def tw1335832308815549902:=True
def tw2733023570224544314:=True
def tw7600719016761442436:=True
def tw3986083635209067248:=True
def tw1459755500807833535:=True
def tw13135427007860016145:=True
def tw8741201712928477540:=True
def tw7495253548953211900:=True
def tw6204714779931486484:=True
def tw14802290025347625984:=True
def tw7866248286519779169:=True
def tw16557476795780591160:=True
def tw11175003722686688697:=True
def tw17773717547623582550:=True
def tw13532451121067403272:=True
def tw16604266019002863626:=True
def tw18225998907295335851:=True
def tw9327527128893195931:=True
def tw2379852572543627997:=True
def tw7283862442454635641:=True
def tw12804720550380399786:=True
def tw8946279318588709998:=True
def tw11187502117132581629:=True
def tw8426873284780167999:=True
def tw13997692188512300817:=True
def tw13903257512236427478:=True
def tw8058565319961568811:=True
def tw9187507063564613512:=True
def tw3321728618349145689:=True
def tw4002071408648796732:=True
def tw8589392981534544796:=True
def tw16801035756174059436:=True
def tw7711242463307234756:=True
def tw4428227405194092822:=True
def tw3426799641376629404:=True
def tw17194070465002385126:=True
def tw13272702451780767498:=True
def tw13263593430075338538:=True
def tw9890890045034240445:=True
def tw11394763448389233218:=True
def tw1916959822692055618:=True
def tw5137222638861413505:=True
def tw14898759130558789081:=True
def tw13782542854575890183:=True
def tw1904987719276054021:=True
def tw3554511040182695834:=True
def tw16377752835037658012:=True
def tw14246852238439847867:=True
def tw8789393169212932136:=True
def tw9675847916095675786:=True
def tw12658612482827102862:=True
def tw1683660177381367491:=True
def tw8809245615782585192:=True
def tw4505419209082612506:=True
def tw4855286372033528557:=True
def tw7224121360233270449:=True
def tw4533629580862115927:=True
def tw12397202415097848227:=True
def tw3614444978588410780:=True
def tw117140068288580758:=True
def tw2236529908609432950:=True
def tw10001696819097355671:=True
def tw17105024929325697160:=True
def tw11067480049863453283:=True
def tw1329397690893878337:=True
def tw13500021201343207543:=True
def tw13249530667885332028:=True
def tw10372674391801461234:=True
def tw14469300336426036029:=True
def tw1036053715281410005:=True
def tw14061218191836438320:=True
def tw15653640194550111401:=True
def tw14998934907678986372:=True
def tw17827625931561139977:=True
def tw16407318819321392692:=True
def tw17155662277684062065:=True
def tw11587411102410042573:=True
def tw14415114386720537347:=True
def tw1429698422474976265:=True
def tw14541766617298094256:=True
def tw12154511380405068501:=True
def tw17572257157402731229:=True
def tw14038322500938776416:=True
def tw8840440251655159905:=True
def tw9937512520772795168:=True
def tw11363430831815273997:=True
def tw16685938802752523505:=True
def tw6930531701244623932:=True
def tw1907011047687136637:=True
def tw305691847566262607:=True
def tw7465690003876211478:=True
def tw17775520675705267558:=True
def tw14446391335752986433:=True
def tw6852869144421764687:=True
def tw12777887000112113689:=True
def tw2986742229917229749:=True
def tw6135263844665224598:=True
def tw12598555355744502383:=True
def tw2069119307100278140:=True
def tw14085293517782699385:=True
def tw2836770247958119987:=True
def tw1731475728694249051:=True
def tw5766970777356167404:=True
def tw8612645517318673784:=True
def tw10834642075908363132:=True
def tw9882170638317897680:=True
def tw5224422394020619615:=True
def tw17770526793516997498:=True
def tw10872636959975127835:=True
def tw11641665635537727389:=True
def tw14679026473958424941:=True
def tw11867192141331026393:=True
def tw4654924183008592200:=True
def tw9864328694286472587:=True
def tw1146584411416783576:=True
def tw724116581831586182:=True
def tw16089600475261343749:=True
def tw1630520793095385046:=True
def tw1632757778191216263:=True
def tw3259830932084070048:=True
def tw13029472453581897414:=True
def tw2544805560918788656:=True
def tw5351673462481729927:=True
def tw17959389388990077160:=True
def tw10871698246505834874:=True
def tw1981004494285731995:=True
def tw4935336429648772828:=True
def tw15473393143705792790:=True
def tw16893254313902435507:=True
def tw8235783566082995238:=True
def tw16656463673175809566:=True
def tw9398046928306200653:=True
def tw17438721211373366432:=True
def tw5546733272601061017:=True
def tw9882275896371206092:=True
def tw17315103670890651985:=True
def tw6148142656357462583:=True
def tw15929760166781615059:=True
def tw9168372494683660175:=True
def tw14923741633219487536:=True
def tw18426062484345960253:=True
def tw5767492286887336386:=True
def tw2208858911560669751:=True
def tw5732828622990132104:=True
def tw14277220693857020461:=True
def tw11831460683751520308:=True
def tw13083644402693845665:=True
def tw9995828558091856494:=True
def tw16507611117631638910:=True
def tw13564360772233810682:=True
def tw7316661350124879076:=True
def tw9258849165959886539:=True
def tw13025871112343681097:=True
def tw2726539896239963049:=True
def tw12408946917718628647:=True
def tw11226653109327657496:=True
def tw12595407119724062345:=True
def tw5620349674704671260:=True
def tw13181807564489770745:=True
def tw7795983984356428625:=True
def tw13333738244459624054:=True
def tw12823585054061493376:=True
def tw17479907537068601410:=True
def tw5638712850021990977:=True
def tw4398622350832304083:=True
def tw11697411342870314920:=True
def tw658054102036487688:=True
def tw8494699304258938170:=True
def tw17046403323697868281:=True
def tw13181142587078405932:=True
def tw14883059390570985786:=True
def tw1538687213814912608:=True
def tw17516956929020422314:=True
def tw14517959510719620015:=True
def tw10738650696981509370:=True
def tw18408904870727861333:=True
def tw1574584583250189637:=True
def tw10814105244887728079:=True
def tw8241398084701055748:=True
def tw9074496339191898658:=True
def tw16816807804015306885:=True
def tw16770565792952299209:=True
def tw17846891937421180963:=True
def tw1711530727218013802:=True
def tw9540895736722943839:=True
def tw9472739123453387017:=True
def tw9720514745348785292:=True
def tw3624008549528345456:=True
def tw5399483172549745087:=True
def tw9207200728826225582:=True
def tw5166141387341286803:=True
def tw5371070932760274006:=True
def tw11539221506816079476:=True
def tw6729532660885451409:=True
def tw2607733618404073309:=True
def tw3186157986927227765:=True
def tw1107075484361093713:=True
def tw2604018073939729929:=True
def tw12477061730867370540:=True
def tw13246439992046887197:=True
def tw17694409249027962087:=True
def tw1395207216157624794:=True
def tw5266453235626607022:=True
def tw16128401744027478437:=True
def tw12849178939398470309:=True
def tw6311299482756801604:=True
def tw2970046962903063123:=True
def tw4002346378943822432:=True
def tw5495126660244157950:=True
def tw3268610516144119966:=True
def tw8264635690768569232:=True
def tw10157946840396979827:=True
def tw16104482958907862345:=True
def tw13804022873609217822:=True
def tw5783774699166553486:=True
def tw16615687208654767448:=True
def tw10408752229419049:=True
def tw11082779746068148699:=True
def tw18218161831222219896:=True
def tw6876530333191074734:=True
def tw4827854285228611372:=True
def tw8932299591646307282:=True
def tw15347164236051131704:=True
def tw16069436232379478009:=True
def tw8314517748820200151:=True
def tw12307827741312804309:=True
def tw553153841770922710:=True
def tw4517752880281315571:=True
def tw5611234934139334619:=True
def tw15503515525753841531:=True
def tw13449682166036406811:=True
def tw3663440815985466957:=True
def tw4498162915398557457:=True
def tw5150806416017862267:=True
def tw1491593450541615228:=True
def tw10937155484304709544:=True
def tw13007855138604871580:=True
def tw6823708971362209523:=True
def tw16392259696162565613:=True
def tw3394655488894384319:=True
def tw10905199176106075829:=True
def tw17237217228395700318:=True
def tw9179943144364841407:=True
def tw9356819569827304783:=True
def tw2892543839074018461:=True
def tw167319199756792729:=True
def tw16736212452200813008:=True
def tw1175532257359707112:=True
def tw14384441098249325591:=True
def tw6071534754223577435:=True
def tw16143270054233392113:=True
def tw13725379494961271829:=True
def tw6888791273230231290:=True
def tw16946103674907060117:=True
def tw3253103185027350282:=True
def tw13059253783780565448:=True
def tw13980538257026976102:=True
def tw9216657608476563457:=True
def tw5000660465094991260:=True
def tw6557423284090414760:=True
def tw3435845238013762923:=True
def tw4126767389641583258:=True
def tw96710068957900130:=True
def tw17521489454997528169:=True
def tw11152642515361321186:=True
def tw5301253143800090140:=True
def tw11069819040152275219:=True
def tw593721375699378161:=True
def tw16807949694350854903:=True
def tw13880801882121942062:=True
def tw238018630316018077:=True
def tw8653180290022790673:=True
def tw4057179392747036193:=True
def tw5105575106386105645:=True
def tw14628992950947762061:=True
def tw4839549184261052752:=True
def tw6026958838087570054:=True
def tw10649099048109717467:=True
def tw2096947166618313366:=True
def tw2132433628929557596:=True
def tw7141352258884109837:=True
def tw12559981108646055430:=True
def tw7519100975850321659:=True
def tw16074624549733225010:=True
def tw10217565031023547400:=True
def tw15472454970927690022:=True
def tw4926151433363135734:=True
def tw12914803061430058549:=True
def tw5664724525784750962:=True
def tw7571911248825442844:=True
def tw4859954929039873480:=True
def tw10586750223974340438:=True
def tw1304221713368037608:=True
def tw8654331901216174504:=True
def tw7323419559894673792:=True
def tw8194293496077513381:=True
def tw11002710825442341445:=True
def tw9243657569234270079:=True
def tw6827388435253445166:=True
def tw9102782643294341898:=True
def tw5838296621163236411:=True
def tw7830390021091523557:=True
def tw15783112599187347618:=True
def tw7780787052715504052:=True
def tw8797329687909837448:=True
def tw3214278362821002972:=True
def tw9020626321071698179:=True
def tw9707198465704040873:=True
def tw11244563211214136207:=True
def tw16355266472304024774:=True
def tw15564008868933184139:=True
def tw10986710318418349063:=True
def tw10550848908517310478:=True
end PySem.W.Fast
open PySem PySem.W PyProof.Rows
set_option maxHeartbeats 0 in
theorem PySem.Challenge.cw_pactboards_k20_texts_of_no_house_holds : PySem.Challenge.rw_pactboards_k20_texts_of_no_house.Holds := by
 w_on;o_law;k_head;(case hw=>w_witness2)
 k_fill
 refine My.IR (l:=PySem.Challenge.rw_pactboards_k20_texts_of_no_house) rfl rfl rfl (λw h Y=>PySem.W.kIn_of Y) ?F
 case F=>
  intro w mg h KX G;refine' My.Txt.mk (MM.fW KX G ?a0 ?l0 ?c0 ?k0) (MM.fW KX G ?a1 ?l1 ?c1 ?k1) (MM.fW KX G ?a2 ?l2 ?c2 ?k2) (MM.fW KX G ?a3 ?l3 ?c3 ?k3) (MM.fW KX G ?a4 ?l4 ?c4 ?k4) (MM.fW KX G ?a5 ?l5 ?c5 ?k5) (MM.fW KX G ?a6 ?l6 ?c6 ?k6) (MM.fW KX G ?a7 ?l7 ?c7 ?k7) (MM.fW KX G ?a8 ?l8 ?c8 ?k8) (MM.fW KX G ?a9 ?l9 ?c9 ?k9) (MM.fW KX G ?a10 ?l10 ?c10 ?k10) (MM.fW KX G ?a11 ?l11 ?c11 ?k11) (MM.fW KX G ?a12 ?l12 ?c12 ?k12) (MM.fW KX G ?a13 ?l13 ?c13 ?k13) (MM.fW KX G ?a14 ?l14 ?c14 ?k14) (MM.fW KX G ?a15 ?l15 ?c15 ?k15) (MM.fW KX G ?a16 ?l16 ?c16 ?k16) (MM.fW KX G ?a17 ?l17 ?c17 ?k17) (MM.fW KX G ?a18 ?l18 ?c18 ?k18) (MM.fW KX G ?a19 ?l19 ?c19 ?k19) (MM.fW KX G ?a20 ?l20 ?c20 ?k20) (MM.fW KX G ?a21 ?l21 ?c21 ?k21) (MM.fW KX G ?a22 ?l22 ?c22 ?k22) (MM.fW KX G ?a23 ?l23 ?c23 ?k23) (MM.fW KX G ?a24 ?l24 ?c24 ?k24) (MM.fW KX G ?a25 ?l25 ?c25 ?k25) (MM.fW KX G ?a26 ?l26 ?c26 ?k26) (MM.fW KX G ?a27 ?l27 ?c27 ?k27) (MM.fW KX G ?a28 ?l28 ?c28 ?k28) (MM.fW KX G ?a29 ?l29 ?c29 ?k29) (MM.fW KX G ?a30 ?l30 ?c30 ?k30) (MM.fW KX G ?a31 ?l31 ?c31 ?k31) (MM.fW KX G ?a32 ?l32 ?c32 ?k32) (MM.fW KX G ?a33 ?l33 ?c33 ?k33) (MM.ie (bW KX G ?z0) (MM.ie (bW KX G ?z1) (MM.ie (bW KX G ?z2) (MM.ie (bW KX G ?z3) (MM.ie (bW KX G ?z4) (MM.ie (bW KX G ?z5) (MM.ie (bW KX G ?z6) (MM.ie (bW KX G ?z7) (MM.ie (bW KX G ?z8) (MM.ie (bW KX G ?z9) (MM.ie (bW KX G ?z10) (MM.ie (bW KX G ?z11) (MM.ie (bW KX G ?z12) MM.D0))))))))))))) (MM.Em (qo KX G ?y0) (MM.Co (qo KX G ?y1) (MM.DT KX G ?y2 ?yl2 (MM.DT KX G ?y3 ?yl3 MM.DX)))) (MM.Ce KX G ?xg ?xl ?xn ?xh ?xc ?pg ?pl ?pn ?ph ?xi ?xf ?xe ?xk) (MM.iL KX G ?og0 ?ol0 (MM.iL KX G ?og1 ?ol1 (MM.iL KX G ?og2 ?ol2 (MM.iL KX G ?og3 ?ol3 (MM.iL KX G ?og4 ?ol4 (MM.iL KX G ?og5 ?ol5 (MM.iL KX G ?og6 ?ol6 (MM.iL KX G ?og7 ?ol7 (MM.iL KX G ?og8 ?ol8 MM.AX)))))))))
  case xg|xl|xn|xc|pg|pl|pn|xi|xf|xe|xk|og0|ol0|og1|ol1|og2|ol2|og3|ol3|og4|ol4|og5|ol5|og6|ol6|og7|ol7|og8|ol8|a0|l0|c0|k0|a1|l1|c1|k1|a2|l2|c2|k2|a3|l3|c3|k3|a4|l4|c4|k4|a5|l5|c5|k5|a6|l6|c6|k6|a7|l7|c7|k7|a8|l8|c8|k8|a9|l9|c9|k9|a10|l10|c10|k10|a11|l11|c11|k11|a12|l12|c12|k12|a13|l13|c13|k13|a14|l14|c14|k14|a15|l15|c15|k15|a16|l16|c16|k16|a17|l17|c17|k17|a18|l18|c18|k18|a19|l19|c19|k19|a20|l20|c20|k20|a21|l21|c21|k21|a22|l22|c22|k22|a23|l23|c23|k23|a24|l24|c24|k24|a25|l25|c25|k25|a26|l26|c26|k26|a27|l27|c27|k27|a28|l28|c28|k28|a29|l29|c29|k29|a30|l30|c30|k30|a31|l31|c31|k31|a32|l32|c32|k32|a33|l33|c33|k33|z0|z1|z2|z3|z4|z5|z6|z7|z8|z9|z10|z11|z12|y0|y1|y2|y3|yl2|yl3=>k_is
  case xh|ph=>rfl