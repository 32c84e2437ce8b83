import PyProof.Rows.All
import Wide.All
import OpenK.AllK
import Wide.FinOn
import Lean
import PyProof.EqAt
import PyProof.EqKinds
import PyProof.TupleCall
import PySem.Str
import PyProof.NeKinds
import PyProof.IsRules
import PyProof.Rows.StrRev
import KE.KSortTup
import PyProof.Rows.ZipGen
import KE.KRevIter
import KE.KDictList
import KE.KIntText
import PyProof.Rows.StrNews
import PyProof.Rows.StrJoin2
import PyProof.Rows.FStr
import PyProof.StrWalks
import PyProof.StrLawsTight
import KE.KSort
import PyProof.Rows.SetFrom
import KE.KDictSum
import PyProof.ExcInit
import PyProof.ExcClass3
import PyProof.ExcBaseAll.ValueError
import PyProof.ExcAttrAll.ValueError
import PyProof.ExcArgsOwn
import PySem.SetOps
import PyProof.TupleOfGen
import PyProof.MinMaxWalk
import PyProof.FactsAll.tuple_2
import KE.KMinBuiltin
import PyProof.Rows.CallKwBuiltin
import PyProof.DictUpdate
import KE.KDictOf
import PyProof.ListMulAny
import PyProof.RaisesMany
import PyProof.RulesDel
import PyProof.RulesAs
import PyProof.IsiTuple
import PySem.Challenge.RW_pactboards_k56_whole_pacts_of_marked_tab
local macro_rules | `(tactic| nofun)=>`(tactic| decide +kernel)
local macro_rules | `(tactic| ac_nf)=>`(tactic| first | lia | omega)
set_option compiler.extract_closed false
set_option genSizeOf false
set_option Elab.async false
set_option linter.all false
set_option maxRecDepth 100000
set_option maxHeartbeats 4000000
noncomputable section
namespace L2
open PySem PySem.Spec PyProof.Rows
noncomputable abbrev Key:=Sum Int Str
noncomputable def keyIs:Key->Value->Bool
 | .inl k,v=>Value.isInt k v
 | .inr x,v=>Value.isStrOf x v
noncomputable def keyH (w:World):Key->Int
 | .inl k=>hashInt k
 | .inr x=>hashStr w x
theorem keyIs_shape:∀ {k:Key}{v:Value},keyIs k v=true->(∃ i t,k=Sum.inl i/\v=Value.int i t)\/(∃ x t,k=Sum.inr x/\v=Value.str x t)
 | .inl i,v,h=>by
  obtain⟨t,e⟩:=Value.isInt_shape (k:=i) (v:=v) h
  exact .inl ⟨i,t,rfl,e⟩
 | .inr x,v,h=>by
  obtain⟨t,e⟩:=Value.isStrOf_shape (x:=x) (v:=v) h
  exact .inr ⟨x,t,rfl,e⟩
theorem Qaa (i:Int) (t:Tok):keyIs (.inl i) (.int i t)=true:=by simp[keyIs,Value.isInt]
theorem Qab (x:Str) (t:Tok):keyIs (.inr x) (.str x t)=true:=by simp[keyIs,Value.isStrOf]
theorem Qac (a b:Int):decide ((Sum.inl a:Key)=Sum.inl b)=(a == b):=by
 by_cases e:a=b
 ·subst e;simp
 ·have h:¬ (Sum.inl a:Key)=Sum.inl b:=fun q=>e (Sum.inl.inj q)
  rw[decide_eq_false h]
  exact (beq_eq_false_iff_ne.mpr e).symm
theorem Qad (a b:Str):decide ((Sum.inr a:Key)=Sum.inr b)=decide (a=b):=by
 by_cases e:a=b
 ·subst e;simp
 ·have h:¬ (Sum.inr a:Key)=Sum.inr b:=fun q=>e (Sum.inr.inj q)
  rw[decide_eq_false h,decide_eq_false e]
theorem Qae (a:Int) (b:Str):decide ((Sum.inl a:Key)=Sum.inr b)=false:=decide_eq_false (fun q=>nomatch q)
theorem Qaf (a:Str) (b:Int):decide ((Sum.inr a:Key)=Sum.inl b)=false:=decide_eq_false (fun q=>nomatch q)
noncomputable def mixKind (prog:Program) (w:World):PySem.KeyKind prog w Key where
 is:=keyIs
 hash:=keyH w
 inj:=fun v a b ha hb=>by
  rcases keyIs_shape ha with ⟨i,t,rfl,rfl⟩ | ⟨x,t,rfl,rfl⟩
  ·rcases keyIs_shape hb with ⟨j,u,rfl,e⟩ | ⟨y,u,rfl,e⟩
   ·injection e with e1 _;rw[e1]
   ·exact nomatch e
  ·rcases keyIs_shape hb with ⟨j,u,rfl,e⟩ | ⟨y,u,rfl,e⟩
   ·exact nomatch e
   ·injection e with e1 _;rw[e1]
 byValue:=fun k v h=>by
  rcases keyIs_shape h with ⟨i,t,rfl,rfl⟩ | ⟨x,t,rfl,rfl⟩<;>rfl
 pyHash:=fun hv h=>by
  rcases keyIs_shape hv with ⟨i,t,rfl,rfl⟩ | ⟨x,t,rfl,rfl⟩
  ·exact wpAny_pyHash_int h
  ·exact wpAny_pyHash_str h
 eqBool:=fun hu hv h=>by
  rcases keyIs_shape hu with ⟨i,t,rfl,rfl⟩ | ⟨x,t,rfl,rfl⟩
  ·rcases keyIs_shape hv with ⟨j,u,rfl,rfl⟩ | ⟨y,u,rfl,rfl⟩
   ·rw[Qac]at h;exact wpAny_eqBool_int h
   ·rw[Qae]at h;exact SeqAt.EqAt.int_str i t y u _ _ _ _ h
  ·rcases keyIs_shape hv with ⟨j,u,rfl,rfl⟩ | ⟨y,u,rfl,rfl⟩
   ·rw[Qaf]at h;exact SeqAt.EqAt.str_int x t j u _ _ _ _ h
   ·rw[Qad]at h;exact wpAny_eqBool_str h
 «strs»:=fun k x t v h=>by
  rcases keyIs_shape h with ⟨i,u,rfl,e⟩ | ⟨y,u,rfl,e⟩
  ·exact nomatch e
  ·injection e with e1 _
   subst e1
   cases v<;>rfl
theorem Qag (prog:Program) (w:World) (i:Int) (t:Tok):(mixKind prog w).is (.inl i) (.int i t)=true:=Qaa i t
theorem Qah (prog:Program) (w:World) (x:Str) (t:Tok):(mixKind prog w).is (.inr x) (.str x t)=true:=Qab x t
inductive V where
 | non | bl (b:Bool) | int (i:Int) | str (x:Str) | byt (b:Array UInt8) | flt (b:UInt64) | ref (a:Addr) | ty (n:String)
 deriving DecidableEq
noncomputable def RelV:V->Value->Prop
 | .non,u=>u=Value.none
 | .bl b,u=>u=Value.bool b
 | .int i,u=>∃ t,u=Value.int i t
 | .str x,u=>∃ t,u=Value.str x t
 | .byt b,u=>∃ t,u=Value.bytes b t
 | .flt b,u=>∃ t,u=Value.float b t
 | .ref a,u=>u=Value.ref a
 | .ty n,u=>u=Value.type n
noncomputable abbrev Vals:List V->List Value->Prop:=Paired RelV
theorem Vals.length {xs:List V}{us:List Value} (r:Vals xs us):xs.length=us.length:=Paired.length r
theorem Vals.get:∀ {xs:List V}{us:List Value}{i:Nat}{x:V},Vals xs us->xs[i]?=some x->∃ u,us[i]?=some u/\RelV x u
 | _,_,_,_,.nil,e=>by simp at e
 | _,_,0,_,.cons r _,e=>by simp at e;subst e;exact⟨_,rfl,r⟩
 | _,_,i + 1,x,.cons _ t,e=>by
  obtain⟨u,h1,h2⟩:=Vals.get (i:=i) (x:=x) t (by simpa using e)
  exact⟨u,by simpa using h1,h2⟩
theorem Vals.set {x:V}{u:Value} (r:RelV x u):∀ {xs:List V}{us:List Value} (i:Nat),Vals xs us->Vals (xs.set i x) (us.set i u)
 | _,_,_,.nil=>.nil
 | _,_,0,.cons _ t=>.cons r t
 | _,_,i + 1,.cons q t=>.cons q (Vals.set r i t)
theorem Vals.append:∀ {xs ys:List V}{us ws:List Value},Vals xs us->Vals ys ws->Vals (xs++ys) (us++ws)
 | _,_,_,_,.nil,s=>s
 | _,_,_,_,.cons r t,s=>.cons r (Vals.append t s)
theorem Vals.take:∀ {xs:List V}{us:List Value} (n:Nat),Vals xs us->Vals (xs.take n) (us.take n)
 | _,_,0,_=>.nil
 | _,_,_ + 1,.nil=>.nil
 | _,_,n + 1,.cons r t=>.cons r (Vals.take n t)
theorem Vals.drop:∀ {xs:List V}{us:List Value} (n:Nat),Vals xs us->Vals (xs.drop n) (us.drop n)
 | _,_,0,r=>r
 | _,_,_ + 1,.nil=>.nil
 | _,_,n + 1,.cons _ t=>Vals.drop n t
noncomputable def RelO:Option V->Option Value->Prop
 | some v,some u=>RelV v u
 | none,none=>True
 | _,_=>False
noncomputable def KV {κ:Type}:List (κ × V)->List (κ × Value)->Prop:=Paired fun (p:κ × V) (q:κ × Value)=>p.1=q.1/\RelV p.2 q.2
noncomputable def kV:Key->V
 | .inl i=>.int i
 | .inr x=>.str x
inductive HO where
 | lst (xs:List V)
 | tup (xs:List V)
 | dK (kvs:List (Key × V)) | dT (kvs:List (List Key × V))
 | set (S:Int->Bool) (n:Nat)
 | ins (C dx:Addr) (fs:List (Str × V))
 | own (x:Addr)
 | xd (fs:List (Str × V))
 | met (f x:Addr)
 | rng (lo hi:Int)
 | frz (o:Obj) (u:HO)
 | tbl (ps:Array Value)
 | ext (φ:Heap->Prop)
noncomputable abbrev Hp:=Addr->Option HO
noncomputable def upd (H:Hp) (a:Addr) (o:HO):Hp:=fun b=>if b=a then some o else H b
theorem Qai {H:Hp}{a:Addr}{o:HO}:upd H a o a=some o:=by unfold upd;rw[if_pos rfl]
theorem Qaj {H:Hp}{a b:Addr}{o:HO} (h:b≠a):upd H a o b=H b:=by unfold upd;rw[if_neg h]
theorem Qak {H:Hp}{a b:Addr}{o u:HO} (h:H a=some o) (h':H b=some u) (d:o≠u):a≠b:=by
 intro e;subst e;rw[h]at h';exact d (Option.some.inj h')
theorem Qal {H:Hp}{a b:Addr}{o:HO} (h:H a=some o) (h':H b=none):a≠b:=by
 intro e;subst e;rw[h]at h';cases h'
noncomputable def IsTupD (h:Heap) (a:Addr) (its:Array Value):Prop:=∃ o,h.get? a=some o/\o.cls=.type "tuple"/\(∃ n,o.data=.seq its n)/\o.dict=none
theorem IsTupD.is {h:Heap}{a:Addr}{its:Array Value} (p:IsTupD h a its):IsTup h a its:=let ⟨o,e,c,d,_⟩:=p;⟨o,e,c,d⟩
theorem IsTupD.lt {h:Heap}{a:Addr}{its:Array Value} (p:IsTupD h a its):a < h.objs.size:=p.is.lt
theorem IsTupD.new (h:Heap) (its:Array Value):IsTupD (h.push { cls:=.type "tuple",data:=.seq its }) h.objs.size its:=⟨_,Heap.get?_push_size _ rfl,rfl,⟨_,rfl⟩,rfl⟩
section
variable (P:Program) (w:World)
noncomputable def ObjOk (H:Hp) (h:Heap) (a:Addr):HO->Prop
 | .lst xs=>xs.length<=sizeLine/\∃ (its:List Value) (n:Nat),Vals xs its/\h.get? a=some { cls:=.type "list",data:=.seq its.toArray n }
 | .tup xs=>xs.length<=sizeLine/\∃ its:List Value,Vals xs its/\IsTupD h a its.toArray
 | .dK kvs=>kvs.length<=sizeLine/\(a == sysModules)=false/\∃ vs,KV kvs vs/\h.DictOf (mixKind P w) a vs
 | .dT kvs => kvs.length <= sizeLine /\ (a == sysModules) = false /\ ∃ xs : List (List Key × Addr × Value),
   Paired (fun (p:List Key × V) (q:List Key × Addr × Value)=>p.1=q.1/\H q.2.1=some (.tup (p.1.map kV))/\RelV p.2 q.2.2) kvs xs /\
   ∃ o es ep,h.get? a=some o/\o.ExactDict/\o.data=.dict es ep/\es.toList=xs.map (entryOfKey (tupleKind (mixKind P w)))/\(xs.map (·.1)).Nodup
 | .set S n=>h.SetOf (intKind P w) a S n
 | .ins C dx fs => H dx = some (.own a) /\ fs.length <= 1000 /\ dx ≠ a /\ h.get? a = some (PySem.W.instObj C dx) /\
   ∃ mA,h.Ns1 dx mA/\(∀ f,RelO (fs.lookup f) (mA f))/\PySem.Within mA (fs.map (·.1))
 | .own _=>∃ o,h.get? a=some o
 | .xd fs=>∃ mA,h.Ns1 a mA/\∀ f,RelO (fs.lookup f) (mA f)
 | .rng lo hi=>∃ t u v,h.get? a=some { cls:=.type "range",data:=.fields #[.int lo t,.int hi u,.int 1 v] }
 | .frz o u=>h.get? a=some o/\ObjOk H h a u
 | .tbl ps=>h.get? a=some { cls:=.none,data:=.fields ps }
 | .met f x=>h.get? a=some (PySem.W.methodObj (.ref f) (.ref x))
 | .ext φ=>φ h/\(∃ o,h.get? a=some o)/\∀ h1 h2:Heap,φ h1->(∀ o,h1.get? a=some o->h2.get? a=some o)->φ h2
noncomputable def HOk (H:Hp) (h:Heap):Prop:=∀ a o,H a=some o->ObjOk P w H h a o
end
section
variable {P:Program}{w:World}{H H':Hp}{h h':Heap}{a:Addr}{o:HO}
theorem ObjOk.lt (x:ObjOk P w H h a o):a < h.objs.size:=by
 cases o with
 | lst xs=>obtain⟨_,_,_,_,e⟩:=x;exact Heap.lt_size e
 | tup xs=>obtain⟨_,_,_,p⟩:=x;exact p.lt
 | dK kvs=>obtain⟨_,_,_,_,o,_,_,e,_⟩:=x;exact Heap.lt_size e
 | dT kvs=>obtain⟨_,_,_,_,o,_,_,e,_⟩:=x;exact Heap.lt_size e
 | set S n=>obtain⟨o,_,_,_,e,_⟩:=x;exact Heap.lt_size e
 | ins C dx fs=>obtain⟨_,_,_,e,_⟩:=x;exact Heap.lt_size e
 | own y=>obtain⟨_,e⟩:=x;exact Heap.lt_size e
 | xd fs=>obtain⟨_,⟨_,_,_,e,_⟩,_⟩:=x;exact Heap.lt_size e
 | rng lo hi=>obtain⟨_,_,_,e⟩:=x;exact Heap.lt_size e
 | frz ob u=>obtain⟨e,_⟩:=x;exact Heap.lt_size e
 | tbl ps=>exact Heap.lt_size (show h.get? a=some _ from x)
 | met f y=>exact Heap.lt_size (show h.get? a=some _ from x)
 | ext φ=>obtain⟨_,⟨_,e⟩,_⟩:=x;exact Heap.lt_size e
theorem Paired.mapP {α β:Type}{F G:α->β->Prop}:∀ {l₁:List α}{l₂:List β},Paired F l₁ l₂->(∀ a b,F a b->G a b)->Paired G l₁ l₂
 | _,_,.nil,_=>.nil
 | _,_,.cons r t,f=>.cons (f _ _ r) (Paired.mapP t f)
theorem ObjOk.stay (x : ObjOk P w H h a o) (k : ∀ b u, (b = a \/ H b = some (.own a)) -> h.get? b = some u -> h'.get? b = some u)
  (ho:∀ b,H b=some (.own a)->H' b=some (.own a)) (ht:∀ b xs,H b=some (.tup xs)->H' b=some (.tup xs)):ObjOk P w H' h' a o:=by
 induction o with
 | lst xs=>obtain⟨z,its,n,r,e⟩:=x;exact⟨z,its,n,r,k _ _ (.inl rfl) e⟩
 | tup xs=>obtain⟨z,its,r,ob,e,c⟩:=x;exact⟨z,its,r,ob,k _ _ (.inl rfl) e,c⟩
 | dK kvs=>obtain⟨z,y,vs,r,ob,es,ep,e,c⟩:=x;exact⟨z,y,vs,r,ob,es,ep,k _ _ (.inl rfl) e,c⟩
 | dT kvs=>
  obtain⟨z,y,xs,r,ob,es,ep,e,c⟩:=x
  exact⟨z,y,xs,Paired.mapP r fun p q z=>⟨z.1,ht _ _ z.2.1,z.2.2⟩,ob,es,ep,k _ _ (.inl rfl) e,c⟩
 | set S n=>obtain⟨ob,es,ep,t,e,c⟩:=x;exact⟨ob,es,ep,t,k _ _ (.inl rfl) e,c⟩
 | ins C dx fs=>
  obtain⟨d,z,ne,e,mA,⟨od,es,ep,e2,c⟩,r⟩:=x
  exact⟨ho _ d,z,ne,k _ _ (.inl rfl) e,mA,⟨od,es,ep,k _ _ (.inr d) e2,c⟩,r⟩
 | own y=>obtain⟨ob,e⟩:=x;exact⟨ob,k _ _ (.inl rfl) e⟩
 | xd fs=>obtain⟨mA,⟨od,es,ep,e,c⟩,r⟩:=x;exact⟨mA,⟨od,es,ep,k _ _ (.inl rfl) e,c⟩,r⟩
 | rng lo hi=>obtain⟨t,u,v,e⟩:=x;exact⟨t,u,v,k _ _ (.inl rfl) e⟩
 | frz ob u ih=>obtain⟨e,q⟩:=x;exact⟨k _ _ (.inl rfl) e,ih q⟩
 | tbl ps=>
  have e:h.get? a=some { cls:=.none,data:=.fields ps }:=x
  show h'.get? a=some { cls:=.none,data:=.fields ps }
  exact k a _ (.inl rfl) e
 | met f y=>
  have e:h.get? a=some (PySem.W.methodObj (.ref f) (.ref y)):=x
  show h'.get? a=some (PySem.W.methodObj (.ref f) (.ref y))
  exact k a _ (.inl rfl) e
 | ext φ=>obtain⟨p,⟨o,e⟩,st⟩:=x;exact⟨st _ _ p fun o q=>k _ _ (.inl rfl) q,⟨o,k _ _ (.inl rfl) e⟩,st⟩
theorem HOk.lt (x:HOk P w H h) (e:H a=some o):a < h.objs.size:=(x a o e).lt
theorem HOk.fresh (x:HOk P w H h) (e:h.objs.size<=a):H a=none:=by
 cases q:H a with
 | none=>rfl
 | some u=>exact absurd (Nat.lt_of_lt_of_le (x.lt q) e) (Nat.lt_irrefl _)
theorem HOk.kept (x:HOk P w H h) (k:∀ b u,h.get? b=some u->h'.get? b=some u):HOk P w H h':=fun a o e=>
 (x a o e).stay (fun b u _ q=>k b u q) (fun _ q=>q) fun _ _ q=>q
theorem HOk.laid (x:HOk P w H h) (k:∀ b u,h.get? b=some u->h'.get? b=some u) (hp:h.objs.size<=a) (new:ObjOk P w (upd H a o) h' a o):HOk P w (upd H a o) h':=fun b u e=>by
 have hn:=x.fresh hp
 by_cases hb:b=a
 ·subst hb;rw[Qai]at e;cases e;exact new
 ·rw[Qaj hb]at e
  exact (x b u e).stay (fun c v _ q=>k c v q) (fun c q=>by rw[Qaj (Qal q hn)];exact q) fun c xs q=>by rw[Qaj (Qal q hn)];exact q
end
noncomputable def Rd (H:Hp) (a:Addr) (u:HO):Prop:=H a=some u\/∃ o,H a=some (.frz o u)
theorem Rd.ok {P:Program}{w:World}{H:Hp}{h:Heap}{a:Addr}{u:HO} (r:Rd H a u) (x:HOk P w H h):ObjOk P w H h a u:=by
 rcases r with r | ⟨o,r⟩
 ·exact x a u r
 ·obtain⟨_,q⟩:=x a _ r
  exact q
noncomputable def Mut:Option HO->Prop
 | some (.lst _)=>True
 | some (.dK _)=>True
 | some (.dT _)=>True
 | some (.set _ _)=>True
 | some (.ins _ _ _)=>True
 | some (.ext _)=>True
 | _=>False
section
variable {P:Program}{w:World}{H:Hp}{h h':Heap}{x e:Addr}{o':HO}
theorem HOk.write (ok : HOk P w H h) (mu : Mut (H x)) (he : e = x \/ H e = some (.own x)) (k : ∀ b u, b ≠ e -> h.get? b = some u -> h'.get? b = some u) (heo : ∃ u, h'.get? e = some u)
  (new:ObjOk P w (upd H x o') h' x o'):HOk P w (upd H x o') h':=fun b u q=>by
 have nown:∀ c y,H c=some (.own y)->c≠x:=fun c y r z=>by subst z;rw[r]at mu;exact mu
 have ntup:∀ c xs,H c=some (.tup xs)->c≠x:=fun c xs r z=>by subst z;rw[r]at mu;exact mu
 by_cases hb:b=x
 ·subst hb;rw[Qai]at q;cases q;exact new
 ·rw[Qaj hb]at q
  by_cases hbe:b=e
  ·have q' : H b = some (.own x) := by
     rcases he with z | z
     ·exact absurd (hbe.trans z) hb
     ·rw[hbe];exact z
   rw[q]at q';cases q'
   obtain⟨v,hv⟩:=heo
   exact⟨v,by rw[hbe];exact hv⟩
  ·refine (ok b u q).stay (fun c v hc r=>k c v ?_ r) (fun c r=>by rw[Qaj (nown c b r)];exact r) fun c xs r=>by rw[Qaj (ntup c xs r)];exact r
   rcases hc with rfl | hc
   ·exact hbe
   ·rintro rfl
    rcases he with z | z
    ·exact nown c b hc z
    ·rw[hc]at z;cases z;exact hb rfl
end
structure Un (fs ex:List Addr) (H H':Hp) (h h':Heap):Prop where
 keep:∀ b o,h.get? b=some o->H b=none->b∉fs->b∉ex->h'.get? b=some o
 slot:∀ b o,h.get? b=some o->H b=none->b∈fs->b∉ex->∃ sl,h'.get? b=some { o with slots:=sl }
 free:∀ b o,h.get? b=some o->H b=none->b∉ex->H' b=none
 there:∀ b o,h.get? b=some o->b∉ex->∃ o',h'.get? b=some o'
 tups:∀ b xs,H b=some (.tup xs)->H' b=some (.tup xs)
 frzs:∀ b o u,H b=some (.frz o u)->H' b=some (.frz o u)
 tbls:∀ b ps,H b=some (.tbl ps)->∃ more,H' b=some (.tbl (ps++more))
section
variable {fs fs' ex ex':List Addr}{H H1 H2:Hp}{h h1 h2 h':Heap}{a x e:Addr}{o:HO}
theorem Un.any (u:Un fs ex H H1 h h1) {b:Addr}{ob:Obj} (q:h.get? b=some ob) (n:H b=none) (hx:b∉ex):∃ sl,h1.get? b=some { ob with slots:=sl }:=by
 by_cases hb:b∈fs
 ·exact u.slot b ob q n hb hx
 ·exact⟨ob.slots,u.keep b ob q n hb hx⟩
theorem Un.kept (k:∀ b u,h.get? b=some u->h'.get? b=some u):Un fs ex H H h h':=
 ⟨fun b ob q _ _ _=>k b ob q,fun b ob q _ _ _=>⟨ob.slots,k b ob q⟩,fun _ _ _ n _=>n,fun b ob q _=>⟨ob,k b ob q⟩,fun _ _ q=>q,fun _ _ _ q=>q,fun _ ps q=>⟨#[],by rw[q];simp⟩⟩
theorem Un.refl:Un fs ex H H h h:=Un.kept fun _ _ q=>q
theorem Un.laid (k:∀ b u,h.get? b=some u->h'.get? b=some u) (hp:h.objs.size<=a) (hn:H a=none):Un fs ex H (upd H a o) h h' where
 keep:=fun b u q _ _ _=>k b u q
 slot:=fun b u q _ _ _=>⟨u.slots,k b u q⟩
 free:=fun b u q n _=>by rw[Qaj (Nat.ne_of_lt (Nat.lt_of_lt_of_le (Heap.lt_size q) hp))];exact n
 there:=fun b u q _=>⟨u,k b u q⟩
 tups:=fun b xs q=>by rw[Qaj (Qal q hn)];exact q
 frzs:=fun b u xs q=>by rw[Qaj (Qal q hn)];exact q
 tbls:=fun b ps q=>⟨#[],by rw[Qaj (Qal q hn),q];simp⟩
theorem Un.write (mu:Mut (H x)) (he:e=x\/H e=some (.own x)) (k:∀ b u,b≠e->h.get? b=some u->h'.get? b=some u) (heo:∃ u,h'.get? e=some u):Un fs ex H (upd H x o) h h':=by
 have hx:∀ b,H b=none->b≠x:=fun b n z=>by subst z;rw[n]at mu;exact mu
 have hb:∀ b,H b=none->b≠e:=fun b n z=>by
  subst z
  rcases he with r | r
  ·exact hx b n r
  ·rw[n]at r;cases r
 have hm:∀ b u,H b=some u->¬ Mut (some u)->b≠x:=fun b u q nm z=>by subst z;rw[q]at mu;exact nm mu
 refine⟨fun b u q n _ _=>k b u (hb b n) q,fun b u q n _ _=>⟨u.slots,k b u (hb b n) q⟩,fun b u q n _=>by rw[Qaj (hx b n)];exact n,fun b u q _=>?_,
  fun b xs q=>by rw[Qaj (hm b _ q fun z=>z)];exact q,fun b u xs q=>by rw[Qaj (hm b _ q fun z=>z)];exact q,fun b ps q=>⟨#[],by rw[Qaj (hm b _ q fun z=>z),q];simp⟩⟩
 by_cases hbe:b=e
 ·subst hbe;exact heo
 ·exact⟨u,k b u hbe q⟩
end
noncomputable def trk (h:Heap) (H:Hp):List Addr:=(List.range h.objs.size).filter fun a=>(H a).isSome
noncomputable def hidT (h:Heap) (H:Hp):Heap:=PySem.W.hideAll h (trk h H)
theorem Qam (h:Heap) (H:Hp):(hidT h H).objs.size=h.objs.size:=PySem.W.hideAll_size _ _
theorem Qan {h:Heap}{H:Hp}{b:Addr}{o:Obj} (e:h.get? b=some o) (n:H b=none):(hidT h H).get? b=some o:=
 PySem.W.hideAll_get _ e fun hm=>by
  have q:(H b).isSome=true:=(List.mem_filter.mp hm).2
  rw[n]at q;simp at q
theorem Qao {h:Heap}{H:Hp}{b:Addr}{o:Obj} (e:(hidT h H).get? b=some o):h.get? b=some o/\H b=none:=by
 have e':h.get? b=some o:=PySem.W.of_hideAll (trk h H) e
 refine⟨e',?_⟩
 cases q:H b with
 | none=>rfl
 | some x=>
  have hm:b∈trk h H:=List.mem_filter.mpr ⟨List.mem_range.mpr (Heap.lt_size e'),by simp[q]⟩
  have z:(hidT h H).get? b=none:=PySem.W.hideAll_none (trk h H) hm
  rw[z]at e;cases e
noncomputable def allNews (g h:Heap) (L:Addr):List (Addr × Obj):=(List.range h.objs.size).filterMap fun a=>if a=L\/(g.get? a).isSome=true then none else (h.get? a).map fun o=>(a,o)
noncomputable def rest (g h:Heap) (L d:Addr):List (Addr × Obj):=(allNews g h L).filter fun p=>decide (p.1≠d)
structure Mod (K:PySem.W.Frag) (mg:Str->Option Value) (base:Heap):Prop where
 kin:K.In base
 glob:base.Ns mainGlobals mg
 blt:∃ mb,base.Ns builtinsNs mb/\∀ x:Str,x≠"__name__"->mb x=bootBuiltins x
 nolimit:base.NoLimit
structure Cx where
 prog:Program
 w:World
 K:PySem.W.Frag
 mg:Str->Option Value
 base:Heap
 A:Around
 N:List Str
 s₀:Shared
 H₀:Hp
 env:Env
 outer:List Env
 stack:List Env
 ex:List Addr
 fn:Str->Bool
 calm:Bool
 pn:List (Addr × Obj)
 xe:Value->Shared->Prop
noncomputable def frs (l:List Env):List Addr:=l.filterMap (·.frame)
noncomputable abbrev Cx.fs (X:Cx):List Addr:=frs X.outer
noncomputable def Vis (sc:Scope) (x:Str):Prop:=sc.names.lookup x=some .local\/sc.names.lookup x=some .cell\/sc.names.lookup x=some .free
noncomputable def Loc (sc:Scope) (x:Str):Prop:=sc.names.lookup x=some .local\/sc.names.lookup x=some .cell
noncomputable def Look (env:Env) (h:Heap) (m:Str->Option Value) (x:Str) (u:Value):Prop:=
 (env.kindOf x=some .local/\m x=some u)\/((env.kindOf x=some .cell\/env.kindOf x=some .free)/\∃ c,env.cells.lookup x=some c/\h.IsCell c (some u))
structure Cx.Ok (X:Cx):Prop where
 mod:Mod X.K X.mg X.base
 kind:X.env.scope.kind=.function
 glob:X.env.globals=mainGlobals
 blt:X.env.builtins=builtinsNs
 above:X.s₀.heap.objs.size<=X.env.locals
 inj:∀ x y c,X.env.cells.lookup x=some c->X.env.cells.lookup y=some c->x=y
 has:∀ x,(X.env.kindOf x=some .cell\/X.env.kindOf x=some .free)->∃ c,X.env.cells.lookup x=some c
 cab:∀ x c,X.fn x=true->X.env.cells.lookup x=some c->X.s₀.heap.objs.size<=c
 hd:X.calm=true->X.A.handled=none
 frames:X.A.frames=some X.stack
 stk:X.stack=X.outer\/(X.stack=X.env::X.outer/\X.env.frame=some X.env.locals)
 exf:∀ b∈X.ex,b≠X.env.locals/\∀ x c,X.env.cells.lookup x=some c->c≠b
 bs:∀ b o,X.base.get? b=some o->X.s₀.heap.get? b=some o/\X.H₀ b=none
 bsz:X.base.objs.size<=X.s₀.heap.objs.size
 noex:∀ b o,X.base.get? b=some o->b∉X.ex
 exfs:∀ b∈X.ex,b∉X.fs
 funs:X.s₀.heap.FunFrames X.base X.outer
 frf:∀ b∈X.fs,X.H₀ b=none
structure Inv (X:Cx) (pins:List (Addr × Obj)) (σ:List (Option V)) (H:Hp) (s:Shared):Prop where
 ok:X.Ok
 os:s.os=X.s₀.os
 bare:AllBare s.gens
 base:Un X.fs X.ex X.H₀ H X.s₀.heap s.heap
 loc:∃ m,s.heap.Ns X.env.locals m/\∀ (i:Nat) (x:Str) (v:V),X.N[i]?=some x->σ[i]?=some (some v)->Vis X.env.scope x->∃ u,RelV v u/\Look X.env s.heap m x u
 cell:∀ x c,X.env.cells.lookup x=some c->∃ v,s.heap.IsCell c v
 free:H X.env.locals=none
 freeC:∀ x c,X.env.cells.lookup x=some c->H c=none
 pin:∀ p∈X.pn++pins,s.heap.get? p.1=some p.2/\H p.1=none/\p.1≠X.env.locals/\p.1∉X.fs/\∀ v,p.2.data≠.cell v
 hok:HOk X.prog X.w H s.heap
 len:σ.length=X.N.length
section
variable {X:Cx}{pins:List (Addr × Obj)}{σ:List (Option V)}{H H':Hp}{s:Shared}{h':Heap}
theorem Cx.Ok.nofr (ok:X.Ok) {b:Addr}{o:Obj} (e:X.base.get? b=some o):b∉X.fs:=fun hb=>by
 have:=(ok.funs.mem hb).1
 rw[e]at this;cases this
theorem Inv.bs (I:Inv X pins σ H s):∀ b o,X.base.get? b=some o->s.heap.get? b=some o/\H b=none:=fun b o e=>
 ⟨I.base.keep b o (I.ok.bs b o e).1 (I.ok.bs b o e).2 (I.ok.nofr e) (I.ok.noex b o e),I.base.free b o (I.ok.bs b o e).1 (I.ok.bs b o e).2 (I.ok.noex b o e)⟩
theorem Inv.bk (I:Inv X pins σ H s):∀ b o,X.base.get? b=some o->s.heap.get? b=some o:=fun b o e=>(I.bs b o e).1
theorem Inv.mod (I:Inv X pins σ H s):Mod X.K X.mg X.base:=I.ok.mod
theorem Inv.kIn (I:Inv X pins σ H s):X.K.In s.heap:=I.ok.mod.kin.keeps I.bk
theorem Inv.lt (I:Inv X pins σ H s):X.env.locals < s.heap.objs.size:=let ⟨_,hn,_⟩:=I.loc;hn.lt
theorem Inv.sz (I:Inv X pins σ H s):X.s₀.heap.objs.size<=s.heap.objs.size:=Nat.le_trans I.ok.above (Nat.le_of_lt I.lt)
theorem Inv.nofs (I:Inv X pins σ H s) {a:Addr} (h:s.heap.objs.size<=a):a∉X.fs:=fun hb=>by
 obtain⟨_,o,ho,_⟩:=I.ok.funs.mem hb
 exact absurd (Nat.lt_of_lt_of_le (Heap.lt_size ho) (Nat.le_trans I.sz h)) (Nat.lt_irrefl _)
theorem Inv.cne (I:Inv X pins σ H s):∀ x c,X.env.cells.lookup x=some c->c≠X.env.locals:=fun x c e z=>by
 obtain⟨v,o,ho,hd⟩:=I.cell x c e
 obtain⟨m,⟨o',es,ep,ho',hd',_⟩,_⟩:=I.loc
 rw[z,ho']at ho;cases ho;rw[hd']at hd;cases hd
theorem Inv.funs (I:Inv X pins σ H s):s.heap.FunFrames X.base X.outer:=by
 have all:∀ (l:List Env),(∀ b∈frs l,b∈X.fs)->X.s₀.heap.FunFrames X.base l->s.heap.FunFrames X.base l:=by
  intro l
  induction l with
  | nil=>intro _ _;trivial
  | cons env r ih=>
   intro hs hl
   obtain⟨hk,⟨L,o,hf,hn,ho,hd⟩,hr⟩:=hl
   have hL:L∈X.fs:=hs L (by unfold frs;rw[List.filterMap_cons,hf];exact List.mem_cons_self)
   obtain⟨sl,e⟩:=I.base.slot L o ho (I.ok.frf L hL) hL fun z=>I.ok.exfs L z hL
   exact⟨hk,⟨L,_,hf,hn,e,hd⟩,ih (fun b hb=>hs b (by unfold frs;rw[List.filterMap_cons,hf];exact List.mem_cons_of_mem _ hb)) hr⟩
 exact all X.outer (fun _ hb=>hb) I.ok.funs
theorem Inv.stack (I:Inv X pins σ H s):s.heap.FunFrames X.base X.stack:=by
 rcases I.ok.stk with e | ⟨e,hf⟩
 ·rw[e];exact I.funs
 ·rw[e]
  obtain⟨m,hn,_⟩:=I.loc
  refine .cons (by rw[I.ok.kind];decide) hf hn ?_ I.funs
  exact Heap.get?_none_of_le (Nat.le_trans I.ok.bsz I.ok.above)
theorem Inv.stkSub (I:Inv X pins σ H s):∀ b∈frs X.stack,b∈X.env.locals::X.fs:=fun b hb=>by
 rcases I.ok.stk with e | ⟨e,hf⟩
 ·rw[e]at hb;exact List.mem_cons_of_mem _ hb
 ·rw[e]at hb
  unfold frs at hb
  rw[List.filterMap_cons,hf]at hb
  exact hb
theorem Inv.stkFree (I:Inv X pins σ H s):∀ b∈frs X.stack,H b=none:=fun b hb=>by
 rcases List.mem_cons.mp (I.stkSub b hb) with e | hb
 ·rw[e];exact I.free
 ·obtain⟨_,o,ho,_⟩:=I.ok.funs.mem hb
  exact I.base.free b o ho (I.ok.frf b hb) fun z=>I.ok.exfs b z hb
theorem Inv.step {g' : Array GenState} {t' : Nat} {d' : Drawn} {ch : List Addr} (I : Inv X pins σ H s)
  (hch:∀ b∈ch,(b∈X.ex\/X.s₀.heap.objs.size<=b)/\b≠X.env.locals/\(∀ x c,X.env.cells.lookup x=some c->c≠b)/\∀ p∈X.pn++pins,p.1≠b)
  (keep:∀ b o,b≠X.env.locals->b∉X.fs->b∉ch->s.heap.get? b=some o->H b=none->h'.get? b=some o)
  (slot:∀ b o,b≠X.env.locals->b∈X.fs->b∉ch->s.heap.get? b=some o->H b=none->∃ sl,h'.get? b=some { o with slots:=sl }) (free:∀ b o,b∉ch->s.heap.get? b=some o->H b=none->H' b=none)
  (there:∀ b o,b∉ch->s.heap.get? b=some o->∃ o',h'.get? b=some o')
  (tups:∀ b xs,H b=some (.tup xs)->H' b=some (.tup xs)) (frzs:∀ b o u,H b=some (.frz o u)->H' b=some (.frz o u)) (tbls:∀ b ps,H b=some (.tbl ps)->∃ more,H' b=some (.tbl (ps++more)))
  (ns:∀ m,s.heap.Ns X.env.locals m->h'.Ns X.env.locals m) (hok:HOk X.prog X.w H' h') (hg:AllBare g'):
  Inv X pins σ H' { s with heap:=h',gens:=g',drawn:=d',toks:=t' }:=by
 have neL:∀ b o,X.s₀.heap.get? b=some o->b≠X.env.locals:=fun b o e=>Nat.ne_of_lt (Nat.lt_of_lt_of_le (Heap.lt_size e) I.ok.above)
 have neC:∀ b o,X.s₀.heap.get? b=some o->b∉X.ex->b∉ch:=fun b o e hx hb=>by
  rcases (hch b hb).1 with z | z
  ·exact hx z
  ·exact absurd (Nat.lt_of_lt_of_le (Heap.lt_size e) z) (Nat.lt_irrefl _)
 have cellK:∀ x c,X.env.cells.lookup x=some c->∀ v,s.heap.IsCell c v->h'.IsCell c v:=fun x c e v pq1=>by
  obtain⟨o,ho,hd⟩:=pq1
  have nch:c∉ch:=fun z=>(hch c z).2.2.1 x c e rfl
  by_cases hc:c∈X.fs
  ·obtain⟨sl,q⟩:=slot c o (I.cne x c e) hc nch ho (I.freeC x c e)
   exact⟨_,q,hd⟩
  ·exact⟨o,keep c o (I.cne x c e) hc nch ho (I.freeC x c e),hd⟩
 refine⟨I.ok,I.os,hg,⟨fun b o e n hb hx=>?_,fun b o e n hb hx=>?_,fun b o e n hx=>?_,fun b o e hx=>?_,fun b xs e=>tups b xs (I.base.tups b xs e),fun b o xs e=>frzs b o xs (I.base.frzs b o xs e),fun b ps e=>?_⟩,?_,fun x c e=>?_,?_,fun x c e=>?_,fun p hp=>?_,hok,I.len⟩
 ·exact keep b o (neL b o e) hb (neC b o e hx) (I.base.keep b o e n hb hx) (I.base.free b o e n hx)
 ·obtain⟨sl,e1⟩:=I.base.slot b o e n hb hx
  obtain⟨sl',e2⟩:=slot b _ (neL b o e) hb (neC b o e hx) e1 (I.base.free b o e n hx)
  exact⟨sl',e2⟩
 ·obtain⟨o',e1⟩:=I.base.there b o e hx
  exact free b o' (neC b o e hx) e1 (I.base.free b o e n hx)
 ·obtain⟨o',e1⟩:=I.base.there b o e hx
  exact there b o' (neC b o e hx) e1
 ·obtain⟨m1,e1⟩:=I.base.tbls b ps e
  obtain⟨m2,e2⟩:=tbls b _ e1
  exact⟨m1++m2,by rw[e2,Array.append_assoc]⟩
 ·obtain⟨m,hn,hl⟩:=I.loc
  refine⟨m,ns m hn,fun i x v e1 e2 e3=>?_⟩
  obtain⟨u,r,l⟩:=hl i x v e1 e2 e3
  refine⟨u,r,?_⟩
  rcases l with l | ⟨k,c,e,z⟩
  ·exact .inl l
  ·exact .inr ⟨k,c,e,cellK x c e _ z⟩
 ·obtain⟨v,z⟩:=I.cell x c e
  exact⟨v,cellK x c e v z⟩
 ·obtain⟨m,⟨o,_,_,ho,_⟩,_⟩:=I.loc
  exact free _ o (fun z=>(hch _ z).2.1 rfl) ho I.free
 ·obtain⟨v,o,ho,hd⟩:=I.cell x c e
  exact free c o (fun z=>(hch c z).2.2.1 x c e rfl) ho (I.freeC x c e)
 ·obtain⟨e,n,ne,nf,d⟩:=I.pin p hp
  have nch:p.1∉ch:=fun z=>(hch p.1 z).2.2.2 p hp rfl
  exact⟨keep p.1 p.2 ne nf nch e n,free p.1 p.2 nch e n,ne,nf,d⟩
theorem Inv.un {t':Nat} (I:Inv X pins σ H s) (u:Un X.fs [] H H' s.heap h') (hok:HOk X.prog X.w H' h'):Inv X pins σ H' { s with heap:=h',toks:=t' }:=by
 obtain⟨m,⟨o,es,ep,ho,r⟩,_⟩:=id I.loc
 obtain⟨sl,hL⟩:=u.any ho I.free (by simp)
 exact I.step (g':=s.gens) (d':=s.drawn) (ch:=[]) (fun _ z=>nomatch z) (fun b o _ hb _ e n=>u.keep b o e n hb (by simp)) (fun b o _ hb _ e n=>u.slot b o e n hb (by simp)) (fun b o _ e n=>u.free b o e n (by simp)) (fun b o _ e=>u.there b o e (by simp)) u.tups u.frzs u.tbls (fun m' hm=>by
  obtain⟨o',es',ep',ho',r'⟩:=hm
  rw[ho]at ho';cases ho'
  exact⟨_,es',ep',hL,r'⟩) hok I.bare
theorem Inv.call {g' : Array GenState} {t' : Nat} {d' : Drawn} {ch : List Addr} (I : Inv X pins σ H s) (u : Un (frs X.stack) ch H H' s.heap h') (hok : HOk X.prog X.w H' h') (hg : AllBare g')
  (hch:∀ b∈ch,(b∈X.ex\/X.s₀.heap.objs.size<=b)/\b≠X.env.locals/\(∀ x c,X.env.cells.lookup x=some c->c≠b)/\∀ p∈X.pn++pins,p.1≠b):
  Inv X pins σ H' { s with heap:=h',gens:=g',drawn:=d',toks:=t' }:=by
 obtain⟨m,⟨o,es,ep,ho,r⟩,_⟩:=id I.loc
 obtain⟨sl,hL⟩:=u.any ho I.free fun z=>(hch _ z).2.1 rfl
 exact I.step (ch:=ch) hch (fun b o hL hb hc e n=>u.keep b o e n (fun z=>(List.mem_cons.mp (I.stkSub b z)).elim hL hb) hc) (fun b o _ _ hc e n=>u.any e n hc) (fun b o hc e n=>u.free b o e n hc) (fun b o hc e=>u.there b o e hc) u.tups u.frzs u.tbls (fun m' hm=>by
  obtain⟨o',es',ep',ho',r'⟩:=hm
  rw[ho]at ho';cases ho'
  exact⟨_,es',ep',hL,r'⟩) hok hg
theorem Inv.turned {t' : Nat} {it : Addr} (I : Inv X pins σ H s) (k : ∀ b o, b ≠ it -> s.heap.get? b = some o -> h'.get? b = some o) (hn : H it = none) (hL : it ≠ X.env.locals)
  (h1:it∈X.ex\/X.s₀.heap.objs.size<=it) (h2:∀ x c,X.env.cells.lookup x=some c->c≠it) (h3:∀ p∈X.pn++pins,p.1≠it):Inv X pins σ H { s with heap:=h',toks:=t' }:=by
 have nit:∀ b u,H b=some u->b≠it:=fun b u e z=>by rw[z,hn]at e;cases e
 refine I.step (g':=s.gens) (d':=s.drawn) (ch:=[it]) (fun b hb=>?_) (fun b o _ _ hc e _=>k b o (fun z=>hc (by simp[z])) e) (fun b o _ _ hc e _=>⟨o.slots,k b o (fun z=>hc (by simp[z])) e⟩) (fun _ _ _ _ n=>n)
  (fun b o hc e=>⟨o,k b o (fun z=>hc (by simp[z])) e⟩) (fun _ _ e=>e) (fun _ _ _ e=>e) (fun b ps e=>⟨#[],by rw[e];simp⟩) (fun m hm=>?_) (fun b u e=>?_) I.bare
 ·have e:b=it:=by simpa using hb
  subst e
  exact⟨h1,hL,h2,h3⟩
 ·obtain⟨o,es,ep,ho,r⟩:=hm
  exact⟨o,es,ep,k _ o (Ne.symm hL) ho,r⟩
 ·refine (I.hok b u e).stay (fun c v hc q=>k c v ?_ q) (fun _ q=>q) fun _ _ q=>q
  rcases hc with z | z
  ·rw[z];exact nit b u e
  ·exact nit c _ z
theorem Inv.tok (I:Inv X pins σ H s) (t:Nat):Inv X pins σ H { s with toks:=t }:=I.un (h':=s.heap) (t':=t) Un.refl I.hok
theorem Inv.kept {t':Nat} (I:Inv X pins σ H s) (k:∀ b u,s.heap.get? b=some u->h'.get? b=some u):Inv X pins σ H { s with heap:=h',toks:=t' }:=I.un (Un.kept k) (I.hok.kept k)
theorem Inv.laid {a : Addr} {o : HO} {t' : Nat} (I : Inv X pins σ H s) (k : ∀ b u, s.heap.get? b = some u -> h'.get? b = some u) (hp : s.heap.objs.size <= a) (new : ObjOk X.prog X.w (upd H a o) h' a o) :
  Inv X pins σ (upd H a o) { s with heap:=h',toks:=t' }:=I.un (Un.laid k hp (I.hok.fresh hp)) (I.hok.laid k hp new)
theorem Inv.write {x e : Addr} {o : HO} {t' : Nat} (I : Inv X pins σ H s) (mu : Mut (H x)) (he : e = x \/ H e = some (.own x)) (k : ∀ b u, b ≠ e -> s.heap.get? b = some u -> h'.get? b = some u) (heo : ∃ u, h'.get? e = some u)
  (new:ObjOk X.prog X.w (upd H x o) h' x o):Inv X pins σ (upd H x o) { s with heap:=h',toks:=t' }:=I.un (Un.write mu he k heo) (I.hok.write mu he k heo new)
theorem Inv.pins_of {pins':List (Addr × Obj)} (I:Inv X pins σ H s) (h:∀ p∈pins',s.heap.get? p.1=some p.2/\H p.1=none/\p.1≠X.env.locals/\p.1∉X.fs/\∀ v,p.2.data≠.cell v):Inv X pins' σ H s:=
 ⟨I.ok,I.os,I.bare,I.base,I.loc,I.cell,I.free,I.freeC,fun p hp=>(List.mem_append.mp hp).elim (fun z=>I.pin p (List.mem_append_left _ z)) (h p),I.hok,I.len⟩
theorem Qap {N:List Str} (hN:N.Nodup) {i j:Nat}{x:Str} (a:N[i]?=some x) (b:N[j]?=some x):i=j:=by
 obtain⟨h1,e1⟩:=List.getElem?_eq_some_iff.mp a
 obtain⟨h2,e2⟩:=List.getElem?_eq_some_iff.mp b
 exact (List.getElem_inj hN).mp (e1.trans e2.symm)
theorem Qaq {M : Model} {A : Around} {E : Value -> Shared -> Prop} {i : Nat} {x : Str} {v : V} {u : Value} {Q : Unit -> Shared -> Prop} (I : Inv X pins σ H s) (hN : X.N.Nodup) (hi : X.N[i]? = some x) (hx : Loc X.env.scope x) (r : RelV v u)
  (h:∀ s',Inv X pins (σ.set i (some v)) H s'->(∃ a,Heap.SameBut a s.heap s'.heap/\(a=X.env.locals\/X.env.cells.lookup x=some a))->Q () s') (hf:X.fn x=true\/X.env.scope.names.lookup x=some .local:=by first | exact .inl rfl | exact .inr rfl | assumption):wpAny M A (storeName X.env x u) Q E s:=by
 obtain⟨m,hn,hl⟩:=id I.loc
 have hcls:(X.env.scope.kind == .class || (X.env.scope.kind == .module && X.env.locals != X.env.globals))=false:=by rw[I.ok.kind];rfl
 have hiσ:i < σ.length:=by rw[I.len];exact (List.getElem?_eq_some_iff.mp hi).1
 have cne:=I.cne
 have tracked:∀ {a:Addr}{h':Heap},(∃ o,s.heap.get? a=some o/\H a=none)->Heap.SameBut a s.heap h'->HOk X.prog X.w H h':=fun {a h'} ha hs b ob e=>by
  obtain⟨_,_,hfree⟩:=ha
  refine (I.hok b ob e).stay (fun c w' hc q=>(hs.2 c ?_).trans q) (fun _ q=>q) fun _ _ q=>q
  rintro rfl
  rcases hc with rfl | hc
  ·rw[hfree]at e;cases e
  ·rw[hfree]at hc;cases hc
 rcases hx with hk | hk
 ·refine wpAny_storeName_local hk hn (fun h' hn' hs=>?_) hcls
  obtain⟨oL,_,_,hoL,_⟩:=id hn
  refine h _ ⟨I.ok,I.os,I.bare,⟨fun b o e n hb hx=>?_,fun b o e n hb hx=>?_,I.base.free,fun b o e hx=>?_,I.base.tups,I.base.frzs,I.base.tbls⟩,⟨_,hn',fun j y v' e1 e2 e3=>?_⟩,fun y c e=>?_,I.free,I.freeC,fun p hp=>?_,tracked ⟨oL,hoL,I.free⟩ hs,by simpa using I.len⟩ ⟨_,hs,.inl rfl⟩
  ·exact (hs.2 b (Nat.ne_of_lt (Nat.lt_of_lt_of_le (Heap.lt_size e) I.ok.above))).trans (I.base.keep b o e n hb hx)
  ·obtain⟨sl,e1⟩:=I.base.slot b o e n hb hx
   exact⟨sl,(hs.2 b (Nat.ne_of_lt (Nat.lt_of_lt_of_le (Heap.lt_size e) I.ok.above))).trans e1⟩
  ·obtain⟨o',e1⟩:=I.base.there b o e hx
   exact⟨o',(hs.2 b (Nat.ne_of_lt (Nat.lt_of_lt_of_le (Heap.lt_size e) I.ok.above))).trans e1⟩
  ·by_cases hj:j=i
   ·subst hj
    rw[hi]at e1;cases e1
    rw[List.getElem?_set_self hiσ]at e2
    cases e2
    exact⟨u,r,.inl ⟨hk,by simp⟩⟩
   ·rw[List.getElem?_set_ne (Ne.symm hj)]at e2
    obtain⟨u',r',q⟩:=hl j y v' e1 e2 e3
    refine⟨u',r',?_⟩
    rcases q with ⟨k,e⟩ | ⟨k,c,e,z⟩
    ·refine .inl ⟨k,?_⟩
     have:y≠x:=fun e=>hj (Qap hN e1 (e ▸ hi))
     simp[this,e]
    ·exact .inr ⟨k,c,e,z.sameBut hs (cne y c e)⟩
  ·obtain⟨w',z⟩:=I.cell y c e
   exact⟨w',z.sameBut hs (cne y c e)⟩
  ·obtain⟨e,n,ne,nf,d⟩:=I.pin p hp
   exact⟨(hs.2 p.1 ne).trans e,n,ne,nf,d⟩
 ·have hfn : X.fn x = true := by
    rcases hf with z | z
    ·exact z
    ·rw[z]at hk;cases hk
  obtain⟨c,hc⟩:=I.ok.has x (.inl hk)
  obtain⟨w',z⟩:=I.cell x c hc
  refine wpAny_storeName_cell I.ok.kind hk hc z (fun h' hc' hs=>?_)
  obtain⟨oc,hoc,hocd⟩:=id z
  refine h { s with heap:=h' } ⟨I.ok,I.os,I.bare,⟨fun b o e n hb hx=>?_,fun b o e n hb hx=>?_,I.base.free,fun b o e hx=>?_,I.base.tups,I.base.frzs,I.base.tbls⟩,⟨m,hn.sameBut hs (Ne.symm (cne x c hc)),fun j y v' e1 e2 e3=>?_⟩,fun y c' e=>?_,I.free,I.freeC,fun p hp=>?_,tracked ⟨oc,hoc,I.freeC x c hc⟩ hs,by simpa using I.len⟩ ⟨c,hs,.inr hc⟩
  ·exact (hs.2 b (Nat.ne_of_lt (Nat.lt_of_lt_of_le (Heap.lt_size e) (I.ok.cab x c hfn hc)))).trans (I.base.keep b o e n hb hx)
  ·obtain⟨sl,e1⟩:=I.base.slot b o e n hb hx
   exact⟨sl,(hs.2 b (Nat.ne_of_lt (Nat.lt_of_lt_of_le (Heap.lt_size e) (I.ok.cab x c hfn hc)))).trans e1⟩
  ·obtain⟨o',e1⟩:=I.base.there b o e hx
   exact⟨o',(hs.2 b (Nat.ne_of_lt (Nat.lt_of_lt_of_le (Heap.lt_size e) (I.ok.cab x c hfn hc)))).trans e1⟩
  ·by_cases hj:j=i
   ·subst hj
    rw[hi]at e1;cases e1
    rw[List.getElem?_set_self hiσ]at e2
    cases e2
    exact⟨u,r,.inr ⟨.inl hk,c,hc,hc'⟩⟩
   ·rw[List.getElem?_set_ne (Ne.symm hj)]at e2
    obtain⟨u',r',q⟩:=hl j y v' e1 e2 e3
    refine⟨u',r',?_⟩
    rcases q with q | ⟨k,c',e,z'⟩
    ·exact .inl q
    ·refine .inr ⟨k,c',e,z'.sameBut hs ?_⟩
     rintro rfl
     exact hj (Qap hN e1 (I.ok.inj _ _ _ e hc ▸ hi))
  ·by_cases hcc:c'=c
   ·subst hcc;exact⟨_,hc'⟩
   ·obtain⟨w2,z2⟩:=I.cell y c' e
    exact⟨w2,z2.sameBut hs hcc⟩
  ·obtain⟨e,n,ne,nf,d⟩:=I.pin p hp
   refine⟨(hs.2 p.1 ?_).trans e,n,ne,nf,d⟩
   intro q
   rw[q,hoc]at e
   have q':oc=p.2:=Option.some.inj e
   exact d w' (by rw[<- q'];exact hocd)
theorem Qar {M : Model} {A : Around} {E : Value -> Shared -> Prop} {i : Nat} {x : Str} {v : V} {u : Value} {Q : Unit -> Shared -> Prop} (I : Inv X pins σ H s) (hN : X.N.Nodup) (hi : X.N[i]? = some x) (hx : Loc X.env.scope x) (r : RelV v u)
  (h:∀ s',Inv X pins (σ.set i (some v)) H s'->Q () s') (hf:X.fn x=true\/X.env.scope.names.lookup x=some .local:=by first | exact .inl rfl | exact .inr rfl | assumption):wpAny M A (storeName X.env x u) Q E s:=
 Qaq I hN hi hx r (fun s' I' _=>h s' I') hf
theorem Inv.call' {s' : Shared} {ch : List Addr} (I : Inv X pins σ H s) (ho : s'.os = s.os) (u : Un (frs X.stack) ch H H' s.heap s'.heap) (hok : HOk X.prog X.w H' s'.heap) (hg : AllBare s'.gens)
  (hch:∀ b∈ch,(b∈X.ex\/X.s₀.heap.objs.size<=b)/\b≠X.env.locals/\(∀ x c,X.env.cells.lookup x=some c->c≠b)/\∀ p∈X.pn++pins,p.1≠b):Inv X pins σ H' s':=by
 obtain⟨h',g',d',t',o'⟩:=s'
 have e:o'=s.os:=ho
 subst e
 exact I.call (g':=g') (t':=t') (d':=d') u hok hg hch
end
noncomputable abbrev XK:=Value->Option Addr->Hp->Prop
noncomputable abbrev St:=List (Option V)
noncomputable abbrev VK:=V->Hp->Prop
noncomputable abbrev TE:=St->Hp->VK->Prop
noncomputable abbrev TT:=St->Hp->(Bool->Hp->Prop)->Prop
noncomputable abbrev TA:=St->Hp->(List V->Hp->Prop)->Prop
structure Ends where
 nx:St->Hp->Prop
 rt:VK
 bk:St->Hp->Prop:=fun _ _=>False
 ct:St->Hp->Prop:=fun _ _=>False
noncomputable abbrev TS:=Ends->St->Hp->Prop
noncomputable def EP (X:Cx) (pins:List (Addr × Obj)) (σ:St) (Q:VK) (u:Value) (s':Shared):Prop:=∃ v H',Inv X pins σ H' s'/\RelV v u/\Q v H'
noncomputable def TP (X:Cx) (pins:List (Addr × Obj)) (σ:St) (Q:Bool->Hp->Prop) (b:Bool) (s':Shared):Prop:=∃ H',Inv X pins σ H' s'/\Q b H'
noncomputable def AP (X:Cx) (pins:List (Addr × Obj)) (σ:St) (Q:List V->Hp->Prop) (us:List Value) (s':Shared):Prop:=∃ vs H',Inv X pins σ H' s'/\Vals vs us/\Q vs H'
noncomputable def SP (X:Cx) (pins:List (Addr × Obj)) (D:Ends) (f:Flow) (s':Shared):Prop:=
 match f with
 | .next=>∃ σ' H',Inv X pins σ' H' s'/\D.nx σ' H'
 | .brk=>∃ σ' H',Inv X pins σ' H' s'/\D.bk σ' H'
 | .cont=>∃ σ' H',Inv X pins σ' H' s'/\D.ct σ' H'
 | .ret u=>∃ v σ' H',Inv X pins σ' H' s'/\RelV v u/\D.rt v H'
noncomputable def PE (X:Cx) (e:Expr) (t:TE):Prop:=
 ∀ (pins:List (Addr × Obj)) (s:Shared) (σ:St) (H:Hp) (Q:VK),Inv X pins σ H s->t σ H Q->wpAny (model X.prog X.w) X.A (eval e X.env) (EP X pins σ Q) X.xe s
noncomputable def PT (X:Cx) (e:Expr) (t:TT):Prop:=
 ∀ (pins:List (Addr × Obj)) (s:Shared) (σ:St) (H:Hp) (Q:Bool->Hp->Prop),Inv X pins σ H s->t σ H Q->wpAny (model X.prog X.w) X.A (isTrue e X.env (eval e X.env)) (TP X pins σ Q) X.xe s
noncomputable def PW (X:Cx) (e:Expr) (t:TT):Prop:=
 ∀ (whole:Sem Value) (pins:List (Addr × Obj)) (s:Shared) (σ:St) (H:Hp) (Q:Bool->Hp->Prop),Inv X pins σ H s->t σ H Q->wpAny (model X.prog X.w) X.A (isTrue e X.env whole) (TP X pins σ Q) X.xe s
theorem PW.pt {X:Cx}{e:Expr}{t:TT} (h:PW X e t):PT X e t:=h _
noncomputable def PA (X:Cx) (es:List Expr) (t:TA):Prop:=
 ∀ (pos:Pos) (pins:List (Addr × Obj)) (s:Shared) (σ:St) (H:Hp) (Q:List V->Hp->Prop),Inv X pins σ H s->t σ H Q->wpAny (model X.prog X.w) X.A (spliced (backTo pos (starEach es X.env))) (AP X pins σ Q) X.xe s
noncomputable def PS (X:Cx) (st:Stmt) (t:TS):Prop:=
 ∀ (pins:List (Addr × Obj)) (s:Shared) (σ:St) (H:Hp) (D:Ends),Inv X pins σ H s->t D σ H->wpAny (model X.prog X.w) X.A (exec st X.env) (SP X pins D) X.xe s
noncomputable def PSs (X:Cx) (st:List Stmt) (t:TS):Prop:=
 ∀ (pins:List (Addr × Obj)) (s:Shared) (σ:St) (H:Hp) (D:Ends),Inv X pins σ H s->t D σ H->wpAny (model X.prog X.w) X.A (execs st X.env) (SP X pins D) X.xe s
theorem thn {α:Type}{t:Sem α}{Q Q':α->Shared->Prop}{M:Model}{A:Around}{E:Value->Shared->Prop}{s:Shared} (h:wpAny M A t Q E s) (hQ:∀ a s,Q a s->Q' a s):wpAny M A t Q' E s:=wpAny_mono h hQ fun _ _ x=>x
section
variable {X:Cx}
noncomputable def tVar (i:Nat):TE:=fun σ H Q=>∃ v,σ[i]?=some (some v)/\Q v H
noncomputable def tC (v:V):TE:=fun _ H Q=>Q v H
theorem Qas {i:Nat}{x:Str}{pos:Pos} (hN:X.N[i]?=some x) (hv:Vis X.env.scope x) (hd:(x == ("__debug__":Str))=false:=by decide) (hcd:(x == ("__classdict__":Str))=false:=by decide):PE X (.Name x pos) (tVar i):=by
 intro pins s σ H Q I h
 obtain⟨v,e,h⟩:=h
 obtain⟨m,hn,hl⟩:=I.loc
 obtain⟨u,r,l⟩:=hl i x v hN e hv
 have fin:EP X pins σ Q u s:=⟨v,H,I,r,h⟩
 rcases l with ⟨hk,hm⟩ | ⟨hk,c,hc,hcell⟩
 ·exact wpAny_Name (wpAny_loadName_local I.ok.kind hk hn hm fin) hd
 ·rcases hk with hk | hk
  ·exact wpAny_Name (wpAny_loadName_cell I.ok.kind hk hc hcell fin) hd
  ·exact wpAny_Name (wpAny_loadName_free I.ok.kind hk hc hcell fin hcd) hd
theorem Qat {i j pos}:PE X (.Constant (.int i) j pos) (tC (.int i)):=fun _ _ _ H _ I h=>wpAny_Constant_int ⟨.int i,H,I.tok _,⟨_,rfl⟩,h⟩
theorem Qau {b j pos}:PE X (.Constant (.bool b) j pos) (tC (.bl b)):=fun _ _ _ H _ I h=>Constant_bool ⟨.bl b,H,I,rfl,h⟩
theorem Qav {j pos}:PE X (.Constant .none j pos) (tC .non):=fun _ _ _ H _ I h=>Constant_none ⟨.non,H,I,rfl,h⟩
theorem Qaw {x j pos}:PE X (.Constant (.str x) j pos) (tC (.str x)):=fun _ _ _ H _ I h=>Calls.Constant_str ⟨.str x,H,I.tok _,⟨_,rfl⟩,h⟩
noncomputable def Gl (X:Cx) (x:Str):Prop:=X.env.kindOf x=some .globalImplicit
theorem Qax {E : Value -> Shared -> Prop} {pins : List (Addr × Obj)} {s : Shared} {σ : St} {H : Hp} {x : Str} {u : Value} {pos : Pos} {Q : Value -> Shared -> Prop} (I : Inv X pins σ H s) (hg : Gl X x) (hm : X.mg x = some u) (h : Q u s)
  (hd:(x == ("__debug__":Str))=false:=by decide):wpAny (model X.prog X.w) X.A (eval (.Name x pos) X.env) Q E s:=
 Calls.Name_function_global I.ok.kind hg (Calls.loadGlobal_global (by rw[I.ok.glob];exact I.mod.glob.keeps I.bk) hm h) hd
theorem Qay {E : Value -> Shared -> Prop} {pins : List (Addr × Obj)} {s : Shared} {σ : St} {H : Hp} {x : Str} {u : Value} {pos : Pos} {Q : Value -> Shared -> Prop} (I : Inv X pins σ H s) (hg : Gl X x) (hm : X.mg x = none) (hv : bootBuiltins x = some u) (h : Q u s)
  (hn:x≠"__name__":=by decide) (hd:(x == ("__debug__":Str))=false:=by decide):wpAny (model X.prog X.w) X.A (eval (.Name x pos) X.env) Q E s:=by
 obtain⟨mb,h1,h2⟩:=I.mod.blt
 exact Calls.Name_function_global I.ok.kind hg (Calls.loadGlobal_builtin (by rw[I.ok.glob];exact I.mod.glob.keeps I.bk) hm (by rw[I.ok.blt];exact h1.keeps I.bk) ((h2 x hn).trans hv) h) hd
theorem Qaz {x:Str}{v:V}{u:Value}{pos:Pos} (hg:Gl X x) (hm:X.mg x=some u) (r:RelV v u) (hd:(x == ("__debug__":Str))=false:=by decide):PE X (.Name x pos) (tC v):=
 fun _ _ _ H _ I h=>Qax I hg hm ⟨v,H,I,r,h⟩ hd
theorem QaA {x:Str}{v:V}{u:Value}{pos:Pos} (hg:Gl X x) (hm:X.mg x=none) (hv:bootBuiltins x=some u) (r:RelV v u) (hn:x≠"__name__":=by decide) (hd:(x == ("__debug__":Str))=false:=by decide):PE X (.Name x pos) (tC v):=
 fun _ _ _ H _ I h=>Qay I hg hm hv ⟨v,H,I,r,h⟩ hn hd
variable {a b:Expr}{ta tb:TE}{pos:Pos}
noncomputable def tB (t:TE):TT:=fun σ H Q=>t σ H fun x H1=>∃ c,x=.bl c/\Q c H1
variable {tA tB':TT}{rest:List Expr}
noncomputable def tAnd (t u:TT):TT:=fun σ H Q=>t σ H fun c H1=>if c=true then u σ H1 Q else Q false H1
noncomputable def tOr (t u:TT):TT:=fun σ H Q=>t σ H fun c H1=>if c=true then Q true H1 else u σ H1 Q
noncomputable def tNot (t:TT):TT:=fun σ H Q=>t σ H fun c H1=>Q (!c) H1
theorem QaB (ha:PT X a tA):PW X (.BoolOp .And [a] pos) tA:=by
 intro wh pins s σ H Q I h
 refine isTrue_and (thn (ha pins s σ H Q I h) fun c s1 e=>?_)
 cases c with
 | true=>exact isTrue_and_nil e
 | false=>exact e
theorem QaC (ha:PT X a tA):PW X (.BoolOp .Or [a] pos) tA:=by
 intro wh pins s σ H Q I h
 refine isTrue_or (thn (ha pins s σ H Q I h) fun c s1 e=>?_)
 cases c with
 | false=>exact isTrue_or_nil e
 | true=>exact e
theorem QaD (ha:PT X a tA) (hb:PW X (.BoolOp .And (b::rest) pos) tB'):PW X (.BoolOp .And (a::b::rest) pos) (tAnd tA tB'):=by
 intro wh pins s σ H Q I h
 refine isTrue_and (thn (ha pins s σ H _ I h) fun c s1 pq2=>?_)
 obtain⟨H1,I1,q1⟩:=pq2
 cases c with
 | true=>exact hb wh pins s1 σ H1 Q I1 q1
 | false=>exact⟨H1,I1,q1⟩
theorem QaE (ha:PT X a tA) (hb:PW X (.BoolOp .Or (b::rest) pos) tB'):PW X (.BoolOp .Or (a::b::rest) pos) (tOr tA tB'):=by
 intro wh pins s σ H Q I h
 refine isTrue_or (thn (ha pins s σ H _ I h) fun c s1 pq3=>?_)
 obtain⟨H1,I1,q1⟩:=pq3
 cases c with
 | true=>exact⟨H1,I1,q1⟩
 | false=>exact hb wh pins s1 σ H1 Q I1 q1
theorem QaF (ha:PT X a tA):PT X (.UnaryOp .Not a pos) (tNot tA):=by
 intro pins s σ H Q I h
 exact isTrue_not (ha pins s σ H (fun c H1=>Q (!c) H1) I h)
noncomputable def tAndV (ta tb:TE):TE:=fun σ H Q=>ta σ H fun x H1=>∃ c,x=.bl c/\if c=true then tb σ H1 Q else Q (.bl false) H1
noncomputable def tNotV (ta:TE):TE:=fun σ H Q=>ta σ H fun x H1=>∃ c,x=.bl c/\Q (.bl (!c)) H1
theorem QaG {op}{t:TE} (h:PE X a t):PE X (.BoolOp op [a] pos) t:=fun pins s σ H Q I hw=>BoolOp_one (h pins s σ H Q I hw)
theorem QaH (ha:PE X a ta) (hb:PE X (.BoolOp .And (b::rest) pos) tb):PE X (.BoolOp .And (a::b::rest) pos) (tAndV ta tb):=by
 intro pins s σ H Q I h
 refine BoolOp_and (thn (ha pins s σ H _ I h) fun v s1 pq4=>?_)
 obtain⟨x,H1,I1,r1,q1⟩:=pq4
 obtain⟨c,rfl,q1⟩:=q1
 cases r1
 refine wpAny_truthy_bool ?_
 cases c with
 | true=>exact hb pins s1 σ H1 Q I1 q1
 | false=>exact⟨.bl false,H1,I1,rfl,q1⟩
theorem QaI (ha:PE X a ta):PE X (.UnaryOp .Not a pos) (tNotV ta):=by
 intro pins s σ H Q I h
 refine UnaryOp_ (thn (ha pins s σ H _ I h) fun v s1 pq5=>?_)
 obtain⟨x,H1,I1,r1,q1⟩:=pq5
 obtain⟨c,rfl,q1⟩:=q1
 cases r1
 exact not_of (wpAny_truthy_bool ⟨.bl (!c),H1,I1,rfl,q1⟩)
noncomputable def tIf (t:TT) (ta tb:TE):TE:=fun σ H Q=>t σ H fun c H1=>if c=true then ta σ H1 Q else tb σ H1 Q
theorem QaJ {c:Expr} (hc:PT X c tA) (ha:PE X a ta) (hb:PE X b tb):PE X (.IfExp c a b pos) (tIf tA ta tb):=by
 intro pins s σ H Q I h
 refine wpAny_IfExp (thn (hc pins s σ H _ I h) fun d s1 pq6=>?_)
 obtain⟨H1,I1,q1⟩:=pq6
 cases d with
 | true=>exact ha pins s1 σ H1 Q I1 q1
 | false=>exact hb pins s1 σ H1 Q I1 q1
end
noncomputable def SqL (K:PySem.W.Frag) (H:Hp) (a:Addr) (xs:List V):Prop:=
 Rd H a (.lst xs) \/
  ∃ (o:Obj) (its:Array Value) (n:Nat),K.lookup a=some o/\o.cls=.type "list"/\o.dict=none/\o.data=.seq its n/\its.size<=sizeLine/\Vals xs its.toList
noncomputable def SqT (K:PySem.W.Frag) (H:Hp) (a:Addr) (xs:List V):Prop:=
 Rd H a (.tup xs) \/
  ∃ (o:Obj) (its:Array Value) (n:Nat),K.lookup a=some o/\o.cls=.type "tuple"/\o.dict=none/\o.data=.seq its n/\its.size<=sizeLine/\Vals xs its.toList
noncomputable def absV:Value->Option V
 | .none=>some .non
 | .bool b=>some (.bl b)
 | .int i _=>some (.int i)
 | .str x _=>some (.str x)
 | .bytes b _=>some (.byt b)
 | .float b _=>some (.flt b)
 | .ref a=>some (.ref a)
 | .type n=>some (.ty n)
 | _=>none
theorem RelV.abs {x:V}{u:Value} (r:RelV x u):absV u=some x:=by
 cases x with
 | non=>cases r;rfl
 | bl _=>cases r;rfl
 | int _=>obtain⟨t,rfl⟩:=r;rfl
 | str _=>obtain⟨t,rfl⟩:=r;rfl
 | byt _=>obtain⟨t,rfl⟩:=r;rfl
 | flt _=>obtain⟨t,rfl⟩:=r;rfl
 | ref _=>cases r;rfl
 | ty _=>cases r;rfl
theorem RelV.inj {x y:V}{u:Value} (r:RelV x u) (q:RelV y u):x=y:=Option.some.inj (r.abs.symm.trans q.abs)
theorem Vals.inj:∀ {xs ys:List V}{us:List Value},Vals xs us->Vals ys us->xs=ys
 | _,_,_,.nil,.nil=>rfl
 | _,_,_,.cons r t,.cons r' t'=>by rw[r.inj r',Vals.inj t t']
section
variable {X:Cx}{pins:List (Addr × Obj)}{σ:St}{H:Hp}{s:Shared}{a:Addr}{xs ys:List V}
theorem SqL.of {K:PySem.W.Frag} (h:H a=some (.lst xs)):SqL K H a xs:=.inl (.inl h)
theorem SqT.of {K:PySem.W.Frag} (h:H a=some (.tup xs)):SqT K H a xs:=.inl (.inl h)
theorem Inv.list (I:Inv X pins σ H s) (h:SqL X.K H a xs):∃ its:List Value,Vals xs its/\PlainL s.heap a its.toArray/\xs.length<=sizeLine:=by
 rcases h with h | ⟨o,its,n,hk,hc,hd,hs,hz,r⟩
 ·obtain⟨z,its,n,r,e⟩:=h.ok I.hok
  exact⟨its,r,⟨_,n,e,rfl,rfl,rfl⟩,z⟩
 ·refine⟨its.toList,r,⟨o,n,I.kIn a o hk,hc,hd,by simpa using hs⟩,?_⟩
  have e:=r.length
  simp only[Array.length_toList]at e
  ac_nf
theorem Inv.tupleD (I:Inv X pins σ H s) (h:SqT X.K H a xs):∃ its:List Value,Vals xs its/\IsTupD s.heap a its.toArray/\xs.length<=sizeLine:=by
 rcases h with h | ⟨o,its,n,hk,hc,hd,hs,hz,r⟩
 ·obtain⟨z,its,r,p⟩:=h.ok I.hok
  exact⟨its,r,p,z⟩
 ·refine⟨its.toList,r,⟨o,I.kIn a o hk,hc,⟨n,by simpa using hs⟩,hd⟩,?_⟩
  have e:=r.length
  simp only[Array.length_toList]at e
  ac_nf
theorem Inv.tuple (I:Inv X pins σ H s) (h:SqT X.K H a xs):∃ its:List Value,Vals xs its/\IsTup s.heap a its.toArray/\xs.length<=sizeLine:=let ⟨its,r,p,z⟩:=I.tupleD h;⟨its,r,p.is,z⟩
theorem Inv.list_inj (I:Inv X pins σ H s) (h:SqL X.K H a xs) (h':SqL X.K H a ys):xs=ys:=by
 obtain⟨its,r,⟨o,n,e,_,_,d⟩,_⟩:=I.list h
 obtain⟨its',r',⟨o',n',e',_,_,d'⟩,_⟩:=I.list h'
 rw[e]at e';cases e'
 rw[d]at d'
 injection d' with d1 _
 have:its=its':=by simpa using congrArg Array.toList d1
 subst this
 exact r.inj r'
theorem Inv.tuple_inj (I:Inv X pins σ H s) (h:SqT X.K H a xs) (h':SqT X.K H a ys):xs=ys:=by
 obtain⟨its,r,⟨o,e,_,n,d⟩,_⟩:=I.tuple h
 obtain⟨its',r',⟨o',e',_,n',d'⟩,_⟩:=I.tuple h'
 rw[e]at e';cases e'
 rw[d]at d'
 injection d' with d1 _
 have:its=its':=by simpa using congrArg Array.toList d1
 subst this
 exact r.inj r'
end
noncomputable abbrev Cx.wish (X:Cx) (E:Value->Shared->Prop):Cx:={ X with xe:=E }
noncomputable abbrev Cx.nox (X:Cx):Cx:=X.wish fun _ _=>False
theorem Cx.Ok.wish {X:Cx} (ok:X.Ok) (E:Value->Shared->Prop):(X.wish E).Ok:=
 ⟨ok.mod,ok.kind,ok.glob,ok.blt,ok.above,ok.inj,ok.has,ok.cab,ok.hd,ok.frames,ok.stk,ok.exf,ok.bs,ok.bsz,ok.noex,ok.exfs,ok.funs,ok.frf⟩
theorem Cx.Ok.unwish {X:Cx}{E:Value->Shared->Prop} (ok:(X.wish E).Ok):X.Ok:=
 ⟨ok.mod,ok.kind,ok.glob,ok.blt,ok.above,ok.inj,ok.has,ok.cab,ok.hd,ok.frames,ok.stk,ok.exf,ok.bs,ok.bsz,ok.noex,ok.exfs,ok.funs,ok.frf⟩
section
variable {X:Cx}{pins:List (Addr × Obj)}{σ:St}{H:Hp}{s:Shared}{E:Value->Shared->Prop}
theorem Inv.wish (I:Inv X pins σ H s) (E:Value->Shared->Prop):Inv (X.wish E) pins σ H s:=⟨I.ok.wish E,I.os,I.bare,I.base,I.loc,I.cell,I.free,I.freeC,I.pin,I.hok,I.len⟩
theorem Inv.unwish (I:Inv (X.wish E) pins σ H s):Inv X pins σ H s:=⟨I.ok.unwish,I.os,I.bare,I.base,I.loc,I.cell,I.free,I.freeC,I.pin,I.hok,I.len⟩
theorem SP.unwish {D:Ends}{f:Flow}{s':Shared} (h:SP (X.wish E) pins D f s'):SP X pins D f s':=by
 cases f with
 | next=>obtain⟨σ',H',I,q⟩:=h;exact⟨σ',H',I.unwish,q⟩
 | brk=>obtain⟨σ',H',I,q⟩:=h;exact⟨σ',H',I.unwish,q⟩
 | cont=>obtain⟨σ',H',I,q⟩:=h;exact⟨σ',H',I.unwish,q⟩
 | ret u=>obtain⟨v,σ',H',I,r,q⟩:=h;exact⟨v,σ',H',I.unwish,r,q⟩
theorem PSs.nox {st:List Stmt}{t:TS} (h:PSs X.nox st t):PSs X st t:=fun pins s σ H D I hw=>
 wpAny_mono (h pins s σ H D (I.wish _) hw) (fun _ _ q=>q.unwish) fun _ _ z=>False.elim z
end
section
variable {X:Cx}{st:Stmt}{rest:List Stmt}{t u:TS}{e:Expr}{te:TE}{pos:Pos}
noncomputable def tNext:TS:=fun D σ H=>D.nx σ H
noncomputable def tSeq (t u:TS):TS:=fun D σ H=>t { D with nx:=u D } σ H
theorem QaK:PSs X [] tNext:=fun _ _ σ H _ I h=>wpAny_execs_nil ⟨σ,H,I,h⟩
theorem QaL (h1:PS X st t) (h2:PSs X rest u):PSs X (st::rest) (tSeq t u):=by
 intro pins s σ H D I h
 refine wpAny_execs_cons (thn (h1 pins s σ H { D with nx:=u D } I h) fun f s1 q=>?_)
 cases f with
 | next=>
  obtain⟨σ',H',I',q⟩:=q
  exact h2 pins s1 σ' H' D I' q
 | ret v=>exact q
 | brk=>exact q
 | cont=>exact q
theorem Inv.quiet {pins:List (Addr × Obj)}{σ:St}{H:Hp}{s:Shared} (I:Inv X pins σ H s):interactive X.env=false:=by simp[interactive,I.ok.kind]
noncomputable def tDrop (te:TE):TS:=fun D σ H=>te σ H fun _ H1=>D.nx σ H1
theorem QaM (he:PE X e te) (hs:swapsWith e none pos.line X.env=pure false:=by rfl):PS X (.Expr e pos) (tDrop te):=by
 intro pins s σ H D I h
 exact wpAny_Expr_any (thn (he pins s σ H _ I h) fun v s1 pq9=>by obtain⟨x,H1,I1,r1,q1⟩:=pq9;exact⟨σ,H1,I1,q1⟩) I.quiet hs
noncomputable def tRet (te:TE):TS:=fun D σ H=>te σ H D.rt
theorem QaN (he:PE X e te):PS X (.Return (some e) pos) (tRet te):=by
 intro pins s σ H D I h
 exact wpAny_Return_some (thn (he pins s σ H _ I h) fun v s1 pq10=>by obtain⟨x,H1,I1,r1,q1⟩:=pq10;exact⟨x,σ,H1,I1,r1,q1⟩)
noncomputable def tIfS (c:TT) (t u:TS):TS:=fun D σ H=>c σ H fun b H1=>if b=true then t D σ H1 else u D σ H1
theorem QaO {c:Expr}{a b:List Stmt}{tc:TT} (hc:PT X c tc) (ha:PSs X a t) (hb:PSs X b u):PS X (.If c a b pos) (tIfS tc t u):=by
 intro pins s σ H D I h
 refine wpAny_If (thn (hc pins s σ H _ I h) fun d s1 pq11=>?_)
 obtain⟨H1,I1,q1⟩:=pq11
 cases d with
 | true=>exact ha pins s1 σ H1 D I1 q1
 | false=>exact hb pins s1 σ H1 D I1 q1
end
noncomputable abbrev TG:=V->St->Hp->(St->Hp->Prop)->Prop
noncomputable abbrev TGs:=List V->St->Hp->(St->Hp->Prop)->Prop
noncomputable def PG (X:Cx) (target:Expr) (t:TG):Prop:=
 ∀ (pins:List (Addr × Obj)) (s:Shared) (σ:St) (H:Hp) (v:V) (u:Value) (Q:St->Hp->Prop),Inv X pins σ H s->RelV v u->t v σ H Q ->
  wpAny (model X.prog X.w) X.A (assign target X.env u) (fun _ s'=>∃ σ' H',Inv X pins σ' H' s'/\Q σ' H') X.xe s
noncomputable def PGs (X:Cx) (ts:List Expr) (t:TGs):Prop:=
 ∀ (pins:List (Addr × Obj)) (s:Shared) (σ:St) (H:Hp) (vs:List V) (us:List Value) (Q:St->Hp->Prop),Inv X pins σ H s->Vals vs us->t vs σ H Q ->
  wpAny (model X.prog X.w) X.A (assignInOrder ((assignEach ts X.env).map (·.2)) us) (fun _ s'=>∃ σ' H',Inv X pins σ' H' s'/\Q σ' H') X.xe s
noncomputable abbrev TSet:=V->V->V->Hp->(Hp->Prop)->Prop
noncomputable def PSet (X:Cx) (t:TSet):Prop:=
 ∀ (pins:List (Addr × Obj)) (s:Shared) (σ:St) (H:Hp) (o i v:V) (ov iv u:Value) (Q:Hp->Prop),Inv X pins σ H s->RelV o ov->RelV i iv->RelV v u->t o i v H Q ->
  wpAny (model X.prog X.w) X.A (setItem ov iv u) (fun _ s'=>∃ H',Inv X pins σ H' s'/\Q H') X.xe s
section
variable {X:Cx}{pos:Pos}
noncomputable def gName (i:Nat):TG:=fun v σ H Q=>Q (σ.set i (some v)) H
theorem QaP {i:Nat}{x:Str} (hN:X.N.Nodup) (hi:X.N[i]?=some x) (hx:Loc X.env.scope x) (hf:X.fn x=true\/X.env.scope.names.lookup x=some .local:=by first | exact .inl rfl | exact .inr rfl | assumption):PG X (.Name x pos) (gName i):=by
 intro pins s σ H v u Q I r h
 exact wpAny_assign_Name (Qar I hN hi hx r (fun s' I'=>⟨_,H,I',h⟩) hf)
noncomputable def gNil:TGs:=fun vs σ H Q=>vs=[]/\Q σ H
noncomputable def gCons (t:TG) (u:TGs):TGs:=fun vs σ H Q=>∃ v r,vs=v::r/\t v σ H fun σ' H'=>u r σ' H' Q
theorem QaQ:PGs X [] gNil:=by
 intro pins s σ H vs us Q I r h
 obtain⟨e,h⟩:=h
 subst e
 cases r
 exact assignInOrder_nil ⟨σ,H,I,h⟩
theorem QaR {e : Expr} {es : List Expr} {t : TG} {u : TGs} (h1 : PG X e t) (h2 : PGs X es u)
  (hs:(assignEach (e::es) X.env).map (·.2)=assign e X.env::(assignEach es X.env).map (·.2):=by rfl):PGs X (e::es) (gCons t u):=by
 intro pins s σ H vs us Q I r h
 obtain⟨v,vr,e1,h⟩:=h
 subst e1
 cases r with
 | cons r rr=>
  rw[hs]
  refine assignInOrder_cons (thn (h1 pins s σ H _ _ _ I r h) fun _ s1 pq12=>?_)
  obtain⟨σ1,H1,I1,q1⟩:=pq12
  exact h2 pins s1 σ1 H1 _ _ Q I1 rr q1
noncomputable def gTup (K:PySem.W.Frag) (n:Nat) (t:TGs):TG:=fun v σ H Q=>∃ a xs,v=.ref a/\SqT K H a xs/\xs.length=n/\t xs σ H Q
theorem QaS {es : List Expr} {k : Nat} {t : TGs} {n : Nat} (hc : X.calm = true) (h : PGs X es t)
  (hn:(assignEach es X.env).length=n:=by rfl) (hst:(assignEach es X.env).findIdx? (·.1)=none:=by rfl):PG X (.Tuple es k pos) (gTup X.K n t):=by
 intro pins s σ H v u Q I r hw
 obtain⟨a,xs,e1,hq,hl,hw⟩:=hw
 subst e1
 cases r
 obtain⟨its,rv,ht,hz⟩:=I.tuple hq
 refine assign_Tuple_tuple (I.ok.hd hc) ht (by simp[hn,<- hl,rv.length]) hst fun h' hx=>?_
 have I1:Inv X pins σ H { s with heap:=h' }:=I.kept (t':=s.toks) fun b o e=>hx b o (Nat.ne_of_lt (Heap.lt_size e)) e
 exact h pins _ σ H xs _ Q I1 (by simpa using rv) hw
noncomputable def gSub (to ti:TE) (t:TSet):TG:=fun v σ H Q=>to σ H fun o H1=>ti σ H1 fun i H2=>t o i v H2 fun H3=>Q σ H3
theorem QaT {o i : Expr} {to ti : TE} {t : TSet} (ho : PE X o to) (hi : PE X i ti) (hs : PSet X t)
  (ha:∀ v,assign (.Subscript o i pos) X.env v=(do
   let ov <- holding [v] (eval o X.env)
   let iv <- holding [v,ov] (eval i X.env)
   standAt pos
   holding [v,ov,iv] (setItem ov iv v)
   release [v,ov,iv] []):=by intro _;rfl):PG X (.Subscript o i pos) (gSub to ti t):=by
 intro pins s σ H v u Q I r h
 rw[ha]
 refine wpAny_bind (wpAny_holding (thn (ho pins s σ H _ I h) fun ov s1 pq13=>?_))
 obtain⟨x,H1,I1,r1,q1⟩:=pq13
 refine wpAny_bind (wpAny_holding (thn (hi pins s1 σ H1 _ I1 q1) fun iv s2 pq14=>?_))
 obtain⟨y,H2,I2,r2,q2⟩:=pq14
 refine wpAny_bind (wpAny_standAt (wpAny_bind (wpAny_holding (thn (hs pins s2 σ H2 x y v ov iv u _ I2 r1 r2 r q2) fun _ s3 pq15=>?_))))
 obtain⟨H3,I3,q3⟩:=pq15
 exact wpAny_release ⟨σ,H3,I3,q3⟩
noncomputable def tAsg (te:TE) (g:TG):TS:=fun D σ H=>te σ H fun x H1=>g x σ H1 D.nx
theorem QaU {tg e : Expr} {te : TE} {g : TG} (he : PE X e te) (hg : PG X tg g) (hs : swapsWithSole [tg] e pos.line X.env = pure false := by rfl) (hw : swappedStores [tg] e X.env = pure none := by rfl)
  (h1:(assignEach [tg] X.env).map (·.2)=[assign tg X.env]:=by rfl):PS X (.Assign [tg] e pos) (tAsg te g):=by
 intro pins s σ H D I h
 refine wpAny_Assign_stores (thn (he pins s σ H _ I h) fun v s1 ⟨x,H1,I1,r1,q1⟩=>?_) hs hw
 rw[h1]
 exact thn (hg pins s1 σ H1 x v _ I1 r1 q1) fun _ s2 q=>q
theorem QaV {i : Nat} {x : Str} {e : Expr} {te : TE} {pos' : Pos} (hN : X.N.Nodup) (hi : X.N[i]? = some x) (hx : Loc X.env.scope x) (he : PE X e te) (hs : swapsWith e (some (.Name x pos')) pos.line X.env = pure false := by rfl) (hf : X.fn x = true \/ X.env.scope.names.lookup x = some .local := by first | exact .inl rfl | exact .inr rfl | assumption) :
  PS X (.Assign [.Name x pos'] e pos) (tAsg te (gName i)):=by
 intro pins s σ H D I h
 refine wpAny_Assign_Name (thn (he pins s σ H _ I h) fun v s1 ⟨y,H1,I1,r1,q1⟩=>?_) hs
 exact Qar I1 hN hi hx r1 (fun s2 I2=>⟨_,H1,I2,q1⟩) hf
end
section
variable {X:Cx}{pos:Pos}
noncomputable def tWhile (c:TT) (tb:TS):TS:=fun D σ H=>∃ W:Nat->St->Hp->Prop,(∃ m,W m σ H)/\∀ m σ H,W m σ H ->
 c σ H fun b H1=>if b=true then ∃ N:St->Hp->Prop,(∀ σ' H',N σ' H'->∃ m',m' < m/\W m' σ' H')/\tb { D with nx:=N,ct:=N,bk:=D.nx } σ H1 else D.nx σ H1
theorem QaW {c:Expr}{body:List Stmt}{tc:TT}{tb:TS} (hp:PassesOwn (model X.prog X.w) X.A X.env X.xe) (hc:PT X c tc) (hb:PSs X body tb):PS X (.While c body [] pos) (tWhile tc tb):=by
 intro pins s σ H D I h
 obtain⟨W,⟨m0,w0⟩,turn⟩:=h
 refine wpAny_While (codeAny_whileLoop (fun n s'=>∃ σ' H',Inv X pins σ' H' s'/\W n σ' H') ?_ m0 ⟨σ,H,I,w0⟩)
 rintro n s1 ⟨σ1,H1,I1,w1⟩
 refine wpAny_passesOwn hp (thn (hc pins s1 σ1 H1 _ I1 (turn n σ1 H1 w1)) fun b s2 pq18=>?_)
 obtain⟨H2,I2,q2⟩:=pq18
 cases b with
 | true=>
  obtain⟨N,hN,q2⟩:=q2
  rw[if_pos rfl]
  refine wpAny_passesOwn hp (thn (hb pins s2 σ1 H2 _ I2 q2) fun f s3 q3=>?_)
  cases f with
  | next=>
   obtain⟨σ3,H3,I3,n3⟩:=q3
   obtain⟨m',hm,w3⟩:=hN σ3 H3 n3
   exact⟨m',hm,σ3,H3,I3,w3⟩
  | cont=>
   obtain⟨σ3,H3,I3,n3⟩:=q3
   obtain⟨m',hm,w3⟩:=hN σ3 H3 n3
   exact⟨m',hm,σ3,H3,I3,w3⟩
  | brk=>exact q3
  | ret v=>exact q3
 | false=>
  rw[if_neg Bool.false_ne_true]
  exact wpAny_execs_nil ⟨σ1,H2,I2,q2⟩
end
structure It where
 go:Nat->Hp->Prop
 yld:Nat->Hp->V->Hp->Prop
 stop:Nat->Hp->Prop
noncomputable def FpOk (X:Cx) (pins:List (Addr × Obj)) (H:Hp) (b:Addr):Prop:=
 H b=none/\b≠X.env.locals/\b∉X.fs/\(b∈X.ex\/X.s₀.heap.objs.size<=b)/\(∀ x c,X.env.cells.lookup x=some c->c≠b)/\∀ p∈X.pn++pins,p.1≠b
theorem Inv.fpOk {X:Cx}{pins:List (Addr × Obj)}{σ:St}{H H':Hp}{s:Shared}{b:Addr} (I:Inv X pins σ H s) (hb:s.heap.objs.size<=b) (hn:H' b=none):FpOk X pins H' b:=by
 refine⟨hn,Nat.ne_of_gt (Nat.lt_of_lt_of_le I.lt hb),I.nofs hb,.inr (Nat.le_trans I.sz hb),fun x c e z=>?_,fun p hp z=>?_⟩
 ·obtain⟨v,q⟩:=I.cell x c e
  exact absurd (Nat.lt_of_lt_of_le q.lt (by rw[z];exact hb)) (Nat.lt_irrefl _)
 ·exact absurd (Nat.lt_of_lt_of_le (Heap.lt_size (I.pin p hp).1) (by rw[z];exact hb)) (Nat.lt_irrefl _)
structure Turn (P:Program) (w:World) (K:PySem.W.Frag) (tg:Expr) (J:It) (fp:List Addr) (it:Addr) (tn:Nat->Heap->Prop):Prop where
 mem:it∈fp
 obj:∀ i h,tn i h->∀ b∈fp,∃ o,h.get? b=some o/\∀ v,o.data≠.cell v
 keep:∀ i h h',tn i h->(∀ b∈fp,∀ o,h.get? b=some o->h'.get? b=some o)->tn i h'
 item:∀ (X:Cx),X.prog=P->X.w=w->X.K=K->X.calm=true->∀ (i:Nat) (pins:List (Addr × Obj)) (s:Shared) (σ:St) (H:Hp) (E:Value->Shared->Prop),Inv X pins σ H s->(∀ b∈fp,FpOk X pins H b)->tn i s.heap->J.go i H ->
  wpAny (model P w) X.A (pyNext (.ref it)) (fun r s1=>∃ u,r=some u /\
   wpAny (model P w) X.A (letOwnedTupleGo tg (.ref it) u) (fun _ s2=>∃ x H',Inv X pins σ H' s2/\RelV x u/\J.yld i H x H'/\tn (i + 1) s2.heap/\∀ b∈fp,H' b=none) E s1) E s
 done:∀ (X:Cx),X.prog=P->X.w=w->X.K=K->X.calm=true->∀ (i:Nat) (pins:List (Addr × Obj)) (s:Shared) (σ:St) (H:Hp) (E:Value->Shared->Prop),Inv X pins σ H s->(∀ b∈fp,FpOk X pins H b)->tn i s.heap->J.stop i H ->
  wpAny (model P w) X.A (pyNext (.ref it)) (fun r s1=>r=none/\Inv X pins σ H s1) E s
 self:∀ (A:Around) (i:Nat) (s:Shared) (Q:Value->Shared->Prop) (E:Value->Shared->Prop),tn i s.heap->Q (.ref it) s->wpAny (model P w) A (pyIter (.ref it)) Q E s
noncomputable abbrev TI:=St->Hp->(It->Hp->Prop)->Prop
noncomputable def PIE (X:Cx) (pins:List (Addr × Obj)) (σ:St) (tg:Expr) (R:It->Hp->Prop) (itv:Value) (s2:Shared):Prop:=
 ∃ (it:Addr) (fp:List Addr) (tn:Nat->Heap->Prop) (J:It) (H':Hp),itv=.ref it/\Inv X pins σ H' s2/\Turn X.prog X.w X.K tg J fp it tn/\tn 0 s2.heap/\(∀ b∈fp,FpOk X pins H' b)/\R J H'
noncomputable def PI (X:Cx) (tg iter:Expr) (wi:TI):Prop:=
 ∀ (pins:List (Addr × Obj)) (s:Shared) (σ:St) (H:Hp) (R:It->Hp->Prop),Inv X pins σ H s->wi σ H R ->
  wpAny (model X.prog X.w) X.A (eval iter X.env) (fun v s1=>wpAny (model X.prog X.w) X.A (pyIter v) (PIE X pins σ tg R) X.xe s1) X.xe s
theorem QaX {M : Model} {A : Around} {E : Value -> Shared -> Prop} {s : Shared} {tg : Expr} {it : Addr} {u : Value} {o : Obj} {n : String} {vs : Array Value} {Q : Unit -> Shared -> Prop} (ho : s.heap.get? it = some o) (hc : o.cls = .type n) (hd : o.data = .fields vs)
  (hn:["enumerate","zip","dict_itemiterator","dict_reverseitemiterator","odict_iterator","itertools.zip_longest","itertools.pairwise"].contains n=false) (hQ:Q () s):wpAny M A (letOwnedTupleGo tg (.ref it) u) Q E s:=by
 unfold letOwnedTupleGo
 cases tg<;>first
  | exact wpAny_pure hQ
  | (cases u <;> first
    | exact wpAny_pure hQ
    | (refine wpAny_bind (wpAny_load ho ?_)
       rw[hc,hd]
       show wpAny M A (if (["enumerate","zip","dict_itemiterator","dict_reverseitemiterator","odict_iterator","itertools.zip_longest","itertools.pairwise"].contains n && vs[0]? == some (rawInt _))=true then _ else _) Q E s
       rw[if_neg (by intro h;rw[hn,Bool.false_and]at h;cases h)]
       exact wpAny_pure hQ))
noncomputable def Itl (K:PySem.W.Frag) (a:Addr):It:=
 ⟨fun i H=>∃ xs x,SqL K H a xs/\xs[i]?=some x,fun i H x H'=>H'=H/\∀ xs,SqL K H a xs->xs[i]?=some x,fun i H=>∃ xs,SqL K H a xs/\xs.length<=i⟩
noncomputable def Itt (K:PySem.W.Frag) (a:Addr):It:=
 ⟨fun i H=>∃ xs x,SqT K H a xs/\xs[i]?=some x,fun i H x H'=>H'=H/\∀ xs,SqT K H a xs->xs[i]?=some x,fun i H=>∃ xs,SqT K H a xs/\xs.length<=i⟩
noncomputable def Itr (lo:Int) (n:Nat):It:=⟨fun i _=>i < n,fun i H x H'=>H'=H/\x=.int (lo + i),fun i _=>n<=i⟩
theorem QaY {P:Program}{w:World}{K:PySem.W.Frag}{tg:Expr} (a it:Addr):Turn P w K tg (Itl K a) [it] it (fun i h=>h.IsListIter it a i) where
 mem:=by simp
 obj:=fun i h st b hb=>by
  have e:b=it:=by simpa using hb
  subst e
  obtain⟨o,e,c,d⟩:=st
  exact⟨o,e,fun v z=>by rw[d]at z;cases z⟩
 keep:=fun i h h' st k=>st.at fun o e=>k it (by simp) o e
 item:=by
  intro X hP hw hK hc i pins s σ H E I hf st hg
  subst hP hw hK
  obtain⟨xs,x,hq,hx⟩:=hg
  obtain⟨its,rv,p,hz⟩:=I.list hq
  obtain⟨u,hu,ru⟩:=rv.get hx
  obtain⟨f0,f1,f2,f3,f4,f5⟩:=hf it (by simp)
  refine wpAny_pyNext_list_item st p.isList (x:=u) (by simpa using hu) fun h' st' sb=>?_
  have I1:Inv X pins σ H { s with heap:=h' }:=I.turned (t':=s.toks) (fun b o hb e=>(sb.2 b hb).trans e) f0 f1 f3 f4 f5
  obtain⟨o,e,c,d⟩:=id st'
  exact⟨u,rfl,QaX (s:={ s with heap:=h' }) e c d (by decide) ⟨x,H,I1,ru,⟨rfl,fun ys hy=>by rw[I.list_inj hy hq];exact hx⟩,st',fun b hb=>(hf b hb).1⟩⟩
 done:=by
  intro X hP hw hK hc i pins s σ H E I hf st hg
  subst hP hw hK
  obtain⟨xs,hq,hx⟩:=hg
  obtain⟨its,rv,p,hz⟩:=I.list hq
  obtain⟨f0,f1,f2,f3,f4,f5⟩:=hf it (by simp)
  have hl:=rv.length
  exact wpAny_pyNext_list_end (I.ok.hd hc) st p.isList (by simp;ac_nf) fun h' eb=>⟨rfl,I.turned (t':=s.toks) (fun b o hb e=>eb b o hb e) f0 f1 f3 f4 f5⟩
 self:=fun _ _ _ _ _ st h=>wpAny_pyIter_listiter st h
theorem QaZ {P:Program}{w:World}{K:PySem.W.Frag}{tg:Expr} (a it:Addr):Turn P w K tg (Itt K a) [it] it (fun i h=>h.IsTupleIter it a i) where
 mem:=by simp
 obj:=fun i h st b hb=>by
  have e:b=it:=by simpa using hb
  subst e
  obtain⟨o,e,c,d⟩:=st
  exact⟨o,e,fun v z=>by rw[d]at z;cases z⟩
 keep:=fun i h h' st k=>st.at fun o e=>k it (by simp) o e
 item:=by
  intro X hP hw hK hc i pins s σ H E I hf st hg
  subst hP hw hK
  obtain⟨xs,x,hq,hx⟩:=hg
  obtain⟨its,rv,p,hz⟩:=I.tuple hq
  obtain⟨u,hu,ru⟩:=rv.get hx
  obtain⟨f0,f1,f2,f3,f4,f5⟩:=hf it (by simp)
  refine wpAny_pyNext_tuple_item st (show s.heap.IsTuple a its.toArray from p) (x:=u) (by simpa using hu) fun h' st' sb=>?_
  have I1:Inv X pins σ H { s with heap:=h' }:=I.turned (t':=s.toks) (fun b o hb e=>(sb.2 b hb).trans e) f0 f1 f3 f4 f5
  obtain⟨o,e,c,d⟩:=id st'
  exact⟨u,rfl,QaX (s:={ s with heap:=h' }) e c d (by decide) ⟨x,H,I1,ru,⟨rfl,fun ys hy=>by rw[I.tuple_inj hy hq];exact hx⟩,st',fun b hb=>(hf b hb).1⟩⟩
 done:=by
  intro X hP hw hK hc i pins s σ H E I hf st hg
  subst hP hw hK
  obtain⟨xs,hq,hx⟩:=hg
  obtain⟨its,rv,p,hz⟩:=I.tuple hq
  obtain⟨f0,f1,f2,f3,f4,f5⟩:=hf it (by simp)
  have hl:=rv.length
  exact wpAny_pyNext_tuple_end (I.ok.hd hc) st (show s.heap.IsTuple a its.toArray from p) (by simp;ac_nf) fun h' eb=>⟨rfl,I.turned (t':=s.toks) (fun b o hb e=>eb b o hb e) f0 f1 f3 f4 f5⟩
 self:=fun _ _ _ _ _ st h=>wpAny_pyIter_tupleiter st h
theorem Qa0 {P:Program}{w:World}{K:PySem.W.Frag}{tg:Expr} (it:Addr) (lo:Int) (n:Nat):Turn P w K tg (Itr lo n) [it] it (fun i h=>IsRangeIter h it (lo + (i:Nat) * 1) ((n:Int) - (i:Nat)) 1) where
 mem:=by simp
 obj:=fun i h st b hb=>by
  have e:b=it:=by simpa using hb
  subst e
  exact⟨_,st,fun v z=>by
   have z':Data.fields _=Data.cell v:=z
   cases z'⟩
 keep:=fun i h h' st k=>k it (by simp) _ st
 item:=by
  intro X hP hw hK hc i pins s σ H E I hf st hg
  subst hP hw hK
  obtain⟨f0,f1,f2,f3,f4,f5⟩:=hf it (by simp)
  have W:=Walks.range (prog:=X.prog) (w:=X.w) (I.ok.hd hc) it lo 1 n
  refine W.item i s _ _ hg st fun v h' tk hv st' kk=>?_
  obtain⟨t,rfl⟩:=hv
  have I1:Inv X pins σ H { s with heap:=h',toks:=tk }:=I.turned (fun b o hb e=>kk b o (by simpa using hb) e) f0 f1 f3 f4 f5
  refine⟨_,rfl,QaX (s:={ s with heap:=h',toks:=tk }) (n:="range_iterator") st' rfl rfl (by decide) ⟨.int (lo + i),H,I1,⟨t,?_⟩,⟨rfl,rfl⟩,st',fun b hb=>(hf b hb).1⟩⟩
  rw[Int.mul_one]
 done:=by
  intro X hP hw hK hc i pins s σ H E I hf st hg
  subst hP hw hK
  obtain⟨f0,f1,f2,f3,f4,f5⟩:=hf it (by simp)
  exact wpAny_pyNext_range_end (I.ok.hd hc) st (by have:n<=i:=hg;ac_nf) fun h' eb=>⟨rfl,I.turned (t':=s.toks) (fun b o hb e=>eb b o hb e) f0 f1 f3 f4 f5⟩
 self:=fun _ _ _ _ _ st h=>wpAny_pyIter_rangeiter st h
section
variable {X:Cx}{tg:Expr}
noncomputable def iList (K:PySem.W.Frag) (tl:TE):TI:=fun σ H R=>tl σ H fun x H1=>∃ a,x=.ref a/\(∃ xs,SqL K H1 a xs)/\R (Itl K a) H1
theorem Qa1 {l:Expr}{tl:TE} (hl:PE X l tl):PI X tg l (iList X.K tl):=by
 intro pins s σ H R I h
 refine thn (hl pins s σ H _ I h) fun v s1 pq19=>?_
 obtain⟨x,H1,I1,r1,q1⟩:=pq19
 obtain⟨a,e,⟨xs,hq⟩,q⟩:=q1
 subst e
 cases r1
 obtain⟨its,rv,p,hz⟩:=I1.list hq
 refine wpAny_pyIter_list p.isList ?_
 refine⟨s1.heap.objs.size,[s1.heap.objs.size],_,_,H1,rfl,I1.kept (t':=s1.toks) fun b o e=>Heap.get?_push_of_some _ e,QaY a _,⟨_,Heap.get?_push_size _ rfl,rfl,rfl⟩,fun b hb=>?_,q⟩
 have e:b=s1.heap.objs.size:=by simpa using hb
 subst e
 exact I1.fpOk (Nat.le_refl _) (I1.hok.fresh (Nat.le_refl _))
theorem Qa2 {pins : List (Addr × Obj)} {σ : St} {H : Hp} {s : Shared} {R : It -> Hp -> Prop} {E : Value -> Shared -> Prop} {lo hi : Int} {t u v : Tok} {tk : Nat} (I : Inv X pins σ H s) (h1 : -(2 ^ 62) <= lo) (h2 : lo < 2 ^ 62) (h3 : -(2 ^ 62) <= hi) (h4 : hi < 2 ^ 62)
  (q:R (Itr lo (hi - lo).toNat) H):wpAny (model X.prog X.w) X.A (pyIter (.ref s.heap.objs.size)) (PIE X pins σ tg R) E { s with heap:=s.heap.push { cls:=.type "range",data:=.fields #[.int lo t,.int hi u,.int 1 v] },toks:=tk }:=by
 refine wpAny_pyIter_range (IsRange.new ..) (small_one h1 h2 h3 h4) ?_
 have I1:Inv X pins σ H { s with heap:=s.heap.push { cls:=.type "range",data:=.fields #[.int lo t,.int hi u,.int 1 v] },toks:=tk }:=I.kept fun b o e=>Heap.get?_push_of_some _ e
 refine⟨(s.heap.push { cls:=.type "range",data:=.fields #[.int lo t,.int hi u,.int 1 v] }).objs.size,[(s.heap.push { cls:=.type "range",data:=.fields #[.int lo t,.int hi u,.int 1 v] }).objs.size],_,_,H,rfl,
  I1.kept (t':=tk) fun b o e=>Heap.get?_push_of_some _ e,Qa0 _ lo (hi - lo).toNat,?_,fun b hb=>?_,q⟩
 ·have e1:lo + ((0:Nat):Int) * 1=lo:=by simp
  have e2:(((hi - lo).toNat:Nat):Int) - ((0:Nat):Int)=Builtin.Range.rangeSize lo hi 1:=by rw[rangeSize_one];split<;>ac_nf
  show IsRangeIter _ _ (lo + ((0:Nat):Int) * 1) ((((hi - lo).toNat:Nat):Int) - ((0:Nat):Int)) 1
  rw[e1,e2]
  exact Heap.get?_push_size _ rfl
 ·have e:b=(s.heap.push { cls:=.type "range",data:=.fields #[.int lo t,.int hi u,.int 1 v] }).objs.size:=by simpa using hb
  subst e
  exact I1.fpOk (Nat.le_refl _) (I1.hok.fresh (Nat.le_refl _))
noncomputable def iRng1 (ta:TA):TI:=fun σ H R=>ta σ H fun vs H1=>∃ j:Int,vs=[.int j] /\ -(2 ^ 62)<=j/\j < 2 ^ 62/\R (Itr 0 j.toNat) H1
theorem Qa3 {a:Expr}{ta:TA}{p pos:Pos} (hg:Gl X "range") (hm:X.mg "range"=none) (ha:PA X [a] ta) (hs:starEach [a] X.env=[(false,eval a X.env)]:=by rfl):PI X tg (.Call (.Name "range" p) [a] [] pos) (iRng1 ta):=by
 intro pins s σ H R I h
 refine Call_ (Qay I hg hm boot_range (PyProof.Rows.callWith_type1 (thn (ha pos pins s σ H _ I h) fun us s1 ⟨vs,H1,I1,r1,q1⟩=>?_) hs rfl))
 obtain⟨j,e,q1,q2,q⟩:=q1
 subst e
 cases r1 with
 | cons r rr=>
  cases rr
  obtain⟨t,rfl⟩:=r
  exact call_range_1 (Qa2 I1 (by ac_nf) (by ac_nf) q1 q2 (by simpa using q))
noncomputable def tFor (wi:TI) (g:TG) (tb:TS):TS:=fun D σ H=>wi σ H fun J H1=>∃ W:Nat->Nat->St->Hp->Prop,(∃ m,W 0 m σ H1)/\∀ i m σ H,W i m σ H ->
 (J.stop i H/\D.nx σ H)\/(J.go i H/\∃ N:St->Hp->Prop,(∀ σ' H',N σ' H'->∃ m',m' < m/\W (i + 1) m' σ' H')/\∀ x H',J.yld i H x H'->g x σ H' fun σ2 H2=>tb { D with nx:=N,ct:=N,bk:=D.nx } σ2 H2)
noncomputable def pinsAt (fp:List Addr) (h:Heap):List (Addr × Obj):=fp.filterMap fun b=>(h.get? b).map fun o=>(b,o)
theorem Qa4 {fp:List Addr}{h:Heap}{b:Addr}{o:Obj} (hb:b∈fp) (e:h.get? b=some o):(b,o)∈pinsAt fp h:=List.mem_filterMap.mpr ⟨b,hb,by rw[e];rfl⟩
theorem Qa5 {fp:List Addr}{h:Heap}{p:Addr × Obj} (hp:p∈pinsAt fp h):p.1∈fp/\h.get? p.1=some p.2:=by
 obtain⟨b,hb,e⟩:=List.mem_filterMap.mp hp
 cases q:h.get? b with
 | none=>rw[q]at e;cases e
 | some o=>
  rw[q]at e
  have e':(b,o)=p:=Option.some.inj e
  subst e'
  exact⟨hb,q⟩
theorem Inv.pinned {pins:List (Addr × Obj)}{σ:St}{H:Hp}{s:Shared}{fp:List Addr} (I:Inv X pins σ H s) (hf:∀ b∈fp,FpOk X pins H b) (ho:∀ b∈fp,∃ o,s.heap.get? b=some o/\∀ v,o.data≠.cell v):Inv X (pins++pinsAt fp s.heap) σ H s:=
 I.pins_of fun p hp=>(List.mem_append.mp hp).elim (fun z=>I.pin p (List.mem_append_right _ z)) fun z=>by
  obtain⟨hb,e⟩:=Qa5 z
  obtain⟨f0,f1,f2,_⟩:=hf p.1 hb
  obtain⟨o,e',d⟩:=ho p.1 hb
  rw[e]at e';cases e'
  exact⟨e,f0,f1,f2,d⟩
theorem Inv.unpinned {pins pl:List (Addr × Obj)}{σ:St}{H:Hp}{s:Shared} (I:Inv X (pins++pl) σ H s):Inv X pins σ H s:=I.pins_of fun p hp=>I.pin p (List.mem_append_right _ (List.mem_append_left _ hp))
theorem Qa6 {iter : Expr} {body : List Stmt} {wi : TI} {g : TG} {tb : TS} {pos : Pos} (hp : PassesOwn (model X.prog X.w) X.A X.env X.xe) (hc : X.calm = true) (hi : PI X tg iter wi) (hg : PG X tg g) (hb : PSs X body tb)
  (hs:∀ x,foldedSetIterable iter X.env x=pure x:=by intro _;rfl):PS X (.For tg iter body [] pos) (tFor wi g tb):=by
 intro pins s σ H D I h
 refine wpAny_For (thn (hi pins s σ H _ I h) fun v s1 h1=>thn h1 fun itv s2 h2=>?_) hs
 obtain⟨it,fp,tn,J,H2,e,I2,T,st2,f2,W,⟨m0,w0⟩,turn⟩:=h2
 subst e
 have stat:∀ {H':Hp},(∀ b∈fp,H' b=none)->∀ b∈fp,FpOk X pins H' b:=fun hn b hb=>⟨hn b hb,(f2 b hb).2⟩
 refine codeAny_forLoop_any (fun n s'=>∃ i σ' H',Inv X pins σ' H' s'/\tn i s'.heap/\(∀ b∈fp,H' b=none)/\W i n σ' H') ?_ m0 ⟨0,σ,H2,I2,st2,fun b hb=>(f2 b hb).1,w0⟩
 rintro n s3 ⟨i,σ3,H3,I3,st3,fr3,w3⟩
 rcases turn i n σ3 H3 w3 with ⟨stop,qn⟩ | ⟨go,N,hN,step⟩
 ·refine wpAny_passesOwn hp (thn (T.done X rfl rfl rfl hc i pins s3 σ3 H3 X.xe I3 (stat fr3) st3 stop) fun r s4 pq21=>?_)
  obtain⟨hr,I4⟩:=pq21
  subst hr
  exact wpAny_execs_nil ⟨σ3,H3,I4,qn⟩
 ·refine wpAny_passesOwn hp (thn (T.item X rfl rfl rfl hc i pins s3 σ3 H3 X.xe I3 (stat fr3) st3 go) fun r s4 pq22=>?_)
  obtain⟨u,hr,h4⟩:=pq22
  subst hr
  refine wpAny_passesOwn hp (thn h4 fun _ s5 pq23=>?_)
  obtain⟨x,H5,I5,r5,y5,st5,fr5⟩:=pq23
  have I5':=I5.pinned (stat fr5) (T.obj _ _ st5)
  refine wpAny_passesOwn hp (thn (hg _ s5 σ3 H5 x u _ I5' r5 (step x H5 y5)) fun _ s6 pq24=>?_)
  obtain⟨σ6,H6,I6,q6⟩:=pq24
  refine wpAny_passesOwn hp (thn (hb _ s6 σ6 H6 _ I6 q6) fun f s7 q7=>?_)
  have again:∀ {σ7:St}{H7:Hp},Inv X (pins++pinsAt fp s5.heap) σ7 H7 s7->N σ7 H7->∃ m,m < n/\∃ i σ' H',Inv X pins σ' H' s7/\tn i s7.heap/\(∀ b∈fp,H' b=none)/\W i m σ' H':=fun {σ7 H7} I7 n7=>by
   obtain⟨m',hm,w7⟩:=hN σ7 H7 n7
   refine⟨m',hm,i + 1,σ7,H7,I7.unpinned,T.keep _ _ _ st5 fun b hb o e=>(I7.pin (b,o) (List.mem_append_right _ (List.mem_append_right _ (Qa4 hb e)))).1,fun b hb=>?_,w7⟩
   obtain⟨o,e,d⟩:=T.obj _ _ st5 b hb
   exact (I7.pin (b,o) (List.mem_append_right _ (List.mem_append_right _ (Qa4 hb e)))).2.1
  cases f with
  | next=>obtain⟨σ7,H7,I7,n7⟩:=q7;exact again I7 n7
  | cont=>obtain⟨σ7,H7,I7,n7⟩:=q7;exact again I7 n7
  | brk=>obtain⟨σ7,H7,I7,q7⟩:=q7;exact⟨σ7,H7,I7.unpinned,q7⟩
  | ret v=>obtain⟨x7,σ7,H7,I7,r7,q7⟩:=q7;exact⟨x7,σ7,H7,I7.unpinned,r7,q7⟩
end
noncomputable abbrev R2:=V->V->Hp->VK->Prop
noncomputable def OpR (X:Cx) (f:Value->Value->Sem Value) (r:R2):Prop:=
 ∀ (pins:List (Addr × Obj)) (s:Shared) (σ:St) (H:Hp) (x y:V) (v u:Value) (Q:VK),Inv X pins σ H s->RelV x v->RelV y u->r x y H Q ->
  wpAny (model X.prog X.w) X.A (f v u) (EP X pins σ Q) X.xe s
noncomputable def CallR (X:Cx) (f:Value) (r:List V->Hp->VK->Prop):Prop:=
 ∀ (pins:List (Addr × Obj)) (s:Shared) (σ:St) (H:Hp) (xs:List V) (us:List Value) (Q:VK),Inv X pins σ H s->Vals xs us->r xs H Q ->
  wpAny (model X.prog X.w) X.A (call f us) (EP X pins σ Q) X.xe s
noncomputable def TruR (X:Cx) (r:V->Hp->(Bool->Hp->Prop)->Prop):Prop:=
 ∀ (pins:List (Addr × Obj)) (s:Shared) (σ:St) (H:Hp) (x:V) (v:Value) (Q:Bool->Hp->Prop),Inv X pins σ H s->RelV x v->r x H Q ->
  wpAny (model X.prog X.w) X.A (truthy v) (TP X pins σ Q) X.xe s
noncomputable def tOp (r:R2) (ta tb:TE):TE:=fun σ H Q=>ta σ H fun x H1=>tb σ H1 fun y H2=>r x y H2 Q
noncomputable def rI (C:Int->Int->Prop) (g:Int->Int->V):R2:=fun x y H Q=>∃ i j,x=.int i/\y=.int j/\C i j/\Q (g i j) H
noncomputable def rI0 (g:Int->Int->V):R2:=fun x y H Q=>∃ i j,x=.int i/\y=.int j/\Q (g i j) H
section
variable {X:Cx}{a b c:Expr}{ta tb tc:TE}{pos:Pos}
theorem binT (ha : PE X a ta) (hb : PE X b tb) {pins : List (Addr × Obj)} {s : Shared} {σ : St} {H : Hp} {R : V -> V -> Hp -> Prop} (I : Inv X pins σ H s)
  (h:ta σ H fun x H1=>tb σ H1 fun y H2=>R x y H2) {Q:Value->Shared->Prop}{f:Value->Value->Sem Value}
  (hf:∀ v u s2 x y H2,Inv X pins σ H2 s2->RelV x v->RelV y u->R x y H2->wpAny (model X.prog X.w) X.A (f v u) Q X.xe s2):
  wpAny (model X.prog X.w) X.A (eval a X.env) (fun v s₁=>wpAny (model X.prog X.w) X.A (eval b X.env) (fun u s₂=>wpAny (model X.prog X.w) X.A (f v u) Q X.xe s₂) X.xe s₁) X.xe s:=by
 refine thn (ha pins s σ H _ I h) fun v s1 pq25=>?_
 obtain⟨x,H1,I1,r1,q1⟩:=pq25
 refine thn (hb pins s1 σ H1 _ I1 q1) fun u s2 pq26=>?_
 obtain⟨y,H2,I2,r2,q2⟩:=pq26
 exact hf v u s2 x y H2 I2 r1 r2 q2
theorem Qa7 {op:Operator}{r:R2} (ho:OpR X (binaryOp op) r) (ha:PE X a ta) (hb:PE X b tb):PE X (.BinOp a op b pos) (tOp r ta tb):=by
 intro pins s σ H Q I h
 exact wpAny_BinOp (binT ha hb I h fun v u s2 x y H2 I2 rx ry q=>ho pins s2 σ H2 x y v u Q I2 rx ry q)
theorem opI {f : Value -> Value -> Sem Value} {C : Int -> Int -> Prop} {g : Int -> Int -> Int}
  (rule:∀ (i j:Int) (t u:Tok) (s:Shared) (Q:Value->Shared->Prop) (E:Value->Shared->Prop),C i j->Q (.int (g i j) s.toks) { s with toks:=s.toks + 1 }->wpAny (model X.prog X.w) X.A (f (.int i t) (.int j u)) Q E s):
  OpR X f (rI C fun i j=>.int (g i j)):=by
 intro pins s σ H x y v u Q I rx ry h
 obtain⟨i,j,rfl,rfl,hc,q⟩:=h
 obtain⟨t,rfl⟩:=rx
 obtain⟨t',rfl⟩:=ry
 exact rule i j t t' s _ _ hc ⟨.int (g i j),H,I.tok _,⟨_,rfl⟩,q⟩
theorem opI0 {f : Value -> Value -> Sem Value} {g : Int -> Int -> Int}
  (rule:∀ (i j:Int) (t u:Tok) (s:Shared) (Q:Value->Shared->Prop) (E:Value->Shared->Prop),Q (.int (g i j) s.toks) { s with toks:=s.toks + 1 }->wpAny (model X.prog X.w) X.A (f (.int i t) (.int j u)) Q E s):
  OpR X f (rI0 fun i j=>.int (g i j)):=by
 intro pins s σ H x y v u Q I rx ry h
 obtain⟨i,j,rfl,rfl,q⟩:=h
 obtain⟨t,rfl⟩:=rx
 obtain⟨t',rfl⟩:=ry
 exact rule i j t t' s _ _ ⟨.int (g i j),H,I.tok _,⟨_,rfl⟩,q⟩
theorem opB0 {f : Value -> Value -> Sem Value} {g : Int -> Int -> Bool}
  (rule:∀ (i j:Int) (t u:Tok) (s:Shared) (Q:Value->Shared->Prop) (E:Value->Shared->Prop),Q (.bool (g i j)) s->wpAny (model X.prog X.w) X.A (f (.int i t) (.int j u)) Q E s):
  OpR X f (rI0 fun i j=>.bl (g i j)):=by
 intro pins s σ H x y v u Q I rx ry h
 obtain⟨i,j,rfl,rfl,q⟩:=h
 obtain⟨t,rfl⟩:=rx
 obtain⟨t',rfl⟩:=ry
 exact rule i j t t' s _ _ ⟨.bl (g i j),H,I,rfl,q⟩
noncomputable def CDiv (i j:Int):Prop:=0 < j/\j < 1073741824
noncomputable def CPow (i j:Int):Prop:=0<=j/\j<=1000000/\i.natAbs < 2 ^ 64
noncomputable def CMul (i j:Int):Prop:=(-(2 ^ 64) < i/\i < 2 ^ 64)\/(-(2 ^ 64) < j/\j < 2 ^ 64)
theorem CMul.ok {i j:Int} (h:CMul i j):IntMulOk i j:=by
 rcases h with ⟨h1,h2⟩ | ⟨h1,h2⟩
 ·exact .of_left (intBits_le_64 h1 h2)
 ·exact .of_right (intBits_le_64 h1 h2)
theorem Qa8 (k:Nat):(0:Int)<=2 ^ k:=by
 rw[two_pow_cast]
 exact Int.natCast_nonneg _
theorem Qa9:OpR X (binaryOp .Add) (rI0 fun i j=>.int (i + j)):=opI0 fun _ _ _ _ _ _ _ q=>add_int q
theorem Qba:OpR X (binaryOp .Sub) (rI0 fun i j=>.int (i - j)):=opI0 fun _ _ _ _ _ _ _ q=>sub_int q
theorem Qbb:OpR X (binaryOp .Mult) (rI CMul fun i j=>.int (i * j)):=opI fun _ _ _ _ _ _ _ hc q=>mul_int q hc.ok
theorem Qbc:OpR X (binaryOp .FloorDiv) (rI CDiv fun i j=>.int (i / j)):=opI fun i j _ _ _ _ _ hc q=>by
 have h1:(0:Int) < j:=hc.1
 have h2:j < 1073741824:=hc.2
 exact floordiv_int (by ac_nf) (by rw[Int.fdiv_eq_ediv_of_nonneg i (by ac_nf)];exact q) (.inl (PyProof.noPylong_small (by ac_nf)))
theorem Qbd:OpR X (binaryOp .Mod) (rI (fun _ j=>0 < j) fun i j=>.int (i % j)):=opI fun i j _ _ _ _ _ hc q=>by
 have h1:(0:Int) < j:=hc
 exact mod_int' (by ac_nf) (by rw[Int.fmod_eq_emod_of_nonneg i (by ac_nf)];exact q)
theorem Qbe:OpR X (binaryOp .Pow) (rI CPow fun i j=>.int (i ^ j.toNat)):=opI fun _ _ _ _ _ _ _ hc q=>pow_int_small hc.1 hc.2.1 hc.2.2 q
theorem Qbf:OpR X (binaryOp .LShift) (rI CPow fun i j=>.int (i * 2 ^ j.toNat)):=opI fun _ _ _ _ _ _ _ hc q=>lshift_int_small hc.1 hc.2.1 hc.2.2 q
theorem Qbg:OpR X (binaryOp .RShift) (rI (fun _ j=>0<=j) fun i j=>.int (i / 2 ^ j.toNat)):=opI fun i j _ _ _ _ _ hc q=>
 rshift_int hc (by rw[Int.fdiv_eq_ediv_of_nonneg i (Qa8 _)];exact q)
theorem Qbh:OpR X (binaryOp .BitAnd) (rI0 fun i j=>.int (Builtin.bitAnd i j)):=opI0 fun _ _ _ _ _ _ _ q=>and_int q
end
section
variable {X:Cx}{a b c:Expr}{ta tb tc:TE}{pos:Pos}
theorem Qbi {pins:List (Addr × Obj)}{σ:St}{H:Hp}{s:Shared}{Q:VK}{k k':Bool} (I:Inv X pins σ H s) (q:Q (.bl k) H) (e:k=k'):EP X pins σ Q (.bool k') s:=by
 subst e
 exact⟨.bl k,H,I,rfl,q⟩
theorem Qbj:OpR X (compareOp .Lt) (rI0 fun i j=>.bl (decide (i < j))):=opB0 fun _ _ _ _ _ _ _ q=>lt_int q
theorem Qbk:OpR X (compareOp .LtE) (rI0 fun i j=>.bl (decide (i<=j))):=opB0 fun _ _ _ _ _ _ _ q=>le_int q
theorem Qbl:OpR X (compareOp .Gt) (rI0 fun i j=>.bl (decide (j < i))):=opB0 fun _ _ _ _ _ _ _ q=>gt_int q
theorem Qbm:OpR X (compareOp .GtE) (rI0 fun i j=>.bl (decide (j<=i))):=opB0 fun _ _ _ _ _ _ _ q=>ge_int q
theorem Qbn:OpR X (compareOp .Is) (fun x y H Q=>y=.non/\Q (.bl (decide (x=.non))) H):=by
 intro pins s σ H x y v u Q I rx ry h
 obtain⟨rfl,q⟩:=h
 cases ry
 refine is_none_gen (Qbi I q ?_)
 cases x<;>first
  | (cases rx;rfl)
  | (obtain⟨t,rfl⟩:=rx;rfl)
theorem Qbo:OpR X (compareOp .IsNot) (fun x y H Q=>y=.non/\Q (.bl (!decide (x=.non))) H):=by
 intro pins s σ H x y v u Q I rx ry h
 obtain⟨rfl,q⟩:=h
 cases ry
 refine isnot_none_gen (Qbi I q ?_)
 cases x<;>first
  | (cases rx;rfl)
  | (obtain⟨t,rfl⟩:=rx;rfl)
theorem Qbp (b:Expr) {op:CmpOp} (h:op≠.In:=by decide) (h2:op≠.NotIn:=by decide):behindInMarks op b=false:=by
 have e1:(op == CmpOp.In)=false:=by cases op<;>first | rfl | exact absurd rfl h
 have e2:(op == CmpOp.NotIn)=false:=by cases op<;>first | rfl | exact absurd rfl h2
 cases b<;>simp[behindInMarks,e1,e2]
theorem Qbq {op:CmpOp}{r:R2} (ho:OpR X (compareOp op) r) (ha:PE X a ta) (hb:PE X b tb) (hm:behindInMarks op b=false):PE X (.Compare a [op] [b] pos) (tOp r ta tb):=by
 intro pins s σ H Q I h
 exact wpAny_Compare1 (binT ha hb I h fun v u s2 x y H2 I2 rx ry q=>ho pins s2 σ H2 x y v u Q I2 rx ry q) hm
noncomputable def tTest (t:TE):TT:=fun σ H Q=>t σ H fun x H'=>∃ k,x=.bl k/\Q k H'
theorem Qbr {op:CmpOp}{r:R2} (ho:OpR X (compareOp op) r) (ha:PE X a ta) (hb:PE X b tb) (hm:behindInMarks op b=false):PT X (.Compare a [op] [b] pos) (tTest (tOp r ta tb)):=by
 intro pins s σ H Q I h
 refine wpAny_isTrue_Compare1 (thn (ha pins s σ H _ I h) fun v s1 ⟨x,H1,I1,r1,q1⟩=>thn (hb pins s1 σ H1 _ I1 q1) fun u s2 ⟨y,H2,I2,r2,q2⟩=>
  thn (ho pins s2 σ H2 x y v u _ I2 r1 r2 q2) fun c s3 ⟨z,H3,I3,r3,k,e,q3⟩=>?_) hm
 subst e
 cases r3
 exact wpAny_truthy_bool ⟨H3,I3,q3⟩
noncomputable def tChain (r r':R2) (ta tb tc:TE):TE:=fun σ H Q=>ta σ H fun x H1=>tb σ H1 fun y H2=>r x y H2 fun z H3=>∃ k,z=.bl k /\
 (if k=true then tc σ H3 fun w' H4=>r' y w' H4 Q else Q (.bl false) H3)
theorem Qbs {op op' : CmpOp} {r r' : R2} (ho : OpR X (compareOp op) r) (ho' : OpR X (compareOp op') r') (ha : PE X a ta) (hb : PE X b tb) (hc : PE X c tc)
  (hm:lastMarks [op,op'] [b,c]=false:=by with_unfolding_all rfl):PE X (.Compare a [op,op'] [b,c] pos) (tChain r r' ta tb tc):=by
 intro pins s σ H Q I h
 refine Compare_chain (thn (ha pins s σ H _ I h) fun v s1 ⟨x,H1,I1,r1,q1⟩=>chain_link (thn (hb pins s1 σ H1 _ I1 q1) fun u s2 ⟨y,H2,I2,r2,q2⟩=>
  thn (ho pins s2 σ H2 x y v u _ I2 r1 r2 q2) fun d s3 ⟨z,H3,I3,r3,k,e,q3⟩=>?_)) hm
 subst e
 cases r3
 refine wpAny_truthy_bool ?_
 cases k with
 | false=>exact ite_ff ⟨.bl false,H3,I3,rfl,q3⟩
 | true=>exact ite_tt (chain_last (thn (hc pins s3 σ H3 _ I3 q3) fun w' s4 ⟨z',H4,I4,r4,q4⟩=>ho' pins s4 σ H4 y z' u w' Q I4 r2 r4 q4))
theorem Qbt {op op' : CmpOp} {r r' : R2} (ho : OpR X (compareOp op) r) (ho' : OpR X (compareOp op') r') (ha : PE X a ta) (hb : PE X b tb) (hc : PE X c tc)
  (hm:lastMarks [op,op'] [b,c]=false:=by with_unfolding_all rfl):PT X (.Compare a [op,op'] [b,c] pos) (tTest (tChain r r' ta tb tc)):=by
 intro pins s σ H Q I h
 refine isTrue_chain (thn (ha pins s σ H _ I h) fun v s1 ⟨x,H1,I1,r1,q1⟩=>test_link (thn (hb pins s1 σ H1 _ I1 q1) fun u s2 ⟨y,H2,I2,r2,q2⟩=>
  thn (ho pins s2 σ H2 x y v u _ I2 r1 r2 q2) fun d s3 ⟨z,H3,I3,r3,k,e,q3⟩=>?_)) hm
 subst e
 cases r3
 refine wpAny_truthy_bool ?_
 cases k with
 | false=>
  obtain⟨k',e',q'⟩:=q3
  cases e'
  exact ite_ff ⟨H3,I3,q'⟩
 | true=>
  refine ite_tt (test_last (thn (hc pins s3 σ H3 _ I3 q3) fun w' s4 ⟨z',H4,I4,r4,q4⟩=>thn (ho' pins s4 σ H4 y z' u w' _ I4 r2 r4 q4) fun d' s5 ⟨z2,H5,I5,r5,k2,e2,q5⟩=>?_))
  subst e2
  cases r5
  exact wpAny_truthy_bool ⟨H5,I5,q5⟩
noncomputable def TruV (K:PySem.W.Frag) (x:V) (H:Hp) (k:Bool):Prop:=
 match x with
 | .non=>k=false
 | .bl b=>k=b
 | .int i=>k=(i != 0)
 | .str y=>y.length<=sizeLine/\k=((y.length:Int) != 0)
 | .byt y=>y.size<=sizeLine/\k=((y.size:Int) != 0)
 | .ref p=>(∃ xs,SqL K H p xs/\k = !xs.isEmpty)\/(∃ xs,SqT K H p xs/\k = !xs.isEmpty)\/∃ kvs,H p=some (.dK kvs)/\k = !kvs.isEmpty
 | _=>False
theorem Qbu {κ:Type}{kvs:List (κ × V)}{vs:List (κ × Value)} (r:KV kvs vs):(!vs.isEmpty) = !kvs.isEmpty:=by
 cases r<;>rfl
theorem Qbv {xs:List V}{its:List Value} (r:Vals xs its):(!its.toArray.isEmpty) = !xs.isEmpty:=by
 cases r<;>simp
theorem Qbw:(sizeLine:Nat) < 2 ^ 63:=by rw[sizeLine_eq];decide
theorem Qbx:TruR X (fun x H Q=>∃ k,TruV X.K x H k/\Q k H):=by
 intro pins s σ H x v Q I rx h
 obtain⟨k,e,q⟩:=h
 have hl:=Qbw
 have hs:sizeLine=16777216:=sizeLine_eq
 cases x with
 | non=>
  cases rx
  have e':k=false:=e
  subst e'
  exact truthy_none ⟨H,I,q⟩
 | bl b=>
  cases rx
  have e':k=b:=e
  subst e'
  exact wpAny_truthy_bool ⟨H,I,q⟩
 | int i=>
  obtain⟨t,rfl⟩:=rx
  have e':k=(i != 0):=e
  subst e'
  exact PySem.P.truthy_int ⟨H,I,q⟩
 | str y=>
  obtain⟨t,rfl⟩:=rx
  obtain⟨hy,e'⟩:y.length<=sizeLine/\k=((y.length:Int) != 0):=e
  subst e'
  exact PySem.P.truthy_str (by ac_nf) ⟨H,I.tok _,q⟩
 | byt y=>
  obtain⟨t,rfl⟩:=rx
  obtain⟨hy,e'⟩:y.size<=sizeLine/\k=((y.size:Int) != 0):=e
  subst e'
  exact PySem.W.truthy_bytes (by ac_nf) ⟨H,I.tok _,q⟩
 | ref p=>
  cases rx
  have e':(∃ xs,SqL X.K H p xs/\k = !xs.isEmpty)\/(∃ xs,SqT X.K H p xs/\k = !xs.isEmpty)\/∃ kvs,H p=some (.dK kvs)/\k = !kvs.isEmpty:=e
  rcases e' with ⟨xs,hx,e'⟩ | ⟨xs,hx,e'⟩ | ⟨kvs,hx,e'⟩
  ·subst e'
   obtain⟨its,r,pl,hz⟩:=I.list hx
   have hlen:=r.length
   exact wpAny_truthy_list pl.isList (by simp only[List.size_toArray];ac_nf) ⟨H,I.tok _,by rw[Qbv r];exact q⟩
  ·subst e'
   obtain⟨its,r,pl,hz⟩:=I.tuple hx
   have hlen:=r.length
   exact truthy_tuple pl (by simp only[List.size_toArray];ac_nf) ⟨H,I.tok _,by rw[Qbv r];exact q⟩
  ·subst e'
   obtain⟨hz,hS,vs,r,m⟩:kvs.length<=sizeLine/\(p == sysModules)=false/\∃ vs,KV kvs vs/\s.heap.DictOf (mixKind X.prog X.w) p vs:=I.hok p _ hx
   have hlen:kvs.length=vs.length:=Paired.length r
   exact wpAny_truthy_dict hS m (by ac_nf) ⟨H,I.tok _,by rw[Qbu r];exact q⟩
 | _=>exact (show False from e).elim
theorem Qby (ha : PE X a ta) (he : ∀ whole, isTrue a X.env whole = (do let v <- whole; standAt a.pos; holding [v] (truthy v))) :
  PT X a (fun σ H Q=>ta σ H fun x H'=>∃ k,TruV X.K x H' k/\Q k H'):=by
 intro pins s σ H Q I h
 exact isTrue_plain (thn (ha pins s σ H _ I h) fun v s1 pq27=>by obtain⟨x,H1,I1,r1,q1⟩:=pq27;exact Qbx pins s1 σ H1 x v Q I1 r1 q1) (he _)
theorem Qbz:OpR X (binaryOp .Add) (fun x y H Q=>∃ i j,x=.str i/\y=.str j/\i.length + j.length<=sizeLine/\Q (.str (i++j)) H):=by
 intro pins s σ H x y v u Q I rx ry h
 obtain⟨i,j,rfl,rfl,hz,q⟩:=h
 obtain⟨t,rfl⟩:=rx
 obtain⟨t',rfl⟩:=ry
 exact add_str (fun t' tk=>⟨.str (i++j),H,I.tok _,⟨_,rfl⟩,q⟩) hz
theorem QbA {x:V}{us:List Value} (r:Vals [x] us):∃ u,us=[u]/\RelV x u:=by
 cases r with
 | cons r1 r2=>cases r2;exact⟨_,rfl,r1⟩
theorem QbB {x y:V}{us:List Value} (r:Vals [x,y] us):∃ u w',us=[u,w']/\RelV x u/\RelV y w':=by
 cases r with
 | cons r1 r2=>
  cases r2 with
  | cons r3 r4=>cases r4;exact⟨_,_,rfl,r1,r3⟩
theorem QbC (hc:X.calm=true):CallR X (.builtin "max") (fun xs H Q=>∃ i j,xs=[.int i,.int j]/\Q (.int (if j > i then j else i)) H):=by
 intro pins s σ H xs us Q I r h
 obtain⟨i,j,rfl,q⟩:=h
 obtain⟨u,w',rfl,⟨t,rfl⟩,⟨t',rfl⟩⟩:=QbB r
 refine max_two_ints (I.ok.hd hc) fun h' tk k=>⟨_,H,I.kept k,?_,q⟩
 by_cases hj:j > i
 ·rw[if_pos hj,if_pos hj];exact⟨_,rfl⟩
 ·rw[if_neg hj,if_neg hj];exact⟨_,rfl⟩
theorem QbD:CallR X (.type "int") (fun xs H Q=>(∃ i,xs=[.int i]/\Q (.int i) H)\/∃ k,xs=[.bl k]/\Q (.int (if k then 1 else 0)) H):=by
 intro pins s σ H xs us Q I r h
 rcases h with ⟨i,rfl,q⟩ | ⟨k,rfl,q⟩
 ·obtain⟨u,rfl,t,rfl⟩:=QbA r
  exact call_int_int ⟨.int i,H,I,⟨_,rfl⟩,q⟩
 ·obtain⟨u,rfl,r1⟩:=QbA r
  cases r1
  exact call_int_bool ⟨.int (if k then 1 else 0),H,I.tok _,⟨_,rfl⟩,q⟩
end
structure ObjM (h:Heap) (x dx C:Addr) (mA:Str->Option Value):Prop where
 obj:h.get? x=some (PySem.W.instObj C dx)
 ns:h.Ns1 dx mA
 ne:dx≠x
theorem QbE {h:Heap}{dx:Addr}{mA:Str->Option Value} (n:h.Ns1 dx mA):∃ od,h.get? dx=some od/\∀ name,PySem.W.lookIn name od=some (mA name):=by
 obtain⟨o,es,ep,ho,hd,hk,_,hm⟩:=n
 refine⟨o,ho,fun name=>?_⟩
 have e:=hm name
 unfold nsFind findBy at e
 rw[<- Array.find?_toList]at e
 unfold PySem.W.lookIn
 rw[hd]
 dsimp only
 split
 ·rename_i y q
  rw[q]at e
  exact congrArg some e
 ·rename_i q
  rw[q]at e
  have a:es.toList.any (·.refKey)=false:=by
   rw[List.any_eq_false]
   intro y hy
   obtain⟨z,t,hkey⟩:=hk y (Array.mem_toList_iff.mp hy)
   simp[DictEntry.refKey,hkey]
  have a':¬ es.toList.any (·.refKey)=true:=by rw[a];exact Bool.false_ne_true
  rw[if_neg a']
  exact congrArg some e
theorem ObjM.look {h:Heap}{x dx C:Addr}{mA:Str->Option Value} (I:ObjM h x dx C mA):∃ od,PySem.W.InstAt h x (PySem.W.instObj C dx) C (some od)/\∀ name,PySem.W.lookIn name od=some (mA name):=
 let ⟨od,ho,hl⟩:=QbE I.ns
 ⟨od,⟨I.obj,rfl,rfl,ho⟩,hl⟩
theorem RelO.some_of {v:V}{o:Option Value} (r:RelO (some v) o):∃ u,o=some u/\RelV v u:=by
 cases o with
 | none=>exact (show False from r).elim
 | some u=>exact⟨u,rfl,r⟩
section
variable {P:Program}{w:World}{H H':Hp}{h h':Heap}{a C dx:Addr}{fs fs':List (Str × V)}
theorem QbF (hok:HOk P w H h) (e:H a=some (.ins C dx fs)):∃ mA,ObjM h a dx C mA/\(∀ f,RelO (fs.lookup f) (mA f))/\PySem.Within mA (fs.map (·.1))/\fs.length<=1000/\H dx=some (.own a):=by
 obtain⟨d,z,ne,ob,mA,n,r,q⟩:=(show ObjOk P w H h a (.ins C dx fs) from hok a _ e)
 exact⟨mA,⟨ob,n,ne⟩,r,q,z,d⟩
end
structure Cls (K:PySem.W.Frag) (C:Addr):Prop where
 pg:PySem.W.plainGet K C Str.empty=true
 hd:PySem.W.hasDictIn K C=true
 po:PySem.W.plainOver K C=true
 sa:PySem.W.findIn K (.ref C) "__setattr__"=some (some (.builtin "object.__setattr__"))
theorem Cls.get {K:PySem.W.Frag}{C:Addr} (c:Cls K C) (f:Str):PySem.W.plainGet K C f=true:=c.pg
section
variable {X:Cx}{pins:List (Addr × Obj)}{σ:St}{H:Hp}{s:Shared}{a C dx:Addr}{fs:List (Str × V)}{f:Str}{v:V}{A:Around}{E:Value->Shared->Prop}
theorem QbG {prog : Program} {w : World} {env : Env} {e : Expr} {f : Str} {pos : Pos} {s : Shared} {Q : Value -> Shared -> Prop} (hb : attributeBase e f env (eval e env) = eval e env)
  (h:wpAny (model prog w) A (eval e env) (fun o s₁=>wpAny (model prog w) A (getAttr o f true) Q E s₁) E s):wpAny (model prog w) A (eval (.Attribute e f pos) env) Q E s:=
 Attribute_any_ h (by rw[arm_eval_Attribute,hb])
end
section
variable {X:Cx}{o e value:Expr}{f:Str}{pos pos' tpos:Pos}{ta tv:TE}
noncomputable def rSub:V->V->Hp->VK->Prop:=fun x y H Q=>∃ i j,x=.int i/\y=.int j/\Q (.int (i - j)) H
end
section
variable {X:Cx}{pins:List (Addr × Obj)}{σ:St}{H:Hp}{s:Shared}{A:Around}{E:Value->Shared->Prop}{Q:Value->Shared->Prop}{c:Value}{b:Bool}
inductive TyOf (K:PySem.W.Frag) (H:Hp):V->Value->Prop where
 | non:TyOf K H .non (.type "NoneType")
 | bl (x:Bool):TyOf K H (.bl x) (.type "bool")
 | int (i:Int):TyOf K H (.int i) (.type "int")
 | str (x:Str):TyOf K H (.str x) (.type "str")
 | flt (x:UInt64):TyOf K H (.flt x) (.type "float")
 | lst {a:Addr}{xs:List V} (e:H a=some (.lst xs)):TyOf K H (.ref a) (.type "list")
 | frz {a:Addr}{o:Obj}{xs:List V} (e:H a=some (.frz o (.lst xs))):TyOf K H (.ref a) (.type "list")
 | tup {a:Addr}{xs:List V} (e:H a=some (.tup xs)):TyOf K H (.ref a) (.type "tuple")
 | dK {a:Addr}{kvs:List (Key × V)} (e:H a=some (.dK kvs)):TyOf K H (.ref a) (.type "dict")
 | dT {a:Addr}{kvs:List (List Key × V)} (e:H a=some (.dT kvs)):TyOf K H (.ref a) (.type "dict")
 | ins {a C dx : Addr} {fs : List (Str × V)} (e : H a = some (.ins C dx fs)) (cl : Cls K C) (ha : PySem.W.findIn K (.ref C) "__class__" = some (some (.builtin "object.__class__")))
   (hn:PySem.W.specialIn K (.builtin "object.__class__") "__get__"=some (some (.builtin "getset_descriptor.__get__"))) (htk:PySem.W.takesIn K (.builtin "object.__class__")=some true)
   (hm:PySem.W.mroIn K C (.type "object")=some true):TyOf K H (.ref a) (.ref C)
theorem QbH {x : V} {u t : Value} (I : Inv X pins σ H s) (rx : RelV x u) (ty : TyOf X.K H x t) (e : PySem.W.kitOne X.K t c = some b) (h : ∀ tk, Q (.bool b) { s with toks := tk }) :
  wpAny (model X.prog X.w) A (call (.builtin "isinstance") [u,c]) Q E s:=by
 cases ty with
 | non=>cases (show u=Value.none from rx);exact PySem.W.kia_one PySem.W.kitx_none I.kIn True.intro e (fun z=>nomatch z) h
 | bl y=>cases (show u=Value.bool y from rx);exact PySem.W.kia_one PySem.W.kitx_bool I.kIn True.intro e (fun z=>nomatch z) h
 | int i=>obtain⟨t,q⟩:=(show ∃ t,u=Value.int i t from rx);cases q;exact PySem.W.kia_one PySem.W.kitx_int I.kIn True.intro e (fun z=>nomatch z) h
 | str y=>obtain⟨t,q⟩:=(show ∃ t,u=Value.str y t from rx);cases q;exact PySem.W.kia_one PySem.W.kitx_str I.kIn True.intro e (fun z=>nomatch z) h
 | flt y=>obtain⟨t,q⟩:=(show ∃ t,u=Value.float y t from rx);cases q;exact PySem.W.kia_one PySem.W.kitx_float I.kIn True.intro e (fun z=>nomatch z) h
 | @lst a xs ea=>
  cases (show u=Value.ref a from rx)
  obtain⟨_,_,n,_,h1⟩:=(show ObjOk X.prog X.w H s.heap a (.lst xs) from I.hok a _ ea)
  exact PySem.W.kia_one PySem.W.kitx_list I.kIn ⟨_,h1,rfl⟩ e (fun z=>nomatch z) h
 | @frz a ob xs ea=>
  cases (show u=Value.ref a from rx)
  obtain⟨_,_,_,n,_,h1⟩:=(show ObjOk X.prog X.w H s.heap a (.frz ob (.lst xs)) from I.hok a _ ea)
  exact PySem.W.kia_one PySem.W.kitx_list I.kIn ⟨_,h1,rfl⟩ e (fun z=>nomatch z) h
 | @tup a xs ea=>
  cases (show u=Value.ref a from rx)
  obtain⟨_,_,_,p⟩:=(show ObjOk X.prog X.w H s.heap a (.tup xs) from I.hok a _ ea)
  obtain⟨o,h1,h2,_⟩:=p
  exact PySem.W.kia_one PySem.W.kitx_tuple I.kIn ⟨o,h1,h2⟩ e (fun z=>nomatch z) h
 | @dK a kvs ea=>
  cases (show u=Value.ref a from rx)
  obtain⟨_,_,vs,_,p⟩:=(show ObjOk X.prog X.w H s.heap a (.dK kvs) from I.hok a _ ea)
  obtain⟨o,es,ep,h1,h2,_⟩:=p
  exact PySem.W.kia_one PySem.W.kitx_dict I.kIn ⟨o,h1,h2.1⟩ e (fun z=>nomatch z) h
 | @dT a kvs ea=>
  cases (show u=Value.ref a from rx)
  obtain⟨_,_,xs,_,o,es,ep,h1,h2,_⟩:=(show ObjOk X.prog X.w H s.heap a (.dT kvs) from I.hok a _ ea)
  exact PySem.W.kia_one PySem.W.kitx_dict I.kIn ⟨o,h1,h2.1⟩ e (fun z=>nomatch z) h
 | @ins a C dx fs ea cl ha hn htk hm=>
  cases (show u=Value.ref a from rx)
  obtain⟨mA,O,_⟩:=QbF I.hok ea
  obtain⟨od,J,_⟩:=O.look
  exact PySem.W.kia_one (PySem.W.kitx_own (cl.get _) cl.hd ha hn htk hm) I.kIn J e (fun z=>nomatch z) h
end
structure Room (k:Nat) (A:Around):Prop where
 hd:A.handled=none
 dp:A.depth + 3 * k + 5 < recursionLimit
 un:A.units + 16 * k + 200 < cLine
theorem Room.mono {j k:Nat}{A:Around} (r:Room k A) (h:j<=k):Room j A:=⟨r.hd,by have:=r.dp;ac_nf,by have:=r.un;ac_nf⟩
theorem Room.deeper {k:Nat}{A:Around} (r:Room (k + 1) A) (env:Env):Room k (A.deeper env):=
 ⟨r.hd,by have:=r.dp;show A.depth + 1 + 3 * k + 5 < _;ac_nf,by have:=r.un;show A.units + 3 + 16 * k + 200 < _;ac_nf⟩
theorem QbI {A:Around}{C:Addr}{us:List Value}{kw:List (Str × Value)}:(A.under (.builtin "type.__call__" ⟨.ref C::us,kw⟩)).depth=A.depth + 1:=by
 first | rfl | simp[Around.under,Code.weight,Code.isCreation,Code.isGuard,Code.isCaller,Code.frames,Code.isFrame,guardIds]
theorem QbJ {A:Around}{C:Addr}{us:List Value}{kw:List (Str × Value)}:(A.under (.builtin "type.__call__" ⟨.ref C::us,kw⟩)).units=A.units + 1:=by
 first | rfl | simp[Around.under,Code.cUnits,Code.frames,Code.isFrame]
theorem Room.make {k:Nat}{A:Around} (r:Room (k + 1) A) (C:Addr) (us:List Value) (kw:List (Str × Value)):Room k (A.under (.builtin "type.__call__" ⟨.ref C::us,kw⟩)):=
 ⟨r.hd,by have:=r.dp;rw[QbI];ac_nf,by have:=r.un;rw[QbJ];ac_nf⟩
theorem Room.depth {k:Nat}{A:Around} (r:Room k A):A.depth < recursionLimit:=by have:=r.dp;ac_nf
theorem Room.units {k:Nat}{A:Around} (r:Room k A):A.units + 64 < cLine:=by have:=r.un;ac_nf
noncomputable def tNil:TA:=fun _ H Q=>Q [] H
noncomputable def tCons (ta:TE) (tr:TA):TA:=fun σ H Q=>ta σ H fun x H1=>tr σ H1 fun xs H2=>Q (x::xs) H2
section
variable {X:Cx}{e:Expr}{es:List Expr}{te:TE}{t:TA}{pos:Pos}
theorem QbK:PA X [] tNil:=fun _ _ _ _ H Q I h=>Calls.spliced_nil ⟨[],H,I,.nil,h⟩
theorem QbL (ha:PE X e te) (hr:PA X es t) (hs:starEach (e::es) X.env=(false,eval e X.env)::starEach es X.env:=by rfl):PA X (e::es) (tCons te t):=by
 intro pos pins s σ H Q I h
 rw[hs]
 show wpAny _ _ (spliced ((false,eval e X.env)::backTo pos (starEach es X.env))) _ _ s
 refine Calls.spliced_cons (thn (ha pins s σ H _ I h) fun u s1 pq28=>?_)
 obtain⟨x,H1,I1,r1,q1⟩:=pq28
 exact thn (hr pos pins s1 σ H1 _ I1 q1) fun us s2 pq29=>by obtain⟨xs,H2,I2,r2,q2⟩:=pq29;exact⟨x::xs,H2,I2,.cons r1 r2,q2⟩
noncomputable def tTup (t:TA):TE:=fun σ H Q=>t σ H fun xs H1=>xs.length<=sizeLine/\∀ p,H1 p=none->Q (.ref p) (upd H1 p (.tup xs))
noncomputable def tLst (t:TA):TE:=fun σ H Q=>t σ H fun xs H1=>xs.length<=sizeLine/\∀ p,H1 p=none->Q (.ref p) (upd H1 p (.lst xs))
theorem QbM {x1} (h:PA X es t):PE X (.Tuple es x1 pos) (tTup t):=by
 intro pins s σ H Q I hq
 refine wpAny_Tuple_spliced (thn (h pos pins s σ H _ I hq) fun us s1 ⟨xs,H1,I1,r,z,q⟩=>⟨by rw[<- r.length];exact z,?_⟩)
 have hf:H1 s1.heap.objs.size=none:=I1.hok.fresh (Nat.le_refl _)
 refine⟨.ref s1.heap.objs.size,upd H1 s1.heap.objs.size (.tup xs),I1.laid (t':=s1.toks) (fun b u e=>Heap.get?_push_of_some _ e) (Nat.le_refl _) ?_,rfl,q _ hf⟩
 exact⟨z,us,r,⟨_,Heap.get?_push_size _ rfl,rfl,⟨_,rfl⟩,rfl⟩⟩
theorem QbN (h:PA X es t):PE X (.List es pos) (tLst t):=by
 intro pins s σ H Q I hq
 refine wpAny_List_spliced (thn (h pos pins s σ H _ I hq) fun us s1 ⟨xs,H1,I1,r,z,q⟩=>⟨by rw[<- r.length];exact z,?_⟩)
 have hf:H1 s1.heap.objs.size=none:=I1.hok.fresh (Nat.le_refl _)
 refine⟨.ref s1.heap.objs.size,upd H1 s1.heap.objs.size (.lst xs),I1.laid (t':=s1.toks) (fun b u e=>Heap.get?_push_of_some _ e) (Nat.le_refl _) ?_,rfl,q _ hf⟩
 exact⟨z,us,0,r,Heap.get?_push_size _ rfl⟩
end
noncomputable abbrev Sp:=List V->Hp->VK->XK->Prop
noncomputable abbrev CXT:=List Env->Hp->Shared->XK->Value->Shared->Prop
structure Env0 (P:Program) (w:World) (K:PySem.W.Frag) (mg:Str->Option Value) (base:Heap) (A:Around) (outer:List Env) (s:Shared) (H:Hp):Prop where
 frames:A.frames=some outer
 mod:Mod K mg base
 bs:∀ b o,base.get? b=some o->s.heap.get? b=some o/\H b=none
 bsz:base.objs.size<=s.heap.objs.size
 funs:s.heap.FunFrames base outer
 frf:∀ b∈frs outer,H b=none
 hok:HOk P w H s.heap
 bare:AllBare s.gens
noncomputable def CE (outer:List Env) (P:Program) (w:World) (H:Hp) (s:Shared) (Q:VK) (u:Value) (s':Shared):Prop:=
 ∃ v H',s'.os=s.os/\AllBare s'.gens/\Un (frs outer) [] H H' s.heap s'.heap/\HOk P w H' s'.heap/\RelV v u/\Q v H'
noncomputable def CR (CX:CXT) (outer:List Env) (P:Program) (w:World) (H:Hp) (s:Shared) (Q:VK) (E:XK) (r:Result) (s':Shared):Prop:=
 match r with
 | .ok (.ret u)=>CE outer P w H s Q u s'
 | .ok _=>False
 | .error e=>CX outer H s E e s'
structure FnOk (P:Program) (w:World) (K:PySem.W.Frag) (mg:Str->Option Value) (base:Heap) (CX:CXT) (k:Nat) (f:Addr) (fd:FuncData) (ps:List Str) (sp:Sp):Prop where
 len:∀ vs H Q E,sp vs H Q E->vs.length=ps.length
 run:∀ (A:Around) (outer:List Env) (s:Shared) (H:Hp) (args:Args) (us:List Value) (vs:List V) (Q:VK) (E:XK),Room k A->Env0 P w K mg base A outer s H->BindsTo s fd args (ps.zip us)->Vals vs us->sp vs H Q E ->
  codeAny (model P w) A (.call (.ref f) args) (CR CX outer P w H s Q E) s
theorem Env0.make {P : Program} {w : World} {K : PySem.W.Frag} {mg : Str -> Option Value} {base : Heap} {A : Around} {outer : List Env} {s : Shared} {H : Hp} (e : Env0 P w K mg base A outer s H) (C : Addr) (us : List Value) (kw : List (Str × Value)) :
  Env0 P w K mg base (A.under (.builtin "type.__call__" ⟨.ref C::us,kw⟩)) outer s H:=⟨by first | exact e.frames | (simpa [Around.under,Code.envs,Code.isFrame,pushEnvs] using e.frames),e.mod,e.bs,e.bsz,e.funs,e.frf,e.hok,e.bare⟩
section
variable {X:Cx}{pins:List (Addr × Obj)}{σ:St}{H:Hp}{s s':Shared}
theorem Inv.env0 (I:Inv X pins σ H s):Env0 X.prog X.w X.K X.mg X.base X.A X.stack s H:=
 ⟨I.ok.frames,I.ok.mod,I.bs,Nat.le_trans I.ok.bsz I.sz,I.stack,I.stkFree,I.hok,I.bare⟩
theorem Inv.after {Q:VK}{u:Value} (I:Inv X pins σ H s) (h:CE X.stack X.prog X.w H s Q u s'):EP X pins σ Q u s':=by
 obtain⟨v,H',os,bare,un,hok,r,q⟩:=h
 obtain⟨hh,g,d,t,os'⟩:=s'
 obtain rfl:os'=s.os:=os
 exact⟨v,H',I.call (h':=hh) (g':=g) (d':=d) (t':=t) (ch:=[]) un hok bare (fun b z=>absurd z (by simp)),r,q⟩
end
noncomputable def tCall (sp:Sp) (dvs:List V) (E:XK) (t:TA):TE:=fun σ H Q=>t σ H fun vs H1=>sp (vs++dvs) H1 Q E
noncomputable def Binds (K:PySem.W.Frag) (fd:FuncData) (ps:List Str) (ds:List Value):Prop:=
 ∀ (s:Shared) (us:List Value),K.In s.heap->(us++ds).length=ps.length->BindsTo s fd ⟨us,[]⟩ (ps.zip (us++ds))
theorem Binds.all {K:PySem.W.Frag}{fd:FuncData}{ps:List Str} (h:∀ us:List Value,us.length=ps.length->bindArgs fd ⟨us,[]⟩=pure (ps.zip us)):Binds K fd ps []:=fun s us _ hl=>by
 rw[List.append_nil]at hl ⊢
 exact .of_eq (h us hl)
noncomputable def Passes (CX:CXT) (X:Cx) (E:XK):Prop:=∀ (pins:List (Addr × Obj)) (σ:St) (H:Hp) (s:Shared) (e:Value) (s':Shared),Inv X pins σ H s->CX X.stack H s E e s'->X.xe e s'
section
variable {X:Cx}{CX:CXT}{k:Nat}{f C:Addr}{fd:FuncData}{ps:List Str}{sp:Sp}{dvs:List V}{ds:List Value}{E:XK}{x m:Str}{p pos apos:Pos}{e o:Expr}{es:List Expr}{ta:TE}{t:TA}
theorem QbO {pins : List (Addr × Obj)} {σ : St} {H : Hp} {s : Shared} {Q : VK} {us : List Value} {vs : List V} (F : FnOk X.prog X.w X.K X.mg X.base CX k f fd ps sp) (hr : Room k X.A) (hb : Binds X.K fd ps ds) (hd : Vals dvs ds) (hx : Passes CX X E)
  (I:Inv X pins σ H s) (r:Vals vs us) (h:sp (vs++dvs) H Q E):wpAny (model X.prog X.w) X.A (call (.ref f) us) (EP X pins σ Q) X.xe s:=by
 have r2:Vals (vs++dvs) (us++ds):=r.append hd
 have hl:(us++ds).length=ps.length:=by rw[<- r2.length];exact F.len _ _ _ _ h
 refine wpAny_call (codeAny_mono (F.run X.A X.stack s H ⟨us,[]⟩ (us++ds) (vs++dvs) Q E hr I.env0 (hb s us I.kIn hl) r2 h) fun r s' hq=>?_)
 cases r with
 | error e=>exact hx pins σ H s e s' I hq
 | ok fl=>
  cases fl with
  | ret u=>exact I.after hq
  | next=>exact False.elim hq
  | brk=>exact False.elim hq
  | cont=>exact False.elim hq
theorem QbP (F : FnOk X.prog X.w X.K X.mg X.base CX k f fd ps sp) (hr : Room k X.A) (hg : Gl X x) (hm : X.mg x = some (.ref f)) (hk : PySem.W.keepIn X.K (.ref f) = true) (hb : Binds X.K fd ps ds) (hd : Vals dvs ds) (hx : Passes CX X E)
  (ha:PA X (e::es) t) (hdb:(x == ("__debug__":Str))=false:=by decide) (he:starEach (e::es) X.env=(false,eval e X.env)::starEach es X.env:=by rfl) (hpl:(backTo pos (starEach es X.env)).any (·.1)=false:=by rfl):
  PE X (.Call (.Name x p) (e::es) [] pos) (tCall sp dvs E t):=by
 intro pins s σ H Q I h
 refine wpAny_Call_Name_kw (Qax I hg hm ?_ hdb)
 refine PySem.W.callWith_K (h₀:=X.base) I.ok.mod.kin hk (thn (ha pos pins s σ H _ I h) fun us s1 ⟨vs,H1,I1,r,q⟩=>⟨I1.kIn,?_⟩) he hpl
 exact QbO F hr hb hd hx I1 r q
end
noncomputable def PK (X:Cx) (kws:List Keyword) (t:TA):Prop:=
 ∀ (pos:Pos) (pins:List (Addr × Obj)) (s:Shared) (σ:St) (H:Hp) (Q:List V->Hp->Prop),Inv X pins σ H s->t σ H Q->wpAny (model X.prog X.w) X.A (evalAll ((backToKw pos (keywordEach kws X.env)).map (·.2))) (AP X pins σ Q) X.xe s
section
variable {X:Cx}{CX:CXT}{k:Nat}{f C:Addr}{fd:FuncData}{ps ks:List Str}{sp:Sp}{E:XK}{x m:Str}{p pos apos kpos:Pos}{e o:Expr}{es:List Expr}{kws:List Keyword}{te ta:TE}{t tk:TA}{nm:Option Str}
variable {g:List Value->List Value->List Value}{gV:List V->List V->List V}
end
structure FnScope (N P:List Str) (sc:Scope):Prop where
 kind:sc.kind=.function
 co:sc.isCoroutine=false
 gen:sc.isGenerator=false
 nd:N.Nodup
 pre:N.take P.length=P
 par:∀ x∈P,sc.names.lookup x=some .local\/sc.names.lookup x=some .cell
 nofree:∀ y∈sc.names,y.2≠.free
theorem QbQ {kindOf:Str->Option NameKind}{x:Str}:∀ {binds:List (Str × Value)}{m:Str->Option Value},(∀ v,(x,v)∉binds)->bindL kindOf binds m x=m x
 | [],_,_=>rfl
 | (n,v)::r,m,h=>by
  unfold bindL
  rw[QbQ fun w hw=>h w (List.mem_cons_of_mem _ hw)]
  split
  ·have:x≠n:=by rintro rfl;exact h v List.mem_cons_self
   simp[this]
  ·rfl
theorem QbR {kindOf:Str->Option NameKind}{x:Str}:∀ {binds:List (Str × Value)}{m:Str->Option Value},(∀ v,(x,v)∉binds)->bindC kindOf binds m x=m x
 | [],_,_=>rfl
 | (n,v)::r,m,h=>by
  unfold bindC
  rw[QbR fun w hw=>h w (List.mem_cons_of_mem _ hw)]
  split
  ·rfl
  ·have:x≠n:=by rintro rfl;exact h v List.mem_cons_self
   simp[this]
theorem QbS {kindOf : Str -> Option NameKind} {x : Str} {v : Value} : ∀ {P : List Str} {vs : List Value} {i : Nat} {m : Str -> Option Value}, P.Nodup -> P[i]? = some x -> vs[i]? = some v -> kindOf x = some .local ->
  bindL kindOf (P.zip vs) m x=some v
 | [],_,_,_,_,h,_,_=>by simp at h
 | _::_,[],_,_,_,_,h,_=>by simp at h
 | p::P,w::vs,0,m,nd,h1,h2,hk=>by
  simp at h1 h2;subst h1;subst h2
  show bindL kindOf ((p,w)::P.zip vs) m p=_
  unfold bindL
  rw[QbQ fun v hv=>(List.nodup_cons.mp nd).1 (List.of_mem_zip hv).1,if_pos hk]
  simp
 | p::P,w::vs,i + 1,m,nd,h1,h2,hk=>by
  show bindL kindOf ((p,w)::P.zip vs) m x=_
  unfold bindL
  exact QbS (i:=i) (List.nodup_cons.mp nd).2 (by simpa using h1) (by simpa using h2) hk
theorem QbT {kindOf : Str -> Option NameKind} {x : Str} {v : Value} : ∀ {P : List Str} {vs : List Value} {i : Nat} {m : Str -> Option Value}, P.Nodup -> P[i]? = some x -> vs[i]? = some v -> kindOf x ≠ some .local ->
  bindC kindOf (P.zip vs) m x=some v
 | [],_,_,_,_,h,_,_=>by simp at h
 | _::_,[],_,_,_,_,h,_=>by simp at h
 | p::P,w::vs,0,m,nd,h1,h2,hk=>by
  simp at h1 h2;subst h1;subst h2
  show bindC kindOf ((p,w)::P.zip vs) m p=_
  unfold bindC
  rw[QbR fun v hv=>(List.nodup_cons.mp nd).1 (List.of_mem_zip hv).1,if_neg hk]
  simp
 | p::P,w::vs,i + 1,m,nd,h1,h2,hk=>by
  show bindC kindOf ((p,w)::P.zip vs) m x=_
  unfold bindC
  exact QbT (i:=i) (List.nodup_cons.mp nd).2 (by simpa using h1) (by simpa using h2) hk
noncomputable def start (N:List Str) (vs:List V):St:=vs.map some++List.replicate (N.length - vs.length) none
noncomputable def cxOf (CX:CXT) (P:Program) (w:World) (K:PySem.W.Frag) (mg:Str->Option Value) (base:Heap) (N:List Str) (qual:Str) (scope:Scope) (f:Addr) (cd:Value) (A:Around) (outer:List Env) (s:Shared) (H:Hp) (E:XK):Cx where
 prog:=P
 w:=w
 K:=K
 mg:=mg
 base:=base
 A:=A.deeper (envOfC qual scope s.heap.objs.size f cd)
 N:=N
 s₀:=s
 H₀:=H
 env:=envOfC qual scope s.heap.objs.size f cd
 outer:=outer
 stack:=envOfC qual scope s.heap.objs.size f cd::outer
 ex:=[]
 calm:=true
 fn:=fun _=>true
 pn:=[]
 xe:=fun e s'=>wpAny (model P w) (A.deeper (envOfC qual scope s.heap.objs.size f cd)) (leaving (envOfC qual scope s.heap.objs.size f cd) e) (fun _ s''=>CX outer H s E e s'') (fun e' s''=>CX outer H s E e' s'') s'
theorem QbU {sc:Scope}{n:Nat}{x:Str} (h:sc.names.lookup x=some .cell):∃ c,(cellsFrom n sc.names []).lookup x=some c:=by
 have q:=PySem.W.cellsFrom_some sc.names n [] (.inl h)
 exact Option.isSome_iff_exists.mp q
theorem QbV {CX : CXT} {P : Program} {w : World} {K : PySem.W.Frag} {mg : Str -> Option Value} {base : Heap} {N ps : List Str} {qual : Str} {scope : Scope} {f : Addr} {cd : Value} {A : Around} {outer : List Env} {s s1 : Shared} {H : Hp} {E : XK} {us : List Value} {vs : List V}
  (S:FnScope N ps scope) (hd:A.handled=none) (e0:Env0 P w K mg base A outer s H) (hl:vs.length=ps.length) (r:Vals vs us)
  (x:InCallC s s.heap.objs.size (bindL (envOfC qual scope s.heap.objs.size f cd).kindOf (ps.zip us) fun _=>none) (cellsFrom (s.heap.objs.size + 1) scope.names []) (bindC (envOfC qual scope s.heap.objs.size f cd).kindOf (ps.zip us) fun _=>none) s1):
  Inv (cxOf CX P w K mg base N qual scope f cd A outer s H E) [] (start N vs) H s1:=by
 have hpl:ps.length<=N.length:=by have:=congrArg List.length S.pre;rw[List.length_take]at this;ac_nf
 obtain⟨h1,tk,rfl,hk⟩:=x.done
 have noA:∀ b:Addr,b∉(cxOf CX P w K mg base N qual scope f cd A outer s H E).ex:=fun b z=>absurd (show b∈([]:List Addr) from z) (by simp)
 refine⟨⟨e0.mod,S.kind,rfl,rfl,Nat.le_refl _,fun y z c h1 h2=>?_,fun y hy=>?_,fun y c _ h=>?_,fun _=>hd,Around.frames_deeper e0.frames,.inr ⟨rfl,rfl⟩,fun b z=>absurd z (noA b),e0.bs,e0.bsz,fun b _ _=>noA b,fun b z=>absurd z (noA b),e0.funs,e0.frf⟩,
  rfl,e0.bare,Un.kept hk,⟨_,x.toInCall.ns,fun i y v h1 h2 h3=>?_⟩,fun y c h=>⟨_,x.cell y c h⟩,e0.hok.fresh (Nat.le_refl _),fun y c h=>?_,fun p hp=>absurd (show p∈([]:List (Addr × Obj)) from hp) (by simp),e0.hok.kept hk,?_⟩
 ·exact name_of_addr x.apart (PySem.mem_of_lookup h1) (PySem.mem_of_lookup h2)
 ·have hy:scope.names.lookup y=some .cell\/scope.names.lookup y=some .free:=hy
  rcases hy with hy | hy
  ·exact QbU hy
  ·exact absurd rfl (S.nofree _ (PySem.mem_of_lookup hy))
 ·exact Nat.le_of_lt (x.above y c (PySem.mem_of_lookup h))
 ·have hi : i < vs.length := by
    unfold start at h2
    by_cases hi:i < vs.length
    ·exact hi
    ·rw[List.getElem?_append_right (by simpa using hi)]at h2
     rw[List.getElem?_replicate]at h2
     split at h2<;>cases h2
  have ha:vs[i]?=some v:=by
   unfold start at h2
   rw[List.getElem?_append_left (by simpa using hi),List.getElem?_map]at h2
   cases e:vs[i]? with
   | none=>rw[e]at h2;cases h2
   | some a=>rw[e]at h2;cases h2;rfl
  obtain⟨u,hu,rv⟩:=r.get ha
  have hp:ps[i]?=some y:=by
   rw[<- S.pre,List.getElem?_take_of_lt (by ac_nf)];exact h1
  have ndP:ps.Nodup:=by rw[<- S.pre];exact S.nd.sublist (List.take_sublist _ _)
  refine⟨u,rv,?_⟩
  rcases S.par y (List.mem_of_getElem? hp) with k | k
  ·exact .inl ⟨k,QbS ndP hp hu k⟩
  ·obtain⟨c,e⟩:=QbU (n:=s.heap.objs.size + 1) k
   refine .inr ⟨.inl k,c,e,?_⟩
   have q:=x.cell y c e
   rw[QbT ndP hp hu (by show scope.names.lookup y≠_;rw[k];decide)]at q
   exact q
 ·exact e0.hok.fresh (Nat.le_of_lt (x.above y c (PySem.mem_of_lookup h)))
 ·unfold start
  show _=N.length
  rw[List.length_append,List.length_map,List.length_replicate]
  ac_nf
theorem QbW {CX : CXT} {P : Program} {w : World} {K : PySem.W.Frag} {mg : Str -> Option Value} {base : Heap} {k : Nat} {f : Addr} {name qual : Str} {params : Arguments} {body : List Stmt} {scope : Scope} {dV kV doc pm cdv ct oc : Value} {an od : Option Addr}
  {osl:Array (Option Value)}{N ps:List Str}{sp:Sp} (lk:K.lookup f=some ⟨oc,od,.func (PySem.W.fnOf name qual params body scope dV kV doc pm an cdv ct),osl⟩) (hcd:PySem.W.codeIn K cdv qual=true) (S:FnScope N ps scope)
  (len:∀ vs H Q E,sp vs H Q E->vs.length=ps.length)
  (hbody:∀ (A:Around) (outer:List Env) (s:Shared) (H:Hp) (vs:List V) (Q:VK) (E:XK),Room k (A.deeper (envOfC qual scope s.heap.objs.size f cdv))->sp vs H Q E ->
   ∃ t,PSs (cxOf CX P w K mg base N qual scope f cdv A outer s H E) body t/\t { nx:=fun _ H'=>Q .non H',rt:=Q } (start N vs) H):
  FnOk P w K mg base CX (k + 1) f (PySem.W.fnOf name qual params body scope dV kV doc pm an cdv ct) ps sp:=by
 refine⟨len,fun A outer s H args us vs Q E hr e0 hb r hsp=>?_⟩
 have hl:=len _ _ _ _ hsp
 have KX:K.In s.heap:=e0.mod.kin.keeps fun b o e=>(e0.bs b o e).1
 have lim:s.heap.NoLimit:=e0.mod.nolimit.keeps fun b o e=>(e0.bs b o e).1
 have hkind:∀ y∈ps.zip us,scope.names.lookup y.1=some .local\/(scope.names.lookup y.1=some .cell/\((cellsFrom (s.heap.objs.size + 1) scope.names []).lookup y.1).isSome=true):=fun pq33 hy=>by
  obtain⟨n,v⟩:=pq33
  rcases S.par n (List.of_mem_zip hy).1 with q | q
  ·exact .inl q
  ·exact .inr ⟨q,PySem.W.cellsFrom_some _ _ _ (.inl q)⟩
 refine codeAny_call_function hr.depth (KX _ _ lk) rfl S.co S.gen rfl (PySem.W.codeRec_of KX hcd) (hb _ _ _ _ ?_)
 refine wpAny_newFunctionEnv_cells S.kind hkind fun env he s1 x=>?_
 subst he
 refine⟨lim.keeps x.toInCall.keep,codeAny_func ?_⟩
 obtain⟨t,ht,hq⟩:=hbody A outer s H vs Q E (hr.deeper _) hsp
 have I:Inv (cxOf CX P w K mg base N qual scope f cdv A outer s H E) [] (start N vs) H s1:=QbV S hr.hd e0 hl r x
 refine wpAny_mono (ht [] s1 (start N vs) H _ I hq) (fun fl s' hs=>?_) fun e s' hs=>hs
 have fin:∀ {σ':St}{H':Hp}{v:V}{u:Value},Inv (cxOf CX P w K mg base N qual scope f cdv A outer s H E) [] σ' H' s'->RelV v u->Q v H'->CE outer P w H s Q u s':=
  fun {σ' H' v u} J rv q=>⟨v,H',J.os,J.bare,J.base,J.hok,rv,q⟩
 cases fl with
 | ret u=>
  obtain⟨v,σ',H',J,rv,q⟩:=hs
  exact fin J rv q
 | next=>
  obtain⟨σ',H',J,q⟩:=hs
  exact fin (v:=V.non) (u:=Value.none) J rfl q
 | brk=>
  obtain⟨_,_,_,q⟩:=hs
  exact False.elim q
 | cont=>
  obtain⟨_,_,_,q⟩:=hs
  exact False.elim q
section
variable {X:Cx}{x:Str}{p pos:Pos}{e:Expr}{es:List Expr}{t:TA}{id T:String}{r:List V->Hp->VK->Prop}
noncomputable def tCB (r:List V->Hp->VK->Prop) (t:TA):TE:=fun σ H Q=>t σ H fun vs H1=>r vs H1 Q
theorem QbX (hc : CallR X (.builtin id) r) (hg : Gl X x) (hm : X.mg x = none) (hv : bootBuiltins x = some (.builtin id)) (ha : PA X (e :: es) t) (hn : x ≠ "__name__" := by decide) (hdb : (x == ("__debug__" : Str)) = false := by decide)
  (he:starEach (e::es) X.env=(false,eval e X.env)::starEach es X.env:=by rfl) (hpl:(backTo pos (starEach es X.env)).any (·.1)=false:=by rfl):PE X (.Call (.Name x p) (e::es) [] pos) (tCB r t):=by
 intro pins s σ H Q I h
 refine wpAny_Call_Name_kw (Qay I hg hm hv ?_ hn hdb)
 exact PyProof.Rows.callWith_builtin1 (thn (ha pos pins s σ H _ I h) fun us s1 pq34=>by obtain⟨vs,H1,I1,r1,q1⟩:=pq34;exact hc pins s1 σ H1 vs us Q I1 r1 q1) he hpl
theorem QbY (hc : CallR X (.type T) r) (hg : Gl X x) (hm : X.mg x = none) (hv : bootBuiltins x = some (.type T)) (ha : PA X (e :: es) t) (hn : x ≠ "__name__" := by decide) (hdb : (x == ("__debug__" : Str)) = false := by decide)
  (he:starEach (e::es) X.env=(false,eval e X.env)::starEach es X.env:=by rfl) (hpl:(backTo pos (starEach es X.env)).any (·.1)=false:=by rfl):PE X (.Call (.Name x p) (e::es) [] pos) (tCB r t):=by
 intro pins s σ H Q I h
 refine wpAny_Call_Name_kw (Qay I hg hm hv ?_ hn hdb)
 exact PyProof.Rows.callWith_type1 (thn (ha pos pins s σ H _ I h) fun us s1 pq35=>by obtain⟨vs,H1,I1,r1,q1⟩:=pq35;exact hc pins s1 σ H1 vs us Q I1 r1 q1) he hpl
end
end L2
namespace HT
open PySem PyProof.Rows
section
open PySem.SeqAt
open PySem.AutoSeq1 (wpAny_loadPart')
open PySem.MeetsSeq PySem.MeetsSeq2 PySem.MeetsSeq3
end
section
variable {prog:Program}{w:World}{A:Around}{E:Value->Shared->Prop}{s:Shared}
theorem cat_tup {t b : Addr} {vs ws : List Value} {Q : Value -> Shared -> Prop} (ht : IsTup s.heap t vs.toArray) (hb : IsTup s.heap b ws.toArray) (hv : vs ≠ [])
  (h1:ws=[]->Q (.ref t) s) (h2:ws≠[]->Q (.ref s.heap.objs.size) { s with heap:=s.heap.push { cls:=.type "tuple",data:=.seq (vs++ws).toArray } })
  (hsz:vs.length + ws.length<=sizeLine):wpAny (model prog w) A (binaryOp .Add (.ref t) (.ref b)) Q E s:=by
 obtain⟨⟨cls,dd,data,sl⟩,ho,hc,n,hd⟩:=id ht
 obtain⟨⟨cls2,dd2,data2,sl2⟩,ho2,hc2,n2,hd2⟩:=id hb
 simp only at hc hd hc2 hd2
 subst hc hd hc2 hd2
 have e:vs.toArray++ws.toArray=(vs++ws).toArray:=by simp
 by_cases hw:ws=[]
 ·exact concat_meets ⟨_, ho, rfl⟩ ⟨_, ho2, rfl⟩ noFill_tuple_add seq_tuple_add PySem.F.slot_tuple_add PySem.F.entry_tuple_add (PySem.F.args_tuple_add_2 _ _)
    (tuple_addW1 t b vs.toArray ws.toArray n n2 dd dd2 sl sl2 (by simpa using hv) (by simp[hw])) ⟨ho,ho2,h1 hw⟩
 ·refine concat_meets ⟨_, ho, rfl⟩ ⟨_, ho2, rfl⟩ noFill_tuple_add seq_tuple_add PySem.F.slot_tuple_add PySem.F.entry_tuple_add (PySem.F.args_tuple_add_2 _ _)
    (tuple_addW2 t b vs.toArray ws.toArray n n2 dd dd2 sl sl2 (by simpa using hv) (by simpa using hw) (by rw[List.size_toArray,List.size_toArray];exact hsz)) ⟨ho,ho2,?_⟩
  rw[e]
  exact h2 hw
noncomputable def sIx (n d:Nat):Option Int->Nat
 | none=>d
 | some v=>if v < 0 then (v + (n:Int)).toNat else min v.toNat n
theorem QbZ (n d:Nat) (hd:d<=n) (o:Option Int):sIx n d o<=n:=by
 cases o with
 | none=>exact hd
 | some v=>
  show (if v < 0 then (v + (n:Int)).toNat else min v.toNat n)<=n
  by_cases hv:v < 0
  ·rw[if_pos hv];ac_nf
  ·rw[if_neg hv];exact Nat.min_le_right _ _
theorem Qb0 (v:Int) (n d:Nat):(if v < 0 then max (v + (n:Int)) 0 else min v (n:Int))=((sIx n d (some v):Nat):Int):=by
 show (if v < 0 then max (v + (n:Int)) 0 else min v (n:Int))=(((if v < 0 then (v + (n:Int)).toNat else min v.toNat n):Nat):Int)
 by_cases hv:v < 0
 ·simp only[if_pos hv];ac_nf
 ·simp only[if_neg hv];ac_nf
theorem Qb1 (lo hi:Option Int) (n:Nat):Builtin.Slice.sliceAdjust lo hi 1 (n:Int)=(((sIx n 0 lo:Nat):Int),((sIx n n hi:Nat):Int)):=by
 have h1:¬ ((1:Int) < 0):=by ac_nf
 unfold Builtin.Slice.sliceAdjust
 simp only[h1,if_false]
 refine Prod.ext ?_ ?_
 ·cases lo with
  | none=>rfl
  | some v=>exact Qb0 v n 0
 ·cases hi with
  | none=>rfl
  | some v=>exact Qb0 v n n
theorem Qb2 (i j:Nat):Builtin.Slice.slicePlaces (i:Int) (j:Int) 1=j - i:=by
 unfold Builtin.Slice.slicePlaces
 have h1:(1:Int) > 0:=by ac_nf
 simp only[h1,if_true,Int.ediv_one]
 split<;>ac_nf
theorem Qb3 {v:Value}{o:Option Int}{Q:Option Int->Shared->Prop} (p:IsPart v o) (h:Q o s):wpAny (model prog w) A (Builtin.Slice.slicePartIndex v) Q E s:=by
 cases p with
 | none=>exact slicePart_none h
 | int i t=>exact slicePart_int h
theorem Qb4 {sl : Addr} {vl vu : Value} {lo hi : Option Int} {n : Nat} {Q : Int × Int × Nat -> Shared -> Prop} (hs : s.heap.IsSliceOf sl vl vu .none) (pl : IsPart vl lo) (pu : IsPart vu hi)
  (h:Q (((sIx n 0 lo:Nat):Int),1,sIx n n hi - sIx n 0 lo) s):wpAny (model prog w) A (Builtin.Slice.sliceApplied (.ref sl) (pure (n:Int))) Q E s:=by
 obtain⟨os,hos,hcs,hds⟩:=id hs
 unfold Builtin.Slice.sliceApplied Builtin.Slice.sliceFields
 refine wpAny_bind (wpAny_bind (wpAny_field hos hds (x:=vl) rfl (wpAny_bind (wpAny_field hos hds (x:=vu) rfl (wpAny_bind (wpAny_field hos hds (x:=.none) rfl (wpAny_pure ?_)))))))
 refine wpAny_bind (slicePart_none ?_)
 show wpAny _ _ (if ((1:Int) == 0)=true then _ else _) _ _ s
 rw[if_neg (by decide)]
 refine wpAny_bind (Qb3 pl (wpAny_bind (Qb3 pu (wpAny_bind (wpAny_pure ?_)))))
 show wpAny _ _ (match Builtin.Slice.sliceAdjust lo hi 1 (n:Int) with | (lo,hi)=>pure (lo,(1:Int),Builtin.Slice.slicePlaces lo hi 1)) _ _ s
 rw[Qb1 lo hi n]
 show wpAny _ _ (pure (((sIx n 0 lo:Nat):Int),(1:Int),Builtin.Slice.slicePlaces ((sIx n 0 lo:Nat):Int) ((sIx n n hi:Nat):Int) 1)) _ _ s
 rw[Qb2]
 exact wpAny_pure h
theorem Qb5 (xs:Array Value) (i k:Nat):((List.range k).filterMap fun (m:Nat)=>xs[((i:Int) + (m:Int) * 1).toNat]?).toArray=((xs.toList.drop i).take k).toArray:=by
 have e:(fun (m:Nat)=>xs[((i:Int) + (m:Int) * 1).toNat]?)=fun m=>xs[i + m]?:=by
  funext m
  have:((i:Int) + (m:Int) * 1).toNat=i + m:=by ac_nf
  rw[this]
 rw[e]
 have:=pick_run xs i k
 rw[List.filterMap_map]at this
 have e2:((fun x=>xs[x]?) ∘ fun x=>i + x)=fun m=>xs[i + m]?:=rfl
 rw[e2]at this
 rw[this]
theorem getItem_tuple_cut {t sl : Addr} {items : Array Value} {vl vu : Value} {lo hi : Option Int} {Q : Value -> Shared -> Prop} (ht : IsTup s.heap t items) (hs : s.heap.IsSliceOf sl vl vu .none) (pl : IsPart vl lo) (pu : IsPart vu hi)
  (hw:¬ (sIx items.size 0 lo=0/\sIx items.size items.size hi=items.size))
  (h:Q (.ref s.heap.objs.size) { s with heap:=s.heap.push { cls:=.type "tuple",data:=.seq ((items.toList.drop (sIx items.size 0 lo)).take (sIx items.size items.size hi - sIx items.size 0 lo)).toArray } })
  (hsz:items.size<=sizeLine):wpAny (model prog w) A (getItem (.ref t) (.ref sl)) Q E s:=by
 have htake:sizeOk (.seq ((items.toList.drop (sIx items.size 0 lo)).take (sIx items.size items.size hi - sIx items.size 0 lo)).toArray):=by
  show ((items.toList.drop (sIx items.size 0 lo)).take (sIx items.size items.size hi - sIx items.size 0 lo)).toArray.size<=sizeLine
  rw[List.size_toArray,List.length_take,List.length_drop,Array.length_toList]
  ac_nf
 have hj:sIx items.size items.size hi<=items.size:=QbZ _ _ (Nat.le_refl _) hi
 obtain⟨os,hos,hcs,hds⟩:=id hs
 have hTs:s.TypeIs (.ref sl) "slice":=⟨os,hos,hcs⟩
 unfold getItem
 try with_reducible refine wpAny_holding ?_
 first | refine wpAny_bind (wpAny_pure ?_) | skip
 refine wpAny_bind (wpAny_sequenceKey ht.typeIs (by decide) ?_)
 refine wpAny_bind (wpAny_callSpecial?_slot (name:=Str.ofString "__getitem__") ht.typeIs PyProof.Rows.slot_tuple_getitem
  (wpAny_call_entry PyProof.Rows.slot_tuple_getitem ht.typeIs entry_tuple_getitem ?_ (args_tuple_getitem _ _)))
 show wpAny _ _ (Builtin.Tuple.tupleItemsOf (.ref t) >>= _) _ _ s
 refine wpAny_bind (tupleItemsOf_ ht ?_)
 refine wpAny_bind (wpAny_typeOf hTs ?_)
 rw[if_pos (by decide)]
 refine wpAny_bind (Qb4 hs pl pu ?_)
 have hno:¬ ((((sIx items.size 0 lo:Nat):Int) == 0 && (1:Int) == 1 && (sIx items.size items.size hi - sIx items.size 0 lo) == items.size)=true):=by
  intro q
  rw[Bool.and_eq_true,Bool.and_eq_true]at q
  have q1:((sIx items.size 0 lo:Nat):Int)=0:=eq_of_beq q.1.1
  have q2:sIx items.size items.size hi - sIx items.size 0 lo=items.size:=eq_of_beq q.2
  exact hw ⟨by ac_nf,by ac_nf⟩
 show wpAny _ _ (if (((sIx items.size 0 lo:Nat):Int) == 0 && (1:Int) == 1 && (sIx items.size items.size hi - sIx items.size 0 lo) == items.size)=true then _ else _) _ _ s
 rw[if_neg hno,Qb5]
 first
  | exact wpAny_bind (m:=Builtin.Tuple.tupleExact _) (wpAny_newObj_type (wpAny_pure ⟨_,rfl,wpAny_pure h⟩) htake)
  | exact wpAny_bind (m:=Builtin.Tuple.tupleExact _) (wpAny_newObj_type (wpAny_bind (wpAny_pure (wpAny_pure ⟨_,rfl,wpAny_pure h⟩))) htake)
  | exact wpAny_bind (wpAny_bind (m:=Builtin.Tuple.tupleExact _) (wpAny_newObj_type (wpAny_pure (wpAny_pure ⟨_,rfl,wpAny_pure h⟩)) htake))
  | exact wpAny_bind (wpAny_bind (m:=Builtin.Tuple.tupleExact _) (wpAny_newObj_type (wpAny_pure ⟨_,rfl,wpAny_pure h⟩) htake))
end
end HT
namespace L2
open PySem PySem.Spec PyProof.Rows
noncomputable abbrev TO:=St->Hp->(Option Int->Hp->Prop)->Prop
noncomputable def PO (X:Cx) (e:Option Expr) (t:TO):Prop:=
 ∀ (pins:List (Addr × Obj)) (s:Shared) (σ:St) (H:Hp) (Q:Option Int->Hp->Prop),Inv X pins σ H s->t σ H Q ->
  wpAny (model X.prog X.w) X.A (evalPart e X.env) (fun u s'=>∃ o H',Inv X pins σ H' s'/\IsPart u o/\Q o H') X.xe s
noncomputable def tNoPart:TO:=fun _ H Q=>Q none H
noncomputable def tPart (t:TE):TO:=fun σ H Q=>t σ H fun x H1=>∃ i,x=.int i/\Q (some i) H1
theorem Qb6 {ns:List Int}:∀ {us:List Value},Vals (ns.map V.int) us->IntsAre us ns:=by
 induction ns with
 | nil=>intro us r;rw[List.map_nil]at r;cases r;exact .nil
 | cons n ns ih=>
  intro us r
  rw[List.map_cons]at r
  cases r with
  | cons r1 r2=>
   obtain⟨t,e⟩:=r1
   subst e
   exact .cons n t (ih r2)
section
variable {X:Cx}{e:Expr}{te:TE}{lo hi:Option Expr}{tl th:TO}{pos p2:Pos}
theorem Qb7:PO X none tNoPart:=by
 intro pins s σ H Q I h
 rw[evalPart_none]
 exact wpAny_pure ⟨none,H,I,.none,h⟩
theorem Qb8 (h:PE X e te):PO X (some e) (tPart te):=by
 intro pins s σ H Q I hw
 rw[evalPart_some]
 refine thn (h pins s σ H _ I hw) fun u s1 pq36=>?_
 obtain⟨x,H1,I1,r1,q1⟩:=pq36
 obtain⟨i,rfl,q⟩:=q1
 obtain⟨t,rfl⟩:=r1
 exact⟨some i,H1,I1,.int i t,q⟩
noncomputable def SlR (X:Cx) (r:V->Option Int->Option Int->Hp->VK->Prop):Prop:=
 ∀ (pins:List (Addr × Obj)) (s:Shared) (σ:St) (H:Hp) (x:V) (v vl vu:Value) (lo hi:Option Int) (sl:Addr) (Q:VK),Inv X pins σ H s->RelV x v->s.heap.IsSliceOf sl vl vu .none->IsPart vl lo->IsPart vu hi->r x lo hi H Q ->
  ∃ T id,typeLookup (.type T) "__getitem__"=pure (some (.builtin id))/\s.TypeIs v T/\wpAny (model X.prog X.w) X.A (getItem v (.ref sl)) (EP X pins σ Q) X.xe s
noncomputable def tSl (r:V->Option Int->Option Int->Hp->VK->Prop) (te:TE) (tl th:TO):TE:=fun σ H Q=>te σ H fun x H1=>tl σ H1 fun l H2=>th σ H2 fun u H3=>r x l u H3 Q
theorem Qb9 {r:V->Option Int->Option Int->Hp->VK->Prop} (hr:SlR X r) (he:PE X e te) (hl:PO X lo tl) (hu:PO X hi th):PE X (.Subscript e (.Slice lo hi none p2) pos) (tSl r te tl th):=by
 intro pins s σ H Q I h
 refine Subscript_ (thn (he pins s σ H _ I h) fun v s1 pq37=>?_)
 obtain⟨x,H1,I1,r1,q1⟩:=pq37
 refine wpAny_Slice (thn (hl pins s1 σ H1 _ I1 q1) fun vl s2 ⟨l,H2,I2,pl,q2⟩=>thn (hu pins s2 σ H2 _ I2 q2) fun vu s3 pq39=>?_)
 obtain⟨u,H3,I3,pu,q3⟩:=pq39
 rw[evalPart_none]
 refine wpAny_pure ?_
 have I4:Inv X pins σ H3 { s3 with heap:=s3.heap.push { cls:=.type "slice",data:=.fields #[vl,vu,.none] } }:=I3.kept (t':=s3.toks) fun b ob q=>Heap.get?_push_of_some _ q
 obtain⟨T,id,hT,ht,hg⟩:=hr pins { s3 with heap:=s3.heap.push { cls:=.type "slice",data:=.fields #[vl,vu,.none] } } σ H3 x v vl vu l u s3.heap.objs.size Q I4 r1 (Heap.IsSliceOf.new ..) pl pu q3
 show wpAny (model X.prog X.w) X.A (subscriptTail e (.Slice lo hi none p2) v (.ref s3.heap.objs.size)) (EP X pins σ Q) X.xe { s3 with heap:=s3.heap.push { cls:=.type "slice",data:=.fields #[vl,vu,.none] } }
 exact tail_any (ops:=[.ref s3.heap.objs.size,v]) ht hT hg (by with_unfolding_all rfl)
noncomputable def cutV (xs:List V) (lo hi:Option Int):List V:=(xs.drop (HT.sIx xs.length 0 lo)).take (HT.sIx xs.length xs.length hi - HT.sIx xs.length 0 lo)
theorem Qca (xs:List V) (lo hi:Option Int):(cutV xs lo hi).length<=xs.length:=by
 unfold cutV
 rw[List.length_take,List.length_drop]
 ac_nf
noncomputable def rSlT (K:PySem.W.Frag):V->Option Int->Option Int->Hp->VK->Prop:=fun x lo hi H Q=>∃ a xs,x=.ref a/\SqT K H a xs /\
 ¬ (HT.sIx xs.length 0 lo=0/\HT.sIx xs.length xs.length hi=xs.length)/\∀ p,H p=none->Q (.ref p) (upd H p (.tup (cutV xs lo hi)))
theorem Qcb:SlR X (rSlT X.K):=by
 intro pins s σ H x v vl vu lo hi sl Q I rx hs pl pu h
 obtain⟨a,xs,rfl,hx,hw,q⟩:=h
 cases rx
 obtain⟨its,r,ht,hz⟩:=I.tuple hx
 have hlen:its.toArray.size=xs.length:=by rw[List.size_toArray];exact r.length.symm
 refine⟨"tuple",_,PyProof.Rows.slot_tuple_getitem.lookup,ht.typeIs,?_⟩
 refine HT.getItem_tuple_cut ht hs pl pu (by rw[hlen];exact hw) ?_ (by rw[hlen];exact hz)
 rw[hlen]
 refine⟨.ref s.heap.objs.size,_,I.laid (t':=s.toks) (o:=.tup (cutV xs lo hi)) (fun b ob q=>Heap.get?_push_of_some _ q) (Nat.le_refl _) ?_,rfl,q _ (I.hok.fresh (Nat.le_refl _))⟩
 exact⟨Nat.le_trans (Qca xs lo hi) hz,_,(r.drop (HT.sIx xs.length 0 lo)).take (HT.sIx xs.length xs.length hi - HT.sIx xs.length 0 lo),IsTupD.new _ _⟩
noncomputable def rCatT (K:PySem.W.Frag):R2:=fun x y H Q=>∃ a b xs ys,x=.ref a/\y=.ref b/\SqT K H a xs/\SqT K H b ys/\xs≠[]/\xs.length + ys.length<=sizeLine /\
 (ys=[]->Q (.ref a) H)/\(ys≠[]->∀ p,H p=none->Q (.ref p) (upd H p (.tup (xs++ys))))
theorem Vals.nil_iff {xs:List V}{us:List Value} (r:Vals xs us):us=[]↔xs=[]:=by
 cases r with
 | nil=>simp
 | cons _ _=>simp
theorem Qcc:OpR X (binaryOp .Add) (rCatT X.K):=by
 intro pins s σ H x y v u Q I rx ry h
 obtain⟨a,b,xs,ys,rfl,rfl,ha,hb,hx,hz,q1,q2⟩:=h
 cases rx
 cases ry
 obtain⟨its,r1,p1,_⟩:=I.tuple ha
 obtain⟨its2,r2,p2,_⟩:=I.tuple hb
 refine HT.cat_tup p1 p2 (fun z=>hx (r1.nil_iff.mp z)) (fun z=>⟨.ref a,H,I,rfl,q1 (r2.nil_iff.mp z)⟩) (fun z=>?_) (by rw[<- r1.length,<- r2.length];exact hz)
 refine⟨.ref s.heap.objs.size,_,I.laid (t':=s.toks) (o:=.tup (xs++ys)) (fun b ob q=>Heap.get?_push_of_some _ q) (Nat.le_refl _) ?_,rfl,q2 (fun w=>z (r2.nil_iff.mpr w)) _ (I.hok.fresh (Nat.le_refl _))⟩
 exact⟨by rw[List.length_append];exact hz,_,r1.append r2,IsTupD.new _ _⟩
end
noncomputable def ixN (n:Nat) (i:Int):Option Nat:=if 0<=i then (if i < n then some i.toNat else none) else if -(n:Int)<=i then some (i + n).toNat else none
noncomputable def atI {α:Type} (xs:List α) (i:Int):Option α:=(ixN xs.length i).bind fun j=>xs[j]?
theorem Qcd {n:Nat}{i:Int}{j:Nat} (h:ixN n i=some j):seqIndex? i n=some j/\j < n /\ -(n:Int)<=i/\i < n:=by
 unfold ixN at h
 by_cases h0:0<=i
 ·rw[if_pos h0]at h
  by_cases h1:i < n
  ·rw[if_pos h1]at h
   have e:i.toNat=j:=Option.some.inj h
   exact⟨by rw[seqIndex_of h0 h1,e],by ac_nf,by ac_nf,h1⟩
  ·rw[if_neg h1]at h;cases h
 ·rw[if_neg h0]at h
  by_cases h1 : -(n:Int)<=i
  ·rw[if_pos h1]at h
   have e:(i + n).toNat=j:=Option.some.inj h
   exact⟨by rw[seqIndex_neg (by ac_nf) h1,e],by ac_nf,h1,by ac_nf⟩
  ·rw[if_neg h1]at h;cases h
theorem Qce {α:Type}{xs:List α}{i:Int}{v:α} (h:atI xs i=some v):∃ j,seqIndex? i xs.length=some j/\xs[j]?=some v/\j < xs.length /\ -(xs.length:Int)<=i/\i < xs.length:=by
 unfold atI at h
 cases e:ixN xs.length i with
 | none=>rw[e]at h;cases h
 | some j=>
  rw[e]at h
  obtain⟨h1,h2,h3,h4⟩:=Qcd e
  exact⟨j,h1,h,h2,h3,h4⟩
noncomputable def PlainIx (b:Expr):Prop:=∀ o i,subscripted b false o i=operate [o,i] (getItem o i)
noncomputable def IxR (X:Cx) (r:R2):Prop:=
 ∀ (value slice:Expr) (pins:List (Addr × Obj)) (s:Shared) (σ:St) (H:Hp) (x y:V) (v u:Value) (Q:VK),Inv X pins σ H s->RelV x v->RelV y u->r x y H Q ->
  subscripted slice false v u=operate [v,u] (getItem v u)->wpAny (model X.prog X.w) X.A (subscriptTail value slice v u) (EP X pins σ Q) X.xe s
noncomputable def MtR (X:Cx) (id:String) (r:V->List V->Hp->VK->Prop):Prop:=
 ∀ (pins:List (Addr × Obj)) (s:Shared) (σ:St) (H:Hp) (x:V) (xs:List V) (v:Value) (us:List Value) (Q:VK),Inv X pins σ H s->RelV x v->Vals xs us->r x xs H Q ->
  wpAny (model X.prog X.w) X.A (call (.builtin id) (v::us)) (EP X pins σ Q) X.xe s
section
variable {X:Cx}{a b:Expr}{ta tb:TE}{pos:Pos}
theorem IxR.or {r r':R2} (h:IxR X r) (h':IxR X r'):IxR X (fun x y H Q=>r x y H Q\/r' x y H Q):=by
 intro value slice pins s σ H x y v u Q I rx ry q hs
 rcases q with q | q
 ·exact h value slice pins s σ H x y v u Q I rx ry q hs
 ·exact h' value slice pins s σ H x y v u Q I rx ry q hs
theorem Qcf {r:R2} (hr:IxR X r) (ha:PE X a ta) (hb:PE X b tb) (hs:PlainIx b):PE X (.Subscript a b pos) (tOp r ta tb):=by
 intro pins s σ H Q I h
 exact Subscript_ (binT ha hb I h fun v u s2 x y H2 I2 rx ry q=>hr a b pins s2 σ H2 x y v u Q I2 rx ry q (hs _ _))
noncomputable def rIxL (K:PySem.W.Frag):R2:=fun x y H Q=>∃ p xs i v,x=.ref p/\y=.int i/\SqL K H p xs/\atI xs i=some v/\Q v H
noncomputable def rIxT (K:PySem.W.Frag):R2:=fun x y H Q=>∃ p xs i v,x=.ref p/\y=.int i/\SqT K H p xs/\atI xs i=some v/\Q v H
noncomputable def rIxS:R2:=fun x y H Q=>∃ z i c,x=.str z/\y=.int i/\z.length<=sizeLine/\atI z.cps.toList i=some c/\Q (.str ⟨#[c]⟩) H
theorem Qcg:IxR X (rIxL X.K):=by
 intro value slice pins s σ H x y v u Q I rx ry h hs
 obtain⟨p,xs,i,z,rfl,rfl,hq,he,q⟩:=h
 cases rx
 obtain⟨t,rfl⟩:=ry
 obtain⟨its,r,pl,hz⟩:=I.list hq
 obtain⟨j,h1,h2,h3,h4,h5⟩:=Qce he
 obtain⟨w,ew,rw'⟩:=r.get h2
 have hl:=r.length
 have hn:=Qbw
 have fin:EP X pins σ Q w s:=⟨z,H,I,rw',q⟩
 by_cases h0:0<=i
 ·have hj : i.toNat = j := by
    rw[seqIndex_of h0 h5]at h1
    exact Option.some.inj h1
  exact item_listR pl.isList h0 (by ac_nf) (by rw[hj];simpa using ew) fin hs
 ·have hj : (i + (its.toArray.size : Int)).toNat = j := by
    rw[seqIndex_neg (by ac_nf) h4]at h1
    rw[List.size_toArray,<- hl]
    exact Option.some.inj h1
  exact subscriptTail_builtinR (x:=w) pl.isList.typeIs slot_list_getitem.lookup
   (wpAny_getItem_list_neg (Q:=fun r s'=>r=w/\EP X pins σ Q r s') pl.isList (by ac_nf) (by rw[List.size_toArray]<;>ac_nf) (by ac_nf) (by rw[hj];simpa using ew) ⟨rfl,fin⟩) hs
theorem Qch:IxR X (rIxT X.K):=by
 intro value slice pins s σ H x y v u Q I rx ry h hs
 obtain⟨p,xs,i,z,rfl,rfl,hq,he,q⟩:=h
 cases rx
 obtain⟨t,rfl⟩:=ry
 obtain⟨its,r,pl,hz⟩:=I.tuple hq
 obtain⟨j,h1,h2,h3,h4,h5⟩:=Qce he
 obtain⟨w,ew,rw'⟩:=r.get h2
 have hl:=r.length
 have hn:=Qbw
 have fin:EP X pins σ Q w s:=⟨z,H,I,rw',q⟩
 exact subscriptTail_builtinR (x:=w) pl.typeIs slot_tuple_getitem.lookup
  (getItem_tuple (j:=j) (Q:=fun r s'=>r=w/\EP X pins σ Q r s') pl (by ac_nf) (by ac_nf) (by rw[List.size_toArray,<- hl];exact h1) (by simpa using ew) ⟨rfl,fin⟩) hs
theorem Qci:IxR X rIxS:=by
 intro value slice pins s σ H x y v u Q I rx ry h hs
 obtain⟨z,i,c,rfl,rfl,hz,he,q⟩:=h
 obtain⟨t,rfl⟩:=rx
 obtain⟨t',rfl⟩:=ry
 obtain⟨j,h1,h2,h3,h4,h5⟩:=Qce he
 have hl:z.cps.toList.length=z.length:=by simp[Str.length]
 rw[hl]at h1 h4 h5
 have hn:=Qbw
 exact tail_any (typeIs_str s z t) slot_str_getitem.lookup (getItem_str (c:=c) (by
  have e1:decide (i < -(2 ^ 63:Int))=false:=decide_eq_false (by ac_nf)
  have e2:decide (i ≥ 2 ^ 63)=false:=decide_eq_false (by ac_nf)
  rw[e1,e2,Bool.or_false]) (by rw[h1];simpa using h2) ⟨.str ⟨#[c]⟩,H,I.tok _,⟨_,rfl⟩,q⟩) hs
noncomputable def rIx (K:PySem.W.Frag):R2:=fun x y H Q=>rIxL K x y H Q\/rIxT K x y H Q\/rIxS x y H Q
theorem Qcj:IxR X (rIx X.K):=Qcg.or (Qch.or Qci)
theorem Qck (its:List Value) (n j:Nat) (u:Value):Obj.mapSeq (·.setIfInBounds j u) { cls:=.type "list",data:=.seq its.toArray n }={ cls:=.type "list",data:=.seq (its.set j u).toArray n }:=by
 simp[Obj.mapSeq]
theorem Inv.lst {pins : List (Addr × Obj)} {σ : St} {H : Hp} {s : Shared} {p : Addr} {xs : List V} (I : Inv X pins σ H s) (h : H p = some (.lst xs)) :
  ∃ (its:List Value) (n:Nat),Vals xs its/\s.heap.get? p=some { cls:=.type "list",data:=.seq its.toArray n }/\xs.length<=sizeLine:=by
 obtain⟨z,its,n,r,e⟩:=I.hok p _ h
 exact⟨its,n,r,e,z⟩
theorem Inv.lstUpd {pins : List (Addr × Obj)} {σ : St} {H : Hp} {s : Shared} {p : Addr} {xs ys : List V} {its its' : List Value} {n n' : Nat} {f : Obj -> Obj} (I : Inv X pins σ H s) (h : H p = some (.lst xs))
  (ho:s.heap.get? p=some { cls:=.type "list",data:=.seq its.toArray n }) (hf:f { cls:=.type "list",data:=.seq its.toArray n }={ cls:=.type "list",data:=.seq its'.toArray n' }) (r:Vals ys its') (hz:ys.length<=sizeLine) (t:Nat):
  Inv X pins σ (upd H p (.lst ys)) { s with heap:=s.heap.update p f,toks:=t }:=by
 have e:(s.heap.update p f).get? p=some { cls:=.type "list",data:=.seq its'.toArray n' }:=by
  rw[Heap.get?_update_self f ho (by rw[hf]<;>rfl),hf]
 refine I.write (x:=p) (e:=p) (by rw[h];trivial) (.inl rfl) (fun b u hb q=>(Heap.get?_update_other _ _ (Ne.symm hb)).trans q) ⟨_,e⟩ ?_
 exact⟨hz,its',n',r,e⟩
noncomputable def rSetL:V->V->V->Hp->(Hp->Prop)->Prop:=fun o i v H Q=>∃ p xs k j,o=.ref p/\i=.int k/\H p=some (.lst xs)/\ixN xs.length k=some j/\Q (upd H p (.lst (xs.set j v)))
theorem Qcl:PSet X rSetL:=by
 intro pins s σ H o i v ov iv u Q I ro ri rv h
 obtain⟨p,xs,k,j,rfl,rfl,hp,hj,q⟩:=h
 cases ro
 obtain⟨t,rfl⟩:=ri
 obtain⟨its,n,r,ho,hz⟩:=I.lst hp
 obtain⟨h1,h2,h3,h4⟩:=Qcd hj
 have hl:=r.length
 have hn:=Qbw
 have I':Inv X pins σ (upd H p (.lst (xs.set j v))) { s with heap:=s.heap.update p (Obj.mapSeq (·.setIfInBounds j u)) }:=
  I.lstUpd hp ho (Qck its n j u) (r.set rv j) (by rw[List.length_set];exact hz) s.toks
 by_cases h0:0<=k
 ·have hk : k.toNat = j := by
    rw[seqIndex_of h0 h4]at h1
    exact Option.some.inj h1
  exact PySem.W.ki_setAt ho h0 (by ac_nf) (by rw[List.size_toArray,<- hl];exact h4) (by rw[hk];exact⟨_,I',q⟩)
 ·have hk : (k + (its.toArray.size : Int)).toNat = j := by
    rw[seqIndex_neg (by ac_nf) h3]at h1
    rw[List.size_toArray,<- hl]
    exact Option.some.inj h1
  exact PySem.W.ki_setBack ho (by ac_nf) (by rw[List.size_toArray,<- hl];exact h3) (by ac_nf) (by rw[hk];exact⟨_,I',q⟩)
theorem Qcm (lo hi:Option Int) (n:Nat):(sliceBounds lo hi none n).1=((HT.sIx n 0 lo:Nat):Int)/\(sliceBounds lo hi none n).2.1=((HT.sIx n n hi:Nat):Int)/\(sliceBounds lo hi none n).2.2=1:=by
 refine⟨?_,?_,rfl⟩
 ·cases lo with
  | none=>simp[sliceBounds,HT.sIx]
  | some i=>
   simp only[sliceBounds,HT.sIx,Option.getD_none,show (1:Int) > 0 by decide,if_true]
   by_cases h:i < 0
   ·simp only[h,if_true]<;>ac_nf
   ·simp only[h,if_false]<;>ac_nf
 ·cases hi with
  | none=>simp[sliceBounds,HT.sIx]
  | some i=>
   simp only[sliceBounds,HT.sIx,Option.getD_none,show (1:Int) > 0 by decide,if_true]
   by_cases h:i < 0
   ·simp only[h,if_true]<;>ac_nf
   ·simp only[h,if_false]<;>ac_nf
theorem Qcn (its:List Value) (lo hi:Option Int):slicePick its.toArray lo hi none=((its.drop (HT.sIx its.length 0 lo)).take (HT.sIx its.length its.length hi - HT.sIx its.length 0 lo)).toArray:=by
 obtain⟨h1,h2,h3⟩:=Qcm lo hi its.toArray.size
 unfold slicePick
 rw[h1,h2,h3]
 simp only[sliceRange_one,pick_run,List.size_toArray]<;>rfl
noncomputable def rSlL (K:PySem.W.Frag):V->Option Int->Option Int->Hp->VK->Prop:=fun x lo hi H Q=>∃ a xs,x=.ref a/\SqL K H a xs/\∀ p,H p=none->Q (.ref p) (upd H p (.lst (cutV xs lo hi)))
theorem Qco:SlR X (rSlL X.K):=by
 intro pins s σ H x v vl vu lo hi sl Q I rx hs pl pu h
 obtain⟨a,xs,rfl,hx,q⟩:=h
 cases rx
 obtain⟨its,r,ht,hz⟩:=I.list hx
 have hlen:=r.length
 refine⟨"list",_,slot_list_getitem.lookup,ht.isList.typeIs,?_⟩
 refine wpAny_getItem_list_slice ht.isList hs pl pu .none (by simp) ?_ (by rw[List.size_toArray]<;>ac_nf)
 rw[Qcn,<- hlen]
 refine⟨.ref s.heap.objs.size,_,I.laid (t':=s.toks) (o:=.lst (cutV xs lo hi)) (fun b ob q=>Heap.get?_push_of_some _ q) (Nat.le_refl _) ?_,rfl,q _ (I.hok.fresh (Nat.le_refl _))⟩
 exact⟨Nat.le_trans (Qca xs lo hi) hz,_,0,(r.drop (HT.sIx xs.length 0 lo)).take (HT.sIx xs.length xs.length hi - HT.sIx xs.length 0 lo),Heap.get?_push_size _ rfl⟩
noncomputable def flatV:V->Bool
 | .non=>true
 | .bl _=>true
 | .int _=>true
 | .str _=>true
 | _=>false
noncomputable def eqV:V->V->Bool
 | .non,.non=>true
 | .bl a,.bl b=>a == b
 | .bl a,.int b=>(if a then 1 else 0) == b
 | .int a,.bl b=>a == (if b then 1 else 0)
 | .int a,.int b=>a == b
 | .str a,.str b=>a == b
 | _,_=>false
theorem Qcp {A:Around}{s:Shared}{y x:V}{u v:Value} (ry:RelV y u) (rx:RelV x v) (fy:flatV y=true) (fx:flatV x=true):SeqAt.EqAt A s u v (eqV y x):=by
 cases y with
 | non=>
  cases ry
  cases x with
  | non=>cases rx;exact SeqAt.EqAt.same _
  | bl b=>cases rx;exact SeqAt.EqAt.none_bool b
  | int b=>obtain⟨t,rfl⟩:=rx;exact SeqAt.EqAt.none_int b t
  | str b=>obtain⟨t,rfl⟩:=rx;exact SeqAt.EqAt.none_str b t
  | _=>exact absurd (show false=true from fx) Bool.false_ne_true
 | bl a=>
  cases ry
  cases x with
  | non=>cases rx;exact SeqAt.EqAt.bool_none a
  | bl b=>cases rx;exact SeqAt.EqAt.bool_bool a b
  | int b=>obtain⟨t,rfl⟩:=rx;exact SeqAt.EqAt.bool_int a b t
  | str b=>obtain⟨t,rfl⟩:=rx;exact SeqAt.EqAt.bool_str a b t
  | _=>exact absurd (show false=true from fx) Bool.false_ne_true
 | int a=>
  obtain⟨t',rfl⟩:=ry
  cases x with
  | non=>cases rx;exact SeqAt.EqAt.int_none a t'
  | bl b=>cases rx;exact SeqAt.EqAt.int_bool a t' b
  | int b=>obtain⟨t,rfl⟩:=rx;exact SeqAt.EqAt.int_int a t' b t
  | str b=>obtain⟨t,rfl⟩:=rx;exact SeqAt.EqAt.int_str a t' b t
  | _=>exact absurd (show false=true from fx) Bool.false_ne_true
 | str a=>
  obtain⟨t',rfl⟩:=ry
  cases x with
  | non=>cases rx;exact SeqAt.EqAt.str_none a t'
  | bl b=>cases rx;exact SeqAt.EqAt.str_bool a t' b
  | int b=>obtain⟨t,rfl⟩:=rx;exact SeqAt.EqAt.str_int a t' b t
  | str b=>obtain⟨t,rfl⟩:=rx;exact SeqAt.EqAt.str_str a t' b t
  | _=>exact absurd (show false=true from fx) Bool.false_ne_true
 | _=>exact absurd (show false=true from fy) Bool.false_ne_true
noncomputable def eqU (x:V) (u:Value):Bool:=match u with
 | .none=>eqV .non x
 | .bool b=>eqV (.bl b) x
 | .int i _=>eqV (.int i) x
 | .str z _=>eqV (.str z) x
 | _=>false
theorem Qcq {x y:V}{u:Value} (r:RelV y u) (f:flatV y=true):eqU x u=eqV y x:=by
 cases y with
 | non=>cases r;rfl
 | bl b=>cases r;rfl
 | int i=>obtain⟨t,rfl⟩:=r;rfl
 | str z=>obtain⟨t,rfl⟩:=r;rfl
 | _=>exact absurd (show false=true from f) Bool.false_ne_true
theorem Qcr {x:V}:∀ {xs:List V}{us:List Value},Vals xs us->xs.all flatV=true->us.any (eqU x)=xs.any fun y=>eqV y x
 | _,_,.nil,_=>rfl
 | y::xs,u::us,.cons r t,f=>by
  rw[List.all_cons,Bool.and_eq_true]at f
  rw[List.any_cons,List.any_cons,Qcq r f.1,Qcr t f.2]
theorem Qcs {A:Around}{s:Shared}{x:V}{v:Value} (rx:RelV x v) (fx:flatV x=true):∀ {xs:List V}{us:List Value},Vals xs us->xs.all flatV=true->∀ u∈us,SeqAt.EqAt A s u v (eqU x u)
 | _,_,.nil,_=>fun u hu=>by cases hu
 | y::xs,u::us,.cons r t,f=>fun u' hu=>by
  rw[List.all_cons,Bool.and_eq_true]at f
  rcases List.mem_cons.mp hu with rfl | hu
  ·rw[Qcq r f.1];exact Qcp r rx f.1 fx
  ·exact Qcs rx fx t f.2 u' hu
noncomputable def inV (x:V) (xs:List V):Bool:=xs.any fun y=>eqV y x
noncomputable def rIn (K:PySem.W.Frag) (neg:Bool):R2:=fun x y H Q=>∃ p xs,y=.ref p/\(SqL K H p xs\/SqT K H p xs)/\flatV x=true/\xs.all flatV=true/\Q (.bl (if neg then !inV x xs else inV x xs)) H
theorem Qct:OpR X (compareOp .In) (rIn X.K false):=by
 intro pins s σ H x y v u Q I rx ry h
 obtain⟨p,xs,rfl,hq,fx,fs,q⟩:=h
 cases ry
 rcases hq with hq | hq
 ·obtain⟨its,r,pl,hz⟩:=I.list hq
  refine SeqAt.in_listAt (eqU x) pl.isList (fun w hw=>Qcs rx fx r fs w (by simpa using hw)) ⟨.bl _,H,I,rfl,?_⟩
  rw[show its.toArray.any (eqU x)=its.any (eqU x) by simp,Qcr r fs]
  exact q
 ·obtain⟨its,r,pl,hz⟩:=I.tuple hq
  refine SeqAt.in_tupleAt (eqU x) pl (fun w hw=>Qcs rx fx r fs w (by simpa using hw)) ⟨.bl _,H,I,rfl,?_⟩
  rw[show its.toArray.any (eqU x)=its.any (eqU x) by simp,Qcr r fs]
  exact q
theorem Qcu:OpR X (compareOp .NotIn) (rIn X.K true):=by
 intro pins s σ H x y v u Q I rx ry h
 obtain⟨p,xs,rfl,hq,fx,fs,q⟩:=h
 cases ry
 rcases hq with hq | hq
 ·obtain⟨its,r,pl,hz⟩:=I.list hq
  refine SeqAt.notIn_listAt (eqU x) pl.isList (fun w hw=>Qcs rx fx r fs w (by simpa using hw)) ⟨.bl _,H,I,rfl,?_⟩
  rw[show its.toArray.any (eqU x)=its.any (eqU x) by simp,Qcr r fs]
  exact q
 ·obtain⟨its,r,pl,hz⟩:=I.tuple hq
  refine SeqAt.notIn_tupleAt (eqU x) pl (fun w hw=>Qcs rx fx r fs w (by simpa using hw)) ⟨.bl _,H,I,rfl,?_⟩
  rw[show its.toArray.any (eqU x)=its.any (eqU x) by simp,Qcr r fs]
  exact q
theorem Qcv:CallR X (.builtin "len") (fun xs H Q=>∃ p ys,xs=[.ref p]/\(SqL X.K H p ys\/SqT X.K H p ys)/\Q (.int ys.length) H):=by
 intro pins s σ H xs us Q I r h
 obtain⟨p,ys,rfl,hq,q⟩:=h
 obtain⟨u,rfl,rx⟩:=QbA r
 cases rx
 have hn:=Qbw
 rcases hq with hq | hq
 ·obtain⟨its,r',pl,hz⟩:=I.list hq
  have hlen:=r'.length
  exact Calls.call_len_list pl.isList (by simp only[List.size_toArray]<;>ac_nf) ⟨.int ys.length,H,I.tok _,⟨s.toks + 1,by rw[List.size_toArray,hlen]⟩,q⟩
 ·obtain⟨its,r',pl,hz⟩:=I.tuple hq
  have hlen:=r'.length
  exact len_tuple pl (by simp only[List.size_toArray]<;>ac_nf) ⟨.int ys.length,H,I.tok _,⟨s.toks + 1,by rw[List.size_toArray,hlen]⟩,q⟩
theorem Qcw:CallR X (.builtin "len") (fun xs H Q=>∃ z,xs=[.str z]/\z.length<=sizeLine/\Q (.int z.length) H):=by
 intro pins s σ H xs us Q I r h
 obtain⟨z,rfl,hz,q⟩:=h
 obtain⟨u,rfl,t,rfl⟩:=QbA r
 have hn:=Qbw
 exact len_str (by ac_nf) ⟨.int z.length,H,I.tok _,⟨_,rfl⟩,q⟩
theorem CallR.or {f:Value}{r r':List V->Hp->VK->Prop} (h:CallR X f r) (h':CallR X f r'):CallR X f (fun xs H Q=>r xs H Q\/r' xs H Q):=by
 intro pins s σ H xs us Q I rs q
 rcases q with q | q
 ·exact h pins s σ H xs us Q I rs q
 ·exact h' pins s σ H xs us Q I rs q
theorem Qcx:CallR X (.type "list") (fun xs H Q=>∃ p ys,xs=[.ref p]/\(SqL X.K H p ys\/SqT X.K H p ys)/\∀ l,H l=none->Q (.ref l) (upd H l (.lst ys))):=by
 intro pins s σ H xs us Q I r h
 obtain⟨p,ys,rfl,hq,q⟩:=h
 obtain⟨u,rfl,rx⟩:=QbA r
 cases rx
 have fin : ∀ (its : List Value), Vals ys its -> ys.length <= sizeLine -> ∀ (h' : Heap) (c' : Nat), (∀ b o', s.heap.get? b = some o' -> h'.get? b = some o') ->
   h'.get? s.heap.objs.size=some { cls:=.type "list",dict:=none,data:=.seq its.toArray c',slots:=#[] }->EP X pins σ Q (.ref s.heap.objs.size) { s with heap:=h' }:=fun its r' hz h' c' kp e=>
  ⟨.ref s.heap.objs.size,_,I.laid (t':=s.toks) kp (Nat.le_refl _) (show ObjOk X.prog X.w _ h' _ (.lst ys) from ⟨hz,its,c',r',e⟩),rfl,q _ (I.hok.fresh (Nat.le_refl _))⟩
 rcases hq with hq | hq
 ·obtain⟨its,r',pl,hz⟩:=I.list hq
  have hlen:=r'.length
  obtain⟨o,ho,hc,n,hd⟩:=pl.isList
  exact call_list_seq p (.inl rfl) ho hc hd (fun h' c' kp e=>fin its r' hz h' c' kp e) (by simp only[List.size_toArray]<;>ac_nf)
 ·obtain⟨its,r',pl,hz⟩:=I.tuple hq
  have hlen:=r'.length
  obtain⟨o,ho,hc,n,hd⟩:=pl
  exact call_list_seq p (.inr rfl) ho hc hd (fun h' c' kp e=>fin its r' hz h' c' kp e) (by simp only[List.size_toArray]<;>ac_nf)
theorem Qcy:CallR X (.type "tuple") (fun xs H Q=>∃ p ys,xs=[.ref p]/\((SqL X.K H p ys/\∀ l,H l=none->Q (.ref l) (upd H l (.tup ys)))\/(SqT X.K H p ys/\Q (.ref p) H))):=by
 intro pins s σ H xs us Q I r h
 obtain⟨p,ys,rfl,h⟩:=h
 obtain⟨u,rfl,rx⟩:=QbA r
 cases rx
 rcases h with ⟨hq,q⟩ | ⟨hq,q⟩
 ·obtain⟨its,r',pl,hz⟩:=I.list hq
  have hlen:=r'.length
  refine call_tuple_list pl.isList (fun h' kp=>?_) (by simp only[List.size_toArray]<;>ac_nf)
  have I1:Inv X pins σ H { s with heap:=h' }:=I.kept (t':=s.toks) kp
  have I2:Inv X pins σ (upd H h'.objs.size (.tup ys)) { s with heap:=h'.push { cls:=.type "tuple",data:=.seq its.toArray } }:=
   I1.laid (t':=s.toks) (fun b o e=>Heap.get?_push_of_some _ e) (Nat.le_refl _) (show ObjOk X.prog X.w _ _ _ (.tup ys) from ⟨hz,its,r',IsTupD.new _ _⟩)
  exact⟨.ref h'.objs.size,_,I2,rfl,q _ (I1.hok.fresh (Nat.le_refl _))⟩
 ·obtain⟨its,r',pl,hz⟩:=I.tuple hq
  exact call_tuple_same pl ⟨.ref p,H,I,rfl,q⟩
noncomputable def tyV (K:PySem.W.Frag) (T:String) (x:V) (H:Hp):Prop:=match x with
 | .str _=>T="str"
 | .int _=>T="int"
 | .ref p => (T = "list" /\ ∃ xs, SqL K H p xs) \/ (T = "tuple" /\ ∃ o, K.lookup p = some o /\ o.cls = .type "tuple" /\ o.dict = none) \/
   (T="dict"/\((∃ kvs,H p=some (.dK kvs))\/∃ kvs,H p=some (.dT kvs)))\/(T="set"/\∃ S n,H p=some (.set S n))
 | _=>False
theorem Qcz {pins : List (Addr × Obj)} {σ : St} {H : Hp} {s : Shared} {T : String} {x : V} {v : Value} (I : Inv X pins σ H s) (r : RelV x v) (ty : tyV X.K T x H) :
  s.TypeIs v T/\∀ a,v=.ref a->∃ ob,s.heap.get? a=some ob/\ob.dict=none:=by
 cases x with
 | str z=>
  obtain⟨t,rfl⟩:=r
  cases (show T="str" from ty)
  exact⟨typeIs_str s z t,fun _ e=>nomatch e⟩
 | int i=>
  obtain⟨t,rfl⟩:=r
  cases (show T="int" from ty)
  exact⟨typeIs_int s i t,fun _ e=>nomatch e⟩
 | ref p=>
  cases r
  rcases ty with ⟨rfl,xs,hq⟩ | ⟨rfl,o,hk,hc,hd⟩ | ⟨rfl,hk⟩ | ⟨rfl,S,n,hk⟩
  ·obtain⟨its,_,pl,_⟩:=I.list hq
   refine⟨pl.isList.typeIs,fun a e=>?_⟩
   cases e
   obtain⟨o,n,e,c,hd,_⟩:=pl
   exact⟨o,e,hd⟩
  ·refine⟨⟨o,I.kIn p o hk,hc⟩,fun a e=>?_⟩
   cases e
   exact⟨o,I.kIn _ o hk,hd⟩
  ·have z : ∃ o, s.heap.get? p = some o /\ o.ExactDict := by
     rcases hk with ⟨kvs,hk⟩ | ⟨kvs,hk⟩
     ·obtain⟨_,_,_,_,o,_,_,e,ex,_⟩:=I.hok p _ hk
      exact⟨o,e,ex⟩
     ·obtain⟨_,_,_,_,o,_,_,e,ex,_⟩:=I.hok p _ hk
      exact⟨o,e,ex⟩
   obtain⟨o,e,ex⟩:=z
   refine⟨⟨o,e,ex.1⟩,fun a e2=>?_⟩
   cases e2
   exact⟨o,e,ex.2.1⟩
  ·obtain⟨o,_,_,_,e,ex,_⟩:=I.hok p _ hk
   refine⟨⟨o,e,ex.1⟩,fun a e2=>?_⟩
   cases e2
   exact⟨o,e,ex.2.1⟩
 | _=>exact False.elim ty
noncomputable def tBM0 (K:PySem.W.Frag) (T:String) (r:V->List V->Hp->VK->Prop) (to:TE):TE:=fun σ H Q=>to σ H fun x H1=>tyV K T x H1/\r x [] H1 Q
noncomputable def tBM (K:PySem.W.Frag) (T:String) (r:V->List V->Hp->VK->Prop) (to:TE) (t:TA):TE:=fun σ H Q=>to σ H fun x H1=>tyV K T x H1/\t σ H1 fun xs H2=>r x xs H2 Q
variable {o e:Expr}{es:List Expr}{to:TE}{t:TA}{name:Str}{apos cpos:Pos}{T id:String}{r:V->List V->Hp->VK->Prop}
theorem QcA (pa : PlainAttrs T) (slot : Slot T name id) (hty : typeOf (.builtin id) = pure (.type "method_descriptor")) (hm : MtR X id r) (ho : PE X o to)
  (hbase:attributeBase o name X.env (eval o X.env)=eval o X.env:=by rfl) (hline:(apos.endLine == cpos.line)=true:=by rfl):PE X (.Call (.Attribute o name apos) [] [] cpos) (tBM0 X.K T r to):=by
 intro pins s σ H Q I h
 refine wpAny_Call_method0_late hbase hline (thn (ho pins s σ H _ I h) fun v s1 pq40=>?_)
 obtain⟨x,H1,I1,r1,ty,q1⟩:=pq40
 obtain⟨h1,h2⟩:=Qcz I1 r1 ty
 exact⟨T,id,pa,slot,hty,h1,h2,Calls.callWith_builtin rfl (PySem.evalArgs_none (hm pins s1 σ H1 x [] v [] Q I1 r1 .nil q1))⟩
theorem QcB (pa : PlainAttrs T) (slot : Slot T name id) (hty : typeOf (.builtin id) = pure (.type "method_descriptor")) (hm : MtR X id r) (ho : PE X o to) (ha : PA X (e :: es) t)
  (hbase:attributeBase o name X.env (eval o X.env)=eval o X.env:=by rfl)
  (hfew:((backTo cpos (starEach (e::es) X.env)).all (fun x => !x.1) && (backToKw cpos (keywordEach [] X.env)).all (fun x=>x.1.isSome)
   && decide ((e::es).length + ([]:List Keyword).length + (if ([]:List Keyword).isEmpty then 0 else 1) < 30))=true:=by rfl)
  (hline:(apos.endLine == cpos.line)=true:=by rfl) (hs:starEach (e::es) X.env=(false,eval e X.env)::starEach es X.env:=by rfl) (hplain:(backTo cpos (starEach es X.env)).any (·.1)=false:=by rfl):
  PE X (.Call (.Attribute o name apos) (e::es) [] cpos) (tBM X.K T r to t):=by
 intro pins s σ H Q I h
 refine wpAny_Call_method_late hbase hfew hline rfl (thn (ho pins s σ H _ I h) fun v s1 pq41=>?_)
 obtain⟨x,H1,I1,r1,ty,q1⟩:=pq41
 obtain⟨h1,h2⟩:=Qcz I1 r1 ty
 refine⟨T,id,pa,slot,hty,h1,h2,?_⟩
 have hA:=ha cpos pins s1 σ H1 _ I1 q1
 rw[hs]at hA ⊢
 refine Calls.callWith_builtin (by show (false || (backTo cpos (starEach es X.env)).any (·.1))=false;rw[hplain]<;>rfl) (Calls.evalArgs_plain ?_)
 exact thn hA fun us s2 pq42=>by obtain⟨vs,H2,I2,r2,q2⟩:=pq42;exact hm pins s2 σ H2 x vs v us Q I2 r1 r2 q2
end
noncomputable def MtM (X:Cx) (id:String) (r:V->List V->Hp->VK->Prop):Prop:=
 ∀ (pins:List (Addr × Obj)) (s:Shared) (σ:St) (H:Hp) (x:V) (xs:List V) (v:Value) (us:List Value) (Q:VK),Inv X pins σ H s->RelV x v->Vals xs us->r x xs H Q ->
  wpAny (model X.prog X.w) X.A (call (.builtin id) (v::us)) (EP X pins σ Q) X.xe s
theorem Vals.one {x:V}{us:List Value} (h:Vals [x] us):∃ u,us=[u]/\RelV x u:=by
 cases h with
 | cons r h=>cases h;exact⟨_,rfl,r⟩
theorem Vals.two {x y:V}{us:List Value} (h:Vals [x,y] us):∃ u v,us=[u,v]/\RelV x u/\RelV y v:=by
 cases h with
 | cons r h=>cases h with
  | cons q h=>cases h;exact⟨_,_,rfl,r,q⟩
theorem Vals.zero:∀ {us:List Value},Vals [] us->us=[]
 | _,.nil=>rfl
theorem Vals.dropLast {xs:List V}{us:List Value} (h:Vals xs us):Vals xs.dropLast us.dropLast:=by
 induction h with
 | nil=>exact .nil
 | cons r t ih=>
  cases t with
  | nil=>exact .nil
  | cons q t'=>exact .cons r ih
theorem Vals.reverse {xs:List V}{us:List Value} (h:Vals xs us):Vals xs.reverse us.reverse:=by
 induction h with
 | nil=>exact .nil
 | cons r t ih=>rw[List.reverse_cons,List.reverse_cons];exact Vals.append ih (.cons r .nil)
theorem Vals.rep {xs:List V}{us:List Value} (h:Vals xs us):∀ k:Nat,Vals (List.replicate k xs).flatten (List.replicate k us).flatten
 | 0=>.nil
 | k + 1=>by
  rw[List.replicate_succ,List.replicate_succ,List.flatten_cons,List.flatten_cons]
  exact Vals.append h (Vals.rep h k)
theorem QcC {α:Type} (l:List α):l.eraseIdx (l.length - 1)=l.dropLast:=by
 induction l with
 | nil=>rfl
 | cons a r ih=>
  cases r with
  | nil=>rfl
  | cons b r=>
   have e:(a::b::r).length - 1=((b::r).length - 1) + 1:=by
    have h1:(a::b::r).length=r.length + 2:=rfl
    have h2:(b::r).length=r.length + 1:=rfl
    ac_nf
   rw[e,List.eraseIdx_cons_succ,ih]
   all_goals rfl
section
variable {X:Cx}{pins:List (Addr × Obj)}{σ:St}{H:Hp}{s:Shared}{l b:Addr}{xs ys zs:List V}
theorem Inv.lset {its its' : List Value} {n : Nat} {f : Array Value -> Array Value} {t' : Nat} (I : Inv X pins σ H s) (hH : H l = some (.lst xs))
  (e:s.heap.get? l=some { cls:=.type "list",data:=.seq its.toArray n }) (hf:f its.toArray=its'.toArray) (hv:Vals ys its') (hz:ys.length<=sizeLine):
  Inv X pins σ (upd H l (.lst ys)) { s with heap:=s.heap.update l (Obj.mapSeq f),toks:=t' }:=by
 have q:=PySem.IsL.update e f
 rw[hf]at q
 refine I.write (x:=l) (e:=l) (by rw[hH];exact trivial) (.inl rfl) (fun b' u hb hu=>(Heap.get?_update_other s.heap (Obj.mapSeq f) (Ne.symm hb)).trans hu) ⟨_,q⟩ ?_
 exact⟨hz,its',_,hv,q⟩
theorem Inv.lnew {its : List Value} {t' : Nat} (I : Inv X pins σ H s) (hv : Vals ys its) (hz : ys.length <= sizeLine) :
  Inv X pins σ (upd H s.heap.objs.size (.lst ys)) { s with heap:=s.heap.push { cls:=.type "list",data:=.seq its.toArray },toks:=t' }:=
 I.laid (fun _ _ q=>Heap.get?_push_of_some _ q) (Nat.le_refl _) ⟨hz,its,0,hv,Heap.get?_push_size _ rfl⟩
theorem Inv.fresh (I:Inv X pins σ H s):H s.heap.objs.size=none:=I.hok.fresh (Nat.le_refl _)
theorem Inv.lstM (I:Inv X pins σ H s) (hH:H l=some (.lst xs)):xs.length<=sizeLine/\∃ (its:List Value) (n:Nat),Vals xs its/\xs.length=its.length/\s.heap.get? l=some { cls:=.type "list",data:=.seq its.toArray n }:=by
 obtain⟨z,its,n,r,e⟩:=I.hok l _ hH
 exact⟨z,its,n,r,r.length,e⟩
end
section
variable {X:Cx}
noncomputable def rAppend:V->List V->Hp->VK->Prop:=fun x vs H Q=>∃ l xs y,x=.ref l/\vs=[y]/\H l=some (.lst xs)/\xs.length < sizeLine/\Q .non (upd H l (.lst (xs++[y])))
theorem QcE:MtM X "list.append" rAppend:=by
 intro pins s σ H x vs v us Q I rx rv h
 obtain⟨l,xs,y,rfl,rfl,hH,hz,q⟩:=h
 cases rx
 obtain⟨u,rfl,ru⟩:=rv.one
 obtain⟨z,its,n,r,hl,e⟩:=I.lstM hH
 refine call_meets F.slot_list_append ⟨_,e,rfl⟩ F.entry_list_append (F.args_list_append_2 _ _) (PySem.list_append l its.toArray n u (by rw[List.size_toArray];ac_nf)) ⟨e,?_⟩
 refine⟨.non,_,I.lset (its':=its++[u]) hH e (by simp) (r.append (.cons ru .nil)) ?_,rfl,q⟩
 rw[List.length_append,List.length_singleton]
 ac_nf
noncomputable def rPop:V->List V->Hp->VK->Prop:=fun x vs H Q=>∃ l xs y,x=.ref l/\vs=[]/\H l=some (.lst xs)/\xs[xs.length - 1]?=some y/\Q y (upd H l (.lst xs.dropLast))
theorem QcF:MtM X "list.pop" rPop:=by
 intro pins s σ H x vs v us Q I rx rv h
 obtain⟨l,xs,y,rfl,rfl,hH,hy,q⟩:=h
 cases rx
 have hus:=rv.zero
 subst hus
 obtain⟨z,its,n,r,hl,e⟩:=I.lstM hH
 obtain⟨u,hu,ru⟩:=r.get hy
 have hy':its.toArray[its.toArray.size - 1]?=some u:=by
  show its.toArray[its.length - 1]?=some u
  rw[<- Array.getElem?_toList,<- hl]
  exact hu
 refine call_meets F.slot_list_pop ⟨_,e,rfl⟩ F.entry_list_pop (F.args_list_pop_1 _) (MeetsSeq.list_pop_last l its.toArray n u hy' (by rw[List.size_toArray];ac_nf)) ⟨e,?_⟩
 refine⟨y,_,I.lset (its':=its.dropLast) hH e ?_ r.dropLast ?_,ru,q⟩
 ·show its.toArray.eraseIdxIfInBounds (its.toArray.size - 1)=its.dropLast.toArray
  rw[List.size_toArray,List.eraseIdxIfInBounds_toArray,QcC]
 ·rw[List.length_dropLast]
  ac_nf
noncomputable def rCat:R2:=fun x y H Q=>∃ l b xs zs,x=.ref l/\y=.ref b/\H l=some (.lst xs)/\H b=some (.lst zs)/\xs.length + zs.length<=sizeLine/\∀ p,H p=none->Q (.ref p) (upd H p (.lst (xs++zs)))
theorem QcG:OpR X (binaryOp .Add) rCat:=by
 intro pins s σ H x y v u Q I rx ry h
 obtain⟨l,b,xs,zs,rfl,rfl,hH,hB,hz,q⟩:=h
 cases rx
 cases ry
 obtain⟨z,its,n,r,hl,e⟩:=I.lstM hH
 obtain⟨z2,its2,n2,r2,hl2,e2⟩:=I.lstM hB
 refine PySem.P.add_list e e2 ?_ (by rw[List.size_toArray,List.size_toArray];ac_nf)
 have ea:its.toArray++its2.toArray=(its++its2).toArray:=by simp
 rw[ea]
 exact⟨.ref _,_,I.lnew (t':=s.toks) (r.append r2) (by rw[List.length_append];ac_nf),rfl,q _ I.fresh⟩
end
section
variable {prog:Program}{w:World}{A:Around}{E:Value->Shared->Prop}{s:Shared}
theorem QcH {a c n:Nat} (hac:a<=c) (hc:c<=n):sliceBounds (some (a:Int)) (some (c:Int)) none n=((a:Int),(c:Int),1):=by
 simp only[sliceBounds,Option.getD_none]
 have h1:¬ ((a:Int) < 0):=by ac_nf
 have h2:¬ ((c:Int) < 0):=by ac_nf
 simp only[h1,h2,if_false,show (1:Int) > 0 by decide,if_true]
 congr 1
 ·ac_nf
 ·congr 1;ac_nf
end
end L2
namespace Att
open PySem PySem.W PySem.Calls PyProof.Rows
theorem QcJ {P:Params}{h:Heap}:∀ (ns:List Int) (vs:List Value),WellAll P h vs (ns.map WData.int)->IntsAre vs ns:=by
 intro ns
 induction ns with
 | nil=>
  intro vs w
  rw[List.map_nil]at w
  cases w
  exact .nil
 | cons n ns ih=>
  intro vs w
  rw[List.map_cons]at w
  cases w with
  | cons a b=>
   cases a
   exact .cons _ _ (ih _ b)
theorem QcK {l : OpenLaw} {n : Nat} (hn : l.most = some n) {P : Params} {h : Heap} {args : List WData} {vals : List Value}
  (hpre:l.row.toRowW.claim.pre args=true) (hwl:WellAll P h vals args):
  ∃ a vs ns,vals=[Value.ref a]/\args=[WData.list (ns.map WData.int)]/\h.get? a=some { cls:=.type "list",data:=.seq vs.toArray }/\IntsAre vs ns/\ns.length<=n:=by
 have hsh:WShape.hasAll [] args [.list .int]=true:=(pre_splitW hpre).1
 have hc:l.pre.holds [] { args:=args }=true:=(pre_splitW hpre).2
 obtain⟨d,r,rfl,h1,h2⟩:=hasAllW_cons hsh
 obtain rfl:=hasAllW_nil h2
 obtain⟨xs,rfl,h3⟩:=hasW_list h1
 obtain⟨ns,rfl⟩:=items_int h3
 have hlen:ns.length<=n:=by
  unfold OpenLaw.pre at hc
  have h4:(WTm.not (.lt (.lit (.int (n:Int))) (.len (.arg 0)))).holds [] { args:=[.list (ns.map .int)] }=true:=by
   have h4:=(holds_andW hc).1
   rw[hn]at h4
   exact h4
  have h5:=condW_of h4 (w_not (w_lt w_lit (w_len_list (w_arg rfl))))
  rw[List.length_map]at h5
  refine Nat.le_of_not_lt fun q=>?_
  have q':(n:Int) < ((ns.length:Nat):Int):=by ac_nf
  first
   | (rw[decide_eq_true q']at h5;exact absurd h5 (by decide))
   | (simp at h5;ac_nf)
 cases hwl with
 | cons w1 w2=>
  cases w2
  cases w1 with
  | list ho hall=>exact⟨_,_,ns,rfl,rfl,ho,QcJ ns _ hall,hlen⟩
theorem QcL (l:OpenLaw) (args:List WData):l.row.toRowW.claim.post args (.bool true) args=true:=
 postW_of (r:=l.row.toRowW) (X:=(true == true))
  (show WShape.has [] (.bool true) .bool=true by first | rfl | decide | simp[WShape.has,WShape.arms,WShape.armsAll])
  (show (WTm.eq .res (.lit (.bool true))).value [] { args:=args,res:=some (.bool true),after:=args }=some (.bool (true == true)) from w_eq_bool (w_res rfl) w_lit) rfl
theorem attach_call {l : OpenLaw} {n : Nat} {q : Program} {loose : List Str} {XP : (Str -> Option Value) -> Heap -> Prop} {YP : World -> Heap -> Prop} {d : DefRec}
  (hn:l.most=some n) (hdf:d.params.defaults=[])
  (call:∀ (w:World) (s₀ s₁:Shared) (mg mb:Str->Option Value) (fa:Addr) (o:Obj) (pm cd doc:Value) (a:Addr) (vs:List Value) (ns:List Int),
   Ground q loose [] XP w s₀ mg mb s₁.heap->YP w s₁.heap ->
   s₁.heap.get? fa=some o->o.data=.func (docDef d.name d.params d.body d.scope pm cd doc)->s₁.heap.CodeRec cd d.name->mg d.name=some (.ref fa) ->
   s₁.heap.get? a=some { cls:=.type "list",data:=.seq vs.toArray }->IntsAre vs ns->ns.length<=n->s₁.gens=#[] ->
   codeAny (model l.prog w) callerA (.call (.ref fa) ⟨[.ref a],[]⟩) (fun r s'=>r=.ok (.ret (.bool true))/\OldK s₁.heap s'.heap/\s'.os=s₁.os/\AllBare s'.gens) s₁):
  WalkO q loose XP YP l.row.toRowW d [] (fun f vs=>PySem.call f vs):=by
 intro w s₀ s₁ mg mb G Y fa o pm cd doc dV kV ho hd hcd hD hmg hg args vals as hpre hlay hrd hwl hlo
 obtain rfl:dV=.none:=Dflts.none hD hdf
 obtain rfl:kV=.none:=Dflts.noKw hD
 obtain⟨a,vs,ns,rfl,rfl,hobj,hints,hlen⟩:=QcK hn hpre hwl
 refine enter_call (codeAny_mono (call w s₀ s₁ mg mb fa o pm cd doc a vs ns G Y ho (fd_plain hd) hcd hmg hobj hints hlen hg) fun r s' hq=>?_)
 obtain⟨rfl,h2,h3,h4⟩:=hq
 exact⟨.inl ⟨.bool true,.bool true,[],rfl,fun _=>rfl,.bool true,QcL l _,fun _=>⟨List.Pairwise.nil,fun _ hm=>(nomatch hm)⟩⟩,h2,h3,h4⟩
end Att
namespace L2
open PySem PySem.Spec PyProof.Rows
theorem QcM:∀ {vs:List Value}{ns:List Int},IntsAre vs ns->Vals (ns.map V.int) vs
 | _,_,.nil=>.nil
 | _,_,.cons n t h=>.cons ⟨t,rfl⟩ (QcM h)
noncomputable def Only (H:Hp):Prop:=∀ b,H b=none\/∃ o xs,H b=some (.frz o (.lst xs))
theorem QcN {P : Program} {w : World} {K : PySem.W.Frag} {mg mb : Str -> Option Value} {CX : CXT} {k : Nat} {fa a : Addr} {fd : FuncData} {x : Str} {sp : Sp} {s₁ : Shared} {vs : List Value} {ns : List Int}
  (KX:K.In s₁.heap) (hns:s₁.heap.Ns mainGlobals mg) (hb:s₁.heap.Ns builtinsNs mb) (hbb:∀ x:Str,x≠"__name__"->mb x=bootBuiltins x) (hlim:s₁.heap.NoLimit) (hg:s₁.gens=#[])
  (ha:s₁.heap.get? a=some { cls:=.type "list",data:=.seq vs.toArray }) (hi:IntsAre vs ns) (hl:ns.length<=sizeLine) (hr:Room k callerA)
  (F:∀ base:Heap,K.In base->base.Ns mainGlobals mg->FnOk P w K mg base CX k fa fd [x] sp) (hbind:∀ (s:Shared) (u:Value),BindsTo s fd ⟨[u],[]⟩ [(x,u)])
  (hsp:∀ H:Hp,Only H->SqL K H a (ns.map V.int)->sp [.ref a] H (fun v _=>v=.bl true) fun _ _ _=>False)
  (hCX:∀ H e s',CX [] H s₁ (fun _ _ _=>False) e s'->False):
  codeAny (model P w) callerA (.call (.ref fa) ⟨[.ref a],[]⟩) (fun r s'=>r=.ok (.ret (.bool true))/\OldK s₁.heap s'.heap/\s'.os=s₁.os/\AllBare s'.gens) s₁:=by
 have rv:=QcM hi
 have lenV:=hi.length
 have core : ∀ H : Hp, Only H -> SqL K H a (ns.map V.int) -> HOk P w H s₁.heap -> (∀ b, H b ≠ none -> b = a) -> (H a ≠ none -> K.lookup a = none) ->
   codeAny (model P w) callerA (.call (.ref fa) ⟨[.ref a],[]⟩) (fun r s'=>r=.ok (.ret (.bool true))/\OldK s₁.heap s'.heap/\s'.os=s₁.os/\AllBare s'.gens) s₁:=by
  intro H hO hS hok hA hK
  have base_of:∀ {b:Addr}{o:Obj},s₁.heap.get? b=some o->H b=none->(hidT s₁.heap H).get? b=some o:=fun e n=>Qan e n
  have noA:∀ {b:Addr}{o:Obj}{es:Array DictEntry}{ep:Nat},s₁.heap.get? b=some o->o.data=.dict es ep->H b=none:=fun {b o es ep} e d=>by
   cases q:H b with
   | none=>rfl
   | some u=>
    have e':b=a:=hA b (by rw[q];simp)
    subst e'
    rw[ha]at e;cases e
    have d':Data.seq vs.toArray _=Data.dict es ep:=d
    cases d'
  have nsK:∀ {b:Addr}{m:Str->Option Value},s₁.heap.Ns b m->(hidT s₁.heap H).Ns b m:=fun {b m} pq43=>by obtain⟨o,es,ep,e,d,r⟩:=pq43;exact⟨o,es,ep,base_of e (noA e d),d,r⟩
  have hKb:K.In (hidT s₁.heap H):=fun b o e=>base_of (KX b o e) (by
   cases q:H b with
   | none=>rfl
   | some u=>
    have e':b=a:=hA b (by rw[q];simp)
    subst e'
    rw[hK (by rw[q];simp)]at e;cases e)
  have hM:Mod K mg (hidT s₁.heap H):=⟨hKb,nsK hns,⟨mb,nsK hb,hbb⟩,let ⟨mc,h1,h2⟩:=hlim;⟨mc,nsK h1,h2⟩⟩
  have e0:Env0 P w K mg (hidT s₁.heap H) callerA [] s₁ H:=⟨rfl,hM,fun b o e=>Qao e,Nat.le_of_eq (Qam _ _),trivial,fun b hb=>absurd (show b∈([]:List Addr) from hb) (by simp),hok,.of_eq hg⟩
  refine codeAny_mono ((F _ hKb (nsK hns)).run callerA [] s₁ H ⟨[.ref a],[]⟩ [.ref a] [.ref a] _ _ hr e0 (hbind s₁ (.ref a)) (.cons rfl .nil) (hsp H hO hS)) fun r s' h=>?_
  cases r with
  | error e=>exact (hCX H e s' h).elim
  | ok fl=>
   cases fl with
   | next=>exact False.elim h
   | brk=>exact False.elim h
   | cont=>exact False.elim h
   | ret u=>
    obtain⟨v,H',os,bare,un,hok',r',q⟩:=h
    have q':v=.bl true:=q
    subst q'
    obtain rfl:u=Value.bool true:=r'
    refine⟨rfl,OldK.of_keep fun b o e=>?_,os,bare⟩
    cases q:H b with
    | none=>exact un.keep b o e q (by intro z;exact absurd (show b∈([]:List Addr) from z) (by simp)) (by simp)
    | some u=>
     rcases hO b with z | ⟨ob,xs,z⟩
     ·rw[q]at z;cases z
     ·have z2:=un.frzs b ob _ z
      obtain⟨e1,_⟩:=hok b _ z
      obtain⟨e2,_⟩:=hok' b _ z2
      rw[e]at e1;cases e1
      exact e2
 cases hk:K.lookup a with
 | some o=>
  have e:=KX a o hk
  rw[ha]at e
  cases e
  refine core (fun _=>none) (fun _=>.inl rfl) (.inr ⟨_,vs.toArray,_,hk,rfl,rfl,rfl,by rw[List.size_toArray,lenV];exact hl,by simpa using rv⟩) (fun b u z=>by have z':(none:Option HO)=some u:=z;cases z') (fun b z=>absurd rfl z) fun z=>absurd rfl z
 | none=>
  refine core (fun b=>if b=a then some (.frz { cls:=.type "list",data:=.seq vs.toArray } (.lst (ns.map V.int))) else none) (fun b=>?_) (.inl (.inr ⟨{ cls:=.type "list",data:=.seq vs.toArray },if_pos rfl⟩)) (fun b u z=>?_) (fun b z=>?_) fun _=>hk
  ·by_cases hb:b=a
   ·exact .inr ⟨_,_,if_pos hb⟩
   ·exact .inl (if_neg hb)
  ·by_cases hb:b=a
   ·have z':=(if_pos hb).symm.trans z
    cases z'
    subst hb
    exact⟨ha,by rw[List.length_map];exact hl,vs,_,rv,ha⟩
   ·have z':=(if_neg hb).symm.trans z
    cases z'
  ·by_cases hb:b=a
   ·exact hb
   ·exact absurd (if_neg hb) z
theorem walk_of {l : PySem.W.OpenLaw} {n k : Nat} {q : Program} {loose : List Str} {XP : (Str -> Option Value) -> Heap -> Prop} {YP : World -> Heap -> Prop} {d : DefRec} {K : Params -> PySem.W.Frag} {CX : World -> CXT} {sp : World -> Sp} {x : Str}
  (hn:l.most=some n) (hn2:n<=sizeLine) (hdf:d.params.defaults=[]) (hr:Room k callerA)
  (hY:∀ (w:World) (h:Heap),YP w h->(K w.params).In h)
  (F:∀ (w:World) (mg:Str->Option Value) (fa:Addr) (h:Heap),(K w.params).In h->h.Ns mainGlobals mg->mg d.name=some (.ref fa) ->
   ∃ fd:FuncData,(∀ (s:Shared) (u:Value),BindsTo s fd ⟨[u],[]⟩ [(x,u)]) /\
    ∀ base:Heap,(K w.params).In base->base.Ns mainGlobals mg->FnOk l.prog w (K w.params) mg base (CX w) k fa fd [x] (sp w))
  (hsp:∀ (w:World) (H:Hp) (a:Addr) (ns:List Int),ns.length<=n->Only H->SqL (K w.params) H a (ns.map V.int)->sp w [.ref a] H (fun v _=>v=.bl true) fun _ _ _=>False)
  (hCX:∀ (w:World) (H:Hp) (s:Shared) (e:Value) (s':Shared),CX w [] H s (fun _ _ _=>False) e s'->False):
  PySem.W.WalkO q loose XP YP l.row.toRowW d [] (fun f vs=>PySem.call f vs):=by
 refine Att.attach_call hn hdf fun w s₀ s₁ mg mb fa o pm cd doc a vs ns G Y ho hd hcd hmg hobj hints hlen hg=>?_
 have KX:=hY w _ Y
 obtain⟨fd,hb,hF⟩:=F w mg fa _ KX G.T.g hmg
 exact QcN KX G.T.g G.T.b G.T.builtins G.T.nolimit hg hobj hints (Nat.le_trans hlen hn2) hr hF hb (fun H hO hS=>hsp w H a ns hlen hO hS) fun H e s'=>hCX w H s₁ e s'
theorem walk_ofK {l : PySem.W.OpenLaw} {n k : Nat} {q : Program} {loose : List Str} {XP : (Str -> Option Value) -> Heap -> Prop} {YP : World -> Heap -> Prop} {d : DefRec} {K : Params -> PySem.W.Frag} {CX : CXT} {sp : PySem.W.Frag -> Sp} {x : Str}
  (hn:l.most=some n) (hn2:n<=sizeLine) (hdf:d.params.defaults=[]) (hr:Room k callerA)
  (hY:∀ (w:World) (h:Heap),YP w h->(K w.params).In h)
  (F:∀ (w:World) (mg:Str->Option Value) (fa:Addr) (h:Heap),(K w.params).In h->h.Ns mainGlobals mg->mg d.name=some (.ref fa) ->
   ∃ fd:FuncData,(∀ (s:Shared) (u:Value),BindsTo s fd ⟨[u],[]⟩ [(x,u)]) /\
    ∀ base:Heap,(K w.params).In base->base.Ns mainGlobals mg->FnOk l.prog w (K w.params) mg base CX k fa fd [x] (sp (K w.params)))
  (hsp:∀ (K:PySem.W.Frag) (H:Hp) (a:Addr) (ns:List Int),ns.length<=n->Only H->SqL K H a (ns.map V.int)->sp K [.ref a] H (fun v _=>v=.bl true) fun _ _ _=>False)
  (hCX:∀ (H:Hp) (s:Shared) (e:Value) (s':Shared),CX [] H s (fun _ _ _=>False) e s'->False):
  PySem.W.WalkO q loose XP YP l.row.toRowW d [] (fun f vs=>PySem.call f vs):=
 walk_of (K:=K) (CX:=fun _=>CX) (sp:=fun w=>sp (K w.params)) hn hn2 hdf hr hY F (fun w H a ns h1 h2 h3=>hsp (K w.params) H a ns h1 h2 h3) fun _ H s e s'=>hCX H s e s'
noncomputable def defArgs (s:Stmt):Arguments:=match s with
 | .FunctionDef _ a _ _ _ _ _ _ _ _=>a
 | _=>{ posonlyargs:=[],args:=[],vararg:=none,kwonlyargs:=[],kw_defaults:=[],kwarg:=none,defaults:=[] }
noncomputable def defBody (s:Stmt):List Stmt:=match s with
 | .FunctionDef _ _ b _ _ _ _ _ _ _=>b
 | _=>[]
noncomputable def defScope (s:Stmt):Scope:=match s with
 | .FunctionDef _ _ _ _ _ _ sc _ _ _=>sc
 | _=>{ kind:=.function,names:=[],isGenerator:=false,isCoroutine:=false }
noncomputable abbrev CX0:CXT:=fun _ _ _ _ _ _=>False
noncomputable abbrev E0:XK:=fun _ _ _=>False
theorem QcO {X:Cx}:Passes CX0 X E0:=fun _ _ _ _ _ _ _ h=>h.elim
structure Fun (K:PySem.W.Frag) (x qual:Str) (st:Stmt) (f:Addr) (fd:FuncData):Prop where
 ex:∃ (oc:Value) (od:Option Addr) (kV doc pm:Value) (an:Option Addr) (cdv ct:Value) (osl:Array (Option Value)),
  fd=PySem.W.fnOf x qual (defArgs st) (defBody st) (defScope st) .none kV doc pm an cdv ct/\K.lookup f=some ⟨oc,od,.func fd,osl⟩/\PySem.W.codeIn K cdv qual=true
 kp:PySem.W.keepIn K (.ref f)=true
section
variable {P:Program}{w:World}{K:PySem.W.Frag}{mg:Str->Option Value}{base:Heap}
theorem Fun.ok {x qual : Str} {st : Stmt} {f : Addr} {fd : FuncData} {N ps : List Str} {k : Nat} {sp : Sp} (F : Fun K x qual st f fd) (S : FnScope N ps (defScope st)) (len : ∀ vs H Q E, sp vs H Q E -> vs.length = ps.length)
  (hbody:∀ (cdv:Value) (A:Around) (outer:List Env) (s:Shared) (H:Hp) (vs:List V) (Q:VK) (E:XK),Room k (A.deeper (envOfC qual (defScope st) s.heap.objs.size f cdv))->sp vs H Q E ->
   ∃ t,PSs (cxOf CX0 P w K mg base N qual (defScope st) f cdv A outer s H E).nox (defBody st) t/\t { nx:=fun _ H'=>Q .non H',rt:=Q } (start N vs) H):FnOk P w K mg base CX0 (k + 1) f fd ps sp:=by
 obtain⟨oc,od,kV,doc,pm,an,cdv,ct,osl,rfl,lk,hcd⟩:=F.ex
 refine QbW lk hcd S len fun A outer s H vs Q E hr hsp=>?_
 obtain⟨t,h,q⟩:=hbody cdv A outer s H vs Q E hr hsp
 exact⟨t,h.nox,q⟩
theorem Fun.binds {x qual : Str} {st : Stmt} {f : Addr} {fd : FuncData} {ps : List Str} (F : Fun K x qual st f fd)
  (h:∀ (kV doc pm:Value) (an:Option Addr) (cdv ct:Value) (us:List Value),us.length=ps.length->bindArgs (PySem.W.fnOf x qual (defArgs st) (defBody st) (defScope st) .none kV doc pm an cdv ct) ⟨us,[]⟩=pure (ps.zip us)):Binds K fd ps []:=by
 obtain⟨oc,od,kV,doc,pm,an,cdv,ct,osl,rfl,lk,hcd⟩:=F.ex
 exact .all (h kV doc pm an cdv ct)
theorem QcP {x qual : Str} {st : Stmt} {f : Addr} {oc : Value} {od an : Option Addr} {osl : Array (Option Value)} {kV doc pm cdv ct : Value} (l : K.lookup f = some ⟨oc, od, .func (PySem.W.fnOf x qual (defArgs st) (defBody st) (defScope st) .none kV doc pm an cdv ct), osl⟩)
  (c:PySem.W.codeIn K cdv qual=true) (k:PySem.W.keepIn K (.ref f)=true):Fun K x qual st f (PySem.W.fnOf x qual (defArgs st) (defBody st) (defScope st) .none kV doc pm an cdv ct):=⟨⟨oc,od,kV,doc,pm,an,cdv,ct,osl,rfl,l,c⟩,k⟩
end
section
variable {κ:Type} [DecidableEq κ]
noncomputable def valV (kvs:List (κ × V)) (k:κ):Option V:=(kvs.find? fun kv=>decide (kv.1=k)).map (·.2)
noncomputable def putK (kvs:List (κ × V)) (k:κ) (v:V):List (κ × V):=
 if (kvs.any fun kv=>decide (kv.1=k))=true then kvs.map (fun kv=>if kv.1=k then (kv.1,v) else kv) else kvs++[(k,v)]
theorem QcQ {p:κ × V}{r:List (κ × V)}{k:κ} (e:p.1=k):valV (p::r) k=some p.2:=by simp[valV,List.find?_cons,e]
theorem QcR {p:κ × V}{r:List (κ × V)}{k:κ} (e:¬ p.1=k):valV (p::r) k=valV r k:=by simp[valV,List.find?_cons,e]
theorem QcS (k:κ):∀ kvs:List (κ × V),(kvs.any fun kv=>decide (kv.1=k))=(valV kvs k).isSome
 | []=>rfl
 | p::r=>by
  rw[List.any_cons]
  by_cases e:p.1=k
  ·simp only[QcQ e,decide_eq_true e,Bool.true_or,Option.isSome_some]
  ·rw[QcR e,decide_eq_false e,Bool.false_or];exact QcS k r
theorem QcT (kvs:List (κ × V)) (k:κ) (v:V):(putK kvs k v).length<=kvs.length + 1:=by
 unfold putK
 split
 ·rw[List.length_map];ac_nf
 ·rw[List.length_append,List.length_cons,List.length_nil];ac_nf
theorem RelO.isSome_eq {o:Option V}{u:Option Value} (r:RelO o u):o.isSome=u.isSome:=by
 cases o with
 | none=>cases u with
  | none=>rfl
  | some _=>exact (show False from r).elim
 | some _=>cases u with
  | none=>exact (show False from r).elim
  | some _=>rfl
theorem KV.val {kvs:List (κ × V)}{vs:List (κ × Value)} (r:KV kvs vs) (k:κ):RelO (valV kvs k) (valueAt vs k):=by
 unfold KV at r
 induction r with
 | nil=>exact True.intro
 | @cons p q ps qs h t ih=>
  obtain⟨h1,h2⟩:=h
  by_cases e:p.1=k
  ·have e':q.1=k:=h1.symm.trans e
   have b:valueAt (q::qs) k=some q.2:=by simp[valueAt,List.find?_cons,e']
   rw[QcQ e,b];exact h2
  ·have e':¬ q.1=k:=fun z=>e (h1.trans z)
   have b:valueAt (q::qs) k=valueAt qs k:=by simp[valueAt,List.find?_cons,e']
   rw[QcR e,b];exact ih
theorem KV.any {kvs:List (κ × V)}{vs:List (κ × Value)} (r:KV kvs vs) (k:κ):(kvs.any fun kv=>decide (kv.1=k))=vs.any fun kv=>decide (kv.1=k):=by
 unfold KV at r
 induction r with
 | nil=>rfl
 | cons h t ih=>rw[List.any_cons,List.any_cons,ih,h.1]
theorem KV.repl {kvs : List (κ × V)} {vs : List (κ × Value)} (r : KV kvs vs) (k : κ) {y : V} {u : Value} (ry : RelV y u) :
  KV (kvs.map fun kv=>if kv.1=k then (kv.1,y) else kv) (vs.map fun kv=>if kv.1=k then (kv.1,u) else kv):=by
 unfold KV at r ⊢
 induction r with
 | nil=>exact .nil
 | @cons p q ps qs h t ih=>
  rw[List.map_cons,List.map_cons]
  refine .cons ?_ ih
  obtain⟨h1,h2⟩:=h
  by_cases e:p.1=k
  ·rw[if_pos e,if_pos (h1.symm.trans e)];exact⟨h1,ry⟩
  ·rw[if_neg e,if_neg (fun z=>e (h1.trans z))];exact⟨h1,h2⟩
theorem KV.put {kvs:List (κ × V)}{vs:List (κ × Value)} (r:KV kvs vs) (k:κ) {y:V}{u:Value} (ry:RelV y u):KV (putK kvs k y) (stored vs k u):=by
 unfold putK stored
 rw[r.any k]
 by_cases e:(vs.any fun kv=>decide (kv.1=k))=true
 ·rw[if_pos e,if_pos e];exact r.repl k ry
 ·rw[if_neg e,if_neg e];exact Paired.snoc r ⟨rfl,ry⟩
theorem KV.length {kvs:List (κ × V)}{vs:List (κ × Value)} (r:KV kvs vs):kvs.length=vs.length:=Paired.length r
end
theorem QcU {P:Program}{w:World}{k:Key}{u:Value} (r:RelV (kV k) u):(mixKind P w).is k u=true:=by
 cases k with
 | inl i=>obtain⟨t,e⟩:=(show ∃ t,u=Value.int i t from r);subst e;exact Qag P w i t
 | inr x=>obtain⟨t,e⟩:=(show ∃ t,u=Value.str x t from r);subst e;exact Qah P w x t
theorem QcV {P:Program}{w:World}:∀ {ks:List Key}{us:List Value},Vals (ks.map kV) us->ItemsAre (mixKind P w) ks us
 | [],_,r=>by rw[List.map_nil]at r;cases r;exact .nil
 | k::ks,_,r=>by
  rw[List.map_cons]at r
  cases r with
  | cons h t=>exact .cons (QcU h) (QcV t)
noncomputable abbrev KT (H:Hp):List (List Key × V)->List (List Key × Addr × Value)->Prop:=Paired fun p q=>p.1=q.1/\H q.2.1=some (.tup (p.1.map kV))/\RelV p.2 q.2.2
theorem KT.val {H:Hp}{kvs:List (List Key × V)}{xs:List (List Key × Addr × Value)} (r:KT H kvs xs) (k:List Key):RelO (valV kvs k) ((atKey xs k).map (·.2)):=by
 induction r with
 | nil=>exact True.intro
 | @cons p q ps qs h t ih=>
  obtain⟨h1,_,h2⟩:=h
  by_cases e:p.1=k
  ·have e':q.1=k:=h1.symm.trans e
   have b:atKey (q::qs) k=some q.2:=by simp[atKey,List.find?_cons,e']
   rw[QcQ e,b];exact h2
  ·have e':¬ q.1=k:=fun z=>e (h1.trans z)
   have b:atKey (q::qs) k=atKey qs k:=by simp[atKey,List.find?_cons,e']
   rw[QcR e,b];exact ih
theorem KT.repl {H : Hp} {kvs : List (List Key × V)} {xs : List (List Key × Addr × Value)} (r : KT H kvs xs) (k : List Key) {y : V} {u : Value} (ry : RelV y u) :
  KT H (kvs.map fun kv=>if kv.1=k then (kv.1,y) else kv) (xs.map (putAt k u)):=by
 induction r with
 | nil=>exact .nil
 | @cons p q ps qs h t ih=>
  rw[List.map_cons,List.map_cons]
  refine .cons ?_ ih
  obtain⟨h1,h2,h3⟩:=h
  unfold putAt
  by_cases e:p.1=k
  ·rw[if_pos e,if_pos (h1.symm.trans e)];exact⟨h1,h2,ry⟩
  ·rw[if_neg e,if_neg (fun z=>e (h1.trans z))];exact⟨h1,h2,h3⟩
theorem KT.put {H : Hp} {kvs : List (List Key × V)} {xs : List (List Key × Addr × Value)} (r : KT H kvs xs) (k : List Key) {b : Addr} {y : V} {u : Value} (hb : H b = some (.tup (k.map kV))) (ry : RelV y u) :
  KT H (putK kvs k y) (storedH xs k b u):=by
 have e:(kvs.any fun kv=>decide (kv.1=k))=(atKey xs k).isSome:=by
  rw[QcS,(r.val k).isSome_eq,Option.isSome_map]
 unfold putK storedH
 rw[e]
 by_cases q:(atKey xs k).isSome=true
 ·rw[if_pos q,if_pos q];exact r.repl k ry
 ·rw[if_neg q,if_neg q];exact Paired.snoc r ⟨rfl,hb,ry⟩
theorem KT.keeps {H H':Hp}{kvs:List (List Key × V)}{xs:List (List Key × Addr × Value)} (r:KT H kvs xs) (ht:∀ b ys,H b=some (.tup ys)->H' b=some (.tup ys)):KT H' kvs xs:=
 Paired.mapP r fun _ _ z=>⟨z.1,ht _ _ z.2.1,z.2.2⟩
section
variable {P:Program}{w:World}{H:Hp}{h:Heap}{a:Addr}
theorem QcW {u:HO} (ok:HOk P w H h) (e:Rd H a u):ObjOk P w H h a u:=e.ok ok
theorem QcX {kvs:List (Key × V)} (ok:HOk P w H h) (e:Rd H a (.dK kvs)):kvs.length<=sizeLine/\(a == sysModules)=false/\∃ vs,KV kvs vs/\h.DictOf (mixKind P w) a vs:=
 show ObjOk P w H h a (.dK kvs) from QcW ok e
theorem QcY {kvs:List (Key × V)} (ok:HOk P w H h) (e:H a=some (.dK kvs)):kvs.length<=sizeLine/\(a == sysModules)=false/\∃ vs,KV kvs vs/\h.DictOf (mixKind P w) a vs:=QcX ok (.inl e)
theorem QcZ {ks:List Key} (ok:HOk P w H h) (e:H a=some (.tup (ks.map kV))):(tupleKind (mixKind P w)).is h ks a:=by
 obtain⟨_,its,r,o,h1,h2,⟨n,h3⟩,_⟩:=(show ObjOk P w H h a (.tup (ks.map kV)) from ok a _ e)
 exact⟨o,its.toArray,n,h1,h2,h3,by simpa using QcV r⟩
theorem Qc0 {kvs : List (List Key × V)} (ok : HOk P w H h) (e : Rd H a (.dT kvs)) : kvs.length <= sizeLine /\ (a == sysModules) = false /\
  ∃ xs,KT H kvs xs/\h.DictOfH (tupleKind (mixKind P w)) a xs:=by
 obtain⟨z,y,xs,r,o,es,ep,h1,h2,h3,h4,h5⟩:=(show ObjOk P w H h a (.dT kvs) from QcW ok e)
 refine⟨z,y,xs,r,o,es,ep,h1,h2,h3,h4,fun x hx=>?_,h5⟩
 have all:∀ {l:List (List Key × V)}{m:List (List Key × Addr × Value)},KT H l m->∀ x∈m,(tupleKind (mixKind P w)).is h x.1 x.2.1:=by
  intro l m q
  induction q with
  | nil=>intro x hx;exact nomatch hx
  | @cons p q ps qs hq t ih=>
   intro x hx
   rcases List.mem_cons.mp hx with e | hx
   ·subst e
    exact QcZ ok (by rw[<- hq.1];exact hq.2.1)
   ·exact ih x hx
 exact all r x hx
theorem Qc1 {kvs : List (List Key × V)} (ok : HOk P w H h) (e : H a = some (.dT kvs)) : kvs.length <= sizeLine /\ (a == sysModules) = false /\
  ∃ xs,KT H kvs xs/\h.DictOfH (tupleKind (mixKind P w)) a xs:=Qc0 ok (.inl e)
end
noncomputable def DGet (H:Hp) (a:Addr) (y:V) (r:Option V):Prop:=
 (∃ kvs k,Rd H a (.dK kvs)/\y=kV k/\r=valV kvs k)\/∃ kvs k b,Rd H a (.dT kvs)/\y=.ref b/\H b=some (.tup (k.map kV))/\r=valV kvs k
noncomputable def DPut (H:Hp) (a:Addr) (y v:V) (H':Hp):Prop:=
 (∃ kvs k,H a=some (.dK kvs)/\y=kV k/\kvs.length < sizeLine/\H'=upd H a (.dK (putK kvs k v))) \/
 ∃ kvs k b,H a=some (.dT kvs)/\y=.ref b/\H b=some (.tup (k.map kV))/\kvs.length < sizeLine/\H'=upd H a (.dT (putK kvs k v))
theorem DGet.k {H:Hp}{a:Addr}{kvs:List (Key × V)}{k:Key} (e:H a=some (.dK kvs)):DGet H a (kV k) (valV kvs k):=.inl ⟨kvs,k,.inl e,rfl,rfl⟩
theorem DPut.k {H:Hp}{a:Addr}{kvs:List (Key × V)}{k:Key}{v:V} (e:H a=some (.dK kvs)) (hl:kvs.length < sizeLine):DPut H a (kV k) v (upd H a (.dK (putK kvs k v))):=.inl ⟨kvs,k,e,rfl,hl,rfl⟩
section
variable {X:Cx}{pins:List (Addr × Obj)}{σ:St}{H:Hp}{s:Shared}{a:Addr}{y v:V}{u r:Value}{o:Option V}{A:Around}{E:Value->Shared->Prop}
theorem Inv.big (I:Inv X pins σ H s):sysModules < s.heap.objs.size:=by
 have h:mainGlobals < s.heap.objs.size:=(I.mod.glob.keeps I.bk).lt
 exact Nat.lt_trans (by decide) h
theorem Qc2 {Q : Value -> Shared -> Prop} (hu : A.units + 1 < cLine) (I : Inv X pins σ H s) (g : DGet H a y (some v)) (ry : RelV y u) (h : ∀ w' s', Inv X pins σ H s' -> RelV v w' -> Q w' s') :
  wpAny (model X.prog X.w) A (getItem (.ref a) u) Q E s:=by
 rcases g with ⟨kvs,k,e,ey,l⟩ | ⟨kvs,k,b,e,ey,eb,l⟩
 ·subst ey
  obtain⟨z,hd,vs,rel,dd⟩:=QcX I.hok e
  obtain⟨w',hw,rw'⟩:=RelO.some_of (v:=v) (o:=valueAt vs k) (by rw[l];exact rel.val k)
  exact wpAny_getItem_of (QcU ry) dd.mapOf hw (h w' _ (I.tok _) rw')
 ·subst ey
  cases (show u=Value.ref b from ry)
  obtain⟨z,hd,xs,rel,dd⟩:=Qc0 I.hok e
  obtain⟨w',hw,rw'⟩:=RelO.some_of (v:=v) (o:=(atKey xs k).map (·.2)) (by rw[l];exact rel.val k)
  obtain⟨p,hp,hp2⟩:=Option.map_eq_some_iff.mp hw
  refine wpAny_getItem_heap (tupleKind_room_in1 hu) (QcZ I.hok eb) dd hp ?_
  rw[hp2]
  exact h w' _ (I.tok _) rw'
theorem d_in {Q : Value -> Shared -> Prop} (hu : A.units + 1 < cLine) (I : Inv X pins σ H s) (g : DGet H a y o) (ry : RelV y u) (h : ∀ s', Inv X pins σ H s' -> Q (.bool o.isSome) s') :
  wpAny (model X.prog X.w) A (compareOp .In u (.ref a)) Q E s:=by
 rcases g with ⟨kvs,k,e,ey,l⟩ | ⟨kvs,k,b,e,ey,eb,l⟩
 ·subst ey
  obtain⟨z,hd,vs,rel,dd⟩:=QcX I.hok e
  refine wpAny_in_of (QcU ry) hd dd.mapOf ?_
  rw[<- (rel.val k).isSome_eq,<- l]
  exact h _ (I.tok _)
 ·subst ey
  cases (show u=Value.ref b from ry)
  obtain⟨z,hd,xs,rel,dd⟩:=Qc0 I.hok e
  refine wpAny_in_heap (tupleKind_room_in1 hu) (QcZ I.hok eb) hd dd ?_
  have q:=(rel.val k).isSome_eq
  rw[Option.isSome_map]at q
  rw[<- q,<- l]
  exact h _ (I.tok _)
theorem Qc3 {Q : Value -> Shared -> Prop} (hu : A.units + 1 < cLine) (I : Inv X pins σ H s) (g : DGet H a y o) (ry : RelV y u) (h : ∀ s', Inv X pins σ H s' -> Q (.bool (!o.isSome)) s') :
  wpAny (model X.prog X.w) A (compareOp .NotIn u (.ref a)) Q E s:=by
 rcases g with ⟨kvs,k,e,ey,l⟩ | ⟨kvs,k,b,e,ey,eb,l⟩
 ·subst ey
  obtain⟨z,hd,vs,rel,dd⟩:=QcX I.hok e
  refine wpAny_notIn_of (QcU ry) hd dd.mapOf ?_
  rw[<- (rel.val k).isSome_eq,<- l]
  exact h _ (I.tok _)
 ·subst ey
  cases (show u=Value.ref b from ry)
  obtain⟨z,hd,xs,rel,dd⟩:=Qc0 I.hok e
  refine wpAny_notIn_heap (tupleKind_room_in1 hu) (QcZ I.hok eb) hd dd ?_
  have q:=(rel.val k).isSome_eq
  rw[Option.isSome_map]at q
  rw[<- q,<- l]
  exact h _ (I.tok _)
theorem Qc4 {h' : Heap} {t' : Nat} {ob : HO} (I : Inv X pins σ H s) (mu : Mut (H a)) (hs : Heap.SameBut a s.heap h') (he : ∃ q, h'.get? a = some q) (new : ObjOk X.prog X.w (upd H a ob) h' a ob) :
  Inv X pins σ (upd H a ob) { s with heap:=h',toks:=t' }:=
 I.write (x:=a) (e:=a) mu (.inl rfl) (fun b q hb z=>(hs.2 b hb).trans z) he new
theorem Qc5 {P : Program} {w : World} {H' : Hp} {h' : Heap} {kvs : List (Key × V)} {vs : List (Key × Value)} (z : kvs.length <= sizeLine) (hd : (a == sysModules) = false) (rel : KV kvs vs) (dd : h'.DictOf (mixKind P w) a vs) :
  ObjOk P w H' h' a (.dK kvs):=⟨z,hd,vs,rel,dd⟩
theorem Qc6 {H' : Hp} {Q : Unit -> Shared -> Prop} (hu : A.units + 1 < cLine) (I : Inv X pins σ H s) (g : DPut H a y v H') (ry : RelV y u) (rv : RelV v r) (h : ∀ s', Inv X pins σ H' s' -> Q () s') :
  wpAny (model X.prog X.w) A (setItem (.ref a) u r) Q E s:=by
 rcases g with ⟨kvs,k,e,ey,l,eH⟩ | ⟨kvs,k,b,e,ey,eb,l,eH⟩
 ·subst ey eH
  obtain⟨z,hd,vs,rel,dd⟩:=QcY I.hok e
  have hz:vs.length<=sizeLine:=by rw[<- rel.length];exact z
  have hl:(putK kvs k v).length<=sizeLine:=by have:=QcT kvs k v;ac_nf
  refine wpAny_setItem_pairs (hsz:=hz) (QcU ry) dd fun h' dd' hs=>h _ ?_
  have he:∃ q,h'.get? a=some q:=let ⟨q,_,_,hq,_⟩:=dd';⟨q,hq⟩
  exact Qc4 I (by rw[e];exact True.intro) hs he (Qc5 hl hd (rel.put k rv) dd')
 ·subst ey eH
  cases (show u=Value.ref b from ry)
  obtain⟨z,hd,xs,rel,dd⟩:=Qc1 I.hok e
  have hz:xs.length<=sizeLine:=by rw[<- Paired.length rel];exact z
  have hl:(putK kvs k v).length<=sizeLine:=by have:=QcT kvs k v;ac_nf
  refine wpAny_setItem_heap (hsz:=hz) (tupleKind_room_in1 hu) (QcZ I.hok eb) dd fun h' dd' hs=>h _ ?_
  obtain⟨q,es,ep,hq,h2,h3,h4,_,h5⟩:=dd'
  refine Qc4 I (by rw[e];exact True.intro) hs ⟨q,hq⟩ ⟨hl,hd,_,(rel.put k eb rv).keeps fun c ys ec=>?_,q,es,ep,hq,h2,h3,h4,h5⟩
  rw[Qaj (Qak ec e (fun z=>nomatch z))]
  exact ec
end
section
variable {X:Cx}{pins:List (Addr × Obj)}{σ:St}{H:Hp}{s:Shared}{a:Addr}{kvs:List (Key × V)}{k:Key}{u:Value}{A:Around}{E:Value->Shared->Prop}
theorem Qc7 {Q:Value->Shared->Prop} (I:Inv X pins σ H s) (e:Rd H a (.dK kvs)) (h:∀ t s',Inv X pins σ H s'->Q (.int kvs.length t) s'):wpAny (model X.prog X.w) A (call (.builtin "len") [.ref a]) Q E s:=by
 obtain⟨z,hd,vs,rel,dd⟩:=QcX I.hok e
 refine call_len_dict hd dd (by rw[<- rel.length];rw[sizeLine_eq]at z;ac_nf) ?_
 rw[<- rel.length]
 exact h _ _ (I.tok _)
end
theorem Qc8 {P:Program}{w:World}{H:Hp} (h:Heap) (hb:sysModules < h.objs.size):ObjOk P w H (h.push { cls:=.type "dict",data:=.dict #[] }) h.objs.size (.dK []):=
 ⟨Nat.zero_le _,beq_eq_false_iff_ne.mpr (Ne.symm (Nat.ne_of_lt hb)),[],.nil,Heap.DictOf.new h⟩
noncomputable def tDNewK:TE:=fun _ H Q=>∀ p,H p=none->Q (.ref p) (upd H p (.dK []))
section
variable {X:Cx}{pos:Pos}
theorem Qc9:PE X (.Dict [] [] pos) tDNewK:=fun pins s σ H Q I h=>
 wpAny_Dict_empty ⟨.ref s.heap.objs.size,_,I.laid (a:=s.heap.objs.size) (o:=.dK []) (t':=s.toks) (fun _ _ q=>Heap.get?_push_of_some _ q) (Nat.le_refl _) (Qc8 s.heap I.big),rfl,h _ (I.hok.fresh (Nat.le_refl _))⟩
end
noncomputable def tPairs:List (TE × TE)->St->Hp->(List (V × V)->Hp->Prop)->Prop
 | [],_,H,Q=>Q [] H
 | (tk,tv)::r,σ,H,Q=>tk σ H fun x H1=>tv σ H1 fun y H2=>tPairs r σ H2 fun ps H3=>Q ((x,y)::ps) H3
noncomputable abbrev VV:List (V × V)->List (Value × Value)->Prop:=Paired fun p q=>RelV p.1 q.1/\RelV p.2 q.2
noncomputable def PPs (X:Cx) (pos:Pos) (keys:List (Option Expr)) (values:List Expr) (trs:List (TE × TE)):Prop:=
 ∀ (pins:List (Addr × Obj)) (s:Shared) (σ:St) (H:Hp) (Q:List (V × V)->Hp->Prop),Inv X pins σ H s->tPairs trs σ H Q ->
  wpAny (model X.prog X.w) X.A (evalPairs (pairTrees keys values X.env pos)) (fun vs s'=>∃ ps H',Inv X pins σ H' s'/\VV ps vs/\Q ps H') X.xe s
theorem Qda {X:Cx}{pos:Pos}:PPs X pos [] [] []:=fun pins s σ H Q I h=>pairTrees_nil_walk ⟨[],H,I,.nil,h⟩
theorem Qdb {X : Cx} {pos : Pos} {k v : Expr} {ks : List (Option Expr)} {vs : List Expr} {tk tv : TE} {trs : List (TE × TE)} (hk : PE X k tk) (hv : PE X v tv) (hr : PPs X pos ks vs trs) :
  PPs X pos (some k::ks) (v::vs) ((tk,tv)::trs):=fun pins s σ H Q I h=>
 pairTrees_cons_walk (thn (hk pins s σ H _ I h) fun u s1 ⟨x,H1,I1,rx,q1⟩=>thn (hv pins s1 σ H1 _ I1 q1) fun w2 s2 ⟨y,H2,I2,ry,q2⟩=>
  thn (hr pins s2 σ H2 _ I2 q2) fun ws s3 ⟨ps,H3,I3,rel,q3⟩=>⟨(x,y)::ps,H3,I3,.cons ⟨rx,ry⟩ rel,q3⟩)
noncomputable def mergeK (kvs more:List (Key × V)):List (Key × V):=more.foldl (fun acc kv=>putK acc kv.1 kv.2) kvs
theorem KV.merge:∀ {more:List (Key × V)}{rs:List (Key × Value)}{kvs:List (Key × V)}{vs:List (Key × Value)},KV more rs->KV kvs vs->KV (mergeK kvs more) (merged vs rs):=by
 intro more rs kvs vs r
 unfold KV at r
 induction r generalizing kvs vs with
 | nil=>intro q;exact q
 | @cons p q ps qs h t ih=>
  intro r0
  have e:KV (putK kvs p.1 p.2) (stored vs q.1 q.2):=by
   have:=r0.put p.1 h.2
   rw[<- h.1];exact this
  exact ih e
theorem Qdc:∀ (more kvs:List (Key × V)),(mergeK kvs more).length<=kvs.length + more.length
 | [],kvs=>by show kvs.length<=kvs.length + 0;ac_nf
 | p::r,kvs=>by
  have h1:=Qdc r (putK kvs p.1 p.2)
  have h2:=QcT kvs p.1 p.2
  show (mergeK (putK kvs p.1 p.2) r).length<=_
  rw[List.length_cons];ac_nf
theorem Qdd {P:Program}{w:World}:∀ {kvs:List (Key × V)}{ws:List (Value × Value)},VV (kvs.map fun kv=>(kV kv.1,kv.2)) ws->∃ rs,Carries (mixKind P w) ws rs/\KV kvs rs
 | [],_,r=>by rw[List.map_nil]at r;cases r;exact⟨[],True.intro,.nil⟩
 | p::kvs,_,r=>by
  rw[List.map_cons]at r
  cases r with
  | @cons a b as bs h t=>
   obtain⟨rs,c,q⟩:=Qdd (P:=P) (w:=w) t
   obtain⟨b1,b2⟩:=b
   exact⟨(p.1,b2)::rs,⟨QcU h.1,rfl,c⟩,.cons ⟨rfl,h.2⟩ q⟩
noncomputable def tDisp (trs:List (TE × TE)):TE:=fun σ H Q=>∀ p,H p=none->tPairs trs σ (upd H p (.dK [])) fun ps H2=>H2 p=some (.dK [])/\∃ kvs:List (Key × V),ps=kvs.map (fun kv=>(kV kv.1,kv.2))/\kvs.length<=15/\Q (.ref p) (upd H2 p (.dK (mergeK [] kvs)))
theorem Qde {X : Cx} {pos : Pos} {keys : List (Option Expr)} {values : List Expr} {trs : List (TE × TE)} (h : PPs X pos keys values trs) (hall : keys.all (·.isSome) = true) (hl : keys.length = values.length) (h0 : keys ≠ [])
  (h15:keys.length<=15):PE X (.Dict keys values pos) (tDisp trs):=by
 intro pins s σ H Q I q
 have hn:=I.hok.fresh (Nat.le_refl s.heap.objs.size)
 have I1:=I.laid (a:=s.heap.objs.size) (o:=.dK []) (h':=s.heap.push { cls:=.type "dict",data:=.dict #[] }) (t':=s.toks) (fun _ _ q=>Heap.get?_push_of_some _ q) (Nat.le_refl _) (Qc8 s.heap I.big)
 refine wpAny_Dict_walk (knd:=mixKind X.prog X.w) hall hl h0 h15 (thn (h pins _ σ _ _ I1 (q _ hn)) fun ws s2 pq44=>?_)
 obtain⟨ps,H2,I2,rel,e,kvs,ep,lk,q2⟩:=pq44
 subst ep
 obtain⟨rs,c,rk⟩:=Qdd (P:=X.prog) (w:=X.w) rel
 obtain⟨z,hd,vs0,r0,dd⟩:=QcY I2.hok e
 cases r0
 refine⟨rs,c,dd,fun h' dd' hs=>⟨.ref s.heap.objs.size,_,?_,rfl,q2⟩⟩
 have hz:(mergeK [] kvs).length<=sizeLine:=by
  have h1:=Qdc kvs []
  rw[List.length_nil]at h1
  rw[sizeLine_eq];ac_nf
 have he:∃ q,h'.get? s.heap.objs.size=some q:=let ⟨q,_,_,hq,_⟩:=dd';⟨q,hq⟩
 exact Qc4 I2 (by rw[e];exact True.intro) hs he (Qc5 hz hd (rk.merge .nil) dd')
structure M1 (X:Cx) (o:Expr) (m:Str) (apos:Pos) (e:Expr) (cpos:Pos):Prop where
 base:attributeBase o m X.env (eval o X.env)=eval o X.env
 few:((backTo cpos (starEach [e] X.env)).all (fun x => !x.1) && (backToKw cpos (keywordEach [] X.env)).all (fun x=>x.1.isSome)
  && decide (([e]:List Expr).length + ([]:List Keyword).length + (if ([]:List Keyword).isEmpty then 0 else 1) < 30))=true
 line:(apos.endLine == cpos.line)=true
 trees:backTo cpos (starEach [e] X.env)=[(false,eval e X.env)]
structure M2 (X:Cx) (o:Expr) (m:Str) (apos:Pos) (e f:Expr) (cpos:Pos):Prop where
 base:attributeBase o m X.env (eval o X.env)=eval o X.env
 few:((backTo cpos (starEach [e,f] X.env)).all (fun x => !x.1) && (backToKw cpos (keywordEach [] X.env)).all (fun x=>x.1.isSome)
  && decide (([e,f]:List Expr).length + ([]:List Keyword).length + (if ([]:List Keyword).isEmpty then 0 else 1) < 30))=true
 line:(apos.endLine == cpos.line)=true
 trees:backTo cpos (starEach [e,f] X.env)=[(false,eval e X.env),(false,eval f X.env)]
end L2
namespace MM
open PySem PySem.Spec PyProof.Rows L2
noncomputable abbrev KI:=Int ⊕ List Int
section
variable {prog:Program}{w:World}
variable (prog w) in
inductive TIt (h:Heap):KI->Value->Prop
 | one (i:Int) (t:Tok):TIt h (.inl i) (.int i t)
 | row {k:List Int}{b:Addr}:IsTupleKey (intKind prog w) h k b->TIt h (.inr k) (.ref b)
variable (prog w) in
inductive TIts (h:Heap):List KI->List Value->Prop
 | nil:TIts h [] []
 | cons {k:KI}{v:Value}{ks:List KI}{vs:List Value}:TIt prog w h k v->TIts h ks vs->TIts h (k::ks) (v::vs)
variable (prog w) in
noncomputable def IsNestKey (h:Heap) (ks:List KI) (a:Addr):Prop:=∃ o items n,h.get? a=some o/\o.cls=.type "tuple"/\o.data=.seq items n/\TIts prog w h ks items.toList
theorem TIt.inj {h:Heap}{x y:KI}{v:Value} (a:TIt prog w h x v) (b:TIt prog w h y v):x=y:=by
 cases a with
 | one i t=>cases b;rfl
 | row a=>cases b with
  | row b=>rw[a.inj b]
theorem TIts.inj {h:Heap}{x y:List KI}{vs:List Value} (a:TIts prog w h x vs) (b:TIts prog w h y vs):x=y:=by
 induction a generalizing y with
 | nil=>cases b;rfl
 | cons a t ih=>cases b with
  | cons b u=>rw[a.inj b,ih u]
theorem IsNestKey.typeIs {s:Shared}{ks:List KI}{a:Addr} (x:IsNestKey prog w s.heap ks a):s.TypeIs (.ref a) "tuple":=let ⟨o,_,_,ho,hc,_⟩:=x;⟨o,ho,hc⟩
theorem IsNestKey.inj {h:Heap}{a:Addr}{x y:List KI} (hx:IsNestKey prog w h x a) (hy:IsNestKey prog w h y a):x=y:=by
 obtain⟨o,items,n,ho,_,hd,hi⟩:=hx
 obtain⟨o',items',n',ho',_,hd',hi'⟩:=hy
 cases ho.symm.trans ho'
 rw[hd]at hd'
 injection hd' with h1 _
 subst h1
 exact hi.inj hi'
theorem TIt.keeps {h h':Heap}{d:Addr}{o:Obj}{es ep} (ho:h.get? d=some o) (hd:o.data=.dict es ep) (hs:Heap.SameBut d h h'):∀ {x:KI}{v:Value},TIt prog w h x v->TIt prog w h' x v
 | _,_,.one i t=>.one i t
 | _,_,.row a=>.row (a.keeps ho hd hs)
theorem TIts.keeps {h h':Heap}{d:Addr}{o:Obj}{es ep} (ho:h.get? d=some o) (hd:o.data=.dict es ep) (hs:Heap.SameBut d h h'):∀ {x:List KI}{vs:List Value},TIts prog w h x vs->TIts prog w h' x vs
 | _,_,.nil=>.nil
 | _,_,.cons a t=>.cons (a.keeps ho hd hs) (TIts.keeps ho hd hs t)
theorem IsNestKey.keeps {h h' : Heap} {ks : List KI} {a d : Addr} {o : Obj} {es ep} (x : IsNestKey prog w h ks a) (ho : h.get? d = some o) (hd : o.data = .dict es ep) (hs : Heap.SameBut d h h') :
  IsNestKey prog w h' ks a:=by
 obtain⟨o',items,n,ho',hc,hd',hi⟩:=x
 have hne:a≠d:=by
  rintro rfl
  obtain rfl:o'=o:=Option.some.inj (ho'.symm.trans ho)
  rw[hd]at hd';exact nomatch hd'
 exact⟨o',items,n,(hs.2 a hne).trans ho',hc,hd',hi.keeps ho hd hs⟩
noncomputable def itH:KI->Int
 | .inl i=>hashInt i
 | .inr r=>reduceHash (Builtin.Tuple.tupleHashOf (r.map hashInt))
noncomputable def nestHash (ks:List KI):Int:=reduceHash (Builtin.Tuple.tupleHashOf (ks.map itH))
noncomputable def itN:KI->Nat
 | .inl _=>1
 | .inr r=>r.length + 1
noncomputable def nestDraws:List KI->Nat
 | []=>0
 | k::ks=>itN k + nestDraws ks
variable {A:Around}{E:Value->Shared->Prop}{s:Shared}
theorem Qdf (k:KI):∀ (l:List KI),nestDraws (l++[k])=nestDraws l + itN k
 | []=>by simp[nestDraws]
 | x::l=>by simp[nestDraws,Qdf k l];ac_nf
theorem Qdg {k:KI}{v:Value}{Q:Int->Shared->Prop} (hu:A.units < cLine) (hk:TIt prog w s.heap k v) (h:Q (itH k) { s with toks:=s.toks + itN k }):wpAny (model prog w) A (pyHash v) Q E s:=by
 cases hk with
 | one i t=>exact wpAny_pyHash_int h
 | row hk=>exact wpAny_pyHash_tuple (knd:=intKind prog w) hu hk h
theorem Qdh {x y:KI}{u v:Value}{Q:Bool->Shared->Prop} (hu:A.units < cLine) (hx:TIt prog w s.heap x u) (hy:TIt prog w s.heap y v) (h:Q (decide (x=y)) s):wpAny (model prog w) A (eqBool u v) Q E s:=by
 cases hx with
 | one i t=>
  cases hy with
  | one j t'=>
   refine wpAny_eqBool_int ?_
   have e:(i == j)=decide ((Sum.inl i:KI)=Sum.inl j):=by
    by_cases z:i=j
    ·subst z;simp
    ·have z2:¬ ((Sum.inl i:KI)=Sum.inl j):=fun q=>z (by injection q)
     rw[decide_eq_false z2];exact beq_eq_false_iff_ne.mpr z
   first | (rw[e];exact h) | (simpa [e] using h)
  | row h2=>
   obtain⟨o,items,n,ho,hc,hd,_⟩:=h2
   rw[decide_eq_false (by simp)]at h
   exact SeqAt.EqAt.int_tuple i t ⟨o,ho,hc,n,hd⟩ hu prog w E Q h
 | row h1=>
  cases hy with
  | one j t'=>
   obtain⟨o,items,n,ho,hc,hd,_⟩:=h1
   rw[decide_eq_false (by simp)]at h
   exact SeqAt.EqAt.tuple_int j t' ⟨o,ho,hc,n,hd⟩ hu prog w E Q h
  | @row k2 b h2=>
   refine wpAny_eqBool_tuple (knd:=intKind prog w) hu h1 h2 ?_
   simpa using h
theorem Qdi {ks : List KI} {a : Addr} {Q : Int -> Shared -> Prop} (hu : A.units + 1 < cLine) (hk : IsNestKey prog w s.heap ks a) (h : Q (nestHash ks) { s with toks := s.toks + (nestDraws ks + 1) }) :
  wpAny (model prog w) A (pyHash (.ref a)) Q E s:=by
 have hT:=hk.typeIs
 obtain⟨o,items,n,ho,_,hd,hi⟩:=hk
 unfold pyHash
 first | unfold pyHashByItsType | skip
 first | refine wpAny_bind (wpAny_cRoomFor_or (.inr (by ac_nf)) ?_) | skip
 refine wpAny_bind (wpAny_specialOf hT F.slot_tuple_hash.lookup ?_)
 show wpAny _ _ (if (some (Value.builtin "tuple.__hash__") == some Value.none)=true then _ else _) Q E s
 rw[if_neg (by rw[beq_builtin_none];exact Bool.false_ne_true)]
 refine wpAny_bind (wpAny_specialOf hT F.slot_tuple_hash.lookup ?_)
 show wpAny _ _ (callSpecialIfBoundUnlessNone? (.ref a) "__hash__" _ >>= _) Q E s
 refine wpAny_bind (wpAny_callSpecialIfBoundUnlessNone?_slot hT F.slot_tuple_hash (wpAny_call_entry F.slot_tuple_hash hT F.entry_tuple_hash ?_ (F.args_tuple_hash_1 _)))
 show wpAny _ _ (Builtin.Tuple.tupleItemsOf (.ref a) >>= _) _ _ s
 refine wpAny_bind (wpAny_tupleItemsOf ho hd ?_)
 refine wpAny_bind ?_
 rw[<- Array.forIn_toList]
 refine wpAny_forIn_list _
  (fun rest (b:Array Int) s'=>∃ done left,ks=done++left/\TIts prog w s.heap left rest/\b.toList=done.map (itH)/\s'={ s with toks:=s.toks + nestDraws done })
  _ ?_ ?_ _ _ ⟨[],ks,rfl,hi,rfl,rfl⟩
 ·rintro x rest b s' ⟨done,left,rfl,hl,hb,rfl⟩
  cases hl with
  | @cons k b' ks' _ h1 hl'=>
   refine wpAny_bind (Qdg (k:=k) hu h1 ?_)
   first
    | exact wpAny_pure ⟨done++[k],ks',by simp,hl',by simp[hb],by simp[Qdf,Nat.add_assoc]⟩
    | exact wpAny_bind (wpAny_pure (wpAny_pure ⟨done++[k],ks',by simp,hl',by simp[hb],by simp[Qdf,Nat.add_assoc]⟩))
 ·rintro b s' ⟨done,left,rfl,hl,hb,rfl⟩
  cases hl
  rw[List.append_nil]at h
  show wpAny _ _ (retInt (Builtin.Tuple.tupleHashOf b.toList)) _ _ _
  rw[hb]
  refine wpAny_ret_mkInt ?_
  show wpAny _ _ (if (decide (-(2:Int) ^ 63<=Builtin.Tuple.tupleHashOf (done.map (itH))) && decide (Builtin.Tuple.tupleHashOf (done.map (itH)) < 2 ^ 63))=true then _ else _) Q E _
  unfold nestHash reduceHash at h
  by_cases hr:(decide (-(2:Int) ^ 63<=Builtin.Tuple.tupleHashOf (done.map (itH))) && decide (Builtin.Tuple.tupleHashOf (done.map (itH)) < 2 ^ 63))=true
  ·rw[if_pos hr]
   rw[if_pos hr]at h
   exact wpAny_pure (by simpa [Nat.add_assoc] using h)
  ·rw[if_neg hr]
   rw[if_neg hr]at h
   exact wpAny_bind (wpAny_rule (wpAny_pure (by simpa [Nat.add_assoc] using h)))
theorem Qdj {x y : List KI} {a b : Addr} {P : Fin -> Shared -> Prop} (hu : A.units < cLine) (hx : IsNestKey prog w s.heap x a) (hy : IsNestKey prog w s.heap y b) (h : P (.done (.ret (.bool (decide (x = y))))) s) :
  wpAny (model prog w) A (Builtin.«tuple.__eq__» ⟨[.ref a,.ref b],[]⟩) P E s:=by
 have hTb:=hy.typeIs
 obtain⟨oa,xs,na,hoa,_,hda,hia⟩:=hx
 obtain⟨ob,ys,nb,hob,_,hdb,hib⟩:=hy
 show wpAny _ _ (isInstance (.ref b) (.type "tuple") >>= _) _ _ s
 refine wpAny_bind (wpAny_isInstance hTb isSubtype_tuple_tuple ?_)
 simp only[Bool.not_true,Bool.false_eq_true,if_false]
 refine wpAny_bind (wpAny_tupleItemsOf hoa hda ?_)
 refine wpAny_bind (wpAny_tupleItemsOf hob hdb ?_)
 refine wpAny_bind ?_
 refine wpAny_forIn_list _
  (fun rest r s'=>r.1=none/\s'=s/\∃ x' y' xs' ys',rest=List.zip xs' ys'/\TIts prog w s.heap x' xs'/\TIts prog w s.heap y' ys'/\decide (x'=y')=decide (x=y)/\(xs'.length == ys'.length)=(xs.size == ys.size))
  _ ?_ ?_ _ _ ⟨rfl,rfl,x,y,xs.toList,ys.toList,rfl,hia,hib,rfl,by simp⟩
 ·rintro ⟨u,v⟩ rest r s' ⟨hr,rfl,x',y',xs',ys',hz,hx',hy',hdec,hlen⟩
  cases hx' with
  | nil=>simp at hz
  | @cons k1 u' x'' xs'' h1 hx''=>
   cases hy' with
   | nil=>simp at hz
   | @cons k2 v' y'' ys'' h2 hy''=>
    simp only[List.zip_cons_cons,List.cons.injEq,Prod.mk.injEq]at hz
    obtain⟨⟨rfl,rfl⟩,rfl⟩:=hz
    refine wpAny_bind (Qdh (x:=k1) (y:=k2) hu h1 h2 ?_)
    by_cases hk:k1=k2
    ·subst hk
     rw[decide_eq_true rfl]
     simp only[Bool.not_true,Bool.false_eq_true,if_false]
     refine wpAny_pure ⟨rfl,rfl,x'',y'',xs'',ys'',rfl,hx'',hy'',?_,by simpa using hlen⟩
     rw[<- hdec]
     by_cases hxy:x''=y''
     ·simp[hxy]
     ·simp[hxy]
    ·rw[decide_eq_false hk]
     simp only[Bool.not_false,if_true]
     have hf:decide (x=y)=false:=by rw[<- hdec];simp[hk]
     rw[hf]at h
     exact wpAny_bind (wpAny_pure (wpAny_pure (wpAny_pure h)))
 ·rintro ⟨r1,r2⟩ s' ⟨hr,rfl,x',y',xs',ys',hz,hx',hy',hdec,hlen⟩
  simp only at hr
  subst hr
  refine wpAny_pure ?_
  have hfin:(xs.size == ys.size)=decide (x=y):=by
   rw[<- hdec,<- hlen]
   cases hx' with
   | nil=>
    cases hy' with
    | nil=>simp
    | cons _ _=>simp
   | cons _ _=>
    cases hy' with
    | nil=>simp
    | cons _ _=>simp at hz
  show P (.done (.ret (.bool (xs.size == ys.size)))) s'
  rw[hfin];exact h
theorem Qdk {x y : List KI} {a b : Addr} {Q : Bool -> Shared -> Prop} (hu : A.units + 1 < cLine) (hx : IsNestKey prog w s.heap x a) (hy : IsNestKey prog w s.heap y b) (h : Q (decide (x = y)) s) :
  wpAny (model prog w) A (eqBool (.ref a) (.ref b)) Q E s:=by
 unfold eqBool
 try with_reducible refine wpAny_holding ?_
 show wpAny _ _ (if (Value.ref a == Value.ref b)=true then _ else _) Q E s
 by_cases hab:(Value.ref a == Value.ref b)=true
 ·rw[if_pos hab]
  have e:a=b:=by have:=eq_of_beq hab;injection this
  subst e
  obtain rfl:=hx.inj hy
  exact wpAny_bind (wpAny_rule (wpAny_pure (by simpa using h)))
 ·rw[if_neg hab]
  exact wpAny_bind (wpAny_richCompare_same_room (op:=.Eq) hx.typeIs hy.typeIs F.slot_tuple_eq
   (wpAny_call_entry F.slot_tuple_eq hx.typeIs F.entry_tuple_eq (Qdj (by exact hu) hx hy ⟨_,rfl,(fun e=>nomatch e),wpAny_truthy_bool h⟩) (F.args_tuple_eq_2 _ _)) (by ac_nf))
theorem Qdl {n:Nat}{ks:List Int}{a:Addr}{Q:Bool->Shared->Prop} (hk:IsTupleKey (intKind prog w) s.heap ks a) (h:Q true s):wpAny (model prog w) A (eqIsQuiet (n + 1) (.ref a)) Q E s:=by
 have hT:=hk.typeIs
 obtain⟨o,items,n,ho,_,hd,hi⟩:=hk
 unfold eqIsQuiet
 refine wpAny_bind (wpAny_specialOf hT F.slot_tuple_eq.lookup ?_)
 show wpAny _ _ (isInstance (.ref a) (.type "tuple") >>= _) _ _ s
 refine wpAny_bind (wpAny_isInstance hT isSubtype_tuple_tuple ?_)
 simp only[Bool.not_true,Bool.false_eq_true,if_false]
 refine wpAny_bind (wpAny_seqItems ho hd ?_)
 refine wpAny_bind ?_
 show wpAny _ _ (forIn items _ _) _ _ s
 rw[<- Array.forIn_toList]
 refine wpAny_forIn_list _ (fun rest r s'=>r.1=none/\s'=s/\∀ v∈rest,carriedByValue v=true) _ ?_ ?_ _ _ ⟨rfl,rfl,hi.byValue⟩
 ·rintro v rest r s' ⟨hr,rfl,hall⟩
  rw[eqIsQuiet_byValue _ (hall v List.mem_cons_self)]
  refine wpAny_bind (wpAny_pure ?_)
  simp only[Bool.not_true,Bool.false_eq_true,if_false]
  exact wpAny_pure ⟨rfl,rfl,fun u hu'=>hall u (List.mem_cons_of_mem _ hu')⟩
 ·rintro ⟨r1,r2⟩ s' ⟨hr,rfl,_⟩
  simp only at hr
  subst hr
  exact wpAny_pure h
theorem Qdm {n:Nat}{k:KI}{v:Value}{Q:Bool->Shared->Prop} (hk:TIt prog w s.heap k v) (h:Q true s):wpAny (model prog w) A (eqIsQuiet (n + 1) v) Q E s:=by
 cases hk with
 | one i t=>rw[eqIsQuiet_byValue _ (show carriedByValue (Value.int i t)=true from rfl)];exact wpAny_pure h
 | row hk=>exact Qdl hk h
theorem Qdn {ks:List KI}{a:Addr}{Q:Bool->Shared->Prop} (hk:IsNestKey prog w s.heap ks a) (h:Q true s):wpAny (model prog w) A (eqIsQuiet 8 (.ref a)) Q E s:=by
 have hT:=hk.typeIs
 obtain⟨o,items,n,ho,_,hd,hi⟩:=hk
 unfold eqIsQuiet
 refine wpAny_bind (wpAny_specialOf hT F.slot_tuple_eq.lookup ?_)
 show wpAny _ _ (isInstance (.ref a) (.type "tuple") >>= _) _ _ s
 refine wpAny_bind (wpAny_isInstance hT isSubtype_tuple_tuple ?_)
 simp only[Bool.not_true,Bool.false_eq_true,if_false]
 refine wpAny_bind (wpAny_seqItems ho hd ?_)
 refine wpAny_bind ?_
 show wpAny _ _ (forIn items _ _) _ _ s
 rw[<- Array.forIn_toList]
 refine wpAny_forIn_list _ (fun rest r s'=>r.1=none/\s'=s/\∃ left,TIts prog w s.heap left rest) _ ?_ ?_ _ _ ⟨rfl,rfl,ks,hi⟩
 ·rintro v rest r s' ⟨hr,rfl,left,hall⟩
  cases hall with
  | cons h1 hl=>
   refine wpAny_bind (Qdm (n:=6) h1 ?_)
   simp only[Bool.not_true,Bool.false_eq_true,if_false]
   exact wpAny_pure ⟨rfl,rfl,_,hl⟩
 ·rintro ⟨r1,r2⟩ s' ⟨hr,rfl,_⟩
  simp only at hr
  subst hr
  exact wpAny_pure h
end
noncomputable def nestKind (prog:Program) (w:World):HeapKind prog w (List KI) where
 is:=IsNestKey prog w
 hash:=nestHash
 draws:=fun ks=>nestDraws ks + 1
 room:=fun A=>A.units + 1 < cLine
 inj:=fun hx hy=>hx.inj hy
 keeps:=fun x ho hd hs=>x.keeps ho hd hs
 pyHash:=fun hu hk h=>Qdi hu hk h
 eqBool:=fun hu hx hy h=>Qdk hu hx hy h
 quiet:=fun hk h=>Qdn hk h
end MM
namespace MM
open PySem PyProof.Rows
noncomputable def EpAt (h:Heap) (d:Addr) (n:Nat):Prop:=∃ o es,h.get? d=some o/\o.data=.dict es n
section
variable {prog:Program}{w:World}{K:Type} [DecidableEq K] {knd:HeapKind prog w K}{A:Around}{E:Value->Shared->Prop}{s:Shared}{d a:Addr}{k:K}{xs:List (K × Addr × Value)}
theorem Qdo {v : Value} {Q : Unit -> Shared -> Prop} (hu : knd.room A) (hkey : knd.is s.heap k a) (hm : s.heap.DictOfH knd d xs) (hp : EpAt s.heap d xs.length) (hsz : xs.length <= sizeLine)
  (h:∀ h',h'.DictOfH knd d (storedH xs k a v)->EpAt h' d (storedH xs k a v).length->Heap.SameBut d s.heap h'->Q () { s with heap:=h',toks:=s.toks + knd.draws k }):
  wpAny (model prog w) A (dictSet d (.ref a) v) Q E s:=by
 obtain⟨o,es,ep,ho,hc,hd,he,his,hn⟩:=id hm
 obtain⟨o',es',ho',hd'⟩:=hp
 rw[ho]at ho';cases ho'
 rw[hd]at hd';cases hd'
 unfold dictSet
 refine wpAny_holding (wpAny_bind (knd.pyHash hu hkey ?_))
 unfold dictSetHashed
 refine wpAny_holding (wpAny_bind (wpAny_dictFind_heap (s:={ s with toks:=s.toks + knd.draws k }) hu hkey ho hd he his hn (fun hno=>?_) fun j p hj=>?_))
 ·have hnot:k∉xs.map (·.1):=not_mem_keys_of_get hno
  have e0:=atKey_none_of_get hno
  have e1:=storedH_new (a:=a) (v:=v) e0
  have e2:=size_of_entries he
  refine wpAny_bind (wpAny_rule (wpAny_updateDictKeys (hz:=by ac_nf) (s:={ s with toks:=s.toks + knd.draws k }) ho hd
   (h _ ⟨_,_,_,Heap.get?_update_self _ ho (Obj.isFreed_of_dict (Obj.data_mapDictKeys hd _)),hc.mapDictKeys _,Obj.data_mapDictKeys hd _,?_,?_,?_⟩ ?_ (Heap.SameBut.update ..))))
  ·rw[e1];simp[he,entryOfKey]
  ·rw[e1]
   intro x hx
   rcases List.mem_append.mp hx with hx | hx
   ·exact knd.keeps (his x hx) ho hd (Heap.SameBut.update ..)
   ·cases List.mem_singleton.mp hx
    exact knd.keeps hkey ho hd (Heap.SameBut.update ..)
  ·rw[e1,List.map_append,List.nodup_append]
   refine⟨hn,by simp,fun x hx y hy=>?_⟩
   cases List.mem_singleton.mp hy
   exact fun e=>hnot ((show x=k from e) ▸ hx)
  ·rw[e1,List.length_append];exact⟨_,_,Heap.get?_update_self _ ho (Obj.isFreed_of_dict (Obj.data_mapDictKeys hd _)),Obj.data_mapDictKeys hd _⟩
 ·have e0:=atKey_of_get hn hj
  have e1:=storedH_old e0 a v
  have ej:j < es.size:=by
   rw[size_of_entries he];exact (List.getElem?_eq_some_iff.mp hj).1
  have hes:(es.modify j fun e=>{ hash:=e.hash,key:=e.key,val:=v }).toList=(xs.map (putAt k v)).map (entryOfKey knd):=by
   apply List.ext_getElem?
   intro i
   rw[Array.getElem?_toList,Array.getElem?_modify,List.getElem?_map,List.getElem?_map]
   have ei:es[i]?=(xs[i]?).map (entryOfKey knd):=by rw[<- Array.getElem?_toList,he,List.getElem?_map]
   rw[ei]
   by_cases z:j=i
   ·subst z
    rw[if_pos rfl,hj]
    simp[putAt,entryOfKey]
   ·rw[if_neg z]
    cases hx:xs[i]? with
    | none=>rfl
    | some x=>
     have nk:x.1≠k:=fun q=>by
      have a1:(xs.map (·.1))[i]?=some k:=by rw[List.getElem?_map,hx,<- q];rfl
      have a2:(xs.map (·.1))[j]?=some k:=by rw[List.getElem?_map,hj];rfl
      exact z ((List.getElem?_inj (by rw[List.length_map];exact (List.getElem?_eq_some_iff.mp hj).1) hn).mp (a2.trans a1.symm))
     simp[putAt,nk]
  refine wpAny_bind (wpAny_rule (wpAny_bind (wpAny_updateDict (s:={ s with toks:=s.toks + knd.draws k }) ho hd (wpAny_point
   (h _ ⟨_,_,_,Heap.get?_update_self _ ho (Obj.isFreed_of_dict (Obj.data_mapDict hd _)),hc.mapDict _,Obj.data_mapDict hd _,?_,?_,?_⟩ ?_ (Heap.SameBut.update ..))))))
  ·rw[e1];exact hes
  ·rw[e1]
   intro x hx
   obtain⟨y,hy,e⟩:=List.mem_map.mp hx
   have q:=knd.keeps (his y hy) ho hd (Heap.SameBut.update s.heap d (Obj.mapDict fun x=>x.modify j fun e=>{ hash:=e.hash,key:=e.key,val:=v }))
   rw[<- e]
   unfold putAt
   split
   ·exact q
   ·exact q
  ·rw[e1,List.map_map]
   have:(xs.map ((fun x=>x.1) ∘ putAt k v))=xs.map (·.1):=List.map_congr_left fun x _=>by
    show (putAt k v x).1=x.1
    unfold putAt
    split<;>rfl
   rw[this];exact hn
  ·rw[e1,List.length_map];exact⟨_,_,Heap.get?_update_self _ ho (Obj.isFreed_of_dict (Obj.data_mapDict hd _)),Obj.data_mapDict hd _⟩
theorem Qdp {v : Value} {Q : Unit -> Shared -> Prop} (hu : knd.room A.in1) (hkey : knd.is s.heap k a) (hm : s.heap.DictOfH knd d xs) (hp : EpAt s.heap d xs.length) (hsz : xs.length <= sizeLine)
  (h:∀ h',h'.DictOfH knd d (storedH xs k a v)->EpAt h' d (storedH xs k a v).length->Heap.SameBut d s.heap h'->Q () { s with heap:=h',toks:=s.toks + knd.draws k }):
  wpAny (model prog w) A (setItem (.ref d) (.ref a) v) Q E s:=by
 have T:=hm.typeIs
 unfold setItem
 refine wpAny_holding (wpAny_bind (wpAny_sequenceKey T (by decide) (wpAny_bind (wpAny_callSpecial?_slot T F.slot_dict_setitem (wpAny_call_entry F.slot_dict_setitem T F.entry_dict_setitem ?_ (F.args_dict_setitem_3 _ _ _))))))
 unfold Builtin.«dict.__setitem__»
 refine wpAny_bind (wpAny_notOrdered_dict T ?_)
 rw[if_neg (by simp)]
 show wpAny _ _ (dictSet d (.ref a) v >>= _) _ _ s
 refine wpAny_bind (Qdo hu hkey hm hp hsz fun h' a1 a2 a3=>wpAny_pure ⟨_,rfl,wpAny_pure (h h' a1 a2 a3)⟩)
end
end MM
namespace MM
open PySem
inductive D where
 | non | bl (b:Bool) | int (i:Int) | str (x:Str) | tup (ds:List D) | lit (ds:List D) | ref (n:Nat) | dic (n:Nat) | exn (x:Str) (ds:List D)
inductive MO where
 | lst (ds:List D) | dct (b:Bool) (kvs:List (D × D))
noncomputable abbrev Sto:=List MO
noncomputable abbrev Exn:=D
inductive Rs (α:Type) where
 | ok (a:α) (s:Sto) | exc (x:Exn) (s:Sto) | bad
noncomputable def M (α:Type):=Sto->Rs α
section
variable {α β:Type}
noncomputable def ret (a:α):M α:=fun s=>.ok a s
noncomputable def bnd (m:M α) (f:α->M β):M β:=fun s=>match m s with
 | .ok a s'=>f a s'
 | .exc x s'=>.exc x s'
 | .bad=>.bad
noncomputable def bad:M α:=fun _=>.bad
@[irreducible] noncomputable def chk (c:Prop) [Decidable c] (m:M α):M α:=if c then m else bad
end
noncomputable abbrev Loc:=List (Option D)
noncomputable abbrev CE:=Loc->M D
noncomputable abbrev CT:=Loc->M Bool
noncomputable abbrev CA:=Loc->M (List D)
inductive Flw where
 | next (l:Loc) | ret (d:D) | brk (l:Loc) | cnt (l:Loc)
noncomputable abbrev CS:=Loc->M Flw
noncomputable def lim:Nat:=2 ^ 24
noncomputable def alloc (o:MO):M D:=fun s=>.ok (.ref s.length) (s++[o])
noncomputable def getL (n:Nat):M (List D):=fun s=>match s[n]? with
 | some (.lst ds)=>.ok ds s
 | _=>.bad
noncomputable def putL (n:Nat) (ds:List D):M Unit:=fun s=>match s[n]? with
 | some (.lst _)=>.ok () (s.set n (.lst ds))
 | _=>.bad
noncomputable def getDc (n:Nat):M (Bool × List (D × D)):=fun s=>match s[n]? with
 | some (.dct b kvs)=>.ok (b,kvs) s
 | _=>.bad
noncomputable def putDc (n:Nat) (b:Bool) (kvs:List (D × D)):M Unit:=fun s=>match s[n]? with
 | some (.dct c _)=>if b=c then .ok () (s.set n (.dct b kvs)) else .bad
 | _=>.bad
mutual
noncomputable def eqK:D->D->Bool
 | .int i,.int j=>decide (i=j)
 | .str x,.str y=>decide (x=y)
 | .tup xs,.tup ys=>eqKs xs ys
 | _,_=>false
noncomputable def eqKs:List D->List D->Bool
 | [],[]=>true
 | x::xs,y::ys=>eqK x y && eqKs xs ys
 | _,_=>false
end
noncomputable def intsK:List D->Option (List Int)
 | []=>some []
 | .int i::ds=>(intsK ds).map (i::·)
 | _=>none
noncomputable def rowsK:List D->Option (List (Int ⊕ List Int))
 | []=>some []
 | .tup xs::ds=>match intsK xs,rowsK ds with
  | some r,some rs=>some (.inr r::rs)
  | _,_=>none
 | .int i::ds=>(rowsK ds).map (.inl i::·)
 | _=>none
noncomputable def stK:D->Option (List (Int ⊕ List Int))
 | .tup ds=>rowsK ds
 | _=>none
noncomputable def kOk:Bool->D->Bool
 | false,.int _=>true
 | false,.str _=>true
 | true,d=>(stK d).isSome
 | _,_=>false
noncomputable def lkK (kvs:List (D × D)) (k:D):Option D:=(kvs.find? fun p=>eqK p.1 k).map (·.2)
noncomputable def ptK (kvs:List (D × D)) (k v:D):List (D × D):=if (kvs.any fun p=>eqK p.1 k)=true then kvs.map fun p=>if eqK p.1 k=true then (p.1,v) else p else kvs++[(k,v)]
noncomputable def mgK (kvs more:List (D × D)):List (D × D):=more.foldl (fun acc p=>ptK acc p.1 p.2) kvs
noncomputable def itemK (n:Nat) (k:D):M D:=bnd (getDc n) fun p=>chk (kOk p.1 k=true) (match lkK p.2 k with
 | some d=>ret d
 | none=>bad)
noncomputable def storeK (n:Nat) (k v:D):M Unit:=bnd (getDc n) fun p=>chk (kOk p.1 k=true/\p.2.length < lim) (putDc n p.1 (ptK p.2 k v))
noncomputable def hasK (n:Nat) (k:D):M Bool:=bnd (getDc n) fun p=>chk (kOk p.1 k=true) (ret (lkK p.2 k).isSome)
noncomputable def seqOf:D->M (List D)
 | .tup ds=>ret ds
 | .lit ds=>ret ds
 | .ref n=>getL n
 | _=>bad
noncomputable def ixN (n:Nat) (i:Int):Option Nat:=if 0<=i then (if i < n then some i.toNat else none) else (if -(n:Int)<=i then some (i + n).toNat else none)
noncomputable def addD:D->D->M D
 | .int i,.int j=>ret (.int (i + j))
 | .str x,.str y=>chk (x.length + y.length<=lim) (ret (.str (x++y)))
 | .tup x,.tup y=>chk (x.length + y.length<=lim) (ret (.tup (x++y)))
 | .ref a,.ref b=>bnd (getL a) fun x=>bnd (getL b) fun y=>chk (x.length + y.length<=lim) (alloc (.lst (x++y)))
 | _,_=>bad
noncomputable def subD:D->D->M D
 | .int i,.int j=>ret (.int (i - j))
 | _,_=>bad
noncomputable def mulOk (i j:Int):Prop:=(-(2 ^ 64) < i/\i < 2 ^ 64)\/(-(2 ^ 64) < j/\j < 2 ^ 64)
noncomputable instance (i j:Int):Decidable (mulOk i j):=by unfold mulOk;infer_instance
noncomputable def mulD:D->D->M D
 | .int i,.int j=>chk (mulOk i j) (ret (.int (i * j)))
 | _,_=>bad
noncomputable def fdivD:D->D->M D
 | .int i,.int j=>chk (0 < j/\j < 1073741824) (ret (.int (i / j)))
 | _,_=>bad
noncomputable def modD:D->D->M D
 | .int i,.int j=>chk (0 < j) (ret (.int (i % j)))
 | _,_=>bad
noncomputable def powD:D->D->M D
 | .int i,.int j=>chk (0<=j/\j<=1000000/\i.natAbs < 2 ^ 64) (ret (.int (i ^ j.toNat)))
 | _,_=>bad
noncomputable def shlD:D->D->M D
 | .int i,.int j=>chk (0<=j/\j<=1000000/\i.natAbs < 2 ^ 64) (ret (.int (i * 2 ^ j.toNat)))
 | _,_=>bad
noncomputable def shrD:D->D->M D
 | .int i,.int j=>chk (0<=j) (ret (.int (i / 2 ^ j.toNat)))
 | _,_=>bad
noncomputable def negD:D->M D
 | .int i=>ret (.int (-i))
 | _=>bad
noncomputable def cmpI (p:Int->Int->Bool):D->D->M D
 | .int i,.int j=>ret (.bl (p i j))
 | _,_=>bad
noncomputable def ltD:=cmpI fun i j=>decide (i < j)
noncomputable def leD:=cmpI fun i j=>decide (i<=j)
noncomputable def gtD:=cmpI fun i j=>decide (j < i)
noncomputable def geD:=cmpI fun i j=>decide (j<=i)
noncomputable def allF (f:D->D->Option Bool):List D->List D->Option Bool
 | [],[]=>some true
 | x::xs,y::ys=>match f x y with
  | some true=>allF f xs ys
  | some false=>(allF f xs ys).map fun _=>false
  | none=>none
 | _::_,[]=>some false
 | [],_::_=>some false
noncomputable def eqS (g:List D->List D->Option Bool):D->D->Option Bool
 | .non,.non=>some true
 | .non,.bl _=>some false
 | .non,.int _=>some false
 | .non,.str _=>some false
 | .non,.tup _=>some false
 | .bl _,.non=>some false
 | .bl a,.bl b=>some (a == b)
 | .bl a,.int b=>some ((if a then 1 else 0) == b)
 | .bl _,.str _=>some false
 | .bl _,.tup _=>some false
 | .int _,.non=>some false
 | .int a,.bl b=>some (a == (if b then 1 else 0))
 | .int a,.int b=>some (a == b)
 | .int _,.str _=>some false
 | .int _,.tup _=>some false
 | .str _,.non=>some false
 | .str _,.bl _=>some false
 | .str _,.int _=>some false
 | .str a,.str b=>some (a == b)
 | .str _,.tup _=>some false
 | .tup _,.non=>some false
 | .tup _,.bl _=>some false
 | .tup _,.int _=>some false
 | .tup _,.str _=>some false
 | .tup xs,.tup ys=>g xs ys
 | _,_=>none
noncomputable def eqF:Nat->D->D->Option Bool
 | 0,d,e=>eqS (fun _ _=>none) d e
 | n + 1,d,e=>eqS (allF (eqF n)) d e
noncomputable def eqB (d e:D):M Bool:=match d,e with
 | .ref a,.ref b=>bnd (getL a) fun x=>bnd (getL b) fun y=>match (if x.length=y.length then allF (eqF 50) x y else some false) with
  | some r=>ret r
  | none=>bad
 | .ref a,.non=>bnd (getL a) fun _=>ret false
 | .non,.ref a=>bnd (getL a) fun _=>ret false
 | d,e=>match eqF 50 d e with
  | some r=>ret r
  | none=>bad
noncomputable def eqD (d e:D):M D:=bnd (eqB d e) fun b=>ret (.bl b)
noncomputable def neD (d e:D):M D:=bnd (eqB d e) fun b=>ret (.bl !b)
noncomputable def isND:D->M D
 | .non=>ret (.bl true)
 | _=>ret (.bl false)
noncomputable def notND:D->M D
 | .non=>ret (.bl false)
 | _=>ret (.bl true)
noncomputable def itemD (ds:List D) (i:Int):M D:=match ixN ds.length i with
 | some k=>match ds[k]? with
  | some d=>ret d
  | none=>bad
 | none=>bad
noncomputable def subsD:D->D->M D
 | .tup ds,.int i=>itemD ds i
 | .lit ds,.int i=>itemD ds i
 | .ref n,.int i=>bnd (getL n) fun ds=>itemD ds i
 | .dic n,k=>itemK n k
 | .str x,.int i=>chk (x.length<=lim) (match ixN x.length i with
  | some k=>match x.cps.toList[k]? with
   | some c=>ret (.str ⟨#[c]⟩)
   | none=>bad
  | none=>bad)
 | _,_=>bad
noncomputable def truD:D->M Bool
 | .non=>ret false
 | .bl b=>ret b
 | .int i=>ret (i != 0)
 | .str x=>chk (x.length<=lim) (ret ((x.length:Int) != 0))
 | .tup ds=>ret (!ds.isEmpty)
 | .lit ds=>ret (!ds.isEmpty)
 | .ref n=>bnd (getL n) fun ds=>ret (!ds.isEmpty)
 | .dic _=>bad
 | .exn _ _=>bad
noncomputable def cVar (i:Nat):CE:=fun l=>match l[i]? with
 | some (some d)=>ret d
 | _=>bad
noncomputable def cCon (d:D):CE:=fun _=>ret d
noncomputable def c1 (g:D->M D) (a:CE):CE:=fun l=>bnd (a l) g
noncomputable def c2 (g:D->D->M D) (a b:CE):CE:=fun l=>bnd (a l) fun x=>bnd (b l) fun y=>g x y
noncomputable def cNil:CA:=fun _=>ret []
noncomputable def cCons (a:CE) (r:CA):CA:=fun l=>bnd (a l) fun x=>bnd (r l) fun xs=>ret (x::xs)
noncomputable def cTup (a:CA):CE:=fun l=>bnd (a l) fun xs=>chk (xs.length<=lim) (ret (.tup xs))
noncomputable def cChain (f g:D->D->M D) (a b c:CE):CE:=fun l=>bnd (a l) fun x=>bnd (b l) fun y=>bnd (f x y) fun z=>match z with
 | .bl true=>bnd (c l) fun w=>g y w
 | .bl false=>ret (.bl false)
 | _=>bad
noncomputable def cAnd (a b:CE):CE:=fun l=>bnd (a l) fun x=>match x with
 | .bl true=>b l
 | .bl false=>ret (.bl false)
 | _=>bad
noncomputable def cNot (a:CE):CE:=fun l=>bnd (a l) fun x=>match x with
 | .bl b=>ret (.bl !b)
 | _=>bad
noncomputable def cIfE (t:CT) (a b:CE):CE:=fun l=>bnd (t l) fun c=>if c=true then a l else b l
noncomputable def cCall (g:List D->M D) (a:CA):CE:=fun l=>bnd (a l) g
noncomputable def tVal (a:CE):CT:=fun l=>bnd (a l) truD
noncomputable def tCmpB (a:CE):CT:=fun l=>bnd (a l) fun x=>match x with
 | .bl b=>ret b
 | _=>bad
noncomputable def tAndB (a b:CT):CT:=fun l=>bnd (a l) fun c=>if c=true then b l else ret false
noncomputable def tOrB (a b:CT):CT:=fun l=>bnd (a l) fun c=>if c=true then ret true else b l
noncomputable def tNotB (a:CT):CT:=fun l=>bnd (a l) fun c=>ret !c
structure Wk where
 ds:List D
 same:Sto->Prop
noncomputable abbrev CI:=Loc->M Wk
open Classical in
noncomputable def chkS (p:Sto->Prop):M Unit:=fun s=>if p s then .ok () s else .bad
noncomputable def anySt:Sto->Prop:=fun _=>True
noncomputable def sameL (n:Nat) (ds:List D):Sto->Prop:=fun s=>s[n]?=some (.lst ds)
noncomputable def iSeq (a:CE):CI:=fun l=>bnd (a l) fun x=>match x with
 | .tup ds=>ret ⟨ds,anySt⟩
 | .lit ds=>ret ⟨ds,anySt⟩
 | .ref n=>bnd (getL n) fun ds=>ret ⟨ds,sameL n ds⟩
 | _=>bad
noncomputable def rngD (lo:Int) (n:Nat):List D:=(List.range n).map fun k=>.int (lo + (k:Nat))
noncomputable def iRng1 (a:CE):CI:=fun l=>bnd (a l) fun x=>match x with
 | .int j=>chk (-(2 ^ 62)<=j/\j < 2 ^ 62) (ret ⟨rngD 0 j.toNat,anySt⟩)
 | _=>bad
noncomputable def iTmp (a:CA):CI:=fun l=>bnd (a l) fun ds=>ret ⟨ds,anySt⟩
noncomputable abbrev CG:=D->Loc->M Loc
noncomputable def gVar (i:Nat):CG:=fun d l=>ret (l.set i (some d))
noncomputable def gsNil:List D->Loc->M Loc
 | [],l=>ret l
 | _,_=>bad
noncomputable def gsCons (g:CG) (r:List D->Loc->M Loc):List D->Loc->M Loc
 | d::ds,l=>bnd (g d l) fun l'=>r ds l'
 | _,_=>bad
noncomputable def gTupD (n:Nat) (r:List D->Loc->M Loc):CG:=fun d l=>match d with
 | .tup ds=>chk (ds.length=n) (r ds l)
 | _=>bad
noncomputable def capt (n:Nat) (caps:List Nat) (l:Loc):Loc:=List.replicate n none++caps.map fun i=>(l[i]?).join
noncomputable def collect (g:CG) (t:CT) (e:CE) (same:Sto->Prop):List D->Loc->M (List D)
 | [],_=>bnd (chkS same) fun _=>ret []
 | d::ds,l=>bnd (chkS same) fun _=>bnd (g d l) fun l'=>bnd (t l') fun b=>if b=true then bnd (e l') fun x=>bnd (collect g t e same ds l') fun xs=>ret (x::xs) else collect g t e same ds l'
noncomputable def aComp (n:Nat) (caps:List Nat) (i:CI) (g:CG) (t:CT) (e:CE):CA:=fun l=>bnd (i l) fun w=>chk (w.ds.length<=lim) (collect g t e w.same w.ds (capt n caps l))
noncomputable def sIx (n d:Nat):Option Int->Nat
 | none=>d
 | some v=>if v < 0 then (v + (n:Int)).toNat else min v.toNat n
noncomputable def cutD (xs:List D) (lo hi:Option Int):List D:=(xs.drop (sIx xs.length 0 lo)).take (sIx xs.length xs.length hi - sIx xs.length 0 lo)
noncomputable abbrev CO:=Loc->M (Option Int)
noncomputable def oNone:CO:=fun _=>ret none
noncomputable def oSome (a:CE):CO:=fun l=>bnd (a l) fun x=>match x with
 | .int i=>ret (some i)
 | _=>bad
noncomputable def aSlice (a:CE) (lo hi:CO):CA:=fun l=>bnd (a l) fun x=>bnd (lo l) fun i=>bnd (hi l) fun j=>match x with
 | .lit ds=>ret (cutD ds i j)
 | .ref n=>bnd (getL n) fun ds=>ret (cutD ds i j)
 | _=>bad
noncomputable def tTrue:CT:=fun _=>ret true
noncomputable def cKeep (a:CA):CE:=fun l=>bnd (a l) fun ds=>alloc (.lst ds)
noncomputable def aDisp (a:CA):CA:=fun l=>bnd (a l) fun xs=>chk (xs.length<=lim) (ret xs)
noncomputable def cTmpSub (a:CA) (b:CE):CE:=fun l=>bnd (a l) fun ds=>bnd (b l) fun i=>match i with
 | .int k=>itemD ds k
 | _=>bad
noncomputable def cTmp (g:List D->M D) (a:CA):CE:=fun l=>bnd (a l) g
noncomputable def sNext:CS:=fun l=>ret (.next l)
noncomputable def sSeq (a b:CS):CS:=fun l=>bnd (a l) fun f=>match f with
 | .next l'=>b l'
 | f=>ret f
noncomputable def sAsg (g:CG) (a:CE):CS:=fun l=>bnd (a l) fun d=>bnd (g d l) fun l'=>ret (.next l')
noncomputable def sRet (a:CE):CS:=fun l=>bnd (a l) fun d=>ret (.ret d)
noncomputable def sExp (a:CE):CS:=fun l=>bnd (a l) fun _=>ret (.next l)
noncomputable def sIf (t:CT) (a b:CS):CS:=fun l=>bnd (t l) fun c=>if c=true then a l else b l
noncomputable def forD (g:CG) (b:CS) (same:Sto->Prop):List D->CS
 | [],l=>bnd (chkS same) fun _=>ret (.next l)
 | d::ds,l=>bnd (chkS same) fun _=>bnd (g d l) fun l'=>bnd (b l') fun f=>match f with
  | .next l2=>forD g b same ds l2
  | .cnt l2=>forD g b same ds l2
  | .brk l2=>ret (.next l2)
  | .ret d=>ret (.ret d)
noncomputable def sFor (i:CI) (g:CG) (b:CS):CS:=fun l=>bnd (i l) fun w=>forD g b w.same w.ds l
noncomputable def flwD:Flw->M D
 | .ret d=>ret d
 | .next _=>ret .non
 | _=>bad
noncomputable def runDef (n:Nat) (body:CS) (ds:List D):M D:=bnd (body (ds.map some++List.replicate (n - ds.length) none)) flwD
noncomputable def setItemD (o i v:D):M Unit:=match o,i with
 | .ref n,.int k=>bnd (getL n) fun ds=>match ixN ds.length k with
  | some j=>putL n (ds.set j v)
  | none=>bad
 | .dic n,k=>storeK n k v
 | _,_=>bad
noncomputable def gSubD (o i:CE):CG:=fun v l=>bnd (o l) fun y=>bnd (i l) fun z=>bnd (setItemD y z v) fun _=>ret l
noncomputable def lenD:D->M D
 | .tup ds=>ret (.int ds.length)
 | .lit ds=>ret (.int ds.length)
 | .ref n=>bnd (getL n) fun ds=>ret (.int ds.length)
 | .str x=>chk (x.length<=lim) (ret (.int x.length))
 | .dic n=>bnd (getDc n) fun p=>ret (.int p.2.length)
 | _=>bad
noncomputable def appendL (n:Nat) (v:D):M D:=bnd (getL n) fun ds=>chk (ds.length < lim) (bnd (putL n (ds++[v])) fun _=>ret .non)
noncomputable def cAppend (a b:CE):CE:=fun l=>bnd (a l) fun x=>match x with
 | .ref n=>bnd (b l) fun v=>appendL n v
 | _=>bad
noncomputable def intD:D->M D
 | .int i=>ret (.int i)
 | .bl b=>ret (.int (if b then 1 else 0))
 | _=>bad
noncomputable def tupleD:D->M D
 | .tup ds=>ret (.tup ds)
 | .lit ds=>ret (.tup ds)
 | .ref n=>bnd (getL n) fun ds=>ret (.tup ds)
 | _=>bad
noncomputable def isTy:D->Option (List String)
 | .non=>some ["NoneType"]
 | .bl _=>some ["bool","int"]
 | .int _=>some ["int"]
 | .str _=>some ["str"]
 | .tup _=>some ["tuple"]
 | .lit _=>some ["list"]
 | .ref _=>some ["list"]
 | .dic _=>none
 | .exn _ _=>none
noncomputable def numsL:List D->Option (List Int)
 | []=>some []
 | .int i::ds=>(numsL ds).map (i::·)
 | _=>none
noncomputable def boolsL:List D->Option (List Bool)
 | []=>some []
 | .bl b::ds=>(boolsL ds).map (b::·)
 | _=>none
noncomputable def maxD (ds:List D):M D:=match numsL ds with
 | some (n::ns)=>ret (.int (ns.foldl max n))
 | _=>bad
noncomputable def allD (ds:List D):M D:=match boolsL ds with
 | some bs=>ret (.bl (bs.all id))
 | _=>bad
noncomputable def tupL (ds:List D):M D:=ret (.tup ds)
noncomputable def isInst (ts:List String) (d:D):M D:=match isTy d with
 | some us=>ret (.bl (ts.any fun t=>us.contains t))
 | none=>bad
noncomputable def isD:D->D->M D
 | .bl a,.bl b=>ret (.bl (a == b))
 | x,.non=>isND x
 | _,_=>bad
noncomputable def isntD:D->D->M D
 | .bl a,.bl b=>ret (.bl !(a == b))
 | x,.non=>notND x
 | _,_=>bad
noncomputable def flatD:D->Bool
 | .non=>true
 | .bl _=>true
 | .int _=>true
 | .str _=>true
 | _=>false
noncomputable def eqFl:D->D->Bool
 | .non,.non=>true
 | .bl a,.bl b=>a == b
 | .bl a,.int b=>(if a then 1 else 0) == b
 | .int a,.bl b=>a == (if b then 1 else 0)
 | .int a,.int b=>a == b
 | .str a,.str b=>a == b
 | _,_=>false
noncomputable def inL (x:D) (ds:List D):M D:=chk (flatD x=true/\ds.all flatD=true) (ret (.bl (ds.any fun d=>eqFl d x)))
noncomputable def ninL (x:D) (ds:List D):M D:=chk (flatD x=true/\ds.all flatD=true) (ret (.bl !(ds.any fun d=>eqFl d x)))
noncomputable def inD (x y:D):M D:=match y with
 | .dic n=>bnd (hasK n x) fun b=>ret (.bl b)
 | y=>bnd (seqOf y) (inL x)
noncomputable def ninD (x y:D):M D:=match y with
 | .dic n=>bnd (hasK n x) fun b=>ret (.bl !b)
 | y=>bnd (seqOf y) (ninL x)
noncomputable def allocK (b:Bool) (kvs:List (D × D)):M D:=fun s=>.ok (.dic s.length) (s++[.dct b kvs])
noncomputable def cDNew (b:Bool):CE:=fun _=>allocK b []
noncomputable def cDisp (ks:List D) (vs:CA):CE:=fun l=>bnd (vs l) fun xs=>chk (ks.length=xs.length) (allocK false (mgK [] (ks.zip xs)))
noncomputable def aRev (a:CA):CA:=fun l=>bnd (a l) fun ds=>ret ds.reverse
noncomputable def max2D:D->D->M D
 | .int i,.int j=>ret (.int (max i j))
 | _,_=>bad
noncomputable def listD (d:D):M D:=bnd (seqOf d) fun ds=>alloc (.lst ds)
noncomputable def cPop (a:CE):CE:=fun l=>bnd (a l) fun x=>match x with
 | .ref n=>bnd (getL n) fun ds=>match ds.getLast? with
  | some d=>bnd (putL n ds.dropLast) fun _=>ret d
  | none=>bad
 | _=>bad
noncomputable def whileN (t:CT) (b:CS):Nat->CS
 | 0=>fun _=>bad
 | n + 1 => fun l => bnd (t l) fun c => if c = true then bnd (b l) fun f => match f with
   | .next l2=>whileN t b n l2
   | .cnt l2=>whileN t b n l2
   | .brk l2=>ret (.next l2)
   | .ret d=>ret (.ret d) else ret (.next l)
open Classical in
noncomputable def sWhile (t:CT) (b:CS):CS:=fun l s=>if h:∃ n,(∀ r,whileN t b n l s=r->r≠.bad) then whileN t b (choose h) l s else .bad
end MM
namespace MM
open PySem PySem.Spec PyProof.Rows L2
noncomputable abbrev St:=L2.St
noncomputable def FzL (K:PySem.W.Frag) (H:Hp) (a:Addr) (xs:List V):Prop:=
 (∃ o,H a=some (.frz o (.lst xs))) \/
  ∃ (o:Obj) (its:Array Value) (n:Nat),K.lookup a=some o/\o.cls=.type "list"/\o.dict=none/\o.data=.seq its n/\its.size<=sizeLine/\Vals xs its.toList
theorem FzL.seq {K:PySem.W.Frag}{H:Hp}{a:Addr}{xs:List V} (h:FzL K H a xs):SqL K H a xs:=by
 rcases h with ⟨o,h⟩ | h
 ·exact .inl (.inr ⟨o,h⟩)
 ·exact .inr h
noncomputable def kO:HO->Nat
 | .lst _=>0
 | .dK _=>1
 | .ext _=>2
 | _=>3
noncomputable abbrev NK:=List KI
noncomputable def nH (k:NK):Int:=nestHash k
noncomputable def nEnt (x:NK × Addr × Value):DictEntry:=⟨nH x.1,.ref x.2.1,x.2.2⟩
noncomputable def NOk (a:Addr) (es:List (NK × Addr × V)) (h:Heap):Prop:=es.length<=sizeLine/\(a == sysModules)=false/\∃ xs:List (NK × Addr × Value),Paired (fun (p:NK × Addr × V) (q:NK × Addr × Value)=>p.1=q.1/\p.2.1=q.2.1/\RelV p.2.2 q.2.2) es xs /\
 ∃ o es' ep,h.get? a=some o/\o.ExactDict/\o.data=.dict es' ep/\es'.toList=xs.map nEnt/\(xs.map (·.1)).Nodup/\ep=xs.length
noncomputable def nstO (a:Addr) (es:List (NK × Addr × V)):HO:=.ext (NOk a es)
noncomputable def rowD (r:List Int):D:=.tup (r.map .int)
noncomputable def itD:KI->D
 | .inl i=>.int i
 | .inr r=>rowD r
noncomputable def stD (k:NK):D:=.tup (k.map itD)
noncomputable def keyD:Key->D
 | .inl i=>.int i
 | .inr x=>.str x
noncomputable def ctxOk (x:Str) (vs:Array Value):Prop:=x=Str.ofString "NoText"\/vs[2]?=some Value.none
mutual
inductive Rep (K:PySem.W.Frag) (ρ:List Addr) (H:Hp):V->D->Prop
 | non:Rep K ρ H .non .non
 | bl (b:Bool):Rep K ρ H (.bl b) (.bl b)
 | int (i:Int):Rep K ρ H (.int i) (.int i)
 | str (x:Str):Rep K ρ H (.str x) (.str x)
 | tup {a:Addr}{vs:List V}{ds:List D} (h:SqT K H a vs) (r:Reps K ρ H vs ds):Rep K ρ H (.ref a) (.tup ds)
 | lit {a:Addr}{vs:List V}{ds:List D} (h:FzL K H a vs) (r:Reps K ρ H vs ds):Rep K ρ H (.ref a) (.lit ds)
 | ref {a:Addr}{n:Nat} (k:∃ o,H a=some o/\kO o=0) (h:ρ[n]?=some a):Rep K ρ H (.ref a) (.ref n)
 | dic {a:Addr}{n:Nat} (k:∃ o,H a=some o/\(kO o=1\/kO o=2)) (h:ρ[n]?=some a):Rep K ρ H (.ref a) (.dic n)
 | exn0 {a C:Addr}{x:Str} (g:PySem.W.nsIn K mainGlobals x=some (some (.ref C))) (h:∃ o,H a=some (.frz o (.own a))/\o.cls=.ref C):Rep K ρ H (.ref a) (.exn x [])
 | exn {a C dx:Addr}{x f:Str}{v:V}{d:D} (g:PySem.W.nsIn K mainGlobals x=some (some (.ref C))) (h:∃ o,H a=some (.frz o (.own a))/\o.cls=.ref C/\o.dict=some dx/\∃ vs,o.data=.fields vs/\ctxOk x vs) (h2:H dx=some (.xd [(f,v)])) (r:Rep K ρ H v d):Rep K ρ H (.ref a) (.exn x [.str f,d])
inductive Reps (K:PySem.W.Frag) (ρ:List Addr) (H:Hp):List V->List D->Prop
 | nil:Reps K ρ H [] []
 | cons {v:V}{d:D}{vs:List V}{ds:List D} (r:Rep K ρ H v d) (t:Reps K ρ H vs ds):Reps K ρ H (v::vs) (d::ds)
end
noncomputable def ObR (K:PySem.W.Frag) (ρ:List Addr) (H:Hp) (a:Addr):MO->Prop
 | .lst ds=>∃ vs,H a=some (.lst vs)/\Reps K ρ H vs ds
 | .dct false kvs=>∃ es,H a=some (.dK es)/\Paired (fun (p:Key × V) (q:D × D)=>keyD p.1=q.1/\Rep K ρ H p.2 q.2) es kvs
 | .dct true kvs=>∃ es,H a=some (nstO a es)/\Paired (fun (p:NK × Addr × V) (q:D × D)=>stD p.1=q.1/\Rep K ρ H (.ref p.2.1) q.1/\Rep K ρ H p.2.2 q.2) es kvs
structure SR (K:PySem.W.Frag) (ρ:List Addr) (H:Hp) (st:Sto):Prop where
 len:ρ.length=st.length
 nd:ρ.Nodup
 ob:∀ (n:Nat) (a:Addr) (o:MO),ρ[n]?=some a->st[n]?=some o->ObR K ρ H a o
noncomputable def LR (K:PySem.W.Frag) (ρ:List Addr) (H:Hp) (σ:St) (l:Loc):Prop:=
 σ.length=l.length/\∀ (i:Nat) (d:D),l[i]?=some (some d)->∃ v,σ[i]?=some (some v)/\Rep K ρ H v d
structure Ex (ρ:List Addr) (H:Hp) (ρ':List Addr) (H':Hp):Prop where
 pre:∃ τ,ρ'=ρ++τ/\∀ a∈τ,H a=none
 fix:∀ a o,kO o=3->H a=some o->H' a=some o
 oth:∀ a o,a∉ρ->H a=some o->H' a=some o
 knd:∀ a o,H a=some o->∃ o',H' a=some o'/\kO o'=kO o
structure Up (ρ:List Addr) (H:Hp) (ρ':List Addr) (H':Hp):Prop where
 pre:∃ τ,ρ'=ρ++τ
 fix:∀ a o,kO o=3->H a=some o->H' a=some o
 knd:∀ a o,H a=some o->∃ o',H' a=some o'/\kO o'=kO o
section
variable {K:PySem.W.Frag}{ρ ρ1 ρ2:List Addr}{H H1 H2:Hp}{st st1:Sto}{v:V}{d:D}{vs:List V}{ds:List D}{a:Addr}
theorem Ex.lst (x:Ex ρ H ρ1 H1) (a:Addr) (xs:List V) (na:a∉ρ) (h:H a=some (.lst xs)):H1 a=some (.lst xs):=x.oth a _ na h
theorem Ex.trk (x:Ex ρ H ρ1 H1) (a:Addr) (o:HO) (h:H a=some o):H1 a≠none:=by
 obtain⟨o',e,_⟩:=x.knd a o h
 rw[e];exact fun z=>nomatch z
theorem Ex.up (x:Ex ρ H ρ1 H1):Up ρ H ρ1 H1:=⟨let ⟨τ,e,_⟩:=x.pre;⟨τ,e⟩,x.fix,x.knd⟩
theorem Up.grow {τ:List Addr}:Up ρ H (ρ++τ) H:=⟨⟨τ,rfl⟩,fun _ _ _ e=>e,fun _ o e=>⟨o,e,rfl⟩⟩
theorem Ex.refl:Ex ρ H ρ H:=⟨⟨[],by simp,by simp⟩,fun _ _ _ e=>e,fun _ _ _ e=>e,fun _ o e=>⟨o,e,rfl⟩⟩
theorem Ex.trans (x:Ex ρ H ρ1 H1) (y:Ex ρ1 H1 ρ2 H2):Ex ρ H ρ2 H2:=by
 obtain⟨τ1,rfl,f1⟩:=x.pre
 obtain⟨τ2,rfl,f2⟩:=y.pre
 refine⟨⟨τ1++τ2,by simp,fun a ha=>?_⟩,fun a o no e=>y.fix a o no (x.fix a o no e),fun a o na e=>?_,fun a o e=>?_⟩
 ·rcases List.mem_append.mp ha with ha | ha
  ·exact f1 a ha
  ·cases q:H a with
   | none=>rfl
   | some o=>exact absurd (f2 a ha) (x.trk a o q)
 ·refine y.oth a o (fun z=>?_) (x.oth a o na e)
  rcases List.mem_append.mp z with z | z
  ·exact na z
  ·rw[f1 a z]at e;cases e
 ·obtain⟨o1,e1,k1⟩:=x.knd a o e
  obtain⟨o2,e2,k2⟩:=y.knd a o1 e1
  exact⟨o2,e2,k2.trans k1⟩
theorem Ex.new {o:HO} (h:H a=none):Ex ρ H ρ (upd H a o):=
 ⟨⟨[],by simp,by simp⟩,fun b u _ e=>by rw[Qaj (Qal e h)];exact e,fun b u _ e=>by rw[Qaj (Qal e h)];exact e,
  fun b u e=>⟨u,by rw[Qaj (Qal e h)];exact e,rfl⟩⟩
theorem Ex.newO {o:HO} (h:H a=none):Ex ρ H (ρ++[a]) (upd H a o):=
 ⟨⟨[a],rfl,fun b hb=>by rw[List.mem_singleton]at hb;rw[hb];exact h⟩,(Ex.new (ρ:=ρ) h).fix,(Ex.new (ρ:=ρ) h).oth,(Ex.new (ρ:=ρ) h).knd⟩
theorem Ex.newL {vs:List V} (h:H a=none):Ex ρ H (ρ++[a]) (upd H a (.lst vs)):=Ex.newO h
theorem SqT.mono (x:Up ρ H ρ1 H1) (h:SqT K H a vs):SqT K H1 a vs:=by
 rcases h with h | h
 ·rcases h with h | ⟨o,h⟩
  ·exact .inl (.inl (x.fix a _ rfl h))
  ·exact .inl (.inr ⟨o,x.fix a _ rfl h⟩)
 ·exact .inr h
theorem FzL.mono (x:Up ρ H ρ1 H1) (h:FzL K H a vs):FzL K H1 a vs:=by
 rcases h with ⟨o,h⟩ | h
 ·exact .inl ⟨o,x.fix a _ rfl h⟩
 ·exact .inr h
theorem Qdq {α:Type}{l τ:List α}{n:Nat}{a:α} (h:l[n]?=some a):(l++τ)[n]?=some a:=by
 rw[List.getElem?_append_left (List.getElem?_eq_some_iff.mp h).1];exact h
mutual
theorem Rep.up (x:Up ρ H ρ1 H1):∀ {v:V}{d:D},Rep K ρ H v d->Rep K ρ1 H1 v d
 | _,_,.non=>.non
 | _,_,.bl b=>.bl b
 | _,_,.int i=>.int i
 | _,_,.str y=>.str y
 | _,_,.tup h r=>.tup (SqT.mono x h) (Reps.up x r)
 | _,_,.lit h r=>.lit (FzL.mono x h) (Reps.up x r)
 | _,_,.ref ⟨o,ho,hk⟩ h=>by
  obtain⟨τ,e⟩:=x.pre
  obtain⟨o',ho',hk'⟩:=x.knd _ o ho
  exact .ref ⟨o',ho',hk'.trans hk⟩ (by rw[e];exact Qdq h)
 | _,_,.dic ⟨o,ho,hk⟩ h=>by
  obtain⟨τ,e⟩:=x.pre
  obtain⟨o',ho',hk'⟩:=x.knd _ o ho
  exact .dic ⟨o',ho',by rw[hk'];exact hk⟩ (by rw[e];exact Qdq h)
 | _,_,.exn0 g ⟨o,ho,hc⟩=>.exn0 g ⟨o,x.fix _ _ rfl ho,hc⟩
 | _,_,.exn g ⟨o,ho,hc⟩ h2 r=>.exn g ⟨o,x.fix _ _ rfl ho,hc⟩ (x.fix _ _ rfl h2) (Rep.up x r)
theorem Reps.up (x:Up ρ H ρ1 H1):∀ {vs:List V}{ds:List D},Reps K ρ H vs ds->Reps K ρ1 H1 vs ds
 | _,_,.nil=>.nil
 | _,_,.cons r t=>.cons (Rep.up x r) (Reps.up x t)
end
theorem Rep.mono (r:Rep K ρ H v d) (x:Ex ρ H ρ1 H1):Rep K ρ1 H1 v d:=r.up x.up
theorem Reps.mono (r:Reps K ρ H vs ds) (x:Ex ρ H ρ1 H1):Reps K ρ1 H1 vs ds:=r.up x.up
theorem Reps.length:∀ {vs:List V}{ds:List D},Reps K ρ H vs ds->vs.length=ds.length
 | _,_,.nil=>rfl
 | _,_,.cons _ t=>by simp[Reps.length t]
theorem Reps.get:∀ {vs:List V}{ds:List D}{i:Nat}{d:D},Reps K ρ H vs ds->ds[i]?=some d->∃ v,vs[i]?=some v/\Rep K ρ H v d
 | _,_,_,_,.nil,e=>by simp at e
 | _,_,0,_,.cons r _,e=>by simp at e;subst e;exact⟨_,rfl,r⟩
 | _,_,i + 1,_,.cons _ t,e=>by
  obtain⟨v,h1,h2⟩:=Reps.get (i:=i) t (by simpa using e)
  exact⟨v,by simpa using h1,h2⟩
theorem Reps.app:∀ {vs ws:List V}{ds es:List D},Reps K ρ H vs ds->Reps K ρ H ws es->Reps K ρ H (vs++ws) (ds++es)
 | _,_,_,_,.nil,s=>s
 | _,_,_,_,.cons r t,s=>.cons r (Reps.app t s)
theorem Reps.set:∀ {vs:List V}{ds:List D}{v:V}{d:D} (i:Nat),Reps K ρ H vs ds->Rep K ρ H v d->Reps K ρ H (vs.set i v) (ds.set i d)
 | _,_,_,_,_,.nil,_=>.nil
 | _,_,_,_,0,.cons _ t,r=>.cons r t
 | _,_,_,_,i + 1,.cons q t,r=>.cons q (Reps.set i t r)
theorem Reps.take:∀ {vs:List V}{ds:List D} (n:Nat),Reps K ρ H vs ds->Reps K ρ H (vs.take n) (ds.take n)
 | _,_,0,_=>.nil
 | _,_,_ + 1,.nil=>.nil
 | _,_,n + 1,.cons r t=>.cons r (Reps.take n t)
theorem Reps.drop:∀ {vs:List V}{ds:List D} (n:Nat),Reps K ρ H vs ds->Reps K ρ H (vs.drop n) (ds.drop n)
 | _,_,0,r=>r
 | _,_,_ + 1,.nil=>.nil
 | _,_,n + 1,.cons _ t=>Reps.drop n t
theorem LR.mono {σ:St}{l:Loc} (x:Ex ρ H ρ1 H1) (h:LR K ρ H σ l):LR K ρ1 H1 σ l:=
 ⟨h.1,fun i d e=>let ⟨v,e1,r⟩:=h.2 i d e;⟨v,e1,r.mono x⟩⟩
theorem SR.at (s:SR K ρ H st) {n:Nat}{o:MO} (e:st[n]?=some o):∃ a,ρ[n]?=some a/\ObR K ρ H a o:=by
 have hl:n < ρ.length:=by rw[s.len];exact (List.getElem?_eq_some_iff.mp e).1
 have q:ρ[n]?=some ρ[n]:=List.getElem?_eq_getElem hl
 exact⟨_,q,s.ob n _ o q e⟩
theorem SR.seq (s:SR K ρ H st) {n:Nat} (e:st[n]?=some (.lst ds)):∃ a vs,ρ[n]?=some a/\H a=some (.lst vs)/\Reps K ρ H vs ds:=by
 obtain⟨a,h,vs,q,r⟩:=s.at e
 exact⟨a,vs,h,q,r⟩
theorem ObR.ex {o:MO} (h:ObR K ρ H a o):∃ u,H a=some u:=by
 cases o with
 | lst ds=>obtain⟨vs,q,_⟩:=h;exact⟨_,q⟩
 | dct b kvs=>cases b<;>(obtain⟨vs,q,_⟩:=h;exact⟨_,q⟩)
theorem SR.fresh (s:SR K ρ H st) (h:H a=none):a∉ρ:=fun z=>by
 obtain⟨n,hn⟩:=List.getElem?_of_mem z
 have hl:n < st.length:=by rw[<- s.len];exact (List.getElem?_eq_some_iff.mp hn).1
 obtain⟨u,q⟩:=ObR.ex (s.ob n a _ hn (List.getElem?_eq_getElem hl))
 rw[h]at q;cases q
theorem Qdr {n:Nat}{xs:List D}{s':Sto} (h:getL n st=.ok xs s'):s'=st/\st[n]?=some (.lst xs):=by
 unfold getL at h
 cases e:st[n]? with
 | none=>rw[e]at h;cases h
 | some o=>
  rw[e]at h
  cases o with
  | lst ds=>cases h;exact⟨rfl,rfl⟩
  | dct _ _=>cases h
theorem Paired.mapS {α β:Type}{F G:α->β->Prop}:∀ {l₁:List α}{l₂:List β},Paired F l₁ l₂->(∀ a b,F a b->G a b)->Paired G l₁ l₂
 | _,_,.nil,_=>.nil
 | _,_,.cons r t,f=>.cons (f _ _ r) (Paired.mapS t f)
theorem ObR.mono {o:MO} (x:Up ρ H ρ1 H1) (h:ObR K ρ H a o) (hk:∀ u,H a=some u->H1 a=some u):ObR K ρ1 H1 a o:=by
 cases o with
 | lst ds=>
  obtain⟨vs,q,r⟩:=h
  exact⟨vs,hk _ q,r.up x⟩
 | dct b kvs=>
  cases b with
  | false=>
   obtain⟨es,q,r⟩:=h
   exact⟨es,hk _ q,Paired.mapS r fun p q z=>⟨z.1,z.2.up x⟩⟩
  | true=>
   obtain⟨es,q,r⟩:=h
   exact⟨es,hk _ q,Paired.mapS r fun p q z=>⟨z.1,z.2.1.up x,z.2.2.up x⟩⟩
theorem SR.new {o:HO} (s:SR K ρ H st) (h:H a=none):SR K ρ (upd H a o) st:=
 ⟨s.len,s.nd,fun n b ob e1 e2=>ObR.mono (o:=ob) (Ex.new (ρ:=ρ) h).up (s.ob n b ob e1 e2) fun vs q=>by rw[Qaj (Qal q h)];exact q⟩
theorem SR.keepO {o':MO} (s:SR K ρ H st) (na:a∉ρ) (r:ObR K ρ H a o'):SR K (ρ++[a]) H (st++[o']):=by
 have hl:=s.len
 have old:∀ (n:Nat) (b:Addr),(ρ++[a])[n]?=some b->(n < ρ.length/\ρ[n]?=some b)\/(n=ρ.length/\b=a):=fun n b e=>by
  by_cases hn:n < ρ.length
  ·rw[List.getElem?_append_left hn]at e;exact .inl ⟨hn,e⟩
  ·rw[List.getElem?_append_right (by ac_nf)]at e
   have hz:n - ρ.length=0:=by
    cases q:n - ρ.length with
    | zero=>rfl
    | succ k=>rw[q]at e;simp at e
   rw[hz]at e
   simp at e
   exact .inr ⟨by ac_nf,e.symm⟩
 refine⟨by simp[hl],List.nodup_append.mpr ⟨s.nd,by simp,fun x hx y hy=>?_⟩,fun n b o e1 e2=>?_⟩
 ·rw[List.mem_singleton]at hy
  subst hy
  exact fun z=>na (z ▸ hx)
 ·rcases old n b e1 with ⟨hn,f1⟩ | ⟨hn,f1⟩
  ·rw[List.getElem?_append_left (by ac_nf)]at e2
   exact ObR.mono (o:=o) Up.grow (s.ob n b o f1 e2) fun _ q=>q
  ·subst f1
   have:o=o':=by
    rw[hn,hl,List.getElem?_append_right (Nat.le_refl _)]at e2
    simp at e2;exact e2.symm
   subst this
   exact ObR.mono (o:=o) Up.grow r fun _ q=>q
theorem SR.keep (s:SR K ρ H st) (h:H a=some (.lst vs)) (na:a∉ρ) (r:Reps K ρ H vs ds):SR K (ρ++[a]) H (st++[.lst ds]):=s.keepO na ⟨vs,h,r⟩
theorem SR.putO (s : SR K ρ H st) {n : Nat} {o' : MO} {u u' : HO} (hl : n < st.length) (ha : ρ[n]? = some a) (hu : H a = some u) (k3 : kO u ≠ 3) (hk : kO u' = kO u) (r : ObR K ρ (upd H a u') a o') :
  SR K ρ (upd H a u') (st.set n o')/\Ex ρ H ρ (upd H a u'):=by
 have x:Ex ρ H ρ (upd H a u'):=by
  refine⟨⟨[],by simp,by simp⟩,fun b o no q=>?_,fun b xs nb q=>?_,fun b o q=>?_⟩
  ·have:b≠a:=fun z=>by subst z;rw[hu]at q;cases q;exact k3 no
   rw[Qaj this];exact q
  ·have:b≠a:=fun z=>by subst z;exact nb (List.mem_of_getElem? ha)
   rw[Qaj this];exact q
  ·by_cases z:b=a
   ·subst z;rw[hu]at q;cases q;exact⟨u',Qai,hk⟩
   ·exact⟨o,by rw[Qaj z];exact q,rfl⟩
 refine⟨⟨by simp[s.len],s.nd,fun m b o e1 e2=>?_⟩,x⟩
 by_cases z:m=n
 ·subst z
  rw[ha]at e1;cases e1
  rw[List.getElem?_set_self hl]at e2;cases e2
  exact r
 ·rw[List.getElem?_set_ne (Ne.symm z)]at e2
  refine ObR.mono (o:=o) x.up (s.ob m b o e1 e2) fun us q=>?_
  have:b≠a:=fun w=>by
   subst w
   exact z ((List.getElem?_inj (List.getElem?_eq_some_iff.mp e1).1 s.nd).mp (e1.trans ha.symm))
  rw[Qaj this];exact q
theorem SR.put (s : SR K ρ H st) {n : Nat} {ws : List V} (hl : n < st.length) (ha : ρ[n]? = some a) (hw : H a = some (.lst ws)) (r : Reps K ρ H vs ds) :
  SR K ρ (upd H a (.lst vs)) (st.set n (.lst ds))/\Ex ρ H ρ (upd H a (.lst vs)):=by
 have u:Up ρ H ρ (upd H a (.lst vs)):=by
  refine⟨⟨[],by simp⟩,fun b o no q=>?_,fun b o q=>?_⟩
  ·have:b≠a:=fun z=>by subst z;rw[hw]at q;cases q;exact nomatch no
   rw[Qaj this];exact q
  ·by_cases z:b=a
   ·subst z;rw[hw]at q;cases q;exact⟨_,Qai,rfl⟩
   ·exact⟨o,by rw[Qaj z];exact q,rfl⟩
 exact s.putO hl ha hw (by show (0:Nat)≠3;decide) rfl ⟨vs,Qai,r.up u⟩
theorem Qds (k:∃ o,H a=some o/\kO o=0):∃ vs,H a=some (.lst vs):=by
 obtain⟨o,e,hk⟩:=k
 cases o with
 | lst vs=>exact⟨vs,e⟩
 | _=>exact nomatch hk
noncomputable def Post {α:Type} (K:PySem.W.Frag) (ρ:List Addr) (H:Hp) (r:Rs α) (R:α->Sto->List Addr->Hp->Prop):Prop:=match r with
 | .ok a st=>∀ ρ' H',Ex ρ H ρ' H'->SR K ρ' H' st->R a st ρ' H'
 | _=>False
theorem Post.left {α:Type}{r:Rs α}{R:α->Sto->List Addr->Hp->Prop} (x:Ex ρ H ρ1 H1) (h:Post K ρ H r R):Post K ρ1 H1 r R:=by
 cases r with
 | ok a st=>exact fun ρ' H' y s=>h ρ' H' (x.trans y) s
 | exc _ _=>exact h
 | bad=>exact h
theorem Post.imp {α:Type}{r:Rs α}{R R':α->Sto->List Addr->Hp->Prop} (h:Post K ρ H r R) (f:∀ a st ρ' H',Ex ρ H ρ' H'->SR K ρ' H' st->R a st ρ' H'->R' a st ρ' H'):Post K ρ H r R':=by
 cases r with
 | ok a st=>exact fun ρ' H' y s=>f a st ρ' H' y s (h ρ' H' y s)
 | exc _ _=>exact h
 | bad=>exact h
theorem Post.bnd {α β:Type}{m:M α}{f:α->M β}{R:β->Sto->List Addr->Hp->Prop} (h:Post K ρ H (bnd m f st) R):Post K ρ H (m st) fun a st' ρ' H'=>Post K ρ' H' (f a st') R:=by
 unfold MM.bnd at h
 cases e:m st with
 | ok a s'=>
  rw[e]at h
  exact fun ρ' H' y s=>h.left y
 | exc _ _=>rw[e]at h;exact h
 | bad=>rw[e]at h;exact h
theorem Post.ret {α:Type}{a:α}{R:α->Sto->List Addr->Hp->Prop} (h:Post K ρ H (MM.ret a st) R) (s:SR K ρ H st):R a st ρ H:=h ρ H Ex.refl s
theorem Post.chk {α:Type}{c:Prop} [Decidable c] {m:M α}{R:α->Sto->List Addr->Hp->Prop} (h:Post K ρ H (MM.chk c m st) R):c/\Post K ρ H (m st) R:=by
 unfold MM.chk at h
 by_cases hc:c
 ·rw[if_pos hc]at h;exact⟨hc,h⟩
 ·rw[if_neg hc]at h;exact h.elim
theorem Post.getL {n:Nat}{R:List D->Sto->List Addr->Hp->Prop} (h:Post K ρ H (MM.getL n st) R) (s:SR K ρ H st):∃ xs,st[n]?=some (.lst xs)/\R xs st ρ H:=by
 cases e:MM.getL n st with
 | ok xs s'=>
  obtain⟨rfl,q⟩:=Qdr e
  rw[e]at h
  exact⟨xs,q,h ρ H Ex.refl s⟩
 | exc _ _=>rw[e]at h;exact h.elim
 | bad=>rw[e]at h;exact h.elim
noncomputable def tOf (K:PySem.W.Frag) (f:CE):TE:=fun σ H Q=>∃ ρ l st,LR K ρ H σ l/\SR K ρ H st/\Post K ρ H (f l st) fun d _ ρ' H'=>∀ v,Rep K ρ' H' v d->Q v H'
noncomputable def ttOf (K:PySem.W.Frag) (f:CT):TT:=fun σ H Q=>∃ ρ l st,LR K ρ H σ l/\SR K ρ H st/\Post K ρ H (f l st) fun b _ _ H'=>Q b H'
noncomputable def taOf (K:PySem.W.Frag) (f:CA):TA:=fun σ H Q=>∃ ρ l st,LR K ρ H σ l/\SR K ρ H st/\Post K ρ H (f l st) fun ds _ ρ' H'=>∀ vs,Reps K ρ' H' vs ds->Q vs H'
noncomputable def tlOf (K:PySem.W.Frag) (f:CA):TE:=fun σ H Q=>∃ ρ l st,LR K ρ H σ l/\SR K ρ H st/\Post K ρ H (f l st) fun ds _ ρ' H'=>∀ a vs,H a=none->a∉ρ'->H' a=some (.lst vs)->Reps K ρ' H' vs ds->Q (.ref a) H'
noncomputable def tsOf (K:PySem.W.Frag) (c:CS):TS:=fun G σ H=>∃ ρ l st,LR K ρ H σ l/\SR K ρ H st/\Post K ρ H (c l st) fun f _ ρ' H'=>match f with
 | .next l'=>∀ σ',LR K ρ' H' σ' l'->G.nx σ' H'
 | .ret d=>∀ v,Rep K ρ' H' v d->G.rt v H'
 | .brk l'=>∀ σ',LR K ρ' H' σ' l'->G.bk σ' H'
 | .cnt l'=>∀ σ',LR K ρ' H' σ' l'->G.ct σ' H'
noncomputable def tgOf (K:PySem.W.Frag) (g:CG):TG:=fun v σ H Q=>∃ ρ l st d,LR K ρ H σ l/\SR K ρ H st/\Rep K ρ H v d/\Post K ρ H (g d l st) fun l' _ ρ' H'=>∀ σ',LR K ρ' H' σ' l'->Q σ' H'
noncomputable def tgsOf (K:PySem.W.Frag) (g:List D->Loc->M Loc):TGs:=fun vs σ H Q=>∃ ρ l st ds,LR K ρ H σ l/\SR K ρ H st/\Reps K ρ H vs ds/\Post K ρ H (g ds l st) fun l' _ ρ' H'=>∀ σ',LR K ρ' H' σ' l'->Q σ' H'
noncomputable def rOf (K:PySem.W.Frag) (g:D->D->M D):R2:=fun x y H Q=>∃ ρ st d e,SR K ρ H st/\Rep K ρ H x d/\Rep K ρ H y e/\Post K ρ H (g d e st) fun r _ ρ' H'=>∀ v,Rep K ρ' H' v r->Q v H'
noncomputable def uOf (K:PySem.W.Frag) (g:D->M D):V->Hp->VK->Prop:=fun x H Q=>∃ ρ st d,SR K ρ H st/\Rep K ρ H x d/\Post K ρ H (g d st) fun r _ ρ' H'=>∀ v,Rep K ρ' H' v r->Q v H'
noncomputable def kOf (K:PySem.W.Frag) (g:List D->M D):List V->Hp->VK->Prop:=fun xs H Q=>∃ ρ st ds,SR K ρ H st/\Reps K ρ H xs ds/\Post K ρ H (g ds st) fun r _ ρ' H'=>∀ v,Rep K ρ' H' v r->Q v H'
noncomputable def spOf (K:PySem.W.Frag) (n:Nat) (g:List D->M D):Sp:=fun vs H Q _=>vs.length=n/\kOf K g vs H Q
end
section
variable {X:Cx}{a b c:Expr}{pos:Pos}
noncomputable abbrev SE (X:Cx) (e:Expr) (f:CE):Prop:=PE X e (tOf X.K f)
noncomputable abbrev SL (X:Cx) (e:Expr) (f:CA):Prop:=PE X e (tlOf X.K f)
noncomputable abbrev ST (X:Cx) (e:Expr) (f:CT):Prop:=PT X e (ttOf X.K f)
noncomputable abbrev SA (X:Cx) (es:List Expr) (f:CA):Prop:=PA X es (taOf X.K f)
noncomputable abbrev SS (X:Cx) (s:Stmt) (f:CS):Prop:=PS X s (tsOf X.K f)
noncomputable abbrev SSs (X:Cx) (s:List Stmt) (f:CS):Prop:=PSs X s (tsOf X.K f)
theorem _root_.L2.PE.of {e:Expr}{t t':TE} (h:PE X e t) (f:∀ σ H Q,t' σ H Q->t σ H Q):PE X e t':=fun pins s σ H Q I q=>h pins s σ H Q I (f σ H Q q)
theorem _root_.L2.PT.of {e:Expr}{t t':TT} (h:PT X e t) (f:∀ σ H Q,t' σ H Q->t σ H Q):PT X e t':=fun pins s σ H Q I q=>h pins s σ H Q I (f σ H Q q)
theorem _root_.L2.PA.of {e:List Expr}{t t':TA} (h:PA X e t) (f:∀ σ H Q,t' σ H Q->t σ H Q):PA X e t':=fun pos pins s σ H Q I q=>h pos pins s σ H Q I (f σ H Q q)
theorem _root_.L2.PS.of {e:Stmt}{t t':TS} (h:PS X e t) (f:∀ D σ H,t' D σ H->t D σ H):PS X e t':=fun pins s σ H D I q=>h pins s σ H D I (f D σ H q)
theorem _root_.L2.PSs.of {e:List Stmt}{t t':TS} (h:PSs X e t) (f:∀ D σ H,t' D σ H->t D σ H):PSs X e t':=fun pins s σ H D I q=>h pins s σ H D I (f D σ H q)
theorem _root_.L2.PG.of {e:Expr}{t t':TG} (h:PG X e t) (f:∀ v σ H Q,t' v σ H Q->t v σ H Q):PG X e t':=fun pins s σ H v u Q I r q=>h pins s σ H v u Q I r (f v σ H Q q)
theorem _root_.L2.PGs.of {e:List Expr}{t t':TGs} (h:PGs X e t) (f:∀ v σ H Q,t' v σ H Q->t v σ H Q):PGs X e t':=fun pins s σ H v u Q I r q=>h pins s σ H v u Q I r (f v σ H Q q)
theorem _root_.L2.OpR.of {f:Value->Value->Sem Value}{r r':R2} (h:OpR X f r) (g:∀ x y H Q,r' x y H Q->r x y H Q):OpR X f r':=fun pins s σ H x y v u Q I rx ry q=>h pins s σ H x y v u Q I rx ry (g x y H Q q)
theorem _root_.L2.CallR.of {f:Value}{r r':List V->Hp->VK->Prop} (h:CallR X f r) (g:∀ x H Q,r' x H Q->r x H Q):CallR X f r':=fun pins s σ H x u Q I rx q=>h pins s σ H x u Q I rx (g x H Q q)
variable {fa fb fc:CE}
theorem Qdt (i:Nat) {x:Str} (h:PE X (.Name x pos) (tVar i)):SE X (.Name x pos) (cVar i):=h.of fun σ H Q pq45=>by
 obtain⟨ρ,l,st,lr,sr,p⟩:=pq45
 unfold cVar at p
 cases e:l[i]? with
 | none=>rw[e]at p;exact p.elim
 | some o=>
  rw[e]at p
  cases o with
  | none=>exact p.elim
  | some d=>
   obtain⟨v,e1,r⟩:=lr.2 i d e
   exact⟨v,e1,p.ret sr v r⟩
theorem Qdu {i:Int}{j:Nat}:SE X (.Constant (.int i) j pos) (cCon (.int i)):=(Qat (i:=i) (j:=j) (pos:=pos)).of fun σ H Q pq46=>by obtain⟨ρ,l,st,lr,sr,p⟩:=pq46;exact p.ret sr _ (.int i)
theorem Qdv {i:Bool}{j:Nat}:SE X (.Constant (.bool i) j pos) (cCon (.bl i)):=(Qau (b:=i) (j:=j) (pos:=pos)).of fun σ H Q pq47=>by obtain⟨ρ,l,st,lr,sr,p⟩:=pq47;exact p.ret sr _ (.bl i)
theorem Qdw {j:Nat}:SE X (.Constant .none j pos) (cCon .non):=(Qav (j:=j) (pos:=pos)).of fun σ H Q pq48=>by obtain⟨ρ,l,st,lr,sr,p⟩:=pq48;exact p.ret sr _ .non
theorem Qdx {i:Str}{j:Nat}:SE X (.Constant (.str i) j pos) (cCon (.str i)):=(Qaw (x:=i) (j:=j) (pos:=pos)).of fun σ H Q pq49=>by obtain⟨ρ,l,st,lr,sr,p⟩:=pq49;exact p.ret sr _ (.str i)
theorem Qdy {g:D->D->M D}{r:R2} (hr:∀ x y H Q,rOf X.K g x y H Q->r x y H Q):∀ σ H Q,tOf X.K (c2 g fa fb) σ H Q->tOp r (tOf X.K fa) (tOf X.K fb) σ H Q:=fun σ H Q pq50=>
 by obtain⟨ρ,l,st,lr,sr,p⟩:=pq50;exact⟨ρ,l,st,lr,sr,p.bnd.imp fun d st1 ρ1 H1 x1 s1 p1 v rv=>⟨ρ1,l,st1,lr.mono x1,s1,p1.bnd.imp fun e st2 ρ2 H2 x2 s2 p2 u ru=>hr _ _ _ _ ⟨ρ2,st2,d,e,s2,rv.mono x2,ru,p2⟩⟩⟩
theorem Qdz {op:Operator}{g:D->D->M D} (ho:OpR X (binaryOp op) (rOf X.K g)) (ha:SE X a fa) (hb:SE X b fb):SE X (.BinOp a op b pos) (c2 g fa fb):=
 (Qa7 ho ha hb).of (Qdy fun _ _ _ _ h=>h)
theorem QdA {op:CmpOp}{g:D->D->M D} (ho:OpR X (compareOp op) (rOf X.K g)) (ha:SE X a fa) (hb:SE X b fb) (hm:behindInMarks op b=false):SE X (.Compare a [op] [b] pos) (c2 g fa fb):=
 (Qbq ho ha hb hm).of (Qdy fun _ _ _ _ h=>h)
end
theorem _root_.Exists.el {α β γ:Type}{A B C:α->β->γ->Prop}{G:Prop} (h:∃ a b c,A a b c/\B a b c/\C a b c) (k:∀ a b c,A a b c->B a b c->C a b c->G):G:=by
 obtain⟨ρ,l,st,a,b,c⟩:=h;exact k ρ l st a b c
theorem tOf.el {K:PySem.W.Frag}{f:CE}{σ:St}{H:Hp}{Q:VK}{C:Prop} (h:tOf K f σ H Q) (k:∀ ρ l st,LR K ρ H σ l->SR K ρ H st->Post K ρ H (f l st) (fun d _ ρ' H'=>∀ v,Rep K ρ' H' v d->Q v H')->C):C:=by
 obtain⟨ρ,l,st,a,b,c⟩:=h;exact k ρ l st a b c
theorem ttOf.el {K:PySem.W.Frag}{f:CT}{σ:St}{H:Hp}{Q:Bool->Hp->Prop}{C:Prop} (h:ttOf K f σ H Q) (k:∀ ρ l st,LR K ρ H σ l->SR K ρ H st->Post K ρ H (f l st) (fun b _ _ H'=>Q b H')->C):C:=by
 obtain⟨ρ,l,st,a,b,c⟩:=h;exact k ρ l st a b c
theorem tsOf.el {K:PySem.W.Frag}{c:CS}{σ:St}{H:Hp}{G:Ends}{C:Prop} (h:tsOf K c G σ H) (k:∀ ρ l st,LR K ρ H σ l->SR K ρ H st->Post K ρ H (c l st) (fun f _ ρ' H'=>match f with
 | .next l'=>∀ σ',LR K ρ' H' σ' l'->G.nx σ' H'
 | .ret d=>∀ v,Rep K ρ' H' v d->G.rt v H'
 | .brk l'=>∀ σ',LR K ρ' H' σ' l'->G.bk σ' H'
 | .cnt l'=>∀ σ',LR K ρ' H' σ' l'->G.ct σ' H')->C):C:=by
 obtain⟨ρ,l,st,a,b,c⟩:=h;exact k ρ l st a b c
end MM
namespace MM
open PySem PySem.Spec PyProof.Rows L2
theorem QdB:∀ (a b:List Int),eqKs (a.map .int) (b.map .int)=decide (a=b)
 | [],[]=>by simp[eqKs]
 | [],_::_=>by simp[eqKs]
 | _::_,[]=>by simp[eqKs]
 | x::xs,y::ys=>by
  rw[List.map_cons,List.map_cons]
  show (eqK (.int x) (.int y) && eqKs _ _)=_
  rw[QdB xs ys]
  show (decide (x=y) && _)=_
  simp[Bool.decide_and]
theorem QdC:∀ (a b:KI),eqK (itD a) (itD b)=decide (a=b)
 | .inl i,.inl j=>by
  show decide (i=j)=_
  by_cases z:i=j
  ·subst z;simp
  ·rw[decide_eq_false z,decide_eq_false (fun q=>z (by injection q))]
 | .inl i,.inr r=>by rw[decide_eq_false (by simp)];rfl
 | .inr r,.inl i=>by rw[decide_eq_false (by simp)];rfl
 | .inr r,.inr q=>by
  show eqKs (r.map .int) (q.map .int)=_
  rw[QdB]
  by_cases z:r=q
  ·subst z;simp
  ·rw[decide_eq_false z,decide_eq_false (fun q=>z (by injection q))]
theorem QdD:∀ (a b:List KI),eqKs (a.map itD) (b.map itD)=decide (a=b)
 | [],[]=>by simp[eqKs]
 | [],_::_=>by simp[eqKs]
 | _::_,[]=>by simp[eqKs]
 | x::xs,y::ys=>by
  rw[List.map_cons,List.map_cons]
  show (eqK (itD x) (itD y) && eqKs _ _)=_
  rw[QdD xs ys,QdC]
  simp[Bool.decide_and]
theorem QdE (a b:NK):eqK (stD a) (stD b)=decide (a=b):=QdD a b
theorem QdF (a b:Key):eqK (keyD a) (keyD b)=decide (a=b):=by
 cases a<;>cases b<;>simp[keyD,eqK]
theorem QdG:∀ {ds:List D}{r:List Int},intsK ds=some r->ds=r.map .int
 | [],r,h=>by simp[intsK]at h;subst h;rfl
 | d::ds,r,h=>by
  cases d with
  | int i=>
   unfold intsK at h
   cases e:intsK ds with
   | none=>rw[e]at h;cases h
   | some q=>
    rw[e]at h
    cases h
    rw[List.map_cons,QdG e]
  | _=>cases h
theorem QdH:∀ {ds:List D}{r:NK},rowsK ds=some r->ds=r.map itD
 | [],r,h=>by simp[rowsK]at h;subst h;rfl
 | d::ds,r,h=>by
  cases d with
  | tup xs=>
   unfold rowsK at h
   cases e:intsK xs with
   | none=>rw[e]at h;cases h
   | some q=>
    cases e2:rowsK ds with
    | none=>rw[e,e2]at h;cases h
    | some q2=>
     rw[e,e2]at h
     cases h
     rw[List.map_cons,<- QdH e2]
     show _=D.tup (q.map .int)::ds
     rw[<- QdG e]
  | int i=>
   unfold rowsK at h
   cases e2:rowsK ds with
   | none=>rw[e2]at h;cases h
   | some q2=>
    rw[e2]at h
    cases h
    rw[List.map_cons,<- QdH e2];rfl
  | _=>cases h
theorem QdI {d:D}{r:NK} (h:stK d=some r):d=stD r:=by
 cases d with
 | tup ds=>show D.tup ds=D.tup _;rw[QdH h]
 | _=>cases h
theorem QdJ {d:D} (h:kOk true d=true):∃ k,d=stD k:=by
 cases e:stK d with
 | none=>
  have:kOk true d=(stK d).isSome:=by cases d<;>rfl
  rw[this,e]at h;cases h
 | some k=>exact⟨k,QdI e⟩
theorem QdK {d:D} (h:kOk false d=true):∃ k,d=keyD k:=by
 cases d with
 | int i=>exact⟨.inl i,rfl⟩
 | str x=>exact⟨.inr x,rfl⟩
 | _=>cases h
section
variable {X:Cx}{K:PySem.W.Frag}{ρ:List Addr}{H:Hp}{st:Sto}{pins:List (Addr × Obj)}{σ:St}{s:Shared}{a b:Addr}
theorem QdL {k:Key}{v:V} (r:Rep K ρ H v (keyD k)):v=kV k:=by
 cases k with
 | inl i=>cases r;rfl
 | inr x=>cases r;rfl
noncomputable abbrev KR (K:PySem.W.Frag) (ρ:List Addr) (H:Hp):List (Key × V)->List (D × D)->Prop:=Paired fun (p:Key × V) (q:D × D)=>keyD p.1=q.1/\Rep K ρ H p.2 q.2
noncomputable def RO (K:PySem.W.Frag) (ρ:List Addr) (H:Hp):Option V->Option D->Prop
 | some v,some d=>Rep K ρ H v d
 | none,none=>True
 | _,_=>False
theorem RO.some_of {o:Option V}{d:D} (h:RO K ρ H o (some d)):∃ v,o=some v/\Rep K ρ H v d:=by
 cases o with
 | none=>exact h.elim
 | some v=>exact⟨v,rfl,h⟩
theorem RO.isSome_eq {o:Option V}{d:Option D} (h:RO K ρ H o d):o.isSome=d.isSome:=by
 cases o<;>cases d<;>first | rfl | exact h.elim
theorem KR.val {es:List (Key × V)}{kvs:List (D × D)} (r:KR K ρ H es kvs) (k:Key):RO K ρ H (valV es k) (lkK kvs (keyD k)):=by
 induction r with
 | nil=>exact True.intro
 | @cons p q ps qs h t ih=>
  obtain⟨h1,h2⟩:=h
  unfold lkK
  rw[List.find?_cons,<- h1,QdF]
  by_cases e:p.1=k
  ·rw[QcQ e,decide_eq_true e];exact h2
  ·rw[QcR e,decide_eq_false e];exact ih
theorem KR.any {es:List (Key × V)}{kvs:List (D × D)} (r:KR K ρ H es kvs) (k:Key):(es.any fun kv=>decide (kv.1=k))=kvs.any fun p=>eqK p.1 (keyD k):=by
 induction r with
 | nil=>rfl
 | @cons p q ps qs h t ih=>rw[List.any_cons,List.any_cons,ih,<- h.1,QdF]
theorem KR.put {es:List (Key × V)}{kvs:List (D × D)} (r:KR K ρ H es kvs) (k:Key) {v:V}{d:D} (rv:Rep K ρ H v d):KR K ρ H (L2.putK es k v) (ptK kvs (keyD k) d):=by
 unfold L2.putK ptK
 rw[r.any k]
 by_cases e:(kvs.any fun p=>eqK p.1 (keyD k))=true
 ·rw[if_pos e,if_pos e]
  clear e
  induction r with
  | nil=>exact .nil
  | @cons p q ps qs h t ih=>
   rw[List.map_cons,List.map_cons]
   refine .cons ?_ ih
   rw[<- h.1,QdF]
   by_cases e:p.1=k
   ·rw[if_pos e,if_pos (decide_eq_true e)];exact⟨rfl,rv⟩
   ·rw[if_neg e,if_neg (by rw[decide_eq_false e];exact Bool.false_ne_true)];exact h
 ·rw[if_neg e,if_neg e]
  exact Paired.snoc r ⟨rfl,rv⟩
theorem KR.up {ρ1:List Addr}{H1:Hp} (x:Up ρ H ρ1 H1) {es:List (Key × V)}{kvs:List (D × D)} (r:KR K ρ H es kvs):KR K ρ1 H1 es kvs:=Paired.mapS r fun _ _ z=>⟨z.1,z.2.up x⟩
theorem KR.length {es:List (Key × V)}{kvs:List (D × D)} (r:KR K ρ H es kvs):es.length=kvs.length:=Paired.length r
noncomputable abbrev NR (K:PySem.W.Frag) (ρ:List Addr) (H:Hp):List (NK × Addr × V)->List (D × D)->Prop:=Paired fun (p:NK × Addr × V) (q:D × D)=>stD p.1=q.1/\Rep K ρ H (.ref p.2.1) q.1/\Rep K ρ H p.2.2 q.2
noncomputable abbrev NX:List (NK × Addr × V)->List (NK × Addr × Value)->Prop:=Paired fun (p:NK × Addr × V) (q:NK × Addr × Value)=>p.1=q.1/\p.2.1=q.2.1/\RelV p.2.2 q.2.2
noncomputable abbrev nkd (X:Cx):HeapKind X.prog X.w NK:=nestKind X.prog X.w
theorem QdM {P:Program}{w:World}:∀ {r:List Int}{vs:List V}{us:List Value},Reps K ρ H vs (r.map .int)->Vals vs us->ItemsAre (intKind P w) r us
 | [],_,_,h,g=>by cases h;cases g;exact .nil
 | i::r,_,_,h,g=>by
  cases h with
  | cons h1 ht=>
   cases h1
   cases g with
   | cons g1 gt=>
    obtain⟨t,e⟩:=g1
    subst e
    exact .cons (by show Value.isInt i (Value.int i t)=true;simp[Value.isInt]) (QdM ht gt)
theorem QdN {r:List Int}{v:V}{u:Value} (I:Inv X pins σ H s) (h:Rep X.K ρ H v (rowD r)) (g:RelV v u):∃ b,u=.ref b/\IsTupleKey (intKind X.prog X.w) s.heap r b:=by
 cases h with
 | @tup b vs ds h q=>
  have e:u=Value.ref b:=g
  subst e
  obtain⟨its,rv,⟨o,h1,h2,n,h3⟩,_⟩:=I.tuple h
  exact⟨b,rfl,o,its.toArray,n,h1,h2,h3,by simpa using QdM q rv⟩
theorem QdO (I:Inv X pins σ H s):∀ {k:NK}{vs:List V}{us:List Value},Reps X.K ρ H vs (k.map itD)->Vals vs us->TIts X.prog X.w s.heap k us
 | [],_,_,h,g=>by cases h;cases g;exact .nil
 | r::k,_,_,h,g=>by
  cases h with
  | cons h1 ht=>
   cases g with
   | cons g1 gt=>
    refine .cons ?_ (QdO I ht gt)
    cases r with
    | inl i=>
     cases (show Rep X.K ρ H _ (.int i) from h1)
     obtain⟨t,e⟩:=g1
     subst e
     exact .one i t
    | inr r=>
     obtain⟨b,e,hb⟩:=QdN I h1 g1
     subst e
     exact .row hb
theorem QdP {k:NK}{v:V}{u:Value} (I:Inv X pins σ H s) (h:Rep X.K ρ H v (stD k)) (g:RelV v u):∃ b,v=.ref b/\u=.ref b/\(nkd X).is s.heap k b:=by
 cases h with
 | @tup b vs ds h q=>
  have e:u=Value.ref b:=g
  subst e
  obtain⟨its,rv,⟨o,h1,h2,n,h3⟩,_⟩:=I.tuple h
  exact⟨b,rfl,rfl,o,its.toArray,n,h1,h2,h3,by simpa using QdO I q rv⟩
theorem QdQ {es : List (NK × Addr × V)} {kvs : List (D × D)} (I : Inv X pins σ H s) (e : H a = some (nstO a es)) (r : NR X.K ρ H es kvs) :
  es.length<=sizeLine/\(a == sysModules)=false/\∃ xs,NX es xs/\s.heap.DictOfH (nkd X) a xs/\EpAt s.heap a xs.length:=by
 obtain⟨⟨z,y,xs,rx,o,es',ep,h1,h2,h3,h4,h5,h6⟩,w1,w2⟩:=(show ObjOk X.prog X.w H s.heap a (nstO a es) from I.hok a _ e)
 subst h6
 refine⟨z,y,xs,rx,⟨o,es',_,h1,h2,h3,h4,?_,h5⟩,⟨o,es',h1,h3⟩⟩
 clear h1 h2 h3 h4 h5 e z y w1 w2
 induction rx generalizing kvs with
 | nil=>intro x hx;exact nomatch hx
 | @cons p q ps qs h t ih=>
  cases r with
  | cons g gt=>
   intro x hx
   rcases List.mem_cons.mp hx with e | hx
   ·subst e
    obtain⟨b,e1,_,hb⟩:=QdP I (by rw[g.1];exact g.2.1) (show RelV (.ref p.2.1) (.ref p.2.1) from rfl)
    cases e1
    rw[<- h.1,<- h.2.1]
    exact hb
   ·exact ih gt x hx
theorem QdR {H' : Hp} {h' : Heap} {P : Program} {w : World} {es : List (NK × Addr × V)} {xs : List (NK × Addr × Value)} (z : es.length <= sizeLine) (y : (a == sysModules) = false) (r : NX es xs) (dd : h'.DictOfH (nestKind P w) a xs) (de : EpAt h' a xs.length) :
  ObjOk P w H' h' a (nstO a es):=by
 obtain⟨o,es',ep,h1,h2,h3,h4,_,h5⟩:=dd
 obtain⟨o2,es2,g1,g3⟩:=de
 rw[h1]at g1;cases g1
 rw[h3]at g3;cases g3
 refine⟨⟨z,y,xs,r,o,es',_,h1,h2,h3,h4,h5,rfl⟩,⟨o,h1⟩,?_⟩
 rintro g1 g2 ⟨z,y,xs,r,o,es',ep,h1,h2⟩ k
 exact⟨z,y,xs,r,o,es',ep,k o h1,h2⟩
noncomputable def valN (es:List (NK × Addr × V)) (k:NK):Option V:=(es.find? fun p=>decide (p.1=k)).map (·.2.2)
noncomputable def putN (es:List (NK × Addr × V)) (k:NK) (b:Addr) (v:V):List (NK × Addr × V):=if (es.any fun p=>decide (p.1=k))=true then es.map (fun p=>if p.1=k then (p.1,p.2.1,v) else p) else es++[(k,b,v)]
theorem NR.val {es:List (NK × Addr × V)}{kvs:List (D × D)} (r:NR K ρ H es kvs) (k:NK):RO K ρ H (valN es k) (lkK kvs (stD k)):=by
 induction r with
 | nil=>exact True.intro
 | @cons p q ps qs h t ih=>
  obtain⟨h1,_,h2⟩:=h
  unfold lkK valN
  rw[List.find?_cons,List.find?_cons,<- h1,QdE]
  by_cases e:p.1=k
  ·rw[decide_eq_true e];exact h2
  ·rw[decide_eq_false e];exact ih
theorem NX.val {es:List (NK × Addr × V)}{xs:List (NK × Addr × Value)} (r:NX es xs) (k:NK):RelO (valN es k) ((atKey xs k).map (·.2)):=by
 induction r with
 | nil=>exact True.intro
 | @cons p q ps qs h t ih=>
  obtain⟨h1,_,h2⟩:=h
  unfold atKey valN
  rw[List.find?_cons,List.find?_cons,<- h1]
  by_cases e:p.1=k
  ·rw[decide_eq_true e];exact h2
  ·rw[decide_eq_false e];exact ih
theorem NX.put {es:List (NK × Addr × V)}{xs:List (NK × Addr × Value)} (r:NX es xs) (k:NK) (b:Addr) {v:V}{u:Value} (rv:RelV v u):NX (putN es k b v) (storedH xs k b u):=by
 have e:(es.any fun p=>decide (p.1=k))=(atKey xs k).isSome:=by
  clear rv
  induction r with
  | nil=>rfl
  | @cons p q ps qs h t ih=>
   rw[List.any_cons,ih]
   unfold atKey
   rw[List.find?_cons,<- h.1]
   by_cases e:p.1=k
   ·rw[decide_eq_true e];rfl
   ·rw[decide_eq_false e];rfl
 unfold putN storedH
 rw[e]
 by_cases q:(atKey xs k).isSome=true
 ·rw[if_pos q,if_pos q]
  clear q e
  induction r with
  | nil=>exact .nil
  | @cons p q ps qs h t ih=>
   rw[List.map_cons,List.map_cons]
   refine .cons ?_ ih
   unfold putAt
   by_cases e:p.1=k
   ·rw[if_pos e,if_pos (h.1.symm.trans e)];exact⟨h.1,h.2.1,rv⟩
   ·rw[if_neg e,if_neg (fun z=>e (h.1.trans z))];exact h
 ·rw[if_neg q,if_neg q];exact Paired.snoc r ⟨rfl,rfl,rv⟩
theorem NR.put {es:List (NK × Addr × V)}{kvs:List (D × D)} (r:NR K ρ H es kvs) (k:NK) (b:Addr) {v:V}{d:D} (rk:Rep K ρ H (.ref b) (stD k)) (rv:Rep K ρ H v d):NR K ρ H (putN es k b v) (ptK kvs (stD k) d):=by
 have e:(es.any fun p=>decide (p.1=k))=kvs.any fun p=>eqK p.1 (stD k):=by
  clear rk rv
  induction r with
  | nil=>rfl
  | @cons p q ps qs h t ih=>rw[List.any_cons,List.any_cons,ih,<- h.1,QdE]
 unfold putN ptK
 rw[e]
 clear e
 by_cases e:(kvs.any fun p=>eqK p.1 (stD k))=true
 ·rw[if_pos e,if_pos e]
  clear e
  induction r with
  | nil=>exact .nil
  | @cons p q ps qs h t ih=>
   rw[List.map_cons,List.map_cons]
   refine .cons ?_ ih
   by_cases e:p.1=k
   ·have z:eqK q.1 (stD k)=true:=by rw[<- h.1,QdE];exact decide_eq_true e
    rw[if_pos e,if_pos z];exact⟨h.1,h.2.1,rv⟩
   ·have z:¬ eqK q.1 (stD k)=true:=by rw[<- h.1,QdE,decide_eq_false e];exact Bool.false_ne_true
    rw[if_neg e,if_neg z];exact h
 ·rw[if_neg e,if_neg e]
  exact Paired.snoc r ⟨rfl,rk,rv⟩
theorem NR.up {ρ1:List Addr}{H1:Hp} (x:Up ρ H ρ1 H1) {es:List (NK × Addr × V)}{kvs:List (D × D)} (r:NR K ρ H es kvs):NR K ρ1 H1 es kvs:=Paired.mapS r fun _ _ z=>⟨z.1,z.2.1.up x,z.2.2.up x⟩
theorem NR.length {es:List (NK × Addr × V)}{kvs:List (D × D)} (r:NR K ρ H es kvs):es.length=kvs.length:=Paired.length r
theorem QdS (es:List (NK × Addr × V)) (k:NK) (b:Addr) (v:V):(putN es k b v).length<=es.length + 1:=by
 unfold putN
 split
 ·rw[List.length_map];ac_nf
 ·rw[List.length_append,List.length_cons,List.length_nil];ac_nf
theorem QdT {n:Nat}{p:Bool × List (D × D)}{s':Sto} (h:getDc n st=.ok p s'):s'=st/\st[n]?=some (.dct p.1 p.2):=by
 unfold getDc at h
 cases e:st[n]? with
 | none=>rw[e]at h;cases h
 | some o=>
  rw[e]at h
  cases o with
  | lst ds=>cases h
  | dct b kvs=>cases h;exact⟨rfl,rfl⟩
theorem Post.getDc {n:Nat}{R:Bool × List (D × D)->Sto->List Addr->Hp->Prop} (h:Post K ρ H (MM.getDc n st) R) (s:SR K ρ H st):∃ b kvs,st[n]?=some (.dct b kvs)/\R (b,kvs) st ρ H:=by
 cases e:MM.getDc n st with
 | ok xs s'=>
  obtain⟨rfl,q⟩:=QdT e
  rw[e]at h
  exact⟨xs.1,xs.2,q,h ρ H Ex.refl s⟩
 | exc _ _=>rw[e]at h;exact h.elim
 | bad=>rw[e]at h;exact h.elim
theorem QdU {b : Bool} {kvs : List (D × D)} {k d : D} {y : V} {u : Value} {Q : Value -> Shared -> Prop} {E : Value -> Shared -> Prop} {A : Around} (hu : A.units + 2 < cLine) (I : Inv X pins σ H s) (g : ObR X.K ρ H a (.dct b kvs)) (rk : Rep X.K ρ H y k) (hk : kOk b k = true) (hl : lkK kvs k = some d) (ry : RelV y u)
  (h:∀ v w' s',Inv X pins σ H s'->Rep X.K ρ H v d->RelV v w'->Q w' s'):wpAny (model X.prog X.w) A (getItem (.ref a) u) Q E s:=by
 cases b with
 | false=>
  obtain⟨es,e,r⟩:=g
  obtain⟨k,rfl⟩:=QdK hk
  cases QdL rk
  have q:=KR.val r k
  rw[hl]at q
  obtain⟨v,e1,rv⟩:=q.some_of
  exact Qc2 (by ac_nf) I (by have:=DGet.k (k:=k) e;rw[e1]at this;exact this) ry fun w' s' I' rw'=>h v w' s' I' rv rw'
 | true=>
  obtain⟨es,e,r⟩:=g
  obtain⟨k,rfl⟩:=QdJ hk
  have q:=NR.val r k
  rw[hl]at q
  obtain⟨v,e1,rv⟩:=q.some_of
  obtain⟨_,hd,xs,rx,dd,de⟩:=QdQ I e r
  obtain⟨c,e2,e3,hc⟩:=QdP I rk ry
  subst e3
  obtain⟨w',hw,rw'⟩:=RelO.some_of (v:=v) (o:=(atKey xs k).map (·.2)) (by rw[<- e1];exact NX.val rx k)
  obtain⟨p,hp,hp2⟩:=Option.map_eq_some_iff.mp hw
  refine wpAny_getItem_heap (knd:=nkd X) (show A.in1.units + 1 < cLine from hu) hc dd hp ?_
  rw[hp2]
  exact h v w' _ (I.tok _) rv rw'
theorem QdV {b : Bool} {kvs : List (D × D)} {k : D} {y : V} {u : Value} {Q : Value -> Shared -> Prop} {E : Value -> Shared -> Prop} {A : Around} (hu : A.units + 2 < cLine) (I : Inv X pins σ H s) (g : ObR X.K ρ H a (.dct b kvs)) (rk : Rep X.K ρ H y k) (hk : kOk b k = true) (ry : RelV y u)
  (h:∀ s',Inv X pins σ H s'->Q (.bool (lkK kvs k).isSome) s'):wpAny (model X.prog X.w) A (compareOp .In u (.ref a)) Q E s:=by
 cases b with
 | false=>
  obtain⟨es,e,r⟩:=g
  obtain⟨k,rfl⟩:=QdK hk
  cases QdL rk
  rw[<- (KR.val r k).isSome_eq]at h
  exact d_in (by ac_nf) I (DGet.k (k:=k) e) ry h
 | true=>
  obtain⟨es,e,r⟩:=g
  obtain⟨k,rfl⟩:=QdJ hk
  rw[<- (NR.val r k).isSome_eq]at h
  obtain⟨_,hd,xs,rx,dd,de⟩:=QdQ I e r
  obtain⟨c,e2,e3,hc⟩:=QdP I rk ry
  subst e3
  refine wpAny_in_heap (knd:=nkd X) (show A.in1.units + 1 < cLine from hu) hc hd dd ?_
  have q:=(NX.val rx k).isSome_eq
  rw[Option.isSome_map]at q
  rw[<- q]
  exact h _ (I.tok _)
theorem QdW {b : Bool} {kvs : List (D × D)} {k : D} {y : V} {u : Value} {Q : Value -> Shared -> Prop} {E : Value -> Shared -> Prop} {A : Around} (hu : A.units + 2 < cLine) (I : Inv X pins σ H s) (g : ObR X.K ρ H a (.dct b kvs)) (rk : Rep X.K ρ H y k) (hk : kOk b k = true) (ry : RelV y u)
  (h:∀ s',Inv X pins σ H s'->Q (.bool (!(lkK kvs k).isSome)) s'):wpAny (model X.prog X.w) A (compareOp .NotIn u (.ref a)) Q E s:=by
 cases b with
 | false=>
  obtain⟨es,e,r⟩:=g
  obtain⟨k,rfl⟩:=QdK hk
  cases QdL rk
  rw[<- (KR.val r k).isSome_eq]at h
  exact Qc3 (by ac_nf) I (DGet.k (k:=k) e) ry h
 | true=>
  obtain⟨es,e,r⟩:=g
  obtain⟨k,rfl⟩:=QdJ hk
  rw[<- (NR.val r k).isSome_eq]at h
  obtain⟨_,hd,xs,rx,dd,de⟩:=QdQ I e r
  obtain⟨c,e2,e3,hc⟩:=QdP I rk ry
  subst e3
  refine wpAny_notIn_heap (knd:=nkd X) (show A.in1.units + 1 < cLine from hu) hc hd dd ?_
  have q:=(NX.val rx k).isSome_eq
  rw[Option.isSome_map]at q
  rw[<- q]
  exact h _ (I.tok _)
theorem QdX {n : Nat} {b : Bool} {kvs : List (D × D)} {k d : D} {y v : V} {u r' : Value} {Q : Unit -> Shared -> Prop} {E : Value -> Shared -> Prop} {A : Around} (hu : A.units + 2 < cLine) (I : Inv X pins σ H s) (sr : SR X.K ρ H st) (ha : ρ[n]? = some a) (hn : st[n]? = some (.dct b kvs))
  (rk:Rep X.K ρ H y k) (hk:kOk b k=true) (hl:kvs.length < sizeLine) (rv:Rep X.K ρ H v d) (ry:RelV y u) (rr:RelV v r')
  (h:∀ H' s',Inv X pins σ H' s'->SR X.K ρ H' (st.set n (.dct b (ptK kvs k d)))->Ex ρ H ρ H'->Q () s'):wpAny (model X.prog X.w) A (setItem (.ref a) u r') Q E s:=by
 have hlt:=(List.getElem?_eq_some_iff.mp hn).1
 have g:=sr.ob n a _ ha hn
 cases b with
 | false=>
  obtain⟨es,e,r⟩:=g
  obtain⟨k,rfl⟩:=QdK hk
  cases QdL rk
  have w:=sr.putO (o':=.dct false (ptK kvs (keyD k) d)) (u':=.dK (L2.putK es k v)) hlt ha e (by show (1:Nat)≠3;decide) rfl ⟨_,Qai,(KR.put r k rv).up ?_⟩
  ·exact Qc6 (by ac_nf) I (DPut.k (k:=k) e (by rw[KR.length r];exact hl)) ry rr fun s' I'=>h _ s' I' w.1 w.2
  ·refine⟨⟨[],by simp⟩,fun c o no q=>?_,fun c o q=>?_⟩
   ·rw[Qaj fun z=>by subst z;rw[e]at q;cases q;exact nomatch no];exact q
   ·by_cases z:c=a
    ·subst z;rw[e]at q;cases q;exact⟨_,Qai,rfl⟩
    ·exact⟨o,by rw[Qaj z];exact q,rfl⟩
 | true=>
  obtain⟨es,e,r⟩:=g
  obtain⟨k,rfl⟩:=QdJ hk
  obtain⟨_,hd,xs,rx,dd,de⟩:=QdQ I e r
  obtain⟨c,e2,e3,hc⟩:=QdP I rk ry
  subst e2 e3
  have w:=sr.putO (o':=.dct true (ptK kvs (stD k) d)) (u':=nstO a (putN es k c v)) hlt ha e (by show (2:Nat)≠3;decide) rfl ⟨_,Qai,(NR.put r k c rk rv).up ?_⟩
  ·have hz : xs.length <= sizeLine := by
     rw[<- Paired.length rx,NR.length r];ac_nf
   refine Qdp (knd:=nkd X) (show A.in1.units + 1 < cLine from hu) hc dd de hz fun h' dd' de' hs=>h _ _ ?_ w.1 w.2
   have he:∃ q,h'.get? a=some q:=let ⟨q,_,_,hq,_⟩:=dd';⟨q,hq⟩
   refine Qc4 I (by rw[e];exact True.intro) hs he (QdR ?_ hd (NX.put rx k c rr) dd' de')
   have:=QdS es k c v
   rw[NR.length r]at this
   ac_nf
  ·refine⟨⟨[],by simp⟩,fun c o no q=>?_,fun c o q=>?_⟩
   ·rw[Qaj fun z=>by subst z;rw[e]at q;cases q;exact nomatch no];exact q
   ·by_cases z:c=a
    ·subst z;rw[e]at q;cases q;exact⟨_,Qai,rfl⟩
    ·exact⟨o,by rw[Qaj z];exact q,rfl⟩
end
noncomputable abbrev NoE:Value->Shared->Prop:=fun _ _=>False
noncomputable def tests (ifs:List Expr) (env:Env):Sem Bool:=forIn ifs true fun c r=>if r=true then do let ok <- isTrue c env (eval c env);pure (ForInStep.yield ok) else pure (ForInStep.yield r)
section
variable {prog:Program}{w:World}{A:Around}{R:Result->Shared->Prop}{s:Shared}
theorem QdY {elt target iter : Expr} {ifs : List Expr} {scope : Scope} {pos : Pos} {it acc : Value} {env : Env} (I : Nat -> Shared -> Prop)
  (turn:∀ n s,I n s->wpAny (model prog w) A (pyNext it) (fun r s₁=>match r with
   | none=>R (.ok .next) s₁
   | some v => wpAny (model prog w) A (letOwnedTupleGo target it v) (fun _ s₁' => wpAny (model prog w) A (assign target env v) (fun _ s₂ =>
     wpAny (model prog w) A (tests ifs env) (fun ok s₃=>
      if ok=true then wpAny (model prog w) A (eval elt env) (fun x s₄=>
       wpAny (model prog w) A (call (.builtin "list.append") [acc,x]) (fun _ s₅=>∃ m,m < n/\I m s₅) NoE s₄) NoE s₃
      else ∃ m,m < n/\I m s₃) NoE s₂) NoE s₁') NoE s₁) NoE s)
  (n:Nat) (h:I n s):codeAny (model prog w) A (.compLoop (.ListComp elt [⟨target,iter,ifs,0⟩] scope pos) 0 it acc env) R s:=by
 refine codeAny_loop rfl I (fun n s hI=>?_) n h
 show wpAny _ A ((compTurn (.ListComp elt [⟨target,iter,ifs,0⟩] scope pos) 0 it acc env).onRaise (fun x=>do noteFrame x env;theTreesLotGoes x)) _ _ s
 refine wpAny_noted ?_
 rw[compTurn_list]
 refine wpAny_bind (wpAny_standAt (wpAny_bind (wpAny_mono (turn n s hI) (fun r s₁ h₁=>?_) fun _ _ h'=>h'.elim)))
 cases r with
 | none=>exact wpAny_pure h₁
 | some v=>
  refine wpAny_bind (wpAny_mono h₁ (fun _ s₁' h₁'=>?_) fun _ _ h'=>h'.elim)
  refine wpAny_bind (wpAny_mono h₁' (fun _ s₂ h₂=>wpAny_bind (wpAny_mono h₂ (fun ok s₃ h₃=>?_) fun _ _ h'=>h'.elim)) fun _ _ h'=>h'.elim)
  cases ok with
  | false=>exact wpAny_pure ⟨rfl,h₃⟩
  | true=>
   exact wpAny_bind (wpAny_bind (wpAny_mono h₃ (fun x s₄ h₄=>wpAny_bind (wpAny_mono h₄ (fun _ s₅ h₅=>wpAny_pure (wpAny_pure ⟨rfl,h₅⟩)) fun _ _ h'=>h'.elim)) fun _ _ h'=>h'.elim))
end
noncomputable def clOf:List (Str × NameKind)->List (Str × Addr)->List (Str × Addr)->List (Str × Addr)
 | [],_,acc=>acc
 | (n,k)::r,cells,acc=>clOf r cells (if k == .free then (match cells.lookup n with | some c=>(n,c)::acc | none=>acc) else acc)
theorem QdZ {env : Env} : ∀ (names : List (Str × NameKind)) (acc : List (Str × Addr)), (∀ x, (x, NameKind.free) ∈ names -> ∃ c, env.cells.lookup x = some c) ->
  (forIn names acc fun (x:Str × NameKind) r=>if (x.2 == NameKind.free)=true then (do let a <- cellOf env x.1;pure (ForInStep.yield ((x.1,a)::r)):Sem _) else pure (ForInStep.yield r))=(pure (clOf names env.cells acc):Sem _)
 | [],acc,_=>rfl
 | (n,k)::r,acc,h=>by
  rw[List.forIn_cons]
  by_cases hk:(k == NameKind.free)=true
  ·have e:k=.free:=by simpa using hk
   subst e
   obtain⟨c,hc⟩:=h n List.mem_cons_self
   have q:cellOf env n=pure c:=by unfold cellOf;rw[hc]
   simp only[beq_self_eq_true,if_true,q]
   unfold clOf
   simp only[beq_self_eq_true,if_true,hc]
   exact QdZ r ((n,c)::acc) fun x hx=>h x (List.mem_cons_of_mem _ hx)
  ·simp only[hk,if_false]
   unfold clOf
   simp only[hk,if_false]
   exact QdZ r acc fun x hx=>h x (List.mem_cons_of_mem _ hx)
theorem Qd0 {scope:Scope}{env:Env} (h:∀ x,(x,NameKind.free)∈scope.names->∃ c,env.cells.lookup x=some c):closureFor scope env=pure (clOf scope.names env.cells []):=by
 have q:=QdZ (env:=env) scope.names [] h
 simp only[closureFor]
 exact congrArg (fun m=>m >>= fun cs=>pure cs) q
theorem Qd1 {α:Type}{x y:Str}{v:α}{r:List (Str × α)} (h:x≠y):List.lookup x ((y,v)::r)=r.lookup x:=by
 rw[List.lookup_cons]
 have:(x == y)=false:=beq_eq_false_iff_ne.mpr h
 rw[this]
theorem lookup_cons_self {α:Type}{x:Str}{v:α}{r:List (Str × α)}:List.lookup x ((x,v)::r)=some v:=by
 rw[List.lookup_cons,beq_self_eq_true]
theorem clOf_of {cells:List (Str × Addr)}{x:Str}{c:Addr}:∀ (names:List (Str × NameKind)) (acc:List (Str × Addr)),(clOf names cells acc).lookup x=some c->cells.lookup x=some c\/acc.lookup x=some c
 | [],acc,h=>.inr h
 | (n,k)::r,acc,h=>by
  unfold clOf at h
  rcases clOf_of r _ h with q | q
  ·exact .inl q
  ·split at q
   ·split at q
    ·rename_i c' hc
     by_cases hx:x=n
     ·subst hx
      rw[lookup_cons_self]at q
      cases q
      exact .inl hc
     ·rw[Qd1 hx]at q;exact .inr q
    ·exact .inr q
   ·exact .inr q
theorem Qd2 {cells:List (Str × Addr)}{x:Str}{c:Addr} (hc:cells.lookup x=some c):∀ (names:List (Str × NameKind)) (acc:List (Str × Addr)),((x,NameKind.free)∈names\/acc.lookup x=some c)->(∀ d,acc.lookup x=some d->d=c)->(clOf names cells acc).lookup x=some c
 | [],acc,h,_=>by
  rcases h with h | h
  ·cases h
  ·exact h
 | (n,k)::r,acc,h,ha=>by
  unfold clOf
  by_cases hx:x=n
  ·subst hx
   by_cases hk:(k == NameKind.free)=true
   ·rw[if_pos hk,hc]
    exact Qd2 hc r _ (.inr lookup_cons_self) fun d hd=>by rw[lookup_cons_self]at hd;cases hd;rfl
   ·rw[if_neg hk]
    refine Qd2 hc r _ ?_ ha
    rcases h with h | h
    ·rcases List.mem_cons.mp h with e | e
     ·cases e;exact absurd rfl hk
     ·exact .inl e
    ·exact .inr h
  ·have step : ∀ acc', acc'.lookup x = acc.lookup x -> (clOf r cells acc').lookup x = some c := fun acc' e => by
     refine Qd2 hc r acc' ?_ (by rw[e];exact ha)
     rcases h with h | h
     ·rcases List.mem_cons.mp h with z | z
      ·cases z;exact absurd rfl hx
      ·exact .inl z
     ·exact .inr (by rw[e];exact h)
   refine step _ ?_
   split
   ·split
    ·exact Qd1 hx
    ·rfl
   ·rfl
theorem cellsFrom_of {x:Str}{c:Addr}:∀ (names:List (Str × NameKind)) (n:Nat) (acc:List (Str × Addr)),(cellsFrom n names acc).lookup x=some c->n<=c\/acc.lookup x=some c
 | [],_,_,h=>.inr h
 | (y,k)::r,n,acc,h=>by
  unfold cellsFrom at h
  split at h
  ·rcases cellsFrom_of r (n + 1) _ h with q | q
   ·exact .inl (by ac_nf)
   ·by_cases hx:x=y
    ·subst hx;rw[lookup_cons_self]at q;cases q;exact .inl (Nat.le_refl _)
    ·rw[Qd1 hx]at q;exact .inr q
  ·exact cellsFrom_of r n acc h
theorem Qd3 : ∀ (names : List (Str × NameKind)) (n : Nat) (acc : List (Str × Addr)), (∀ x y c, acc.lookup x = some c -> acc.lookup y = some c -> x = y) -> (∀ x c, acc.lookup x = some c -> c < n) ->
  ∀ x y c,(cellsFrom n names acc).lookup x=some c->(cellsFrom n names acc).lookup y=some c->x=y
 | [],_,_,hi,_=>hi
 | (z,k)::r,n,acc,hi,hb=>by
  unfold cellsFrom
  split
  ·refine Qd3 r (n + 1) _ (fun x y c h1 h2=>?_) (fun x c h=>?_)
   ·by_cases hx:x=z
    ·subst hx
     rw[lookup_cons_self]at h1;cases h1
     by_cases hy:y=x
     ·exact hy.symm
     ·rw[Qd1 hy]at h2
      exact absurd (hb y _ h2) (Nat.lt_irrefl _)
    ·rw[Qd1 hx]at h1
     by_cases hy:y=z
     ·subst hy
      rw[lookup_cons_self]at h2;cases h2
      exact absurd (hb x _ h1) (Nat.lt_irrefl _)
     ·rw[Qd1 hy]at h2;exact hi x y c h1 h2
   ·by_cases hx:x=z
    ·subst hx;rw[lookup_cons_self]at h;cases h;exact Nat.lt_succ_self _
    ·rw[Qd1 hx]at h;exact Nat.lt_succ_of_lt (hb x c h)
  ·exact Qd3 r n acc hi hb
theorem cellsFrom_cell {x:Str}{c:Addr}:∀ (names:List (Str × NameKind)) (h:Heap) (acc:List (Str × Addr)),(cellsFrom h.objs.size names acc).lookup x=some c->acc.lookup x=some c\/((pushCells h names).IsCell c none/\h.objs.size<=c)
 | [],_,_,q=>.inl q
 | (y,k)::r,h,acc,q=>by
  unfold cellsFrom at q
  unfold pushCells
  split at q
  ·rename_i hk
   rw[if_pos hk]
   rw[<- Heap.size_push h { cls:=.type "cell",data:=.cell none }]at q
   rcases cellsFrom_cell r _ _ q with z | z
   ·by_cases hx:x=y
    ·subst hx;rw[lookup_cons_self]at z;cases z
     refine .inr ⟨?_,Nat.le_refl _⟩
     refine⟨{ cls:=.type "cell",data:=.cell none },pushCells_keeps r _ _ _ (Heap.get?_push_size _ rfl),rfl⟩
    ·rw[Qd1 hx]at z;exact .inl z
   ·refine .inr ⟨z.1,?_⟩
    have:=z.2
    rw[Heap.size_push]at this
    ac_nf
  ·rename_i hk
   rw[if_neg hk]
   exact cellsFrom_cell r h acc q
theorem Qd4 {x:Str}:∀ (names:List (Str × NameKind)) (n:Nat) (acc:List (Str × Addr)),(x,NameKind.cell)∉names->(cellsFrom n names acc).lookup x=acc.lookup x
 | [],_,_,_=>rfl
 | (y,k)::r,n,acc,h=>by
  unfold cellsFrom
  split
  ·rename_i hk
   have e:k=.cell:=by simpa using hk
   subst e
   have hx:x≠y:=fun z=>h (by rw[z];exact List.mem_cons_self)
   rw[Qd4 r (n + 1) _ fun z=>h (List.mem_cons_of_mem _ z),Qd1 hx]
  ·exact Qd4 r n acc fun z=>h (List.mem_cons_of_mem _ z)
theorem Qd5 {α β:Type} (f:Str->α->β) (x:Str):∀ (l:List (Str × α)),(l.map fun p=>(p.1,f p.1 p.2)).lookup x=(l.lookup x).map (f x)
 | []=>rfl
 | (y,v)::r=>by
  by_cases hx:x=y
  ·subst hx
   rw[List.map_cons,lookup_cons_self,lookup_cons_self];rfl
  ·rw[List.map_cons,Qd1 hx,Qd1 hx];exact Qd5 f x r
theorem Qd6 (scope : Scope) (env : Env) (x : Str) :
  (relabel scope env).names.lookup x=(scope.names.lookup x).map fun k=>if (k == NameKind.free && env.scope.kind == .function && env.kindOf x == some .cell)=true then .cell else k:=by
 have e:(relabel scope env).names=scope.names.map fun p=>(p.1,(fun (n:Str) k=>if (k == NameKind.free && env.scope.kind == .function && env.kindOf n == some .cell)=true then NameKind.cell else k) p.1 p.2):=by
  show scope.names.map _=_
  congr 1
  funext p
  obtain⟨n,k⟩:=p
  dsimp only
  split<;>rfl
 rw[e]
 exact Qd5 (fun (n:Str) k=>if (k == NameKind.free && env.scope.kind == .function && env.kindOf n == some .cell)=true then NameKind.cell else k) x scope.names
theorem Qd7 {M : Model} {A : Around} {E : Value -> Shared -> Prop} {s : Shared} {scope : Scope} {globals : Addr} {cl : List (Str × Addr)} {qual : Str} {env : Env} {Q : Env -> Shared -> Prop}
  (h:Q { scope:=scope,locals:=s.heap.objs.size,globals:=globals,cells:=cellsFrom (s.heap.objs.size + 1) scope.names cl,qual:=qual,func:=none,code:=env.code,frame:=env.frame,builtins:=env.builtins }
   { s with heap:=pushCells (s.heap.push { cls:=.type "dict",data:=.dict #[] }) scope.names }):wpAny M A (newFunctionEnv scope globals cl [] qual none .none (some env)) Q E s:=by
 simp only[newFunctionEnv,Option.isSome_some,if_true]
 refine wpAny_bind (wpAny_alloc ?_)
 refine wpAny_bind (wpAny_layCells _ (fun name kind cells=>by cases hkc:kind == NameKind.cell<;>simp[hkc]) _ _ _ _ ?_)
 rw[show ({ s with heap:=s.heap.push { cls:=.type "dict",data:=.dict #[] } }:Shared).heap.objs.size=s.heap.objs.size + 1 from Heap.size_push ..]
 exact wpAny_bind (wpAny_pure (wpAny_pure h))
noncomputable def cxC (X:Cx) (N:List Str) (scope:Scope) (fp:List Addr) (s:Shared) (H:Hp):Cx where
 prog:=X.prog
 w:=X.w
 K:=X.K
 mg:=X.mg
 base:=X.base
 A:=X.A
 N:=N
 s₀:=s
 H₀:=H
 env:=compEnvC scope (cellsFrom (s.heap.objs.size + 1) scope.names (clOf scope.names X.env.cells [])) s.heap.objs.size X.env
 outer:=X.stack
 stack:=X.stack
 ex:=fp
 fn:=fun x=>decide (scope.names.lookup x=some .local\/scope.names.lookup x=some .cell)
 calm:=X.calm
 pn:=[]
 xe:=NoE
structure CompScope (X:Cx) (scope:Scope):Prop where
 kind:scope.kind=.function
 names:∀ x∈scope.names,x.2=.local->scope.names.lookup x.1=some .local
 free:∀ x,(x,NameKind.free)∈scope.names->X.env.kindOf x=some .cell\/X.env.kindOf x=some .free
 once:∀ x,(x,NameKind.free)∈scope.names->(x,NameKind.cell)∉scope.names
 own:∀ x,(x,NameKind.free)∈scope.names->scope.names.lookup x≠some .local
noncomputable def capV (n:Nat) (ix:List Nat) (σ:St):St:=List.replicate n none++ix.map fun i=>(σ[i]?).join
structure CompNames (X:Cx) (scope:Scope) (N:List Str) (n:Nat) (ix:List Nat):Prop where
 len:N.length=n + ix.length
 cap:∀ (j i:Nat) (x:Str),ix[j]?=some i->N[n + j]?=some x->X.N[i]?=some x/\scope.names.lookup x=some .free
theorem clOf_mem {cells:List (Str × Addr)}{x:Str}{c:Addr}:∀ (names:List (Str × NameKind)) (acc:List (Str × Addr)),(clOf names cells acc).lookup x=some c->(x,NameKind.free)∈names\/acc.lookup x=some c
 | [],acc,h=>.inr h
 | (n,k)::r,acc,h=>by
  unfold clOf at h
  rcases clOf_mem r _ h with q | q
  ·exact .inl (List.mem_cons_of_mem _ q)
  ·split at q
   ·rename_i hk
    have e:k=.free:=by simpa using hk
    subst e
    split at q
    ·by_cases hx:x=n
     ·subst hx;exact .inl List.mem_cons_self
     ·rw[Qd1 hx]at q;exact .inr q
    ·exact .inr q
   ·exact .inr q
theorem Qd8 {X:Cx}{scope:Scope}{cells:List (Str × Addr)}{x:Str}{c:Addr} (h:(clOf scope.names cells []).lookup x=some c) (hf:scope.names.lookup x=some .local\/scope.names.lookup x=some .cell) (S:CompScope X scope):False:=by
 rcases clOf_mem _ _ h with q | q
 ·rcases hf with z | z
  ·exact S.own x q z
  ·exact S.once x q (PySem.mem_of_lookup z)
 ·cases q
section
variable {X:Cx}{pins:List (Addr × Obj)}{σ:St}{H:Hp}{s:Shared}{scope:Scope}{N:List Str}{fp:List Addr}
theorem Qd9 (I:Inv X pins σ H s) {x:Str}{c:Addr} (h:(clOf scope.names X.env.cells []).lookup x=some c):X.env.cells.lookup x=some c/\c < s.heap.objs.size/\(∃ v,s.heap.IsCell c v)/\H c=none:=by
 rcases clOf_of _ _ h with q | q
 ·obtain⟨v,z⟩:=I.cell x c q
  exact⟨q,z.lt,⟨v,z⟩,I.freeC x c q⟩
 ·cases q
theorem Qea (I:Inv X pins σ H s) (S:CompScope X scope) (hfp:∀ b∈fp,FpOk X pins H b) (hlt:∀ b∈fp,b < s.heap.objs.size):(cxC X N scope fp s H).Ok:=by
 have inj:∀ x y c,(cellsFrom (s.heap.objs.size + 1) scope.names (clOf scope.names X.env.cells [])).lookup x=some c->(cellsFrom (s.heap.objs.size + 1) scope.names (clOf scope.names X.env.cells [])).lookup y=some c->x=y:=
  Qd3 scope.names _ _ (fun x y c h1 h2=>I.ok.inj x y c (Qd9 I h1).1 (Qd9 I h2).1) fun x c h=>Nat.lt_succ_of_lt (Qd9 I h).2.1
 refine⟨I.ok.mod,S.kind,I.ok.glob,I.ok.blt,Nat.le_refl _,inj,fun x hx=>?_,fun x c hf hc=>?_,I.ok.hd,I.ok.frames,.inl rfl,fun b hb=>?_,I.bs,Nat.le_trans I.ok.bsz I.sz,fun b o e hb=>?_,fun b hb z=>?_,I.stack,I.stkFree⟩
 ·have hx':(relabel scope X.env).names.lookup x=some .cell\/(relabel scope X.env).names.lookup x=some .free:=hx
  rw[Qd6]at hx'
  cases e:scope.names.lookup x with
  | none=>rw[e]at hx';rcases hx' with z | z<;>cases z
  | some k=>
   refine Option.isSome_iff_exists.mp (PySem.W.cellsFrom_some scope.names _ _ ?_)
   cases k with
   | cell=>exact .inl e
   | free=>
    have hm:=PySem.mem_of_lookup e
    obtain⟨c,hc⟩:=I.ok.has x (S.free x hm)
    exact .inr (by rw[Qd2 hc scope.names [] (.inl hm) fun d hd=>by cases hd];rfl)
   | _=>
    rw[e]at hx'
    rcases hx' with z | z<;>(simp at z)
 ·have hc':(cellsFrom (s.heap.objs.size + 1) scope.names (clOf scope.names X.env.cells [])).lookup x=some c:=hc
  rcases cellsFrom_of _ _ _ hc' with q | q
  ·exact Nat.le_of_succ_le q
  ·exfalso
   have hf':scope.names.lookup x=some .local\/scope.names.lookup x=some .cell:=of_decide_eq_true hf
   exact Qd8 q hf' S
 ·obtain⟨f0,f1,f2,f3,f4,f5⟩:=hfp b hb
  refine⟨Nat.ne_of_lt (hlt b hb),fun x c hc z=>?_⟩
  have hc':(cellsFrom (s.heap.objs.size + 1) scope.names (clOf scope.names X.env.cells [])).lookup x=some c:=hc
  rcases cellsFrom_of _ _ _ hc' with q | q
  ·rw[z]at q
   exact absurd (Nat.lt_of_lt_of_le (Nat.lt_succ_of_lt (hlt b hb)) q) (Nat.lt_irrefl _)
  ·exact f4 x c (Qd9 I q).1 z
 ·obtain⟨f0,f1,f2,f3,f4,f5⟩:=hfp b hb
  rcases f3 with z | z
  ·exact I.ok.noex b o e z
  ·exact absurd (Nat.lt_of_lt_of_le (Nat.lt_of_lt_of_le (Heap.lt_size e) I.ok.bsz) z) (Nat.lt_irrefl _)
 ·obtain⟨f0,f1,f2,f3,f4,f5⟩:=hfp b hb
  rcases List.mem_cons.mp (I.stkSub b z) with q | q
  ·exact f1 q
  ·exact f2 q
noncomputable abbrev heapC (h:Heap) (scope:Scope):Heap:=pushCells (h.push { cls:=.type "dict",data:=.dict #[] }) scope.names
theorem Qeb (h:Heap) (scope:Scope):∀ b o,h.get? b=some o->(heapC h scope).get? b=some o:=fun b o e=>pushCells_keeps _ _ b o (Heap.get?_push_of_some _ e)
theorem Qec {n : Nat} {ix : List Nat} (I : Inv X pins σ H s) (S : CompScope X scope) (T : CompNames X scope N n ix) (hfp : ∀ b ∈ fp, FpOk X pins H b) (hlt : ∀ b ∈ fp, b < s.heap.objs.size) :
  Inv (cxC X N scope fp s H) [] (capV n ix σ) H { s with heap:=heapC s.heap scope }:=by
 have kp:=Qeb s.heap scope
 have hns:(heapC s.heap scope).Ns s.heap.objs.size fun _=>none:=(Heap.Ns.new s.heap (.type "dict")).keeps (pushCells_keeps _ _)
 have cells : ∀ x c, (cellsFrom (s.heap.objs.size + 1) scope.names (clOf scope.names X.env.cells [])).lookup x = some c ->
   (∃ v,(heapC s.heap scope).IsCell c v)/\H c=none:=fun x c h=>by
  have h':(cellsFrom (s.heap.push { cls:=.type "dict",data:=.dict #[] }).objs.size scope.names (clOf scope.names X.env.cells [])).lookup x=some c:=by rw[Heap.size_push];exact h
  rcases cellsFrom_cell _ _ _ h' with q | ⟨q,z⟩
  ·obtain⟨_,_,⟨v,hv⟩,hn⟩:=Qd9 I q
   exact⟨⟨v,hv.keeps kp⟩,hn⟩
  ·refine⟨⟨none,q⟩,I.hok.fresh ?_⟩
   rw[Heap.size_push]at z
   ac_nf
 refine⟨Qea I S hfp hlt,rfl,I.bare,Un.kept kp,⟨_,hns,fun i x v h1 h2 h3=>?_⟩,fun x c h=>(cells x c h).1,I.hok.fresh (Nat.le_refl _),fun x c h=>(cells x c h).2,fun p hp=>absurd (show p∈([]:List (Addr × Obj)) from hp) (by simp),I.hok.kept kp,?_⟩
 ·have h1':N[i]?=some x:=h1
  have h2':(List.replicate n none++ix.map fun i=>(σ[i]?).join)[i]?=some (some v):=h2
  have hi:n<=i:=Nat.le_of_not_lt fun z=>by
   rw[List.getElem?_append_left (by simpa using z),List.getElem?_replicate]at h2'
   split at h2'<;>cases h2'
  rw[List.getElem?_append_right (by simpa using hi),List.length_replicate,List.getElem?_map]at h2'
  cases e:ix[i - n]? with
  | none=>rw[e]at h2';cases h2'
  | some k=>
   rw[e]at h2'
   have hj:(σ[k]?).join=some v:=Option.some.inj h2'
   have hk:σ[k]?=some (some v):=by
    cases q:σ[k]? with
    | none=>rw[q]at hj;cases hj
    | some o=>rw[q]at hj;exact congrArg some hj
   obtain⟨hN,hfr⟩:=T.cap (i - n) k x e (by rw[show n + (i - n)=i by ac_nf];exact h1')
   have hm:=PySem.mem_of_lookup hfr
   have kx:=S.free x hm
   obtain⟨m,hn,hl⟩:=I.loc
   obtain⟨u,ru,lk⟩:=hl k x v hN hk (by
    rcases kx with z | z
    ·exact .inr (.inl z)
    ·exact .inr (.inr z))
   have lk2:∃ c,X.env.cells.lookup x=some c/\s.heap.IsCell c (some u):=by
    rcases lk with ⟨z,_⟩ | ⟨_,c,hc,q⟩
    ·rcases kx with y | y<;>(rw[y]at z;cases z)
    ·exact⟨c,hc,q⟩
   obtain⟨c,hc,q⟩:=lk2
   refine⟨u,ru,.inr ⟨?_,c,?_,q.keeps kp⟩⟩
   ·show (relabel scope X.env).names.lookup x=some .cell\/(relabel scope X.env).names.lookup x=some .free
    rw[Qd6,hfr,Option.map_some]
    by_cases hq:(NameKind.free == NameKind.free && X.env.scope.kind == .function && X.env.kindOf x == some .cell)=true
    ·rw[if_pos hq];exact .inl rfl
    ·rw[if_neg hq];exact .inr rfl
   ·show (cellsFrom (s.heap.objs.size + 1) scope.names (clOf scope.names X.env.cells [])).lookup x=some c
    rw[Qd4 _ _ _ (S.once x hm)]
    exact Qd2 hc scope.names [] (.inl hm) fun d hd=>by cases hd
 ·show (List.replicate n none++ix.map fun i=>(σ[i]?).join).length=N.length
  rw[List.length_append,List.length_replicate,List.length_map,T.len]
noncomputable def tComp (wi:TI) (n:Nat) (ix:List Nat) (g:TG) (tt:TT) (te:TE):TE:=fun σ H Q=>wi σ H fun J H1=>∀ l,H1 l=none->∃ W:Nat->Nat->St->Hp->Prop,(∃ m,W 0 m (capV n ix σ) (upd H1 l (.lst []))) /\
 ∀ i m σ' H',W i m σ' H'->(J.stop i H'/\Q (.ref l) H')\/(J.go i H'/\∀ x H2,J.yld i H' x H2->g x σ' H2 fun σ2 H3=>tt σ2 H3 fun b H4=>
  if b=true then te σ2 H4 fun v H5=>∃ ys,H5 l=some (.lst ys)/\ys.length < sizeLine/\∃ m',m' < m/\W (i + 1) m' σ2 (upd H5 l (.lst (ys++[v]))) else ∃ m',m' < m/\W (i + 1) m' σ2 H4)
noncomputable def PIfs (X:Cx) (ifs:List Expr) (tt:TT):Prop:=
 ∀ (pins:List (Addr × Obj)) (s:Shared) (σ:St) (H:Hp) (Q:Bool->Hp->Prop),Inv X pins σ H s->tt σ H Q->wpAny (model X.prog X.w) X.A (tests ifs X.env) (TP X pins σ Q) X.xe s
theorem Qed:PIfs X [] (fun _ H Q=>Q true H):=fun pins s σ H Q I h=>wpAny_tests_nil ⟨H,I,h⟩
theorem Qee {c:Expr}{tt:TT} (h:PT X c tt):PIfs X [c] tt:=fun pins s σ H Q I q=>wpAny_tests_one (h pins s σ H Q I q)
structure CFree (X:Cx) (pins:List (Addr × Obj)) (C:Addr) (H:Hp) (s:Shared):Prop where
 ns:∃ m,s.heap.Ns C m
 free:H C=none
 loc:C≠X.env.locals
 cell:∀ x c,X.env.cells.lookup x=some c->c≠C
 sz:X.s₀.heap.objs.size<=C
 pin:∀ p∈X.pn++pins,p.1≠C
theorem CFree.go {C:Addr}{h':Heap} (c:CFree X pins C H s) (I:Inv X pins σ H s) (hs:Heap.SameBut C s.heap h'):Inv X pins σ H { s with heap:=h' }:=
 I.turned (t':=s.toks) (fun b o hb e=>(hs.2 b hb).trans e) c.free c.loc (.inr c.sz) c.cell c.pin
theorem Qef {elt target iter : Expr} {ifs : List Expr} {pos : Pos} {n : Nat} {ix : List Nat} {wi : TI} {g : TG} {tt : TT} {te : TE} {use : Option (Value -> Sem Unit)} {Q : Value -> Shared -> Prop} {QH : VK}
  (hc:X.calm=true) (S:CompScope X scope) (T:CompNames X scope N n ix) (hi:PI X target iter wi)
  (blk:∀ (fp:List Addr) (s:Shared) (H:Hp),PG (cxC X N scope fp s H) target g/\PIfs (cxC X N scope fp s H) ifs tt/\PE (cxC X N scope fp s H) elt te)
  (hs:∀ x,foldedSetIterable iter X.env x=pure x) (I:Inv X pins σ H s) (h:tComp wi n ix g tt te σ H QH)
  (fin:∀ (l C:Addr) (H':Hp) (s':Shared),Inv X pins σ H' s'->QH (.ref l) H'->CFree X pins C H' s'->compPost (model X.prog X.w) X.A X.xe use Q (.ref l) C (.ok .next) s'):
  wpAny (model X.prog X.w) X.A (comprehension (.ListComp elt [⟨target,iter,ifs,0⟩] scope pos) scope X.env (firstIterPos [⟨target,iter,ifs,0⟩] pos) (newList []) false (eval iter X.env) use) Q X.xe s:=by
 have hclos:closureFor scope X.env=pure (clOf scope.names X.env.cells []):=Qd0 fun x hx=>I.ok.has x (S.free x hx)
 refine wpAny_comprehension_free rfl hs hclos S.kind S.names ?_
 refine thn (hi pins s σ H _ I h) fun v s1 h1=>thn h1 fun itv s2 h2=>?_
 obtain⟨it,fp,tn,J,H2,rfl,I2,TT,st2,f2,rest⟩:=h2
 refine wpAny_newObj_type (hd:=by size_fits) ?_
 have hf2:H2 s2.heap.objs.size=none:=I2.hok.fresh (Nat.le_refl _)
 obtain⟨W,⟨m0,w0⟩,turn⟩:=rest _ hf2
 have fl:∀ b∈fp,b < s2.heap.objs.size:=fun b hb=>by
  obtain⟨o,e,_⟩:=TT.obj _ _ st2 b hb
  exact Heap.lt_size e
 have f3:∀ b∈fp,FpOk X pins (upd H2 s2.heap.objs.size (.lst [])) b:=fun b hb=>by
  obtain⟨f0,fr⟩:=f2 b hb
  refine⟨?_,fr⟩
  rw[Qaj (Nat.ne_of_lt (fl b hb))]
  exact f0
 have I3:Inv X pins σ (upd H2 s2.heap.objs.size (.lst [])) { s2 with heap:=s2.heap.push { cls:=.type "list",dict:=none,data:=.seq ([]:List Value).toArray } }:=
  I2.laid (t':=s2.toks) (fun b o e=>Heap.get?_push_of_some _ e) (Nat.le_refl _) ⟨Nat.zero_le _,[],0,.nil,Heap.get?_push_size _ rfl⟩
 have tn3:tn 0 (s2.heap.push { cls:=.type "list",dict:=none,data:=.seq ([]:List Value).toArray }):=TT.keep _ _ _ st2 fun b hb o e=>Heap.get?_push_of_some _ e
 have fl3:∀ b∈fp,b < (s2.heap.push { cls:=.type "list",dict:=none,data:=.seq ([]:List Value).toArray }).objs.size:=fun b hb=>by
  rw[Heap.size_push];exact Nat.lt_succ_of_lt (fl b hb)
 generalize s2.heap.objs.size=l at *
 generalize hs3:({ s2 with heap:=s2.heap.push { cls:=.type "list",dict:=none,data:=.seq ([]:List Value).toArray } }:Shared)=s3 at *
 have e3:s2.heap.push { cls:=.type "list",dict:=none,data:=.seq ([]:List Value).toArray }=s3.heap:=by rw[<- hs3]
 rw[e3]at tn3 fl3
 generalize upd H2 l (.lst [])=H3 at *
 refine Qd7 ?_
 have I4:=Qec (N:=N) (n:=n) (ix:=ix) I3 S T f3 fl3
 obtain⟨bg,bt,be⟩:=blk fp s3 H3
 have tn4:tn 0 (heapC s3.heap scope):=TT.keep _ _ _ tn3 fun b hb o e=>Qeb _ _ _ _ e
 have fr4:∀ b∈fp,H3 b=none:=fun b hb=>(f3 b hb).1
 show codeAny (model X.prog X.w) X.A (.compStart (.ListComp elt [⟨target,iter,ifs,0⟩] scope pos) 0 (.ref it) (.ref l) (cxC X N scope fp s3 H3).env) (compPost (model X.prog X.w) X.A X.xe use Q (.ref l) s3.heap.objs.size) { s3 with heap:=heapC s3.heap scope }
 have fpx:∀ {σ':St}{H':Hp}{s':Shared},Inv (cxC X N scope fp s3 H3) [] σ' H' s'->(∀ b∈fp,H' b=none)->∀ b∈fp,FpOk (cxC X N scope fp s3 H3) [] H' b:=fun I' hn b hb=>by
  have q:=I'.ok.exf b hb
  exact⟨hn b hb,q.1,I'.ok.exfs b hb,.inl hb,q.2,fun p hp=>absurd (show p∈([]:List (Addr × Obj)) from hp) (by simp)⟩
 have hc':(cxC X N scope fp s3 H3).calm=true:=hc
 have loop:codeAny (model X.prog X.w) X.A (.compLoop (.ListComp elt [⟨target,iter,ifs,0⟩] scope pos) 0 (.ref it) (.ref l) (cxC X N scope fp s3 H3).env) (compPost (model X.prog X.w) X.A X.xe use Q (.ref l) s3.heap.objs.size) { s3 with heap:=heapC s3.heap scope }:=by
  refine QdY (fun k s'=>∃ i σ' H',Inv (cxC X N scope fp s3 H3) [] σ' H' s'/\tn i s'.heap/\(∀ b∈fp,H' b=none)/\W i k σ' H') ?_ m0 ⟨0,_,H3,I4,tn4,fr4,w0⟩
  rintro k s5 ⟨i,σ5,H5,I5,tn5,fr5,w5⟩
  rcases turn i k σ5 H5 w5 with ⟨stop,q⟩ | ⟨go,step⟩
  ·refine thn (TT.done (cxC X N scope fp s3 H3) rfl rfl rfl hc' i [] s5 σ5 H5 NoE I5 (fpx I5 fr5) tn5 stop) fun r s6 pq51=>?_
   obtain⟨hr,I6⟩:=pq51
   subst hr
   have J6:Inv X pins σ H5 s6:=I3.call' I6.os I6.base I6.hok I6.bare fun b hb=>by
    obtain⟨g0,g1,g2,g3,g4,g5⟩:=f3 b hb
    exact⟨g3,g1,g4,g5⟩
   obtain⟨m,hn,_⟩:=I6.loc
   refine fin l s3.heap.objs.size H5 s6 J6 q ⟨⟨m,hn⟩,I6.free,Nat.ne_of_gt I3.lt,fun x c e=>?_,I3.sz,fun p hp=>?_⟩
   ·obtain⟨v,z⟩:=I3.cell x c e
    exact Nat.ne_of_lt z.lt
   ·exact Nat.ne_of_lt (Heap.lt_size (I3.pin p hp).1)
  ·refine thn (TT.item (cxC X N scope fp s3 H3) rfl rfl rfl hc' i [] s5 σ5 H5 NoE I5 (fpx I5 fr5) tn5 go) fun r s6 pq52=>?_
   obtain⟨u,hr,h6⟩:=pq52
   subst hr
   refine thn h6 fun _ s7 pq53=>?_
   obtain⟨x,H7,I7,r7,y7,tn7,fr7⟩:=pq53
   have I7':=I7.pinned (fpx I7 fr7) (TT.obj _ _ tn7)
   refine thn (bg _ s7 σ5 H7 x u _ I7' r7 (step x H7 y7)) fun _ s8 pq54=>?_
   obtain⟨σ8,H8,I8,q8⟩:=pq54
   refine thn (bt _ s8 σ8 H8 _ I8 q8) fun ok s9 pq55=>?_
   obtain⟨H9,I9,q9⟩:=pq55
   have again : ∀ {s' : Shared} {H' : Hp}, Inv (cxC X N scope fp s3 H3) ([] ++ pinsAt fp s7.heap) σ8 H' s' -> (∃ m', m' < k /\ W (i + 1) m' σ8 H') ->
     ∃ m,m < k/\∃ i σ' H',Inv (cxC X N scope fp s3 H3) [] σ' H' s'/\tn i s'.heap/\(∀ b∈fp,H' b=none)/\W i m σ' H':=fun {s' H'} I' pq56=>by
    obtain⟨m',hm,w'⟩:=pq56
    refine⟨m',hm,i + 1,σ8,H',I'.unpinned,TT.keep _ _ _ tn7 fun b hb o e=>(I'.pin (b,o) (List.mem_append_right _ (List.mem_append_right _ (Qa4 hb e)))).1,fun b hb=>?_,w'⟩
    obtain⟨o,e,d⟩:=TT.obj _ _ tn7 b hb
    exact (I'.pin (b,o) (List.mem_append_right _ (List.mem_append_right _ (Qa4 hb e)))).2.1
   cases ok with
   | false=>exact again I9 q9
   | true=>
    refine thn (be _ s9 σ8 H9 _ I9 q9) fun xv s10 pq57=>?_
    obtain⟨v,H10,I10,r10,ys,hy,hz,q10⟩:=pq57
    refine thn (QcE (X:=cxC X N scope fp s3 H3) _ s10 σ8 H10 (.ref l) [v] (.ref l) [xv] (fun _ H'=>H'=upd H10 l (.lst (ys++[v]))) I10 rfl (.cons r10 .nil) ⟨l,ys,v,rfl,rfl,hy,hz,rfl⟩) fun _ s11 pq58=>?_
    obtain⟨_,H11,I11,_,e⟩:=pq58
    subst e
    exact again I11 q10
 exact codeAny_compStart_list loop (TT.self _ 0 _ _ _ tn4 loop)
theorem Qeg {elt target iter : Expr} {ifs : List Expr} {pos : Pos} {n : Nat} {ix : List Nat} {wi : TI} {g : TG} {tt : TT} {te : TE}
  (hc:X.calm=true) (S:CompScope X scope) (T:CompNames X scope N n ix) (hi:PI X target iter wi)
  (blk:∀ (fp:List Addr) (s:Shared) (H:Hp),PG (cxC X N scope fp s H) target g/\PIfs (cxC X N scope fp s H) ifs tt/\PE (cxC X N scope fp s H) elt te)
  (hs:∀ x,foldedSetIterable iter X.env x=pure x:=by intro _;rfl):PE X (.ListComp elt [⟨target,iter,ifs,0⟩] scope pos) (tComp wi n ix g tt te):=by
 intro pins s σ H Q I h
 rw[eval_ListComp]
 refine Qef (use:=none) hc S T hi blk hs I h fun l C H' s' I' q c=>?_
 obtain⟨m,hn⟩:=c.ns
 exact⟨m,hn,fun h' hs'=>⟨.ref l,H',c.go I' hs',rfl,q⟩⟩
theorem Qeh {elt target iter : Expr} {ifs : List Expr} {pos pos' spos : Pos} {n i : Nat} {ix : List Nat} {wi : TI} {g : TG} {tt : TT} {te : TE} {x : Str}
  (hN:X.N.Nodup) (hi':X.N[i]?=some x) (hx:L2.Loc X.env.scope x) (hf:X.fn x=true\/X.env.scope.names.lookup x=some .local)
  (hc:X.calm=true) (S:CompScope X scope) (T:CompNames X scope N n ix) (hi:PI X target iter wi)
  (blk:∀ (fp:List Addr) (s:Shared) (H:Hp),PG (cxC X N scope fp s H) target g/\PIfs (cxC X N scope fp s H) ifs tt/\PE (cxC X N scope fp s H) elt te)
  (hsw:swapsWith (.ListComp elt [⟨target,iter,ifs,0⟩] scope pos) (some (.Name x pos')) spos.line X.env=pure true)
  (hs:∀ x,foldedSetIterable iter X.env x=pure x:=by intro _;rfl):PS X (.Assign [.Name x pos'] (.ListComp elt [⟨target,iter,ifs,0⟩] scope pos) spos) (tAsg (tComp wi n ix g tt te) (gName i)):=by
 intro pins s σ H D I h
 rw[exec_Assign_Name_used _ _ _ _ hsw]
 refine wpAny_bind (wpAny_standAt (wpAny_bind ?_))
 show wpAny _ _ (comprehension (.ListComp elt [⟨target,iter,ifs,0⟩] scope pos) scope X.env _ (newList []) false (eval iter X.env) (some (assign (.Name x pos') X.env)) >>= fun _=>pure ()) _ _ s
 refine wpAny_bind (wpAny_mono (Qef (use:=some (assign (.Name x pos') X.env)) (Q:=fun _ s'=>SP X pins D .next s') hc S T hi blk hs I h fun l C H' s' I' q c=>?_) (fun _ s' hq=>wpAny_pure (wpAny_pure hq)) fun _ _ e=>e)
 obtain⟨m,hn⟩:=c.ns
 refine wpAny_assign_Name (Qaq I' hN hi' hx (v:=.ref l) rfl (fun s2 I2 ⟨b,hb,hb2⟩=>?_) hf)
 have hbC:b≠C:=by
  rcases hb2 with z | z
  ·rw[z];exact c.loc.symm
  ·exact c.cell x b z
 refine⟨m,hn.sameBut hb hbC.symm,fun h' hs'=>⟨_,H',?_,q⟩⟩
 exact CFree.go ⟨⟨m,hn.sameBut hb hbC.symm⟩,c.free,c.loc,c.cell,c.sz,c.pin⟩ I2 hs'
end
section
variable {X:Cx}{a b c e:Expr}{es:List Expr}{pos:Pos}{fa fb fc:CE}{ca cb:CA}{K:PySem.W.Frag}{ρ:List Addr}{H:Hp}{st:Sto}
theorem Qei {K : PySem.W.Frag} {g : D -> D -> M D} {x y : V} {H : Hp} {Q : VK} (hg : ∀ d e, (∃ i j, d = D.int i /\ e = D.int j) \/ g d e = bad) (h : rOf K g x y H Q) :
  ∃ (i j:Int) (ρ:List Addr) (st:Sto),x=.int i/\y=.int j/\SR K ρ H st/\Post K ρ H (g (.int i) (.int j) st) (fun r _ ρ' H'=>∀ v,Rep K ρ' H' v r->Q v H'):=by
 obtain⟨ρ,st,d,e,sr,rx,ry,p⟩:=h
 rcases hg d e with ⟨i,j,e1,e2⟩ | hb
 ·subst e1 e2;cases rx;cases ry;exact⟨_,_,ρ,st,rfl,rfl,sr,p⟩
 ·rw[hb]at p;exact p.elim
theorem Qej:OpR X (binaryOp .Sub) (rOf X.K subD):=Qba.of fun x y H Q h=>by
 obtain⟨i,j,ρ,st,rfl,rfl,sr,p⟩:=Qei (by intro d e;cases d<;>cases e<;>first | exact .inl ⟨_,_,rfl,rfl⟩ | exact .inr rfl) h
 exact⟨_,_,rfl,rfl,p.ret sr _ (.int _)⟩
theorem Qek:OpR X (binaryOp .Mult) (rOf X.K mulD):=Qbb.of fun x y H Q h=>by
 obtain⟨i,j,ρ,st,rfl,rfl,sr,p⟩:=Qei (by intro d e;cases d<;>cases e<;>first | exact .inl ⟨_,_,rfl,rfl⟩ | exact .inr rfl) h
 exact⟨_,_,rfl,rfl,p.chk.1,p.chk.2.ret sr _ (.int _)⟩
theorem Qel:OpR X (binaryOp .FloorDiv) (rOf X.K fdivD):=Qbc.of fun x y H Q h=>by
 obtain⟨i,j,ρ,st,rfl,rfl,sr,p⟩:=Qei (by intro d e;cases d<;>cases e<;>first | exact .inl ⟨_,_,rfl,rfl⟩ | exact .inr rfl) h
 exact⟨_,_,rfl,rfl,p.chk.1,p.chk.2.ret sr _ (.int _)⟩
theorem Qem:OpR X (binaryOp .Mod) (rOf X.K modD):=Qbd.of fun x y H Q h=>by
 obtain⟨i,j,ρ,st,rfl,rfl,sr,p⟩:=Qei (by intro d e;cases d<;>cases e<;>first | exact .inl ⟨_,_,rfl,rfl⟩ | exact .inr rfl) h
 exact⟨_,_,rfl,rfl,p.chk.1,p.chk.2.ret sr _ (.int _)⟩
theorem Qen:OpR X (binaryOp .Pow) (rOf X.K powD):=Qbe.of fun x y H Q h=>by
 obtain⟨i,j,ρ,st,rfl,rfl,sr,p⟩:=Qei (by intro d e;cases d<;>cases e<;>first | exact .inl ⟨_,_,rfl,rfl⟩ | exact .inr rfl) h
 exact⟨_,_,rfl,rfl,p.chk.1,p.chk.2.ret sr _ (.int _)⟩
theorem Qeo:OpR X (binaryOp .LShift) (rOf X.K shlD):=Qbf.of fun x y H Q h=>by
 obtain⟨i,j,ρ,st,rfl,rfl,sr,p⟩:=Qei (by intro d e;cases d<;>cases e<;>first | exact .inl ⟨_,_,rfl,rfl⟩ | exact .inr rfl) h
 exact⟨_,_,rfl,rfl,p.chk.1,p.chk.2.ret sr _ (.int _)⟩
theorem Qep:OpR X (binaryOp .RShift) (rOf X.K shrD):=Qbg.of fun x y H Q h=>by
 obtain⟨i,j,ρ,st,rfl,rfl,sr,p⟩:=Qei (by intro d e;cases d<;>cases e<;>first | exact .inl ⟨_,_,rfl,rfl⟩ | exact .inr rfl) h
 exact⟨_,_,rfl,rfl,p.chk.1,p.chk.2.ret sr _ (.int _)⟩
theorem Qeq:OpR X (compareOp .Lt) (rOf X.K ltD):=Qbj.of fun x y H Q h=>by
 obtain⟨i,j,ρ,st,rfl,rfl,sr,p⟩:=Qei (by intro d e;cases d<;>cases e<;>first | exact .inl ⟨_,_,rfl,rfl⟩ | exact .inr rfl) h
 exact⟨_,_,rfl,rfl,p.ret sr _ (.bl _)⟩
theorem Qer:OpR X (compareOp .LtE) (rOf X.K leD):=Qbk.of fun x y H Q h=>by
 obtain⟨i,j,ρ,st,rfl,rfl,sr,p⟩:=Qei (by intro d e;cases d<;>cases e<;>first | exact .inl ⟨_,_,rfl,rfl⟩ | exact .inr rfl) h
 exact⟨_,_,rfl,rfl,p.ret sr _ (.bl _)⟩
theorem Qes:OpR X (compareOp .Gt) (rOf X.K gtD):=Qbl.of fun x y H Q h=>by
 obtain⟨i,j,ρ,st,rfl,rfl,sr,p⟩:=Qei (by intro d e;cases d<;>cases e<;>first | exact .inl ⟨_,_,rfl,rfl⟩ | exact .inr rfl) h
 exact⟨_,_,rfl,rfl,p.ret sr _ (.bl _)⟩
theorem Qet:OpR X (compareOp .GtE) (rOf X.K geD):=Qbm.of fun x y H Q h=>by
 obtain⟨i,j,ρ,st,rfl,rfl,sr,p⟩:=Qei (by intro d e;cases d<;>cases e<;>first | exact .inl ⟨_,_,rfl,rfl⟩ | exact .inr rfl) h
 exact⟨_,_,rfl,rfl,p.ret sr _ (.bl _)⟩
theorem Qeu:SA X [] cNil:=QbK.of fun σ H Q h_=>h_.el fun ρ l st lr sr p=>p.ret sr [] .nil
theorem Qev (ha:SE X e fa) (hr:SA X es ca) (hs:starEach (e::es) X.env=(false,eval e X.env)::starEach es X.env:=by rfl):SA X (e::es) (cCons fa ca):=
 (QbL ha hr hs).of fun σ H Q h_=>h_.el fun ρ l st lr sr p=>⟨ρ,l,st,lr,sr,p.bnd.imp fun d st1 ρ1 H1 x1 s1 p1 v rv=>⟨ρ1,l,st1,lr.mono x1,s1,p1.bnd.imp fun ds st2 ρ2 H2 x2 s2 p2 vs rvs=>p2.ret s2 _ (.cons (rv.mono x2) rvs)⟩⟩
theorem Qew {k:Nat} (h:SA X es ca):SE X (.Tuple es k pos) (cTup ca):=(QbM h).of fun σ H Q h_=>h_.el fun ρ l st lr sr p=>⟨ρ,l,st,lr,sr,p.bnd.imp fun ds st1 ρ1 H1 x1 s1 p1 vs rvs=>by
 obtain⟨hl,p2⟩:=p1.chk
 refine⟨by rw[rvs.length];exact hl,fun q hq=>?_⟩
 exact p2 ρ1 _ (Ex.new hq) (s1.new hq) _ (.tup (SqT.of Qai) (rvs.mono (Ex.new hq)))⟩
theorem Qex (h:SA X es ca):SL X (.List es pos) (aDisp ca):=(QbN h).of fun σ H Q h_=>h_.el fun ρ l st lr sr p=>⟨ρ,l,st,lr,sr,p.bnd.imp fun ds st1 ρ1 H1 x1 s1 p1 vs rvs=>by
 obtain⟨hl,p2⟩:=p1.chk
 refine⟨by rw[rvs.length];exact hl,fun q hq=>?_⟩
 have hn:H q=none:=by
  cases z:H q with
  | none=>rfl
  | some o=>exact absurd hq (x1.trk q o z)
 exact p2 ρ1 _ (Ex.new hq) (s1.new hq) q vs hn (s1.fresh hq) Qai (rvs.mono (Ex.new hq))⟩
theorem Post.bnd0 {α β:Type}{m:M α}{f:α->M β}{R:β->Sto->List Addr->Hp->Prop} (h:Post K ρ H (MM.bnd m f st) R):Post K ρ H (m st) fun a st' _ _=>Post K ρ H (f a st') R:=by
 unfold MM.bnd at h
 cases e:m st with
 | ok a s'=>
  rw[e]at h
  exact fun ρ' H' y s=>h
 | exc _ _=>rw[e]at h;exact h
 | bad=>rw[e]at h;exact h
theorem Qey (h:SL X e ca):SE X e (cKeep ca):=h.of fun σ H Q h_=>h_.el fun ρ l st lr sr p=>⟨ρ,l,st,lr,sr,p.bnd0.imp fun ds st1 ρ1 H1 x1 s1 p1 a vs ha na hv rvs=>by
 have x:Ex ρ H (ρ1++[a]) H1:=by
  obtain⟨τ,e,f⟩:=x1.pre
  refine⟨⟨τ++[a],by rw[e,List.append_assoc],fun b hb=>?_⟩,x1.fix,x1.oth,x1.knd⟩
  rcases List.mem_append.mp hb with hb | hb
  ·exact f b hb
  ·rw[List.mem_singleton]at hb;rw[hb];exact ha
 refine p1 (ρ1++[a]) H1 x (s1.keep hv na rvs) _ (.ref ⟨_,hv,rfl⟩ ?_)
 rw[<- s1.len];simp⟩
theorem _root_.L2.IxR.of {r r':R2} (h:IxR X r) (g:∀ x y H Q,r' x y H Q->r x y H Q):IxR X r':=fun value slice pins s σ H x y v u Q I rx ry q hs=>h value slice pins s σ H x y v u Q I rx ry (g x y H Q q) hs
theorem Post.item {ds:List D}{i:Int}{R:D->Sto->List Addr->Hp->Prop} (h:Post K ρ H (itemD ds i st) R) (s:SR K ρ H st):∃ k d,L2.ixN ds.length i=some k/\ds[k]?=some d/\R d st ρ H:=by
 unfold itemD at h
 cases e:MM.ixN ds.length i with
 | none=>rw[e]at h;exact h.elim
 | some k=>
  rw[e]at h
  cases e2:ds[k]? with
  | none=>dsimp only at h;rw[e2]at h;exact h.elim
  | some d=>dsimp only at h;rw[e2]at h;exact⟨k,d,e,e2,h.ret s⟩
theorem Qez {vs:List V}{ds:List D}{i:Int}{k:Nat}{d:D} (r:Reps K ρ H vs ds) (h1:L2.ixN ds.length i=some k) (h2:ds[k]?=some d):∃ v,atI vs i=some v/\Rep K ρ H v d:=by
 obtain⟨v,e,rv⟩:=r.get h2
 refine⟨v,?_,rv⟩
 unfold atI
 rw[r.length,h1]
 exact e
theorem Post.itemK {n:Nat}{k:D}{R:D->Sto->List Addr->Hp->Prop} (h:Post K ρ H (MM.itemK n k st) R) (s:SR K ρ H st):∃ b kvs d,st[n]?=some (.dct b kvs)/\kOk b k=true/\lkK kvs k=some d/\R d st ρ H:=by
 obtain⟨b,kvs,e,p1⟩:=Post.getDc (Post.bnd h) s
 obtain⟨hk,p2⟩:=Post.chk p1
 cases e2:lkK kvs k with
 | none=>dsimp only at p2;rw[e2]at p2;exact p2.elim
 | some d=>dsimp only at p2;rw[e2]at p2;exact⟨b,kvs,d,e,hk,e2,p2.ret s⟩
theorem ObR.dictIs {X:Cx}{pins:List (Addr × Obj)}{σ:St}{s:Shared}{a:Addr}{b:Bool}{kvs:List (D × D)} (I:Inv X pins σ H s) (g:ObR X.K ρ H a (.dct b kvs)):s.TypeIs (.ref a) "dict":=by
 cases b with
 | false=>
  obtain⟨es,e,r⟩:=g
  obtain⟨_,_,vs,_,dd⟩:=QcY I.hok e
  exact dd.typeIs
 | true=>
  obtain⟨es,e,r⟩:=g
  obtain⟨_,_,xs,_,dd,_⟩:=QdQ I e r
  exact dd.typeIs
theorem QeA (hu:X.A.units + 60 < cLine):IxR X (fun x y H Q=>∃ (ρ:List Addr) (st:Sto) (n:Nat) (a:Addr) (b:Bool) (kvs:List (D × D)) (k d:D),x=.ref a/\SR X.K ρ H st/\ρ[n]?=some a/\st[n]?=some (.dct b kvs)/\Rep X.K ρ H y k/\kOk b k=true/\lkK kvs k=some d/\∀ v,Rep X.K ρ H v d->Q v H):=by
 intro value slice pins s σ H x y v u Q I rx ry pq149 hs;obtain⟨ρ,st,n,a,b,kvs,k,d,ex,sr,ha,hn,rk,hk,hl,q⟩:=pq149
 subst ex
 cases rx
 have g:=sr.ob n a _ ha hn
 exact tail_any (ObR.dictIs I g) PySem.F.slot_dict_getitem.lookup (QdU (by ac_nf) I g rk hk hl ry fun v w' s' I' rv rw'=>⟨v,H,I',rw',q v rv⟩) hs
theorem QeB {x y:V}{d e:D}{Q:VK} (sr:SR K ρ H st) (rx:Rep K ρ H x d) (ry:Rep K ρ H y e) (hd:∀ n,d≠.dic n) (p:Post K ρ H (subsD d e st) fun r _ ρ' H'=>∀ v,Rep K ρ' H' v r->Q v H'):rIx K x y H Q:=by
 cases ry with
 | int i=>
  cases rx with
  | dic _ _=>exact absurd rfl (hd _)
  | tup h r=>
   obtain⟨k,d,h1,h2,q⟩:=Post.item p sr
   obtain⟨v,h3,rv⟩:=Qez r h1 h2
   exact .inr (.inl ⟨_,_,i,v,rfl,rfl,h,h3,q v rv⟩)
  | lit h r=>
   obtain⟨k,d,h1,h2,q⟩:=Post.item p sr
   obtain⟨v,h3,rv⟩:=Qez r h1 h2
   exact .inl ⟨_,_,i,v,rfl,rfl,h.seq,h3,q v rv⟩
  | ref _ h=>
   obtain⟨xs,e,p1⟩:=Post.getL (Post.bnd p) sr
   obtain⟨a,vs,ha,hv,r⟩:=sr.seq e
   rw[h]at ha;cases ha
   obtain⟨k,d,h1,h2,q⟩:=Post.item p1 sr
   obtain⟨v,h3,rv⟩:=Qez r h1 h2
   exact .inl ⟨_,_,i,v,rfl,rfl,SqL.of hv,h3,q v rv⟩
  | str z=>
   obtain⟨hz,p1⟩:=Post.chk p
   cases e:MM.ixN z.length i with
   | none=>rw[e]at p1;exact p1.elim
   | some k=>
    rw[e]at p1
    cases e2:z.cps.toList[k]? with
    | none=>dsimp only at p1;rw[e2]at p1;exact p1.elim
    | some c=>
     dsimp only at p1
     rw[e2]at p1
     refine .inr (.inr ⟨z,i,c,rfl,rfl,hz,?_,p1.ret sr _ (.str _)⟩)
     unfold atI
     rw[show z.cps.toList.length=z.length by simp[Str.length]]
     show (L2.ixN z.length i).bind _=_
     rw[show L2.ixN z.length i=some k from e]
     exact e2
  | _=>exact p.elim
 | _=>cases rx<;>first | exact absurd rfl (hd _) | exact p.elim
theorem ixd (hu:X.A.units + 60 < cLine):IxR X (rOf X.K subsD):=(Qcj.or (QeA hu)).of fun x y H Q pq60=>by
 obtain⟨ρ,st,d,e,sr,rx,ry,p⟩:=pq60
 by_cases hd:∃ n,d=.dic n
 ·obtain⟨n,rfl⟩:=hd
  cases rx with
  | @dic a n _ h=>
   have p':Post X.K ρ H (itemK n e st) fun r _ ρ' H'=>∀ (v:V),Rep X.K ρ' H' v r->Q v H':=by cases ry<;>exact p
   obtain⟨b,kvs,d,e1,hk,hl,q⟩:=Post.itemK p' sr
   exact .inr ⟨ρ,st,n,a,b,kvs,e,d,rfl,sr,h,e1,ry,hk,hl,q⟩
 ·exact .inl (QeB sr rx ry (fun n z=>hd ⟨n,z⟩) p)
theorem QeC (hu:X.A.units + 60 < cLine) (ha:SE X a fa) (hb:SE X b fb) (hs:PlainIx b):SE X (.Subscript a b pos) (c2 subsD fa fb):=(Qcf (ixd hu) ha hb hs).of (Qdy fun _ _ _ _ h=>h)
theorem QeD (ha:SL X a ca) (hb:SE X b fb) (hs:PlainIx b):SE X (.Subscript a b pos) (cTmpSub ca fb):=(Qcf Qcg ha hb hs).of fun σ H Q h_=>h_.el fun ρ l st lr sr p=>
 ⟨ρ,l,st,lr,sr,p.bnd.imp fun ds st1 ρ1 H1 x1 s1 p1 a vs ha na hv rvs=>⟨ρ1,l,st1,lr.mono x1,s1,p1.bnd.imp fun e st2 ρ2 H2 x2 s2 p2 u ru=>by
  cases ru with
  | int i=>
   obtain⟨k,d,h1,h2,q⟩:=Post.item p2 s2
   obtain⟨v,h3,rv⟩:=Qez (rvs.mono x2) h1 h2
   exact⟨a,vs,i,v,rfl,rfl,SqL.of (x2.lst a vs na hv),h3,q v rv⟩
  | _=>exact p2.elim⟩⟩
theorem QeE {CX : CXT} {k n : Nat} {f : Addr} {fd : FuncData} {ps : List Str} {g : List D -> M D} {x : Str} {p : Pos} (F : FnOk X.prog X.w X.K X.mg X.base CX k f fd ps (spOf X.K n g)) (hr : Room k X.A) (hg : Gl X x) (hm : X.mg x = some (.ref f))
  (hk:PySem.W.keepIn X.K (.ref f)=true) (hb:Binds X.K fd ps []) (hx:Passes CX X E0) (ha:SA X (e::es) ca) (hn:∀ l st ds st',ca l st=.ok ds st'->ds.length=n) (hdb:(x == ("__debug__":Str))=false:=by decide)
  (he:starEach (e::es) X.env=(false,eval e X.env)::starEach es X.env:=by rfl) (hpl:(backTo pos (starEach es X.env)).any (·.1)=false:=by rfl):SE X (.Call (.Name x p) (e::es) [] pos) (cCall g ca):=
 (QbP F hr hg hm hk hb .nil hx ha hdb he hpl).of fun σ H Q h_=>h_.el fun ρ l st lr sr p=>⟨ρ,l,st,lr,sr,by
  have q:=Post.bnd p
  cases ec:ca l st with
  | bad=>rw[ec]at q;exact q
  | exc _ _=>rw[ec]at q;exact q
  | ok ds st1=>
   rw[ec]at q
   intro ρ1 H1 x1 s1 vs rvs
   refine⟨by rw[List.append_nil,rvs.length];exact hn l st ds st1 ec,ρ1,st1,ds,s1,by rw[List.append_nil];exact rvs,q ρ1 H1 x1 s1⟩⟩
variable {ta tb:CT}
theorem QeF {d:D}{v:V}{R:Bool->Sto->List Addr->Hp->Prop} (p:Post K ρ H (truD d st) R) (sr:SR K ρ H st) (rv:Rep K ρ H v d):∃ k,TruV K v H k/\R k st ρ H:=by
 cases rv with
 | non=>exact⟨false,rfl,p.ret sr⟩
 | bl b=>exact⟨b,rfl,p.ret sr⟩
 | int i=>exact⟨_,rfl,p.ret sr⟩
 | str x=>exact⟨_,⟨(Post.chk p).1,rfl⟩,(Post.chk p).2.ret sr⟩
 | @tup a vs ds h r=>
  refine⟨!vs.isEmpty,.inr (.inl ⟨vs,h,rfl⟩),?_⟩
  have:vs.isEmpty=ds.isEmpty:=by
   have:=r.length
   cases vs<;>cases ds<;>simp_all
  rw[this];exact p.ret sr
 | @lit a vs ds h r=>
  refine⟨!vs.isEmpty,.inl ⟨vs,h.seq,rfl⟩,?_⟩
  have:vs.isEmpty=ds.isEmpty:=by
   have:=r.length
   cases vs<;>cases ds<;>simp_all
  rw[this];exact p.ret sr
 | ref _ h=>
  obtain⟨ds,e,p1⟩:=Post.getL (Post.bnd p) sr
  obtain⟨a,vs,ha,hv,r⟩:=sr.seq e
  rw[h]at ha;cases ha
  refine⟨!vs.isEmpty,.inl ⟨vs,SqL.of hv,rfl⟩,?_⟩
  have:vs.isEmpty=ds.isEmpty:=by
   have:=r.length
   cases vs<;>cases ds<;>simp_all
  rw[this];exact p1.ret sr
 | dic _ _=>exact p.elim
 | exn0 _ _=>exact p.elim
 | exn _ _ _ _=>exact p.elim
theorem QeG (ha:SE X a fa) (he:∀ whole,isTrue a X.env whole=(do let v <- whole;standAt a.pos;holding [v] (truthy v)):=by intro _;rfl):ST X a (tVal fa):=
 (Qby ha he).of fun σ H Q h_=>h_.el fun ρ l st lr sr p=>⟨ρ,l,st,lr,sr,p.bnd.imp fun d st1 ρ1 H1 x1 s1 p1 v rv=>QeF p1 s1 rv⟩
theorem QeH {op:CmpOp}{g:D->D->M D} (ho:OpR X (compareOp op) (rOf X.K g)) (ha:SE X a fa) (hb:SE X b fb) (hm:behindInMarks op b=false):ST X (.Compare a [op] [b] pos) (tCmpB (c2 g fa fb)):=
 (Qbr ho ha hb hm).of fun σ H Q h_=>h_.el fun ρ l st lr sr p=>Qdy (X:=X) (fun _ _ _ _ h=>h) _ _ _ ⟨ρ,l,st,lr,sr,p.bnd.imp fun d st1 ρ1 H1 x1 s1 p1 v rv=>by
  cases rv with
  | bl k=>exact⟨k,rfl,p1.ret s1⟩
  | _=>exact p1.elim⟩
theorem QeI (ha:ST X a ta):PW X (.BoolOp .And [a] pos) (ttOf X.K ta):=QaB ha
theorem QeJ (ha:ST X a ta):PW X (.BoolOp .Or [a] pos) (ttOf X.K ta):=QaC ha
theorem _root_.L2.PW.of {e:Expr}{t t':TT} (h:PW X e t) (f:∀ σ H Q,t' σ H Q->t σ H Q):PW X e t':=fun whole pins s σ H Q I q=>h whole pins s σ H Q I (f σ H Q q)
theorem QeK {rest:List Expr} (ha:ST X a ta) (hb:PW X (.BoolOp .And (b::rest) pos) (ttOf X.K tb)):PW X (.BoolOp .And (a::b::rest) pos) (ttOf X.K (tAndB ta tb)):=
 (QaD ha hb).of fun σ H Q h_=>h_.el fun ρ l st lr sr p=>⟨ρ,l,st,lr,sr,p.bnd.imp fun c st1 ρ1 H1 x1 s1 p1=>by
  cases c with
  | true=>exact⟨ρ1,l,st1,lr.mono x1,s1,p1⟩
  | false=>exact p1.ret s1⟩
theorem QeL {rest:List Expr} (ha:ST X a ta) (hb:PW X (.BoolOp .Or (b::rest) pos) (ttOf X.K tb)):PW X (.BoolOp .Or (a::b::rest) pos) (ttOf X.K (tOrB ta tb)):=
 (QaE ha hb).of fun σ H Q h_=>h_.el fun ρ l st lr sr p=>⟨ρ,l,st,lr,sr,p.bnd.imp fun c st1 ρ1 H1 x1 s1 p1=>by
  cases c with
  | true=>exact p1.ret s1
  | false=>exact⟨ρ1,l,st1,lr.mono x1,s1,p1⟩⟩
theorem QeM (ha:ST X a ta):ST X (.UnaryOp .Not a pos) (tNotB ta):=(QaF ha).of fun σ H Q h_=>h_.el fun ρ l st lr sr p=>⟨ρ,l,st,lr,sr,p.bnd.imp fun c st1 ρ1 H1 x1 s1 p1=>p1.ret s1⟩
theorem QeN {op:BoolOp} (h:SE X a fa):SE X (.BoolOp op [a] pos) fa:=QaG h
theorem QeO {rest:List Expr} (ha:SE X a fa) (hb:SE X (.BoolOp .And (b::rest) pos) fb):SE X (.BoolOp .And (a::b::rest) pos) (cAnd fa fb):=
 (QaH ha hb).of fun σ H Q h_=>h_.el fun ρ l st lr sr p=>⟨ρ,l,st,lr,sr,p.bnd.imp fun d st1 ρ1 H1 x1 s1 p1 v rv=>by
  cases rv with
  | bl c=>
   refine⟨c,rfl,?_⟩
   cases c with
   | true=>exact⟨ρ1,l,st1,lr.mono x1,s1,p1⟩
   | false=>exact p1.ret s1 _ (.bl false)
  | _=>exact p1.elim⟩
theorem QeP (ha : SE X a fa) : SE X (.UnaryOp .Not a pos) (cNot fa) := (QaI ha).of fun σ H Q h_ => h_.el fun ρ l st lr sr p => ⟨ρ, l, st, lr, sr, p.bnd.imp fun d st1 ρ1 H1 x1 s1 p1 v rv => by
  cases rv with
  | bl c=>exact⟨c,rfl,p1.ret s1 _ (.bl _)⟩
  | _=>exact p1.elim⟩
theorem QeQ (hc : ST X c ta) (ha : SE X a fa) (hb : SE X b fb) : SE X (.IfExp c a b pos) (cIfE ta fa fb) := (QaJ hc ha hb).of fun σ H Q h_ => h_.el fun ρ l st lr sr p => ⟨ρ, l, st, lr, sr, p.bnd.imp fun k st1 ρ1 H1 x1 s1 p1 => by
  cases k with
  | true=>exact⟨ρ1,l,st1,lr.mono x1,s1,p1⟩
  | false=>exact⟨ρ1,l,st1,lr.mono x1,s1,p1⟩⟩
theorem QeR {f g:D->D->M D}:∀ σ H Q,tOf X.K (cChain f g fa fb fc) σ H Q->tChain (rOf X.K f) (rOf X.K g) (tOf X.K fa) (tOf X.K fb) (tOf X.K fc) σ H Q:=fun σ H Q h_=>h_.el fun ρ l st lr sr p=>
 ⟨ρ,l,st,lr,sr,p.bnd.imp fun d st1 ρ1 H1 x1 s1 p1 v rv=>⟨ρ1,l,st1,lr.mono x1,s1,p1.bnd.imp fun e st2 ρ2 H2 x2 s2 p2 u ru=>⟨ρ2,st2,d,e,s2,rv.mono x2,ru,p2.bnd.imp fun z st3 ρ3 H3 x3 s3 p3 w rw'=>by
  cases rw' with
  | bl k=>
   refine⟨k,rfl,?_⟩
   cases k with
   | true=>exact⟨ρ3,l,st3,(lr.mono x1).mono (x2.trans x3),s3,p3.bnd.imp fun t st4 ρ4 H4 x4 s4 p4 q rq=>⟨ρ4,st4,e,t,s4,(ru.mono x3).mono x4,rq,p4⟩⟩
   | false=>exact p3.ret s3 _ (.bl false)
  | _=>exact p3.elim⟩⟩⟩
theorem QeS {op op' : CmpOp} {f g : D -> D -> M D} (ho : OpR X (compareOp op) (rOf X.K f)) (ho' : OpR X (compareOp op') (rOf X.K g)) (ha : SE X a fa) (hb : SE X b fb) (hc : SE X c fc)
  (hm:lastMarks [op,op'] [b,c]=false:=by with_unfolding_all rfl):SE X (.Compare a [op,op'] [b,c] pos) (cChain f g fa fb fc):=(Qbs ho ho' ha hb hc hm).of QeR
theorem QeT {op op' : CmpOp} {f g : D -> D -> M D} (ho : OpR X (compareOp op) (rOf X.K f)) (ho' : OpR X (compareOp op') (rOf X.K g)) (ha : SE X a fa) (hb : SE X b fb) (hc : SE X c fc)
  (hm:lastMarks [op,op'] [b,c]=false:=by with_unfolding_all rfl):ST X (.Compare a [op,op'] [b,c] pos) (tCmpB (cChain f g fa fb fc)):=
 (Qbt ho ho' ha hb hc hm).of fun σ H Q h_=>h_.el fun ρ l st lr sr p=>QeR _ _ _ ⟨ρ,l,st,lr,sr,p.bnd.imp fun d st1 ρ1 H1 x1 s1 p1 v rv=>by
  cases rv with
  | bl k=>exact⟨k,rfl,p1.ret s1⟩
  | _=>exact p1.elim⟩
end
theorem LR.set {K:PySem.W.Frag}{ρ:List Addr}{H:Hp}{σ:St}{l:Loc}{v:V}{d:D} (h:LR K ρ H σ l) (i:Nat) (r:Rep K ρ H v d):LR K ρ H (σ.set i (some v)) (l.set i (some d)):=by
 refine⟨by simp[h.1],fun j e q=>?_⟩
 by_cases z:i=j
 ·subst z
  by_cases hl:i < l.length
  ·rw[List.getElem?_set_self hl]at q
   cases q
   exact⟨v,by rw[List.getElem?_set_self (by rw[h.1];exact hl)],r⟩
  ·rw[List.getElem?_eq_none (by simp;ac_nf)]at q;cases q
 ·rw[List.getElem?_set_ne z]at q
  obtain⟨w,e1,r1⟩:=h.2 j e q
  exact⟨w,by rw[List.getElem?_set_ne z];exact e1,r1⟩
theorem LR.start {K:PySem.W.Frag}{ρ:List Addr}{H:Hp}{N:List Str}{vs:List V}{ds:List D} (r:Reps K ρ H vs ds):LR K ρ H (L2.start N vs) (ds.map some++List.replicate (N.length - ds.length) none):=by
 have hl:=r.length
 unfold L2.start
 refine⟨by simp[hl],fun i d e=>?_⟩
 by_cases hi:i < ds.length
 ·rw[List.getElem?_append_left (by simpa using hi),List.getElem?_map]at e
  cases q:ds[i]? with
  | none=>rw[q]at e;cases e
  | some d'=>
   rw[q]at e
   have e':d'=d:=Option.some.inj (Option.some.inj e)
   subst e'
   obtain⟨v,hv,rv⟩:=r.get q
   refine⟨v,?_,rv⟩
   rw[List.getElem?_append_left (by simp;ac_nf),List.getElem?_map,hv];rfl
 ·rw[List.getElem?_append_right (by simpa using hi),List.getElem?_replicate]at e
  split at e<;>cases e
section
variable {X:Cx}{a b c e tg:Expr}{es:List Expr}{s:Stmt}{ss:List Stmt}{pos:Pos}{fa fb fc:CE}{ca cb:CA}{ta tb:CT}{cs cr:CS}{K:PySem.W.Frag}{ρ:List Addr}{H:Hp}{st:Sto}
noncomputable abbrev SG (X:Cx) (e:Expr) (g:CG):Prop:=PG X e (tgOf X.K g)
noncomputable abbrev SGs (X:Cx) (e:List Expr) (g:List D->Loc->M Loc):Prop:=PGs X e (tgsOf X.K g)
theorem QeU {i:Nat}{x:Str} (h:PG X (.Name x pos) (gName i)):SG X (.Name x pos) (gVar i):=h.of fun v σ H Q pq61=>by obtain⟨ρ,l,st,d,lr,sr,rv,p⟩:=pq61;exact p.ret sr _ (lr.set i rv)
theorem QeV:SGs X [] gsNil:=QaQ.of fun vs σ H Q pq62=>by
 obtain⟨ρ,l,st,ds,lr,sr,rvs,p⟩:=pq62
 cases rvs with
 | nil=>exact⟨rfl,p.ret sr σ lr⟩
 | cons _ _=>exact p.elim
theorem QeW {g:CG}{r:List D->Loc->M Loc} (h1:SG X e g) (h2:SGs X es r) (hs:(assignEach (e::es) X.env).map (·.2)=assign e X.env::(assignEach es X.env).map (·.2):=by rfl):SGs X (e::es) (gsCons g r):=
 (QaR h1 h2 hs).of fun vs σ H Q pq63=>by
  obtain⟨ρ,l,st,ds,lr,sr,rvs,p⟩:=pq63
  cases rvs with
  | nil=>exact p.elim
  | cons rv rt=>exact⟨_,_,rfl,ρ,l,st,_,lr,sr,rv,(Post.bnd p).imp fun l1 st1 ρ1 H1 x1 s1 p1 σ1 lr1=>⟨ρ1,l1,st1,_,lr1,s1,rt.mono x1,p1⟩⟩
theorem QeX {k n:Nat}{r:List D->Loc->M Loc} (hc:X.calm=true) (h:SGs X es r) (hn:(assignEach es X.env).length=n:=by rfl) (hst:(assignEach es X.env).findIdx? (·.1)=none:=by rfl):SG X (.Tuple es k pos) (gTupD n r):=
 (QaS hc h hn hst).of fun v σ H Q pq64=>by
  obtain⟨ρ,l,st,d,lr,sr,rv,p⟩:=pq64
  cases rv with
  | tup h r=>exact⟨_,_,rfl,h,by rw[r.length];exact (Post.chk p).1,ρ,l,st,_,lr,sr,r,(Post.chk p).2⟩
  | _=>exact p.elim
theorem QeY:SSs X [] sNext:=QaK.of fun G σ H h_=>h_.el fun ρ l st lr sr p=>p.ret sr σ lr
theorem QeZ (h1:SS X s cs) (h2:SSs X ss cr):SSs X (s::ss) (sSeq cs cr):=(QaL h1 h2).of fun G σ H h_=>h_.el fun ρ l st lr sr p=>⟨ρ,l,st,lr,sr,p.bnd.imp fun f st1 ρ1 H1 x1 s1 p1=>by
 cases f with
 | next l'=>exact fun σ' lr'=>⟨ρ1,l',st1,lr',s1,p1⟩
 | ret d=>exact p1.ret s1
 | brk l'=>exact p1.ret s1
 | cnt l'=>exact p1.ret s1⟩
theorem Qe0 (h:SE X e fa):SS X (.Return (some e) pos) (sRet fa):=(QaN h).of fun G σ H h_=>h_.el fun ρ l st lr sr p=>⟨ρ,l,st,lr,sr,p.bnd.imp fun d st1 ρ1 H1 x1 s1 p1 v rv=>p1.ret s1 v rv⟩
theorem Qe1 (h:SE X e fa) (hs:swapsWith e none pos.line X.env=pure false:=by rfl):SS X (.Expr e pos) (sExp fa):=(QaM h hs).of fun G σ H h_=>h_.el fun ρ l st lr sr p=>
 ⟨ρ,l,st,lr,sr,p.bnd.imp fun d st1 ρ1 H1 x1 s1 p1 v rv=>p1.ret s1 σ (lr.mono x1)⟩
theorem Qe2 (hc:ST X c ta) (ha:SSs X ss cs) {sr:List Stmt} (hb:SSs X sr cr):SS X (.If c ss sr pos) (sIf ta cs cr):=(QaO hc ha hb).of fun G σ H h_=>h_.el fun ρ l st lr sr p=>
 ⟨ρ,l,st,lr,sr,p.bnd.imp fun k st1 ρ1 H1 x1 s1 p1=>by
  cases k with
  | true=>exact⟨ρ1,l,st1,lr.mono x1,s1,p1⟩
  | false=>exact⟨ρ1,l,st1,lr.mono x1,s1,p1⟩⟩
theorem Qe3 {g:CG}{te:TE}{tg:TG} (he:∀ σ H Q,tOf X.K fa σ H Q->te σ H Q) (hg:∀ v σ H Q,tgOf X.K g v σ H Q->tg v σ H Q):∀ G σ H,tsOf X.K (sAsg g fa) G σ H->tAsg te tg G σ H:=fun G σ H h_=>h_.el fun ρ l st lr sr p=>
 he _ _ _ ⟨ρ,l,st,lr,sr,p.bnd.imp fun d st1 ρ1 H1 x1 s1 p1 v rv=>hg _ _ _ _ ⟨ρ1,l,st1,d,lr.mono x1,s1,rv,p1.bnd.imp fun l2 st2 ρ2 H2 x2 s2 p2 σ2 lr2=>p2.ret s2 σ2 lr2⟩⟩
theorem Qe4 {i:Nat}:∀ v σ H Q,tgOf X.K (gVar i) v σ H Q->gName i v σ H Q:=fun v σ H Q pq65=>by obtain⟨ρ,l,st,d,lr,sr,rv,p⟩:=pq65;exact p.ret sr _ (lr.set i rv)
theorem Qe5 {i : Nat} {x : Str} {pos' : Pos} (hN : X.N.Nodup) (hi : X.N[i]? = some x) (hx : L2.Loc X.env.scope x) (he : SE X e fa) (hs : swapsWith e (some (.Name x pos')) pos.line X.env = pure false := by rfl)
  (hf:X.fn x=true\/X.env.scope.names.lookup x=some .local:=by first | exact .inl rfl | exact .inr rfl | assumption):SS X (.Assign [.Name x pos'] e pos) (sAsg (gVar i) fa):=
 (QaV hN hi hx he hs hf).of (Qe3 (fun _ _ _ h=>h) Qe4)
theorem Qe6 {g : CG} (he : SE X e fa) (hg : SG X tg g) (hs : swapsWithSole [tg] e pos.line X.env = pure false := by rfl) (hw : swappedStores [tg] e X.env = pure none := by rfl)
  (h1:(assignEach [tg] X.env).map (·.2)=[assign tg X.env]:=by rfl):SS X (.Assign [tg] e pos) (sAsg g fa):=(QaU he hg hs hw h1).of (Qe3 (fun _ _ _ h=>h) fun _ _ _ _ h=>h)
theorem Post.storeK {n:Nat}{k v:D}{R:Unit->Sto->List Addr->Hp->Prop} (h:Post K ρ H (MM.storeK n k v st) R) (s:SR K ρ H st):∃ b kvs,st[n]?=some (.dct b kvs)/\kOk b k=true/\kvs.length < lim/\Post K ρ H (.ok () (st.set n (.dct b (ptK kvs k v)))) R:=by
 obtain⟨b,kvs,e,p1⟩:=Post.getDc (Post.bnd h) s
 obtain⟨⟨hk,hl⟩,p2⟩:=Post.chk p1
 refine⟨b,kvs,e,hk,hl,?_⟩
 unfold putDc at p2
 rw[e]at p2
 simpa using p2
noncomputable def rSetD (X:Cx):V->V->V->Hp->(Hp->Prop)->Prop:=fun o i v H Q=>∃ (ρ:List Addr) (st:Sto) (n:Nat) (a:Addr) (b:Bool) (kvs:List (D × D)) (k d:D),o=.ref a/\SR X.K ρ H st/\ρ[n]?=some a/\st[n]?=some (.dct b kvs)/\Rep X.K ρ H i k/\kOk b k=true/\kvs.length < sizeLine/\Rep X.K ρ H v d /\
 ∀ H',SR X.K ρ H' (st.set n (.dct b (ptK kvs k d)))->Ex ρ H ρ H'->Q H'
theorem Qe7 (hu:X.A.units + 60 < cLine):PSet X (rSetD X):=by
 intro pins s σ H o i v ov iv u Q I ro ri rv pq150;obtain⟨ρ,st,n,a,b,kvs,k,d,eo,sr,ha,hn,rk,hk,hl,rd,q⟩:=pq150
 subst eo
 cases ro
 exact QdX (by ac_nf) I sr ha hn rk hk hl rd ri rv fun H' s' I' s3 x3=>⟨H',I',q H' s3 x3⟩
theorem _root_.L2.PSet.or {t t':TSet} (h:PSet X t) (h':PSet X t'):PSet X (fun o i v H Q=>t o i v H Q\/t' o i v H Q):=by
 intro pins s σ H o i v ov iv u Q I ro ri rv q
 rcases q with q | q
 ·exact h pins s σ H o i v ov iv u Q I ro ri rv q
 ·exact h' pins s σ H o i v ov iv u Q I ro ri rv q
theorem Qe8 {to ti : CE} {o i : Expr} (hu : X.A.units + 60 < cLine) (ho : SE X o to) (hi : SE X i ti)
  (ha:∀ v,assign (.Subscript o i pos) X.env v=(do
   let ov <- holding [v] (eval o X.env)
   let iv <- holding [v,ov] (eval i X.env)
   standAt pos
   holding [v,ov,iv] (setItem ov iv v)
   release [v,ov,iv] []):=by intro _;rfl):SG X (.Subscript o i pos) (gSubD to ti):=
 (QaT ho hi (Qcl.or (Qe7 hu)) ha).of fun v σ H Q pq66=>by obtain⟨ρ,l,st,d,lr,sr,rv,p⟩:=pq66;exact⟨ρ,l,st,lr,sr,p.bnd.imp fun y st1 ρ1 H1 x1 s1 p1 u ru=>⟨ρ1,l,st1,lr.mono x1,s1,p1.bnd.imp fun z st2 ρ2 H2 x2 s2 p2 w rw'=>by
  have ru2:=ru.mono x2
  have rd:Rep X.K ρ2 H2 v d:=(rv.mono x1).mono x2
  cases ru2 with
  | ref _ h=>
   cases rw' with
   | int k=>
    obtain⟨ds,e,p3⟩:=Post.getL (Post.bnd (Post.bnd p2)) s2
    obtain⟨a,vs,ha,hv,r⟩:=s2.seq e
    rw[h]at ha;cases ha
    cases e2:MM.ixN ds.length k with
    | none=>rw[e2]at p3;exact p3.elim
    | some j=>
     rw[e2]at p3
     have hl:=(List.getElem?_eq_some_iff.mp e).1
     obtain⟨s3,x3⟩:=s2.put hl h hv (r.set j rd)
     refine .inl ⟨_,vs,k,j,rfl,rfl,hv,by rw[r.length];exact e2,?_⟩
     have p4:Post X.K ρ2 H2 (putL _ (ds.set j d) st2) _:=p3
     unfold putL at p4
     rw[e]at p4
     exact (p4 ρ2 _ x3 s3).ret s3 σ (((lr.mono x1).mono x2).mono x3)
   | _=>exact (Post.bnd p2).elim
  | @dic a n _ h=>
   have p':Post X.K ρ2 H2 (storeK n z d st2) fun a st' ρ' H'=>Post X.K ρ' H' (MM.ret l st') fun l' _ ρ' H'=>∀ σ',LR X.K ρ' H' σ' l'->Q σ' H':=by cases rw'<;>exact Post.bnd p2
   obtain⟨b,kvs,e1,hk,hl,q⟩:=Post.storeK p' s2
   exact .inr ⟨ρ2,st2,n,a,b,kvs,z,d,rfl,s2,h,e1,rw',hk,hl,rd,fun H3 s3 x3=>(q ρ2 H3 x3 s3).ret s3 σ (((lr.mono x1).mono x2).mono x3)⟩
  | _=>exact (Post.bnd p2).elim⟩⟩
theorem Qe9 {P : Program} {w : World} {K : PySem.W.Frag} {mg : Str -> Option Value} {base : Heap} {x qual : Str} {sd : Stmt} {f : Addr} {fd : FuncData} {N ps : List Str} {k : Nat} {body : CS} (F : Fun K x qual sd f fd) (S : FnScope N ps (defScope sd))
  (hbody:∀ (cdv:Value) (A:Around) (outer:List Env) (s:Shared) (H:Hp) (E:XK),Room k (A.deeper (envOfC qual (defScope sd) s.heap.objs.size f cdv))->SSs (cxOf CX0 P w K mg base N qual (defScope sd) f cdv A outer s H E).nox (defBody sd) body):
  FnOk P w K mg base CX0 (k + 1) f fd ps (spOf K ps.length (runDef N.length body)):=by
 refine F.ok S (fun vs H Q E h=>h.1) (fun cdv A outer s H vs Q E hr h=>⟨_,hbody cdv A outer s H E hr,?_⟩)
 obtain⟨hl,ρ,st,ds,sr,rvs,p⟩:=h
 refine⟨ρ,_,st,LR.start rvs,sr,?_⟩
 unfold runDef at p
 exact p.bnd.imp fun f st1 ρ1 H1 x1 s1 p1=>by
  cases f with
  | next l=>exact fun σ' _=>p1.ret s1 _ .non
  | ret d=>exact fun v rv=>p1.ret s1 v rv
  | brk l=>exact p1.elim
  | cnt l=>exact p1.elim
noncomputable def ItR (K:PySem.W.Frag) (ρ0:List Addr) (H0:Hp) (w:Wk) (J:It):Prop:=∀ ρ H st,Ex ρ0 H0 ρ H->SR K ρ H st->w.same st->J.stop w.ds.length H/\∀ (i:Nat) (d:D),w.ds[i]?=some d->J.go i H/\∀ x H',J.yld i H x H'->Ex ρ H ρ H'/\SR K ρ H' st/\Rep K ρ H' x d
noncomputable def tiOf (K:PySem.W.Frag) (f:CI):TI:=fun σ H R=>∃ ρ l st,LR K ρ H σ l/\SR K ρ H st/\Post K ρ H (f l st) fun w _ ρ' H'=>∀ J,ItR K ρ' H' w J->R J H'
noncomputable abbrev SI (X:Cx) (tg e:Expr) (f:CI):Prop:=PI X tg e (tiOf X.K f)
theorem _root_.L2.PI.of {tg e:Expr}{t t':TI} (h:PI X tg e t) (f:∀ σ H R,t' σ H R->t σ H R):PI X tg e t':=fun pins s σ H R I q=>h pins s σ H R I (f σ H R q)
theorem Qfa {ρ0:List Addr}{H0:Hp}{ds:List D}{p:Sto->Prop}{a:Addr} (h:∀ ρ H st,Ex ρ0 H0 ρ H->SR K ρ H st->p st->∃ vs,SqL K H a vs/\Reps K ρ H vs ds):ItR K ρ0 H0 ⟨ds,p⟩ (Itl K a):=fun ρ H st x s q=>by
 obtain⟨vs,hv,r⟩:=h ρ H st x s q
 refine⟨⟨vs,hv,by rw[r.length];exact Nat.le_refl _⟩,fun i d e=>?_⟩
 obtain⟨v,e1,rv⟩:=r.get e
 refine⟨⟨vs,v,hv,e1⟩,fun y H' pq67=>?_⟩
 obtain⟨e2,e3⟩:=pq67
 subst e2
 have:=e3 vs hv
 rw[e1]at this;cases this
 exact⟨Ex.refl,s,rv⟩
theorem Qfb {ρ0:List Addr}{H0:Hp}{ds:List D}{p:Sto->Prop}{a:Addr} (h:∀ ρ H st,Ex ρ0 H0 ρ H->SR K ρ H st->p st->∃ vs,SqT K H a vs/\Reps K ρ H vs ds):ItR K ρ0 H0 ⟨ds,p⟩ (Itt K a):=fun ρ H st x s q=>by
 obtain⟨vs,hv,r⟩:=h ρ H st x s q
 refine⟨⟨vs,hv,by rw[r.length];exact Nat.le_refl _⟩,fun i d e=>?_⟩
 obtain⟨v,e1,rv⟩:=r.get e
 refine⟨⟨vs,v,hv,e1⟩,fun y H' pq68=>?_⟩
 obtain⟨e2,e3⟩:=pq68
 subst e2
 have:=e3 vs hv
 rw[e1]at this;cases this
 exact⟨Ex.refl,s,rv⟩
theorem Qfc {ρ0:List Addr}{H0:Hp}{lo:Int}{n:Nat}:ItR K ρ0 H0 ⟨rngD lo n,anySt⟩ (Itr lo n):=fun ρ H st x s _=>by
 refine⟨by show n<=(rngD lo n).length;unfold rngD;simp,fun i d e=>?_⟩
 have hi:i < n:=by
  have:=(List.getElem?_eq_some_iff.mp e).1
  simpa [rngD] using this
 refine⟨hi,fun y H' pq69=>?_⟩
 obtain⟨e2,e3⟩:=pq69
 subst e2 e3
 have:d=.int (lo + (i:Nat)):=by
  unfold rngD at e
  rw[List.getElem?_map,List.getElem?_range hi]at e
  exact (Option.some.inj e).symm
 subst this
 exact⟨Ex.refl,s,.int _⟩
theorem Qfd {l:Expr}{tl:TE} (hl:PE X l tl):PI X tg l (fun σ H R=>tl σ H fun x H1=>∃ a,x=.ref a/\((∃ xs,SqL X.K H1 a xs)/\R (Itl X.K a) H1\/(∃ xs,SqT X.K H1 a xs)/\R (Itt X.K a) H1)):=by
 intro pins s σ H R I h
 refine thn (hl pins s σ H _ I h) fun v s1 pq70=>?_
 obtain⟨x,H1,I1,r1,a,e,q⟩:=pq70
 subst e
 cases r1
 rcases q with ⟨⟨xs,hq⟩,q⟩ | ⟨⟨xs,hq⟩,q⟩
 ·obtain⟨its,rv,p,hz⟩:=I1.list hq
  refine wpAny_pyIter_list p.isList ?_
  refine⟨s1.heap.objs.size,[s1.heap.objs.size],_,_,H1,rfl,I1.kept (t':=s1.toks) fun b o e=>Heap.get?_push_of_some _ e,QaY a _,⟨_,Heap.get?_push_size _ rfl,rfl,rfl⟩,fun b hb=>?_,q⟩
  have e:b=s1.heap.objs.size:=by simpa using hb
  subst e
  exact I1.fpOk (Nat.le_refl _) (I1.hok.fresh (Nat.le_refl _))
 ·obtain⟨its,rv,p,hz⟩:=I1.tuple hq
  refine wpAny_pyIter_tuple (show s1.heap.IsTuple a its.toArray from p) ?_
  refine⟨s1.heap.objs.size,[s1.heap.objs.size],_,_,H1,rfl,I1.kept (t':=s1.toks) fun b o e=>Heap.get?_push_of_some _ e,QaZ a _,⟨_,Heap.get?_push_size _ rfl,rfl,rfl⟩,fun b hb=>?_,q⟩
  have e:b=s1.heap.objs.size:=by simpa using hb
  subst e
  exact I1.fpOk (Nat.le_refl _) (I1.hok.fresh (Nat.le_refl _))
theorem Qfe (h:SE X e fa):SI X tg e (iSeq fa):=(Qfd h).of fun σ H R h_=>h_.el fun ρ l st lr sr p=>⟨ρ,l,st,lr,sr,p.bnd.imp fun d st1 ρ1 H1 x1 s1 p1 v rv=>by
 cases rv with
 | @tup a vs ds h r=>exact⟨a,rfl,.inr ⟨⟨vs,h⟩,p1.ret s1 _ (Qfb fun ρ H st x s _=>⟨vs,SqT.mono x.up h,r.mono x⟩)⟩⟩
 | @lit a vs ds h r=>exact⟨a,rfl,.inl ⟨⟨vs,h.seq⟩,p1.ret s1 _ (Qfa fun ρ H st x s _=>⟨vs,(FzL.mono x.up h).seq,r.mono x⟩)⟩⟩
 | @ref a n _ h=>
  obtain⟨ds,e,p2⟩:=Post.getL (Post.bnd p1) s1
  obtain⟨a',vs,ha,hv,r⟩:=s1.seq e
  rw[h]at ha;cases ha
  refine⟨a,rfl,.inl ⟨⟨vs,SqL.of hv⟩,p2.ret s1 _ (Qfa fun ρ H st x s q=>?_)⟩⟩
  obtain⟨a2,ws,ha2,hw,rw'⟩:=s.seq q
  obtain⟨τ,eτ,_⟩:=x.pre
  rw[eτ,Qdq h]at ha2;cases ha2
  exact⟨ws,SqL.of hw,rw'⟩
 | _=>exact p1.elim⟩
theorem Qff (h:SL X e ca):SI X tg e (iTmp ca):=(Qa1 h).of fun σ H R h_=>h_.el fun ρ l st lr sr p=>⟨ρ,l,st,lr,sr,p.bnd.imp fun ds st1 ρ1 H1 x1 s1 p1 a vs ha na hv rvs=>
 ⟨a,rfl,⟨vs,SqL.of hv⟩,p1.ret s1 _ (Qfa fun ρ H st x s _=>⟨vs,SqL.of (x.lst a vs na hv),rvs.mono x⟩)⟩⟩
theorem Qfg {p:Pos} (hg:Gl X "range") (hm:X.mg "range"=none) (h:SE X a fa) (hs:starEach [a] X.env=[(false,eval a X.env)]:=by rfl):SI X tg (.Call (.Name "range" p) [a] [] pos) (MM.iRng1 fa):=
 (Qa3 (tg:=tg) (p:=p) (pos:=pos) hg hm (Qev h Qeu hs) hs).of fun σ H R h_=>h_.el fun ρ l st lr sr p=>⟨ρ,l,st,lr,sr,by
  have q:=Post.bnd p
  unfold cCons
  show Post X.K ρ H (bnd (fa l) _ st) _
  unfold MM.bnd
  cases e:fa l st with
  | bad=>rw[e]at q;exact q
  | exc _ _=>rw[e]at q;exact q
  | ok d st1=>
   rw[e]at q
   show ∀ ρ' H',Ex ρ H ρ' H'->SR X.K ρ' H' st1->_
   intro ρ1 H1 x1 s1 vs rvs
   have p1:=q ρ1 H1 x1 s1
   cases rvs with
   | cons rv rt=>
    cases rt
    cases rv with
    | int j=>
     obtain⟨⟨h1,h2⟩,p2⟩:=Post.chk p1
     exact⟨j,rfl,h1,h2,p2.ret s1 _ Qfc⟩
    | _=>exact p1.elim⟩
theorem Post.chkS {p:Sto->Prop}{R:Unit->Sto->List Addr->Hp->Prop} (h:Post K ρ H (MM.chkS p st) R) (s:SR K ρ H st):p st/\R () st ρ H:=by
 unfold MM.chkS at h
 by_cases hp:p st
 ·rw[if_pos hp]at h;exact⟨hp,h ρ H Ex.refl s⟩
 ·rw[if_neg hp]at h;exact h.elim
theorem Qfh {iter : Expr} {body : List Stmt} {ci : CI} {g : CG} {cb : CS} (hp : PassesOwn (model X.prog X.w) X.A X.env X.xe) (hc : X.calm = true) (hi : SI X tg iter ci) (hg : SG X tg g) (hb : SSs X body cb)
  (hs:∀ x,foldedSetIterable iter X.env x=pure x:=by intro _;rfl):SS X (.For tg iter body [] pos) (sFor ci g cb):=(Qa6 hp hc hi hg hb hs).of fun G σ H h_=>h_.el fun ρ l st lr sr p=>
 ⟨ρ,l,st,lr,sr,p.bnd.imp fun w st1 ρ1 H1 x1 s1 p1 J hJ=>by
  refine⟨fun i m σ' H'=>m=w.ds.length - i/\i<=w.ds.length/\∃ ρ' l' st',Ex ρ1 H1 ρ' H'/\LR X.K ρ' H' σ' l'/\SR X.K ρ' H' st'/\Post X.K ρ' H' (forD g cb w.same (w.ds.drop i) l' st') fun f _ ρ' H'=>match f with
   | .next l'=>∀ σ',LR X.K ρ' H' σ' l'->G.nx σ' H'
   | .ret d=>∀ v,Rep X.K ρ' H' v d->G.rt v H'
   | .brk l'=>∀ σ',LR X.K ρ' H' σ' l'->G.bk σ' H'
   | .cnt l'=>∀ σ',LR X.K ρ' H' σ' l'->G.ct σ' H',⟨w.ds.length,by simp,Nat.zero_le _,ρ1,l,st1,Ex.refl,lr.mono x1,s1,p1⟩,?_⟩
  rintro i m σ2 H2 ⟨rfl,hi,ρ2,l2,st2,x2,lr2,s2,p2⟩
  by_cases hlt:i < w.ds.length
  ·have ed:w.ds.drop i=w.ds[i]::w.ds.drop (i + 1):=List.drop_eq_getElem_cons hlt
   rw[ed]at p2
   unfold forD at p2
   obtain⟨sm,p3⟩:=Post.chkS (Post.bnd p2) s2
   obtain⟨_,go⟩:=hJ ρ2 H2 st2 x2 s2 sm
   obtain⟨g1,g2⟩:=go i w.ds[i] (List.getElem?_eq_getElem hlt)
   refine .inr ⟨g1,fun σ3 H3=>∃ ρ3 l3 st3,Ex ρ1 H1 ρ3 H3/\LR X.K ρ3 H3 σ3 l3/\SR X.K ρ3 H3 st3/\Post X.K ρ3 H3 (forD g cb w.same (w.ds.drop (i + 1)) l3 st3) fun f _ ρ' H'=>match f with
    | .next l'=>∀ σ',LR X.K ρ' H' σ' l'->G.nx σ' H'
    | .ret d=>∀ v,Rep X.K ρ' H' v d->G.rt v H'
    | .brk l'=>∀ σ',LR X.K ρ' H' σ' l'->G.bk σ' H'
    | .cnt l'=>∀ σ',LR X.K ρ' H' σ' l'->G.ct σ' H',fun σ3 H3 q=>⟨_,by ac_nf,rfl,hlt,q⟩,fun y H3 hy=>?_⟩
   obtain⟨x3,s3,rv⟩:=g2 y H3 hy
   refine⟨ρ2,l2,st2,_,lr2.mono x3,s3,rv,(Post.left x3 (Post.bnd p3)).imp fun l4 st4 ρ4 H4 x4 s4 p4 σ4 lr4=>⟨ρ4,l4,st4,lr4,s4,(Post.bnd p4).imp fun f st5 ρ5 H5 x5 s5 p5=>?_⟩⟩
   have x5':Ex ρ1 H1 ρ5 H5:=(x2.trans x3).trans (x4.trans x5)
   cases f with
   | next l5=>exact fun σ5 lr5=>⟨ρ5,l5,st5,x5',lr5,s5,p5⟩
   | cnt l5=>exact fun σ5 lr5=>⟨ρ5,l5,st5,x5',lr5,s5,p5⟩
   | brk l5=>exact fun σ5 lr5=>p5.ret s5 σ5 lr5
   | ret d=>exact fun v rv=>p5.ret s5 v rv
  ·have e:i=w.ds.length:=by ac_nf
   subst e
   rw[List.drop_length]at p2
   unfold forD at p2
   obtain⟨sm,p3⟩:=Post.chkS (Post.bnd p2) s2
   obtain⟨g1,_⟩:=hJ ρ2 H2 st2 x2 s2 sm
   exact .inl ⟨g1,p3.ret s2 σ2 lr2⟩⟩
end
section
variable {X:Cx}{a b c e tg:Expr}{es:List Expr}{pos:Pos}{fa fb fc:CE}{ca cb:CA}{ta tb:CT}{K:PySem.W.Frag}{ρ:List Addr}{H:Hp}{st:Sto}{x:Str}{p:Pos}{id T:String}
theorem Qfi {n:Nat}{ix:List Nat}{σ:St}{l:Loc} (h:LR K ρ H σ l):LR K ρ H (capV n ix σ) (capt n ix l):=by
 unfold capV capt
 refine⟨by simp,fun i d e=>?_⟩
 have hi:n<=i:=Nat.le_of_not_lt fun z=>by
  rw[List.getElem?_append_left (by simpa using z),List.getElem?_replicate]at e
  split at e<;>cases e
 rw[List.getElem?_append_right (by simpa using hi),List.length_replicate,List.getElem?_map]at e
 cases q:ix[i - n]? with
 | none=>rw[q]at e;cases e
 | some k=>
  rw[q]at e
  have hj:(l[k]?).join=some d:=Option.some.inj e
  have hk:l[k]?=some (some d):=by
   cases z:l[k]? with
   | none=>rw[z]at hj;cases hj
   | some o=>rw[z]at hj;exact congrArg some hj
  obtain⟨v,hv,rv⟩:=h.2 k d hk
  refine⟨v,?_,rv⟩
  rw[List.getElem?_append_right (by simpa using hi),List.length_replicate,List.getElem?_map,q]
  show some ((σ[k]?).join)=some (some v)
  rw[hv];rfl
noncomputable abbrev SIfs (X:Cx) (ifs:List Expr) (t:CT):Prop:=PIfs X ifs (ttOf X.K t)
theorem Qfj:SIfs X [] tTrue:=fun pins s σ H Q I h_=>h_.el fun ρ l st lr sr p=>Qed pins s σ H Q I (p.ret sr)
theorem Qfk (h:ST X c ta):SIfs X [c] ta:=Qee h
theorem Ex.own {ρ':List Addr}{H':Hp}{q:Addr}{ws:List V} (x:Ex ρ H ρ' H') (h:H q=none):Ex ρ H ρ' (upd H' q (.lst ws)):=by
 have ne:∀ b o,H b=some o->b≠q:=fun b o e z=>by rw[z,h]at e;cases e
 exact⟨x.pre,fun b o no e=>by rw[Qaj (ne b o e)];exact x.fix b o no e,fun b xs nb e=>by rw[Qaj (ne b _ e)];exact x.oth b xs nb e,fun b o e=>by rw[Qaj (ne b o e)];exact x.knd b o e⟩
theorem Up.own {ρ':List Addr}{H':Hp}{q:Addr}{vs ws:List V} (h:H' q=some (.lst vs)):Up ρ' H' ρ' (upd H' q (.lst ws)):=
 ⟨⟨[],by simp⟩,fun b o no e=>by rw[Qaj fun z=>by subst z;rw[h]at e;cases e;exact nomatch no];exact e,
  fun b o e=>by
   by_cases z:b=q
   ·subst z;rw[h]at e;cases e;exact⟨_,Qai,rfl⟩
   ·exact⟨o,by rw[Qaj z];exact e,rfl⟩⟩
theorem LR.up {ρ':List Addr}{H':Hp}{σ:St}{l:Loc} (x:Up ρ H ρ' H') (h:LR K ρ H σ l):LR K ρ' H' σ l:=⟨h.1,fun i d e=>let ⟨v,e1,r⟩:=h.2 i d e;⟨v,e1,r.up x⟩⟩
theorem SR.own {q:Addr}{vs ws:List V} (s:SR K ρ H st) (h:H q=some (.lst vs)) (nq:q∉ρ):SR K ρ (upd H q (.lst ws)) st:=
 ⟨s.len,s.nd,fun n b o e1 e2=>ObR.mono (o:=o) (Up.own h) (s.ob n b o e1 e2) fun us e=>by rw[Qaj (fun (z:b=q)=>nq (by rw[<- z];exact List.mem_of_getElem? e1))];exact e⟩
theorem Qfl {ci:CI}{g:CG}{n:Nat}{ix:List Nat}:∀ σ H Q,tlOf K (aComp n ix ci g ta fa) σ H Q->tComp (tiOf K ci) n ix (tgOf K g) (ttOf K ta) (tOf K fa) σ H Q:=fun σ H Q h_=>h_.el fun ρ l st lr sr p=>
 ⟨ρ,l,st,lr,sr,p.bnd0.imp fun w st1 ρ1 H1 x1 s1 p1 J hJ q hq=>by
  obtain⟨hz,p2⟩:=Post.chk p1
  have hn:H q=none:=by
   cases z:H q with
   | none=>rfl
   | some o=>exact absurd hq (x1.trk q o z)
  refine⟨fun i m σ' H'=>m=w.ds.length - i/\i<=w.ds.length/\∃ ρ' l' st' done vs,Ex ρ H ρ' H'/\Ex ρ1 H1 ρ' H'/\LR K ρ' H' σ' l'/\SR K ρ' H' st'/\q∉ρ'/\H' q=some (.lst vs)/\Reps K ρ' H' vs done/\done.length<=i /\
   Post K ρ H (collect g ta fa w.same (w.ds.drop i) l' st') (fun rest st2 ρ2 H2=>∀ a ws,H a=none->a∉ρ2->H2 a=some (.lst ws)->Reps K ρ2 H2 ws (done++rest)->Q (.ref a) H2),
   ⟨w.ds.length,by simp,Nat.zero_le _,ρ1,capt n ix l,st1,[],[],x1.trans (Ex.new hq),Ex.new hq,Qfi ((lr.mono x1).mono (Ex.new hq)),s1.new hq,s1.fresh hq,Qai,.nil,Nat.zero_le _,p2⟩,?_⟩
  rintro i m σ2 H2 ⟨rfl,hi,ρ2,l2,st2,done,vs,x2,y2,lr2,s2,nq,hv,rvs,hd,p3⟩
  by_cases hlt:i < w.ds.length
  ·have ed:w.ds.drop i=w.ds[i]::w.ds.drop (i + 1):=List.drop_eq_getElem_cons hlt
   rw[ed]at p3
   unfold collect at p3
   obtain⟨sm,p4⟩:=Post.chkS (p3.bnd0.left x2) s2
   obtain⟨_,go⟩:=hJ ρ2 H2 st2 y2 s2 sm
   obtain⟨g1,g2⟩:=go i w.ds[i] (List.getElem?_eq_getElem hlt)
   refine .inr ⟨g1,fun y H3 hy=>?_⟩
   obtain⟨x3,s3,rv⟩:=g2 y H3 hy
   refine⟨ρ2,l2,st2,_,lr2.mono x3,s3,rv,(p4.bnd0.left (x2.trans x3)).imp fun l4 st4 ρ4 H4 x4 s4 p5 σ4 lr4=>⟨ρ4,l4,st4,lr4,s4,(p5.bnd0.left (x2.trans (x3.trans x4))).imp fun b st5 ρ5 H5 x5 s5 p6=>?_⟩⟩
   have y5:Ex ρ2 H2 ρ5 H5:=x3.trans (x4.trans x5)
   have out:∀ {ρ':List Addr}{H':Hp},Ex ρ2 H2 ρ' H'->q∉ρ':=fun z hm=>by
    obtain⟨τ,e,f⟩:=z.pre
    rw[e]at hm
    rcases List.mem_append.mp hm with hm | hm
    ·exact nq hm
    ·rw[f q hm]at hv;cases hv
   cases b with
   | false=>exact⟨_,by ac_nf,rfl,hlt,ρ5,l4,st5,done,vs,x2.trans y5,y2.trans y5,lr4.mono x5,s5,out y5,y5.lst q vs nq hv,rvs.mono y5,Nat.le_succ_of_le hd,p6⟩
   | true=>
    refine⟨ρ5,l4,st5,lr4.mono x5,s5,(p6.bnd0.left (x2.trans y5)).imp fun d st6 ρ6 H6 x6 s6 p7 v rv6=>?_⟩
    have y6:Ex ρ2 H2 ρ6 H6:=y5.trans x6
    have hv6:=y6.lst q vs nq hv
    have u6:Up ρ6 H6 ρ6 (upd H6 q (.lst (vs++[v]))):=Up.own hv6
    refine⟨vs,hv6,?_,_,by ac_nf,rfl,hlt,ρ6,l4,st6,done++[d],vs++[v],(x2.trans y6).own hn,(y2.trans y6).own hq,LR.up u6 ((lr4.mono x5).mono x6),s6.own hv6 (out y6),out y6,Qai,
     Reps.app ((rvs.mono y6).up u6) (.cons (rv6.up u6) .nil),by simp;ac_nf,?_⟩
    ·have e1:=rvs.length
     have e2:w.ds.length<=sizeLine:=hz
     ac_nf
    ·refine p7.bnd0.imp fun rest st8 ρ8 H8 x8 s8 p8 a ws ha na hw rws=>?_
     exact p8 ρ8 H8 x8 s8 a ws ha na hw (by rw[List.append_cons];exact rws)
  ·have e:i=w.ds.length:=by ac_nf
   subst e
   rw[List.drop_length]at p3
   unfold collect at p3
   obtain⟨sm,p4⟩:=Post.chkS (p3.bnd0.left x2) s2
   obtain⟨g1,_⟩:=hJ ρ2 H2 st2 y2 s2 sm
   refine .inl ⟨g1,p4 ρ2 H2 x2 s2 q vs hn nq hv (by rw[List.append_nil];exact rvs)⟩⟩
theorem Qfm {scope : Scope} {N : List Str} {ifs : List Expr} {n : Nat} {ix : List Nat} {ci : CI} {g : CG} (hc : X.calm = true) (S : CompScope X scope) (T : CompNames X scope N n ix) (hi : SI X tg b ci)
  (blk:∀ (fp:List Addr) (s:Shared) (H:Hp),SG (cxC X N scope fp s H) tg g/\SIfs (cxC X N scope fp s H) ifs ta/\SE (cxC X N scope fp s H) e fa)
  (hs:∀ x,foldedSetIterable b X.env x=pure x:=by intro _;rfl):SL X (.ListComp e [⟨tg,b,ifs,0⟩] scope pos) (aComp n ix ci g ta fa):=(Qeg hc S T hi blk hs).of Qfl
theorem Qfn {scope : Scope} {N : List Str} {ifs : List Expr} {n i : Nat} {ix : List Nat} {ci : CI} {g : CG} {y : Str} {pos' spos : Pos}
  (hN:X.N.Nodup) (hi':X.N[i]?=some y) (hy:L2.Loc X.env.scope y) (hf:X.fn y=true\/X.env.scope.names.lookup y=some .local)
  (hc:X.calm=true) (S:CompScope X scope) (T:CompNames X scope N n ix) (hi:SI X tg b ci)
  (blk:∀ (fp:List Addr) (s:Shared) (H:Hp),SG (cxC X N scope fp s H) tg g/\SIfs (cxC X N scope fp s H) ifs ta/\SE (cxC X N scope fp s H) e fa)
  (hsw:swapsWith (.ListComp e [⟨tg,b,ifs,0⟩] scope pos) (some (.Name y pos')) spos.line X.env=pure true)
  (hs:∀ x,foldedSetIterable b X.env x=pure x:=by intro _;rfl):SS X (.Assign [.Name y pos'] (.ListComp e [⟨tg,b,ifs,0⟩] scope pos) spos) (sAsg (gVar i) (cKeep (aComp n ix ci g ta fa))):=
 (Qeh hN hi' hy hf hc S T hi blk hsw hs).of (Qe3 (fun σ H Q h_=>h_.el fun ρ l st lr sr p=>Qfl _ _ _ ⟨ρ,l,st,lr,sr,p.bnd0.imp fun ds st1 ρ1 H1 x1 s1 p1 a vs ha na hv rvs=>by
  have x:Ex ρ H (ρ1++[a]) H1:=by
   obtain⟨τ,e,f⟩:=x1.pre
   refine⟨⟨τ++[a],by rw[e,List.append_assoc],fun b hb=>?_⟩,x1.fix,x1.oth,x1.knd⟩
   rcases List.mem_append.mp hb with hb | hb
   ·exact f b hb
   ·rw[List.mem_singleton]at hb;rw[hb];exact ha
  refine p1 (ρ1++[a]) H1 x (s1.keep hv na rvs) _ (.ref ⟨_,hv,rfl⟩ ?_)
  rw[<- s1.len];simp⟩) Qe4)
theorem Qfo {g : D -> M D} (hc : CallR X (.builtin id) (fun xs H Q => ∃ v, xs = [v] /\ uOf X.K g v H Q)) (hg : Gl X x) (hm : X.mg x = none) (hv : bootBuiltins x = some (.builtin id)) (ha : SE X e fa) (hn : x ≠ "__name__" := by decide) (hdb : (x == ("__debug__" : Str)) = false := by decide)
  (he:starEach [e] X.env=[(false,eval e X.env)]:=by rfl):SE X (.Call (.Name x p) [e] [] pos) (c1 g fa):=
 (QbX hc hg hm hv (QbL ha QbK he) hn hdb he rfl).of fun σ H Q h_=>h_.el fun ρ l st lr sr p=>⟨ρ,l,st,lr,sr,p.bnd.imp fun d st1 ρ1 H1 x1 s1 p1 v rv=>⟨v,rfl,ρ1,st1,d,s1,rv,p1⟩⟩
theorem Qfp {g : D -> M D} (hc : CallR X (.type T) (fun xs H Q => ∃ v, xs = [v] /\ uOf X.K g v H Q)) (hg : Gl X x) (hm : X.mg x = none) (hv : bootBuiltins x = some (.type T)) (ha : SE X e fa) (hn : x ≠ "__name__" := by decide) (hdb : (x == ("__debug__" : Str)) = false := by decide)
  (he:starEach [e] X.env=[(false,eval e X.env)]:=by rfl):SE X (.Call (.Name x p) [e] [] pos) (c1 g fa):=
 (QbY hc hg hm hv (QbL ha QbK he) hn hdb he rfl).of fun σ H Q h_=>h_.el fun ρ l st lr sr p=>⟨ρ,l,st,lr,sr,p.bnd.imp fun d st1 ρ1 H1 x1 s1 p1 v rv=>⟨v,rfl,ρ1,st1,d,s1,rv,p1⟩⟩
noncomputable def lOf (K:PySem.W.Frag) (g:List D->M D):List V->Hp->VK->Prop:=fun xs H Q=>∃ a vs ρ st ds,xs=[.ref a]/\SqL K H a vs/\SR K ρ H st/\Reps K ρ H vs ds/\Post K ρ H (g ds st) fun r _ ρ' H'=>∀ v,Rep K ρ' H' v r->Q v H'
theorem Qfq {g : List D -> M D} (hc : CallR X (.builtin id) (lOf X.K g)) (hg : Gl X x) (hm : X.mg x = none) (hv : bootBuiltins x = some (.builtin id)) (ha : SL X e ca) (hn : x ≠ "__name__" := by decide) (hdb : (x == ("__debug__" : Str)) = false := by decide)
  (he:starEach [e] X.env=[(false,eval e X.env)]:=by rfl):SE X (.Call (.Name x p) [e] [] pos) (cTmp g ca):=
 (QbX hc hg hm hv (QbL ha QbK he) hn hdb he rfl).of fun σ H Q h_=>h_.el fun ρ l st lr sr p=>⟨ρ,l,st,lr,sr,p.bnd.imp fun ds st1 ρ1 H1 x1 s1 p1 a vs ha na hv rvs=>⟨a,vs,ρ1,st1,ds,rfl,SqL.of hv,s1,rvs,p1⟩⟩
theorem Qfr {g : List D -> M D} (hc : CallR X (.type T) (lOf X.K g)) (hg : Gl X x) (hm : X.mg x = none) (hv : bootBuiltins x = some (.type T)) (ha : SL X e ca) (hn : x ≠ "__name__" := by decide) (hdb : (x == ("__debug__" : Str)) = false := by decide)
  (he:starEach [e] X.env=[(false,eval e X.env)]:=by rfl):SE X (.Call (.Name x p) [e] [] pos) (cTmp g ca):=
 (QbY hc hg hm hv (QbL ha QbK he) hn hdb he rfl).of fun σ H Q h_=>h_.el fun ρ l st lr sr p=>⟨ρ,l,st,lr,sr,p.bnd.imp fun ds st1 ρ1 H1 x1 s1 p1 a vs ha na hv rvs=>⟨a,vs,ρ1,st1,ds,rfl,SqL.of hv,s1,rvs,p1⟩⟩
theorem Qfs {prog : Program} {w : World} {A : Around} {E : Value -> Shared -> Prop} {s : Shared} {K : Type} [DecidableEq K] {knd : HeapKind prog w K} {d : Addr} {xs : List (K × Addr × Value)} {Q : Value -> Shared -> Prop} (hd : (d == sysModules) = false) (hm : s.heap.DictOfH knd d xs) (hfit : (xs.length : Int) < 2 ^ 63)
  (h:Q (.int xs.length (s.toks + 1)) { s with toks:=s.toks + 1 + 1 }):wpAny (model prog w) A (call (.builtin "len") [.ref d]) Q E s:=by
 refine Calls.call_function_entry kind_len plain_len entry_len (args_len1 _) ?_
 unfold Builtin.«len»
 have meet:MeetsIn prog w (Builtin.«dict.__len__» ⟨[.ref d],[]⟩) (fun _ R s=>∃ xs,s.heap.DictOfH knd d xs/\R (.ok (.ret (.int xs.length s.toks))) { s with toks:=s.toks + 1 }):=.of_wp fun A R s pq71=>by
  obtain⟨xs,hm,h⟩:=pq71
  obtain⟨o,es,ep,ho,hc,hdat,he,_,hn⟩:=hm
  show wpAny _ _ (dictSize d >>= _) _ _ s
  unfold dictSize
  refine wpAny_bind (wpAny_bind (wpAny_dictEntries ho hdat (wpAny_pure ?_)))
  show wpAny _ _ (Builtin.Dict.pendingCount d >>= _) _ _ s
  refine wpAny_bind (wpAny_pendingCount_other hd ?_)
  refine wpAny_ret_mkInt ?_
  rw[Nat.add_zero,size_of_entries he];exact h
 refine wpAny_bind (m:=oneArg "len" _) (wpAny_pure ?_)
 refine wpAny_bind (m:=callSpecial? (.ref d) (Str.ofString "__len__")) (wpAny_callSpecial?_slot (name:=Str.ofString "__len__") hm.typeIs F.slot_dict_len
  (call_meetsIn F.slot_dict_len hm.typeIs F.entry_dict_len (F.args_dict_len_1 _) meet ⟨xs,hm,?_⟩))
 show wpAny _ _ _ _ _ { s with toks:=s.toks + 1 }
 refine wpAny_bind (wpAny_holding (wpAny_pure ?_))
 refine wpAny_bind (wpAny_letGo ?_)
 show wpAny _ _ (if ((xs.length:Nat):Int) < 0 then _ else _) _ _ _
 rw[if_neg (by ac_nf)]
 show wpAny _ _ (if ((xs.length:Nat):Int) ≥ 2 ^ 63 then _ else _) _ _ _
 rw[if_neg (by ac_nf)]
 exact wpAny_bind (wpAny_mkInt (wpAny_pure ⟨_,rfl,h⟩))
theorem Qft:CallR X (.builtin "len") (fun xs H Q=>∃ (ρ:List Addr) (st:Sto) (n:Nat) (a:Addr) (b:Bool) (kvs:List (D × D)),xs=[.ref a]/\SR X.K ρ H st/\ρ[n]?=some a/\st[n]?=some (.dct b kvs)/\Q (.int kvs.length) H):=by
 intro pins s σ H xs us Q I r pq151;obtain⟨ρ,st,n,a,b,kvs,e,sr,ha,hn,q⟩:=pq151
 subst e
 obtain⟨u,rfl,ru⟩:=QbA r
 cases ru
 have g:=sr.ob n a _ ha hn
 cases b with
 | false=>
  obtain⟨es,e,r⟩:=g
  rw[<- KR.length r]at q
  exact Qc7 I (.inl e) fun t s' I'=>⟨.int es.length,H,I',⟨t,rfl⟩,q⟩
 | true=>
  obtain⟨es,e,r⟩:=g
  obtain⟨z,hd,xs,rx,dd,_⟩:=QdQ I e r
  rw[<- NR.length r,Paired.length rx]at q
  have hz:xs.length<=sizeLine:=by rw[<- Paired.length rx];exact z
  exact Qfs hd dd (by rw[sizeLine_eq]at hz;ac_nf) ⟨.int xs.length,H,I.tok _,⟨_,rfl⟩,q⟩
theorem Qfu:CallR X (.builtin "len") (fun xs H Q=>∃ v,xs=[v]/\uOf X.K lenD v H Q):=((Qcv.or Qcw).or Qft).of fun xs H Q pq72=>by
 obtain⟨v,e,ρ,st,d,sr,rv,p⟩:=pq72
 cases rv with
 | @tup a vs ds h r=>exact .inl (.inl ⟨a,vs,e,.inr h,by rw[r.length];exact p.ret sr _ (.int _)⟩)
 | @lit a vs ds h r=>exact .inl (.inl ⟨a,vs,e,.inl h.seq,by rw[r.length];exact p.ret sr _ (.int _)⟩)
 | @ref a n _ h=>
  obtain⟨ds,e2,p1⟩:=Post.getL (Post.bnd p) sr
  obtain⟨a',vs,ha,hv,r⟩:=sr.seq e2
  rw[h]at ha;cases ha
  exact .inl (.inl ⟨a,vs,e,.inl (SqL.of hv),by rw[r.length];exact p1.ret sr _ (.int _)⟩)
 | str z=>exact .inl (.inr ⟨z,e,(Post.chk p).1,(Post.chk p).2.ret sr _ (.int _)⟩)
 | @dic a n _ h=>
  obtain⟨b,kvs,e2,p1⟩:=Post.getDc (Post.bnd p) sr
  exact .inr ⟨ρ,st,n,a,b,kvs,e,sr,h,e2,p1.ret sr _ (.int _)⟩
 | _=>exact p.elim
theorem Qfv:CallR X (.type "int") (fun xs H Q=>∃ v,xs=[v]/\uOf X.K intD v H Q):=QbD.of fun xs H Q pq73=>by
 obtain⟨v,e,ρ,st,d,sr,rv,p⟩:=pq73
 cases rv with
 | int i=>exact .inl ⟨i,e,p.ret sr _ (.int _)⟩
 | bl k=>exact .inr ⟨k,e,p.ret sr _ (.int _)⟩
 | _=>exact p.elim
theorem Qfw:CallR X (.type "tuple") (fun xs H Q=>∃ v,xs=[v]/\uOf X.K tupleD v H Q):=Qcy.of fun xs H Q pq74=>by
 obtain⟨v,e,ρ,st,d,sr,rv,p⟩:=pq74
 cases rv with
 | @tup a vs ds h r=>exact⟨a,vs,e,.inr ⟨h,p.ret sr _ (.tup h r)⟩⟩
 | @lit a vs ds h r=>exact⟨a,vs,e,.inl ⟨h.seq,fun l hl=>p ρ _ (Ex.new hl) (sr.new hl) _ (.tup (SqT.of Qai) (r.mono (Ex.new hl)))⟩⟩
 | @ref a n _ h=>
  obtain⟨ds,e2,p1⟩:=Post.getL (Post.bnd p) sr
  obtain⟨a',vs,ha,hv,r⟩:=sr.seq e2
  rw[h]at ha;cases ha
  exact⟨a,vs,e,.inl ⟨SqL.of hv,fun l hl=>p1 ρ _ (Ex.new hl) (sr.new hl) _ (.tup (SqT.of Qai) (r.mono (Ex.new hl)))⟩⟩
 | _=>exact p.elim
theorem Qfx:CallR X (.type "tuple") (lOf X.K tupL):=Qcy.of fun xs H Q pq75=>
 by obtain⟨a,vs,ρ,st,ds,e,hv,sr,r,p⟩:=pq75;exact⟨a,vs,e,.inl ⟨hv,fun l hl=>p ρ _ (Ex.new hl) (sr.new hl) _ (.tup (SqT.of Qai) (r.mono (Ex.new hl)))⟩⟩
end
section
variable {X:Cx}{a b c e tg:Expr}{es:List Expr}{pos:Pos}{fa fb fc:CE}{ca cb:CA}{ta tb:CT}{K:PySem.W.Frag}{ρ:List Addr}{H:Hp}{st:Sto}{x:Str}{p:Pos}{T:String}
theorem Qfy {ds:List D}{ns:List Int}{vs:List V} (h:numsL ds=some ns) (g:Reps K ρ H vs ds):vs=ns.map V.int:=by
 induction ds generalizing ns vs with
 | nil=>cases g;cases h;rfl
 | cons d ds ih=>
  cases g with
  | cons r t=>
   cases r with
   | int i=>
    unfold numsL at h
    cases q:numsL ds with
    | none=>rw[q]at h;cases h
    | some ms=>
     rw[q]at h
     have h':i::ms=_:=Option.some.inj h
     subst h'
     rw[ih q t];rfl
   | _=>cases h
theorem Qfz:∀ {ds:List D}{ns:List Bool}{vs:List V},boolsL ds=some ns->Reps K ρ H vs ds->vs=ns.map V.bl
 | [],_,_,h,.nil=>by cases h;rfl
 | .bl i::ds,_,_,h,.cons r t=>by
  unfold boolsL at h
  cases q:boolsL ds with
  | none=>rw[q]at h;cases h
  | some ms=>
   rw[q]at h
   have h':i::ms=_:=Option.some.inj h
   subst h'
   cases r
   rw[Qfz q t];rfl
 | .non::_,_,_,h,_=>by cases h
 | .int _::_,_,_,h,_=>by cases h
 | .str _::_,_,_,h,_=>by cases h
 | .tup _::_,_,_,h,_=>by cases h
 | .lit _::_,_,_,h,_=>by cases h
 | .ref _::_,_,_,h,_=>by cases h
theorem QfA:∀ {bs:List Bool}{us:List Value},Vals (bs.map V.bl) us->us=bs.map Value.bool
 | [],_,.nil=>rfl
 | _::_,_,.cons r t=>by cases r;rw[QfA t];rfl
theorem QfB (hc:X.calm=true):CallR X (.builtin "all") (fun xs H Q=>∃ (l:Addr) (bs:List Bool),xs=[.ref l]/\SqL X.K H l (bs.map V.bl)/\Q (.bl (bs.all id)) H):=by
 intro pins s σ H xs us Q I r h
 obtain⟨l,bs,rfl,hq,q⟩:=h
 obtain⟨u,rfl,rx⟩:=QbA r
 cases rx
 obtain⟨its,rv,pl,hz⟩:=I.list hq
 have ei:=QfA rv
 subst ei
 refine call_all_walk (wpAny_pyIter_list pl.isList ?_)
 have hlt:l < s.heap.objs.size:=by
  obtain⟨o,ho,_⟩:=pl.isList
  exact Heap.lt_size ho
 refine⟨s.heap.objs.size,_,_,_,_,_,fun i=>(bs[i]?).getD true,rfl,Walks.list (A:=X.A.in1) (I.ok.hd hc) s.heap.objs.size l (Nat.ne_of_lt hlt) (bs.map Value.bool).toArray,⟨⟨_,Heap.get?_push_size _ rfl,rfl,rfl⟩,?_⟩,?_,fun h' tk hk=>?_⟩
 ·obtain⟨o,ho,hr⟩:=pl.isList
  exact⟨o,Heap.get?_push_of_some _ ho,hr⟩
 ·intro i v s' Q' E' hv hQ
  have hv':(bs.map Value.bool)[i]?=some v:=by simpa using hv
  rw[List.getElem?_map]at hv'
  dsimp only at hQ
  cases e:bs[i]? with
  | none=>rw[e]at hv';cases hv'
  | some k=>
   rw[e]at hv' hQ
   have:v=Value.bool k:=(Option.some.inj hv').symm
   subst this
   exact wpAny_truthy_bool hQ
 ·have e : (List.range (bs.map Value.bool).toArray.size).all (fun i => (bs[i]?).getD true) = bs.all id := by
    have hs:(bs.map Value.bool).toArray.size=bs.length:=by simp
    rw[hs,Bool.eq_iff_iff,List.all_eq_true,List.all_eq_true]
    constructor
    ·intro hh k hk
     obtain⟨i,hi⟩:=List.getElem?_of_mem hk
     have:=hh i (List.mem_range.mpr (List.getElem?_eq_some_iff.mp hi).1)
     rw[hi]at this;exact this
    ·intro hh i hi
     have hl:=List.mem_range.mp hi
     rw[List.getElem?_eq_getElem hl]
     exact hh _ (List.getElem_mem hl)
  rw[e]
  exact⟨.bl _,H,I.kept (t':=tk) fun b o hb=>hk b o (by simp;exact Nat.ne_of_lt (Heap.lt_size hb)) (Heap.get?_push_of_some _ hb),rfl,q⟩
theorem QfC:∀ (ns:List Int) (n:Int),ns.foldl max n∈n::ns/\∀ a∈n::ns,a<=ns.foldl max n
 | [],n=>⟨by simp,by simp⟩
 | m::ns,n=>by
  obtain⟨h1,h2⟩:=QfC ns (max n m)
  rw[List.foldl_cons]
  refine⟨?_,fun a ha=>?_⟩
  ·rcases List.mem_cons.mp h1 with e | e
   ·rw[e]
    by_cases hm:n<=m
    ·rw[Int.max_eq_right hm];simp
    ·rw[Int.max_eq_left (by ac_nf)];simp
   ·exact List.mem_cons_of_mem _ (List.mem_cons_of_mem _ e)
  ·have hx:=h2 (max n m) List.mem_cons_self
   rcases List.mem_cons.mp ha with e | e
   ·subst e;exact Int.le_trans (Int.le_max_left ..) hx
   ·rcases List.mem_cons.mp e with e | e
    ·subst e;exact Int.le_trans (Int.le_max_right ..) hx
    ·exact h2 a (List.mem_cons_of_mem _ e)
theorem QfD {vs:List Value}{ns:List Int} (hi:IntsAre vs ns):∃ xs,vs.toArray=intItems xs/\ns=xs.toList.map (·.1):=by
 obtain⟨xs,e⟩:=hi.allInts.items
 exact⟨xs,e,by rw[<- hi.numsOf,<- nums_intItems,<- e]⟩
theorem QfE (hc:X.calm=true):CallR X (.builtin "max") (fun xs H Q=>∃ (l:Addr) (n:Int) (ns:List Int),xs=[.ref l]/\SqL X.K H l ((n::ns).map V.int)/\Q (.int (ns.foldl max n)) H):=by
 intro pins s σ H xs us Q I r h
 obtain⟨l,n,ns,rfl,hq,q⟩:=h
 obtain⟨u,rfl,rx⟩:=QbA r
 cases rx
 obtain⟨its,rv,pl,hz⟩:=I.list hq
 obtain⟨ys,e,en⟩:=QfD (Qb6 rv)
 have hl:=pl.isList
 rw[e]at hl
 have hsz:ys.size=ns.length + 1:=by have:=congrArg List.length en;simpa using this.symm
 refine max_intList (I.ok.hd hc) hl (by ac_nf) fun v h' tk hv hk=>?_
 obtain⟨t,rfl⟩:=intItems_at hv
 obtain⟨b1,b2⟩:=argBest_gt (numAt ys) (ys.size - 1)
 obtain⟨f1,f2⟩:=QfC ns n
 generalize argBest (fun i j=>decide (numAt ys i > numAt ys j)) (ys.size - 1)=k at b1 b2 ⊢
 have hin:numAt ys k∈n::ns:=by
  rw[en,numAt_eq]
  exact getD_mem (by rw[<- en];simp;ac_nf)
 have hge:ns.foldl max n<=numAt ys k:=by
  rw[en]at f1
  obtain⟨j,hj,ej⟩:=mem_getD f1
  rw[<- ej,<- numAt_eq]
  exact b2 j (by rw[<- en]at hj;simp at hj;ac_nf)
 have hM:numAt ys k=ns.foldl max n:=Int.le_antisymm (f2 _ hin) hge
 rw[hM]
 exact⟨.int _,H,I.kept (t':=tk) hk,⟨t,rfl⟩,q⟩
theorem QfF (hc:X.calm=true):CallR X (.builtin "all") (lOf X.K allD):=(QfB hc).of fun xs H Q pq76=>by
 obtain⟨a,vs,ρ,st,ds,e,hv,sr,r,p⟩:=pq76
 unfold allD at p
 cases q:boolsL ds with
 | none=>rw[q]at p;exact p.elim
 | some bs=>
  rw[q]at p
  have:=Qfz q r
  subst this
  exact⟨a,bs,e,hv,p.ret sr _ (.bl _)⟩
theorem QfG (hc:X.calm=true):CallR X (.builtin "max") (lOf X.K maxD):=(QfE hc).of fun xs H Q pq77=>by
 obtain⟨a,vs,ρ,st,ds,e,hv,sr,r,p⟩:=pq77
 unfold maxD at p
 cases q:numsL ds with
 | none=>rw[q]at p;exact p.elim
 | some ns=>
  rw[q]at p
  have:=Qfy q r
  subst this
  cases ns with
  | nil=>exact p.elim
  | cons n ns=>exact⟨a,n,ns,e,hv,p.ret sr _ (.int _)⟩
structure TyTab (T:String):Prop where
 non:∀ K,PySem.W.kitOne K (.type "NoneType") (.type T)=some (["NoneType"].contains T)
 bl:∀ K,PySem.W.kitOne K (.type "bool") (.type T)=some (["bool","int"].contains T)
 int:∀ K,PySem.W.kitOne K (.type "int") (.type T)=some (["int"].contains T)
 str:∀ K,PySem.W.kitOne K (.type "str") (.type T)=some (["str"].contains T)
 tup:∀ K,PySem.W.kitOne K (.type "tuple") (.type T)=some (["tuple"].contains T)
 lst:∀ K,PySem.W.kitOne K (.type "list") (.type T)=some (["list"].contains T)
theorem QfH:TyTab "int":=⟨fun _=>rfl,fun _=>rfl,fun _=>rfl,fun _=>rfl,fun _=>rfl,fun _=>rfl⟩
theorem QfI:TyTab "bool":=⟨fun _=>rfl,fun _=>rfl,fun _=>rfl,fun _=>rfl,fun _=>rfl,fun _=>rfl⟩
theorem QfJ:TyTab "tuple":=⟨fun _=>rfl,fun _=>rfl,fun _=>rfl,fun _=>rfl,fun _=>rfl,fun _=>rfl⟩
theorem QfK {pins : List (Addr × Obj)} {σ : St} {s : Shared} {Q : Value -> Shared -> Prop} {t : String} {u : Addr} {k : Bool} (I : Inv X pins σ H s) (ht : ∃ o, s.heap.get? u = some o /\ o.cls = .type t) (hx : t = "tuple" \/ t = "list") (e : PySem.W.kitOne X.K (.type t) (.type T) = some k)
  (h:∀ tk,Q (.bool k) { s with toks:=tk }):wpAny (model X.prog X.w) X.A (call (.builtin "isinstance") [.ref u,.type T]) Q X.xe s:=by
 rcases hx with rfl | rfl
 ·exact PySem.W.kia_one PySem.W.kitx_tuple I.kIn ht e (fun z=>nomatch z) h
 ·exact PySem.W.kia_one PySem.W.kitx_list I.kIn ht e (fun z=>nomatch z) h
theorem QfL (B:TyTab T):CallR X (.builtin "isinstance") (fun xs H Q=>∃ v,xs=[v,.ty T]/\uOf X.K (isInst [T]) v H Q):=by
 intro pins s σ H xs us Q I r pq152;obtain⟨v,e,ρ,st,d,sr,rv,p⟩:=pq152
 subst e
 obtain⟨u,w',rfl,ru,rw'⟩:=QbB r
 have ew:w'=Value.type T:=rw'
 subst ew
 have fin:∀ k:Bool,Q (.bl k) H->∀ tk,EP X pins σ Q (.bool k) { s with toks:=tk }:=fun k q tk=>⟨.bl k,H,I.tok tk,rfl,q⟩
 cases rv with
 | non=>
  refine QbH I ru .non (B.non _) (fin _ ?_)
  simpa [isInst,isTy] using p.ret sr _ (.bl _)
 | bl k=>
  refine QbH I ru (.bl k) (B.bl _) (fin _ ?_)
  simpa [isInst,isTy] using p.ret sr _ (.bl _)
 | int k=>
  refine QbH I ru (.int k) (B.int _) (fin _ ?_)
  simpa [isInst,isTy] using p.ret sr _ (.bl _)
 | str k=>
  refine QbH I ru (.str k) (B.str _) (fin _ ?_)
  simpa [isInst,isTy] using p.ret sr _ (.bl _)
 | tup h r=>
  have eu:u=Value.ref _:=ru
  subst eu
  obtain⟨its,_,⟨o,h1,h2,_⟩,_⟩:=I.tuple h
  refine QfK I ⟨o,h1,h2⟩ (.inl rfl) (B.tup _) (fin _ ?_)
  simpa [isInst,isTy] using p.ret sr _ (.bl _)
 | lit h r=>
  have eu:u=Value.ref _:=ru
  subst eu
  obtain⟨its,_,pl,_⟩:=I.list h.seq
  obtain⟨o,h1,h2,_⟩:=pl.isList
  refine QfK I ⟨o,h1,h2⟩ (.inr rfl) (B.lst _) (fin _ ?_)
  simpa [isInst,isTy] using p.ret sr _ (.bl _)
 | @ref a n kk h=>
  have eu:u=Value.ref _:=ru
  subst eu
  obtain⟨vs,hv⟩:=Qds kk
  obtain⟨its,_,pl,_⟩:=I.list (SqL.of hv)
  obtain⟨o,h1,h2,_⟩:=pl.isList
  refine QfK I ⟨o,h1,h2⟩ (.inr rfl) (B.lst _) (fin _ ?_)
  simpa [isInst,isTy] using p.ret sr _ (.bl _)
 | dic _ _=>exact p.elim
 | exn0 _ _=>exact p.elim
 | exn _ _ _ _=>exact p.elim
theorem QfM {y : Str} {p1 : Pos} (B : TyTab T) (hg : Gl X "isinstance") (hm : X.mg "isinstance" = none) (hgT : Gl X y) (hmT : X.mg y = none) (hvT : bootBuiltins y = some (.type T)) (ha : SE X e fa) (hv : bootBuiltins "isinstance" = some (.builtin "isinstance"))
  (hnT:y≠"__name__":=by decide) (hdT:(y == ("__debug__":Str))=false:=by decide)
  (he:starEach [e,.Name y p1] X.env=(false,eval e X.env)::starEach [.Name y p1] X.env:=by rfl) (he2:starEach [.Name y p1] X.env=(false,eval (.Name y p1) X.env)::starEach [] X.env:=by rfl) (hpl:(backTo pos (starEach [.Name y p1] X.env)).any (·.1)=false:=by rfl):
  SE X (.Call (.Name "isinstance" p) [e,.Name y p1] [] pos) (c1 (isInst [T]) fa):=
 (QbX (QfL B) hg hm hv (QbL ha (QbL (QaA (v:=.ty T) hgT hmT hvT rfl hnT hdT) QbK he2) he) (by decide) (by decide) he hpl).of fun σ H Q h_=>h_.el fun ρ l st lr sr p=>⟨ρ,l,st,lr,sr,p.bnd.imp fun d st1 ρ1 H1 x1 s1 p1 v rv=>⟨v,rfl,ρ1,st1,d,s1,rv,p1⟩⟩
end
section
variable {X:Cx}{K:PySem.W.Frag}{ρ:List Addr}{H:Hp}{st:Sto}{pins:List (Addr × Obj)}{σ:St}{s:Shared}
theorem QfN {f:D->D->Option Bool}:∀ {xs ys:List D}{r:Bool},allF f xs ys=some r->∀ (j:Nat) (x y:D),xs[j]?=some x->ys[j]?=some y->∃ k,f x y=some k
 | [],_,_,_,j,x,y,h,_=>by cases j<;>cases h
 | _::_,[],_,_,j,x,y,_,h=>by cases j<;>cases h
 | a::xs,b::ys,r,h,j,x,y,hx,hy=>by
  unfold allF at h
  cases e:f a b with
  | none=>rw[e]at h;cases h
  | some k=>
   cases j with
   | zero=>cases hx;cases hy;exact⟨k,e⟩
   | succ j=>
    rw[e]at h
    have hx':xs[j]?=some x:=hx
    have hy':ys[j]?=some y:=hy
    cases k with
    | true=>exact QfN h j x y hx' hy'
    | false=>
     cases e2:allF f xs ys with
     | none=>rw[e2]at h;cases h
     | some r'=>exact QfN e2 j x y hx' hy'
noncomputable def itE (f:D->D->Option Bool) (xs ys:List D) (j:Nat):Bool:=match xs[j]?,ys[j]? with
 | some x,some y=>(f x y).getD false
 | _,_=>true
theorem QfO {f:D->D->Option Bool}:∀ {xs ys:List D}{r:Bool},allF f xs ys=some r->r=((List.range (min xs.length ys.length)).all (itE f xs ys) && xs.length == ys.length)
 | [],[],_,h=>by cases h;rfl
 | _::_,[],_,h=>by cases h;simp
 | [],_::_,_,h=>by cases h;simp
 | a::xs,b::ys,r,h=>by
  have step:(List.range (min (a::xs).length (b::ys).length)).all (itE f (a::xs) (b::ys))=((f a b).getD false && (List.range (min xs.length ys.length)).all (itE f xs ys)):=by
   have e:min (a::xs).length (b::ys).length=min xs.length ys.length + 1:=by simp only[List.length_cons];ac_nf
   rw[e,List.range_succ_eq_map,List.all_cons,List.all_map]
   rfl
  rw[step]
  unfold allF at h
  cases e:f a b with
  | none=>rw[e]at h;cases h
  | some k=>
   rw[e]at h
   cases k with
   | true=>
    have:=QfO h
    simp only[Option.getD_some,Bool.true_and,List.length_cons]
    rw[this]
    congr 1
    rw[Bool.eq_iff_iff];simp
   | false=>
    simp only[Option.getD_some,Bool.false_and]
    cases e2:allF f xs ys with
    | none=>rw[e2]at h;cases h
    | some r'=>rw[e2]at h;cases h;rfl
theorem Vals.at {vs:List V}{us:List Value}{j:Nat}{u:Value} (r:Vals vs us) (h:us[j]?=some u):∃ v,vs[j]?=some v/\RelV v u:=by
 have hl:=r.length
 have hj:j < vs.length:=by rw[hl];exact (List.getElem?_eq_some_iff.mp h).1
 obtain⟨u',e,ru⟩:=r.get (List.getElem?_eq_getElem hj)
 rw[h]at e;cases e
 exact⟨_,List.getElem?_eq_getElem hj,ru⟩
theorem Reps.at {vs:List V}{ds:List D}{j:Nat}{v:V} (r:Reps K ρ H vs ds) (h:vs[j]?=some v):∃ d,ds[j]?=some d/\Rep K ρ H v d:=by
 have hl:=r.length
 have hj:j < ds.length:=by rw[<- hl];exact (List.getElem?_eq_some_iff.mp h).1
 obtain⟨v',e,rv⟩:=r.get (List.getElem?_eq_getElem hj)
 rw[h]at e;cases e
 exact⟨_,List.getElem?_eq_getElem hj,rv⟩
theorem QfP {g:List D->List D->Option Bool}{v:V}{d e:D}{r:Bool} (I:Inv X pins σ H s) (hg:∀ xs ys vs k,Reps X.K ρ H vs xs->Reps X.K ρ H vs ys->g xs ys=some k->k=true) (h:eqS g d e=some r) (r1:Rep X.K ρ H v d) (r2:Rep X.K ρ H v e):r=true:=by
 cases r1 with
 | non=>cases r2;cases h;rfl
 | bl b=>cases r2;cases h;simp
 | int b=>cases r2;cases h;simp
 | str b=>cases r2;cases h;simp
 | tup h1 q1=>
  cases r2 with
  | tup h2 q2=>
   have:=I.tuple_inj h1 h2
   subst this
   exact hg _ _ _ _ q1 q2 h
  | _=>cases h
 | lit _ _=>cases r2<;>cases h
 | ref _ _=>cases r2<;>cases h
 | dic _ _=>cases r2<;>cases h
 | exn0 _ _=>cases r2<;>cases h
 | exn _ _ _ _=>cases r2<;>cases h
theorem QfQ {f:D->D->Option Bool} (hf:∀ v d e k,Rep K ρ H v d->Rep K ρ H v e->f d e=some k->k=true) {xs ys:List D}{vs:List V}{k:Bool} (h1:Reps K ρ H vs xs) (h2:Reps K ρ H vs ys) (h:allF f xs ys=some k):k=true:=by
 induction xs generalizing ys vs k with
 | nil=>cases h1;cases h2;cases h;rfl
 | cons x xs ih=>
  cases h1 with
  | cons a b=>cases h2 with
   | cons c d=>
    unfold allF at h
    cases e:f _ _ with
    | none=>rw[e]at h;cases h
    | some k=>
     rw[e]at h
     have:=hf _ _ _ _ a c e
     subst this
     exact ih b d h
theorem QfR (I:Inv X pins σ H s):∀ (n:Nat) {v:V}{d e:D}{r:Bool},eqF n d e=some r->Rep X.K ρ H v d->Rep X.K ρ H v e->r=true
 | 0,_,_,_,_,h,r1,r2=>QfP I (fun _ _ _ _ _ _ z=>by cases z) h r1 r2
 | n + 1,_,_,_,_,h,r1,r2=>QfP I (fun xs ys vs k q1 q2 z=>QfQ (fun v d e k a b c=>QfR I n c a b) q1 q2 z) h r1 r2
open SeqAt in
theorem QfS {g : List D -> List D -> Option Bool} {A : Around} {v w : V} {u1 u2 : Value} {d e : D} {r : Bool} (I : Inv X pins σ H s) (hu : A.units < cLine)
  (hg:∀ xs ys k,g xs ys=some k->∀ vs ws its its2,Reps X.K ρ H vs xs->Reps X.K ρ H ws ys->Vals vs its->Vals ws its2 ->
   ∃ e:Nat->Bool,k=((List.range (min its.length its2.length)).all e && its.length == its2.length)/\∀ (j:Nat) x y,its[j]?=some x->its2[j]?=some y->EqAt A.in1 s x y (e j))
  (hs:∀ xs ys vs k,Reps X.K ρ H vs xs->Reps X.K ρ H vs ys->g xs ys=some k->k=true)
  (h:eqS g d e=some r) (r1:Rep X.K ρ H v d) (r2:Rep X.K ρ H w e) (v1:RelV v u1) (v2:RelV w u2):RcAt A s u1 u2 r/\RcNeAt A s u1 u2 (!r)/\EqAt A s u1 u2 r:=by
 cases r1 with
 | lit _ _=>cases r2<;>cases h
 | ref _ _=>cases r2<;>cases h
 | dic _ _=>cases r2<;>cases h
 | exn0 _ _=>cases r2<;>cases h
 | exn _ _ _ _=>cases r2<;>cases h
 | non=>
  cases (show u1=Value.none from v1)
  cases r2 with
  | non=>cases (show u2=Value.none from v2);cases h;exact⟨.none_none,.none_none,.same _⟩
  | bl b=>cases (show u2=Value.bool b from v2);cases h;exact⟨.none_bool b,.none_bool b,.none_bool b⟩
  | int b=>obtain⟨t,rfl⟩:=(show ∃ t,u2=Value.int b t from v2);cases h;exact⟨.none_int b t,.none_int b t,.none_int b t⟩
  | str b=>obtain⟨t,rfl⟩:=(show ∃ t,u2=Value.str b t from v2);cases h;exact⟨.none_str b t,.none_str b t,.none_str b t⟩
  | tup h2 q2=>cases (show u2=Value.ref _ from v2);cases h;obtain⟨_,_,p,_⟩:=I.tuple h2;exact⟨.none_tuple p hu,.none_tuple p hu,.none_tuple p hu⟩
  | _=>cases h
 | bl a=>
  cases (show u1=Value.bool a from v1)
  cases r2 with
  | non=>cases (show u2=Value.none from v2);cases h;exact⟨.bool_none a,.bool_none a,.bool_none a⟩
  | bl b=>cases (show u2=Value.bool b from v2);cases h;exact⟨.bool_bool a b,.bool_bool a b,.bool_bool a b⟩
  | int b=>obtain⟨t,rfl⟩:=(show ∃ t,u2=Value.int b t from v2);cases h;exact⟨.bool_int a b t,.bool_int a b t,.bool_int a b t⟩
  | str b=>obtain⟨t,rfl⟩:=(show ∃ t,u2=Value.str b t from v2);cases h;exact⟨.bool_str a b t,.bool_str a b t,.bool_str a b t⟩
  | tup h2 q2=>cases (show u2=Value.ref _ from v2);cases h;obtain⟨_,_,p,_⟩:=I.tuple h2;exact⟨.bool_tuple a p hu,.bool_tuple a p hu,.bool_tuple a p hu⟩
  | _=>cases h
 | int a=>
  obtain⟨t1,rfl⟩:=(show ∃ t,u1=Value.int a t from v1)
  cases r2 with
  | non=>cases (show u2=Value.none from v2);cases h;exact⟨.int_none a t1,.int_none a t1,.int_none a t1⟩
  | bl b=>cases (show u2=Value.bool b from v2);cases h;exact⟨.int_bool a t1 b,.int_bool a t1 b,.int_bool a t1 b⟩
  | int b=>obtain⟨t,rfl⟩:=(show ∃ t,u2=Value.int b t from v2);cases h;exact⟨.int_int a t1 b t,.int_int a t1 b t,.int_int a t1 b t⟩
  | str b=>obtain⟨t,rfl⟩:=(show ∃ t,u2=Value.str b t from v2);cases h;exact⟨.int_str a t1 b t,.int_str a t1 b t,.int_str a t1 b t⟩
  | tup h2 q2=>cases (show u2=Value.ref _ from v2);cases h;obtain⟨_,_,p,_⟩:=I.tuple h2;exact⟨.int_tuple a t1 p hu,.int_tuple a t1 p hu,.int_tuple a t1 p hu⟩
  | _=>cases h
 | str a=>
  obtain⟨t1,rfl⟩:=(show ∃ t,u1=Value.str a t from v1)
  cases r2 with
  | non=>cases (show u2=Value.none from v2);cases h;exact⟨.str_none a t1,.str_none a t1,.str_none a t1⟩
  | bl b=>cases (show u2=Value.bool b from v2);cases h;exact⟨.str_bool a t1 b,.str_bool a t1 b,.str_bool a t1 b⟩
  | int b=>obtain⟨t,rfl⟩:=(show ∃ t,u2=Value.int b t from v2);cases h;exact⟨.str_int a t1 b t,.str_int a t1 b t,.str_int a t1 b t⟩
  | str b=>obtain⟨t,rfl⟩:=(show ∃ t,u2=Value.str b t from v2);cases h;exact⟨.str_str a t1 b t,.str_str a t1 b t,.str_str a t1 b t⟩
  | tup h2 q2=>cases (show u2=Value.ref _ from v2);cases h;obtain⟨_,_,p,_⟩:=I.tuple h2;exact⟨.str_tuple a t1 p hu,.str_tuple a t1 p hu,.str_tuple a t1 p hu⟩
  | _=>cases h
 | @tup l1 vs xs h1 q1=>
  cases (show u1=Value.ref _ from v1)
  obtain⟨its,rv,p,_⟩:=I.tuple h1
  cases r2 with
  | non=>cases (show u2=Value.none from v2);cases h;exact⟨.tuple_none p hu,.tuple_none p hu,.tuple_none p hu⟩
  | bl b=>cases (show u2=Value.bool b from v2);cases h;exact⟨.tuple_bool b p hu,.tuple_bool b p hu,.tuple_bool b p hu⟩
  | int b=>obtain⟨t,rfl⟩:=(show ∃ t,u2=Value.int b t from v2);cases h;exact⟨.tuple_int b t p hu,.tuple_int b t p hu,.tuple_int b t p hu⟩
  | str b=>obtain⟨t,rfl⟩:=(show ∃ t,u2=Value.str b t from v2);cases h;exact⟨.tuple_str b t p hu,.tuple_str b t p hu,.tuple_str b t p hu⟩
  | @tup l2 ws ys h2 q2=>
   cases (show u2=Value.ref _ from v2)
   obtain⟨its2,rw',p2,_⟩:=I.tuple h2
   obtain⟨ef,ek,he⟩:=hg xs ys r h vs ws its its2 q1 q2 rv rw'
   have hit:∀ j (a1:j < its.toArray.size) (a2:j < its2.toArray.size),EqAt A.in1 s its.toArray[j] its2.toArray[j] (ef j):=fun j a1 a2=>
    he j _ _ (by rw[List.getElem_toArray];exact List.getElem?_eq_getElem (by simpa using a1)) (by rw[List.getElem_toArray];exact List.getElem?_eq_getElem (by simpa using a2))
   have k1:=RcAt.tuples (A:=A) (s:=s) p p2 hu hit
   have k2:=RcNeAt.tuples (A:=A) (s:=s) p p2 hu hit
   simp only[List.size_toArray]at k1 k2
   rw[<- ek]at k1 k2
   refine⟨k1,k2,?_⟩
   by_cases hl:l1=l2
   ·subst hl
    have:=I.tuple_inj h1 h2
    subst this
    rw[hs xs ys vs r q1 q2 h]
    exact .same _
   ·exact .of_refs hl k1
  | _=>cases h
open SeqAt in
theorem QfT {n : Nat} {A : Around} (I : Inv X pins σ H s)
  (ih:∀ {v w:V}{u1 u2:Value}{d e:D}{r:Bool},eqF n d e=some r->Rep X.K ρ H v d->Rep X.K ρ H w e->RelV v u1->RelV w u2->EqAt A s u1 u2 r)
  {xs ys:List D}{k:Bool} (h:allF (eqF n) xs ys=some k) {vs ws:List V}{its its2:List Value} (q1:Reps X.K ρ H vs xs) (q2:Reps X.K ρ H ws ys) (rv:Vals vs its) (rw':Vals ws its2):
  ∃ e:Nat->Bool,k=((List.range (min its.length its2.length)).all e && its.length == its2.length)/\∀ (j:Nat) x y,its[j]?=some x->its2[j]?=some y->EqAt A s x y (e j):=by
 refine⟨itE (eqF n) xs ys,?_,fun j x y hx hy=>?_⟩
 ·have l1:=rv.length
  have l2:=rw'.length
  have l3:=q1.length
  have l4:=q2.length
  rw[<- l1,<- l2,l3,l4]
  exact QfO h
 ·obtain⟨v,hv,ru⟩:=Vals.at rv hx
  obtain⟨w,hw,rw2⟩:=Vals.at rw' hy
  obtain⟨d,hd,rd⟩:=Reps.at q1 hv
  obtain⟨e,he,re⟩:=Reps.at q2 hw
  obtain⟨r,hr⟩:=QfN h j d e hd he
  have:itE (eqF n) xs ys j=r:=by unfold itE;rw[hd,he];dsimp only;rw[hr];rfl
  rw[this]
  exact ih hr rd re ru rw2
open SeqAt in
theorem QfU (I:Inv X pins σ H s):∀ (n:Nat) {A:Around}{v w:V}{u1 u2:Value}{d e:D}{r:Bool},A.units + n < cLine->eqF n d e=some r->Rep X.K ρ H v d->Rep X.K ρ H w e->RelV v u1->RelV w u2->RcAt A s u1 u2 r/\RcNeAt A s u1 u2 (!r)/\EqAt A s u1 u2 r
 | 0,_,_,_,_,_,_,_,_,hu,h,r1,r2,v1,v2=>QfS I hu (fun _ _ _ z=>by cases z) (fun _ _ _ _ _ _ z=>by cases z) h r1 r2 v1 v2
 | n + 1, A, _, _, _, _, _, _, _, hu, h, r1, r2, v1, v2 => QfS I (by ac_nf)
   (fun xs ys k z vs ws its its2 q1 q2 rv rw'=>QfT I (fun h r1 r2 v1 v2=>(QfU I n (A:=A.in1) (by show A.units + 1 + n < cLine;ac_nf) h r1 r2 v1 v2).2.2) z q1 q2 rv rw')
   (fun xs ys vs k q1 q2 z=>QfQ (fun v d e k a b c=>QfR I n c a b) q1 q2 z) h r1 r2 v1 v2
end
section
variable {X:Cx}{K:PySem.W.Frag}{ρ:List Addr}{H:Hp}{st:Sto}{pins:List (Addr × Obj)}{σ:St}{s:Shared}
open SeqAt in
theorem QfV (hu : X.A.units + 60 < cLine) (I : Inv X pins σ H s) (sr : SR X.K ρ H st) {d e : D} {x y : V} {v u : Value} {R : Bool -> Sto -> List Addr -> Hp -> Prop} (r1 : Rep X.K ρ H x d) (r2 : Rep X.K ρ H y e) (rx : RelV x v) (ry : RelV y u)
  (p:Post X.K ρ H (eqB d e st) R):∃ r,R r st ρ H/\RcAt X.A s v u r/\RcNeAt X.A s v u (!r):=by
 have hu':X.A.units < cLine:=by ac_nf
 have gen:Post X.K ρ H ((match eqF 50 d e with | some r=>ret r | none=>bad:M Bool) st) R->∃ r,R r st ρ H/\RcAt X.A s v u r/\RcNeAt X.A s v u (!r):=fun q=>by
  cases h:eqF 50 d e with
  | none=>rw[h]at q;exact q.elim
  | some r=>
   rw[h]at q
   obtain⟨k1,k2,_⟩:=QfU I 50 (A:=X.A) (by ac_nf) h r1 r2 rx ry
   exact⟨r,q.ret sr,k1,k2⟩
 cases r1 with
 | non=>
  cases r2 with
  | @ref a n _ h=>
   obtain⟨ds,e2,p1⟩:=Post.getL (Post.bnd p) sr
   obtain⟨a',vs,ha,hv,r⟩:=sr.seq e2
   rw[h]at ha;cases ha
   cases (show v=Value.none from rx)
   cases (show u=Value.ref a from ry)
   obtain⟨_,_,pl,_⟩:=I.list (SqL.of hv)
   exact⟨false,p1.ret sr,.none_list pl.isList hu',.none_list pl.isList hu'⟩
  | _=>exact gen p
 | @ref a n _ h=>
  cases r2 with
  | non=>
   obtain⟨ds,e2,p1⟩:=Post.getL (Post.bnd p) sr
   obtain⟨a',vs,ha,hv,r⟩:=sr.seq e2
   rw[h]at ha;cases ha
   cases (show u=Value.none from ry)
   cases (show v=Value.ref a from rx)
   obtain⟨_,_,pl,_⟩:=I.list (SqL.of hv)
   exact⟨false,p1.ret sr,.list_none pl.isList hu',.list_none pl.isList hu'⟩
  | @ref b m _ h'=>
   obtain⟨xs,e2,p1⟩:=Post.getL (Post.bnd p) sr
   obtain⟨ys,e3,p2⟩:=Post.getL (Post.bnd p1) sr
   obtain⟨a',vs,ha,hv,q1⟩:=sr.seq e2
   obtain⟨b',ws,hb,hw,q2⟩:=sr.seq e3
   rw[h]at ha;cases ha
   rw[h']at hb;cases hb
   cases (show v=Value.ref a from rx)
   cases (show u=Value.ref b from ry)
   obtain⟨its,rv,pl,_⟩:=I.list (SqL.of hv)
   obtain⟨its2,rw',pl2,_⟩:=I.list (SqL.of hw)
   have l1:=rv.length
   have l2:=rw'.length
   have l3:=q1.length
   have l4:=q2.length
   by_cases hl:xs.length=ys.length
   ·rw[if_pos hl]at p2
    cases h2:allF (eqF 50) xs ys with
    | none=>rw[h2]at p2;exact p2.elim
    | some r=>
     rw[h2]at p2
     obtain⟨ef,ek,he⟩:=QfT (A:=X.A.in1) I (fun h r1 r2 v1 v2=>(QfU I 50 (A:=X.A.in1) (by show X.A.units + 1 + 50 < cLine;ac_nf) h r1 r2 v1 v2).2.2) h2 q1 q2 rv rw'
     have hsz:its.toArray.size=its2.toArray.size:=by rw[List.size_toArray,List.size_toArray];ac_nf
     have hit:∀ j (a1:j < its.toArray.size) (a2:j < its2.toArray.size),EqAt X.A.in1 s its.toArray[j] its2.toArray[j] (ef j):=fun j a1 a2=>
      he j _ _ (by rw[List.getElem_toArray];exact List.getElem?_eq_getElem (by simpa using a1)) (by rw[List.getElem_toArray];exact List.getElem?_eq_getElem (by simpa using a2))
     have ek2:(List.range its.toArray.size).all ef=r:=by
      rw[ek,List.size_toArray]
      have:its.length=its2.length:=by ac_nf
      rw[this];simp
     have k1:=RcAt.lists (A:=X.A) (s:=s) pl.isList pl2.isList hsz hu' hit
     have k2:=RcNeAt.lists (A:=X.A) (s:=s) pl.isList pl2.isList hsz hu' hit
     rw[ek2]at k1 k2
     exact⟨r,p2.ret sr,k1,k2⟩
   ·rw[if_neg hl]at p2
    have hne:(its.toArray.size != its2.toArray.size)=true:=by
     rw[List.size_toArray,List.size_toArray]
     simp
     ac_nf
    exact⟨false,p2.ret sr,.lists_lengths pl.isList pl2.isList hne hu',.lists_lengths pl.isList pl2.isList hne hu'⟩
  | _=>exact gen p
 | _=>cases r2<;>exact gen p
theorem QfW (hu:X.A.units + 60 < cLine):OpR X (compareOp .Eq) (rOf X.K eqD):=by
 intro pins s σ H x y v u Q I rx ry pq153;obtain⟨ρ,st,d,e,sr,r1,r2,p⟩:=pq153
 obtain⟨r,q,k1,_⟩:=QfV hu I sr r1 r2 rx ry p.bnd
 exact k1 _ _ _ _ ⟨.bl r,H,I,rfl,q.ret sr _ (.bl _)⟩
theorem QfX (hu:X.A.units + 60 < cLine):OpR X (compareOp .NotEq) (rOf X.K neD):=by
 intro pins s σ H x y v u Q I rx ry pq154;obtain⟨ρ,st,d,e,sr,r1,r2,p⟩:=pq154
 obtain⟨r,q,_,k2⟩:=QfV hu I sr r1 r2 rx ry p.bnd
 exact k2 _ _ _ _ ⟨.bl (!r),H,I,rfl,q.ret sr _ (.bl _)⟩
end
section
variable {X:Cx}{a b c e o tg:Expr}{es:List Expr}{pos apos cpos:Pos}{fa fb fc:CE}{ca cb:CA}{ta tb:CT}{K:PySem.W.Frag}{ρ:List Addr}{H:Hp}{st:Sto}{x:Str}{p:Pos}{T:String}
theorem QfY (ho : SE X o fa) (ha : SE X e fb) (hbase : attributeBase o "append" X.env (eval o X.env) = eval o X.env := by rfl)
  (hfew:((backTo cpos (starEach [e] X.env)).all (fun x => !x.1) && (backToKw cpos (keywordEach [] X.env)).all (fun x=>x.1.isSome)
   && decide ([e].length + ([]:List Keyword).length + (if ([]:List Keyword).isEmpty then 0 else 1) < 30))=true:=by rfl)
  (hline:(apos.endLine == cpos.line)=true:=by rfl) (hs:starEach [e] X.env=(false,eval e X.env)::starEach [] X.env:=by rfl) (hplain:(backTo cpos (starEach [] X.env)).any (·.1)=false:=by rfl):
  SE X (.Call (.Attribute o "append" apos) [e] [] cpos) (cAppend fa fb):=
 (QcB PySem.F.plainAttrs_list PySem.F.slot_list_append PySem.F.type_list_append QcE ho (QbL ha QbK hs) hbase hfew hline hs hplain).of fun σ H Q h_=>h_.el fun ρ l st lr sr p=>⟨ρ,l,st,lr,sr,p.bnd.imp fun d st1 ρ1 H1 x1 s1 p1 v rv=>by
  cases rv with
  | @ref a n kk h=>
   have hl:n < st1.length:=by rw[<- s1.len];exact (List.getElem?_eq_some_iff.mp h).1
   obtain⟨vs0,hv0⟩:=Qds kk
   refine⟨.inl ⟨rfl,vs0,SqL.of hv0⟩,ρ1,l,st1,lr.mono x1,s1,(Post.bnd p1).imp fun y st2 ρ2 H2 x2 s2 p2 w rw'=>?_⟩
   have h2:ρ2[n]?=some a:=by
    obtain⟨τ,e,_⟩:=x2.pre
    rw[e];exact Qdq h
   obtain⟨ds,e2,p3⟩:=Post.getL (Post.bnd p2) s2
   obtain⟨a',vs,ha,hv,r⟩:=s2.seq e2
   rw[h2]at ha;cases ha
   obtain⟨hz,p4⟩:=Post.chk p3
   obtain⟨s3,x3⟩:=s2.put (List.getElem?_eq_some_iff.mp e2).1 h2 hv (Reps.app r (.cons rw' .nil))
   have p5:=Post.bnd p4
   unfold putL at p5
   rw[e2]at p5
   exact⟨a,vs,w,rfl,rfl,hv,by rw[r.length];exact hz,(p5 ρ2 _ x3 s3).ret s3 _ .non⟩
  | _=>exact p1.elim⟩
theorem QfZ:OpR X (binaryOp .Add) (rOf X.K addD):=by
 intro pins s σ H x y v u Q I rx ry pq155;obtain⟨ρ,st,d,e,sr,r1,r2,p⟩:=pq155
 cases r1 with
 | int i=>
  cases r2 with
  | int j=>exact Qa9 pins s σ H _ _ v u Q I rx ry ⟨i,j,rfl,rfl,p.ret sr _ (.int _)⟩
  | _=>exact p.elim
 | str i=>
  cases r2 with
  | str j=>exact Qbz pins s σ H _ _ v u Q I rx ry ⟨i,j,rfl,rfl,(Post.chk p).1,(Post.chk p).2.ret sr _ (.str _)⟩
  | _=>exact p.elim
 | ref _ h=>
  cases r2 with
  | ref _ h'=>
   obtain⟨xs,e2,p1⟩:=Post.getL (Post.bnd p) sr
   obtain⟨ys,e3,p2⟩:=Post.getL (Post.bnd p1) sr
   obtain⟨a',vs,ha,hv,q1⟩:=sr.seq e2
   obtain⟨b',ws,hb,hw,q2⟩:=sr.seq e3
   rw[h]at ha;cases ha
   rw[h']at hb;cases hb
   obtain⟨hz,p3⟩:=Post.chk p2
   refine QcG pins s σ H _ _ v u Q I rx ry ⟨_,_,vs,ws,rfl,rfl,hv,hw,by rw[q1.length,q2.length];exact hz,fun q hq=>?_⟩
   have nq:=sr.fresh hq
   have x1:Ex ρ H (ρ++[q]) (upd H q (.lst (vs++ws))):=Ex.newL hq
   refine p3 _ _ x1 ((sr.new hq).keep Qai nq ((Reps.app q1 q2).mono (Ex.new hq))) _ (.ref ⟨_,Qai,rfl⟩ ?_)
   rw[<- sr.len];simp
  | _=>exact p.elim
 | tup h1 q1=>
  cases r2 with
  | tup h2 q2=>
   obtain⟨hz,p2⟩:=Post.chk p
   rename_i a1 vs xs b1 ws ys
   by_cases hx:vs=[]
   ·subst hx
    cases q1
    obtain⟨its,v1,ht,_⟩:=I.tuple h1
    obtain⟨its2,v2,hb,_⟩:=I.tuple h2
    cases v1
    have ev:v=Value.ref a1:=rx
    have eu:u=Value.ref b1:=ry
    subst ev eu
    obtain⟨⟨cls,dd,data,sl⟩,ho,hc,n,hd⟩:=ht
    obtain⟨⟨cls2,dd2,data2,sl2⟩,ho2,hc2,n2,hd2⟩:=hb
    simp only at hc hd hc2 hd2
    subst hc hd hc2 hd2
    refine concat_meets (E:=X.xe) ⟨_,ho,rfl⟩ ⟨_,ho2,rfl⟩ noFill_tuple_add seq_tuple_add PySem.F.slot_tuple_add PySem.F.entry_tuple_add (PySem.F.args_tuple_add_2 _ _) (tuple_addW0 a1 b1 _ _ n n2 dd dd2 sl sl2 (by simp)) ⟨ho,ho2,?_⟩
    exact⟨.ref b1,H,I,rfl,p2.ret sr _ (.tup h2 q2)⟩
   ·refine Qcc pins s σ H _ _ v u Q I rx ry ⟨_,_,vs,ws,rfl,rfl,h1,h2,hx,by rw[q1.length,q2.length];exact hz,fun he=>?_,fun _ q hq=>?_⟩
    ·subst he
     cases q2
     rw[List.append_nil]at p2
     exact p2.ret sr _ (.tup h1 q1)
    ·exact p2 _ _ (Ex.new hq) (sr.new hq) _ (.tup (SqT.of Qai) ((Reps.app q1 q2).mono (Ex.new hq)))
  | _=>exact p.elim
 | _=>cases r2<;>exact p.elim
noncomputable def toOf (K:PySem.W.Frag) (f:CO):TO:=fun σ H Q=>∃ ρ l st,LR K ρ H σ l/\SR K ρ H st/\Post K ρ H (f l st) fun o _ _ H'=>Q o H'
noncomputable abbrev SO (X:Cx) (e:Option Expr) (f:CO):Prop:=PO X e (toOf X.K f)
theorem Qf0:SO X none oNone:=fun pins s σ H Q I h_=>h_.el fun ρ l st lr sr p=>Qb7 pins s σ H Q I (p.ret sr)
theorem Qf1 (h:SE X e fa):SO X (some e) (oSome fa):=fun pins s σ H Q I h_=>h_.el fun ρ l st lr sr p=>Qb8 h pins s σ H Q I ⟨ρ,l,st,lr,sr,p.bnd.imp fun d st1 ρ1 H1 x1 s1 p1 v rv=>by
 cases rv with
 | int i=>exact⟨i,rfl,p1.ret s1⟩
 | _=>exact p1.elim⟩
theorem Reps.cut {vs:List V}{ds:List D} (r:Reps K ρ H vs ds) (lo hi:Option Int):Reps K ρ H (cutV vs lo hi) (cutD ds lo hi):=by
 unfold cutV cutD
 have e:∀ n d o,HT.sIx n d o=MM.sIx n d o:=fun n d o=>by cases o<;>rfl
 rw[e,e,r.length]
 exact (r.drop _).take _
theorem Qf2 {lo hi:Option Expr}{fl fh:CO}{p2:Pos} (h:SE X e fa) (hl:SO X lo fl) (hh:SO X hi fh):SL X (.Subscript e (.Slice lo hi none p2) pos) (aSlice fa fl fh):=
 (Qb9 Qco h hl hh).of fun σ H Q h_=>h_.el fun ρ l st lr sr p=>⟨ρ,l,st,lr,sr,p.bnd0.imp fun d st1 ρ1 H1 x1 s1 p1 v rv=>⟨ρ1,l,st1,lr.mono x1,s1,(p1.bnd0.left x1).imp fun i st2 ρ2 H2 x2 s2 p2=>⟨ρ2,l,st2,(lr.mono x1).mono x2,s2,(p2.bnd0.left (x1.trans x2)).imp fun j st3 ρ3 H3 x3 s3 p3=>by
  have rv3:=(rv.mono x2).mono x3
  have x03:=x1.trans (x2.trans x3)
  have fin:∀ {a:Addr}{vs:List V}{ds:List D},SqL X.K H3 a vs->Reps X.K ρ3 H3 vs ds->Post X.K ρ H (ret (cutD ds i j) st3) (fun ds _ ρ' H'=>∀ a vs,H a=none->a∉ρ'->H' a=some (.lst vs)->Reps X.K ρ' H' vs ds->Q (.ref a) H')->rSlL X.K (.ref a) i j H3 Q:=fun {a vs ds} hs r q=>
   ⟨a,vs,rfl,hs,fun q1 hq1=>by
    have hn:H q1=none:=by
     cases z:H q1 with
     | none=>rfl
     | some o=>exact absurd hq1 (x03.trk q1 o z)
    exact q ρ3 _ (x03.trans (Ex.new hq1)) (s3.new hq1) q1 _ hn (s3.fresh hq1) Qai ((Reps.cut r i j).mono (Ex.new hq1))⟩
  cases rv3 with
  | lit h r=>exact fin h.seq r p3
  | ref _ h=>
   obtain⟨ds,e2,p4⟩:=Post.getL (p3.bnd0.left x03) s3
   obtain⟨a',vs,ha,hv,r⟩:=s3.seq e2
   rw[h]at ha;cases ha
   exact fin (SqL.of hv) r p4
  | _=>exact p3.elim⟩⟩⟩
end
open PySem.AutoSeq1 (wpAny_loadPart')
section
variable {X:Cx}{K:PySem.W.Frag}{ρ:List Addr}{H:Hp}{st:Sto}
theorem Qf3:OpR X (compareOp .Is) (rOf X.K isD):=by
 intro pins s σ H x y v u Q I rx ry pq156;obtain⟨ρ,st,d,e,sr,r1,r2,p⟩:=pq156
 cases r2 with
 | non=>
  refine Qbn pins s σ H x .non v u Q I rx ry ⟨rfl,?_⟩
  cases r1 with
  | non=>exact p.ret sr _ (.bl true)
  | bl b=>exact p.ret sr _ (.bl false)
  | int b=>exact p.ret sr _ (.bl false)
  | str b=>exact p.ret sr _ (.bl false)
  | tup h r=>exact p.ret sr _ (.bl false)
  | lit h r=>exact p.ret sr _ (.bl false)
  | ref _ h=>exact p.ret sr _ (.bl false)
  | dic _ h=>exact p.ret sr _ (.bl false)
  | exn0 _ h=>exact p.ret sr _ (.bl false)
  | exn _ h _ _=>exact p.ret sr _ (.bl false)
 | bl b=>
  cases r1 with
  | bl a=>
   cases (show v=Value.bool a from rx)
   cases (show u=Value.bool b from ry)
   refine wpAny_is_plain rfl ⟨.bl (a == b),H,I,?_,p.ret sr _ (.bl _)⟩
   cases a<;>cases b<;>rfl
  | _=>exact p.elim
 | _=>cases r1<;>exact p.elim
theorem Qf4:OpR X (compareOp .IsNot) (rOf X.K isntD):=by
 intro pins s σ H x y v u Q I rx ry pq157;obtain⟨ρ,st,d,e,sr,r1,r2,p⟩:=pq157
 cases r2 with
 | non=>
  refine Qbo pins s σ H x .non v u Q I rx ry ⟨rfl,?_⟩
  cases r1 with
  | non=>exact p.ret sr _ (.bl false)
  | bl b=>exact p.ret sr _ (.bl true)
  | int b=>exact p.ret sr _ (.bl true)
  | str b=>exact p.ret sr _ (.bl true)
  | tup h r=>exact p.ret sr _ (.bl true)
  | lit h r=>exact p.ret sr _ (.bl true)
  | ref _ h=>exact p.ret sr _ (.bl true)
  | dic _ h=>exact p.ret sr _ (.bl true)
  | exn0 _ h=>exact p.ret sr _ (.bl true)
  | exn _ h _ _=>exact p.ret sr _ (.bl true)
 | bl b=>
  cases r1 with
  | bl a=>
   cases (show v=Value.bool a from rx)
   cases (show u=Value.bool b from ry)
   refine wpAny_isNot_plain rfl ⟨.bl (!(a == b)),H,I,?_,p.ret sr _ (.bl _)⟩
   cases a<;>cases b<;>rfl
  | _=>exact p.elim
 | _=>cases r1<;>exact p.elim
theorem Qf5 {v:V}{d:D} (r:Rep K ρ H v d) (h:flatD d=true):flatV v=true:=by
 cases r<;>first | rfl | cases h
theorem Qf6:∀ {vs:List V}{ds:List D},Reps K ρ H vs ds->ds.all flatD=true->vs.all flatV=true
 | _,_,.nil,_=>rfl
 | _,_,.cons r t,h=>by
  rw[List.all_cons,Bool.and_eq_true]at h
  rw[List.all_cons,Bool.and_eq_true]
  exact⟨Qf5 r h.1,Qf6 t h.2⟩
theorem Qf7 {v w:V}{d e:D} (r:Rep K ρ H v d) (q:Rep K ρ H w e) (h:flatD d=true) (h':flatD e=true):eqV v w=eqFl d e:=by
 cases r<;>first | (cases q<;>first | rfl | cases h') | cases h
theorem Qf8 {w:V}{e:D} (q:Rep K ρ H w e) (h':flatD e=true):∀ {vs:List V}{ds:List D},Reps K ρ H vs ds->ds.all flatD=true->inV w vs=ds.any fun d=>eqFl d e
 | _,_,.nil,_=>rfl
 | _,_,.cons r t,h=>by
  rw[List.all_cons,Bool.and_eq_true]at h
  have:=Qf8 q h' t h.2
  unfold inV at this ⊢
  rw[List.any_cons,List.any_cons,this,Qf7 r q h.1 h']
theorem Post.hasK {n:Nat}{k:D}{R:Bool->Sto->List Addr->Hp->Prop} (h:Post K ρ H (MM.hasK n k st) R) (s:SR K ρ H st):∃ b kvs,st[n]?=some (.dct b kvs)/\kOk b k=true/\R (lkK kvs k).isSome st ρ H:=by
 obtain⟨b,kvs,e,p1⟩:=Post.getDc (Post.bnd h) s
 obtain⟨hk,p2⟩:=Post.chk p1
 exact⟨b,kvs,e,hk,p2.ret s⟩
theorem _root_.L2.OpR.orO {f:Value->Value->Sem Value}{r r':R2} (h:OpR X f r) (h':OpR X f r'):OpR X f (fun x y H Q=>r x y H Q\/r' x y H Q):=by
 intro pins s σ H x y v u Q I rx ry q
 rcases q with q | q
 ·exact h pins s σ H x y v u Q I rx ry q
 ·exact h' pins s σ H x y v u Q I rx ry q
theorem Qf9 (hu:X.A.units + 60 < cLine):OpR X (compareOp .In) (fun x y H Q=>∃ (ρ:List Addr) (st:Sto) (n:Nat) (a:Addr) (b:Bool) (kvs:List (D × D)) (k:D),y=.ref a/\SR X.K ρ H st/\ρ[n]?=some a/\st[n]?=some (.dct b kvs)/\Rep X.K ρ H x k/\kOk b k=true/\Q (.bl (lkK kvs k).isSome) H):=by
 intro pins s σ H x y v u Q I rx ry pq158;obtain⟨ρ,st,n,a,b,kvs,k,e,sr,ha,hn,rk,hk,q⟩:=pq158
 subst e
 cases ry
 exact QdV (by ac_nf) I (sr.ob n a _ ha hn) rk hk rx fun s' I'=>⟨.bl _,H,I',rfl,q⟩
theorem Qga (hu:X.A.units + 60 < cLine):OpR X (compareOp .NotIn) (fun x y H Q=>∃ (ρ:List Addr) (st:Sto) (n:Nat) (a:Addr) (b:Bool) (kvs:List (D × D)) (k:D),y=.ref a/\SR X.K ρ H st/\ρ[n]?=some a/\st[n]?=some (.dct b kvs)/\Rep X.K ρ H x k/\kOk b k=true/\Q (.bl (!(lkK kvs k).isSome)) H):=by
 intro pins s σ H x y v u Q I rx ry pq159;obtain⟨ρ,st,n,a,b,kvs,k,e,sr,ha,hn,rk,hk,q⟩:=pq159
 subst e
 cases ry
 exact QdW (by ac_nf) I (sr.ob n a _ ha hn) rk hk rx fun s' I'=>⟨.bl _,H,I',rfl,q⟩
theorem Qgb (hu:X.A.units + 60 < cLine):OpR X (compareOp .In) (rOf X.K inD):=(Qct.orO (Qf9 hu)).of fun x y H Q pq78=>by
 obtain⟨ρ,st,d,e,sr,r1,r2,p⟩:=pq78
 have fin:∀ {a:Addr}{vs:List V}{ds:List D} (hq:SqL X.K H a vs\/SqT X.K H a vs) (r:Reps X.K ρ H vs ds) (p1:Post X.K ρ H (inL d ds st) fun r _ ρ' H'=>∀ v,Rep X.K ρ' H' v r->Q v H'),rIn X.K false x (.ref a) H Q:=fun hq r p1=>by
  obtain⟨⟨h1,h2⟩,p2⟩:=Post.chk p1
  refine⟨_,_,rfl,hq,Qf5 r1 h1,Qf6 r h2,?_⟩
  rw[if_neg (by simp),Qf8 r1 h1 r h2]
  exact p2.ret sr _ (.bl _)
 cases r2 with
 | tup h r=>exact .inl (fin (.inr h) r ((Post.bnd p).ret sr))
 | lit h r=>exact .inl (fin (.inl h.seq) r ((Post.bnd p).ret sr))
 | ref _ h=>
  obtain⟨ds,e2,p1⟩:=Post.getL (Post.bnd p) sr
  obtain⟨a',vs,ha,hv,r⟩:=sr.seq e2
  rw[h]at ha;cases ha
  exact .inl (fin (.inl (SqL.of hv)) r p1)
 | @dic a n _ h=>
  obtain⟨b,kvs,e1,hk,q⟩:=Post.hasK (Post.bnd p) sr
  exact .inr ⟨ρ,st,n,a,b,kvs,d,rfl,sr,h,e1,r1,hk,(q.ret sr) _ (.bl _)⟩
 | _=>exact (show False from p).elim
theorem Qgc (hu:X.A.units + 60 < cLine):OpR X (compareOp .NotIn) (rOf X.K ninD):=(Qcu.orO (Qga hu)).of fun x y H Q pq79=>by
 obtain⟨ρ,st,d,e,sr,r1,r2,p⟩:=pq79
 have fin:∀ {a:Addr}{vs:List V}{ds:List D} (hq:SqL X.K H a vs\/SqT X.K H a vs) (r:Reps X.K ρ H vs ds) (p1:Post X.K ρ H (ninL d ds st) fun r _ ρ' H'=>∀ v,Rep X.K ρ' H' v r->Q v H'),rIn X.K true x (.ref a) H Q:=fun hq r p1=>by
  obtain⟨⟨h1,h2⟩,p2⟩:=Post.chk p1
  refine⟨_,_,rfl,hq,Qf5 r1 h1,Qf6 r h2,?_⟩
  rw[if_pos rfl,Qf8 r1 h1 r h2]
  exact p2.ret sr _ (.bl _)
 cases r2 with
 | tup h r=>exact .inl (fin (.inr h) r ((Post.bnd p).ret sr))
 | lit h r=>exact .inl (fin (.inl h.seq) r ((Post.bnd p).ret sr))
 | ref _ h=>
  obtain⟨ds,e2,p1⟩:=Post.getL (Post.bnd p) sr
  obtain⟨a',vs,ha,hv,r⟩:=sr.seq e2
  rw[h]at ha;cases ha
  exact .inl (fin (.inl (SqL.of hv)) r p1)
 | @dic a n _ h=>
  obtain⟨b,kvs,e1,hk,q⟩:=Post.hasK (Post.bnd p) sr
  exact .inr ⟨ρ,st,n,a,b,kvs,d,rfl,sr,h,e1,r1,hk,(q.ret sr) _ (.bl _)⟩
 | _=>exact (show False from p).elim
end
section
variable {X:Cx}{a b c e o tg:Expr}{es:List Expr}{pos apos cpos:Pos}{fa fb fc:CE}{ca cb:CA}{ta tb:CT}{K:PySem.W.Frag}{ρ:List Addr}{H:Hp}{st:Sto}{x:Str}{p:Pos}{T id:String}{body:List Stmt}{cs:CS}
theorem Qgd:CallR X (.type "list") (fun xs H Q=>∃ v,xs=[v]/\uOf X.K listD v H Q):=Qcx.of fun xs H Q pq80=>by
 obtain⟨v,e,ρ,st,d,sr,rv,p⟩:=pq80
 have fin:∀ {ds:List D}{vs:List V}{l:Addr} (r:Reps X.K ρ H vs ds) (hl:H l=none) (p1:Post X.K ρ H (alloc (.lst ds) st) fun r _ ρ' H'=>∀ v,Rep X.K ρ' H' v r->Q v H'),Q (.ref l) (upd H l (.lst vs)):=fun {ds vs l} r hl p1=>by
  have nl:=sr.fresh hl
  have s2:SR X.K (ρ++[l]) (upd H l (.lst vs)) (st++[.lst ds]):=(sr.new hl).keep Qai nl (r.mono (Ex.new hl))
  refine p1 _ _ (Ex.newL hl) s2 _ (.ref ⟨_,Qai,rfl⟩ ?_)
  rw[<- sr.len];simp
 cases rv with
 | @tup a vs ds h r=>exact⟨a,vs,e,.inr h,fun l hl=>fin r hl ((Post.bnd p).ret sr)⟩
 | @lit a vs ds h r=>exact⟨a,vs,e,.inl h.seq,fun l hl=>fin r hl ((Post.bnd p).ret sr)⟩
 | @ref a n _ h=>
  obtain⟨ds,e2,p1⟩:=Post.getL (Post.bnd p) sr
  obtain⟨a',vs,ha,hv,r⟩:=sr.seq e2
  rw[h]at ha;cases ha
  exact⟨a,vs,e,.inl (SqL.of hv),fun l hl=>fin r hl p1⟩
 | _=>exact (Post.bnd p).elim
theorem Qge {g : D -> D -> M D} (hc : CallR X (.builtin id) (fun xs H Q => ∃ v w, xs = [v, w] /\ rOf X.K g v w H Q)) (hg : Gl X x) (hm : X.mg x = none) (hv : bootBuiltins x = some (.builtin id)) (ha : SE X a fa) (hb : SE X b fb) (hn : x ≠ "__name__" := by decide) (hdb : (x == ("__debug__" : Str)) = false := by decide)
  (he1:starEach [a,b] X.env=(false,eval a X.env)::starEach [b] X.env:=by rfl) (he2:starEach [b] X.env=(false,eval b X.env)::starEach [] X.env:=by rfl) (hpl:(backTo pos (starEach [b] X.env)).any (fun x=>x.fst)=false:=by rfl):SE X (.Call (.Name x p) [a,b] [] pos) (c2 g fa fb):=
 (QbX hc hg hm hv (QbL ha (QbL hb QbK he2) he1) hn hdb he1 hpl).of fun σ H Q h_=>h_.el fun ρ l st lr sr p=>⟨ρ,l,st,lr,sr,p.bnd.imp fun d st1 ρ1 H1 x1 s1 p1 v rv=>⟨ρ1,l,st1,lr.mono x1,s1,p1.bnd.imp fun e st2 ρ2 H2 x2 s2 p2 w rw'=>⟨v,w,rfl,ρ2,st2,d,e,s2,rv.mono x2,rw',p2⟩⟩⟩
theorem Qgf (hc:X.calm=true):CallR X (.builtin "max") (fun xs H Q=>∃ v w,xs=[v,w]/\rOf X.K max2D v w H Q):=(QbC hc).of fun xs H Q pq81=>by
 obtain⟨v,w,e,ρ,st,d1,d2,sr,r1,r2,p⟩:=pq81
 cases r1 with
 | int i=>
  cases r2 with
  | int j=>
   refine⟨i,j,e,?_⟩
   have:(if j > i then j else i)=max i j:=by ac_nf
   rw[this];exact p.ret sr _ (.int _)
  | _=>exact p.elim
 | _=>exact p.elim
theorem Qgg (ho:SE X o fa) (hbase:attributeBase o "pop" X.env (eval o X.env)=eval o X.env:=by rfl) (hline:(apos.endLine == cpos.line)=true:=by rfl):SE X (.Call (.Attribute o "pop" apos) [] [] cpos) (cPop fa):=
 (QcA PySem.F.plainAttrs_list PySem.F.slot_list_pop PySem.F.type_list_pop QcF ho hbase hline).of fun σ H Q h_=>h_.el fun ρ l st lr sr p=>⟨ρ,l,st,lr,sr,p.bnd.imp fun d st1 ρ1 H1 x1 s1 p1 v rv=>by
  cases rv with
  | @ref a n _ h=>
   obtain⟨ds,e2,p2⟩:=Post.getL (Post.bnd p1) s1
   obtain⟨a',vs,ha,hv,r⟩:=s1.seq e2
   rw[h]at ha;cases ha
   cases e3:ds.getLast? with
   | none=>rw[e3]at p2;exact p2.elim
   | some d=>
    rw[e3]at p2
    have hl:=(List.getElem?_eq_some_iff.mp e2).1
    have e4:ds[ds.length - 1]?=some d:=by rw[<- List.getLast?_eq_getElem?];exact e3
    obtain⟨y,hy,ry⟩:=r.get e4
    have rd:Reps X.K ρ1 H1 vs.dropLast ds.dropLast:=by
     rw[List.dropLast_eq_take,List.dropLast_eq_take,r.length];exact r.take _
    obtain⟨s3,x3⟩:=s1.put hl h hv rd
    refine⟨.inl ⟨rfl,vs,SqL.of hv⟩,a,vs,y,rfl,rfl,hv,by rw[r.length];exact hy,?_⟩
    have p5:=Post.bnd p2
    unfold putL at p5
    rw[e2]at p5
    exact (p5 ρ1 _ x3 s3).ret s3 _ (ry.mono x3)
  | _=>exact p1.elim⟩
theorem Reps.rev:∀ {vs:List V}{ds:List D},Reps K ρ H vs ds->Reps K ρ H vs.reverse ds.reverse
 | _,_,.nil=>.nil
 | _,_,.cons r t=>by
  rw[List.reverse_cons,List.reverse_cons];exact Reps.app (Reps.rev t) (.cons r .nil)
theorem Qgh (hp:PassesOwn (model X.prog X.w) X.A X.env X.xe) (hc:ST X c ta) (hb:SSs X body cs):SS X (.While c body [] pos) (sWhile ta cs):=(QaW hp hc hb).of fun G σ H h_=>h_.el fun ρ l st lr sr p=>by
 unfold sWhile at p
 by_cases h:∃ n,∀ r,whileN ta cs n l st=r->r≠.bad
 ·rw[dif_pos h]at p
  generalize Classical.choose h=n at p
  refine⟨fun m σ H=>∃ ρ l st,LR X.K ρ H σ l/\SR X.K ρ H st/\Post X.K ρ H (whileN ta cs m l st) fun f _ ρ' H'=>match f with
   | .next l'=>∀ σ',LR X.K ρ' H' σ' l'->G.nx σ' H'
   | .ret d=>∀ v,Rep X.K ρ' H' v d->G.rt v H'
   | .brk l'=>∀ σ',LR X.K ρ' H' σ' l'->G.bk σ' H'
   | .cnt l'=>∀ σ',LR X.K ρ' H' σ' l'->G.ct σ' H',⟨n,ρ,l,st,lr,sr,p⟩,?_⟩
  intro m σ1 H1 pq160;obtain⟨ρ1,l1,st1,lr1,sr1,p1⟩:=pq160
  cases m with
  | zero=>exact p1.elim
  | succ m=>
   refine⟨ρ1,l1,st1,lr1,sr1,(Post.bnd p1).imp fun k st2 ρ2 H2 x2 s2 p2=>?_⟩
   cases k with
   | false=>exact p2.ret s2 _ (lr1.mono x2)
   | true=>
    refine⟨fun σ' H'=>∃ ρ l st,LR X.K ρ H' σ' l/\SR X.K ρ H' st/\Post X.K ρ H' (whileN ta cs m l st) _,fun σ' H' q=>⟨m,Nat.lt_succ_self m,q⟩,ρ2,l1,st2,lr1.mono x2,s2,(Post.bnd p2).imp fun f st3 ρ3 H3 x3 s3 p3=>?_⟩
    cases f with
    | next l'=>exact fun σ' lr'=>⟨ρ3,l',st3,lr',s3,p3⟩
    | ret d=>exact p3.ret s3
    | brk l'=>exact p3.ret s3
    | cnt l'=>exact fun σ' lr'=>⟨ρ3,l',st3,lr',s3,p3⟩
 ·rw[dif_neg h]at p;exact p.elim
end
section
variable {X:Cx}{K:PySem.W.Frag}{ρ:List Addr}{H:Hp}{st:Sto}
theorem Reps.pick:∀ {vs:List V}{ds:List D} (i:Nat),Reps K ρ H vs ds->Rep K ρ H (vs.getD i .non) (ds.getD i .non)
 | _,_,_,.nil=>by simp;exact .non
 | _,_,0,.cons r t=>by simpa using r
 | _,_,i + 1,.cons r t=>by simpa using Reps.pick i t
theorem Reps.picks {vs:List V}{ds:List D} (r:Reps K ρ H vs ds):∀ (p:List Nat),Reps K ρ H (p.map fun i=>vs.getD i .non) (p.map fun i=>ds.getD i .non)
 | []=>.nil
 | i::p=>.cons (Reps.pick i r) (Reps.picks r p)
theorem Qgi {P:Program}{w:World}{H:Hp}{h:Heap}{a:Addr}{o:HO} (x:ObjOk P w H h a o):∃ ob,h.get? a=some ob:=by
 cases o with
 | lst _=>obtain⟨_,_,_,_,e⟩:=x;exact⟨_,e⟩
 | tup _=>obtain⟨_,_,_,ob,e,_⟩:=x;exact⟨_,e⟩
 | dK _=>obtain⟨_,_,_,_,ob,_,_,e,_⟩:=x;exact⟨_,e⟩
 | dT _=>obtain⟨_,_,_,_,ob,_,_,e,_⟩:=x;exact⟨_,e⟩
 | set _ _=>obtain⟨ob,_,_,_,e,_⟩:=x;exact⟨_,e⟩
 | ins _ _ _=>obtain⟨_,_,_,e,_⟩:=x;exact⟨_,e⟩
 | own _=>obtain⟨_,e⟩:=x;exact⟨_,e⟩
 | xd _=>obtain⟨_,⟨_,_,_,e,_⟩,_⟩:=x;exact⟨_,e⟩
 | rng _ _=>obtain⟨_,_,_,e⟩:=x;exact⟨_,e⟩
 | frz _ _=>obtain⟨e,_⟩:=x;exact⟨_,e⟩
 | tbl _=>exact⟨_,(show h.get? a=some _ from x)⟩
 | met _ _=>exact⟨_,(show h.get? a=some _ from x)⟩
 | ext _=>obtain⟨_,⟨_,e⟩,_⟩:=x;exact⟨_,e⟩
end
section
variable {X:Cx}{tg:Expr}{es:List Expr}{pos:Pos}{fa fb:CE}{K:PySem.W.Frag}{ρ:List Addr}{H:Hp}{st:Sto}
theorem atI {h h':Heap}{it l:Addr}{k:Nat} (x:h.IsTupleIter it l k) (e:∀ o,h.get? it=some o->h'.get? it=some o):h'.IsTupleIter it l k:=let ⟨o,e1,r⟩:=x;⟨o,e o e1,r⟩
end
end MM
namespace PySem.F
theorem nolen_lri:typeLookup (.type "list_reverseiterator") "__len__"=pure none:=by rw[typeLookup_type,builtinLookup_eq_fast];kernel_rfl
theorem hint_lri:typeLookup (.type "list_reverseiterator") "__length_hint__"=pure (some (.builtin "list_reverseiterator.__length_hint__")):=by rw[typeLookup_type,builtinLookup_eq_fast];kernel_rfl
end PySem.F
namespace MM
open PySem PySem.Spec PyProof.Rows L2
section
variable {prog:Program}{w:World}{A:Around}{E:Value->Shared->Prop}{s:Shared}{r:Addr}
theorem Qgj {Q:Bool->Shared->Prop} (hT:s.TypeIs (.ref r) "list_reverseiterator") (h:Q false s):wpAny (model prog w) A (Builtin.List.listLengthHint (.ref r)) Q E s:=by
 unfold Builtin.List.listLengthHint
 refine wpAny_bind (wpAny_specialOf hT PySem.F.nolen_lri ?_)
 show wpAny _ A (specialOf (Value.ref r) (Str.ofString "__length_hint__") >>= _) _ _ _
 refine wpAny_bind (wpAny_specialOf hT PySem.F.hint_lri ?_)
 generalize hid:("list_reverseiterator.__length_hint__":String)=id0
 wp_delta
 rw[show splitId id0=some ("list_reverseiterator","__length_hint__") from by subst hid;decide +kernel]
 subst hid
 refine wpAny_bind (wpAny_isInstance (b:=true) hT (by rw[isSubtype_type];kernel_rfl) ?_)
 exact wpAny_pure h
theorem Qgk {R : Result -> Shared -> Prop} {I l : Addr} {items : Array Value} (hh : A.handled = none) (hit : s.heap.IsRevIter I l ((items.size : Int) - 1)) (hl : s.heap.IsList l items) (hne : l ≠ I) (S : Addr) (hSI : S ≠ I) (hSl : S ≠ l) (res : Value) (c₀ : Nat) (hS : s.heap.get? S = some { cls := .type "list", data := .seq #[] c₀ })
  (hR:∀ h' tk acc' c',(∀ b o,b≠S->b≠I->s.heap.get? b=some o->h'.get? b=some o)->h'.get? S=some { cls:=.type "list",dict:=none,data:=.seq acc' c',slots:=#[] }->ItemsOf (fun i v=>items[items.size - 1 - i]?=some v) acc' items.size->R (.ok (.ret res)) { s with heap:=h',toks:=tk }) (hn:items.size<=sizeLine):
  wpAny (model prog w) A.in1 (Builtin.List.listExtendWith (.ref S) (.ref I) res)
   (fun fin s'=>match fin with | .done f=>R (.ok f) s' | .again c'=>c'.quiet=true/\codeAny (model prog w) A c' R s') (fun e s'=>R (.error e) s') s:=by
 have W:=Walks.listRev (prog:=prog) (w:=w) (A:=A.in1) hh I l hne items
 have hSf:S∉[I,l]:=by simp only[List.mem_cons,List.not_mem_nil,or_false,not_or];exact⟨hSI,hSl⟩
 have st0:0<=items.size/\s.heap.IsRevIter I l ((items.size:Int) - 1 - ((0:Nat):Int))/\s.heap.IsList l items:=⟨Nat.zero_le _,by rw[show (items.size:Int) - 1 - ((0:Nat):Int)=(items.size:Int) - 1 by ac_nf];exact hit,hl⟩
 unfold Builtin.List.listExtendWith
 refine wpAny_bind (wpAny_typeOf hit.typeIs ?_)
 have h1:Builtin.List.listSameRef (.ref S) (.ref I)=false:=by simp[Builtin.List.listSameRef,hSI]
 rw[if_neg (by rw[h1];decide)]
 refine wpAny_bind (wpAny_pyIter_revIter hit ?_)
 refine wpAny_bind (wpAny_holding (Qgj hit.typeIs ?_))
 rw[if_neg (by decide)]
 refine wpAny_pure ⟨plainId_quiet PySem.F.plain_extend_loop _,codeAny_extend_loopS W.toS hn S hSf res items.size 0 _ #[] c₀ rfl (Nat.zero_le _) st0 hS (ItemsOf.nil _) fun s' acc' c' hm hS' hacc=>?_⟩
 rw[Moved.eq_with hm]
 refine hR s'.heap s'.toks acc' c' (fun b o hb hbI e=>hm.heap b o (fun hmem=>?_) e) hS' hacc
 rcases List.mem_cons.mp hmem with e' | hmem
 ·exact hb e'
 ·exact hbI (List.mem_singleton.mp hmem)
theorem Qgl {Q : Value -> Shared -> Prop} {I l : Addr} {items : Array Value} (hh : A.handled = none) (hit : s.heap.IsRevIter I l ((items.size : Int) - 1)) (hl : s.heap.IsList l items) (hne : l ≠ I) (hn : items.size <= sizeLine)
  (hQ:∀ h' tk acc' c',(∀ b o,b≠I->s.heap.get? b=some o->h'.get? b=some o)->h'.get? s.heap.objs.size=some { cls:=.type "list",dict:=none,data:=.seq acc' c',slots:=#[] }->ItemsOf (fun i v=>items[items.size - 1 - i]?=some v) acc' items.size->Q (.ref s.heap.objs.size) { s with heap:=h',toks:=tk }):
  wpAny (model prog w) A (call (.type "list") [.ref I]) Q E s:=by
 refine callType_codes (Q₁:=fun obj s₁=>obj=.ref s.heap.objs.size/\s₁={ s with heap:=s.heap.push { cls:=.type "list",data:=.seq #[] } }) PySem.F.called_list (PySem.F.typeCall_list_1 _) PySem.F.entry_list_init
  (code_list_new _ ⟨rfl,rfl⟩) fun obj s₁ h₁=>?_
 obtain⟨rfl,rfl⟩:=h₁
 have hS:(s.heap.push { cls:=.type "list",data:=.seq #[] }).get? s.heap.objs.size=some { cls:=.type "list",data:=.seq #[] }:=Heap.get?_push_size _ rfl
 have hI:I < s.heap.objs.size:=let ⟨_,e,_⟩:=hit;Heap.lt_size e
 have hL:l < s.heap.objs.size:=let ⟨_,e,_⟩:=hl;Heap.lt_size e
 have hit1:(s.heap.push { cls:=.type "list",data:=.seq #[] }).IsRevIter I l ((items.size:Int) - 1):=let ⟨o,e,x⟩:=hit;⟨o,Heap.get?_push_of_some _ e,x⟩
 have hl1:(s.heap.push { cls:=.type "list",data:=.seq #[] }).IsList l items:=let ⟨o,e,x⟩:=hl;⟨o,Heap.get?_push_of_some _ e,x⟩
 refine⟨⟨_,hS,rfl⟩,PySem.F.args_list_init_2 _ _,?_⟩
 show wpAny _ A.in1.in1 (do let old <- Builtin.List.listItems (.ref s.heap.objs.size);Builtin.List.listUpdate (.ref s.heap.objs.size) (fun _=>#[]);letGo old.toList.reverse;Builtin.List.listExtendWith (.ref s.heap.objs.size) (.ref I) .none) _ _ _
 refine wpAny_bind ?_
 unfold Builtin.List.listItems
 refine wpAny_bind (wpAny_seqItems hS rfl (wpAny_pure ?_))
 show wpAny _ _ (updateSeq s.heap.objs.size (fun _=>#[]) >>= fun _=>letGo (#[]:Array Value).toList.reverse >>= fun _=>Builtin.List.listExtendWith (.ref s.heap.objs.size) (.ref I) .none) _ _ _
 refine wpAny_bind (wpAny_updateSeq hS rfl ?_)
 have hS₂:=Heap.get?_update_self (Obj.mapSeq (fun _=>(#[]:Array Value))) hS rfl
 have oth:∀ b o,b≠s.heap.objs.size->(s.heap.push { cls:=.type "list",data:=.seq #[] }).get? b=some o->((s.heap.push { cls:=.type "list",data:=.seq #[] }).update s.heap.objs.size (Obj.mapSeq (fun _=>(#[]:Array Value)))).get? b=some o:=
  fun b o hb e=>(Heap.get?_update_other _ _ (Ne.symm hb)).trans e
 refine wpAny_bind (wpAny_letGo ?_)
 refine Qgk (A:=A.in1) hh (let ⟨o,e,x⟩:=hit1;⟨o,oth _ _ (Nat.ne_of_lt hI) e,x⟩) (let ⟨o,e,x⟩:=hl1;⟨o,oth _ _ (Nat.ne_of_lt hL) e,x⟩) hne s.heap.objs.size (Nat.ne_of_gt hI) (Nat.ne_of_gt hL) .none _ hS₂ (fun h' tk acc' c' hk hS' hacc=>?_) hn
 exact⟨rfl,hQ h' tk acc' c' (fun b o hbI e=>hk b o (Nat.ne_of_lt (Heap.lt_size e)) hbI (oth b o (Nat.ne_of_lt (Heap.lt_size e)) (Heap.get?_push_of_some _ e))) hS' hacc⟩
end
theorem Qgm {vs:List Value}{acc:Array Value} (h:ItemsOf (fun i v=>vs.toArray[vs.toArray.size - 1 - i]?=some v) acc vs.toArray.size):acc=vs.reverse.toArray:=by
 apply Array.ext'
 apply List.ext_getElem?
 intro i
 have hs:acc.size=vs.length:=by have:=h.1;simpa using this
 by_cases hi:i < vs.length
 ·have e1:acc[i]?=some (acc[i]'(by ac_nf)):=Array.getElem?_eq_getElem (by ac_nf)
  have e2:=h.2 i _ e1
  rw[Array.getElem?_toList,e1]
  simp only[List.getElem?_toArray,List.size_toArray]at e2
  rw[List.getElem?_reverse hi]
  exact e2.symm
 ·rw[List.getElem?_eq_none (by simp;ac_nf),List.getElem?_eq_none (by simp;ac_nf)]
theorem Vals.reverse:∀ {xs:List V}{us:List Value},Vals xs us->Vals xs.reverse us.reverse
 | _,_,.nil=>.nil
 | _,_,.cons r t=>by
  rw[List.reverse_cons,List.reverse_cons];exact L2.Vals.append (Vals.reverse t) (.cons r .nil)
section
variable {X:Cx}{a b c e o tg:Expr}{es:List Expr}{pos pos' apos cpos p p':Pos}{fa fb fc:CE}{ca cb:CA}{K:PySem.W.Frag}{ρ:List Addr}{H:Hp}{st:Sto}{te:TE}
theorem Qgn (hc : X.calm = true) (hg : Gl X "list") (hm : X.mg "list" = none) (hv : bootBuiltins "list" = some (.type "list")) (hg2 : Gl X "reversed") (hm2 : X.mg "reversed" = none) (hv2 : bootBuiltins "reversed" = some (.type "reversed")) (ha : PE X e te)
  (he:starEach [e] X.env=[(false,eval e X.env)]:=by rfl) (he2:starEach [.Call (.Name "reversed" p') [e] [] pos'] X.env=[(false,eval (.Call (.Name "reversed" p') [e] [] pos') X.env)]:=by rfl):
  PE X (.Call (.Name "list" p) [.Call (.Name "reversed" p') [e] [] pos'] [] pos) (fun σ H Q=>te σ H fun x H1=>∃ a xs,x=.ref a/\SqL X.K H1 a xs/\∀ q,H1 q=none->Q (.ref q) (upd H1 q (.lst xs.reverse))):=by
 intro pins s σ H Q I h
 refine wpAny_Call_Name_kw (Qay I hg hm hv ?_ (by decide) (by decide))
 refine PyProof.Rows.callWith_type1 ?_ he2 rfl
 rw[he2]
 show wpAny _ _ (spliced [(false,eval (.Call (.Name "reversed" p') [e] [] pos') X.env)]) _ _ s
 refine Calls.spliced_cons ?_
 refine wpAny_Call_Name_kw (Qay I hg2 hm2 hv2 ?_ (by decide) (by decide))
 refine PyProof.Rows.callWith_type1 ?_ he rfl
 rw[he]
 show wpAny _ _ (spliced [(false,eval e X.env)]) _ _ s
 refine Calls.spliced_cons (thn (ha pins s σ H _ I h) fun u s1 ⟨x,H1,I1,r1,a,xs,ex,hx,q⟩=>Calls.spliced_nil ?_)
 subst ex
 cases r1
 obtain⟨its,rv,pl,hz⟩:=I1.list hx
 have hlen:=rv.length
 refine call_reversed_list pl.isList (Calls.spliced_nil ?_)
 have hlt:a < s1.heap.objs.size:=let ⟨_,e,_⟩:=pl.isList;Heap.lt_size e
 refine Qgl (l:=a) (items:=its.toArray) (I1.ok.hd hc) ⟨_,Heap.get?_push_size _ rfl,rfl,rfl⟩ (let ⟨o,e,x⟩:=pl.isList;⟨o,Heap.get?_push_of_some _ e,x⟩) (Nat.ne_of_lt hlt) (by simp only[List.size_toArray];ac_nf) fun h' tk acc c hk hS hacc=>?_
 rw[Qgm hacc]at hS
 have kp:∀ b u,s1.heap.get? b=some u->h'.get? b=some u:=fun b u e=>hk b u (Nat.ne_of_lt (Heap.lt_size e)) (Heap.get?_push_of_some _ e)
 have hp:s1.heap.objs.size<=(s1.heap.push (revObj a ((its.toArray.size:Int) - 1))).objs.size:=by simp[Heap.push]
 refine⟨.ref _,_,I1.laid (t':=tk) (o:=.lst xs.reverse) kp hp ?_,rfl,q _ (I1.hok.fresh hp)⟩
 exact⟨by rw[List.length_reverse];exact hz,its.reverse,c,rv.reverse,hS⟩
theorem Qgo (hc : X.calm = true) (hg : Gl X "list") (hm : X.mg "list" = none) (hv : bootBuiltins "list" = some (.type "list")) (hg2 : Gl X "reversed") (hm2 : X.mg "reversed" = none) (hv2 : bootBuiltins "reversed" = some (.type "reversed")) (ha : SL X e ca)
  (he:starEach [e] X.env=[(false,eval e X.env)]:=by rfl) (he2:starEach [.Call (.Name "reversed" p') [e] [] pos'] X.env=[(false,eval (.Call (.Name "reversed" p') [e] [] pos') X.env)]:=by rfl):
  SL X (.Call (.Name "list" p) [.Call (.Name "reversed" p') [e] [] pos'] [] pos) (aRev ca):=
 (Qgn hc hg hm hv hg2 hm2 hv2 ha he he2).of fun σ H Q h_=>h_.el fun ρ l st lr sr p=>⟨ρ,l,st,lr,sr,p.bnd0.imp fun ds st1 ρ1 H1 x1 s1 p1 a vs ha na hv rvs=>by
  refine⟨a,vs,rfl,SqL.of hv,fun q hq=>?_⟩
  have hn:H q=none:=by
   cases z:H q with
   | none=>rfl
   | some o=>exact absurd hq (x1.trk q o z)
  exact p1 ρ1 _ (x1.trans (Ex.new hq)) (s1.new hq) q _ hn (s1.fresh hq) Qai ((Reps.rev rvs).mono (Ex.new hq))⟩
theorem Qgp:SE X (.Dict [] [] pos) (cDNew false):=Qc9.of fun σ H Q pq83 q hq=>by
 obtain⟨ρ,l,st,lr,sr,p⟩:=pq83
 have p':∀ ρ' H',Ex ρ H ρ' H'->SR X.K ρ' H' (st++[.dct false []])->∀ v,Rep X.K ρ' H' v (.dic st.length)->Q v H':=p
 refine p' (ρ++[q]) _ (Ex.newO hq) ((sr.new hq).keepO (sr.fresh hq) ⟨[],Qai,.nil⟩) _ (.dic ⟨_,Qai,.inl rfl⟩ ?_)
 rw[<- sr.len];simp
noncomputable def tDNewN (X:Cx):TE:=fun _ H Q=>∀ p,H p=none->Q (.ref p) (upd H p (nstO p []))
theorem Qgq:PE X (.Dict [] [] pos) (tDNewN X):=fun pins s σ H Q I h=>
 wpAny_Dict_empty ⟨.ref s.heap.objs.size,_,I.laid (a:=s.heap.objs.size) (o:=nstO s.heap.objs.size []) (t':=s.toks) (fun _ _ q=>Heap.get?_push_of_some _ q) (Nat.le_refl _)
  (QdR (P:=X.prog) (w:=X.w) (xs:=[]) (Nat.zero_le _) (beq_eq_false_iff_ne.mpr (Ne.symm (Nat.ne_of_lt I.big))) .nil (Heap.DictOfH.new s.heap) ⟨_,_,Heap.get?_push_size _ rfl,rfl⟩),rfl,h _ (I.hok.fresh (Nat.le_refl _))⟩
theorem Qgr:SE X (.Dict [] [] pos) (cDNew true):=Qgq.of fun σ H Q pq84 q hq=>by
 obtain⟨ρ,l,st,lr,sr,p⟩:=pq84
 have p':∀ ρ' H',Ex ρ H ρ' H'->SR X.K ρ' H' (st++[.dct true []])->∀ v,Rep X.K ρ' H' v (.dic st.length)->Q v H':=p
 refine p' (ρ++[q]) _ (Ex.newO hq) ((sr.new hq).keepO (sr.fresh hq) ⟨[],Qai,.nil⟩) _ (.dic ⟨_,Qai,.inr rfl⟩ ?_)
 rw[<- sr.len];simp
noncomputable def SDs (X:Cx) (pos:Pos) (keys:List (Option Expr)) (values:List Expr) (ks:List Key) (ca:CA):Prop:=∃ trs,PPs X pos keys values trs /\
 ∀ σ H (Q:List (V × V)->Hp->Prop),(∃ ρ l st,LR X.K ρ H σ l/\SR X.K ρ H st/\Post X.K ρ H (ca l st) fun ds _ ρ' H'=>ks.length=ds.length/\∀ vs,Reps X.K ρ' H' vs ds->Q ((ks.zip vs).map fun kv=>(kV kv.1,kv.2)) H')->tPairs trs σ H Q
theorem Qgs:SDs X pos [] [] [] cNil:=⟨[],Qda,fun σ H Q h_=>h_.el fun ρ l st lr sr p=>(p.ret sr).2 [] .nil⟩
theorem Qgt {x : Str} {j : Nat} {v : Expr} {ks : List (Option Expr)} {vs : List Expr} {kk : List Key} (hv : SE X v fa) (hr : SDs X pos ks vs kk ca) :
  SDs X pos (some (.Constant (.str x) j cpos)::ks) (v::vs) (.inr x::kk) (cCons fa ca):=by
 obtain⟨trs,h1,h2⟩:=hr
 refine⟨_,Qdb Qaw hv h1,fun σ H Q h_=>h_.el fun ρ l st lr sr p=>?_⟩
 refine⟨ρ,l,st,lr,sr,p.bnd.imp fun d st1 ρ1 H1 x1 s1 p1 v rv=>h2 _ _ _ ⟨ρ1,l,st1,lr.mono x1,s1,p1.bnd.imp fun ds st2 ρ2 H2 x2 s2 p2=>?_⟩⟩
 obtain⟨hl,q⟩:=p2.ret s2
 refine⟨by simpa using hl,fun vs rvs=>?_⟩
 exact q (v::vs) (.cons (rv.mono x2) rvs)
theorem KR.zip:∀ {ks:List Key}{vs:List V}{ds:List D},Reps K ρ H vs ds->KR K ρ H (ks.zip vs) ((ks.map keyD).zip ds)
 | [],_,_,_=>.nil
 | k::ks,_,_,.nil=>.nil
 | k::ks,_,_,.cons r t=>.cons ⟨rfl,r⟩ (KR.zip t)
theorem KR.merge:∀ {more:List (Key × V)}{rs:List (D × D)}{es:List (Key × V)}{kvs:List (D × D)},KR K ρ H more rs->KR K ρ H es kvs->KR K ρ H (mergeK es more) (mgK kvs rs)
 | _,_,_,_,.nil,q=>q
 | _,_,es,kvs,.cons (a:=p) (b:=q) (l₁:=ps) (l₂:=qs) h t,r=>by
  have z:=KR.put r p.1 h.2
  rw[h.1]at z
  show KR K ρ H (mergeK (L2.putK es p.1 p.2) ps) (mgK (ptK kvs q.1 q.2) qs)
  exact KR.merge (more:=ps) (rs:=qs) t z
theorem Qgu {keys : List (Option Expr)} {values : List Expr} {ks : List Key} (h : SDs X pos keys values ks ca) (hall : keys.all (·.isSome) = true := by rfl) (hl : keys.length = values.length := by rfl) (h0 : keys ≠ [] := by simp) (h15 : keys.length <= 15 := by decide) (hk : ks.length <= 15 := by decide) :
  SE X (.Dict keys values pos) (cDisp (ks.map keyD) ca):=by
 obtain⟨trs,h1,h2⟩:=h
 refine (Qde h1 hall hl h0 h15).of fun σ H Q ⟨ρ,l,st,lr,sr,p⟩ q hq=>h2 _ _ _ ?_
 have hn:=sr.fresh hq
 refine⟨ρ,l,st,lr.mono (Ex.new hq),sr.new hq,(p.bnd0.left (Ex.new hq)).imp fun ds st1 ρ1 H1 x1 s1 p1=>?_⟩
 obtain⟨hlen,p2⟩:=Post.chk p1
 rw[List.length_map]at hlen
 have hq1:H1 q=some (.dK []):=x1.oth q _ hn Qai
 refine⟨hlen,fun vs rvs=>⟨hq1,ks.zip vs,rfl,by simp;ac_nf,?_⟩⟩
 have ne:∀ b o,H b=some o->b≠q:=fun b o e z=>by rw[z,hq]at e;cases e
 have nq1:q∉ρ1:=by
  obtain⟨τ,e,f⟩:=x1.pre
  rw[e]
  intro z
  rcases List.mem_append.mp z with z | z
  ·exact hn z
  ·have:=f q z;rw[Qai]at this;cases this
 have up:Up ρ1 H1 ρ1 (upd H1 q (.dK (mergeK [] (ks.zip vs)))):=by
  refine⟨⟨[],by simp⟩,fun c o no w=>?_,fun c o w=>?_⟩
  ·rw[Qaj fun z=>by subst z;rw[hq1]at w;cases w;exact nomatch no];exact w
  ·by_cases z:c=q
   ·subst z;rw[hq1]at w;cases w;exact⟨_,Qai,rfl⟩
   ·exact⟨o,by rw[Qaj z];exact w,rfl⟩
 have s2:SR X.K ρ1 (upd H1 q (.dK (mergeK [] (ks.zip vs)))) st1:=⟨s1.len,s1.nd,fun n b o e1 e2=>ObR.mono (o:=o) up (s1.ob n b o e1 e2) fun u w=>by
  rw[Qaj (fun (z:b=q)=>nq1 (by rw[<- z];exact List.mem_of_getElem? e1))];exact w⟩
 have x2:Ex ρ H (ρ1++[q]) (upd H1 q (.dK (mergeK [] (ks.zip vs)))):=by
  obtain⟨τ,e,f⟩:=x1.pre
  refine⟨⟨τ++[q],by rw[e,List.append_assoc],fun b hb=>?_⟩,fun b o no e=>?_,fun b o nb e=>?_,fun b o e=>?_⟩
  ·rcases List.mem_append.mp hb with hb | hb
   ·have z:=f b hb
    by_cases w:b=q
    ·subst w;exact hq
    ·rw[Qaj w]at z;exact z
   ·rw[List.mem_singleton]at hb;rw[hb];exact hq
  ·rw[Qaj (ne b o e)];exact x1.fix b o no (by rw[Qaj (ne b o e)];exact e)
  ·rw[Qaj (ne b o e)];exact x1.oth b o nb (by rw[Qaj (ne b o e)];exact e)
  ·obtain⟨o',e',k'⟩:=x1.knd b o (by rw[Qaj (ne b o e)];exact e)
   exact⟨o',by rw[Qaj (ne b o e)];exact e',k'⟩
 have p3:∀ ρ' H',Ex ρ H ρ' H'->SR X.K ρ' H' (st1++[.dct false (mgK [] ((ks.map keyD).zip ds))])->∀ v,Rep X.K ρ' H' v (.dic st1.length)->Q v H':=p2
 refine p3 _ _ x2 (s2.keepO nq1 ⟨_,Qai,KR.merge (KR.zip (rvs.up up)) .nil⟩) _ (.dic ⟨_,Qai,.inl rfl⟩ ?_)
 rw[<- s1.len];simp
end



































end MM
namespace MM
open PySem PySem.W PyProof.Rows L2
section
variable {prog:Program}{w:World}{A:Around}{E:Value->Shared->Prop}{s:Shared}{d it:Addr}{es:Array DictEntry}{ep i:Nat}
noncomputable def EnAt (h:Heap) (d:Addr) (es:Array DictEntry) (ep:Nat):Prop:=∃ o,h.get? d=some o/\o.ExactDict/\o.data=.dict es ep
theorem EnAt.typeIs (x:EnAt s.heap d es ep):s.TypeIs (.ref d) "dict":=by
 obtain⟨o,g,c,_⟩:=x
 exact⟨o,g,c.1⟩
theorem Qgw {Q : Value -> Shared -> Prop} (hd : (d == sysModules) = false) (x : EnAt s.heap d es ep)
  (q:Q (.ref s.heap.objs.size) { s with heap:=s.heap.push { cls:=.type "dict_keyiterator",data:=.fields #[.ref d,.int 0 0,.int es.size 0,.int ep 0] } }):
  wpAny (model prog w) A (pyIter (.ref d)) Q E s:=by
 have T:=x.typeIs
 obtain⟨o,g,c,gd⟩:=x
 refine wpAny_pyIter_slot T F.slot_dict_iter (wpAny_call_entry F.slot_dict_iter T F.entry_dict_iter ?_ (F.args_dict_iter_1 _))
 unfold Builtin.«dict.__iter__» Builtin.Dict.dictSlotNone
 refine wpAny_bind (wpAny_bind (wpAny_notOrdered_dict T ?_))
 show wpAny _ _ (pure (Value.ref d)) _ _ s
 refine wpAny_pure ?_
 show wpAny _ _ (Builtin.Dict.showsAll d >>= _) _ _ s
 unfold Builtin.Dict.showsAll
 rw[if_neg (by rw[hd];exact Bool.false_ne_true)]
 refine wpAny_bind (wpAny_pure (wpAny_bind (wpAny_dictEntries g gd (wpAny_bind (wpAny_dictEpoch g gd ?_)))))
 refine wpAny_bind (wpAny_newObj_type (wpAny_pure ⟨_,rfl,"dict_keyiterator",_,⟨_,Heap.get?_push_size _ rfl,rfl⟩,F.slot_dict_keyiterator_next.lookup,?_⟩))
 simpa [rawInt] using q
theorem Qgx {e : DictEntry} {Q : Option Value -> Shared -> Prop} (z : s.heap.IsKeyIter it d i es.size ep) (x : EnAt s.heap d es ep) (hx : es[i]? = some e)
  (q:∀ h',h'.IsKeyIter it d (i + 1) es.size ep->Heap.SameBut it s.heap h'->Q (some e.key) { s with heap:=h' }):wpAny (model prog w) A (pyNext (.ref it)) Q E s:=by
 have T:=z.typeIs
 obtain⟨o,g,c,gd⟩:=id z
 obtain⟨od,gx,cx,dx⟩:=x
 unfold pyNext
 refine wpAny_bind (wpAny_attempt (wpAny_callSpecial?_slot (name:=Str.ofString "__next__") T F.slot_dict_keyiterator_next (wpAny_call_entry F.slot_dict_keyiterator_next T F.entry_dict_keyiterator_next ?_ (F.args_dict_keyiterator_next_1 _))))
 refine wpAny_bind (wpAny_pure (wpAny_bind (wpAny_bind ?_)))
 first | refine wpAny_bind (wpAny_typeNameOfWhole_keyiter T (wpAny_pure ?_)) | refine wpAny_bind (wpAny_typeNameOf_keyiter T (wpAny_pure ?_))
 refine wpAny_bind (wpAny_fieldsOf g gd ?_)
 have ow:Builtin.Dict_items.ownsTuple "dict_keyiterator"=false:=by decide
 simp only[ow,Bool.false_eq_true,if_false]
 show wpAny _ _ (if (Value.ref d == Value.none)=true then _ else _) _ _ s
 rw[if_neg (show ¬ ((Value.ref d == Value.none)=true) from Bool.false_ne_true)]
 refine wpAny_bind (wpAny_pure (wpAny_bind (wpAny_dictEntries gx dx ?_)))
 rw[if_neg (by simp)]
 refine wpAny_bind (wpAny_pure (wpAny_bind (wpAny_dictEpoch gx dx ?_)))
 rw[if_neg (by simp)]
 refine wpAny_pure ?_
 simp only[show ¬ ((i:Int) < 0) from by ac_nf,if_false,Int.toNat_natCast,hx]
 refine wpAny_bind ?_
 first | refine wpAny_bind (wpAny_typeNameOfWhole_keyiter T (wpAny_pure ?_)) | refine wpAny_bind (wpAny_typeNameOf_keyiter T (wpAny_pure ?_))
 refine wpAny_bind (wpAny_isOneOf_keyiter T ?_)
 show wpAny _ _ (setField (.ref it) 1 (rawInt ((i:Int) + 1)) >>= _) _ _ s
 refine wpAny_bind (wpAny_setField g gd (by simp) ?_)
 have z':(s.heap.update it (Obj.mapFields (·.setIfInBounds 1 (rawInt ((i:Int) + 1))))).IsKeyIter it d (i + 1) es.size ep:=
  ⟨_,Heap.get?_update_self _ g (Obj.isFreed_of_fields (Obj.data_mapFields gd _)),(Obj.cls_mapFields ..).trans c,by rw[Obj.data_mapFields gd];simp[rawInt]⟩
 refine wpAny_bind (wpAny_holding (wpAny_bind (wpAny_isOneOf_keyiter (s:={ s with heap:=s.heap.update it (Obj.mapFields (·.setIfInBounds 1 (rawInt ((i:Int) + 1)))) }) z'.typeIs ?_)))
 show wpAny _ _ (pure e.key) _ _ _
 exact wpAny_pure (wpAny_pure ⟨_,rfl,wpAny_pure (q _ z' (Heap.SameBut.update ..))⟩)
theorem Qgy {Q : Option Value -> Shared -> Prop} (hh : A.handled = none) (z : s.heap.IsKeyIter it d i es.size ep) (x : EnAt s.heap d es ep) (hx : es[i]? = none)
  (q:∀ h',Heap.ExtBut it s.heap h'->Q none { s with heap:=h' }):wpAny (model prog w) A (pyNext (.ref it)) Q E s:=by
 have T:=z.typeIs
 obtain⟨o,g,c,gd⟩:=id z
 obtain⟨od,gx,cx,dx⟩:=x
 unfold pyNext
 refine wpAny_bind (wpAny_attempt (wpAny_callSpecial?_slot (name:=Str.ofString "__next__") T F.slot_dict_keyiterator_next (wpAny_call_entry F.slot_dict_keyiterator_next T F.entry_dict_keyiterator_next ?_ (F.args_dict_keyiterator_next_1 _))))
 refine wpAny_bind (wpAny_pure (wpAny_bind (wpAny_bind ?_)))
 first | refine wpAny_bind (wpAny_typeNameOfWhole_keyiter T (wpAny_pure ?_)) | refine wpAny_bind (wpAny_typeNameOf_keyiter T (wpAny_pure ?_))
 refine wpAny_bind (wpAny_fieldsOf g gd ?_)
 have ow:Builtin.Dict_items.ownsTuple "dict_keyiterator"=false:=by decide
 simp only[ow,Bool.false_eq_true,if_false]
 show wpAny _ _ (if (Value.ref d == Value.none)=true then _ else _) _ _ s
 rw[if_neg (show ¬ ((Value.ref d == Value.none)=true) from Bool.false_ne_true)]
 refine wpAny_bind (wpAny_pure (wpAny_bind (wpAny_dictEntries gx dx ?_)))
 rw[if_neg (by simp)]
 refine wpAny_bind (wpAny_pure (wpAny_bind (wpAny_dictEpoch gx dx ?_)))
 rw[if_neg (by simp)]
 refine wpAny_pure ?_
 simp only[show ¬ ((i:Int) < 0) from by ac_nf,if_false,Int.toNat_natCast,hx]
 refine wpAny_bind ?_
 first | refine wpAny_bind (wpAny_typeNameOfWhole_keyiter T (wpAny_pure ?_)) | refine wpAny_bind (wpAny_typeNameOf_keyiter T (wpAny_pure ?_))
 show wpAny _ _ (setField (.ref it) 0 .none >>= _) _ _ s
 refine wpAny_bind (wpAny_setField g gd (by simp) ?_)
 show wpAny _ _ (newExc (.type "StopIteration") [] >>= _) _ _ _
 refine wpAny_bind ?_
 simp only[newExc,newTuple]
 refine wpAny_bind (wpAny_newObj_type ?_ (by size_fits))
 refine wpAny_bind (m:=firstArgMember _ _) (wpAny_of_eq (a:=Value.none) (by first | rfl | (simp only[firstArgMember];rfl)) (wpAny_newObj_type ?_ (by size_fits)))
 simp only[raiseNew]
 refine wpAny_bind (wpAny_handled ?_)
 rw[show A.in1.handled=none from hh]
 refine wpAny_bind (wpAny_pure (wpAny_throw ?_));refine wpAny_bind (wpAny_isInstance (T:="StopIteration") (b:=true) ⟨_,Heap.get?_push_size _ rfl,rfl⟩ isSubtype_stop ?_)
 exact wpAny_pure (q _ (((Heap.SameBut.update ..).extBut.push _).push _))
end
section
variable {X:Cx}
theorem Qgz {o e : Expr} {es : List Expr} {to : TE} {t : TA} {name : Str} {apos cpos : Pos} {id : String} {r : V -> List V -> Hp -> VK -> Prop} (slot : Slot "dict" name id) (hty : typeOf (.builtin id) = pure (.type "method_descriptor")) (hm : MtR X id r) (ho : PE X o to) (ha : PA X (e :: es) t)
  (hbase:attributeBase o name X.env (eval o X.env)=eval o X.env)
  (hfew:((backTo cpos (starEach (e::es) X.env)).all (fun x => !x.1) && (backToKw cpos (keywordEach [] X.env)).all (fun x=>x.1.isSome) && decide ((e::es).length + ([]:List Keyword).length + (if ([]:List Keyword).isEmpty then 0 else 1) < 30))=true)
  (hline:(apos.endLine == cpos.line)=true) (hs:starEach (e::es) X.env=(false,eval e X.env)::starEach es X.env) (hplain:(backTo cpos (starEach es X.env)).any (·.1)=false):
  PE X (.Call (.Attribute o name apos) (e::es) [] cpos) (fun σ H Q=>to σ H fun x H1=>(∃ a es ρ kvs,x=.ref a/\H1 a=some (nstO a es)/\NR X.K ρ H1 es kvs)/\t σ H1 fun xs H2=>r x xs H2 Q):=by
 intro pins s σ H Q I h
 refine wpAny_Call_method_late hbase hfew hline rfl (thn (ho pins s σ H _ I h) fun v s1 z=>?_)
 obtain⟨x,H1,I1,r1,⟨a,es',ρ,kvs,rfl,e1,nr⟩,q1⟩:=z
 cases r1
 obtain⟨_,_,_,_,dd,_⟩:=QdQ I1 e1 nr
 have dd':=dd
 obtain⟨ob,_,_,g,c,_⟩:=dd'
 refine⟨"dict",id,F.plainAttrs_dict,slot,hty,dd.typeIs,fun b eb=>by injection eb with eb;subst eb;exact⟨ob,g,c.2.1⟩,?_⟩
 have hA:=ha cpos pins s1 σ H1 _ I1 q1
 rw[hs]at hA ⊢
 refine Calls.callWith_builtin (by show (false || (backTo cpos (starEach es X.env)).any (·.1))=false;rw[hplain]<;>rfl) (Calls.evalArgs_plain (thn hA fun us s2 z=>?_))
 obtain⟨vs,H2,I2,r2,q2⟩:=z
 exact hm pins s2 σ H2 (.ref a) vs _ us Q I2 rfl r2 q2
end
end MM
namespace MM
open PySem
noncomputable def sameD (n:Nat) (ks:List D):Sto->Prop:=fun s=>∃ kvs,s[n]?=some (.dct true kvs)/\kvs.map (·.1)=ks
noncomputable def iDic (a:CE):CI:=fun l=>bnd (a l) fun x=>match x with
 | .dic n=>bnd (getDc n) fun p=>chk (p.1=true) (ret ⟨p.2.map (·.1),sameD n (p.2.map (·.1))⟩)
 | _=>bad
open PySem.W PyProof.Rows L2
theorem QgA {α β:Type}{F:α->β->Prop}:∀ {l₁:List α}{l₂:List β}{i:Nat}{x:α},Paired F l₁ l₂->l₁[i]?=some x->∃ y,l₂[i]?=some y/\F x y
 | _,_,_,_,.nil,e=>by simp at e
 | _,_,0,_,.cons r _,e=>by simp at e;subst e;exact⟨_,rfl,r⟩
 | _,_,i + 1,_,.cons _ t,e=>by
  obtain⟨v,h1,h2⟩:=QgA (i:=i) t (by simpa using e)
  exact⟨v,by simpa using h1,h2⟩
noncomputable def Itd (a:Addr) (n:Nat):It:=
 ⟨fun i H=>∃ es p,H a=some (nstO a es)/\es.length=n/\es[i]?=some p,fun i H x H'=>H'=H/\∀ es,H a=some (nstO a es)->∃ p,es[i]?=some p/\x=.ref p.2.1,fun i H=>∃ es,H a=some (nstO a es)/\es.length=n/\n<=i⟩
section
variable {X:Cx}{pins:List (Addr × Obj)}{σ:St}{H:Hp}{s:Shared}{ρ:List Addr}{st:Sto}{a:Addr}
theorem QgB {es : List (NK × Addr × V)} (I : Inv X pins σ H s) (e : H a = some (nstO a es)) :
  es.length<=sizeLine/\(a == sysModules)=false/\∃ es',EnAt s.heap a es' es.length/\es'.size=es.length/\∀ (i:Nat) (p:NK × Addr × V),es[i]?=some p->∃ en:DictEntry,es'[i]?=some en/\en.key=.ref p.2.1:=by
 obtain⟨⟨z,y,xs,rx,o,es',ep,h1,h2,h3,h4,h5,h6⟩,w1,w2⟩:=(show ObjOk X.prog X.w H s.heap a (nstO a es) from I.hok a _ e)
 have hl:es.length=xs.length:=Paired.length rx
 subst h6
 refine⟨z,y,es',⟨o,h1,h2,by rw[hl];exact h3⟩,?_,fun i p hp=>?_⟩
 ·rw[hl,<- Array.length_toList,h4,List.length_map]
 ·obtain⟨q,hq,r⟩:=QgA rx hp
  refine⟨nEnt q,by rw[<- Array.getElem?_toList,h4,List.getElem?_map,hq];rfl,?_⟩
  rw[r.2.1];rfl
end
theorem QgC {P:Program}{w:World}{K:PySem.W.Frag}{tg:Expr} (a it:Addr) (n:Nat):Turn P w K tg (Itd a n) [it] it (fun i h=>h.IsKeyIter it a i n n) where
 mem:=by simp
 obj:=fun i h st b hb=>by
  have e:b=it:=by simpa using hb
  subst e
  obtain⟨o,e,c,d⟩:=st
  exact⟨o,e,fun v z=>by rw[d]at z;cases z⟩
 keep:=fun i h h' st k=>st.at fun o e=>k it (by simp) o e
 item:=by
  intro X hP hw hK hc i pins s σ H E I hf st hg
  subst hP hw hK
  obtain⟨es,p,hq,hn,hx⟩:=hg
  obtain⟨_,_,es',en,hz,hk⟩:=QgB I hq
  obtain⟨u,hu,ku⟩:=hk i p hx
  obtain⟨f0,f1,f2,f3,f4,f5⟩:=hf it (by simp)
  subst hn
  have st2:s.heap.IsKeyIter it a i es'.size es.length:=by rw[hz];exact st
  refine Qgx st2 en hu fun h' st' sb=>?_
  rw[hz]at st'
  have I1:Inv X pins σ H { s with heap:=h' }:=I.turned (t':=s.toks) (fun b o hb e=>(sb.2 b hb).trans e) f0 f1 f3 f4 f5
  obtain⟨o,e,c,d⟩:=id st'
  exact⟨u.key,rfl,QaX (s:={ s with heap:=h' }) e c d (by decide) ⟨.ref p.2.1,H,I1,ku,⟨rfl,fun ys hy=>by
   obtain⟨_,_,es2,en2,hz2,hk2⟩:=QgB I hy
   obtain⟨o1,g1,_,d1⟩:=en
   obtain⟨o2,g2,_,d2⟩:=en2
   rw[g1]at g2;cases g2
   rw[d1]at d2
   injection d2 with d2 d3
   subst d2
   have hi:i < ys.length:=by
    rw[<- d3];exact (List.getElem?_eq_some_iff.mp hx).1
   obtain⟨v,hv,kv⟩:=hk2 i _ (List.getElem?_eq_getElem hi)
   rw[hu]at hv;cases hv
   rw[ku]at kv
   injection kv with kv
   exact⟨_,List.getElem?_eq_getElem hi,by rw[kv]⟩⟩,st',fun b hb=>(hf b hb).1⟩⟩
 done:=by
  intro X hP hw hK hc i pins s σ H E I hf st hg
  subst hP hw hK
  obtain⟨es,hq,hn,hx⟩:=hg
  obtain⟨_,_,es',en,hz,hk⟩:=QgB I hq
  obtain⟨f0,f1,f2,f3,f4,f5⟩:=hf it (by simp)
  subst hn
  have st2:s.heap.IsKeyIter it a i es'.size es.length:=by rw[hz];exact st
  exact Qgy (I.ok.hd hc) st2 en (by simp;ac_nf) fun h' eb=>⟨rfl,I.turned (t':=s.toks) (fun b o hb e=>eb b o hb e) f0 f1 f3 f4 f5⟩
 self:=fun _ _ _ _ _ st h=>wpAny_pyIter_keyiter st h
section
variable {X:Cx}{tg e:Expr}{fa:CE}
theorem QgD {l:Expr}{tl:TE} (hl:PE X l tl):PI X tg l (fun σ H R=>tl σ H fun x H1=>∃ a es,x=.ref a/\H1 a=some (nstO a es)/\R (Itd a es.length) H1):=by
 intro pins s σ H R I h
 refine thn (hl pins s σ H _ I h) fun v s1 z=>?_
 obtain⟨x,H1,I1,r1,a,es,e,hq,q⟩:=z
 subst e
 cases r1
 obtain⟨hz,hd,es',en,sz,_⟩:=QgB I1 hq
 refine Qgw hd en ?_
 refine⟨s1.heap.objs.size,[s1.heap.objs.size],_,_,H1,rfl,I1.kept (t':=s1.toks) fun b o e=>Heap.get?_push_of_some _ e,QgC a _ es.length,⟨_,Heap.get?_push_size _ rfl,rfl,by rw[sz];rfl⟩,fun b hb=>?_,q⟩
 have e:b=s1.heap.objs.size:=by simpa using hb
 subst e
 exact I1.fpOk (Nat.le_refl _) (I1.hok.fresh (Nat.le_refl _))
theorem QgE (h:SE X e fa):SI X tg e (iDic fa):=(QgD h).of fun σ H R h_=>h_.el fun ρ l st lr sr p=>⟨ρ,l,st,lr,sr,p.bnd.imp fun d st1 ρ1 H1 x1 s1 p1 v rv=>by
 cases rv with
 | @dic a n _ h=>
  obtain⟨b,kvs,e,p2⟩:=Post.getDc (Post.bnd p1) s1
  obtain⟨hb,p3⟩:=Post.chk p2
  cases (show b=true from hb)
  obtain⟨es,e3,r⟩:=s1.ob n a _ h e
  refine⟨a,es,rfl,e3,p3.ret s1 _ fun ρ H st x s q=>?_⟩
  obtain⟨kvs',e4,ek⟩:=q
  have ha:ρ[n]?=some a:=by
   obtain⟨τ,eτ,_⟩:=x.pre
   rw[eτ];exact Qdq h
  obtain⟨es',e5,r'⟩:=s.ob n a _ ha e4
  have hl:es'.length=es.length:=by
   rw[NR.length r',NR.length r,<- List.length_map (f:=(·.1)) (as:=kvs'),ek,List.length_map]
  refine⟨⟨es',e5,hl,by show es.length<=(kvs.map (·.1)).length;rw[List.length_map,NR.length r];exact Nat.le_refl _⟩,fun i d hd=>?_⟩
  have hd':(kvs'.map (·.1))[i]?=some d:=by rw[ek];exact hd
  have hi:i < es'.length:=by
   rw[NR.length r',<- List.length_map (f:=(·.1)) (as:=kvs')];exact (List.getElem?_eq_some_iff.mp hd').1
  refine⟨⟨es',_,e5,hl,List.getElem?_eq_getElem hi⟩,fun y H' z=>?_⟩
  obtain⟨rfl,z⟩:=z
  obtain⟨p,hp,rfl⟩:=z es' e5
  refine⟨Ex.refl,s,?_⟩
  obtain⟨q,hq,rq⟩:=QgA r' hp
  rw[List.getElem?_map,hq]at hd'
  cases hd'
  exact rq.2.1
 | _=>exact p1.elim⟩
end
end MM
namespace MM
open PySem
noncomputable def cGet (a b c:CE):CE:=fun l=>bnd (a l) fun x=>match x with
 | .dic n=>bnd (getDc n) fun p=>chk (p.1=true) (bnd (b l) fun y=>bnd (c l) fun z=>bnd (getDc n) fun p=>chk (p.1=true/\kOk true y=true) (ret ((lkK p.2 y).getD z)))
 | _=>bad
open PySem.W PyProof.Rows L2
section
variable {prog:Program}{w:World}{K:Type} [DecidableEq K] {knd:HeapKind prog w K}{A:Around}{E:Value->Shared->Prop}{s:Shared}{d a:Addr}{k:K}{xs:List (K × Addr × Value)}
theorem QgF (hd : (d == sysModules) = false) (dflt : Value) :
  MeetsIn prog w (Builtin.«dict.get» ⟨[.ref d,.ref a,dflt],[]⟩) (fun A R s=>knd.room A.in1/\∃ k xs,knd.is s.heap k a/\s.heap.DictOfH knd d xs/\R (.ok (.ret (((atKey xs k).map (·.2)).getD dflt))) { s with toks:=s.toks + knd.draws k }):=
 .of_wp fun A R s z=>by
  obtain⟨hu,k,xs,hkey,hm,h⟩:=z
  unfold Builtin.«dict.get»
  refine wpAny_bind ?_
  unfold Builtin.Dict.keyAndDefault
  refine wpAny_bind (wpAny_notOrdered_dict hm.typeIs ?_)
  show wpAny _ _ (pure (d,Value.ref a,some dflt)) _ _ s
  refine wpAny_pure ?_
  dsimp only
  refine wpAny_bind (wpAny_dictGet_heap hu hkey hm ?_)
  cases e:(atKey xs k) with
  | some p=>
   rw[e]at h
   exact wpAny_pure ⟨_,rfl,h⟩
  | none=>
   rw[e]at h
   dsimp only[Option.map]
   unfold Builtin.Dict.missed
   rw[if_neg (by rw[hd];exact Bool.false_ne_true)]
   exact wpAny_bind (wpAny_pure (wpAny_pure ⟨_,rfl,h⟩))
end
section
variable {X:Cx}{pins:List (Addr × Obj)}{σ:St}{H:Hp}{s:Shared}{ρ:List Addr}{st:Sto}{a:Addr}
noncomputable def rGet (X:Cx):V->List V->Hp->VK->Prop:=fun x vs H Q=>∃ (a:Addr) (ρ:List Addr) (st:Sto) (n:Nat) (kvs:List (D × D)) (k d:D) (y v:V),x=.ref a/\vs=[y,v]/\SR X.K ρ H st/\ρ[n]?=some a/\st[n]?=some (.dct true kvs)/\Rep X.K ρ H y k/\kOk true k=true/\Rep X.K ρ H v d/\∀ v',Rep X.K ρ H v' ((lkK kvs k).getD d)->Q v' H
theorem QgG (hu:X.A.units + 60 < cLine):MtR X "dict.get" (rGet X):=by
 intro pins s σ H x vs u us Q I rx rv h
 obtain⟨a,ρ,st,n,kvs,k,d,y,v,rfl,rfl,sr,ha,hn,rk,hk,rd,h1⟩:=h
 cases rx
 obtain⟨u1,u2,rfl,r1,r2⟩:=rv.two
 obtain⟨es,e,r⟩:=sr.ob n a _ ha hn
 obtain⟨k,rfl⟩:=QdJ hk
 obtain⟨_,hd,xs,rx,dd,_⟩:=QdQ I e r
 obtain⟨c,e2,e3,hc⟩:=QdP I rk r1
 subst e2 e3
 have qa:=NR.val r k
 have qb:=NX.val rx k
 refine call_meetsIn F.slot_dict_get dd.typeIs F.entry_dict_get (F.args_dict_get_3 _ _ _) (QgF (knd:=nkd X) hd u2) ⟨show X.A.in1.units + 1 < cLine from (by show X.A.units + 1 + 1 < cLine;ac_nf),k,xs,hc,dd,?_⟩
 cases ev:valN es k with
 | none=>
  rw[ev]at qa qb
  cases el:lkK kvs (stD k) with
  | some d'=>rw[el]at qa;exact qa.elim
  | none=>
   rw[el]at h1
   cases ea:atKey xs k with
   | some p=>rw[ea]at qb;exact qb.elim
   | none=>exact⟨v,H,I.tok _,r2,h1 v rd⟩
 | some v'=>
  rw[ev]at qa qb
  cases el:lkK kvs (stD k) with
  | none=>rw[el]at qa;exact qa.elim
  | some d'=>
   rw[el]at qa h1
   cases ea:atKey xs k with
   | none=>rw[ea]at qb;exact qb.elim
   | some p=>
    rw[ea]at qb
    exact⟨v',H,I.tok _,qb,h1 v' qa⟩
theorem QgH {o e1 e2 : Expr} {fa fb fc : CE} {apos cpos : Pos} (hu : X.A.units + 60 < cLine) (ho : SE X o fa) (ha : SE X e1 fb) (hb : SE X e2 fc) (hbase : attributeBase o "get" X.env (eval o X.env) = eval o X.env := by rfl)
  (hfew:((backTo cpos (starEach [e1,e2] X.env)).all (fun x => !x.1) && (backToKw cpos (keywordEach [] X.env)).all (fun x=>x.1.isSome) && decide ([e1,e2].length + ([]:List Keyword).length + (if ([]:List Keyword).isEmpty then 0 else 1) < 30))=true:=by rfl)
  (hline:(apos.endLine == cpos.line)=true:=by rfl) (hs:starEach [e1,e2] X.env=(false,eval e1 X.env)::starEach [e2] X.env:=by rfl) (hs2:starEach [e2] X.env=(false,eval e2 X.env)::starEach [] X.env:=by rfl) (hplain:(backTo cpos (starEach [e2] X.env)).any (·.1)=false:=by rfl):
  SE X (.Call (.Attribute o "get" apos) [e1,e2] [] cpos) (cGet fa fb fc):=
 (Qgz F.slot_dict_get F.type_dict_get (QgG hu) ho (QbL ha (QbL hb QbK hs2) hs) hbase hfew hline hs hplain).of fun σ H Q h_=>h_.el fun ρ l st lr sr p=>⟨ρ,l,st,lr,sr,p.bnd.imp fun d st1 ρ1 H1 x1 s1 p1 v rv=>by
  cases rv with
  | @dic a n kk h=>
   obtain⟨b,kvs0,e0,p2⟩:=Post.getDc (Post.bnd p1) s1
   obtain⟨hb0,p3⟩:=Post.chk p2
   cases (show b=true from hb0)
   obtain⟨es0,e3,r0⟩:=s1.ob n a _ h e0
   refine⟨⟨a,es0,ρ1,kvs0,rfl,e3,r0⟩,?_⟩
   refine⟨ρ1,l,st1,lr.mono x1,s1,(Post.bnd p3).imp fun dy st2 ρ2 H2 x2 s2 p4 y ry=>⟨ρ2,l,st2,(lr.mono x1).mono x2,s2,(Post.bnd p4).imp fun dz st3 ρ3 H3 x3 s3 p5 z rz=>?_⟩⟩
   show rGet X (.ref a) [y,z] H3 Q
   obtain⟨b,kvs,e5,p6⟩:=Post.getDc (Post.bnd p5) s3
   obtain⟨⟨hb5,hk⟩,p7⟩:=Post.chk p6
   cases (show b=true from hb5)
   have h3:ρ3[n]?=some a:=by
    obtain⟨τ,e,_⟩:=(x2.trans x3).pre
    rw[e];exact Qdq h
   exact⟨a,ρ3,st3,n,kvs,dy,dz,y,z,rfl,rfl,s3,h3,e5,ry.mono x3,hk,rz,fun v' rv'=>p7.ret s3 v' rv'⟩
  | _=>exact p1.elim⟩
end
end MM
namespace MM
open PySem PyProof.Rows L2
section
open PySem.Builtin.Str
variable {prog:Program}{w:World}{A:Around}{E:Value->Shared->Prop}{s:Shared}
end
noncomputable abbrev CF:=Str->Loc->M D
end MM
namespace MM
noncomputable def sv (m:Nat):List Nat:=(List.range 4).filter fun i=>m.testBit i
noncomputable def orAll (m:Nat) (vs:List Nat):Nat:=vs.foldl (fun m v=>m ||| 1 <<< v) m
noncomputable def smalls:List D->Option (List Nat)
 | []=>some []
 | .int i::ds=>if 0<=i/\i < 4 then (smalls ds).map (i.toNat::·) else none
 | _=>none
open PySem PySem.W PyProof.Rows L2
noncomputable def tb (led:Bool) (m:Nat):SetTable:=⟨7,(sv m).toArray,#[],0,led,0,true⟩
theorem QgI:∀ led:Bool,∀ m:Nat,m < 16->∀ v:Nat,v < 4->m.testBit v=false->(tb led m).freeSlot (v:Int)=some (v,false):=by nofun
theorem QgJ:∀ led:Bool,∀ m:Nat,m < 16->∀ v:Nat,v < 4->m.testBit v=false->(tb led m).put v=(tb led (m ||| 1 <<< v),SetTable.below (tb led m).place v)/\(sv (m ||| 1 <<< v))=(sv m).take (SetTable.below (tb led m).place v)++v::(sv m).drop (SetTable.below (tb led m).place v)/\(m ||| 1 <<< v) < 16:=by nofun
theorem QgK:∀ led:Bool,∀ m:Nat,m < 16->(tb led m).fits (sv m).length=true/\(tb led m).tooFull=false/\(sv m).length<=4:=by nofun
theorem QgL:∀ m:Nat,m < 16->∀ v:Nat,v < 4->(m.testBit v=true↔v∈sv m):=by nofun
theorem QgM:∀ m:Nat,m < 16->∀ v∈sv m,v < 4:=by nofun
theorem QgN:∀ m:Nat,m < 16->∀ v:Nat,v < 4->m.testBit v=true->m ||| 1 <<< v=m:=by nofun
theorem QgO (led:Bool):SetTable.fresh 0 0 led=tb led 0:=by cases led<;>rfl
noncomputable def EnI (e:Int × Value) (v:Nat):Prop:=e.1=(v:Int)/\∃ t,e.2=.int v t
noncomputable def SsAt (led:Bool) (h:Heap) (a:Addr) (m:Nat):Prop:=∃ o es ep,h.get? a=some o/\o.ExactSet/\o.data=.set es ep (tb led m)/\Paired EnI es.toList (sv m)
theorem Paired.memL {α β:Type}{F:α->β->Prop}:∀ {l₁:List α}{l₂:List β},Paired F l₁ l₂->∀ a∈l₁,∃ b∈l₂,F a b
 | _,_,.nil,a,h=>by cases h
 | _,_,.cons r t,a,h=>by
  rcases List.mem_cons.mp h with e | e
  ·subst e;exact⟨_,by simp,r⟩
  ·obtain⟨b,hb,q⟩:=Paired.memL t a e;exact⟨b,by simp[hb],q⟩
theorem Paired.memR {α β:Type}{F:α->β->Prop}:∀ {l₁:List α}{l₂:List β},Paired F l₁ l₂->∀ b∈l₂,∃ a∈l₁,F a b
 | _,_,.nil,a,h=>by cases h
 | _,_,.cons r t,a,h=>by
  rcases List.mem_cons.mp h with e | e
  ·subst e;exact⟨_,by simp,r⟩
  ·obtain⟨b,hb,q⟩:=Paired.memR t a e;exact⟨b,by simp[hb],q⟩
theorem Paired.ins {α β:Type}{F:α->β->Prop}{a:α}{b:β} (r:F a b):∀ {l₁:List α}{l₂:List β} (p:Nat),Paired F l₁ l₂->Paired F (l₁.take p++a::l₁.drop p) (l₂.take p++b::l₂.drop p)
 | _,_,0,t=>.cons r t
 | _,_,p + 1,.nil=>.cons r .nil
 | _,_,p + 1,.cons q t=>.cons q (Paired.ins r p t)
theorem QgP {v:Nat} (h:v < 4):hashInt (v:Int)=v:=by
 match v,h with
 | 0,_=>rfl
 | 1,_=>rfl
 | 2,_=>rfl
 | 3,_=>rfl
section
variable {prog:Program}{w:World}{A:Around}{E:Value->Shared->Prop}{s:Shared}{a:Addr}{led:Bool}{m v:Nat}
theorem QgQ {es:List (Int × Value)}{vs:List Nat} (hv:∀ v∈vs,v < 4) (h:Paired EnI es vs):ElemsOf (intKind prog w) es:=fun e he=>by
 obtain⟨v,hm,e1,t,e2⟩:=Paired.memL h e he
 refine⟨⟨(v:Int),?_,?_⟩,by rw[e2];rfl⟩
 ·rw[e2];exact beq_self_eq_true (v:Int)
 ·rw[e1];exact (QgP (hv v hm)).symm
theorem QgR {k:Int}{e:Int × Value}{v:Nat} (h:EnI e v):(intKind prog w).is k e.2=decide (k=(v:Int)):=by
 obtain⟨_,t,e2⟩:=h
 rw[e2]
 refine (show _=((v:Int) == k) from rfl).trans ?_
 by_cases z:k=(v:Int)
 ·subst z;simp
 ·have z':¬ (v:Int)=k:=fun q=>z q.symm
  rw[decide_eq_false z];exact beq_eq_false_iff_ne.mpr z'
theorem QgS {tk : Tok} {Q : Bool -> Shared -> Prop} (hm : m < 16) (hv : v < 4) (x : SsAt led s.heap a m)
  (q:∀ h' b,SsAt led h' a (m ||| 1 <<< v)->Heap.SameBut a s.heap h'->Q b { s with heap:=h',toks:=s.toks + 1 }):wpAny (model prog w) A (setAdd a (.int v tk)) Q E s:=by
 obtain⟨o,es,ep,g,c,gd,pr⟩:=x
 have hl:=pr.length
 obtain⟨f1,f2,f3⟩:=QgK led m hm
 have ft:(tb led m).fits es.size=true:=by rw[<- Array.length_toList,hl];exact f1
 have hz:es.size<=4:=by rw[<- Array.length_toList,hl];exact f3
 have el:ElemsOf (intKind prog w) es.toList:=QgQ (QgM m hm) pr
 unfold setAdd
 refine wpAny_holding (wpAny_bind (wpAny_pyHash_int ?_))
 unfold setAddHashed
 refine wpAny_holding ?_
 rw[setAddHashedIn.eq_def]
 dsimp only
 refine wpAny_bind (wpAny_setState_of (s:={ s with toks:=s.toks + 1 }) g gd ft ?_)
 dsimp only
 rw[if_pos (byScan_of (knd:=intKind prog w) rfl (Nat.lt_of_le_of_lt hz (by decide)) el)]
 refine wpAny_bind ?_
 unfold setAddByScan
 refine wpAny_bind (wpAny_rule (wpAny_bind ?_))
 unfold setScan
 refine wpAny_setScanFrom_of (s:={ s with toks:=s.toks + 1 }) (knd:=intKind prog w) (k:=(v:Int)) (x:=.int v tk) (beq_self_eq_true (v:Int)) g gd ft es.toList 0 el ?_
 by_cases hb:m.testBit v=true
 ·obtain⟨e,he,hE⟩:=Paired.memR pr v ((QgL m hm v hv).mp hb)
  have hs:(List.findIdx? (fun e=>(intKind prog w).is (v:Int) e.snd) es.toList).isSome=true:=by
   rw[List.findIdx?_isSome,List.any_eq_true]
   exact⟨e,he,by rw[QgR hE];simp⟩
  obtain⟨j,hj⟩:=Option.isSome_iff_exists.mp hs
  rw[hj]
  dsimp only
  refine wpAny_pure (wpAny_pure ?_)
  have em:=QgN m hm v hv hb
  exact q s.heap false (by rw[em];exact⟨o,es,ep,g,c,gd,pr⟩) ⟨rfl,fun _ _=>rfl⟩
 ·have hb':m.testBit v=false:=by simpa using hb
  have hn:List.findIdx? (fun e=>(intKind prog w).is (v:Int) e.snd) es.toList=none:=by
   rw[List.findIdx?_eq_none_iff]
   intro e he
   obtain⟨u,hu,hE⟩:=Paired.memL pr e he
   rw[QgR hE]
   apply decide_eq_false
   intro z
   have:v=u:=by ac_nf
   subst this
   exact hb ((QgL m hm v hv).mpr hu)
  rw[hn]
  dsimp only
  obtain⟨p1,p2,p3⟩:=QgJ led m hm v hv hb'
  have sz:(SetTable.insertAt es (SetTable.below (tb led m).place v) (((v:Int),Value.int v tk))).toList.length=(sv (m ||| 1 <<< v)).length:=by
   rw[SetTable.toList_insertAt,p2]
   simp[hl]
  obtain⟨f4,f5,f6⟩:=QgK led _ p3
  have f7:(tb led (m ||| 1 <<< v)).fits (SetTable.insertAt es (SetTable.below (tb led m).place v) (((v:Int),Value.int v tk))).size=true:=by
   rw[<- Array.length_toList,sz];exact f4
  have ly:layNew (tb led m) es (hashInt (v:Int)) (.int v tk)=(SetTable.insertAt es (SetTable.below (tb led m).place v) ((v:Int),.int v tk),tb led (m ||| 1 <<< v),false,false):=by
   unfold layNew
   rw[QgP hv,QgI led m hm v hv hb']
   dsimp only
   rw[p1]
   dsimp only
   unfold SetTable.orStandIn
   rw[if_pos f7,f7]
   rfl
  show wpAny _ _ (match layNew (tb led m) es (hashInt (v:Int)) (.int v tk) with | (es,t,wasDummy,gave)=>_) _ _ _
  rw[ly]
  dsimp only
  refine wpAny_bind ?_
  show wpAny _ _ (pure ()) _ _ _
  refine wpAny_pure ?_
  rw[if_pos (show (tb led (m ||| 1 <<< v)).plain=true from rfl),hashByValue_scannable 8 (x:=.int v tk) rfl]
  refine wpAny_bind (wpAny_pure ?_)
  rw[if_pos (show plainKind (.int v tk)=true from rfl)]
  have sl:(SetTable.insertAt es (SetTable.below (tb led m).place v) (((v:Int),Value.int v tk))).size<=sizeLine:=by
   rw[<- Array.length_toList,sz];exact Nat.le_trans f6 (by decide)
  refine wpAny_bind (wpAny_storeSet_of (s:={ s with toks:=s.toks + 1 }) g gd ?_ sl)
  rw[f5,if_neg (by decide)]
  refine wpAny_pure (wpAny_pure ?_)
  have up:(s.heap.update a (Obj.putSet (SetTable.insertAt es (SetTable.below (tb led m).place v) (((v:Int),Value.int v tk))) (tb led (m ||| 1 <<< v)))).get? a=some { cls:=o.cls,dict:=o.dict,data:=.set (SetTable.insertAt es (SetTable.below (tb led m).place v) (((v:Int),Value.int v tk))) (ep + 1) (tb led (m ||| 1 <<< v)),slots:=o.slots }:=by
   obtain⟨oc,od,oo,os⟩:=o
   cases gd
   exact Heap.get?_update_self _ g rfl
  refine q _ _ ⟨_,_,_,up,c,rfl,?_⟩ (Heap.SameBut.update ..)
  rw[SetTable.toList_insertAt,p2]
  exact Paired.ins ⟨rfl,tk,rfl⟩ _ pr
theorem QgT:∀ m:Nat,m < 16->∀ v:Nat,v < 4->m ||| 1 <<< v < 16:=by nofun
theorem SsAt.keep {h h':Heap} (x:SsAt led h a m) (k:∀ o,h.get? a=some o->h'.get? a=some o):SsAt led h' a m:=by
 obtain⟨o,es,ep,g,r⟩:=x
 exact⟨o,es,ep,k o g,r⟩
theorem QgU {S I l : Addr} {items : Array Value} {ns : List Nat} {R : Result -> Shared -> Prop} (hh : A.handled = none) (nI : S ≠ I) (nl : l ≠ S) (il : l ≠ I)
  (hi:∀ (i:Nat) (x:Value),items[i]?=some x->∃ (v:Nat) (t:Tok),x=Value.int v t/\v < 4/\ns[i]?=some v) (hl:ns.length=items.size):
  ∀ (k i:Nat) (s:Shared) (m:Nat),items.size - i=k->s.heap.IsListIter I l i->s.heap.IsList l items->SsAt led s.heap S m->m < 16 ->
   (∀ h' tk,SsAt led h' S (orAll m (ns.drop i))->(∀ b o,b≠S->b≠I->s.heap.get? b=some o->h'.get? b=some o)->R (.ok (.ret .none)) { s with heap:=h',toks:=tk }) ->
   codeAny (model prog w) A (.builtin "set.update.loop" ⟨[.ref S,.ref I],[]⟩) R s:=by
 intro k
 induction k with
 | zero=>
  intro i s m e z x y hm q
  refine codeAny_builtin F.entry_set_update_loop ?_
  unfold Builtin.«set.update.loop»
  dsimp only
  refine wpAny_bind (wpAny_pyNext_list_end (by first | exact hh | simpa using hh) z x (by simp;ac_nf) fun h' he=>?_)
  dsimp only
  refine wpAny_pure (q h' _ ?_ fun b o h1 h2 g=>he b o h2 g)
  rw[List.drop_eq_nil_of_le (by ac_nf)]
  exact y.keep fun o g=>he S o nI g
 | succ k ih=>
  intro i s m e z x y hm q
  have hlt:i < items.size:=by ac_nf
  obtain⟨v,t,ex,hv,hn⟩:=hi i items[i] (Array.getElem?_eq_getElem hlt)
  refine codeAny_builtin F.entry_set_update_loop ?_
  unfold Builtin.«set.update.loop»
  dsimp only
  refine wpAny_bind (wpAny_pyNext_list_item z x (Array.getElem?_eq_getElem hlt) fun h' z' sb=>?_)
  dsimp only
  rw[ex]
  refine wpAny_bind (wpAny_holding (QgS (s:={ s with heap:=h' }) hm hv (y.keep fun o g=>by rw[sb.2 S nI];exact g) fun h2 b y2 sb2=>?_))
  refine wpAny_pure ⟨plainId_quiet F.plain_set_update_loop _,ih (i + 1) _ _ (by ac_nf) (z'.at fun o g=>by rw[sb2.2 I (Ne.symm nI)];exact g) ?_ y2 (QgT m hm v hv) fun h3 tk y3 kp=>?_⟩
  ·obtain⟨o,g,r⟩:=x
   exact⟨o,by show h2.get? l=_;rw[sb2.2 l nl,sb.2 l il];exact g,r⟩
  ·refine q h3 tk ?_ fun b o h1 h2' g=>kp b o h1 h2' ?_
   ·rw[List.drop_eq_getElem_cons (by ac_nf)]
    have:ns[i]'(by ac_nf)=v:=by
     have:=List.getElem?_eq_getElem (l:=ns) (i:=i) (by ac_nf)
     rw[hn]at this
     exact (Option.some.inj this).symm
    rw[this]
    exact y3
   ·show h2.get? b=_
    rw[sb2.2 b h1,sb.2 b h2']
    exact g
theorem QgV {b : Value} {Q₁ : Value -> Shared -> Prop}
  (h:Q₁ (.ref s.heap.objs.size) { s with heap:=s.heap.push { cls:=.type "set",data:=.set #[] 0 (tb (!w.params.followText "set-order") 0) } }):
  codeAny (model prog w) A (Code.call (.builtin "set.__new__") { pos:=[.type "set",b] }) (wants Q₁ E) s:=by
 refine codeAny_call_builtin F.plain_set_new F.entry_set_new ?_
 rw[F.newCall_set_1]
 refine wpAny_pure ?_
 unfold Builtin.«set.__new__»
 refine wpAny_bind ?_
 unfold Builtin.Frozenset.newClass
 dsimp only
 refine wpAny_bind (wpAny_pure ?_)
 rw[if_neg (by decide),sub_set_self]
 refine wpAny_bind (wpAny_pure ?_)
 rw[if_neg (by decide)]
 refine wpAny_pure (wpAny_bind ?_)
 unfold newSet setsByText
 refine wpAny_bind (wpAny_bind (wpAny_askSetting (wpAny_pure ?_)))
 dsimp only
 rw[QgO]
 refine wpAny_newObj_type ?_ (by size_fits)
 exact wpAny_pure h
theorem QgW {l : Addr} {items : Array Value} {ns : List Nat} {Q : Value -> Shared -> Prop} (hh : A.handled = none) (x : s.heap.IsList l items)
  (hi:∀ (i:Nat) (x:Value),items[i]?=some x->∃ (v:Nat) (t:Tok),x=Value.int v t/\v < 4/\ns[i]?=some v) (hl:ns.length=items.size)
  (q:∀ h' tk,SsAt (!w.params.followText "set-order") h' s.heap.objs.size (orAll 0 ns)->(∀ (b:Nat) (o:Obj),b < s.heap.objs.size->s.heap.get? b=some o->h'.get? b=some o)->Q (.ref s.heap.objs.size) { s with heap:=h',toks:=tk }):
  wpAny (model prog w) A (call (.type "set") [.ref l]) Q E s:=by
 have F0:=F.called_set
 refine wpAny_call (codeAny_of_tree ?_)
 show wpAny _ _ (pure (Fin.again _)) _ _ _
 refine wpAny_pure ⟨Code.quiet_builtin _ (by nofun),codeAny_builtin entry_typeCall ?_⟩
 unfold Builtin.«type.__call__»
 dsimp only
 rw[if_neg (by rw[F0.notType];decide),if_neg (by rw[F0.canCreate];decide),F.typeCall_set_1]
 refine wpAny_bind (wpAny_pure ?_)
 rw[F.mro_set]
 refine wpAny_bind (wpAny_pure ?_)
 rw[if_neg (by decide),F0.made]
 refine wpAny_bind (wpAny_pure ?_)
 dsimp only
 refine wpAny_bind (wpAny_pure (wpAny_bind (wpAny_holding (wpAny_call (QgV (s:=s) ?_)))))
 have g0:(s.heap.push { cls:=.type "set",data:=.set #[] 0 (tb (!w.params.followText "set-order") 0) }).get? s.heap.objs.size=some { cls:=.type "set",data:=.set #[] 0 (tb (!w.params.followText "set-order") 0) }:=Heap.get?_push_size _ rfl
 have T:({ s with heap:=s.heap.push { cls:=.type "set",data:=.set #[] 0 (tb (!w.params.followText "set-order") 0) } }:Shared).TypeIs (.ref s.heap.objs.size) "set":=⟨_,g0,rfl⟩
 refine wpAny_bind (wpAny_isInstance T sub_set_self ?_)
 rw[if_neg (by decide)]
 refine wpAny_bind (wpAny_holding (wpAny_callSpecial?_slot T F0.init (wpAny_call (codeAny_call_builtin (by nofun) F.entry_set_init (check_set_init_1 T ?_)))))
 unfold Builtin.«set.__init__»
 refine wpAny_bind ?_
 unfold noKeywords
 rw[if_pos (show ({ pos:=[Value.ref s.heap.objs.size,Value.ref l] }:Args).kw.isEmpty=true from rfl)]
 refine wpAny_pure ?_
 dsimp only
 refine wpAny_bind ?_
 unfold typeNameOfCut shownTypeOf
 refine wpAny_bind (wpAny_bind (wpAny_typeOf T ?_))
 rw[if_neg (by decide)]
 refine wpAny_pure ?_
 unfold typeNameCut
 dsimp only
 show wpAny _ _ (pure "set") _ _ _
 refine wpAny_pure (wpAny_bind ?_)
 show wpAny _ _ (pure ()) _ _ _
 refine wpAny_pure (wpAny_bind (wpAny_pure (wpAny_bind ?_)))
 unfold setUsed
 refine wpAny_bind (wpAny_setState_of (s:={ s with heap:=s.heap.push { cls:=.type "set",data:=.set #[] 0 (tb (!w.params.followText "set-order") 0) } }) g0 rfl (by exact (QgK _ 0 (by decide)).1) (wpAny_pure ?_))
 dsimp only
 rw[if_neg (by cases w.params.followText "set-order"<;>decide)]
 refine wpAny_bind ?_
 unfold Builtin.Frozenset.updateFrom
 have L1:({ s with heap:=s.heap.push { cls:=.type "set",data:=.set #[] 0 (tb (!w.params.followText "set-order") 0) } }:Shared).TypeIs (.ref l) "list":=by
  obtain⟨o,g,c,_⟩:=x
  exact⟨o,Heap.get?_push_of_some _ g,c⟩
 refine wpAny_bind ?_
 unfold Builtin.Frozenset.isAnySet orM
 refine wpAny_bind (wpAny_isInstance L1 F.sub_list_set ?_)
 dsimp only[toBool]
 refine wpAny_isInstance L1 F.sub_list_frozenset ?_
 rw[if_neg (by decide)]
 refine wpAny_bind (wpAny_typeOf L1 ?_)
 rw[if_neg (by decide)]
 have hlt:l < s.heap.objs.size:=by
  obtain⟨o,g,_⟩:=x
  exact Heap.lt_size g
 have X1:(s.heap.push { cls:=.type "set",data:=.set #[] 0 (tb (!w.params.followText "set-order") 0) }).IsList l items:=by
  obtain⟨o,g,r⟩:=x
  exact⟨o,Heap.get?_push_of_some _ g,r⟩
 refine wpAny_bind (wpAny_pyIter_list (s:={ s with heap:=s.heap.push { cls:=.type "set",data:=.set #[] 0 (tb (!w.params.followText "set-order") 0) } }) X1 (wpAny_bind (wpAny_runValue ?_)))
 have sz1:(s.heap.push { cls:=.type "set",data:=.set #[] 0 (tb (!w.params.followText "set-order") 0) }).objs.size=s.heap.objs.size + 1:=by simp[Heap.push]
 refine QgU (led := !w.params.followText "set-order") (ns:=ns) (by exact hh) (Nat.ne_of_lt (by rw[sz1];exact Nat.lt_succ_self _)) (Nat.ne_of_lt hlt) (Nat.ne_of_lt (by rw[sz1];exact Nat.lt_succ_of_lt hlt)) hi hl _ 0 _ 0 rfl ⟨_,Heap.get?_push_size _ rfl,rfl,rfl⟩ ?_ ?_ (by decide) fun h' tk y kp=>?_
 ·obtain⟨o,g,r⟩:=X1
  exact⟨o,Heap.get?_push_of_some _ g,r⟩
 ·exact⟨_,_,_,Heap.get?_push_of_some _ g0,⟨rfl,rfl,rfl⟩,rfl,.nil⟩
 ·refine wpAny_pure (wpAny_pure ?_)
  dsimp only
  rw[if_neg (by decide)]
  exact wpAny_pure (q h' tk y fun b o hb g=>kp b o (Nat.ne_of_lt hb) (Nat.ne_of_lt (by rw[sz1];exact Nat.lt_succ_of_lt hb)) (Heap.get?_push_of_some _ (Heap.get?_push_of_some _ g)))
end
noncomputable def setO (X:Cx) (a:Addr) (m:Nat):HO:=.ext fun h=>SsAt (!X.w.params.followText "set-order") h a m
theorem QgX:∀ {ns:List Nat}{m:Nat},m < 16->(∀ v∈ns,v < 4)->orAll m ns < 16
 | [],m,hm,_=>hm
 | v::ns,m,hm,h=>QgX (ns:=ns) (m:=m ||| 1 <<< v) (QgT m hm v (h v (by simp))) fun u hu=>h u (by simp[hu])
section
variable {X:Cx}
theorem QgY (hc:X.calm=true):CallR X (.type "set") (fun xs H Q=>∃ (l:Addr) (ns:List Nat),xs=[.ref l]/\SqL X.K H l (ns.map fun v:Nat=>V.int v)/\(∀ v∈ns,v < 4)/\∀ q,H q=none->Q (.ref q) (upd H q (setO X q (orAll 0 ns)))):=by
 intro pins s σ H xs us Q I r h
 obtain⟨l,ns,rfl,hq,h4,q⟩:=h
 obtain⟨u,rfl,rx⟩:=QbA r
 cases rx
 obtain⟨its,rv,pl,hz⟩:=I.list hq
 have hl:=rv.length
 rw[List.length_map]at hl
 refine QgW (ns:=ns) (I.ok.hd hc) pl.isList (fun i x hx=>?_) (by simp;ac_nf) fun h' tk y kp=>?_
 ·rw[List.getElem?_toArray]at hx
  have hi:i < ns.length:=by have:=(List.getElem?_eq_some_iff.mp hx).1;ac_nf
  obtain⟨u,hu,ru⟩:=rv.get (i:=i) (x:=V.int ns[i]) (by rw[List.getElem?_map,List.getElem?_eq_getElem hi];rfl)
  rw[hx]at hu
  cases hu
  obtain⟨t,et⟩:=ru
  exact⟨ns[i],t,et,h4 _ (List.getElem_mem hi),List.getElem?_eq_getElem hi⟩
 ·have kp':∀ (b:Addr) (o:Obj),s.heap.get? b=some o->h'.get? b=some o:=fun b o e=>kp b o (Heap.lt_size e) e
  refine⟨.ref s.heap.objs.size,_,I.laid (t':=tk) kp' (Nat.le_refl _) (show ObjOk X.prog X.w _ h' _ (setO X _ (orAll 0 ns)) from ⟨y,?_,fun h1 h2 y1 k=>y1.keep k⟩),rfl,q _ (I.hok.fresh (Nat.le_refl _))⟩
  obtain⟨o,es,ep,g,_⟩:=y
  exact⟨o,g⟩
theorem QgZ {K:PySem.W.Frag}{ρ:List Addr}{H:Hp}:∀ {vs:List V}{ds:List D}{ns:List Nat},Reps K ρ H vs ds->smalls ds=some ns->vs=ns.map (fun v:Nat=>V.int v)/\∀ v∈ns,v < 4
 | _,_,ns,.nil,e=>by cases e;exact⟨rfl,fun v hv=>by cases hv⟩
 | _,_,ns,.cons r t,e=>by
  cases r with
  | int i=>
   unfold smalls at e
   by_cases h:0<=i/\i < 4
   ·rw[if_pos h]at e
    cases e2:smalls _ with
    | none=>rw[e2]at e;cases e
    | some ms=>
     rw[e2]at e
     cases e
     obtain⟨h1,h2⟩:=QgZ t e2
     refine⟨by rw[List.map_cons,<- h1,Int.toNat_of_nonneg h.1],fun v hv=>?_⟩
     rcases List.mem_cons.mp hv with z | z
     ·subst z;ac_nf
     ·exact h2 v z
   ·rw[if_neg h]at e;cases e
  | _=>cases e
end
end MM
namespace MM
noncomputable def lenSetD:D->M D
 | .ref n=>bnd (getL n) fun ds=>match smalls ds with
  | some ns=>ret (.int ((sv (orAll 0 ns)).length:Nat))
  | none=>bad
 | _=>bad
open PySem PySem.W PyProof.Rows L2
section
variable {X:Cx}
theorem Qg0:CallR X (.builtin "len") (fun xs H Q=>∃ (a:Addr) (m:Nat),xs=[.ref a]/\H a=some (setO X a m)/\m < 16/\Q (.int ((sv m).length:Nat)) H):=by
 intro pins s σ H xs us Q I r h
 obtain⟨a,mm,rfl,hq,hm,q⟩:=h
 obtain⟨u,rfl,rx⟩:=QbA r
 cases rx
 obtain⟨y,_,_⟩:=(show ObjOk X.prog X.w H s.heap a (setO X a mm) from I.hok a _ hq)
 obtain⟨oS,es,ep,gS,cS,dS,pr⟩:=y
 obtain⟨f1,f2,f3⟩:=QgK (!X.w.params.followText "set-order") mm hm
 have hs:es.size=(sv mm).length:=by rw[<- pr.length,Array.length_toList]
 exact call_len_set gS cS dS (by rw[hs];exact f1) (by rw[hs];ac_nf) ⟨.int ((sv mm).length:Nat),H,I.tok _,⟨_,by rw[hs]⟩,q⟩
theorem Qg1 {e : Expr} {fa : CE} {p1 p2 pos2 pos : Pos} (hc : X.calm = true) (hg1 : Gl X "len") (hm1 : X.mg "len" = none) (hg2 : Gl X "set") (hm2 : X.mg "set" = none) (ha : SE X e fa)
  (he:starEach [e] X.env=[(false,eval e X.env)]:=by rfl)
  (he2:starEach [Expr.Call (.Name "set" p2) [e] [] pos2] X.env=[(false,eval (.Call (.Name "set" p2) [e] [] pos2) X.env)]:=by rfl):SE X (.Call (.Name "len" p1) [.Call (.Name "set" p2) [e] [] pos2] [] pos) (c1 lenSetD fa):=
 (QbX Qg0 hg1 hm1 rfl (QbL (QbY (QgY hc) hg2 hm2 rfl (QbL ha QbK he) (by decide) (by decide) he rfl) QbK he2) (by decide) (by decide) he2 rfl).of fun σ H Q h_=>h_.el fun ρ l st lr sr p=>⟨ρ,l,st,lr,sr,p.bnd.imp fun d st1 ρ1 H1 x1 s1 p1 v rv=>by
  cases rv with
  | @ref a n _ h=>
   obtain⟨ds,e2,p2⟩:=Post.getL (Post.bnd p1) s1
   obtain⟨a',vs,ha,hv,r⟩:=s1.seq e2
   rw[h]at ha;cases ha
   cases e1:smalls ds with
   | none=>rw[e1]at p2;exact p2.elim
   | some ns=>
    rw[e1]at p2
    obtain⟨ev,h4⟩:=QgZ r e1
    subst ev
    exact⟨a,ns,rfl,SqL.of hv,h4,fun q hq=>⟨q,orAll 0 ns,rfl,Qai,QgX (by decide) h4,p2 _ _ (Ex.new hq) (s1.new hq) _ (.int _)⟩⟩
  | _=>exact p1.elim⟩
end
end MM
namespace MM
open PySem
noncomputable def attrX (x f:Str):D->M D
 | .exn y [.str g,d]=>chk (y=x/\g=f) (ret d)
 | _=>bad
noncomputable def isiX (xs:List Str) (b:Str->Bool):D->M D
 | .exn x _=>chk (x∈xs) (ret (.bl (b x)))
 | _=>bad
open PyProof.Rows
noncomputable def XCls (h:Heap) (C N:Addr) (bm:List Value) (mN:Str->Option Value):Prop:=
 (∃ nm q bs sn sub ab col dd k0 k1 k2 k3 k5,h.get? C=some (excClassObj nm q C N bs bm true sn sub ab col dd k0 k1 k2 k3 k5 "ValueError.__new__"))/\h.Ns N mN
noncomputable def vErr:List Value:=[.type "ValueError",.type "Exception",.type "BaseException",.type "object"]
structure XCh (h:Heap) (C N P NP:Addr) (mN mP:Str->Option Value):Prop where
 c:XCls h C N (.ref P::vErr) mN
 p:XCls h P NP vErr mP
section
variable {prog:Program}{w:World}{A:Around}{E:Value->Shared->Prop}{s:Shared}{C N P NP e:Addr}{mN mP:Str->Option Value}{bm:List Value}{name:Str}
theorem Qg2 {h:Heap}{a:Addr} (z:h.objs.size<=a):h.get? a=none:=by
 cases e:h.get? a with
 | none=>rfl
 | some o=>exact absurd (Nat.lt_of_lt_of_le (Heap.lt_size e) z) (Nat.lt_irrefl _)
theorem Qg3 {Q:Option Value->Shared->Prop} (x:XCls s.heap C N bm mN) (q:Q (mN name) s):wpAny (model prog w) A (classOwn (.ref C) name) Q E s:=by
 obtain⟨⟨nm,q1,bs,sn,sub,ab,col,dd,k0,k1,k2,k3,k5,g⟩,ns⟩:=x
 obtain⟨h,gg,d,t,os⟩:=s
 exact wpAny_classOwn_exc g ns q
theorem Qg4 {Q:List Value->Shared->Prop} (x:XCls s.heap C N bm mN) (q:Q (.ref C::bm) s):wpAny (model prog w) A (mroOf (.ref C)) Q E s:=by
 obtain⟨⟨nm,q1,bs,sn,sub,ab,col,dd,k0,k1,k2,k3,k5,g⟩,ns⟩:=x
 obtain⟨h,gg,d,t,os⟩:=s
 exact wpAny_mroOf_exc g q
theorem Qg5 {base:Value}{Q:Bool->Shared->Prop} (x:XCls s.heap C N bm mN) (q:Q ((Value.ref C::bm).contains base) s):wpAny (model prog w) A (isSubtype (.ref C) base) Q E s:=by
 obtain⟨⟨nm,q1,bs,sn,sub,ab,col,dd,k0,k1,k2,k3,k5,g⟩,ns⟩:=x
 obtain⟨h,gg,d,t,os⟩:=s
 exact wpAny_isSubtype_exc g q
theorem Qg6 {v:Value}{Q:Option Value->Shared->Prop} (x:XCls s.heap C N bm mN) (hn:mN name=some v) (q:Q (some v) s):wpAny (model prog w) A (typeLookup (.ref C) name) Q E s:=by
 unfold typeLookup
 refine wpAny_bind (Qg4 x ?_)
 rw[List.forIn_cons]
 refine wpAny_bind (wpAny_bind (wpAny_bind (Qg3 x ?_)))
 rw[hn]
 dsimp only
 refine wpAny_pure (wpAny_pure (wpAny_pure q))
theorem Qg7 {name:Str}{f:Value->Option (Option Value) × Unit->Sem (ForInStep (Option (Option Value) × Unit))} (h1:∀ n v b,builtinOwn n name=some v->f (.type n) b=pure (.done (some (some v),()))) (h2:∀ n b,builtinOwn n name=none->f (.type n) b=pure (.yield (none,()))):∃ z:Option (Option Value) × Unit,forIn vErr (none,()) f=(pure z:Sem _):=by
 have st:∀ (n:String) (rest:List Value),(∃ z,forIn rest (none,()) f=(pure z:Sem _))->∃ z,forIn (Value.type n::rest) (none,()) f=(pure z:Sem _):=fun n rest h=>by
  obtain⟨z,hz⟩:=h
  rw[List.forIn_cons]
  cases hb:builtinOwn n name with
  | some v=>exact⟨(some (some v),()),by rw[h1 n v _ hb];rfl⟩
  | none=>
   refine⟨z,?_⟩
   rw[<- hz,h2 n _ hb]
   rfl
 unfold vErr
 exact st _ _ (st _ _ (st _ _ (st _ _ ⟨_,rfl⟩)))
theorem Qg8 {y:Option Value}{Q:Option Value->Shared->Prop} (x:XCh s.heap C N P NP mN mP) (h1:mN name=none) (h2:mP name=none) (hy:typeLookup (.type "ValueError") name=pure y) (q:Q y s):wpAny (model prog w) A (typeLookup (.ref C) name) Q E s:=by
 have hv:mroOf (.type "ValueError")=pure vErr:=F.excBase_ValueError.mroIs
 unfold typeLookup at hy ⊢
 rw[hv]at hy
 refine wpAny_bind (Qg4 x.c ?_)
 rw[List.forIn_cons]
 refine wpAny_bind (wpAny_bind (wpAny_bind (Qg3 x.c ?_)))
 rw[h1]
 dsimp only
 refine wpAny_pure ?_
 dsimp only
 rw[List.forIn_cons]
 refine wpAny_bind (wpAny_bind (Qg3 x.p ?_))
 rw[h2]
 dsimp only
 refine wpAny_pure ?_
 dsimp only
 obtain ⟨z, hz⟩ := Qg7 (name := name) (f := fun c __s => (do
   let __do_lift <- classOwn c name
   typeLookup.match_1 (motive:=fun _=>Sem (ForInStep (Option (Option Value) × Unit))) __do_lift (fun v=>pure (ForInStep.done (some (some v),()))) (fun x=>pure (ForInStep.yield (none,()))))) (fun n v b hb=>by show (pure (builtinOwn n name) >>= _)=_;rw[hb];rfl) (fun n b hb=>by show (pure (builtinOwn n name) >>= _)=_;rw[hb];rfl)
 rw[hz]
 refine wpAny_pure ?_
 change ((forIn vErr (none,()) _:Sem (Option (Option Value) × Unit)) >>= _)=_ at hy
 rw[hz]at hy
 exact (congrArg (fun m=>wpAny (model prog w) A m Q E s) hy).mpr (wpAny_pure q)
theorem Qg9 {o:Obj}{Q:Value->Shared->Prop} (g:s.heap.get? e=some o) (hc:o.cls=.ref C) (q:Q (.ref C) s):wpAny (model prog w) A (typeOf (.ref e)) Q E s:=wpAny_typeOf_ref g (by rw[hc];exact q)
theorem XCls.keep {h h':Heap} (x:XCls h C N bm mN) (k:∀ b o,h.get? b=some o->h'.get? b=some o):XCls h' C N bm mN:=by
 obtain⟨⟨nm,q1,bs,sn,sub,ab,col,dd,k0,k1,k2,k3,k5,g⟩,o,es,ep,g2,r⟩:=x
 exact⟨⟨nm,q1,bs,sn,sub,ab,col,dd,k0,k1,k2,k3,k5,k _ _ g⟩,o,es,ep,k _ _ g2,r⟩
theorem XCh.keep {h h':Heap} (x:XCh h C N P NP mN mP) (k:∀ b o,h.get? b=some o->h'.get? b=some o):XCh h' C N P NP mN mP:=⟨x.c.keep k,x.p.keep k⟩
theorem Qha {rest : List Value} {fI : Addr} {oI : Obj} {Q : PySem.Fin -> Shared -> Prop} (x : XCh s.heap C N P NP mN mP) (hpi : mP (Str.ofString "__init__") = none) (hi : mN (Str.ofString "__init__") = some (.ref fI)) (gI : s.heap.get? fI = some oI) (cI : oI.cls = .type "function")
  (run:∀ h' e,s.heap.objs.size<=e->s.heap.MadeExcOf h' e (.ref C) rest->wpAny (model prog w) A (call (.ref fI) (.ref e::rest)) (fun r s'=>r=.none/\Q (.done (.ret (.ref e))) s') E { s with heap:=h' }) (hl:rest.length<=sizeLine):
  wpAny (model prog w) A (Builtin.«type.__call__» { pos:=.ref C::rest }) Q E s:=by
 unfold Builtin.«type.__call__»
 dsimp only
 rw[if_neg (show ¬ ((Value.ref C == Value.type "type")=true) from Bool.false_ne_true)]
 refine wpAny_bind (Qg4 x.c ?_)
 rw[if_neg (by simp)]
 refine wpAny_bind ?_
 obtain⟨⟨nm,q1,bs,sn,sub,ab,col,dd,k0,k1,k2,k3,k5,g⟩,ns⟩:=id x.c
 have tail:OwnTail s.heap vErr (.ref P::vErr):=by
  obtain⟨⟨nm,q1,bs,sn,sub,ab,col,dd,k0,k1,k2,k3,k5,g⟩,ns⟩:=id x.p
  exact .own g ns hpi .base
 refine wpAny_madeBy_exc (h:=s.heap) g ?_
 dsimp only
 refine wpAny_bind (wpAny_pure (wpAny_bind (wpAny_holding (wpAny_call (codeAny_call_builtin_code (Code.quiet_builtin _ (by nofun)) (wpAny_check_new_subU (h:=s.heap) F.excBase_ValueError rfl tail g ?_))))))
 refine codeAny_exc_new_subU (h:=s.heap) F.excBase_ValueError rfl F.excBase_ValueError tail g ?_ hl
 have k:∀ b o,s.heap.get? b=some o->((s.heap.push { cls:=.type "tuple",data:=.seq rest.toArray }).push { cls:=.ref C,data:=.fields #[.ref s.heap.objs.size,.none,.none,.none,.bool false,.none] }).get? b=some o:=fun b o z=>Heap.get?_push_of_some _ (Heap.get?_push_of_some _ z)
 have sz:(s.heap.push { cls:=.type "tuple",data:=.seq rest.toArray }).objs.size=s.heap.objs.size + 1:=by simp[Heap.push]
 have ge:((s.heap.push { cls:=.type "tuple",data:=.seq rest.toArray }).push { cls:=.ref C,data:=.fields #[.ref s.heap.objs.size,.none,.none,.none,.bool false,.none] }).get? (s.heap.objs.size + 1)=some { cls:=.ref C,data:=.fields #[.ref s.heap.objs.size,.none,.none,.none,.bool false,.none] }:=by
  have:=Heap.get?_push_size (s.heap.push { cls:=.type "tuple",data:=.seq rest.toArray }) (o:={ cls:=.ref C,data:=.fields #[.ref s.heap.objs.size,.none,.none,.none,.bool false,.none] }) rfl
  rw[sz]at this
  exact this
 have md:s.heap.MadeExcOf ((s.heap.push { cls:=.type "tuple",data:=.seq rest.toArray }).push { cls:=.ref C,data:=.fields #[.ref s.heap.objs.size,.none,.none,.none,.bool false,.none] }) (s.heap.objs.size + 1) (.ref C) rest:=
  ⟨k,Qg2 (Nat.le_succ _),s.heap.objs.size,ge,Qg2 (Nat.le_refl _),Heap.get?_push_of_some _ (Heap.get?_push_size _ rfl)⟩
 have r1:=run _ _ (Nat.le_succ _) md
 have x1:=x.keep k
 generalize (s.heap.push { cls:=.type "tuple",data:=.seq rest.toArray }).push { cls:=.ref C,data:=.fields #[.ref s.heap.objs.size,.none,.none,.none,.bool false,.none] }=h1 at *
 dsimp only
 unfold isInstance
 refine wpAny_bind (wpAny_bind (Qg9 (s:={ s with heap:=h1 }) ge rfl (Qg5 (s:={ s with heap:=h1 }) x1.c ?_)))
 rw[if_neg (by simp)]
 refine wpAny_bind (wpAny_holding ?_)
 unfold callSpecial? specialOf
 refine wpAny_bind (wpAny_bind (Qg9 (s:={ s with heap:=h1 }) ge rfl (Qg6 (s:={ s with heap:=h1 }) x1.c hi ?_)))
 dsimp only
 refine wpAny_holding (wpAny_bind (wpAny_bindSpecial_def (s:={ s with heap:=h1 }) (k _ _ gI) cI ?_))
 dsimp only
 refine wpAny_bind (wpAny_mono r1 (fun r s' hr=>?_) fun _ _ z=>z)
 obtain⟨er,hq⟩:=hr
 subst er
 refine wpAny_pure ?_
 dsimp only
 rw[if_neg (by decide)]
 exact wpAny_pure hq
theorem Qhb {rest : List Value} {Q : Value -> Shared -> Prop} (x : XCls s.heap C N bm mN)
  (h:wpAny (model prog w) (A.under (Code.builtin "type.__call__" { pos:=.ref C::rest })) (Builtin.«type.__call__» { pos:=.ref C::rest }) (fun fin s'=>∃ v,fin=.done (.ret v)/\Q v s') E s):wpAny (model prog w) A (call (.ref C) rest) Q E s:=by
 obtain⟨⟨nm,q1,bs,sn,sub,ab,col,dd,k0,k1,k2,k3,k5,g⟩,ns⟩:=id x
 refine wpAny_call (codeAny_of_tree ?_)
 show wpAny _ _ (callAny (.ref C) _) _ _ s
 unfold callAny
 dsimp only
 refine wpAny_bind (wpAny_load g ?_)
 dsimp only
 unfold callAny.viaDunder specialOf
 refine wpAny_bind (wpAny_bind (wpAny_typeOf_ref g ?_))
 dsimp only
 rw[F.lookup_type_call]
 refine wpAny_pure ?_
 dsimp only
 rw[F.bind_type_call]
 refine wpAny_bind (wpAny_pure ?_)
 dsimp only
 unfold callAny.plainCallee
 refine wpAny_bind (wpAny_pure ?_)
 rw[if_pos (by decide)]
 refine wpAny_pure ⟨?_,codeAny_call_builtin_code (Code.quiet_builtin _ (by nofun)) (wpAny_check_type_call_sub (h:=s.heap) g (codeAny_builtin entry_typeCall ?_))⟩
 ·first | rfl | decide | simp[Code.quiet,Thread.loud]
 ·refine wpAny_mono h (fun fin s' z=>?_) fun _ _ z=>z
  obtain⟨v,e1,e2⟩:=z
  subst e1
  exact e2
end
theorem Qhc:typeLookup (.type "ValueError") (Str.ofString "__getattribute__")=pure (some (.builtin "BaseException.__getattribute__")):=by rfl
theorem Qhd:typeLookup (.type "ValueError") (Str.ofString "__getattr__")=pure none:=by rfl
theorem Qhe (self:Value):bindSpecial (.builtin "BaseException.__getattribute__") self=pure (.builtin "BaseException.__getattribute__",[self]):=by rfl
theorem Qhf:entryFor table "BaseException.__getattribute__"=some Builtin.«object.__getattribute__»:=entryFor_alias (id':="object.__getattribute__") (by rfl) (by nofun) (by nofun) (by rfl)
theorem Qhg:plainId "BaseException.__getattribute__"=true:=by nofun
structure NoN (mN mP:Str->Option Value) (name:Str):Prop where
 c:mN name=none
 p:mP name=none
structure Plain (mN mP:Str->Option Value):Prop where
 ga:NoN mN mP (Str.ofString "__getattribute__")
 gh:NoN mN mP (Str.ofString "__getattr__")
 sa:NoN mN mP (Str.ofString "__setattr__")
 cl:NoN mN mP (Str.ofString "__class__")
 qt:∀ n∈quietNames,mP n=none
section
variable {prog:Program}{w:World}{A:Around}{E:Value->Shared->Prop}{s:Shared}{C N P NP e:Addr}{mN mP:Str->Option Value}{name:Str}
theorem Qhh {nameV : Value} {fill expr : Bool} {o : Obj} {Q : Value -> Shared -> Prop} (x : XCh s.heap C N P NP mN mP) (pl : Plain mN mP) (g : s.heap.get? e = some o) (hc : o.cls = .ref C)
  (h:wpAny (model prog w) A.in1 (Builtin.«object.__getattribute__» { pos:=[.ref e,nameV] }) (fun fin s'=>∃ v,fin=.done (.ret v)/\(∀ id,v≠.builtin id)/\Q v s') (fun _ _=>False) s):wpAny (model prog w) A (getAttrBy (.ref e) nameV fill expr) Q E s:=by
 unfold getAttrBy
 refine wpAny_holding (wpAny_bind (Qg9 g hc (wpAny_bind (Qg8 x pl.ga.c pl.ga.p Qhc ?_))))
 dsimp only
 have nq:¬ ((onTheHeap (Value.ref C) && (Value.builtin "BaseException.__getattribute__" == Value.builtin "object.__getattribute__"))=true):=(show ¬ ((true && (Value.builtin "BaseException.__getattribute__" == Value.builtin "object.__getattribute__"))=true) by decide)
 rw[if_neg nq]
 unfold getAttrByItsOwn hookBefore
 rw[if_pos (show onTheHeap (.ref C)=true from rfl)]
 refine wpAny_bind (Qg8 x pl.gh.c pl.gh.p Qhd ?_)
 refine wpAny_bind (wpAny_attempt (wpAny_holding ?_))
 unfold callGetattribute
 rw[if_neg (by cases expr<;>exact Bool.false_ne_true)]
 unfold boundAndCalled
 rw[Qhe]
 refine wpAny_bind (wpAny_pure ?_)
 dsimp only
 obtain⟨⟨nm,q1,bs,sn,sub,ab,col,dd,k0,k1,k2,k3,k5,gC⟩,ns⟩:=id x.c
 have tail:OwnTailQ s.heap vErr (.ref P::vErr):=by
  obtain⟨⟨nm,q1,bs,sn,sub,ab,col,dd,k0,k1,k2,k3,k5,gP⟩,nsP⟩:=id x.p
  exact .own gP nsP pl.qt .base
 refine wpAny_call (codeAny_call_builtin Qhg Qhf (wpAny_check_ga_own (h:=s.heap) F.attrBase_ValueError gC tail g hc ?_))
 refine wpAny_mono h (fun fin s' z=>?_) fun _ _ z=>z.elim
 obtain⟨v,e1,nb,hq⟩:=z
 subst e1
 dsimp only
 unfold handedOut
 cases v with
 | builtin id=>exact absurd rfl (nb id)
 | _=>exact wpAny_pure hq
theorem Qhi {v : Value} {dx : Addr} {vs : Array Value} {sl : Array (Option Value)} {mA : Str -> Option Value} {expr : Bool} {Q : Value -> Shared -> Prop} (x : XCh s.heap C N P NP mN mP) (pl : Plain mN mP) (g : s.heap.get? e = some ⟨.ref C, some dx, .fields vs, sl⟩) (hn : s.heap.Ns dx mA) (hv : mA name = some v) (nb : ∀ id, v ≠ .builtin id)
  (no:NoN mN mP name) (hy:typeLookup (.type "ValueError") name=pure none) (q:∀ tk,Q v { s with toks:=tk }):wpAny (model prog w) A (getAttr (.ref e) name expr) Q E s:=by
 unfold getAttr
 refine wpAny_bind (wpAny_mkText (Qhh (s:={ s with toks:=s.toks + 1 }) x pl g rfl ?_))
 unfold Builtin.«object.__getattribute__»
 refine wpAny_bind ?_
 show wpAny _ _ (pure (Value.ref e,[Value.str name s.toks])) _ _ _
 refine wpAny_pure ?_
 dsimp only
 refine wpAny_bind (wpAny_pure (wpAny_bind (Qg9 (s:={ s with toks:=s.toks + 1 }) g rfl (wpAny_bind ?_))))
 unfold Builtin.ObjectAttr.find
 refine wpAny_bind (Qg8 (s:={ s with toks:=s.toks + 1 }) x no.c no.p hy (wpAny_bind (wpAny_pure (wpAny_bind (wpAny_pure ?_)))))
 dsimp only
 unfold Builtin.ObjectAttr.ownThenClass Builtin.ObjectAttr.inOwnDict
 dsimp only
 unfold Builtin.ObjectAttr.ownDict
 obtain⟨⟨nm,q1,bs,sn,sub,ab,col,dd,k0,k1,k2,k3,k5,gC⟩,ns⟩:=id x.c
 unfold loadHead
 refine wpAny_bind (wpAny_bind (wpAny_bind (wpAny_loadPart (s:={ s with toks:=s.toks + 1 }) g ?_)))
 dsimp only
 unfold instanceDict
 refine wpAny_bind (wpAny_loadPart (s:={ s with toks:=s.toks + 1 }) g ?_)
 dsimp only
 unfold classData
 refine wpAny_bind (wpAny_bind (wpAny_load (s:={ s with toks:=s.toks + 1 }) gC (wpAny_pure ?_)))
 rw[if_neg (by simp)]
 refine wpAny_pure ?_
 unfold Builtin.ObjectAttr.inDict
 dsimp only
 refine wpAny_nsGet (s:={ s with toks:=s.toks + 1 }) hn ?_
 rw[hv]
 dsimp only
 refine wpAny_bind (wpAny_rule (wpAny_pure ?_))
 exact wpAny_pure ⟨v,rfl,nb,q _⟩
theorem Qhj:typeLookup (.type "ValueError") (Str.ofString "__class__")=pure (some (.builtin "object.__class__")):=by rfl
theorem Qhk:typeLookup (.type "getset_descriptor") (Str.ofString "__get__")=pure (some (.builtin "getset_descriptor.__get__")):=by rfl
theorem Qhl:entryFor table "getset_descriptor.__get__"=some Builtin.«getset_descriptor.__get__»:=entryFor_of_tree (by rfl)
theorem Qhm:Slot "getset_descriptor" (Str.ofString "__get__") "getset_descriptor.__get__":=Slot.of (owner:="getset_descriptor") (n:="__get__") Qhk (by nofun) (by nofun) (by nofun) (Or.inl (by nofun)) (by rw[isSubtype_type];rfl) (by nofun)
theorem Qhn (a b c:Value):argsOk "getset_descriptor.__get__" { pos:=[a,b,c] }:=by rfl
theorem Qho:∃ n,Builtin.Getset_descriptor.descrNameAndClass (.builtin "object.__class__")=pure (n,.type "object"):=⟨_,rfl⟩
theorem Qhp:typeLookup (.type "getset_descriptor") (Str.ofString "__set__")=pure (some (.builtin "getset_descriptor.__set__")):=by rfl
theorem Qhq {o:Obj}{Q:Option Value->Shared->Prop} (x:XCh s.heap C N P NP mN mP) (pl:Plain mN mP) (g:s.heap.get? e=some o) (hc:o.cls=.ref C) (q:∀ tk,Q (some (.ref C)) { s with toks:=tk }):wpAny (model prog w) A (getAttr? (.ref e) (Str.ofString "__class__")) Q E s:=by
 unfold getAttr? getAttrBy?
 refine wpAny_bind (wpAny_mkText (wpAny_bind (wpAny_attempt (Qhh (s:={ s with toks:=s.toks + 1 }) x pl g hc ?_))))
 unfold Builtin.«object.__getattribute__»
 refine wpAny_bind ?_
 show wpAny _ _ (pure (Value.ref e,[Value.str (Str.ofString "__class__") s.toks])) _ _ _
 refine wpAny_pure ?_
 dsimp only
 refine wpAny_bind (wpAny_pure (wpAny_bind (Qg9 (s:={ s with toks:=s.toks + 1 }) g hc (wpAny_bind ?_))))
 unfold Builtin.ObjectAttr.find
 refine wpAny_bind (Qg8 (s:={ s with toks:=s.toks + 1 }) x pl.cl.c pl.cl.p Qhj (wpAny_bind ?_))
 unfold Builtin.ObjectAttr.getOf
 dsimp only
 unfold specialOf
 rw[F.typeOf_object_class]
 refine wpAny_bind (wpAny_pure ?_)
 rw[Qhk]
 refine wpAny_pure (wpAny_bind ?_)
 unfold Builtin.ObjectAttr.dataDescriptor?
 dsimp only
 refine wpAny_bind ?_
 unfold Builtin.ObjectAttr.takesStores specialOf
 rw[F.typeOf_object_class]
 refine wpAny_bind (wpAny_bind (wpAny_pure ?_))
 rw[Qhp]
 refine wpAny_pure ?_
 rw[if_pos (show (some (Value.builtin "getset_descriptor.__set__")).isSome=true from rfl)]
 refine wpAny_pure ?_
 rw[if_pos rfl]
 refine wpAny_pure ?_
 dsimp only
 refine wpAny_bind (wpAny_rule (wpAny_pure ?_))
 dsimp only
 unfold Builtin.ObjectAttr.bindTo
 dsimp only
 refine wpAny_bind (wpAny_holding (wpAny_call (codeAny_call_builtin Qhm.plain Qhl (Qhm.check _ _ _ _ _ _ _ _ F.typeOf_object_class (Qhn _ _ _) ?_))))
 unfold Builtin.«getset_descriptor.__get__» Builtin.Getset_descriptor.descrGet
 refine wpAny_bind ?_
 show wpAny _ _ (pure (Value.builtin "object.__class__",some (Value.ref e),some (Value.ref C))) _ _ _
 refine wpAny_pure ?_
 dsimp only
 unfold Builtin.Getset_descriptor.descrGetter
 dsimp only
 refine wpAny_bind ?_
 unfold Builtin.Getset_descriptor.descrCheckInstance
 obtain⟨n,hn⟩:=Qho
 rw[hn]
 refine wpAny_bind (wpAny_pure ?_)
 dsimp only
 unfold isInstance
 refine wpAny_bind (wpAny_bind (Qg9 (s:={ s with toks:=s.toks + 1 }) g hc (Qg5 (s:={ s with toks:=s.toks + 1 }) x.c ?_)))
 rw[if_neg (by simp[vErr])]
 refine wpAny_pure (wpAny_pure ⟨Code.quiet_builtin _ (by nofun),codeAny_builtin F.entry_object_class ?_⟩)
 unfold Builtin.«object.__class__»
 dsimp only
 unfold shownTypeOf
 refine wpAny_bind (wpAny_bind (Qg9 (s:={ s with toks:=s.toks + 1 }) g hc ?_))
 rw[if_neg (show ¬ ((Value.ref C == Value.type "builtin_function_or_method")=true) from Bool.false_ne_true)]
 refine wpAny_pure (wpAny_pure (wpAny_pure ⟨_,rfl,And.intro (fun id z=>by cases z) (wpAny_pure (q _))⟩))
theorem Qhr {o : Obj} {T : Value} {Q : Value -> Shared -> Prop} (x : XCh s.heap C N P NP mN mP) (pl : Plain mN mP) (g : s.heap.get? e = some o) (hc : o.cls = .ref C)
  (ht:∀ (A:Around) (E:Value->Shared->Prop) (R:Value->Shared->Prop) tk,R (.type "type") { s with toks:=tk }->wpAny (model prog w) A (typeOf T) R E { s with toks:=tk })
  (hy:∀ (A:Around) (E:Value->Shared->Prop) (R:Bool->Shared->Prop) tk,R true { s with toks:=tk }->wpAny (model prog w) A (isType T) R E { s with toks:=tk })
  (q:∀ tk,Q (.bool ((Value.ref C::Value.ref P::vErr).contains T)) { s with toks:=tk }):wpAny (model prog w) A (call (.builtin "isinstance") [.ref e,T]) Q E s:=by
 refine call_isinstance_of ?_ (fun z=>nomatch z)
 unfold Builtin.«isinstance.nested»
 dsimp only[rawInt]
 refine wpAny_bind (Qg9 g hc ?_)
 by_cases h1:(Value.ref C == T)=true
 ·rw[if_pos h1]
  refine wpAny_bind (wpAny_rule (wpAny_pure ?_))
  have e1:(Value.ref C::Value.ref P::vErr).contains T=true:=by
   rw[List.contains_cons]
   have:(T == Value.ref C)=true:=by
    rw[beq_iff_eq]at h1 ⊢;exact h1.symm
   rw[this];rfl
  have:=q s.toks
  rw[e1]at this
  exact this
 ·rw[if_neg h1]
  refine wpAny_bind (ht _ _ _ s.toks ?_)
  rw[if_pos (by decide)]
  refine wpAny_bind ?_
  show wpAny _ _ (isType T >>= _) _ _ _
  refine wpAny_bind (hy _ _ _ s.toks ?_)
  rw[if_neg (by decide)]
  unfold isInstance
  refine wpAny_bind (wpAny_bind (Qg9 g hc (Qg5 x.c ?_)))
  by_cases h2:(Value.ref C::Value.ref P::vErr).contains T=true
  ·rw[if_pos h2]
   refine wpAny_pure (wpAny_pure ?_)
   have:=q s.toks
   rw[h2]at this
   exact this
  ·rw[if_neg h2]
   refine wpAny_bind (Qhq x pl g hc fun tk=>?_)
   dsimp only
   obtain⟨⟨nm,q1,bs,sn,sub,ab,col,dd,k0,k1,k2,k3,k5,gC⟩,ns⟩:=id x.c
   unfold isType
   dsimp only
   unfold loadHead
   refine wpAny_bind (wpAny_bind (wpAny_loadPart (s:={ s with toks:=tk }) gC (wpAny_pure ?_)))
   rw[if_neg (by simp)]
   refine wpAny_bind (wpAny_rule (Qg5 (s:={ s with toks:=tk }) x.c ?_))
   have e2:(Value.ref C::Value.ref P::vErr).contains T=false:=by simpa using h2
   refine wpAny_pure ?_
   exact q tk
end
open PySem.W L2
noncomputable abbrev FF (o:Obj):Prop:=∃ vs,o.data=.fields vs/\vs[1]?=some Value.none/\vs[2]?=some Value.none
noncomputable def rawX (e C:Addr) (h:Heap):Prop:=∃ vs sl,h.get? e=some ⟨.ref C,none,.fields vs,sl⟩/\vs[1]?=some Value.none/\vs[2]?=some Value.none
noncomputable def StrNs (K:Frag) (N:Addr):Prop:=∃ c d es ep sl,K.lookup N=some ⟨c,d,.dict es ep,sl⟩/\StrKeys es
structure XF (K:Frag) (x f:Str) (C N P NP:Addr):Prop where
 gl:nsIn K mainGlobals x=some (some (.ref C))
 ob:∃ q bs sn sub ab col dd k0 k1 k2 k3 k5,K.lookup C=some (excClassObj x q C N bs (.ref P::vErr) true sn sub ab col dd k0 k1 k2 k3 k5 "ValueError.__new__")
 obP:∃ q bs sn sub ab col dd k0 k1 k2 k3 k5,K.lookup P=some (excClassObj "PactError" q P NP bs vErr true sn sub ab col dd k0 k1 k2 k3 k5 "ValueError.__new__")
 glP:nsIn K mainGlobals "PactError"=some (some (.ref P))
 sN:StrNs K N
 sP:StrNs K NP
 nn:∀ n∈([Str.ofString "__getattribute__",Str.ofString "__getattr__",Str.ofString "__setattr__",Str.ofString "__class__",f]:List Str),nsIn K N n=some none
 np:∀ n∈([Str.ofString "__getattribute__",Str.ofString "__getattr__",Str.ofString "__setattr__",Str.ofString "__class__",f,Str.ofString "__init__",Str.ofString "args"]:List Str),nsIn K NP n=some none
 kp:keepIn K (.ref C)=true
section
variable {K:Frag}{x f:Str}{C N P NP:Addr}{h:Heap}
theorem StrNs.ns (z:StrNs K N) (k:K.In h):∃ m,h.Ns N m:=by
 obtain⟨c,d,es,ep,sl,l,sk⟩:=z
 exact⟨nsFind es,_,es,ep,k _ _ l,rfl,sk,fun _=>rfl⟩
theorem Qhs {m:Str->Option Value}{n:Str}{v:Value} (k:K.In h) (ns:h.Ns N m) (e:nsIn K N n=some (some v)):m n=some v:=by
 obtain⟨o,es,ep,g,d,sk,hm⟩:=ns
 unfold nsIn at e
 cases hl:List.lookup N K with
 | none=>rw[hl]at e;cases e
 | some o'=>
  have g':=k _ _ hl
  rw[g]at g'
  cases g'
  rw[hl]at e
  obtain⟨oc,od,oo,os⟩:=o
  cases d
  dsimp only at e
  cases hf:List.find? (fun x=>x.key.isStr n) es.toList with
  | none=>
   rw[hf]at e
   dsimp only at e
   split at e<;>cases e
  | some en=>
   rw[hf]at e
   cases e
   rw[<- hm n]
   unfold nsFind findBy
   rw[<- Array.find?_toList]
   show Option.map (fun x=>x.val) (List.find? (fun x=>x.key.isStr n) es.toList)=_
   rw[hf];rfl
theorem XF.ch (F:XF K x f C N P NP) (k:K.In h):∃ mN mP,XCh h C N P NP mN mP/\Plain mN mP/\NoN mN mP f/\h.Ns N mN/\mP (Str.ofString "__init__")=none:=by
 obtain⟨mN,hN⟩:=F.sN.ns k
 obtain⟨mP,hP⟩:=F.sP.ns k
 obtain⟨q1,bs,sn,sub,ab,col,dd,k0,k1,k2,k3,k5,l⟩:=F.ob
 obtain⟨q1',bs',sn',sub',ab',col',dd',k0',k1',k2',k3',k5',l'⟩:=F.obP
 have a:∀ n∈([Str.ofString "__getattribute__",Str.ofString "__getattr__",Str.ofString "__setattr__",Str.ofString "__class__",f]:List Str),mN n=none:=fun n hn=>ns_none_of k hN (F.nn n hn)
 have b:∀ n∈([Str.ofString "__getattribute__",Str.ofString "__getattr__",Str.ofString "__setattr__",Str.ofString "__class__",f,Str.ofString "__init__",Str.ofString "args"]:List Str),mP n=none:=fun n hn=>ns_none_of k hP (F.np n hn)
 refine⟨mN,mP,⟨⟨⟨x,q1,bs,sn,sub,ab,col,dd,k0,k1,k2,k3,k5,k _ _ l⟩,hN⟩,⟨⟨_,q1',bs',sn',sub',ab',col',dd',k0',k1',k2',k3',k5',k _ _ l'⟩,hP⟩⟩,
  ⟨⟨a _ (by simp),b _ (by simp)⟩,⟨a _ (by simp),b _ (by simp)⟩,⟨a _ (by simp),b _ (by simp)⟩,⟨a _ (by simp),b _ (by simp)⟩,fun n hn=>b n ?_⟩,⟨a _ (by simp),b _ (by simp)⟩,hN,b _ (by simp)⟩
 simp only[quietNames,List.mem_cons,List.not_mem_nil,or_false]at hn
 rcases hn with z | z | z | z<;>(rw[z];simp)
end
section
variable {X:Cx}{x f:Str}{C N P NP:Addr}{pos pos':Pos}{o value:Expr}{ta tv:TE}
noncomputable def madeX (H:Hp) (e dx:Addr) (f:Str) (v:V) (ob:Obj):Hp:=upd (upd H dx (.xd [(f,v)])) e (.frz ob (.own e))
noncomputable def spI (C:Addr) (f:Str):Sp:=fun vs H Q _=>∃ e v,vs=[.ref e,v]/\H e=some (.ext (rawX e C))/\∀ dx ob,H dx=none->dx≠e->ob.cls=.ref C->ob.dict=some dx->FF ob->Q .non (madeX H e dx f v ob)
theorem Qht {pins : List (Addr × Obj)} {σ : L2.St} {H : Hp} {s : Shared} {Q : VK} {u : Value} {v : V} {fI : Addr} {fd : FuncData} {ps : List Str} (F : XF X.K x f C N P NP) (hi : nsIn X.K N (Str.ofString "__init__") = some (some (.ref fI))) (hfn : ∃ oI, X.K.lookup fI = some oI /\ oI.cls = .type "function")
  (G:FnOk X.prog X.w X.K X.mg X.base CX0 1 fI fd ps (spI C f)) (hr:Room 2 X.A) (hb:Binds X.K fd ps []) (I:Inv X pins σ H s) (r:RelV v u)
  (h:∀ e dx ob,H e=none->(X.ex=[]->X.s₀.heap.get? e=none)->H dx=none->dx≠e->ob.cls=.ref C->ob.dict=some dx->FF ob->Q (.ref e) (madeX (upd H e (.ext (rawX e C))) e dx f v ob)):
  wpAny (model X.prog X.w) X.A (call (.ref C) [u]) (EP X pins σ Q) X.xe s:=by
 obtain⟨mN,mP,ch,pl,no,hN,hpi⟩:=F.ch I.kIn
 obtain⟨oI,lI,cI⟩:=hfn
 refine Qhb ch.c (Qha ch hpi (Qhs I.kIn hN hi) (I.kIn _ _ lI) cI (fun h' e hz md=>?_) (show 1<=sizeLine by decide))
 obtain⟨t,ge,_,_⟩:=md.there
 have I2:Inv X pins σ (upd H e (.ext (rawX e C))) { s with heap:=h' }:=I.laid (t':=s.toks) md.keeps hz (show ObjOk X.prog X.w _ h' e (.ext (rawX e C)) from ⟨⟨_,_,ge,rfl,rfl⟩,⟨_,ge⟩,fun h1 h2 y1 k=>by
  obtain⟨vs,sl,g1,g2⟩:=y1
  exact⟨vs,sl,k _ g1,g2⟩⟩)
 have he:H e=none:=I.hok.fresh hz
 have hq:spI C f [.ref e,v] (upd H e (.ext (rawX e C))) (fun z H2=>z=.non/\Q (.ref e) H2) E0:=⟨e,v,rfl,Qai,fun dx ob h1 h2 h3 h4 h5=>⟨rfl,h e dx ob he (fun _=>Qg2 (Nat.le_trans I.sz hz)) (by rw[Qaj h2]at h1;exact h1) h2 h3 h4 h5⟩⟩
 have hl:([Value.ref e,u]++[]).length=ps.length:=by
  have:=G.len _ _ _ _ hq
  simpa using this
 refine wpAny_call (codeAny_mono (G.run _ X.stack _ _ ⟨[.ref e,u],[]⟩ ([.ref e,u]++[]) [.ref e,v] _ E0 (hr.make C [u] []) (I2.env0.make C [u] []) (hb _ [.ref e,u] I2.kIn hl) (.cons rfl (.cons r .nil)) hq) fun r s' hq'=>?_)
 cases r with
 | error e=>exact hq'.elim
 | ok fl=>
  cases fl with
  | ret u2=>
   obtain⟨v2,H',I3,rv,ev,q3⟩:=I2.after hq'
   subst ev
   exact⟨rv,_,rfl,⟨V.ref e,H',I3,rfl,q3⟩⟩
  | next=>exact False.elim hq'
  | brk=>exact False.elim hq'
  | cont=>exact False.elim hq'
theorem Qhu {fI : Addr} {fd : FuncData} {ps : List Str} {e : Expr} {t : TA} {p : Pos} (F : XF X.K x f C N P NP) (hi : nsIn X.K N (Str.ofString "__init__") = some (some (.ref fI))) (hfn : ∃ oI, X.K.lookup fI = some oI /\ oI.cls = .type "function")
  (G:FnOk X.prog X.w X.K X.mg X.base CX0 1 fI fd ps (spI C f)) (hr:Room 2 X.A) (hb:Binds X.K fd ps []) (hg:Gl X x) (hm:X.mg x=some (.ref C)) (ha:PA X [e] t) (hdb:(x == ("__debug__":Str))=false:=by decide)
  (he:starEach [e] X.env=[(false,eval e X.env)]:=by rfl):PE X (.Call (.Name x p) [e] [] pos) (fun σ H Q=>t σ H fun vs H1=>∃ v,vs=[v]/\∀ e dx ob,H1 e=none->(X.ex=[]->X.s₀.heap.get? e=none)->H1 dx=none->dx≠e->ob.cls=.ref C->ob.dict=some dx->FF ob->Q (.ref e) (madeX (upd H1 e (.ext (rawX e C))) e dx f v ob)):=by
 intro pins s σ H Q I h
 refine wpAny_Call_Name_kw (Qax I hg hm ?_ hdb)
 refine PySem.W.callWith_K (h₀:=X.base) I.ok.mod.kin F.kp (thn (ha pos pins s σ H _ I h) fun us s1 ⟨vs,H1,I1,r,v,ev,q⟩=>⟨I1.kIn,?_⟩) he rfl
 subst ev
 obtain⟨u,rfl,ru⟩:=QbA r
 exact Qht F hi hfn G hr hb I1 ru q
theorem Qhv {p : Pos} (F : XF X.K x f C N P NP) (hi : nsIn X.K N (Str.ofString "__init__") = some none) (hg : Gl X x) (hm : X.mg x = some (.ref C)) (hdb : (x == ("__debug__" : Str)) = false := by decide) :
  PE X (.Call (.Name x p) [] [] pos) (fun σ H Q=>∀ e ob,H e=none->(X.ex=[]->X.s₀.heap.get? e=none)->ob.cls=.ref C->ob.dict=none->FF ob->Q (.ref e) (upd H e (.frz ob (.own e)))):=by
 intro pins s σ H Q I h
 refine wpAny_Call_Name_kw (Qax I hg hm ?_ hdb)
 refine PySem.W.callWith_K0 I.kIn F.kp ?_
 obtain⟨mN,mP,ch,pl,no,hN,hpi⟩:=F.ch I.kIn
 obtain⟨⟨nm,q1,bs,sn,sub,ab,col,dd,k0,k1,k2,k3,k5,g⟩,ns⟩:=id ch.c
 have tail:OwnTail s.heap vErr (.ref P::vErr):=by
  obtain⟨⟨nm,q1,bs,sn,sub,ab,col,dd,k0,k1,k2,k3,k5,g⟩,ns⟩:=id ch.p
  exact .own g ns hpi .base
 refine wpAny_call_exc_subU (h:=s.heap) PySem.F.excBase_ValueError rfl PySem.F.excBase_ValueError tail g ns (ns_none_of I.kIn hN hi) (fun h' e md=>?_) (by decide)
 obtain⟨t,ge,_,_⟩:=md.there
 have he:H e=none:=by
  cases w:H e with
  | none=>rfl
  | some ob=>
   obtain⟨ob',e'⟩:=Qgi (I.hok e ob w)
   rw[md.new]at e';cases e'
 have nd:∀ {b o},s.heap.get? b=some o->b≠e:=fun w z=>by rw[z,md.new]at w;cases w
 refine⟨.ref e,_,?_,rfl,h e ⟨.ref C,none,.fields #[.ref t,.none,.none,.none,.bool false,.none],#[]⟩ he (fun hx=>by
  cases z:X.s₀.heap.get? e with
  | none=>rfl
  | some o=>obtain⟨o',q⟩:=I.base.there e o z (by rw[hx];simp);rw[md.new]at q;cases q) rfl rfl ⟨_,rfl,rfl,rfl⟩⟩
 refine I.step (g':=s.gens) (d':=s.drawn) (t':=s.toks) (ch:=[]) (fun b hb=>by cases hb) (fun b ob _ _ _ e1 n1=>md.keeps b ob e1) (fun b ob _ _ _ e1 n1=>⟨ob.slots,md.keeps b ob e1⟩)
  (fun b ob _ e1 n1=>by rw[Qaj (nd e1)];exact n1) (fun b ob _ e1=>⟨ob,md.keeps b ob e1⟩)
  (fun b ys e1=>by rw[Qaj (Qal e1 he)];exact e1) (fun b ob ys e1=>by rw[Qaj (Qal e1 he)];exact e1)
  (fun b ps e1=>⟨#[],by rw[Qaj (Qal e1 he),e1];simp⟩)
  (fun m hm=>by
   obtain⟨ob,es,ep,g1,r1⟩:=hm
   exact⟨ob,es,ep,md.keeps _ _ g1,r1⟩) ?_ I.bare
 intro b ob e1
 by_cases w:b=e
 ·subst w
  rw[Qai]at e1;cases e1
  exact⟨ge,_,ge⟩
 ·rw[Qaj w]at e1
  exact (I.hok b ob e1).stay (fun c u' hb e2=>md.keeps c u' e2) (fun c e2=>by rw[Qaj (Qal e2 he)];exact e2) (fun c ys e2=>by rw[Qaj (Qal e2 he)];exact e2)
theorem Qhw {e : Expr} {te : TE} (hy : typeLookup (.type "ValueError") f = pure none) (he : PE X e te) (hb : attributeBase e f X.env (eval e X.env) = eval e X.env := by rfl) :
  PE X (.Attribute e f pos) (fun σ H Q=>te σ H fun y H1=>∃ a dx v ob x C N P NP,y=.ref a/\XF X.K x f C N P NP/\H1 a=some (.frz ob (.own a))/\ob.cls=.ref C/\ob.dict=some dx/\(∃ vs,ob.data=.fields vs)/\H1 dx=some (.xd [(f,v)])/\Q v H1):=by
 intro pins s σ H Q I h
 refine QbG hb (thn (he pins s σ H _ I h) fun u s1 z=>?_)
 obtain⟨y,H1,I1,rx,a,dx,v,ob,x,C,N,P,NP,ex,F,ea,oc,od,⟨vs,ov⟩,ed,q⟩:=z
 subst ex
 obtain rfl:u=Value.ref a:=rx
 obtain⟨mN,mP,ch,pl,no,hN,hpi⟩:=F.ch I1.kIn
 obtain⟨ga,_⟩:=(show ObjOk X.prog X.w H1 s1.heap a (.frz ob (.own a)) from I1.hok a _ ea)
 obtain⟨mA,n1,rl⟩:=(show ObjOk X.prog X.w H1 s1.heap dx (.xd [(f,v)]) from I1.hok dx _ ed)
 have r1:=rl f
 rw[List.lookup_cons_self]at r1
 cases hm:mA f with
 | none=>rw[hm]at r1;exact r1.elim
 | some u1=>
  rw[hm]at r1
  have r2:RelV v u1:=r1
  obtain⟨c0,d0,dd0,sl0⟩:=ob
  cases oc
  cases od
  cases ov
  refine Qhi ch pl ga n1.ns hm (fun id z=>?_) no hy fun tk=>⟨v,H1,I1.tok _,r2,q⟩
  subst z
  cases v<;>first | (obtain⟨_,z⟩:=r2;cases z) | cases r2
noncomputable def isOf (C P:Addr) (T:V):Bool:=match T with
 | .ref D=>decide (D=C) || decide (D=P)
 | .ty n=>["ValueError","Exception","BaseException","object"].contains n
 | _=>false
theorem Qhx:CallR X (.builtin "isinstance") (fun xs H Q=>∃ a ob x f C N P NP T,xs=[.ref a,T]/\XF X.K x f C N P NP/\H a=some (.frz ob (.own a))/\ob.cls=.ref C/\(T=.ty "ValueError"\/∃ D nm q bs bm N sn sub ab col dd k0 k1 k2 k3 k5,T=.ref D/\X.K.lookup D=some (excClassObj nm q D N bs bm true sn sub ab col dd k0 k1 k2 k3 k5 "ValueError.__new__"))/\Q (.bl (isOf C P T)) H):=by
 intro pins s σ H xs us Q I r h
 obtain⟨a,ob,x,f,C,N,P,NP,T,rfl,F,ea,oc,hT,q⟩:=h
 obtain⟨mN,mP,ch,pl,no,hN,hpi⟩:=F.ch I.kIn
 obtain⟨ga,_⟩:=(show ObjOk X.prog X.w H s.heap a (.frz ob (.own a)) from I.hok a _ ea)
 cases r with
 | cons r1 r2=>
 cases r1
 cases r2 with
 | cons r3 r4=>
 cases r4
 rcases hT with hT | ⟨D,nm,q1,bs,bm,N',sn,sub,ab,col,dd,k0,k1,k2,k3,k5,hT,lD⟩
 ·subst hT
  cases r3
  refine Qhr ch pl ga oc (fun A E R tk hR=>wpAny_pure hR) (fun A E R tk hR=>wpAny_pure hR) fun tk=>?_
  have e1:(Value.ref C::Value.ref P::vErr).contains (Value.type "ValueError")=isOf C P (.ty "ValueError"):=by
   show _=true
   simp[vErr]
  rw[e1]
  exact⟨.bl _,H,I.tok _,rfl,q⟩
 ·subst hT
  cases r3
  have gD:=I.kIn _ _ lD
  refine Qhr ch pl ga oc (fun A E R tk hR=>wpAny_typeOf_ref (s:={ s with toks:=tk }) gD hR) (fun A E R tk hR=>?_) fun tk=>?_
  ·unfold isType
   dsimp only
   unfold loadHead
   exact wpAny_bind (wpAny_loadPart (s:={ s with toks:=tk }) gD (wpAny_pure hR))
  ·have e1 : (Value.ref C :: Value.ref P :: vErr).contains (Value.ref D) = isOf C P (.ref D) := by
     show _=(decide (D=C) || decide (D=P))
     rw[List.contains_cons,List.contains_cons]
     have z:vErr.contains (Value.ref D)=false:=rfl
     rw[z,Bool.or_false]
     have z2:∀ a b:Addr,(Value.ref a == Value.ref b)=decide (a=b):=fun a b=>by
      by_cases w:a=b
      ·subst w;rw[decide_eq_true rfl];exact beq_self_eq_true _
      ·rw[decide_eq_false w];exact beq_eq_false_iff_ne.mpr (fun z=>w (by injection z))
     rw[z2,z2]
   rw[e1]
   exact⟨.bl _,H,I.tok _,rfl,q⟩
end
end MM
namespace MM
open PySem PySem.Spec PyProof.Rows L2
structure NameOk (x:Str):Prop where
 d:(x == ("__debug__":Str))=false
 c:(x == ("__classdict__":Str))=false
 n:x≠"__name__"
theorem nok {x:Str} (h:((x == ("__debug__":Str)) || (x == ("__classdict__":Str)) || decide (x=("__name__":Str)))=false):NameOk x:=by
 rw[Bool.or_eq_false_iff,Bool.or_eq_false_iff]at h
 exact⟨h.1.1,h.1.2,of_decide_eq_false h.2⟩
structure Sc (X:Cx) (sc:Scope):Prop where
 vis:∀ x k,sc.names.lookup x=some k->(k=.local\/k=.cell\/k=.free)->Vis X.env.scope x
 cel:∀ x,(sc.names.lookup x=some .cell\/sc.names.lookup x=some .free)->(X.env.kindOf x=some .cell\/X.env.kindOf x=some .free)
 glo:∀ x,sc.names.lookup x=some .globalImplicit->Gl X x
 loc:∀ x k,sc.names.lookup x=some k->(k=.local\/k=.cell)->L2.Loc X.env.scope x/\(X.fn x=true\/X.env.scope.names.lookup x=some .local)
 calm:X.calm=true
theorem Qhy {P : Program} {w : World} {K : PySem.W.Frag} {mg : Str -> Option Value} {base : Heap} {N : List Str} {qual : Str} {sc : Scope} {f : Addr} {cdv : Value} {A : Around} {outer : List Env} {s : Shared} {H : Hp} {E : XK} :
  Sc (cxOf CX0 P w K mg base N qual sc f cdv A outer s H E).nox sc where
 vis:=fun x k h hk=>by
  rcases hk with z | z | z<;>subst z
  ·exact .inl h
  ·exact .inr (.inl h)
  ·exact .inr (.inr h)
 cel:=fun x h=>h
 glo:=fun x h=>h
 loc:=fun x k h hk=>⟨by rcases hk with z | z<;>subst z;exact .inl h;exact .inr h,.inl rfl⟩
 calm:=rfl
theorem Qhz {X:Cx}{N:List Str}{scope:Scope}{fp:List Addr}{s:Shared}{H:Hp} (hc:X.calm=true):Sc (cxC X N scope fp s H) scope where
 vis:=fun x k h hk=>by
  show (relabel scope X.env).names.lookup x=_\/(relabel scope X.env).names.lookup x=_\/(relabel scope X.env).names.lookup x=_
  rw[Qd6,h,Option.map_some]
  rcases hk with z | z | z<;>subst z
  ·exact .inl rfl
  ·exact .inr (.inl rfl)
  ·by_cases hq:(NameKind.free == NameKind.free && X.env.scope.kind == .function && X.env.kindOf x == some .cell)=true
   ·rw[if_pos hq];exact .inr (.inl rfl)
   ·rw[if_neg hq];exact .inr (.inr rfl)
 cel:=fun x h=>by
  show (relabel scope X.env).names.lookup x=_\/(relabel scope X.env).names.lookup x=_
  rcases h with h | h<;>rw[Qd6,h,Option.map_some]
  ·exact .inl rfl
  ·by_cases hq:(NameKind.free == NameKind.free && X.env.scope.kind == .function && X.env.kindOf x == some .cell)=true
   ·rw[if_pos hq];exact .inl rfl
   ·rw[if_neg hq];exact .inr rfl
 glo:=fun x h=>by
  show (relabel scope X.env).names.lookup x=_
  rw[Qd6,h,Option.map_some];rfl
 loc:=fun x k h hk=>by
  refine⟨?_,.inl ?_⟩
  ·show (relabel scope X.env).names.lookup x=_\/(relabel scope X.env).names.lookup x=_
   rw[Qd6,h,Option.map_some]
   rcases hk with z | z<;>subst z
   ·exact .inl rfl
   ·exact .inr rfl
  ·show decide (scope.names.lookup x=some .local\/scope.names.lookup x=some .cell)=true
   rw[h]
   rcases hk with z | z<;>subst z<;>decide
 calm:=hc
noncomputable def compChk (sc scope:Scope):Bool:=
 (scope.kind == .function) && scope.names.all (fun p=>p.2 != .local || scope.names.lookup p.1 == some .local) &&
 scope.names.all (fun p=>p.2 != .free || ((sc.names.lookup p.1 == some .cell || sc.names.lookup p.1 == some .free) && !scope.names.contains (p.1,.cell) && scope.names.lookup p.1 != some .local))
theorem QhA {X:Cx}{sc scope:Scope} (S:Sc X sc) (h:compChk sc scope=true):CompScope X scope:=by
 unfold compChk at h
 rw[Bool.and_eq_true,Bool.and_eq_true]at h
 obtain⟨⟨h1,h2⟩,h3⟩:=h
 rw[List.all_eq_true]at h2 h3
 have fr:∀ x,(x,NameKind.free)∈scope.names->(sc.names.lookup x=some .cell\/sc.names.lookup x=some .free)/\(x,NameKind.cell)∉scope.names/\scope.names.lookup x≠some .local:=fun x hx=>by
  have q:=h3 _ hx
  simp only[bne_self_eq_false,Bool.false_or,Bool.and_eq_true,Bool.or_eq_true,beq_iff_eq,Bool.not_eq_true',bne_iff_ne,ne_eq]at q
  obtain⟨⟨q1,q2⟩,q3⟩:=q
  refine⟨q1,fun z=>?_,q3⟩
  have:scope.names.contains (x,NameKind.cell)=true:=List.contains_iff_mem.mpr z
  rw[this]at q2;cases q2
 refine⟨by simpa using h1,fun p hp hl=>?_,fun x hx=>S.cel x (fr x hx).1,fun x hx=>(fr x hx).2.1,fun x hx=>(fr x hx).2.2⟩
 have q:=h2 p hp
 rw[hl]at q
 simpa using q
noncomputable def namesChk (N0:List Str) (scope:Scope) (N:List Str) (n:Nat) (ix:List Nat):Bool:=
 N.length == n + ix.length && (List.range ix.length).all fun j=>match ix[j]?,N[n + j]? with
  | some i,some x=>N0[i]? == some x && scope.names.lookup x == some .free
  | _,_=>false
theorem QhB {X:Cx}{N0:List Str}{scope:Scope}{N:List Str}{n:Nat}{ix:List Nat} (hX:X.N=N0) (h:namesChk N0 scope N n ix=true):CompNames X scope N n ix:=by
 unfold namesChk at h
 rw[Bool.and_eq_true,List.all_eq_true]at h
 refine⟨by simpa using h.1,fun j i x hj hx=>?_⟩
 have q:=h.2 j (List.mem_range.mpr (List.getElem?_eq_some_iff.mp hj).1)
 rw[hj,hx]at q
 simp only[Bool.and_eq_true,beq_iff_eq]at q
 rw[hX]
 exact q
section
variable {X:Cx}{sc:Scope}{a b c e o tg:Expr}{es:List Expr}{pos p:Pos}{fa fb fc:CE}{ca cb:CA}{x:Str}{T id:String}
theorem QhC (S:Sc X sc) (i:Nat) (hN:X.N[i]?=some x) {k:NameKind} (h:sc.names.lookup x=some k) (n:NameOk x) (hk:k=.local\/k=.cell\/k=.free:=by decide):SE X (.Name x pos) (cVar i):=Qdt i (Qas hN (S.vis x k h hk) n.d n.c)
theorem QhD (S:Sc X sc) (i:Nat) (nd:X.N.Nodup) (hN:X.N[i]?=some x) {k:NameKind} (h:sc.names.lookup x=some k) (hk:k=.local\/k=.cell:=by decide):SG X (.Name x pos) (gVar i):=
 QeU (QaP nd hN (S.loc x k h hk).1 (S.loc x k h hk).2)
theorem QhE (S : Sc X sc) (i : Nat) (nd : X.N.Nodup) (hN : X.N[i]? = some x) {k : NameKind} (h : sc.names.lookup x = some k) {pos' : Pos} (he : SE X e fa) (hk : k = .local \/ k = .cell := by decide) (hs : swapsWith e (some (.Name x pos')) pos.line X.env = pure false := by rfl) :
  SS X (.Assign [.Name x pos'] e pos) (sAsg (gVar i) fa):=Qe5 nd hN (S.loc x k h hk).1 he hs (S.loc x k h hk).2
theorem QhF {n:Nat} (h:∀ l st ds st',ca l st=.ok ds st'->ds.length=n):∀ l st ds st',cCons fa ca l st=.ok ds st'->ds.length=n + 1:=fun l st ds st' e=>by
 unfold cCons bnd at e
 cases q:fa l st with
 | ok d s1=>
  rw[q]at e
  dsimp only at e
  cases q2:ca l s1 with
  | ok es s2=>
   rw[q2]at e
   have:=h l s1 es s2 q2
   cases e
   simp[this]
  | exc _ _=>rw[q2]at e;cases e
  | bad=>rw[q2]at e;cases e
 | exc _ _=>rw[q]at e;cases e
 | bad=>rw[q]at e;cases e
theorem QhG:∀ l st ds st',cNil l st=.ok ds st'->ds.length=0:=fun l st ds st' e=>by cases e;rfl
noncomputable def KwBinds (K:PySem.W.Frag) (fd:FuncData) (ps:List Str):Prop:=∀ (s:Shared) (ws:List Value),ws.length=ps.length->BindsTo s fd ⟨[],ps.zip ws⟩ (ps.zip ws)
theorem QhH {k n : Nat} {f : Addr} {fd : FuncData} {ps : List Str} {g : List D -> M D} (S : Sc X sc) (h : sc.names.lookup x = some .globalImplicit) (F : FnOk X.prog X.w X.K X.mg X.base CX0 k f fd ps (spOf X.K n g)) (hr : Room k X.A) (hm : X.mg x = some (.ref f))
  (hk:PySem.W.keepIn X.K (.ref f)=true) (hb:Binds X.K fd ps []) (nk:NameOk x) (ha:SA X (e::es) ca) (hn:∀ l st ds st',ca l st=.ok ds st'->ds.length=n)
  (he:starEach (e::es) X.env=(false,eval e X.env)::starEach es X.env:=by rfl) (hpl:(backTo pos (starEach es X.env)).any (·.1)=false:=by rfl):SE X (.Call (.Name x p) (e::es) [] pos) (cCall g ca):=
 QeE F hr (S.glo x h) hm hk hb QcO ha hn nk.d he hpl
end
theorem QhI {k:Nat}{X:Cx} (h:Room k X.A):X.A.units + 60 < cLine:=by have:=h.units;ac_nf
theorem QhJ {P : Program} {w : World} {K : PySem.W.Frag} {mg : Str -> Option Value} {base : Heap} {x qual : Str} {sd : Stmt} {f : Addr} {fd : FuncData} {N ps : List Str} {k n m : Nat} {body : CS} (F : Fun K x qual sd f fd) (S : FnScope N ps (defScope sd)) (hn : ps.length = n) (hm : N.length = m)
  (hbody:∀ (cdv:Value) (A:Around) (outer:List Env) (s:Shared) (H:Hp) (E:XK),Room k (A.deeper (envOfC qual (defScope sd) s.heap.objs.size f cdv))->SSs (cxOf CX0 P w K mg base N qual (defScope sd) f cdv A outer s H E).nox (defBody sd) body):
  FnOk P w K mg base CX0 (k + 1) f fd ps (spOf K n (runDef m body)):=by
 subst hn hm
 exact Qe9 F S hbody
theorem QhK {K:PySem.W.Frag}{ρ:List Addr}{H:Hp}:∀ (ns:List Int),Reps K ρ H (ns.map V.int) (ns.map D.int)
 | []=>.nil
 | n::ns=>.cons (.int n) (QhK ns)
theorem QhL {K : PySem.W.Frag} {H : Hp} {a : Addr} {ns : List Int} {g : List D -> M D} (hO : Only H) (hS : SqL K H a (ns.map V.int)) (h : ∃ st', g [.lit (ns.map D.int)] [] = .ok (.bl true) st') :
  spOf K 1 g [.ref a] H (fun v _=>v=.bl true) fun _ _ _=>False:=by
 obtain⟨st',e⟩:=h
 have fz:FzL K H a (ns.map V.int):=by
  rcases hS with (h | ⟨o,h⟩) | h
  ·rcases hO a with z | ⟨ob,xs,z⟩<;>(rw[z]at h;cases h)
  ·exact .inl ⟨o,h⟩
  ·exact .inr h
 refine⟨rfl,[],[],_,⟨rfl,List.nodup_nil,fun n b o z=>by cases z⟩,.cons (.lit fz (QhK ns)) .nil,?_⟩
 rw[e]
 intro ρ' H' _ _ v rv
 cases rv
 rfl
@[elab_as_elim] theorem le1 {A:Type}{P:List A->Prop} (h:∀ a,P [a]) (us:List A) (hl:us.length=1):P us:=by
 cases us with
 | nil=>cases hl
 | cons a t=>cases t with
  | nil=>exact h a
  | cons b u=>simp at hl
@[elab_as_elim] theorem le2 {A:Type}{P:List A->Prop} (h:∀ a0 a1,P [a0,a1]) (us:List A) (hl:us.length=2):P us:=by
 cases us with
 | nil=>cases hl
 | cons a t=>exact le1 (P:=fun t=>P (a::t)) (h a) t (Nat.succ.inj hl)
@[elab_as_elim] theorem le3 {A:Type}{P:List A->Prop} (h:∀ a0 a1 a2,P [a0,a1,a2]) (us:List A) (hl:us.length=3):P us:=by
 cases us with
 | nil=>cases hl
 | cons a t=>exact le2 (P:=fun t=>P (a::t)) (h a) t (Nat.succ.inj hl)
@[elab_as_elim] theorem le4 {A:Type}{P:List A->Prop} (h:∀ a0 a1 a2 a3,P [a0,a1,a2,a3]) (us:List A) (hl:us.length=4):P us:=by
 cases us with
 | nil=>cases hl
 | cons a t=>exact le3 (P:=fun t=>P (a::t)) (h a) t (Nat.succ.inj hl)
end MM
namespace MM
open PySem PySem.W PyProof.Rows L2
section
variable {K:Frag}{ρ:List Addr}{H H1:Hp}{st:Sto}
theorem Ex.more (h:∀ b o,H b=some o->H1 b=some o):Ex ρ H ρ H1:=
 ⟨⟨[],by simp,by simp⟩,fun b u _ e=>h b u e,fun b u _ e=>h b u e,fun b u e=>⟨u,h b u e,rfl⟩⟩
theorem SR.more (s:SR K ρ H st) (h:∀ b o,H b=some o->H1 b=some o):SR K ρ H1 st:=
 ⟨s.len,s.nd,fun n b ob e1 e2=>ObR.mono (o:=ob) (Ex.more (ρ:=ρ) h).up (s.ob n b ob e1 e2) fun u q=>h b u q⟩
theorem QhM {e dx:Addr}{f:Str}{v:V}{ob:Obj}{o:HO} (he:H e=none) (hd:H dx=none):∀ b u,H b=some u->madeX (upd H e o) e dx f v ob b=some u:=fun b u q=>by
 unfold madeX
 rw[Qaj (Qal q he),Qaj (Qal q hd),Qaj (Qal q he)];exact q
end
section
variable {X:Cx}{sc:Scope}{x f y:Str}{C N P NP D:Addr}{pos p p1:Pos}{e:Expr}{fa:CE}{xs:List Str}
theorem QhN (F : XF X.K x f C N P NP) (hy : typeLookup (.type "ValueError") f = pure none) (ha : SE X e fa) (hb : attributeBase e f X.env (eval e X.env) = eval e X.env := by rfl) :
  SE X (.Attribute e f pos) (c1 (attrX x f) fa):=
 (Qhw hy ha hb).of fun σ H Q h_=>h_.el fun ρ l st lr sr q=>⟨ρ,l,st,lr,sr,q.bnd.imp fun d st1 ρ1 H1 x1 s1 q1 v rv=>by
  cases rv with
  | @exn a C' dx x' f' v' d' g hh h2 r=>
   obtain⟨⟨rfl,rfl⟩,q2⟩:=q1.chk
   obtain⟨o,ho,hc,hd,hv⟩:=hh
   have eC:C'=C:=by
    have:=g.symm.trans F.gl
    injection this with t;injection t with t;injection t
   subst eC
   exact⟨a,dx,v',o,_,_,_,_,_,rfl,F,ho,hc,hd,hv.imp fun _ z=>z.1,h2,q2.ret s1 _ r⟩
  | _=>exact q1.elim⟩
structure XO (K:Frag) (y:Str) (D:Addr):Prop where
 gl:nsIn K mainGlobals y=some (some (.ref D))
 ob:∃ N bm q bs sn sub ab col dd k0 k1 k2 k3 k5,K.lookup D=some (excClassObj y q D N bs bm true sn sub ab col dd k0 k1 k2 k3 k5 "ValueError.__new__")
theorem XF.xo (F:XF X.K x f C N P NP):XO X.K x C:=⟨F.gl,let ⟨q,bs,sn,sub,ab,col,dd,k0,k1,k2,k3,k5,l⟩:=F.ob;⟨_,_,q,bs,sn,sub,ab,col,dd,k0,k1,k2,k3,k5,l⟩⟩
theorem XF.xp (F:XF X.K x f C N P NP):XO X.K "PactError" P:=⟨F.glP,let ⟨q,bs,sn,sub,ab,col,dd,k0,k1,k2,k3,k5,l⟩:=F.obP;⟨_,_,q,bs,sn,sub,ab,col,dd,k0,k1,k2,k3,k5,l⟩⟩
theorem XO.iff {K:Frag}{x y:Str}{C D:Addr} (a:XO K x C) (b:XO K y D):decide (D=C)=(x == y):=by
 by_cases z:x=y
 ·subst z
  have e:C=D:=by
   have:=a.gl.symm.trans b.gl
   injection this with t;injection t with t;injection t
  rw[e];simp
 ·rw[decide_eq_false (fun w=>?_),beq_eq_false_iff_ne.mpr z]
  subst w
  obtain⟨N,bm,q,bs,sn,sub,ab,col,dd,k0,k1,k2,k3,k5,l⟩:=a.ob
  obtain⟨N',bm',q',bs',sn',sub',ab',col',dd',k0',k1',k2',k3',k5',l'⟩:=b.ob
  rw[l]at l'
  injection l' with t
  injection t with _ _ t _
  injection t with t
  injection t with t
  exact z t
theorem QhO {H : Hp} {Q : VK} {a C' : Addr} {x' : Str} {T : V} (B : ∀ x ∈ xs, ∃ f C N P NP, XF X.K x f C N P NP) (hx : x' ∈ xs) (g : nsIn X.K mainGlobals x' = some (some (.ref C'))) (hh : ∃ o, H a = some (.frz o (.own a)) /\ o.cls = .ref C')
  (hT:T=.ty "ValueError"\/∃ y D,T=.ref D/\XO X.K y D) (q:∀ P,XO X.K x' C'->XO X.K "PactError" P->Q (.bl (isOf C' P T)) H):
  ∃ b ob x f C N P NP T',[V.ref a,T]=[.ref b,T']/\XF X.K x f C N P NP/\H b=some (.frz ob (.own b))/\ob.cls=.ref C/\(T'=.ty "ValueError"\/∃ D nm q bs bm N sn sub ab col dd k0 k1 k2 k3 k5,T'=.ref D/\X.K.lookup D=some (excClassObj nm q D N bs bm true sn sub ab col dd k0 k1 k2 k3 k5 "ValueError.__new__"))/\Q (.bl (isOf C P T')) H:=by
 obtain⟨f,C,N,P,NP,F⟩:=B x' hx
 obtain⟨o,ho,hc⟩:=hh
 have eC:C'=C:=by
  have:=g.symm.trans F.gl
  injection this with t;injection t with t;injection t
 subst eC
 refine⟨a,o,x',f,C',N,P,NP,T,rfl,F,ho,hc,?_,q P F.xo F.xp⟩
 rcases hT with h | ⟨y,D,h,O⟩
 ·exact .inl h
 ·obtain⟨N,bm,q,bs,sn,sub,ab,col,dd,k0,k1,k2,k3,k5,l⟩:=O.ob
  exact .inr ⟨D,y,q,bs,bm,N,sn,sub,ab,col,dd,k0,k1,k2,k3,k5,h,l⟩
theorem QhP (B : ∀ x ∈ xs, ∃ f C N P NP, XF X.K x f C N P NP) (hg : Gl X "isinstance") (hm : X.mg "isinstance" = none) (hv : bootBuiltins "isinstance" = some (.builtin "isinstance")) (hgT : Gl X "ValueError") (hmT : X.mg "ValueError" = none) (hvT : bootBuiltins "ValueError" = some (.type "ValueError")) (ha : SE X e fa)
  (he:starEach [e,.Name "ValueError" p1] X.env=(false,eval e X.env)::starEach [.Name "ValueError" p1] X.env:=by rfl) (he2:starEach [.Name "ValueError" p1] X.env=(false,eval (.Name "ValueError" p1) X.env)::starEach [] X.env:=by rfl) (hpl:(backTo pos (starEach [.Name "ValueError" p1] X.env)).any (·.1)=false:=by rfl):
  SE X (.Call (.Name "isinstance" p) [e,.Name "ValueError" p1] [] pos) (c1 (isiX xs fun _=>true) fa):=
 (QbX Qhx hg hm hv (QbL ha (QbL (QaA (v:=.ty "ValueError") hgT hmT hvT rfl (by decide) (by decide)) QbK he2) he) (by decide) (by decide) he hpl).of fun σ H Q h_=>h_.el fun ρ l st lr sr q=>⟨ρ,l,st,lr,sr,q.bnd.imp fun d st1 ρ1 H1 x1 s1 q1 v rv=>by
  cases rv with
  | @exn a C' dx x' f' v' d' g hh h2 r=>
   obtain⟨hx,q2⟩:=q1.chk
   obtain⟨o,ho,hc,_⟩:=hh
   exact QhO B hx g ⟨o,ho,hc⟩ (.inl rfl) fun P h1 h2=>q2.ret s1 _ (.bl _)
  | @exn0 a C' x' g hh=>
   obtain⟨hx,q2⟩:=q1.chk
   exact QhO B hx g hh (.inl rfl) fun P h1 h2=>q2.ret s1 _ (.bl _)
  | _=>exact q1.elim⟩
end
noncomputable def keysB (es:Array DictEntry) (ns:List Str):Bool:=es.toList.all fun e=>match e.key with
 | .str n _ => !(ns.contains n)
 | _=>false
section
variable {K:Frag}{N:Addr}{es:Array DictEntry}{ns:List Str}{n:Str}{o:Value}{d:Option Addr}{ep:Nat}{sl:Array (Option Value)}
theorem QhQ (h:keysB es ns=true):StrKeys es:=fun e he=>by
 have:=List.all_eq_true.mp h e (Array.mem_toList_iff.mpr he)
 cases k:e.key with
 | str n t=>exact⟨n,t,rfl⟩
 | _=>rw[k]at this;cases this
theorem QhR (l:K.lookup N=some ⟨o,d,.dict es ep,sl⟩) (h:keysB es ns=true) (hn:n∈ns):nsIn K N n=some none:=by
 have a:∀ e∈es.toList,e.key.isStr n=false/\e.refKey=false:=fun e he=>by
  have:=List.all_eq_true.mp h e he
  obtain⟨hh,k,v⟩:=e
  cases k with
  | str m t=>
   have t1:(!(ns.contains m))=true:=this
   refine⟨?_,rfl⟩
   show (m == n)=false
   refine beq_eq_false_iff_ne.mpr fun z=>?_
   subst z
   rw[List.contains_iff_mem.mpr hn]at t1;cases t1
  | _=>cases this
 unfold nsIn
 rw[l]
 dsimp only
 rw[List.find?_eq_none.mpr fun e he=>by rw[(a e he).1];exact Bool.false_ne_true]
 dsimp only
 rw[if_neg]
 intro z
 obtain⟨e,he,t⟩:=List.any_eq_true.mp z
 rw[(a e he).2]at t;cases t
theorem QhS (l:K.lookup N=some ⟨o,d,.dict es ep,sl⟩) (h:keysB es ns=true):StrNs K N:=⟨_,_,_,_,_,l,QhQ h⟩
end
theorem QhT {K : Frag} {x f : Str} {C N P NP : Addr} {fs : List Str} {q q' : Str} {bs bs' : List Value} {sn sn' : List Str} {sub sub' : List Value} {ab ab' : Bool} {col col' : Option Bool} {dd dd' : Option Addr} {k0 k1 k2 k3 k5 k0' k1' k2' k3' k5' : Option Value}
  {o o':Value}{d d':Option Addr}{es es':Array DictEntry}{ep ep':Nat}{sl sl':Array (Option Value)}{ns:List Str}
  (g:nsIn K mainGlobals x=some (some (.ref C))) (l:K.lookup C=some (excClassObj x q C N bs (.ref P::vErr) true sn sub ab col dd k0 k1 k2 k3 k5 "ValueError.__new__")) (lN:K.lookup N=some ⟨o,d,.dict es ep,sl⟩) (h:keysB es ns=true) (kp:keepIn K (.ref C)=true)
  (g':nsIn K mainGlobals "PactError"=some (some (.ref P))) (l':K.lookup P=some (excClassObj "PactError" q' P NP bs' vErr true sn' sub' ab' col' dd' k0' k1' k2' k3' k5' "ValueError.__new__")) (lN':K.lookup NP=some ⟨o',d',.dict es' ep',sl'⟩) (h':keysB es' fs=true)
  (s1:∀ n∈([Str.ofString "__getattribute__",Str.ofString "__getattr__",Str.ofString "__setattr__",Str.ofString "__class__",f]:List Str),n∈ns:=by nofun)
  (s2:∀ n∈([Str.ofString "__getattribute__",Str.ofString "__getattr__",Str.ofString "__setattr__",Str.ofString "__class__",f,Str.ofString "__init__",Str.ofString "args"]:List Str),n∈fs:=by nofun):XF K x f C N P NP where
 gl:=g
 ob:=⟨_,_,_,_,_,_,_,_,_,_,_,_,l⟩
 obP:=⟨_,_,_,_,_,_,_,_,_,_,_,_,l'⟩
 glP:=g'
 sN:=QhS lN h
 sP:=QhS lN' h'
 nn:=fun n hn=>QhR lN h (s1 n hn)
 np:=fun n hn=>QhR lN' h' (s2 n hn)
 kp:=kp
end MM
namespace MM
open PySem
noncomputable def sv8 (m:Nat):List Nat:=(List.range 8).filter fun j=>m.testBit j
noncomputable def tb8 (led:Bool) (m:Nat):SetTable:=⟨7,(sv8 m).toArray,#[],0,led,0,true⟩
noncomputable def ix8 (m j:Nat):Nat:=(sv8 (m % 2 ^ j)).length
theorem QhU:∀ led:Bool,∀ m:Nat,m < 256->∀ j:Nat,j < 8->(tb8 led m).slot j=if m.testBit j=true then .live (ix8 m j) else .empty:=by nofun
noncomputable def prt (b:Nat):Nat->Nat
 | 0=>b
 | n + 1=>prt b n / 32
noncomputable def pos8 (b:Nat):Nat->Nat
 | 0=>b % 8
 | n + 1=>(pos8 b n * 5 + 1 + prt b (n + 1)) % 8
theorem QhV (b n:Nat):pos8 b n < 8:=by cases n<;>exact Nat.mod_lt _ (by decide)
noncomputable def pb8 (b n:Nat):SetTable.Probe:=⟨pos8 b n,0,pos8 b n,prt b n,none⟩
theorem run8 {i:Nat}:SetTable.runEnd 7 i - i=0:=by
 unfold SetTable.runEnd
 rw[if_neg (by ac_nf)];ac_nf
theorem QhW {led:Bool}{m b n:Nat}:(tb8 led m).advance (pb8 b n)=pb8 b (n + 1):=by
 show SetTable.Probe.mk _ (SetTable.runEnd 7 _ - _) _ _ _=_
 rw[run8];rfl
theorem go_ok {led : Bool} {m b N : Nat} {f : Nat -> Int} {h : Int} (hm : m < 256) (hN : m.testBit (pos8 b N) = false) : ∀ (d fuel n : Nat), N - n = d -> n <= N -> d < fuel ->
  ∃ k,n<=k/\k<=N/\(∀ i,n<=i->i < k->m.testBit (pos8 b i)=true/\f (ix8 m (pos8 b i))≠h) /\
   ((m.testBit (pos8 b k)=false/\SetTable.probe.go (tb8 led m) f h fuel (pb8 b n)=some (.empty (pos8 b k) none)) \/
    (m.testBit (pos8 b k)=true/\f (ix8 m (pos8 b k))=h/\SetTable.probe.go (tb8 led m) f h fuel (pb8 b n)=some (.candidate (pos8 b k) (ix8 m (pos8 b k)) (pb8 b (k + 1))))):=by
 intro d
 induction d with
 | zero=>
  intro fuel n e hn hf
  obtain rfl:n=N:=by ac_nf
  obtain⟨fl,rfl⟩:∃ fl,fuel=fl + 1:=⟨fuel - 1,by ac_nf⟩
  refine⟨n,Nat.le_refl _,Nat.le_refl _,fun i h1 h2=>by ac_nf,.inl ⟨hN,?_⟩⟩
  unfold SetTable.probe.go
  rw[show (pb8 b n).j=pos8 b n from rfl,QhU led m hm _ (QhV _ _),hN]
  rfl
 | succ d ih=>
  intro fuel n e hn hf
  obtain⟨fl,rfl⟩:∃ fl,fuel=fl + 1:=⟨fuel - 1,by ac_nf⟩
  cases ht:m.testBit (pos8 b n) with
  | false=>
   refine⟨n,Nat.le_refl _,hn,fun i h1 h2=>by ac_nf,.inl ⟨ht,?_⟩⟩
   unfold SetTable.probe.go
   rw[show (pb8 b n).j=pos8 b n from rfl,QhU led m hm _ (QhV _ _),ht]
   rfl
  | true=>
   by_cases hh:f (ix8 m (pos8 b n))=h
   ·refine⟨n,Nat.le_refl _,hn,fun i h1 h2=>by ac_nf,.inr ⟨ht,hh,?_⟩⟩
    unfold SetTable.probe.go
    rw[show (pb8 b n).j=pos8 b n from rfl,QhU led m hm _ (QhV _ _),ht,if_pos rfl]
    dsimp only
    rw[if_pos (by simpa using hh),QhW]
   ·obtain⟨k,h1,h2,h3,h4⟩:=ih fl (n + 1) (by ac_nf) (by ac_nf) (by ac_nf)
    refine⟨k,by ac_nf,h2,fun i i1 i2=>?_,?_⟩
    ·by_cases z:i=n
     ·subst z;exact⟨ht,hh⟩
     ·exact h3 i (by ac_nf) i2
    ·have eq : SetTable.probe.go (tb8 led m) f h (fl + 1) (pb8 b n) = SetTable.probe.go (tb8 led m) f h fl (pb8 b (n + 1)) := by
       rw[SetTable.probe.go]
       rw[show (pb8 b n).j=pos8 b n from rfl,QhU led m hm _ (QhV _ _),ht,if_pos rfl]
       dsimp only
       rw[if_neg (by simpa using hh),QhW]
     rw[eq];exact h4
open PySem.Spec PyProof.Rows L2
noncomputable def Kt (h h':Heap):Prop:=∀ c o,h.get? c=some o->o.cls=.type "tuple"->h'.get? c=some o
structure TKd (prog:Program) (w:World) (K:Type) [DecidableEq K] where
 is:Heap->K->Addr->Prop
 hash:K->Int
 draws:K->Nat
 keep:∀ {h h':Heap}{k:K}{b:Addr},Kt h h'->is h k b->is h' k b
 hashes:∀ {A:Around}{E:Value->Shared->Prop}{s:Shared}{k:K}{b:Addr}{Q:Int->Shared->Prop},A.units + 1 < cLine->is s.heap k b->Q (hash k) { s with toks:=s.toks + draws k }->wpAny (model prog w) A (pyHash (.ref b)) Q E s
 eqs:∀ {A:Around}{E:Value->Shared->Prop}{s:Shared}{x y:K}{a b:Addr}{Q:Bool->Shared->Prop},A.units + 1 < cLine->is s.heap x a->is s.heap y b->Q (decide (x=y)) s->wpAny (model prog w) A (eqBool (.ref a) (.ref b)) Q E s
 quiet:∀ {A:Around}{E:Value->Shared->Prop}{s:Shared}{k:K}{b:Addr}{Q:Bool->Shared->Prop},is s.heap k b->Q true s->wpAny (model prog w) A (eqIsQuiet 8 (.ref b)) Q E s
 cls:∀ {A:Around}{E:Value->Shared->Prop}{s:Shared}{k:K}{b:Addr}{Q:Bool->Shared->Prop},is s.heap k b->Q false s->wpAny (model prog w) A (ofAClassStatement 8 (.ref b)) Q E s
 byv:∀ {A:Around}{E:Value->Shared->Prop}{s:Shared}{k:K}{b:Addr}{Q:Bool->Shared->Prop},is s.heap k b->Q true s->wpAny (model prog w) A (hashByValue 8 (.ref b)) Q E s
section
variable {prog:Program}{w:World}{K:Type} [DecidableEq K] (T:TKd prog w K)
variable {T}
variable {A:Around}{E:Value->Shared->Prop}{s:Shared}{a:Addr}{led:Bool}{m:Nat}{key:Nat->K}{es:Array (Int × Value)}
end
section
variable {prog:Program}{w:World}{A:Around}{E:Value->Shared->Prop}{s:Shared}
theorem items_int {k:List Int}{vs:List Value} (h:ItemsAre (intKind prog w) k vs):∀ v∈vs,∃ i t,v=Value.int i t:=by
 induction h with
 | nil=>simp
 | cons h1 h2 ih=>
  intro v hv
  rcases List.mem_cons.mp hv with z | z
  ·subst z
   cases v with
   | int i t=>exact⟨i,t,rfl⟩
   | _=>exact nomatch h1
  ·exact ih v z
end
structure RF where
 n:Nat
 k:Nat
 ps:List Str
 kw:Bool
 g:List D->M D
structure RC where
 sc:Scope
 N:List Str
 k:Nat
 G:List (Str × RF)
 Z:List Str
 C:List (Str × D)
 H:List (Nat × Nat × Nat)
 top:Bool
noncomputable def RC.tag (c:RC) (p:Pos) (t:Nat):Bool:=c.H.contains (p.line,p.col,t)
noncomputable def RC.glo (c:RC) (x:Str):Bool:=c.sc.names.lookup x == some .globalImplicit
noncomputable def nokB (x:Str):Bool := !((x == ("__debug__":Str)) || (x == ("__classdict__":Str)) || decide (x=("__name__":Str)))
theorem QhX {x:Str} (h:nokB x=true):NameOk x:=nok (by unfold nokB at h;simpa only[Bool.not_eq_true'] using h)
structure GF (P:Program) (w:World) (K:PySem.W.Frag) (mg:Str->Option Value) (base:Heap) (x:Str) (r:RF):Prop where
 ex:∃ f fd,mg x=some (.ref f)/\FnOk P w K mg base CX0 r.k f fd r.ps (spOf K r.n r.g)/\PySem.W.keepIn K (.ref f)=true/\Binds K fd r.ps []/\(r.kw=true->KwBinds K fd r.ps)
structure Good (X:Cx) (c:RC):Prop where
 S:Sc X c.sc
 N:X.N=c.N
 nd:X.N.Nodup
 hr:Room c.k X.A
 G:∀ x r,c.G.lookup x=some r->GF X.prog X.w X.K X.mg X.base x r
 Z:∀ x,c.Z.contains x=true->X.mg x=none
 C:∀ x d,c.C.lookup x=some d->∃ v u,X.mg x=some u/\RelV v u/\∀ ρ H,Rep X.K ρ H v d
 ps:PassesOwn (model X.prog X.w) X.A X.env X.xe
 kd:c.top=true->X.env.blockKind=.function/\∀ x,X.env.kindOf x=c.sc.names.lookup x
theorem Good.hu {X:Cx}{c:RC} (g:Good X c):X.A.units + 60 < cLine:=QhI g.hr
structure Rec where
 e:RC->Expr->Option CE
 l:RC->Expr->Option CA
 t:RC->Expr->Option CT
 i:RC->Expr->Expr->Option CI
 g:RC->Expr->Option CG
 s:RC->Stmt->Option CS
structure RecOk (q:Rec):Prop where
 e:∀ {X c},Good X c->∀ {x r},q.e c x=some r->SE X x r
 l:∀ {X c},Good X c->∀ {x r},q.l c x=some r->SL X x r
 t:∀ {X c},Good X c->∀ {x r},q.t c x=some r->ST X x r
 i:∀ {X c},Good X c->∀ {tg x r},q.i c tg x=some r->SI X tg x r
 g:∀ {X c},Good X c->∀ {x r},q.g c x=some r->SG X x r
 s:∀ {X c},Good X c->∀ {x r},q.s c x=some r->SS X x r
structure RuE where
 f:Rec->RC->Expr->Option CE
 ok:∀ {q},RecOk q->∀ {X c},Good X c->∀ {x r},f q c x=some r->SE X x r
structure RuL where
 f:Rec->RC->Expr->Option CA
 ok:∀ {q},RecOk q->∀ {X c},Good X c->∀ {x r},f q c x=some r->SL X x r
structure RuT where
 f:Rec->RC->Expr->Option CT
 ok:∀ {q},RecOk q->∀ {X c},Good X c->∀ {x r},f q c x=some r->ST X x r
structure RuI where
 f:Rec->RC->Expr->Expr->Option CI
 ok:∀ {q},RecOk q->∀ {X c},Good X c->∀ {tg x r},f q c tg x=some r->SI X tg x r
structure RuG where
 f:Rec->RC->Expr->Option CG
 ok:∀ {q},RecOk q->∀ {X c},Good X c->∀ {x r},f q c x=some r->SG X x r
structure RuS where
 f:Rec->RC->Stmt->Option CS
 ok:∀ {q},RecOk q->∀ {X c},Good X c->∀ {x r},f q c x=some r->SS X x r
structure Rules where
 e:List RuE
 l:List RuL
 t:List RuT
 i:List RuI
 g:List RuG
 s:List RuS
noncomputable def fst1 {α β:Type} (f:α->Option β):List α->Option β
 | []=>none
 | a::as=>match f a with
  | some b=>some b
  | none=>fst1 f as
theorem QhY {α β:Type}{f:α->Option β}{r:β}:∀ {l:List α},fst1 f l=some r->∃ a,f a=some r
 | [],h=>nomatch h
 | a::as,h=>by
  unfold fst1 at h
  cases e:f a with
  | some b=>rw[e]at h;exact⟨a,by rw[e];exact h⟩
  | none=>rw[e]at h;exact QhY h
noncomputable def recN (R:Rules):Nat->Rec
 | 0=>⟨fun _ _=>none,fun _ _=>none,fun _ _=>none,fun _ _ _=>none,fun _ _=>none,fun _ _=>none⟩
 | n + 1 => ⟨fun c x => fst1 (fun r => r.f (recN R n) c x) R.e, fun c x => fst1 (fun r => r.f (recN R n) c x) R.l, fun c x => fst1 (fun r => r.f (recN R n) c x) R.t,
   fun c tg x=>fst1 (fun r=>r.f (recN R n) c tg x) R.i,fun c x=>fst1 (fun r=>r.f (recN R n) c x) R.g,fun c x=>fst1 (fun r=>r.f (recN R n) c x) R.s⟩
theorem QhZ (R:Rules):∀ n,RecOk (recN R n)
 | 0=>⟨fun _ _ _ h=>(nomatch h),fun _ _ _ h=>(nomatch h),fun _ _ _ h=>(nomatch h),fun _ _ _ _ h=>(nomatch h),fun _ _ _ h=>(nomatch h),fun _ _ _ h=>(nomatch h)⟩
 | n + 1=>by
  have ih:=QhZ R n
  exact⟨fun g _ _ h=>let ⟨a,q⟩:=QhY h;a.ok ih g q,fun g _ _ h=>let ⟨a,q⟩:=QhY h;a.ok ih g q,fun g _ _ h=>let ⟨a,q⟩:=QhY h;a.ok ih g q,
   fun g _ _ _ h=>let ⟨a,q⟩:=QhY h;a.ok ih g q,fun g _ _ h=>let ⟨a,q⟩:=QhY h;a.ok ih g q,fun g _ _ h=>let ⟨a,q⟩:=QhY h;a.ok ih g q⟩
noncomputable def plE:Expr->Bool
 | .Starred .. => false
 | _=>true
theorem Qh0 {e:Expr}{es:List Expr}{env:Env} (h:plE e=true):starEach (e::es) env=(false,eval e env)::starEach es env:=by
 cases e<;>first | rfl | exact nomatch h
theorem Qh1 {env:Env}{pos:Pos}:∀ {es:List Expr},es.all plE=true->(backTo pos (starEach es env)).any (·.1)=false
 | [],_=>rfl
 | e::es,h=>by
  rw[List.all_cons,Bool.and_eq_true]at h
  rw[Qh0 h.1]
  exact Qh1 h.2
theorem Qh2 {env:Env}{pos:Pos}:∀ {es:List Expr},es.all plE=true->(backTo pos (starEach es env)).all (fun x => !x.1)=true
 | [],_=>rfl
 | e::es,h=>by
  rw[List.all_cons,Bool.and_eq_true]at h
  rw[Qh0 h.1]
  exact Qh2 h.2
noncomputable def ncE:Expr->Bool
 | .ListComp .. => false
 | .SetComp .. => false
 | .DictComp .. => false
 | _=>true
theorem Qh3 {e:Expr}{t:Option Expr}{n:Nat}{env:Env} (h:ncE e=true):swapsWith e t n env=pure false:=by
 cases e<;>first | rfl | exact nomatch h
noncomputable def nsE:Expr->Bool
 | .Set .. => false
 | _=>true
theorem Qh4 {e:Expr}{env:Env} (h:nsE e=true) (x:Value):foldedSetIterable e env x=pure x:=by
 cases e<;>first | rfl | exact nomatch h
theorem Qh5 {op:CmpOp}{e:Expr} (h:nsE e=true):behindInMarks op e=false:=by
 cases e<;>first | rfl | exact nomatch h
noncomputable def baE:Expr->Bool
 | .Call _ [] _ _=>false
 | _=>true
theorem Qh6 {e:Expr}{x:Str}{env:Env}{w:Sem Value} (h:baE e=true):attributeBase e x env w=w:=by
 cases e with
 | Call f as ks p=>
  cases as with
  | nil=>exact nomatch h
  | cons a as=>unfold attributeBase;cases f<;>rfl
 | _=>rfl
noncomputable def slE:Expr->Bool
 | .Slice .. => false
 | _=>true
theorem plix {e:Expr} (h:slE e=true):PlainIx e:=by
 intro o i
 cases e<;>first | rfl | exact nomatch h
noncomputable def tvE:Expr->Bool
 | .Compare .. => false
 | .BoolOp .. => false
 | .UnaryOp .. => false
 | .IfExp .. => false
 | _=>true
theorem tv0 {e:Expr}{env:Env} (h:tvE e=true) (w:Sem Value):PySem.isTrue e env w=(do let v <- w;standAt e.pos;holding [v] (truthy v)):=by
 cases e<;>first | rfl | exact nomatch h
noncomputable def argC (q:Rec) (c:RC):List Expr->Option CA
 | []=>some cNil
 | e::es=>if plE e=true then (q.e c e).bind fun fa=>(argC q c es).bind fun ca=>some (cCons fa ca) else none
theorem Qh7 {q:Rec} (hq:RecOk q) {X:Cx}{c:RC} (g:Good X c):∀ {es:List Expr}{ca:CA},argC q c es=some ca->SA X es ca/\es.all plE=true/\∀ l st ds st',ca l st=.ok ds st'->ds.length=es.length
 | [],ca,h=>by
  cases h;exact⟨Qeu,rfl,QhG⟩
 | e::es,ca,h=>by
  unfold argC at h
  rw[Option.ite_none_right_eq_some]at h
  obtain⟨hp,h⟩:=h
  rw[Option.bind_eq_some_iff]at h
  obtain⟨fa,ha,h⟩:=h
  rw[Option.bind_eq_some_iff]at h
  obtain⟨cb,hb,h⟩:=h
  cases h
  obtain⟨x,y,z⟩:=Qh7 hq g hb
  exact⟨Qev (hq.e g ha) x (Qh0 hp),by rw[List.all_cons,hp,y];rfl,QhF z⟩
noncomputable def optC (q:Rec) (c:RC):Option Expr->Option CO
 | none=>some oNone
 | some e=>(q.e c e).bind fun f=>some (oSome f)
theorem Qh8 {q:Rec} (hq:RecOk q) {X:Cx}{c:RC} (g:Good X c) {e:Option Expr}{f:CO} (h:optC q c e=some f):SO X e f:=by
 cases e with
 | none=>cases h;exact Qf0
 | some e=>
  unfold optC at h
  rw[Option.bind_eq_some_iff]at h
  obtain⟨fa,ha,h⟩:=h
  cases h
  exact Qf1 (hq.e g ha)
noncomputable def blkC (q:Rec) (c:RC):List Stmt->Option CS
 | []=>some sNext
 | s::ss=>(q.s c s).bind fun a=>(blkC q c ss).bind fun b=>some (sSeq a b)
theorem Qh9 {q:Rec} (hq:RecOk q) {X:Cx}{c:RC} (g:Good X c):∀ {ss:List Stmt}{f:CS},blkC q c ss=some f->SSs X ss f
 | [],f,h=>by cases h;exact QeY
 | s::ss,f,h=>by
  unfold blkC at h
  rw[Option.bind_eq_some_iff]at h
  obtain⟨fa,ha,h⟩:=h
  rw[Option.bind_eq_some_iff]at h
  obtain⟨cb,hb,h⟩:=h
  cases h
  exact QeZ (hq.s g ha) (Qh9 hq g hb)
noncomputable def varC (c:RC) (x:Str):Option Nat:=if c.N[c.N.idxOf x]?=some x/\(c.sc.names.lookup x=some .local\/c.sc.names.lookup x=some .cell\/c.sc.names.lookup x=some .free)/\nokB x=true then some (c.N.idxOf x) else none
noncomputable def rVar:RuE:=⟨fun _ c e=>match e with
 | .Name x _=>(varC c x).bind fun i=>some (cVar i)
 | _=>none,fun {q} hq {X c} g {e r} h=>by
 split at h
 ·rename_i x p
  rw[Option.bind_eq_some_iff]at h
  obtain⟨i,hi,h⟩:=h
  cases h
  unfold varC at hi
  rw[Option.ite_none_right_eq_some]at hi
  obtain⟨⟨h1,h2,h3⟩,h4⟩:=hi
  cases h4
  have h1:X.N[c.N.idxOf x]?=some x:=by rw[g.N];exact h1
  rcases h2 with h2 | h2 | h2
  ·exact QhC g.S _ h1 h2 (QhX h3) (.inl rfl)
  ·exact QhC g.S _ h1 h2 (QhX h3) (.inr (.inl rfl))
  ·exact QhC g.S _ h1 h2 (QhX h3) (.inr (.inr rfl))
 ·cases h⟩
noncomputable def rInt:RuE:=⟨fun _ _ e=>match e with
 | .Constant (.int i) _ _=>some (cCon (.int i))
 | _=>none,fun {q} hq {X c} g {e r} h=>by
 split at h
 ·cases h;exact Qdu
 ·cases h⟩
noncomputable def rStr:RuE:=⟨fun _ _ e=>match e with
 | .Constant (.str i) _ _=>some (cCon (.str i))
 | _=>none,fun {q} hq {X c} g {e r} h=>by
 split at h
 ·cases h;exact Qdx
 ·cases h⟩
noncomputable def rBl:RuE:=⟨fun _ _ e=>match e with
 | .Constant (.bool i) _ _=>some (cCon (.bl i))
 | _=>none,fun {q} hq {X c} g {e r} h=>by
 split at h
 ·cases h;exact Qdv
 ·cases h⟩
noncomputable def rNon:RuE:=⟨fun _ _ e=>match e with
 | .Constant .none _ _=>some (cCon .non)
 | _=>none,fun {q} hq {X c} g {e r} h=>by
 split at h
 ·cases h;exact Qdw
 ·cases h⟩
noncomputable def rKeep:RuE:=⟨fun q c e=>(q.l c e).bind fun a=>some (cKeep a),fun {q} hq {X c} g {e r} h=>by
 rw[Option.bind_eq_some_iff]at h
 obtain⟨a,ha,h⟩:=h
 cases h
 exact Qey (hq.l g ha)⟩
noncomputable abbrev OpU (op:Operator) (f:D->D->M D):Prop:=∀ {X:Cx},X.A.units + 60 < cLine->OpR X (binaryOp op) (rOf X.K f)
noncomputable abbrev CmU (op:CmpOp) (f:D->D->M D):Prop:=∀ {X:Cx},X.A.units + 60 < cLine->OpR X (compareOp op) (rOf X.K f)
noncomputable def rOp (o:Operator) (f:D->D->M D) (h:OpU o f):RuE:=⟨fun q c e=>match e with
 | .BinOp a op b _=>if op=o then (q.e c a).bind fun fa=>(q.e c b).bind fun fb=>some (c2 f fa fb) else none
 | _=>none,fun {q} hq {X c} g {e r} z=>by
 split at z
 ·simp only[Option.ite_none_right_eq_some,Option.bind_eq_some_iff]at z
  obtain⟨rfl,fa,ha,fb,hb,z⟩:=z
  cases z
  exact Qdz (h g.hu) (hq.e g ha) (hq.e g hb)
 ·cases z⟩
structure RuC where
 f:Rec->RC->Expr->Option CE
 ok:∀ {q},RecOk q->∀ {X c},Good X c->∀ {x r},f q c x=some r->SE X x r/\ST X x (tCmpB r)
noncomputable def RuC.e (r:RuC):RuE:=⟨r.f,fun hq _ _ g _ _ h=>(r.ok hq g h).1⟩
noncomputable def RuC.t (r:RuC):RuT:=⟨fun q c e=>(r.f q c e).bind fun f=>some (tCmpB f),fun {q} hq {X c} g {e x} h=>by
 rw[Option.bind_eq_some_iff]at h
 obtain⟨f,hf,h⟩:=h
 cases h
 exact (r.ok hq g hf).2⟩
noncomputable def rCmp (o:CmpOp) (f:D->D->M D) (h:CmU o f):RuC:=⟨fun q c e=>match e with
 | .Compare a [op] [b] _=>if op=o/\nsE b=true then (q.e c a).bind fun fa=>(q.e c b).bind fun fb=>some (c2 f fa fb) else none
 | _=>none,fun {q} hq {X c} g {e r} z=>by
 split at z
 ·simp only[Option.ite_none_right_eq_some,Option.bind_eq_some_iff]at z
  obtain⟨⟨rfl,hb0⟩,fa,ha,fb,hb,z⟩:=z
  cases z
  exact⟨QdA (h g.hu) (hq.e g ha) (hq.e g hb) (Qh5 hb0),QeH (h g.hu) (hq.e g ha) (hq.e g hb) (Qh5 hb0)⟩
 ·cases z⟩
noncomputable def rCmpH (t:Nat) (o:CmpOp) (f:D->D->M D) (h:CmU o f):RuC:=⟨fun q c e=>match e with
 | .Compare a [op] [b] p=>if c.tag p t=true then (rCmp o f h).f q c (.Compare a [op] [b] p) else none
 | _=>none,fun {q} hq {X c} g {e r} z=>by
 split at z
 ·rw[Option.ite_none_right_eq_some]at z
  exact (rCmp o f h).ok hq g z.2
 ·cases z⟩
noncomputable def rChain (o:CmpOp) (f:D->D->M D) (h:CmU o f) (o':CmpOp) (f':D->D->M D) (h':CmU o' f'):RuC:=⟨fun q c e=>match e with
 | .Compare a [op,op'] [b,d] _=>if op=o/\op'=o'/\nsE d=true then (q.e c a).bind fun fa=>(q.e c b).bind fun fb=>(q.e c d).bind fun fc=>some (cChain f f' fa fb fc) else none
 | _=>none,fun {q} hq {X c} g {e r} z=>by
 split at z
 ·simp only[Option.ite_none_right_eq_some,Option.bind_eq_some_iff]at z
  obtain⟨⟨rfl,rfl,hb0⟩,fa,ha,fb,hb,fc,hc,z⟩:=z
  cases z
  exact⟨QeS (h g.hu) (h' g.hu) (hq.e g ha) (hq.e g hb) (hq.e g hc) (show behindInMarks _ _=false from Qh5 hb0),QeT (h g.hu) (h' g.hu) (hq.e g ha) (hq.e g hb) (hq.e g hc) (show behindInMarks _ _=false from Qh5 hb0)⟩
 ·cases z⟩
noncomputable def rAnd:RuE:=⟨fun q c e=>match e with
 | .BoolOp .And [a,b] _=>(q.e c a).bind fun fa=>(q.e c b).bind fun fb=>some (cAnd fa fb)
 | .BoolOp .And (a::b::d::r) p=>(q.e c a).bind fun fa=>(q.e c (.BoolOp .And (b::d::r) p)).bind fun fb=>some (cAnd fa fb)
 | _=>none,fun {q} hq {X c} g {e r} z=>by
 split at z
 ·simp only[Option.bind_eq_some_iff]at z
  obtain⟨fa,ha,fb,hb,z⟩:=z
  cases z
  exact QeO (hq.e g ha) (QeN (hq.e g hb))
 ·simp only[Option.bind_eq_some_iff]at z
  obtain⟨fa,ha,fb,hb,z⟩:=z
  cases z
  exact QeO (hq.e g ha) (hq.e g hb)
 ·cases z⟩
noncomputable def rNot:RuE:=⟨fun q c e=>match e with
 | .UnaryOp .Not a _=>(q.e c a).bind fun fa=>some (cNot fa)
 | _=>none,fun {q} hq {X c} g {e r} z=>by
 split at z
 ·simp only[Option.bind_eq_some_iff]at z
  obtain⟨fa,ha,z⟩:=z
  cases z
  exact QeP (hq.e g ha)
 ·cases z⟩
noncomputable def rIfE:RuE:=⟨fun q c e=>match e with
 | .IfExp t a b _=>(q.t c t).bind fun ft=>(q.e c a).bind fun fa=>(q.e c b).bind fun fb=>some (cIfE ft fa fb)
 | _=>none,fun {q} hq {X c} g {e r} z=>by
 split at z
 ·simp only[Option.bind_eq_some_iff]at z
  obtain⟨ft,ht,fa,ha,fb,hb,z⟩:=z
  cases z
  exact QeQ (hq.t g ht) (hq.e g ha) (hq.e g hb)
 ·cases z⟩
noncomputable def rTup:RuE:=⟨fun q c e=>match e with
 | .Tuple es _ _=>(argC q c es).bind fun ca=>some (cTup ca)
 | _=>none,fun {q} hq {X c} g {e r} z=>by
 split at z
 ·simp only[Option.bind_eq_some_iff]at z
  obtain⟨ca,ha,z⟩:=z
  cases z
  exact Qew (Qh7 hq g ha).1
 ·cases z⟩
noncomputable def rTmpSub:RuE:=⟨fun q c e=>match e with
 | .Subscript a b _=>if slE b=true then (q.l c a).bind fun fa=>(q.e c b).bind fun fb=>some (cTmpSub fa fb) else none
 | _=>none,fun {q} hq {X c} g {e r} z=>by
 split at z
 ·simp only[Option.ite_none_right_eq_some,Option.bind_eq_some_iff]at z
  obtain⟨hs,fa,ha,fb,hb,z⟩:=z
  cases z
  exact QeD (hq.l g ha) (hq.e g hb) (plix hs)
 ·cases z⟩
noncomputable def rSub:RuE:=⟨fun q c e=>match e with
 | .Subscript a b _=>if slE b=true then (q.e c a).bind fun fa=>(q.e c b).bind fun fb=>some (c2 subsD fa fb) else none
 | _=>none,fun {q} hq {X c} g {e r} z=>by
 split at z
 ·simp only[Option.ite_none_right_eq_some,Option.bind_eq_some_iff]at z
  obtain⟨hs,fa,ha,fb,hb,z⟩:=z
  cases z
  exact QeC g.hu (hq.e g ha) (hq.e g hb) (plix hs)
 ·cases z⟩
noncomputable def rDNew:RuE:=⟨fun q c e=>match e with
 | .Dict [] [] p=>some (cDNew (c.tag p 2))
 | _=>none,fun {q} hq {X c} g {e r} z=>by
 split at z
 ·cases z
  rename_i p
  cases c.tag p 2
  ·exact Qgp
  ·exact Qgr
 ·cases z⟩
noncomputable def dspC (q:Rec) (c:RC):List (Option Expr)->List Expr->Option (List Key × CA)
 | [],[]=>some ([],cNil)
 | some (.Constant (.str x) _ _)::ks,v::vs=>(q.e c v).bind fun fa=>(dspC q c ks vs).bind fun p=>some (.inr x::p.1,cCons fa p.2)
 | _,_=>none
theorem Qia {q:Rec} (hq:RecOk q) {X:Cx}{c:RC} (g:Good X c) {pos:Pos}:∀ {ks:List (Option Expr)}{vs:List Expr}{p:List Key × CA},dspC q c ks vs=some p->SDs X pos ks vs p.1 p.2/\ks.all (·.isSome)=true/\ks.length=vs.length/\p.1.length=ks.length
 | [],[],p,h=>by cases h;exact⟨Qgs,rfl,rfl,rfl⟩
 | [],_::_,p,h=>nomatch h
 | none::_,[],p,h=>nomatch h
 | none::_,_::_,p,h=>nomatch h
 | some k::ks,[],p,h=>by unfold dspC at h;split at h<;>simp_all
 | some k::ks,v::vs,p,h=>by
  unfold dspC at h
  split at h
  ·simp_all
  ·rename_i h1 h2
   injection h1 with h1 h1'
   injection h1 with h1
   injection h2 with h2 h2'
   subst h1 h1' h2 h2'
   simp only[Option.bind_eq_some_iff]at h
   obtain⟨fa,ha,p',hp,h⟩:=h
   cases h
   obtain⟨a,b,d,e⟩:=Qia hq g (pos:=pos) hp
   exact⟨Qgt (hq.e g ha) a,by rw[List.all_cons,b];rfl,by simp[d],by simp[e]⟩
  ·cases h
noncomputable def rDisp:RuE:=⟨fun q c e=>match e with
 | .Dict (k::ks) vs _=>if ks.length<=14 then (dspC q c (k::ks) vs).bind fun p=>some (cDisp (p.1.map keyD) p.2) else none
 | _=>none,fun {q} hq {X c} g {e r} z=>by
 split at z
 ·simp only[Option.ite_none_right_eq_some,Option.bind_eq_some_iff]at z
  obtain⟨hl,p,hp,z⟩:=z
  cases z
  obtain⟨a,b,d,e⟩:=Qia hq g hp
  exact Qgu a b d (fun z=>nomatch z) (Nat.succ_le_succ hl) (by rw[e];exact Nat.succ_le_succ hl)
 ·cases z⟩
noncomputable def meth0 (x:String) (f:CE->CE) (h:∀ {X:Cx}{o:Expr}{fa:CE}{apos cpos:Pos},SE X o fa->attributeBase o (Str.ofString x) X.env (eval o X.env)=eval o X.env->(apos.endLine == cpos.line)=true->SE X (.Call (.Attribute o (Str.ofString x) apos) [] [] cpos) (f fa)):RuE:=
 ⟨fun q c e=>match e with
 | .Call (.Attribute o y ap) [] [] cp=>if y=Str.ofString x/\baE o=true/\(ap.endLine == cp.line)=true then (q.e c o).bind fun fa=>some (f fa) else none
 | _=>none,fun {q} hq {X c} g {e r} z=>by
 split at z
 ·simp only[Option.ite_none_right_eq_some,Option.bind_eq_some_iff]at z
  obtain⟨⟨rfl,hb,hl⟩,fa,ha,z⟩:=z
  cases z
  exact h (hq.e g ha) (Qh6 hb) hl
 ·cases z⟩
noncomputable abbrev Few (X:Cx) (cpos:Pos) (es:List Expr):Prop:=((backTo cpos (starEach es X.env)).all (fun x => !x.1) && (backToKw cpos (keywordEach [] X.env)).all (fun x=>x.1.isSome) && decide (es.length + ([]:List Keyword).length + (if ([]:List Keyword).isEmpty then 0 else 1) < 30))=true
theorem few1 {X:Cx}{cpos:Pos}{es:List Expr} (h:es.all plE=true) (hl:es.length < 30):Few X cpos es:=by
 unfold Few
 rw[Qh2 h]
 exact (Bool.and_eq_true _ _).mpr ⟨rfl,decide_eq_true hl⟩
noncomputable def meth1 (x : String) (f : CE -> CE -> CE) (ok : RC -> Pos -> Bool) (h : ∀ {X : Cx} {o e : Expr} {fa fb : CE} {apos cpos : Pos}, X.A.units + 60 < cLine -> SE X o fa -> SE X e fb -> attributeBase o (Str.ofString x) X.env (eval o X.env) = eval o X.env -> Few X cpos [e] -> (apos.endLine == cpos.line) = true ->
  starEach [e] X.env=(false,eval e X.env)::starEach [] X.env->(backTo cpos (starEach [] X.env)).any (·.1)=false->SE X (.Call (.Attribute o (Str.ofString x) apos) [e] [] cpos) (f fa fb)):RuE:=
 ⟨fun q c e=>match e with
 | .Call (.Attribute o y ap) [a] [] cp=>if y=Str.ofString x/\baE o=true/\plE a=true/\ok c cp=true/\(ap.endLine == cp.line)=true then (q.e c o).bind fun fa=>(q.e c a).bind fun fb=>some (f fa fb) else none
 | _=>none,fun {q} hq {X c} g {e r} z=>by
 split at z
 ·simp only[Option.ite_none_right_eq_some,Option.bind_eq_some_iff]at z
  obtain⟨⟨rfl,hb,hp,_,hl⟩,fa,ha,fb,hb',z⟩:=z
  cases z
  exact h g.hu (hq.e g ha) (hq.e g hb') (Qh6 hb) (few1 (by simp[hp]) (by simp)) hl (Qh0 hp) rfl
 ·cases z⟩
noncomputable def meth2 (x : String) (f : CE -> CE -> CE -> CE) (h : ∀ {X : Cx} {o e1 e2 : Expr} {fa fb fc : CE} {apos cpos : Pos}, X.A.units + 60 < cLine -> SE X o fa -> SE X e1 fb -> SE X e2 fc -> attributeBase o (Str.ofString x) X.env (eval o X.env) = eval o X.env -> Few X cpos [e1, e2] -> (apos.endLine == cpos.line) = true ->
  starEach [e1,e2] X.env=(false,eval e1 X.env)::starEach [e2] X.env->starEach [e2] X.env=(false,eval e2 X.env)::starEach [] X.env->(backTo cpos (starEach [e2] X.env)).any (·.1)=false->SE X (.Call (.Attribute o (Str.ofString x) apos) [e1,e2] [] cpos) (f fa fb fc)):RuE:=
 ⟨fun q c e=>match e with
 | .Call (.Attribute o y ap) [a,b] [] cp=>if y=Str.ofString x/\baE o=true/\plE a=true/\plE b=true/\(ap.endLine == cp.line)=true then (q.e c o).bind fun fa=>(q.e c a).bind fun fb=>(q.e c b).bind fun fc=>some (f fa fb fc) else none
 | _=>none,fun {q} hq {X c} g {e r} z=>by
 split at z
 ·simp only[Option.ite_none_right_eq_some,Option.bind_eq_some_iff]at z
  obtain⟨⟨rfl,hb,hp,hp2,hl⟩,fa,ha,fb,hb',fc,hc,z⟩:=z
  cases z
  exact h g.hu (hq.e g ha) (hq.e g hb') (hq.e g hc) (Qh6 hb) (few1 (by simp[hp,hp2]) (by simp)) hl (Qh0 hp) (Qh0 hp2) (Qh1 (by simp[hp2]))
 ·cases z⟩
noncomputable def rCall:RuE:=⟨fun q c e=>match e with
 | .Call (.Name x _) (a::as) [] _=>(c.G.lookup x).bind fun r=>if c.glo x=true/\nokB x=true/\r.k<=c.k/\r.n=(a::as).length then (argC q c (a::as)).bind fun ca=>some (cCall r.g ca) else none
 | _=>none,fun {q} hq {X c} g {e r} z=>by
 split at z
 ·simp only[Option.ite_none_right_eq_some,Option.bind_eq_some_iff]at z
  obtain⟨rf,hf,⟨h1,h2,h3,h4⟩,ca,ha,z⟩:=z
  cases z
  obtain⟨f,fd,m,F,kp,B,_⟩:=(g.G _ _ hf).ex
  obtain⟨x,y,l⟩:=Qh7 hq g ha
  rw[List.all_cons,Bool.and_eq_true]at y
  exact QhH g.S (beq_iff_eq.mp h1) F (g.hr.mono h3) m kp B (QhX h2) x (by rw[h4];exact l) (Qh0 y.1) (Qh1 y.2)
 ·cases z⟩
noncomputable def RC.bl (c:RC) (x:Str):Bool:=c.glo x && c.Z.contains x
theorem Good.gl {X:Cx}{c:RC} (g:Good X c) {x:Str} (h:c.bl x=true):Gl X x/\X.mg x=none:=by
 unfold RC.bl at h
 rw[Bool.and_eq_true]at h
 exact⟨g.S.glo _ (beq_iff_eq.mp h.1),g.Z _ h.2⟩
noncomputable def bltTmp (x:String) (f:List D->M D) (h:∀ {X:Cx}{e:Expr}{ca:CA}{p pos:Pos},X.calm=true->Gl X (Str.ofString x)->X.mg (Str.ofString x)=none->SL X e ca->starEach [e] X.env=[(false,eval e X.env)]->SE X (.Call (.Name (Str.ofString x) p) [e] [] pos) (cTmp f ca)):RuE:=
 ⟨fun q c e=>match e with
 | .Call (.Name y _) [a] [] _=>if y=Str.ofString x/\c.bl y=true/\plE a=true then (q.l c a).bind fun fa=>some (cTmp f fa) else none
 | _=>none,fun {q} hq {X c} g {e r} z=>by
 split at z
 ·simp only[Option.ite_none_right_eq_some,Option.bind_eq_some_iff]at z
  obtain⟨⟨rfl,hb,hp⟩,fa,ha,z⟩:=z
  cases z
  exact h g.S.calm (g.gl hb).1 (g.gl hb).2 (hq.l g ha) (Qh0 hp)
 ·cases z⟩
noncomputable def blt1 (x:String) (ok:RC->Pos->Bool) (f:D->M D) (h:∀ {X:Cx}{e:Expr}{fa:CE}{p pos:Pos},X.calm=true->Gl X (Str.ofString x)->X.mg (Str.ofString x)=none->SE X e fa->starEach [e] X.env=[(false,eval e X.env)]->SE X (.Call (.Name (Str.ofString x) p) [e] [] pos) (c1 f fa)):RuE:=
 ⟨fun q c e=>match e with
 | .Call (.Name y _) [a] [] p=>if y=Str.ofString x/\c.bl y=true/\plE a=true/\ok c p=true then (q.e c a).bind fun fa=>some (c1 f fa) else none
 | _=>none,fun {q} hq {X c} g {e r} z=>by
 split at z
 ·simp only[Option.ite_none_right_eq_some,Option.bind_eq_some_iff]at z
  obtain⟨⟨rfl,hb,hp,_⟩,fa,ha,z⟩:=z
  cases z
  exact h g.S.calm (g.gl hb).1 (g.gl hb).2 (hq.e g ha) (Qh0 hp)
 ·cases z⟩
noncomputable def blt2 (x : String) (f : D -> D -> M D) (h : ∀ {X : Cx} {a b : Expr} {fa fb : CE} {p pos : Pos}, X.calm = true -> Gl X (Str.ofString x) -> X.mg (Str.ofString x) = none -> SE X a fa -> SE X b fb -> starEach [a, b] X.env = (false, eval a X.env) :: starEach [b] X.env -> starEach [b] X.env = (false, eval b X.env) :: starEach [] X.env ->
  (backTo pos (starEach [b] X.env)).any (·.1)=false->SE X (.Call (.Name (Str.ofString x) p) [a,b] [] pos) (c2 f fa fb)):RuE:=
 ⟨fun q c e=>match e with
 | .Call (.Name y _) [a,b] [] p=>if y=Str.ofString x/\c.bl y=true/\plE a=true/\plE b=true then (q.e c a).bind fun fa=>(q.e c b).bind fun fb=>some (c2 f fa fb) else none
 | _=>none,fun {q} hq {X c} g {e r} z=>by
 split at z
 ·simp only[Option.ite_none_right_eq_some,Option.bind_eq_some_iff]at z
  obtain⟨⟨rfl,hb,hp,hp2⟩,fa,ha,fb,hb',z⟩:=z
  cases z
  exact h g.S.calm (g.gl hb).1 (g.gl hb).2 (hq.e g ha) (hq.e g hb') (Qh0 hp) (Qh0 hp2) (Qh1 (by simp[hp2]))
 ·cases z⟩
noncomputable def rIsi (y:String) (T:TyTab y) (h:bootBuiltins (Str.ofString y)=some (.type y)) (n1:Str.ofString y≠Str.ofString "__name__") (n2:(Str.ofString y == Str.ofString "__debug__")=false):RuE:=
 ⟨fun q c e=>match e with
 | .Call (.Name z _) [a,.Name x _] [] p=>if z=Str.ofString "isinstance"/\x=Str.ofString y/\c.bl z=true/\c.bl x=true/\plE a=true then (q.e c a).bind fun fa=>some (c1 (isInst [y]) fa) else none
 | _=>none,fun {q} hq {X c} g {e r} z=>by
 split at z
 ·simp only[Option.ite_none_right_eq_some,Option.bind_eq_some_iff]at z
  obtain⟨⟨rfl,rfl,hb,hb2,hp⟩,fa,ha,z⟩:=z
  cases z
  exact QfM T (g.gl hb).1 (g.gl hb).2 (g.gl hb2).1 (g.gl hb2).2 h (hq.e g ha) (by nofun) n1 n2 (Qh0 hp) rfl rfl
 ·cases z⟩
section
noncomputable def lLst:RuL:=⟨fun q c e=>match e with
 | .List es _=>(argC q c es).bind fun ca=>some (aDisp ca)
 | _=>none,fun {q} hq {X c} g {e r} z=>by
 split at z
 ·simp only[Option.bind_eq_some_iff]at z
  obtain⟨ca,ha,z⟩:=z
  cases z
  exact Qex (Qh7 hq g ha).1
 ·cases z⟩
noncomputable def lSlice:RuL:=⟨fun q c e=>match e with
 | .Subscript a (.Slice lo hi none _) p=>if c.tag p 1=false then (q.e c a).bind fun fa=>(optC q c lo).bind fun fl=>(optC q c hi).bind fun fh=>some (aSlice fa fl fh) else none
 | _=>none,fun {q} hq {X c} g {e r} z=>by
 split at z
 ·simp only[Option.ite_none_right_eq_some,Option.bind_eq_some_iff]at z
  obtain⟨_,fa,ha,fl,hl,fh,hh,z⟩:=z
  cases z
  exact Qf2 (hq.e g ha) (Qh8 hq g hl) (Qh8 hq g hh)
 ·cases z⟩
noncomputable def lRev:RuL:=⟨fun q c e=>match e with
 | .Call (.Name x _) [.Call (.Name y _) [a] [] _] [] _=>if x=Str.ofString "list"/\y=Str.ofString "reversed"/\c.bl x=true/\c.bl y=true/\plE a=true then (q.l c a).bind fun fa=>some (aRev fa) else none
 | _=>none,fun {q} hq {X c} g {e r} z=>by
 split at z
 ·simp only[Option.ite_none_right_eq_some,Option.bind_eq_some_iff]at z
  obtain⟨⟨rfl,rfl,h1,h2,hp⟩,fa,ha,z⟩:=z
  cases z
  exact Qgo g.S.calm (g.gl h1).1 (g.gl h1).2 (by nofun) (g.gl h2).1 (g.gl h2).2 (by nofun) (hq.l g ha) (Qh0 hp) rfl
 ·cases z⟩
noncomputable def tgN:Nat->Expr->List Str
 | _,.Name x _=>[x]
 | n + 1,.Tuple es _ _=>es.flatMap (tgN n)
 | _,_=>[]
noncomputable def ifsC (q:Rec) (c:RC):List Expr->Option CT
 | []=>some tTrue
 | [t]=>q.t c t
 | _=>none
theorem Qib {q:Rec} (hq:RecOk q) {X:Cx}{c:RC} (g:Good X c) {es:List Expr}{f:CT} (h:ifsC q c es=some f):SIfs X es f:=by
 unfold ifsC at h
 split at h
 ·cases h;exact Qfj
 ·exact Qfk (hq.t g h)
 ·cases h
noncomputable def RC.inn (c:RC) (sc:Scope) (own:List Str):RC:={ c with sc:=sc,N:=own++c.N.filter fun x=>sc.names.lookup x == some .free,top:=false }
noncomputable def RC.ix (c:RC) (sc:Scope):List Nat:=(c.N.filter fun x=>sc.names.lookup x == some .free).map c.N.idxOf
noncomputable def RC.cok (c:RC) (sc:Scope) (own:List Str) (b:Expr):Prop:=compChk c.sc sc=true/\namesChk c.N sc (c.inn sc own).N own.length (c.ix sc)=true/\(c.inn sc own).N.Nodup/\nsE b=true
noncomputable instance (c:RC) (sc:Scope) (own:List Str) (b:Expr):Decidable (c.cok sc own b):=by unfold RC.cok;infer_instance
theorem Good.inn {X:Cx}{c:RC} (g:Good X c) {sc:Scope}{own:List Str}{b:Expr} (h:c.cok sc own b) (fp:List Addr) (s:Shared) (H:Hp):Good (cxC X (c.inn sc own).N sc fp s H) (c.inn sc own):=
 ⟨Qhz g.S.calm,rfl,h.2.2.1,g.hr,fun x r z=>⟨(g.G x r z).ex⟩,g.Z,g.C,PassesOwn.never,fun z=>nomatch z⟩
noncomputable def cmpC (q:Rec) (c:RC):Expr->Option (Nat × List Nat × CI × CG × CT × CE)
 | .ListComp e [⟨tg,b,ifs,0⟩] sc _=>
  if c.cok sc (tgN 8 tg).eraseDups b then
   (q.i c tg b).bind fun ci=>(q.g (c.inn sc (tgN 8 tg).eraseDups) tg).bind fun g=>(ifsC q (c.inn sc (tgN 8 tg).eraseDups) ifs).bind fun t=>(q.e (c.inn sc (tgN 8 tg).eraseDups) e).bind fun f=>
    some ((tgN 8 tg).eraseDups.length,c.ix sc,ci,g,t,f)
  else none
 | _=>none
noncomputable def lComp:RuL:=⟨fun q c e=>(cmpC q c e).bind fun p=>some (aComp p.1 p.2.1 p.2.2.1 p.2.2.2.1 p.2.2.2.2.1 p.2.2.2.2.2),fun {q} hq {X c} g {e r} z=>by
 rw[Option.bind_eq_some_iff]at z
 obtain⟨p,hp,z⟩:=z
 cases z
 unfold cmpC at hp
 split at hp
 ·simp only[Option.ite_none_right_eq_some,Option.bind_eq_some_iff]at hp
  obtain⟨hk,ci,hi,gg,hg,t,ht,f,hf,z⟩:=hp
  cases z
  exact Qfm g.S.calm (QhA g.S hk.1) (QhB g.N hk.2.1) (hq.i g hi) (fun fp s H=>⟨hq.g (g.inn hk fp s H) hg,Qib hq (g.inn hk fp s H) ht,hq.e (g.inn hk fp s H) hf⟩) (Qh4 hk.2.2.2)
 ·cases hp⟩
noncomputable def tAnds (q:Rec) (c:RC):List Expr->Option CT
 | []=>none
 | [a]=>q.t c a
 | a::b::r=>(q.t c a).bind fun fa=>(tAnds q c (b::r)).bind fun fb=>some (tAndB fa fb)
theorem Qic {q:Rec} (hq:RecOk q) {X:Cx}{c:RC} (g:Good X c) {pos:Pos}:∀ {es:List Expr}{f:CT},tAnds q c es=some f->PW X (.BoolOp .And es pos) (ttOf X.K f)
 | [],f,h=>nomatch h
 | [a],f,h=>QeI (hq.t g h)
 | a::b::r,f,h=>by
  unfold tAnds at h
  simp only[Option.bind_eq_some_iff]at h
  obtain⟨fa,ha,fb,hb,z⟩:=h
  cases z
  exact QeK (hq.t g ha) (Qic hq g hb)
noncomputable def tOrs (q:Rec) (c:RC):List Expr->Option CT
 | []=>none
 | [a]=>q.t c a
 | a::b::r=>(q.t c a).bind fun fa=>(tOrs q c (b::r)).bind fun fb=>some (tOrB fa fb)
theorem Qid {q:Rec} (hq:RecOk q) {X:Cx}{c:RC} (g:Good X c) {pos:Pos}:∀ {es:List Expr}{f:CT},tOrs q c es=some f->PW X (.BoolOp .Or es pos) (ttOf X.K f)
 | [],f,h=>nomatch h
 | [a],f,h=>QeJ (hq.t g h)
 | a::b::r,f,h=>by
  unfold tOrs at h
  simp only[Option.bind_eq_some_iff]at h
  obtain⟨fa,ha,fb,hb,z⟩:=h
  cases z
  exact QeL (hq.t g ha) (Qid hq g hb)
noncomputable def tAnd:RuT:=⟨fun q c e=>match e with
 | .BoolOp .And es _=>tAnds q c es
 | _=>none,fun {q} hq {X c} g {e r} z=>by
 split at z
 ·exact L2.PW.pt (Qic hq g z)
 ·cases z⟩
noncomputable def tOr:RuT:=⟨fun q c e=>match e with
 | .BoolOp .Or es _=>tOrs q c es
 | _=>none,fun {q} hq {X c} g {e r} z=>by
 split at z
 ·exact L2.PW.pt (Qid hq g z)
 ·cases z⟩
noncomputable def tNot:RuT:=⟨fun q c e=>match e with
 | .UnaryOp .Not a _=>(q.t c a).bind fun f=>some (tNotB f)
 | _=>none,fun {q} hq {X c} g {e r} z=>by
 split at z
 ·simp only[Option.bind_eq_some_iff]at z
  obtain⟨fa,ha,z⟩:=z
  cases z
  exact QeM (hq.t g ha)
 ·cases z⟩
noncomputable def tVl:RuT:=⟨fun q c e=>if tvE e=true then (q.e c e).bind fun f=>some (tVal f) else none,fun {q} hq {X c} g {e r} z=>by
 simp only[Option.ite_none_right_eq_some,Option.bind_eq_some_iff]at z
 obtain⟨hv,fa,ha,z⟩:=z
 cases z
 exact QeG (hq.e g ha) (tv0 hv)⟩
noncomputable def iRange1:RuI:=⟨fun q c tg e=>match e with
 | .Call (.Name x _) [a] [] _=>if x=Str.ofString "range"/\c.bl x=true/\plE a=true then (q.e c a).bind fun f=>some (MM.iRng1 f) else none
 | _=>none,fun {q} hq {X c} g {tg e r} z=>by
 split at z
 ·simp only[Option.ite_none_right_eq_some,Option.bind_eq_some_iff]at z
  obtain⟨⟨rfl,h1,hp⟩,fa,ha,z⟩:=z
  cases z
  exact Qfg (g.gl h1).1 (g.gl h1).2 (hq.e g ha) (Qh0 hp)
 ·cases z⟩
noncomputable def iTmpr:RuI:=⟨fun q c tg e=>(q.l c e).bind fun f=>some (iTmp f),fun {q} hq {X c} g {tg e r} z=>by
 rw[Option.bind_eq_some_iff]at z
 obtain⟨fa,ha,z⟩:=z
 cases z
 exact Qff (hq.l g ha)⟩
noncomputable def iSeqr:RuI:=⟨fun q c tg e=>(q.e c e).bind fun f=>some (iSeq f),fun {q} hq {X c} g {tg e r} z=>by
 rw[Option.bind_eq_some_iff]at z
 obtain⟨fa,ha,z⟩:=z
 cases z
 exact Qfe (hq.e g ha)⟩
noncomputable def tgC (c:RC) (x:Str):Option Nat:=if c.N[c.N.idxOf x]?=some x/\(c.sc.names.lookup x=some .local\/c.sc.names.lookup x=some .cell) then some (c.N.idxOf x) else none
theorem Qie {X:Cx}{c:RC} (g:Good X c) {x:Str}{i:Nat} (h:tgC c x=some i):X.N[i]?=some x/\∃ k,c.sc.names.lookup x=some k/\(k=.local\/k=.cell):=by
 unfold tgC at h
 rw[Option.ite_none_right_eq_some]at h
 obtain⟨⟨h1,h2⟩,h4⟩:=h
 cases h4
 refine⟨by rw[g.N];exact h1,?_⟩
 rcases h2 with h2 | h2
 ·exact⟨_,h2,.inl rfl⟩
 ·exact⟨_,h2,.inr rfl⟩
noncomputable def gVr:RuG:=⟨fun q c e=>match e with
 | .Name x _=>(tgC c x).bind fun i=>some (gVar i)
 | _=>none,fun {q} hq {X c} g {e r} z=>by
 split at z
 ·rw[Option.bind_eq_some_iff]at z
  obtain⟨i,hi,z⟩:=z
  cases z
  obtain⟨h1,k,h2,h3⟩:=Qie g hi
  exact QhD g.S _ g.nd h1 h2 h3
 ·cases z⟩
noncomputable def tgs (q:Rec) (c:RC):List Expr->Option (List D->Loc->M Loc)
 | []=>some gsNil
 | e::es=>if plE e=true then (q.g c e).bind fun a=>(tgs q c es).bind fun b=>some (gsCons a b) else none
theorem Qif {q:Rec} (hq:RecOk q) {X:Cx}{c:RC} (g:Good X c):∀ {es:List Expr}{f:List D->Loc->M Loc},tgs q c es=some f->SGs X es f/\(assignEach es X.env).length=es.length/\(assignEach es X.env).findIdx? (·.1)=none
 | [],f,h=>by cases h;exact⟨QeV,rfl,rfl⟩
 | e::es,f,h=>by
  unfold tgs at h
  simp only[Option.ite_none_right_eq_some,Option.bind_eq_some_iff]at h
  obtain⟨hp,fa,ha,fb,hb,z⟩:=h
  cases z
  obtain⟨a,b,d⟩:=Qif hq g hb
  have eq:assignEach (e::es) X.env=(false,assign e X.env)::assignEach es X.env:=by
   cases e<;>first | rfl | exact nomatch hp
  refine⟨QeW (hq.g g ha) a (by rw[eq];rfl),by rw[eq];exact congrArg (· + 1) b,?_⟩
  rw[eq,List.findIdx?_cons,d]
  rfl
noncomputable def gTupr:RuG:=⟨fun q c e=>match e with
 | .Tuple es _ _=>(tgs q c es).bind fun f=>some (gTupD es.length f)
 | _=>none,fun {q} hq {X c} g {e r} z=>by
 split at z
 ·rw[Option.bind_eq_some_iff]at z
  obtain⟨f,hf,z⟩:=z
  cases z
  obtain⟨a,b,d⟩:=Qif hq g hf
  exact QeX g.S.calm a b d
 ·cases z⟩
noncomputable def gSubr:RuG:=⟨fun q c e=>match e with
 | .Subscript o i _=>if slE i=true then (q.e c o).bind fun f=>(q.e c i).bind fun h=>some (gSubD f h) else none
 | _=>none,fun {q} hq {X c} g {e r} z=>by
 split at z
 ·simp only[Option.ite_none_right_eq_some,Option.bind_eq_some_iff]at z
  obtain⟨hs,fa,ha,fb,hb,z⟩:=z
  cases z
  rename_i o i p
  exact Qe8 g.hu (hq.e g ha) (hq.e g hb) (fun v=>by cases i<;>first | rfl | exact nomatch hs)
 ·cases z⟩
noncomputable def sRetr:RuS:=⟨fun q c e=>match e with
 | .Return (some a) _=>(q.e c a).bind fun f=>some (sRet f)
 | _=>none,fun {q} hq {X c} g {e r} z=>by
 split at z
 ·rw[Option.bind_eq_some_iff]at z
  obtain⟨f,hf,z⟩:=z
  cases z
  exact Qe0 (hq.e g hf)
 ·cases z⟩
noncomputable def sExpr:RuS:=⟨fun q c e=>match e with
 | .Expr a _=>if ncE a=true then (q.e c a).bind fun f=>some (sExp f) else none
 | _=>none,fun {q} hq {X c} g {e r} z=>by
 split at z
 ·simp only[Option.ite_none_right_eq_some,Option.bind_eq_some_iff]at z
  obtain⟨hn,f,hf,z⟩:=z
  cases z
  exact Qe1 (hq.e g hf) (Qh3 hn)
 ·cases z⟩
noncomputable def sIfr:RuS:=⟨fun q c e=>match e with
 | .If t a b _=>(q.t c t).bind fun ft=>(blkC q c a).bind fun fa=>(blkC q c b).bind fun fb=>some (sIf ft fa fb)
 | _=>none,fun {q} hq {X c} g {e r} z=>by
 split at z
 ·simp only[Option.bind_eq_some_iff]at z
  obtain⟨ft,ht,fa,ha,fb,hb,z⟩:=z
  cases z
  exact Qe2 (hq.t g ht) (Qh9 hq g ha) (Qh9 hq g hb)
 ·cases z⟩
noncomputable def sWhiler:RuS:=⟨fun q c e=>match e with
 | .While t a [] _=>(q.t c t).bind fun ft=>(blkC q c a).bind fun fa=>some (sWhile ft fa)
 | _=>none,fun {q} hq {X c} g {e r} z=>by
 split at z
 ·simp only[Option.bind_eq_some_iff]at z
  obtain⟨ft,ht,fa,ha,z⟩:=z
  cases z
  exact Qgh g.ps (hq.t g ht) (Qh9 hq g ha)
 ·cases z⟩
noncomputable def sForr:RuS:=⟨fun q c e=>match e with
 | .For tg it a [] _=>if nsE it=true then (q.i c tg it).bind fun fi=>(q.g c tg).bind fun fg=>(blkC q c a).bind fun fa=>some (sFor fi fg fa) else none
 | _=>none,fun {q} hq {X c} g {e r} z=>by
 split at z
 ·simp only[Option.ite_none_right_eq_some,Option.bind_eq_some_iff]at z
  obtain⟨hn,fi,hi,fg,hg,fa,ha,z⟩:=z
  cases z
  exact Qfh g.ps g.S.calm (hq.i g hi) (hq.g g hg) (Qh9 hq g ha) (Qh4 hn)
 ·cases z⟩
noncomputable def sNmr:RuS:=⟨fun q c e=>match e with
 | .Assign [.Name x _] a _=>if ncE a=true\/(c.top=true/\c.sc.names.lookup x=some .cell) then (tgC c x).bind fun i=>(q.e c a).bind fun f=>some (sAsg (gVar i) f) else none
 | _=>none,fun {q} hq {X c} g {e r} z=>by
 split at z
 ·simp only[Option.ite_none_right_eq_some,Option.bind_eq_some_iff]at z
  obtain⟨hn,i,hi,f,hf,z⟩:=z
  cases z
  obtain⟨h1,k,h2,h3⟩:=Qie g hi
  refine QhE g.S _ g.nd h1 h2 (hq.e g hf) h3 ?_
  rcases hn with hn | ⟨ht,hc⟩
  ·exact Qh3 hn
  ·rename_i x p a s
   have e:(X.env.kindOf x == some NameKind.local)=false:=by rw[(g.kd ht).2 x,hc];rfl
   cases a<;>first | rfl | (unfold swapsWith;simp only[e,Bool.and_false,Bool.false_and])
 ·cases z⟩
theorem Qig {X : Cx} {c : RC} (g : Good X c) {e : Expr} {gs : List Comprehension} {sc : Scope} {p p' : Pos} {y : Str} {n : Nat} (ht : c.top = true) (hl : c.sc.names.lookup y = some .local) (hp : (p'.line == p.line) = true) (ha : (sc.names.any fun z => z.1 == y && (z.2 == .local || z.2 == .cell)) = false) :
  swapsWith (.ListComp e gs sc p) (some (.Name y p')) n X.env=pure true:=by
 have e1:(X.env.kindOf y == some NameKind.local)=true:=by rw[(g.kd ht).2 y,hl];rfl
 have e2:(X.env.blockKind == ScopeKind.function)=true:=by rw[(g.kd ht).1];rfl
 show (pure (X.env.blockKind == ScopeKind.function && X.env.kindOf y == some NameKind.local && p'.line == p.line && !(sc.names.any fun z=>z.1 == y && (z.2 == .local || z.2 == .cell))):Sem Bool)=pure true
 rw[e1,e2,hp,ha]
 rfl
noncomputable def sCompr:RuS:=⟨fun q c s=>match s with
 | .Assign [.Name y p'] (.ListComp e gs sc p) _ => if c.top = true /\ c.sc.names.lookup y = some .local /\ (p'.line == p.line) = true /\ (sc.names.any fun z => z.1 == y && (z.2 == .local || z.2 == .cell)) = false then
   (tgC c y).bind fun i=>(cmpC q c (.ListComp e gs sc p)).bind fun r=>some (sAsg (gVar i) (cKeep (aComp r.1 r.2.1 r.2.2.1 r.2.2.2.1 r.2.2.2.2.1 r.2.2.2.2.2))) else none
 | _=>none,fun {q} hq {X c} g {s r} z=>by
 split at z
 ·simp only[Option.ite_none_right_eq_some,Option.bind_eq_some_iff]at z
  obtain⟨⟨ht,hl,hp,ha⟩,i,hi,w,hw,z⟩:=z
  cases z
  obtain⟨h1,k,h2,h3⟩:=Qie g hi
  unfold cmpC at hw
  split at hw
  ·rename_i he
   cases he
   simp only[Option.ite_none_right_eq_some,Option.bind_eq_some_iff]at hw
   obtain⟨hk,ci,hi',gg,hg,t,ht',f,hf,z⟩:=hw
   cases z
   refine Qfn g.nd h1 (g.S.loc _ _ h2 h3).1 (g.S.loc _ _ h2 h3).2 g.S.calm (QhA g.S hk.1) (QhB g.N hk.2.1) (hq.i g hi') (fun fp s H=>⟨hq.g (g.inn hk fp s H) hg,Qib hq (g.inn hk fp s H) ht',hq.e (g.inn hk fp s H) hf⟩) ?_ (Qh4 hk.2.2.2)
   exact Qig g ht hl hp ha
  ·cases hw
 ·cases z⟩
noncomputable def sSubr:RuS:=⟨fun q c s=>match s with
 | .Assign [.Subscript o i p] a _=>(q.e c a).bind fun f=>(q.g c (.Subscript o i p)).bind fun h=>some (sAsg h f)
 | _=>none,fun {q} hq {X c} g {s r} z=>by
 split at z
 ·simp only[Option.bind_eq_some_iff]at z
  obtain⟨f,hf,h,hh,z⟩:=z
  cases z
  rename_i o i p a s
  exact Qe6 (hq.e g hf) (hq.g g hh) (by cases a<;>rfl) (by cases a<;>rfl) rfl
 ·cases z⟩
noncomputable def ntE:Expr->Bool
 | .Tuple _ _ _=>false
 | _=>true
noncomputable def sTupr:RuS:=⟨fun q c s=>match s with
 | .Assign [.Tuple es k p] a _=>if ntE a=true then (q.e c a).bind fun f=>(q.g c (.Tuple es k p)).bind fun h=>some (sAsg h f) else none
 | _=>none,fun {q} hq {X c} g {s r} z=>by
 split at z
 ·simp only[Option.ite_none_right_eq_some,Option.bind_eq_some_iff]at z
  obtain⟨hn,f,hf,h,hh,z⟩:=z
  cases z
  rename_i o i p a s
  exact Qe6 (hq.e g hf) (hq.g g hh) (by cases a<;>rfl) (by cases a<;>first | rfl | exact nomatch hn) rfl
 ·cases z⟩
section
variable {P:Program}{w:World}{K:PySem.W.Frag}{mg:Str->Option Value}{base:Heap}
variable (P w K mg base) in
noncomputable def EnvOk (l:List (Str × RF)):Prop:=∀ x r,l.lookup x=some r->GF P w K mg base x r
theorem Qih:EnvOk P w K mg base []:=fun _ _ h=>nomatch h
theorem Qii {l : List (Str × RF)} {x : Str} {r : RF} {f : Addr} {fd : FuncData} (m : mg x = some (.ref f)) (F : FnOk P w K mg base CX0 r.k f fd r.ps (spOf K r.n r.g)) (kp : PySem.W.keepIn K (.ref f) = true) (b : Binds K fd r.ps []) (kb : r.kw = true -> KwBinds K fd r.ps) (h : EnvOk P w K mg base l) :
  EnvOk P w K mg base ((x,r)::l):=fun y s z=>by
 by_cases e:y=x
 ·subst e
  rw[List.lookup_cons_self]at z
  cases z
  exact⟨f,fd,m,F,kp,b,kb⟩
 ·rw[Qd1 e]at z
  exact h y s z
theorem Qij (R : Rules) (j : Nat) {x qual : Str} {sd : Stmt} {f : Addr} {fd : FuncData} {N ps : List Str} {k n m : Nat} {body : CS} {G : List (Str × RF)} {Z : List Str} {C : List (Str × D)} {H : List (Nat × Nat × Nat)} (F : Fun K x qual sd f fd) (S : FnScope N ps (defScope sd)) (hn : ps.length = n) (hm : N.length = m)
  (hG:EnvOk P w K mg base G) (hZ:∀ x,Z.contains x=true->mg x=none) (hC:∀ x d,C.lookup x=some d->∃ v u,mg x=some u/\RelV v u/\∀ ρ H,Rep K ρ H v d)
  (hb:blkC (recN R j) ⟨defScope sd,N,k,G,Z,C,H,true⟩ (defBody sd)=some body):FnOk P w K mg base CX0 (k + 1) f fd ps (spOf K n (runDef m body)):=
 QhJ F S hn hm fun cdv A outer s Hp E hr=>Qh9 (c:=⟨defScope sd,N,k,G,Z,C,H,true⟩) (QhZ R j) ⟨Qhy,rfl,S.nd,hr,hG,hZ,hC,PassesOwn.never,fun _=>⟨by show (if (defScope sd).kind.isAnnotationScope=true then _ else (defScope sd).kind)=_;rw[S.kind];rfl,fun _=>rfl⟩⟩ hb
end
end
section
variable {K:PySem.W.Frag}{mg:Str->Option Value}
noncomputable def ZOk (mg:Str->Option Value) (Z:List Str):Prop:=∀ x,Z.contains x=true->mg x=none
theorem z_nil:ZOk mg []:=fun _ h=>nomatch h
theorem z_cons {a:Str}{l:List Str} (h:mg a=none) (t:ZOk mg l):ZOk mg (a::l):=fun x z=>by
 rw[List.contains_cons,Bool.or_eq_true]at z
 rcases z with z | z
 ·rw[beq_iff_eq.mp z];exact h
 ·exact t x z
noncomputable def COk (K:PySem.W.Frag) (mg:Str->Option Value) (C:List (Str × D)):Prop:=∀ x d,C.lookup x=some d->∃ v u,mg x=some u/\RelV v u/\∀ ρ H,Rep K ρ H v d
theorem c_nil:COk K mg []:=fun _ _ h=>nomatch h
end
section
theorem Qik {x:Str} (h:nokB x=true):x≠"__name__":=(QhX h).n
noncomputable def bMaxT:RuE:=bltTmp "max" maxD fun c g m a s=>Qfq (QfG c) g m (by nofun) a (Qik (by nofun)) (by nofun) s
noncomputable def bAllT:RuE:=bltTmp "all" allD fun c g m a s=>Qfq (QfF c) g m (by nofun) a (Qik (by nofun)) (by nofun) s
noncomputable def bTupT:RuE:=bltTmp "tuple" tupL fun _ g m a s=>Qfr Qfx g m (by nofun) a (Qik (by nofun)) (by nofun) s
noncomputable abbrev noTag:RC->Pos->Bool:=fun _ _=>true
noncomputable def bLen:RuE:=blt1 "len" noTag lenD fun _ g m a s=>Qfo Qfu g m (by nofun) a (Qik (by nofun)) (by nofun) s
noncomputable def bInt:RuE:=blt1 "int" noTag intD fun _ g m a s=>Qfp Qfv g m (by nofun) a (Qik (by nofun)) (by nofun) s
noncomputable def bTuple:RuE:=blt1 "tuple" noTag tupleD fun _ g m a s=>Qfp Qfw g m (by nofun) a (Qik (by nofun)) (by nofun) s
noncomputable def bList:RuE:=blt1 "list" noTag listD fun _ g m a s=>Qfp Qgd g m (by nofun) a (Qik (by nofun)) (by nofun) s
noncomputable def bMax2:RuE:=blt2 "max" max2D fun c g m a b s1 s2 s3=>Qge (Qgf c) g m (by nofun) a b (Qik (by nofun)) (by nofun) s1 s2 s3
noncomputable def bIsiInt:RuE:=rIsi "int" QfH (by nofun) (Qik (by nofun)) (by nofun)
noncomputable def bIsiBool:RuE:=rIsi "bool" QfI (by nofun) (Qik (by nofun)) (by nofun)
noncomputable def bIsiTuple:RuE:=rIsi "tuple" QfJ (by nofun) (Qik (by nofun)) (by nofun)
noncomputable def mAppend:RuE:=meth1 "append" cAppend noTag fun _ o a b f l s p=>QfY o a b f l s p
noncomputable def mPop:RuE:=meth0 "pop" cPop fun o b l=>Qgg o b l
noncomputable def mGet:RuE:=meth2 "get" cGet fun u o a b bs f l s1 s2 p=>QgH u o a b bs f l s1 s2 p
noncomputable def rLenset:RuE:=⟨fun q c e=>match e with
 | .Call (.Name x _) [.Call (.Name y _) [a] [] _] [] _=>if x=Str.ofString "len"/\y=Str.ofString "set"/\c.bl x=true/\c.bl y=true/\plE a=true then (q.e c a).bind fun fa=>some (c1 lenSetD fa) else none
 | _=>none,fun {q} hq {X c} g {e r} z=>by
 split at z
 ·simp only[Option.ite_none_right_eq_some,Option.bind_eq_some_iff]at z
  obtain⟨⟨rfl,rfl,h1,h2,hp⟩,fa,ha,z⟩:=z
  cases z
  exact Qg1 g.S.calm (g.gl h1).1 (g.gl h1).2 (g.gl h2).1 (g.gl h2).2 (hq.e g ha) (Qh0 hp) rfl
 ·cases z⟩
noncomputable def iDicr:RuI:=⟨fun q c tg e=>if c.tag e.pos 6=true then (q.e c e).bind fun f=>some (iDic f) else none,fun {q} hq {X c} g {tg e r} z=>by
 simp only[Option.ite_none_right_eq_some,Option.bind_eq_some_iff]at z
 obtain⟨_,fa,ha,z⟩:=z
 cases z
 exact QgE (hq.e g ha)⟩
end
section
variable {P:Program}{w:World}{K:PySem.W.Frag}{mg:Str->Option Value}{base:Heap}
noncomputable def FnAt (K:PySem.W.Frag) (mg:Str->Option Value) (x:Str) (sd:Stmt):Prop:=∃ a fd,Fun K x x sd a fd/\mg x=some (.ref a)
theorem fnat {h : Heap} {x : Str} {sd : Stmt} {f : Addr} {od an : Option Addr} {sl : Array (Option Value)} {oc kV dc pm cd ct : Value} (X : K.In h) (G : h.Ns mainGlobals mg) (a : PySem.W.nsIn K mainGlobals x = some (some (.ref f)))
  (l:K.lookup f=some ⟨oc,od,.func (PySem.W.fnOf x x (defArgs sd) (defBody sd) (defScope sd) .none kV dc pm an cd ct),sl⟩) (c:PySem.W.codeIn K cd x=true) (k:PySem.W.keepIn K (.ref f)=true):FnAt K mg x sd:=
 ⟨f,_,QcP (st:=sd) l c k,PySem.W.mg_of X G a⟩
noncomputable def fscB (N P:List Str) (sc:Scope):Bool:=(sc.kind == .function) && (sc.isCoroutine == false) && (sc.isGenerator == false) && decide N.Nodup && (N.take P.length == P) && (P.all fun x=>sc.names.lookup x == some .local || sc.names.lookup x == some .cell) && (sc.names.all fun y=>y.2 != .free)
theorem Qil {N P:List Str}{sc:Scope} (h:fscB N P sc=true):FnScope N P sc:=by
 unfold fscB at h
 simp only[Bool.and_eq_true,beq_iff_eq,decide_eq_true_eq,List.all_eq_true,Bool.or_eq_true,bne_iff_ne,ne_eq]at h
 obtain⟨⟨⟨⟨⟨⟨h1,h2⟩,h3⟩,h4⟩,h5⟩,h6⟩,h7⟩:=h
 exact⟨h1,h2,h3,h4,h5,h6,h7⟩
theorem Qim (R : Rules) {r : List Str} {x : Str} {sd : Stmt} {f : Addr} {fd : FuncData} {ps : List Str} {k n m : Nat} {body : CS} {G : List (Str × RF)} {Z : List Str} {C : List (Str × D)} {H : List (Nat × Nat × Nat)} (F : Fun K x x sd f fd) (S : fscB (ps ++ r) ps (defScope sd) = true)
  (hb:blkC (recN R 40) ⟨defScope sd,ps++r,k,G,Z,C,H,true⟩ (defBody sd)=some body) (hG:EnvOk P w K mg base G) (hZ:ZOk mg Z) (hC:COk K mg C) (hn:ps.length=n) (hm:(ps++r).length=m):FnOk P w K mg base CX0 (k + 1) f fd ps (spOf K n (runDef m body)):=
 Qij R 40 F (Qil S) hn hm hG hZ hC hb
theorem Qin (R : Rules) {r : List Str} {x : Str} {sd : Stmt} {ps : List Str} {k n m : Nat} {kw : Bool} {body : CS} {G : List (Str × RF)} {Z : List Str} {C : List (Str × D)} {H : List (Nat × Nat × Nat)} (F : FnAt K mg x sd) (S : fscB (ps ++ r) ps (defScope sd) = true)
  (b:∀ (kV doc pm:Value) (an:Option Addr) (cdv ct:Value) (us:List Value),us.length=ps.length->bindArgs (PySem.W.fnOf x x (defArgs sd) (defBody sd) (defScope sd) .none kV doc pm an cdv ct) { pos:=us }=pure (ps.zip us))
  (kb:kw=true->∀ (kV doc pm:Value) (an:Option Addr) (cdv ct:Value) (s:Shared) (ws:List Value),ws.length=ps.length->BindsTo s (PySem.W.fnOf x x (defArgs sd) (defBody sd) (defScope sd) .none kV doc pm an cdv ct) ⟨[],ps.zip ws⟩ (ps.zip ws))
  (hb:blkC (recN R 40) ⟨defScope sd,ps++r,k,G,Z,C,H,true⟩ (defBody sd)=some body) (hG:EnvOk P w K mg base G) (hZ:ZOk mg Z) (hC:COk K mg C) (hn:ps.length=n:=by rfl) (hm:(ps++r).length=m:=by rfl):EnvOk P w K mg base ((x,⟨n,k + 1,ps,kw,runDef m body⟩)::G):=by
 obtain⟨f,fd,F,hm'⟩:=F
 refine Qii hm' (Qim R F S hb hG hZ hC hn hm) F.kp (F.binds b) (fun z=>?_) hG
 obtain⟨oc,od,kV,doc,pm,an,cdv,ct,osl,e,lk,hcd⟩:=F.ex
 intro s ws hl
 rw[e]
 exact kb z kV doc pm an cdv ct s ws hl
end
end MM
namespace PySem.SeqAt
open AutoSeq1 (wpAny_loadPart')
open MeetsSeq MeetsSeq2 MeetsSeq3 SeqRoads2
end PySem.SeqAt
namespace MM
open PySem PySem.Spec PyProof.Rows L2 PySem.SeqAt
section
variable {A:Around}{s:Shared}
noncomputable def IsPr (h:Heap) (v:Value) (p:Int × List Int):Prop:=∃ a t b xs,v=.ref a/\h.IsTuple a #[.int p.1 t,.ref b]/\h.IsTuple b xs/\IntsAre xs.toList p.2
end
end MM
namespace MM
open PySem
noncomputable abbrev At {α:Type} (_:α->Sto->Prop):Type:=Sto
inductive wp {α:Type} (m:M α) (Q:α->Sto->Prop) (s:At Q):Prop
 | intro (a:α) (s':Sto) (h:m s=.ok a s') (q:Q a s'):wp m Q s
theorem Qip {α:Type}{m:M α}{Q:α->Sto->Prop}{s:Sto}:wp m Q s=(match m s with
 | .ok a s'=>Q a s'
 | _=>False):=by
 apply propext
 constructor
 ·rintro ⟨a,s',h,q⟩;rw[h];exact q
 ·intro h
  cases e:m s with
  | ok a s'=>rw[e]at h;exact⟨a,s',e,h⟩
  | exc _ _=>rw[e]at h;exact h.elim
  | bad=>rw[e]at h;exact h.elim
section
variable {α β:Type}{Q:α->Sto->Prop}{s:Sto}
theorem wp_eq {m:M α}{a:α}{s':Sto} (h:m s=.ok a s'):wp m Q s=Q a s':=by rw[Qip,h]
theorem wp_no {m:M α} (h:m s=.bad):wp m Q s=False:=by rw[Qip,h]
theorem wp_cg {m:M β}{Q Q':β->Sto->Prop}{s:Sto} (h:∀ a s',Q a s'=Q' a s'):wp m Q s=wp m Q' s:=by
 rw[show Q=Q' from funext fun a=>funext fun t=>h a t]
theorem wp_ret {a:α}:wp (ret a) Q s=Q a s:=wp_eq rfl
theorem wp_bad:wp (bad:M α) Q s=False:=wp_no rfl
theorem Qiq {m:M β}{f:β->M α}:wp (bnd m f) Q s=wp m (fun a s'=>wp (f a) Q s') s:=by
 simp only[Qip]
 unfold bnd
 cases m s<;>rfl
theorem wp_chk {c:Prop} [Decidable c] {m:M α}:wp (chk c m) Q s=(c/\wp m Q s):=by
 unfold chk
 by_cases h:c
 ·simp[h]
 ·simp[h,wp_bad]
theorem wp_alloc {o:MO}{Q:D->Sto->Prop}:wp (alloc o) Q s=Q (.ref s.length) (s++[o]):=wp_eq rfl
theorem Qir {n:Nat}{ds:List D}{Q:List D->Sto->Prop} (h:s[n]?=some (.lst ds)):wp (getL n) Q s=Q ds s:=by
 rw[Qip];unfold getL;rw[h]
theorem Qis {n:Nat}{ds es:List D}{Q:Unit->Sto->Prop} (h:s[n]?=some (.lst ds)):wp (putL n es) Q s=Q () (s.set n (.lst es)):=by
 rw[Qip];unfold putL;rw[h]
theorem Qit {m:M α}{Q':α->Sto->Prop} (h:wp m Q s) (f:∀ a s',Q a s'->Q' a s'):wp m Q' s:=by
 simp only[Qip]at *
 cases e:m s with
 | ok a s'=>rw[e]at h;exact f a s' h
 | exc _ _=>rw[e]at h;exact h
 | bad=>rw[e]at h;exact h
theorem Qiu {c:Prop} [Decidable c] {m n:M α}:wp (if c then m else n) Q s=if c then wp m Q s else wp n Q s:=by split<;>rfl
end
theorem Qiv {ds:List D}{i:Int}{d:D} (h0:0<=i) (h:ds[i.toNat]?=some d):itemD ds i=ret d:=by
 have hl:i.toNat < ds.length:=(List.getElem?_eq_some_iff.mp h).1
 unfold itemD MM.ixN
 rw[if_pos h0,if_pos (by ac_nf)]
 dsimp only
 rw[h]
theorem wp_run {n:Nat}{b:CS}{ds:List D}{Q:D->Sto->Prop}{s:Sto}:wp (runDef n b ds) Q s=wp (b (ds.map some++List.replicate (n - ds.length) none)) (fun f s'=>wp (flwD f) Q s') s:=by
 unfold runDef;rw[Qiq]
theorem Qiw {g : CG} {b : CS} {same : Sto -> Prop} {Q : Flw -> Sto -> Prop} (W : List D -> Loc -> Sto -> Prop)
  (hend:∀ l s,W [] l s->wp (chkS same) (fun _ s'=>Q (.next l) s') s)
  (hstep:∀ d ds l s,W (d::ds) l s->wp (chkS same) (fun _ s1=>wp (g d l) (fun l1 s2=>wp (b l1) (fun f s3=>match f with
   | .next l2=>W ds l2 s3
   | .cnt l2=>W ds l2 s3
   | .brk l2=>Q (.next l2) s3
   | .ret d=>Q (.ret d) s3) s2) s1) s):∀ ds l s,W ds l s->wp (forD g b same ds l) Q s:=by
 intro ds
 induction ds with
 | nil=>
  intro l s h
  unfold forD
  rw[Qiq]
  exact Qit (hend l s h) fun _ s' q=>by rw[wp_ret];exact q
 | cons d ds ih=>
  intro l s h
  unfold forD
  rw[Qiq]
  refine Qit (hstep d ds l s h) fun _ s1 q=>?_
  rw[Qiq]
  refine Qit q fun l1 s2 q=>?_
  rw[Qiq]
  refine Qit q fun f s3 q=>?_
  cases f with
  | next l2=>exact ih l2 s3 q
  | cnt l2=>exact ih l2 s3 q
  | brk l2=>show wp (ret _) _ _;rw[wp_ret];exact q
  | ret d=>show wp (ret _) _ _;rw[wp_ret];exact q
theorem Qix {g : CG} {t : CT} {e : CE} {same : Sto -> Prop} {Q : List D -> Sto -> Prop} (W : List D -> List D -> Loc -> Sto -> Prop)
  (hend:∀ out l s,W out [] l s->wp (chkS same) (fun _ s'=>Q out s') s)
  (hstep:∀ out d ds l s,W out (d::ds) l s->wp (chkS same) (fun _ s1=>wp (g d l) (fun l1 s2=>wp (t l1) (fun b s3=>if b=true then wp (e l1) (fun x s4=>W (out++[x]) ds l1 s4) s3 else W out ds l1 s3) s2) s1) s):
  ∀ ds out l s,W out ds l s->wp (collect g t e same ds l) (fun xs s'=>Q (out++xs) s') s:=by
 intro ds
 induction ds with
 | nil=>
  intro out l s h
  unfold collect
  rw[Qiq]
  exact Qit (hend out l s h) fun _ s' q=>by rw[wp_ret,List.append_nil];exact q
 | cons d ds ih=>
  intro out l s h
  unfold collect
  rw[Qiq]
  refine Qit (hstep out d ds l s h) fun _ s1 q=>?_
  rw[Qiq]
  refine Qit q fun l1 s2 q=>?_
  rw[Qiq]
  refine Qit q fun b s3 q=>?_
  cases b with
  | false=>exact ih out l1 s3 q
  | true=>
   show wp (bnd (e l1) _) _ s3
   rw[Qiq]
   refine Qit q fun x s4 q=>?_
   rw[Qiq]
   refine Qit (ih (out++[x]) l1 s4 q) fun xs s5 q=>?_
   rw[wp_ret]
   rw[List.append_assoc]at q
   exact q
theorem Qiy {n i:Nat} (h:i < n):(rngD 0 n)[i]?=some (.int i):=by
 unfold rngD
 rw[List.getElem?_map,List.getElem?_range h];simp
theorem Qiz {n i:Nat}{d:D} (h:(rngD 0 n)[i]?=some d):i < n/\d=.int i:=by
 have hi:i < n:=by
  have:=(List.getElem?_eq_some_iff.mp h).1
  simpa [rngD] using this
 rw[Qiy hi]at h;cases h
 exact⟨hi,rfl⟩
theorem QiA (n:Nat):(rngD 0 n).length=n:=by simp[rngD]
theorem QiB {n:Nat} (h:n<=1000):n<=lim:=Nat.le_trans h (by decide)
theorem QiC {n:Nat} (h:n<=1000):n < lim:=Nat.lt_of_le_of_lt h (by decide)
theorem QiD {g : CG} {b : CS} {same : Sto -> Prop} {xs : List D} {l : Loc} {s : Sto} {Q : Flw -> Sto -> Prop} (W : Nat -> Loc -> Sto -> Prop) (hs : ∀ i l s, W i l s -> same s) (h0 : W 0 l s)
  (hstep:∀ (i:Nat) d l s,xs[i]?=some d->W i l s->wp (g d l) (fun l1 s2=>wp (b l1) (fun f s3=>match f with
   | .next l2=>W (i + 1) l2 s3
   | .cnt l2=>W (i + 1) l2 s3
   | .brk l2=>Q (.next l2) s3
   | .ret d=>Q (.ret d) s3) s2) s) (hend:∀ l s,W xs.length l s->Q (.next l) s):wp (forD g b same xs l) Q s:=by
 have chk:∀ {s:Sto}{R:Unit->Sto->Prop},same s->R () s->wp (chkS same) R s:=fun h r=>by rw[Qip];unfold chkS;rw[if_pos h];exact r
 refine Qiw (fun ds l s=>∃ i,ds=xs.drop i/\i<=xs.length/\W i l s) (fun l s ⟨i,e1,hi,w⟩=>?_) (fun d ds l s ⟨i,e1,hi,w⟩=>?_) xs l s ⟨0,by simp,Nat.zero_le _,h0⟩
 ·have : i = xs.length := by
    have:=congrArg List.length e1
    simp at this;ac_nf
  subst this
  exact chk (hs _ _ _ w) (hend l s w)
 ·have hlt : i < xs.length := by
    have:=congrArg List.length e1
    simp at this;ac_nf
  rw[List.drop_eq_getElem_cons hlt]at e1
  obtain⟨e2,e3⟩:=List.cons.inj e1
  refine chk (hs _ _ _ w) ?_
  refine Qit (hstep i d l s (by rw[e2];exact List.getElem?_eq_getElem hlt) w) fun l1 s2 q=>Qit q fun f s3 q=>?_
  cases f with
  | next l2=>exact⟨i + 1,e3,hlt,q⟩
  | cnt l2=>exact⟨i + 1,e3,hlt,q⟩
  | brk l2=>exact q
  | ret d=>exact q
end MM
local macro_rules | `(tactic| bv_omega)=>`(tactic| first | rfl | exact MM.wp_eq rfl | exact MM.wp_no rfl)
local macro_rules | `(tactic| ac_rfl)=>`(tactic| first | rfl | simp only[MM.wp_ret,MM.wp_alloc,MM.wp_bad] | (refine MM.wp_cg fun _ _=>?_;simp only[MM.wp_ret,MM.wp_alloc,MM.wp_bad]))
namespace MM
open PySem
theorem nr {α:Sort u}{a b:α} (h:a=b):a=b:=h
section
variable {Q:D->Sto->Prop}{R:Flw->Sto->Prop}{T:Bool->Sto->Prop}{A:List D->Sto->Prop}{G:Loc->Sto->Prop}{I:Wk->Sto->Prop}{s:Sto}{l:Loc}
theorem x_seq {a b : CS} : wp (sSeq a b l) R s = wp (a l) (fun f s' => match f with
  | .next l'=>wp (b l') R s'
  | .ret d=>R (.ret d) s'
  | .brk l'=>R (.brk l') s'
  | .cnt l'=>R (.cnt l') s') s:=by
 unfold sSeq;rw[Qiq];congr 1;funext f s';cases f<;>first | bv_omega
theorem x_next:wp (sNext l) R s=R (.next l) s:=wp_eq rfl
theorem x_asg {g:CG}{a:CE}:wp (sAsg g a l) R s=wp (a l) (fun d s'=>wp (g d l) (fun l' s''=>R (.next l') s'') s') s:=by
 unfold sAsg;rw[Qiq];congr 1;funext d s';rw[Qiq];ac_rfl
theorem x_ret {a:CE}:wp (sRet a l) R s=wp (a l) (fun d s'=>R (.ret d) s') s:=by
 unfold sRet;rw[Qiq];ac_rfl
theorem x_exp {a:CE}:wp (sExp a l) R s=wp (a l) (fun d s'=>R (.next l) s') s:=by
 unfold sExp;rw[Qiq];ac_rfl
theorem x_if {t:CT}{a b:CS}:wp (sIf t a b l) R s=wp (t l) (fun c s'=>if c=true then wp (a l) R s' else wp (b l) R s') s:=by
 unfold sIf;rw[Qiq];congr 1;funext c s';rw[Qiu]
theorem x_cmp {a : CE} : wp (tCmpB a l) T s = wp (a l) (fun x s' => match x with
  | .bl b=>T b s'
  | _=>False) s:=by
 unfold tCmpB;rw[Qiq];congr 1;funext x s';cases x<;>first | bv_omega
theorem x_val {a:CE}:wp (tVal a l) T s=wp (a l) (fun x s'=>wp (truD x) T s') s:=by unfold tVal;rw[Qiq]
theorem x_not {a:CT}:wp (tNotB a l) T s=wp (a l) (fun x s'=>T (!x) s') s:=by unfold tNotB;rw[Qiq];ac_rfl
theorem x_and {a b:CT}:wp (tAndB a b l) T s=wp (a l) (fun c s'=>if c=true then wp (b l) T s' else T false s') s:=by
 unfold tAndB;rw[Qiq];congr 1;funext c s';rw[Qiu];ac_rfl
theorem x_or {a b:CT}:wp (tOrB a b l) T s=wp (a l) (fun c s'=>if c=true then T true s' else wp (b l) T s') s:=by
 unfold tOrB;rw[Qiq];congr 1;funext c s';rw[Qiu];ac_rfl
theorem x_gvar {i:Nat}{d:D}:wp (gVar i d l) G s=G (l.set i (some d)) s:=wp_eq rfl
theorem x_g0 {d:D}{b:Option D}{r:Loc}{Q:Loc->Sto->Prop}:wp (gVar 0 d (b::r)) Q s=Q (some d::r) s:=x_gvar
theorem x_g1 {a0:Option D}{d:D}{b:Option D}{r:Loc}{Q:Loc->Sto->Prop}:wp (gVar 1 d (a0::b::r)) Q s=Q (a0::some d::r) s:=x_gvar
theorem x_g2 {a0 a1:Option D}{d:D}{b:Option D}{r:Loc}{Q:Loc->Sto->Prop}:wp (gVar 2 d (a0::a1::b::r)) Q s=Q (a0::a1::some d::r) s:=x_gvar
theorem x_g3 {a0 a1 a2:Option D}{d:D}{b:Option D}{r:Loc}{Q:Loc->Sto->Prop}:wp (gVar 3 d (a0::a1::a2::b::r)) Q s=Q (a0::a1::a2::some d::r) s:=x_gvar
theorem x_g4 {a0 a1 a2 a3:Option D}{d:D}{b:Option D}{r:Loc}{Q:Loc->Sto->Prop}:wp (gVar 4 d (a0::a1::a2::a3::b::r)) Q s=Q (a0::a1::a2::a3::some d::r) s:=x_gvar
theorem x_g5 {a0 a1 a2 a3 a4:Option D}{d:D}{b:Option D}{r:Loc}{Q:Loc->Sto->Prop}:wp (gVar 5 d (a0::a1::a2::a3::a4::b::r)) Q s=Q (a0::a1::a2::a3::a4::some d::r) s:=x_gvar
theorem x_g6 {a0 a1 a2 a3 a4 a5:Option D}{d:D}{b:Option D}{r:Loc}{Q:Loc->Sto->Prop}:wp (gVar 6 d (a0::a1::a2::a3::a4::a5::b::r)) Q s=Q (a0::a1::a2::a3::a4::a5::some d::r) s:=x_gvar
theorem x_g7 {a0 a1 a2 a3 a4 a5 a6:Option D}{d:D}{b:Option D}{r:Loc}{Q:Loc->Sto->Prop}:wp (gVar 7 d (a0::a1::a2::a3::a4::a5::a6::b::r)) Q s=Q (a0::a1::a2::a3::a4::a5::a6::some d::r) s:=x_gvar
theorem x_g8 {a0 a1 a2 a3 a4 a5 a6 a7:Option D}{d:D}{b:Option D}{r:Loc}{Q:Loc->Sto->Prop}:wp (gVar 8 d (a0::a1::a2::a3::a4::a5::a6::a7::b::r)) Q s=Q (a0::a1::a2::a3::a4::a5::a6::a7::some d::r) s:=x_gvar
theorem x_gsub {o i:CE}{d:D}:wp (gSubD o i d l) G s=wp (o l) (fun y s1=>wp (i l) (fun z s2=>wp (setItemD y z d) (fun _ s3=>G l s3) s2) s1) s:=by
 unfold gSubD;rw[Qiq];congr 1;funext y s1;rw[Qiq];congr 1;funext z s2;rw[Qiq];ac_rfl
theorem x_var {i : Nat} : wp (cVar i l) Q s = match l[i]? with
  | some (some d)=>Q d s
  | _=>False:=by
 unfold cVar;rcases l[i]? with _ | _ | d<;>first | bv_omega
theorem x_v0 {d:D}{r:Loc}:wp (cVar 0 (some d::r)) Q s=Q d s:=x_var
theorem x_v1 {a0:Option D}{d:D}{r:Loc}:wp (cVar 1 (a0::some d::r)) Q s=Q d s:=x_var
theorem x_v2 {a0 a1:Option D}{d:D}{r:Loc}:wp (cVar 2 (a0::a1::some d::r)) Q s=Q d s:=x_var
theorem x_v3 {a0 a1 a2:Option D}{d:D}{r:Loc}:wp (cVar 3 (a0::a1::a2::some d::r)) Q s=Q d s:=x_var
theorem x_v4 {a0 a1 a2 a3:Option D}{d:D}{r:Loc}:wp (cVar 4 (a0::a1::a2::a3::some d::r)) Q s=Q d s:=x_var
theorem x_v5 {a0 a1 a2 a3 a4:Option D}{d:D}{r:Loc}:wp (cVar 5 (a0::a1::a2::a3::a4::some d::r)) Q s=Q d s:=x_var
theorem x_v6 {a0 a1 a2 a3 a4 a5:Option D}{d:D}{r:Loc}:wp (cVar 6 (a0::a1::a2::a3::a4::a5::some d::r)) Q s=Q d s:=x_var
theorem x_v7 {a0 a1 a2 a3 a4 a5 a6:Option D}{d:D}{r:Loc}:wp (cVar 7 (a0::a1::a2::a3::a4::a5::a6::some d::r)) Q s=Q d s:=x_var
theorem x_v8 {a0 a1 a2 a3 a4 a5 a6 a7:Option D}{d:D}{r:Loc}:wp (cVar 8 (a0::a1::a2::a3::a4::a5::a6::a7::some d::r)) Q s=Q d s:=x_var
theorem x_con {d:D}:wp (cCon d l) Q s=Q d s:=wp_eq rfl
theorem x_c1 {g:D->M D}{a:CE}:wp (c1 g a l) Q s=wp (a l) (fun x s'=>wp (g x) Q s') s:=by unfold c1;rw[Qiq]
theorem x_c2 {g:D->D->M D}{a b:CE}:wp (c2 g a b l) Q s=wp (a l) (fun x s'=>wp (b l) (fun y s''=>wp (g x y) Q s'') s') s:=by
 unfold c2;rw[Qiq];congr 1;funext x s';rw[Qiq]
theorem x_call {g:List D->M D}{a:CA}:wp (cCall g a l) Q s=wp (a l) (fun x s'=>wp (g x) Q s') s:=by unfold cCall;rw[Qiq]
theorem x_nil:wp (cNil l) A s=A [] s:=wp_eq rfl
theorem x_cons {a:CE}{r:CA}:wp (cCons a r l) A s=wp (a l) (fun x s'=>wp (r l) (fun xs s''=>A (x::xs) s'') s') s:=by
 unfold cCons;rw[Qiq];congr 1;funext x s';rw[Qiq];ac_rfl
theorem x_tup {a:CA}:wp (cTup a l) Q s=wp (a l) (fun xs s'=>xs.length<=lim/\Q (.tup xs) s') s:=by
 unfold cTup;rw[Qiq];congr 1;funext x s';rw[wp_chk];ac_rfl
theorem x_disp {a:CA}:wp (aDisp a l) A s=wp (a l) (fun xs s'=>xs.length<=lim/\A xs s') s:=by
 unfold aDisp;rw[Qiq];congr 1;funext x s';rw[wp_chk];ac_rfl
theorem x_keep {a:CA}:wp (cKeep a l) Q s=wp (a l) (fun xs s'=>Q (.ref s'.length) (s'++[.lst xs])) s:=by
 unfold cKeep;rw[Qiq];ac_rfl
theorem x_tmp {g:List D->M D}{a:CA}:wp (cTmp g a l) Q s=wp (a l) (fun x s'=>wp (g x) Q s') s:=by unfold cTmp;rw[Qiq]
theorem x_comp {n:Nat}{caps:List Nat}{i:CI}{g:CG}{t:CT}{e:CE}:wp (aComp n caps i g t e l) A s=wp (i l) (fun w s'=>w.ds.length<=lim/\wp (collect g t e w.same w.ds (capt n caps l)) A s') s:=by
 unfold aComp;rw[Qiq];congr 1;funext x s';rw[wp_chk]
theorem x_for {i:CI}{g:CG}{b:CS}:wp (sFor i g b l) R s=wp (i l) (fun w s'=>wp (forD g b w.same w.ds l) R s') s:=by
 unfold sFor;rw[Qiq]
theorem x_rng {a : CE} : wp (MM.iRng1 a l) I s = wp (a l) (fun x s' => match x with
  | .int j=>(-(2 ^ 62)<=j/\j < 2 ^ 62)/\I ⟨rngD 0 j.toNat,anySt⟩ s'
  | _=>False) s:=by
 unfold MM.iRng1;rw[Qiq];congr 1;funext x s';cases x<;>first | bv_omega | (dsimp only;rw[wp_chk];ac_rfl)
theorem x_iseq {a : CE} : wp (iSeq a l) I s = wp (a l) (fun x s' => match x with
  | .tup ds=>I ⟨ds,anySt⟩ s'
  | .lit ds=>I ⟨ds,anySt⟩ s'
  | .ref n=>wp (getL n) (fun ds s''=>I ⟨ds,sameL n ds⟩ s'') s'
  | _=>False) s:=by
 unfold iSeq;rw[Qiq];congr 1;funext x s';cases x<;>first | bv_omega | (dsimp only;rw[Qiq];ac_rfl)
theorem x_add {i j:Int}:wp (addD (.int i) (.int j)) Q s=Q (.int (i + j)) s:=wp_eq rfl
theorem x_sub {i j:Int}:wp (subD (.int i) (.int j)) Q s=Q (.int (i - j)) s:=wp_eq rfl
theorem x_mul {i j:Int}:wp (mulD (.int i) (.int j)) Q s=(mulOk i j/\Q (.int (i * j)) s):=by unfold mulD;rw[wp_chk];ac_rfl
theorem x_div {i j:Int}:wp (fdivD (.int i) (.int j)) Q s=((0 < j/\j < 1073741824)/\Q (.int (i / j)) s):=by unfold fdivD;rw[wp_chk];ac_rfl
theorem x_mod {i j:Int}:wp (modD (.int i) (.int j)) Q s=(0 < j/\Q (.int (i % j)) s):=by unfold modD;rw[wp_chk];ac_rfl
theorem x_lt {i j:Int}:wp (ltD (.int i) (.int j)) Q s=Q (.bl (decide (i < j))) s:=wp_eq rfl
theorem x_le {i j:Int}:wp (leD (.int i) (.int j)) Q s=Q (.bl (decide (i<=j))) s:=wp_eq rfl
theorem x_gt {i j:Int}:wp (gtD (.int i) (.int j)) Q s=Q (.bl (decide (j < i))) s:=wp_eq rfl
theorem x_ge {i j:Int}:wp (geD (.int i) (.int j)) Q s=Q (.bl (decide (j<=i))) s:=wp_eq rfl
theorem x_eq {i j:Int}:wp (eqD (.int i) (.int j)) Q s=Q (.bl (i == j)) s:=wp_eq rfl
theorem x_ne {i j:Int}:wp (neD (.int i) (.int j)) Q s=Q (.bl !(i == j)) s:=wp_eq rfl
theorem x_subsT {ds:List D}{i:Int}:wp (subsD (.tup ds) (.int i)) Q s=wp (itemD ds i) Q s:=nr rfl
theorem x_subsR {n:Nat}{i:Int}:wp (subsD (.ref n) (.int i)) Q s=wp (getL n) (fun ds s'=>wp (itemD ds i) Q s') s:=by
 unfold subsD;rw[Qiq]
theorem x_lenT {ds:List D}:wp (lenD (.tup ds)) Q s=Q (.int ds.length) s:=wp_eq rfl
theorem x_lenR {n:Nat}:wp (lenD (.ref n)) Q s=wp (getL n) (fun ds s'=>Q (.int ds.length) s') s:=by unfold lenD;rw[Qiq];ac_rfl
theorem x_intB {b:Bool}:wp (intD (.bl b)) Q s=Q (.int (if b then 1 else 0)) s:=wp_eq rfl
theorem x_retF {d:D}:wp (flwD (.ret d)) Q s=Q d s:=wp_eq rfl
end
theorem x_slice {a : CE} {lo hi : CO} {A : List D -> Sto -> Prop} {s : Sto} {l : Loc} : wp (aSlice a lo hi l) A s = wp (a l) (fun x s1 => wp (lo l) (fun i s2 => wp (hi l) (fun j s3 => match x with
  | .lit ds=>A (cutD ds i j) s3
  | .ref n=>wp (getL n) (fun ds s4=>A (cutD ds i j) s4) s3
  | _=>False) s2) s1) s:=by
 unfold aSlice;rw[Qiq];congr 1;funext x s1;rw[Qiq];congr 1;funext i s2;rw[Qiq];congr 1;funext j s3;cases x<;>first | bv_omega | (dsimp only;rw[Qiq];ac_rfl)
theorem x_none {A:Option Int->Sto->Prop}{s:Sto}{l:Loc}:wp (oNone l) A s=A none s:=wp_eq rfl
theorem x_some {a : CE} {A : Option Int -> Sto -> Prop} {s : Sto} {l : Loc} : wp (oSome a l) A s = wp (a l) (fun x s1 => match x with
  | .int i=>A (some i) s1
  | _=>False) s:=by
 unfold oSome;rw[Qiq];congr 1;funext x s1;cases x<;>first | bv_omega
theorem x_gtup {n:Nat}{r:List D->Loc->M Loc}{ds:List D}{G:Loc->Sto->Prop}{s:Sto}{l:Loc}:wp (gTupD n r (.tup ds) l) G s=(ds.length=n/\wp (r ds l) G s):=by
 unfold gTupD;rw[wp_chk]
theorem x_gcons {g:CG}{r:List D->Loc->M Loc}{d:D}{ds:List D}{G:Loc->Sto->Prop}{s:Sto}{l:Loc}:wp (gsCons g r (d::ds) l) G s=wp (g d l) (fun l' s'=>wp (r ds l') G s') s:=by
 unfold gsCons;rw[Qiq]
theorem x_gnil {G:Loc->Sto->Prop}{s:Sto}{l:Loc}:wp (gsNil [] l) G s=G l s:=wp_eq rfl
theorem QiE {n:Nat}{a b:Int}:eqF n (.int a) (.int b)=some (a == b):=by cases n<;>rfl
noncomputable def Ext (s s':Sto):Prop:=∃ t,s'=s++t
theorem Ext.refl (s:Sto):Ext s s:=⟨[],by simp⟩
theorem Ext.snoc {s s':Sto} (h:Ext s s') (o:MO):Ext s (s'++[o]):=by obtain⟨t,e⟩:=h;exact⟨t++[o],by rw[e];simp⟩
theorem Ext.trans {s s' s2:Sto} (h:Ext s s') (k:Ext s' s2):Ext s s2:=by obtain⟨t,e⟩:=h;obtain⟨u,f⟩:=k;exact⟨t++u,by rw[f,e];simp⟩
theorem Ext.at_ {s s':Sto}{n:Nat}{o:MO} (h:Ext s s') (k:s[n]?=some o):s'[n]?=some o:=by
 obtain⟨t,e⟩:=h
 rw[e,List.getElem?_append_left (List.getElem?_eq_some_iff.mp k).1];exact k
theorem QiF {α:Type} (f:α->Int) (xs:List α):numsL (xs.map fun x=>.int (f x))=some (xs.map f):=by
 induction xs with
 | nil=>rfl
 | cons x xs ih=>simp only[List.map_cons,numsL,ih];ac_rfl
theorem QiG {α:Type}{m:M α}{v:α}{s:Sto}{Q:α->Sto->Prop} (h:wp m (fun a s'=>a=v/\s'=s) s):wp m Q s=Q v s:=by
 simp only[Qip]at *
 cases e:m s with
 | ok a s'=>rw[e]at h;obtain⟨h1,h2⟩:=h;subst h1;subst h2;ac_rfl
 | exc _ _=>rw[e]at h;exact h.elim
 | bad=>rw[e]at h;exact h.elim
theorem QiH {a b:Nat}{x y:List D}{Q:D->Sto->Prop}{s:Sto} (h1:s[a]?=some (.lst x)) (h2:s[b]?=some (.lst y)):wp (addD (.ref a) (.ref b)) Q s=(x.length + y.length<=lim/\Q (.ref s.length) (s++[.lst (x++y)])):=by
 unfold addD;rw[Qiq,Qir h1,Qiq,Qir h2,wp_chk];ac_rfl
noncomputable def andB (x:D) (p q:Prop):Prop:=match x with
 | .bl true=>p
 | .bl false=>q
 | _=>False
theorem andB_t {p q:Prop}:andB (.bl true) p q=p:=nr rfl
theorem andB_f {p q:Prop}:andB (.bl false) p q=q:=nr rfl
section
variable {Q:D->Sto->Prop}{T:Bool->Sto->Prop}{R:Flw->Sto->Prop}{s:Sto}{l:Loc}
theorem x_andE {a b:CE}:wp (cAnd a b l) Q s=wp (a l) (fun x s'=>andB x (wp (b l) Q s') (Q (.bl false) s')) s:=by
 unfold cAnd;rw[Qiq];congr 1;funext x s';rcases x with _ | b | _ | _ | _ | _ | _ | _<;>first | bv_omega | (cases b<;>first | bv_omega)
theorem x_notE {a : CE} : wp (cNot a l) Q s = wp (a l) (fun x s' => match x with
  | .bl b=>Q (.bl !b) s'
  | _=>False) s:=by
 unfold cNot;rw[Qiq];congr 1;funext x s';cases x<;>first | bv_omega
theorem x_ifE {t:CT}{a b:CE}:wp (cIfE t a b l) Q s=wp (t l) (fun c s'=>if c=true then wp (a l) Q s' else wp (b l) Q s') s:=by
 unfold cIfE;rw[Qiq];congr 1;funext c s';rw[Qiu]
theorem x_truB {b:Bool}:wp (truD (.bl b)) T s=T b s:=wp_eq rfl
theorem x_tupL {ds:List D}:wp (tupL ds) Q s=Q (.tup ds) s:=wp_eq rfl
theorem x_item0 {d:D}{ds:List D}:wp (itemD (d::ds) 0) Q s=Q d s:=by
 rw[Qiv (d:=d) (by ac_nf) rfl,wp_ret]
theorem x_item1 {d e:D}{ds:List D}:wp (itemD (d::e::ds) 1) Q s=Q e s:=by
 rw[Qiv (d:=e) (by ac_nf) rfl,wp_ret]
theorem x_item2 {d e f:D}{ds:List D}:wp (itemD (d::e::f::ds) 2) Q s=Q f s:=by
 rw[Qiv (d:=f) (by ac_nf) rfl,wp_ret]
theorem x_item3 {d e f g:D}{ds:List D}:wp (itemD (d::e::f::g::ds) 3) Q s=Q g s:=by
 rw[Qiv (d:=g) (by ac_nf) rfl,wp_ret]
theorem QiI {ds:List D}{i:Nat}{d:D} (h:ds[i]?=some d):wp (itemD ds i) Q s=Q d s:=by
 rw[Qiv (d:=d) (by ac_nf) (by simpa using h),wp_ret]
theorem x_iTmp {a:CA}{I:Wk->Sto->Prop}:wp (iTmp a l) I s=wp (a l) (fun ds s'=>I ⟨ds,anySt⟩ s') s:=by unfold iTmp;rw[Qiq];ac_rfl
end
noncomputable def bP (p:Prop):Bool:=@decide p (Classical.propDecidable p)
theorem QiJ {p:Prop}:bP p=true↔p:=by unfold bP;exact @decide_eq_true_iff p (Classical.propDecidable p)
theorem QiK {p:Prop} (h:p):bP p=true:=QiJ.mpr h
theorem QiL {p:Prop} (h:¬p):bP p=false:=by
 cases e:bP p with
 | false=>rfl
 | true=>exact (h (QiJ.mp e)).elim
theorem QiM {b:Bool}{p:Prop} (h:b=true↔p):b=bP p:=by
 cases b with
 | true=>exact (QiK (h.mp rfl)).symm
 | false=>exact (QiL fun k=>by cases h.mpr k).symm
noncomputable def upto {α:Type} (n:Nat) (f:Nat->α):List α:=(List.range n).map f
theorem QiP {α:Type}{n i:Nat}{f:Nat->α} (h:i < n):(upto n f)[i]?=some (f i):=by unfold upto;rw[List.getElem?_map,List.getElem?_range h];ac_rfl
theorem QiQ {α:Type}{n i:Nat}{f:Nat->α}{x:α} (h:(upto n f)[i]?=some x):i < n/\x=f i:=by
 have hi:i < n:=by
  have:=(List.getElem?_eq_some_iff.mp h).1
  simpa [upto] using this
 rw[QiP hi]at h;cases h;exact⟨hi,rfl⟩
theorem QiR {α:Type}{n:Nat}{f:Nat->α}:(upto n f).length=n:=by simp[upto]
theorem QiS {α:Type}{n:Nat}{f:Nat->α}:upto (n + 1) f=upto n f++[f n]:=by unfold upto;rw[List.range_succ,List.map_append];ac_rfl
theorem QiT {α:Type}{n:Nat}{xs:List α}{f:Nat->α} (hl:xs.length=n) (h:∀ i,i < n->xs[i]?=some (f i)):xs=upto n f:=by
 apply List.ext_getElem?
 intro i
 by_cases hi:i < n
 ·rw[h i hi,QiP hi]
 ·rw[List.getElem?_eq_none (by ac_nf),List.getElem?_eq_none (by rw[QiR];ac_nf)]
theorem QiU {n:Nat}:rngD 0 n=upto n fun i=>.int i:=by unfold rngD upto;congr 1;funext k;simp
theorem QiV {n:Nat}{f:Nat->Bool}:boolsL (upto n fun i=>.bl (f i))=some (upto n f):=by
 have:∀ (xs:List Nat),boolsL (xs.map fun i=>.bl (f i))=some (xs.map f):=by
  intro xs
  induction xs with
  | nil=>rfl
  | cons x xs ih=>simp only[List.map_cons,boolsL,ih];ac_rfl
 exact this _
theorem QiW {n:Nat}{p:Nat->Prop}{Q:D->Sto->Prop}{s:Sto}:wp (allD (upto n fun i=>.bl (bP (p i)))) Q s=Q (.bl (bP (∀ i,i < n->p i))) s:=by
 unfold allD;rw[QiV]
 have:(upto n fun i=>bP (p i)).all id=bP (∀ i,i < n->p i):=QiM (by simp[upto,List.all_map,QiJ])
 dsimp only;rw[this,wp_ret]
theorem QiX {g : CG} {e : CE} {same : Sto -> Prop} {ds : List D} {l0 : Loc} {f : Nat -> D} {Q : List D -> Sto -> Prop} {s : Sto} (I : Loc -> Prop) (hs : same s) (h0 : I l0)
  (h:∀ i d l,ds[i]?=some d->I l->∃ l',(∀ G,wp (g d l) G s=G l' s)/\I l'/\∀ Q,wp (e l') Q s=Q (f i) s):
  wp (collect g tTrue e same ds l0) Q s=Q (upto ds.length f) s:=by
 have chk:∀ {R:Unit->Sto->Prop},R () s->wp (chkS same) R s:=fun r=>by rw[Qip];unfold chkS;rw[if_pos hs];exact r
 apply QiG
 refine Qix (Q:=fun out s'=>out=upto ds.length f/\s'=s) (fun out xs l s'=>∃ i,xs=ds.drop i/\i<=ds.length/\I l/\out=upto i f/\s'=s) (fun out l s' ⟨i,e1,hi,_,e2,es⟩=>?_) (fun out d xs l s' ⟨i,e1,hi,hI,e2,es⟩=>?_) ds [] _ s ⟨0,by simp,Nat.zero_le _,h0,rfl,rfl⟩
 ·have : i = ds.length := by
    have:=congrArg List.length e1
    simp at this;ac_nf
  subst this
  subst es
  exact chk ⟨e2,rfl⟩
 ·have hlt : i < ds.length := by
    have:=congrArg List.length e1
    simp at this;ac_nf
  rw[List.drop_eq_getElem_cons hlt]at e1
  obtain⟨e3,e4⟩:=List.cons.inj e1
  obtain⟨l',q1,q2,q3⟩:=h i d l (by rw[e3];exact List.getElem?_eq_getElem hlt) hI
  subst es
  refine chk ?_
  rw[q1]
  show wp (ret true) _ s'
  rw[wp_ret]
  show wp (e l') _ s'
  rw[q3]
  exact⟨i + 1,e4,hlt,q2,by rw[e2,QiS],rfl⟩
theorem QiY {e : CE} {same : Sto -> Prop} {ds : List D} {caps : Loc} {f : Nat -> D} {Q : List D -> Sto -> Prop} {s : Sto} (hs : same s) (h : ∀ i d, ds[i]? = some d -> ∀ Q, wp (e (some d :: caps)) Q s = Q (f i) s) :
  wp (collect (gVar 0) tTrue e same ds (none::caps)) Q s=Q (upto ds.length f) s:=
 QiX (fun l=>∃ x,l=x::caps) hs ⟨none,rfl⟩ fun i d l hd pq92=>by obtain⟨x,el⟩:=pq92;exact⟨some d::caps,fun G=>by rw[el,x_gvar];rfl,⟨_,rfl⟩,h i d hd⟩
section
variable {n:Nat}{f:Nat->D}{Q:D->Sto->Prop}{s:Sto}
theorem QiZ {i:Nat} (h:i < n):wp (itemD (upto n f) (i:Int)) Q s=Q (f i) s:=QiI (QiP h)
theorem Qi0 (h:0 < n):wp (itemD (upto n f) 0) Q s=Q (f 0) s:=by
 have:=@QiI Q s (upto n f) 0 (f 0) (QiP h);simpa using this
end
theorem Qi1 {g : CG} {b : CS} {same : Sto -> Prop} {n : Nat} {f : Nat -> D} {l : Loc} {s : Sto} {Q : Flw -> Sto -> Prop} (W : Nat -> Loc -> Sto -> Prop) (hs : ∀ i l s, W i l s -> same s) (h0 : W 0 l s)
  (hstep:∀ (i:Nat) l s,i < n->W i l s->wp (g (f i) l) (fun l1 s2=>wp (b l1) (fun f s3=>match f with
   | .next l2=>W (i + 1) l2 s3
   | .cnt l2=>W (i + 1) l2 s3
   | .brk l2=>Q (.next l2) s3
   | .ret d=>Q (.ret d) s3) s2) s) (hend:∀ l s,W n l s->Q (.next l) s):wp (forD g b same (upto n f) l) Q s:=
 QiD W hs h0 (fun i d l s hd w=>by obtain⟨hi,e⟩:=QiQ hd;subst e;exact hstep i l s hi w) (fun l s w=>hend l s (by rw[QiR]at w;exact w))
theorem Qi2 {e : CE} {same : Sto -> Prop} {n : Nat} {g : Nat -> D} {caps : Loc} {f : Nat -> D} {Q : List D -> Sto -> Prop} {s : Sto} (hs : same s) (h : ∀ i, i < n -> ∀ Q, wp (e (some (g i) :: caps)) Q s = Q (f i) s) :
  wp (collect (gVar 0) tTrue e same (upto n g) (none::caps)) Q s=Q (upto n f) s:=by
 rw[QiY (f:=f) hs (fun i d hd=>by obtain⟨hi,e⟩:=QiQ hd;subst e;exact h i hi),QiR]
section
variable {Q:D->Sto->Prop}{T:Bool->Sto->Prop}{R:Flw->Sto->Prop}{A:List D->Sto->Prop}{s:Sto}{l:Loc}
theorem x_chain {f g:D->D->M D}{a b c:CE}:wp (cChain f g a b c l) Q s=wp (a l) (fun x s1=>wp (b l) (fun y s2=>wp (f x y) (fun z s3=>andB z (wp (c l) (fun w s4=>wp (g y w) Q s4) s3) (Q (.bl false) s3)) s2) s1) s:=by
 unfold cChain;rw[Qiq];congr 1;funext x s1;rw[Qiq];congr 1;funext y s2;rw[Qiq];congr 1;funext z s3
 rcases z with _ | b | _ | _ | _ | _ | _ | _<;>first | bv_omega | (cases b<;>first | bv_omega | (dsimp only;rw[Qiq];first | ac_rfl | (refine congrArg _ ?_;refine wp_cg fun _ _=>?_;simp only[wp_ret,wp_alloc,wp_bad])))
theorem x_append {a b : CE} : wp (cAppend a b l) Q s = wp (a l) (fun x s1 => match x with
  | .ref n=>wp (b l) (fun v s2=>wp (getL n) (fun ds s3=>ds.length < lim/\wp (putL n (ds++[v])) (fun _ s4=>Q .non s4) s3) s2) s1
  | _=>False) s:=by
 unfold cAppend;rw[Qiq];congr 1;funext x s1
 cases x<;>first | bv_omega | (dsimp only;rw[Qiq];congr 1;funext v s2;unfold appendL;rw[Qiq];congr 1;funext ds s3;rw[wp_chk,Qiq];first | ac_rfl | (refine congrArg _ ?_;refine wp_cg fun _ _=>?_;simp only[wp_ret,wp_alloc,wp_bad]))
theorem x_pop {a : CE} : wp (cPop a l) Q s = wp (a l) (fun x s1 => match x with
  | .ref n=>wp (getL n) (fun ds s2=>match ds.getLast? with
   | some d=>wp (putL n ds.dropLast) (fun _ s4=>Q d s4) s2
   | none=>False) s1
  | _=>False) s:=by
 unfold cPop;rw[Qiq];congr 1;funext x s1
 cases x<;>first | bv_omega | (dsimp only;rw[Qiq];congr 1;funext ds s2;cases ds.getLast?<;>first | bv_omega | (dsimp only;rw[Qiq];first | ac_rfl | (refine congrArg _ ?_;refine wp_cg fun _ _=>?_;simp only[wp_ret,wp_alloc,wp_bad])))
theorem x_listT {ds:List D}:wp (listD (.tup ds)) Q s=Q (.ref s.length) (s++[.lst ds]):=wp_eq rfl
theorem x_tupleR {n:Nat}:wp (tupleD (.ref n)) Q s=wp (getL n) (fun ds s1=>Q (.tup ds) s1) s:=by unfold tupleD;rw[Qiq];(try dsimp only);(try rw[Qiq]);refine wp_cg fun _ _=>?_;simp only[wp_ret,wp_alloc,wp_bad]
theorem x_inTu {x:D}{ds:List D}:wp (inD x (.tup ds)) Q s=wp (inL x ds) Q s:=nr rfl
theorem Qi3 {v:Int} (h:v=0\/v=1):wp (inL (.int v) [.int 0,.int 1]) Q s=Q (.bl true) s:=by
 unfold inL
 rw[wp_chk,wp_ret]
 rcases h with h | h<;>subst h<;>exact propext ⟨fun h=>h.2,fun h=>⟨⟨rfl,rfl⟩,h⟩⟩
theorem x_eqStr {a b:Str}:wp (eqD (.str a) (.str b)) Q s=Q (.bl (a == b)) s:=wp_eq rfl
theorem x_neStr {a b:Str}:wp (neD (.str a) (.str b)) Q s=Q (.bl !(a == b)) s:=wp_eq rfl
theorem x_isiT {ds:List D}:wp (isInst ["tuple"] (.tup ds)) Q s=Q (.bl true) s:=wp_eq rfl
theorem x_isiI {i:Int}:wp (isInst ["int"] (.int i)) Q s=Q (.bl true) s:=wp_eq rfl
theorem x_isiB {i:Int}:wp (isInst ["bool"] (.int i)) Q s=Q (.bl false) s:=wp_eq rfl
theorem x_max2 {i j:Int}:wp (max2D (.int i) (.int j)) Q s=Q (.int (max i j)) s:=wp_eq rfl
theorem x_addT {x y:List D}:wp (addD (.tup x) (.tup y)) Q s=(x.length + y.length<=lim/\Q (.tup (x++y)) s):=by unfold addD;rw[wp_chk];first | ac_rfl | (refine congrArg _ ?_;refine wp_cg fun _ _=>?_;simp only[wp_ret,wp_alloc,wp_bad])
theorem x_tmpSub {a : CA} {b : CE} : wp (cTmpSub a b l) Q s = wp (a l) (fun ds s1 => wp (b l) (fun i s2 => match i with
  | .int k=>wp (itemD ds k) Q s2
  | _=>False) s1) s:=by
 unfold cTmpSub;rw[Qiq];congr 1;funext ds s1;rw[Qiq];congr 1;funext i s2;cases i<;>first | bv_omega
theorem Qi4 {x:D}{ds:List D}:wp (ninL x ds) Q s=((flatD x=true/\ds.all flatD=true)/\Q (.bl !(ds.any fun d=>eqFl d x)) s):=by unfold ninL;rw[wp_chk];first | ac_rfl | (refine congrArg _ ?_;refine wp_cg fun _ _=>?_;simp only[wp_ret,wp_alloc,wp_bad])
theorem Qi5 {n:Nat}:wp (allD (upto n fun _=>.bl true)) Q s=Q (.bl true) s:=by
 have:=@QiW n (fun _=>True) Q s
 rw[show (fun _:Nat=>D.bl (bP True))=fun _=>D.bl true from by funext i;rw[QiK trivial]]at this
 rw[this,QiK (fun _ _=>trivial)]
end
theorem ite_f {p q:Prop}:(if false=true then p else q)=q:=if_neg (by simp)
noncomputable def mx (f:Nat->Nat):Nat->Nat
 | 0=>0
 | n + 1=>max (mx f n) (f n)
theorem Qi6 {f:Nat->Nat}{n m:Nat} (h:∀ i,i < n->f i<=m):mx f n<=m:=by
 induction n with
 | zero=>exact Nat.zero_le _
 | succ n ih=>unfold mx;exact Nat.max_le.mpr ⟨ih fun i hi=>h i (by ac_nf),h n (by ac_nf)⟩
theorem Qi7 {f:Nat->Nat}{n i:Nat} (h:i < n):f i<=mx f n:=by
 induction n with
 | zero=>ac_nf
 | succ n ih=>
  unfold mx
  by_cases e:i=n
  ·subst e;exact Nat.le_max_right _ _
  ·exact Nat.le_trans (ih (by ac_nf)) (Nat.le_max_left _ _)
theorem Qi8 {f:Nat->Nat}{n:Nat}{Q:D->Sto->Prop}{s:Sto} (hn:0 < n):wp (maxD (upto n fun i=>.int (f i:Nat))) Q s=Q (.int (mx f n:Nat)) s:=by
 obtain⟨k,rfl⟩:∃ k,n=k + 1:=⟨n - 1,by ac_nf⟩
 have hm:∀ (k:Nat),(((List.range k).map (· + 1)).map fun (i:Nat)=>((f i:Nat):Int)).foldl max ((f 0:Nat):Int)=((mx f (k + 1):Nat):Int):=by
  intro k
  induction k with
  | zero=>show ((f 0:Nat):Int)=((max 0 (f 0):Nat):Int);ac_nf
  | succ k ih=>
   rw[List.range_succ,List.map_append,List.map_append,List.foldl_append,ih]
   show max ((mx f (k + 1):Nat):Int) ((f (k + 1):Nat):Int)=((max (mx f (k + 1)) (f (k + 1)):Nat):Int)
   ac_nf
 unfold maxD upto
 rw[QiF (fun i=>((f i:Nat):Int)),List.range_succ_eq_map,List.map_cons]
 dsimp only
 rw[wp_ret,<- hm k]
theorem Ext.put {s s':Sto}{n:Nat}{o:MO} (h:Ext s s') (hn:s.length<=n):Ext s (s'.set n o):=by
 obtain⟨t,e⟩:=h
 exact⟨t.set (n - s.length) o,by rw[e,List.set_append_right _ _ hn]⟩
theorem Ext.le {s s':Sto} (h:Ext s s'):s.length<=s'.length:=by obtain⟨t,e⟩:=h;rw[e];simp
theorem Qi9 {t:CT}{b:CS}:∀ (n:Nat) (l:Loc) (s:Sto),whileN t b n l s≠.bad->whileN t b (n + 1) l s=whileN t b n l s
 | 0,l,s,h=>(h rfl).elim
 | n + 1,l,s,h=>by
  have e1:∀ k,whileN t b (k + 1) l s=(match t l s with
   | .ok true s1=>(match b l s1 with
    | .ok (.next l2) s2=>whileN t b k l2 s2
    | .ok (.cnt l2) s2=>whileN t b k l2 s2
    | .ok (.brk l2) s2=>.ok (.next l2) s2
    | .ok (.ret d) s2=>.ok (.ret d) s2
    | .exc x s2=>.exc x s2
    | .bad=>.bad)
   | .ok false s1=>.ok (.next l) s1
   | .exc x s1=>.exc x s1
   | .bad=>.bad):=fun k=>by
   show bnd (t l) _ s=_
   unfold bnd
   cases t l s with
   | exc x s1=>rfl
   | bad=>rfl
   | ok c s1=>
    cases c with
    | false=>rfl
    | true=>
     show (bnd (b l) _) s1=_
     unfold bnd
     dsimp only
     cases b l s1 with
     | exc x s2=>rfl
     | bad=>rfl
     | ok f s2=>cases f<;>first | bv_omega
  rw[e1 (n + 1),e1 n]
  rw[e1 n]at h
  cases et:t l s with
  | exc x s1=>rfl
  | bad=>rfl
  | ok c s1=>
   rw[et]at h
   cases c with
   | false=>rfl
   | true=>
    dsimp only at h ⊢
    cases eb:b l s1 with
    | exc x s2=>rfl
    | bad=>rfl
    | ok f s2=>
     rw[eb]at h
     cases f with
     | next l2=>exact Qi9 n l2 s2 h
     | cnt l2=>exact Qi9 n l2 s2 h
     | brk l2=>rfl
     | ret d=>rfl
theorem Qja {t:CT}{b:CS}{n m:Nat}{l:Loc}{s:Sto} (h:whileN t b n l s≠.bad) (hm:n<=m):whileN t b m l s=whileN t b n l s:=by
 induction m with
 | zero => have : n = 0 := by ac_nf
           subst this;ac_rfl
 | succ m ih=>
  by_cases e:n=m + 1
  ·subst e;ac_rfl
  ·have:=ih (by ac_nf)
   rw[Qi9 m l s (by rw[this];exact h),this]
theorem Qjb {t : CT} {b : CS} {Q : Flw -> Sto -> Prop} {l : Loc} {s : Sto} (W : Loc -> Sto -> Prop) (μ : Loc -> Sto -> Nat) (h0 : W l s)
  (hs:∀ l s,W l s->wp (t l) (fun c s1=>if c=true then wp (b l) (fun f s2=>match f with
   | .next l2=>W l2 s2/\μ l2 s2 < μ l s
   | .cnt l2=>W l2 s2/\μ l2 s2 < μ l s
   | .brk l2=>Q (.next l2) s2
   | .ret d=>Q (.ret d) s2) s1 else Q (.next l) s1) s):wp (sWhile t b l) Q s:=by
 have key:∀ (k:Nat) (l:Loc) (s:Sto),μ l s < k->W l s->∃ n,wp (whileN t b n l) Q s:=by
  intro k
  induction k with
  | zero=>intro l s h;ac_nf
  | succ k ih=>
   intro l s hk w
   have h1:=hs l s w
   rw[Qip]at h1
   cases et:t l s with
   | exc x s1=>rw[et]at h1;exact h1.elim
   | bad=>rw[et]at h1;exact h1.elim
   | ok c s1=>
    rw[et]at h1
    cases c with
    | false=>
     refine⟨1,?_⟩
     show wp (bnd (t l) _) Q s
     rw[Qiq,wp_eq et]
     show wp (ret _) _ _
     rw[wp_ret]
     exact h1
    | true=>
     have h2:wp (b l) _ s1:=h1
     rw[Qip]at h2
     cases eb:b l s1 with
     | exc x s2=>rw[eb]at h2;exact h2.elim
     | bad=>rw[eb]at h2;exact h2.elim
     | ok f s2=>
      rw[eb]at h2
      have go:∀ (n:Nat),wp (match f with
       | .next l2=>whileN t b n l2
       | .cnt l2=>whileN t b n l2
       | .brk l2=>ret (.next l2)
       | .ret d=>ret (.ret d)) Q s2->wp (whileN t b (n + 1) l) Q s:=fun n q=>by
       show wp (bnd (t l) _) Q s
       rw[Qiq,wp_eq et,if_pos rfl,Qiq,wp_eq eb]
       exact q
      cases f with
      | next l2=>obtain⟨n,hn⟩:=ih l2 s2 (by have:=h2.2;ac_nf) h2.1;exact⟨n + 1,go n hn⟩
      | cnt l2=>obtain⟨n,hn⟩:=ih l2 s2 (by have:=h2.2;ac_nf) h2.1;exact⟨n + 1,go n hn⟩
      | brk l2=>exact⟨1,go 0 (by show wp (ret _) _ _;rw[wp_ret];exact h2)⟩
      | ret d=>exact⟨1,go 0 (by show wp (ret _) _ _;rw[wp_ret];exact h2)⟩
 obtain⟨n,hn⟩:=key (μ l s + 1) l s (Nat.lt_succ_self _) h0
 have nb:whileN t b n l s≠.bad:=fun e=>by rw[Qip]at hn;rw[e]at hn;exact hn
 have ex:∃ n,∀ r,whileN t b n l s=r->r≠.bad:=⟨n,fun r e=>e ▸ nb⟩
 rw[Qip];unfold sWhile
 rw[dif_pos ex]
 have hc:whileN t b (Classical.choose ex) l s≠.bad:=Classical.choose_spec ex _ rfl
 have e:whileN t b (Classical.choose ex) l s=whileN t b n l s:=by
  rw[<- Qja hc (Nat.le_max_left (Classical.choose ex) n),<- Qja nb (Nat.le_max_right (Classical.choose ex) n)]
 rw[e]
 rw[Qip]at hn
 exact hn
section
variable {Q:D->Sto->Prop}{s:Sto}{l:Loc}
inductive Pd:Nat->D->Prop
 | non {n}:Pd n .non
 | bl {n} (b):Pd n (.bl b)
 | int {n} (i):Pd n (.int i)
 | str {n} (x):Pd n (.str x)
 | tup {n}{ds:List D} (h:∀ d∈ds,Pd n d):Pd (n + 1) (.tup ds)
theorem Pd.up {n:Nat}{d:D} (h:Pd n d):Pd (n + 1) d:=by
 induction h with
 | non=>exact .non
 | bl b=>exact .bl b
 | int i=>exact .int i
 | str x=>exact .str x
 | tup h ih=>exact .tup ih
theorem Qjc {f:D->D->Option Bool}:∀ {ds:List D},(∀ d∈ds,f d d=some true)->allF f ds ds=some true
 | [],_=>rfl
 | d::ds,h=>by
  unfold allF
  rw[h d (by simp)]
  exact Qjc fun x hx=>h x (by simp[hx])
theorem Pd.eq {n:Nat}{d:D} (h:Pd n d):eqF n d d=some true:=by
 induction h with
 | @non n=>cases n<;>first | bv_omega
 | @bl n b=>cases n<;>exact congrArg some (beq_self_eq_true b)
 | @int n i=>cases n<;>exact congrArg some (beq_self_eq_true i)
 | @str n x=>cases n<;>exact congrArg some (beq_self_eq_true x)
 | @tup n ds h ih=>exact Qjc ih
theorem Pd.le {n m:Nat}{d:D} (h:Pd n d) (hm:n<=m):Pd m d:=by
 induction m with
 | zero => have : n = 0 := by ac_nf
           subst this;exact h
 | succ m ih=>
  by_cases e:n=m + 1
  ·subst e;exact h
  ·exact (ih (by ac_nf)).up
theorem Qjd {n:Nat}{ds:List D} (h:Pd n (.tup ds)) (hn:n<=50):wp (eqD (.tup ds) (.tup ds)) Q s=Q (.bl true) s:=by
 have:=(h.le hn).eq
 unfold eqD eqB
 rw[Qiq]
 dsimp only
 rw[this]
 first | rfl | exact wp_eq rfl | exact (wp_eq rfl).trans wp_ret | (simp only[wp_ret,wp_bad];done)
theorem Qje {n a b:Nat}{ds:List D} (h1:s[a]?=some (.lst ds)) (h2:s[b]?=some (.lst ds)) (h:∀ d∈ds,Pd n d) (hn:n<=50):wp (neD (.ref a) (.ref b)) Q s=Q (.bl false) s:=by
 unfold neD eqB
 rw[Qiq,Qiq,Qir h1,Qiq,Qir h2,if_pos rfl,Qjc fun d hd=>((h d hd).le hn).eq]
 first | rfl | exact wp_eq rfl | exact (wp_eq rfl).trans wp_ret | (simp only[wp_ret,wp_bad];done)
end
section
variable {α β:Type}{γ:Sort _}
theorem y_dec {p:Prop} [Decidable p]:(decide p=true)=p:=_root_.decide_eq_true_eq
theorem y_rs {n:Nat}{a:α}:List.replicate (n + 1) a=a::List.replicate n a:=nr rfl
theorem y_rz {a:α}:List.replicate 0 a=[]:=nr rfl
theorem y_js {x:Option α}:(some x).join=x:=nr rfl
theorem y_mc {f:α->β}{a:α}{l:List α}:List.map f (a::l)=f a::List.map f l:=nr rfl
theorem y_mn {f:α->β}:List.map f []=[]:=nr rfl
theorem y_ca {a:α}{l k:List α}:(a::l)++k=a::(l++k):=nr rfl
theorem y_na {l:List α}:[]++l=l:=nr rfl
theorem y_g0 {a:α}{l:List α}:(a::l)[0]?=some a:=nr rfl
theorem y_gs {a:α}{l:List α}{i:Nat}:(a::l)[i + 1]?=l[i]?:=by simp
theorem y_s0 {a b:α}{l:List α}:(a::l).set 0 b=b::l:=nr rfl
theorem y_ss {a b:α}{l:List α}{i:Nat}:(a::l).set (i + 1) b=a::l.set i b:=nr rfl
theorem y_lc {a:α}{l:List α}:(a::l).length=l.length + 1:=nr rfl
theorem y_ln:([]:List α).length=0:=nr rfl
theorem y_it {c d:γ}:(if True then c else d)=c:=if_pos trivial
theorem y_at {p:Prop}:(p/\True)=p:=and_true p
theorem y_ta {p:Prop}:(True/\p)=p:=true_and p
theorem y_nt:(!true)=false:=nr rfl
theorem y_nf:(!false)=true:=nr rfl
end
section
variable {Q:D->Sto->Prop}{U:Unit->Sto->Prop}{A:List D->Sto->Prop}{s:Sto}{l:Loc}
theorem Qjf {n:Nat}{b:Bool}{kvs:List (D × D)}{Q:Bool × List (D × D)->Sto->Prop} (h:s[n]?=some (.dct b kvs)):wp (getDc n) Q s=Q (b,kvs) s:=by
 rw[Qip];unfold getDc;rw[h]
theorem Qjg {n:Nat}{b:Bool}{kvs kvs':List (D × D)}{Q:Unit->Sto->Prop} (h:s[n]?=some (.dct b kvs)):wp (putDc n b kvs') Q s=Q () (s.set n (.dct b kvs')):=by
 rw[Qip];unfold putDc;rw[h];simp
theorem Qjh {n:Nat}{b:Bool}{kvs:List (D × D)}{k d:D} (h:s[n]?=some (.dct b kvs)) (hk:kOk b k=true) (hl:lkK kvs k=some d):wp (itemK n k) Q s=Q d s:=by
 unfold itemK;rw[Qiq,Qjf h,wp_chk];dsimp only;rw[hl,wp_ret];exact propext ⟨fun h=>h.2,fun h=>⟨hk,h⟩⟩
theorem Qji {n:Nat}{b:Bool}{kvs:List (D × D)}{k v:D} (h:s[n]?=some (.dct b kvs)) (hk:kOk b k=true) (hl:kvs.length < lim):wp (storeK n k v) U s=U () (s.set n (.dct b (ptK kvs k v))):=by
 unfold storeK;rw[Qiq,Qjf h,wp_chk];dsimp only;rw[Qjg h];exact propext ⟨fun h=>h.2,fun h=>⟨⟨hk,hl⟩,h⟩⟩
theorem Qjj {n:Nat}{b:Bool}{kvs:List (D × D)}{k:D}{Q:Bool->Sto->Prop} (h:s[n]?=some (.dct b kvs)) (hk:kOk b k=true):wp (hasK n k) Q s=Q (lkK kvs k).isSome s:=by
 unfold hasK;rw[Qiq,Qjf h,wp_chk,wp_ret];exact propext ⟨fun h=>h.2,fun h=>⟨hk,h⟩⟩
theorem x_subsD {n:Nat}{k:D}:wp (subsD (.dic n) k) Q s=wp (itemK n k) Q s:=by cases k<;>first | bv_omega
theorem x_setD {n:Nat}{k v:D}:wp (setItemD (.dic n) k v) U s=wp (storeK n k v) U s:=by cases k<;>first | bv_omega
theorem x_ninDc {n:Nat}{k:D}:wp (ninD k (.dic n)) Q s=wp (hasK n k) (fun b s'=>Q (.bl !b) s') s:=by unfold ninD;rw[Qiq];ac_rfl
theorem Qjk {n:Nat}{b:Bool}{kvs:List (D × D)} (h:s[n]?=some (.dct b kvs)):wp (lenD (.dic n)) Q s=Q (.int kvs.length) s:=by unfold lenD;rw[Qiq,Qjf h];ac_rfl
theorem x_dnew {b:Bool}:wp (cDNew b l) Q s=Q (.dic s.length) (s++[.dct b []]):=wp_eq rfl
theorem x_cdisp {ks:List D}{vs:CA}:wp (cDisp ks vs l) Q s=wp (vs l) (fun xs s'=>ks.length=xs.length/\Q (.dic s'.length) (s'++[.dct false (mgK [] (ks.zip xs))])) s:=by
 unfold cDisp;rw[Qiq];congr 1;funext xs s';rw[wp_chk];rw[show ∀ kvs,wp (allocK false kvs) Q s'=Q (.dic s'.length) (s'++[.dct false kvs]) from fun _=>wp_eq rfl]
theorem x_arev {a:CA}:wp (aRev a l) A s=wp (a l) (fun ds s'=>A ds.reverse s') s:=by unfold aRev;rw[Qiq];ac_rfl
end
theorem Qjl {m:M D}{s:Sto} (h:wp m (fun d _=>d=.bl true) s):∃ st',m s=.ok (.bl true) st':=by
 rw[Qip]at h
 cases e:m s with
 | ok a s'=>rw[e]at h;exact⟨s',by rw[show a=.bl true from h]⟩
 | exc _ _=>rw[e]at h;exact h.elim
 | bad=>rw[e]at h;exact h.elim
theorem Qjm {α:Type}{l:List α}{a:α}:(l++[a])[l.length]?=some a:=by rw[List.getElem?_append_right (Nat.le_refl _),Nat.sub_self];ac_rfl
theorem Qjn {α:Type}{l:List α}{a b:α}:(l++[a]++[b])[l.length + 1]?=some b:=by
 have:l.length + 1=(l++[a]).length:=by simp
 rw[this];exact Qjm
theorem Qjo {α:Type}{l:List α}{a b:α}{n:Nat} (h:l[n]?=some a):(l++[b])[n]?=some a:=by rw[List.getElem?_append_left (List.getElem?_eq_some_iff.mp h).1];exact h
section
variable {Q:D->Sto->Prop}{A:List D->Sto->Prop}{s:Sto}
theorem Qjp {g : CG} {e : CE} {same : Sto -> Prop} {xs : List D} {l : Loc} (V : D -> Prop) (L : Loc -> Prop) (P : D -> Prop) (W : Sto -> Prop) (hs : ∀ s, W s -> same s) (h0 : W s) (hl : L l) (hV : ∀ d ∈ xs, V d)
  (hstep:∀ d l s,V d->L l->W s->wp (g d l) (fun l1 s1=>L l1/\wp (e l1) (fun x s2=>P x/\W s2) s1) s) (hend:∀ out s',out.length=xs.length->(∀ d∈out,P d)->W s'->A out s'):
  wp (collect g tTrue e same xs l) A s:=by
 have chk:∀ {s:Sto}{R:Unit->Sto->Prop},same s->R () s->wp (chkS same) R s:=fun h r=>by rw[Qip];unfold chkS;rw[if_pos h];exact r
 refine Qix (Q:=A) (fun out ds l s=>out.length + ds.length=xs.length/\(∀ d∈ds,V d)/\L l/\(∀ d∈out,P d)/\W s) (fun out l s ⟨e1,_,_,hP,w⟩=>?_) (fun out d ds l s ⟨e1,hv,hL,hP,w⟩=>?_) xs [] l s ⟨by simp,hV,hl,fun d hd=>absurd hd (by simp),h0⟩
 ·exact chk (hs _ w) (hend out s (by simpa using e1) hP w)
 ·refine chk (hs _ w) ?_
  refine Qit (hstep d l s (hv d (by simp)) hL w) fun l1 s1 pq95=>?_
  obtain⟨hL1,q⟩:=pq95
  show wp (ret true) _ s1
  rw[wp_ret]
  show wp (e l1) _ s1
  exact Qit q fun x s2 pq96=>by obtain⟨px,w2⟩:=pq96;exact⟨by simp at e1 ⊢;ac_nf,fun d hd=>hv d (by simp[hd]),hL1,fun d hd=>by
   rcases List.mem_append.mp hd with hd | hd
   ·exact hP d hd
   ·rw[List.mem_singleton.mp hd];exact px,w2⟩
theorem Qjq {e : CE} {same : Sto -> Prop} {xs : List D} {caps : Loc} (V : D -> Prop) (P : D -> Prop) (W : Sto -> Prop) (hs : ∀ s, W s -> same s) (h0 : W s) (hV : ∀ d ∈ xs, V d)
  (hstep:∀ d s,V d->W s->wp (e (some d::caps)) (fun x s2=>P x/\W s2) s) (hend:∀ out s',out.length=xs.length->(∀ d∈out,P d)->W s'->A out s'):
  wp (collect (gVar 0) tTrue e same xs (none::caps)) A s:=
 Qjp V (fun l=>∃ x,l=x::caps) P W hs h0 ⟨none,rfl⟩ hV (fun d l s hv pq97 w=>by obtain⟨x,el⟩:=pq97;subst el;rw[x_gvar];exact⟨⟨_,rfl⟩,hstep d s hv w⟩) hend
noncomputable def isI (n:Nat) (d:D):Prop:=∃ i:Nat,i < n/\d=.int i
theorem Qjr {n:Nat}:∀ d∈rngD 0 n,isI n d:=fun d hd=>by
 obtain⟨i,hi⟩:=List.getElem?_of_mem hd
 obtain⟨h1,h2⟩:=Qiz hi
 exact⟨i,h1,h2⟩
theorem Qjs {g : CG} {t : CT} {e : CE} {same : Sto -> Prop} {xs : List D} {l : Loc} (V : D -> Prop) (L : Loc -> Prop) (P : D -> Prop) (W : Sto -> Prop) (hs : ∀ s, W s -> same s) (h0 : W s) (hl : L l) (hV : ∀ d ∈ xs, V d)
  (hstep:∀ d l s,V d->L l->W s->wp (g d l) (fun l1 s1=>L l1/\wp (t l1) (fun b s2=>if b=true then wp (e l1) (fun x s3=>P x/\W s3) s2 else W s2) s1) s) (hend:∀ out s',out.length<=xs.length->(∀ d∈out,P d)->W s'->A out s'):
  wp (collect g t e same xs l) A s:=by
 have chk:∀ {s:Sto}{R:Unit->Sto->Prop},same s->R () s->wp (chkS same) R s:=fun h r=>by rw[Qip];unfold chkS;rw[if_pos h];exact r
 refine Qix (Q:=A) (fun out ds l s=>out.length + ds.length<=xs.length/\(∀ d∈ds,V d)/\L l/\(∀ d∈out,P d)/\W s) (fun out l s ⟨e1,_,_,hP,w⟩=>?_) (fun out d ds l s ⟨e1,hv,hL,hP,w⟩=>?_) xs [] l s ⟨by simp,hV,hl,fun d hd=>absurd hd (by simp),h0⟩
 ·exact chk (hs _ w) (hend out s (by simpa using e1) hP w)
 ·refine chk (hs _ w) ?_
  refine Qit (hstep d l s (hv d (by simp)) hL w) fun l1 s1 ⟨hL1,q⟩=>Qit q fun b s2 q=>?_
  cases b with
  | false=>exact⟨by simp at e1 ⊢;ac_nf,fun d hd=>hv d (by simp[hd]),hL1,hP,q⟩
  | true=>
   exact Qit q fun x s2 pq101=>by obtain⟨px,w2⟩:=pq101;exact⟨by simp at e1 ⊢;ac_nf,fun d hd=>hv d (by simp[hd]),hL1,fun d hd=>by
    rcases List.mem_append.mp hd with hd | hd
    ·exact hP d hd
    ·rw[List.mem_singleton.mp hd];exact px,w2⟩
end
end MM
local macro_rules
 | `(tactic| simp_arith [$a,*])=>`(tactic| simp only[↓MM.x_seq,↓MM.x_next,↓MM.x_asg,↓MM.x_ret,↓MM.x_exp,↓MM.x_if,↓MM.x_cmp,↓MM.x_andE,↓MM.x_notE,↓MM.x_ifE,↓MM.x_truB,↓MM.x_tupL,↓MM.x_item0,↓MM.x_item1,↓MM.x_item2,↓MM.x_item3,↓MM.x_iTmp,↓MM.x_gtup,↓MM.x_gcons,↓MM.x_gnil,↓MM.x_slice,↓MM.x_none,↓MM.x_some,↓MM.x_val,↓MM.x_not,↓MM.x_and,↓MM.x_or,↓MM.x_g0,↓MM.x_g1,↓MM.x_g2,↓MM.x_g3,↓MM.x_g4,↓MM.x_g5,↓MM.x_g6,↓MM.x_g7,↓MM.x_g8,MM.x_gvar,↓MM.x_gsub,↓MM.x_v0,↓MM.x_v1,↓MM.x_v2,↓MM.x_v3,↓MM.x_v4,↓MM.x_v5,↓MM.x_v6,↓MM.x_v7,↓MM.x_v8,MM.x_var,↓MM.x_con,↓MM.x_c1,↓MM.x_c2,↓MM.x_call,↓MM.x_nil,↓MM.x_cons,↓MM.x_tup,↓MM.x_disp,↓MM.x_keep,↓MM.x_tmp,↓MM.x_comp,↓MM.x_for,↓MM.x_rng,↓MM.x_iseq,↓MM.x_add,↓MM.x_sub,↓MM.x_mul,↓MM.x_div,↓MM.x_mod,↓MM.x_lt,↓MM.x_le,↓MM.x_gt,↓MM.x_ge,↓MM.x_eq,↓MM.x_ne,↓MM.x_subsT,↓MM.x_subsR,↓MM.x_lenT,↓MM.x_lenR,↓MM.x_intB,↓MM.x_retF,↓MM.wp_run,↓MM.wp_ret,↓MM.wp_chk,↓MM.wp_alloc,MM.andB_t,MM.andB_f,MM.y_dec,MM.y_rs,MM.y_rz,MM.y_js,MM.y_mc,MM.y_mn,MM.y_ca,MM.y_na,MM.y_g0,MM.y_gs,MM.y_s0,MM.y_ss,MM.y_lc,MM.y_ln,Nat.reduceAdd,Nat.reduceSub,Int.reduceLE,Int.reduceLT,MM.y_it,MM.y_at,MM.y_ta,beq_iff_eq,↓MM.x_chain,↓MM.x_append,↓MM.x_pop,↓MM.x_listT,↓MM.x_tupleR,↓MM.x_inTu,↓MM.x_eqStr,↓MM.x_neStr,↓MM.x_isiT,↓MM.x_isiI,↓MM.x_isiB,↓MM.x_max2,↓MM.x_addT,↓MM.x_tmpSub,MM.ite_f,MM.y_nt,MM.y_nf,↓MM.x_subsD,↓MM.x_setD,↓MM.x_ninDc,↓MM.x_dnew,↓MM.x_cdisp,↓MM.x_arev,Nat.reduceLT,Nat.reduceLeDiff,$a,*])
namespace MM
open PySem
noncomputable def pr:List Nat->Nat
 | []=>1
 | b::bs=>b * pr bs
theorem Qjt:∀ (a b:List Nat),eqKs (a.map fun n:Nat=>.int n) (b.map fun n:Nat=>.int n)=decide (a=b)
 | [],[]=>by simp[eqKs]
 | [],_::_=>by simp[eqKs]
 | _::_,[]=>by simp[eqKs]
 | x::xs,y::ys=>by
  rw[List.map_cons,List.map_cons]
  show (eqK (.int x) (.int y) && eqKs _ _)=_
  rw[Qjt xs ys]
  show (decide ((x:Int)=y) && _)=_
  have:decide ((x:Int)=y)=decide (x=y):=decide_eq_decide.mpr (by ac_nf)
  rw[this]
  simp[Bool.decide_and]
theorem Qju:∀ (a:List Nat),intsK (a.map fun n:Nat=>.int n)=some (a.map fun n:Nat=>(n:Int))
 | []=>rfl
 | x::xs=>by rw[List.map_cons,List.map_cons];unfold intsK;rw[Qju xs];rfl
theorem Qjv (a b:List Nat):kOk true (.tup [.tup (a.map fun n:Nat=>.int n),.tup (b.map fun n:Nat=>.int n)])=true:=by
 show (rowsK [.tup (a.map fun n:Nat=>.int n),.tup (b.map fun n:Nat=>.int n)]).isSome=true
 simp only[rowsK,Qju];rfl
theorem Qjw (a b c d:List Nat):eqK (.tup [.tup (a.map fun n:Nat=>.int n),.tup (b.map fun n:Nat=>.int n)]) (.tup [.tup (c.map fun n:Nat=>.int n),.tup (d.map fun n:Nat=>.int n)])=(decide (a=c) && decide (b=d)):=by
 show (eqKs (a.map _) (c.map _) && (eqKs (b.map _) (d.map _) && true))=_
 rw[Qjt,Qjt,Bool.and_true]
section
variable {Q:List D->Sto->Prop}{s:Sto}
theorem Qjx {g : CG} {t : CT} {e : CE} {same : Sto -> Prop} {l0 : Loc} (I : Loc -> Prop) (p : D -> Bool) (f : D -> D) (hs : same s) : ∀ (ds : List D) (l0 : Loc), I l0 -> (∀ d ∈ ds, ∀ l, I l -> ∃ l', (∀ G, wp (g d l) G s = G l' s) /\ I l' /\ (∀ T, wp (t l') T s = T (p d) s) /\ ∀ Q, wp (e l') Q s = Q (f d) s) ->
  ∀ Q,wp (collect g t e same ds l0) Q s=Q ((ds.filter p).map f) s
 | [],l0,_,_,Q=>by
  unfold collect
  rw[Qiq]
  rw[show wp (chkS same) (fun a s'=>wp (ret []) Q s') s=Q [] s from by rw[Qip];unfold chkS;rw[if_pos hs];exact wp_ret]
  rfl
 | d::ds,l0,h0,h,Q=>by
  obtain⟨l',q1,q2,q3,q4⟩:=h d (by simp) l0 h0
  have ih:=Qjx (l0:=l0) I p f hs ds l' q2 fun x hx=>h x (by simp[hx])
  unfold collect
  rw[Qiq,show ∀ R:Unit->Sto->Prop,wp (chkS same) R s=R () s from fun R=>by rw[Qip];unfold chkS;rw[if_pos hs],Qiq,q1,Qiq,q3]
  cases hp:p d with
  | true=>
   rw[if_pos rfl,Qiq,q4,Qiq,ih,wp_ret,List.filter_cons,if_pos hp]
   rfl
  | false=>rw[if_neg (by simp),ih,List.filter_cons,if_neg (by rw[hp];simp)]
end
end MM
namespace MM
noncomputable def cSliceW (a:CE) (lo hi:CO):CE:=fun l=>bnd (a l) fun x=>bnd (lo l) fun i=>bnd (hi l) fun j=>match x with
 | .tup ds=>ret (.tup (cutD ds i j))
 | _=>bad
end MM
namespace HT
open PySem PySem.Spec PyProof.Rows L2
section
variable {prog:Program}{w:World}{A:Around}{E:Value->Shared->Prop}{s:Shared}
theorem getItem_tuple_all {t sl : Addr} {items : Array Value} {vl vu : Value} {lo hi : Option Int} {Q : Value -> Shared -> Prop} (ht : IsTup s.heap t items) (hs : s.heap.IsSliceOf sl vl vu .none) (pl : IsPart vl lo) (pu : IsPart vu hi)
  (hw:sIx items.size 0 lo=0/\sIx items.size items.size hi=items.size) (h:Q (.ref t) s):wpAny (model prog w) A (getItem (.ref t) (.ref sl)) Q E s:=by
 obtain⟨os,hos,hcs,hds⟩:=id hs
 have hTs:s.TypeIs (.ref sl) "slice":=⟨os,hos,hcs⟩
 unfold getItem
 try with_reducible refine wpAny_holding ?_
 first | refine wpAny_bind (wpAny_pure ?_) | skip
 refine wpAny_bind (wpAny_sequenceKey ht.typeIs (by decide) ?_)
 refine wpAny_bind (wpAny_callSpecial?_slot (name:=Str.ofString "__getitem__") ht.typeIs PyProof.Rows.slot_tuple_getitem
  (wpAny_call_entry PyProof.Rows.slot_tuple_getitem ht.typeIs entry_tuple_getitem ?_ (args_tuple_getitem _ _)))
 show wpAny _ _ (Builtin.Tuple.tupleItemsOf (.ref t) >>= _) _ _ s
 refine wpAny_bind (tupleItemsOf_ ht ?_)
 refine wpAny_bind (wpAny_typeOf hTs ?_)
 rw[if_pos (by decide)]
 refine wpAny_bind (Qb4 hs pl pu ?_)
 have hyes:((((sIx items.size 0 lo:Nat):Int) == 0 && (1:Int) == 1 && (sIx items.size items.size hi - sIx items.size 0 lo) == items.size)=true):=by
  rw[hw.1,hw.2];simp
 show wpAny _ _ (if (((sIx items.size 0 lo:Nat):Int) == 0 && (1:Int) == 1 && (sIx items.size items.size hi - sIx items.size 0 lo) == items.size)=true then _ else _) _ _ s
 rw[if_pos hyes]
 unfold Builtin.Tuple.tupleIsExact
 refine wpAny_bind (wpAny_bind (wpAny_typeOf ht.typeIs ?_))
 refine wpAny_pure ?_
 rw[if_pos (by decide)]
 exact wpAny_bind (wpAny_rule (wpAny_pure ⟨_,rfl,wpAny_pure h⟩))
end
end HT
namespace MM
open PySem PySem.Spec PyProof.Rows L2
section
variable {X:Cx}{e:Expr}{fa:CE}{pos:Pos}
noncomputable def rSlW (K:PySem.W.Frag):V->Option Int->Option Int->Hp->VK->Prop:=fun x lo hi H Q=>∃ a xs,x=.ref a/\SqT K H a xs/\((HT.sIx xs.length 0 lo=0/\HT.sIx xs.length xs.length hi=xs.length)->Q (.ref a) H) /\
 (¬ (HT.sIx xs.length 0 lo=0/\HT.sIx xs.length xs.length hi=xs.length)->∀ p,H p=none->Q (.ref p) (upd H p (.tup (cutV xs lo hi))))
theorem Qjy:SlR X (rSlW X.K):=by
 intro pins s σ H x v vl vu lo hi sl Q I rx hs pl pu h
 obtain⟨a,xs,rfl,hx,h1,h2⟩:=h
 by_cases hw:HT.sIx xs.length 0 lo=0/\HT.sIx xs.length xs.length hi=xs.length
 ·cases rx
  obtain⟨its,r,ht,hz⟩:=I.tuple hx
  have hlen:its.toArray.size=xs.length:=by rw[List.size_toArray];exact r.length.symm
  refine⟨"tuple",_,PyProof.Rows.slot_tuple_getitem.lookup,ht.typeIs,?_⟩
  exact HT.getItem_tuple_all ht hs pl pu (by rw[hlen];exact hw) ⟨.ref a,H,I,rfl,h1 hw⟩
 ·exact Qcb pins s σ H _ v vl vu lo hi sl Q I rx hs pl pu ⟨a,xs,rfl,hx,hw,h2 hw⟩
theorem Qjz {ds:List D}{i j:Option Int} (h:MM.sIx ds.length 0 i=0/\MM.sIx ds.length ds.length j=ds.length):cutD ds i j=ds:=by
 unfold cutD
 rw[h.1,h.2,List.drop_zero,Nat.sub_zero,List.take_length]
theorem QjA {lo hi:Option Expr}{fl fh:CO}{p2:Pos} (h:SE X e fa) (hl:SO X lo fl) (hh:SO X hi fh):SE X (.Subscript e (.Slice lo hi none p2) pos) (cSliceW fa fl fh):=
 (Qb9 Qjy h hl hh).of fun σ H Q h_=>h_.el fun ρ l st lr sr p=>⟨ρ,l,st,lr,sr,p.bnd.imp fun d st1 ρ1 H1 x1 s1 p1 v rv=>⟨ρ1,l,st1,lr.mono x1,s1,p1.bnd.imp fun i st2 ρ2 H2 x2 s2 p2=>⟨ρ2,l,st2,(lr.mono x1).mono x2,s2,p2.bnd.imp fun j st3 ρ3 H3 x3 s3 p3=>by
  have rv3:=(rv.mono x2).mono x3
  have e:∀ n d o,HT.sIx n d o=MM.sIx n d o:=fun n d o=>by cases o<;>rfl
  cases rv3 with
  | @tup a vs ds h r=>
   refine⟨a,vs,rfl,h,fun hw=>?_,fun hw q hq=>p3 ρ3 _ (Ex.new hq) (s3.new hq) _ (.tup (SqT.of Qai) ((Reps.cut r i j).mono (Ex.new hq)))⟩
   rw[e,e,r.length]at hw
   dsimp only at p3
   rw[Qjz hw]at p3
   exact p3.ret s3 _ (.tup h r)
  | _=>exact p3.elim⟩⟩⟩
end
noncomputable def rSliceW:RuE:=⟨fun q c e=>match e with
 | .Subscript a (.Slice lo hi none _) p=>if c.tag p 1=true then (q.e c a).bind fun fa=>(optC q c lo).bind fun fl=>(optC q c hi).bind fun fh=>some (cSliceW fa fl fh) else none
 | _=>none,fun {q} hq {X c} g {e r} z=>by
 split at z
 ·simp only[Option.ite_none_right_eq_some,Option.bind_eq_some_iff]at z
  obtain⟨_,fa,ha,fl,hl,fh,hh,z⟩:=z
  cases z
  exact QjA (hq.e g ha) (Qh8 hq g hl) (Qh8 hq g hh)
 ·cases z⟩
end MM
namespace MM
open PySem
structure WkB where
 ds:List D
 same:Sto->Bool
noncomputable abbrev CIB:=Loc->M WkB
mutual
noncomputable def eqDB:D->D->Bool
 | .non,.non=>true
 | .bl a,.bl b=>a == b
 | .int i,.int j=>decide (i=j)
 | .str x,.str y=>decide (x=y)
 | .tup xs,.tup ys=>eqLB xs ys
 | .ref a,.ref b=>decide (a=b)
 | .dic a,.dic b=>decide (a=b)
 | _,_=>false
noncomputable def eqLB:List D->List D->Bool
 | [],[]=>true
 | x::xs,y::ys=>eqDB x y && eqLB xs ys
 | _,_=>false
end
mutual
noncomputable def closD:D->Bool
 | .ref _=>false
 | .dic _=>false
 | .exn _ _=>false
 | .tup ds=>closL ds
 | .lit ds=>closL ds
 | _=>true
noncomputable def closL:List D->Bool
 | []=>true
 | d::ds=>closD d && closL ds
end
noncomputable def andD:D->D->M D
 | .int i,.int j=>chk (0<=i/\0<=j) (ret (.int ((i.toNat &&& j.toNat:Nat):Int)))
 | _,_=>bad





















end MM
namespace MM
open PySem PySem.W PyProof.Rows L2
section
variable {K:Frag}{ρ ρ':List Addr}{H H1:Hp}{st:Sto}



















end
section
variable {X:Cx}{sc:Scope}{st:Stmt}{e:Expr}{es:List Expr}{pos p:Pos}{c c':CS}{ca ca':CA}{x:Str}{g:CG}{b:CS}{t:CT}{ce:CE}{i:CI}{iB:CIB}{n:Nat}{ix:List Nat}
theorem QjD:OpR X (binaryOp .BitAnd) (rOf X.K andD):=Qbh.of fun x y H Q h=>by
 obtain⟨i,j,ρ,st,rfl,rfl,sr,p⟩:=Qei (by intro d e;cases d<;>cases e<;>first | exact .inl ⟨_,_,rfl,rfl⟩ | exact .inr rfl) h
 obtain⟨⟨h1,h2⟩,p2⟩:=p.chk
 refine⟨_,_,rfl,rfl,?_⟩
 have e:Builtin.bitAnd i j=((i.toNat &&& j.toNat:Nat):Int):=by
  unfold Builtin.bitAnd
  rw[decide_eq_true h1,decide_eq_true h2]
 dsimp only
 rw[e]
 exact p2.ret sr _ (.int _)
end
end MM
namespace MM
open PySem PySem.Spec PyProof.Rows L2
section
theorem bs {prog:Program}{w:World}{A:Around}{E:Value->Shared->Prop}{s:Shared}{l:Addr}{Q:Value × List Value->Shared->Prop} (h:Q (.builtin "list.__getattribute__",[.ref l]) s):wpAny (model prog w) A (bindSpecial (.builtin "list.__getattribute__") (.ref l)) Q E s:=by
 unfold bindSpecial
 have hb:typeOf (.builtin "list.__getattribute__")=pure (.type "wrapper_descriptor"):=by rfl
 rw[hb]
 refine wpAny_bind (wpAny_pure ?_)
 exact wpAny_pure h
variable {prog:Program}{w:World}
end
section
variable {X:Cx}{pins:List (Addr × Obj)}{s:Shared}{σ:St}{H:Hp}{ρ:List Addr}
theorem two_of {k:Int}{w:V}{us:List Value} (r:Vals [.int k,w] us):∃ x y,us=[x,y]/\RelV (.int k) x/\RelV w y:=by
 cases r with
 | cons r1 r=>
  cases r with
  | cons r2 r=>cases r;exact⟨_,_,rfl,r1,r2⟩
end
end MM
namespace MM
noncomputable def noM {α:Type} (m:M α):M α:=fun s=>match m s with
 | .ok a s'=>.ok a s'
 | _=>.bad
noncomputable def noX (c:CS):CS:=fun l=>noM (c l)
noncomputable def noT (c:CT):CT:=fun l=>noM (c l)
noncomputable def noA (c:CA):CA:=fun l=>noM (c l)
noncomputable def noI (c:CI):CI:=fun l=>noM (c l)
noncomputable def noG (c:CG):CG:=fun d l=>noM (c d l)
noncomputable def throwX (d:D):M Flw:=fun s=>.exc d s
noncomputable def xRaise (x f:PySem.Str) (e:CE):CS:=fun l=>bnd (noM (e l)) fun d=>throwX (.exn x [.str f,d])
noncomputable def xRaise0 (x:PySem.Str):CS:=fun _=>throwX (.exn x [])
inductive wpx {α:Type} (m:M α) (Q:α->Sto->Prop) (W:D->Sto->Prop) (s:At Q):Prop
 | ok (a:α) (s':Sto) (h:m s=.ok a s') (q:Q a s'):wpx m Q W s
 | exc (d:D) (s':Sto) (h:m s=.exc d s') (q:W d s'):wpx m Q W s
section
variable {α β:Type}{m:M α}{Q:α->Sto->Prop}{W:D->Sto->Prop}{s:Sto}
theorem QjE (h:wpx m Q (fun _ _=>False) s):wp m Q s:=by
 rcases h with ⟨a,s',e,q⟩ | ⟨_,_,_,q⟩
 ·exact⟨a,s',e,q⟩
 ·exact q.elim
theorem QjF (h:wp m Q s):wpx (noM m) Q W s:=by
 obtain⟨a,s',e,q⟩:=h
 exact .ok a s' (by unfold noM;rw[e]) q
theorem QjG {f:α->M β}{R:β->Sto->Prop} (h:wpx m (fun a s'=>wpx (f a) R W s') W s):wpx (bnd m f) R W s:=by
 rcases h with ⟨a,s',e,q⟩ | ⟨d,s',e,q⟩
 ·rcases q with ⟨b,s2,e2,q⟩ | ⟨d,s2,e2,q⟩
  ·exact .ok b s2 (by unfold bnd;rw[e];exact e2) q
  ·exact .exc d s2 (by unfold bnd;rw[e];exact e2) q
 ·exact .exc d s' (by unfold bnd;rw[e]) q
theorem QjH {R:α->Sto->Prop}{V:D->Sto->Prop} (h:wpx m Q W s) (h1:∀ a s',Q a s'->R a s') (h2:∀ d s',W d s'->V d s'):wpx m R V s:=by
 rcases h with ⟨a,s',e,q⟩ | ⟨d,s',e,q⟩
 ·exact .ok a s' e (h1 a s' q)
 ·exact .exc d s' e (h2 d s' q)
theorem QjI {a:α} (h:Q a s):wpx (ret a) Q W s:=.ok a s rfl h
theorem QjJ {d:D}{Q:Flw->Sto->Prop} (h:W d s):wpx (throwX d) Q W s:=.exc d s rfl h
end
section
variable {Q:Flw->Sto->Prop}{W:D->Sto->Prop}{s:Sto}{l:Loc}{a b:CS}
theorem QjK (h : wpx (a l) (fun f s' => match f with
  | .next l'=>wpx (b l') Q W s'
  | f=>Q f s') W s):wpx (sSeq a b l) Q W s:=QjG (QjH h (fun f s' q=>by cases f<;>first | exact q | exact QjI q) fun _ _ q=>q)
theorem QjL (h:Q (.next l) s):wpx (sNext l) Q W s:=QjI h
theorem QjM {c:CS} (h:wp (c l) Q s):wpx (noX c l) Q W s:=QjF h
theorem QjN {t:CT} (h:wp (t l) (fun k s'=>if k=true then wpx (a l) Q W s' else wpx (b l) Q W s') s):wpx (sIf (noT t) a b l) Q W s:=
 QjG (QjH (QjF h) (fun k s' q=>by cases k<;>exact q) fun _ _ q=>q)
theorem QjO {n : Nat} {body : CS} {ds : List D} {R : D -> Sto -> Prop} (h : wpx (body (ds.map some ++ List.replicate (n - ds.length) none)) (fun f s' => match f with
  | .ret d=>R d s'
  | .next _=>R .non s'
  | _=>False) W s):wpx (runDef n body ds) R W s:=QjG (QjH h (fun f s' q=>by cases f<;>first | exact QjI q | exact q.elim) fun _ _ q=>q)
end
open PySem PyProof.Rows
section
variable {M:Model}{A:Around}{E:Value->Shared->Prop}{s:Shared}
structure Grew (fs:List Addr) (e:Addr) (c:Value) (d:Option Addr) (sl:Array (Option Value)) (vs:Array Value) (L T:Addr) (h h':Heap):Prop where
 keep:∀ b o,b≠e->b∉fs->h.get? b=some o->h'.get? b=some o
 slot:∀ b o,b≠e->h.get? b=some o->∃ sl,h'.get? b=some { o with slots:=sl }
 new:h.get? T=none
 ne:T≠e
 ex:h'.get? e=some ⟨c,d,.fields (vs.setIfInBounds 1 (.ref T)),sl⟩
 tr:∃ ts,h'.get? T=some ⟨.type "traceback",none,.fields ts,#[]⟩/\ts[3]?=some (rawInt L)
theorem QjP {base : Heap} {env : Env} {outer : List Env} {L e : Addr} {c : Value} {d : Option Addr} {sl : Array (Option Value)} {vs : Array Value} {head : Value} {hadNext : Bool} {Q : Unit -> Shared -> Prop}
  (hfr:A.frames=some (env::outer)) (hl:s.heap.FunFrames base (env::outer)) (hf:env.frame=some L) (he:s.heap.get? e=some ⟨c,d,.fields vs,sl⟩) (hsz:1 < vs.size)
  (h:∀ h' T,Grew ((env::outer).filterMap (·.frame)) e c d sl vs L T s.heap h'->Q () { s with heap:=h' }):
  wpAny M A (do let a <- frameOf env;let pl <- entryPlaceOf L hadNext;let b <- EntryCells.newEntry head a .none (rawInt L) .none pl;setField (.ref e) 1 b) Q E s:=by
 have hene:e∉(env::outer).filterMap (·.frame):=fun hm=>by
  obtain⟨_,o,ho,hnf⟩:=hl.mem hm
  rw[he]at ho;cases ho
  exact hnf vs rfl
 refine wpAny_bind (wpAny_frameOf_fun hfr hl hf fun h1 hs1=>?_)
 refine wpAny_bind (wpAny_entryPlaceOf fun pl hpl=>?_)
 unfold EntryCells.newEntry newFields
 refine wpAny_bind (wpAny_newObj_type ?_ (hpl.sizeOk5 _ _ _ _ _))
 have he1:=(hs1.2.1 e hene).trans he
 generalize hts:([head,Value.ref L,Value.none,rawInt L,Value.none]++(if pl.isEmpty then List.replicate 6 Value.none else pl)).toArray=ts
 have h3:ts[3]?=some (rawInt L):=by rw[<- hts];simp
 have he2:=Heap.get?_push_of_some (h:=h1) { cls:=.type "traceback",dict:=none,data:=.fields ts } he1
 refine wpAny_setField he2 rfl hsz (h _ h1.objs.size ?_)
 have hTe:h1.objs.size≠e:=Nat.ne_of_gt (Heap.lt_size he1)
 have sz:∀ {b:Addr}{o:Obj},h1.get? b=some o->h1.objs.size≠b:=fun q=>Nat.ne_of_gt (Heap.lt_size q)
 refine⟨fun b o hbe hbf hb=>?_,fun b o hbe hb=>?_,?_,hTe,?_,ts,?_,h3⟩
 ·rw[Heap.get?_update_other _ _ (Ne.symm hbe)]
  exact Heap.get?_push_of_some _ ((hs1.2.1 b hbf).trans hb)
 ·obtain⟨sl',e1⟩:=hs1.2.2 b o hb
  refine⟨sl',?_⟩
  rw[Heap.get?_update_other _ _ (Ne.symm hbe)]
  exact Heap.get?_push_of_some _ e1
 ·cases z:s.heap.get? h1.objs.size with
  | none=>rfl
  | some o=>
   obtain⟨_,e1⟩:=hs1.2.2 _ o z
   exact absurd rfl (sz e1)
 ·exact Heap.get?_update_self (Obj.mapFields (·.setIfInBounds 1 (Value.ref h1.objs.size))) he2 rfl
 ·rw[Heap.get?_update_other _ _ (Ne.symm hTe)]
  exact Heap.get?_push_size h1 rfl
noncomputable def Fly (h:Heap) (e:Addr) (vs:Array Value):Prop:=vs[1]?=some .none\/∃ T ts c d sl,vs[1]?=some (.ref T)/\T≠e/\h.get? T=some ⟨c,d,.fields ts,sl⟩/\ts[3]?=some .none
structure Gone (fs:List Addr) (e:Addr) (c:Value) (d:Option Addr) (sl:Array (Option Value)) (vs:Array Value) (f:Value) (h h':Heap):Prop where
 keep:∀ b o,b≠e->vs[1]?≠some (.ref b)->b∉fs->h.get? b=some o->h'.get? b=some o
 slot:∀ b o,b≠e->vs[1]?≠some (.ref b)->h.get? b=some o->∃ sl,h'.get? b=some { o with slots:=sl }
 there:∀ b o,h.get? b=some o->∃ o',h'.get? b=some o'
 ex:∃ vs' T ts c' d' sl',h'.get? e=some ⟨c,d,.fields vs',sl⟩/\vs'[1]?=some (.ref T)/\T≠e/\h.get? T=none/\h'.get? T=some ⟨c',d',.fields ts,sl'⟩/\ts[3]?=some f/\vs'[2]?=vs[2]?
theorem Grew.gone {fs:List Addr}{e L T:Addr}{c:Value}{d:Option Addr}{sl:Array (Option Value)}{vs:Array Value}{h h':Heap} (g:Grew fs e c d sl vs L T h h') (hsz:1 < vs.size):Gone fs e c d sl vs (rawInt L) h h':=by
 obtain⟨ts,t1,t2⟩:=g.tr
 refine⟨fun b o h1 _ h2 q=>g.keep b o h1 h2 q,fun b o h1 _ q=>g.slot b o h1 q,fun b o q=>?_,_,T,ts,_,_,_,g.ex,?_,g.ne,g.new,t1,t2,by simp⟩
 ·by_cases z:b=e
  ·subst z;exact⟨_,g.ex⟩
  ·obtain⟨_,q2⟩:=g.slot b o z q;exact⟨_,q2⟩
 ·simp[hsz]
theorem QjQ {base : Heap} {env : Env} {outer : List Env} {L e : Addr} {c : Value} {d : Option Addr} {sl : Array (Option Value)} {vs : Array Value} {Q : Unit -> Shared -> Prop}
  (hfr:A.frames=some (env::outer)) (hl:s.heap.FunFrames base (env::outer)) (hf:env.frame=some L) (he:s.heap.get? e=some ⟨c,d,.fields vs,sl⟩) (hv:Fly s.heap e vs)
  (h:∀ h',Gone ((env::outer).filterMap (·.frame)) e c d sl vs (rawInt L) s.heap h'->Q () { s with heap:=h' }):wpAny M A (noteFrame (.ref e) env) Q E s:=by
 unfold noteFrame
 simp only[hf]
 rcases hv with h1 | ⟨T,ts,cT,dT,slT,h1,hTe,hT,h3⟩
 ·have hsz:=(Array.getElem?_eq_some_iff.mp h1).1
  refine wpAny_bind (wpAny_field he rfl h1 ?_)
  rw[if_neg (by decide)]
  exact QjP hfr hl hf he hsz fun h' T g=>h h' (g.gone hsz)
 ·have hsz:=(Array.getElem?_eq_some_iff.mp h1).1
  refine wpAny_bind (wpAny_field he rfl h1 ?_)
  rw[if_pos (by simp)]
  refine wpAny_bind (wpAny_field hT rfl h3 ?_)
  rw[if_neg (by simp[rawInt])]
  refine wpAny_bind (wpAny_setField hT rfl (Array.getElem?_eq_some_iff.mp h3).1 ?_)
  have oth:∀ b,b≠T->(s.heap.update T (Obj.mapFields (·.setIfInBounds 3 Value.none))).get? b=s.heap.get? b:=fun b hb=>Heap.get?_update_other _ _ (Ne.symm hb)
  have hT2:=Heap.get?_update_self (Obj.mapFields (·.setIfInBounds 3 Value.none)) hT rfl
  refine QjP (s:={ s with heap:=s.heap.update T (Obj.mapFields (·.setIfInBounds 3 Value.none)) }) hfr (hl.of_keeps fun b o hb hnf=>⟨o,?_,rfl⟩) hf ((oth e (Ne.symm hTe)).trans he) hsz fun h' T' g=>h h' ?_
  ·rw[oth b fun z=>?_]
   ·exact hb
   ·subst z;rw[hT]at hb;cases hb;exact hnf ts rfl
  ·have nT:∀ b,vs[1]?≠some (.ref b)->b≠T:=fun b hb z=>hb (by rw[z];exact h1)
   obtain⟨ts',t1,t2⟩:=g.tr
   have nw:s.heap.get? T'=none:=by
    by_cases z:T'=T
    ·have:=g.new;rw[z,hT2]at this;cases this
    ·have:=g.new;rw[oth T' z]at this;exact this
   refine⟨fun b o hbe hbT hbf q=>g.keep b o hbe hbf ((oth b (nT b hbT)).trans q),fun b o hbe hbT q=>g.slot b o hbe ((oth b (nT b hbT)).trans q),fun b o q=>?_,_,T',ts',_,_,_,g.ex,by simp[hsz],g.ne,nw,t1,t2,by simp⟩
   by_cases z:b=e
   ·subst z;exact⟨_,g.ex⟩
   ·by_cases y:b=T
    ·subst y;obtain⟨_,q2⟩:=g.slot _ _ z hT2;exact⟨_,q2⟩
    ·obtain⟨_,q2⟩:=g.slot b o z ((oth b y).trans q);exact⟨_,q2⟩
theorem QjR {e T : Addr} {c cT : Value} {d dT : Option Addr} {sl slT : Array (Option Value)} {vs ts : Array Value} {Q : Unit -> Shared -> Prop} (he : s.heap.get? e = some ⟨c, d, .fields vs, sl⟩) (h1 : vs[1]? = some (.ref T)) (hT : s.heap.get? T = some ⟨cT, dT, .fields ts, slT⟩) (h3 : 3 < ts.size)
  (h:Q () { s with heap:=s.heap.update T (Obj.mapFields (·.setIfInBounds 3 .none)) }):wpAny M A (setFlight (.ref e) none) Q E s:=by
 unfold setFlight
 refine wpAny_bind (wpAny_field he rfl h1 ?_)
 rw[if_pos (by simp)]
 exact wpAny_setField hT rfl h3 h
theorem Gone.calm {fs:List Addr}{e:Addr}{c f:Value}{d:Option Addr}{sl:Array (Option Value)}{vs:Array Value}{h:Heap}{Q:Unit->Shared->Prop} (g:Gone fs e c d sl vs f h s.heap) (q:∀ h',Gone fs e c d sl vs .none h h'->Q () { s with heap:=h' }):wpAny M A (setFlight (.ref e) none) Q E s:=by
 obtain⟨vs',T,ts,c',d',sl',e1,e2,e3,e4,e5,e6,e7⟩:=g.ex
 have h3:=(Array.getElem?_eq_some_iff.mp e6).1
 have oth:∀ b,b≠T->(s.heap.update T (Obj.mapFields (·.setIfInBounds 3 Value.none))).get? b=s.heap.get? b:=fun b hb=>Heap.get?_update_other _ _ (Ne.symm hb)
 have nb:∀ b o,h.get? b=some o->b≠T:=fun b o z y=>by rw[y,e4]at z;cases z
 have hT2:=Heap.get?_update_self (Obj.mapFields (·.setIfInBounds 3 Value.none)) e5 rfl
 refine QjR e1 e2 e5 h3 (q _ ⟨fun b o h1 h2 h3 z=>(oth b (nb b o z)).trans (g.keep b o h1 h2 h3 z),fun b o h1 h2 z=>?_,fun b o z=>?_,vs',T,_,_,_,_,(oth e (Ne.symm e3)).trans e1,e2,e3,e4,hT2,by simp[h3],e7⟩)
 ·obtain⟨sl,q2⟩:=g.slot b o h1 h2 z;exact⟨sl,(oth b (nb b o z)).trans q2⟩
 ·obtain⟨o',q2⟩:=g.there b o z;exact⟨o',(oth b (nb b o z)).trans q2⟩
theorem QjS {base : Heap} {env : Env} {outer : List Env} {L e : Addr} {c : Value} {d : Option Addr} {sl : Array (Option Value)} {vs : Array Value} {Q : Unit -> Shared -> Prop}
  (hfr:A.frames=some (env::outer)) (hl:s.heap.FunFrames base (env::outer)) (hf:env.frame=some L) (he:s.heap.get? e=some ⟨c,d,.fields vs,sl⟩) (hv:Fly s.heap e vs)
  (h:∀ h',Gone ((env::outer).filterMap (·.frame)) e c d sl vs .none s.heap h'->Q () { s with heap:=h' }):wpAny M A (leaving env (.ref e)) Q E s:=by
 unfold leaving
 exact wpAny_bind (QjQ hfr hl hf he hv fun h' g=>Gone.calm (s:={ s with heap:=h' }) g fun h2 g2=>h h2 g2)
end
open PySem.W L2
noncomputable def Fl (h0:Heap) (H0 H:Hp) (h:Heap) (a:Addr):Prop:=h0.get? a=none/\(∀ o u,H0 a≠some (.frz o u))/\∃ c d vs sl,H a=some (.frz ⟨c,d,.fields vs,sl⟩ (.own a)) /\
 (vs[1]?=some .none\/∃ T ts c' d' sl',vs[1]?=some (.ref T)/\T≠a/\h0.get? T=none/\H T=none/\h.get? T=some ⟨c',d',.fields ts,sl'⟩/\ts[3]?=some .none)
noncomputable def CX1 (P:Program) (w:World):CXT:=fun outer H s E e s'=>∃ a H',e=.ref a/\s'.os=s.os/\AllBare s'.gens/\Un (frs outer) [] H H' s.heap s'.heap/\HOk P w H' s'.heap/\Fl s.heap H H' s'.heap a/\E (.ref a) none H'
noncomputable def Turned (a:Addr) (H H':Hp):Prop:=∃ c d vs vs' sl,H a=some (.frz ⟨c,d,.fields vs,sl⟩ (.own a))/\vs'[2]?=vs[2]?/\H'=upd H a (.frz ⟨c,d,.fields vs',sl⟩ (.own a))
section
variable {X:Cx}{pins:List (Addr × Obj)}{σ:L2.St}{H:Hp}{s:Shared}{a:Addr}
theorem QjT {P : Program} {w : World} {h h' : Heap} {fs : List Addr} {c f : Value} {d : Option Addr} {sl : Array (Option Value)} {vs vs' : Array Value} (hok : HOk P w H h) (hfs : ∀ b ∈ fs, H b = none) (hH : H a = some (.frz ⟨c, d, .fields vs, sl⟩ (.own a))) (hT : ∀ T, vs[1]? = some (.ref T) -> H T = none) (g : Gone fs a c d sl vs f h h') (e1 : h'.get? a = some ⟨c, d, .fields vs', sl⟩) :
  HOk P w (upd H a (.frz ⟨c,d,.fields vs',sl⟩ (.own a))) h':=by
 intro b o e
 by_cases z:b=a
 ·subst z
  rw[Qai]at e;cases e
  exact⟨e1,_,e1⟩
 ·rw[Qaj z]at e
  have kp:∀ c' u o',H c'=some o'->c'≠a->h.get? c'=some u->h'.get? c'=some u:=fun c' u o' h1 h2 h3=>g.keep c' u h2 (fun y=>by rw[hT c' y]at h1;cases h1) (fun y=>by rw[hfs c' y]at h1;cases h1) h3
  refine (hok b o e).stay (fun c' u hb h1=>?_) (fun c' h1=>?_) (fun c' xs h1=>?_)
  ·rcases hb with y | y
   ·subst y;exact kp _ u o e z h1
   ·exact kp c' u _ y (fun q=>by rw[q,hH]at y;cases y) h1
  ·rw[Qaj fun q=>by rw[q,hH]at h1;cases h1];exact h1
  ·rw[Qaj fun q=>by rw[q,hH]at h1;cases h1];exact h1
theorem Fl.fly {h0:Heap}{H0:Hp}{h:Heap} (f:Fl h0 H0 H h a):∃ c d vs sl,H a=some (.frz ⟨c,d,.fields vs,sl⟩ (.own a))/\Fly h a vs/\(∀ T,vs[1]?=some (.ref T)->H T=none/\h0.get? T=none):=by
 obtain⟨_,_,c,d,vs,sl,e,z⟩:=f
 refine⟨c,d,vs,sl,e,?_,fun T h1=>?_⟩
 ·rcases z with z | ⟨T,ts,c',d',sl',z1,z2,z3,z4,z5,z6⟩
  ·exact .inl z
  ·exact .inr ⟨T,ts,c',d',sl',z1,z2,z5,z6⟩
 ·rcases z with z | ⟨T',ts,c',d',sl',z1,z2,z3,z4,z5,z6⟩
  ·rw[z]at h1;cases h1
  ·rw[z1]at h1;cases h1;exact⟨z4,z3⟩
end
section
variable {P:Program}{w:World}{K:Frag}{mg:Str->Option Value}{base:Heap}{N:List Str}{qual:Str}{scope:Scope}{f:Addr}{cd:Value}{A:Around}{outer:List Env}{s:Shared}{H:Hp}{E:XK}
variable {pins:List (Addr × Obj)}{σ:L2.St}{H':Hp}{s':Shared}{a:Addr}
theorem QjU (I : Inv (cxOf (CX1 P w) P w K mg base N qual scope f cd A outer s H E) pins σ H' s') (fl : Fl s.heap H H' s'.heap a) (hE : ∀ H2, Turned a H' H2 -> E (.ref a) none H2) :
  (cxOf (CX1 P w) P w K mg base N qual scope f cd A outer s H E).xe (.ref a) s':=by
 obtain⟨c,d,vs,sl,hH,hv,hT⟩:=fl.fly
 obtain⟨ga,_⟩:=(show ObjOk P w H' s'.heap a (.frz ⟨c,d,.fields vs,sl⟩ (.own a)) from I.hok a _ hH)
 have hfr:=I.ok.frames
 have hst:=I.stack
 have hsf:=I.stkFree
 show wpAny (model P w) (A.deeper (envOfC qual scope s.heap.objs.size f cd)) (leaving (envOfC qual scope s.heap.objs.size f cd) (.ref a)) _ _ s'
 refine QjS hfr hst rfl ga hv fun h2 g=>?_
 obtain⟨vs',T,ts,c',d',sl',e1,e2,e3,e4,e5,e6,e7⟩:=g.ex
 have th:∀ b o,s.heap.get? b=some o->∃ o',s'.heap.get? b=some o':=fun b o q=>I.base.there b o q (by intro z;cases z)
 have inf:∀ b o,s.heap.get? b=some o->b∉frs outer->b∉(envOfC qual scope s.heap.objs.size f cd::outer).filterMap (·.frame):=fun b o q hb z=>by
  rw[List.filterMap_cons]at z
  rcases List.mem_cons.mp (show b∈s.heap.objs.size::frs outer from z) with z | z
  ·exact absurd (Heap.lt_size q) (by rw[z];exact Nat.lt_irrefl _)
  ·exact hb z
 have nea:∀ b o,s.heap.get? b=some o->b≠a:=fun b o q z=>by rw[z,fl.1]at q;cases q
 have neT:∀ b o,s.heap.get? b=some o->vs[1]?≠some (.ref b):=fun b o q z=>by rw[(hT b z).2]at q;cases q
 have nw:∀ b,b≠a->upd H' a (.frz ⟨c,d,.fields vs',sl⟩ (.own a)) b=H' b:=fun b z=>Qaj z
 refine⟨a,upd H' a (.frz ⟨c,d,.fields vs',sl⟩ (.own a)),rfl,I.os,I.bare,⟨fun b o q n hb _=>?_,fun b o q n hb _=>?_,fun b o q n _=>?_,fun b o q _=>?_,fun b xs q=>?_,fun b o u q=>?_,fun b ps q=>?_⟩,QjT I.hok hsf hH (fun T z=>(hT T z).1) g e1,⟨fl.1,fl.2.1,c,d,vs',sl,Qai,.inr ⟨T,ts,c',d',sl',e2,e3,?_,?_,e5,e6⟩⟩,hE _ ⟨c,d,vs,vs',sl,hH,e7,rfl⟩⟩
 ·exact g.keep b o (nea b o q) (neT b o q) (inf b o q hb) (I.base.keep b o q n hb (by intro z;cases z))
 ·obtain⟨sl1,q1⟩:=I.base.slot b o q n hb (by intro z;cases z)
  obtain⟨sl2,q2⟩:=g.slot b _ (nea b o q) (neT b o q) q1
  exact⟨sl2,q2⟩
 ·rw[nw b (nea b o q)];exact I.base.free b o q n (by intro z;cases z)
 ·obtain⟨o',q1⟩:=th b o q;exact g.there b o' q1
 ·have:=I.base.tups b xs q
  rw[nw b fun z=>by rw[z,hH]at this;cases this];exact this
 ·have:=I.base.frzs b o u q
  rw[nw b fun z=>by rw[z]at q;exact fl.2.1 o u q];exact this
 ·obtain⟨more,q1⟩:=I.base.tbls b ps q
  exact⟨more,by rw[nw b fun z=>by rw[z,hH]at q1;cases q1];exact q1⟩
 ·cases z:s.heap.get? T with
  | none=>rfl
  | some o=>obtain⟨o',q⟩:=th T o z;rw[e4]at q;cases q
 ·rw[nw T e3]
  cases z:H' T with
  | none=>rfl
  | some o=>obtain⟨ob,q⟩:=Qgi (I.hok T o z);rw[e4]at q;cases q
end
section
variable {K:Frag}{ρ ρ1:List Addr}{H H1 H2:Hp}{st:Sto}{a:Addr}
noncomputable abbrev XW:=D->Sto->List Addr->Hp->Prop
noncomputable def PostX {α:Type} (K:Frag) (ρ:List Addr) (H:Hp) (r:Rs α) (R:α->Sto->List Addr->Hp->Prop) (W:XW):Prop:=match r with
 | .ok a st=>∀ ρ' H',Ex ρ H ρ' H'->SR K ρ' H' st->R a st ρ' H'
 | .exc d st=>∀ ρ' H',Ex ρ H ρ' H'->SR K ρ' H' st->W d st ρ' H'
 | .bad=>False
variable {α β:Type}{W:XW}
theorem PostX.left {r:Rs α}{R:α->Sto->List Addr->Hp->Prop} (x:Ex ρ H ρ1 H1) (h:PostX K ρ H r R W):PostX K ρ1 H1 r R W:=by
 cases r with
 | ok a st=>exact fun ρ' H' y s=>h ρ' H' (x.trans y) s
 | exc _ _=>exact fun ρ' H' y s=>h ρ' H' (x.trans y) s
 | bad=>exact h
theorem PostX.imp {r:Rs α}{R R':α->Sto->List Addr->Hp->Prop} (h:PostX K ρ H r R W) (f:∀ a st ρ' H',Ex ρ H ρ' H'->SR K ρ' H' st->R a st ρ' H'->R' a st ρ' H'):PostX K ρ H r R' W:=by
 cases r with
 | ok a st=>exact fun ρ' H' y s=>f a st ρ' H' y s (h ρ' H' y s)
 | exc _ _=>exact h
 | bad=>exact h
theorem PostX.bnd {m:M α}{f:α->M β}{R:β->Sto->List Addr->Hp->Prop} (h:PostX K ρ H (bnd m f st) R W):PostX K ρ H (m st) (fun a st' ρ' H'=>PostX K ρ' H' (f a st') R W) W:=by
 unfold MM.bnd at h
 cases e:m st with
 | ok a s'=>
  rw[e]at h
  exact fun ρ' H' y s=>PostX.left y h
 | exc _ _=>rw[e]at h;exact h
 | bad=>rw[e]at h;exact h
theorem PostX.ret {x:α}{R:α->Sto->List Addr->Hp->Prop} (h:PostX K ρ H (MM.ret x st) R W) (s:SR K ρ H st):R x st ρ H:=h ρ H Ex.refl s
theorem PostX.no {m:M α}{R:α->Sto->List Addr->Hp->Prop} (h:PostX K ρ H (noM m st) R W):Post K ρ H (m st) R:=by
 unfold noM at h
 cases e:m st with
 | ok a s'=>rw[e]at h;exact h
 | exc _ _=>rw[e]at h;exact h
 | bad=>rw[e]at h;exact h
theorem Turned.ne {b:Addr}{o:HO} (t:Turned a H H2) (h:H b=some o) (hn:∀ q,o≠.frz q (.own a)):H2 b=some o:=by
 obtain⟨c,d,vs,vs',sl,e,e7,rfl⟩:=t
 by_cases z:b=a
 ·subst z;rw[h]at e;cases e;exact absurd rfl (hn _)
 ·rw[Qaj z];exact h
theorem Turned.knd {b:Addr}{o:HO} (t:Turned a H H2) (h:H b=some o):∃ o',H2 b=some o'/\kO o'=kO o:=by
 obtain⟨c,d,vs,vs',sl,e,e7,rfl⟩:=t
 by_cases z:b=a
 ·subst z;rw[h]at e;cases e;exact⟨_,Qai,rfl⟩
 ·exact⟨o,by rw[Qaj z];exact h,rfl⟩
mutual
theorem Rep.turn (t:Turned a H H2):∀ {v:V}{d:D},Rep K ρ H v d->Rep K ρ H2 v d
 | _,_,.non=>.non
 | _,_,.bl b=>.bl b
 | _,_,.int i=>.int i
 | _,_,.str y=>.str y
 | _, _, .tup h r => .tup (by
   rcases h with (h | ⟨o,h⟩) | h
   ·exact .inl (.inl (t.ne h fun _ z=>(nomatch z)))
   ·exact .inl (.inr ⟨o,t.ne h fun _ z=>(nomatch z)⟩)
   ·exact .inr h) (Reps.turn t r)
 | _, _, .lit h r => .lit (by
   rcases h with ⟨o,h⟩ | h
   ·exact .inl ⟨o,t.ne h fun _ z=>(nomatch z)⟩
   ·exact .inr h) (Reps.turn t r)
 | _,_,.ref ⟨o,ho,hk⟩ h=>.ref (let ⟨o',e,k⟩:=t.knd ho;⟨o',e,k.trans hk⟩) h
 | _,_,.dic ⟨o,ho,hk⟩ h=>.dic (let ⟨o',e,k⟩:=t.knd ho;⟨o',e,by rw[k];exact hk⟩) h
 | _, _, .exn0 (a := b) g ⟨o, ho, hc⟩ => .exn0 g (by
   obtain⟨c,d,vs,vs',sl,e,e7,rfl⟩:=t
   by_cases z:b=a
   ·subst z;rw[ho]at e;cases e;exact⟨_,Qai,hc⟩
   ·exact⟨o,by rw[Qaj z];exact ho,hc⟩)
 | _, _, .exn (a := b) g ⟨o, ho, hc⟩ h2 r => .exn g (by
   obtain⟨c,d,vs,vs',sl,e,e7,rfl⟩:=t
   by_cases z:b=a
   ·subst z;rw[ho]at e;cases e;obtain⟨h1,h2',us,h3,h4⟩:=hc;cases h3;exact⟨_,Qai,h1,h2',_,rfl,h4.imp id fun z=>by rw[e7];exact z⟩
   ·exact⟨o,by rw[Qaj z];exact ho,hc⟩) (t.ne h2 fun _ z=>(nomatch z)) (Rep.turn t r)
theorem Reps.turn (t:Turned a H H2):∀ {vs:List V}{ds:List D},Reps K ρ H vs ds->Reps K ρ H2 vs ds
 | _,_,.nil=>.nil
 | _,_,.cons r q=>.cons (Rep.turn t r) (Reps.turn t q)
end
theorem SR.turn (t:Turned a H H2) (s:SR K ρ H st):SR K ρ H2 st:=⟨s.len,s.nd,fun n b o e1 e2=>by
 have q:=s.ob n b o e1 e2
 cases o with
 | lst ds=>obtain⟨vs,h,r⟩:=q;exact⟨vs,t.ne h fun _ z=>(nomatch z),r.turn t⟩
 | dct k kvs=>
  cases k with
  | false=>obtain⟨es,h,r⟩:=q;exact⟨es,t.ne h fun _ z=>(nomatch z),Paired.mapS r fun _ _ z=>⟨z.1,z.2.turn t⟩⟩
  | true=>obtain⟨es,h,r⟩:=q;exact⟨es,t.ne h fun _ z=>(nomatch z),Paired.mapS r fun _ _ z=>⟨z.1,z.2.1.turn t,z.2.2.turn t⟩⟩⟩
theorem Ex.turn (t:Turned a H1 H2) (x:Ex ρ H ρ1 H1) (n:∀ o u,H a≠some (.frz o u)):Ex ρ H ρ1 H2:=by
 have key:∀ b o,H b=some o->H1 b=some o->H2 b=some o:=fun b o h h1=>by
  obtain⟨c,d,vs,vs',sl,e,e7,rfl⟩:=t
  by_cases z:b=a
  ·subst z;rw[h1]at e;cases e;exact absurd h (n _ _)
  ·rw[Qaj z];exact h1
 refine⟨x.pre,fun b o k e=>key b o e (x.fix b o k e),fun b o nb e=>key b o e (x.oth b o nb e),fun b o e=>?_⟩
 obtain⟨o',e1,k1⟩:=x.knd b o e
 obtain⟨o2,e2,k2⟩:=t.knd e1
 exact⟨o2,e2,k2.trans k1⟩
end
end MM
namespace MM
open PySem PySem.W PyProof.Rows L2
noncomputable def exW (X:Cx):XW:=fun d _ ρ' H'=>∀ pins σ s' a,Inv X pins σ H' s'->Rep X.K ρ' H' (.ref a) d->Fl X.s₀.heap X.H₀ H' s'.heap a->X.xe (.ref a) s'
noncomputable def txOf (X:Cx) (f:CE):TE:=fun σ H Q=>∃ ρ l st,LR X.K ρ H σ l/\SR X.K ρ H st/\PostX X.K ρ H (f l st) (fun d _ ρ' H'=>∀ v,Rep X.K ρ' H' v d->Q v H') (exW X)
noncomputable def tsX (X:Cx) (c:CS):TS:=fun G σ H=>∃ ρ l st,LR X.K ρ H σ l/\SR X.K ρ H st/\PostX X.K ρ H (c l st) (fun f _ ρ' H'=>match f with
 | .next l'=>∀ σ',LR X.K ρ' H' σ' l'->G.nx σ' H'
 | .ret d=>∀ v,Rep X.K ρ' H' v d->G.rt v H'
 | .brk l'=>∀ σ',LR X.K ρ' H' σ' l'->G.bk σ' H'
 | .cnt l'=>∀ σ',LR X.K ρ' H' σ' l'->G.ct σ' H') (exW X)
noncomputable abbrev SEX (X:Cx) (e:Expr) (f:CE):Prop:=PE X e (txOf X f)
noncomputable abbrev SX (X:Cx) (s:Stmt) (c:CS):Prop:=PS X s (tsX X c)
noncomputable abbrev SXs (X:Cx) (s:List Stmt) (c:CS):Prop:=PSs X s (tsX X c)
noncomputable def spX (K:Frag) (n:Nat) (g:List D->M D):Sp:=fun vs H Q E=>vs.length=n/\∃ ρ st ds,SR K ρ H st/\Reps K ρ H vs ds/\PostX K ρ H (g ds st) (fun r _ ρ' H'=>∀ v,Rep K ρ' H' v r->Q v H') (fun d _ ρ' H'=>∀ a,Rep K ρ' H' (.ref a) d->E (.ref a) none H')
section
variable {X:Cx}{a b c e tg:Expr}{es:List Expr}{s:Stmt}{ss:List Stmt}{pos:Pos}{fa fb fc:CE}{ca cb:CA}{ta tb:CT}{cs cr:CS}{K:Frag}{ρ:List Addr}{H:Hp}{st:Sto}
theorem QjV (h:SS X s cs):SX X s (noX cs):=h.of fun G σ H pq102=>by obtain⟨ρ,l,st,lr,sr,p⟩:=pq102;exact⟨ρ,l,st,lr,sr,p.no⟩
theorem QjW:SXs X [] sNext:=QaK.of fun G σ H pq103=>by obtain⟨ρ,l,st,lr,sr,p⟩:=pq103;exact PostX.ret p sr σ lr
theorem QjX (h1:SX X s cs) (h2:SXs X ss cr):SXs X (s::ss) (sSeq cs cr):=(QaL h1 h2).of fun G σ H pq104=>by obtain⟨ρ,l,st,lr,sr,p⟩:=pq104;exact⟨ρ,l,st,lr,sr,(PostX.bnd p).imp fun f st1 ρ1 H1 x1 s1 p1=>by
 cases f with
 | next l'=>exact fun σ' lr'=>⟨ρ1,l',st1,lr',s1,p1⟩
 | ret d=>exact PostX.ret p1 s1
 | brk l'=>exact PostX.ret p1 s1
 | cnt l'=>exact PostX.ret p1 s1⟩
theorem QjY (hc:ST X c ta) (ha:SXs X ss cs) {sr:List Stmt} (hb:SXs X sr cr):SX X (.If c ss sr pos) (sIf (noT ta) cs cr):=(QaO hc ha hb).of fun G σ H pq105=>
 by obtain⟨ρ,l,st,lr,sr,p⟩:=pq105;exact⟨ρ,l,st,lr,sr,(PostX.no (PostX.bnd p)).imp fun k st1 ρ1 H1 x1 s1 p1=>by
  cases k with
  | true=>exact⟨ρ1,l,st1,lr.mono x1,s1,p1⟩
  | false=>exact⟨ρ1,l,st1,lr.mono x1,s1,p1⟩⟩
noncomputable def EXx (X:Cx):XK:=fun v _ H'=>∀ pins σ s' a,v=.ref a->Inv X pins σ H' s'->Fl X.s₀.heap X.H₀ H' s'.heap a->X.xe (.ref a) s'
theorem QjZ (hex:X.ex=[]):Passes (CX1 X.prog X.w) X (EXx X):=fun pins σ H s e s' I h=>by
 obtain⟨a,H',rfl,os,bare,un,hok,fl,q⟩:=h
 have I2:Inv X pins σ H' s':=I.call' os un hok bare (ch:=[]) (fun b z=>absurd z (by simp))
 have up:∀ b,s.heap.get? b=none->X.s₀.heap.get? b=none:=fun b z=>by
  cases y:X.s₀.heap.get? b with
  | none=>rfl
  | some o=>
   obtain⟨o',q⟩:=I.base.there b o y (by rw[hex];simp)
   rw[z]at q;cases q
 obtain⟨f1,f2,c,d,vs,sl,f3,f4⟩:=fl
 refine q pins σ s' a rfl I2 ⟨up a f1,fun o u z=>f2 o u (I.base.frzs a o u z),c,d,vs,sl,f3,?_⟩
 rcases f4 with f4 | ⟨T,ts,c',d',sl',z1,z2,z3,z4⟩
 ·exact .inl f4
 ·exact .inr ⟨T,ts,c',d',sl',z1,z2,up T z3,z4⟩
theorem Qj0 {k n : Nat} {f : Addr} {fd : FuncData} {ps : List Str} {g : List D -> M D} {x : Str} {p : Pos} (hex : X.ex = []) (F : FnOk X.prog X.w X.K X.mg X.base (CX1 X.prog X.w) k f fd ps (spX X.K n g)) (hr : Room k X.A) (hg : Gl X x) (hm : X.mg x = some (.ref f))
  (hk:keepIn X.K (.ref f)=true) (hb:Binds X.K fd ps []) (ha:SA X (e::es) ca) (hn:∀ l st ds st',ca l st=.ok ds st'->ds.length=n) (hdb:(x == ("__debug__":Str))=false:=by decide)
  (he:starEach (e::es) X.env=(false,eval e X.env)::starEach es X.env:=by rfl) (hpl:(backTo pos (starEach es X.env)).any (·.1)=false:=by rfl):SEX X (.Call (.Name x p) (e::es) [] pos) (cCall g (noA ca)):=
 (QbP F hr hg hm hk hb .nil (QjZ hex) ha hdb he hpl).of fun σ H Q pq106=>by obtain⟨ρ,l,st,lr,sr,p⟩:=pq106;exact⟨ρ,l,st,lr,sr,by
  have q:=PostX.no (PostX.bnd p)
  cases ec:ca l st with
  | bad=>rw[ec]at q;exact q
  | exc _ _=>rw[ec]at q;exact q
  | ok ds st1=>
   rw[ec]at q
   intro ρ1 H1 x1 s1 vs rvs
   refine⟨by rw[List.append_nil,rvs.length];exact hn l st ds st1 ec,ρ1,st1,ds,s1,by rw[List.append_nil];exact rvs,?_⟩
   have p1:PostX X.K ρ1 H1 (g ds st1) (fun d _ ρ' H'=>∀ v,Rep X.K ρ' H' v d->Q v H') (exW X):=q ρ1 H1 x1 s1
   cases eg:g ds st1 with
   | bad=>rw[eg]at p1;exact p1
   | ok r st2=>rw[eg]at p1;exact p1
   | exc d st2=>
    rw[eg]at p1
    intro ρ2 H2 x2 s2 a rep pins σ s' a' ea I fl
    cases ea
    exact p1 ρ2 H2 x2 s2 pins σ s' a I rep fl⟩
theorem Qj1 (h:SEX X e fa) (hs:swapsWith e none pos.line X.env=pure false:=by rfl):SX X (.Expr e pos) (sExp fa):=(QaM h hs).of fun G σ H pq107=>
 by obtain⟨ρ,l,st,lr,sr,p⟩:=pq107;exact⟨ρ,l,st,lr,sr,(PostX.bnd p).imp fun d st1 ρ1 H1 x1 s1 p1 v rv=>PostX.ret p1 s1 σ (lr.mono x1)⟩
theorem Qj2 (h:SEX X e fa):SX X (.Return (some e) pos) (sRet fa):=(QaN h).of fun G σ H pq108=>by obtain⟨ρ,l,st,lr,sr,p⟩:=pq108;exact⟨ρ,l,st,lr,sr,(PostX.bnd p).imp fun d st1 ρ1 H1 x1 s1 p1 v rv=>PostX.ret p1 s1 v rv⟩
end
section
variable {P:Program}{w:World}{K:Frag}{mg:Str->Option Value}{base:Heap}
theorem fnX {x qual : Str} {sd : Stmt} {f : Addr} {fd : FuncData} {N ps : List Str} {k n m : Nat} {body : CS} (F : Fun K x qual sd f fd) (S : FnScope N ps (defScope sd)) (hn : ps.length = n) (hm : N.length = m)
  (hbody:∀ (cdv:Value) (A:Around) (outer:List Env) (s:Shared) (H:Hp) (E:XK),Room k (A.deeper (envOfC qual (defScope sd) s.heap.objs.size f cdv))->SXs (cxOf (CX1 P w) P w K mg base N qual (defScope sd) f cdv A outer s H E) (defBody sd) body):
  FnOk P w K mg base (CX1 P w) (k + 1) f fd ps (spX K n (runDef m body)):=by
 subst hn hm
 obtain⟨oc,od,kV,doc,pm,an,cdv,ct,osl,rfl,lk,hcd⟩:=F.ex
 refine QbW lk hcd S (fun vs H Q E h=>h.1) fun A outer s H vs Q E hr h=>⟨_,hbody cdv A outer s H E hr,?_⟩
 obtain⟨hl,ρ,st,ds,sr,rvs,p⟩:=h
 refine⟨ρ,_,st,LR.start rvs,sr,?_⟩
 unfold runDef at p
 have q:=PostX.bnd p
 cases eb:body (ds.map some++List.replicate (N.length - ds.length) none) st with
 | bad=>rw[eb]at q;exact q
 | ok f st1=>
  rw[eb]at q
  intro ρ1 H1 x1 s1
  have p1:=q ρ1 H1 x1 s1
  cases f with
  | next l=>exact fun σ' _=>PostX.ret p1 s1 _ .non
  | ret d=>exact fun v rv=>PostX.ret p1 s1 v rv
  | brk l=>exact p1.elim
  | cnt l=>exact p1.elim
 | exc d st1=>
  rw[eb]at q
  intro ρ1 H1 x1 s1 pins σ s' a I rep fl
  exact QjU I fl fun H2 t=>q ρ1 H2 (Ex.turn t x1 fl.2.1) (s1.turn t) a (rep.turn t)
end
section
variable {X:Cx}{a b c e tg:Expr}{es:List Expr}{s:Stmt}{ss:List Stmt}{pos:Pos}{fa fb fc:CE}{ca cb:CA}{ta tb:CT}{cs cr:CS}{K:Frag}{ρ:List Addr}{H:Hp}{st:Sto}
theorem PostX.chkS {W:XW}{p:Sto->Prop}{R:Unit->Sto->List Addr->Hp->Prop} (h:PostX K ρ H (MM.chkS p st) R W) (s:SR K ρ H st):p st/\R () st ρ H:=by
 unfold MM.chkS at h
 by_cases hp:p st
 ·rw[if_pos hp]at h;exact⟨hp,h ρ H Ex.refl s⟩
 ·rw[if_neg hp]at h;exact h.elim
theorem Qj3 {i : Nat} {x : Str} {pos' : Pos} (hN : X.N.Nodup) (hi : X.N[i]? = some x) (hx : L2.Loc X.env.scope x) (he : SEX X e fa) (hs : swapsWith e (some (.Name x pos')) pos.line X.env = pure false := by rfl)
  (hf:X.fn x=true\/X.env.scope.names.lookup x=some .local:=by first | exact .inl rfl | exact .inr rfl | assumption):SX X (.Assign [.Name x pos'] e pos) (sAsg (gVar i) fa):=
 (QaV hN hi hx he hs hf).of fun G σ H pq109=>by obtain⟨ρ,l,st,lr,sr,p⟩:=pq109;exact⟨ρ,l,st,lr,sr,(PostX.bnd p).imp fun d st1 ρ1 H1 x1 s1 p1 v rv=>
  PostX.ret (PostX.ret (PostX.bnd p1) s1) s1 _ ((lr.mono x1).set i rv)⟩
theorem Qj4 {iter : Expr} {body : List Stmt} {ci : CI} {g : CG} {cb : CS} (hp : PassesOwn (model X.prog X.w) X.A X.env X.xe) (hc : X.calm = true) (hi : SI X tg iter ci) (hg : SG X tg g) (hb : SXs X body cb)
  (hs:∀ x,foldedSetIterable iter X.env x=pure x:=by intro _;rfl):SX X (.For tg iter body [] pos) (sFor (noI ci) (noG g) cb):=(Qa6 hp hc hi hg hb hs).of fun G σ H pq110=>
 by obtain⟨ρ,l,st,lr,sr,p⟩:=pq110;exact⟨ρ,l,st,lr,sr,(PostX.no (PostX.bnd p)).imp fun w st1 ρ1 H1 x1 s1 p1 J hJ=>by
  refine⟨fun i m σ' H'=>m=w.ds.length - i/\i<=w.ds.length/\∃ ρ' l' st',Ex ρ1 H1 ρ' H'/\LR X.K ρ' H' σ' l'/\SR X.K ρ' H' st'/\PostX X.K ρ' H' (forD (noG g) cb w.same (w.ds.drop i) l' st') (fun f _ ρ' H'=>match f with
   | .next l'=>∀ σ',LR X.K ρ' H' σ' l'->G.nx σ' H'
   | .ret d=>∀ v,Rep X.K ρ' H' v d->G.rt v H'
   | .brk l'=>∀ σ',LR X.K ρ' H' σ' l'->G.bk σ' H'
   | .cnt l'=>∀ σ',LR X.K ρ' H' σ' l'->G.ct σ' H') (exW X),⟨w.ds.length,by simp,Nat.zero_le _,ρ1,l,st1,Ex.refl,lr.mono x1,s1,p1⟩,?_⟩
  rintro i m σ2 H2 ⟨rfl,hi,ρ2,l2,st2,x2,lr2,s2,p2⟩
  by_cases hlt:i < w.ds.length
  ·have ed:w.ds.drop i=w.ds[i]::w.ds.drop (i + 1):=List.drop_eq_getElem_cons hlt
   rw[ed]at p2
   unfold forD at p2
   obtain⟨sm,p3⟩:=PostX.chkS (PostX.bnd p2) s2
   obtain⟨_,go⟩:=hJ ρ2 H2 st2 x2 s2 sm
   obtain⟨g1,g2⟩:=go i w.ds[i] (List.getElem?_eq_getElem hlt)
   refine .inr ⟨g1,fun σ3 H3=>∃ ρ3 l3 st3,Ex ρ1 H1 ρ3 H3/\LR X.K ρ3 H3 σ3 l3/\SR X.K ρ3 H3 st3/\PostX X.K ρ3 H3 (forD (noG g) cb w.same (w.ds.drop (i + 1)) l3 st3) (fun f _ ρ' H'=>match f with
    | .next l'=>∀ σ',LR X.K ρ' H' σ' l'->G.nx σ' H'
    | .ret d=>∀ v,Rep X.K ρ' H' v d->G.rt v H'
    | .brk l'=>∀ σ',LR X.K ρ' H' σ' l'->G.bk σ' H'
    | .cnt l'=>∀ σ',LR X.K ρ' H' σ' l'->G.ct σ' H') (exW X),fun σ3 H3 q=>⟨_,by ac_nf,rfl,hlt,q⟩,fun y H3 hy=>?_⟩
   obtain⟨x3,s3,rv⟩:=g2 y H3 hy
   refine⟨ρ2,l2,st2,_,lr2.mono x3,s3,rv,(PostX.no (PostX.left x3 (PostX.bnd p3))).imp fun l4 st4 ρ4 H4 x4 s4 p4 σ4 lr4=>⟨ρ4,l4,st4,lr4,s4,(PostX.bnd p4).imp fun f st5 ρ5 H5 x5 s5 p5=>?_⟩⟩
   have x5':Ex ρ1 H1 ρ5 H5:=(x2.trans x3).trans (x4.trans x5)
   cases f with
   | next l5=>exact fun σ5 lr5=>⟨ρ5,l5,st5,x5',lr5,s5,p5⟩
   | cnt l5=>exact fun σ5 lr5=>⟨ρ5,l5,st5,x5',lr5,s5,p5⟩
   | brk l5=>exact fun σ5 lr5=>PostX.ret p5 s5 σ5 lr5
   | ret d=>exact fun v rv=>PostX.ret p5 s5 v rv
  ·have e:i=w.ds.length:=by ac_nf
   subst e
   rw[List.drop_length]at p2
   unfold forD at p2
   obtain⟨sm,p3⟩:=PostX.chkS (PostX.bnd p2) s2
   obtain⟨g1,_⟩:=hJ ρ2 H2 st2 x2 s2 sm
   exact .inl ⟨g1,PostX.ret p3 s2 σ2 lr2⟩⟩
end
section
variable {prog:Program}{w:World}{A:Around}{E:Value->Shared->Prop}{env:Env}{C N:Addr}{bm:List Value}
theorem Qj5 {s : Shared} {x : Sem Value} {Q : Flow -> Shared -> Prop} (hb : bm.contains (.type "BaseException") = true) (hh : A.handled = none)
  (h:wpAny (model prog w) A x (fun v s1=>∃ e d vs sl mN,v=.ref e/\XCls s1.heap C N bm mN/\s1.heap.get? e=some ⟨.ref C,d,.fields vs,sl⟩/\vs[1]?=some .none/\E (.ref e) s1) E s):wpAny (model prog w) A (raiseStmt env (some x) none) Q E s:=by
 have hcB:(Value.ref C::bm).contains (.type "BaseException")=true:=by rw[List.contains_cons,hb,Bool.or_true]
 unfold raiseStmt
 refine wpAny_bind (wpAny_mono h (fun v s1 h1=>?_) fun _ _ x=>x)
 obtain⟨e,d,vs,sl,mN,rfl,⟨⟨nm,q1,bs,sn,sub,ab,col,dd,k0,k1,k2,k3,k5,hC⟩,_⟩,he,hv,hE⟩:=h1
 obtain⟨hp,g,dr,tk,os⟩:=s1
 repeat (first
  | with_reducible refine wpAny_loadPart_at he ?_
  | with_reducible refine wpAny_loadPart_at hC ?_
  | (with_reducible refine wpAny_isSubtype_exc hC ?_
     rw[hcB])
  | wp_step)
 rw[hv]
 refine wpAny_pure ?_
 rw[if_neg (by decide)]
 exact wpAny_pure (wpAny_raiseNew_none hh hE)
end
theorem Qj6 {P:Addr}:(Value.ref P::vErr).contains (.type "BaseException")=true:=by simp[vErr]
section
variable {X:Cx}{sc:Scope}{x f:Str}{C N P NP:Addr}{pos p cpos:Pos}{e:Expr}{fa:CE}
theorem Qj7 {fI : Addr} {fd : FuncData} {ps : List Str} (hex : X.ex = []) (hcm : X.calm = true) (F : XF X.K x f C N P NP) (hi : nsIn X.K N (Str.ofString "__init__") = some (some (.ref fI))) (hfn : ∃ oI, X.K.lookup fI = some oI /\ oI.cls = .type "function")
  (G:FnOk X.prog X.w X.K X.mg X.base CX0 1 fI fd ps (spI C f)) (hr:Room 2 X.A) (hb:Binds X.K fd ps []) (hg:Gl X x) (hm:X.mg x=some (.ref C)) (hdb:(x == ("__debug__":Str))=false) (ha:SE X e fa)
  (he:starEach [e] X.env=[(false,eval e X.env)]:=by rfl):SX X (.Raise (some (.Call (.Name x p) [e] [] cpos)) none pos) (xRaise x f fa):=by
 intro pins s σ H D I pq161;obtain⟨ρ,l,st,lr,sr,q⟩:=pq161
 rw[arm_exec_Raise]
 refine wpAny_bind (wpAny_standAt ?_)
 show wpAny _ _ (raiseStmt X.env (some (do let v <- eval (.Call (.Name x p) [e] [] cpos) X.env;standAt pos;pure v)) none) _ _ _
 have mk:=Qhu (X:=X) (p:=p) (pos:=cpos) F hi hfn G hr hb hg hm (QbL ha QbK he) hdb he
 have q1:=PostX.no (PostX.bnd q)
 refine Qj5 (C:=C) (N:=N) (bm:=.ref P::vErr) Qj6 (I.ok.hd hcm) (wpAny_bind (thn (mk pins s σ H (fun v H2=>∃ a d vs sl,v=.ref a/\H2 a=some (.frz ⟨.ref C,d,.fields vs,sl⟩ (.own a))/\vs[1]?=some .none/\X.s₀.heap.get? a=none/\(∀ o u,X.H₀ a≠some (.frz o u))/\∀ pins σ s',Inv X pins σ H2 s'->Fl X.s₀.heap X.H₀ H2 s'.heap a->X.xe (.ref a) s') I ?_) fun v s1 z=>?_))
 ·refine⟨ρ,l,st,lr,sr,q1.imp fun d st1 ρ1 H1 x1 s1 p1 v rv=>⟨v,rfl,fun a dx ob h1 h0 h2 h3 h4 h5 h6=>?_⟩⟩
  have k:=QhM (f:=f) (v:=v) (ob:=ob) (o:=.ext (rawX a C)) h1 h2
  have ga:madeX (upd H1 a (.ext (rawX a C))) a dx f v ob a=some (.frz ob (.own a)):=by unfold madeX;rw[Qai]
  have gd:madeX (upd H1 a (.ext (rawX a C))) a dx f v ob dx=some (.xd [(f,v)]):=by unfold madeX;rw[Qaj h3,Qai]
  have W:=p1 ρ1 _ (Ex.more k) (s1.more k)
  have nH:H a=none:=by
   cases z:H a with
   | none=>rfl
   | some o=>exact absurd h1 (x1.trk a o z)
  have rep:Rep X.K ρ1 (madeX (upd H1 a (.ext (rawX a C))) a dx f v ob) (.ref a) (.exn x [.str f,d]):=.exn F.gl ⟨ob,ga,h4,h5,h6.imp fun _ z=>⟨z.1,.inr z.2.2⟩⟩ gd (rv.mono (Ex.more k))
  obtain⟨vs,e1,e2,_⟩:=h6
  obtain⟨c0,d0,dd0,sl0⟩:=ob
  cases h4
  cases e1
  have nz:∀ o u,X.H₀ a≠some (.frz o u):=fun o u z=>by
   have:=I.base.frzs a o u z
   rw[nH]at this;cases this
  exact⟨a,d0,vs,sl0,rfl,ga,e2,h0 hex,nz,fun pins σ s' I' fl=>W pins σ s' a I' rep fl⟩
 ·obtain⟨y,H2,I2,ry,a,d,vs,sl,rfl,ga,hv,h0,hz,hx⟩:=z
  obtain rfl:v=Value.ref a:=ry
  obtain⟨mN,mP,ch,_⟩:=F.ch I2.kIn
  obtain⟨gh,_⟩:=(show ObjOk X.prog X.w H2 s1.heap a (.frz ⟨.ref C,d,.fields vs,sl⟩ (.own a)) from I2.hok a _ ga)
  exact wpAny_bind (wpAny_standAt (wpAny_pure ⟨a,d,vs,sl,mN,rfl,ch.c,gh,hv,hx pins σ s1 I2 ⟨h0,hz,_,_,_,_,ga,.inl hv⟩⟩))
end
section
variable {prog:Program}{w:World}{A:Around}{E:Value->Shared->Prop}{C N D N':Addr}{bm bm':List Value}{mN mN':Str->Option Value}
theorem Qj8 {s : Shared} {e : Addr} {oe : Obj} {Q : Bool -> Shared -> Prop} (xc : XCls s.heap C N bm mN) (xd : XCls s.heap D N' bm' mN') (hb : bm'.contains (.type "BaseException") = true) (he : s.heap.get? e = some oe) (hc : oe.cls = .ref C) (h : Q ((Value.ref C :: bm).contains (.ref D)) s) :
  wpAny (model prog w) A (excMatches (.ref e) (.ref D)) Q E s:=by
 have hcB:(Value.ref D::bm').contains (.type "BaseException")=true:=by rw[List.contains_cons,hb,Bool.or_true]
 obtain⟨⟨nm,q1,bs,sn,sub,ab,col,dd,k0,k1,k2,k3,k5,hD⟩,_⟩:=xd
 obtain⟨⟨nm',q1',bs',sn',sub',ab',col',dd',k0',k1',k2',k3',k5',hC⟩,_⟩:=xc
 obtain⟨hp,g,dr,tk,os⟩:=s
 obtain⟨c0,d0,dt0,sl0⟩:=oe
 cases hc
 have f:=tc_notTuple
 generalize hk:(Value.ref C::bm).contains (.ref D)=kk at h
 unfold excMatches
 repeat (first
  | with_reducible refine wpAny_loadPart_at he ?_
  | with_reducible refine wpAny_loadPart_at hD ?_
  | with_reducible refine wpAny_loadPart_at hC ?_
  | (with_reducible refine wpAny_isSubtype_exc hD ?_
     rw[hcB])
  | (with_reducible refine wpAny_isSubtype_exc hC ?_
     rw[hk])
  | wp_step)
 cases kk<;>(wp_walk;exact h)
end
theorem Qj9 {fs fs' : List Addr} {H1 H' : Hp} {h1 h' h3 : Heap} {a : Addr} {c f : Value} {d : Option Addr} {sl : Array (Option Value)} {vs vs' : Array Value} (un : Un fs [] H1 H' h1 h') (fl1 : h1.get? a = none) (fl2 : ∀ o u, H1 a ≠ some (.frz o u)) (hH : H' a = some (.frz ⟨c, d, .fields vs, sl⟩ (.own a)))
  (hT:∀ T,vs[1]?=some (.ref T)->h1.get? T=none) (g:Gone fs' a c d sl vs f h' h3) (hfs:∀ b o,h1.get? b=some o->b∉fs->b∉fs'):Un fs [] H1 (upd H' a (.frz ⟨c,d,.fields vs',sl⟩ (.own a))) h1 h3:=by
 have nea:∀ b o,h1.get? b=some o->b≠a:=fun b o q z=>by rw[z,fl1]at q;cases q
 have neT:∀ b o,h1.get? b=some o->vs[1]?≠some (.ref b):=fun b o q z=>by rw[hT b z]at q;cases q
 have nw:∀ b,b≠a->upd H' a (.frz ⟨c,d,.fields vs',sl⟩ (.own a)) b=H' b:=fun b z=>Qaj z
 refine⟨fun b o q n hb hx=>?_,fun b o q n hb hx=>?_,fun b o q n hx=>?_,fun b o q hx=>?_,fun b xs q=>?_,fun b o u q=>?_,fun b ps q=>?_⟩
 ·exact g.keep b o (nea b o q) (neT b o q) (hfs b o q hb) (un.keep b o q n hb hx)
 ·obtain⟨sl1,q1⟩:=un.slot b o q n hb hx
  obtain⟨sl2,q2⟩:=g.slot b _ (nea b o q) (neT b o q) q1
  exact⟨sl2,q2⟩
 ·rw[nw b (nea b o q)];exact un.free b o q n hx
 ·obtain⟨o',q1⟩:=un.there b o q hx;exact g.there b o' q1
 ·have:=un.tups b xs q
  rw[nw b fun z=>by rw[z,hH]at this;cases this];exact this
 ·have:=un.frzs b o u q
  rw[nw b fun z=>by rw[z]at q;exact fl2 o u q];exact this
 ·obtain⟨more,q1⟩:=un.tbls b ps q
  exact⟨more,by rw[nw b fun z=>by rw[z,hH]at q1;cases q1];exact q1⟩
noncomputable def hand (X:Cx) (a:Addr):Cx:={ X with A:=X.A.mark (some (.ref a)),calm:=false,xe:=fun _ _=>False }
section
variable {X:Cx}{pins:List (Addr × Obj)}{σ:L2.St}{H:Hp}{s:Shared}{a:Addr}
theorem Qka (ok:X.Ok):(hand X a).Ok:=⟨ok.mod,ok.kind,ok.glob,ok.blt,ok.above,ok.inj,ok.has,ok.cab,fun z=>(nomatch z),ok.frames,ok.stk,ok.exf,ok.bs,ok.bsz,ok.noex,ok.exfs,ok.funs,ok.frf⟩
theorem Qkb (I:Inv X pins σ H s):Inv (hand X a) pins σ H s:=⟨Qka I.ok,I.os,I.bare,I.base,I.loc,I.cell,I.free,I.freeC,I.pin,I.hok,I.len⟩
theorem Qkc (ok:X.Ok) (I:Inv (hand X a) pins σ H s):Inv X pins σ H s:=⟨ok,I.os,I.bare,I.base,I.loc,I.cell,I.free,I.freeC,I.pin,I.hok,I.len⟩
theorem Qkd {M : Model} {A : Around} {E : Value -> Shared -> Prop} {i : Nat} {n : Str} {v : V} {Q : Unit -> Shared -> Prop} (I : Inv X pins σ H s) (hN : X.N.Nodup) (hi : X.N[i]? = some n) (hl : X.env.scope.names.lookup n = some .local) (hv : σ[i]? = some (some v))
  (h:∀ s',Inv X pins (σ.set i none) H s'->Q () s'):wpAny M A (unbindName X.env n) Q E s:=by
 obtain⟨m,hn,hlo⟩:=id I.loc
 have hcls:(X.env.scope.kind == .class || (X.env.scope.kind == .module && X.env.locals != X.env.globals))=false:=by rw[I.ok.kind];rfl
 have hk:X.env.kindOf n=some .local:=hl
 obtain⟨u,ru,lu⟩:=hlo i n v hi hv (.inl hl)
 have hm:m n=some u:=by
  rcases lu with ⟨_,z⟩ | ⟨z,_⟩
  ·exact z
  ·rw[hk]at z;rcases z with z | z<;>cases z
 refine wpAny_unbindName_local hk hn hm hcls fun h' u' hn' hs=>h _ ?_
 have ne0:∀ b o,X.s₀.heap.get? b=some o->b≠X.env.locals:=fun b o q z=>by
  have:=Heap.lt_size q
  rw[z]at this
  exact absurd (Nat.lt_of_lt_of_le this I.ok.above) (Nat.lt_irrefl _)
 have eq0:∀ b o,X.s₀.heap.get? b=some o->h'.get? b=s.heap.get? b:=fun b o q=>hs.2 b (ne0 b o q)
 refine⟨I.ok,I.os,I.bare,⟨fun b o q n hb hx=>(eq0 b o q).trans (I.base.keep b o q n hb hx),fun b o q n hb hx=>?_,I.base.free,fun b o q hx=>?_,I.base.tups,I.base.frzs,I.base.tbls⟩,⟨_,hn',fun j y v' h1 h2 h3=>?_⟩,fun y c e=>?_,I.free,I.freeC,fun p hp=>?_,fun b o e=>?_,?_⟩
 ·obtain⟨sl,z⟩:=I.base.slot b o q n hb hx;exact⟨sl,(eq0 b o q).trans z⟩
 ·obtain⟨o',z⟩:=I.base.there b o q hx;exact⟨o',(eq0 b o q).trans z⟩
 ·have hji : j ≠ i := fun z => by
    subst z
    have hl:j < σ.length:=(List.getElem?_eq_some_iff.mp hv).1
    rw[List.getElem?_set_self hl]at h2;cases h2
  rw[List.getElem?_set_ne (Ne.symm hji)]at h2
  obtain⟨w,rw',lw⟩:=hlo j y v' h1 h2 h3
  refine⟨w,rw',?_⟩
  rcases lw with ⟨z1,z2⟩ | ⟨z1,c,z2,z3⟩
  ·refine .inl ⟨z1,?_⟩
   have:y≠n:=fun z=>by
    subst z
    exact hji ((List.getElem?_inj (List.getElem?_eq_some_iff.mp h1).1 hN).mp (h1.trans hi.symm))
   dsimp only
   rw[if_neg this];exact z2
  ·refine .inr ⟨z1,c,z2,?_⟩
   obtain⟨o,e1,e2⟩:=z3
   exact⟨o,(hs.2 c (I.cne y c z2)).trans e1,e2⟩
 ·obtain⟨w,o,e1,e2⟩:=I.cell y c e
  exact⟨w,o,(hs.2 c (I.cne y c e)).trans e1,e2⟩
 ·obtain⟨p1,p2,p3,p4⟩:=I.pin p hp
  exact⟨(hs.2 p.1 p3).trans p1,p2,p3,p4⟩
 ·refine (I.hok b o e).stay (fun c w' hc q=>(hs.2 c ?_).trans q) (fun _ q=>q) fun _ _ q=>q
  rintro rfl
  rcases hc with z | z
  ·rw[<- z,I.free]at e;cases e
  ·rw[I.free]at z;cases z
 ·rw[List.length_set];exact I.len
end
theorem LR.unset {K:Frag}{ρ:List Addr}{H:Hp}{σ:L2.St}{l:Loc}{i:Nat} (h:LR K ρ H σ l):LR K ρ H (σ.set i none) (l.set i none):=by
 refine⟨by rw[List.length_set,List.length_set];exact h.1,fun k d e=>?_⟩
 have hk:k≠i:=fun z=>by
  subst z
  by_cases hl:k < l.length
  ·rw[List.getElem?_set_self hl]at e;cases e
  ·rw[List.getElem?_eq_none (by rw[List.length_set];ac_nf)]at e;cases e
 rw[List.getElem?_set_ne (Ne.symm hk)]at e ⊢
 exact h.2 k d e
theorem Post.no {α:Type}{K:Frag}{ρ:List Addr}{H:Hp}{st:Sto}{m:M α}{R:α->Sto->List Addr->Hp->Prop} (h:Post K ρ H (noM m st) R):Post K ρ H (m st) R:=by
 unfold noM at h
 cases e:m st with
 | ok a s'=>rw[e]at h;exact h
 | exc _ _=>rw[e]at h;exact h
 | bad=>rw[e]at h;exact h
section
variable {X:Cx}{e:Expr}{es:List Expr}{ca:CA}{hc:CS}
variable {k n:Nat}{f:Addr}{fd:FuncData}{ps:List Str}{g:List D->M D}{fn x y nm fl:Str}{p p2 p3 cpos apos hpos pos:Pos}{i j:Nat}{C N P NP:Addr}{b0:Stmt}{suite:List Stmt}
end
noncomputable def XCl (h:Heap) (D:Addr):Prop:=∃ nm q bs bm N sn sub ab col dd k0 k1 k2 k3 k5,h.get? D=some (excClassObj nm q D N bs bm true sn sub ab col dd k0 k1 k2 k3 k5 "ValueError.__new__")
section
variable {prog:Program}{w:World}{A:Around}{E:Value->Shared->Prop}{s:Shared}{C N P NP e:Addr}{mN mP:Str->Option Value}
theorem Qke {o : Obj} {D : Addr} {dep : Int} {tk0 : Tok} {R : PySem.Fin -> Shared -> Prop} (x : XCh s.heap C N P NP mN mP) (pl : Plain mN mP) (g : s.heap.get? e = some o) (hc : o.cls = .ref C) (hD : XCl s.heap D)
  (q:∀ tk,R (.done (.ret (.bool ((Value.ref C::Value.ref P::vErr).contains (.ref D))))) { s with toks:=tk }):wpAny (model prog w) A (Builtin.«isinstance.nested» ⟨[.ref e,.ref D,.int dep tk0],[]⟩) R E s:=by
 obtain⟨nm0,q0,bs0,bm0,N0,sn0,sub0,ab0,col0,dd0,j0,j1,j2,j3,j5,gD⟩:=hD
 unfold Builtin.«isinstance.nested»
 dsimp only
 refine wpAny_bind (Qg9 g hc ?_)
 by_cases h1:(Value.ref C == Value.ref D)=true
 ·rw[if_pos h1]
  refine wpAny_bind (wpAny_rule (wpAny_pure ?_))
  have e1:(Value.ref C::Value.ref P::vErr).contains (.ref D)=true:=by
   rw[List.contains_cons]
   have:(Value.ref D == Value.ref C)=true:=by
    rw[beq_iff_eq]at h1 ⊢;exact h1.symm
   rw[this];rfl
  have:=q s.toks
  rw[e1]at this
  exact this
 ·rw[if_neg h1]
  refine wpAny_bind (wpAny_typeOf_ref gD ?_)
  rw[if_pos (show (Value.type "type" == Value.type "type")=true by decide)]
  refine wpAny_bind ?_
  show wpAny _ _ (isType (.ref D) >>= _) _ _ _
  unfold isType
  dsimp only
  unfold loadHead
  refine wpAny_bind (wpAny_bind (wpAny_loadPart gD (wpAny_pure ?_)))
  rw[if_neg (show ¬ ((!true)=true) by decide)]
  unfold isInstance
  refine wpAny_bind (wpAny_bind (Qg9 g hc (Qg5 x.c ?_)))
  by_cases h2:(Value.ref C::Value.ref P::vErr).contains (.ref D)=true
  ·rw[if_pos h2]
   refine wpAny_pure (wpAny_pure ?_)
   have:=q s.toks
   rw[h2]at this
   exact this
  ·rw[if_neg h2]
   refine wpAny_bind (Qhq x pl g hc fun tk=>?_)
   dsimp only
   obtain⟨⟨nm,q1,bs,sn,sub,ab,col,dd,k0,k1,k2,k3,k5,gC⟩,ns⟩:=id x.c
   refine wpAny_bind (wpAny_bind (wpAny_loadPart (s:={ s with toks:=tk }) gC (wpAny_pure ?_)))
   rw[if_neg (by simp)]
   refine wpAny_bind (wpAny_rule (Qg5 (s:={ s with toks:=tk }) x.c ?_))
   refine wpAny_pure ?_
   exact q tk
noncomputable def cOf (C P D:Addr):Bool:=(Value.ref C::Value.ref P::vErr).contains (.ref D)
theorem Qkf {o:Obj}{P0:Shared->Prop} (hc:o.cls=.ref C) (pl:Plain mN mP) (h0:∀ s,P0 s->XCh s.heap C N P NP mN mP/\s.heap.get? e=some o):∀ {Ds:List Addr},(∀ s,P0 s->∀ D∈Ds,XCl s.heap D)->AnswersAll P0 (.ref e) (Ds.map Value.ref) (Ds.map (cOf C P))
 | [],_=>trivial
 | D::Ds,h=>⟨fun dep tk prog w A R s hs=>Qke (h0 s hs.1).1 pl (h0 s hs.1).2 hc (h s hs.1 D List.mem_cons_self) hs.2,Qkf hc pl h0 fun s z D' m=>h s z D' (List.mem_cons_of_mem _ m)⟩
theorem Qkg {o o' : Obj} {tp : Addr} {Ds : List Addr} {n : Nat} {Q : Value -> Shared -> Prop} (x : XCh s.heap C N P NP mN mP) (pl : Plain mN mP) (g : s.heap.get? e = some o) (hc : o.cls = .ref C) (hD : ∀ D ∈ Ds, XCl s.heap D)
  (ht:s.heap.get? tp=some o') (htc:o'.cls=.type "tuple") (htd:o'.data=.seq (Ds.map Value.ref).toArray n) (q:∀ tk,Q (.bool (Ds.any (cOf C P))) { s with toks:=tk }):wpAny (model prog w) A (call (.builtin "isinstance") [.ref e,.ref tp]) Q E s:=by
 refine call_isinstance_of ?_ (fun z=>nomatch z)
 unfold Builtin.«isinstance.nested»
 dsimp only[rawInt]
 refine wpAny_bind (Qg9 g hc ?_)
 have hne:¬ ((Value.ref C == Value.ref tp)=true):=fun z=>by
  rw[beq_iff_eq]at z
  injection z with z
  subst z
  obtain⟨⟨nm,q1,bs,sn,sub,ab,col,dd,k0,k1,k2,k3,k5,gC⟩,ns⟩:=x.c
  rw[gC]at ht
  cases ht
  exact absurd (show Value.type "type"=Value.type "tuple" from htc) (by decide)
 rw[if_neg hne]
 refine wpAny_bind (wpAny_typeOf_ref ht ?_)
 rw[htc,if_neg (by decide)]
 refine wpAny_bind ?_
 unfold Builtin.Builtins.unionMembers
 refine wpAny_bind (wpAny_typeOf_ref ht ?_)
 rw[htc,if_neg (by decide)]
 refine wpAny_pure (wpAny_bind (wpAny_isInstance (T:="tuple") (b:=true) ⟨o',ht,htc⟩ F.isi_sub_tuple ?_))
 rw[if_pos rfl]
 rw[if_neg (by decide)]
 unfold seqItems?
 dsimp only
 refine wpAny_bind ?_
 refine wpAny_bind (wpAny_load ht ?_)
 rw[htd]
 refine wpAny_pure (wpAny_bind ?_)
 refine wpAny_arrayLoop ?_
 simp only[Option.getD_some,List.toList_toArray]
 refine isinstance_items (dep:=0) (P:=fun s'=>XCh s'.heap C N P NP mN mP/\s'.heap.get? e=some o/\∀ D∈Ds,XCl s'.heap D) (fun s tk z=>z) (Ds.map Value.ref) (Ds.map (cOf C P)) _ _ (Qkf hc pl (fun s z=>⟨z.1,z.2.1⟩) fun s z=>z.2.2) ⟨x,g,hD⟩ fun tk'=>?_
 have ea:(Ds.map (cOf C P)).any id=Ds.any (cOf C P):=by rw[List.any_map];rfl
 rw[ea]
 cases hv:Ds.any (cOf C P) with
 | true=>have:=q tk';rw[hv]at this;exact wpAny_pure this
 | false=>have:=q tk';rw[hv]at this;exact wpAny_pure this
end
section
variable {X:Cx}{e:Expr}{fa:CE}{p p1 pos:Pos}{xs ys zs:List Str}
theorem Qkh (C P D:Addr):cOf C P D=(decide (D=C) || decide (D=P)):=by
 show (Value.ref C::Value.ref P::vErr).contains (Value.ref D)=_
 rw[List.contains_cons,List.contains_cons]
 have z:vErr.contains (Value.ref D)=false:=rfl
 rw[z,Bool.or_false]
 have z2:∀ a b:Addr,(Value.ref a == Value.ref b)=decide (a=b):=fun a b=>by
  by_cases w:a=b
  ·subst w;rw[decide_eq_true rfl];exact beq_self_eq_true _
  ·rw[decide_eq_false w];exact beq_eq_false_iff_ne.mpr (fun z=>w (by injection z))
 rw[z2,z2]
theorem Qki:∀ {Ds:List Addr}{its:List Value},Vals (Ds.map V.ref) its->its=Ds.map Value.ref
 | [],_,r=>by cases r;rfl
 | D::Ds,_,r=>by
  cases r with
  | cons r1 r2=>cases r1;rw[Qki r2];rfl
theorem Qkj:CallR X (.builtin "isinstance") (fun vs H Q=>∃ (a:Addr) (ob:Obj) (x f:Str) (C N P NP tp:Addr) (Ds:List Addr),vs=[.ref a,.ref tp]/\XF X.K x f C N P NP/\H a=some (.frz ob (.own a))/\ob.cls=.ref C/\H tp=some (.tup (Ds.map V.ref))/\(∀ D∈Ds,∃ y,XO X.K y D)/\Q (.bl (Ds.any (cOf C P))) H):=by
 intro pins s σ H xs us Q I r h
 obtain⟨a,ob,x,f,C,N,P,NP,tp,Ds,rfl,F,ea,oc,ht,hD,q⟩:=h
 obtain⟨mN,mP,ch,pl,no,hN,hpi⟩:=F.ch I.kIn
 obtain⟨ga,_⟩:=(show ObjOk X.prog X.w H s.heap a (.frz ob (.own a)) from I.hok a _ ea)
 obtain⟨_,its,rv,o',g1,g2,⟨n,g3⟩,_⟩:=(show ObjOk X.prog X.w H s.heap tp (.tup (Ds.map V.ref)) from I.hok tp _ ht)
 cases r with
 | cons r1 r2=>
 cases r1
 cases r2 with
 | cons r3 r4=>
 cases r4
 cases r3
 refine Qkg ch pl ga oc (fun D hd=>?_) g1 g2 (by rw[g3,Qki rv]) fun tk=>⟨.bl _,H,I.tok _,rfl,q⟩
 obtain⟨y,O⟩:=hD D hd
 obtain⟨N,bm,q,bs,sn,sub,ab,col,dd,k0,k1,k2,k3,k5,l⟩:=O.ob
 exact⟨_,_,_,_,_,_,_,_,_,_,_,_,_,_,_,I.kIn _ _ l⟩
noncomputable def XOs (K:Frag) (mg:Str->Option Value) (ys:List Str):Prop:=∀ y,ys.contains y=true->∃ D,XO K y D/\mg y=some (.ref D)
noncomputable def nmsC (ok:Str->Bool):List Expr->Option (List Str)
 | []=>some []
 | .Name y _::es=>if ok y=true then (nmsC ok es).bind fun zs=>some (y::zs) else none
 | _=>none
theorem Qkk {ok : Str -> Bool} (hy : XOs X.K X.mg ys) (hok : ∀ y, ok y = true -> ys.contains y = true /\ Gl X y /\ nokB y = true) : ∀ {es : List Expr} {zs : List Str}, nmsC ok es = some zs -> ∃ Ds : List Addr, PA X es (fun σ H Q => Q (Ds.map V.ref) H) /\ zs.length = Ds.length /\ (∀ D ∈ Ds, ∃ y, XO X.K y D) /\
  ∀ C P x,XO X.K x C->XO X.K "PactError" P->Ds.any (cOf C P)=zs.any fun y=>x == y || ("PactError":Str) == y
 | [],zs,h=>by cases h;exact⟨[],QbK,rfl,fun D z=>(nomatch z),fun _ _ _ _ _=>rfl⟩
 | e::es,zs,h=>by
  unfold nmsC at h
  split at h
  ·cases ‹_::_=[]›
  ·rename_i y p es' he
   injection he with e1 e2
   subst e1 e2
   simp only[Option.ite_none_right_eq_some,Option.bind_eq_some_iff]at h
   obtain⟨h1,zs',h2,h⟩:=h
   cases h
   obtain⟨a,b,d⟩:=hok y h1
   obtain⟨D,O,m⟩:=hy y a
   obtain⟨Ds,pa,hl,hO,hA⟩:=Qkk hy hok h2
   refine⟨D::Ds,QbL (Qaz (v:=.ref D) b m rfl (QhX d).d) pa,by simp[hl],fun D' hD=>?_,fun C P x hx hp=>?_⟩
   ·rcases List.mem_cons.mp hD with z | z
    ·subst z;exact⟨y,O⟩
    ·exact hO D' z
   ·rw[List.any_cons,List.any_cons,hA C P x hx hp,Qkh,hx.iff O,hp.iff O]
  ·cases h
theorem Qkl {H : Hp} {Q : VK} {a C' tp : Addr} {x' : Str} {Ds : List Addr} (B : ∀ x ∈ xs, ∃ f C N P NP, XF X.K x f C N P NP) (hx : x' ∈ xs) (g : nsIn X.K mainGlobals x' = some (some (.ref C'))) (hh : ∃ o, H a = some (.frz o (.own a)) /\ o.cls = .ref C')
  (ht:H tp=some (.tup (Ds.map V.ref))) (hD:∀ D∈Ds,∃ y,XO X.K y D) (q:∀ P,XO X.K x' C'->XO X.K "PactError" P->Q (.bl (Ds.any (cOf C' P))) H):
  ∃ (b:Addr) (ob:Obj) (x f:Str) (C N P NP tp':Addr) (Ds':List Addr),[V.ref a,V.ref tp]=[.ref b,.ref tp']/\XF X.K x f C N P NP/\H b=some (.frz ob (.own b))/\ob.cls=.ref C/\H tp'=some (.tup (Ds'.map V.ref))/\(∀ D∈Ds',∃ y,XO X.K y D)/\Q (.bl (Ds'.any (cOf C P))) H:=by
 obtain⟨f,C,N,P,NP,F⟩:=B x' hx
 obtain⟨o,ho,hc⟩:=hh
 have eC:C'=C:=by
  have:=g.symm.trans F.gl
  injection this with t;injection t with t;injection t
 subst eC
 exact⟨a,o,x',f,C',N,P,NP,tp,Ds,rfl,F,ho,hc,ht,hD,q P F.xo F.xp⟩
theorem Qkm {ok : Str -> Bool} {es : List Expr} {k : Nat} (B : ∀ x ∈ xs, ∃ f C N P NP, XF X.K x f C N P NP) (hy : XOs X.K X.mg ys) (hok : ∀ y, ok y = true -> ys.contains y = true /\ Gl X y /\ nokB y = true) (hz : nmsC ok es = some zs) (hsz : zs.length <= 10) (hg : Gl X "isinstance") (hm : X.mg "isinstance" = none) (hv : bootBuiltins "isinstance" = some (.builtin "isinstance")) (ha : SE X e fa)
  (he:starEach [e,.Tuple es k p1] X.env=(false,eval e X.env)::starEach [.Tuple es k p1] X.env) (he2:starEach [.Tuple es k p1] X.env=(false,eval (.Tuple es k p1) X.env)::starEach [] X.env:=by rfl) (hpl:(backTo pos (starEach [.Tuple es k p1] X.env)).any (·.1)=false:=by rfl):
  SE X (.Call (.Name "isinstance" p) [e,.Tuple es k p1] [] pos) (c1 (isiX xs fun x=>zs.any fun y=>x == y || ("PactError":Str) == y) fa):=by
 obtain⟨Ds,pa,hl,hO,hA⟩:=Qkk hy hok hz
 refine (QbX Qkj hg hm hv (QbL ha (QbL (QbM pa) QbK he2) he) (by decide) (by decide) he hpl).of fun σ H Q h_=>h_.el fun ρ l st lr sr q=>⟨ρ,l,st,lr,sr,q.bnd.imp fun d st1 ρ1 H1 x1 s1 q1 v rv=>?_⟩
 refine⟨by rw[List.length_map,<- hl];exact Nat.le_trans hsz (show 10<=2 ^ 24 by ac_nf),fun tp ht=>?_⟩
 have x2:Ex ρ1 H1 ρ1 (upd H1 tp (.tup (Ds.map V.ref))):=Ex.new ht
 have s2:SR X.K ρ1 (upd H1 tp (.tup (Ds.map V.ref))) st1:=s1.new ht
 have k1:∀ b o,H1 b=some o->upd H1 tp (.tup (Ds.map V.ref)) b=some o:=fun b o z=>by rw[Qaj (Qal z ht)];exact z
 cases rv with
 | @exn a C' dx x' f' v' d' g hh h2 r=>
  obtain⟨hx,q2⟩:=q1.chk
  obtain⟨o,ho,hc,_⟩:=hh
  refine Qkl B hx g ⟨o,k1 _ _ ho,hc⟩ Qai hO fun P h1 h2=>?_
  rw[hA _ _ _ h1 h2]
  exact (Post.left x2 q2).ret s2 _ (.bl _)
 | @exn0 a C' x' g hh=>
  obtain⟨hx,q2⟩:=q1.chk
  obtain⟨o,ho,hc⟩:=hh
  refine Qkl B hx g ⟨o,k1 _ _ ho,hc⟩ Qai hO fun P h1 h2=>?_
  rw[hA _ _ _ h1 h2]
  exact (Post.left x2 q2).ret s2 _ (.bl _)
 | _=>exact q1.elim
end
section
variable {P:Program}{w:World}{K:Frag}{mg:Str->Option Value}{base:Heap}
structure GX (P:Program) (w:World) (K:Frag) (mg:Str->Option Value) (base:Heap) (x:Str) (r:RF):Prop where
 ex:∃ f fd,mg x=some (.ref f)/\FnOk P w K mg base (CX1 P w) r.k f fd r.ps (spX K r.n r.g)/\keepIn K (.ref f)=true/\Binds K fd r.ps []
noncomputable def EnvX (P:Program) (w:World) (K:Frag) (mg:Str->Option Value) (base:Heap) (l:List (Str × RF)):Prop:=∀ x r,l.lookup x=some r->GX P w K mg base x r
structure XR (P:Program) (w:World) (K:Frag) (mg:Str->Option Value) (base:Heap) (y f:Str):Prop where
 ex:∃ C N PA NP fI fd ps,XF K y f C N PA NP/\mg y=some (.ref C)/\nsIn K N (Str.ofString "__init__")=some (some (.ref fI))/\(∃ oI,K.lookup fI=some oI/\oI.cls=.type "function")/\FnOk P w K mg base CX0 1 fI fd ps (spI C f)/\Binds K fd ps []
 hy:typeLookup (.type "ValueError") f=pure none
theorem Qkn {k n:Nat}{f:Addr}{fd:FuncData}{ps:List Str}{g:List D->M D} (F:FnOk P w K mg base (CX1 P w) k f fd ps (spX K n g)):FnOk P w K mg base CX0 k f fd ps (spOf K n g):=by
 have dn:∀ vs H Q E,spOf K n g vs H Q E->spX K n g vs H Q (fun _ _ _=>False):=fun vs H Q E pq111=>by obtain⟨h1,ρ,st,ds,sr,rv,p⟩:=pq111;exact⟨h1,ρ,st,ds,sr,rv,by
  cases e:g ds st with
  | ok r s=>rw[e]at p;exact p
  | exc d s=>rw[e]at p;exact p.elim
  | bad=>rw[e]at p;exact p.elim⟩
 refine⟨fun vs H Q E h=>F.len vs H Q _ (dn vs H Q E h),fun A outer s H args us vs Q E hr he hb hv hs=>codeAny_mono (F.run A outer s H args us vs Q (fun _ _ _=>False) hr he hb hv (dn vs H Q E hs)) fun r s' h=>?_⟩
 cases r with
 | ok f=>cases f<;>exact h
 | error e=>
  obtain⟨a,H',_,_,_,_,_,_,z⟩:=h
  exact z.elim
end
noncomputable def rcC (q:Rec) (c:RC) (E:List (Str × RF)):Expr->Option CE
 | .Call (.Name x _) (a::as) [] _=>(E.lookup x).bind fun r=>if c.glo x=true/\nokB x=true/\r.k<=c.k/\r.n=(a::as).length then (argC q c (a::as)).bind fun ca=>some (cCall r.g (noA ca)) else none
 | _=>none
section
variable {X:Cx}{c:RC}{q:Rec}{E:List (Str × RF)}
theorem Qko (hq:RecOk q) (g:Good X c) (hE:EnvX X.prog X.w X.K X.mg X.base E) (hex:X.ex=[]) {e:Expr}{r:CE} (z:rcC q c E e=some r):SEX X e r/\ncE e=true:=by
 unfold rcC at z
 split at z
 ·simp only[Option.ite_none_right_eq_some,Option.bind_eq_some_iff]at z
  obtain⟨rf,hf,⟨h1,h2,h3,h4⟩,ca,ha,z⟩:=z
  cases z
  obtain⟨f,fd,m,F,kp,B⟩:=(hE _ _ hf).ex
  obtain⟨x,y,l⟩:=Qh7 hq g ha
  rw[List.all_cons,Bool.and_eq_true]at y
  exact⟨Qj0 hex F (g.hr.mono h3) (g.S.glo _ (beq_iff_eq.mp h1)) m kp B x (by rw[h4];exact l) (QhX h2).d (Qh0 y.1) (Qh1 y.2),rfl⟩
 ·cases z
noncomputable def blX (s:Stmt->Option CS):List Stmt->Option CS
 | []=>some sNext
 | a::as=>(s a).bind fun f=>(blX s as).bind fun h=>some (sSeq f h)
theorem Qkp {s:Stmt->Option CS} (h:∀ a f,s a=some f->SX X a f):∀ {ss:List Stmt}{f:CS},blX s ss=some f->SXs X ss f
 | [],f,z=>by cases z;exact QjW
 | a::as,f,z=>by
  unfold blX at z
  simp only[Option.bind_eq_some_iff]at z
  obtain⟨fa,h1,fb,h2,z⟩:=z
  cases z
  exact QjX (h a fa h1) (Qkp h h2)
end
section
variable {X:Cx}{x f y:Str}{C N P NP D:Addr}{pos p p1:Pos}{e:Expr}{fa:CE}{xs:List Str}
theorem Qkq (B : ∀ x ∈ xs, ∃ f C N P NP, XF X.K x f C N P NP) (O : XO X.K y D) (hg : Gl X "isinstance") (hm : X.mg "isinstance" = none) (hv : bootBuiltins "isinstance" = some (.builtin "isinstance")) (hgy : Gl X y) (hmy : X.mg y = some (.ref D)) (nk : NameOk y) (ha : SE X e fa)
  (he:starEach [e,.Name y p1] X.env=(false,eval e X.env)::starEach [.Name y p1] X.env:=by rfl) (he2:starEach [.Name y p1] X.env=(false,eval (.Name y p1) X.env)::starEach [] X.env:=by rfl) (hpl:(backTo pos (starEach [.Name y p1] X.env)).any (·.1)=false:=by rfl):
  SE X (.Call (.Name "isinstance" p) [e,.Name y p1] [] pos) (c1 (isiX xs fun x=>x == y || ("PactError":Str) == y) fa):=
 (QbX Qhx hg hm hv (QbL ha (QbL (Qaz (v:=.ref D) hgy hmy rfl nk.d) QbK he2) he) (by decide) (by decide) he hpl).of fun σ H Q h_=>h_.el fun ρ l st lr sr q=>⟨ρ,l,st,lr,sr,q.bnd.imp fun d st1 ρ1 H1 x1 s1 q1 v rv=>by
  have e:∀ (C' P:Addr) (x':Str),XO X.K x' C'->XO X.K "PactError" P->isOf C' P (.ref D)=(x' == y || ("PactError":Str) == y):=fun C' P x' h1 h2=>by
   show (decide (D=C') || decide (D=P))=_
   rw[h1.iff O,h2.iff O]
  cases rv with
  | @exn a C' dx x' f' v' d' g hh h2 r=>
   obtain⟨hx,q2⟩:=q1.chk
   obtain⟨o,ho,hc,_⟩:=hh
   refine QhO B hx g ⟨o,ho,hc⟩ (.inr ⟨y,D,rfl,O⟩) fun P h1 h2=>?_
   rw[e _ _ _ h1 h2]
   exact q2.ret s1 _ (.bl _)
  | @exn0 a C' x' g hh=>
   obtain⟨hx,q2⟩:=q1.chk
   refine QhO B hx g hh (.inr ⟨y,D,rfl,O⟩) fun P h1 h2=>?_
   rw[e _ _ _ h1 h2]
   exact q2.ret s1 _ (.bl _)
  | _=>exact q1.elim⟩
end
section
variable {X:Cx}{c:RC}{q:Rec}{E:List (Str × RF)}
noncomputable def argH (k:Expr->Option CE):List Expr->Option CA
 | []=>some cNil
 | e::es=>if plE e=true then (k e).bind fun fa=>(argH k es).bind fun ca=>some (cCons fa ca) else none
theorem Qkr {Y:Cx}{k:Expr->Option CE} (h:∀ e f,k e=some f->SE Y e f):∀ {es:List Expr}{ca:CA},argH k es=some ca->SA Y es ca
 | [],ca,z=>by cases z;exact Qeu
 | e::es,ca,z=>by
  unfold argH at z
  simp only[Option.ite_none_right_eq_some,Option.bind_eq_some_iff]at z
  obtain⟨hp,fa,h1,fb,h2,z⟩:=z
  cases z
  exact Qev (h e fa h1) (Qkr h h2) (Qh0 hp)
noncomputable def hpE (c:RC) (ys:List Str) (y fl:Str) (k:Expr->Option CE) (e:Expr):Option CE:=match e with
 | .Name x _=>(varC c x).bind fun i=>some (cVar i)
 | .Attribute o g _=>if g=fl/\baE o=true then (k o).bind fun fa=>some (c1 (attrX y fl) fa) else none
 | .Call (.Name z _) [a, .Name t _] [] _ => if z = Str.ofString "isinstance" /\ c.bl z = true /\ plE a = true then
   (if t=Str.ofString "ValueError"/\c.bl t=true then (k a).bind fun fa=>some (c1 (isiX [y] fun _=>true) fa)
    else if ys.contains t=true/\c.glo t=true/\nokB t=true then (k a).bind fun fa=>some (c1 (isiX [y] fun x=>x == t || ("PactError":Str) == t) fa) else none) else none
 | .Call (.Name z _) [a, .Tuple es _ _] [] _ => if z = Str.ofString "isinstance" /\ c.bl z = true /\ plE a = true then
   (nmsC (fun t=>ys.contains t && c.glo t && nokB t) es).bind fun zs=>if zs.length<=10 then (k a).bind fun fa=>some (c1 (isiX [y] fun x=>zs.any fun t=>x == t || ("PactError":Str) == t) fa) else none else none
 | .BoolOp .And [a,b] _=>(k a).bind fun fa=>(k b).bind fun fb=>some (cAnd fa fb)
 | .List es _=>(argH k es).bind fun ca=>some (cKeep (aDisp ca))
 | .BinOp a .Add b _=>(k a).bind fun fa=>(k b).bind fun fb=>some (c2 addD fa fb)
 | _=>none
noncomputable def hE (c:RC) (ys:List Str) (y fl:Str):Nat->Expr->Option CE
 | 0=>fun _=>none
 | n + 1=>hpE c ys y fl (hE c ys y fl n)
end
section
noncomputable def hS (c:RC) (ys:List Str) (y fl:Str):List Stmt->Option CS
 | []=>some sNext
 | .Assign [.Name x _] e _::ss=>if ncE e=true then (tgC c x).bind fun i=>(hE c ys y fl 20 e).bind fun f=>(hS c ys y fl ss).bind fun r=>some (sSeq (sAsg (gVar i) f) r) else none
 | _=>none
section
variable {P:Program}{w:World}{K:Frag}{mg:Str->Option Value}{base:Heap}
theorem Qks {CX:CXT}{N:List Str}{qual:Str}{sc:Scope}{f:Addr}{cdv:Value}{A:Around}{outer:List Env}{s:Shared}{H:Hp}{E:XK}:Sc (cxOf CX P w K mg base N qual sc f cdv A outer s H E) sc where
 vis:=fun x k h hk=>by
  rcases hk with z | z | z<;>subst z
  ·exact .inl h
  ·exact .inr (.inl h)
  ·exact .inr (.inr h)
 cel:=fun x h=>h
 glo:=fun x h=>h
 loc:=fun x k h hk=>⟨by rcases hk with z | z<;>subst z;exact .inl h;exact .inr h,.inl rfl⟩
 calm:=rfl
theorem Qkt {x:Str}{r:RF}{f:Addr}{fd:FuncData}{E:List (Str × RF)} (m:mg x=some (.ref f)) (F:FnOk P w K mg base (CX1 P w) r.k f fd r.ps (spX K r.n r.g)) (kp:keepIn K (.ref f)=true) (b:Binds K fd r.ps []) (h:EnvX P w K mg base E):EnvX P w K mg base ((x,r)::E):=fun y s z=>by
 by_cases e:y=x
 ·subst e
  rw[List.lookup_cons_self]at z
  cases z
  exact⟨f,fd,m,F,kp,b⟩
 ·rw[Qd1 e]at z
  exact h y s z
theorem xo_nil:XOs K mg []:=fun _ h=>nomatch h
theorem xo_cons {h : Heap} {y q : Str} {D N : Addr} {ys : List Str} {bs bm : List Value} {sn : List Str} {sub : List Value} {ab : Bool} {col : Option Bool} {dd : Option Addr} {k0 k1 k2 k3 k5 : Option Value} (X : K.In h) (G : h.Ns mainGlobals mg) (g : nsIn K mainGlobals y = some (some (.ref D)))
  (l:K.lookup D=some (excClassObj y q D N bs bm true sn sub ab col dd k0 k1 k2 k3 k5 "ValueError.__new__")) (t:XOs K mg ys):XOs K mg (y::ys):=fun x z=>by
 rw[List.contains_cons,Bool.or_eq_true]at z
 rcases z with z | z
 ·rw[beq_iff_eq.mp z];exact⟨D,⟨g,_,_,_,_,_,_,_,_,_,_,_,_,_,_,l⟩,mg_of X G g⟩
 ·exact t x z
end
end
section
variable {P:Program}{w:World}{K:Frag}{mg:Str->Option Value}{base:Heap}{N:List Str}{qual:Str}{scope:Scope}{f:Addr}{cd:Value}{A:Around}{outer:List Env}{s:Shared}{H:Hp}{E:XK}
variable {pins:List (Addr × Obj)}{σ:L2.St}{H':Hp}{s':Shared}{a C:Addr}
end
end MM
namespace MM
noncomputable def sTryB (c:CS) (ys:List PySem.Str) (i:Nat) (hb:CS):CS:=fun l s=>match c l s with
 | .ok f s'=>.ok f s'
 | .exc d s'=>(match d with
  | .exn x ds => if x ∈ ys then bnd (noM (hb (l.set i (some (.exn x ds))))) (fun f => match f with
    | .next l'=>ret (.next (l'.set i none))
    | .ret d=>ret (.ret d)
    | _=>bad) s' else .bad
  | _=>.bad)
 | .bad=>.bad
open PySem PySem.W PyProof.Rows L2
section
variable {X:Cx}{x f:Str}{C N P NP:Addr}{p cpos pos:Pos}
theorem Qku (hex : X.ex = []) (hcm : X.calm = true) (F : XF X.K x f C N P NP) (hi : nsIn X.K N (Str.ofString "__init__") = some none) (hg : Gl X x) (hm : X.mg x = some (.ref C)) (hdb : (x == ("__debug__" : Str)) = false) :
  SX X (.Raise (some (.Call (.Name x p) [] [] cpos)) none pos) (xRaise0 x):=by
 intro pins s σ H D I pq162;obtain⟨ρ,l,st,lr,sr,q⟩:=pq162
 rw[arm_exec_Raise]
 refine wpAny_bind (wpAny_standAt ?_)
 show wpAny _ _ (raiseStmt X.env (some (do let v <- eval (.Call (.Name x p) [] [] cpos) X.env;standAt pos;pure v)) none) _ _ _
 have mk:=Qhv (X:=X) (p:=p) (pos:=cpos) F hi hg hm hdb
 refine Qj5 (C:=C) (N:=N) (bm:=.ref P::vErr) Qj6 (I.ok.hd hcm) (wpAny_bind (thn (mk pins s σ H (fun v H2=>∃ a d vs sl,v=.ref a/\H2 a=some (.frz ⟨.ref C,d,.fields vs,sl⟩ (.own a))/\vs[1]?=some .none/\X.s₀.heap.get? a=none/\(∀ o u,X.H₀ a≠some (.frz o u))/\∀ pins σ s',Inv X pins σ H2 s'->Fl X.s₀.heap X.H₀ H2 s'.heap a->X.xe (.ref a) s') I ?_) fun v s1 z=>?_))
 ·intro a ob h1 h0 h4 h5 h6
  have k:∀ b u,H b=some u->upd H a (.frz ob (.own a)) b=some u:=fun b u q=>by rw[Qaj (Qal q h1)];exact q
  have W:=q ρ _ (Ex.more k) (sr.more k)
  have rep:Rep X.K ρ (upd H a (.frz ob (.own a))) (.ref a) (.exn x []):=.exn0 F.gl ⟨ob,Qai,h4⟩
  obtain⟨vs,e1,e2,_⟩:=h6
  obtain⟨c0,d0,dd0,sl0⟩:=ob
  cases h4
  cases e1
  have nz:∀ o u,X.H₀ a≠some (.frz o u):=fun o u z=>by
   have:=I.base.frzs a o u z
   rw[h1]at this;cases this
  exact⟨a,d0,vs,sl0,rfl,Qai,e2,h0 hex,nz,fun pins σ s' I' fl=>W pins σ s' a I' rep fl⟩
 ·obtain⟨y,H2,I2,ry,a,d,vs,sl,rfl,ga,hv,h0,hz,hx⟩:=z
  obtain rfl:v=Value.ref a:=ry
  obtain⟨mN,mP,ch,_⟩:=F.ch I2.kIn
  obtain⟨gh,_⟩:=(show ObjOk X.prog X.w H2 s1.heap a (.frz ⟨.ref C,d,.fields vs,sl⟩ (.own a)) from I2.hok a _ ga)
  exact wpAny_bind (wpAny_standAt (wpAny_pure ⟨a,d,vs,sl,mN,rfl,ch.c,gh,hv,hx pins σ s1 I2 ⟨h0,hz,_,_,_,_,ga,.inl hv⟩⟩))
end
theorem Qkv:(vErr:List Value).contains (.type "BaseException")=true:=by nofun
noncomputable def hCodeB (ys:List Str) (i:Nat) (hb:CS) (l:Loc) (d:D):M Flw:=fun s'=>match d with
 | .exn x ds => if x ∈ ys then bnd (noM (hb (l.set i (some (.exn x ds))))) (fun f => match f with
   | .next l'=>ret (.next (l'.set i none))
   | .ret d=>ret (.ret d)
   | _=>bad) s' else .bad
 | _=>.bad
section
variable {X:Cx}{e:Expr}{es:List Expr}{ca:CA}{hc:CS}
variable {k n:Nat}{f:Addr}{fd:FuncData}{ps:List Str}{g:List D->M D}{fn x z nm:Str}{ys:List Str}{p p2 p3 cpos apos hpos pos:Pos}{i j:Nat}{Z:Addr}{b0:Stmt}{suite:List Stmt}
theorem Qkw {b : Stmt} {cb : CS} {fs : L2.St -> V -> L2.St} {fl : Loc -> D -> Loc} (hcm : X.calm = true) (hst : X.stack = X.env :: X.outer) (hfr : X.env.frame = some X.env.locals) (F : FnOk X.prog X.w X.K X.mg X.base (CX1 X.prog X.w) k f fd ps (spX X.K n g)) (hr : Room k X.A) (hg : Gl X fn) (hm : X.mg fn = some (.ref f))
  (hk:keepIn X.K (.ref f)=true) (hb:Binds X.K fd ps []) (ha:SA X.nox (e::es) ca) (hn:∀ l st ds st',ca l st=.ok ds st'->ds.length=n) (hdb:(fn == ("__debug__":Str))=false)
  (he:starEach (e::es) X.env=(false,eval e X.env)::starEach es X.env) (hpl:(backTo cpos (starEach es X.env)).any (·.1)=false)
  (hN:X.N.Nodup) (hcb:∀ l st,cb l st=bnd (cCall g (noA ca) l) (fun d=>ret (.next (fl l d))) st) (hl':∀ {ρ H σ l v d},LR X.K ρ H σ l->Rep X.K ρ H v d->LR X.K ρ H (fs σ v) (fl l d))
  (hB:∀ {s:Shared}{Q:Flow->Shared->Prop}{E:Value->Shared->Prop}{pins σ H},Inv X pins σ H s->wpAny (model X.prog X.w) X.A (eval (.Call (.Name fn p2) (e::es) [] cpos) X.env) (fun u s1=>∃ v σ1 H1,Inv X pins σ1 H1 s1/\RelV v u/\∀ s2,Inv X pins (fs σ1 v) H1 s2->Q .next s2) E s->wpAny (model X.prog X.w) X.A (execs [b] X.env) Q E s)
  (G:∀ y∈ys,∃ fl C N P NP,XF X.K y fl C N P NP/\(Z=C\/Z=P)) (hgy:Gl X z) (hmy:X.mg z=some (.ref Z)) (hdy:(z == ("__debug__":Str))=false) (hi:X.N[i]?=some nm) (hl:X.env.scope.names.lookup nm=some .local)
  (hsuite:∀ a,SSs (hand X a) (b0::suite) hc):
  SS X (.Try [b] [.ExceptHandler (some (.Name z p3)) (some nm) (b0::suite) hpos] [] [] pos) (sTryB cb ys i hc):=by
 intro pins s σ H D I pq163;obtain⟨ρ,l,st,lr,sr,q⟩:=pq163
 refine wpAny_Try_except (hB I ?_)
 refine wpAny_Call_Name_kw (Qax I hg hm ?_ hdb)
 have arg : tsOf X.K (sTryB cb ys i hc) D σ H -> taOf X.K ca σ H fun vs H1 => spX X.K n g vs H1 (fun v H2 => D.nx (fs σ v) H2) (fun v _ H2 => ∀ a, v = .ref a -> (∀ o u, H1 a ≠ some (.frz o u)) -> ∀ H3, Turned a H2 H3 -> ∃ ρ3 d st3, LR X.K ρ3 H3 σ l /\ SR X.K ρ3 H3 st3 /\ Rep X.K ρ3 H3 (.ref a) d /\ Post X.K ρ3 H3 (hCodeB ys i hc l d st3) fun f _ ρ' H' => match f with
   | .next l'=>∀ σ',LR X.K ρ' H' σ' l'->D.nx σ' H'
   | .ret d=>∀ v,Rep X.K ρ' H' v d->D.rt v H'
   | .brk l'=>∀ σ',LR X.K ρ' H' σ' l'->D.bk σ' H'
   | .cnt l'=>∀ σ',LR X.K ρ' H' σ' l'->D.ct σ' H'):=fun _=>by
  refine⟨ρ,l,st,lr,sr,?_⟩
  cases ec:ca l st with
  | bad=>
   have:sTryB cb ys i hc l st=.bad:=by unfold sTryB;rw[hcb];unfold cCall noA noM bnd;dsimp only;rw[ec]
   rw[this]at q;exact q
  | exc _ _=>
   have:sTryB cb ys i hc l st=.bad:=by unfold sTryB;rw[hcb];unfold cCall noA noM bnd;dsimp only;rw[ec]
   rw[this]at q;exact q
  | ok ds st1=>
   intro ρ1 H1 x1 s1 vs rvs
   refine⟨by rw[rvs.length];exact hn l st ds st1 ec,ρ1,st1,ds,s1,rvs,?_⟩
   cases eg:g ds st1 with
   | bad=>
    have:sTryB cb ys i hc l st=.bad:=by unfold sTryB;rw[hcb];unfold cCall noA noM bnd;dsimp only;rw[ec];dsimp only;rw[eg]
    rw[this]at q;exact q
   | ok r st2=>
    have:sTryB cb ys i hc l st=.ok (.next (fl l r)) st2:=by unfold sTryB;rw[hcb];unfold cCall noA noM bnd;dsimp only;rw[ec];dsimp only;rw[eg];rfl
    rw[this]at q
    exact fun ρ2 H2 x2 s2 v rv=>q ρ2 H2 (x1.trans x2) s2 _ (hl' (lr.mono (x1.trans x2)) rv)
   | exc d st2=>
    have:sTryB cb ys i hc l st=hCodeB ys i hc l d st2:=by unfold sTryB;rw[hcb];unfold cCall noA noM bnd hCodeB;dsimp only;rw[ec];dsimp only;rw[eg];cases d<;>rfl
    rw[this]at q
    intro ρ2 H2 x2 s2 a rep a' ea na H3 t
    cases ea
    have x3:=Ex.turn t x2 na
    exact⟨ρ2,d,st2,lr.mono (x1.trans x3),s2.turn t,rep.turn t,Post.left (x1.trans x3) q⟩
 have hq:=arg ⟨ρ,l,st,lr,sr,q⟩
 refine PySem.W.callWith_K (h₀:=X.base) I.ok.mod.kin hk (wpAny_mono (ha cpos pins s σ H _ (I.wish _) hq) (fun us s1 z=>?_) fun _ _ z=>False.elim z) he hpl
 obtain⟨vs,H1,I1',rv,sp⟩:=z
 have I1:Inv X pins σ H1 s1:=I1'.unwish
 refine⟨I1.kIn,?_⟩
 have hlen:(us++[]).length=ps.length:=by rw[List.append_nil,<- rv.length];exact F.len _ _ _ _ sp
 refine wpAny_call (codeAny_mono (F.run X.A X.stack s1 H1 ⟨us,[]⟩ (us++[]) vs _ _ hr I1.env0 (hb s1 us I1.kIn hlen) (by rw[List.append_nil];exact rv) sp) fun r s2 hr2=>?_)
 cases r with
 | ok fl=>
  cases fl with
  | ret u=>
   obtain⟨v,H2,I2,ru,nx⟩:=I1.after hr2
   exact⟨v,σ,H2,I2,ru,fun s3 I3=>wpAny_execs_nil ⟨_,H2,I3,nx⟩⟩
  | next=>exact False.elim hr2
  | brk=>exact False.elim hr2
  | cont=>exact False.elim hr2
 | error ev=>
  obtain⟨a,H2,rfl,os,bare,un,hok,fl,hE⟩:=hr2
  have I2:Inv X pins σ H2 s2:=I1.call' os un hok bare (ch:=[]) (fun b z=>absurd z (by simp))
  obtain⟨c,d0,vs0,sl,hH,hv,hT⟩:=fl.fly
  obtain⟨ga,_⟩:=(show ObjOk X.prog X.w H2 s2.heap a (.frz ⟨c,d0,.fields vs0,sl⟩ (.own a)) from I2.hok a _ hH)
  have hfs:X.A.frames=some (X.env::X.outer):=by rw[<- hst];exact I2.ok.frames
  have hstk:s2.heap.FunFrames X.base (X.env::X.outer):=by rw[<- hst];exact I2.stack
  have hsf:∀ b∈(X.env::X.outer).filterMap (·.frame),H2 b=none:=by
   have:=I2.stkFree;rw[hst]at this;exact this
  have un':Un ((X.env::X.outer).filterMap (·.frame)) [] H1 H2 s1.heap s2.heap:=by rw[hst]at un;exact un
  have key:∀ h4,Gone ((X.env::X.outer).filterMap (·.frame)) a c d0 sl vs0 .none s2.heap h4->∃ H4 o4,Inv X pins σ H4 { s2 with heap:=h4 }/\Turned a H2 H4/\h4.get? a=some o4/\o4.cls=c:=fun h4 g4=>by
   obtain⟨vs',T,ts,c',d',sl',e1,e2,e3,e4,e5,e6,e7⟩:=g4.ex
   have un4:=Qj9 (vs':=vs') un' fl.1 fl.2.1 hH (fun T z=>(hT T z).2) g4 (fun b o _ hb=>hb)
   refine⟨_,_,I1.call' (s':={ s2 with heap:=h4 }) os (by rw[hst];exact un4) (QjT hok hsf hH (fun T z=>(hT T z).1) g4 e1) bare (ch:=[]) (fun b z=>absurd z (by simp)),⟨c,d0,vs0,vs',sl,hH,e7,rfl⟩,e1,rfl⟩
  refine QjQ hfs hstk hfr ga hv fun h3 g3=>Gone.calm (s:={ s2 with heap:=h3 }) g3 fun h4 g4=>?_
  obtain⟨H4,o4,I4,t4,ga4,hc4⟩:=key h4 g4
  obtain⟨ρ4,d4,st4,lr4,sr4,rep4,p4⟩:=hE a rfl fl.2.1 H4 t4
  have exn_of:∀ {ρ':List Addr}{H':Hp}{d:MM.D}{st':Sto}{R:Flw->Sto->List Addr->Hp->Prop},Post X.K ρ' H' (hCodeB ys i hc l d st') R->∃ y ds,d=.exn y ds/\y∈ys:=fun {ρ' H' d st' R} z=>by
   cases d with
   | exn x' ds=>
    by_cases e:x'∈ys
    ·exact⟨x',ds,rfl,e⟩
    ·unfold hCodeB at z
     dsimp only at z
     rw[if_neg e]at z
     exact z.elim
   | _=>exact z.elim
  obtain⟨y4,ds4,ed4,hy4⟩:=exn_of p4
  subst ed4
  obtain⟨fl4,C,N,P,NP,G4,hZ⟩:=G y4 hy4
  have hcC:c=.ref C:=by
   obtain⟨c1,d1,vs1,vs1',sl1,e1,_,rfl⟩:=t4
   rw[hH]at e1
   cases e1
   cases rep4 with
   | exn0 g h=>
    obtain⟨o,ho,hco⟩:=h
    rw[Qai]at ho
    cases ho
    have:=g.symm.trans G4.gl
    injection this with t;injection t with t;rw[<- t];exact hco
   | exn g h h2 r=>
    obtain⟨o,ho,hco,_⟩:=h
    rw[Qai]at ho
    cases ho
    have:=g.symm.trans G4.gl
    injection this with t;injection t with t;rw[<- t];exact hco
  refine wpAny_handleBy_cons (codeAny_handlers_test ?_) (by intro q;cases q)
  refine Qax (X:=hand X a) (Qkb I4) hgy hmy ?_ hdy
  obtain⟨mN,mP,ch,_⟩:=G4.ch I4.kIn
  have hmt:∀ {Q:Bool->Shared->Prop}{E:Value->Shared->Prop},Q true { s2 with heap:=h4 }->wpAny (model X.prog X.w) (hand X a).A (excMatches (.ref a) (.ref Z)) Q E { s2 with heap:=h4 }:=fun {Q E} hQ=>by
   rcases hZ with z | z
   ·subst z
    refine Qj8 ch.c ch.c Qj6 ga4 (hc4.trans hcC) ?_
    rw[show (Value.ref Z::Value.ref P::vErr).contains (.ref Z)=true by simp]
    exact hQ
   ·subst z
    refine Qj8 ch.c ch.p Qkv ga4 (hc4.trans hcC) ?_
    rw[show (Value.ref C::Value.ref Z::vErr).contains (.ref Z)=true by simp]
    exact hQ
  refine hmt ?_
  refine codeAny_handlers_suite_as ?_
  refine Gone.calm (s:={ s2 with heap:=h4 }) g4 fun h5 g5=>?_
  obtain⟨H5,o5,I5,t5,ga5,hc5⟩:=key h5 g5
  obtain⟨ρ5,d5,st5,lr5,sr5,rep5,p5⟩:=hE a rfl fl.2.1 H5 t5
  obtain⟨y,ds,ed5,hy5⟩:=exn_of p5
  subst ed5
  have hlen:i < σ.length:=by rw[I.len];exact (List.getElem?_eq_some_iff.mp hi).1
  refine Qar I5 hN hi (.inl hl) (v:=.ref a) rfl (fun s6 I6=>?_) (.inr hl)
  refine wpAny_mono (hsuite a pins s6 _ H5 { nx:=fun σ' H'=>D.nx (σ'.set i none) H',rt:=D.rt,bk:=fun _ _=>False,ct:=fun _ _=>False } (Qkb I6) ⟨ρ5,l.set i (some (.exn y ds)),st5,lr5.set i rep5,sr5,?_⟩) (fun fw s7 hs7=>?_) (fun _ _ z=>False.elim z)
  ·unfold hCodeB at p5
   dsimp only at p5
   rw[if_pos hy5]at p5
   refine (Post.no (Post.bnd p5)).imp fun fw st6 ρ6 H6 x6 s6' p6=>?_
   cases fw with
   | next l'=>exact fun σ' lr'=>Post.ret p6 s6' _ lr'.unset
   | ret d=>exact fun v rv=>Post.ret p6 s6' v rv
   | brk l'=>exact p6.elim
   | cnt l'=>exact p6.elim
  ·have fin : ∀ (σ' : L2.St) H', Inv X pins σ' H' s7 -> ∀ {Q : Unit -> Shared -> Prop} {E : Value -> Shared -> Prop}, (∀ s9, Inv X pins (σ'.set i none) H' s9 -> Q () s9) -> wpAny (model X.prog X.w) X.A (do bindName X.env nm .none; unbindBehindTheSuite X.env nm hpos) Q E s7 := fun σ' H' I7 {Q E} hQ => by
     have hl7:i < σ'.length:=by rw[I7.len];exact (List.getElem?_eq_some_iff.mp hi).1
     refine wpAny_bind (wpAny_bindName (Qar I7 hN hi (.inl hl) (v:=.non) rfl (fun s8 I8=>?_) (.inr hl)))
     unfold unbindBehindTheSuite
     refine wpAny_onRaise (Qkd I8 hN hi hl (List.getElem?_set_self hl7) fun s9 I9=>hQ s9 ?_)
     rw[List.set_set]at I9
     exact I9
   cases fw with
   | next=>
    obtain⟨σ',H',I7,nx⟩:=hs7
    exact fin σ' H' (Qkc I.ok I7) fun s9 I9=>⟨_,H',I9,nx⟩
   | ret u=>
    obtain⟨v,σ',H',I7,r,rt⟩:=hs7
    exact fin σ' H' (Qkc I.ok I7) fun s9 I9=>⟨v,_,H',I9,r,rt⟩
   | brk=>obtain⟨_,_,_,z⟩:=hs7;exact False.elim z
   | cont=>obtain⟨_,_,_,z⟩:=hs7;exact False.elim z
theorem Qkx (hcm : X.calm = true) (hst : X.stack = X.env :: X.outer) (hfr : X.env.frame = some X.env.locals) (F : FnOk X.prog X.w X.K X.mg X.base (CX1 X.prog X.w) k f fd ps (spX X.K n g)) (hr : Room k X.A) (hg : Gl X fn) (hm : X.mg fn = some (.ref f))
  (hk:keepIn X.K (.ref f)=true) (hb:Binds X.K fd ps []) (ha:SA X.nox (e::es) ca) (hn:∀ l st ds st',ca l st=.ok ds st'->ds.length=n) (hdb:(fn == ("__debug__":Str))=false)
  (he:starEach (e::es) X.env=(false,eval e X.env)::starEach es X.env) (hpl:(backTo cpos (starEach es X.env)).any (·.1)=false)
  (hN:X.N.Nodup) (hj:X.N[j]?=some x) (hx:L2.Loc X.env.scope x) (hs:swapsWith (.Call (.Name fn p2) (e::es) [] cpos) (some (.Name x p)) apos.line X.env=pure false) (hf:X.fn x=true\/X.env.scope.names.lookup x=some .local)
  (G:∀ y∈ys,∃ fl C N P NP,XF X.K y fl C N P NP/\(Z=C\/Z=P)) (hgy:Gl X z) (hmy:X.mg z=some (.ref Z)) (hdy:(z == ("__debug__":Str))=false) (hi:X.N[i]?=some nm) (hl:X.env.scope.names.lookup nm=some .local)
  (hsuite:∀ a,SSs (hand X a) (b0::suite) hc):
  SS X (.Try [.Assign [.Name x p] (.Call (.Name fn p2) (e::es) [] cpos) apos] [.ExceptHandler (some (.Name z p3)) (some nm) (b0::suite) hpos] [] [] pos) (sTryB (sAsg (gVar j) (cCall g (noA ca))) ys i hc):=by
 exact Qkw hcm hst hfr F hr hg hm hk hb ha hn hdb he hpl hN (cb:=sAsg (gVar j) (cCall g (noA ca))) (fs:=fun σ v=>σ.set j (some v)) (fl:=fun l d=>l.set j (some d)) (fun l st=>by unfold sAsg bnd;cases cCall g (noA ca) l st<;>rfl) (fun lr rv=>lr.set j rv)
  (fun I h=>wpAny_execs_cons (wpAny_Assign_Name (wpAny_mono h (fun u s1 pq112=>by obtain⟨v,σ1,H1,I1,ru,k⟩:=pq112;exact Qar I1 hN hj hx ru (fun s3 I3=>wpAny_execs_nil (k s3 I3)) hf) fun _ _ z=>z) hs)) G hgy hmy hdy hi hl hsuite
theorem Qky (hcm : X.calm = true) (hst : X.stack = X.env :: X.outer) (hfr : X.env.frame = some X.env.locals) (F : FnOk X.prog X.w X.K X.mg X.base (CX1 X.prog X.w) k f fd ps (spX X.K n g)) (hr : Room k X.A) (hg : Gl X fn) (hm : X.mg fn = some (.ref f))
  (hk:keepIn X.K (.ref f)=true) (hb:Binds X.K fd ps []) (ha:SA X.nox (e::es) ca) (hn:∀ l st ds st',ca l st=.ok ds st'->ds.length=n) (hdb:(fn == ("__debug__":Str))=false)
  (he:starEach (e::es) X.env=(false,eval e X.env)::starEach es X.env) (hpl:(backTo cpos (starEach es X.env)).any (·.1)=false)
  (hN:X.N.Nodup) (hs:swapsWith (.Call (.Name fn p2) (e::es) [] cpos) none apos.line X.env=pure false)
  (G:∀ y∈ys,∃ fl C N P NP,XF X.K y fl C N P NP/\(Z=C\/Z=P)) (hgy:Gl X z) (hmy:X.mg z=some (.ref Z)) (hdy:(z == ("__debug__":Str))=false) (hi:X.N[i]?=some nm) (hl:X.env.scope.names.lookup nm=some .local)
  (hsuite:∀ a,SSs (hand X a) (b0::suite) hc):
  SS X (.Try [.Expr (.Call (.Name fn p2) (e::es) [] cpos) apos] [.ExceptHandler (some (.Name z p3)) (some nm) (b0::suite) hpos] [] [] pos) (sTryB (sExp (cCall g (noA ca))) ys i hc):=by
 exact Qkw hcm hst hfr F hr hg hm hk hb ha hn hdb he hpl hN (cb:=sExp (cCall g (noA ca))) (fs:=fun σ _=>σ) (fl:=fun l _=>l) (fun l st=>by unfold sExp bnd;cases cCall g (noA ca) l st<;>rfl) (fun lr _=>lr)
  (fun I h=>wpAny_execs_cons (wpAny_Expr_any (wpAny_mono h (fun u s1 pq113=>by obtain⟨v,σ1,H1,I1,ru,k⟩:=pq113;exact wpAny_execs_nil (k s1 I1)) fun _ _ z=>z) I.quiet hs)) G hgy hmy hdy hi hl hsuite
end
structure XC where
 cs:List (Str × Str)
 zs:List Str
noncomputable def XC.ys (x:XC):List Str:=x.cs.map (·.1)++x.zs
section
variable {P:Program}{w:World}{K:Frag}{mg:Str->Option Value}{base:Heap}
structure XCOk (P:Program) (w:World) (K:Frag) (mg:Str->Option Value) (base:Heap) (x:XC):Prop where
 cs:∀ p∈x.cs,XR P w K mg base p.1 p.2
 zs:∀ y∈x.zs,∃ f C N PA NP,XF K y f C N PA NP/\mg y=some (.ref C)/\nsIn K N (Str.ofString "__init__")=some none
theorem XCOk.xf {x:XC} (h:XCOk P w K mg base x):∀ y∈x.ys,∃ f C N PA NP,XF K y f C N PA NP:=fun y hy=>by
 rcases List.mem_append.mp hy with z | z
 ·obtain⟨p,hp,rfl⟩:=List.mem_map.mp z
  obtain⟨C,N,PA,NP,fI,fd,ps,F,_⟩:=(h.cs p hp).ex
  exact⟨_,_,_,_,_,F⟩
 ·obtain⟨f,C,N,PA,NP,F,_⟩:=h.zs y z
  exact⟨_,_,_,_,_,F⟩
end
section
variable {X:Cx}{c:RC}{q:Rec}{E:List (Str × RF)}
noncomputable def stpY (q:Rec) (c:RC) (E:List (Str × RF)) (x:XC) (k:Stmt->Option CS) (s:Stmt):Option CS:=match s with
 | .Raise (some (.Call (.Name y _) es [] _)) none _=>if c.glo y=true/\nokB y=true then (match es with
  | []=>if y∈x.zs then some (xRaise0 y) else none
  | [e]=>if 2<=c.k/\plE e=true then (x.cs.find? fun p=>p.1 == y).bind fun p=>(q.e c e).bind fun fa=>some (xRaise y p.2 fa) else none
  | _=>none) else none
 | .If t a b _=>(q.t c t).bind fun ft=>(blX k a).bind fun fa=>(blX k b).bind fun fb=>some (sIf (noT ft) fa fb)
 | .For tg it b [] _=>if nsE it=true then (q.i c tg it).bind fun fi=>(q.g c tg).bind fun fg=>(blX k b).bind fun fb=>some (sFor (noI fi) (noG fg) fb) else none
 | .Expr e _=>match rcC q c E e with
  | some f=>some (sExp f)
  | none=>(q.s c s).bind fun f=>some (noX f)
 | .Return (some e) _=>match rcC q c E e with
  | some f=>some (sRet f)
  | none=>(q.s c s).bind fun f=>some (noX f)
 | .Assign [.Name x _] e _=>match rcC q c E e with
  | some f=>(tgC c x).bind fun i=>some (sAsg (gVar i) f)
  | none=>(q.s c s).bind fun f=>some (noX f)
 | _=>(q.s c s).bind fun f=>some (noX f)
noncomputable def stY (q:Rec) (c:RC) (E:List (Str × RF)) (x:XC):Nat->Stmt->Option CS
 | 0=>fun _=>none
 | n + 1=>stpY q c E x (stY q c E x n)
theorem Qkz (hq:RecOk q) (g:Good X c) (hE:EnvX X.prog X.w X.K X.mg X.base E) (hex:X.ex=[]) {x:XC} (R:XCOk X.prog X.w X.K X.mg X.base x):∀ (n:Nat) (s:Stmt) (f:CS),stY q c E x n s=some f->SX X s f:=by
 intro n
 induction n with
 | zero=>intro s f h;cases h
 | succ n ih=>
  intro s f h
  have lift:∀ {s:Stmt}{f:CS},((q.s c s).bind fun f=>some (noX f))=some f->SX X s f:=fun {s f} h=>by
   simp only[Option.bind_eq_some_iff]at h
   obtain⟨fa,h1,z⟩:=h
   cases z
   exact QjV (hq.s g h1)
  change stpY q c E x (stY q c E x n) s=some f at h
  unfold stpY at h
  split at h
  ·rw[Option.ite_none_right_eq_some]at h
   obtain⟨⟨h2,h3⟩,h⟩:=h
   split at h
   ·rw[Option.ite_none_right_eq_some]at h
    obtain⟨hz,z⟩:=h
    cases z
    obtain⟨f,C,N,PA,NP,F,m,hi⟩:=R.zs _ hz
    exact Qku hex g.S.calm F hi (g.S.glo _ (beq_iff_eq.mp h2)) m (QhX h3).d
   ·simp only[Option.ite_none_right_eq_some,Option.bind_eq_some_iff]at h
    obtain⟨⟨h4,h5⟩,p,hp,fa,ha,z⟩:=h
    cases z
    have e:=List.find?_some hp
    rw[beq_iff_eq]at e
    obtain⟨C,N,PA,NP,fI,fd,ps,F,m,hi,hfn,G,B⟩:=(R.cs p (List.mem_of_find?_eq_some hp)).ex
    subst e
    exact Qj7 hex g.S.calm F hi hfn G (g.hr.mono h4) B (g.S.glo _ (beq_iff_eq.mp h2)) m (QhX h3).d (hq.e g ha) (Qh0 h5)
   ·cases h
  ·simp only[Option.bind_eq_some_iff]at h
   obtain⟨ft,h1,fa,h2,fb,h3,z⟩:=h
   cases z
   exact QjY (hq.t g h1) (Qkp ih h2) (Qkp ih h3)
  ·simp only[Option.ite_none_right_eq_some,Option.bind_eq_some_iff]at h
   obtain⟨h0,fi,h1,fg,h2,fb,h3,z⟩:=h
   cases z
   exact Qj4 g.ps g.S.calm (hq.i g h1) (hq.g g h2) (Qkp ih h3) (Qh4 h0)
  ·split at h
   ·rename_i h1
    cases h
    obtain⟨a,b⟩:=Qko hq g hE hex h1
    exact Qj1 a (Qh3 b)
   ·exact lift h
  ·split at h
   ·rename_i h1
    cases h
    exact Qj2 (Qko hq g hE hex h1).1
   ·exact lift h
  ·split at h
   ·rename_i h1
    simp only[Option.bind_eq_some_iff]at h
    obtain⟨i,hi,z⟩:=h
    cases z
    obtain⟨a,b⟩:=Qko hq g hE hex h1
    obtain⟨e1,k,e2,e3⟩:=Qie g hi
    exact Qj3 g.nd e1 (g.S.loc _ _ e2 e3).1 a (Qh3 b) (g.S.loc _ _ e2 e3).2
   ·exact lift h
  ·exact lift h
end
section
variable {X:Cx}{c:RC}{q:Rec}{E:List (Str × RF)}
noncomputable def hpY (c:RC) (ys:List Str) (x:XC) (k:Expr->Option CE) (e:Expr):Option CE:=match e with
 | .Name x _=>(varC c x).bind fun i=>some (cVar i)
 | .Attribute o g _=>if baE o=true then (x.cs.find? fun p=>p.2 == g).bind fun p=>(k o).bind fun fa=>some (c1 (attrX p.1 g) fa) else none
 | .Call (.Name z _) [a, .Name t _] [] _ => if z = Str.ofString "isinstance" /\ c.bl z = true /\ plE a = true then
   (if t=Str.ofString "ValueError"/\c.bl t=true then (k a).bind fun fa=>some (c1 (isiX x.ys fun _=>true) fa)
    else if ys.contains t=true/\c.glo t=true/\nokB t=true then (k a).bind fun fa=>some (c1 (isiX x.ys fun x=>x == t || ("PactError":Str) == t) fa) else none) else none
 | .Call (.Name z _) [a, .Tuple es _ _] [] _ => if z = Str.ofString "isinstance" /\ c.bl z = true /\ plE a = true then
   (nmsC (fun t=>ys.contains t && c.glo t && nokB t) es).bind fun zs=>if zs.length<=10 then (k a).bind fun fa=>some (c1 (isiX x.ys fun x=>zs.any fun t=>x == t || ("PactError":Str) == t) fa) else none else none
 | .BoolOp .And [a,b] _=>(k a).bind fun fa=>(k b).bind fun fb=>some (cAnd fa fb)
 | .UnaryOp .Not a _=>(k a).bind fun fa=>some (cNot fa)
 | .List es _=>(argH k es).bind fun ca=>some (cKeep (aDisp ca))
 | .BinOp a .Add b _=>(k a).bind fun fa=>(k b).bind fun fb=>some (c2 addD fa fb)
 | _=>none
noncomputable def hY (c:RC) (ys:List Str) (x:XC):Nat->Expr->Option CE
 | 0=>fun _=>none
 | n + 1=>hpY c ys x (hY c ys x n)
theorem QkA (g:Good X c) {ys:List Str}{x:XC} (R:XCOk X.prog X.w X.K X.mg X.base x) (hy:XOs X.K X.mg ys) (a:Addr):∀ (n:Nat) (e:Expr) (f:CE),hY c ys x n e=some f->SE (hand X a) e f:=by
 have B:=R.xf
 intro n
 induction n with
 | zero=>intro s f h;cases h
 | succ n ih=>
  intro e f h
  change hpY c ys x (hY c ys x n) e=some f at h
  unfold hpY at h
  split at h
  ·rename_i x p
   rw[Option.bind_eq_some_iff]at h
   obtain⟨i,hi,h⟩:=h
   cases h
   unfold varC at hi
   rw[Option.ite_none_right_eq_some]at hi
   obtain⟨⟨h1,h2,h3⟩,h4⟩:=hi
   cases h4
   have h1:X.N[c.N.idxOf x]?=some x:=by rw[g.N];exact h1
   have nk:=QhX h3
   rcases h2 with h2 | h2 | h2
   ·exact Qdt _ (Qas h1 (g.S.vis x _ h2 (.inl rfl)) nk.d nk.c)
   ·exact Qdt _ (Qas h1 (g.S.vis x _ h2 (.inr (.inl rfl))) nk.d nk.c)
   ·exact Qdt _ (Qas h1 (g.S.vis x _ h2 (.inr (.inr rfl))) nk.d nk.c)
  ·simp only[Option.ite_none_right_eq_some,Option.bind_eq_some_iff]at h
   obtain⟨hb,p,hp,fa,h1,z⟩:=h
   cases z
   have e:=List.find?_some hp
   rw[beq_iff_eq]at e
   have Rp:=R.cs p (List.mem_of_find?_eq_some hp)
   obtain⟨C,N,PA,NP,fI,fd,ps,F,_⟩:=Rp.ex
   have hy':=Rp.hy
   rw[e]at F hy'
   exact QhN (X:=hand X a) F hy' (ih _ _ h1) (Qh6 hb)
  ·rw[Option.ite_none_right_eq_some]at h
   obtain⟨⟨rfl,hb,hp⟩,h⟩:=h
   obtain⟨G1,M1⟩:=g.gl hb
   split at h
   ·rename_i ht
    obtain⟨rfl,hb2⟩:=ht
    obtain⟨G2,M2⟩:=g.gl hb2
    rw[Option.bind_eq_some_iff]at h
    obtain⟨fa,h1,z⟩:=h
    cases z
    exact QhP (X:=hand X a) B G1 M1 (by nofun) G2 M2 (by nofun) (ih _ _ h1) (Qh0 hp)
   ·simp only[Option.ite_none_right_eq_some,Option.bind_eq_some_iff]at h
    obtain⟨⟨h2,h3,h4⟩,fa,h1,z⟩:=h
    cases z
    obtain⟨D,O,m⟩:=hy _ h2
    exact Qkq (X:=hand X a) B O G1 M1 (by nofun) (g.S.glo _ (beq_iff_eq.mp h3)) m (QhX h4) (ih _ _ h1) (Qh0 hp)
  ·rw[Option.ite_none_right_eq_some]at h
   obtain⟨⟨rfl,hb,hp⟩,h⟩:=h
   obtain⟨G1,M1⟩:=g.gl hb
   simp only[Option.ite_none_right_eq_some,Option.bind_eq_some_iff]at h
   obtain⟨zs,hz,hl,fa,h1,z⟩:=h
   cases z
   refine Qkm (X:=hand X a) B hy (fun t ht=>?_) hz hl G1 M1 (by nofun) (ih _ _ h1) (Qh0 hp)
   rw[Bool.and_eq_true,Bool.and_eq_true]at ht
   exact⟨ht.1.1,g.S.glo _ (beq_iff_eq.mp ht.1.2),ht.2⟩
  ·simp only[Option.bind_eq_some_iff]at h
   obtain⟨fa,h1,fb,h2,z⟩:=h
   cases z
   exact QeO (ih _ _ h1) (QeN (ih _ _ h2))
  ·simp only[Option.bind_eq_some_iff]at h
   obtain⟨fa,h1,z⟩:=h
   cases z
   exact QeP (ih _ _ h1)
  ·simp only[Option.bind_eq_some_iff]at h
   obtain⟨ca,h1,z⟩:=h
   cases z
   exact Qey (Qex (Qkr ih h1))
  ·simp only[Option.bind_eq_some_iff]at h
   obtain⟨fa,h1,fb,h2,z⟩:=h
   cases z
   exact Qdz QfZ (ih _ _ h1) (ih _ _ h2)
  ·cases h
end
section
noncomputable def hSY (c:RC) (ys:List Str) (x:XC):List Stmt->Option CS
 | []=>some sNext
 | .Assign [.Name v _] e _::ss=>if ncE e=true then (tgC c v).bind fun i=>(hY c ys x 20 e).bind fun f=>(hSY c ys x ss).bind fun r=>some (sSeq (sAsg (gVar i) f) r) else none
 | _=>none
section
variable {X:Cx}{c:RC}{q:Rec}{E:List (Str × RF)}{ys:List Str}{x:XC}
theorem QkB (g:Good X c) (R:XCOk X.prog X.w X.K X.mg X.base x) (hy:XOs X.K X.mg ys) (a:Addr):∀ {ss:List Stmt}{f:CS},hSY c ys x ss=some f->SSs (hand X a) ss f
 | [],f,h=>by cases h;exact QeY
 | s::ss,f,h=>by
  unfold hSY at h
  split at h
  ·cases ‹_::_=[]›
  ·rename_i x p e p' ss' he
   injection he with e1 e2
   subst e1 e2
   simp only[Option.ite_none_right_eq_some,Option.bind_eq_some_iff]at h
   obtain⟨hn,i,hi,f1,h1,f2,h2,z⟩:=h
   cases z
   obtain⟨j1,k,j2,j3⟩:=Qie g hi
   exact QeZ (Qe5 (X:=hand X a) g.nd j1 (g.S.loc _ _ j2 j3).1 (QkA g R hy a 20 e f1 h1) (Qh3 hn) (g.S.loc _ _ j2 j3).2) (QkB g R hy a h2)
  ·cases h
noncomputable def tcY (q:Rec) (c:RC) (E:List (Str × RF)):Expr->Option (CE × Unit)
 | .Call (.Name fn _) (e::es) [] _=>if c.glo fn=true/\nokB fn=true then (E.lookup fn).bind fun r=>if r.k<=c.k/\r.n=(e::es).length then (argC q c (e::es)).bind fun ca=>some (cCall r.g (noA ca),()) else none else none
 | _=>none
noncomputable def tryY (q:Rec) (c:RC) (E:List (Str × RF)) (ys:List Str) (x:XC):Stmt->Option CS
 | .Try [b] [.ExceptHandler (some (.Name z _)) (some nm) (b0::suite) _] [] [] _=>
  if ys.contains z=true/\(z=Str.ofString "PactError"\/x.ys=[z])/\c.glo z=true/\nokB z=true/\c.top=true/\c.sc.names.lookup nm=some .local/\c.N[c.N.idxOf nm]?=some nm then
   (hSY c ys x (b0::suite)).bind fun hc=>match b with
    | .Assign [.Name v _] e _=>(tcY q c E e).bind fun f=>(tgC c v).bind fun j=>some (sTryB (sAsg (gVar j) f.1) x.ys (c.N.idxOf nm) hc)
    | .Expr e _=>(tcY q c E e).bind fun f=>some (sTryB (sExp f.1) x.ys (c.N.idxOf nm) hc)
    | _=>none
  else none
 | _=>none
theorem QkC (hq:RecOk q) (g:Good X c) (hE:EnvX X.prog X.w X.K X.mg X.base E) (hnx:X.nox=X) (hst:X.stack=X.env::X.outer) (hfr:X.env.frame=some X.env.locals) (R:XCOk X.prog X.w X.K X.mg X.base x) (hy:XOs X.K X.mg ys) {s:Stmt}{f:CS} (h:tryY q c E ys x s=some f):SS X s f:=by
 unfold tryY at h
 split at h
 ·rw[Option.ite_none_right_eq_some]at h
  obtain⟨⟨h0,h00,h1,h2,h3,h4,h5⟩,h⟩:=h
  rw[Option.bind_eq_some_iff]at h
  obtain⟨hc,hh,h⟩:=h
  obtain⟨Z,O,mz⟩:=hy _ h0
  have G:∀ y∈x.ys,∃ fl C N P NP,XF X.K y fl C N P NP/\(Z=C\/Z=P):=fun y hy'=>by
   obtain⟨fl,C,N,P,NP,F⟩:=R.xf y hy'
   refine⟨fl,C,N,P,NP,F,?_⟩
   rcases h00 with z | z
   ·subst z
    have:=O.1.symm.trans F.glP
    injection this with t;injection t with t;injection t with t;exact .inr t
   ·rw[z,List.mem_singleton]at hy'
    subst hy'
    have:=O.1.symm.trans F.gl
    injection this with t;injection t with t;injection t with t;exact .inl t
  split at h
  ·simp only[Option.bind_eq_some_iff]at h
   obtain⟨fc,hf,j,hj,z⟩:=h
   cases z
   unfold tcY at hf
   split at hf
   ·simp only[Option.ite_none_right_eq_some,Option.bind_eq_some_iff]at hf
    obtain⟨⟨h6,h7⟩,r,hr,⟨h8,h9⟩,ca,ha,z⟩:=hf
    cases z
    obtain⟨f,fd,m,F,kp,B⟩:=(hE _ _ hr).ex
    obtain⟨xa,ya,la⟩:=Qh7 hq g ha
    rw[List.all_cons,Bool.and_eq_true]at ya
    obtain⟨j1,k,j2,j3⟩:=Qie g hj
    exact Qkx g.S.calm hst hfr F (g.hr.mono h8) (g.S.glo _ (beq_iff_eq.mp h6)) m kp B (by rw[hnx];exact xa) (by rw[h9];exact la) (QhX h7).d (Qh0 ya.1) (Qh1 ya.2) g.nd j1 (g.S.loc _ _ j2 j3).1 (Qh3 rfl) (g.S.loc _ _ j2 j3).2 G (g.S.glo _ (beq_iff_eq.mp h1)) mz (QhX h2).d (by rw[g.N];exact h5) ((g.kd h3).2 _ |>.trans h4) fun a=>QkB g R hy a hh
   ·cases hf
  ·simp only[Option.bind_eq_some_iff]at h
   obtain⟨fc,hf,z⟩:=h
   cases z
   unfold tcY at hf
   split at hf
   ·simp only[Option.ite_none_right_eq_some,Option.bind_eq_some_iff]at hf
    obtain⟨⟨h6,h7⟩,r,hr,⟨h8,h9⟩,ca,ha,z⟩:=hf
    cases z
    obtain⟨f,fd,m,F,kp,B⟩:=(hE _ _ hr).ex
    obtain⟨xa,ya,la⟩:=Qh7 hq g ha
    rw[List.all_cons,Bool.and_eq_true]at ya
    exact Qky g.S.calm hst hfr F (g.hr.mono h8) (g.S.glo _ (beq_iff_eq.mp h6)) m kp B (by rw[hnx];exact xa) (by rw[h9];exact la) (QhX h7).d (Qh0 ya.1) (Qh1 ya.2) g.nd (Qh3 rfl) G (g.S.glo _ (beq_iff_eq.mp h1)) mz (QhX h2).d (by rw[g.N];exact h5) ((g.kd h3).2 _ |>.trans h4) fun a=>QkB g R hy a hh
   ·cases hf
  ·cases h
 ·cases h
noncomputable def blTY (q:Rec) (c:RC) (E:List (Str × RF)) (ys:List Str) (x:XC):List Stmt->Option CS
 | []=>some sNext
 | s::ss=>(match tryY q c E ys x s with | some f=>some f | none=>q.s c s).bind fun f=>(blTY q c E ys x ss).bind fun r=>some (sSeq f r)
theorem QkD (hq:RecOk q) (g:Good X c) (hE:EnvX X.prog X.w X.K X.mg X.base E) (hnx:X.nox=X) (hst:X.stack=X.env::X.outer) (hfr:X.env.frame=some X.env.locals) (R:XCOk X.prog X.w X.K X.mg X.base x) (hy:XOs X.K X.mg ys):∀ {ss:List Stmt}{f:CS},blTY q c E ys x ss=some f->SSs X ss f
 | [],f,h=>by cases h;exact QeY
 | s::ss,f,h=>by
  unfold blTY at h
  simp only[Option.bind_eq_some_iff]at h
  obtain⟨f1,h1,f2,h2,z⟩:=h
  cases z
  refine QeZ ?_ (QkD hq g hE hnx hst hfr R hy h2)
  split at h1
  ·rename_i h3
   cases h1
   exact QkC hq g hE hnx hst hfr R hy h3
  ·exact hq.s g h1
end
section
variable {P:Program}{w:World}{K:Frag}{mg:Str->Option Value}{base:Heap}
theorem QkE (R : Rules) {r : List Str} {x : Str} {xc : XC} {sd : Stmt} {ps : List Str} {k n m : Nat} {body : CS} {G E : List (Str × RF)} {Z : List Str} {C : List (Str × D)} {H : List (Nat × Nat × Nat)} (F : FnAt K mg x sd) (S : fscB (ps ++ r) ps (defScope sd) = true)
  (b:∀ (kV doc pm:Value) (an:Option Addr) (cdv ct:Value) (us:List Value),us.length=ps.length->bindArgs (fnOf x x (defArgs sd) (defBody sd) (defScope sd) .none kV doc pm an cdv ct) { pos:=us }=pure (ps.zip us))
  (hb:blX (stY (recN R 40) ⟨defScope sd,ps++r,k,G,Z,C,H,true⟩ E xc 20) (defBody sd)=some body) (hG:EnvOk P w K mg base G) (hE:EnvX P w K mg base E) (hR:XCOk P w K mg base xc) (hZ:ZOk mg Z) (hC:COk K mg C) (hn:ps.length=n:=by rfl) (hm:(ps++r).length=m:=by rfl):
  EnvX P w K mg base ((x,⟨n,k + 1,ps,false,runDef m body⟩)::E)/\EnvOk P w K mg base ((x,⟨n,k + 1,ps,false,runDef m body⟩)::G):=by
 obtain⟨f,fd,F,hm'⟩:=F
 have S':=Qil S
 have ok:FnOk P w K mg base (CX1 P w) (k + 1) f fd ps (spX K n (runDef m body)):=fnX F S' hn hm fun cdv A outer s Hp Ex hr=>Qkp (Qkz (X:=cxOf (CX1 P w) P w K mg base (ps++r) x (defScope sd) f cdv A outer s Hp Ex) (c:=⟨defScope sd,ps++r,k,G,Z,C,H,true⟩) (QhZ R 40)
  ⟨Qks,rfl,S'.nd,hr,hG,hZ,hC,PassesOwn.leaving,fun _=>⟨by show (if (defScope sd).kind.isAnnotationScope=true then _ else (defScope sd).kind)=_;rw[S'.kind];rfl,fun _=>rfl⟩⟩ hE rfl hR 20) hb
 exact⟨Qkt hm' ok F.kp (F.binds b) hE,Qii hm' (Qkn ok) F.kp (F.binds b) (fun z=>nomatch z) hG⟩
theorem QkF (R : Rules) {r ys : List Str} {x : Str} {xc : XC} {sd : Stmt} {ps : List Str} {k n m : Nat} {body : CS} {G E : List (Str × RF)} {Z : List Str} {C : List (Str × D)} {H : List (Nat × Nat × Nat)} (F : FnAt K mg x sd) (S : fscB (ps ++ r) ps (defScope sd) = true)
  (b:∀ (kV doc pm:Value) (an:Option Addr) (cdv ct:Value) (us:List Value),us.length=ps.length->bindArgs (fnOf x x (defArgs sd) (defBody sd) (defScope sd) .none kV doc pm an cdv ct) { pos:=us }=pure (ps.zip us))
  (hb:blTY (recN R 40) ⟨defScope sd,ps++r,k,G,Z,C,H,true⟩ E ys xc (defBody sd)=some body) (hG:EnvOk P w K mg base G) (hE:EnvX P w K mg base E) (hR:XCOk P w K mg base xc) (hy:XOs K mg ys) (hZ:ZOk mg Z) (hC:COk K mg C) (hn:ps.length=n:=by rfl) (hm:(ps++r).length=m:=by rfl):
  EnvOk P w K mg base ((x,⟨n,k + 1,ps,false,runDef m body⟩)::G):=by
 obtain⟨f,fd,F,hm'⟩:=F
 have S':=Qil S
 refine Qii hm' (QhJ F S' hn hm fun cdv A outer s Hp E' hr=>QkD (X:=(cxOf CX0 P w K mg base (ps++r) x (defScope sd) f cdv A outer s Hp E').nox) (c:=⟨defScope sd,ps++r,k,G,Z,C,H,true⟩) (QhZ R 40)
  ⟨Qhy,rfl,S'.nd,hr,hG,hZ,hC,PassesOwn.never,fun _=>⟨by show (if (defScope sd).kind.isAnnotationScope=true then _ else (defScope sd).kind)=_;rw[S'.kind];rfl,fun _=>rfl⟩⟩ hE rfl rfl rfl hR hy hb) F.kp (F.binds b) (fun z=>nomatch z) hG
end
end
section
variable {P:Program}{w:World}{K:Frag}{mg:Str->Option Value}{base:Heap}
noncomputable def XT0 (K:Frag) (mg:Str->Option Value) (y:Str):Prop:=∃ f C N PA NP,XF K y f C N PA NP/\mg y=some (.ref C)/\nsIn K N (Str.ofString "__init__")=some none
theorem xt0_mk {h : Heap} {x : Str} {C N PA NP : Addr} {q q' : Str} {bs bs' : List Value} {sn sn' : List Str} {sub sub' : List Value} {ab ab' : Bool} {col col' : Option Bool} {dd dd' : Option Addr} {k0 k1 k2 k3 k5 k0' k1' k2' k3' k5' : Option Value}
  {o o':Value}{d d':Option Addr}{es es':Array DictEntry}{ep ep':Nat}{sl sl':Array (Option Value)} (X:K.In h) (G:h.Ns mainGlobals mg)
  (g:nsIn K mainGlobals x=some (some (.ref C))) (l:K.lookup C=some (excClassObj x q C N bs (.ref PA::vErr) true sn sub ab col dd k0 k1 k2 k3 k5 "ValueError.__new__")) (lN:K.lookup N=some ⟨o,d,.dict es ep,sl⟩)
  (h1:keysB es [Str.ofString "__getattribute__",Str.ofString "__getattr__",Str.ofString "__setattr__",Str.ofString "__class__",Str.ofString "at",Str.ofString "__init__"]=true) (kp:keepIn K (.ref C)=true)
  (g':nsIn K mainGlobals "PactError"=some (some (.ref PA))) (l':K.lookup PA=some (excClassObj "PactError" q' PA NP bs' vErr true sn' sub' ab' col' dd' k0' k1' k2' k3' k5' "ValueError.__new__")) (lN':K.lookup NP=some ⟨o',d',.dict es' ep',sl'⟩)
  (h2:keysB es' [Str.ofString "__getattribute__",Str.ofString "__getattr__",Str.ofString "__setattr__",Str.ofString "__class__",Str.ofString "at",Str.ofString "__init__",Str.ofString "args"]=true):XT0 K mg x:=
 ⟨Str.ofString "at",C,N,PA,NP,QhT g l lN h1 kp g' l' lN' h2 (by simp) (fun _ z=>z),mg_of X G g,QhR lN h1 (by simp)⟩
end
end MM
namespace MM
noncomputable def ninHD (x y:D):M D:=match y with
 | .ref n=>bnd (getL n) fun ds=>match ds with
  | d::r=>chk (eqF 50 d x=some true/\(r.all fun d=>(eqF 50 d x).isSome)=true) (ret (.bl false))
  | []=>bad
 | _=>bad
noncomputable def cRemH (a b:CE):CE:=fun l=>bnd (a l) fun o=>match o with
 | .ref n=>bnd (b l) fun x=>bnd (getL n) fun ds=>match ds with
  | d::r=>chk (eqF 50 d x=some true/\ds.length<=lim) (bnd (putL n r) fun _=>ret .non)
  | []=>bad
 | _=>bad
end MM
namespace PySem.MeetsSeq
open PySem PySem.SeqAt
theorem QkG (q : Addr) (ts : Array Value) (m : Nat) (u : Value) (h0 : 0 < ts.size) (h1 : ts.size <= sizeLine) :
  Meets (Builtin.«list.remove.loop» ⟨[.ref q,u,rawInt 0],[]⟩) (fun A R s=>s.heap.get? q=some { cls:=.type "list",dict:=none,data:=.seq ts m,slots:=#[] }/\EqAt A.in1 s ts[0] u true /\
   R (.ok (.ret .none)) { s with heap:=s.heap.update q (Obj.mapSeq fun xs=>xs.eraseIdxIfInBounds 0) }):=by
 intro P w A R t z
 obtain⟨t1,t2,t3,t4,t5⟩:=t
 obtain⟨gq,eq,z⟩:=z
 wp_walk using wpAny_loadPart' gq
 have e0:ts[(0:Int).toNat]?=some ts[0]:=by simp[h0]
 rw[e0]
 refine wpAny_bind (eq P w _ _ ?_)
 have h2:(ts.eraseIdxIfInBounds 0).size<=sizeLine + 1:=Nat.le_trans (size_erased ts _) (Nat.le_succ_of_le h1)
 wp_walk using (wpAny_updateSeq gq rfl (hz:=h1) (_hz':=h2)),wpAny_loadPart' gq
 simpa using z
theorem list_remove0 (q : Addr) (ts : Array Value) (m : Nat) (u : Value) (h0 : 0 < ts.size) (h1 : ts.size <= sizeLine) :
  Meets (Builtin.«list.remove» ⟨[.ref q,u],[]⟩) (fun A R s=>s.heap.get? q=some { cls:=.type "list",dict:=none,data:=.seq ts m,slots:=#[] }/\EqAt A.in1 s ts[0] u true /\
   R (.ok (.ret .none)) { s with heap:=s.heap.update q (Obj.mapSeq fun xs=>xs.eraseIdxIfInBounds 0) }):=by
 intro P w A R t z
 obtain⟨t1,t2,t3,t4,t5⟩:=t
 obtain⟨gq,eq,z⟩:=z
 wp_walk using wpAny_loadPart' gq
 refine⟨plainId_quiet plain_remove_loop _,codeAny_builtin entry_remove_loop ?_⟩
 rw[Around.under_plainId plain_remove_loop _]
 exact QkG q ts m u h0 h1 P w A R _ ⟨gq,eq,z⟩
end PySem.MeetsSeq
namespace MM
open PySem PySem.Spec PyProof.Rows L2
section
variable {X:Cx}{pins:List (Addr × Obj)}{s:Shared}{σ:St}{H:Hp}{ρ:List Addr}
noncomputable def rRemH (K:PySem.W.Frag):V->List V->Hp->VK->Prop:=fun x ys H Q=>∃ (ρ:List Addr) (l:Addr) (v0:V) (vs:List V) (d0 d:D) (y:V),x=.ref l/\ys=[y]/\H l=some (.lst (v0::vs))/\Rep K ρ H v0 d0/\Rep K ρ H y d/\eqF 50 d0 d=some true/\vs.length < lim/\Q .non (upd H l (.lst vs))
theorem QkH (hu:X.A.units + 60 < cLine):MtM X "list.remove" (rRemH X.K):=by
 intro pins s σ H x vs v us Q I rx rv h
 obtain⟨ρ,l,v0,xs,d0,d,y,rfl,rfl,hH,r0,ry,he,hlim,q⟩:=h
 cases rx
 obtain⟨u,rfl,ru⟩:=rv.one
 obtain⟨z,its,n,r,hl,e⟩:=I.lstM hH
 cases its with
 | nil=>simp at hl
 | cons i0 its=>
  cases r with
  | cons ri rt=>
   have lz:lim<=sizeLine:=by decide
   refine call_meets F.slot_list_remove ⟨_,e,rfl⟩ F.entry_list_remove (F.args_list_remove_2 _ _) (MeetsSeq.list_remove0 l (i0::its).toArray n u (by simp) (by simp at hl ⊢;ac_nf)) ⟨e,?_,?_⟩
   ·exact ((QfU (A:=X.A.in1) I 50 (by show X.A.units + 1 + 50 < cLine;ac_nf) he r0 ry ri ru).2.2)
   ·refine⟨.non,_,I.lset (its':=its) hH e ?_ rt ?_,rfl,q⟩
    ·show (i0::its).toArray.eraseIdxIfInBounds 0=its.toArray
     rw[List.eraseIdxIfInBounds_toArray]
     rfl
    ·ac_nf
theorem QkI {o e : Expr} {fa fb : CE} {apos cpos : Pos} (hu : X.A.units + 60 < cLine) (ho : SE X o fa) (ha : SE X e fb) (hbase : attributeBase o "remove" X.env (eval o X.env) = eval o X.env := by rfl)
  (hfew:((backTo cpos (starEach [e] X.env)).all (fun x => !x.1) && (backToKw cpos (keywordEach [] X.env)).all (fun x=>x.1.isSome)
   && decide ([e].length + ([]:List Keyword).length + (if ([]:List Keyword).isEmpty then 0 else 1) < 30))=true:=by rfl)
  (hline:(apos.endLine == cpos.line)=true:=by rfl) (hs:starEach [e] X.env=(false,eval e X.env)::starEach [] X.env:=by rfl) (hplain:(backTo cpos (starEach [] X.env)).any (·.1)=false:=by rfl):
  SE X (.Call (.Attribute o "remove" apos) [e] [] cpos) (cRemH fa fb):=
 (QcB PySem.F.plainAttrs_list PySem.F.slot_list_remove PySem.F.type_list_remove (QkH hu) ho (QbL ha QbK hs) hbase hfew hline hs hplain).of fun σ H Q h_=>h_.el fun ρ l st lr sr p=>⟨ρ,l,st,lr,sr,p.bnd.imp fun d st1 ρ1 H1 x1 s1 p1 v rv=>by
  cases rv with
  | @ref a n kk h=>
   obtain⟨vs0,hv0⟩:=Qds kk
   refine⟨.inl ⟨rfl,vs0,SqL.of hv0⟩,ρ1,l,st1,lr.mono x1,s1,(Post.bnd p1).imp fun y st2 ρ2 H2 x2 s2 p2 w rw'=>?_⟩
   have h2:ρ2[n]?=some a:=by
    obtain⟨τ,e,_⟩:=x2.pre
    rw[e];exact Qdq h
   obtain⟨ds,e2,p3⟩:=Post.getL (Post.bnd p2) s2
   obtain⟨a',vs,ha,hv,r⟩:=s2.seq e2
   rw[h2]at ha;cases ha
   cases ds with
   | nil=>exact p3.elim
   | cons d0 dr=>
    obtain⟨⟨hz0,hz1⟩,p4⟩:=Post.chk p3
    cases r with
    | cons r0 rt=>
     rename_i v0 vr
     obtain⟨s3,x3⟩:=s2.put (List.getElem?_eq_some_iff.mp e2).1 h2 hv rt
     have hl:=rt.length
     refine⟨ρ2,a,v0,vr,d0,y,w,rfl,rfl,hv,r0,rw',hz0,by rw[List.length_cons]at hz1;ac_nf,?_⟩
     have p5:=Post.bnd p4
     unfold putL at p5
     rw[e2]at p5
     exact (p5 ρ2 _ x3 s3).ret s3 _ .non
  | _=>exact p1.elim⟩
noncomputable def mRemH:RuE:=meth1 "remove" cRemH noTag fun hu o a b f l s p=>QkI hu o a b f l s p
theorem QkJ (hu:X.A.units + 60 < cLine):OpR X (compareOp .NotIn) (rOf X.K ninHD):=by
 classical
 intro pins s σ H x y v u Q I rx ry pq164;obtain⟨ρ,st,d,e,sr,r1,r2,p⟩:=pq164
 cases r2 with
 | ref _ h=>
  obtain⟨ds,e2,p1⟩:=Post.getL (Post.bnd p) sr
  obtain⟨a',vs,ha,hv,r⟩:=sr.seq e2
  rw[h]at ha;cases ha
  cases ry
  cases ds with
  | nil=>exact p1.elim
  | cons d0 dr=>
   obtain⟨⟨hk,hk2⟩,p2⟩:=Post.chk p1
   obtain⟨its,rv,pl,hz⟩:=I.list (SqL.of hv)
   cases r with
   | cons r0 rt=>
    cases rv with
    | cons rv0 rvt=>
     rename_i v0 vr i0 it
     have E0:SeqAt.EqAt X.A.in1 s i0 v true:=(QfU (A:=X.A.in1) I 50 (by show X.A.units + 1 + 50 < cLine;ac_nf) hk r0 r1 rv0 rx).2.2
     have Et:∀ w∈it,∃ k,SeqAt.EqAt X.A.in1 s w v k:=fun w hw=>by
      obtain⟨j,hj⟩:=List.getElem?_of_mem hw
      obtain⟨vj,hvj,rj⟩:=Vals.at rvt hj
      obtain⟨dj,hdj,qj⟩:=Reps.at rt hvj
      have hs:=List.all_eq_true.mp hk2 dj (List.mem_of_getElem? hdj)
      obtain⟨k,hk'⟩:=Option.isSome_iff_exists.mp hs
      exact⟨k,(QfU (A:=X.A.in1) I 50 (by show X.A.units + 1 + 50 < cLine;ac_nf) hk' qj r1 rj rx).2.2⟩
     refine SeqAt.notIn_listAt (fun w=>if w=i0 then true else if h:∃ k,SeqAt.EqAt X.A.in1 s w v k then Classical.choose h else true) pl.isList (fun w hw=>?_) ⟨.bl false,H,I,?_,p2.ret sr _ (.bl _)⟩
     ·have hw:w∈i0::it:=by simpa using hw
      by_cases z:w=i0
      ·subst z
       simp only[if_true]
       exact E0
      ·have hw : w ∈ it := by
         rcases List.mem_cons.mp hw with t | t
         ·exact absurd t z
         ·exact t
       simp only[z,if_false]
       rw[dif_pos (Et w hw)]
       exact Classical.choose_spec (Et w hw)
     ·show _=_
      simp
 | _=>exact (show False from p).elim
end
end MM
namespace My
open PySem MM
noncomputable def jM : CS :=
  (sSeq (sRet (c2 subsD (c2 subsD (c2 subsD (cVar 0) (cVar 1)) (cVar 2)) (cCon (.int 0))))
  sNext)
@[irreducible] noncomputable def js:List D->M D:=runDef 3 jM
noncomputable def j7 : CS :=
  (sSeq (sRet (c2 subsD (c2 subsD (c2 subsD (cVar 0) (cVar 1)) (cVar 2)) (cCon (.int 1))))
  sNext)
@[irreducible] noncomputable def ju:List D->M D:=runDef 3 j7
noncomputable def j6 : CS :=
  (sSeq (sRet (c2 addD (cCon (.int 1)) (cTmp maxD (aComp 1 [1] (iSeq (cVar 0)) (gVar 0) tTrue (c2 subsD (c2 subsD (cVar 0) (cVar 1)) (cCon (.int 1)))))))
  sNext)
@[irreducible] noncomputable def jw:List D->M D:=runDef 2 j6
noncomputable def j8 : CS :=
  (sSeq (sAsg (gVar 1) (cTmp tupL (aComp 1 [] (MM.iRng1 (cVar 0)) (gVar 0) tTrue (cTup (cCons (cVar 0) (cCons (cCon (.int 0)) cNil))))))
  (sSeq (sRet (cTmp tupL (aComp 1 [1] (MM.iRng1 (cVar 0)) (gVar 0) tTrue (c2 addD (cTup (cCons (cTup (cCons (cVar 0) (cCons (cVar 0) cNil))) cNil)) (cVar 1)))))
  sNext))
@[irreducible] noncomputable def jA:List D->M D:=runDef 2 j8
noncomputable def j9 : CS :=
  (sSeq (sFor (MM.iRng1 (c1 lenD (cVar 0))) (gVar 1)
   (sSeq (sFor (MM.iRng1 (c1 lenD (c2 subsD (cVar 0) (cCon (.int 0))))) (gVar 2)
    (sSeq (sIf (tCmpB (c2 neD (cCall ju (cCons (cVar 0) (cCons (cVar 1) (cCons (cVar 2) cNil)))) (cCall ju (cCons (cVar 0) (cCons (cCall js (cCons (cVar 0) (cCons (cVar 1) (cCons (cVar 2) cNil)))) (cCons (cVar 2) cNil))))))
     (sSeq (sRet (cTup (cCons (cVar 1) (cCons (cVar 2) cNil))))
     sNext)
     sNext)
    sNext))
   sNext))
  (sSeq (sRet (cCon .non))
  sNext))
@[irreducible] noncomputable def jP:List D->M D:=runDef 3 j9
noncomputable def jC : CS :=
  (sSeq (sAsg (gVar 3) (cCall ju (cCons (cVar 0) (cCons (c2 subsD (cVar 1) (cCon (.int 0))) (cCons (c2 subsD (cVar 1) (cCon (.int 1))) cNil)))))
  (sSeq (sRet (cTmp tupL (aComp 1 [2,3] (MM.iRng1 (cCall jw (cCons (cVar 0) (cCons (c2 subsD (cVar 1) (cCon (.int 1))) cNil)))) (gVar 0) tTrue (cIfE (tCmpB (c2 eqD (cVar 0) (cVar 2))) (cVar 1) (cCon (.int 4))))))
  sNext))
@[irreducible] noncomputable def jc:List D->M D:=runDef 4 jC
noncomputable def jZ : CS :=
  (sSeq (sAsg (gVar 2) (cKeep (aComp 1 [] (iTmp (aSlice (cVar 0) (oSome (cVar 1)) (oSome (cCon (.int 63))))) (gVar 0) tTrue (c2 max2D (cVar 0) (c2 subD (cCon (.int 0)) (cVar 0))))))
  (sSeq (sAsg (gVar 3) (c2 addD (cCon (.int 6271)) (c2 mulD (cCon (.int 11)) (cVar 1))))
  (sSeq (sFor (iSeq (cVar 2)) (gVar 4)
   (sSeq (sAsg (gVar 3) (c2 modD (c2 addD (c2 addD (c2 mulD (cVar 3) (cCon (.int 69313))) (c2 modD (cVar 4) (cCon (.int 2147483579)))) (cCon (.int 17))) (cCon (.int 2147483647))))
   sNext))
  (sSeq (sRet (cDisp [.str "seed",.str "number",.str "left"] (cCons (cVar 3) (cCons (cCon (.int 0)) (cCons (cKeep (aRev (aComp 1 [] (iSeq (cVar 2)) (gVar 0) (tCmpB (c2 geD (cVar 0) (c2 powD (cCon (.int 10)) (cCon (.int 18))))) (cVar 0)))) cNil)))))
  sNext))))
@[irreducible] noncomputable def jz:List D->M D:=runDef 5 jZ
noncomputable def jX : CS :=
  (sSeq (sWhile (tAndB (tCmpB (c2 eqD (c2 subsD (cVar 0) (cCon (.str "number"))) (cCon (.int 0)))) (tCmpB (c2 gtD (c1 lenD (c2 subsD (cVar 0) (cCon (.str "left")))) (cCon (.int 0)))))
   (sSeq (sAsg (gSubD (cVar 0) (cCon (.str "number"))) (cPop (c2 subsD (cVar 0) (cCon (.str "left")))))
   sNext))
  (sSeq (sAsg (gVar 2) (c2 subsD (cVar 0) (cCon (.str "number"))))
  (sSeq (sIf (tCmpB (c2 gtD (cVar 2) (cCon (.int 0))))
   (sSeq (sAsg (gSubD (cVar 0) (cCon (.str "number"))) (c2 fdivD (cVar 2) (cVar 1)))
   (sSeq (sRet (c2 modD (cVar 2) (cVar 1)))
   sNext))
   sNext)
  (sSeq (sAsg (gVar 3) (c2 modD (c2 addD (c2 mulD (c2 subsD (cVar 0) (cCon (.str "seed"))) (cCon (.int 48271))) (cCon (.int 5003))) (cCon (.int 2147483647))))
  (sSeq (sAsg (gSubD (cVar 0) (cCon (.str "seed"))) (c2 modD (c2 addD (c2 mulD (cVar 3) (cCon (.int 39373))) (cCon (.int 60013))) (cCon (.int 2147483587))))
  (sSeq (sAsg (gVar 4) (c2 modD (c2 mulD (c2 subsD (cVar 0) (cCon (.str "seed"))) (c2 subsD (cVar 0) (cCon (.str "seed")))) (cCon (.int 2147483549))))
  (sSeq (sRet (c2 modD (c2 addD (c2 mulD (c2 modD (c2 mulD (cVar 3) (cVar 3)) (cCon (.int 2147483563))) (cCon (.int 2147483549))) (cVar 4)) (cVar 1)))
  sNext)))))))
@[irreducible] noncomputable def jb:List D->M D:=runDef 5 jX
noncomputable def jS : CS :=
  (sSeq (sAsg (gVar 2) (c2 addD (cCon (.int 1)) (cCall jb (cCons (cVar 0) (cCons (cVar 1) cNil)))))
  (sSeq (sAsg (gVar 3) (c2 addD (cCon (.int 1)) (cCall jb (cCons (cVar 0) (cCons (cVar 1) cNil)))))
  (sSeq (sAsg (gVar 4) (c2 addD (cCon (.int 1)) (cCall jb (cCons (cVar 0) (cCons (cCon (.int 4)) cNil)))))
  (sSeq (sAsg (gVar 5) (cKeep (aDisp cNil)))
  (sSeq (sFor (MM.iRng1 (cVar 2)) (gVar 6)
   (sSeq (sExp (cAppend (cVar 5) (cTmp tupL (aComp 1 [0,2,4] (MM.iRng1 (cVar 3)) (gVar 0) tTrue (cTup (cCons (cCall jb (cCons (cVar 1) (cCons (cVar 2) cNil))) (cCons (cCall jb (cCons (cVar 1) (cCons (cVar 3) cNil))) cNil)))))))
   sNext))
  (sSeq (sRet (c1 tupleD (cVar 5)))
  sNext))))))
@[irreducible] noncomputable def jp:List D->M D:=runDef 7 jS
noncomputable def j4 : CS :=
  (sSeq (sFor (MM.iRng1 (c1 lenD (cVar 0))) (gVar 1)
   (sSeq (sFor (MM.iRng1 (c1 lenD (c2 subsD (cVar 0) (cVar 1)))) (gVar 2)
    (sSeq (sAsg (gTupD 2 (gsCons (gVar 3) (gsCons (gVar 4) gsNil))) (c2 subsD (c2 subsD (cVar 0) (cVar 1)) (cVar 2)))
    (sSeq (sIf (tCmpB (c2 neD (c2 subsD (c2 subsD (c2 subsD (cVar 0) (cVar 3)) (cVar 2)) (cCon (.int 1))) (cVar 4)))
     (sSeq (sRet (cTup (cCons (cVar 1) (cCons (cVar 2) cNil))))
     sNext)
     sNext)
    sNext)))
   sNext))
  (sSeq (sRet (cCon .non))
  sNext))
@[irreducible] noncomputable def jy:List D->M D:=runDef 5 j4
noncomputable def jF : CS :=
  (sSeq (sFor (MM.iRng1 (c1 lenD (c2 subsD (cVar 0) (cCon (.int 0))))) (gVar 1)
   (sSeq (sAsg (gVar 2) (cTmp allD (aComp 1 [0,1] (MM.iRng1 (c1 lenD (cVar 0))) (gVar 0) tTrue (c2 eqD (c2 subsD (c2 subsD (c2 subsD (cVar 1) (cVar 0)) (cVar 2)) (cCon (.int 0))) (cVar 0)))))
   (sSeq (sAsg (gVar 3) (cTmp allD (aComp 1 [0,1] (iSeq (cVar 0)) (gVar 0) tTrue (c2 eqD (c2 subsD (cVar 0) (cVar 2)) (cTup (cCons (c2 subsD (c2 subsD (c2 subsD (cVar 1) (cCon (.int 0))) (cVar 2)) (cCon (.int 0))) (cCons (cCon (.int 0)) cNil)))))))
   (sSeq (sIf (tAndB (tNotB (tVal (cVar 2))) (tNotB (tVal (cVar 3))))
    (sSeq (sRet (cCon (.bl false)))
    sNext)
    sNext)
   sNext))))
  (sSeq (sRet (cCon (.bl true)))
  sNext))
@[irreducible] noncomputable def jg:List D->M D:=runDef 4 jF
noncomputable def jV : CS :=
  (sSeq (sRet (cAnd (c1 (isInst ["int"]) (cVar 0)) (cNot (c1 (isInst ["bool"]) (cVar 0)))))
  sNext)
@[irreducible] noncomputable def jj:List D->M D:=runDef 1 jV
noncomputable def jL : CS :=
  (sSeq (sRet (cAnd (c1 (isInst ["tuple"]) (cVar 0)) (cTmp allD (aComp 1 [1] (iSeq (cVar 0)) (gVar 0) tTrue (cAnd (cCall jj (cCons (cVar 0) cNil)) (cChain leD ltD (cCon (.int 0)) (cVar 0) (cVar 1)))))))
  sNext)
@[irreducible] noncomputable def ja:List D->M D:=runDef 2 jL
noncomputable def jG : CS :=
  (sSeq (sIf (tOrB (tNotB (tVal (c1 (isInst ["tuple"]) (cVar 0)))) (tCmpB (c2 eqD (c1 lenD (cVar 0)) (cCon (.int 0)))))
   (sSeq (sRet (cCon (.bl false)))
   sNext)
   sNext)
  (sSeq (sFor (iSeq (cVar 0)) (gVar 1)
   (sSeq (sIf (tOrB (tNotB (tVal (c1 (isInst ["tuple"]) (cVar 1)))) (tOrB (tCmpB (c2 eqD (c1 lenD (cVar 1)) (cCon (.int 0)))) (tCmpB (c2 neD (c1 lenD (cVar 1)) (c1 lenD (c2 subsD (cVar 0) (cCon (.int 0))))))))
    (sSeq (sRet (cCon (.bl false)))
    sNext)
    sNext)
   (sSeq (sFor (iSeq (cVar 1)) (gVar 2)
    (sSeq (sIf (tOrB (tNotB (tVal (cCall ja (cCons (cVar 2) (cCons (c2 powD (cCon (.int 10)) (cCon (.int 9))) cNil))))) (tOrB (tCmpB (c2 neD (c1 lenD (cVar 2)) (cCon (.int 2)))) (tCmpB (c2 geD (c2 subsD (cVar 2) (cCon (.int 0))) (c1 lenD (cVar 0))))))
     (sSeq (sRet (cCon (.bl false)))
     sNext)
     sNext)
    sNext))
   sNext)))
  (sSeq (sRet (cCon (.bl true)))
  sNext)))
@[irreducible] noncomputable def jk:List D->M D:=runDef 3 jG
noncomputable def jB : CS :=
  (sSeq (sIf (tOrB (tNotB (tVal (c1 (isInst ["tuple"]) (cVar 1)))) (tCmpB (c2 ninD (c1 lenD (cVar 1)) (cTup (cCons (cCon (.int 2)) (cCons (cCon (.int 4)) cNil))))))
   (sSeq (sRet (cCon (.bl false)))
   sNext)
   sNext)
  (sSeq (sIf (tCmpB (c2 eqD (c1 lenD (cVar 1)) (cCon (.int 2))))
   (sSeq (sRet (cAnd (c2 eqD (c2 subsD (cVar 1) (cCon (.int 0))) (cCon (.str "settle"))) (cAnd (cCall jj (cCons (c2 subsD (cVar 1) (cCon (.int 1))) cNil)) (c2 inD (c2 subsD (cVar 1) (cCon (.int 1))) (cTup (cCons (cCon (.int 0)) (cCons (cCon (.int 1)) cNil)))))))
   sNext)
   sNext)
  (sSeq (sIf (tOrB (tCmpB (c2 neD (c2 subsD (cVar 1) (cCon (.int 0))) (cCon (.str "do")))) (tNotB (tVal (cCall ja (cCons (cTup (cCons (c2 subsD (cVar 1) (cCon (.int 1))) cNil)) (cCons (c1 lenD (c2 subsD (cVar 0) (cCon (.int 0)))) cNil))))))
   (sSeq (sRet (cCon (.bl false)))
   sNext)
   sNext)
  (sSeq (sAsg (gVar 3) (c2 subsD (c2 subsD (c2 subsD (cVar 0) (cCon (.int 0))) (c2 subsD (cVar 1) (cCon (.int 1)))) (cCon (.int 0))))
  (sSeq (sIf (tOrB (tNotB (tVal (cCall ja (cCons (cTup (cCons (c2 subsD (cVar 1) (cCon (.int 2))) cNil)) (cCons (c1 lenD (c2 subsD (cVar 3) (cCon (.int 0)))) cNil))))) (tNotB (tVal (cCall ja (cCons (c2 subsD (cVar 1) (cCon (.int 3))) (cCons (cVar 2) cNil))))))
   (sSeq (sRet (cCon (.bl false)))
   sNext)
   sNext)
  (sSeq (sRet (c2 eqD (c1 lenD (c2 subsD (cVar 1) (cCon (.int 3)))) (c2 addD (cCon (.int 1)) (cTmp maxD (aComp 1 [1] (iSeq (cVar 3)) (gVar 0) tTrue (c2 subsD (c2 subsD (cVar 0) (c2 subsD (cVar 1) (cCon (.int 2)))) (cCon (.int 1))))))))
  sNext))))))
@[irreducible] noncomputable def jd:List D->M D:=runDef 4 jB
noncomputable def jE : CS :=
  (sSeq (sIf (tOrB (tNotB (tVal (c1 (isInst ["tuple"]) (cVar 0)))) (tOrB (tCmpB (c2 neD (c1 lenD (cVar 0)) (cCon (.int 2)))) (tNotB (tVal (c1 (isInst ["tuple"]) (c2 subsD (cVar 0) (cCon (.int 0))))))))
   (sSeq (sRet (cCon (.bl false)))
   sNext)
   sNext)
  (sSeq (sFor (iSeq (c2 subsD (cVar 0) (cCon (.int 0)))) (gVar 1)
   (sSeq (sIf (tOrB (tNotB (tVal (c1 (isInst ["tuple"]) (cVar 1)))) (tOrB (tCmpB (c2 neD (c1 lenD (cVar 1)) (cCon (.int 2)))) (tNotB (tVal (cCall jk (cCons (c2 subsD (cVar 1) (cCon (.int 0))) cNil))))))
    (sSeq (sRet (cCon (.bl false)))
    sNext)
    sNext)
   (sSeq (sIf (tNotB (tVal (cCall ja (cCons (cTup (cCons (c2 subsD (cVar 1) (cCon (.int 1))) cNil)) (cCons (c1 lenD (c2 subsD (cVar 1) (cCon (.int 0)))) cNil)))))
    (sSeq (sRet (cCon (.bl false)))
    sNext)
    sNext)
   sNext)))
  (sSeq (sIf (tOrB (tNotB (tVal (c1 (isInst ["tuple"]) (c2 subsD (cVar 0) (cCon (.int 1)))))) (tCmpB (c2 ninD (c1 lenD (c2 subsD (cVar 0) (cCon (.int 1)))) (cTup (cCons (cCon (.int 2)) (cCons (cCon (.int 3)) cNil))))))
   (sSeq (sRet (cCon (.bl false)))
   sNext)
   sNext)
  (sSeq (sFor (iSeq (c2 subsD (cVar 0) (cCon (.int 1)))) (gVar 2)
   (sSeq (sIf (tOrB (tNotB (tVal (c1 (isInst ["tuple"]) (cVar 2)))) (tOrB (tCmpB (c2 neD (c1 lenD (cVar 2)) (cCon (.int 2)))) (tNotB (tVal (c1 (isInst ["tuple"]) (c2 subsD (cVar 2) (cCon (.int 1))))))))
    (sSeq (sRet (cCon (.bl false)))
    sNext)
    sNext)
   (sSeq (sIf (tOrB (tNotB (tVal (cCall ja (cCons (c2 subsD (cVar 2) (cCon (.int 0))) (cCons (c1 lenD (c2 subsD (cVar 2) (cCon (.int 1)))) cNil))))) (tCmpB (c2 neD (c1 lenD (c2 subsD (cVar 2) (cCon (.int 0)))) (cCon (.int 2)))))
    (sSeq (sRet (cCon (.bl false)))
    sNext)
    sNext)
   (sSeq (sIf (tNotB (tVal (cTmp allD (aComp 1 [0,2] (iSeq (c2 subsD (cVar 2) (cCon (.int 1)))) (gVar 0) tTrue (cCall jd (cCons (cVar 1) (cCons (cVar 0) (cCons (c1 lenD (c2 subsD (cVar 2) (cCon (.int 1)))) cNil))))))))
    (sSeq (sRet (cCon (.bl false)))
    sNext)
    sNext)
   sNext))))
  (sSeq (sRet (cCon (.bl true)))
  sNext)))))
@[irreducible] noncomputable def jl:List D->M D:=runDef 3 jE
noncomputable def jW : CS :=
  (sSeq (sAsg (gVar 2) (cTmp tupL (aComp 1 [0,1] (MM.iRng1 (c1 lenD (cVar 1))) (gVar 0) tTrue (c2 subsD (c2 subsD (c2 subsD (c2 subsD (cVar 1) (cCon (.int 1))) (cVar 0)) (cCon (.int 0))) (c2 subsD (cVar 2) (cVar 0))))))
  (sSeq (sRet (cTup (cCons (cVar 2) (cCons (cTmp tupL (aComp 1 [] (iSeq (c2 subsD (cVar 0) (cCon (.int 0)))) (gVar 0) tTrue (c2 subsD (cVar 0) (cCon (.int 1))))) cNil))))
  sNext))
@[irreducible] noncomputable def jq:List D->M D:=runDef 3 jW
noncomputable def jH : CS :=
  (sSeq (sAsg (gTupD 2 (gsCons (gVar 3) (gsCons (gVar 4) gsNil))) (cVar 1))
  (sSeq (sAsg (gVar 5) (c2 subsD (c2 subsD (c2 subsD (c2 subsD (cVar 0) (cCon (.int 1))) (cVar 2)) (cCon (.int 1))) (c2 subsD (cVar 3) (cVar 2))))
  (sSeq (sIf (tCmpB (c2 eqD (c2 subsD (cVar 5) (cCon (.int 0))) (cCon (.str "settle"))))
   (sSeq (sRet (cVar 1))
   sNext)
   sNext)
  (sSeq (sAsg (gVar 6) (c2 subsD (cVar 5) (cCon (.int 1))))
  (sSeq (sAsg (gTupD 2 (gsCons (gVar 7) (gsCons (gVar 8) gsNil))) (c2 subsD (c2 subsD (c2 subsD (c2 subsD (c2 subsD (cVar 0) (cCon (.int 0))) (cVar 6)) (cCon (.int 0))) (c2 subsD (cVar 4) (cVar 6))) (c2 subsD (cVar 5) (cCon (.int 2)))))
  (sSeq (sRet (cTup (cCons (c2 addD (c2 addD (cSliceW (cVar 3) oNone (oSome (cVar 2))) (cTup (cCons (c2 subsD (c2 subsD (cVar 5) (cCon (.int 3))) (cVar 8)) cNil))) (cSliceW (cVar 3) (oSome (c2 addD (cVar 2) (cCon (.int 1)))) oNone)) (cCons (c2 addD (c2 addD (cSliceW (cVar 4) oNone (oSome (cVar 6))) (cTup (cCons (cVar 7) cNil))) (cSliceW (cVar 4) (oSome (c2 addD (cVar 6) (cCon (.int 1)))) oNone)) cNil))))
  sNext))))))
@[irreducible] noncomputable def je:List D->M D:=runDef 9 jH
noncomputable def jD : CS :=
  (sSeq (sAsg (gVar 3) (c2 subsD (c2 subsD (c2 subsD (c2 subsD (cVar 0) (cCon (.int 1))) (cVar 2)) (cCon (.int 1))) (c2 subsD (c2 subsD (cVar 1) (cCon (.int 0))) (cVar 2))))
  (sSeq (sRet (cTmpSub (aDisp (cCons (cCon .non) (cCons (c2 subsD (cVar 3) (cCon (.int 1))) cNil))) (c1 intD (c2 eqD (c2 subsD (cVar 3) (cCon (.int 0))) (cCon (.str "settle"))))))
  sNext))
@[irreducible] noncomputable def jh:List D->M D:=runDef 4 jD
noncomputable def jY : CS :=
  (sSeq (sAsg (gVar 2) (cKeep (aDisp (cCons (cCall jq (cCons (cVar 0) (cCons (cVar 1) cNil))) cNil))))
  (sSeq (sAsg (gVar 3) (cDNew true))
  (sSeq (sAsg (gVar 4) (cCon (.int 0)))
  (sSeq (sWhile (tCmpB (c2 ltD (cVar 4) (c1 lenD (cVar 2))))
   (sSeq (sAsg (gVar 5) (c2 subsD (cVar 2) (cVar 4)))
   (sSeq (sAsg (gVar 4) (c2 addD (cVar 4) (cCon (.int 1))))
   (sSeq (sAsg (gVar 6) (cKeep (aComp 1 [0,5] (MM.iRng1 (c1 lenD (cVar 1))) (gVar 0) tTrue (cCall jh (cCons (cVar 1) (cCons (cVar 2) (cCons (cVar 0) cNil)))))))
   (sSeq (sAsg (gVar 7) (cKeep (aComp 1 [] (iSeq (cVar 6)) (gVar 0) (tCmpB (c2 isntD (cVar 0) (cCon .non))) (cVar 0))))
   (sSeq (sIf (tOrB (tCmpB (c2 gtD (c1 lenSetD (cVar 7)) (cCon (.int 1)))) (tCmpB (c2 neD (cKeep (aComp 1 [1] (iSeq (cVar 7)) (gVar 0) (tCmpB (c2 ninD (cVar 0) (cVar 1))) (cVar 0))) (cKeep (aDisp cNil)))))
    (sSeq (sRet (cCon .non))
    sNext)
    sNext)
   (sSeq (sAsg (gSubD (cVar 3) (cVar 5)) (cKeep (aComp 1 [0,5,6] (MM.iRng1 (c1 lenD (cVar 1))) (gVar 0) (tCmpB (c2 isD (c2 subsD (cVar 3) (cVar 0)) (cCon .non))) (cCall je (cCons (cVar 1) (cCons (cVar 2) (cCons (cVar 0) cNil)))))))
   (sSeq (sFor (iSeq (c2 subsD (cVar 3) (cVar 5))) (gVar 8)
    (sSeq (sIf (tCmpB (c2 ninD (cVar 8) (cVar 3)))
     (sSeq (sAsg (gSubD (cVar 3) (cVar 8)) (cKeep (aDisp cNil)))
     (sSeq (sExp (cAppend (cVar 2) (cVar 8)))
     sNext))
     sNext)
    sNext))
   sNext))))))))
  (sSeq (sRet (cVar 3))
  sNext)))))
@[irreducible] noncomputable def jx:List D->M D:=runDef 9 jY
noncomputable def jT : CS :=
  (sSeq (sAsg (gVar 1) (cDNew true))
  (sSeq (sAsg (gVar 2) (cDNew true))
  (sSeq (sFor (iDic (cVar 0)) (gVar 3)
   (sSeq (sAsg (gSubD (cVar 1) (cVar 3)) (c1 lenD (c2 subsD (cVar 0) (cVar 3))))
   (sSeq (sFor (iSeq (c2 subsD (cVar 0) (cVar 3))) (gVar 4)
    (sSeq (sAsg (gSubD (cVar 2) (cVar 4)) (c2 addD (cGet (cVar 2) (cVar 4) (cKeep (aDisp cNil))) (cKeep (aDisp (cCons (cVar 3) cNil)))))
    sNext))
   sNext)))
  (sSeq (sAsg (gVar 5) (cKeep (aComp 1 [1] (iDic (cVar 0)) (gVar 0) (tCmpB (c2 eqD (c2 subsD (cVar 1) (cVar 0)) (cCon (.int 0)))) (cVar 0))))
  (sSeq (sAsg (gVar 6) (cCon (.int 0)))
  (sSeq (sWhile (tCmpB (c2 ltD (cVar 6) (c1 lenD (cVar 5))))
   (sSeq (sFor (iSeq (cGet (cVar 2) (c2 subsD (cVar 5) (cVar 6)) (cKeep (aDisp cNil)))) (gVar 3)
    (sSeq (sAsg (gSubD (cVar 1) (cVar 3)) (c2 subD (c2 subsD (cVar 1) (cVar 3)) (cCon (.int 1))))
    (sSeq (sIf (tCmpB (c2 eqD (c2 subsD (cVar 1) (cVar 3)) (cCon (.int 0))))
     (sSeq (sExp (cAppend (cVar 5) (cVar 3)))
     sNext)
     sNext)
    sNext)))
   (sSeq (sAsg (gVar 6) (c2 addD (cVar 6) (cCon (.int 1))))
   sNext)))
  (sSeq (sRet (c2 eqD (c1 lenD (cVar 5)) (c1 lenD (cVar 0))))
  sNext)))))))
@[irreducible] noncomputable def jv:List D->M D:=runDef 7 jT
noncomputable def jO : CS :=
  (sSeq (sRet (cKeep (aComp 1 [0] (MM.iRng1 (c2 shlD (cCon (.int 1)) (cVar 0))) (gVar 0) tTrue (cTmp tupL (aComp 1 [0] (MM.iRng1 (cVar 1)) (gVar 0) tTrue (c2 andD (c2 shrD (cVar 1) (cVar 0)) (cCon (.int 1))))))))
  sNext)
@[irreducible] noncomputable def jt:List D->M D:=runDef 1 jO
noncomputable def jJ : CS :=
  (sSeq (sFor (iSeq (cCall jt (cCons (c1 lenD (c2 subsD (cVar 0) (cCon (.int 1)))) cNil))) (gVar 1)
   (sSeq (sAsg (gVar 2) (cCall jx (cCons (cVar 0) (cCons (cVar 1) cNil))))
   (sSeq (sIf (tOrB (tCmpB (c2 isD (cVar 2) (cCon .non))) (tNotB (tVal (cCall jv (cCons (cVar 2) cNil)))))
    (sSeq (sRet (cCon (.bl false)))
    sNext)
    sNext)
   sNext)))
  (sSeq (sRet (cCon (.bl true)))
  sNext))
@[irreducible] noncomputable def jo:List D->M D:=runDef 3 jJ
noncomputable def jN : CS :=
  (sSeq (sAsg (gVar 1) (c2 addD (cCon (.int 1)) (cCall jb (cCons (cVar 0) (cCons (cCon (.int 4)) cNil)))))
  (sSeq (sAsg (gVar 2) (cKeep (aComp 1 [0,1] (MM.iRng1 (c2 addD (cCon (.int 1)) (cCall jb (cCons (cVar 0) (cCons (cCon (.int 4)) cNil))))) (gVar 0) tTrue (cCall jb (cCons (cVar 1) (cCons (c2 addD (cVar 2) (cCon (.int 1))) cNil))))))
  (sSeq (sAsg (gVar 3) (cKeep (aDisp cNil)))
  (sSeq (sFor (MM.iRng1 (cVar 1)) (gVar 4)
   (sSeq (sExp (cAppend (cVar 3) (cTmp tupL (aComp 1 [4] (iSeq (cVar 2)) (gVar 0) tTrue (cTmpSub (aDisp (cCons (cTup (cCons (cVar 1) (cCons (cVar 1) cNil))) (cCons (cTup (cCons (c2 subD (cVar 0) (cCon (.int 1))) (cCons (cCon (.int 0)) cNil))) cNil))) (c1 intD (c2 gtD (cVar 0) (cCon (.int 0)))))))))
   sNext))
  (sSeq (sRet (c1 tupleD (cVar 3)))
  sNext)))))
@[irreducible] noncomputable def jr:List D->M D:=runDef 5 jN
noncomputable def jI : CS :=
  (sSeq (sAsg (gVar 4) (c2 subsD (cVar 1) (cCon (.int 1))))
  (sSeq (sRet (cTup (cCons (cTup (cCons (cCon (.int 0)) (cCons (cCon (.int 1)) cNil))) (cCons (cTup (cCons (cTup (cCons (cCon (.str "do")) (cCons (cVar 2) (cCons (cCon (.int 1)) (cCons (cTup (cCons (cCon (.int 2)) cNil)) cNil))))) (cCons (cTup (cCons (cCon (.str "do")) (cCons (cVar 2) (cCons (cCon (.int 2)) (cCons (cTup (cCons (cCon (.int 3)) cNil)) cNil))))) (cCons (cTup (cCons (cCon (.str "do")) (cCons (cCon (.int 0)) (cCons (cVar 4) (cCons (cCall jc (cCons (cVar 0) (cCons (cVar 1) (cCons (cCon (.int 5)) cNil)))) cNil))))) (cCons (cTup (cCons (cCon (.str "do")) (cCons (cCon (.int 0)) (cCons (cVar 4) (cCons (cCall jc (cCons (cVar 0) (cCons (cVar 1) (cCons (cCon (.int 6)) cNil)))) cNil))))) (cCons (cTup (cCons (cCon (.str "do")) (cCons (cVar 3) (cCons (cCon (.int 0)) (cCons (cTup (cCons (cCon (.int 5)) (cCons (cCon (.int 6)) cNil))) cNil))))) (cCons (cTup (cCons (cCon (.str "settle")) (cCons (cCon (.int 0)) cNil))) (cCons (cTup (cCons (cCon (.str "settle")) (cCons (cCon (.int 1)) cNil))) cNil)))))))) cNil))))
  sNext))
@[irreducible] noncomputable def jf:List D->M D:=runDef 5 jI
noncomputable def jQ : CS :=
  (sSeq (noX (sAsg (gVar 1) (cCall jP (cCons (cVar 0) cNil))))
  (sSeq (sIf (noT (tCmpB (c2 isD (cVar 1) (cCon .non))))
   (sSeq (xRaise0 "NoMark")
   sNext)
   sNext)
  (sSeq (noX (sAsg (gVar 2) (cTup (cCons (cTup (cCons (cVar 0) (cCons (c2 subsD (cVar 1) (cCon (.int 0))) cNil))) (cCons (cTup (cCons (cCall jA (cCons (cCon (.int 2)) cNil)) (cCons (cCon (.int 0)) cNil))) (cCons (cTup (cCons (cCall jA (cCons (cCon (.int 2)) cNil)) (cCons (cCon (.int 0)) cNil))) cNil))))))
  (sSeq (noX (sRet (cTup (cCons (cVar 2) (cCons (cTup (cCons (cCall jf (cCons (cVar 0) (cCons (cVar 1) (cCons (cCon (.int 1)) (cCons (cCon (.int 2)) cNil))))) (cCons (cCall jf (cCons (cVar 0) (cCons (cVar 1) (cCons (cCon (.int 2)) (cCons (cCon (.int 1)) cNil))))) cNil))) cNil)))))
  sNext))))
@[irreducible] noncomputable def ji:List D->M D:=runDef 3 jQ
noncomputable def jK : CS :=
  (sSeq (sAsg (gVar 1) (cCon (.bl false)))
  (sSeq (sTryB (sExp (cCall ji (noA (cCons (cVar 0) cNil)))) ["NoMark"] 2
   (sSeq (sAsg (gVar 1) (cAnd (c1 (isiX ["NoMark"] fun x=>x == "NoMark" || ("PactError":Str) == "NoMark") (cVar 2)) (c1 (isiX ["NoMark"] fun _=>true) (cVar 2))))
    (sSeq (sAsg (gVar 1) (cAnd (cVar 1) (cNot (c1 (isiX ["NoMark"] fun x=>["NoHouse","NoTable","NotGood","NotMeek"].any fun t=>x == t || ("PactError":Str) == t) (cVar 2)))))
    sNext)))
  (sSeq (sRet (cVar 1))
  sNext)))
@[irreducible] noncomputable def jn:List D->M D:=runDef 3 jK
noncomputable def jU : CS :=
  (sSeq (sAsg (gVar 1) (cCall jy (cCons (cVar 0) cNil)))
  (sSeq (sIf (tCmpB (c2 isD (cVar 1) (cCon .non)))
   (sSeq (sRet (cCall jn (cCons (cVar 0) cNil)))
   sNext)
   sNext)
  (sSeq (sAsg (gVar 2) (cCall ji (cCons (cVar 0) cNil)))
  (sSeq (sIf (tOrB (tNotB (tVal (cCall jl (cCons (cVar 2) cNil)))) (tOrB (tCmpB (c2 neD (c1 lenD (c2 subsD (cVar 2) (cCon (.int 1)))) (cCon (.int 2)))) (tCmpB (c2 neD (c1 lenD (c2 subsD (cVar 2) (cCon (.int 0)))) (cCon (.int 3))))))
   (sSeq (sRet (cCon (.bl false)))
   sNext)
   sNext)
  (sSeq (sAsg (gVar 3) (c1 listD (c2 subsD (cVar 2) (cCon (.int 0)))))
  (sSeq (sIf (tCmpB (c2 ninHD (cTup (cCons (cVar 0) (cCons (c2 subsD (cVar 1) (cCon (.int 0))) cNil))) (cVar 3)))
   (sSeq (sRet (cCon (.bl false)))
   sNext)
   sNext)
  (sSeq (sExp (cRemH (cVar 3) (cTup (cCons (cVar 0) (cCons (c2 subsD (cVar 1) (cCon (.int 0))) cNil)))))
  (sSeq (sIf (tOrB (tNotB (tVal (cCall jg (cCons (c2 subsD (c2 subsD (cVar 3) (cCon (.int 0))) (cCon (.int 0))) cNil)))) (tOrB (tNotB (tVal (cCall jg (cCons (c2 subsD (c2 subsD (cVar 3) (cCon (.int 1))) (cCon (.int 0))) cNil)))) (tNotB (tVal (cCall jo (cCons (cVar 2) cNil))))))
   (sSeq (sRet (cCon (.bl false)))
   sNext)
   sNext)
  (sSeq (sRet (c2 eqD (cCall ji (cCons (cVar 0) cNil)) (cVar 2)))
  sNext)))))))))
@[irreducible] noncomputable def jm:List D->M D:=runDef 4 jU
noncomputable def yb : CS :=
  (sSeq (sAsg (gVar 1) (cCall jz (cCons (cVar 0) (cCons (cCon (.int 0)) cNil))))
  (sSeq (sAsg (gVar 2) (cCall jp (cCons (cVar 1) (cCons (cCon (.int 4)) cNil))))
  (sSeq (sAsg (gVar 3) (cTmpSub (aDisp (cCons (cCall jp (cCons (cVar 1) (cCons (cCon (.int 4)) cNil))) (cCons (cCall jr (cCons (cVar 1) cNil)) cNil))) (cCall jb (cCons (cVar 1) (cCons (cCon (.int 2)) cNil)))))
  (sSeq (sRet (cAnd (cCall jm (cCons (cVar 2) cNil)) (cAnd (cCall jm (cCons (cVar 3) cNil)) (cCall jm (cCons (cVar 2) cNil)))))
  sNext))))
@[irreducible] noncomputable def jR:List D->M D:=runDef 4 yb
open PySem.Spec PyProof.Rows L2
noncomputable def top (i:Nat):Stmt:=PySem.Challenge.pw_pactboards_k56_whole_pacts_of_marked_tab.main.body.getD i (.Pass ⟨0,0,0,0⟩)
noncomputable abbrev yy:List Str:=["PactError","NoHouse","NoTable","NotGood","NotMeek","NoMark"]
noncomputable abbrev xcl:XC:=⟨[],["NoMark"]⟩
set_option genInjectivity false in
structure Txt (K:PySem.W.Frag) (mg:Str->Option Value):Prop where
 f0:FnAt K mg "next_state" (top 8)
 f1:FnAt K mg "answer" (top 9)
 f2:FnAt K mg "answers" (top 10)
 f3:FnAt K mg "plain" (top 12)
 f4:FnAt K mg "mark" (top 13)
 f5:FnAt K mg "goals_by_first" (top 16)
 f6:FnAt K mg "_law_deal" (top 18)
 f7:FnAt K mg "_law_draw" (top 19)
 f8:FnAt K mg "_law_table" (top 20)
 f9:FnAt K mg "_law_mark" (top 21)
 f10:FnAt K mg "_law_is_plain" (top 22)
 f11:FnAt K mg "_law_whole" (top 23)
 f12:FnAt K mg "_law_numbers" (top 24)
 f13:FnAt K mg "_law_is_table" (top 25)
 f14:FnAt K mg "_law_is_line" (top 26)
 f15:FnAt K mg "_law_is_house" (top 27)
 f16:FnAt K mg "_law_start" (top 28)
 f17:FnAt K mg "_law_turn" (top 29)
 f18:FnAt K mg "_law_value" (top 30)
 f19:FnAt K mg "_law_walk" (top 31)
 f20:FnAt K mg "_law_falls" (top 32)
 f21:FnAt K mg "_law_begins" (top 33)
 f22:FnAt K mg "_law_is_good" (top 34)
 f23:FnAt K mg "_law_looked" (top 35)
 f24:FnAt K mg "laying_hand" (top 15)
 f25:FnAt K mg "pact_of" (top 14)
 f26:FnAt K mg "_law_refused" (top 36)
 f27:FnAt K mg "_law_right" (top 37)
 f28:FnAt K mg "law" (top 38)
 z:ZOk mg ["ValueError","all","bool","int","isinstance","len","list","max","range","reversed","set","tuple"]
 c:COk K mg []
 w0:XT0 K mg "NoMark"
 o:XOs K mg yy
section
variable {P:Program}{w:World}{K:PySem.W.Frag}{mg:Str->Option Value}{base:Heap}
noncomputable def cm0:RuC:=rCmpH 19 .NotIn ninHD (fun h=>QkJ h)
noncomputable def cm1:RuC:=rCmp .Lt ltD (fun _=>Qeq)
noncomputable def cm3:RuC:=rCmp .Gt gtD (fun _=>Qes)
noncomputable def cm4:RuC:=rCmp .GtE geD (fun _=>Qet)
noncomputable def cm5:RuC:=rCmp .Eq eqD (fun h=>QfW h)
noncomputable def cm6:RuC:=rCmp .NotEq neD (fun h=>QfX h)
noncomputable def cm7:RuC:=rCmp .Is isD (fun _=>Qf3)
noncomputable def cm8:RuC:=rCmp .IsNot isntD (fun _=>Qf4)
noncomputable def cm9:RuC:=rCmp .In inD (fun h=>Qgb h)
noncomputable def cm10:RuC:=rCmp .NotIn ninD (fun h=>Qgc h)
noncomputable def cm11:RuC:=rChain .LtE leD (fun _=>Qer) .Lt ltD (fun _=>Qeq)
noncomputable def RR:Rules:=⟨[rVar,rInt,rStr,rBl,rNon,rCall,rTmpSub,MM.rSub,rTup,rLenset,bMaxT,bAllT,bTupT,mRemH,bLen,bInt,bTuple,bList,bMax2,bIsiInt,bIsiBool,bIsiTuple,mAppend,mPop,mGet,rSliceW,rKeep,rOp .Add addD (fun _=>QfZ),rOp .Sub subD (fun _=>Qej),rOp .Mult mulD (fun _=>Qek),rOp .FloorDiv fdivD (fun _=>Qel),rOp .Mod modD (fun _=>Qem),rOp .Pow powD (fun _=>Qen),rOp .LShift shlD (fun _=>Qeo),rOp .BitAnd andD (fun _=>QjD),rOp .RShift shrD (fun _=>Qep),cm3.e,cm5.e,cm9.e,cm11.e,rAnd,rNot,rIfE,rDNew,rDisp],[lLst,lComp,lSlice,lRev],[cm0.t,cm1.t,cm3.t,cm4.t,cm5.t,cm6.t,cm7.t,cm8.t,cm10.t,tAnd,tOr,tNot,tVl],[iRange1,iDicr,iTmpr,iSeqr],[gVr,gTupr,gSubr],[sNmr,sRetr,sIfr,sExpr,sForr,sWhiler,sCompr,sSubr,sTupr]⟩
noncomputable abbrev hh:List (Nat × Nat × Nat):=[(142,12,1),(142,60,1),(142,82,1),(142,121,1),(148,17,2),(164,16,2),(165,17,2),(166,21,6),(170,44,6),(210,7,19)]
noncomputable def ge0:List (Str × RF):=[]
theorem gk0 (T:Txt K mg):EnvOk P w K mg base ge0:=Qih
noncomputable def xe0:List (Str × RF):=[]
theorem xk0 (T:Txt K mg):EnvX P w K mg base xe0:=fun _ _ h=>nomatch h
theorem xr (T:Txt K mg):XCOk P w K mg base xcl:=by
 refine⟨fun p hp=>?_,fun y hy=>?_⟩
 ·cases hp
 ·simp only[List.mem_cons,List.not_mem_nil,or_false]at hy
  rcases hy with rfl
  ·exact T.w0
noncomputable def ge1:List (Str × RF):=("next_state",⟨3,1,["table","state","deed"],false,js⟩)::ge0
theorem gk1 (T:Txt K mg):EnvOk P w K mg base ge1:=by
 unfold ge1 js
 exact Qin RR (r:=[]) (H:=hh) T.f0 (by nofun) (fun _ _ _ _ _ _=>le3 fun _ _ _=>rfl) (fun z=>nomatch z) (by kernel_rfl) (gk0 T) T.z T.c
noncomputable def ge2:List (Str × RF):=("answer",⟨3,1,["table","state","deed"],false,ju⟩)::ge1
theorem gk2 (T:Txt K mg):EnvOk P w K mg base ge2:=by
 unfold ge2 ju
 exact Qin RR (r:=[]) (H:=hh) T.f1 (by nofun) (fun _ _ _ _ _ _=>le3 fun _ _ _=>rfl) (fun z=>nomatch z) (by kernel_rfl) (gk1 T) T.z T.c
noncomputable def ge3:List (Str × RF):=("answers",⟨2,1,["table","deed"],false,jw⟩)::ge2
theorem gk3 (T:Txt K mg):EnvOk P w K mg base ge3:=by
 unfold ge3 jw
 exact Qin RR (r:=[]) (H:=hh) T.f2 (by nofun) (fun _ _ _ _ _ _=>le2 fun _ _=>rfl) (fun z=>nomatch z) (by kernel_rfl) (gk2 T) T.z T.c
noncomputable def ge4:List (Str × RF):=("plain",⟨1,1,["n"],false,jA⟩)::ge3
theorem gk4 (T:Txt K mg):EnvOk P w K mg base ge4:=by
 unfold ge4 jA
 exact Qin RR (r:=["layings"]) (H:=hh) T.f3 (by nofun) (fun _ _ _ _ _ _=>le1 fun _=>rfl) (fun z=>nomatch z) (by kernel_rfl) (gk3 T) T.z T.c
noncomputable def ge5:List (Str × RF):=("mark",⟨1,2,["table"],false,jP⟩)::ge4
theorem gk5 (T:Txt K mg):EnvOk P w K mg base ge5:=by
 unfold ge5 jP
 exact Qin RR (r:=["state","deed"]) (H:=hh) T.f4 (by nofun) (fun _ _ _ _ _ _=>le1 fun _=>rfl) (fun z=>nomatch z) (by kernel_rfl) (gk4 T) T.z T.c
noncomputable def ge6:List (Str × RF):=("goals_by_first",⟨3,2,["table","found","goal"],false,jc⟩)::ge5
theorem gk6 (T:Txt K mg):EnvOk P w K mg base ge6:=by
 unfold ge6 jc
 exact Qin RR (r:=["ahead"]) (H:=hh) T.f5 (by nofun) (fun _ _ _ _ _ _=>le3 fun _ _ _=>rfl) (fun z=>nomatch z) (by kernel_rfl) (gk5 T) T.z T.c
noncomputable def ge7:List (Str × RF):=("_law_deal",⟨2,1,["_law_script","_law_base"],false,jz⟩)::ge6
theorem gk7 (T:Txt K mg):EnvOk P w K mg base ge7:=by
 unfold ge7 jz
 exact Qin RR (r:=["_law_cells","_law_number","_law_cell"]) (H:=hh) T.f6 (by nofun) (fun _ _ _ _ _ _=>le2 fun _ _=>rfl) (fun z=>nomatch z) (by kernel_rfl) (gk6 T) T.z T.c
noncomputable def ge8:List (Str × RF):=("_law_draw",⟨2,1,["_law_deal_here","_law_many"],false,jb⟩)::ge7
theorem gk8 (T:Txt K mg):EnvOk P w K mg base ge8:=by
 unfold ge8 jb
 exact Qin RR (r:=["_law_number","_law_one","_law_other"]) (H:=hh) T.f7 (by nofun) (fun _ _ _ _ _ _=>le2 fun _ _=>rfl) (fun z=>nomatch z) (by kernel_rfl) (gk7 T) T.z T.c
noncomputable def ge9:List (Str × RF):=("_law_table",⟨2,2,["_law_deal_here","_law_most"],false,jp⟩)::ge8
theorem gk9 (T:Txt K mg):EnvOk P w K mg base ge9:=by
 unfold ge9 jp
 exact Qin RR (r:=["_law_states","_law_deeds","_law_many","_law_rows","_law_k"]) (H:=hh) T.f8 (by nofun) (fun _ _ _ _ _ _=>le2 fun _ _=>rfl) (fun z=>nomatch z) (by kernel_rfl) (gk8 T) T.z T.c
noncomputable def ge10:List (Str × RF):=("_law_mark",⟨1,1,["_law_table_here"],false,jy⟩)::ge9
theorem gk10 (T:Txt K mg):EnvOk P w K mg base ge10:=by
 unfold ge10 jy
 exact Qin RR (r:=["_law_s","_law_d","_law_later","_law_told"]) (H:=hh) T.f9 (by nofun) (fun _ _ _ _ _ _=>le1 fun _=>rfl) (fun z=>nomatch z) (by kernel_rfl) (gk9 T) T.z T.c
noncomputable def ge11:List (Str × RF):=("_law_is_plain",⟨1,1,["_law_table_here"],false,jg⟩)::ge10
theorem gk11 (T:Txt K mg):EnvOk P w K mg base ge11:=by
 unfold ge11 jg
 exact Qin RR (r:=["_law_d","_law_looked_here","_law_laid"]) (H:=hh) T.f10 (by nofun) (fun _ _ _ _ _ _=>le1 fun _=>rfl) (fun z=>nomatch z) (by kernel_rfl) (gk10 T) T.z T.c
noncomputable def ge12:List (Str × RF):=("_law_whole",⟨1,1,["_law_number"],false,jj⟩)::ge11
theorem gk12 (T:Txt K mg):EnvOk P w K mg base ge12:=by
 unfold ge12 jj
 exact Qin RR (r:=[]) (H:=hh) T.f11 (by nofun) (fun _ _ _ _ _ _=>le1 fun _=>rfl) (fun z=>nomatch z) (by kernel_rfl) (gk11 T) T.z T.c
noncomputable def ge13:List (Str × RF):=("_law_numbers",⟨2,2,["_law_things","_law_many"],false,ja⟩)::ge12
theorem gk13 (T:Txt K mg):EnvOk P w K mg base ge13:=by
 unfold ge13 ja
 exact Qin RR (r:=[]) (H:=hh) T.f12 (by nofun) (fun _ _ _ _ _ _=>le2 fun _ _=>rfl) (fun z=>nomatch z) (by kernel_rfl) (gk12 T) T.z T.c
noncomputable def ge14:List (Str × RF):=("_law_is_table",⟨1,3,["_law_table_here"],false,jk⟩)::ge13
theorem gk14 (T:Txt K mg):EnvOk P w K mg base ge14:=by
 unfold ge14 jk
 exact Qin RR (r:=["_law_row","_law_pair"]) (H:=hh) T.f13 (by nofun) (fun _ _ _ _ _ _=>le1 fun _=>rfl) (fun z=>nomatch z) (by kernel_rfl) (gk13 T) T.z T.c
noncomputable def ge15:List (Str × RF):=("_law_is_line",⟨3,3,["_law_house","_law_line","_law_many"],false,jd⟩)::ge14
theorem gk15 (T:Txt K mg):EnvOk P w K mg base ge15:=by
 unfold ge15 jd
 exact Qin RR (r:=["_law_table_here"]) (H:=hh) T.f14 (by nofun) (fun _ _ _ _ _ _=>le3 fun _ _ _=>rfl) (fun z=>nomatch z) (by kernel_rfl) (gk14 T) T.z T.c
noncomputable def ge16:List (Str × RF):=("_law_is_house",⟨1,4,["_law_house"],false,jl⟩)::ge15
theorem gk16 (T:Txt K mg):EnvOk P w K mg base ge16:=by
 unfold ge16 jl
 exact Qin RR (r:=["_law_board","_law_one"]) (H:=hh) T.f15 (by nofun) (fun _ _ _ _ _ _=>le1 fun _=>rfl) (fun z=>nomatch z) (by kernel_rfl) (gk15 T) T.z T.c
noncomputable def ge17:List (Str × RF):=("_law_start",⟨2,1,["_law_house","_law_begun"],false,jq⟩)::ge16
theorem gk17 (T:Txt K mg):EnvOk P w K mg base ge17:=by
 unfold ge17 jq
 exact Qin RR (r:=["_law_at"]) (H:=hh) T.f16 (by nofun) (fun _ _ _ _ _ _=>le2 fun _ _=>rfl) (fun z=>nomatch z) (by kernel_rfl) (gk16 T) T.z T.c
noncomputable def ge18:List (Str × RF):=("_law_turn",⟨3,1,["_law_house","_law_spot","_law_k"],false,je⟩)::ge17
theorem gk18 (T:Txt K mg):EnvOk P w K mg base ge18:=by
 unfold ge18 je
 exact Qin RR (r:=["_law_at","_law_states","_law_line","_law_b","_law_later","_law_told"]) (H:=hh) T.f17 (by nofun) (fun _ _ _ _ _ _=>le3 fun _ _ _=>rfl) (fun z=>nomatch z) (by kernel_rfl) (gk17 T) T.z T.c
noncomputable def ge19:List (Str × RF):=("_law_value",⟨3,1,["_law_house","_law_spot","_law_k"],false,jh⟩)::ge18
theorem gk19 (T:Txt K mg):EnvOk P w K mg base ge19:=by
 unfold ge19 jh
 exact Qin RR (r:=["_law_line"]) (H:=hh) T.f18 (by nofun) (fun _ _ _ _ _ _=>le3 fun _ _ _=>rfl) (fun z=>nomatch z) (by kernel_rfl) (gk18 T) T.z T.c
noncomputable def ge20:List (Str × RF):=("_law_walk",⟨2,2,["_law_house","_law_begun"],false,jx⟩)::ge19
theorem gk20 (T:Txt K mg):EnvOk P w K mg base ge20:=by
 unfold ge20 jx
 exact Qin RR (r:=["_law_order","_law_found","_law_at","_law_spot","_law_values","_law_some","_law_there"]) (H:=hh) T.f19 (by nofun) (fun _ _ _ _ _ _=>le2 fun _ _=>rfl) (fun z=>nomatch z) (by kernel_rfl) (gk19 T) T.z T.c
noncomputable def ge21:List (Str × RF):=("_law_falls",⟨1,1,["_law_found"],false,jv⟩)::ge20
theorem gk21 (T:Txt K mg):EnvOk P w K mg base ge21:=by
 unfold ge21 jv
 exact Qin RR (r:=["_law_left","_law_ahead","_law_spot","_law_there","_law_done","_law_at"]) (H:=hh) T.f20 (by nofun) (fun _ _ _ _ _ _=>le1 fun _=>rfl) (fun z=>nomatch z) (by kernel_rfl) (gk20 T) T.z T.c
noncomputable def ge22:List (Str × RF):=("_law_begins",⟨1,1,["_law_many"],false,jt⟩)::ge21
theorem gk22 (T:Txt K mg):EnvOk P w K mg base ge22:=by
 unfold ge22 jt
 exact Qin RR (r:=[]) (H:=hh) T.f21 (by nofun) (fun _ _ _ _ _ _=>le1 fun _=>rfl) (fun z=>nomatch z) (by kernel_rfl) (gk21 T) T.z T.c
noncomputable def ge23:List (Str × RF):=("_law_is_good",⟨1,3,["_law_house"],false,jo⟩)::ge22
theorem gk23 (T:Txt K mg):EnvOk P w K mg base ge23:=by
 unfold ge23 jo
 exact Qin RR (r:=["_law_begun","_law_found"]) (H:=hh) T.f22 (by nofun) (fun _ _ _ _ _ _=>le1 fun _=>rfl) (fun z=>nomatch z) (by kernel_rfl) (gk22 T) T.z T.c
noncomputable def ge24:List (Str × RF):=("_law_looked",⟨1,2,["_law_deal_here"],false,jr⟩)::ge23
theorem gk24 (T:Txt K mg):EnvOk P w K mg base ge24:=by
 unfold ge24 jr
 exact Qin RR (r:=["_law_states","_law_deeds","_law_rows","_law_s"]) (H:=hh) T.f23 (by nofun) (fun _ _ _ _ _ _=>le1 fun _=>rfl) (fun z=>nomatch z) (by kernel_rfl) (gk23 T) T.z T.c
noncomputable def ge25:List (Str × RF):=("laying_hand",⟨4,3,["table","found","own","other"],false,jf⟩)::ge24
theorem gk25 (T:Txt K mg):EnvOk P w K mg base ge25:=by
 unfold ge25 jf
 exact Qin RR (r:=["deed"]) (H:=hh) T.f24 (by nofun) (fun _ _ _ _ _ _=>le4 fun _ _ _ _=>rfl) (fun z=>nomatch z) (by kernel_rfl) (gk24 T) T.z T.c
noncomputable def ge26:List (Str × RF):=("pact_of",⟨1,4,["table"],false,ji⟩)::ge25
noncomputable def xe1:List (Str × RF):=("pact_of",⟨1,4,["table"],false,ji⟩)::xe0
theorem gx26 (T:Txt K mg):EnvX P w K mg base xe1/\EnvOk P w K mg base ge26:=by
 unfold xe1 ge26 ji
 exact QkE RR (r:=["found","boards"]) (xc:=xcl) (H:=hh) T.f25 (by nofun) (fun _ _ _ _ _ _=>le1 fun _=>rfl) (by kernel_rfl) (gk25 T) (xk0 T) (xr T) T.z T.c
theorem gk26 (T:Txt K mg):EnvOk P w K mg base ge26:=(gx26 T).2
theorem xk1 (T:Txt K mg):EnvX P w K mg base xe1:=(gx26 T).1
noncomputable def ge27:List (Str × RF):=("_law_refused",⟨1,5,["_law_table_here"],false,jn⟩)::ge26
theorem gk27 (T:Txt K mg):EnvOk P w K mg base ge27:=by
 unfold ge27 jn
 exact QkF RR (r:=["_law_refused_here","e"]) (ys:=yy) (xc:=xcl) (H:=hh) T.f26 (by nofun) (fun _ _ _ _ _ _=>le1 fun _=>rfl) (by kernel_rfl) (gk26 T) (xk1 T) (xr T) T.o T.z T.c
noncomputable def ge28:List (Str × RF):=("_law_right",⟨1,6,["_law_table_here"],false,jm⟩)::ge27
theorem gk28 (T:Txt K mg):EnvOk P w K mg base ge28:=by
 unfold ge28 jm
 exact Qin RR (r:=["_law_due","_law_house","_law_boards"]) (H:=hh) T.f27 (by nofun) (fun _ _ _ _ _ _=>le1 fun _=>rfl) (fun z=>nomatch z) (by kernel_rfl) (gk27 T) T.z T.c
theorem yc {a:Addr}{fd:FuncData} (F:Fun K "law" "law" (top 38) a fd) (T:Txt K mg):FnOk P w K mg base CX0 7 a fd ["_law_script"] (spOf K 1 jR):=by
 unfold jR
 exact Qim RR (r:=["_law_deal_here","_law_one","_law_other"]) (H:=hh) F (by nofun) (by kernel_rfl) (gk28 T) T.z T.c rfl rfl
end
end My
namespace My
open MM
open PySem (Str)
theorem QkK {s:Sto}{n:Nat}{o:MO} (h:s[n]?=some o):n < s.length:=(List.getElem?_eq_some_iff.mp h).1
noncomputable def dealK (x c:Int) (q:Nat):List (D × D):=[(.str "seed",.int x),(.str "number",.int c),(.str "left",.ref q)]
section
variable {x c y:Int}{q:Nat}
theorem QkL:lkK (dealK x c q) (.str "seed")=some (.int x):=by simp[lkK,dealK,eqK]
theorem QkM:lkK (dealK x c q) (.str "number")=some (.int c):=by
 have h:¬ (("seed":Str)="number"):=by decide
 simp[lkK,dealK,eqK,h]
theorem QkN:lkK (dealK x c q) (.str "left")=some (.ref q):=by
 have h:¬ (("seed":Str)="left"):=by decide
 have h2:¬ (("number":Str)="left"):=by decide
 simp[lkK,dealK,eqK,h,h2]
theorem QkO:ptK (dealK x c q) (.str "seed") (.int y)=dealK y c q:=by
 have h:¬ (("number":Str)="seed"):=by decide
 have h2:¬ (("left":Str)="seed"):=by decide
 simp[ptK,dealK,eqK,h,h2]
theorem QkP:ptK (dealK x c q) (.str "number") (.int y)=dealK x y q:=by
 have h:¬ (("seed":Str)="number"):=by decide
 have h2:¬ (("left":Str)="number"):=by decide
 simp[ptK,dealK,eqK,h,h2]
theorem QkQ:mgK [] [(.str "seed",.int x),(.str "number",.int c),(.str "left",.ref q)]=dealK x c q:=by
 have h:¬ (("seed":Str)="number"):=by decide
 have h2:¬ (("seed":Str)="left"):=by decide
 have h3:¬ (("number":Str)="left"):=by decide
 simp[mgK,ptK,dealK,eqK,h,h2,h3]
theorem QkR:(dealK x c q).length < lim:=QiC (by simp[dealK])
end
structure PotAt (s:Sto) (p q:Nat):Prop where
 ne:p≠q
 ex:∃ (x c:Int) (cs:List D),s[p]?=some (.dct false (dealK x c q))/\s[q]?=some (.lst cs)/\0<=x/\x < 2147483648/\∀ d∈cs,∃ i:Int,d=.int i
structure Kept (p q:Nat) (s s':Sto):Prop where
 le:s.length<=s'.length
 at_:∀ n,n < s.length->n≠p->n≠q->s'[n]?=s[n]?
section
variable {p q:Nat}{s s1 s2:Sto}{Q:D->Sto->Prop}
theorem Kept.refl:Kept p q s s:=⟨Nat.le_refl _,fun _ _ _ _=>rfl⟩
theorem Kept.trans (h:Kept p q s s1) (k:Kept p q s1 s2):Kept p q s s2:=⟨Nat.le_trans h.le k.le,fun n hn hp hq=>(k.at_ n (Nat.lt_of_lt_of_le hn h.le) hp hq).trans (h.at_ n hn hp hq)⟩
theorem Kept.same {n:Nat}{o:MO} (h:Kept p q s s1) (hp:n≠p) (hq:n≠q) (g:s[n]?=some o):s1[n]?=some o:=(h.at_ n (QkK g) hp hq).trans g
theorem Kept.snoc {o:MO} (h:Kept p q s s1):Kept p q s (s1++[o]):=h.trans ⟨by simp,fun n hn _ _=>List.getElem?_append_left hn⟩
theorem Kept.put {n:Nat}{o:MO} (h:Kept p q s s1) (hn:s.length<=n):Kept p q s (s1.set n o):=
 ⟨by simp;exact h.le,fun m hm hp hq=>by rw[List.getElem?_set_ne (by ac_nf)];exact h.at_ m hm hp hq⟩
theorem PotAt.lt (h:PotAt s p q):p < s.length/\q < s.length:=by obtain⟨x,c,cs,a,b,_⟩:=h.ex;exact⟨QkK a,QkK b⟩
theorem PotAt.snoc {o:MO} (h:PotAt s p q):PotAt (s++[o]) p q:=by
 obtain⟨x,c,cs,a,b,r⟩:=h.ex
 exact⟨h.ne,x,c,cs,by rw[List.getElem?_append_left (QkK a)];exact a,by rw[List.getElem?_append_left (QkK b)];exact b,r⟩
theorem PotAt.put {n:Nat}{o:MO} (h:PotAt s p q) (hp:n≠p) (hq:n≠q):PotAt (s.set n o) p q:=by
 obtain⟨x,c,cs,a,b,r⟩:=h.ex
 exact⟨h.ne,x,c,cs,by rw[List.getElem?_set_ne hp];exact a,by rw[List.getElem?_set_ne hq];exact b,r⟩
theorem QkS {k:Int} (hp:PotAt s p q) (hk:0 < k) (hk2:k < 1073741824) (h:∀ r s',0<=r->r < k->PotAt s' p q->Kept p q s s'->Q (.int r) s'):wp (jb [.dic p,.int k]) Q s:=by
 obtain⟨x,c,cs,e1,e2,hx0,hx1,hcs⟩:=hp.ex
 have hne:=hp.ne
 (simp_arith [jb];simp_arith [jX])
 refine Qjb (fun l s'=>l=[some (.dic p),some (.int k),none,none,none]/\∃ c cs,s'[p]?=some (.dct false (dealK x c q))/\s'[q]?=some (.lst cs)/\(∀ d∈cs,∃ i:Int,d=.int i)/\Kept p q s s')
  (fun l s'=>match s'[q]? with
   | some (.lst cs)=>cs.length
   | _=>0) ⟨rfl,c,cs,e1,e2,hcs,Kept.refl⟩ (fun l s' hZ0=>?_)
 obtain⟨el,c,cs,e1,e2,hcs,hk'⟩:=hZ0
 subst el
 have gs:∀ Q,wp (itemK p (.str "seed")) Q s'=Q (.int x) s':=fun Q=>Qjh e1 rfl QkL
 have gn:∀ Q,wp (itemK p (.str "number")) Q s'=Q (.int c) s':=fun Q=>Qjh e1 rfl QkM
 have gl:∀ Q,wp (itemK p (.str "left")) Q s'=Q (.ref q) s':=fun Q=>Qjh e1 rfl QkN
 have g2:∀ Q,wp (getL q) Q s'=Q cs s':=fun Q=>Qir e2
 simp_arith [↓gn,↓gl,↓g2]
 by_cases hc:c=0/\0 < cs.length
 ·obtain⟨hc0,hcl⟩:=hc
  subst hc0
  rw[if_pos rfl,if_pos (by ac_nf)]
  obtain⟨d,hd⟩:∃ d,cs.getLast?=some d:=⟨_,List.getLast?_eq_some_getLast (by intro e;rw[e]at hcl;simp at hcl)⟩
  obtain⟨i,ei⟩:=hcs d (List.mem_of_getLast? hd)
  subst ei
  have q2:∀ es Q,wp (putL q es) Q s'=Q () (s'.set q (.lst es)):=fun es Q=>Qis e2
  have e3:(s'.set q (.lst cs.dropLast))[p]?=some (.dct false (dealK x 0 q)):=by rw[List.getElem?_set_ne (Ne.symm hne)];exact e1
  have e4:(s'.set q (.lst cs.dropLast))[q]?=some (.lst cs.dropLast):=List.getElem?_set_self (QkK e2)
  have q3:∀ v Q,wp (storeK p (.str "number") v) Q (s'.set q (.lst cs.dropLast))=Q () ((s'.set q (.lst cs.dropLast)).set p (.dct false (ptK (dealK x 0 q) (.str "number") v))):=fun v Q=>Qji e3 rfl QkR
  simp_arith [↓gl,↓g2,hd,↓q2,↓q3,QkP]
  have e5:((s'.set q (.lst cs.dropLast)).set p (.dct false (dealK x i q)))[p]?=some (.dct false (dealK x i q)):=List.getElem?_set_self (QkK e3)
  have e6:((s'.set q (.lst cs.dropLast)).set p (.dct false (dealK x i q)))[q]?=some (.lst cs.dropLast):=by rw[List.getElem?_set_ne hne];exact e4
  refine⟨⟨i,cs.dropLast,e5,e6,fun d hd=>hcs d (List.dropLast_subset _ hd),⟨by simp;exact hk'.le,fun n hn hp' hq'=>?_⟩⟩,?_⟩
  ·rw[List.getElem?_set_ne (Ne.symm hp'),List.getElem?_set_ne (Ne.symm hq')];exact hk'.at_ n hn hp' hq'
  ·rw[e6,e2]
   simp only[List.length_dropLast];ac_nf
 ·have fin : ∀ (A B : Prop), (if c = 0 then (if 0 < (cs.length : Int) then A else B) else B) = B := fun A B => by
    by_cases h1:c=0
    ·rw[if_pos h1,if_neg (by ac_nf)]
    ·rw[if_neg h1]
  rw[fin]
  have q3:∀ v Q,wp (storeK p (.str "number") v) Q s'=Q () (s'.set p (.dct false (ptK (dealK x c q) (.str "number") v))):=fun v Q=>Qji e1 rfl QkR
  have q4:∀ v Q,wp (storeK p (.str "seed") v) Q s'=Q () (s'.set p (.dct false (ptK (dealK x c q) (.str "seed") v))):=fun v Q=>Qji e1 rfl QkR
  have kp:∀ o,Kept p q s (s'.set p o):=fun o=>⟨by simp;exact hk'.le,fun n hn hp' hq'=>by rw[List.getElem?_set_ne (Ne.symm hp')];exact hk'.at_ n hn hp' hq'⟩
  have pt:∀ (x' c':Int),0<=x'->x' < 2147483648->PotAt (s'.set p (.dct false (dealK x' c' q))) p q:=fun x' c' h0 h1=>⟨hne,x',c',cs,List.getElem?_set_self (QkK e1),by rw[List.getElem?_set_ne hne];exact e2,h0,h1,hcs⟩
  have g5:∀ x' Q,wp (itemK p (.str "seed")) Q (s'.set p (.dct false (dealK x' c q)))=Q (.int x') (s'.set p (.dct false (dealK x' c q))):=fun x' Q=>Qjh (List.getElem?_set_self (QkK e1)) rfl QkL
  have m2:∀ a b:Int,0<=b->b < 10000000000->mulOk a b:=fun a b h1 h2=>.inr ⟨by ac_nf,by ac_nf⟩
  by_cases h0:0 < c
  ·rw[if_pos h0]
   simp_arith [↓q3,QkP]
   exact⟨⟨hk,hk2⟩,hk,h _ _ (Int.emod_nonneg _ (by ac_nf)) (Int.emod_lt_of_pos _ hk) (pt _ _ hx0 hx1) (kp _)⟩
  ·rw[if_neg h0]
   simp only[↓x_seq,↓x_asg,↓x_c2,↓x_var,↓x_con,↓x_subsD,↓gs,↓x_mul,↓x_add,↓x_mod,word_snoc]
   refine⟨m2 _ _ (by ac_nf) (by ac_nf),by ac_nf,?_⟩
   have one0:=Int.emod_nonneg (x * 48271 + 5003) (show (2147483647:Int)≠0 by ac_nf)
   have one1:=Int.emod_lt_of_pos (x * 48271 + 5003) (show (0:Int) < 2147483647 by ac_nf)
   generalize (x * 48271 + 5003) % 2147483647=one at one0 one1 ⊢
   have y0:=Int.emod_nonneg (one * 39373 + 60013) (show (2147483587:Int)≠0 by ac_nf)
   have y1:=Int.emod_lt_of_pos (one * 39373 + 60013) (show (0:Int) < 2147483587 by ac_nf)
   simp_arith [↓q4,QkO,↓g5]
   refine⟨m2 _ _ (by ac_nf) (by ac_nf),?_⟩
   generalize (one * 39373 + 60013) % 2147483587=y at y0 y1 ⊢
   refine⟨m2 _ _ (by ac_nf) (by ac_nf),m2 _ _ (by ac_nf) (by ac_nf),m2 _ _ (by ac_nf) (by ac_nf),hk,h _ _ (Int.emod_nonneg _ (by ac_nf)) (Int.emod_lt_of_pos _ hk) (pt _ _ y0 (by ac_nf)) (kp _)⟩
theorem QkT {ns:List Int} (h:∀ p q s',PotAt s' p q->s.length<=p->s.length<=q->Kept p q s s'->Q (.dic p) s'):wp (jz [.lit (ns.map D.int),.int 0]) Q s:=by
 have l0:0<=lim:=Nat.zero_le _
 have m2:∀ a b:Int,0<=b->b < 10000000000->mulOk a b:=fun a b h1 h2=>.inr ⟨by ac_nf,by ac_nf⟩
 have pw:∀ Q s,wp (powD (.int 10) (.int 18)) Q s=Q (.int 1000000000000000000) s:=fun Q s=>by unfold powD;rw[wp_chk,wp_ret];exact propext ⟨fun h=>h.2,fun h=>⟨by decide,h⟩⟩
 generalize (1000000000000000000:Int)=big at pw
 (simp_arith [jz];simp_arith [jZ,capt])
 have hcut:∀ d∈cutD (ns.map D.int) (some 0) (some 63),∃ i:Int,d=.int i:=fun d hd=>by
  unfold cutD at hd
  obtain⟨i,_,e⟩:=List.mem_map.mp (List.mem_of_mem_drop (List.mem_of_mem_take hd))
  exact⟨i,e.symm⟩
 have hlen:(cutD (ns.map D.int) (some 0) (some 63)).length<=63:=by
  unfold cutD sIx;simp;ac_nf
 generalize cutD (ns.map D.int) (some 0) (some 63)=cells at hcut hlen
 refine⟨QiB (by ac_nf),?_⟩
 refine Qjp (fun d=>∃ i:Int,d=.int i) (fun l=>l.length=1) (fun d=>∃ i:Int,d=.int i) (fun s'=>s=s') (fun _ _=>trivial) rfl rfl hcut (fun d l s' hZ0 hl es=>?_) fun out s' ho hP es=>?_
 ·obtain⟨i,ei⟩:=hZ0
  subst ei
  subst es
  match l,hl with
  | [x0],_=>simp_arith [];exact⟨_,rfl⟩
 ·subst es
  have g:∀ Q:List D->Sto->Prop,wp (getL s.length) Q (s++[.lst out])=Q out (s++[.lst out]):=fun Q=>Qir (by simp)
  simp_arith [↓g]
  refine⟨m2 _ _ (by ac_nf) (by ac_nf),?_⟩
  refine QiD (fun i l s'=>∃ x y4,l=[some (.lit (ns.map D.int)),some (.int 0),some (.ref s.length),some (.int x),y4]/\0<=x/\x < 2147483648/\s'=s++[.lst out]) (fun i l s' ⟨_,_,_,_,_,e⟩=>by subst e;show (s++[MO.lst out])[s.length]?=some (.lst out);simp) ⟨_,_,rfl,?_,?_,rfl⟩ (fun i d l s' hd hZ0=>?_) (fun l s' hZ0=>?_)
  ·ac_nf
  ·ac_nf
  ·obtain⟨x,y4,el,x0,x1,es⟩:=hZ0
   subst el es
   obtain⟨v,ev⟩:=hP d (List.mem_of_getElem? hd)
   subst ev
   simp_arith []
   exact⟨m2 _ _ (by ac_nf) (by ac_nf),_,_,rfl,Int.emod_nonneg _ (by ac_nf),Int.lt_trans (Int.emod_lt_of_pos _ (by ac_nf)) (by ac_nf)⟩
  ·obtain⟨x,y4,el,x0,x1,es⟩:=hZ0
   subst el es
   simp_arith [↓g,↓pw,capt]
   refine⟨QiB (by ac_nf),?_⟩
   refine Qjs (fun d=>∃ i:Int,d=.int i) (fun l=>l.length=1) (fun d=>∃ i:Int,d=.int i) (fun s'=>s++[.lst out]=s') (fun s' es=>by subst es;show (s++[MO.lst out])[s.length]?=some (.lst out);simp) rfl rfl hP (fun d l s' hZ0 hl es=>?_) fun o s' hol ho es=>?_
   ·obtain⟨v,ev⟩:=hZ0
    subst ev
    subst es
    match l,hl with
    | [z],_=>
     simp_arith [↓pw]
     by_cases hb:big<=v
     ·rw[if_pos hb];exact⟨_,rfl⟩
     ·rw[if_neg hb];trivial
   ·subst es
    simp_arith [List.zip_cons_cons,List.zip_nil_right,QkQ]
    refine h _ _ _ ⟨by simp,x,0,o.reverse,Qjm,Qjo Qjm,x0,x1,fun d hd=>ho d (List.mem_reverse.mp hd)⟩ (by simp<;>ac_nf) (by simp) ((Kept.refl.snoc).snoc.snoc)
end
open PySem (Str)
noncomputable def IsPr (S:Nat) (d:D):Prop:=∃ a b:Int,d=.tup [.int a,.int b]/\0<=a/\a < S/\0<=b/\b < 4
noncomputable def IsRow (S n:Nat) (d:D):Prop:=∃ ps,d=.tup ps/\ps.length=n/\∀ p∈ps,IsPr S p
noncomputable def IsTab (d:D):Prop:=∃ (S n:Nat) (rows:List D),d=.tup rows/\rows.length=S/\1<=S/\S<=4/\1<=n/\n<=4/\∀ r∈rows,IsRow S n r
noncomputable def tabD (S dn:Nat) (nx un:Nat->Nat->Nat):D:=.tup (upto S fun s=>.tup (upto dn fun d=>.tup [.int (nx s d:Nat),.int (un s d:Nat)]))
noncomputable def TabOk (S dn:Nat) (nx un:Nat->Nat->Nat):Prop:=1<=S/\S<=4/\1<=dn/\dn<=4/\∀ s d,s < S->d < dn->nx s d < S/\un s d < 4
theorem QkU {t:D} (h:IsTab t):∃ S dn nx un,t=tabD S dn nx un/\TabOk S dn nx un:=by
 obtain⟨S,dn,rows,et,hl,hS1,hS2,hd1,hd2,hr⟩:=h
 have key:∀ s:Nat,∃ p:Nat->Nat × Nat,s < S->rows[s]?=some (.tup (upto dn fun d=>.tup [.int ((p d).1:Nat),.int ((p d).2:Nat)]))/\∀ d,d < dn->(p d).1 < S/\(p d).2 < 4:=by
  intro s
  by_cases hs:s < S
  ·have hlt:s < rows.length:=by ac_nf
   obtain⟨ds,e,hdl,hp⟩:=hr rows[s] (List.getElem_mem hlt)
   have k2:∀ d:Nat,∃ p:Nat × Nat,d < dn->ds[d]?=some (.tup [.int (p.1:Nat),.int (p.2:Nat)])/\p.1 < S/\p.2 < 4:=by
    intro d
    by_cases hd:d < dn
    ·have hdt:d < ds.length:=by ac_nf
     obtain⟨g,u,e2,g0,g1,u0,u9⟩:=hp ds[d] (List.getElem_mem hdt)
     refine⟨(g.toNat,u.toNat),fun _=>⟨?_,by show g.toNat < S;ac_nf,by show u.toNat < 4;ac_nf⟩⟩
     rw[List.getElem?_eq_getElem hdt,e2,Int.toNat_of_nonneg g0,Int.toNat_of_nonneg u0]
    ·exact⟨(0,0),fun h=>(hd h).elim⟩
   refine⟨fun d=>Classical.choose (k2 d),fun _=>⟨?_,fun d hd=>(Classical.choose_spec (k2 d) hd).2⟩⟩
   rw[List.getElem?_eq_getElem hlt,e]
   congr 2
   exact QiT hdl fun d hd=>(Classical.choose_spec (k2 d) hd).1
  ·exact⟨fun _=>(0,0),fun h=>(hs h).elim⟩
 refine⟨S,dn,fun s d=>(Classical.choose (key s) d).1,fun s d=>(Classical.choose (key s) d).2,?_,hS1,hS2,hd1,hd2,fun s d hs hd=>(Classical.choose_spec (key s) hs).2 d hd⟩
 rw[et]
 unfold tabD
 congr 1
 exact QiT hl fun s hs=>(Classical.choose_spec (key s) hs).1
section
variable {p q:Nat}{s s1 s2:Sto}{Q:D->Sto->Prop}
noncomputable def PK (p q:Nat) (s s':Sto):Prop:=PotAt s' p q/\Kept p q s s'
theorem PK.refl (h:PotAt s p q):PK p q s s:=⟨h,Kept.refl⟩
theorem QkV {k:Int} (hp:PK p q s s1) (hk:0 < k) (hk2:k < 1073741824) (h:∀ r s',0<=r->r < k->PK p q s s'->Kept p q s1 s'->Q (.int r) s'):wp (jb [.dic p,.int k]) Q s1:=
 QkS hp.1 hk hk2 fun r s' r0 r1 hp' k'=>h r s' r0 r1 ⟨hp',hp.2.trans k'⟩ k'
theorem PK.snoc {o:MO} (h:PK p q s s1):PK p q s (s1++[o]):=⟨h.1.snoc,h.2.snoc⟩
theorem PK.put {n:Nat}{o:MO} (h:PK p q s s1) (hn:s.length<=n) (hp:n≠p) (hq:n≠q):PK p q s (s1.set n o):=⟨h.1.put hp hq,h.2.put hn⟩
theorem rngb {m:Int} (h0:0<=m) (h:m<=1000):(-(2 ^ 62)<=m/\m < 2 ^ 62):=by ac_nf
end
open PySem (Str)
section
variable {p q:Nat}{s s1 s2:Sto}{Q:D->Sto->Prop}
theorem toN {r:Int} (h:0<=r):∃ n:Nat,r=n:=⟨r.toNat,(Int.toNat_of_nonneg h).symm⟩
theorem QkW (hp:PK p q s s1) (h:∀ t s',IsTab t->PK p q s s'->Q t s'):wp (jp [.dic p,.int 4]) Q s1:=by
 (simp_arith [jp];simp_arith [jS])
 refine QkV hp (by ac_nf) (by ac_nf) fun r1 t1 a0 a1 h1 _=>?_
 simp_arith []
 refine QkV h1 (by ac_nf) (by ac_nf) fun r2 t2 b0 b1 h2 _=>?_
 simp_arith []
 refine QkV h2 (by ac_nf) (by ac_nf) fun r3 t3 c0 c1 h3 _=>?_
 obtain⟨r1,rfl⟩:=toN a0
 obtain⟨r2,rfl⟩:=toN b0
 have e1:(1 + (r1:Int))=((1 + r1:Nat):Int):=by ac_nf
 have e2:(1 + (r2:Int))=((1 + r2:Nat):Int):=by ac_nf
 rw[e1,e2]
 have m1:1<=1 + r1/\1 + r1<=4:=by ac_nf
 have n1:1<=1 + r2/\1 + r2<=4:=by ac_nf
 generalize 1 + r1=m at m1
 generalize 1 + r2=n at n1
 simp_arith [Nat.zero_le,Int.toNat_natCast]
 refine⟨rngb (by ac_nf) (by ac_nf),?_⟩
 have pl:=h3.1.lt
 have l3:=h3.2.le
 refine QiD (fun i l s'=>∃ rows y6,l=[some (.dic p),some (.int 4),some (.int m),some (.int n),some (.int (1 + r3)),some (.ref t3.length),y6]/\s'[t3.length]?=some (.lst rows)/\rows.length=i/\(∀ r∈rows,IsRow m n r)/\PK p q s s') (fun _ _ _ _=>trivial) ⟨[],none,rfl,by simp,rfl,fun r hr=>absurd hr (by simp),h3.snoc⟩ (fun i d l s' hd ⟨rows,y6,el,g,hl,hr,hk⟩=>?_) (fun l s' ⟨rows,y6,el,g,hl,hr,hk⟩=>?_)
 ·subst el
  simp_arith [capt,Int.toNat_natCast,QiA]
  refine⟨rngb (by ac_nf) (by ac_nf),QiB (by ac_nf),?_⟩
  refine Qjq (isI n) (IsPr m) (fun s'=>s'[t3.length]?=some (.lst rows)/\PK p q s s') (fun _ _=>trivial) ⟨g,hk⟩ Qjr (fun d s' _ ⟨g,hk⟩=>?_) (fun out s' ho hP ⟨g,hk⟩=>?_)
  ·have l2:2<=lim:=QiB (by ac_nf)
   simp_arith [l2]
   refine QkV hk (by ac_nf) (by ac_nf) fun a s2 a0 a1 hk2 w2=>?_
   simp_arith [l2]
   refine QkV hk2 (by ac_nf) (by ac_nf) fun b s3 b0 b1 hk3 w3=>?_
   simp_arith [l2]
   exact⟨⟨a,b,rfl,a0,a1,b0,by ac_nf⟩,w3.same (by ac_nf) (by ac_nf) (w2.same (by ac_nf) (by ac_nf) g),hk3⟩
  ·have g1:∀ Q,wp (getL t3.length) Q s'=Q rows s':=fun Q=>Qir g
   have g2:∀ es Q,wp (putL t3.length es) Q s'=Q () (s'.set t3.length (.lst es)):=fun es Q=>Qis g
   simp_arith [↓g1,↓g2]
   have hi:=(List.getElem?_eq_some_iff.mp hd).1
   rw[QiA]at hi ho
   refine⟨QiC (by ac_nf),_,_,rfl,List.getElem?_set_self (QkK g),by simp[hl],fun r hr'=>?_,hk.put (by ac_nf) (by ac_nf) (by ac_nf)⟩
   rcases List.mem_append.mp hr' with hr' | hr'
   ·exact hr r hr'
   ·exact⟨out,List.mem_singleton.mp hr',ho,hP⟩
 ·subst el
  have g1:∀ Q,wp (getL t3.length) Q s'=Q rows s':=fun Q=>Qir g
  simp_arith [↓g1]
  rw[QiA]at hl
  exact h _ _ ⟨m,n,rows,rfl,hl,m1.1,m1.2,n1.1,n1.2,hr⟩ hk
theorem QkX (hp:PK p q s s1) (h:∀ t s',IsTab t->PK p q s s'->Q t s'):wp (jr [.dic p]) Q s1:=by
 (simp_arith [jr];simp_arith [jN])
 refine QkV hp (by ac_nf) (by ac_nf) fun r1 t1 a0 a1 h1 _=>?_
 simp_arith []
 refine QkV h1 (by ac_nf) (by ac_nf) fun r2 t2 b0 b1 h2 _=>?_
 obtain⟨r1,rfl⟩:=toN a0
 obtain⟨r2,rfl⟩:=toN b0
 have e1:(1 + (r1:Int))=((1 + r1:Nat):Int):=by ac_nf
 have e2:(1 + (r2:Int))=((1 + r2:Nat):Int):=by ac_nf
 simp_arith []
 rw[e1]
 try rw[e2]
 have m1:1<=1 + r1/\1 + r1<=4:=by ac_nf
 have n1:1<=1 + r2/\1 + r2<=4:=by ac_nf
 generalize 1 + r1=m at m1
 generalize 1 + r2=n at n1
 simp_arith [capt,Int.toNat_natCast,QiA]
 refine⟨rngb (by ac_nf) (by ac_nf),QiB (by ac_nf),?_⟩
 refine Qjq (isI n) (fun d=>∃ v:Int,d=.int v/\0<=v/\v < m + 1) (fun s'=>PK p q s s') (fun _ _=>trivial) h2 Qjr (fun d s' _ hk=>?_) (fun ds t3 ho hP h3=>?_)
 ·simp_arith []
  exact QkV hk (by ac_nf) (by ac_nf) fun a s2 a0 a1 hk2 w2=>⟨⟨a,rfl,a0,a1⟩,hk2⟩
 rw[QiA]at ho
 have pl:=h3.1.lt
 have l3:=h3.2.le
 simp_arith [Nat.zero_le,Int.toNat_natCast,List.length_append]
 refine⟨rngb (by ac_nf) (by ac_nf),?_⟩
 refine QiD (fun i l s'=>∃ rows y4,l=[some (.dic p),some (.int m),some (.ref t3.length),some (.ref (t3.length + 1)),y4]/\s'[t3.length]?=some (.lst ds)/\s'[t3.length + 1]?=some (.lst rows)/\rows.length=i/\(∀ r∈rows,IsRow m n r)/\PK p q s s') (fun _ _ _ _=>trivial) ⟨[],none,rfl,by simp,by simp,rfl,fun r hr=>absurd hr (by simp),h3.snoc.snoc⟩ (fun i d l s' hd ⟨rows,y4,el,g0,g,hl,hr,hk⟩=>?_) (fun l s' ⟨rows,y4,el,g0,g,hl,hr,hk⟩=>?_)
 ·subst el
  obtain⟨hi,ed⟩:=Qiz hd
  subst ed
  have g3:∀ Q,wp (getL t3.length) Q s'=Q ds s':=fun Q=>Qir g0
  simp_arith [capt,↓g3]
  refine⟨QiB (by ac_nf),?_⟩
  refine Qjq (fun d=>∃ v:Int,d=.int v/\0<=v/\v < m + 1) (IsPr m) (fun s''=>s'=s'') (fun s'' e=>by subst e;exact g0) rfl hP (fun d s'' ⟨v,ev,v0,v1⟩ es=>?_) (fun out s'' ho2 hP2 es=>?_)
  ·subst ev es
   have l2:2<=lim:=QiB (by ac_nf)
   simp_arith [l2]
   by_cases hv:0 < v
   ·rw[if_pos hv]
    simp_arith []
    exact⟨_,_,rfl,by ac_nf,by ac_nf,by ac_nf,by ac_nf⟩
   ·rw[if_neg hv]
    simp_arith []
    exact⟨_,_,rfl,by ac_nf,by ac_nf,by ac_nf,by ac_nf⟩
  ·subst es
   have g1:∀ Q,wp (getL (t3.length + 1)) Q s'=Q rows s':=fun Q=>Qir g
   have g2:∀ es Q,wp (putL (t3.length + 1) es) Q s'=Q () (s'.set (t3.length + 1) (.lst es)):=fun es Q=>Qis g
   simp_arith [↓g1,↓g2]
   refine⟨QiC (by ac_nf),_,_,rfl,?_,List.getElem?_set_self (QkK g),by simp[hl],fun r hr'=>?_,hk.put (by ac_nf) (by ac_nf) (by ac_nf)⟩
   ·rw[List.getElem?_set_ne (by ac_nf)];exact g0
   rcases List.mem_append.mp hr' with hr' | hr'
   ·exact hr r hr'
   ·exact⟨out,List.mem_singleton.mp hr',by ac_nf,hP2⟩
 ·subst el
  have g1:∀ Q,wp (getL (t3.length + 1)) Q s'=Q rows s':=fun Q=>Qir g
  simp_arith [↓g1]
  rw[QiA]at hl
  exact h _ _ ⟨m,n,rows,rfl,hl,m1.1,m1.2,n1.1,n1.2,hr⟩ hk
end
section
variable {p q:Nat}{s:Sto}{Q:D->Sto->Prop}{S n:Nat}{nx un:Nat->Nat->Nat}
theorem QkY {a d:Nat} (ha:a < S) (hd:d < n):wp (js [tabD S n nx un,.int a,.int d]) Q s=Q (.int (nx a d:Nat)) s:=by
 unfold tabD
 (simp_arith [js];simp_arith [jM,↓QiZ ha,↓QiZ hd])
theorem QkZ {a d:Nat} (ha:a < S) (hd:d < n):wp (ju [tabD S n nx un,.int a,.int d]) Q s=Q (.int (un a d:Nat)) s:=by
 unfold tabD
 (simp_arith [ju];simp_arith [j7,↓QiZ ha,↓QiZ hd])
noncomputable def Al (nx un:Nat->Nat->Nat) (a d:Nat):Prop:=un a d=un (nx a d) d
noncomputable def MarkIs (S n:Nat) (nx un:Nat->Nat->Nat) (r:D):Prop:=(r=.non/\∀ a d,a < S->d < n->Al nx un a d) \/
 ∃ a d,a < S/\d < n/\r=.tup [.int (a:Nat),.int (d:Nat)]/\¬ Al nx un a d/\(∀ a' d',a' < a->d' < n->Al nx un a' d')/\∀ d',d' < d->Al nx un a d'
theorem Qk0 {r r':D} (h:MarkIs S n nx un r) (h':MarkIs S n nx un r'):r=r':=by
 rcases h with ⟨e,h⟩ | ⟨a,d,ha,hd,e,h1,h2,h3⟩
 ·rcases h' with ⟨e',h'⟩ | ⟨a',d',ha',hd',e',h1',_⟩
  ·rw[e,e']
  ·exact absurd (h a' d' ha' hd') h1'
 ·rcases h' with ⟨e',h'⟩ | ⟨a',d',ha',hd',e',h1',h2',h3'⟩
  ·exact absurd (h' a d ha hd) h1
  ·have ea : a = a' := by
     rcases Nat.lt_trichotomy a a' with z | z | z
     ·exact absurd (h2' a d z hd) h1
     ·exact z
     ·exact absurd (h2 a' d' z hd') h1'
   subst ea
   have ed:d=d':=by
    rcases Nat.lt_trichotomy d d' with z | z | z
    ·exact absurd (h3' d z) h1
    ·exact z
    ·exact absurd (h3 d' z) h1'
   subst ed
   rw[e,e']
theorem Qk1 (ok:TabOk S n nx un) (h:∀ r,MarkIs S n nx un r->Q r s):wp (jP [tabD S n nx un]) Q s:=by
 obtain⟨hS1,hS2,hn1,hn2,hb⟩:=ok
 have l0:∀ Q:D->Sto->Prop,∀ s,wp (lenD (tabD S n nx un)) Q s=Q (.int (S:Nat)) s:=fun Q s=>by unfold tabD;rw[x_lenT,QiR]
 have s0:∀ Q:D->Sto->Prop,∀ s,wp (subsD (tabD S n nx un) (.int 0)) Q s=Q (.tup (upto n fun d=>.tup [.int (nx 0 d:Nat),.int (un 0 d:Nat)])) s:=fun Q s=>by unfold tabD;rw[x_subsT,Qi0 (by ac_nf)]
 (simp_arith [jP];simp_arith [j9,↓l0,Int.toNat_natCast,QiU])
 refine⟨rngb (by ac_nf) (by ac_nf),?_⟩
 refine Qi1 (fun i l s'=>∃ y1 y2,l=[some (tabD S n nx un),y1,y2]/\s=s'/\∀ a d,a < i->d < n->Al nx un a d) (fun _ _ _ _=>trivial) ⟨_,_,rfl,rfl,fun a d ha=>absurd ha (Nat.not_lt_zero _)⟩ (fun a l s' ha ⟨y1,y2,el,es,hA⟩=>?_) (fun l s' ⟨y1,y2,el,es,hA⟩=>?_)
 ·subst el es
  simp_arith [↓s0,QiR,Int.toNat_natCast,QiU]
  refine⟨rngb (by ac_nf) (by ac_nf),?_⟩
  refine Qi1 (fun d l s'=>∃ y2,l=[some (tabD S n nx un),some (.int a),y2]/\s=s'/\∀ d',d' < d->Al nx un a d') (fun _ _ _ _=>trivial) ⟨_,rfl,rfl,fun d hd=>absurd hd (Nat.not_lt_zero _)⟩ (fun d l s' hd ⟨y2,el,es,hD⟩=>?_) (fun l s' ⟨y2,el,es,hD⟩=>?_)
  ·subst el es
   have hb2:=(hb a d ha hd).1
   simp_arith [↓QkZ ha hd,↓QkY ha hd,↓QkZ hb2 hd]
   by_cases c:Al nx un a d
   ·have c':un a d=un (nx a d) d:=c
    rw[if_neg (by rw[c'];simp)]
    refine⟨_,rfl,fun d' hd'=>?_⟩
    by_cases e:d'=d
    ·subst e;exact c
    ·exact hD d' (by ac_nf)
   ·have c':¬ un a d=un (nx a d) d:=c
    rw[if_pos (by simp;ac_nf)]
    exact⟨QiB (by ac_nf),h _ (.inr ⟨a,d,ha,hd,rfl,c,hA,hD⟩)⟩
  ·subst el es
   simp_arith []
   refine⟨_,_,rfl,fun a' d' ha' hd'=>?_⟩
   by_cases e:a'=a
   ·subst e;exact hD d' hd'
   ·exact hA a' d' (by ac_nf) hd'
 ·subst el es
  simp_arith []
  exact h _ (.inl ⟨rfl,hA⟩)
theorem Qk2 (ok:TabOk S n nx un) (h:∀ r,MarkIs S n nx un r->Q r s):wp (jy [tabD S n nx un]) Q s:=by
 obtain⟨hS1,hS2,hn1,hn2,hb⟩:=ok
 have l0:∀ Q:D->Sto->Prop,∀ s,wp (lenD (tabD S n nx un)) Q s=Q (.int (S:Nat)) s:=fun Q s=>by unfold tabD;rw[x_lenT,QiR]
 have s0:∀ (a:Nat),a < S->∀ Q:D->Sto->Prop,∀ s,wp (subsD (tabD S n nx un) (.int a)) Q s=Q (.tup (upto n fun d=>.tup [.int (nx a d:Nat),.int (un a d:Nat)])) s:=fun a ha Q s=>by unfold tabD;rw[x_subsT,QiZ ha]
 (simp_arith [jy];simp_arith [j4,↓l0,Int.toNat_natCast,QiU])
 refine⟨rngb (by ac_nf) (by ac_nf),?_⟩
 refine Qi1 (fun i l s'=>∃ y1 y2 y3 y4,l=[some (tabD S n nx un),y1,y2,y3,y4]/\s=s'/\∀ a d,a < i->d < n->Al nx un a d) (fun _ _ _ _=>trivial) ⟨_,_,_,_,rfl,rfl,fun a d ha=>absurd ha (Nat.not_lt_zero _)⟩ (fun a l s' ha ⟨y1,y2,y3,y4,el,es,hA⟩=>?_) (fun l s' ⟨y1,y2,y3,y4,el,es,hA⟩=>?_)
 ·subst el es
  simp_arith [↓s0 a ha,QiR,Int.toNat_natCast,QiU]
  refine⟨rngb (by ac_nf) (by ac_nf),?_⟩
  refine Qi1 (fun d l s'=>∃ y2 y3 y4,l=[some (tabD S n nx un),some (.int a),y2,y3,y4]/\s=s'/\∀ d',d' < d->Al nx un a d') (fun _ _ _ _=>trivial) ⟨_,_,_,rfl,rfl,fun d hd=>absurd hd (Nat.not_lt_zero _)⟩ (fun d l s' hd ⟨y2,y3,y4,el,es,hD⟩=>?_) (fun l s' ⟨y2,y3,y4,el,es,hD⟩=>?_)
  ·subst el es
   have hb2:=(hb a d ha hd).1
   simp_arith [↓s0 a ha,↓QiZ hd,↓s0 _ hb2]
   by_cases c:Al nx un a d
   ·have c':un a d=un (nx a d) d:=c
    rw[if_neg (by rw[c'];simp)]
    refine⟨_,_,_,rfl,fun d' hd'=>?_⟩
    by_cases e:d'=d
    ·subst e;exact c
    ·exact hD d' (by ac_nf)
   ·have c':¬ un a d=un (nx a d) d:=c
    rw[if_pos (by simp;ac_nf)]
    exact⟨QiB (by ac_nf),h _ (.inr ⟨a,d,ha,hd,rfl,c,hA,hD⟩)⟩
  ·subst el es
   simp_arith []
   refine⟨_,_,_,_,rfl,fun a' d' ha' hd'=>?_⟩
   by_cases e:a'=a
   ·subst e;exact hD d' hd'
   ·exact hA a' d' (by ac_nf) hd'
 ·subst el es
  simp_arith []
  exact h _ (.inl ⟨rfl,hA⟩)
end
open PySem (Str)
noncomputable def gD (A a0 g:Nat):D:=.tup (upto A fun t=>.int ((if t=a0 then g else 4:Nat):Nat))
noncomputable def lnD (A a0 d own oth:Nat):Nat->D
 | 0=>.tup [.str "do",.int own,.int 1,.tup [.int 2]]
 | 1=>.tup [.str "do",.int own,.int 2,.tup [.int 3]]
 | 2=>.tup [.str "do",.int 0,.int d,gD A a0 5]
 | 3=>.tup [.str "do",.int 0,.int d,gD A a0 6]
 | 4=>.tup [.str "do",.int oth,.int 0,.tup [.int 5,.int 6]]
 | 5=>.tup [.str "settle",.int 0]
 | _=>.tup [.str "settle",.int 1]
noncomputable def hdD (A a0 d own oth:Nat):D:=.tup [.tup [.int 0,.int 1],.tup (upto 7 (lnD A a0 d own oth))]
noncomputable def pl2:D:=.tup (upto 2 fun s=>.tup [.tup [.int (s:Nat),.int (s:Nat)],.tup [.int 0,.int 0],.tup [.int 1,.int 0]])
noncomputable def hsD (t:D) (a A a0 d:Nat):D:=.tup [.tup [.tup [t,.int a],.tup [pl2,.int 0],.tup [pl2,.int 0]],.tup [hdD A a0 d 1 2,hdD A a0 d 2 1]]
section
variable {s:Sto}{Q:D->Sto->Prop}{S n:Nat}{nx un:Nat->Nat->Nat}
theorem c1_1 {x0 x1:Option D}{r:Loc}:capt 1 [1] (x0::x1::r)=[none,x1]:=rfl
theorem c1_0 {x0:Option D}{r:Loc}:capt 1 [0] (x0::r)=[none,x0]:=rfl
theorem c1_n {l:Loc}:capt 1 [] l=[none]:=rfl
noncomputable def anN (S:Nat) (un:Nat->Nat->Nat) (d:Nat):Nat:=1 + mx (fun s=>un s d) S
theorem Qk3 {l : Loc} {c e : CE} {caps : List Nat} {d : Nat} (ok : TabOk S n nx un) (hd : d < n) (hc : ∀ (Q : D -> Sto -> Prop) s, wp (c l) Q s = Q (tabD S n nx un) s) (he : ∀ i, i < S -> ∀ (Q : D -> Sto -> Prop) s, wp (e (some (.tup (upto n fun d => .tup [.int (nx i d : Nat), .int (un i d : Nat)])) :: caps.map fun i => (l[i]?).join)) Q s = Q (.int (un i d : Nat)) s) :
  wp (cTmp maxD (aComp 1 caps (iSeq c) (gVar 0) tTrue e) l) Q s=Q (.int (mx (fun s=>un s d) S:Nat)) s:=by
 obtain⟨hS1,hS2,hn1,hn2,hb⟩:=ok
 have et:tabD S n nx un=.tup (upto S fun s=>.tup (upto n fun d=>.tup [.int (nx s d:Nat),.int (un s d:Nat)])):=rfl
 apply QiG
 simp_arith [↓hc]
 rw[et]
 simp_arith [QiR]
 refine⟨QiB (by ac_nf),?_⟩
 have ec:capt 1 caps l=none::caps.map fun i=>(l[i]?).join:=rfl
 rw[ec,Qi2 (f:=fun i=>.int (un i d:Nat)) trivial fun i hi Q=>he i hi Q s,Qi8 (by ac_nf)]
 exact⟨rfl,rfl⟩
theorem Qk4 {d:Nat} (ok:TabOk S n nx un) (hd:d < n):wp (jw [tabD S n nx un,.int d]) Q s=Q (.int (anN S un d:Nat)) s:=by
 have m:=fun (Q:D->Sto->Prop) s=>Qk3 (Q:=Q) (s:=s) (l:=[some (tabD S n nx un),some (.int (d:Nat))]) (c:=cVar 0) (caps:=[1]) (e:=c2 subsD (c2 subsD (cVar 0) (cVar 1)) (cCon (.int 1))) ok hd (fun Q s=>by rw[x_var];rfl) (fun i hi Q s=>by
  simp_arith [List.map_cons,List.map_nil]
  simp_arith [↓QiZ hd])
 apply QiG
 (simp_arith [jw];simp_arith [j6,↓m])
 unfold anN
 have:(1:Int) + (mx (fun s=>un s d) S:Nat)=((1 + mx (fun s=>un s d) S:Nat):Int):=by ac_nf
 rw[this]
theorem Qk5 {d:Nat} (ok:TabOk S n nx un) (hd:d < n):1<=anN S un d/\anN S un d<=4:=by
 unfold anN
 have:=Qi6 (f:=fun s=>un s d) (n:=S) (m:=3) fun i hi=>by have:=(ok.2.2.2.2 i d hi hd).2;show un i d<=3;ac_nf
 ac_nf
theorem Qk6 {a d:Nat} (ha:a < S):un a d < anN S un d:=by
 unfold anN
 have:=Qi7 (f:=fun s=>un s d) ha
 have:un a d<=mx (fun s=>un s d) S:=this
 ac_nf
theorem Qk7:wp (jA [.int 2]) Q s=Q pl2 s:=by
 have l2:2<=lim:=QiB (by ac_nf)
 have l1:1<=lim:=QiB (by ac_nf)
 apply QiG
 (simp_arith [jA];simp_arith [j8,c1_n,c1_1])
 refine⟨rngb (by ac_nf) (by ac_nf),l2,?_⟩
 rw[QiU,Qi2 (f:=fun i=>.tup [.int (i:Nat),.int 0]) trivial fun i hi Q=>by simp_arith [l2]]
 simp_arith [c1_1]
 refine⟨rngb (by ac_nf) (by ac_nf),l2,?_⟩
 rw[QiU,Qi2 (f:=fun i=>.tup [.tup [.int (i:Nat),.int (i:Nat)],.tup [.int 0,.int 0],.tup [.int 1,.int 0]]) trivial fun i hi Q=>?_]
 ·simp_arith []
  rfl
 ·have e:(upto (Int.toNat 2) fun i=>D.tup [.int (i:Nat),.int 0])=[.tup [.int 0,.int 0],.tup [.int 1,.int 0]]:=rfl
  rw[e]
  simp_arith [l2,l1]
  exact propext ⟨fun h=>h.2,fun h=>⟨QiB (by decide),h⟩⟩
theorem Qk8 {a d g:Nat} (ok:TabOk S n nx un) (ha:a < S) (hd:d < n):wp (jc [tabD S n nx un,.tup [.int a,.int d],.int g]) Q s=Q (gD (anN S un d) (un a d) g) s:=by
 obtain⟨h1,h2⟩:=Qk5 ok hd
 have w1:∀ (Q:D->Sto->Prop) s,wp (ju [tabD S n nx un,.int a,.int d]) Q s=Q (.int (un a d:Nat)) s:=fun Q s=>QkZ ha hd
 have w2:∀ (Q:D->Sto->Prop) s,wp (jw [tabD S n nx un,.int d]) Q s=Q (.int (anN S un d:Nat)) s:=fun Q s=>Qk4 ok hd
 apply QiG
 (simp_arith [jc];simp_arith [jC,↓w1,↓w2])
 refine⟨rngb (by ac_nf) (by ac_nf),QiB (by rw[QiA];ac_nf),?_⟩
 rw[show ∀ x0 x1 x2 x3:Option D,capt 1 [2,3] [x0,x1,x2,x3]=[none,x2,x3] from fun _ _ _ _=>rfl]
 rw[Int.toNat_natCast,QiU,Qi2 (f:=fun t=>.int ((if t=un a d then g else 4:Nat):Nat)) trivial fun i hi Q=>?_]
 ·simp_arith []
  rfl
 ·simp_arith []
  by_cases e:i=un a d
  ·rw[if_pos e,if_pos (by ac_nf)]
  ·rw[if_neg e,if_neg (by ac_nf)]
   rfl
theorem Qk9 {a d own oth:Nat} (ok:TabOk S n nx un) (ha:a < S) (hd:d < n):wp (jf [tabD S n nx un,.tup [.int a,.int d],.int own,.int oth]) Q s=Q (hdD (anN S un d) (un a d) d own oth) s:=by
 have w5:∀ (Q:D->Sto->Prop) s,wp (jc [tabD S n nx un,.tup [.int a,.int d],.int 5]) Q s=Q (gD (anN S un d) (un a d) 5) s:=fun Q s=>Qk8 (g:=5) ok ha hd
 have w6:∀ (Q:D->Sto->Prop) s,wp (jc [tabD S n nx un,.tup [.int a,.int d],.int 6]) Q s=Q (gD (anN S un d) (un a d) 6) s:=fun Q s=>Qk8 (g:=6) ok ha hd
 have l:∀ k,k<=10->k<=lim:=fun k hk=>QiB (by ac_nf)
 apply QiG
 (simp_arith [jf];simp_arith [jI,↓w5,↓w6,l 1 (by ac_nf),l 2 (by ac_nf),l 4 (by ac_nf),l 7 (by ac_nf)])
 first | exact⟨rfl,rfl⟩ | rfl
theorem Qla {a d:Nat}{W:D->Sto->Prop} (ok:TabOk S n nx un) (ha:a < S) (hd:d < n) (hm:∀ r,MarkIs S n nx un r->r=.tup [.int (a:Nat),.int (d:Nat)]) (hQ:Q (hsD (tabD S n nx un) a (anN S un d) (un a d) d) s):wpx (ji [tabD S n nx un]) Q W s:=by
 have l:∀ k,k<=10->k<=lim:=fun k hk=>QiB (by ac_nf)
 unfold ji jQ
 refine QjO (QjK (QjM ?_))
 simp_arith []
 refine Qk1 ok fun r hr=>?_
 rw[hm r hr]
 simp_arith []
 refine QjK (QjN ?_)
 have n2:∀ ds (Q:D->Sto->Prop) s,wp (isD (.tup ds) .non) Q s=Q (.bl false) s:=fun ds Q s=>wp_eq rfl
 simp_arith [↓n2]
 refine QjL ?_
 refine QjK (QjM ?_)
 have p:∀ (Q:D->Sto->Prop) s,wp (jA [.int 2]) Q s=Q pl2 s:=fun Q s=>Qk7
 simp_arith [↓p,l 2 (by ac_nf),l 3 (by ac_nf)]
 refine QjK (QjM ?_)
 have h1:∀ (Q:D->Sto->Prop) s,wp (jf [tabD S n nx un,.tup [.int a,.int d],.int 1,.int 2]) Q s=Q (hdD (anN S un d) (un a d) d 1 2) s:=fun Q s=>Qk9 (own:=1) (oth:=2) ok ha hd
 have h2:∀ (Q:D->Sto->Prop) s,wp (jf [tabD S n nx un,.tup [.int a,.int d],.int 2,.int 1]) Q s=Q (hdD (anN S un d) (un a d) d 2 1) s:=fun Q s=>Qk9 (own:=2) (oth:=1) ok ha hd
 simp_arith [↓h1,↓h2,l 2 (by ac_nf)]
 exact hQ
theorem Qlb {W:D->Sto->Prop} (ok:TabOk S n nx un) (hm:∀ r,MarkIs S n nx un r->r=.non) (hW:W (.exn "NoMark" []) s):wpx (ji [tabD S n nx un]) Q W s:=by
 unfold ji jQ
 refine QjO (QjK (QjM ?_))
 simp_arith []
 refine Qk1 ok fun r hr=>?_
 rw[hm r hr]
 simp_arith []
 refine QjK (QjN ?_)
 have n2:∀ (Q:D->Sto->Prop) s,wp (isD .non .non) Q s=Q (.bl true) s:=fun Q s=>wp_eq rfl
 simp_arith [↓n2]
 exact QjK (QjJ hW)
end
open PySem (Str)
noncomputable def pnx (s d:Nat):Nat:=match d with | 0=>s | 1=>0 | _=>1
noncomputable def pun (s d:Nat):Nat:=match d with | 0=>s | _=>0
theorem Qlc:pl2=tabD 2 3 pnx pun:=rfl
theorem Qld:TabOk 2 3 pnx pun:=by
 refine⟨by ac_nf,by ac_nf,by ac_nf,by ac_nf,fun s d hs hd=>?_⟩
 match d,hd with
 | 0,_=>exact⟨hs,show s < 4 by ac_nf⟩
 | 1,_=>exact⟨show 0 < 2 by ac_nf,show 0 < 4 by ac_nf⟩
 | 2,_=>exact⟨show 1 < 2 by ac_nf,show 0 < 4 by ac_nf⟩
section
variable {s:Sto}{Q:D->Sto->Prop}{S n:Nat}{nx un:Nat->Nat->Nat}
noncomputable def NumLt (m:Int) (d:D):Prop:=∃ i:Int,d=.int i/\0<=i/\i < m
theorem Qle {i:Int}:wp (jj [.int i]) Q s=Q (.bl true) s:=by
 (simp_arith [jj];simp_arith [jV])
theorem Qlf {ds:List D}{m:Int} (h:∀ d∈ds,NumLt m d) (hl:ds.length<=100):wp (ja [.tup ds,.int m]) Q s=Q (.bl true) s:=by
 apply QiG
 (simp_arith [ja];simp_arith [jL,andB_t,c1_1])
 refine⟨QiB (by ac_nf),?_⟩
 rw[QiY (f:=fun _=>.bl true) trivial fun i d hd Q=>?_]
 ·simp_arith [↓Qi5]
 ·obtain⟨k,rfl,h0,h1⟩:=h d (List.mem_of_getElem? hd)
  have w:∀ (Q:D->Sto->Prop) s,wp (jj [.int k]) Q s=Q (.bl true) s:=fun Q s=>Qle
  simp_arith [↓w,andB_t]
  rw[decide_eq_true h0,andB_t,decide_eq_true h1]
theorem Qlg (ok:TabOk S n nx un):wp (jk [tabD S n nx un]) Q s=Q (.bl true) s:=by
 obtain⟨hS1,hS2,hn1,hn2,hb⟩:=ok
 have et:tabD S n nx un=.tup (upto S fun s=>.tup (upto n fun d=>.tup [.int (nx s d:Nat),.int (un s d:Nat)])):=rfl
 have i0:∀ (Q:D->Sto->Prop) s,wp (itemD (upto S fun s=>.tup (upto n fun d=>.tup [.int (nx s d:Nat),.int (un s d:Nat)])) 0) Q s=Q (.tup (upto n fun d=>.tup [.int (nx 0 d:Nat),.int (un 0 d:Nat)])) s:=fun Q s=>Qi0 (by ac_nf)
 apply QiG
 (simp_arith [jk];simp_arith [jG,et,QiR])
 rw[if_neg (by ac_nf)]
 refine Qi1 (fun i l s'=>s'=s/\∃ x1 x2,l=[some (.tup (upto S fun s=>.tup (upto n fun d=>.tup [.int (nx s d:Nat),.int (un s d:Nat)]))),x1,x2]) (fun _ _ _ _=>trivial) ⟨rfl,_,_,rfl⟩ (fun i l s' hi ⟨es,x1,x2,el⟩=>?_) (fun l s' ⟨es,x1,x2,el⟩=>?_)
 ·subst es el
  simp_arith [QiR,↓i0]
  rw[if_neg (by ac_nf),if_neg (by simp)]
  refine Qi1 (fun j l s''=>s''=s'/\∃ x2,l=[some (.tup (upto S fun s=>.tup (upto n fun d=>.tup [.int (nx s d:Nat),.int (un s d:Nat)]))),some (.tup (upto n fun d=>.tup [.int (nx i d:Nat),.int (un i d:Nat)])),x2]) (fun _ _ _ _=>trivial) ⟨rfl,_,rfl⟩ (fun j l s'' hj ⟨es,x2,el⟩=>?_) (fun l s'' ⟨es,x2,el⟩=>?_)
  ·subst es el
   obtain⟨b1,b2⟩:=hb i j hi hj
   have pw:∀ (Q:D->Sto->Prop) s,wp (powD (.int 10) (.int 9)) Q s=Q (.int 1000000000) s:=fun Q s=>wp_eq (by unfold powD chk;rfl)
   have w:∀ (Q:D->Sto->Prop) s,wp (ja [.tup [.int (nx i j:Nat),.int (un i j:Nat)],.int 1000000000]) Q s=Q (.bl true) s:=fun Q s=>Qlf (fun d hd=>by
    rcases List.mem_cons.mp hd with e | e
    ·exact⟨_,e,by ac_nf,by ac_nf⟩
    ·exact⟨_,List.mem_singleton.mp e,by ac_nf,by ac_nf⟩) (by show 2<=100;ac_nf)
   simp_arith [↓pw,↓w,QiR]
   rw[if_neg (by decide),if_neg (by ac_nf)]
   exact⟨_,rfl⟩
  ·subst es el
   simp_arith []
   exact⟨_,_,rfl⟩
 ·subst es el
  simp_arith []
theorem Qlh {hh : D} {bs gs : List D} {k d : Nat} {b : D} (ok : TabOk S n nx un) (hd : d < n) (hk : bs[k]? = some (.tup [tabD S n nx un, b])) (hb : bs.length <= 100) (hg : ∀ g ∈ gs, NumLt 7 g) (hl : gs.length = anN S un d) :
  wp (jd [.tup [.tup bs,hh],.tup [.str "do",.int k,.int d,.tup gs],.int 7]) Q s=Q (.bl true) s:=by
 obtain⟨a1,a2⟩:=Qk5 ok hd
 have hk':k < bs.length:=(List.getElem?_eq_some_iff.mp hk).1
 have ik:∀ (Q:D->Sto->Prop) s,wp (itemD bs (k:Int)) Q s=Q (.tup [tabD S n nx un,b]) s:=fun Q s=>QiI hk
 have w1:∀ (Q:D->Sto->Prop) s,wp (ja [.tup [.int (k:Nat)],.int (bs.length:Nat)]) Q s=Q (.bl true) s:=fun Q s=>Qlf (fun d hd=>⟨_,List.mem_singleton.mp hd,by ac_nf,by ac_nf⟩) (by show 1<=100;ac_nf)
 have w2:∀ (Q:D->Sto->Prop) s,wp (ja [.tup [.int (d:Nat)],.int (n:Nat)]) Q s=Q (.bl true) s:=fun Q s=>Qlf (fun d hd=>⟨_,List.mem_singleton.mp hd,by ac_nf,by ac_nf⟩) (by show 1<=100;ac_nf)
 have w3:∀ (Q:D->Sto->Prop) s,wp (ja [.tup gs,.int 7]) Q s=Q (.bl true) s:=fun Q s=>Qlf hg (by ac_nf)
 have l1:1<=lim:=QiB (by ac_nf)
 have l2:2<=lim:=QiB (by ac_nf)
 have n4:∀ (Q:D->Sto->Prop) s,wp (ninL (.int 4) [.int 2,.int 4]) Q s=Q (.bl false) s:=fun Q s=>by rw[Qi4];exact propext ⟨fun h=>h.2,fun h=>⟨⟨rfl,rfl⟩,h⟩⟩
 have s0:∀ (Q:D->Sto->Prop) s,wp (subsD (tabD S n nx un) (.int 0)) Q s=Q (.tup (upto n fun d=>.tup [.int (nx 0 d:Nat),.int (un 0 d:Nat)])) s:=fun Q s=>by unfold tabD;rw[x_subsT,Qi0 (by have:=ok.1;ac_nf)]
 have i3:∀ (a b c e:D) (Q:D->Sto->Prop) s,wp (itemD [a,b,c,e] 3) Q s=Q e s:=fun a b c e Q s=>QiI (i:=3) rfl
 have i2:∀ (a b c e:D) (Q:D->Sto->Prop) s,wp (itemD [a,b,c,e] 2) Q s=Q c s:=fun a b c e Q s=>QiI (i:=2) rfl
 have m:=fun (Q:D->Sto->Prop) s=>Qk3 (Q:=Q) (s:=s) (l:=[some (.tup [.tup bs,hh]),some (.tup [.str "do",.int k,.int d,.tup gs]),some (.int 7),some (tabD S n nx un)]) (c:=cVar 3) (caps:=[1]) (e:=c2 subsD (c2 subsD (cVar 0) (c2 subsD (cVar 1) (cCon (.int 2)))) (cCon (.int 1))) ok hd (fun Q s=>by rw[x_var];rfl) (fun i hi Q s=>by
  simp_arith [List.map_cons,List.map_nil]
  simp_arith [↓QiZ hd,↓i2])
 apply QiG
 (simp_arith [jd];simp_arith [jB,l1,l2])
 have nn:∀ (Q:D->Sto->Prop) s,wp (ninD (.int ((4:Nat):Int)) (.tup [.int 2,.int 4])) Q s=Q (.bl false) s:=fun Q s=>n4 Q s
 simp_arith [↓nn,l1,l2]
 rw[if_neg (by decide),if_neg (by decide)]
 simp_arith [↓w1,↓ik,↓i2,↓i3,↓s0,↓w2,↓w3,QiR,↓m,l1,l2]
 rw[hl]
 unfold anN
 have:(1:Int) + (mx (fun s=>un s d) S:Nat)=((1 + mx (fun s=>un s d) S:Nat):Int):=by ac_nf
 rw[this]
 simp
theorem Qli {hh:D}{v:Int} (hv:v=0\/v=1):wp (jd [hh,.tup [.str "settle",.int v],.int 7]) Q s=Q (.bl true) s:=by
 have l2:2<=lim:=QiB (by ac_nf)
 have nn:∀ (Q:D->Sto->Prop) s,wp (ninD (.int ((2:Nat):Int)) (.tup [.int 2,.int 4])) Q s=Q (.bl false) s:=fun Q s=>by
  show wp (ninL (.int 2) [.int 2,.int 4]) Q s=_
  rw[Qi4];exact propext ⟨fun h=>h.2,fun h=>⟨⟨rfl,rfl⟩,h⟩⟩
 have w:∀ (Q:D->Sto->Prop) s,wp (jj [.int v]) Q s=Q (.bl true) s:=fun Q s=>Qle
 have i01:∀ (Q:D->Sto->Prop) s,wp (inL (.int v) [.int 0,.int 1]) Q s=Q (.bl true) s:=fun Q s=>Qi3 hv
 apply QiG
 (simp_arith [jd];simp_arith [jB,l2])
 simp_arith [↓nn,l2,↓w,↓i01,andB_t]
 rw[if_pos (by decide)]
 exact trivial
theorem Qlj {A a0 g:Nat} (hg:g < 7):∀ x∈(upto A fun t=>D.int ((if t=a0 then g else 4:Nat):Nat)),NumLt 7 x:=fun x hx=>by
 obtain⟨i,hi⟩:=List.getElem?_of_mem hx
 obtain⟨_,rfl⟩:=QiQ hi
 refine⟨_,rfl,by ac_nf,?_⟩
 split<;>ac_nf
theorem Qlk {a d own oth i : Nat} {hh : D} (ok : TabOk S n nx un) (hd : d < n) (ho : (own = 1 /\ oth = 2) \/ (own = 2 /\ oth = 1)) (hi : i < 7) :
  wp (jd [.tup [.tup [.tup [tabD S n nx un,.int a],.tup [pl2,.int 0],.tup [pl2,.int 0]],hh],lnD (anN S un d) (un a d) d own oth i,.int 7]) Q s=Q (.bl true) s:=by
 have b:∀ k,(k=1\/k=2)->([D.tup [tabD S n nx un,.int a],.tup [pl2,.int 0],.tup [pl2,.int 0]]:List D)[k]?=some (.tup [tabD 2 3 pnx pun,.int 0]):=fun k hk=>by
  rcases hk with e | e<;>subst e<;>rfl
 have bo:own=1\/own=2:=by ac_nf
 have bt:oth=1\/oth=2:=by ac_nf
 match i,hi with
 | 0,_=>exact Qlh (d:=1) (gs:=[.int 2]) Qld (by ac_nf) (b own bo) (by show 3<=100;ac_nf) (fun g hg=>⟨_,List.mem_singleton.mp hg,by ac_nf,by ac_nf⟩) rfl
 | 1,_=>exact Qlh (d:=2) (gs:=[.int 3]) Qld (by ac_nf) (b own bo) (by show 3<=100;ac_nf) (fun g hg=>⟨_,List.mem_singleton.mp hg,by ac_nf,by ac_nf⟩) rfl
 | 2,_=>exact Qlh (k:=0) (gs:=upto (anN S un d) _) ok hd rfl (by show 3<=100;ac_nf) (Qlj (by ac_nf)) (by rw[QiR])
 | 3,_=>exact Qlh (k:=0) (gs:=upto (anN S un d) _) ok hd rfl (by show 3<=100;ac_nf) (Qlj (by ac_nf)) (by rw[QiR])
 | 4, _ => exact Qlh (d := 0) (gs := [.int 5, .int 6]) Qld (by ac_nf) (b oth bt) (by show 3 <= 100; ac_nf) (fun g hg => by
   rcases List.mem_cons.mp hg with e | e
   ·exact⟨_,e,by ac_nf,by ac_nf⟩
   ·exact⟨_,List.mem_singleton.mp e,by ac_nf,by ac_nf⟩) rfl
 | 5,_=>exact Qli (.inl rfl)
 | 6,_=>exact Qli (.inr rfl)
theorem Qll {a d:Nat} (ok:TabOk S n nx un) (ha:a < S) (hd:d < n):wp (jl [hsD (tabD S n nx un) a (anN S un d) (un a d) d]) Q s=Q (.bl true) s:=by
 have l1:1<=lim:=QiB (by ac_nf)
 have l2:2<=lim:=QiB (by ac_nf)
 have n7:∀ (Q:D->Sto->Prop) s,wp (ja [.tup [.int 0,.int 1],.int (7:Nat)]) Q s=Q (.bl true) s:=fun Q s=>Qlf (fun d hd=>by
  rcases List.mem_cons.mp hd with e | e
  ·exact⟨_,e,by ac_nf,by ac_nf⟩
  ·exact⟨_,List.mem_singleton.mp e,by ac_nf,by ac_nf⟩) (by show 2<=100;ac_nf)
 have nn:∀ (Q:D->Sto->Prop) s,wp (ninD (.int ((2:Nat):Int)) (.tup [.int 2,.int 3])) Q s=Q (.bl false) s:=fun Q s=>by
  show wp (ninL (.int 2) [.int 2,.int 3]) Q s=_
  rw[Qi4];exact propext ⟨fun h=>h.2,fun h=>⟨⟨rfl,rfl⟩,h⟩⟩
 have hb:∀ own oth,((own=1/\oth=2)\/(own=2/\oth=1))->∀ (hh:D) (l:Loc) (Q:List D->Sto->Prop) s,wp (collect (gVar 0) tTrue (cCall jd (cCons (cVar 1) (cCons (cVar 0) (cCons (c1 lenD (c2 subsD (cVar 2) (cCon (.int 1)))) cNil)))) anySt (upto 7 (lnD (anN S un d) (un a d) d own oth)) [none,some (.tup [.tup [.tup [tabD S n nx un,.int a],.tup [pl2,.int 0],.tup [pl2,.int 0]],hh]),some (hdD (anN S un d) (un a d) d own oth)]) Q s=Q (upto 7 fun _=>.bl true) s:=fun own oth ho hh l Q s=>Qi2 trivial fun i hi Q=>by
  have w:∀ (Q:D->Sto->Prop) s,wp (jd [.tup [.tup [.tup [tabD S n nx un,.int a],.tup [pl2,.int 0],.tup [pl2,.int 0]],hh],lnD (anN S un d) (un a d) d own oth i,.int ((7:Nat):Int)]) Q s=Q (.bl true) s:=fun Q s=>Qlk ok hd ho hi
  unfold hdD
  simp_arith [QiR,↓w]
 unfold hsD
 apply QiG
 (simp_arith [jl];simp_arith [jE])
 rw[if_neg (by decide)]
 refine QiD (fun i l s'=>s'=s/\∃ x1,l=[some (.tup [.tup [.tup [tabD S n nx un,.int a],.tup [pl2,.int 0],.tup [pl2,.int 0]],.tup [hdD (anN S un d) (un a d) d 1 2,hdD (anN S un d) (un a d) d 2 1]]),x1,none]) (fun _ _ _ _=>trivial) ⟨rfl,_,rfl⟩ (fun i b l s' hbd ⟨es,x1,el⟩=>?_) (fun l s' ⟨es,x1,el⟩=>?_)
 ·subst es el
  obtain⟨S',n',nx',un',k,eb,ok',hk⟩:∃ S' n' nx' un' k,b=.tup [tabD S' n' nx' un',.int (k:Nat)]/\TabOk S' n' nx' un'/\k < S':=by
   have hm:=List.mem_of_getElem? hbd
   rcases List.mem_cons.mp hm with e | e
   ·exact⟨S,n,nx,un,a,e,ok,ha⟩
   rcases List.mem_cons.mp e with e | e
   ·exact⟨2,3,pnx,pun,0,e,Qld,by ac_nf⟩
   ·exact⟨2,3,pnx,pun,0,List.mem_singleton.mp e,Qld,by ac_nf⟩
  subst eb
  have t0:∀ (Q:D->Sto->Prop) s,wp (jk [tabD S' n' nx' un']) Q s=Q (.bl true) s:=fun Q s=>Qlg ok'
  have n0:∀ (Q:D->Sto->Prop) s,wp (ja [.tup [.int (k:Nat)],.int (S':Nat)]) Q s=Q (.bl true) s:=fun Q s=>Qlf (fun d hd=>⟨_,List.mem_singleton.mp hd,by ac_nf,by ac_nf⟩) (by show 1<=100;ac_nf)
  have lt:∀ (Q:D->Sto->Prop) s,wp (lenD (tabD S' n' nx' un')) Q s=Q (.int (S':Nat)) s:=fun Q s=>by unfold tabD;rw[x_lenT,QiR]
  simp_arith [↓t0,↓n0,↓lt,l1]
  rw[if_neg (by decide)]
  exact⟨_,rfl⟩
 ·subst es el
  simp_arith [l2]
  simp_arith [↓nn]
  refine QiD (fun i l s2=>s2=s'/\∃ x1 x2,l=[some (.tup [.tup [.tup [tabD S n nx un,.int a],.tup [pl2,.int 0],.tup [pl2,.int 0]],.tup [hdD (anN S un d) (un a d) d 1 2,hdD (anN S un d) (un a d) d 2 1]]),x1,x2]) (fun _ _ _ _=>trivial) ⟨rfl,_,_,rfl⟩ (fun i b l s2 hbd ⟨es,x1,x2,el⟩=>?_) (fun l s2 ⟨es,x1,x2,el⟩=>?_)
  ·subst es el
   obtain⟨own,oth,eb,ho⟩:∃ own oth,b=hdD (anN S un d) (un a d) d own oth/\((own=1/\oth=2)\/(own=2/\oth=1)):=by
    rcases List.mem_cons.mp (List.mem_of_getElem? hbd) with e | e
    ·exact⟨1,2,e,.inl ⟨rfl,rfl⟩⟩
    ·exact⟨2,1,List.mem_singleton.mp e,.inr ⟨rfl,rfl⟩⟩
   have hb':=hb own oth ho (.tup [hdD (anN S un d) (un a d) d 1 2,hdD (anN S un d) (un a d) d 2 1]) []
   subst eb
   have e0:∀ (Q:D->Sto->Prop) s,wp (subsD (hdD (anN S un d) (un a d) d own oth) (.int 0)) Q s=Q (.tup [.int 0,.int 1]) s:=fun Q s=>by unfold hdD;simp_arith []
   have e1:∀ (Q:D->Sto->Prop) s,wp (subsD (hdD (anN S un d) (un a d) d own oth) (.int 1)) Q s=Q (.tup (upto 7 (lnD (anN S un d) (un a d) d own oth))) s:=fun Q s=>by unfold hdD;simp_arith []
   have e2:∀ (Q:D->Sto->Prop) s,wp (isInst ["tuple"] (hdD (anN S un d) (un a d) d own oth)) Q s=Q (.bl true) s:=fun Q s=>wp_eq rfl
   have e3:∀ (Q:D->Sto->Prop) s,wp (lenD (hdD (anN S un d) (un a d) d own oth)) Q s=Q (.int ((2:Nat):Int)) s:=fun Q s=>wp_eq rfl
   have l7:7<=lim:=QiB (by ac_nf)
   simp_arith [↓e0,↓e1,↓e2,↓e3,QiR,↓n7,l7]
   rw[if_neg (by decide),if_neg (by decide)]
   rw[show ∀ x0 x1 x2:Option D,capt 1 [0,2] [x0,x1,x2]=[none,x0,x2] from fun _ _ _=>rfl,hb']
   simp_arith [↓Qi5]
   exact⟨_,_,rfl⟩
  ·subst es el
   simp_arith []
theorem Qlm:wp (jg [pl2]) Q s=Q (.bl true) s:=by
 have l2:2<=lim:=QiB (by ac_nf)
 have et:pl2=.tup (upto 2 fun s=>.tup (upto 3 fun d=>.tup [.int (pnx s d:Nat),.int (pun s d:Nat)])):=rfl
 have it:∀ i:Nat,i < 2->∀ (Q:D->Sto->Prop) s,wp (itemD (upto 2 fun s=>.tup (upto 3 fun d=>.tup [.int (pnx s d:Nat),.int (pun s d:Nat)])) (i:Int)) Q s=Q (.tup (upto 3 fun d=>.tup [.int (pnx i d:Nat),.int (pun i d:Nat)])) s:=fun i hi Q s=>QiZ hi
 have i0:∀ (Q:D->Sto->Prop) s,wp (itemD (upto 2 fun s=>.tup (upto 3 fun d=>.tup [.int (pnx s d:Nat),.int (pun s d:Nat)])) 0) Q s=Q (.tup (upto 3 fun d=>.tup [.int (pnx 0 d:Nat),.int (pun 0 d:Nat)])) s:=fun Q s=>Qi0 (by ac_nf)
 apply QiG
 (simp_arith [jg];simp_arith [jF,et,↓i0,QiR])
 refine⟨rngb (by decide) (by decide),?_⟩
 rw[Int.toNat_natCast,QiU]
 refine Qi1 (fun i l s'=>s'=s/\∃ x1 x2 x3,l=[some (.tup (upto 2 fun s=>.tup (upto 3 fun d=>.tup [.int (pnx s d:Nat),.int (pun s d:Nat)]))),x1,x2,x3]) (fun _ _ _ _=>trivial) ⟨rfl,_,_,_,rfl⟩ (fun d l s' hd ⟨es,x1,x2,x3,el⟩=>?_) (fun l s' ⟨es,x1,x2,x3,el⟩=>?_)
 ·subst es el
  have id:∀ (i:Nat) (Q:D->Sto->Prop) s,wp (itemD (upto 3 fun d=>.tup [.int (pnx i d:Nat),.int (pun i d:Nat)]) (d:Int)) Q s=Q (.tup [.int (pnx i d:Nat),.int (pun i d:Nat)]) s:=fun i Q s=>QiZ hd
  simp_arith [QiR]
  rw[show ∀ x0 x1 x2 x3:Option D,capt 1 [0,1] [x0,x1,x2,x3]=[none,x0,x1] from fun _ _ _ _=>rfl]
  refine⟨rngb (by decide) (by decide),l2,?_⟩
  rw[Int.toNat_natCast,QiU,Qi2 (f:=fun s=>.bl (bP (pnx s d=s))) trivial fun i hi Q=>?_]
  ·simp_arith [↓QiW,QiR]
   rw[show ∀ x0 x1 x2 x3:Option D,capt 1 [0,1] [x0,x1,x2,x3]=[none,x0,x1] from fun _ _ _ _=>rfl]
   refine⟨l2,?_⟩
   rw[Qi2 (f:=fun s=>.bl (bP (pnx s d=pnx 0 d/\pun s d=0))) trivial fun i hi Q=>?_]
   ·simp_arith [↓QiW]
    by_cases hz:∀ i,i < 2->pnx i d=i
    ·rw[QiK hz]
     simp_arith []
     exact⟨_,_,_,rfl⟩
    ·have hz2 : ∀ i, i < 2 -> pnx i d = pnx 0 d /\ pun i d = 0 := by
       match d,hd with
       | 0,_=>exact absurd (fun i _=>rfl) hz
       | 1,_=>exact fun i _=>⟨rfl,rfl⟩
       | 2,_=>exact fun i _=>⟨rfl,rfl⟩
     rw[QiK hz2]
     simp_arith []
     cases bP (∀ i,i < 2->pnx i d=i)
     ·simp_arith [];exact⟨_,_,_,rfl⟩
     ·simp_arith [];exact⟨_,_,_,rfl⟩
   ·have eq : ∀ (a b c : Nat) (Q : D -> Sto -> Prop) s, wp (eqD (.tup [.int (a : Nat), .int (b : Nat)]) (.tup [.int (c : Nat), .int 0])) Q s = Q (.bl (bP (a = c /\ b = 0))) s := fun a b c Q s => by
      have e:eqD (.tup [.int (a:Nat),.int (b:Nat)]) (.tup [.int (c:Nat),.int 0]) s=.ok (.bl (((a:Int) == c) && ((b:Int) == 0))) s:=by
       have e0:eqF 50 (.tup [.int (a:Nat),.int (b:Nat)]) (.tup [.int (c:Nat),.int 0])=allF (eqF 49) [.int (a:Nat),.int (b:Nat)] [.int (c:Nat),.int 0]:=rfl
       unfold eqD eqB bnd
       cases h1:((a:Int) == (c:Int))<;>cases h2:((b:Int) == 0)<;>simp[e0,allF,QiE,ret,h1,h2]
      rw[wp_eq e]
      congr 2
      apply Bool.eq_iff_iff.mpr
      rw[QiJ,Bool.and_eq_true,beq_iff_eq,beq_iff_eq]
      ac_nf
    simp_arith [↓id,↓i0,l2,↓eq]
  ·simp_arith [↓it i hi,↓id]
   congr 2
   apply Bool.eq_iff_iff.mpr
   rw[QiJ,beq_iff_eq]
   ac_nf
 ·subst es el
  simp_arith []
end
open PySem (Str)
structure Sp where
 l0:Nat
 l1:Nat
 b0:Nat
 b1:Nat
 b2:Nat
deriving DecidableEq
noncomputable def spD (x:Sp):D:=.tup [.tup [.int (x.l0:Nat),.int (x.l1:Nat)],.tup [.int (x.b0:Nat),.int (x.b1:Nat),.int (x.b2:Nat)]]
noncomputable def Sp.ln:Sp->Nat->Nat
 | x,0=>x.l0
 | x,_ + 1=>x.l1
noncomputable def Sp.go:Sp->Nat->Nat->Sp
 | x,0,l=>⟨l,x.l1,x.b0,x.b1,x.b2⟩
 | x,_ + 1,l=>⟨x.l0,l,x.b0,x.b1,x.b2⟩
noncomputable def vlO:Nat->Option Nat
 | 5=>some 0
 | 6=>some 1
 | _=>none
noncomputable def vlD:Option Nat->D
 | some v=>.int (v:Nat)
 | none=>.non
section
variable {s:Sto}{Q:D->Sto->Prop}{S n:Nat}{nx un:Nat->Nat->Nat}
theorem Qln {a : CE} {lo hi : CO} {l : Loc} : wp (cSliceW a lo hi l) Q s = wp (a l) (fun x s1 => wp (lo l) (fun i s2 => wp (hi l) (fun j s3 => match x with
  | .tup ds=>Q (.tup (cutD ds i j)) s3
  | _=>False) s2) s1) s:=by
 unfold cSliceW
 rw[Qiq]
 refine wp_cg fun x s1=>?_
 rw[Qiq]
 refine wp_cg fun i s2=>?_
 rw[Qiq]
 refine wp_cg fun j s3=>?_
 cases x<;>first | exact wp_no rfl | exact wp_eq rfl
theorem ct1 {x y:D}:cutD [x,y] none (some 0)=[]:=rfl
theorem ct2 {x y:D}:cutD [x,y] none (some 1)=[x]:=rfl
theorem ct3 {x y:D}:cutD [x,y] (some (0 + 1)) none=[y]:=rfl
theorem ct4 {x y:D}:cutD [x,y] (some (1 + 1)) none=[]:=rfl
theorem cu1 {x y z:D}:cutD [x,y,z] none (some 0)=[]:=rfl
theorem cu2 {x y z:D}:cutD [x,y,z] none (some 1)=[x]:=rfl
theorem cu3 {x y z:D}:cutD [x,y,z] none (some 2)=[x,y]:=rfl
theorem cu4 {x y z:D}:cutD [x,y,z] (some (0 + 1)) none=[y,z]:=rfl
theorem cu5 {x y z:D}:cutD [x,y,z] (some (1 + 1)) none=[z]:=rfl
theorem cu6 {x y z:D}:cutD [x,y,z] (some (2 + 1)) none=[]:=rfl
noncomputable def Sp.put:Sp->Nat->Nat->Sp
 | x,0,v=>⟨x.l0,x.l1,v,x.b1,x.b2⟩
 | x,1,v=>⟨x.l0,x.l1,x.b0,v,x.b2⟩
 | x,_ + 2,v=>⟨x.l0,x.l1,x.b0,x.b1,v⟩
noncomputable def Sp.at_:Sp->Nat->Nat
 | x,0=>x.b0
 | x,1=>x.b1
 | x,_ + 2=>x.b2
theorem z0:((0:Nat):Int)=0:=rfl
theorem z1:((1:Nat):Int)=1:=rfl
theorem z2:((2:Nat):Int)=2:=rfl
theorem Qlo {x : Sp} {k B dd g : Nat} {T : Nat -> D} {c0 c1 c2' bg0 bg1 : D} {ls : Nat -> Nat -> D} {gs : List D} {S' n' : Nat} {nx' un' : Nat -> Nat -> Nat} (hk : k = 0 \/ k = 1) (hB : B = 0 \/ B = 1 \/ B = 2) (hl : x.ln k < 7)
  (he:ls k (x.ln k)=.tup [.str "do",.int (B:Nat),.int (dd:Nat),.tup gs]) (hT:T B=tabD S' n' nx' un') (hs:x.at_ B < S') (hd:dd < n') (hg:gs[un' (x.at_ B) dd]?=some (.int (g:Nat))):
  wp (je [.tup [.tup [.tup [T 0,c0],.tup [T 1,c1],.tup [T 2,c2']],.tup [.tup [bg0,.tup (upto 7 (ls 0))],.tup [bg1,.tup (upto 7 (ls 1))]]],spD x,.int (k:Nat)]) Q s=Q (spD ((x.go k g).put B (nx' (x.at_ B) dd))) s:=by
 have l1:1<=lim:=QiB (by ac_nf)
 have l2:2<=lim:=QiB (by ac_nf)
 have sd:(Str.ofString "do" == Str.ofString "settle")=false:=by decide
 have ig:∀ (Q:D->Sto->Prop) s,wp (itemD gs ((un' (x.at_ B) dd:Nat):Int)) Q s=Q (.int (g:Nat)) s:=fun Q s=>QiI hg
 have iT:∀ (Q:D->Sto->Prop) s,wp (subsD (tabD S' n' nx' un') (.int (x.at_ B:Nat))) Q s=Q (.tup (upto n' fun d=>.tup [.int (nx' (x.at_ B) d:Nat),.int (un' (x.at_ B) d:Nat)])) s:=fun Q s=>by unfold tabD;rw[x_subsT,QiZ hs]
 have il:∀ (Q:D->Sto->Prop) s,wp (itemD (upto 7 (ls k)) ((x.ln k:Nat):Int)) Q s=Q (.tup [.str "do",.int (B:Nat),.int (dd:Nat),.tup gs]) s:=fun Q s=>by rw[QiZ hl,he]
 have id:∀ (Q:D->Sto->Prop) s,wp (itemD (upto n' fun d=>.tup [.int (nx' (x.at_ B) d:Nat),.int (un' (x.at_ B) d:Nat)]) (dd:Int)) Q s=Q (.tup [.int (nx' (x.at_ B) dd:Nat),.int (un' (x.at_ B) dd:Nat)]) s:=fun Q s=>QiZ hd
 have l3:3<=lim:=QiB (by ac_nf)
 obtain⟨x0,x1,y0,y1,y2⟩:=x
 rcases hk with rfl | rfl<;>rcases hB with rfl | rfl | rfl<;>(
  simp only[Sp.ln,Sp.at_,Sp.go,Sp.put,z0,z1,z2]at ig iT il id hT ⊢
  apply QiG
  unfold spD
  (simp_arith [je];simp_arith [jH,↓il,hT,↓iT,↓id,↓ig,↓Qln,ct1,ct2,ct3,ct4,cu1,cu2,cu3,cu4,cu5,cu6,sd,l1,l2,l3]))
theorem Qlp {x : Sp} {k : Nat} {bs bg0 bg1 v : D} {ls : Nat -> Nat -> D} (hk : k = 0 \/ k = 1) (hl : x.ln k < 7) (he : ls k (x.ln k) = .tup [.str "settle", v]) :
  wp (je [.tup [bs,.tup [.tup [bg0,.tup (upto 7 (ls 0))],.tup [bg1,.tup (upto 7 (ls 1))]]],spD x,.int (k:Nat)]) Q s=Q (spD x) s:=by
 have il:∀ (Q:D->Sto->Prop) s,wp (itemD (upto 7 (ls k)) ((x.ln k:Nat):Int)) Q s=Q (.tup [.str "settle",v]) s:=fun Q s=>by rw[QiZ hl,he]
 obtain⟨x0,x1,y0,y1,y2⟩:=x
 rcases hk with rfl | rfl<;>(
  simp only[Sp.ln,z0,z1]at il ⊢
  apply QiG
  unfold spD
  (simp_arith [je];simp_arith [jH,↓il])
  first | done | exact if_pos rfl | (rw[if_pos rfl];exact⟨rfl,rfl⟩) | rfl)
noncomputable def tnA (nx un:Nat->Nat->Nat) (a0 d:Nat) (x:Sp) (k:Nat):Sp:=match x.ln k with
 | 0=>(x.go k 2).put (k + 1) 0
 | 1=>(x.go k 3).put (k + 1) 1
 | 2=>(x.go k (if un x.b0 d=a0 then 5 else 4)).put 0 (nx x.b0 d)
 | 3=>(x.go k (if un x.b0 d=a0 then 6 else 4)).put 0 (nx x.b0 d)
 | 4=>(x.go k (5 + x.at_ (2 - k))).put (2 - k) (x.at_ (2 - k))
 | _=>x
structure SpOk (S:Nat) (x:Sp):Prop where
 h0:x.l0 < 7
 h1:x.l1 < 7
 g0:x.b0 < S
 g1:x.b1 < 2
 g2:x.b2 < 2
theorem Qlq {t:D}{a A a0 d:Nat}:hsD t a A a0 d=.tup [.tup [.tup [t,.int a],.tup [pl2,.int 0],.tup [pl2,.int 0]],.tup [.tup [.tup [.int 0,.int 1],.tup (upto 7 (lnD A a0 d 1 2))],.tup [.tup [.int 0,.int 1],.tup (upto 7 (lnD A a0 d 2 1))]]]:=rfl
noncomputable def lsF (A a0 d:Nat):Nat->Nat->D
 | 0=>lnD A a0 d 1 2
 | _ + 1=>lnD A a0 d 2 1
noncomputable def tbF (t:D):Nat->D
 | 0=>t
 | _ + 1=>pl2
theorem Qlr {x : Sp} {k a d : Nat} (ok : TabOk S n nx un) (ha : a < S) (hd : d < n) (hx : SpOk S x) (hk : k = 0 \/ k = 1) :
  wp (je [hsD (tabD S n nx un) a (anN S un d) (un a d) d,spD x,.int (k:Nat)]) Q s=Q (spD (tnA nx un (un a d) d x k)) s:=by
 have hl:x.ln k < 7:=by rcases hk with rfl | rfl;exact hx.h0;exact hx.h1
 have key:=fun {B dd g:Nat}{gs:List D}{S' n':Nat}{nx' un':Nat->Nat->Nat}=>Qlo (Q:=Q) (s:=s) (x:=x) (k:=k) (B:=B) (dd:=dd) (g:=g) (T:=tbF (tabD S n nx un)) (c0:=.int a) (c1:=.int 0) (c2':=.int 0) (bg0:=.tup [.int 0,.int 1]) (bg1:=.tup [.int 0,.int 1]) (ls:=lsF (anN S un d) (un a d) d) (gs:=gs) (S':=S') (n':=n') (nx':=nx') (un':=un') hk
 have own:∀ L,lsF (anN S un d) (un a d) d k L=lnD (anN S un d) (un a d) d (k + 1) (2 - k) L:=fun L=>by rcases hk with rfl | rfl<;>rfl
 have hB:k + 1=0\/k + 1=1\/k + 1=2:=by ac_nf
 have hO:2 - k=0\/2 - k=1\/2 - k=2:=by ac_nf
 have tB:tbF (tabD S n nx un) (k + 1)=tabD 2 3 pnx pun:=rfl
 have tO:tbF (tabD S n nx un) (2 - k)=tabD 2 3 pnx pun:=by rcases hk with rfl | rfl<;>rfl
 have sB:x.at_ (k + 1) < 2:=by rcases hk with rfl | rfl;exact hx.g1;exact hx.g2
 have sO:x.at_ (2 - k) < 2:=by rcases hk with rfl | rfl;exact hx.g2;exact hx.g1
 have gat:∀ g:Nat,(upto (anN S un d) fun t=>D.int ((if t=un a d then g else 4:Nat):Nat))[un x.b0 d]?=some (.int ((if un x.b0 d=un a d then g else 4:Nat):Nat)):=fun g=>QiP (Qk6 hx.g0)
 unfold tnA
 rw[Qlq]
 match hL:x.ln k,hl with
 | 0,_=>exact key hB hl (by rw[hL,own];rfl) tB sB (dd:=1) (by ac_nf) (gs:=[.int 2]) (g:=2) rfl
 | 1,_=>exact key hB hl (by rw[hL,own];rfl) tB sB (dd:=2) (by ac_nf) (gs:=[.int 3]) (g:=3) rfl
 | 2,_=>exact key (B:=0) (.inl rfl) hl (by rw[hL,own];rfl) rfl hx.g0 hd (gat 5)
 | 3,_=>exact key (B:=0) (.inl rfl) hl (by rw[hL,own];rfl) rfl hx.g0 hd (gat 6)
 | 4,_=>
  have e:([D.int 5,.int 6]:List D)[pun (x.at_ (2 - k)) 0]?=some (.int ((5 + x.at_ (2 - k):Nat):Nat)):=by
   show ([D.int 5,.int 6]:List D)[x.at_ (2 - k)]?=_
   match x.at_ (2 - k),sO with
   | 0,_=>rfl
   | 1,_=>rfl
  exact key hO hl (by rw[hL,own];rfl) tO sO (dd:=0) (by ac_nf) e
 | 5,_=>exact Qlp (ls:=lsF (anN S un d) (un a d) d) hk hl (by rw[hL,own];rfl) (v:=.int 0)
 | 6,_=>exact Qlp (ls:=lsF (anN S un d) (un a d) d) hk hl (by rw[hL,own];rfl) (v:=.int 1)
theorem Qls {x:Sp}{k a d:Nat} (hx:SpOk S x) (hk:k=0\/k=1) {t:D}{A a0:Nat}:wp (jh [hsD t a A a0 d,spD x,.int (k:Nat)]) Q s=Q (vlD (vlO (x.ln k))) s:=by
 have l2:2<=lim:=QiB (by ac_nf)
 obtain⟨x0,x1,y0,y1,y2⟩:=x
 have go:∀ own oth L,L < 7->∃ w e,(∀ (Q:D->Sto->Prop) s,wp (subsD (lnD A a0 d own oth L) (.int 1)) Q s=Q w s)/\(∀ (Q:D->Sto->Prop) s,wp (subsD (lnD A a0 d own oth L) (.int 0)) Q s=Q (.str e) s)/\(e=Str.ofString "settle"/\w=vlD (vlO L)\/¬ e=Str.ofString "settle"/\vlO L=none):=fun own oth L hL=>by
  match L,hL with
  | 0,_=>exact⟨.int own,"do",fun Q s=>by simp_arith [lnD],fun Q s=>by simp_arith [lnD],.inr ⟨by decide,rfl⟩⟩
  | 1,_=>exact⟨.int own,"do",fun Q s=>by simp_arith [lnD],fun Q s=>by simp_arith [lnD],.inr ⟨by decide,rfl⟩⟩
  | 2,_=>exact⟨.int 0,"do",fun Q s=>by simp_arith [lnD],fun Q s=>by simp_arith [lnD],.inr ⟨by decide,rfl⟩⟩
  | 3,_=>exact⟨.int 0,"do",fun Q s=>by simp_arith [lnD],fun Q s=>by simp_arith [lnD],.inr ⟨by decide,rfl⟩⟩
  | 4,_=>exact⟨.int oth,"do",fun Q s=>by simp_arith [lnD],fun Q s=>by simp_arith [lnD],.inr ⟨by decide,rfl⟩⟩
  | 5,_=>exact⟨.int 0,"settle",fun Q s=>by simp_arith [lnD],fun Q s=>by simp_arith [lnD],.inl ⟨rfl,rfl⟩⟩
  | 6,_=>exact⟨.int 1,"settle",fun Q s=>by simp_arith [lnD],fun Q s=>by simp_arith [lnD],.inl ⟨rfl,rfl⟩⟩
 rw[Qlq]
 rcases hk with rfl | rfl
 ·obtain⟨w,e,h1,h2,h3⟩:=go 1 2 x0 hx.h0
  have il:∀ (Q:D->Sto->Prop) s,wp (itemD (upto 7 (lnD A a0 d 1 2)) (x0:Int)) Q s=Q (lnD A a0 d 1 2 x0) s:=fun Q s=>QiZ hx.h0
  apply QiG
  unfold spD
  (simp_arith [jh];simp_arith [jD,z0,↓il,↓h1,↓h2,l2,Sp.ln])
  rcases h3 with ⟨e1,e2⟩ | ⟨e1,e2⟩
  ·rw[if_pos e1]
   simp_arith []
   exact e2
  ·rw[if_neg e1,e2]
   simp_arith []
   rfl
 ·obtain⟨w,e,h1,h2,h3⟩:=go 2 1 x1 hx.h1
  have il:∀ (Q:D->Sto->Prop) s,wp (itemD (upto 7 (lnD A a0 d 2 1)) (x1:Int)) Q s=Q (lnD A a0 d 2 1 x1) s:=fun Q s=>QiZ hx.h1
  apply QiG
  unfold spD
  (simp_arith [jh];simp_arith [jD,z1,↓il,↓h1,↓h2,l2,Sp.ln])
  rcases h3 with ⟨e1,e2⟩ | ⟨e1,e2⟩
  ·rw[if_pos e1]
   simp_arith []
   exact e2
  ·rw[if_neg e1,e2]
   simp_arith []
   rfl
theorem Qlt {i0 i1 a d A a0:Nat}{t:D} (h0:i0 < 2) (h1:i1 < 2):wp (jq [hsD t a A a0 d,.tup [.int (i0:Nat),.int (i1:Nat)]]) Q s=Q (spD ⟨i0,i1,a,0,0⟩) s:=by
 have l2:2<=lim:=QiB (by ac_nf)
 have l3:3<=lim:=QiB (by ac_nf)
 have ib:∀ i,i < 2->∀ (Q:D->Sto->Prop) s,wp (itemD [.int 0,.int 1] (i:Nat)) Q s=Q (.int (i:Nat)) s:=fun i hi Q s=>by
  match i,hi with
  | 0,_=>exact QiI (i:=0) rfl
  | 1,_=>exact QiI (i:=1) rfl
 rw[Qlq]
 apply QiG
 (simp_arith [jq];simp_arith [jW])
 rw[show ∀ x0 x1 x2:Option D,capt 1 [0,1] [x0,x1,x2]=[none,x0,x1] from fun _ _ _=>rfl]
 refine⟨rngb (by decide) (by decide),l2,?_⟩
 rw[Int.toNat_natCast,QiU,Qi2 (f:=fun k=>.int ((if k=0 then i0 else i1:Nat):Nat)) trivial fun k hk Q=>?_]
 ·simp_arith [c1_n,l3,l2]
  have eu:[D.tup [t,.int a],.tup [pl2,.int 0],.tup [pl2,.int 0]]=upto 3 fun i=>.tup [if i=0 then t else pl2,.int ((if i=0 then a else 0:Nat):Nat)]:=rfl
  rw[eu,Qi2 (f:=fun i=>.int ((if i=0 then a else 0:Nat):Nat)) trivial fun i hi Q=>by simp_arith []]
  simp_arith [l2]
  rfl
 ·have:k=0\/k=1:=by ac_nf
  rcases this with rfl | rfl
  ·simp_arith [z0,↓ib i0 h0,if_true]
  ·simp_arith [z1,↓ib i1 h1]
   rfl
end
open PySem (Str)
noncomputable def allU (i0 i1 a s1 s2:Nat):List Sp:=[⟨i0,i1,a,0,0⟩,⟨2 + i0,i1,a,i0,0⟩,⟨i0,2 + i1,a,0,i1⟩,⟨2 + i0,2 + i1,a,i0,i1⟩,⟨5 + i0,i1,s1,i0,0⟩,⟨5 + i0,2 + i1,s1,i0,i1⟩,⟨i0,5 + i1,s1,0,i1⟩,⟨2 + i0,5 + i1,s1,i0,i1⟩,
 ⟨5 + i0,4,s2,i0,i1⟩,⟨4,5 + i1,s2,i0,i1⟩,⟨5 + i0,5 + i0,s2,i0,i1⟩,⟨5 + i1,5 + i1,s2,i0,i1⟩]
noncomputable def wtL:Nat->Nat
 | 0=>3
 | 1=>3
 | 2=>2
 | 3=>2
 | 4=>1
 | _=>0
noncomputable def muS (x:Sp):Nat:=wtL x.l0 + wtL x.l1
theorem two_of {i:Nat} (h:i < 2):i=0\/i=1:=by ac_nf
section
variable {S n:Nat}{nx un:Nat->Nat->Nat}{a d i0 i1:Nat}{x:Sp}
theorem Qlu (ok:TabOk S n nx un) (ha:a < S) (hd:d < n) (h0:i0 < 2) (h1:i1 < 2) (hx:x∈allU i0 i1 a (nx a d) (nx (nx a d) d)):SpOk S x:=by
 have g1:=(ok.2.2.2.2 a d ha hd).1
 have g2:=(ok.2.2.2.2 _ d g1 hd).1
 simp only[allU,List.mem_cons,List.not_mem_nil,or_false]at hx
 rcases hx with e | e | e | e | e | e | e | e | e | e | e | e<;>subst e<;>exact⟨by dsimp only;ac_nf,by dsimp only;ac_nf,by dsimp only;ac_nf,by dsimp only;ac_nf,by dsimp only;ac_nf⟩
theorem atI {L:List Sp}{x y:Sp} (j:Nat) (h:L[j]?=some y) (h2:Nat.ble (muS y + 1) (muS x)=true):y∈L/\muS y < muS x:=⟨List.mem_of_getElem? h,Nat.le_of_ble_eq_true h2⟩
theorem Qlv {k : Nat} (hne : ¬ un (nx a d) d = un a d) (h0 : i0 < 2) (h1 : i1 < 2) (hk : k = 0 \/ k = 1) (hx : x ∈ allU i0 i1 a (nx a d) (nx (nx a d) d)) (hv : vlO (x.ln k) = none) :
  tnA nx un (un a d) d x k∈allU i0 i1 a (nx a d) (nx (nx a d) d)/\muS (tnA nx un (un a d) d x k) < muS x:=by
 simp only[allU,List.mem_cons,List.not_mem_nil,or_false]at hx
 rcases two_of h0 with rfl | rfl<;>rcases two_of h1 with rfl | rfl<;>rcases hk with rfl | rfl<;>
  rcases hx with e | e | e | e | e | e | e | e | e | e | e | e<;>subst e<;>
  first
  | exact absurd hv (Option.some_ne_none 0)
  | exact absurd hv (Option.some_ne_none 1)
  | (first | (simp only [tnA, Sp.ln, if_pos, if_neg hne]; done) | simp only [tnA, Sp.ln, if_pos, if_neg hne] | skip
     first | exact atI 0 rfl rfl | exact atI 1 rfl rfl | exact atI 2 rfl rfl | exact atI 3 rfl rfl | exact atI 4 rfl rfl | exact atI 5 rfl rfl | exact atI 6 rfl rfl | exact atI 7 rfl rfl | exact atI 8 rfl rfl | exact atI 9 rfl rfl | exact atI 10 rfl rfl | exact atI 11 rfl rfl)
theorem Qlw (h0:i0 < 2) (h1:i1 < 2) (hx:x∈allU i0 i1 a (nx a d) (nx (nx a d) d)):∃ v,(v=i0\/v=i1)/\(vlO x.l0=none\/vlO x.l0=some v)/\(vlO x.l1=none\/vlO x.l1=some v):=by
 simp only[allU,List.mem_cons,List.not_mem_nil,or_false]at hx
 rcases two_of h0 with rfl | rfl<;>rcases two_of h1 with rfl | rfl<;>
  rcases hx with e | e | e | e | e | e | e | e | e | e | e | e<;>subst e<;>
  first
  | exact⟨0,by decide,by dsimp only;decide,by dsimp only;decide⟩
  | exact⟨1,by decide,by dsimp only;decide,by dsimp only;decide⟩
end
theorem Qlx (x y:Sp):eqK (spD x) (spD y)=decide (x=y):=by
 have e:eqK (spD x) (spD y)=(decide ([x.l0,x.l1]=[y.l0,y.l1]) && decide ([x.b0,x.b1,x.b2]=[y.b0,y.b1,y.b2])):=Qjw [x.l0,x.l1] [x.b0,x.b1,x.b2] [y.l0,y.l1] [y.b0,y.b1,y.b2]
 rw[e,<- Bool.decide_and,decide_eq_decide]
 obtain⟨a,b,c,d,f⟩:=x
 obtain⟨a',b',c',d',f'⟩:=y
 simp
 constructor
 ·rintro ⟨⟨rfl,rfl⟩,rfl,rfl,rfl⟩;simp
 ·rintro ⟨rfl,rfl,rfl,rfl,rfl⟩;simp
theorem Qly (x:Sp):kOk true (spD x)=true:=Qjv [x.l0,x.l1] [x.b0,x.b1,x.b2]
theorem Qlz {x y:Sp} (h:spD x=spD y):x=y:=by
 have:=Qlx x y
 rw[<- h,Qlx,decide_eq_true rfl]at this
 exact of_decide_eq_true this.symm
noncomputable def mkD (R:List Sp) (f:Sp->D):List (D × D):=R.map fun x=>(spD x,f x)
noncomputable def upF (f:Sp->D) (x:Sp) (v:D):Sp->D:=fun y=>if y=x then v else f y
theorem QlA {R:List Sp}{f:Sp->D}{x:Sp}:lkK (mkD R f) (spD x)=if x∈R then some (f x) else none:=by
 unfold lkK mkD
 induction R with
 | nil=>rfl
 | cons y R ih=>
  rw[List.map_cons,List.find?_cons]
  dsimp only
  rw[Qlx]
  by_cases e:y=x
  ·subst e
   rw[decide_eq_true rfl,if_pos List.mem_cons_self]
   rfl
  ·rw[decide_eq_false e]
   dsimp only
   rw[ih]
   by_cases hm:x∈R
   ·rw[if_pos hm,if_pos (List.mem_cons_of_mem _ hm)]
   ·rw[if_neg hm,if_neg fun h=>hm ((List.mem_cons.mp h).resolve_left (Ne.symm e))]
theorem QlB {R:List Sp}{f:Sp->D}{x:Sp}{v:D}:ptK (mkD R f) (spD x) v=mkD (if x∈R then R else R++[x]) (upF f x v):=by
 have ha:((mkD R f).any fun p=>eqK p.1 (spD x))=decide (x∈R):=by
  unfold mkD
  rw[List.any_map]
  apply Bool.eq_iff_iff.mpr
  rw[List.any_eq_true,decide_eq_true_iff]
  constructor
  ·rintro ⟨y,hy,e⟩
   have e:decide (y=x)=true:=by rw[<- Qlx];exact e
   rw[<- of_decide_eq_true e];exact hy
  ·intro h
   exact⟨x,h,by show eqK (spD x) (spD x)=true;rw[Qlx,decide_eq_true rfl]⟩
 unfold ptK
 rw[ha]
 by_cases h:x∈R
 ·rw[if_pos (decide_eq_true h),if_pos h]
  unfold mkD
  rw[List.map_map]
  apply List.map_congr_left
  intro y hy
  show (if eqK (spD y) (spD x)=true then (spD y,v) else (spD y,f y))=_
  rw[Qlx]
  unfold upF
  by_cases e:y=x
  ·rw[if_pos (decide_eq_true e),if_pos e]
  ·rw[if_neg (by rw[decide_eq_false e];simp),if_neg e]
 ·rw[if_neg (by rw[decide_eq_false h];simp),if_neg h]
  unfold mkD
  rw[List.map_append]
  congr 1
  ·apply List.map_congr_left
   intro y hy
   unfold upF
   rw[if_neg (fun e:y=x=>h (by rw[<- e];exact hy))]
  ·show [(spD x,v)]=[(spD x,upF f x v x)]
   unfold upF
   rw[if_pos rfl]
theorem QlC {R:List Sp}{f:Sp->D}:(mkD R f).map (·.1)=R.map spD:=by unfold mkD;rw[List.map_map];rfl
theorem QlD {R:List Sp}{f:Sp->D}:(mkD R f).length=R.length:=by unfold mkD;rw[List.length_map]
theorem QlE:∀ {R U:List Sp},R.Nodup->(∀ x∈R,x∈U)->R.length<=U.length
 | [],_,_,_=>Nat.zero_le _
 | x::R,U,hn,h=>by
  have h1:=List.nodup_cons.mp hn
  have hx:=h x List.mem_cons_self
  have:=QlE (R:=R) (U:=U.erase x) h1.2 fun y hy=>(List.mem_erase_of_ne (fun e:y=x=>h1.1 (by rw[<- e];exact hy))).mpr (h y (List.mem_cons_of_mem _ hy))
  rw[List.length_erase_of_mem hx]at this
  have:=List.length_pos_of_mem hx
  rw[List.length_cons]
  ac_nf
noncomputable def scA (tn:Sp->Nat->Sp) (x:Sp):List Sp:=([0,1].filter fun k=>(vlO (x.ln k)).isNone).map (tn x)
theorem QlF {tn:Sp->Nat->Sp}{x y:Sp} (h:y∈scA tn x):∃ k,(k=0\/k=1)/\vlO (x.ln k)=none/\y=tn x k:=by
 obtain⟨k,hk,rfl⟩:=List.mem_map.mp h
 obtain⟨h1,h2⟩:=List.mem_filter.mp hk
 refine⟨k,by simpa using h1,?_,rfl⟩
 cases hv:vlO (x.ln k) with
 | none=>rfl
 | some v=>rw[hv]at h2;cases h2
open PySem (Str)
structure Wld (hs:D) (i0 i1:Nat) (U:List Sp) (tn:Sp->Nat->Sp) (x0:Sp):Prop where
 st:∀ (Q:D->Sto->Prop) s,wp (jq [hs,.tup [.int (i0:Nat),.int (i1:Nat)]]) Q s=Q (spD x0) s
 vl:∀ x∈U,∀ k:Nat,(k=0\/k=1)->∀ (Q:D->Sto->Prop) s,wp (jh [hs,spD x,.int (k:Nat)]) Q s=Q (vlD (vlO (x.ln k))) s
 tu:∀ x∈U,∀ k:Nat,(k=0\/k=1)->∀ (Q:D->Sto->Prop) s,wp (je [hs,spD x,.int (k:Nat)]) Q s=Q (spD (tn x k)) s
 in0:x0∈U
 cl:∀ x∈U,∀ k:Nat,(k=0\/k=1)->vlO (x.ln k)=none->tn x k∈U
 go:∀ x∈U,∃ v,(v=i0\/v=i1)/\(vlO x.l0=none\/vlO x.l0=some v)/\(vlO x.l1=none\/vlO x.l1=some v)
 le:U.length<=20
 h0:i0 < 2
 h1:i1 < 2
section
variable {s:Sto}{Q:D->Sto->Prop}{hs:D}{i0 i1:Nat}{U:List Sp}{tn:Sp->Nat->Sp}{x0:Sp}
noncomputable def notNon:D->Bool
 | .non=>false
 | _=>true
theorem QlG {d:D}{Q:D->Sto->Prop}{s:Sto}:wp (isntD d .non) Q s=Q (.bl (notNon d)) s:=by
 cases d<;>exact wp_eq rfl
theorem QlH {d:D}{Q:D->Sto->Prop}{s:Sto}:wp (isD d .non) Q s=Q (.bl (!notNon d)) s:=by
 cases d<;>exact wp_eq rfl
noncomputable def kOf:D->Nat
 | .int i=>i.toNat
 | _=>0
noncomputable def vsD (x:Sp):List D:=[vlD (vlO x.l0),vlD (vlO x.l1)]
theorem QlI (W:Wld hs i0 i1 U tn x0) {x:Sp} (hx:x∈U) {Q:List D->Sto->Prop}:wp (collect (gVar 0) tTrue (cCall jh (cCons (cVar 1) (cCons (cVar 2) (cCons (cVar 0) cNil)))) anySt (rngD 0 2) [none,some hs,some (spD x)]) Q s=Q (vsD x) s:=by
 have e:rngD 0 2=upto 2 fun i=>.int (i:Nat):=QiU
 rw[e,Qi2 (f:=fun k=>vlD (vlO (x.ln k))) trivial fun k hk Q=>?_]
 ·rfl
 ·have w:∀ (Q:D->Sto->Prop) s,wp (jh [hs,spD x,.int (k:Nat)]) Q s=Q (vlD (vlO (x.ln k))) s:=W.vl x hx k (by ac_nf)
  simp_arith [↓w]
theorem QlJ {x:Sp}{r:Nat} (hr:s[r]?=some (.lst (vsD x))) {Q:List D->Sto->Prop}:wp (collect (gVar 0) (tCmpB (c2 isntD (cVar 0) (cCon .non))) (cVar 0) (sameL r (vsD x)) (vsD x) [none]) Q s=Q ((vsD x).filter notNon) s:=by
 rw[Qjx (l0:=[]) (fun l=>∃ y,l=[y]) notNon id hr (vsD x) [none] ⟨_,rfl⟩ (fun d hd l pq140=>by obtain⟨y,el⟩:=pq140;exact⟨[some d],fun G=>by subst el;simp_arith [],⟨_,rfl⟩,fun T=>by simp_arith [↓QlG],fun Q=>by simp_arith [];rfl⟩)]
 rw[List.map_id]
theorem QlK (W:Wld hs i0 i1 U tn x0) {x:Sp} (hx:x∈U):∃ v m,(v=i0\/v=i1)/\m<=2/\(vsD x).filter notNon=List.replicate m (.int (v:Nat)):=by
 obtain⟨v,hv,h0,h1⟩:=W.go x hx
 unfold vsD
 rcases h0 with e | e<;>rcases h1 with e' | e'<;>rw[e,e']
 ·exact⟨v,0,hv,by ac_nf,rfl⟩
 ·exact⟨v,1,hv,by ac_nf,rfl⟩
 ·exact⟨v,1,hv,by ac_nf,rfl⟩
 ·exact⟨v,2,hv,by ac_nf,rfl⟩
theorem QlL {v m r:Nat} (hv:v < 2) (hm:m<=2) (hr:s[r]?=some (.lst (List.replicate m (.int (v:Nat))))):∃ c:Nat,c<=1/\wp (lenSetD (.ref r)) Q s=Q (.int (c:Nat)) s:=by
 have h:∀ v,v < 2->∀ m,m<=2->∃ c:Nat,c<=1/\∃ ns,smalls (List.replicate m (D.int (v:Nat)))=some ns/\(sv (orAll 0 ns)).length=c:=by
  intro v hv m hm
  match v,hv,m,hm with
  | 0,_,0,_=>exact⟨0,by ac_nf,_,rfl,rfl⟩
  | 0,_,1,_=>exact⟨1,by ac_nf,_,rfl,rfl⟩
  | 0,_,2,_=>exact⟨1,by ac_nf,_,rfl,rfl⟩
  | 1,_,0,_=>exact⟨0,by ac_nf,_,rfl,rfl⟩
  | 1,_,1,_=>exact⟨1,by ac_nf,_,rfl,rfl⟩
  | 1,_,2,_=>exact⟨1,by ac_nf,_,rfl,rfl⟩
 obtain⟨c,hc,ns,e1,e2⟩:=h v hv m hm
 refine⟨c,hc,?_⟩
 show wp (bnd (getL r) _) Q s=_
 rw[Qiq,Qir hr,e1]
 dsimp only
 rw[wp_ret,e2]
theorem QlM {v m r : Nat} (hv : v = i0 \/ v = i1) (hr : s[r]? = some (.lst (List.replicate m (.int (v : Nat))))) {Q : List D -> Sto -> Prop} :
  wp (collect (gVar 0) (tCmpB (c2 ninD (cVar 0) (cVar 1))) (cVar 0) (sameL r (List.replicate m (.int (v:Nat)))) (List.replicate m (.int (v:Nat))) [none,some (.tup [.int (i0:Nat),.int (i1:Nat)])]) Q s=Q [] s:=by
 have nn:∀ (Q:D->Sto->Prop) s,wp (ninD (.int (v:Nat)) (.tup [.int (i0:Nat),.int (i1:Nat)])) Q s=Q (.bl false) s:=fun Q s=>by
  show wp (ninL (.int (v:Nat)) [.int (i0:Nat),.int (i1:Nat)]) Q s=_
  rw[Qi4]
  have e:(([.int (i0:Nat),.int (i1:Nat)]:List D).any fun d=>eqFl d (.int (v:Nat)))=true:=by
   rcases hv with rfl | rfl<;>simp[eqFl]
  rw[e]
  exact propext ⟨fun h=>h.2,fun h=>⟨⟨rfl,rfl⟩,h⟩⟩
 rw[Qjx (l0:=[]) (fun l=>∃ y,l=[y,some (.tup [.int (i0:Nat),.int (i1:Nat)])]) (fun _=>false) id hr _ _ ⟨_,rfl⟩ (fun d hd l pq141=>by obtain⟨y,el⟩:=pq141;exact⟨[some d,some (.tup [.int (i0:Nat),.int (i1:Nat)])],fun G=>by subst el;simp_arith [],⟨_,rfl⟩,fun T=>by
  rw[List.eq_of_mem_replicate hd]
  simp_arith [↓nn],fun Q=>by simp_arith [];rfl⟩)]
 simp
theorem go_ok (W : Wld hs i0 i1 U tn x0) {x : Sp} (hx : x ∈ U) {r : Nat} (hr : s[r]? = some (.lst (vsD x))) {Q : List D -> Sto -> Prop} :
  wp (collect (gVar 0) (tCmpB (c2 isD (c2 subsD (cVar 3) (cVar 0)) (cCon .non))) (cCall je (cCons (cVar 1) (cCons (cVar 2) (cCons (cVar 0) cNil)))) anySt (rngD 0 2) [none,some hs,some (spD x),some (.ref r)]) Q s=Q ((scA tn x).map spD) s:=by
 have g:∀ Q,wp (getL r) Q s=Q (vsD x) s:=fun Q=>Qir hr
 have e:rngD 0 2=[.int ((0:Nat):Int),.int ((1:Nat):Int)]:=rfl
 rw[e,Qjx (l0:=[]) (fun l=>∃ y,l=[y,some hs,some (spD x),some (.ref r)]) (fun d=>(vlO (x.ln (kOf d))).isNone) (fun d=>spD (tn x (kOf d))) trivial _ _ ⟨_,rfl⟩ (fun d hd l ⟨y,el⟩=>?_)]
 ·unfold scA
  have k0:kOf (.int ((0:Nat):Int))=0:=rfl
  have k1:kOf (.int ((1:Nat):Int))=1:=rfl
  cases h0:(vlO (x.ln 0)).isNone<;>cases h1:(vlO (x.ln 1)).isNone<;>simp only[List.filter_cons,List.filter_nil,k0,k1,h0,h1,if_true,if_false,Bool.false_eq_true,List.map_cons,List.map_nil]
 ·obtain ⟨k, hk, rfl⟩ : ∃ k : Nat, (k = 0 \/ k = 1) /\ d = .int (k : Nat) := by
    rcases List.mem_cons.mp hd with z | z
    ·exact⟨0,.inl rfl,z⟩
    ·exact⟨1,.inr rfl,List.mem_singleton.mp z⟩
  have ek:kOf (.int (k:Nat))=k:=by show (k:Int).toNat=k;ac_nf
  have iv:∀ (Q:D->Sto->Prop) s,wp (itemD (vsD x) (k:Int)) Q s=Q (vlD (vlO (x.ln k))) s:=fun Q s=>by rcases hk with rfl | rfl;exact QiI (i:=0) rfl;exact QiI (i:=1) rfl
  have w:∀ (Q:D->Sto->Prop) s,wp (je [hs,spD x,.int (k:Nat)]) Q s=Q (spD (tn x k)) s:=W.tu x hx k hk
  refine⟨[some (.int (k:Nat)),some hs,some (spD x),some (.ref r)],fun G=>by subst el;simp_arith [],⟨_,rfl⟩,fun T=>?_,fun Q=>?_⟩
  ·have en:(!notNon (vlD (vlO (x.ln k))))=(vlO (x.ln k)).isNone:=by cases vlO (x.ln k)<;>rfl
   simp_arith [↓g,↓iv,↓QlH,en,ek]
  ·simp_arith [↓w,ek]
end
open PySem (Str)
structure WI (U:List Sp) (tn:Sp->Nat->Sp) (x0:Sp) (s s':Sto) (i:Nat) (R:List Sp) (F:Sp->D):Prop where
 o:s'[s.length]?=some (.lst (R.map spD))
 f:s'[s.length + 1]?=some (.dct true (mkD (if i=0 then [] else R) F))
 nd:R.Nodup
 u:∀ x∈R,x∈U
 le:i<=R.length
 z:i=0->R=[x0]
 dn:∀ j,j < i->∀ x,R[j]?=some x->(∀ y∈scA tn x,y∈R)/\∃ r,s.length + 2<=r/\F x=.ref r/\s'[r]?=some (.lst ((scA tn x).map spD))
 ex:Ext s s'
section
variable {s:Sto}{Q:D->Sto->Prop}{hs:D}{i0 i1:Nat}{U:List Sp}{tn:Sp->Nat->Sp}{x0:Sp}
theorem memR {R:List Sp}{i:Nat}{x:Sp} (h:R[i]?=some x):x∈R:=List.mem_of_getElem? h
theorem QlN (W : Wld hs i0 i1 U tn x0) (hQ : ∀ s' dn R F, s'[dn]? = some (.dct true (mkD R F)) -> R.Nodup -> (∀ x ∈ R, x ∈ U) -> (∀ x ∈ R, (∀ y ∈ scA tn x, y ∈ R) /\ ∃ r, F x = .ref r /\ s'[r]? = some (.lst ((scA tn x).map spD))) -> Ext s s' -> Q (.dic dn) s') :
  wp (jx [hs,.tup [.int (i0:Nat),.int (i1:Nat)]]) Q s:=by
 have l1:1<=lim:=QiB (by ac_nf)
 have l2:2<=lim:=QiB (by ac_nf)
 have ws:=W.st
 have hU:=W.le
 (simp_arith [jx];simp_arith [jY,↓ws,l1])
 have e1:(s++[MO.lst [spD x0]]).length=s.length + 1:=by simp
 rw[e1]
 have I0:WI U tn x0 s (s++[MO.lst [spD x0]]++[MO.dct true []]) 0 [x0] (fun _=>.non):=
  ⟨Qjo Qjm,Qjn,by simp,fun x hx=>by rw[List.mem_singleton.mp hx];exact W.in0,by simp,fun _=>rfl,fun j hj=>absurd hj (Nat.not_lt_zero _),((Ext.refl _).snoc _).snoc _⟩
 generalize s++[MO.lst [spD x0]]++[MO.dct true []]=s1 at *
 refine Qjb (fun l s'=>∃ (i:Nat) (R:List Sp) (F:Sp->D) (x5 x6 x7 x8:Option D),l=[some hs,some (.tup [.int (i0:Nat),.int (i1:Nat)]),some (.ref s.length),some (.dic (s.length + 1)),some (.int (i:Nat)),x5,x6,x7,x8]/\WI U tn x0 s s' i R F)
  (fun (l:Loc) (_:Sto)=>match (l[4]?:Option (Option D)) with
   | some (some (D.int i))=>(100 - i).toNat
   | _=>0) ⟨0,[x0],_,_,_,_,_,rfl,I0⟩ (fun l s' hW=>?_)
 obtain⟨i,R,F,x5,x6,x7,x8,el,I⟩:=hW
 subst el
 have hR:R.length<=20:=Nat.le_trans (QlE I.nd I.u) hU
 have qo:∀ Q,wp (getL s.length) Q s'=Q (R.map spD) s':=fun Q=>Qir I.o
 simp_arith [↓qo,List.length_map]
 by_cases hi:i < R.length
 ·have hi':(i:Int) < (R.length:Nat):=by ac_nf
  obtain⟨x,hx⟩:∃ x,R[i]?=some x:=⟨_,List.getElem?_eq_getElem hi⟩
  have hxU:=I.u x (memR hx)
  have ix:∀ (Q:D->Sto->Prop) s,wp (itemD (R.map spD) (i:Int)) Q s=Q (spD x) s:=fun Q s=>QiI (by rw[List.getElem?_map,hx];rfl)
  rw[if_pos hi']
  simp_arith [↓ix]
  rw[show ∀ y0 y1 y2 y3 y4 y5 y6 y7 y8:Option D,capt 1 [0,5] [y0,y1,y2,y3,y4,y5,y6,y7,y8]=[none,y0,y5] from fun _ _ _ _ _ _ _ _ _=>rfl]
  refine⟨rngb (by decide) (by decide),l2,?_⟩
  rw[show Int.toNat ((2:Nat):Int)=2 from rfl,QlI W hxU]
  have ga:(s'++[MO.lst (vsD x)])[s'.length]?=some (.lst (vsD x)):=Qjm
  have qa:∀ Q,wp (getL s'.length) Q (s'++[MO.lst (vsD x)])=Q (vsD x) (s'++[MO.lst (vsD x)]):=fun Q=>Qir ga
  simp_arith [↓qa,c1_n]
  refine⟨QiB (by show 2<=1000;ac_nf),?_⟩
  rw[QlJ ga]
  obtain⟨v,m,hv,hm,ef⟩:=QlK W hxU
  rw[ef]
  have hv2:v < 2:=by have:=W.h0;have:=W.h1;ac_nf
  have gb:(s'++[MO.lst (vsD x)]++[MO.lst (List.replicate m (.int (v:Nat)))])[(s'++[MO.lst (vsD x)]).length]?=some (.lst (List.replicate m (.int (v:Nat)))):=Qjm
  have ga2:(s'++[MO.lst (vsD x)]++[MO.lst (List.replicate m (.int (v:Nat)))])[s'.length]?=some (.lst (vsD x)):=Qjo ga
  have x2:Ext s' (s'++[MO.lst (vsD x)]++[MO.lst (List.replicate m (.int (v:Nat)))]):=((Ext.refl _).snoc _).snoc _
  generalize (s'++[MO.lst (vsD x)]).length=rb at *
  generalize s'++[MO.lst (vsD x)]++[MO.lst (List.replicate m (.int (v:Nat)))]=s2 at *
  obtain⟨c,hc,_⟩:=QlL (Q:=fun _ _=>True) hv2 hm gb
  have wset:∀ (Q:D->Sto->Prop),∃ c:Nat,c<=1/\wp (lenSetD (.ref rb)) Q s2=Q (.int (c:Nat)) s2:=fun Q=>QlL hv2 hm gb
  simp_arith []
  obtain⟨c,hc,ec⟩:=wset _
  rw[ec]
  have qb:∀ Q,wp (getL rb) Q s2=Q (List.replicate m (.int (v:Nat))) s2:=fun Q=>Qir gb
  simp_arith [↓qb,Nat.zero_le]
  rw[if_neg (by ac_nf)]
  rw[show ∀ y0 y1 y2 y3 y4 y5 y6 y7 y8:Option D,capt 1 [1] [y0,y1,y2,y3,y4,y5,y6,y7,y8]=[none,y1] from fun _ _ _ _ _ _ _ _ _=>rfl]
  refine⟨QiB (by rw[List.length_replicate];ac_nf),?_⟩
  rw[QlM hv gb]
  have ne:∀ (Q:D->Sto->Prop),wp (neD (.ref s2.length) (.ref (s2++[MO.lst []]).length)) Q (s2++[MO.lst []]++[MO.lst []])=Q (.bl false) (s2++[MO.lst []]++[MO.lst []]):=fun Q=>Qje (n:=0) (ds:=[]) (Qjo Qjm) Qjm (fun d hd=>by cases hd) (by ac_nf)
  have x3:Ext s' (s2++[MO.lst []]++[MO.lst []]):=(x2.snoc _).snoc _
  have ga3:(s2++[MO.lst []]++[MO.lst []])[s'.length]?=some (.lst (vsD x)):=Qjo (Qjo ga2)
  simp_arith [↓ne,l2]
  generalize s2++[MO.lst []]++[MO.lst []]=s3 at *
  rw[show ∀ y0 y1 y2 y3 y4 y5 y6 y7 y8:Option D,capt 1 [0,5,6] [y0,y1,y2,y3,y4,y5,y6,y7,y8]=[none,y0,y5,y6] from fun _ _ _ _ _ _ _ _ _=>rfl]
  refine⟨Nat.zero_le _,rngb (by decide) (by decide),l2,?_⟩
  rw[show Int.toNat ((2:Nat):Int)=2 from rfl,go_ok W hxU ga3]
  have x4:Ext s' (s3++[MO.lst ((scA tn x).map spD)]):=x3.snoc _
  have gr:(s3++[MO.lst ((scA tn x).map spD)])[s3.length]?=some (.lst ((scA tn x).map spD)):=Qjm
  have hr2:s.length + 2<=s3.length:=by
   have:=(List.getElem?_eq_some_iff.mp I.f).1
   have:=x3.le
   ac_nf
  generalize s3.length=r at *
  generalize s3++[MO.lst ((scA tn x).map spD)]=s4 at *
  have f4:=x4.at_ I.f
  have o4:=x4.at_ I.o
  have lf:(mkD (if i=0 then [] else R) F).length < lim:=QiC (by rw[QlD];split;simp;ac_nf)
  have es:∀ v,ptK (mkD (if i=0 then [] else R) F) (spD x) v=mkD R (upF F x v):=fun v=>by
   rw[QlB]
   by_cases h0:i=0
   ·have:=I.z h0
    subst h0
    rw[this]at hx ⊢
    cases hx
    rfl
   ·rw[if_neg h0,if_pos (memR hx)]
  have q4:∀ v Q,wp (storeK (s.length + 1) (spD x) v) Q s4=Q () (s4.set (s.length + 1) (.dct true (mkD R (upF F x v)))):=fun v Q=>by rw[Qji f4 (Qly x) lf,es]
  simp_arith [↓q4]
  have f5:(s4.set (s.length + 1) (.dct true (mkD R (upF F x (.ref r)))))[s.length + 1]?=some (.dct true (mkD R (upF F x (.ref r)))):=List.getElem?_set_self (List.getElem?_eq_some_iff.mp f4).1
  have k5:∀ n o,n≠s.length + 1->s4[n]?=some o->(s4.set (s.length + 1) (.dct true (mkD R (upF F x (.ref r)))))[n]?=some o:=fun n o hn h=>by rw[List.getElem?_set_ne (Ne.symm hn)];exact h
  have o5:=k5 _ _ (by ac_nf) o4
  have g5:=k5 _ _ (by ac_nf) gr
  have x5':Ext s (s4.set (s.length + 1) (.dct true (mkD R (upF F x (.ref r))))):=(I.ex.trans x4).put (by ac_nf)
  have d5:∀ j,j < i->∀ y,R[j]?=some y->(∀ z∈scA tn y,z∈R)/\∃ r',s.length + 2<=r'/\upF F x (.ref r) y=.ref r'/\(s4.set (s.length + 1) (.dct true (mkD R (upF F x (.ref r)))))[r']?=some (.lst ((scA tn y).map spD)):=fun j hj y hy=>by
   obtain⟨b1,r',b2,b3,b4⟩:=I.dn j hj y hy
   refine⟨b1,r',b2,?_,k5 _ _ (by ac_nf) (x4.at_ b4)⟩
   unfold upF
   rw[if_neg (fun e:y=x=>by
    subst e
    have:=(List.getElem?_inj (List.getElem?_eq_some_iff.mp hy).1 I.nd).mp (hy.trans hx.symm)
    ac_nf)]
   exact b3
  generalize s4.set (s.length + 1) (.dct true (mkD R (upF F x (.ref r))))=s5 at *
  have qi:∀ Q,wp (itemK (s.length + 1) (spD x)) Q s5=Q (.ref r) s5:=fun Q=>Qjh f5 (Qly x) (by rw[QlA,if_pos (memR hx)];unfold upF;rw[if_pos rfl])
  have qr:∀ Q,wp (getL r) Q s5=Q ((scA tn x).map spD) s5:=fun Q=>Qir g5
  simp_arith [↓qi,↓qr]
  have fx:upF F x (.ref r) x=.ref r:=by unfold upF;rw[if_pos rfl]
  generalize upF F x (.ref r)=F5 at *
  have hsc:∀ y∈scA tn x,y∈U:=fun y hy=>by
   obtain⟨k,hk,hv,rfl⟩:=QlF hy
   exact W.cl x hxU k hk hv
  refine QiD (fun j l u=>∃ (T:List Sp) (G:Sp->D) (y8:Option D),l=[some hs,some (.tup [.int (i0:Nat),.int (i1:Nat)]),some (.ref s.length),some (.dic (s.length + 1)),some (.int ((i:Nat) + 1)),some (spD x),some (.ref s'.length),some (.ref rb),y8]/\u[s.length]?=some (.lst ((R++T).map spD))/\u[s.length + 1]?=some (.dct true (mkD (R++T) G))/\(R++T).Nodup/\(∀ y∈R++T,y∈U)/\(∀ y∈R,G y=F5 y)/\(∀ y∈(scA tn x).take j,y∈R++T)/\(∀ n o,s.length + 2<=n->s5[n]?=some o->u[n]?=some o)/\Ext s u/\s5.length<=u.length) (fun _ _ _ ⟨_,_,_,_,_,_,_,_,_,_,k,_⟩=>k _ _ hr2 g5) ⟨[],F5,_,rfl,by rw[List.append_nil];exact o5,by rw[List.append_nil];exact f5,by rw[List.append_nil];exact I.nd,by rw[List.append_nil];exact I.u,fun _ _=>rfl,by simp,fun _ _ _ h=>h,x5',Nat.le_refl _⟩ (fun j d l u hd hZ=>?_) (fun l u hZ=>?_)
  ·obtain⟨T,G,y8,el,uo,uf,und,uu,uG,uT,uk,ux,ul⟩:=hZ
   subst el
   obtain⟨y,hy,rfl⟩:∃ y,(scA tn x)[j]?=some y/\d=spD y:=by
    rw[List.getElem?_map]at hd
    cases h:(scA tn x)[j]? with
    | none=>rw[h]at hd;cases hd
    | some y=>rw[h]at hd;exact⟨y,rfl,(Option.some.inj hd).symm⟩
   have yU:=hsc y (List.mem_of_getElem? hy)
   have hT:(R++T).length<=20:=Nat.le_trans (QlE und uu) hU
   have tk:(scA tn x).take (j + 1)=(scA tn x).take j++[y]:=by rw[List.take_succ,hy];rfl
   have qh:∀ Q:Bool->Sto->Prop,wp (hasK (s.length + 1) (spD y)) Q u=Q (decide (y∈R++T)) u:=fun Q=>by
    rw[Qjj uf (Qly y),QlA]
    by_cases h:y∈R++T
    ·rw[if_pos h,decide_eq_true h];rfl
    ·rw[if_neg h,decide_eq_false h];rfl
   simp_arith [↓qh]
   by_cases h:y∈R++T
   ·rw[decide_eq_true h]
    simp_arith []
    refine⟨T,G,_,rfl,uo,uf,und,uu,uG,fun z hz=>?_,uk,ux,ul⟩
    rw[tk]at hz
    rcases List.mem_append.mp hz with z' | z'
    ·exact uT z z'
    ·rw[List.mem_singleton.mp z'];exact h
   ·rw[decide_eq_false h]
    simp_arith [Nat.zero_le]
    have ua:(u++[MO.lst []])[s.length + 1]?=some (.dct true (mkD (R++T) G)):=Qjo uf
    have ub:(u++[MO.lst []])[s.length]?=some (.lst ((R++T).map spD)):=Qjo uo
    have q6:∀ v Q,wp (storeK (s.length + 1) (spD y) v) Q (u++[MO.lst []])=Q () ((u++[MO.lst []]).set (s.length + 1) (.dct true (mkD (R++T++[y]) (upF G y v)))):=fun v Q=>by
     rw[Qji ua (Qly y) (QiC (by rw[QlD];ac_nf)),QlB,if_neg h]
    simp_arith [↓q6]
    have uc:((u++[MO.lst []]).set (s.length + 1) (.dct true (mkD (R++T++[y]) (upF G y (.ref u.length)))))[s.length]?=some (.lst ((R++T).map spD)):=by rw[List.getElem?_set_ne (by ac_nf)];exact ub
    have ud:((u++[MO.lst []]).set (s.length + 1) (.dct true (mkD (R++T++[y]) (upF G y (.ref u.length)))))[s.length + 1]?=some (.dct true (mkD (R++T++[y]) (upF G y (.ref u.length)))):=List.getElem?_set_self (List.getElem?_eq_some_iff.mp ua).1
    have ue:∀ n o,s.length + 2<=n->s5[n]?=some o->((u++[MO.lst []]).set (s.length + 1) (.dct true (mkD (R++T++[y]) (upF G y (.ref u.length)))))[n]?=some o:=fun n o hn h=>by rw[List.getElem?_set_ne (by ac_nf)];exact Qjo (uk n o hn h)
    have ug:Ext s ((u++[MO.lst []]).set (s.length + 1) (.dct true (mkD (R++T++[y]) (upF G y (.ref u.length))))):=(ux.snoc _).put (by ac_nf)
    have uh:s5.length<=((u++[MO.lst []]).set (s.length + 1) (.dct true (mkD (R++T++[y]) (upF G y (.ref u.length))))).length:=by rw[List.length_set,List.length_append];ac_nf
    generalize (u++[MO.lst []]).set (s.length + 1) (.dct true (mkD (R++T++[y]) (upF G y (.ref u.length))))=u2 at *
    have q7:∀ Q,wp (getL s.length) Q u2=Q ((R++T).map spD) u2:=fun Q=>Qir uc
    have q8:∀ es Q,wp (putL s.length es) Q u2=Q () (u2.set s.length (.lst es)):=fun es Q=>Qis uc
    simp_arith [↓q7,↓q8]
    refine⟨QiC (by rw[List.length_map];ac_nf),T++[y],upF G y (.ref u.length),_,rfl,?_,?_,?_,?_,fun z hz=>?_,fun z hz=>?_,fun n o hn h=>?_,ug.put (Nat.le_refl _),by rw[List.length_set];exact uh⟩
    ·rw[List.getElem?_set_self (List.getElem?_eq_some_iff.mp uc).1]
     simp
    ·rw[List.getElem?_set_ne (by ac_nf),<- List.append_assoc];exact ud
    ·rw[<- List.append_assoc]
     refine List.nodup_append.mpr ⟨und,by simp,fun a ha b hb=>?_⟩
     rw[List.mem_singleton.mp hb]
     intro e
     exact h (e ▸ ha)
    ·rw[<- List.append_assoc]
     intro z hz
     rcases List.mem_append.mp hz with z' | z'
     ·exact uu z z'
     ·rw[List.mem_singleton.mp z'];exact yU
    ·unfold upF
     rw[if_neg (fun e:z=y=>h (by rw[<- e];exact List.mem_append_left _ hz))]
     exact uG z hz
    ·rw[<- List.append_assoc]
     rw[tk]at hz
     rcases List.mem_append.mp hz with z' | z'
     ·exact List.mem_append_left _ (uT z z')
     ·rw[List.mem_singleton.mp z'];simp
    ·rw[List.getElem?_set_ne (by ac_nf)];exact ue n o hn h
  ·obtain⟨T,G,y8,el,uo,uf,und,uu,uG,uT,uk,ux,ul⟩:=hZ
   subst el
   simp_arith []
   rw[List.length_map,List.take_length]at uT
   have hRT:R.length<=(R++T).length:=by simp
   refine⟨⟨i + 1,R++T,G,_,_,_,_,rfl,uo,by rw[if_neg (by ac_nf)];exact uf,und,uu,by ac_nf,fun e=>by ac_nf,fun j hj y hy=>?_,ux⟩,?_⟩
   ·have hjR:j < R.length:=by ac_nf
    rw[List.getElem?_append_left hjR]at hy
    by_cases hji:j < i
    ·obtain⟨b1,r',b2,b3,b4⟩:=d5 j hji y hy
     exact⟨fun z hz=>List.mem_append_left _ (b1 z hz),r',b2,by rw[uG y (memR hy)];exact b3,uk _ _ b2 b4⟩
    ·have e:j=i:=by ac_nf
     subst e
     rw[hx]at hy
     cases hy
     exact⟨uT,r,hr2,by rw[uG x (memR hx)];exact fx,uk _ _ hr2 g5⟩
   ·show (100 - ((i:Int) + 1)).toNat < (100 - (i:Int)).toNat
    ac_nf
 ·have hi':¬ (i:Int) < (R.length:Nat):=by ac_nf
  rw[if_neg hi']
  try simp_arith []
  have ei:i=R.length:=by have:=I.le;ac_nf
  have h0:i≠0:=fun e=>by
   have:=I.z e
   rw[this]at ei
   rw[e]at ei
   cases ei
  have f:=I.f
  rw[if_neg h0]at f
  refine hQ s' _ R F f I.nd I.u (fun x hx=>?_) I.ex
  obtain⟨j,hj⟩:=List.getElem?_of_mem hx
  obtain⟨a1,r,_,a2,a3⟩:=I.dn j (by have:=(List.getElem?_eq_some_iff.mp hj).1;ac_nf) x hj
  exact⟨a1,r,a2,a3⟩
end
open PySem (Str)
section
variable {tn:Sp->Nat->Sp}
noncomputable def rwL (x:Sp) (ys:List Sp) (y:Sp):List Sp:=(ys.filter fun z=>decide (z=y)).map fun _=>x
noncomputable def pdL (tn:Sp->Nat->Sp) (R:List Sp) (y:Sp):List Sp:=(R.map fun x=>rwL x (scA tn x) y).flatten
theorem QlO {x y z:Sp}{ys:List Sp}:rwL x (ys++[z]) y=rwL x ys y++(if z=y then [x] else []):=by
 unfold rwL
 rw[List.filter_append,List.map_append]
 by_cases h:z=y
 ·rw[if_pos h];simp[h]
 ·rw[if_neg h];simp[h]
theorem QlP {x y:Sp}{R:List Sp}:pdL tn (R++[x]) y=pdL tn R y++rwL x (scA tn x) y:=by
 unfold pdL
 rw[List.map_append,List.flatten_append]
 simp
theorem QlQ {x x' y:Sp}:∀ {ys:List Sp},(rwL x' ys y).count x=if x'=x then ys.count y else 0
 | []=>by unfold rwL;simp
 | z::ys=>by
  have ih:=QlQ (x:=x) (x':=x') (y:=y) (ys:=ys)
  unfold rwL at ih ⊢
  by_cases h:z=y
  ·subst h
   by_cases e:x'=x
   ·subst e
    rw[if_pos rfl]at ih ⊢
    simp[ih]
   ·rw[if_neg e]at ih ⊢
    simp[ih,e]
  ·have e2:(z::ys).count y=ys.count y:=List.count_cons_of_ne (by simpa using h)
   rw[e2,List.filter_cons_of_neg (by simpa using h)]
   exact ih
theorem QlR {x y:Sp}:∀ {R:List Sp},R.Nodup->(pdL tn R y).count x=if x∈R then (scA tn x).count y else 0
 | [],_=>by unfold pdL;simp
 | z::R,hn=>by
  have h1:=List.nodup_cons.mp hn
  have ih:=QlR (x:=x) (y:=y) h1.2
  have e:pdL tn (z::R) y=rwL z (scA tn z) y++pdL tn R y:=rfl
  rw[e,List.count_append,ih,QlQ]
  by_cases h:z=x
  ·subst h
   rw[if_pos rfl,if_neg h1.1,if_pos List.mem_cons_self]
   rfl
  ·rw[if_neg h]
   by_cases h2:x∈R
   ·rw[if_pos h2,if_pos (List.mem_cons_of_mem _ h2),Nat.zero_add]
   ·rw[if_neg h2,if_neg fun h3=>h2 ((List.mem_cons.mp h3).resolve_left (Ne.symm h))]
theorem QlS {x y:Sp}{R:List Sp} (h:x∈pdL tn R y):x∈R:=by
 unfold pdL at h
 obtain⟨l,hl,hx⟩:=List.mem_flatten.mp h
 obtain⟨z,hz,rfl⟩:=List.mem_map.mp hl
 unfold rwL at hx
 obtain⟨w,_,rfl⟩:=List.mem_map.mp hx
 exact hz
noncomputable def lfN (ys P:List Sp):Nat:=(ys.filter fun z=>decide (z∉P)).length
theorem QlT {ys:List Sp}:lfN ys []=ys.length:=by unfold lfN;simp
theorem QlU {P:List Sp}{y:Sp} (h:y∉P):∀ {ys:List Sp},lfN ys P=lfN ys (P++[y]) + ys.count y
 | []=>rfl
 | z::ys=>by
  have ih:=QlU h (ys:=ys)
  unfold lfN at ih ⊢
  rw[List.count_cons]
  by_cases e:z=y
  ·subst e
   rw[List.filter_cons_of_pos (by simpa using h),List.filter_cons_of_neg (by simp),List.length_cons,ih]
   simp
   ac_nf
  ·have eb:(z == y)=false:=by simpa using e
   rw[eb]
   by_cases hp:z∈P
   ·rw[List.filter_cons_of_neg (by simpa using hp),List.filter_cons_of_neg (by simp[hp]),ih]
    simp
   ·rw[List.filter_cons_of_pos (by simpa using hp),List.filter_cons_of_pos (by simp[hp,e]),List.length_cons,List.length_cons,ih]
    simp
    ac_nf
theorem QlV {ys P:List Sp} (h:∀ y∈ys,y∈P):lfN ys P=0:=by
 unfold lfN
 rw[List.length_eq_zero_iff,List.filter_eq_nil_iff]
 intro y hy
 simpa using h y hy
theorem QlW {x:Sp}:(scA tn x).length<=2:=by
 unfold scA
 rw[List.length_map]
 exact List.length_filter_le _ _
end
noncomputable def upI (L:Sp->Nat) (x:Sp) (v:Nat):Sp->Nat:=fun y=>if y=x then v else L y
noncomputable def inF (L:Sp->Nat):Sp->D:=fun x=>.int (L x:Nat)
theorem QlX {L:Sp->Nat}{x:Sp}{v:Nat}:upF (inF L) x (.int (v:Nat))=inF (upI L x v):=by
 funext y
 unfold upF inF upI
 by_cases h:y=x
 ·rw[if_pos h,if_pos h]
 ·rw[if_neg h,if_neg h]
section
variable {s:Sto}{Q:D->Sto->Prop}{U:List Sp}{tn:Sp->Nat->Sp}
structure AH (U:List Sp) (lo b:Nat) (p:Sp->List Sp) (u:Sto):Prop where
 ex:∃ K A,u[b]?=some (.dct true (mkD K A))/\K.Nodup/\(∀ y∈K,y∈U)/\(∀ y∈K,∃ r,lo<=r/\A y=.ref r/\u[r]?=some (.lst ((p y).map spD)))/\∀ y,y∉K->p y=[]
theorem AH.keep {lo b:Nat}{p:Sp->List Sp}{u u':Sto} (h:AH U lo b p u) (hb:u'[b]?=u[b]?) (hk:∀ r o,lo<=r->u[r]?=some o->u'[r]?=some o):AH U lo b p u':=by
 obtain⟨K,A,e,h1,h2,h3,h4⟩:=h.ex
 refine⟨K,A,hb.trans e,h1,h2,fun y hy=>?_,h4⟩
 obtain⟨r,a1,a2,a3⟩:=h3 y hy
 exact⟨r,a1,a2,hk r _ a1 a3⟩
theorem QlY {a b c : CE} {l : Loc} : wp (cGet a b c l) Q s = wp (a l) (fun x s1 => match x with
  | .dic n=>wp (getDc n) (fun p s2=>p.1=true/\wp (b l) (fun y s3=>wp (c l) (fun z s4=>wp (getDc n) (fun p s5=>(p.1=true/\kOk true y=true)/\Q ((lkK p.2 y).getD z) s5) s4) s3) s2) s1
  | _=>False) s:=by
 unfold cGet
 rw[Qiq]
 refine wp_cg fun x s1=>?_
 cases x<;>first | exact wp_no rfl | skip
 dsimp only
 rw[Qiq]
 refine wp_cg fun p s2=>?_
 rw[wp_chk,Qiq]
 congr 1
 refine wp_cg fun y s3=>?_
 rw[Qiq]
 refine wp_cg fun z s4=>?_
 rw[Qiq]
 refine wp_cg fun p s5=>?_
 rw[wp_chk,wp_ret]
theorem QlZ {a : CE} {l : Loc} {I : Wk -> Sto -> Prop} : wp (iDic a l) I s = wp (a l) (fun x s1 => match x with
  | .dic n=>wp (getDc n) (fun p s2=>p.1=true/\I ⟨p.2.map (·.1),sameD n (p.2.map (·.1))⟩ s2) s1
  | _=>False) s:=by
 unfold iDic
 rw[Qiq]
 refine wp_cg fun x s1=>?_
 cases x<;>first | exact wp_no rfl | skip
 dsimp only
 rw[Qiq]
 refine wp_cg fun p s2=>?_
 rw[wp_chk,wp_ret]
end
open PySem (Str)
noncomputable def falZ : CS := (sSeq (sAsg (gVar 5) (cKeep (aComp 1 [1] (iDic (cVar 0)) (gVar 0) (tCmpB (c2 eqD (c2 subsD (cVar 1) (cVar 0)) (cCon (.int 0)))) (cVar 0))))
  (sSeq (sAsg (gVar 6) (cCon (.int 0)))
  (sSeq (sWhile (tCmpB (c2 ltD (cVar 6) (c1 lenD (cVar 5))))
   (sSeq (sFor (iSeq (cGet (cVar 2) (c2 subsD (cVar 5) (cVar 6)) (cKeep (aDisp cNil)))) (gVar 3)
    (sSeq (sAsg (gSubD (cVar 1) (cVar 3)) (c2 subD (c2 subsD (cVar 1) (cVar 3)) (cCon (.int 1))))
    (sSeq (sIf (tCmpB (c2 eqD (c2 subsD (cVar 1) (cVar 3)) (cCon (.int 0))))
     (sSeq (sExp (cAppend (cVar 5) (cVar 3)))
     sNext)
     sNext)
    sNext)))
   (sSeq (sAsg (gVar 6) (c2 addD (cVar 6) (cCon (.int 1))))
   sNext)))
  (sSeq (sRet (c2 eqD (c1 lenD (cVar 5)) (c1 lenD (cVar 0))))
  sNext))))
section
variable {s:Sto}{Q:D->Sto->Prop}{U:List Sp}{tn:Sp->Nat->Sp}
theorem AH.put {lo b q : Nat} {p p' : Sp -> List Sp} {u u' : Sto} {y : Sp} {K : List Sp} {A : Sp -> D} (h1 : K.Nodup) (h2 : ∀ z ∈ K, z ∈ U) (h3 : ∀ z ∈ K, ∃ r, lo <= r /\ A z = .ref r /\ u[r]? = some (.lst ((p z).map spD))) (h4 : ∀ z, z ∉ K -> p z = []) (yU : y ∈ U)
  (e:u'[b]?=some (.dct true (mkD (if y∈K then K else K++[y]) (upF A y (.ref q))))) (hq:lo<=q) (eq:u'[q]?=some (.lst ((p' y).map spD))) (hp:∀ z,z≠y->p' z=p z) (hk:∀ r o,lo<=r->u[r]?=some o->u'[r]?=some o):AH U lo b p' u':=by
 refine⟨_,_,e,?_,fun z hz=>?_,fun z hz=>?_,fun z hz=>?_⟩
 ·split
  ·exact h1
  ·rename_i h
   exact List.nodup_append.mpr ⟨h1,by simp,fun a ha c hc=>by rw[List.mem_singleton.mp hc];intro e;exact h (e ▸ ha)⟩
 ·split at hz
  ·exact h2 z hz
  ·rcases List.mem_append.mp hz with z' | z'
   ·exact h2 z z'
   ·rw[List.mem_singleton.mp z'];exact yU
 ·by_cases ez:z=y
  ·subst ez
   exact⟨q,hq,by unfold upF;rw[if_pos rfl],eq⟩
  ·have hzK : z ∈ K := by
     split at hz
     ·exact hz
     ·rcases List.mem_append.mp hz with z' | z'
      ·exact z'
      ·exact absurd (List.mem_singleton.mp z') ez
   obtain⟨r,a1,a2,a3⟩:=h3 z hzK
   exact⟨r,a1,by unfold upF;rw[if_neg ez];exact a2,by rw[hp z ez];exact hk r _ a1 a3⟩
 ·have ez : z ≠ y := fun ez => by
    subst ez
    split at hz
    ·rename_i h;exact hz h
    ·exact hz (by simp)
  have hzK:z∉K:=fun h=>hz (by split;exact h;exact List.mem_append_left _ h)
  rw[hp z ez]
  exact h4 z hzK
theorem Ql0 {dn : Nat} {R : List Sp} {F : Sp -> D} {u : Sto} {x3 x4 : Option D} (hd : s[dn]? = some (.dct true (mkD R F))) (nd : R.Nodup) (hu : ∀ x ∈ R, x ∈ U) (hU : U.length <= 20) (hr : ∀ x ∈ R, (∀ y ∈ scA tn x, y ∈ R) /\ ∃ r, F x = .ref r /\ s[r]? = some (.lst ((scA tn x).map spD)))
  (mu:∀ x∈R,∀ y∈scA tn x,muS y < muS x) (hQ:∀ s',Ext s s'->Q (.bl true) s') (ua:u[s.length]?=some (.dct true (mkD R (inF fun x=>(scA tn x).length)))) (ub:AH U (s.length + 2) (s.length + 1) (pdL tn R) u) (ux:Ext s u) (ul:s.length + 2<=u.length):
  wp (falZ [some (.dic dn),some (.dic s.length),some (.dic (s.length + 1)),x3,x4,none,none]) (fun f s'=>wp (flwD f) Q s') u:=by
 classical
 have hR:R.length<=20:=Nat.le_trans (QlE nd hu) hU
 have dl:=(List.getElem?_eq_some_iff.mp hd).1
 have gd:∀ (w:Sto),Ext s w->∀ Q:Bool × List (D × D)->Sto->Prop,wp (getDc dn) Q w=Q (true,mkD R F) w:=fun w x Q=>Qjf (x.at_ hd)
 unfold falZ
 simp_arith [↓QlZ,↓gd u ux,QlC,true_and,List.length_map]
 rw[show ∀ y0 y1 y2 y3 y4 y5 y6:Option D,capt 1 [1] [y0,y1,y2,y3,y4,y5,y6]=[none,y1] from fun _ _ _ _ _ _ _=>rfl]
 refine⟨QiB (by ac_nf),?_⟩
 have flt:∀ Q,wp (collect (gVar 0) (tCmpB (c2 eqD (c2 subsD (cVar 1) (cVar 0)) (cCon (.int 0)))) (cVar 0) (sameD dn (R.map spD)) (R.map spD) [none,some (.dic s.length)]) Q u=Q ((R.filter fun x=>decide ((scA tn x).length=0)).map spD) u:=fun Q=>by
  rw[Qjx (l0:=[]) (fun l=>∃ y,l=[y,some (.dic s.length)]) (fun d=>decide (∃ x∈R,d=spD x/\(scA tn x).length=0)) id ⟨_,ux.at_ hd,QlC⟩ _ _ ⟨_,rfl⟩ (fun d hdd l ⟨y,el⟩=>?_)]
  ·congr 1
   rw[List.map_id]
   generalize R=T at *
   clear hd nd hu hr mu ua ub hR gd
   have key:∀ (T':List Sp),(∀ x∈T',x∈T)->List.filter (fun d=>decide (∃ x∈T,d=spD x/\(scA tn x).length=0)) (T'.map spD)=(T'.filter fun x=>decide ((scA tn x).length=0)).map spD:=by
    intro T'
    induction T' with
    | nil=>intro _;rfl
    | cons z T' ih=>
     intro h
     have ih:=ih fun x hx=>h x (List.mem_cons_of_mem _ hx)
     rw[List.map_cons]
     by_cases hz:(scA tn z).length=0
     ·rw[List.filter_cons_of_pos (by rw[decide_eq_true_iff];exact⟨z,h z List.mem_cons_self,rfl,hz⟩),List.filter_cons_of_pos (by rw[decide_eq_true_iff];exact hz),ih];rfl
     ·rw [List.filter_cons_of_neg (by
        rw[decide_eq_true_iff]
        rintro ⟨x,_,e,e2⟩
        rw[Qlz e]at hz
        exact hz e2),List.filter_cons_of_neg (by rw[decide_eq_true_iff];exact hz),ih]
   exact key T fun x hx=>hx
  ·obtain⟨x,hx,rfl⟩:=List.mem_map.mp hdd
   have qi:∀ Q:D->Sto->Prop,wp (itemK s.length (spD x)) Q u=Q (.int ((scA tn x).length:Nat)) u:=fun Q=>Qjh ua (Qly x) (by rw[QlA,if_pos hx];rfl)
   refine⟨[some (spD x),some (.dic s.length)],fun G=>by subst el;simp_arith [],⟨_,rfl⟩,fun T=>?_,fun Q=>by simp_arith [];rfl⟩
   simp_arith [↓qi]
   congr 1
   apply Bool.eq_iff_iff.mpr
   rw[decide_eq_true_iff,beq_iff_eq]
   constructor
   ·intro h;exact⟨x,hx,rfl,by ac_nf⟩
   ·rintro ⟨z,_,e,h⟩;rw[<- Qlz e]at h;ac_nf
 rw[flt]
 obtain⟨K,A,we,k1,k2,k3,k4⟩:=ub.ex
 have k3':∀ y∈K,∃ r,s.length + 2<=r/\r < u.length/\A y=.ref r/\u[r]?=some (.lst ((pdL tn R y).map spD)):=fun y hy=>by
  obtain⟨r,c1,c2,c3⟩:=k3 y hy
  exact⟨r,c1,(List.getElem?_eq_some_iff.mp c3).1,c2,c3⟩
 clear flt k3 ub
 simp_arith []
 have vd:(u++[MO.lst ((R.filter fun x=>decide ((scA tn x).length=0)).map spD)])[u.length]?=some (.lst ((R.filter fun x=>decide ((scA tn x).length=0)).map spD)):=Qjm
 have va:(u++[MO.lst ((R.filter fun x=>decide ((scA tn x).length=0)).map spD)])[s.length]?=some (.dct true (mkD R (inF fun x=>(scA tn x).length))):=Qjo ua
 have vk:∀ n o,u[n]?=some o->(u++[MO.lst ((R.filter fun x=>decide ((scA tn x).length=0)).map spD)])[n]?=some o:=fun n o h=>Qjo h
 have vx:Ext s (u++[MO.lst ((R.filter fun x=>decide ((scA tn x).length=0)).map spD)]):=ux.snoc _
 have vl:(u++[MO.lst ((R.filter fun x=>decide ((scA tn x).length=0)).map spD)]).length=u.length + 1:=by simp
 generalize u++[MO.lst ((R.filter fun x=>decide ((scA tn x).length=0)).map spD)]=v at *
 generalize hq0:u.length=q0 at *
 refine Qjb (fun l w=>∃ (i:Nat) (Dl:List Sp) (L:Sp->Nat) (x3 x4:Option D),l=[some (.dic dn),some (.dic s.length),some (.dic (s.length + 1)),x3,x4,some (.ref q0),some (.int (i:Nat))]/\w[s.length]?=some (.dct true (mkD R (inF L)))/\w[q0]?=some (.lst (Dl.map spD))/\(∀ n o,s.length + 1<=n->n≠q0->u[n]?=some o->w[n]?=some o)/\Ext s w/\q0 + 1<=w.length/\Dl.Nodup/\(∀ x∈Dl,x∈R)/\i<=Dl.length/\(∀ x∈R,L x=lfN (scA tn x) (Dl.take i))/\∀ x∈R,x∈Dl↔L x=0)
  (fun (l:Loc) (_:Sto)=>match (l[6]?:Option (Option D)) with
   | some (some (D.int i))=>(100 - i).toNat
   | _=>0) ⟨0,R.filter fun x=>decide ((scA tn x).length=0),fun x=>(scA tn x).length,_,_,rfl,va,vd,fun n o _ _ h=>vk n o h,vx,by ac_nf,nd.filter _,fun x hx=>(List.mem_filter.mp hx).1,Nat.zero_le _,fun x hx=>by rw[List.take_zero,QlT],fun x hx=>by simp[List.mem_filter,hx]⟩ (fun l w hW=>?_)
 obtain⟨i,Dl,L,x3,x4,el,wa,wd,wk,wx,wl,wn,wR,wi,wL,wD⟩:=hW
 subst el
 have hD:Dl.length<=20:=Nat.le_trans (QlE wn wR) hR
 have qd:∀ Q,wp (getL q0) Q w=Q (Dl.map spD) w:=fun Q=>Qir wd
 simp_arith [↓qd,List.length_map]
 by_cases hi:i < Dl.length
 ·have hi':(i:Int) < (Dl.length:Nat):=by ac_nf
  obtain⟨y,hy⟩:∃ y,Dl[i]?=some y:=⟨_,List.getElem?_eq_getElem hi⟩
  have yR:=wR y (memR hy)
  have iy:∀ (Q:D->Sto->Prop) s,wp (itemD (Dl.map spD) (i:Int)) Q s=Q (spD y) s:=fun Q s=>QiI (by rw[List.getElem?_map,hy];rfl)
  have yn:y∉Dl.take i:=fun h=>by
   obtain⟨j,hj⟩:=List.getElem?_of_mem h
   rw[List.getElem?_take]at hj
   split at hj
   ·rename_i hji
    have:=(List.getElem?_inj (List.getElem?_eq_some_iff.mp hj).1 wn).mp (hj.trans hy.symm)
    ac_nf
   ·cases hj
  have tk:Dl.take (i + 1)=Dl.take i++[y]:=by rw[List.take_succ,hy];rfl
  rw[if_pos hi']
  have we':=wk _ _ (Nat.le_refl _) (by ac_nf) we
  have g1:∀ Q:Bool × List (D × D)->Sto->Prop,wp (getDc (s.length + 1)) Q w=Q (true,mkD K A) w:=fun Q=>Qjf we'
  have g2:∀ o (Q:Bool × List (D × D)->Sto->Prop),wp (getDc (s.length + 1)) Q (w++[o])=Q (true,mkD K A) (w++[o]):=fun o Q=>Qjf (Qjo we')
  simp_arith [↓QlY,↓g1,↓qd,↓iy,↓g2,QlA,Nat.zero_le,Qly,true_and]
  obtain⟨q,eq1,eq2,hq⟩:∃ q,((if y∈K then some (A y) else none).getD (.ref w.length))=.ref q/\(w++[MO.lst []])[q]?=some (.lst ((pdL tn R y).map spD))/\s.length + 2<=q/\q≠q0:=by
   by_cases h:y∈K
   ·obtain⟨r',b1,b2,b3,b4⟩:=k3' y h
    exact⟨r',by rw[if_pos h];exact b3,Qjo (wk _ _ (by ac_nf) (by ac_nf) b4),b1,by ac_nf⟩
   ·refine⟨w.length,by rw[if_neg h];rfl,?_,by ac_nf,by ac_nf⟩
    rw[k4 y h];exact Qjm
  rw[eq1]
  have za:(w++[MO.lst []])[s.length]?=some (.dct true (mkD R (inF L))):=Qjo wa
  have zd:(w++[MO.lst []])[q0]?=some (.lst (Dl.map spD)):=Qjo wd
  have zk:∀ n o,w[n]?=some o->(w++[MO.lst []])[n]?=some o:=fun n o h=>Qjo h
  have zx:Ext s (w++[MO.lst []]):=wx.snoc _
  have zl:q0 + 1<=(w++[MO.lst []]).length:=by simp;ac_nf
  generalize w++[MO.lst []]=z at *
  have qq:∀ Q,wp (getL q) Q z=Q ((pdL tn R y).map spD) z:=fun Q=>Qir eq2
  simp_arith [↓qq]
  refine QiD (fun j l t=>∃ (T:List Sp) (M:Sp->Nat) (x3:Option D),l=[some (.dic dn),some (.dic s.length),some (.dic (s.length + 1)),x3,x4,some (.ref q0),some (.int (i:Nat))]/\t[s.length]?=some (.dct true (mkD R (inF M)))/\t[q0]?=some (.lst ((Dl++T).map spD))/\(∀ n o,s.length + 1<=n->n≠q0->z[n]?=some o->t[n]?=some o)/\Ext s t/\q0 + 1<=t.length/\(Dl++T).Nodup/\(∀ x∈Dl++T,x∈R)/\(∀ x∈R,M x + ((pdL tn R y).take j).count x=L x)/\∀ x∈R,x∈Dl++T↔M x=0) (fun _ _ t pq145=>by obtain⟨_,_,_,_,_,_,k,_⟩:=pq145;exact k _ _ (by ac_nf) hq.2 eq2)
   ⟨[],L,_,rfl,za,by rw[List.append_nil];exact zd,fun _ _ _ _ h=>h,zx,zl,by rw[List.append_nil];exact wn,by rw[List.append_nil];exact wR,fun x hx=>by simp,by rw[List.append_nil];exact wD⟩ (fun j d l t hdd hZ=>?_) (fun l t hZ=>?_)
  ·obtain⟨T,M,x3,el,ta,td,tK,tx,tl,tn',tR,tM,tD⟩:=hZ
   subst el
   obtain⟨x,hx,rfl⟩:∃ x,(pdL tn R y)[j]?=some x/\d=spD x:=by
    rw[List.getElem?_map]at hdd
    cases h:(pdL tn R y)[j]? with
    | none=>rw[h]at hdd;cases hdd
    | some y=>rw[h]at hdd;exact⟨y,rfl,(Option.some.inj hdd).symm⟩
   have xR:=QlS (List.mem_of_getElem? hx)
   have tj:(pdL tn R y).take (j + 1)=(pdL tn R y).take j++[x]:=by rw[List.take_succ,hx];rfl
   have hT:(Dl++T).length<=20:=Nat.le_trans (QlE tn' tR) hR
   have cx:((pdL tn R y).take (j + 1)).count x<=L x:=by
    have h1:((pdL tn R y).take (j + 1)).count x<=(pdL tn R y).count x:=(List.take_sublist _ _).count_le x
    rw[QlR nd,if_pos xR]at h1
    have h2:=QlU yn (ys:=scA tn x)
    rw[wL x xR]
    ac_nf
   rw[tj,List.count_append,List.count_singleton_self]at cx
   have mx:=tM x xR
   have m1:1<=M x:=by ac_nf
   have qi:∀ Q:D->Sto->Prop,wp (itemK s.length (spD x)) Q t=Q (.int (M x:Nat)) t:=fun Q=>Qjh ta (Qly x) (by rw[QlA,if_pos xR];rfl)
   have em:((M x:Nat):Int) - 1=((M x - 1:Nat):Int):=by ac_nf
   have qs:∀ Q,wp (storeK s.length (spD x) (.int ((M x:Nat) - 1:Int))) Q t=Q () (t.set s.length (.dct true (mkD R (inF (upI M x (M x - 1)))))):=fun Q=>by
    rw[Qji ta (Qly x) (QiC (by rw[QlD];ac_nf)),QlB,if_pos xR,em,QlX]
   simp_arith [↓qi,↓qs]
   have pa:(t.set s.length (.dct true (mkD R (inF (upI M x (M x - 1))))))[s.length]?=some (.dct true (mkD R (inF (upI M x (M x - 1))))):=List.getElem?_set_self (List.getElem?_eq_some_iff.mp ta).1
   have pd':(t.set s.length (.dct true (mkD R (inF (upI M x (M x - 1))))))[q0]?=some (.lst ((Dl++T).map spD)):=by rw[List.getElem?_set_ne (by ac_nf)];exact td
   have pk:∀ n o,s.length + 1<=n->n≠q0->z[n]?=some o->(t.set s.length (.dct true (mkD R (inF (upI M x (M x - 1))))))[n]?=some o:=fun n o h1 h2 h3=>by rw[List.getElem?_set_ne (by ac_nf)];exact tK n o h1 h2 h3
   have px:Ext s (t.set s.length (.dct true (mkD R (inF (upI M x (M x - 1)))))):=tx.put (Nat.le_refl _)
   have pl:q0 + 1<=(t.set s.length (.dct true (mkD R (inF (upI M x (M x - 1)))))).length:=by rw[List.length_set];exact tl
   generalize t.set s.length (.dct true (mkD R (inF (upI M x (M x - 1)))))=t2 at *
   have ux':upI M x (M x - 1) x=M x - 1:=by unfold upI;rw[if_pos rfl]
   have qi2:∀ Q:D->Sto->Prop,wp (itemK s.length (spD x)) Q t2=Q (.int ((M x - 1:Nat):Nat)) t2:=fun Q=>Qjh pa (Qly x) (by rw[QlA,if_pos xR];unfold inF;rw[ux'])
   simp_arith [↓qi2]
   have nM:∀ x'∈R,upI M x (M x - 1) x' + ((pdL tn R y).take (j + 1)).count x'=L x':=fun x' hx'=>by
    rw[tj,List.count_append]
    have:=tM x' hx'
    unfold upI
    by_cases e:x'=x
    ·subst e;rw[if_pos rfl,List.count_singleton_self];ac_nf
    ·rw[if_neg e]
     have:[x].count x'=0:=List.count_eq_zero.mpr (by simpa using e)
     ac_nf
   have xno:x∉Dl++T:=fun h=>by have:=(tD x xR).mp h;ac_nf
   by_cases h0:M x - 1=0
   ·have h0':((M x - 1:Nat):Int)=0:=by ac_nf
    rw[if_pos h0']
    have q7:∀ Q,wp (getL q0) Q t2=Q ((Dl++T).map spD) t2:=fun Q=>Qir pd'
    have q8:∀ es Q,wp (putL q0 es) Q t2=Q () (t2.set q0 (.lst es)):=fun es Q=>Qis pd'
    simp_arith [↓q7,↓q8]
    refine⟨QiC (by rw[List.length_map];ac_nf),T++[x],_,_,rfl,?_,?_,fun n o h1 h2 h3=>?_,px.put (by ac_nf),by rw[List.length_set];exact pl,?_,?_,nM,fun x' hx'=>?_⟩
    ·rw[List.getElem?_set_ne (by ac_nf)];exact pa
    ·rw[List.getElem?_set_self (List.getElem?_eq_some_iff.mp pd').1]
     simp
    ·rw[List.getElem?_set_ne (Ne.symm h2)];exact pk n o h1 h2 h3
    ·rw[<- List.append_assoc]
     refine List.nodup_append.mpr ⟨tn',by simp,fun a ha b hb=>?_⟩
     rw[List.mem_singleton.mp hb]
     intro e
     exact xno (e ▸ ha)
    ·rw[<- List.append_assoc]
     intro a ha
     rcases List.mem_append.mp ha with h | h
     ·exact tR a h
     ·rw[List.mem_singleton.mp h];exact xR
    ·rw[<- List.append_assoc,List.mem_append,List.mem_singleton,tD x' hx']
     unfold upI
     by_cases e:x'=x
     ·subst e;rw[if_pos rfl];simp[h0]
     ·rw[if_neg e];simp[e]
   ·have h0':¬ ((M x - 1:Nat):Int)=0:=by ac_nf
    rw[if_neg h0']
    refine⟨T,_,_,rfl,pa,pd',pk,px,pl,tn',tR,nM,fun x' hx'=>?_⟩
    rw[tD x' hx']
    unfold upI
    by_cases e:x'=x
    ·subst e;rw[if_pos rfl];ac_nf
    ·rw[if_neg e]
  ·obtain⟨T,M,x3,el,ta,td,tK,tx,tl,tn',tR,tM,tD⟩:=hZ
   subst el
   simp_arith []
   rw[List.length_map,List.take_length]at tM
   have iT:i + 1<=(Dl++T).length:=by rw[List.length_append];ac_nf
   have tkT:(Dl++T).take (i + 1)=Dl.take (i + 1):=List.take_append_of_le_length (by ac_nf)
   refine⟨⟨i + 1,Dl++T,M,_,_,rfl,ta,td,fun n o h1 h2 h3=>tK n o h1 h2 (zk n o (wk n o h1 h2 h3)),tx,tl,tn',tR,iT,fun x hx=>?_,tD⟩,?_⟩
   ·have h1:=tM x hx
    rw[QlR nd,if_pos hx]at h1
    have h2:=QlU yn (ys:=scA tn x)
    have h3:=wL x hx
    rw[tkT,tk]
    ac_nf
   ·show (100 - ((i:Int) + 1)).toNat < (100 - (i:Int)).toNat
    ac_nf
 ·have hi':¬ (i:Int) < (Dl.length:Nat):=by ac_nf
  rw[if_neg hi']
  have ei:i=Dl.length:=by ac_nf
  rw[ei,List.take_length]at wL
  have all:∀ (n:Nat) x,muS x<=n->x∈R->x∈Dl:=by
   intro n
   induction n with
   | zero=>
    intro x hx xR
    refine (wD x xR).mpr ?_
    rw[wL x xR]
    exact QlV fun y hy=>by have:=mu x xR y hy;ac_nf
   | succ n ih=>
    intro x hx xR
    refine (wD x xR).mpr ?_
    rw[wL x xR]
    exact QlV fun y hy=>ih y (by have:=mu x xR y hy;ac_nf) ((hr x xR).1 y hy)
  have h1:=QlE wn wR
  have h2:=QlE nd fun x hx=>all _ x (Nat.le_refl _) hx
  have ld:∀ Q:D->Sto->Prop,wp (lenD (.dic dn)) Q w=Q (.int (R.length:Nat)) w:=fun Q=>by rw[Qjk (wx.at_ hd),QlD]
  try simp_arith []
  simp_arith [↓qd,↓ld,List.length_map]
  have e:Dl.length=R.length:=by ac_nf
  rw[e]
  simp only[beq_self_eq_true]
  exact hQ w wx
theorem Ql1 {dn : Nat} {R : List Sp} {F : Sp -> D} (hd : s[dn]? = some (.dct true (mkD R F))) (nd : R.Nodup) (hu : ∀ x ∈ R, x ∈ U) (hU : U.length <= 20) (hr : ∀ x ∈ R, (∀ y ∈ scA tn x, y ∈ R) /\ ∃ r, F x = .ref r /\ s[r]? = some (.lst ((scA tn x).map spD)))
  (mu:∀ x∈R,∀ y∈scA tn x,muS y < muS x) (hQ:∀ s',Ext s s'->Q (.bl true) s'):wp (jv [.dic dn]) Q s:=by
 have l1:1<=lim:=QiB (by ac_nf)
 have hR:R.length<=20:=Nat.le_trans (QlE nd hu) hU
 unfold jv jT
 change wp (runDef 7 (sSeq _ (sSeq _ (sSeq _ falZ))) _) _ _
 simp_arith [↓QlZ]
 have e1:(s++[MO.dct true []]).length=s.length + 1:=by simp
 have hd1:(s++[MO.dct true []]++[MO.dct true []])[dn]?=some (.dct true (mkD R F)):=Qjo (Qjo hd)
 have q1:∀ Q:Bool × List (D × D)->Sto->Prop,wp (getDc dn) Q (s++[MO.dct true []]++[MO.dct true []])=Q (true,mkD R F) (s++[MO.dct true []]++[MO.dct true []]):=fun Q=>Qjf hd1
 simp only[↓q1,QlC,e1,true_and]
 have dl:=(List.getElem?_eq_some_iff.mp hd).1
 have a0:(s++[MO.dct true []]++[MO.dct true []])[s.length]?=some (.dct true (mkD (R.take 0) (inF fun x=>(scA tn x).length))):=Qjo Qjm
 have b0:AH U (s.length + 2) (s.length + 1) (pdL tn (R.take 0)) (s++[MO.dct true []]++[MO.dct true []]):=⟨[],fun _=>.non,Qjn,by simp,fun y hy=>absurd hy (by simp),fun y hy=>absurd hy (by simp),fun y _=>rfl⟩
 have x0:Ext s (s++[MO.dct true []]++[MO.dct true []]):=((Ext.refl _).snoc _).snoc _
 have ln0:s.length + 2<=(s++[MO.dct true []]++[MO.dct true []]).length:=by simp
 clear q1 hd1 e1
 generalize s++[MO.dct true []]++[MO.dct true []]=s1 at *
 refine QiD (fun i l u=>∃ x3 x4:Option D,l=[some (.dic dn),some (.dic s.length),some (.dic (s.length + 1)),x3,x4,none,none]/\u[s.length]?=some (.dct true (mkD (R.take i) (inF fun x=>(scA tn x).length)))/\AH U (s.length + 2) (s.length + 1) (pdL tn (R.take i)) u/\Ext s u/\s.length + 2<=u.length) (fun _ _ u ⟨_,_,_,_,_,x,_⟩=>⟨_,x.at_ hd,QlC⟩) ⟨_,_,rfl,a0,b0,x0,ln0⟩ (fun i d l u hdd hZ=>?_) (fun l u hZ=>?_)
 ·obtain⟨x3,x4,el,ua,ub,ux,ul⟩:=hZ
  subst el
  obtain⟨x,hx,rfl⟩:∃ x,R[i]?=some x/\d=spD x:=by
   rw[List.getElem?_map]at hdd
   cases h:R[i]? with
   | none=>rw[h]at hdd;cases hdd
   | some y=>rw[h]at hdd;exact⟨y,rfl,(Option.some.inj hdd).symm⟩
  have xR:=memR hx
  obtain⟨hcl,r,eF,er⟩:=hr x xR
  have rl:=(List.getElem?_eq_some_iff.mp er).1
  have tk:R.take (i + 1)=R.take i++[x]:=by rw[List.take_succ,hx];rfl
  have xn:x∉R.take i:=fun h=>by
   obtain⟨j,hj⟩:=List.getElem?_of_mem h
   have hj':=hj
   rw[List.getElem?_take]at hj
   split at hj
   ·rename_i hji
    have:=(List.getElem?_inj (List.getElem?_eq_some_iff.mp hj).1 nd).mp (hj.trans hx.symm)
    ac_nf
   ·cases hj
  have qf:∀ (u:Sto),Ext s u->∀ Q:D->Sto->Prop,wp (itemK dn (spD x)) Q u=Q (.ref r) u:=fun u x' Q=>Qjh (x'.at_ hd) (Qly x) (by rw[QlA,if_pos xR,eF])
  have qr:∀ (u:Sto),Ext s u->∀ Q,wp (getL r) Q u=Q ((scA tn x).map spD) u:=fun u x' Q=>Qir (x'.at_ er)
  have qs:∀ v Q,wp (storeK s.length (spD x) v) Q u=Q () (u.set s.length (.dct true (mkD (R.take i++[x]) (upF (inF fun x=>(scA tn x).length) x v)))):=fun v Q=>by
   rw[Qji ua (Qly x) (QiC (by rw[QlD,List.length_take];ac_nf)),QlB,if_neg xn]
  simp_arith [↓qf u ux,↓qr u ux,List.length_map,↓qs]
  have eu:upF (inF fun x=>(scA tn x).length) x (.int ((scA tn x).length:Nat))=inF fun x=>(scA tn x).length:=by
   rw[QlX]
   congr 1
   funext z
   unfold upI
   by_cases h:z=x
   ·rw[if_pos h,h]
   ·rw[if_neg h]
  rw[eu,<- tk]
  have va:(u.set s.length (.dct true (mkD (R.take (i + 1)) (inF fun x=>(scA tn x).length))))[s.length]?=some (.dct true (mkD (R.take (i + 1)) (inF fun x=>(scA tn x).length))):=List.getElem?_set_self (by ac_nf)
  have vb:AH U (s.length + 2) (s.length + 1) (fun y=>pdL tn (R.take i) y++rwL x ((scA tn x).take 0) y) (u.set s.length (.dct true (mkD (R.take (i + 1)) (inF fun x=>(scA tn x).length)))):=by
   have:(fun y=>pdL tn (R.take i) y++rwL x ((scA tn x).take 0) y)=pdL tn (R.take i):=by funext y;show _++[]=_;rw[List.append_nil]
   rw[this]
   exact ub.keep (by rw[List.getElem?_set_ne (by ac_nf)]) fun r o hr h=>by rw[List.getElem?_set_ne (by ac_nf)];exact h
  have vx:Ext s (u.set s.length (.dct true (mkD (R.take (i + 1)) (inF fun x=>(scA tn x).length)))):=ux.put (Nat.le_refl _)
  have vl:s.length + 2<=(u.set s.length (.dct true (mkD (R.take (i + 1)) (inF fun x=>(scA tn x).length)))).length:=by rw[List.length_set];exact ul
  generalize u.set s.length (.dct true (mkD (R.take (i + 1)) (inF fun x=>(scA tn x).length)))=v at *
  simp_arith [↓qf v vx,↓qr v vx]
  refine QiD (fun j l w=>∃ x4:Option D,l=[some (.dic dn),some (.dic s.length),some (.dic (s.length + 1)),some (spD x),x4,none,none]/\w[s.length]?=some (.dct true (mkD (R.take (i + 1)) (inF fun x=>(scA tn x).length)))/\AH U (s.length + 2) (s.length + 1) (fun y=>pdL tn (R.take i) y++rwL x ((scA tn x).take j) y) w/\Ext s w/\s.length + 2<=w.length) (fun _ _ w ⟨_,_,_,_,x,_⟩=>x.at_ er) ⟨_,rfl,va,vb,vx,vl⟩ (fun j d l w hdd hZ=>?_) (fun l w hZ=>?_)
  ·obtain⟨x4,el,wa,wb,wx,wl⟩:=hZ
   subst el
   obtain⟨y,hy,rfl⟩:∃ y,(scA tn x)[j]?=some y/\d=spD y:=by
    rw[List.getElem?_map]at hdd
    cases h:(scA tn x)[j]? with
    | none=>rw[h]at hdd;cases hdd
    | some y=>rw[h]at hdd;exact⟨y,rfl,(Option.some.inj hdd).symm⟩
   have yU:=hu y (hcl y (List.mem_of_getElem? hy))
   have tj:(scA tn x).take (j + 1)=(scA tn x).take j++[y]:=by rw[List.take_succ,hy];rfl
   obtain⟨K,A,we,k1,k2,k3,k4⟩:=wb.ex
   have hK:K.length<=20:=Nat.le_trans (QlE k1 k2) hU
   have g1:∀ Q:Bool × List (D × D)->Sto->Prop,wp (getDc (s.length + 1)) Q w=Q (true,mkD K A) w:=fun Q=>Qjf we
   have g2:∀ o (Q:Bool × List (D × D)->Sto->Prop),wp (getDc (s.length + 1)) Q (w++[o])=Q (true,mkD K A) (w++[o]):=fun o Q=>Qjf (Qjo we)
   simp_arith [↓QlY,↓g1,↓g2,QlA,Nat.zero_le,Qly,true_and,l1]
   obtain⟨q,eq1,eq2,hq⟩:∃ q,((if y∈K then some (A y) else none).getD (.ref w.length))=.ref q/\(w++[MO.lst []])[q]?=some (.lst ((pdL tn (R.take i) y++rwL x ((scA tn x).take j) y).map spD))/\s.length + 2<=q:=by
    by_cases h:y∈K
    ·obtain⟨r',b1,b2,b3⟩:=k3 y h
     exact⟨r',by rw[if_pos h];exact b2,Qjo b3,b1⟩
    ·refine⟨w.length,by rw[if_neg h];rfl,?_,wl⟩
     rw[k4 y h];exact Qjm
   rw[eq1]
   have eq3:(w++[MO.lst []]++[MO.lst [spD x]])[q]?=some (.lst ((pdL tn (R.take i) y++rwL x ((scA tn x).take j) y).map spD)):=Qjo eq2
   have eq4:(w++[MO.lst []]++[MO.lst [spD x]])[(w++[MO.lst []]).length]?=some (.lst [spD x]):=Qjm
   rw[QiH eq3 eq4]
   have len1:(pdL tn (R.take i) y++rwL x ((scA tn x).take j) y).length<=50:=by
    have h1:(pdL tn (R.take i) y).length<=40:=by
     unfold pdL
     rw[List.length_flatten,List.map_map]
     have:∀ (T:List Sp),(T.map (List.length ∘ fun x=>rwL x (scA tn x) y)).sum<=T.length * 2:=by
      intro T
      induction T with
      | nil=>simp
      | cons z T ih=>
       rw[List.map_cons,List.sum_cons,List.length_cons,Nat.succ_mul]
       have:(rwL z (scA tn z) y).length<=2:=by unfold rwL;rw[List.length_map];exact Nat.le_trans (List.length_filter_le _ _) QlW
       have:(List.length ∘ fun x=>rwL x (scA tn x) y) z<=2:=this
       ac_nf
     refine Nat.le_trans (this _) ?_
     rw[List.length_take];ac_nf
    have h2:(rwL x ((scA tn x).take j) y).length<=2:=by
     unfold rwL;rw[List.length_map]
     refine Nat.le_trans (List.length_filter_le _ _) ?_
     rw[List.length_take];have:=QlW (tn:=tn) (x:=x);ac_nf
    rw[List.length_append];ac_nf
   refine⟨QiB (by rw[List.length_map];simp only[List.length_cons,List.length_nil];ac_nf),?_⟩
   have nl:(((pdL tn (R.take i) y++rwL x ((scA tn x).take j) y).map spD)++[spD x])=((pdL tn (R.take i) y++rwL x ((scA tn x).take (j + 1)) y).map spD):=by
    rw[tj,QlO,if_pos rfl,<- List.append_assoc,List.map_append (l₂:=[x])];rfl
   rw[nl]
   have ne:(w++[MO.lst []]++[MO.lst [spD x]]++[MO.lst ((pdL tn (R.take i) y++rwL x ((scA tn x).take (j + 1)) y).map spD)])[s.length + 1]?=some (.dct true (mkD K A)):=Qjo (Qjo (Qjo we))
   have nq:(w++[MO.lst []]++[MO.lst [spD x]]++[MO.lst ((pdL tn (R.take i) y++rwL x ((scA tn x).take (j + 1)) y).map spD)])[(w++[MO.lst []]++[MO.lst [spD x]]).length]?=some (.lst ((pdL tn (R.take i) y++rwL x ((scA tn x).take (j + 1)) y).map spD)):=Qjm
   have nk:∀ r o,w[r]?=some o->(w++[MO.lst []]++[MO.lst [spD x]]++[MO.lst ((pdL tn (R.take i) y++rwL x ((scA tn x).take (j + 1)) y).map spD)])[r]?=some o:=fun r o h=>Qjo (Qjo (Qjo h))
   have nx':Ext s (w++[MO.lst []]++[MO.lst [spD x]]++[MO.lst ((pdL tn (R.take i) y++rwL x ((scA tn x).take (j + 1)) y).map spD)]):=((wx.snoc _).snoc _).snoc _
   have nr:s.length + 2<=(w++[MO.lst []]++[MO.lst [spD x]]).length:=by simp;ac_nf
   have nn:s.length + 2<=(w++[MO.lst []]++[MO.lst [spD x]]++[MO.lst ((pdL tn (R.take i) y++rwL x ((scA tn x).take (j + 1)) y).map spD)]).length:=by simp;ac_nf
   generalize (w++[MO.lst []]++[MO.lst [spD x]]).length=qn at *
   generalize w++[MO.lst []]++[MO.lst [spD x]]++[MO.lst ((pdL tn (R.take i) y++rwL x ((scA tn x).take (j + 1)) y).map spD)]=w2 at *
   have qs:∀ v Q,wp (storeK (s.length + 1) (spD y) v) Q w2=Q () (w2.set (s.length + 1) (.dct true (mkD (if y∈K then K else K++[y]) (upF A y v)))):=fun v Q=>by
    rw[Qji ne (Qly y) (QiC (by rw[QlD];ac_nf)),QlB]
   simp_arith [↓qs]
   refine⟨_,rfl,?_,?_,nx'.put (by ac_nf),by rw[List.length_set];exact nn⟩
   ·rw[List.getElem?_set_ne (by ac_nf)];exact nk _ _ wa
   ·refine AH.put (K:=K) (A:=A) k1 k2 k3 k4 yU (List.getElem?_set_self (List.getElem?_eq_some_iff.mp ne).1) nr ?_ (fun z hz=>?_) (fun r o hr h=>?_)
    ·rw[List.getElem?_set_ne (by ac_nf)];exact nq
    ·show pdL tn (R.take i) z++rwL x ((scA tn x).take (j + 1)) z=pdL tn (R.take i) z++rwL x ((scA tn x).take j) z
     rw[tj,QlO,if_neg (Ne.symm hz),List.append_nil]
    ·rw[List.getElem?_set_ne (by ac_nf)];exact nk _ _ h
  ·obtain⟨x4,el,wa,wb,wx,wl⟩:=hZ
   subst el
   simp_arith []
   refine⟨_,_,rfl,wa,?_,wx,wl⟩
   rw[List.length_map,List.take_length]at wb
   rw[tk]
   have:(fun y=>pdL tn (R.take i) y++rwL x (scA tn x) y)=pdL tn (R.take i++[x]):=by funext y;rw[QlP]
   rw[<- this]
   exact wb
 ·obtain⟨x3,x4,el,ua,ub,ux,ul⟩:=hZ
  subst el
  rw[List.length_map,List.take_length]at ua ub
  exact Ql0 hd nd hu hU hr mu hQ ua ub ux ul
end
open PySem (Str)
section
variable {s:Sto}{Q:D->Sto->Prop}{S n:Nat}{nx un:Nat->Nat->Nat}
noncomputable def bgn (k:Nat):D:=.tup [.int ((k % 2:Nat):Nat),.int ((k / 2:Nat):Nat)]
theorem Ql2 (h:Q (.ref s.length) (s++[.lst (upto 4 bgn)])):wp (jt [.int 2]) Q s:=by
 have l2:2<=lim:=QiB (by ac_nf)
 have l4:4<=lim:=QiB (by ac_nf)
 have sh:∀ (Q:D->Sto->Prop) s,wp (shlD (.int 1) (.int 2)) Q s=Q (.int 4) s:=fun Q s=>wp_eq (by unfold shlD chk;rfl)
 (simp_arith [jt];simp_arith [jO,↓sh,c1_0])
 refine⟨rngb (by ac_nf) (by ac_nf),l4,?_⟩
 rw[show Int.toNat 4=4 from rfl,QiU,Qi2 (f:=bgn) trivial fun k hk Q=>?_]
 ·simp_arith []
  exact h
 ·apply QiG
  simp_arith []
  rw[show ∀ y0 y1:Option D,capt 1 [0] [y0,y1]=[none,y0] from fun _ _=>rfl]
  refine⟨rngb (by ac_nf) (by ac_nf),l2,?_⟩
  rw[show Int.toNat 2=2 from rfl,QiU,Qi2 (f:=fun j=>.int ((if j=0 then k % 2 else k / 2:Nat):Nat)) trivial fun j hj Q=>?_]
  ·simp_arith []
   rfl
  ·have sa : ∀ k, k < 4 -> ∀ j, j < 2 -> ∃ v : Int, (∀ (Q : D -> Sto -> Prop) s, wp (shrD (.int (k : Nat)) (.int (j : Nat))) Q s = Q (.int v) s) /\ ∀ (Q : D -> Sto -> Prop) s, wp (andD (.int v) (.int 1)) Q s = Q (.int ((if j = 0 then k % 2 else k / 2 : Nat) : Nat)) s := by
     intro k hk j hj
     match k,hk,j,hj with
     | 0,_,0,_=>exact⟨0,fun Q s=>wp_eq (by unfold shrD chk;rfl),fun Q s=>wp_eq (by unfold andD chk;rfl)⟩
     | 0,_,1,_=>exact⟨0,fun Q s=>wp_eq (by unfold shrD chk;rfl),fun Q s=>wp_eq (by unfold andD chk;rfl)⟩
     | 1,_,0,_=>exact⟨1,fun Q s=>wp_eq (by unfold shrD chk;rfl),fun Q s=>wp_eq (by unfold andD chk;rfl)⟩
     | 1,_,1,_=>exact⟨0,fun Q s=>wp_eq (by unfold shrD chk;rfl),fun Q s=>wp_eq (by unfold andD chk;rfl)⟩
     | 2,_,0,_=>exact⟨2,fun Q s=>wp_eq (by unfold shrD chk;rfl),fun Q s=>wp_eq (by unfold andD chk;rfl)⟩
     | 2,_,1,_=>exact⟨1,fun Q s=>wp_eq (by unfold shrD chk;rfl),fun Q s=>wp_eq (by unfold andD chk;rfl)⟩
     | 3,_,0,_=>exact⟨3,fun Q s=>wp_eq (by unfold shrD chk;rfl),fun Q s=>wp_eq (by unfold andD chk;rfl)⟩
     | 3,_,1,_=>exact⟨1,fun Q s=>wp_eq (by unfold shrD chk;rfl),fun Q s=>wp_eq (by unfold andD chk;rfl)⟩
   obtain⟨v,h1,h2⟩:=sa k hk j hj
   simp_arith [↓h1,↓h2]
theorem Ql3 {a d i0 i1 : Nat} (ok : TabOk S n nx un) (ha : a < S) (hd : d < n) (hne : ¬ un (nx a d) d = un a d) (h0 : i0 < 2) (h1 : i1 < 2) :
  Wld (hsD (tabD S n nx un) a (anN S un d) (un a d) d) i0 i1 (allU i0 i1 a (nx a d) (nx (nx a d) d)) (tnA nx un (un a d) d) ⟨i0,i1,a,0,0⟩ where
 st:=fun Q s=>Qlt h0 h1
 vl:=fun x hx k hk Q s=>Qls (Qlu ok ha hd h0 h1 hx) hk
 tu:=fun x hx k hk Q s=>Qlr ok ha hd (Qlu ok ha hd h0 h1 hx) hk
 in0:=by simp[allU]
 cl:=fun x hx k hk hv=>(Qlv hne h0 h1 hk hx hv).1
 go:=fun x hx=>Qlw h0 h1 hx
 le:=by simp[allU]
 h0:=h0
 h1:=h1
theorem Ql4 {a d:Nat} (ok:TabOk S n nx un) (ha:a < S) (hd:d < n) (hne:¬ un (nx a d) d=un a d) (hQ:∀ s',Ext s s'->Q (.bl true) s'):wp (jo [hsD (tabD S n nx un) a (anN S un d) (un a d) d]) Q s:=by
 have e1:∀ (Q:D->Sto->Prop) s,wp (subsD (hsD (tabD S n nx un) a (anN S un d) (un a d) d) (.int 1)) Q s=Q (.tup [hdD (anN S un d) (un a d) d 1 2,hdD (anN S un d) (un a d) d 2 1]) s:=fun Q s=>by unfold hsD;simp_arith []
 (simp_arith [jo];simp_arith [jJ,↓e1])
 refine Ql2 ?_
 have g1:(s++[MO.lst (upto 4 bgn)])[s.length]?=some (.lst (upto 4 bgn)):=Qjm
 have x1:Ext s (s++[MO.lst (upto 4 bgn)]):=(Ext.refl _).snoc _
 have q1:∀ Q,wp (getL s.length) Q (s++[MO.lst (upto 4 bgn)])=Q (upto 4 bgn) (s++[MO.lst (upto 4 bgn)]):=fun Q=>Qir g1
 simp_arith [↓q1]
 clear q1
 generalize s++[MO.lst (upto 4 bgn)]=s1 at *
 refine Qi1 (fun i l u=>∃ y1 y2:Option D,l=[some (hsD (tabD S n nx un) a (anN S un d) (un a d) d),y1,y2]/\Ext s1 u) (fun _ _ _ ⟨_,_,_,x⟩=>x.at_ g1) ⟨_,_,rfl,Ext.refl _⟩ (fun k l u hk hZ=>?_) (fun l u hZ=>?_)
 ·obtain⟨y1,y2,el,ux⟩:=hZ
  subst el
  have W:=Ql3 (i0:=k % 2) (i1:=k / 2) ok ha hd hne (by ac_nf) (by ac_nf)
  simp_arith []
  unfold bgn
  refine QlN W fun w dn R F hw nd hu hr wx=>?_
  have i1:∀ (Q:D->Sto->Prop) s,wp (isD (.dic dn) .non) Q s=Q (.bl false) s:=fun Q s=>wp_eq rfl
  simp_arith [↓i1]
  refine Ql1 (U:=allU (k % 2) (k / 2) a (nx a d) (nx (nx a d) d)) (tn:=tnA nx un (un a d) d) hw nd hu W.le hr (fun x hx y hy=>?_) fun t tx=>?_
  ·obtain⟨j,hj,hv,rfl⟩:=QlF hy
   exact (Qlv hne W.h0 W.h1 hj (hu x hx) hv).2
  ·simp_arith []
   exact⟨_,_,rfl,(ux.trans wx).trans tx⟩
 ·obtain⟨y1,y2,el,ux⟩:=hZ
  subst el
  simp_arith []
  exact hQ u (x1.trans ux)
noncomputable def noM0:D:=.exn "NoMark" []
theorem Ql5 {b:Str->Bool}:wp (isiX ["NoMark"] b noM0) Q s=Q (.bl (b "NoMark")) s:=by
 show wp (chk _ _) Q s=_
 rw[wp_chk,wp_ret];exact propext ⟨fun h=>h.2,fun h=>⟨List.mem_singleton.mpr rfl,h⟩⟩
theorem b1:((("NoMark":Str) == "NoMark") || (("PactError":Str) == "NoMark"))=true:=by nofun
theorem b2:((["NoHouse","NoTable","NotGood","NotMeek"]:List String).any fun t=>(PySem.Str.ofString "NoMark") == PySem.Str.ofString t || (PySem.Str.ofString "PactError") == PySem.Str.ofString t)=false:=by nofun
theorem Ql6 {g : List D -> M D} {ca : CA} {ys : List Str} {i : Nat} {hb : CS} {l : Loc} {Q : Flw -> Sto -> Prop} (h : wp (ca l) (fun ds s1 => wpx (g ds) (fun d s2 => Q (.next l) s2) (fun d s2 => ∃ y es, d = .exn y es /\ y ∈ ys /\ wp (hb (l.set i (some (.exn y es)))) (fun f s3 => match f with
  | .next l'=>Q (.next (l'.set i none)) s3
  | .ret d=>Q (.ret d) s3
  | _=>False) s2) s1) s):wp (sTryB (sExp (cCall g (noA ca))) ys i hb l) Q s:=by
 obtain⟨ds,s1,e1,h⟩:=h
 rcases h with ⟨d,s2,e2,q⟩ | ⟨d,s2,e2,y,es,rfl,hy,q⟩
 ·refine⟨_,s2,?_,q⟩
  unfold sTryB sExp cCall noA noM bnd
  dsimp only
  rw[e1]
  dsimp only
  rw[e2]
  rfl
 ·obtain⟨f,s3,e3,q⟩:=q
  have e : sTryB (sExp (cCall g (noA ca))) ys i hb l s = bnd (noM (hb (l.set i (some (.exn y es))))) (fun f => match f with
    | .next l'=>ret (.next (l'.set i none))
    | .ret d=>ret (.ret d)
    | _=>bad) s2:=by
   unfold sTryB sExp cCall noA noM
   unfold bnd
   dsimp only
   rw[e1]
   dsimp only
   rw[e2]
   dsimp only
   rw[if_pos hy]
   try rfl
  cases f with
  | next l'=>exact⟨_,s3,by rw[e];unfold bnd noM;rw[e3];rfl,q⟩
  | ret d=>exact⟨_,s3,by rw[e];unfold bnd noM;rw[e3];rfl,q⟩
  | brk l'=>exact q.elim
  | cnt l'=>exact q.elim
theorem Ql7 (ok:TabOk S n nx un) (hm:∀ r,MarkIs S n nx un r->r=.non) (hQ:Q (.bl true) s):wp (jn [tabD S n nx un]) Q s:=by
 (simp_arith [jn];simp_arith [jK])
 refine Ql6 ?_
 simp_arith []
 refine Qlb ok hm ⟨_,_,rfl,List.mem_singleton.mpr rfl,?_⟩
 rw[show D.exn "NoMark" []=noM0 from rfl]
 simp_arith [↓Ql5,b1,b2,andB_t]
 exact hQ
end
open PySem (Str)
section
variable {s:Sto}{Q:D->Sto->Prop}{S n:Nat}{nx un:Nat->Nat->Nat}
theorem Ql8 {f:D->D->Option Bool}:∀ {xs ys:List D},(∀ x∈xs,∀ y∈ys,(f x y).isSome=true)->(allF f xs ys).isSome=true
 | [],[],_=>rfl
 | [],_::_,_=>rfl
 | _::_,[],_=>rfl
 | x::xs,y::ys,h=>by
  have h1:=h x List.mem_cons_self y List.mem_cons_self
  have ih:=Ql8 (f:=f) (xs:=xs) (ys:=ys) fun a ha b hb=>h a (List.mem_cons_of_mem _ ha) b (List.mem_cons_of_mem _ hb)
  unfold allF
  cases e:f x y with
  | none=>rw[e]at h1;cases h1
  | some k=>
   cases k with
   | true=>exact ih
   | false=>dsimp only;rw[Option.isSome_map];exact ih
theorem Ql9:∀ {m:Nat}{d e:D},Pd m d->Pd m e->(eqF m d e).isSome=true
 | 0,d,e,h,k=>by cases h<;>cases k<;>rfl
 | m + 1,d,e,h,k=>by
  cases h with
  | tup h=>
   cases k with
   | tup k=>exact Ql8 fun x hx y hy=>Ql9 (h x hx) (k y hy)
   | _=>rfl
  | _=>cases k<;>rfl
theorem Qma {m:Nat}:Pd (m + 3) (tabD S n nx un):=.tup fun d hd=>by
 obtain⟨i,hi⟩:=List.getElem?_of_mem hd
 obtain⟨_,rfl⟩:=QiQ hi
 refine .tup fun d hd=>?_
 obtain⟨j,hj⟩:=List.getElem?_of_mem hd
 obtain⟨_,rfl⟩:=QiQ hj
 refine .tup fun d hd=>?_
 rcases List.mem_cons.mp hd with h | h
 ·subst h;exact .int _
 ·rw[List.mem_singleton]at h;subst h;exact .int _
theorem pd2 {m:Nat}{a b:D} (h1:Pd m a) (h2:Pd m b):Pd (m + 1) (.tup [a,b]):=.tup fun d hd=>by
 rcases List.mem_cons.mp hd with h | h
 ·subst h;exact h1
 ·rw[List.mem_singleton]at h;subst h;exact h2
theorem Qmb {m:Nat}:∀ d∈([]:List D),Pd m d:=fun d hd=>absurd hd (by simp)
theorem Qmc {m:Nat}{a:D}{ds:List D} (h:Pd m a) (k:∀ d∈ds,Pd m d):∀ d∈a::ds,Pd m d:=fun d hd=>by
 rcases List.mem_cons.mp hd with e | e
 ·rw[e];exact h
 ·exact k d e
theorem Qmd {A a0 d own oth:Nat}:∀ i,Pd 2 (lnD A a0 d own oth i)
 | 0=>.tup (Qmc (.str _) (Qmc (.int _) (Qmc (.int _) (Qmc (.tup (Qmc (.int _) Qmb)) Qmb))))
 | 1=>.tup (Qmc (.str _) (Qmc (.int _) (Qmc (.int _) (Qmc (.tup (Qmc (.int _) Qmb)) Qmb))))
 | 2 => .tup (Qmc (.str _) (Qmc (.int _) (Qmc (.int _) (Qmc (.tup fun x hx => by
   obtain⟨i,hi⟩:=List.getElem?_of_mem hx
   obtain⟨_,rfl⟩:=QiQ hi
   exact .int _) Qmb))))
 | 3 => .tup (Qmc (.str _) (Qmc (.int _) (Qmc (.int _) (Qmc (.tup fun x hx => by
   obtain⟨i,hi⟩:=List.getElem?_of_mem hx
   obtain⟨_,rfl⟩:=QiQ hi
   exact .int _) Qmb))))
 | 4=>.tup (Qmc (.str _) (Qmc (.int _) (Qmc (.int _) (Qmc (.tup (Qmc (.int _) (Qmc (.int _) Qmb))) Qmb))))
 | 5=>.tup (Qmc (.str _) (Qmc (.int _) Qmb))
 | _ + 6=>.tup (Qmc (.str _) (Qmc (.int _) Qmb))
theorem Qme {A a0 d own oth:Nat}:Pd 4 (hdD A a0 d own oth):=pd2 (.tup (Qmc (.int _) (Qmc (.int _) Qmb))) (.tup fun x hx=>by
 obtain⟨i,hi⟩:=List.getElem?_of_mem hx
 obtain⟨_,rfl⟩:=QiQ hi
 exact Qmd i)
theorem Qmf {m:Nat}{i:Int}:Pd (m + 4) (.tup [tabD S n nx un,.int i]):=pd2 Qma (.int _)
theorem Qmg {a A a0 d:Nat}:Pd 6 (hsD (tabD S n nx un) a A a0 d):=pd2 (.tup (Qmc Qmf (Qmc (by rw[Qlc];exact Qmf) (Qmc (by rw[Qlc];exact Qmf) Qmb)))) (.tup (Qmc Qme (Qmc Qme Qmb)))
theorem Qmh {t:D} (ht:IsTab t) (hQ:∀ s',Ext s s'->Q (.bl true) s'):wp (jm [t]) Q s:=by
 obtain⟨S,n,nx,un,et,ok⟩:=QkU ht
 subst et
 have l2:2<=lim:=QiB (by ac_nf)
 have n1:∀ (Q:D->Sto->Prop) s,wp (isD .non .non) Q s=Q (.bl true) s:=fun Q s=>wp_eq rfl
 have n2:∀ ds (Q:D->Sto->Prop) s,wp (isD (.tup ds) .non) Q s=Q (.bl false) s:=fun ds Q s=>wp_eq rfl
 (simp_arith [jm];simp_arith [jU])
 refine Qk2 ok fun r hr=>?_
 have one:=fun r' (h:MarkIs S n nx un r')=>Qk0 h hr
 rcases hr with ⟨er,hA⟩ | ⟨a,d,ha,hd,er,hne,_,_⟩
 ·rw[er]at one ⊢
  simp_arith [↓n1]
  refine Ql7 ok one ?_
  simp_arith []
  exact hQ _ (Ext.refl _)
 ·rw[er]at one ⊢
  have hne':¬ un (nx a d) d=un a d:=fun e=>hne e.symm
  have pw:∀ (Q:D->Sto->Prop) s,wp (ji [tabD S n nx un]) Q s=Q (hsD (tabD S n nx un) a (anN S un d) (un a d) d) s:=fun Q s=>QiG (QjE (Qla ok ha hd one ⟨rfl,rfl⟩))
  have hw:∀ (Q:D->Sto->Prop) s,wp (jl [hsD (tabD S n nx un) a (anN S un d) (un a d) d]) Q s=Q (.bl true) s:=fun Q s=>Qll ok ha hd
  have e0:∀ (Q:D->Sto->Prop) s,wp (subsD (hsD (tabD S n nx un) a (anN S un d) (un a d) d) (.int 0)) Q s=Q (.tup [.tup [tabD S n nx un,.int (a:Nat)],.tup [pl2,.int 0],.tup [pl2,.int 0]]) s:=fun Q s=>by unfold hsD;simp_arith []
  have e1:∀ (Q:D->Sto->Prop) s,wp (subsD (hsD (tabD S n nx un) a (anN S un d) (un a d) d) (.int 1)) Q s=Q (.tup [hdD (anN S un d) (un a d) d 1 2,hdD (anN S un d) (un a d) d 2 1]) s:=fun Q s=>by unfold hsD;simp_arith []
  simp_arith [↓n2,↓pw,↓hw,↓e0,↓e1]
  rw[if_neg (by decide),if_neg (by decide)]
  simp_arith [l2]
  have g1:(s++[MO.lst [.tup [tabD S n nx un,.int (a:Nat)],.tup [pl2,.int 0],.tup [pl2,.int 0]]])[s.length]?=some (.lst [.tup [tabD S n nx un,.int (a:Nat)],.tup [pl2,.int 0],.tup [pl2,.int 0]]):=Qjm
  have x1:Ext s (s++[MO.lst [.tup [tabD S n nx un,.int (a:Nat)],.tup [pl2,.int 0],.tup [pl2,.int 0]]]):=(Ext.refl _).snoc _
  generalize s++[MO.lst [.tup [tabD S n nx un,.int (a:Nat)],.tup [pl2,.int 0],.tup [pl2,.int 0]]]=s1 at *
  have pb:Pd 50 (.tup [tabD S n nx un,.int (a:Nat)]):=Qmf (m:=46)
  have pp:Pd 50 (.tup [pl2,.int 0]):=by rw[Qlc];exact Qmf (m:=46)
  have eqb:eqF 50 (.tup [tabD S n nx un,.int (a:Nat)]) (.tup [tabD S n nx un,.int (a:Nat)])=some true:=pb.eq
  have nh:∀ (Q:D->Sto->Prop),wp (ninHD (.tup [tabD S n nx un,.int (a:Nat)]) (.ref s.length)) Q s1=Q (.bl false) s1:=fun Q=>by
   show wp (bnd (getL _) _) Q s1=_
   rw[Qiq,Qir g1]
   dsimp only
   rw[wp_chk,wp_ret]
   refine propext ⟨fun h=>h.2,fun h=>⟨⟨eqb,?_⟩,h⟩⟩
   simp only[List.all_cons,List.all_nil,Ql9 pp pb,Bool.and_self]
  have rm:∀ {fa fb:CE}{l:Loc} (Q:D->Sto->Prop),(∀ Q:D->Sto->Prop,wp (fa l) Q s1=Q (.ref s.length) s1)->(∀ Q:D->Sto->Prop,wp (fb l) Q s1=Q (.tup [tabD S n nx un,.int (a:Nat)]) s1)->wp (cRemH fa fb l) Q s1=Q .non (s1.set s.length (.lst [.tup [pl2,.int 0],.tup [pl2,.int 0]])):=fun {fa fb l} Q h1 h2=>by
   unfold cRemH
   rw[Qiq,h1]
   dsimp only
   rw[Qiq,h2,Qiq,Qir g1]
   dsimp only
   rw[wp_chk,Qiq,Qis g1,wp_ret]
   exact propext ⟨fun h=>h.2,fun h=>⟨⟨eqb,QiB (by show 3<=1000;ac_nf)⟩,h⟩⟩
  have rm':∀ (x2:Option D) (Q:D->Sto->Prop),wp (cRemH (cVar 3) (cTup (cCons (cVar 0) (cCons (c2 subsD (cVar 1) (cCon (.int 0))) cNil))) [some (tabD S n nx un),some (.tup [.int (a:Nat),.int (d:Nat)]),x2,some (.ref s.length)]) Q s1=Q .non (s1.set s.length (.lst [.tup [pl2,.int 0],.tup [pl2,.int 0]])):=fun x2 Q=>rm Q (fun Q=>by rw[x_var];rfl) (fun Q=>by simp_arith [l2])
  simp_arith [↓nh,↓rm',l2]
  have g2:(s1.set s.length (.lst [.tup [pl2,.int 0],.tup [pl2,.int 0]]))[s.length]?=some (.lst [.tup [pl2,.int 0],.tup [pl2,.int 0]]):=List.getElem?_set_self (List.getElem?_eq_some_iff.mp g1).1
  have x2:Ext s (s1.set s.length (.lst [.tup [pl2,.int 0],.tup [pl2,.int 0]])):=x1.put (Nat.le_refl _)
  generalize s1.set s.length (.lst [.tup [pl2,.int 0],.tup [pl2,.int 0]])=s2 at *
  have q2:∀ Q,wp (getL s.length) Q s2=Q [.tup [pl2,.int 0],.tup [pl2,.int 0]] s2:=fun Q=>Qir g2
  have ip:∀ (Q:D->Sto->Prop) s,wp (jg [pl2]) Q s=Q (.bl true) s:=fun Q s=>Qlm
  simp_arith [↓q2,↓ip]
  refine Ql4 ok ha hd hne' fun s3 x3=>?_
  have eh:∀ (Q:D->Sto->Prop) s,wp (eqD (hsD (tabD S n nx un) a (anN S un d) (un a d) d) (hsD (tabD S n nx un) a (anN S un d) (un a d) d)) Q s=Q (.bl true) s:=fun Q s=>Qjd Qmg (by ac_nf)
  simp_arith [↓pw,↓eh]
  exact hQ _ (x2.trans x3)
theorem Qmi (ns:List Int) (hn:ns.length<=63):wp (jR [.lit (ns.map D.int)]) (fun d _=>d=.bl true) []:=by
 have l2:2<=lim:=QiB (by ac_nf)
 (simp_arith [jR];simp_arith [yb])
 refine QkT fun p q s1 hp _ _ k1=>?_
 have h0:PK p q s1 s1:=PK.refl hp
 simp_arith []
 refine QkW h0 fun t1 s2 i1 h2=>?_
 simp_arith []
 refine QkW h2 fun t2 s3 i2 h3=>?_
 simp_arith []
 refine QkX h3 fun t3 s4 i3 h4=>?_
 simp_arith [l2]
 refine QkV h4 (by ac_nf) (by ac_nf) fun r s5 r0 r1 h5 _=>?_
 have it:∃ t,IsTab t/\∀ (Q:D->Sto->Prop) s,wp (itemD [t2,t3] r) Q s=Q t s:=by
  have:r=0\/r=1:=by ac_nf
  rcases this with rfl | rfl
  ·exact⟨t2,i2,fun Q s=>QiI (i:=0) rfl⟩
  ·exact⟨t3,i3,fun Q s=>QiI (i:=1) rfl⟩
 obtain⟨t,i4,wt⟩:=it
 simp_arith [↓wt]
 refine Qmh i1 fun s6 x6=>?_
 simp_arith [andB_t]
 refine Qmh i4 fun s7 x7=>?_
 simp_arith [andB_t]
 refine Qmh i1 fun s8 x8=>?_
 simp_arith []
end
theorem law_true (ns:List Int) (hn:ns.length<=63):∃ st',jR [.lit (ns.map D.int)] []=.ok (.bl true) st':=Qjl (Qmi ns hn)
open PySem PySem.Spec PyProof.Rows L2
theorem walk {l : PySem.W.OpenLaw} {q : Program} {loose : List Str} {XP : (Str -> Option Value) -> Heap -> Prop} {YP : World -> Heap -> Prop} {d : DefRec} {K : Params -> PySem.W.Frag} (hn : l.most = some 63) (hdf : d.params.defaults = []) (hnm : d.name = "law")
  (hY:∀ (w:World) (h:Heap),YP w h->(K w.params).In h) (F:∀ (w:World) (mg:Str->Option Value) (h:Heap),(K w.params).In h->h.Ns mainGlobals mg->Txt (K w.params) mg):
  PySem.W.WalkO q loose XP YP l.row.toRowW d [] (fun f vs=>PySem.call f vs):=by
 refine L2.walk_ofK (n:=63) (k:=7) (x:="_law_script") (CX:=CX0) (K:=K) (sp:=fun K=>spOf K 1 jR) hn (by decide) hdf ⟨rfl,by decide,by decide⟩ hY (fun w mg fa h kin ns hmg=>?_) (fun K H a ns hl hO hS=>QhL hO hS (law_true ns hl)) (fun _ _ _ _ z=>z)
 have T:=F w mg h kin ns
 obtain⟨a,fd,L,m⟩:=T.f28
 rw[hnm,m]at hmg
 cases hmg
 refine⟨fd,fun s u=>?_,fun base _ _=>yc L T⟩
 obtain⟨oc,od,kV,doc,pm,an,cdv,ct,osl,e,lk,hcd⟩:=L.ex
 rw[e]
 exact .of_eq rfl
end My
noncomputable def PySem.W.Fast.tw14984775793554201609:PySem.Program:=PySem.Challenge.pw_pactboards_k56_whole_pacts_of_marked_tab
theorem PySem.W.Fast.te14984775793554201609:PySem.Challenge.pw_pactboards_k56_whole_pacts_of_marked_tab=PySem.W.Fast.tw14984775793554201609:=rfl
namespace PySem.W.Fast
noncomputable def tw15905089821373717381:=0
noncomputable def tw4115763677070179116:=0
noncomputable def tw15368174188412915153:=0
noncomputable def tw1846392503070961765:=0
noncomputable def tw13165047653612399727:=0
noncomputable def tw5019776203081449537:=0
noncomputable def tw3359602858182861563:=0
noncomputable def tw14938425033003803616:=0
noncomputable def tw13392833987434617279:=0
noncomputable def tw1465561146706541240:=0
noncomputable def tw244024271614823607:=0
noncomputable def tw10552456458391049579:=0
noncomputable def tw10412751193966160432:=0
noncomputable def tw5326191015790205510:=0
noncomputable def tw5222927644665997762:=0
noncomputable def tw7406653192592097056:=0
noncomputable def tw18066155982389746195:=0
noncomputable def tw16242000044241066438:=0
noncomputable def tw4060453229679253203:=0
noncomputable def tw13254222996796688170:=0
noncomputable def tw16082965205179655846:=0
noncomputable def tw14106432693275753395:=0
noncomputable def tw18063316756139925037:=0
noncomputable def tw875533564896944236:=0
noncomputable def tw13836796744766028566:=0
noncomputable def tw2356221151086667309:=0
noncomputable def tw17246167128767098762:=0
noncomputable def tw8001581131623752821:=0
noncomputable def tw6888587477185639830:=0
noncomputable def tw3406967031089875271:=0
noncomputable def tw2265785667259492542:=0
noncomputable def tw8134233108863119110:=0
noncomputable def tw15167775477622838199:=0
noncomputable def tw4744752324133550279:=0
noncomputable def tw11604205444242451265:=0
noncomputable def tw7156673855039053916:=0
noncomputable def tw2668098737733345766:=0
noncomputable def tw2335135958295934362:=0
noncomputable def tw12651866565202658126:=0
noncomputable def tw6237307594021068220:=0
noncomputable def tw1095799727390003463:=0
noncomputable def tw12289996750418186851:=0
noncomputable def tw1718709931157539980:=0
noncomputable def tw11393302061785273155:=0
noncomputable def tw12828634756027653325:=0
noncomputable def tw12020309147649723400:=0
noncomputable def tw17796134440048424493:=0
noncomputable def tw1710233028341150771:=0
noncomputable def tw9088183911453961964:=0
noncomputable def tw17796565695686177339:=0
noncomputable def tw5470633838877436426:=0
noncomputable def tw5958280706713772964:=0
noncomputable def tw10056218819490144235:=0
noncomputable def tw13823711332201157757:=0
noncomputable def tw9644727011249527779:=0
noncomputable def tw4938724067067720298:=0
noncomputable def tw1668496168600942322:=0
noncomputable def tw10326610565651352283:=0
noncomputable def tw9784278037209324212:=0
noncomputable def tw5000061805380111455:=0
noncomputable def tw86663254464963425:=0
noncomputable def tw2276152379517384592:=0
noncomputable def tw16431644043630258458:=0
noncomputable def tw991833166295413409:=0
noncomputable def tw13417742841319814034:=0
noncomputable def tw10763210816000260397:=0
noncomputable def tw13141338530102557720:=0
noncomputable def tw17644778913543227073:=0
noncomputable def tw17098053146499371143:=0
noncomputable def tw17617551316380034431:=0
noncomputable def tw10212356483689502936:=0
noncomputable def tw1956433611830162696:=0
noncomputable def tw1701424556241107165:=0
noncomputable def tw13632458536537383678:=0
noncomputable def tw11070142050118215185:=0
noncomputable def tw13078414954841118623:=0
noncomputable def tw7660108105419346592:=0
noncomputable def tw17140587987679780139:=0
noncomputable def tw60410284872174951:=0
noncomputable def tw2891439092535238672:=0
noncomputable def tw2144433982991162313:=0
noncomputable def tw12366030779861511792:=0
noncomputable def tw2769974498042910424:=0
noncomputable def tw7973211356478303178:=0
noncomputable def tw8826775468974103408:=0
noncomputable def tw16251853230940447385:=0
noncomputable def tw1178859057928294696:=0
noncomputable def tw9943293353634269785:=0
noncomputable def tw16373886721858358140:=0
noncomputable def tw16370249409165302872:=0
noncomputable def tw12437210774298094140:=0
noncomputable def tw8344201782353118945:=0
noncomputable def tw2348327000497277630:=0
noncomputable def tw8146513772506384375:=0
noncomputable def tw5450104727111134983:=0
noncomputable def tw1790858853176932613:=0
noncomputable def tw18264379129202771991:=0
noncomputable def tw991376623666103337:=0
noncomputable def tw14449030783044281243:=0
noncomputable def tw10153552077401102441:=0
noncomputable def tw11654306946244523533:=0
noncomputable def tw6696299094534230804:=0
noncomputable def tw8723084316519795628:=0
noncomputable def tw7105471058020133596:=0
noncomputable def tw12400466433902882464:=0
noncomputable def tw10826035718045462657:=0
noncomputable def tw16214538774241590129:=0
noncomputable def tw422708325828932178:=0
noncomputable def tw15276650595328548807:=0
noncomputable def tw12307102513929460185:=0
noncomputable def tw2900621972962357124:=0
noncomputable def tw11564105163061264727:=0
noncomputable def tw8232488229239383237:=0
noncomputable def tw1919327948879418647:=0
noncomputable def tw8257574286283348770:=0
noncomputable def tw5687359503603094893:=0
noncomputable def tw6757411976115765511:=0
noncomputable def tw17531560443510619162:=0
noncomputable def tw3807827194470291127:=0
noncomputable def tw16392256032525380365:=0
noncomputable def tw14800144811483495426:=0
noncomputable def tw7711584732275670718:=0
noncomputable def tw1641448235981328963:=0
noncomputable def tw13401090514021671784:=0
noncomputable def tw3128825263714898625:=0
noncomputable def tw10683382395389211938:=0
noncomputable def tw8429055411878925915:=0
noncomputable def tw17526997842591958940:=0
noncomputable def tw3710091327144968656:=0
noncomputable def tw7001257164148581056:=0
noncomputable def tw8045684865848579462:=0
noncomputable def tw7791958324726824762:=0
noncomputable def tw9532532668153269305:=0
noncomputable def tw3351864763462306745:=0
noncomputable def tw12064091799627331706:=0
noncomputable def tw2177663437905257487:=0
noncomputable def tw13785857769048519782:=0
noncomputable def tw9007845793752462561:=0
noncomputable def tw8061574501315922380:=0
noncomputable def tw3137449569966297261:=0
noncomputable def tw7232569666083792799:=0
noncomputable def tw1529891701498669366:=0
noncomputable def tw11766446281279122651:=0
noncomputable def tw17314125172914077456:=0
noncomputable def tw9879465660646951272:=0
noncomputable def tw7870130104092052446:=0
noncomputable def tw9632612018742219354:=0
noncomputable def tw12845745772011710396:=0
noncomputable def tw207388622389235425:=0
noncomputable def tw9631181323515913591:=0
noncomputable def tw5656241238487007445:=0
noncomputable def tw9496461171697096147:=0
noncomputable def tw5791592131480828313:=0
noncomputable def tw614191122362274195:=0
noncomputable def tw839979953511962595:=0
noncomputable def tw12958708404062153171:=0
noncomputable def tw14158798327275793694:=0
noncomputable def tw4245729424615336254:=0
noncomputable def tw5172759740304824921:=0
noncomputable def tw18340464677608676313:=0
noncomputable def tw5702753263596283937:=0
noncomputable def tw10186405483706950072:=0
noncomputable def tw13599323097232032123:=0
noncomputable def tw13127318094256881302:=0
noncomputable def tw4951643959192751095:=0
noncomputable def tw4668443638113740403:=0
noncomputable def tw16192032100846875124:=0
noncomputable def tw2106483576430296812:=0
noncomputable def tw17772674044886526414:=0
noncomputable def tw16660243725785616634:=0
noncomputable def tw15186449091025846126:=0
noncomputable def tw4212342436892256327:=0
noncomputable def tw10543652245343693833:=0
noncomputable def tw6972536933140218222:=0
noncomputable def tw15507126990692213104:=0
noncomputable def tw10986145978397983224:=0
noncomputable def tw11381262975783620460:=0
noncomputable def tw12860407930063882781:=0
noncomputable def tw3207942921771499715:=0
noncomputable def tw785969345191320876:=0
noncomputable def tw4897921871044764918:=0
noncomputable def tw18364437961672349716:=0
noncomputable def tw2665416324465471903:=0
noncomputable def tw15766284059649291317:=0
noncomputable def tw2479517689558354362:=0
noncomputable def tw8804579861185328625:=0
noncomputable def tw18270372892662489903:=0
noncomputable def tw11684006086026794356:=0
noncomputable def tw224440110109508058:=0
noncomputable def tw11996510027919695024:=0
noncomputable def tw2855508683603443097:=0
noncomputable def tw13950547302845289794:=0
noncomputable def tw11610274790071556115:=0
noncomputable def tw5263065472758713536:=0
noncomputable def tw8416357803026048797:=0
noncomputable def tw15087464233313425513:=0
noncomputable def tw17567466526243157062:=0
noncomputable def tw11113251275566891492:=0
noncomputable def tw12752018527680275680:=0
noncomputable def tw1181247082104555207:=0
noncomputable def tw3043598790154862050:=0
noncomputable def tw2744898656035275384:=0
noncomputable def tw15617374317820213338:=0
noncomputable def tw2215527171574569522:=0
noncomputable def tw7058415973860903772:=0
noncomputable def tw9166428497754437316:=0
noncomputable def tw8073348149391493326:=0
noncomputable def tw8642421103141898555:=0
noncomputable def tw11706008088047413710:=0
noncomputable def tw2142322625262931186:=0
noncomputable def tw1601709801392003803:=0
noncomputable def tw11483836606032042564:=0
noncomputable def tw7404463540555879596:=0
noncomputable def tw6939643517473288116:=0
noncomputable def tw3385573861804123135:=0
noncomputable def tw3575897773033693284:=0
noncomputable def tw13254486894206287552:=0
noncomputable def tw11808131345012277999:=0
noncomputable def tw12317338766245294637:=0
noncomputable def tw10485487743262601863:=0
noncomputable def tw6315825042048379074:=0
noncomputable def tw12105824375132797113:=0
noncomputable def tw13424616987731718391:=0
noncomputable def tw14460167257103190085:=0
noncomputable def tw3838848403811687789:=0
noncomputable def tw11067151045343172065:=0
noncomputable def tw4993745502961140149:=0
noncomputable def tw15456907689267734360:=0
noncomputable def tw12174281980914173024:=0
noncomputable def tw8602786800986329787:=0
noncomputable def tw10183939945873320674:=0
noncomputable def tw16792247839434894588:=0
noncomputable def tw12268589481274648105:=0
noncomputable def tw2352226020428892649:=0
noncomputable def tw18345222256851363760:=0
noncomputable def tw16861183268907771064:=0
noncomputable def tw4746096474190262989:=0
noncomputable def tw4766487656669142219:=0
noncomputable def tw11871018264219044801:=0
noncomputable def tw15993341660923495455:=0
noncomputable def tw16462902721853031437:=0
noncomputable def tw133802011084503784:=0
noncomputable def tw12737954593034372946:=0
noncomputable def tw16145117049234268335:=0
noncomputable def tw1621811197314819851:=0
noncomputable def tw5272293271257570972:=0
noncomputable def tw18011981885596829058:=0
noncomputable def tw17213375522331225011:=0
noncomputable def tw17698413558653206280:=0
noncomputable def tw17102654941829621112:=0
noncomputable def tw14416971456144803873:=0
noncomputable def tw8940265170501227565:=0
noncomputable def tw17952917774660212545:=0
noncomputable def tw3165016597427795458:=0
noncomputable def tw16057198936056818919:=0
noncomputable def tw8685400860230592943:=0
noncomputable def tw15168086515026005749:=0
noncomputable def tw10220425349736785645:=0
noncomputable def tw15504899604702430818:=0
noncomputable def tw11670129186385722390:=0
noncomputable def tw4663841247946013121:=0
noncomputable def tw5299184287139286655:=0
noncomputable def tw17183652881942977864:=0
noncomputable def tw14406037986284546513:=0
noncomputable def tw1142024227591341890:=0
noncomputable def tw2598482728236747553:=0
noncomputable def tw14116956981058252355:=0
noncomputable def tw17387932219658730402:=0
noncomputable def tw15188602063503185854:=0
end PySem.W.Fast
open PySem PySem.W PyProof.Rows
set_option maxHeartbeats 0 in
theorem PySem.Challenge.cw_pactboards_k56_whole_pacts_of_marked_tab_holds : PySem.Challenge.rw_pactboards_k56_whole_pacts_of_marked_tab.Holds := by
 w_on;o_law;k_head;(case hw=>w_witness2)
 k_fill
 refine My.walk (l:=PySem.Challenge.rw_pactboards_k56_whole_pacts_of_marked_tab) rfl rfl rfl (fun w h Y=>PySem.W.kIn_of Y) ?F
 case F=>
  intro w mg h KX G
  refine' My.Txt.mk (MM.fnat KX G ?a0 ?l0 ?c0 ?k0) (MM.fnat KX G ?a1 ?l1 ?c1 ?k1) (MM.fnat KX G ?a2 ?l2 ?c2 ?k2) (MM.fnat KX G ?a3 ?l3 ?c3 ?k3) (MM.fnat KX G ?a4 ?l4 ?c4 ?k4) (MM.fnat KX G ?a5 ?l5 ?c5 ?k5) (MM.fnat KX G ?a6 ?l6 ?c6 ?k6) (MM.fnat KX G ?a7 ?l7 ?c7 ?k7) (MM.fnat KX G ?a8 ?l8 ?c8 ?k8) (MM.fnat KX G ?a9 ?l9 ?c9 ?k9) (MM.fnat KX G ?a10 ?l10 ?c10 ?k10) (MM.fnat KX G ?a11 ?l11 ?c11 ?k11) (MM.fnat KX G ?a12 ?l12 ?c12 ?k12) (MM.fnat KX G ?a13 ?l13 ?c13 ?k13) (MM.fnat KX G ?a14 ?l14 ?c14 ?k14) (MM.fnat KX G ?a15 ?l15 ?c15 ?k15) (MM.fnat KX G ?a16 ?l16 ?c16 ?k16) (MM.fnat KX G ?a17 ?l17 ?c17 ?k17) (MM.fnat KX G ?a18 ?l18 ?c18 ?k18) (MM.fnat KX G ?a19 ?l19 ?c19 ?k19) (MM.fnat KX G ?a20 ?l20 ?c20 ?k20) (MM.fnat KX G ?a21 ?l21 ?c21 ?k21) (MM.fnat KX G ?a22 ?l22 ?c22 ?k22) (MM.fnat KX G ?a23 ?l23 ?c23 ?k23) (MM.fnat KX G ?a24 ?l24 ?c24 ?k24) (MM.fnat KX G ?a25 ?l25 ?c25 ?k25) (MM.fnat KX G ?a26 ?l26 ?c26 ?k26) (MM.fnat KX G ?a27 ?l27 ?c27 ?k27) (MM.fnat KX G ?a28 ?l28 ?c28 ?k28) (MM.z_cons (PySem.W.mg_none_of KX G ?z0) (MM.z_cons (PySem.W.mg_none_of KX G ?z1) (MM.z_cons (PySem.W.mg_none_of KX G ?z2) (MM.z_cons (PySem.W.mg_none_of KX G ?z3) (MM.z_cons (PySem.W.mg_none_of KX G ?z4) (MM.z_cons (PySem.W.mg_none_of KX G ?z5) (MM.z_cons (PySem.W.mg_none_of KX G ?z6) (MM.z_cons (PySem.W.mg_none_of KX G ?z7) (MM.z_cons (PySem.W.mg_none_of KX G ?z8) (MM.z_cons (PySem.W.mg_none_of KX G ?z9) (MM.z_cons (PySem.W.mg_none_of KX G ?z10) (MM.z_cons (PySem.W.mg_none_of KX G ?z11) MM.z_nil)))))))))))) MM.c_nil (MM.xt0_mk KX G ?wg0 ?wl0 ?wn0 ?wh0 ?wc0 ?vg0 ?vl0 ?vn0 ?vh0) (MM.xo_cons KX G ?og0 ?ol0 (MM.xo_cons KX G ?og1 ?ol1 (MM.xo_cons KX G ?og2 ?ol2 (MM.xo_cons KX G ?og3 ?ol3 (MM.xo_cons KX G ?og4 ?ol4 (MM.xo_cons KX G ?og5 ?ol5 MM.xo_nil))))))
  case wg0 | wl0 | wn0 | wc0 | vg0 | vl0 | vn0 | og0 | ol0 | og1 | ol1 | og2 | ol2 | og3 | ol3 | og4 | ol4 | og5 | ol5 | a0 | l0 | c0 | k0 | a1 | l1 | c1 | k1 | a2 | l2 | c2 | k2 | a3 | l3 | c3 | k3 | a4 | l4 | c4 | k4 | a5 | l5 | c5 | k5 | a6 | l6 | c6 | k6 | a7 | l7 | c7 | k7 | a8 | l8 | c8 | k8 | a9 | l9 | c9 | k9 | a10 | l10 | c10 | k10 | a11 | l11 | c11 | k11 | a12 | l12 | c12 | k12 | a13 | l13 | c13 | k13 | a14 | l14 | c14 | k14 | a15 | l15 | c15 | k15 | a16 | l16 | c16 | k16 | a17 | l17 | c17 | k17 | a18 | l18 | c18 | k18 | a19 | l19 | c19 | k19 | a20 | l20 | c20 | k20 | a21 | l21 | c21 | k21 | a22 | l22 | c22 | k22 | a23 | l23 | c23 | k23 | a24 | l24 | c24 | k24 | a25 | l25 | c25 | k25 | a26 | l26 | c26 | k26 | a27 | l27 | c27 | k27 | a28 | l28 | c28 | k28 | z0 | z1 | z2 | z3 | z4 | z5 | z6 | z7 | z8 | z9 | z10 | z11=>k_is
  case wh0 | vh0=>rfl