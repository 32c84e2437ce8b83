import PyProof.Rows.All
import Wide.All
import OpenK.AllK
import Wide.FinOn
import Lean
import PyProof.EqAt
import PyProof.EqKinds
import PyProof.TupleCall
import PySem.Str
import PyProof.NeKinds
import PyProof.IsRules
import PyProof.Rows.StrRev
import KE.KSortTup
import PyProof.Rows.ZipGen
import KE.KRevIter
import KE.KDictList
import KE.KIntText
import PyProof.Rows.StrNews
import PyProof.Rows.StrJoin2
import PyProof.Rows.FStr
import PyProof.StrWalks
import PyProof.StrLawsTight
import KE.KSort
import PyProof.Rows.SetFrom
import KE.KDictSum
import PyProof.ExcInit
import PyProof.ExcClass3
import PyProof.ExcBaseAll.ValueError
import PyProof.ExcAttrAll.ValueError
import PyProof.ExcArgsOwn
import PySem.SetOps
import PyProof.TupleOfGen
import PyProof.MinMaxWalk
import PyProof.FactsAll.tuple_2
import KE.KMinBuiltin
import PyProof.Rows.CallKwBuiltin
import PyProof.RaisesMany
import PyProof.RulesDel
import PyProof.RulesAs
import PyProof.IsiTuple
import PyProof.StrBlockI
import PyProof.StrLawsChain
import PySem.Challenge.RW_pactboards_k15_no_table
local macro_rules | `(tactic| nofun)=>`(tactic| decide +kernel)
local macro_rules | `(tactic| ac_nf)=>`(tactic| first | lia | omega)
set_option genSizeOf false
set_option Elab.async false
set_option linter.all false
set_option maxRecDepth 100000
set_option maxHeartbeats 4000000
noncomputable section
namespace L2
open PySem PySem.Spec PyProof.Rows
abbrev Key:=Sum Int Str
def keyIs:Key->Value->Bool
 | .inl k,v=>Value.isInt k v
 | .inr x,v=>Value.isStrOf x v
def keyH (w:World):Key->Int
 | .inl k=>hashInt k
 | .inr x=>hashStr w x
theorem keyIs_shape:∀ {k:Key}{v:Value},keyIs k v=true->(∃ i t,k=Sum.inl i/\v=Value.int i t)\/(∃ x t,k=Sum.inr x/\v=Value.str x t)
 | .inl i,v,h=>by
  obtain⟨t,e⟩:=Value.isInt_shape (k:=i) (v:=v) h
  exact .inl ⟨i,t,rfl,e⟩
 | .inr x,v,h=>by
  obtain⟨t,e⟩:=Value.isStrOf_shape (x:=x) (v:=v) h
  exact .inr ⟨x,t,rfl,e⟩
theorem Qaa (i:Int) (t:Tok):keyIs (.inl i) (.int i t)=true:=by simp[keyIs,Value.isInt]
theorem Qab (x:Str) (t:Tok):keyIs (.inr x) (.str x t)=true:=by simp[keyIs,Value.isStrOf]
theorem Qac (a b:Int):decide ((Sum.inl a:Key)=Sum.inl b)=(a == b):=by
 by_cases e:a=b
 ·subst e;simp
 ·have h:¬ (Sum.inl a:Key)=Sum.inl b:=fun q=>e (Sum.inl.inj q)
  rw[decide_eq_false h]
  exact (beq_eq_false_iff_ne.mpr e).symm
theorem Qad (a b:Str):decide ((Sum.inr a:Key)=Sum.inr b)=decide (a=b):=by
 by_cases e:a=b
 ·subst e;simp
 ·have h:¬ (Sum.inr a:Key)=Sum.inr b:=fun q=>e (Sum.inr.inj q)
  rw[decide_eq_false h,decide_eq_false e]
theorem Qae (a:Int) (b:Str):decide ((Sum.inl a:Key)=Sum.inr b)=false:=decide_eq_false (fun q=>nomatch q)
theorem Qaf (a:Str) (b:Int):decide ((Sum.inr a:Key)=Sum.inl b)=false:=decide_eq_false (fun q=>nomatch q)
def mixKind (prog:Program) (w:World):PySem.KeyKind prog w Key where
 is:=keyIs
 hash:=keyH w
 inj:=fun v a b ha hb=>by
  rcases keyIs_shape ha with ⟨i,t,rfl,rfl⟩ | ⟨x,t,rfl,rfl⟩
  ·rcases keyIs_shape hb with ⟨j,u,rfl,e⟩ | ⟨y,u,rfl,e⟩
   ·injection e with e1 _;rw[e1]
   ·exact nomatch e
  ·rcases keyIs_shape hb with ⟨j,u,rfl,e⟩ | ⟨y,u,rfl,e⟩
   ·exact nomatch e
   ·injection e with e1 _;rw[e1]
 byValue:=fun k v h=>by
  rcases keyIs_shape h with ⟨i,t,rfl,rfl⟩ | ⟨x,t,rfl,rfl⟩<;>rfl
 pyHash:=fun hv h=>by
  rcases keyIs_shape hv with ⟨i,t,rfl,rfl⟩ | ⟨x,t,rfl,rfl⟩
  ·exact wpAny_pyHash_int h
  ·exact wpAny_pyHash_str h
 eqBool:=fun hu hv h=>by
  rcases keyIs_shape hu with ⟨i,t,rfl,rfl⟩ | ⟨x,t,rfl,rfl⟩
  ·rcases keyIs_shape hv with ⟨j,u,rfl,rfl⟩ | ⟨y,u,rfl,rfl⟩
   ·rw[Qac]at h;exact wpAny_eqBool_int h
   ·rw[Qae]at h;exact SeqAt.EqAt.int_str i t y u _ _ _ _ h
  ·rcases keyIs_shape hv with ⟨j,u,rfl,rfl⟩ | ⟨y,u,rfl,rfl⟩
   ·rw[Qaf]at h;exact SeqAt.EqAt.str_int x t j u _ _ _ _ h
   ·rw[Qad]at h;exact wpAny_eqBool_str h
 «strs»:=fun k x t v h=>by
  rcases keyIs_shape h with ⟨i,u,rfl,e⟩ | ⟨y,u,rfl,e⟩
  ·exact nomatch e
  ·injection e with e1 _
   subst e1
   cases v<;>rfl
theorem Qag (prog:Program) (w:World) (i:Int) (t:Tok):(mixKind prog w).is (.inl i) (.int i t)=true:=Qaa i t
theorem Qah (prog:Program) (w:World) (x:Str) (t:Tok):(mixKind prog w).is (.inr x) (.str x t)=true:=Qab x t
inductive V where
 | non | bl (b:Bool) | int (i:Int) | str (x:Str) | byt (b:Array UInt8) | flt (b:UInt64) | ref (a:Addr) | ty (n:String)
 deriving DecidableEq
def RelV:V->Value->Prop
 | .non,u=>u=Value.none
 | .bl b,u=>u=Value.bool b
 | .int i,u=>∃ t,u=Value.int i t
 | .str x,u=>∃ t,u=Value.str x t
 | .byt b,u=>∃ t,u=Value.bytes b t
 | .flt b,u=>∃ t,u=Value.float b t
 | .ref a,u=>u=Value.ref a
 | .ty n,u=>u=Value.type n
abbrev Vals:List V->List Value->Prop:=Paired RelV
theorem Vals.length {xs:List V}{us:List Value} (r:Vals xs us):xs.length=us.length:=Paired.length r
theorem Vals.get:∀ {xs:List V}{us:List Value}{i:Nat}{x:V},Vals xs us->xs[i]?=some x->∃ u,us[i]?=some u/\RelV x u
 | _,_,_,_,.nil,e=>by simp at e
 | _,_,0,_,.cons r _,e=>by simp at e;subst e;exact⟨_,rfl,r⟩
 | _,_,i + 1,x,.cons _ t,e=>by
  obtain⟨u,h1,h2⟩:=Vals.get (i:=i) (x:=x) t (by simpa using e)
  exact⟨u,by simpa using h1,h2⟩
theorem Vals.set {x:V}{u:Value} (r:RelV x u):∀ {xs:List V}{us:List Value} (i:Nat),Vals xs us->Vals (xs.set i x) (us.set i u)
 | _,_,_,.nil=>.nil
 | _,_,0,.cons _ t=>.cons r t
 | _,_,i + 1,.cons q t=>.cons q (Vals.set r i t)
theorem Vals.append:∀ {xs ys:List V}{us ws:List Value},Vals xs us->Vals ys ws->Vals (xs++ys) (us++ws)
 | _,_,_,_,.nil,s=>s
 | _,_,_,_,.cons r t,s=>.cons r (Vals.append t s)
theorem Vals.take:∀ {xs:List V}{us:List Value} (n:Nat),Vals xs us->Vals (xs.take n) (us.take n)
 | _,_,0,_=>.nil
 | _,_,_ + 1,.nil=>.nil
 | _,_,n + 1,.cons r t=>.cons r (Vals.take n t)
theorem Vals.drop:∀ {xs:List V}{us:List Value} (n:Nat),Vals xs us->Vals (xs.drop n) (us.drop n)
 | _,_,0,r=>r
 | _,_,_ + 1,.nil=>.nil
 | _,_,n + 1,.cons _ t=>Vals.drop n t
def RelO:Option V->Option Value->Prop
 | some v,some u=>RelV v u
 | none,none=>True
 | _,_=>False
def KV {κ:Type}:List (κ × V)->List (κ × Value)->Prop:=Paired fun (p:κ × V) (q:κ × Value)=>p.1=q.1/\RelV p.2 q.2
def kV:Key->V
 | .inl i=>.int i
 | .inr x=>.str x
inductive HO where
 | lst (xs:List V)
 | tup (xs:List V)
 | dK (kvs:List (Key × V)) | dT (kvs:List (List Key × V))
 | set (S:Int->Bool) (n:Nat)
 | ins (C dx:Addr) (fs:List (Str × V))
 | own (x:Addr)
 | xd (fs:List (Str × V))
 | met (f x:Addr)
 | rng (lo hi:Int)
 | frz (o:Obj) (u:HO)
 | tbl (ps:Array Value)
 | ext (φ:Heap->Prop)
abbrev Hp:=Addr->Option HO
def upd (H:Hp) (a:Addr) (o:HO):Hp:=fun b=>if b=a then some o else H b
theorem Qai {H:Hp}{a:Addr}{o:HO}:upd H a o a=some o:=by unfold upd;rw[if_pos rfl]
theorem Qaj {H:Hp}{a b:Addr}{o:HO} (h:b≠a):upd H a o b=H b:=by unfold upd;rw[if_neg h]
theorem Qak {H:Hp}{a b:Addr}{o u:HO} (h:H a=some o) (h':H b=some u) (d:o≠u):a≠b:=by
 intro e;subst e;rw[h]at h';exact d (Option.some.inj h')
theorem Qal {H:Hp}{a b:Addr}{o:HO} (h:H a=some o) (h':H b=none):a≠b:=by
 intro e;subst e;rw[h]at h';cases h'
def IsTupD (h:Heap) (a:Addr) (its:Array Value):Prop:=∃ o,h.get? a=some o/\o.cls=.type "tuple"/\(∃ n,o.data=.seq its n)/\o.dict=none
theorem IsTupD.is {h:Heap}{a:Addr}{its:Array Value} (p:IsTupD h a its):IsTup h a its:=let ⟨o,e,c,d,_⟩:=p;⟨o,e,c,d⟩
theorem IsTupD.lt {h:Heap}{a:Addr}{its:Array Value} (p:IsTupD h a its):a < h.objs.size:=p.is.lt
theorem IsTupD.new (h:Heap) (its:Array Value):IsTupD (h.push { cls:=.type "tuple",data:=.seq its }) h.objs.size its:=⟨_,Heap.get?_push_size _ rfl,rfl,⟨_,rfl⟩,rfl⟩
section
variable (P:Program) (w:World)
def ObjOk (H:Hp) (h:Heap) (a:Addr):HO->Prop
 | .lst xs=>xs.length<=sizeLine/\∃ (its:List Value) (n:Nat),Vals xs its/\h.get? a=some { cls:=.type "list",data:=.seq its.toArray n }
 | .tup xs=>xs.length<=sizeLine/\∃ its:List Value,Vals xs its/\IsTupD h a its.toArray
 | .dK kvs=>kvs.length<=sizeLine/\(a == sysModules)=false/\∃ vs,KV kvs vs/\h.DictOf (mixKind P w) a vs
 | .dT kvs => kvs.length <= sizeLine /\ (a == sysModules) = false /\ ∃ xs : List (List Key × Addr × Value),
   Paired (fun (p:List Key × V) (q:List Key × Addr × Value)=>p.1=q.1/\H q.2.1=some (.tup (p.1.map kV))/\RelV p.2 q.2.2) kvs xs /\
   ∃ o es ep,h.get? a=some o/\o.ExactDict/\o.data=.dict es ep/\es.toList=xs.map (entryOfKey (tupleKind (mixKind P w)))/\(xs.map (·.1)).Nodup
 | .set S n=>h.SetOf (intKind P w) a S n
 | .ins C dx fs => H dx = some (.own a) /\ fs.length <= 1000 /\ dx ≠ a /\ h.get? a = some (PySem.W.instObj C dx) /\
   ∃ mA,h.Ns1 dx mA/\(∀ f,RelO (fs.lookup f) (mA f))/\PySem.Within mA (fs.map (·.1))
 | .own _=>∃ o,h.get? a=some o
 | .xd fs=>∃ mA,h.Ns1 a mA/\∀ f,RelO (fs.lookup f) (mA f)
 | .rng lo hi=>∃ t u v,h.get? a=some { cls:=.type "range",data:=.fields #[.int lo t,.int hi u,.int 1 v] }
 | .frz o u=>h.get? a=some o/\ObjOk H h a u
 | .tbl ps=>h.get? a=some { cls:=.none,data:=.fields ps }
 | .met f x=>h.get? a=some (PySem.W.methodObj (.ref f) (.ref x))
 | .ext φ=>φ h/\(∃ o,h.get? a=some o)/\∀ h1 h2:Heap,φ h1->(∀ o,h1.get? a=some o->h2.get? a=some o)->φ h2
def HOk (H:Hp) (h:Heap):Prop:=∀ a o,H a=some o->ObjOk P w H h a o
end
section
variable {P:Program}{w:World}{H H':Hp}{h h':Heap}{a:Addr}{o:HO}
theorem ObjOk.lt (x:ObjOk P w H h a o):a < h.objs.size:=by
 cases o with
 | lst xs=>obtain⟨_,_,_,_,e⟩:=x;exact Heap.lt_size e
 | tup xs=>obtain⟨_,_,_,p⟩:=x;exact p.lt
 | dK kvs=>obtain⟨_,_,_,_,o,_,_,e,_⟩:=x;exact Heap.lt_size e
 | dT kvs=>obtain⟨_,_,_,_,o,_,_,e,_⟩:=x;exact Heap.lt_size e
 | set S n=>obtain⟨o,_,_,_,e,_⟩:=x;exact Heap.lt_size e
 | ins C dx fs=>obtain⟨_,_,_,e,_⟩:=x;exact Heap.lt_size e
 | own y=>obtain⟨_,e⟩:=x;exact Heap.lt_size e
 | xd fs=>obtain⟨_,⟨_,_,_,e,_⟩,_⟩:=x;exact Heap.lt_size e
 | rng lo hi=>obtain⟨_,_,_,e⟩:=x;exact Heap.lt_size e
 | frz ob u=>obtain⟨e,_⟩:=x;exact Heap.lt_size e
 | tbl ps=>exact Heap.lt_size (show h.get? a=some _ from x)
 | met f y=>exact Heap.lt_size (show h.get? a=some _ from x)
 | ext φ=>obtain⟨_,⟨_,e⟩,_⟩:=x;exact Heap.lt_size e
theorem Paired.mapP {α β:Type}{F G:α->β->Prop}:∀ {l₁:List α}{l₂:List β},Paired F l₁ l₂->(∀ a b,F a b->G a b)->Paired G l₁ l₂
 | _,_,.nil,_=>.nil
 | _,_,.cons r t,f=>.cons (f _ _ r) (Paired.mapP t f)
theorem ObjOk.stay (x : ObjOk P w H h a o) (k : ∀ b u, (b = a \/ H b = some (.own a)) -> h.get? b = some u -> h'.get? b = some u)
  (ho:∀ b,H b=some (.own a)->H' b=some (.own a)) (ht:∀ b xs,H b=some (.tup xs)->H' b=some (.tup xs)):ObjOk P w H' h' a o:=by
 induction o with
 | lst xs=>obtain⟨z,its,n,r,e⟩:=x;exact⟨z,its,n,r,k _ _ (.inl rfl) e⟩
 | tup xs=>obtain⟨z,its,r,ob,e,c⟩:=x;exact⟨z,its,r,ob,k _ _ (.inl rfl) e,c⟩
 | dK kvs=>obtain⟨z,y,vs,r,ob,es,ep,e,c⟩:=x;exact⟨z,y,vs,r,ob,es,ep,k _ _ (.inl rfl) e,c⟩
 | dT kvs=>
  obtain⟨z,y,xs,r,ob,es,ep,e,c⟩:=x
  exact⟨z,y,xs,Paired.mapP r fun p q z=>⟨z.1,ht _ _ z.2.1,z.2.2⟩,ob,es,ep,k _ _ (.inl rfl) e,c⟩
 | set S n=>obtain⟨ob,es,ep,t,e,c⟩:=x;exact⟨ob,es,ep,t,k _ _ (.inl rfl) e,c⟩
 | ins C dx fs=>
  obtain⟨d,z,ne,e,mA,⟨od,es,ep,e2,c⟩,r⟩:=x
  exact⟨ho _ d,z,ne,k _ _ (.inl rfl) e,mA,⟨od,es,ep,k _ _ (.inr d) e2,c⟩,r⟩
 | own y=>obtain⟨ob,e⟩:=x;exact⟨ob,k _ _ (.inl rfl) e⟩
 | xd fs=>obtain⟨mA,⟨od,es,ep,e,c⟩,r⟩:=x;exact⟨mA,⟨od,es,ep,k _ _ (.inl rfl) e,c⟩,r⟩
 | rng lo hi=>obtain⟨t,u,v,e⟩:=x;exact⟨t,u,v,k _ _ (.inl rfl) e⟩
 | frz ob u ih=>obtain⟨e,q⟩:=x;exact⟨k _ _ (.inl rfl) e,ih q⟩
 | tbl ps=>
  have e:h.get? a=some { cls:=.none,data:=.fields ps }:=x
  show h'.get? a=some { cls:=.none,data:=.fields ps }
  exact k a _ (.inl rfl) e
 | met f y=>
  have e:h.get? a=some (PySem.W.methodObj (.ref f) (.ref y)):=x
  show h'.get? a=some (PySem.W.methodObj (.ref f) (.ref y))
  exact k a _ (.inl rfl) e
 | ext φ=>obtain⟨p,⟨o,e⟩,st⟩:=x;exact⟨st _ _ p fun o q=>k _ _ (.inl rfl) q,⟨o,k _ _ (.inl rfl) e⟩,st⟩
theorem HOk.lt (x:HOk P w H h) (e:H a=some o):a < h.objs.size:=(x a o e).lt
theorem HOk.fresh (x:HOk P w H h) (e:h.objs.size<=a):H a=none:=by
 cases q:H a with
 | none=>rfl
 | some u=>exact absurd (Nat.lt_of_lt_of_le (x.lt q) e) (Nat.lt_irrefl _)
theorem HOk.kept (x:HOk P w H h) (k:∀ b u,h.get? b=some u->h'.get? b=some u):HOk P w H h':=fun a o e=>
 (x a o e).stay (fun b u _ q=>k b u q) (fun _ q=>q) fun _ _ q=>q
theorem HOk.laid (x:HOk P w H h) (k:∀ b u,h.get? b=some u->h'.get? b=some u) (hp:h.objs.size<=a) (new:ObjOk P w (upd H a o) h' a o):HOk P w (upd H a o) h':=fun b u e=>by
 have hn:=x.fresh hp
 by_cases hb:b=a
 ·subst hb;rw[Qai]at e;cases e;exact new
 ·rw[Qaj hb]at e
  exact (x b u e).stay (fun c v _ q=>k c v q) (fun c q=>by rw[Qaj (Qal q hn)];exact q) fun c xs q=>by rw[Qaj (Qal q hn)];exact q
end
def Rd (H:Hp) (a:Addr) (u:HO):Prop:=H a=some u\/∃ o,H a=some (.frz o u)
theorem Rd.ok {P:Program}{w:World}{H:Hp}{h:Heap}{a:Addr}{u:HO} (r:Rd H a u) (x:HOk P w H h):ObjOk P w H h a u:=by
 rcases r with r | ⟨o,r⟩
 ·exact x a u r
 ·obtain⟨_,q⟩:=x a _ r
  exact q
def Mut:Option HO->Prop
 | some (.lst _)=>True
 | some (.dK _)=>True
 | some (.dT _)=>True
 | some (.set _ _)=>True
 | some (.ins _ _ _)=>True
 | some (.ext _)=>True
 | _=>False
section
variable {P:Program}{w:World}{H:Hp}{h h':Heap}{x e:Addr}{o':HO}
theorem HOk.write (ok : HOk P w H h) (mu : Mut (H x)) (he : e = x \/ H e = some (.own x)) (k : ∀ b u, b ≠ e -> h.get? b = some u -> h'.get? b = some u) (heo : ∃ u, h'.get? e = some u)
  (new:ObjOk P w (upd H x o') h' x o'):HOk P w (upd H x o') h':=fun b u q=>by
 have nown:∀ c y,H c=some (.own y)->c≠x:=fun c y r z=>by subst z;rw[r]at mu;exact mu
 have ntup:∀ c xs,H c=some (.tup xs)->c≠x:=fun c xs r z=>by subst z;rw[r]at mu;exact mu
 by_cases hb:b=x
 ·subst hb;rw[Qai]at q;cases q;exact new
 ·rw[Qaj hb]at q
  by_cases hbe:b=e
  ·have q' : H b = some (.own x) := by
     rcases he with z | z
     ·exact absurd (hbe.trans z) hb
     ·rw[hbe];exact z
   rw[q]at q';cases q'
   obtain⟨v,hv⟩:=heo
   exact⟨v,by rw[hbe];exact hv⟩
  ·refine (ok b u q).stay (fun c v hc r=>k c v ?_ r) (fun c r=>by rw[Qaj (nown c b r)];exact r) fun c xs r=>by rw[Qaj (ntup c xs r)];exact r
   rcases hc with rfl | hc
   ·exact hbe
   ·rintro rfl
    rcases he with z | z
    ·exact nown c b hc z
    ·rw[hc]at z;cases z;exact hb rfl
end
structure Un (fs ex:List Addr) (H H':Hp) (h h':Heap):Prop where
 keep:∀ b o,h.get? b=some o->H b=none->b∉fs->b∉ex->h'.get? b=some o
 slot:∀ b o,h.get? b=some o->H b=none->b∈fs->b∉ex->∃ sl,h'.get? b=some { o with slots:=sl }
 free:∀ b o,h.get? b=some o->H b=none->b∉ex->H' b=none
 there:∀ b o,h.get? b=some o->b∉ex->∃ o',h'.get? b=some o'
 tups:∀ b xs,H b=some (.tup xs)->H' b=some (.tup xs)
 frzs:∀ b o u,H b=some (.frz o u)->H' b=some (.frz o u)
 tbls:∀ b ps,H b=some (.tbl ps)->∃ more,H' b=some (.tbl (ps++more))
section
variable {fs fs' ex ex':List Addr}{H H1 H2:Hp}{h h1 h2 h':Heap}{a x e:Addr}{o:HO}
theorem Un.any (u:Un fs ex H H1 h h1) {b:Addr}{ob:Obj} (q:h.get? b=some ob) (n:H b=none) (hx:b∉ex):∃ sl,h1.get? b=some { ob with slots:=sl }:=by
 by_cases hb:b∈fs
 ·exact u.slot b ob q n hb hx
 ·exact⟨ob.slots,u.keep b ob q n hb hx⟩
theorem Un.kept (k:∀ b u,h.get? b=some u->h'.get? b=some u):Un fs ex H H h h':=
 ⟨fun b ob q _ _ _=>k b ob q,fun b ob q _ _ _=>⟨ob.slots,k b ob q⟩,fun _ _ _ n _=>n,fun b ob q _=>⟨ob,k b ob q⟩,fun _ _ q=>q,fun _ _ _ q=>q,fun _ ps q=>⟨#[],by rw[q];simp⟩⟩
theorem Un.refl:Un fs ex H H h h:=Un.kept fun _ _ q=>q
theorem Un.laid (k:∀ b u,h.get? b=some u->h'.get? b=some u) (hp:h.objs.size<=a) (hn:H a=none):Un fs ex H (upd H a o) h h' where
 keep:=fun b u q _ _ _=>k b u q
 slot:=fun b u q _ _ _=>⟨u.slots,k b u q⟩
 free:=fun b u q n _=>by rw[Qaj (Nat.ne_of_lt (Nat.lt_of_lt_of_le (Heap.lt_size q) hp))];exact n
 there:=fun b u q _=>⟨u,k b u q⟩
 tups:=fun b xs q=>by rw[Qaj (Qal q hn)];exact q
 frzs:=fun b u xs q=>by rw[Qaj (Qal q hn)];exact q
 tbls:=fun b ps q=>⟨#[],by rw[Qaj (Qal q hn),q];simp⟩
theorem Un.write (mu:Mut (H x)) (he:e=x\/H e=some (.own x)) (k:∀ b u,b≠e->h.get? b=some u->h'.get? b=some u) (heo:∃ u,h'.get? e=some u):Un fs ex H (upd H x o) h h':=by
 have hx:∀ b,H b=none->b≠x:=fun b n z=>by subst z;rw[n]at mu;exact mu
 have hb:∀ b,H b=none->b≠e:=fun b n z=>by
  subst z
  rcases he with r | r
  ·exact hx b n r
  ·rw[n]at r;cases r
 have hm:∀ b u,H b=some u->¬ Mut (some u)->b≠x:=fun b u q nm z=>by subst z;rw[q]at mu;exact nm mu
 refine⟨fun b u q n _ _=>k b u (hb b n) q,fun b u q n _ _=>⟨u.slots,k b u (hb b n) q⟩,fun b u q n _=>by rw[Qaj (hx b n)];exact n,fun b u q _=>?_,
  fun b xs q=>by rw[Qaj (hm b _ q fun z=>z)];exact q,fun b u xs q=>by rw[Qaj (hm b _ q fun z=>z)];exact q,fun b ps q=>⟨#[],by rw[Qaj (hm b _ q fun z=>z),q];simp⟩⟩
 by_cases hbe:b=e
 ·subst hbe;exact heo
 ·exact⟨u,k b u hbe q⟩
end
def trk (h:Heap) (H:Hp):List Addr:=(List.range h.objs.size).filter fun a=>(H a).isSome
def hidT (h:Heap) (H:Hp):Heap:=PySem.W.hideAll h (trk h H)
theorem Qam (h:Heap) (H:Hp):(hidT h H).objs.size=h.objs.size:=PySem.W.hideAll_size _ _
theorem Qan {h:Heap}{H:Hp}{b:Addr}{o:Obj} (e:h.get? b=some o) (n:H b=none):(hidT h H).get? b=some o:=
 PySem.W.hideAll_get _ e fun hm=>by
  have q:(H b).isSome=true:=(List.mem_filter.mp hm).2
  rw[n]at q;simp at q
theorem Qao {h:Heap}{H:Hp}{b:Addr}{o:Obj} (e:(hidT h H).get? b=some o):h.get? b=some o/\H b=none:=by
 have e':h.get? b=some o:=PySem.W.of_hideAll (trk h H) e
 refine⟨e',?_⟩
 cases q:H b with
 | none=>rfl
 | some x=>
  have hm:b∈trk h H:=List.mem_filter.mpr ⟨List.mem_range.mpr (Heap.lt_size e'),by simp[q]⟩
  have z:(hidT h H).get? b=none:=PySem.W.hideAll_none (trk h H) hm
  rw[z]at e;cases e
def allNews (g h:Heap) (L:Addr):List (Addr × Obj):=(List.range h.objs.size).filterMap fun a=>if a=L\/(g.get? a).isSome=true then none else (h.get? a).map fun o=>(a,o)
def rest (g h:Heap) (L d:Addr):List (Addr × Obj):=(allNews g h L).filter fun p=>decide (p.1≠d)
structure Mod (K:PySem.W.Frag) (mg:Str->Option Value) (base:Heap):Prop where
 kin:K.In base
 glob:base.Ns mainGlobals mg
 blt:∃ mb,base.Ns builtinsNs mb/\∀ x:Str,x≠"__name__"->mb x=bootBuiltins x
 nolimit:base.NoLimit
structure Cx where
 prog:Program
 w:World
 K:PySem.W.Frag
 mg:Str->Option Value
 base:Heap
 A:Around
 N:List Str
 s₀:Shared
 H₀:Hp
 env:Env
 outer:List Env
 stack:List Env
 ex:List Addr
 fn:Str->Bool
 calm:Bool
 pn:List (Addr × Obj)
 xe:Value->Shared->Prop
def frs (l:List Env):List Addr:=l.filterMap (·.frame)
abbrev Cx.fs (X:Cx):List Addr:=frs X.outer
def Vis (sc:Scope) (x:Str):Prop:=sc.names.lookup x=some .local\/sc.names.lookup x=some .cell\/sc.names.lookup x=some .free
def Loc (sc:Scope) (x:Str):Prop:=sc.names.lookup x=some .local\/sc.names.lookup x=some .cell
def Look (env:Env) (h:Heap) (m:Str->Option Value) (x:Str) (u:Value):Prop:=
 (env.kindOf x=some .local/\m x=some u)\/((env.kindOf x=some .cell\/env.kindOf x=some .free)/\∃ c,env.cells.lookup x=some c/\h.IsCell c (some u))
structure Cx.Ok (X:Cx):Prop where
 mod:Mod X.K X.mg X.base
 kind:X.env.scope.kind=.function
 glob:X.env.globals=mainGlobals
 blt:X.env.builtins=builtinsNs
 above:X.s₀.heap.objs.size<=X.env.locals
 inj:∀ x y c,X.env.cells.lookup x=some c->X.env.cells.lookup y=some c->x=y
 has:∀ x,(X.env.kindOf x=some .cell\/X.env.kindOf x=some .free)->∃ c,X.env.cells.lookup x=some c
 cab:∀ x c,X.fn x=true->X.env.cells.lookup x=some c->X.s₀.heap.objs.size<=c
 hd:X.calm=true->X.A.handled=none
 frames:X.A.frames=some X.stack
 stk:X.stack=X.outer\/(X.stack=X.env::X.outer/\X.env.frame=some X.env.locals)
 exf:∀ b∈X.ex,b≠X.env.locals/\∀ x c,X.env.cells.lookup x=some c->c≠b
 bs:∀ b o,X.base.get? b=some o->X.s₀.heap.get? b=some o/\X.H₀ b=none
 bsz:X.base.objs.size<=X.s₀.heap.objs.size
 noex:∀ b o,X.base.get? b=some o->b∉X.ex
 exfs:∀ b∈X.ex,b∉X.fs
 funs:X.s₀.heap.FunFrames X.base X.outer
 frf:∀ b∈X.fs,X.H₀ b=none
structure Inv (X:Cx) (pins:List (Addr × Obj)) (σ:List (Option V)) (H:Hp) (s:Shared):Prop where
 ok:X.Ok
 os:s.os=X.s₀.os
 bare:AllBare s.gens
 base:Un X.fs X.ex X.H₀ H X.s₀.heap s.heap
 loc:∃ m,s.heap.Ns X.env.locals m/\∀ (i:Nat) (x:Str) (v:V),X.N[i]?=some x->σ[i]?=some (some v)->Vis X.env.scope x->∃ u,RelV v u/\Look X.env s.heap m x u
 cell:∀ x c,X.env.cells.lookup x=some c->∃ v,s.heap.IsCell c v
 free:H X.env.locals=none
 freeC:∀ x c,X.env.cells.lookup x=some c->H c=none
 pin:∀ p∈X.pn++pins,s.heap.get? p.1=some p.2/\H p.1=none/\p.1≠X.env.locals/\p.1∉X.fs/\∀ v,p.2.data≠.cell v
 hok:HOk X.prog X.w H s.heap
 len:σ.length=X.N.length
section
variable {X:Cx}{pins:List (Addr × Obj)}{σ:List (Option V)}{H H':Hp}{s:Shared}{h':Heap}
theorem Cx.Ok.nofr (ok:X.Ok) {b:Addr}{o:Obj} (e:X.base.get? b=some o):b∉X.fs:=fun hb=>by
 have:=(ok.funs.mem hb).1
 rw[e]at this;cases this
theorem Inv.bs (I:Inv X pins σ H s):∀ b o,X.base.get? b=some o->s.heap.get? b=some o/\H b=none:=fun b o e=>
 ⟨I.base.keep b o (I.ok.bs b o e).1 (I.ok.bs b o e).2 (I.ok.nofr e) (I.ok.noex b o e),I.base.free b o (I.ok.bs b o e).1 (I.ok.bs b o e).2 (I.ok.noex b o e)⟩
theorem Inv.bk (I:Inv X pins σ H s):∀ b o,X.base.get? b=some o->s.heap.get? b=some o:=fun b o e=>(I.bs b o e).1
theorem Inv.mod (I:Inv X pins σ H s):Mod X.K X.mg X.base:=I.ok.mod
theorem Inv.kIn (I:Inv X pins σ H s):X.K.In s.heap:=I.ok.mod.kin.keeps I.bk
theorem Inv.lt (I:Inv X pins σ H s):X.env.locals < s.heap.objs.size:=let ⟨_,hn,_⟩:=I.loc;hn.lt
theorem Inv.sz (I:Inv X pins σ H s):X.s₀.heap.objs.size<=s.heap.objs.size:=Nat.le_trans I.ok.above (Nat.le_of_lt I.lt)
theorem Inv.nofs (I:Inv X pins σ H s) {a:Addr} (h:s.heap.objs.size<=a):a∉X.fs:=fun hb=>by
 obtain⟨_,o,ho,_⟩:=I.ok.funs.mem hb
 exact absurd (Nat.lt_of_lt_of_le (Heap.lt_size ho) (Nat.le_trans I.sz h)) (Nat.lt_irrefl _)
theorem Inv.cne (I:Inv X pins σ H s):∀ x c,X.env.cells.lookup x=some c->c≠X.env.locals:=fun x c e z=>by
 obtain⟨v,o,ho,hd⟩:=I.cell x c e
 obtain⟨m,⟨o',es,ep,ho',hd',_⟩,_⟩:=I.loc
 rw[z,ho']at ho;cases ho;rw[hd']at hd;cases hd
theorem Inv.funs (I:Inv X pins σ H s):s.heap.FunFrames X.base X.outer:=by
 have all:∀ (l:List Env),(∀ b∈frs l,b∈X.fs)->X.s₀.heap.FunFrames X.base l->s.heap.FunFrames X.base l:=by
  intro l
  induction l with
  | nil=>intro _ _;trivial
  | cons env r ih=>
   intro hs hl
   obtain⟨hk,⟨L,o,hf,hn,ho,hd⟩,hr⟩:=hl
   have hL:L∈X.fs:=hs L (by unfold frs;rw[List.filterMap_cons,hf];exact List.mem_cons_self)
   obtain⟨sl,e⟩:=I.base.slot L o ho (I.ok.frf L hL) hL fun z=>I.ok.exfs L z hL
   exact⟨hk,⟨L,_,hf,hn,e,hd⟩,ih (fun b hb=>hs b (by unfold frs;rw[List.filterMap_cons,hf];exact List.mem_cons_of_mem _ hb)) hr⟩
 exact all X.outer (fun _ hb=>hb) I.ok.funs
theorem Inv.stack (I:Inv X pins σ H s):s.heap.FunFrames X.base X.stack:=by
 rcases I.ok.stk with e | ⟨e,hf⟩
 ·rw[e];exact I.funs
 ·rw[e]
  obtain⟨m,hn,_⟩:=I.loc
  refine .cons (by rw[I.ok.kind];decide) hf hn ?_ I.funs
  exact Heap.get?_none_of_le (Nat.le_trans I.ok.bsz I.ok.above)
theorem Inv.stkSub (I:Inv X pins σ H s):∀ b∈frs X.stack,b∈X.env.locals::X.fs:=fun b hb=>by
 rcases I.ok.stk with e | ⟨e,hf⟩
 ·rw[e]at hb;exact List.mem_cons_of_mem _ hb
 ·rw[e]at hb
  unfold frs at hb
  rw[List.filterMap_cons,hf]at hb
  exact hb
theorem Inv.stkFree (I:Inv X pins σ H s):∀ b∈frs X.stack,H b=none:=fun b hb=>by
 rcases List.mem_cons.mp (I.stkSub b hb) with e | hb
 ·rw[e];exact I.free
 ·obtain⟨_,o,ho,_⟩:=I.ok.funs.mem hb
  exact I.base.free b o ho (I.ok.frf b hb) fun z=>I.ok.exfs b z hb
theorem Inv.step {g' : Array GenState} {t' : Nat} {d' : Drawn} {ch : List Addr} (I : Inv X pins σ H s)
  (hch:∀ b∈ch,(b∈X.ex\/X.s₀.heap.objs.size<=b)/\b≠X.env.locals/\(∀ x c,X.env.cells.lookup x=some c->c≠b)/\∀ p∈X.pn++pins,p.1≠b)
  (keep:∀ b o,b≠X.env.locals->b∉X.fs->b∉ch->s.heap.get? b=some o->H b=none->h'.get? b=some o)
  (slot:∀ b o,b≠X.env.locals->b∈X.fs->b∉ch->s.heap.get? b=some o->H b=none->∃ sl,h'.get? b=some { o with slots:=sl }) (free:∀ b o,b∉ch->s.heap.get? b=some o->H b=none->H' b=none)
  (there:∀ b o,b∉ch->s.heap.get? b=some o->∃ o',h'.get? b=some o')
  (tups:∀ b xs,H b=some (.tup xs)->H' b=some (.tup xs)) (frzs:∀ b o u,H b=some (.frz o u)->H' b=some (.frz o u)) (tbls:∀ b ps,H b=some (.tbl ps)->∃ more,H' b=some (.tbl (ps++more)))
  (ns:∀ m,s.heap.Ns X.env.locals m->h'.Ns X.env.locals m) (hok:HOk X.prog X.w H' h') (hg:AllBare g'):
  Inv X pins σ H' { s with heap:=h',gens:=g',drawn:=d',toks:=t' }:=by
 have neL:∀ b o,X.s₀.heap.get? b=some o->b≠X.env.locals:=fun b o e=>Nat.ne_of_lt (Nat.lt_of_lt_of_le (Heap.lt_size e) I.ok.above)
 have neC:∀ b o,X.s₀.heap.get? b=some o->b∉X.ex->b∉ch:=fun b o e hx hb=>by
  rcases (hch b hb).1 with z | z
  ·exact hx z
  ·exact absurd (Nat.lt_of_lt_of_le (Heap.lt_size e) z) (Nat.lt_irrefl _)
 have cellK:∀ x c,X.env.cells.lookup x=some c->∀ v,s.heap.IsCell c v->h'.IsCell c v:=fun x c e v pq1=>by
  obtain⟨o,ho,hd⟩:=pq1
  have nch:c∉ch:=fun z=>(hch c z).2.2.1 x c e rfl
  by_cases hc:c∈X.fs
  ·obtain⟨sl,q⟩:=slot c o (I.cne x c e) hc nch ho (I.freeC x c e)
   exact⟨_,q,hd⟩
  ·exact⟨o,keep c o (I.cne x c e) hc nch ho (I.freeC x c e),hd⟩
 refine⟨I.ok,I.os,hg,⟨fun b o e n hb hx=>?_,fun b o e n hb hx=>?_,fun b o e n hx=>?_,fun b o e hx=>?_,fun b xs e=>tups b xs (I.base.tups b xs e),fun b o xs e=>frzs b o xs (I.base.frzs b o xs e),fun b ps e=>?_⟩,?_,fun x c e=>?_,?_,fun x c e=>?_,fun p hp=>?_,hok,I.len⟩
 ·exact keep b o (neL b o e) hb (neC b o e hx) (I.base.keep b o e n hb hx) (I.base.free b o e n hx)
 ·obtain⟨sl,e1⟩:=I.base.slot b o e n hb hx
  obtain⟨sl',e2⟩:=slot b _ (neL b o e) hb (neC b o e hx) e1 (I.base.free b o e n hx)
  exact⟨sl',e2⟩
 ·obtain⟨o',e1⟩:=I.base.there b o e hx
  exact free b o' (neC b o e hx) e1 (I.base.free b o e n hx)
 ·obtain⟨o',e1⟩:=I.base.there b o e hx
  exact there b o' (neC b o e hx) e1
 ·obtain⟨m1,e1⟩:=I.base.tbls b ps e
  obtain⟨m2,e2⟩:=tbls b _ e1
  exact⟨m1++m2,by rw[e2,Array.append_assoc]⟩
 ·obtain⟨m,hn,hl⟩:=I.loc
  refine⟨m,ns m hn,fun i x v e1 e2 e3=>?_⟩
  obtain⟨u,r,l⟩:=hl i x v e1 e2 e3
  refine⟨u,r,?_⟩
  rcases l with l | ⟨k,c,e,z⟩
  ·exact .inl l
  ·exact .inr ⟨k,c,e,cellK x c e _ z⟩
 ·obtain⟨v,z⟩:=I.cell x c e
  exact⟨v,cellK x c e v z⟩
 ·obtain⟨m,⟨o,_,_,ho,_⟩,_⟩:=I.loc
  exact free _ o (fun z=>(hch _ z).2.1 rfl) ho I.free
 ·obtain⟨v,o,ho,hd⟩:=I.cell x c e
  exact free c o (fun z=>(hch c z).2.2.1 x c e rfl) ho (I.freeC x c e)
 ·obtain⟨e,n,ne,nf,d⟩:=I.pin p hp
  have nch:p.1∉ch:=fun z=>(hch p.1 z).2.2.2 p hp rfl
  exact⟨keep p.1 p.2 ne nf nch e n,free p.1 p.2 nch e n,ne,nf,d⟩
theorem Inv.un {t':Nat} (I:Inv X pins σ H s) (u:Un X.fs [] H H' s.heap h') (hok:HOk X.prog X.w H' h'):Inv X pins σ H' { s with heap:=h',toks:=t' }:=by
 obtain⟨m,⟨o,es,ep,ho,r⟩,_⟩:=id I.loc
 obtain⟨sl,hL⟩:=u.any ho I.free (by simp)
 exact I.step (g':=s.gens) (d':=s.drawn) (ch:=[]) (fun _ z=>nomatch z) (fun b o _ hb _ e n=>u.keep b o e n hb (by simp)) (fun b o _ hb _ e n=>u.slot b o e n hb (by simp)) (fun b o _ e n=>u.free b o e n (by simp)) (fun b o _ e=>u.there b o e (by simp)) u.tups u.frzs u.tbls (fun m' hm=>by
  obtain⟨o',es',ep',ho',r'⟩:=hm
  rw[ho]at ho';cases ho'
  exact⟨_,es',ep',hL,r'⟩) hok I.bare
theorem Inv.call {g' : Array GenState} {t' : Nat} {d' : Drawn} {ch : List Addr} (I : Inv X pins σ H s) (u : Un (frs X.stack) ch H H' s.heap h') (hok : HOk X.prog X.w H' h') (hg : AllBare g')
  (hch:∀ b∈ch,(b∈X.ex\/X.s₀.heap.objs.size<=b)/\b≠X.env.locals/\(∀ x c,X.env.cells.lookup x=some c->c≠b)/\∀ p∈X.pn++pins,p.1≠b):
  Inv X pins σ H' { s with heap:=h',gens:=g',drawn:=d',toks:=t' }:=by
 obtain⟨m,⟨o,es,ep,ho,r⟩,_⟩:=id I.loc
 obtain⟨sl,hL⟩:=u.any ho I.free fun z=>(hch _ z).2.1 rfl
 exact I.step (ch:=ch) hch (fun b o hL hb hc e n=>u.keep b o e n (fun z=>(List.mem_cons.mp (I.stkSub b z)).elim hL hb) hc) (fun b o _ _ hc e n=>u.any e n hc) (fun b o hc e n=>u.free b o e n hc) (fun b o hc e=>u.there b o e hc) u.tups u.frzs u.tbls (fun m' hm=>by
  obtain⟨o',es',ep',ho',r'⟩:=hm
  rw[ho]at ho';cases ho'
  exact⟨_,es',ep',hL,r'⟩) hok hg
theorem Inv.turned {t' : Nat} {it : Addr} (I : Inv X pins σ H s) (k : ∀ b o, b ≠ it -> s.heap.get? b = some o -> h'.get? b = some o) (hn : H it = none) (hL : it ≠ X.env.locals)
  (h1:it∈X.ex\/X.s₀.heap.objs.size<=it) (h2:∀ x c,X.env.cells.lookup x=some c->c≠it) (h3:∀ p∈X.pn++pins,p.1≠it):Inv X pins σ H { s with heap:=h',toks:=t' }:=by
 have nit:∀ b u,H b=some u->b≠it:=fun b u e z=>by rw[z,hn]at e;cases e
 refine I.step (g':=s.gens) (d':=s.drawn) (ch:=[it]) (fun b hb=>?_) (fun b o _ _ hc e _=>k b o (fun z=>hc (by simp[z])) e) (fun b o _ _ hc e _=>⟨o.slots,k b o (fun z=>hc (by simp[z])) e⟩) (fun _ _ _ _ n=>n)
  (fun b o hc e=>⟨o,k b o (fun z=>hc (by simp[z])) e⟩) (fun _ _ e=>e) (fun _ _ _ e=>e) (fun b ps e=>⟨#[],by rw[e];simp⟩) (fun m hm=>?_) (fun b u e=>?_) I.bare
 ·have e:b=it:=by simpa using hb
  subst e
  exact⟨h1,hL,h2,h3⟩
 ·obtain⟨o,es,ep,ho,r⟩:=hm
  exact⟨o,es,ep,k _ o (Ne.symm hL) ho,r⟩
 ·refine (I.hok b u e).stay (fun c v hc q=>k c v ?_ q) (fun _ q=>q) fun _ _ q=>q
  rcases hc with z | z
  ·rw[z];exact nit b u e
  ·exact nit c _ z
theorem Inv.tok (I:Inv X pins σ H s) (t:Nat):Inv X pins σ H { s with toks:=t }:=I.un (h':=s.heap) (t':=t) Un.refl I.hok
theorem Inv.kept {t':Nat} (I:Inv X pins σ H s) (k:∀ b u,s.heap.get? b=some u->h'.get? b=some u):Inv X pins σ H { s with heap:=h',toks:=t' }:=I.un (Un.kept k) (I.hok.kept k)
theorem Inv.laid {a : Addr} {o : HO} {t' : Nat} (I : Inv X pins σ H s) (k : ∀ b u, s.heap.get? b = some u -> h'.get? b = some u) (hp : s.heap.objs.size <= a) (new : ObjOk X.prog X.w (upd H a o) h' a o) :
  Inv X pins σ (upd H a o) { s with heap:=h',toks:=t' }:=I.un (Un.laid k hp (I.hok.fresh hp)) (I.hok.laid k hp new)
theorem Inv.write {x e : Addr} {o : HO} {t' : Nat} (I : Inv X pins σ H s) (mu : Mut (H x)) (he : e = x \/ H e = some (.own x)) (k : ∀ b u, b ≠ e -> s.heap.get? b = some u -> h'.get? b = some u) (heo : ∃ u, h'.get? e = some u)
  (new:ObjOk X.prog X.w (upd H x o) h' x o):Inv X pins σ (upd H x o) { s with heap:=h',toks:=t' }:=I.un (Un.write mu he k heo) (I.hok.write mu he k heo new)
theorem Inv.pins_of {pins':List (Addr × Obj)} (I:Inv X pins σ H s) (h:∀ p∈pins',s.heap.get? p.1=some p.2/\H p.1=none/\p.1≠X.env.locals/\p.1∉X.fs/\∀ v,p.2.data≠.cell v):Inv X pins' σ H s:=
 ⟨I.ok,I.os,I.bare,I.base,I.loc,I.cell,I.free,I.freeC,fun p hp=>(List.mem_append.mp hp).elim (fun z=>I.pin p (List.mem_append_left _ z)) (h p),I.hok,I.len⟩
theorem Qap {N:List Str} (hN:N.Nodup) {i j:Nat}{x:Str} (a:N[i]?=some x) (b:N[j]?=some x):i=j:=by
 obtain⟨h1,e1⟩:=List.getElem?_eq_some_iff.mp a
 obtain⟨h2,e2⟩:=List.getElem?_eq_some_iff.mp b
 exact (List.getElem_inj hN).mp (e1.trans e2.symm)
theorem Qaq {M : Model} {A : Around} {E : Value -> Shared -> Prop} {i : Nat} {x : Str} {v : V} {u : Value} {Q : Unit -> Shared -> Prop} (I : Inv X pins σ H s) (hN : X.N.Nodup) (hi : X.N[i]? = some x) (hx : Loc X.env.scope x) (r : RelV v u)
  (h:∀ s',Inv X pins (σ.set i (some v)) H s'->(∃ a,Heap.SameBut a s.heap s'.heap/\(a=X.env.locals\/X.env.cells.lookup x=some a))->Q () s') (hf:X.fn x=true\/X.env.scope.names.lookup x=some .local:=by first | exact .inl rfl | exact .inr rfl | assumption):wpAny M A (storeName X.env x u) Q E s:=by
 obtain⟨m,hn,hl⟩:=id I.loc
 have hcls:(X.env.scope.kind == .class || (X.env.scope.kind == .module && X.env.locals != X.env.globals))=false:=by rw[I.ok.kind];rfl
 have hiσ:i < σ.length:=by rw[I.len];exact (List.getElem?_eq_some_iff.mp hi).1
 have cne:=I.cne
 have tracked:∀ {a:Addr}{h':Heap},(∃ o,s.heap.get? a=some o/\H a=none)->Heap.SameBut a s.heap h'->HOk X.prog X.w H h':=fun {a h'} ha hs b ob e=>by
  obtain⟨_,_,hfree⟩:=ha
  refine (I.hok b ob e).stay (fun c w' hc q=>(hs.2 c ?_).trans q) (fun _ q=>q) fun _ _ q=>q
  rintro rfl
  rcases hc with rfl | hc
  ·rw[hfree]at e;cases e
  ·rw[hfree]at hc;cases hc
 rcases hx with hk | hk
 ·refine wpAny_storeName_local hk hn (fun h' hn' hs=>?_) hcls
  obtain⟨oL,_,_,hoL,_⟩:=id hn
  refine h _ ⟨I.ok,I.os,I.bare,⟨fun b o e n hb hx=>?_,fun b o e n hb hx=>?_,I.base.free,fun b o e hx=>?_,I.base.tups,I.base.frzs,I.base.tbls⟩,⟨_,hn',fun j y v' e1 e2 e3=>?_⟩,fun y c e=>?_,I.free,I.freeC,fun p hp=>?_,tracked ⟨oL,hoL,I.free⟩ hs,by simpa using I.len⟩ ⟨_,hs,.inl rfl⟩
  ·exact (hs.2 b (Nat.ne_of_lt (Nat.lt_of_lt_of_le (Heap.lt_size e) I.ok.above))).trans (I.base.keep b o e n hb hx)
  ·obtain⟨sl,e1⟩:=I.base.slot b o e n hb hx
   exact⟨sl,(hs.2 b (Nat.ne_of_lt (Nat.lt_of_lt_of_le (Heap.lt_size e) I.ok.above))).trans e1⟩
  ·obtain⟨o',e1⟩:=I.base.there b o e hx
   exact⟨o',(hs.2 b (Nat.ne_of_lt (Nat.lt_of_lt_of_le (Heap.lt_size e) I.ok.above))).trans e1⟩
  ·by_cases hj:j=i
   ·subst hj
    rw[hi]at e1;cases e1
    rw[List.getElem?_set_self hiσ]at e2
    cases e2
    exact⟨u,r,.inl ⟨hk,by simp⟩⟩
   ·rw[List.getElem?_set_ne (Ne.symm hj)]at e2
    obtain⟨u',r',q⟩:=hl j y v' e1 e2 e3
    refine⟨u',r',?_⟩
    rcases q with ⟨k,e⟩ | ⟨k,c,e,z⟩
    ·refine .inl ⟨k,?_⟩
     have:y≠x:=fun e=>hj (Qap hN e1 (e ▸ hi))
     simp[this,e]
    ·exact .inr ⟨k,c,e,z.sameBut hs (cne y c e)⟩
  ·obtain⟨w',z⟩:=I.cell y c e
   exact⟨w',z.sameBut hs (cne y c e)⟩
  ·obtain⟨e,n,ne,nf,d⟩:=I.pin p hp
   exact⟨(hs.2 p.1 ne).trans e,n,ne,nf,d⟩
 ·have hfn : X.fn x = true := by
    rcases hf with z | z
    ·exact z
    ·rw[z]at hk;cases hk
  obtain⟨c,hc⟩:=I.ok.has x (.inl hk)
  obtain⟨w',z⟩:=I.cell x c hc
  refine wpAny_storeName_cell I.ok.kind hk hc z (fun h' hc' hs=>?_)
  obtain⟨oc,hoc,hocd⟩:=id z
  refine h { s with heap:=h' } ⟨I.ok,I.os,I.bare,⟨fun b o e n hb hx=>?_,fun b o e n hb hx=>?_,I.base.free,fun b o e hx=>?_,I.base.tups,I.base.frzs,I.base.tbls⟩,⟨m,hn.sameBut hs (Ne.symm (cne x c hc)),fun j y v' e1 e2 e3=>?_⟩,fun y c' e=>?_,I.free,I.freeC,fun p hp=>?_,tracked ⟨oc,hoc,I.freeC x c hc⟩ hs,by simpa using I.len⟩ ⟨c,hs,.inr hc⟩
  ·exact (hs.2 b (Nat.ne_of_lt (Nat.lt_of_lt_of_le (Heap.lt_size e) (I.ok.cab x c hfn hc)))).trans (I.base.keep b o e n hb hx)
  ·obtain⟨sl,e1⟩:=I.base.slot b o e n hb hx
   exact⟨sl,(hs.2 b (Nat.ne_of_lt (Nat.lt_of_lt_of_le (Heap.lt_size e) (I.ok.cab x c hfn hc)))).trans e1⟩
  ·obtain⟨o',e1⟩:=I.base.there b o e hx
   exact⟨o',(hs.2 b (Nat.ne_of_lt (Nat.lt_of_lt_of_le (Heap.lt_size e) (I.ok.cab x c hfn hc)))).trans e1⟩
  ·by_cases hj:j=i
   ·subst hj
    rw[hi]at e1;cases e1
    rw[List.getElem?_set_self hiσ]at e2
    cases e2
    exact⟨u,r,.inr ⟨.inl hk,c,hc,hc'⟩⟩
   ·rw[List.getElem?_set_ne (Ne.symm hj)]at e2
    obtain⟨u',r',q⟩:=hl j y v' e1 e2 e3
    refine⟨u',r',?_⟩
    rcases q with q | ⟨k,c',e,z'⟩
    ·exact .inl q
    ·refine .inr ⟨k,c',e,z'.sameBut hs ?_⟩
     rintro rfl
     exact hj (Qap hN e1 (I.ok.inj _ _ _ e hc ▸ hi))
  ·by_cases hcc:c'=c
   ·subst hcc;exact⟨_,hc'⟩
   ·obtain⟨w2,z2⟩:=I.cell y c' e
    exact⟨w2,z2.sameBut hs hcc⟩
  ·obtain⟨e,n,ne,nf,d⟩:=I.pin p hp
   refine⟨(hs.2 p.1 ?_).trans e,n,ne,nf,d⟩
   intro q
   rw[q,hoc]at e
   have q':oc=p.2:=Option.some.inj e
   exact d w' (by rw[<- q'];exact hocd)
theorem Qar {M : Model} {A : Around} {E : Value -> Shared -> Prop} {i : Nat} {x : Str} {v : V} {u : Value} {Q : Unit -> Shared -> Prop} (I : Inv X pins σ H s) (hN : X.N.Nodup) (hi : X.N[i]? = some x) (hx : Loc X.env.scope x) (r : RelV v u)
  (h:∀ s',Inv X pins (σ.set i (some v)) H s'->Q () s') (hf:X.fn x=true\/X.env.scope.names.lookup x=some .local:=by first | exact .inl rfl | exact .inr rfl | assumption):wpAny M A (storeName X.env x u) Q E s:=
 Qaq I hN hi hx r (fun s' I' _=>h s' I') hf
theorem Inv.call' {s' : Shared} {ch : List Addr} (I : Inv X pins σ H s) (ho : s'.os = s.os) (u : Un (frs X.stack) ch H H' s.heap s'.heap) (hok : HOk X.prog X.w H' s'.heap) (hg : AllBare s'.gens)
  (hch:∀ b∈ch,(b∈X.ex\/X.s₀.heap.objs.size<=b)/\b≠X.env.locals/\(∀ x c,X.env.cells.lookup x=some c->c≠b)/\∀ p∈X.pn++pins,p.1≠b):Inv X pins σ H' s':=by
 obtain⟨h',g',d',t',o'⟩:=s'
 have e:o'=s.os:=ho
 subst e
 exact I.call (g':=g') (t':=t') (d':=d') u hok hg hch
end
abbrev XK:=Value->Option Addr->Hp->Prop
abbrev St:=List (Option V)
abbrev VK:=V->Hp->Prop
abbrev TE:=St->Hp->VK->Prop
abbrev TT:=St->Hp->(Bool->Hp->Prop)->Prop
abbrev TA:=St->Hp->(List V->Hp->Prop)->Prop
structure Ends where
 nx:St->Hp->Prop
 rt:VK
 bk:St->Hp->Prop:=fun _ _=>False
 ct:St->Hp->Prop:=fun _ _=>False
abbrev TS:=Ends->St->Hp->Prop
def EP (X:Cx) (pins:List (Addr × Obj)) (σ:St) (Q:VK) (u:Value) (s':Shared):Prop:=∃ v H',Inv X pins σ H' s'/\RelV v u/\Q v H'
def TP (X:Cx) (pins:List (Addr × Obj)) (σ:St) (Q:Bool->Hp->Prop) (b:Bool) (s':Shared):Prop:=∃ H',Inv X pins σ H' s'/\Q b H'
def AP (X:Cx) (pins:List (Addr × Obj)) (σ:St) (Q:List V->Hp->Prop) (us:List Value) (s':Shared):Prop:=∃ vs H',Inv X pins σ H' s'/\Vals vs us/\Q vs H'
def SP (X:Cx) (pins:List (Addr × Obj)) (D:Ends) (f:Flow) (s':Shared):Prop:=
 match f with
 | .next=>∃ σ' H',Inv X pins σ' H' s'/\D.nx σ' H'
 | .brk=>∃ σ' H',Inv X pins σ' H' s'/\D.bk σ' H'
 | .cont=>∃ σ' H',Inv X pins σ' H' s'/\D.ct σ' H'
 | .ret u=>∃ v σ' H',Inv X pins σ' H' s'/\RelV v u/\D.rt v H'
def PE (X:Cx) (e:Expr) (t:TE):Prop:=
 ∀ (pins:List (Addr × Obj)) (s:Shared) (σ:St) (H:Hp) (Q:VK),Inv X pins σ H s->t σ H Q->wpAny (model X.prog X.w) X.A (eval e X.env) (EP X pins σ Q) X.xe s
def PT (X:Cx) (e:Expr) (t:TT):Prop:=
 ∀ (pins:List (Addr × Obj)) (s:Shared) (σ:St) (H:Hp) (Q:Bool->Hp->Prop),Inv X pins σ H s->t σ H Q->wpAny (model X.prog X.w) X.A (isTrue e X.env (eval e X.env)) (TP X pins σ Q) X.xe s
def PW (X:Cx) (e:Expr) (t:TT):Prop:=
 ∀ (whole:Sem Value) (pins:List (Addr × Obj)) (s:Shared) (σ:St) (H:Hp) (Q:Bool->Hp->Prop),Inv X pins σ H s->t σ H Q->wpAny (model X.prog X.w) X.A (isTrue e X.env whole) (TP X pins σ Q) X.xe s
theorem PW.pt {X:Cx}{e:Expr}{t:TT} (h:PW X e t):PT X e t:=h _
def PA (X:Cx) (es:List Expr) (t:TA):Prop:=
 ∀ (pos:Pos) (pins:List (Addr × Obj)) (s:Shared) (σ:St) (H:Hp) (Q:List V->Hp->Prop),Inv X pins σ H s->t σ H Q->wpAny (model X.prog X.w) X.A (spliced (backTo pos (starEach es X.env))) (AP X pins σ Q) X.xe s
def PS (X:Cx) (st:Stmt) (t:TS):Prop:=
 ∀ (pins:List (Addr × Obj)) (s:Shared) (σ:St) (H:Hp) (D:Ends),Inv X pins σ H s->t D σ H->wpAny (model X.prog X.w) X.A (exec st X.env) (SP X pins D) X.xe s
def PSs (X:Cx) (st:List Stmt) (t:TS):Prop:=
 ∀ (pins:List (Addr × Obj)) (s:Shared) (σ:St) (H:Hp) (D:Ends),Inv X pins σ H s->t D σ H->wpAny (model X.prog X.w) X.A (execs st X.env) (SP X pins D) X.xe s
theorem thn {α:Type}{t:Sem α}{Q Q':α->Shared->Prop}{M:Model}{A:Around}{E:Value->Shared->Prop}{s:Shared} (h:wpAny M A t Q E s) (hQ:∀ a s,Q a s->Q' a s):wpAny M A t Q' E s:=wpAny_mono h hQ fun _ _ x=>x
section
variable {X:Cx}
def tVar (i:Nat):TE:=fun σ H Q=>∃ v,σ[i]?=some (some v)/\Q v H
def tC (v:V):TE:=fun _ H Q=>Q v H
theorem Qas {i:Nat}{x:Str}{pos:Pos} (hN:X.N[i]?=some x) (hv:Vis X.env.scope x) (hd:(x == ("__debug__":Str))=false:=by decide) (hcd:(x == ("__classdict__":Str))=false:=by decide):PE X (.Name x pos) (tVar i):=by
 intro pins s σ H Q I h
 obtain⟨v,e,h⟩:=h
 obtain⟨m,hn,hl⟩:=I.loc
 obtain⟨u,r,l⟩:=hl i x v hN e hv
 have fin:EP X pins σ Q u s:=⟨v,H,I,r,h⟩
 rcases l with ⟨hk,hm⟩ | ⟨hk,c,hc,hcell⟩
 ·exact wpAny_Name (wpAny_loadName_local I.ok.kind hk hn hm fin) hd
 ·rcases hk with hk | hk
  ·exact wpAny_Name (wpAny_loadName_cell I.ok.kind hk hc hcell fin) hd
  ·exact wpAny_Name (wpAny_loadName_free I.ok.kind hk hc hcell fin hcd) hd
theorem Qat {i j pos}:PE X (.Constant (.int i) j pos) (tC (.int i)):=fun _ _ _ H _ I h=>wpAny_Constant_int ⟨.int i,H,I.tok _,⟨_,rfl⟩,h⟩
theorem Qau {b j pos}:PE X (.Constant (.bool b) j pos) (tC (.bl b)):=fun _ _ _ H _ I h=>Constant_bool ⟨.bl b,H,I,rfl,h⟩
theorem Qav {j pos}:PE X (.Constant .none j pos) (tC .non):=fun _ _ _ H _ I h=>Constant_none ⟨.non,H,I,rfl,h⟩
theorem Qaw {x j pos}:PE X (.Constant (.str x) j pos) (tC (.str x)):=fun _ _ _ H _ I h=>Calls.Constant_str ⟨.str x,H,I.tok _,⟨_,rfl⟩,h⟩
def Gl (X:Cx) (x:Str):Prop:=X.env.kindOf x=some .globalImplicit
theorem Qax {E : Value -> Shared -> Prop} {pins : List (Addr × Obj)} {s : Shared} {σ : St} {H : Hp} {x : Str} {u : Value} {pos : Pos} {Q : Value -> Shared -> Prop} (I : Inv X pins σ H s) (hg : Gl X x) (hm : X.mg x = some u) (h : Q u s)
  (hd:(x == ("__debug__":Str))=false:=by decide):wpAny (model X.prog X.w) X.A (eval (.Name x pos) X.env) Q E s:=
 Calls.Name_function_global I.ok.kind hg (Calls.loadGlobal_global (by rw[I.ok.glob];exact I.mod.glob.keeps I.bk) hm h) hd
theorem Qay {E : Value -> Shared -> Prop} {pins : List (Addr × Obj)} {s : Shared} {σ : St} {H : Hp} {x : Str} {u : Value} {pos : Pos} {Q : Value -> Shared -> Prop} (I : Inv X pins σ H s) (hg : Gl X x) (hm : X.mg x = none) (hv : bootBuiltins x = some u) (h : Q u s)
  (hn:x≠"__name__":=by decide) (hd:(x == ("__debug__":Str))=false:=by decide):wpAny (model X.prog X.w) X.A (eval (.Name x pos) X.env) Q E s:=by
 obtain⟨mb,h1,h2⟩:=I.mod.blt
 exact Calls.Name_function_global I.ok.kind hg (Calls.loadGlobal_builtin (by rw[I.ok.glob];exact I.mod.glob.keeps I.bk) hm (by rw[I.ok.blt];exact h1.keeps I.bk) ((h2 x hn).trans hv) h) hd
theorem Qaz {x:Str}{v:V}{u:Value}{pos:Pos} (hg:Gl X x) (hm:X.mg x=some u) (r:RelV v u) (hd:(x == ("__debug__":Str))=false:=by decide):PE X (.Name x pos) (tC v):=
 fun _ _ _ H _ I h=>Qax I hg hm ⟨v,H,I,r,h⟩ hd
theorem QaA {x:Str}{v:V}{u:Value}{pos:Pos} (hg:Gl X x) (hm:X.mg x=none) (hv:bootBuiltins x=some u) (r:RelV v u) (hn:x≠"__name__":=by decide) (hd:(x == ("__debug__":Str))=false:=by decide):PE X (.Name x pos) (tC v):=
 fun _ _ _ H _ I h=>Qay I hg hm hv ⟨v,H,I,r,h⟩ hn hd
variable {a b:Expr}{ta tb:TE}{pos:Pos}
variable {tA tB':TT}{rest:List Expr}
def tAnd (t u:TT):TT:=fun σ H Q=>t σ H fun c H1=>if c=true then u σ H1 Q else Q false H1
def tOr (t u:TT):TT:=fun σ H Q=>t σ H fun c H1=>if c=true then Q true H1 else u σ H1 Q
def tNot (t:TT):TT:=fun σ H Q=>t σ H fun c H1=>Q (!c) H1
theorem QaB (ha:PT X a tA):PW X (.BoolOp .And [a] pos) tA:=by
 intro wh pins s σ H Q I h
 refine isTrue_and (thn (ha pins s σ H Q I h) fun c s1 e=>?_)
 cases c with
 | true=>exact isTrue_and_nil e
 | false=>exact e
theorem QaC (ha:PT X a tA):PW X (.BoolOp .Or [a] pos) tA:=by
 intro wh pins s σ H Q I h
 refine isTrue_or (thn (ha pins s σ H Q I h) fun c s1 e=>?_)
 cases c with
 | false=>exact isTrue_or_nil e
 | true=>exact e
theorem QaD (ha:PT X a tA) (hb:PW X (.BoolOp .And (b::rest) pos) tB'):PW X (.BoolOp .And (a::b::rest) pos) (tAnd tA tB'):=by
 intro wh pins s σ H Q I h
 refine isTrue_and (thn (ha pins s σ H _ I h) fun c s1 pq2=>?_)
 obtain⟨H1,I1,q1⟩:=pq2
 cases c with
 | true=>exact hb wh pins s1 σ H1 Q I1 q1
 | false=>exact⟨H1,I1,q1⟩
theorem QaE (ha:PT X a tA) (hb:PW X (.BoolOp .Or (b::rest) pos) tB'):PW X (.BoolOp .Or (a::b::rest) pos) (tOr tA tB'):=by
 intro wh pins s σ H Q I h
 refine isTrue_or (thn (ha pins s σ H _ I h) fun c s1 pq3=>?_)
 obtain⟨H1,I1,q1⟩:=pq3
 cases c with
 | true=>exact⟨H1,I1,q1⟩
 | false=>exact hb wh pins s1 σ H1 Q I1 q1
theorem QaF (ha:PT X a tA):PT X (.UnaryOp .Not a pos) (tNot tA):=by
 intro pins s σ H Q I h
 exact isTrue_not (ha pins s σ H (fun c H1=>Q (!c) H1) I h)
def tAndV (ta tb:TE):TE:=fun σ H Q=>ta σ H fun x H1=>∃ c,x=.bl c/\if c=true then tb σ H1 Q else Q (.bl false) H1
def tNotV (ta:TE):TE:=fun σ H Q=>ta σ H fun x H1=>∃ c,x=.bl c/\Q (.bl (!c)) H1
theorem QaG {op}{t:TE} (h:PE X a t):PE X (.BoolOp op [a] pos) t:=fun pins s σ H Q I hw=>BoolOp_one (h pins s σ H Q I hw)
theorem QaH (ha:PE X a ta) (hb:PE X (.BoolOp .And (b::rest) pos) tb):PE X (.BoolOp .And (a::b::rest) pos) (tAndV ta tb):=by
 intro pins s σ H Q I h
 refine BoolOp_and (thn (ha pins s σ H _ I h) fun v s1 pq4=>?_)
 obtain⟨x,H1,I1,r1,q1⟩:=pq4
 obtain⟨c,rfl,q1⟩:=q1
 cases r1
 refine wpAny_truthy_bool ?_
 cases c with
 | true=>exact hb pins s1 σ H1 Q I1 q1
 | false=>exact⟨.bl false,H1,I1,rfl,q1⟩
theorem QaI (ha:PE X a ta):PE X (.UnaryOp .Not a pos) (tNotV ta):=by
 intro pins s σ H Q I h
 refine UnaryOp_ (thn (ha pins s σ H _ I h) fun v s1 pq5=>?_)
 obtain⟨x,H1,I1,r1,q1⟩:=pq5
 obtain⟨c,rfl,q1⟩:=q1
 cases r1
 exact not_of (wpAny_truthy_bool ⟨.bl (!c),H1,I1,rfl,q1⟩)
end
def SqL (K:PySem.W.Frag) (H:Hp) (a:Addr) (xs:List V):Prop:=
 Rd H a (.lst xs) \/
  ∃ (o:Obj) (its:Array Value) (n:Nat),K.lookup a=some o/\o.cls=.type "list"/\o.dict=none/\o.data=.seq its n/\its.size<=sizeLine/\Vals xs its.toList
def SqT (K:PySem.W.Frag) (H:Hp) (a:Addr) (xs:List V):Prop:=
 Rd H a (.tup xs) \/
  ∃ (o:Obj) (its:Array Value) (n:Nat),K.lookup a=some o/\o.cls=.type "tuple"/\o.dict=none/\o.data=.seq its n/\its.size<=sizeLine/\Vals xs its.toList
def absV:Value->Option V
 | .none=>some .non
 | .bool b=>some (.bl b)
 | .int i _=>some (.int i)
 | .str x _=>some (.str x)
 | .bytes b _=>some (.byt b)
 | .float b _=>some (.flt b)
 | .ref a=>some (.ref a)
 | .type n=>some (.ty n)
 | _=>none
theorem RelV.abs {x:V}{u:Value} (r:RelV x u):absV u=some x:=by
 cases x with
 | non=>cases r;rfl
 | bl _=>cases r;rfl
 | int _=>obtain⟨t,rfl⟩:=r;rfl
 | str _=>obtain⟨t,rfl⟩:=r;rfl
 | byt _=>obtain⟨t,rfl⟩:=r;rfl
 | flt _=>obtain⟨t,rfl⟩:=r;rfl
 | ref _=>cases r;rfl
 | ty _=>cases r;rfl
theorem RelV.inj {x y:V}{u:Value} (r:RelV x u) (q:RelV y u):x=y:=Option.some.inj (r.abs.symm.trans q.abs)
theorem Vals.inj:∀ {xs ys:List V}{us:List Value},Vals xs us->Vals ys us->xs=ys
 | _,_,_,.nil,.nil=>rfl
 | _,_,_,.cons r t,.cons r' t'=>by rw[r.inj r',Vals.inj t t']
section
variable {X:Cx}{pins:List (Addr × Obj)}{σ:St}{H:Hp}{s:Shared}{a:Addr}{xs ys:List V}
theorem SqL.of {K:PySem.W.Frag} (h:H a=some (.lst xs)):SqL K H a xs:=.inl (.inl h)
theorem SqT.of {K:PySem.W.Frag} (h:H a=some (.tup xs)):SqT K H a xs:=.inl (.inl h)
theorem Inv.list (I:Inv X pins σ H s) (h:SqL X.K H a xs):∃ its:List Value,Vals xs its/\PlainL s.heap a its.toArray/\xs.length<=sizeLine:=by
 rcases h with h | ⟨o,its,n,hk,hc,hd,hs,hz,r⟩
 ·obtain⟨z,its,n,r,e⟩:=h.ok I.hok
  exact⟨its,r,⟨_,n,e,rfl,rfl,rfl⟩,z⟩
 ·refine⟨its.toList,r,⟨o,n,I.kIn a o hk,hc,hd,by simpa using hs⟩,?_⟩
  have e:=r.length
  simp only[Array.length_toList]at e
  ac_nf
theorem Inv.tupleD (I:Inv X pins σ H s) (h:SqT X.K H a xs):∃ its:List Value,Vals xs its/\IsTupD s.heap a its.toArray/\xs.length<=sizeLine:=by
 rcases h with h | ⟨o,its,n,hk,hc,hd,hs,hz,r⟩
 ·obtain⟨z,its,r,p⟩:=h.ok I.hok
  exact⟨its,r,p,z⟩
 ·refine⟨its.toList,r,⟨o,I.kIn a o hk,hc,⟨n,by simpa using hs⟩,hd⟩,?_⟩
  have e:=r.length
  simp only[Array.length_toList]at e
  ac_nf
theorem Inv.tuple (I:Inv X pins σ H s) (h:SqT X.K H a xs):∃ its:List Value,Vals xs its/\IsTup s.heap a its.toArray/\xs.length<=sizeLine:=let ⟨its,r,p,z⟩:=I.tupleD h;⟨its,r,p.is,z⟩
theorem Inv.list_inj (I:Inv X pins σ H s) (h:SqL X.K H a xs) (h':SqL X.K H a ys):xs=ys:=by
 obtain⟨its,r,⟨o,n,e,_,_,d⟩,_⟩:=I.list h
 obtain⟨its',r',⟨o',n',e',_,_,d'⟩,_⟩:=I.list h'
 rw[e]at e';cases e'
 rw[d]at d'
 injection d' with d1 _
 have:its=its':=by simpa using congrArg Array.toList d1
 subst this
 exact r.inj r'
theorem Inv.tuple_inj (I:Inv X pins σ H s) (h:SqT X.K H a xs) (h':SqT X.K H a ys):xs=ys:=by
 obtain⟨its,r,⟨o,e,_,n,d⟩,_⟩:=I.tuple h
 obtain⟨its',r',⟨o',e',_,n',d'⟩,_⟩:=I.tuple h'
 rw[e]at e';cases e'
 rw[d]at d'
 injection d' with d1 _
 have:its=its':=by simpa using congrArg Array.toList d1
 subst this
 exact r.inj r'
end
abbrev Cx.wish (X:Cx) (E:Value->Shared->Prop):Cx:={ X with xe:=E }
abbrev Cx.nox (X:Cx):Cx:=X.wish fun _ _=>False
theorem Cx.Ok.wish {X:Cx} (ok:X.Ok) (E:Value->Shared->Prop):(X.wish E).Ok:=
 ⟨ok.mod,ok.kind,ok.glob,ok.blt,ok.above,ok.inj,ok.has,ok.cab,ok.hd,ok.frames,ok.stk,ok.exf,ok.bs,ok.bsz,ok.noex,ok.exfs,ok.funs,ok.frf⟩
theorem Cx.Ok.unwish {X:Cx}{E:Value->Shared->Prop} (ok:(X.wish E).Ok):X.Ok:=
 ⟨ok.mod,ok.kind,ok.glob,ok.blt,ok.above,ok.inj,ok.has,ok.cab,ok.hd,ok.frames,ok.stk,ok.exf,ok.bs,ok.bsz,ok.noex,ok.exfs,ok.funs,ok.frf⟩
section
variable {X:Cx}{pins:List (Addr × Obj)}{σ:St}{H:Hp}{s:Shared}{E:Value->Shared->Prop}
theorem Inv.wish (I:Inv X pins σ H s) (E:Value->Shared->Prop):Inv (X.wish E) pins σ H s:=⟨I.ok.wish E,I.os,I.bare,I.base,I.loc,I.cell,I.free,I.freeC,I.pin,I.hok,I.len⟩
theorem Inv.unwish (I:Inv (X.wish E) pins σ H s):Inv X pins σ H s:=⟨I.ok.unwish,I.os,I.bare,I.base,I.loc,I.cell,I.free,I.freeC,I.pin,I.hok,I.len⟩
theorem SP.unwish {D:Ends}{f:Flow}{s':Shared} (h:SP (X.wish E) pins D f s'):SP X pins D f s':=by
 cases f with
 | next=>obtain⟨σ',H',I,q⟩:=h;exact⟨σ',H',I.unwish,q⟩
 | brk=>obtain⟨σ',H',I,q⟩:=h;exact⟨σ',H',I.unwish,q⟩
 | cont=>obtain⟨σ',H',I,q⟩:=h;exact⟨σ',H',I.unwish,q⟩
 | ret u=>obtain⟨v,σ',H',I,r,q⟩:=h;exact⟨v,σ',H',I.unwish,r,q⟩
theorem PSs.nox {st:List Stmt}{t:TS} (h:PSs X.nox st t):PSs X st t:=fun pins s σ H D I hw=>
 wpAny_mono (h pins s σ H D (I.wish _) hw) (fun _ _ q=>q.unwish) fun _ _ z=>False.elim z
end
section
variable {X:Cx}{st:Stmt}{rest:List Stmt}{t u:TS}{e:Expr}{te:TE}{pos:Pos}
def tNext:TS:=fun D σ H=>D.nx σ H
def tSeq (t u:TS):TS:=fun D σ H=>t { D with nx:=u D } σ H
theorem QaJ:PSs X [] tNext:=fun _ _ σ H _ I h=>wpAny_execs_nil ⟨σ,H,I,h⟩
theorem QaK (h1:PS X st t) (h2:PSs X rest u):PSs X (st::rest) (tSeq t u):=by
 intro pins s σ H D I h
 refine wpAny_execs_cons (thn (h1 pins s σ H { D with nx:=u D } I h) fun f s1 q=>?_)
 cases f with
 | next=>
  obtain⟨σ',H',I',q⟩:=q
  exact h2 pins s1 σ' H' D I' q
 | ret v=>exact q
 | brk=>exact q
 | cont=>exact q
theorem Inv.quiet {pins:List (Addr × Obj)}{σ:St}{H:Hp}{s:Shared} (I:Inv X pins σ H s):interactive X.env=false:=by simp[interactive,I.ok.kind]
def tDrop (te:TE):TS:=fun D σ H=>te σ H fun _ H1=>D.nx σ H1
theorem QaL (he:PE X e te) (hs:swapsWith e none pos.line X.env=pure false:=by rfl):PS X (.Expr e pos) (tDrop te):=by
 intro pins s σ H D I h
 exact wpAny_Expr_any (thn (he pins s σ H _ I h) fun v s1 pq8=>by obtain⟨x,H1,I1,r1,q1⟩:=pq8;exact⟨σ,H1,I1,q1⟩) I.quiet hs
def tRet (te:TE):TS:=fun D σ H=>te σ H D.rt
theorem QaM (he:PE X e te):PS X (.Return (some e) pos) (tRet te):=by
 intro pins s σ H D I h
 exact wpAny_Return_some (thn (he pins s σ H _ I h) fun v s1 pq9=>by obtain⟨x,H1,I1,r1,q1⟩:=pq9;exact⟨x,σ,H1,I1,r1,q1⟩)
def tIfS (c:TT) (t u:TS):TS:=fun D σ H=>c σ H fun b H1=>if b=true then t D σ H1 else u D σ H1
theorem QaN {c:Expr}{a b:List Stmt}{tc:TT} (hc:PT X c tc) (ha:PSs X a t) (hb:PSs X b u):PS X (.If c a b pos) (tIfS tc t u):=by
 intro pins s σ H D I h
 refine wpAny_If (thn (hc pins s σ H _ I h) fun d s1 pq10=>?_)
 obtain⟨H1,I1,q1⟩:=pq10
 cases d with
 | true=>exact ha pins s1 σ H1 D I1 q1
 | false=>exact hb pins s1 σ H1 D I1 q1
end
abbrev TG:=V->St->Hp->(St->Hp->Prop)->Prop
abbrev TGs:=List V->St->Hp->(St->Hp->Prop)->Prop
def PG (X:Cx) (target:Expr) (t:TG):Prop:=
 ∀ (pins:List (Addr × Obj)) (s:Shared) (σ:St) (H:Hp) (v:V) (u:Value) (Q:St->Hp->Prop),Inv X pins σ H s->RelV v u->t v σ H Q ->
  wpAny (model X.prog X.w) X.A (assign target X.env u) (fun _ s'=>∃ σ' H',Inv X pins σ' H' s'/\Q σ' H') X.xe s
def PGs (X:Cx) (ts:List Expr) (t:TGs):Prop:=
 ∀ (pins:List (Addr × Obj)) (s:Shared) (σ:St) (H:Hp) (vs:List V) (us:List Value) (Q:St->Hp->Prop),Inv X pins σ H s->Vals vs us->t vs σ H Q ->
  wpAny (model X.prog X.w) X.A (assignInOrder ((assignEach ts X.env).map (·.2)) us) (fun _ s'=>∃ σ' H',Inv X pins σ' H' s'/\Q σ' H') X.xe s
abbrev TSet:=V->V->V->Hp->(Hp->Prop)->Prop
def PSet (X:Cx) (t:TSet):Prop:=
 ∀ (pins:List (Addr × Obj)) (s:Shared) (σ:St) (H:Hp) (o i v:V) (ov iv u:Value) (Q:Hp->Prop),Inv X pins σ H s->RelV o ov->RelV i iv->RelV v u->t o i v H Q ->
  wpAny (model X.prog X.w) X.A (setItem ov iv u) (fun _ s'=>∃ H',Inv X pins σ H' s'/\Q H') X.xe s
section
variable {X:Cx}{pos:Pos}
def gName (i:Nat):TG:=fun v σ H Q=>Q (σ.set i (some v)) H
theorem QaO {i:Nat}{x:Str} (hN:X.N.Nodup) (hi:X.N[i]?=some x) (hx:Loc X.env.scope x) (hf:X.fn x=true\/X.env.scope.names.lookup x=some .local:=by first | exact .inl rfl | exact .inr rfl | assumption):PG X (.Name x pos) (gName i):=by
 intro pins s σ H v u Q I r h
 exact wpAny_assign_Name (Qar I hN hi hx r (fun s' I'=>⟨_,H,I',h⟩) hf)
def gNil:TGs:=fun vs σ H Q=>vs=[]/\Q σ H
def gCons (t:TG) (u:TGs):TGs:=fun vs σ H Q=>∃ v r,vs=v::r/\t v σ H fun σ' H'=>u r σ' H' Q
theorem QaP:PGs X [] gNil:=by
 intro pins s σ H vs us Q I r h
 obtain⟨e,h⟩:=h
 subst e
 cases r
 exact assignInOrder_nil ⟨σ,H,I,h⟩
theorem QaQ {e : Expr} {es : List Expr} {t : TG} {u : TGs} (h1 : PG X e t) (h2 : PGs X es u)
  (hs:(assignEach (e::es) X.env).map (·.2)=assign e X.env::(assignEach es X.env).map (·.2):=by rfl):PGs X (e::es) (gCons t u):=by
 intro pins s σ H vs us Q I r h
 obtain⟨v,vr,e1,h⟩:=h
 subst e1
 cases r with
 | cons r rr=>
  rw[hs]
  refine assignInOrder_cons (thn (h1 pins s σ H _ _ _ I r h) fun _ s1 pq11=>?_)
  obtain⟨σ1,H1,I1,q1⟩:=pq11
  exact h2 pins s1 σ1 H1 _ _ Q I1 rr q1
def gTup (K:PySem.W.Frag) (n:Nat) (t:TGs):TG:=fun v σ H Q=>∃ a xs,v=.ref a/\SqT K H a xs/\xs.length=n/\t xs σ H Q
theorem QaR {es : List Expr} {k : Nat} {t : TGs} {n : Nat} (hc : X.calm = true) (h : PGs X es t)
  (hn:(assignEach es X.env).length=n:=by rfl) (hst:(assignEach es X.env).findIdx? (·.1)=none:=by rfl):PG X (.Tuple es k pos) (gTup X.K n t):=by
 intro pins s σ H v u Q I r hw
 obtain⟨a,xs,e1,hq,hl,hw⟩:=hw
 subst e1
 cases r
 obtain⟨its,rv,ht,hz⟩:=I.tuple hq
 refine assign_Tuple_tuple (I.ok.hd hc) ht (by simp[hn,<- hl,rv.length]) hst fun h' hx=>?_
 have I1:Inv X pins σ H { s with heap:=h' }:=I.kept (t':=s.toks) fun b o e=>hx b o (Nat.ne_of_lt (Heap.lt_size e)) e
 exact h pins _ σ H xs _ Q I1 (by simpa using rv) hw
def gSub (to ti:TE) (t:TSet):TG:=fun v σ H Q=>to σ H fun o H1=>ti σ H1 fun i H2=>t o i v H2 fun H3=>Q σ H3
theorem QaS {o i : Expr} {to ti : TE} {t : TSet} (ho : PE X o to) (hi : PE X i ti) (hs : PSet X t)
  (ha:∀ v,assign (.Subscript o i pos) X.env v=(do
   let ov <- holding [v] (eval o X.env)
   let iv <- holding [v,ov] (eval i X.env)
   standAt pos
   holding [v,ov,iv] (setItem ov iv v)
   release [v,ov,iv] []):=by intro _;rfl):PG X (.Subscript o i pos) (gSub to ti t):=by
 intro pins s σ H v u Q I r h
 rw[ha]
 refine wpAny_bind (wpAny_holding (thn (ho pins s σ H _ I h) fun ov s1 pq12=>?_))
 obtain⟨x,H1,I1,r1,q1⟩:=pq12
 refine wpAny_bind (wpAny_holding (thn (hi pins s1 σ H1 _ I1 q1) fun iv s2 pq13=>?_))
 obtain⟨y,H2,I2,r2,q2⟩:=pq13
 refine wpAny_bind (wpAny_standAt (wpAny_bind (wpAny_holding (thn (hs pins s2 σ H2 x y v ov iv u _ I2 r1 r2 r q2) fun _ s3 pq14=>?_))))
 obtain⟨H3,I3,q3⟩:=pq14
 exact wpAny_release ⟨σ,H3,I3,q3⟩
def tAsg (te:TE) (g:TG):TS:=fun D σ H=>te σ H fun x H1=>g x σ H1 D.nx
theorem QaT {tg e : Expr} {te : TE} {g : TG} (he : PE X e te) (hg : PG X tg g) (hs : swapsWithSole [tg] e pos.line X.env = pure false := by rfl) (hw : swappedStores [tg] e X.env = pure none := by rfl)
  (h1:(assignEach [tg] X.env).map (·.2)=[assign tg X.env]:=by rfl):PS X (.Assign [tg] e pos) (tAsg te g):=by
 intro pins s σ H D I h
 refine wpAny_Assign_stores (thn (he pins s σ H _ I h) fun v s1 ⟨x,H1,I1,r1,q1⟩=>?_) hs hw
 rw[h1]
 exact thn (hg pins s1 σ H1 x v _ I1 r1 q1) fun _ s2 q=>q
theorem QaU {i : Nat} {x : Str} {e : Expr} {te : TE} {pos' : Pos} (hN : X.N.Nodup) (hi : X.N[i]? = some x) (hx : Loc X.env.scope x) (he : PE X e te) (hs : swapsWith e (some (.Name x pos')) pos.line X.env = pure false := by rfl) (hf : X.fn x = true \/ X.env.scope.names.lookup x = some .local := by first | exact .inl rfl | exact .inr rfl | assumption) :
  PS X (.Assign [.Name x pos'] e pos) (tAsg te (gName i)):=by
 intro pins s σ H D I h
 refine wpAny_Assign_Name (thn (he pins s σ H _ I h) fun v s1 ⟨y,H1,I1,r1,q1⟩=>?_) hs
 exact Qar I1 hN hi hx r1 (fun s2 I2=>⟨_,H1,I2,q1⟩) hf
end
structure It where
 go:Nat->Hp->Prop
 yld:Nat->Hp->V->Hp->Prop
 stop:Nat->Hp->Prop
def FpOk (X:Cx) (pins:List (Addr × Obj)) (H:Hp) (b:Addr):Prop:=
 H b=none/\b≠X.env.locals/\b∉X.fs/\(b∈X.ex\/X.s₀.heap.objs.size<=b)/\(∀ x c,X.env.cells.lookup x=some c->c≠b)/\∀ p∈X.pn++pins,p.1≠b
theorem Inv.fpOk {X:Cx}{pins:List (Addr × Obj)}{σ:St}{H H':Hp}{s:Shared}{b:Addr} (I:Inv X pins σ H s) (hb:s.heap.objs.size<=b) (hn:H' b=none):FpOk X pins H' b:=by
 refine⟨hn,Nat.ne_of_gt (Nat.lt_of_lt_of_le I.lt hb),I.nofs hb,.inr (Nat.le_trans I.sz hb),fun x c e z=>?_,fun p hp z=>?_⟩
 ·obtain⟨v,q⟩:=I.cell x c e
  exact absurd (Nat.lt_of_lt_of_le q.lt (by rw[z];exact hb)) (Nat.lt_irrefl _)
 ·exact absurd (Nat.lt_of_lt_of_le (Heap.lt_size (I.pin p hp).1) (by rw[z];exact hb)) (Nat.lt_irrefl _)
structure Turn (P:Program) (w:World) (K:PySem.W.Frag) (tg:Expr) (J:It) (fp:List Addr) (it:Addr) (tn:Nat->Heap->Prop):Prop where
 mem:it∈fp
 obj:∀ i h,tn i h->∀ b∈fp,∃ o,h.get? b=some o/\∀ v,o.data≠.cell v
 keep:∀ i h h',tn i h->(∀ b∈fp,∀ o,h.get? b=some o->h'.get? b=some o)->tn i h'
 item:∀ (X:Cx),X.prog=P->X.w=w->X.K=K->X.calm=true->∀ (i:Nat) (pins:List (Addr × Obj)) (s:Shared) (σ:St) (H:Hp) (E:Value->Shared->Prop),Inv X pins σ H s->(∀ b∈fp,FpOk X pins H b)->tn i s.heap->J.go i H ->
  wpAny (model P w) X.A (pyNext (.ref it)) (fun r s1=>∃ u,r=some u /\
   wpAny (model P w) X.A (letOwnedTupleGo tg (.ref it) u) (fun _ s2=>∃ x H',Inv X pins σ H' s2/\RelV x u/\J.yld i H x H'/\tn (i + 1) s2.heap/\∀ b∈fp,H' b=none) E s1) E s
 done:∀ (X:Cx),X.prog=P->X.w=w->X.K=K->X.calm=true->∀ (i:Nat) (pins:List (Addr × Obj)) (s:Shared) (σ:St) (H:Hp) (E:Value->Shared->Prop),Inv X pins σ H s->(∀ b∈fp,FpOk X pins H b)->tn i s.heap->J.stop i H ->
  wpAny (model P w) X.A (pyNext (.ref it)) (fun r s1=>r=none/\Inv X pins σ H s1) E s
 self:∀ (A:Around) (i:Nat) (s:Shared) (Q:Value->Shared->Prop) (E:Value->Shared->Prop),tn i s.heap->Q (.ref it) s->wpAny (model P w) A (pyIter (.ref it)) Q E s
abbrev TI:=St->Hp->(It->Hp->Prop)->Prop
def PIE (X:Cx) (pins:List (Addr × Obj)) (σ:St) (tg:Expr) (R:It->Hp->Prop) (itv:Value) (s2:Shared):Prop:=
 ∃ (it:Addr) (fp:List Addr) (tn:Nat->Heap->Prop) (J:It) (H':Hp),itv=.ref it/\Inv X pins σ H' s2/\Turn X.prog X.w X.K tg J fp it tn/\tn 0 s2.heap/\(∀ b∈fp,FpOk X pins H' b)/\R J H'
def PI (X:Cx) (tg iter:Expr) (wi:TI):Prop:=
 ∀ (pins:List (Addr × Obj)) (s:Shared) (σ:St) (H:Hp) (R:It->Hp->Prop),Inv X pins σ H s->wi σ H R ->
  wpAny (model X.prog X.w) X.A (eval iter X.env) (fun v s1=>wpAny (model X.prog X.w) X.A (pyIter v) (PIE X pins σ tg R) X.xe s1) X.xe s
theorem QaV {M : Model} {A : Around} {E : Value -> Shared -> Prop} {s : Shared} {tg : Expr} {it : Addr} {u : Value} {o : Obj} {n : String} {vs : Array Value} {Q : Unit -> Shared -> Prop} (ho : s.heap.get? it = some o) (hc : o.cls = .type n) (hd : o.data = .fields vs)
  (hn:["enumerate","zip","dict_itemiterator","dict_reverseitemiterator","odict_iterator","itertools.zip_longest","itertools.pairwise"].contains n=false) (hQ:Q () s):wpAny M A (letOwnedTupleGo tg (.ref it) u) Q E s:=by
 unfold letOwnedTupleGo
 cases tg<;>first
  | exact wpAny_pure hQ
  | (cases u <;> first
    | exact wpAny_pure hQ
    | (refine wpAny_bind (wpAny_load ho ?_)
       rw[hc,hd]
       show wpAny M A (if (["enumerate","zip","dict_itemiterator","dict_reverseitemiterator","odict_iterator","itertools.zip_longest","itertools.pairwise"].contains n && vs[0]? == some (rawInt _))=true then _ else _) Q E s
       rw[if_neg (by intro h;rw[hn,Bool.false_and]at h;cases h)]
       exact wpAny_pure hQ))
def Itl (K:PySem.W.Frag) (a:Addr):It:=
 ⟨fun i H=>∃ xs x,SqL K H a xs/\xs[i]?=some x,fun i H x H'=>H'=H/\∀ xs,SqL K H a xs->xs[i]?=some x,fun i H=>∃ xs,SqL K H a xs/\xs.length<=i⟩
def Itt (K:PySem.W.Frag) (a:Addr):It:=
 ⟨fun i H=>∃ xs x,SqT K H a xs/\xs[i]?=some x,fun i H x H'=>H'=H/\∀ xs,SqT K H a xs->xs[i]?=some x,fun i H=>∃ xs,SqT K H a xs/\xs.length<=i⟩
def Itr (lo:Int) (n:Nat):It:=⟨fun i _=>i < n,fun i H x H'=>H'=H/\x=.int (lo + i),fun i _=>n<=i⟩
theorem QaW {P:Program}{w:World}{K:PySem.W.Frag}{tg:Expr} (a it:Addr):Turn P w K tg (Itl K a) [it] it (fun i h=>h.IsListIter it a i) where
 mem:=by simp
 obj:=fun i h st b hb=>by
  have e:b=it:=by simpa using hb
  subst e
  obtain⟨o,e,c,d⟩:=st
  exact⟨o,e,fun v z=>by rw[d]at z;cases z⟩
 keep:=fun i h h' st k=>st.at fun o e=>k it (by simp) o e
 item:=by
  intro X hP hw hK hc i pins s σ H E I hf st hg
  subst hP hw hK
  obtain⟨xs,x,hq,hx⟩:=hg
  obtain⟨its,rv,p,hz⟩:=I.list hq
  obtain⟨u,hu,ru⟩:=rv.get hx
  obtain⟨f0,f1,f2,f3,f4,f5⟩:=hf it (by simp)
  refine wpAny_pyNext_list_item st p.isList (x:=u) (by simpa using hu) fun h' st' sb=>?_
  have I1:Inv X pins σ H { s with heap:=h' }:=I.turned (t':=s.toks) (fun b o hb e=>(sb.2 b hb).trans e) f0 f1 f3 f4 f5
  obtain⟨o,e,c,d⟩:=id st'
  exact⟨u,rfl,QaV (s:={ s with heap:=h' }) e c d (by decide) ⟨x,H,I1,ru,⟨rfl,fun ys hy=>by rw[I.list_inj hy hq];exact hx⟩,st',fun b hb=>(hf b hb).1⟩⟩
 done:=by
  intro X hP hw hK hc i pins s σ H E I hf st hg
  subst hP hw hK
  obtain⟨xs,hq,hx⟩:=hg
  obtain⟨its,rv,p,hz⟩:=I.list hq
  obtain⟨f0,f1,f2,f3,f4,f5⟩:=hf it (by simp)
  have hl:=rv.length
  exact wpAny_pyNext_list_end (I.ok.hd hc) st p.isList (by simp;ac_nf) fun h' eb=>⟨rfl,I.turned (t':=s.toks) (fun b o hb e=>eb b o hb e) f0 f1 f3 f4 f5⟩
 self:=fun _ _ _ _ _ st h=>wpAny_pyIter_listiter st h
theorem QaX {P:Program}{w:World}{K:PySem.W.Frag}{tg:Expr} (a it:Addr):Turn P w K tg (Itt K a) [it] it (fun i h=>h.IsTupleIter it a i) where
 mem:=by simp
 obj:=fun i h st b hb=>by
  have e:b=it:=by simpa using hb
  subst e
  obtain⟨o,e,c,d⟩:=st
  exact⟨o,e,fun v z=>by rw[d]at z;cases z⟩
 keep:=fun i h h' st k=>st.at fun o e=>k it (by simp) o e
 item:=by
  intro X hP hw hK hc i pins s σ H E I hf st hg
  subst hP hw hK
  obtain⟨xs,x,hq,hx⟩:=hg
  obtain⟨its,rv,p,hz⟩:=I.tuple hq
  obtain⟨u,hu,ru⟩:=rv.get hx
  obtain⟨f0,f1,f2,f3,f4,f5⟩:=hf it (by simp)
  refine wpAny_pyNext_tuple_item st (show s.heap.IsTuple a its.toArray from p) (x:=u) (by simpa using hu) fun h' st' sb=>?_
  have I1:Inv X pins σ H { s with heap:=h' }:=I.turned (t':=s.toks) (fun b o hb e=>(sb.2 b hb).trans e) f0 f1 f3 f4 f5
  obtain⟨o,e,c,d⟩:=id st'
  exact⟨u,rfl,QaV (s:={ s with heap:=h' }) e c d (by decide) ⟨x,H,I1,ru,⟨rfl,fun ys hy=>by rw[I.tuple_inj hy hq];exact hx⟩,st',fun b hb=>(hf b hb).1⟩⟩
 done:=by
  intro X hP hw hK hc i pins s σ H E I hf st hg
  subst hP hw hK
  obtain⟨xs,hq,hx⟩:=hg
  obtain⟨its,rv,p,hz⟩:=I.tuple hq
  obtain⟨f0,f1,f2,f3,f4,f5⟩:=hf it (by simp)
  have hl:=rv.length
  exact wpAny_pyNext_tuple_end (I.ok.hd hc) st (show s.heap.IsTuple a its.toArray from p) (by simp;ac_nf) fun h' eb=>⟨rfl,I.turned (t':=s.toks) (fun b o hb e=>eb b o hb e) f0 f1 f3 f4 f5⟩
 self:=fun _ _ _ _ _ st h=>wpAny_pyIter_tupleiter st h
theorem QaY {P:Program}{w:World}{K:PySem.W.Frag}{tg:Expr} (it:Addr) (lo:Int) (n:Nat):Turn P w K tg (Itr lo n) [it] it (fun i h=>IsRangeIter h it (lo + (i:Nat) * 1) ((n:Int) - (i:Nat)) 1) where
 mem:=by simp
 obj:=fun i h st b hb=>by
  have e:b=it:=by simpa using hb
  subst e
  exact⟨_,st,fun v z=>by
   have z':Data.fields _=Data.cell v:=z
   cases z'⟩
 keep:=fun i h h' st k=>k it (by simp) _ st
 item:=by
  intro X hP hw hK hc i pins s σ H E I hf st hg
  subst hP hw hK
  obtain⟨f0,f1,f2,f3,f4,f5⟩:=hf it (by simp)
  have W:=Walks.range (prog:=X.prog) (w:=X.w) (I.ok.hd hc) it lo 1 n
  refine W.item i s _ _ hg st fun v h' tk hv st' kk=>?_
  obtain⟨t,rfl⟩:=hv
  have I1:Inv X pins σ H { s with heap:=h',toks:=tk }:=I.turned (fun b o hb e=>kk b o (by simpa using hb) e) f0 f1 f3 f4 f5
  refine⟨_,rfl,QaV (s:={ s with heap:=h',toks:=tk }) (n:="range_iterator") st' rfl rfl (by decide) ⟨.int (lo + i),H,I1,⟨t,?_⟩,⟨rfl,rfl⟩,st',fun b hb=>(hf b hb).1⟩⟩
  rw[Int.mul_one]
 done:=by
  intro X hP hw hK hc i pins s σ H E I hf st hg
  subst hP hw hK
  obtain⟨f0,f1,f2,f3,f4,f5⟩:=hf it (by simp)
  exact wpAny_pyNext_range_end (I.ok.hd hc) st (by have:n<=i:=hg;ac_nf) fun h' eb=>⟨rfl,I.turned (t':=s.toks) (fun b o hb e=>eb b o hb e) f0 f1 f3 f4 f5⟩
 self:=fun _ _ _ _ _ st h=>wpAny_pyIter_rangeiter st h
section
variable {X:Cx}{tg:Expr}
theorem QaZ {pins : List (Addr × Obj)} {σ : St} {H : Hp} {s : Shared} {R : It -> Hp -> Prop} {E : Value -> Shared -> Prop} {lo hi : Int} {t u v : Tok} {tk : Nat} (I : Inv X pins σ H s) (h1 : -(2 ^ 62) <= lo) (h2 : lo < 2 ^ 62) (h3 : -(2 ^ 62) <= hi) (h4 : hi < 2 ^ 62)
  (q:R (Itr lo (hi - lo).toNat) H):wpAny (model X.prog X.w) X.A (pyIter (.ref s.heap.objs.size)) (PIE X pins σ tg R) E { s with heap:=s.heap.push { cls:=.type "range",data:=.fields #[.int lo t,.int hi u,.int 1 v] },toks:=tk }:=by
 refine wpAny_pyIter_range (IsRange.new ..) (small_one h1 h2 h3 h4) ?_
 have I1:Inv X pins σ H { s with heap:=s.heap.push { cls:=.type "range",data:=.fields #[.int lo t,.int hi u,.int 1 v] },toks:=tk }:=I.kept fun b o e=>Heap.get?_push_of_some _ e
 refine⟨(s.heap.push { cls:=.type "range",data:=.fields #[.int lo t,.int hi u,.int 1 v] }).objs.size,[(s.heap.push { cls:=.type "range",data:=.fields #[.int lo t,.int hi u,.int 1 v] }).objs.size],_,_,H,rfl,
  I1.kept (t':=tk) fun b o e=>Heap.get?_push_of_some _ e,QaY _ lo (hi - lo).toNat,?_,fun b hb=>?_,q⟩
 ·have e1:lo + ((0:Nat):Int) * 1=lo:=by simp
  have e2:(((hi - lo).toNat:Nat):Int) - ((0:Nat):Int)=Builtin.Range.rangeSize lo hi 1:=by rw[rangeSize_one];split<;>ac_nf
  show IsRangeIter _ _ (lo + ((0:Nat):Int) * 1) ((((hi - lo).toNat:Nat):Int) - ((0:Nat):Int)) 1
  rw[e1,e2]
  exact Heap.get?_push_size _ rfl
 ·have e:b=(s.heap.push { cls:=.type "range",data:=.fields #[.int lo t,.int hi u,.int 1 v] }).objs.size:=by simpa using hb
  subst e
  exact I1.fpOk (Nat.le_refl _) (I1.hok.fresh (Nat.le_refl _))
def iRng1 (ta:TA):TI:=fun σ H R=>ta σ H fun vs H1=>∃ j:Int,vs=[.int j] /\ -(2 ^ 62)<=j/\j < 2 ^ 62/\R (Itr 0 j.toNat) H1
theorem Qa0 {a:Expr}{ta:TA}{p pos:Pos} (hg:Gl X "range") (hm:X.mg "range"=none) (ha:PA X [a] ta) (hs:starEach [a] X.env=[(false,eval a X.env)]:=by rfl):PI X tg (.Call (.Name "range" p) [a] [] pos) (iRng1 ta):=by
 intro pins s σ H R I h
 refine Call_ (Qay I hg hm boot_range (PyProof.Rows.callWith_type1 (thn (ha pos pins s σ H _ I h) fun us s1 ⟨vs,H1,I1,r1,q1⟩=>?_) hs rfl))
 obtain⟨j,e,q1,q2,q⟩:=q1
 subst e
 cases r1 with
 | cons r rr=>
  cases rr
  obtain⟨t,rfl⟩:=r
  exact call_range_1 (QaZ I1 (by ac_nf) (by ac_nf) q1 q2 (by simpa using q))
def tFor (wi:TI) (g:TG) (tb:TS):TS:=fun D σ H=>wi σ H fun J H1=>∃ W:Nat->Nat->St->Hp->Prop,(∃ m,W 0 m σ H1)/\∀ i m σ H,W i m σ H ->
 (J.stop i H/\D.nx σ H)\/(J.go i H/\∃ N:St->Hp->Prop,(∀ σ' H',N σ' H'->∃ m',m' < m/\W (i + 1) m' σ' H')/\∀ x H',J.yld i H x H'->g x σ H' fun σ2 H2=>tb { D with nx:=N,ct:=N,bk:=D.nx } σ2 H2)
def pinsAt (fp:List Addr) (h:Heap):List (Addr × Obj):=fp.filterMap fun b=>(h.get? b).map fun o=>(b,o)
theorem Qa1 {fp:List Addr}{h:Heap}{b:Addr}{o:Obj} (hb:b∈fp) (e:h.get? b=some o):(b,o)∈pinsAt fp h:=List.mem_filterMap.mpr ⟨b,hb,by rw[e];rfl⟩
theorem Qa2 {fp:List Addr}{h:Heap}{p:Addr × Obj} (hp:p∈pinsAt fp h):p.1∈fp/\h.get? p.1=some p.2:=by
 obtain⟨b,hb,e⟩:=List.mem_filterMap.mp hp
 cases q:h.get? b with
 | none=>rw[q]at e;cases e
 | some o=>
  rw[q]at e
  have e':(b,o)=p:=Option.some.inj e
  subst e'
  exact⟨hb,q⟩
theorem Inv.pinned {pins:List (Addr × Obj)}{σ:St}{H:Hp}{s:Shared}{fp:List Addr} (I:Inv X pins σ H s) (hf:∀ b∈fp,FpOk X pins H b) (ho:∀ b∈fp,∃ o,s.heap.get? b=some o/\∀ v,o.data≠.cell v):Inv X (pins++pinsAt fp s.heap) σ H s:=
 I.pins_of fun p hp=>(List.mem_append.mp hp).elim (fun z=>I.pin p (List.mem_append_right _ z)) fun z=>by
  obtain⟨hb,e⟩:=Qa2 z
  obtain⟨f0,f1,f2,_⟩:=hf p.1 hb
  obtain⟨o,e',d⟩:=ho p.1 hb
  rw[e]at e';cases e'
  exact⟨e,f0,f1,f2,d⟩
theorem Inv.unpinned {pins pl:List (Addr × Obj)}{σ:St}{H:Hp}{s:Shared} (I:Inv X (pins++pl) σ H s):Inv X pins σ H s:=I.pins_of fun p hp=>I.pin p (List.mem_append_right _ (List.mem_append_left _ hp))
theorem Qa3 {iter : Expr} {body : List Stmt} {wi : TI} {g : TG} {tb : TS} {pos : Pos} (hp : PassesOwn (model X.prog X.w) X.A X.env X.xe) (hc : X.calm = true) (hi : PI X tg iter wi) (hg : PG X tg g) (hb : PSs X body tb)
  (hs:∀ x,foldedSetIterable iter X.env x=pure x:=by intro _;rfl):PS X (.For tg iter body [] pos) (tFor wi g tb):=by
 intro pins s σ H D I h
 refine wpAny_For (thn (hi pins s σ H _ I h) fun v s1 h1=>thn h1 fun itv s2 h2=>?_) hs
 obtain⟨it,fp,tn,J,H2,e,I2,T,st2,f2,W,⟨m0,w0⟩,turn⟩:=h2
 subst e
 have stat:∀ {H':Hp},(∀ b∈fp,H' b=none)->∀ b∈fp,FpOk X pins H' b:=fun hn b hb=>⟨hn b hb,(f2 b hb).2⟩
 refine codeAny_forLoop_any (fun n s'=>∃ i σ' H',Inv X pins σ' H' s'/\tn i s'.heap/\(∀ b∈fp,H' b=none)/\W i n σ' H') ?_ m0 ⟨0,σ,H2,I2,st2,fun b hb=>(f2 b hb).1,w0⟩
 rintro n s3 ⟨i,σ3,H3,I3,st3,fr3,w3⟩
 rcases turn i n σ3 H3 w3 with ⟨stop,qn⟩ | ⟨go,N,hN,step⟩
 ·refine wpAny_passesOwn hp (thn (T.done X rfl rfl rfl hc i pins s3 σ3 H3 X.xe I3 (stat fr3) st3 stop) fun r s4 pq18=>?_)
  obtain⟨hr,I4⟩:=pq18
  subst hr
  exact wpAny_execs_nil ⟨σ3,H3,I4,qn⟩
 ·refine wpAny_passesOwn hp (thn (T.item X rfl rfl rfl hc i pins s3 σ3 H3 X.xe I3 (stat fr3) st3 go) fun r s4 pq19=>?_)
  obtain⟨u,hr,h4⟩:=pq19
  subst hr
  refine wpAny_passesOwn hp (thn h4 fun _ s5 pq20=>?_)
  obtain⟨x,H5,I5,r5,y5,st5,fr5⟩:=pq20
  have I5':=I5.pinned (stat fr5) (T.obj _ _ st5)
  refine wpAny_passesOwn hp (thn (hg _ s5 σ3 H5 x u _ I5' r5 (step x H5 y5)) fun _ s6 pq21=>?_)
  obtain⟨σ6,H6,I6,q6⟩:=pq21
  refine wpAny_passesOwn hp (thn (hb _ s6 σ6 H6 _ I6 q6) fun f s7 q7=>?_)
  have again:∀ {σ7:St}{H7:Hp},Inv X (pins++pinsAt fp s5.heap) σ7 H7 s7->N σ7 H7->∃ m,m < n/\∃ i σ' H',Inv X pins σ' H' s7/\tn i s7.heap/\(∀ b∈fp,H' b=none)/\W i m σ' H':=fun {σ7 H7} I7 n7=>by
   obtain⟨m',hm,w7⟩:=hN σ7 H7 n7
   refine⟨m',hm,i + 1,σ7,H7,I7.unpinned,T.keep _ _ _ st5 fun b hb o e=>(I7.pin (b,o) (List.mem_append_right _ (List.mem_append_right _ (Qa1 hb e)))).1,fun b hb=>?_,w7⟩
   obtain⟨o,e,d⟩:=T.obj _ _ st5 b hb
   exact (I7.pin (b,o) (List.mem_append_right _ (List.mem_append_right _ (Qa1 hb e)))).2.1
  cases f with
  | next=>obtain⟨σ7,H7,I7,n7⟩:=q7;exact again I7 n7
  | cont=>obtain⟨σ7,H7,I7,n7⟩:=q7;exact again I7 n7
  | brk=>obtain⟨σ7,H7,I7,q7⟩:=q7;exact⟨σ7,H7,I7.unpinned,q7⟩
  | ret v=>obtain⟨x7,σ7,H7,I7,r7,q7⟩:=q7;exact⟨x7,σ7,H7,I7.unpinned,r7,q7⟩
end
abbrev R2:=V->V->Hp->VK->Prop
def OpR (X:Cx) (f:Value->Value->Sem Value) (r:R2):Prop:=
 ∀ (pins:List (Addr × Obj)) (s:Shared) (σ:St) (H:Hp) (x y:V) (v u:Value) (Q:VK),Inv X pins σ H s->RelV x v->RelV y u->r x y H Q ->
  wpAny (model X.prog X.w) X.A (f v u) (EP X pins σ Q) X.xe s
def UnR (X:Cx) (f:Value->Sem Value) (r:V->Hp->VK->Prop):Prop:=
 ∀ (pins:List (Addr × Obj)) (s:Shared) (σ:St) (H:Hp) (x:V) (v:Value) (Q:VK),Inv X pins σ H s->RelV x v->r x H Q ->
  wpAny (model X.prog X.w) X.A (f v) (EP X pins σ Q) X.xe s
def CallR (X:Cx) (f:Value) (r:List V->Hp->VK->Prop):Prop:=
 ∀ (pins:List (Addr × Obj)) (s:Shared) (σ:St) (H:Hp) (xs:List V) (us:List Value) (Q:VK),Inv X pins σ H s->Vals xs us->r xs H Q ->
  wpAny (model X.prog X.w) X.A (call f us) (EP X pins σ Q) X.xe s
def TruR (X:Cx) (r:V->Hp->(Bool->Hp->Prop)->Prop):Prop:=
 ∀ (pins:List (Addr × Obj)) (s:Shared) (σ:St) (H:Hp) (x:V) (v:Value) (Q:Bool->Hp->Prop),Inv X pins σ H s->RelV x v->r x H Q ->
  wpAny (model X.prog X.w) X.A (truthy v) (TP X pins σ Q) X.xe s
def tOp (r:R2) (ta tb:TE):TE:=fun σ H Q=>ta σ H fun x H1=>tb σ H1 fun y H2=>r x y H2 Q
def tUn (r:V->Hp->VK->Prop) (ta:TE):TE:=fun σ H Q=>ta σ H fun x H1=>r x H1 Q
def rI (C:Int->Int->Prop) (g:Int->Int->V):R2:=fun x y H Q=>∃ i j,x=.int i/\y=.int j/\C i j/\Q (g i j) H
def rI0 (g:Int->Int->V):R2:=fun x y H Q=>∃ i j,x=.int i/\y=.int j/\Q (g i j) H
def rU (g:Int->V):V->Hp->VK->Prop:=fun x H Q=>∃ i,x=.int i/\Q (g i) H
section
variable {X:Cx}{a b c:Expr}{ta tb tc:TE}{pos:Pos}
theorem binT (ha : PE X a ta) (hb : PE X b tb) {pins : List (Addr × Obj)} {s : Shared} {σ : St} {H : Hp} {R : V -> V -> Hp -> Prop} (I : Inv X pins σ H s)
  (h:ta σ H fun x H1=>tb σ H1 fun y H2=>R x y H2) {Q:Value->Shared->Prop}{f:Value->Value->Sem Value}
  (hf:∀ v u s2 x y H2,Inv X pins σ H2 s2->RelV x v->RelV y u->R x y H2->wpAny (model X.prog X.w) X.A (f v u) Q X.xe s2):
  wpAny (model X.prog X.w) X.A (eval a X.env) (fun v s₁=>wpAny (model X.prog X.w) X.A (eval b X.env) (fun u s₂=>wpAny (model X.prog X.w) X.A (f v u) Q X.xe s₂) X.xe s₁) X.xe s:=by
 refine thn (ha pins s σ H _ I h) fun v s1 pq22=>?_
 obtain⟨x,H1,I1,r1,q1⟩:=pq22
 refine thn (hb pins s1 σ H1 _ I1 q1) fun u s2 pq23=>?_
 obtain⟨y,H2,I2,r2,q2⟩:=pq23
 exact hf v u s2 x y H2 I2 r1 r2 q2
theorem Qa4 {op:Operator}{r:R2} (ho:OpR X (binaryOp op) r) (ha:PE X a ta) (hb:PE X b tb):PE X (.BinOp a op b pos) (tOp r ta tb):=by
 intro pins s σ H Q I h
 exact wpAny_BinOp (binT ha hb I h fun v u s2 x y H2 I2 rx ry q=>ho pins s2 σ H2 x y v u Q I2 rx ry q)
theorem Qa5 {op:UnaryOp}{r:V->Hp->VK->Prop} (ho:UnR X (unaryOp op) r) (ha:PE X a ta):PE X (.UnaryOp op a pos) (tUn r ta):=by
 intro pins s σ H Q I h
 exact UnaryOp_ (thn (ha pins s σ H _ I h) fun v s1 pq24=>by obtain⟨x,H1,I1,r1,q1⟩:=pq24;exact ho pins s1 σ H1 x v Q I1 r1 q1)
theorem opI {f : Value -> Value -> Sem Value} {C : Int -> Int -> Prop} {g : Int -> Int -> Int}
  (rule:∀ (i j:Int) (t u:Tok) (s:Shared) (Q:Value->Shared->Prop) (E:Value->Shared->Prop),C i j->Q (.int (g i j) s.toks) { s with toks:=s.toks + 1 }->wpAny (model X.prog X.w) X.A (f (.int i t) (.int j u)) Q E s):
  OpR X f (rI C fun i j=>.int (g i j)):=by
 intro pins s σ H x y v u Q I rx ry h
 obtain⟨i,j,rfl,rfl,hc,q⟩:=h
 obtain⟨t,rfl⟩:=rx
 obtain⟨t',rfl⟩:=ry
 exact rule i j t t' s _ _ hc ⟨.int (g i j),H,I.tok _,⟨_,rfl⟩,q⟩
theorem opI0 {f : Value -> Value -> Sem Value} {g : Int -> Int -> Int}
  (rule:∀ (i j:Int) (t u:Tok) (s:Shared) (Q:Value->Shared->Prop) (E:Value->Shared->Prop),Q (.int (g i j) s.toks) { s with toks:=s.toks + 1 }->wpAny (model X.prog X.w) X.A (f (.int i t) (.int j u)) Q E s):
  OpR X f (rI0 fun i j=>.int (g i j)):=by
 intro pins s σ H x y v u Q I rx ry h
 obtain⟨i,j,rfl,rfl,q⟩:=h
 obtain⟨t,rfl⟩:=rx
 obtain⟨t',rfl⟩:=ry
 exact rule i j t t' s _ _ ⟨.int (g i j),H,I.tok _,⟨_,rfl⟩,q⟩
theorem opB0 {f : Value -> Value -> Sem Value} {g : Int -> Int -> Bool}
  (rule:∀ (i j:Int) (t u:Tok) (s:Shared) (Q:Value->Shared->Prop) (E:Value->Shared->Prop),Q (.bool (g i j)) s->wpAny (model X.prog X.w) X.A (f (.int i t) (.int j u)) Q E s):
  OpR X f (rI0 fun i j=>.bl (g i j)):=by
 intro pins s σ H x y v u Q I rx ry h
 obtain⟨i,j,rfl,rfl,q⟩:=h
 obtain⟨t,rfl⟩:=rx
 obtain⟨t',rfl⟩:=ry
 exact rule i j t t' s _ _ ⟨.bl (g i j),H,I,rfl,q⟩
def CDiv (i j:Int):Prop:=0 < j/\j < 1073741824
def CPow (i j:Int):Prop:=0<=j/\j<=1000000/\i.natAbs < 2 ^ 64
def CMul (i j:Int):Prop:=(-(2 ^ 64) < i/\i < 2 ^ 64)\/(-(2 ^ 64) < j/\j < 2 ^ 64)
theorem CMul.ok {i j:Int} (h:CMul i j):IntMulOk i j:=by
 rcases h with ⟨h1,h2⟩ | ⟨h1,h2⟩
 ·exact .of_left (intBits_le_64 h1 h2)
 ·exact .of_right (intBits_le_64 h1 h2)
theorem Qa6:OpR X (binaryOp .Add) (rI0 fun i j=>.int (i + j)):=opI0 fun _ _ _ _ _ _ _ q=>add_int q
theorem Qa7:OpR X (binaryOp .Mult) (rI CMul fun i j=>.int (i * j)):=opI fun _ _ _ _ _ _ _ hc q=>mul_int q hc.ok
theorem Qa8:OpR X (binaryOp .FloorDiv) (rI CDiv fun i j=>.int (i / j)):=opI fun i j _ _ _ _ _ hc q=>by
 have h1:(0:Int) < j:=hc.1
 have h2:j < 1073741824:=hc.2
 exact floordiv_int (by ac_nf) (by rw[Int.fdiv_eq_ediv_of_nonneg i (by ac_nf)];exact q) (.inl (PyProof.noPylong_small (by ac_nf)))
theorem Qa9:OpR X (binaryOp .Mod) (rI (fun _ j=>0 < j) fun i j=>.int (i % j)):=opI fun i j _ _ _ _ _ hc q=>by
 have h1:(0:Int) < j:=hc
 exact mod_int' (by ac_nf) (by rw[Int.fmod_eq_emod_of_nonneg i (by ac_nf)];exact q)
theorem Qba:OpR X (binaryOp .Pow) (rI CPow fun i j=>.int (i ^ j.toNat)):=opI fun _ _ _ _ _ _ _ hc q=>pow_int_small hc.1 hc.2.1 hc.2.2 q
theorem unI {f : Value -> Sem Value} {g : Int -> Int}
  (rule:∀ (i:Int) (t:Tok) (s:Shared) (Q:Value->Shared->Prop) (E:Value->Shared->Prop),Q (.int (g i) s.toks) { s with toks:=s.toks + 1 }->wpAny (model X.prog X.w) X.A (f (.int i t)) Q E s):
  UnR X f (rU fun i=>.int (g i)):=by
 intro pins s σ H x v Q I rx h
 obtain⟨i,rfl,q⟩:=h
 obtain⟨t,rfl⟩:=rx
 exact rule i t s _ _ ⟨.int (g i),H,I.tok _,⟨_,rfl⟩,q⟩
theorem Qbb:UnR X (unaryOp .USub) (rU fun i=>.int (-i)):=unI fun _ _ _ _ _ q=>neg_int q
end
section
variable {X:Cx}{a b c:Expr}{ta tb tc:TE}{pos:Pos}
theorem Qbc {pins:List (Addr × Obj)}{σ:St}{H:Hp}{s:Shared}{Q:VK}{k k':Bool} (I:Inv X pins σ H s) (q:Q (.bl k) H) (e:k=k'):EP X pins σ Q (.bool k') s:=by
 subst e
 exact⟨.bl k,H,I,rfl,q⟩
theorem Qbd:OpR X (compareOp .Lt) (rI0 fun i j=>.bl (decide (i < j))):=opB0 fun _ _ _ _ _ _ _ q=>lt_int q
theorem Qbe:OpR X (compareOp .LtE) (rI0 fun i j=>.bl (decide (i<=j))):=opB0 fun _ _ _ _ _ _ _ q=>le_int q
theorem Qbf:OpR X (compareOp .Gt) (rI0 fun i j=>.bl (decide (j < i))):=opB0 fun _ _ _ _ _ _ _ q=>gt_int q
theorem Qbg:OpR X (compareOp .GtE) (rI0 fun i j=>.bl (decide (j<=i))):=opB0 fun _ _ _ _ _ _ _ q=>ge_int q
theorem Qbh:OpR X (compareOp .In) (fun x y H Q=>∃ i j,x=.str i/\y=.str j/\Q (.bl (!(Builtin.Str.occurrences j i 0 j.length 1).isEmpty)) H):=by
 intro pins s σ H x y v u Q I rx ry h
 obtain⟨i,j,rfl,rfl,q⟩:=h
 obtain⟨t,rfl⟩:=rx
 obtain⟨t',rfl⟩:=ry
 exact in_str (Qbc I q rfl)
theorem Qbi:OpR X (compareOp .Is) (fun x y H Q=>y=.non/\Q (.bl (decide (x=.non))) H):=by
 intro pins s σ H x y v u Q I rx ry h
 obtain⟨rfl,q⟩:=h
 cases ry
 refine is_none_gen (Qbc I q ?_)
 cases x<;>first
  | (cases rx;rfl)
  | (obtain⟨t,rfl⟩:=rx;rfl)
theorem Qbj:OpR X (compareOp .IsNot) (fun x y H Q=>y=.non/\Q (.bl (!decide (x=.non))) H):=by
 intro pins s σ H x y v u Q I rx ry h
 obtain⟨rfl,q⟩:=h
 cases ry
 refine isnot_none_gen (Qbc I q ?_)
 cases x<;>first
  | (cases rx;rfl)
  | (obtain⟨t,rfl⟩:=rx;rfl)
theorem Qbk:OpR X (compareOp .NotIn) (fun x y H Q=>∃ i j,x=.str i/\y=.str j/\Q (.bl (!(!(Builtin.Str.occurrences j i 0 j.length 1).isEmpty))) H):=by
 intro pins s σ H x y v u Q I rx ry h
 obtain⟨i,j,rfl,rfl,q⟩:=h
 obtain⟨t,rfl⟩:=rx
 obtain⟨t',rfl⟩:=ry
 exact notIn_str (Qbc I q rfl)
theorem Qbl (b:Expr) {op:CmpOp} (h:op≠.In:=by decide) (h2:op≠.NotIn:=by decide):behindInMarks op b=false:=by
 have e1:(op == CmpOp.In)=false:=by cases op<;>first | rfl | exact absurd rfl h
 have e2:(op == CmpOp.NotIn)=false:=by cases op<;>first | rfl | exact absurd rfl h2
 cases b<;>simp[behindInMarks,e1,e2]
theorem Qbm {op:CmpOp}{r:R2} (ho:OpR X (compareOp op) r) (ha:PE X a ta) (hb:PE X b tb) (hm:behindInMarks op b=false):PE X (.Compare a [op] [b] pos) (tOp r ta tb):=by
 intro pins s σ H Q I h
 exact wpAny_Compare1 (binT ha hb I h fun v u s2 x y H2 I2 rx ry q=>ho pins s2 σ H2 x y v u Q I2 rx ry q) hm
def tTest (t:TE):TT:=fun σ H Q=>t σ H fun x H'=>∃ k,x=.bl k/\Q k H'
theorem Qbn {op:CmpOp}{r:R2} (ho:OpR X (compareOp op) r) (ha:PE X a ta) (hb:PE X b tb) (hm:behindInMarks op b=false):PT X (.Compare a [op] [b] pos) (tTest (tOp r ta tb)):=by
 intro pins s σ H Q I h
 refine wpAny_isTrue_Compare1 (thn (ha pins s σ H _ I h) fun v s1 ⟨x,H1,I1,r1,q1⟩=>thn (hb pins s1 σ H1 _ I1 q1) fun u s2 ⟨y,H2,I2,r2,q2⟩=>
  thn (ho pins s2 σ H2 x y v u _ I2 r1 r2 q2) fun c s3 ⟨z,H3,I3,r3,k,e,q3⟩=>?_) hm
 subst e
 cases r3
 exact wpAny_truthy_bool ⟨H3,I3,q3⟩
def tChain (r r':R2) (ta tb tc:TE):TE:=fun σ H Q=>ta σ H fun x H1=>tb σ H1 fun y H2=>r x y H2 fun z H3=>∃ k,z=.bl k /\
 (if k=true then tc σ H3 fun w' H4=>r' y w' H4 Q else Q (.bl false) H3)
theorem Qbo {op op' : CmpOp} {r r' : R2} (ho : OpR X (compareOp op) r) (ho' : OpR X (compareOp op') r') (ha : PE X a ta) (hb : PE X b tb) (hc : PE X c tc)
  (hm:lastMarks [op,op'] [b,c]=false:=by with_unfolding_all rfl):PE X (.Compare a [op,op'] [b,c] pos) (tChain r r' ta tb tc):=by
 intro pins s σ H Q I h
 refine Compare_chain (thn (ha pins s σ H _ I h) fun v s1 ⟨x,H1,I1,r1,q1⟩=>chain_link (thn (hb pins s1 σ H1 _ I1 q1) fun u s2 ⟨y,H2,I2,r2,q2⟩=>
  thn (ho pins s2 σ H2 x y v u _ I2 r1 r2 q2) fun d s3 ⟨z,H3,I3,r3,k,e,q3⟩=>?_)) hm
 subst e
 cases r3
 refine wpAny_truthy_bool ?_
 cases k with
 | false=>exact ite_ff ⟨.bl false,H3,I3,rfl,q3⟩
 | true=>exact ite_tt (chain_last (thn (hc pins s3 σ H3 _ I3 q3) fun w' s4 ⟨z',H4,I4,r4,q4⟩=>ho' pins s4 σ H4 y z' u w' Q I4 r2 r4 q4))
theorem Qbp {op op' : CmpOp} {r r' : R2} (ho : OpR X (compareOp op) r) (ho' : OpR X (compareOp op') r') (ha : PE X a ta) (hb : PE X b tb) (hc : PE X c tc)
  (hm:lastMarks [op,op'] [b,c]=false:=by with_unfolding_all rfl):PT X (.Compare a [op,op'] [b,c] pos) (tTest (tChain r r' ta tb tc)):=by
 intro pins s σ H Q I h
 refine isTrue_chain (thn (ha pins s σ H _ I h) fun v s1 ⟨x,H1,I1,r1,q1⟩=>test_link (thn (hb pins s1 σ H1 _ I1 q1) fun u s2 ⟨y,H2,I2,r2,q2⟩=>
  thn (ho pins s2 σ H2 x y v u _ I2 r1 r2 q2) fun d s3 ⟨z,H3,I3,r3,k,e,q3⟩=>?_)) hm
 subst e
 cases r3
 refine wpAny_truthy_bool ?_
 cases k with
 | false=>
  obtain⟨k',e',q'⟩:=q3
  cases e'
  exact ite_ff ⟨H3,I3,q'⟩
 | true=>
  refine ite_tt (test_last (thn (hc pins s3 σ H3 _ I3 q3) fun w' s4 ⟨z',H4,I4,r4,q4⟩=>thn (ho' pins s4 σ H4 y z' u w' _ I4 r2 r4 q4) fun d' s5 ⟨z2,H5,I5,r5,k2,e2,q5⟩=>?_))
  subst e2
  cases r5
  exact wpAny_truthy_bool ⟨H5,I5,q5⟩
def TruV (K:PySem.W.Frag) (x:V) (H:Hp) (k:Bool):Prop:=
 match x with
 | .non=>k=false
 | .bl b=>k=b
 | .int i=>k=(i != 0)
 | .str y=>y.length<=sizeLine/\k=((y.length:Int) != 0)
 | .byt y=>y.size<=sizeLine/\k=((y.size:Int) != 0)
 | .ref p=>(∃ xs,SqL K H p xs/\k = !xs.isEmpty)\/(∃ xs,SqT K H p xs/\k = !xs.isEmpty)\/∃ kvs,H p=some (.dK kvs)/\k = !kvs.isEmpty
 | _=>False
theorem Qbq {κ:Type}{kvs:List (κ × V)}{vs:List (κ × Value)} (r:KV kvs vs):(!vs.isEmpty) = !kvs.isEmpty:=by
 cases r<;>rfl
theorem Qbr {xs:List V}{its:List Value} (r:Vals xs its):(!its.toArray.isEmpty) = !xs.isEmpty:=by
 cases r<;>simp
theorem Qbs:(sizeLine:Nat) < 2 ^ 63:=by rw[sizeLine_eq];decide
theorem Qbt:TruR X (fun x H Q=>∃ k,TruV X.K x H k/\Q k H):=by
 intro pins s σ H x v Q I rx h
 obtain⟨k,e,q⟩:=h
 have hl:=Qbs
 have hs:sizeLine=16777216:=sizeLine_eq
 cases x with
 | non=>
  cases rx
  have e':k=false:=e
  subst e'
  exact truthy_none ⟨H,I,q⟩
 | bl b=>
  cases rx
  have e':k=b:=e
  subst e'
  exact wpAny_truthy_bool ⟨H,I,q⟩
 | int i=>
  obtain⟨t,rfl⟩:=rx
  have e':k=(i != 0):=e
  subst e'
  exact PySem.P.truthy_int ⟨H,I,q⟩
 | str y=>
  obtain⟨t,rfl⟩:=rx
  obtain⟨hy,e'⟩:y.length<=sizeLine/\k=((y.length:Int) != 0):=e
  subst e'
  exact PySem.P.truthy_str (by ac_nf) ⟨H,I.tok _,q⟩
 | byt y=>
  obtain⟨t,rfl⟩:=rx
  obtain⟨hy,e'⟩:y.size<=sizeLine/\k=((y.size:Int) != 0):=e
  subst e'
  exact PySem.W.truthy_bytes (by ac_nf) ⟨H,I.tok _,q⟩
 | ref p=>
  cases rx
  have e':(∃ xs,SqL X.K H p xs/\k = !xs.isEmpty)\/(∃ xs,SqT X.K H p xs/\k = !xs.isEmpty)\/∃ kvs,H p=some (.dK kvs)/\k = !kvs.isEmpty:=e
  rcases e' with ⟨xs,hx,e'⟩ | ⟨xs,hx,e'⟩ | ⟨kvs,hx,e'⟩
  ·subst e'
   obtain⟨its,r,pl,hz⟩:=I.list hx
   have hlen:=r.length
   exact wpAny_truthy_list pl.isList (by simp only[List.size_toArray];ac_nf) ⟨H,I.tok _,by rw[Qbr r];exact q⟩
  ·subst e'
   obtain⟨its,r,pl,hz⟩:=I.tuple hx
   have hlen:=r.length
   exact truthy_tuple pl (by simp only[List.size_toArray];ac_nf) ⟨H,I.tok _,by rw[Qbr r];exact q⟩
  ·subst e'
   obtain⟨hz,hS,vs,r,m⟩:kvs.length<=sizeLine/\(p == sysModules)=false/\∃ vs,KV kvs vs/\s.heap.DictOf (mixKind X.prog X.w) p vs:=I.hok p _ hx
   have hlen:kvs.length=vs.length:=Paired.length r
   exact wpAny_truthy_dict hS m (by ac_nf) ⟨H,I.tok _,by rw[Qbq r];exact q⟩
 | _=>exact (show False from e).elim
theorem Qbu (ha : PE X a ta) (he : ∀ whole, isTrue a X.env whole = (do let v <- whole; standAt a.pos; holding [v] (truthy v))) :
  PT X a (fun σ H Q=>ta σ H fun x H'=>∃ k,TruV X.K x H' k/\Q k H'):=by
 intro pins s σ H Q I h
 exact isTrue_plain (thn (ha pins s σ H _ I h) fun v s1 pq25=>by obtain⟨x,H1,I1,r1,q1⟩:=pq25;exact Qbt pins s1 σ H1 x v Q I1 r1 q1) (he _)
theorem Qbv:OpR X (binaryOp .Add) (fun x y H Q=>∃ i j,x=.str i/\y=.str j/\i.length + j.length<=sizeLine/\Q (.str (i++j)) H):=by
 intro pins s σ H x y v u Q I rx ry h
 obtain⟨i,j,rfl,rfl,hz,q⟩:=h
 obtain⟨t,rfl⟩:=rx
 obtain⟨t',rfl⟩:=ry
 exact add_str (fun t' tk=>⟨.str (i++j),H,I.tok _,⟨_,rfl⟩,q⟩) hz
theorem Qbw {x:V}{us:List Value} (r:Vals [x] us):∃ u,us=[u]/\RelV x u:=by
 cases r with
 | cons r1 r2=>cases r2;exact⟨_,rfl,r1⟩
theorem Qbx {x y:V}{us:List Value} (r:Vals [x,y] us):∃ u w',us=[u,w']/\RelV x u/\RelV y w':=by
 cases r with
 | cons r1 r2=>
  cases r2 with
  | cons r3 r4=>cases r4;exact⟨_,_,rfl,r1,r3⟩
theorem Qby:CallR X (.type "int") (fun xs H Q=>(∃ i,xs=[.int i]/\Q (.int i) H)\/∃ k,xs=[.bl k]/\Q (.int (if k then 1 else 0)) H):=by
 intro pins s σ H xs us Q I r h
 rcases h with ⟨i,rfl,q⟩ | ⟨k,rfl,q⟩
 ·obtain⟨u,rfl,t,rfl⟩:=Qbw r
  exact call_int_int ⟨.int i,H,I,⟨_,rfl⟩,q⟩
 ·obtain⟨u,rfl,r1⟩:=Qbw r
  cases r1
  exact call_int_bool ⟨.int (if k then 1 else 0),H,I.tok _,⟨_,rfl⟩,q⟩
theorem Qbz:CallR X (.type "str") (fun xs H Q=>∃ i,xs=[.int i]/\i.natAbs.log2 < 1920/\Q (.str (toString i)) H):=by
 intro pins s σ H xs us Q I r h
 obtain⟨i,rfl,hz,q⟩:=h
 obtain⟨u,rfl,t,rfl⟩:=Qbw r
 exact PySem.P.str_of_int hz ⟨.str _,H,I.tok _,⟨_,rfl⟩,q⟩
end
structure ObjM (h:Heap) (x dx C:Addr) (mA:Str->Option Value):Prop where
 obj:h.get? x=some (PySem.W.instObj C dx)
 ns:h.Ns1 dx mA
 ne:dx≠x
theorem QbA {h:Heap}{dx:Addr}{mA:Str->Option Value} (n:h.Ns1 dx mA):∃ od,h.get? dx=some od/\∀ name,PySem.W.lookIn name od=some (mA name):=by
 obtain⟨o,es,ep,ho,hd,hk,_,hm⟩:=n
 refine⟨o,ho,fun name=>?_⟩
 have e:=hm name
 unfold nsFind findBy at e
 rw[<- Array.find?_toList]at e
 unfold PySem.W.lookIn
 rw[hd]
 dsimp only
 split
 ·rename_i y q
  rw[q]at e
  exact congrArg some e
 ·rename_i q
  rw[q]at e
  have a:es.toList.any (·.refKey)=false:=by
   rw[List.any_eq_false]
   intro y hy
   obtain⟨z,t,hkey⟩:=hk y (Array.mem_toList_iff.mp hy)
   simp[DictEntry.refKey,hkey]
  have a':¬ es.toList.any (·.refKey)=true:=by rw[a];exact Bool.false_ne_true
  rw[if_neg a']
  exact congrArg some e
theorem ObjM.look {h:Heap}{x dx C:Addr}{mA:Str->Option Value} (I:ObjM h x dx C mA):∃ od,PySem.W.InstAt h x (PySem.W.instObj C dx) C (some od)/\∀ name,PySem.W.lookIn name od=some (mA name):=
 let ⟨od,ho,hl⟩:=QbA I.ns
 ⟨od,⟨I.obj,rfl,rfl,ho⟩,hl⟩
theorem RelO.some_of {v:V}{o:Option Value} (r:RelO (some v) o):∃ u,o=some u/\RelV v u:=by
 cases o with
 | none=>exact (show False from r).elim
 | some u=>exact⟨u,rfl,r⟩
section
variable {P:Program}{w:World}{H H':Hp}{h h':Heap}{a C dx:Addr}{fs fs':List (Str × V)}
theorem QbB (hok:HOk P w H h) (e:H a=some (.ins C dx fs)):∃ mA,ObjM h a dx C mA/\(∀ f,RelO (fs.lookup f) (mA f))/\PySem.Within mA (fs.map (·.1))/\fs.length<=1000/\H dx=some (.own a):=by
 obtain⟨d,z,ne,ob,mA,n,r,q⟩:=(show ObjOk P w H h a (.ins C dx fs) from hok a _ e)
 exact⟨mA,⟨ob,n,ne⟩,r,q,z,d⟩
end
structure Cls (K:PySem.W.Frag) (C:Addr):Prop where
 pg:PySem.W.plainGet K C Str.empty=true
 hd:PySem.W.hasDictIn K C=true
 po:PySem.W.plainOver K C=true
 sa:PySem.W.findIn K (.ref C) "__setattr__"=some (some (.builtin "object.__setattr__"))
theorem Cls.get {K:PySem.W.Frag}{C:Addr} (c:Cls K C) (f:Str):PySem.W.plainGet K C f=true:=c.pg
section
variable {X:Cx}{pins:List (Addr × Obj)}{σ:St}{H:Hp}{s:Shared}{a C dx:Addr}{fs:List (Str × V)}{f:Str}{v:V}{A:Around}{E:Value->Shared->Prop}
theorem QbC {prog : Program} {w : World} {env : Env} {e : Expr} {f : Str} {pos : Pos} {s : Shared} {Q : Value -> Shared -> Prop} (hb : attributeBase e f env (eval e env) = eval e env)
  (h:wpAny (model prog w) A (eval e env) (fun o s₁=>wpAny (model prog w) A (getAttr o f true) Q E s₁) E s):wpAny (model prog w) A (eval (.Attribute e f pos) env) Q E s:=
 Attribute_any_ h (by rw[arm_eval_Attribute,hb])
end
section
variable {X:Cx}{o e value:Expr}{f:Str}{pos pos' tpos:Pos}{ta tv:TE}
def rSub:V->V->Hp->VK->Prop:=fun x y H Q=>∃ i j,x=.int i/\y=.int j/\Q (.int (i - j)) H
end
section
variable {X:Cx}{pins:List (Addr × Obj)}{σ:St}{H:Hp}{s:Shared}{A:Around}{E:Value->Shared->Prop}{Q:Value->Shared->Prop}{c:Value}{b:Bool}
inductive TyOf (K:PySem.W.Frag) (H:Hp):V->Value->Prop where
 | non:TyOf K H .non (.type "NoneType")
 | bl (x:Bool):TyOf K H (.bl x) (.type "bool")
 | int (i:Int):TyOf K H (.int i) (.type "int")
 | str (x:Str):TyOf K H (.str x) (.type "str")
 | flt (x:UInt64):TyOf K H (.flt x) (.type "float")
 | lst {a:Addr}{xs:List V} (e:H a=some (.lst xs)):TyOf K H (.ref a) (.type "list")
 | frz {a:Addr}{o:Obj}{xs:List V} (e:H a=some (.frz o (.lst xs))):TyOf K H (.ref a) (.type "list")
 | tup {a:Addr}{xs:List V} (e:H a=some (.tup xs)):TyOf K H (.ref a) (.type "tuple")
 | dK {a:Addr}{kvs:List (Key × V)} (e:H a=some (.dK kvs)):TyOf K H (.ref a) (.type "dict")
 | dT {a:Addr}{kvs:List (List Key × V)} (e:H a=some (.dT kvs)):TyOf K H (.ref a) (.type "dict")
 | ins {a C dx : Addr} {fs : List (Str × V)} (e : H a = some (.ins C dx fs)) (cl : Cls K C) (ha : PySem.W.findIn K (.ref C) "__class__" = some (some (.builtin "object.__class__")))
   (hn:PySem.W.specialIn K (.builtin "object.__class__") "__get__"=some (some (.builtin "getset_descriptor.__get__"))) (htk:PySem.W.takesIn K (.builtin "object.__class__")=some true)
   (hm:PySem.W.mroIn K C (.type "object")=some true):TyOf K H (.ref a) (.ref C)
theorem QbD {x : V} {u t : Value} (I : Inv X pins σ H s) (rx : RelV x u) (ty : TyOf X.K H x t) (e : PySem.W.kitOne X.K t c = some b) (h : ∀ tk, Q (.bool b) { s with toks := tk }) :
  wpAny (model X.prog X.w) A (call (.builtin "isinstance") [u,c]) Q E s:=by
 cases ty with
 | non=>cases (show u=Value.none from rx);exact PySem.W.kia_one PySem.W.kitx_none I.kIn True.intro e (fun z=>nomatch z) h
 | bl y=>cases (show u=Value.bool y from rx);exact PySem.W.kia_one PySem.W.kitx_bool I.kIn True.intro e (fun z=>nomatch z) h
 | int i=>obtain⟨t,q⟩:=(show ∃ t,u=Value.int i t from rx);cases q;exact PySem.W.kia_one PySem.W.kitx_int I.kIn True.intro e (fun z=>nomatch z) h
 | str y=>obtain⟨t,q⟩:=(show ∃ t,u=Value.str y t from rx);cases q;exact PySem.W.kia_one PySem.W.kitx_str I.kIn True.intro e (fun z=>nomatch z) h
 | flt y=>obtain⟨t,q⟩:=(show ∃ t,u=Value.float y t from rx);cases q;exact PySem.W.kia_one PySem.W.kitx_float I.kIn True.intro e (fun z=>nomatch z) h
 | @lst a xs ea=>
  cases (show u=Value.ref a from rx)
  obtain⟨_,_,n,_,h1⟩:=(show ObjOk X.prog X.w H s.heap a (.lst xs) from I.hok a _ ea)
  exact PySem.W.kia_one PySem.W.kitx_list I.kIn ⟨_,h1,rfl⟩ e (fun z=>nomatch z) h
 | @frz a ob xs ea=>
  cases (show u=Value.ref a from rx)
  obtain⟨_,_,_,n,_,h1⟩:=(show ObjOk X.prog X.w H s.heap a (.frz ob (.lst xs)) from I.hok a _ ea)
  exact PySem.W.kia_one PySem.W.kitx_list I.kIn ⟨_,h1,rfl⟩ e (fun z=>nomatch z) h
 | @tup a xs ea=>
  cases (show u=Value.ref a from rx)
  obtain⟨_,_,_,p⟩:=(show ObjOk X.prog X.w H s.heap a (.tup xs) from I.hok a _ ea)
  obtain⟨o,h1,h2,_⟩:=p
  exact PySem.W.kia_one PySem.W.kitx_tuple I.kIn ⟨o,h1,h2⟩ e (fun z=>nomatch z) h
 | @dK a kvs ea=>
  cases (show u=Value.ref a from rx)
  obtain⟨_,_,vs,_,p⟩:=(show ObjOk X.prog X.w H s.heap a (.dK kvs) from I.hok a _ ea)
  obtain⟨o,es,ep,h1,h2,_⟩:=p
  exact PySem.W.kia_one PySem.W.kitx_dict I.kIn ⟨o,h1,h2.1⟩ e (fun z=>nomatch z) h
 | @dT a kvs ea=>
  cases (show u=Value.ref a from rx)
  obtain⟨_,_,xs,_,o,es,ep,h1,h2,_⟩:=(show ObjOk X.prog X.w H s.heap a (.dT kvs) from I.hok a _ ea)
  exact PySem.W.kia_one PySem.W.kitx_dict I.kIn ⟨o,h1,h2.1⟩ e (fun z=>nomatch z) h
 | @ins a C dx fs ea cl ha hn htk hm=>
  cases (show u=Value.ref a from rx)
  obtain⟨mA,O,_⟩:=QbB I.hok ea
  obtain⟨od,J,_⟩:=O.look
  exact PySem.W.kia_one (PySem.W.kitx_own (cl.get _) cl.hd ha hn htk hm) I.kIn J e (fun z=>nomatch z) h
end
structure Room (k:Nat) (A:Around):Prop where
 hd:A.handled=none
 dp:A.depth + 3 * k + 5 < recursionLimit
 un:A.units + 16 * k + 200 < cLine
theorem Room.mono {j k:Nat}{A:Around} (r:Room k A) (h:j<=k):Room j A:=⟨r.hd,by have:=r.dp;ac_nf,by have:=r.un;ac_nf⟩
theorem Room.deeper {k:Nat}{A:Around} (r:Room (k + 1) A) (env:Env):Room k (A.deeper env):=
 ⟨r.hd,by have:=r.dp;show A.depth + 1 + 3 * k + 5 < _;ac_nf,by have:=r.un;show A.units + 3 + 16 * k + 200 < _;ac_nf⟩
theorem QbE {A:Around}{C:Addr}{us:List Value}{kw:List (Str × Value)}:(A.under (.builtin "type.__call__" ⟨.ref C::us,kw⟩)).depth=A.depth + 1:=by
 first | rfl | simp[Around.under,Code.weight,Code.isCreation,Code.isGuard,Code.isCaller,Code.frames,Code.isFrame,guardIds]
theorem QbF {A:Around}{C:Addr}{us:List Value}{kw:List (Str × Value)}:(A.under (.builtin "type.__call__" ⟨.ref C::us,kw⟩)).units=A.units + 1:=by
 first | rfl | simp[Around.under,Code.cUnits,Code.frames,Code.isFrame]
theorem Room.make {k:Nat}{A:Around} (r:Room (k + 1) A) (C:Addr) (us:List Value) (kw:List (Str × Value)):Room k (A.under (.builtin "type.__call__" ⟨.ref C::us,kw⟩)):=
 ⟨r.hd,by have:=r.dp;rw[QbE];ac_nf,by have:=r.un;rw[QbF];ac_nf⟩
theorem Room.depth {k:Nat}{A:Around} (r:Room k A):A.depth < recursionLimit:=by have:=r.dp;ac_nf
theorem Room.units {k:Nat}{A:Around} (r:Room k A):A.units + 64 < cLine:=by have:=r.un;ac_nf
def tNil:TA:=fun _ H Q=>Q [] H
def tCons (ta:TE) (tr:TA):TA:=fun σ H Q=>ta σ H fun x H1=>tr σ H1 fun xs H2=>Q (x::xs) H2
section
variable {X:Cx}{e:Expr}{es:List Expr}{te:TE}{t:TA}{pos:Pos}
theorem QbG:PA X [] tNil:=fun _ _ _ _ H Q I h=>Calls.spliced_nil ⟨[],H,I,.nil,h⟩
theorem QbH (ha:PE X e te) (hr:PA X es t) (hs:starEach (e::es) X.env=(false,eval e X.env)::starEach es X.env:=by rfl):PA X (e::es) (tCons te t):=by
 intro pos pins s σ H Q I h
 rw[hs]
 show wpAny _ _ (spliced ((false,eval e X.env)::backTo pos (starEach es X.env))) _ _ s
 refine Calls.spliced_cons (thn (ha pins s σ H _ I h) fun u s1 pq26=>?_)
 obtain⟨x,H1,I1,r1,q1⟩:=pq26
 exact thn (hr pos pins s1 σ H1 _ I1 q1) fun us s2 pq27=>by obtain⟨xs,H2,I2,r2,q2⟩:=pq27;exact⟨x::xs,H2,I2,.cons r1 r2,q2⟩
def tTup (t:TA):TE:=fun σ H Q=>t σ H fun xs H1=>xs.length<=sizeLine/\∀ p,H1 p=none->Q (.ref p) (upd H1 p (.tup xs))
def tLst (t:TA):TE:=fun σ H Q=>t σ H fun xs H1=>xs.length<=sizeLine/\∀ p,H1 p=none->Q (.ref p) (upd H1 p (.lst xs))
theorem QbI {x1} (h:PA X es t):PE X (.Tuple es x1 pos) (tTup t):=by
 intro pins s σ H Q I hq
 refine wpAny_Tuple_spliced (thn (h pos pins s σ H _ I hq) fun us s1 ⟨xs,H1,I1,r,z,q⟩=>⟨by rw[<- r.length];exact z,?_⟩)
 have hf:H1 s1.heap.objs.size=none:=I1.hok.fresh (Nat.le_refl _)
 refine⟨.ref s1.heap.objs.size,upd H1 s1.heap.objs.size (.tup xs),I1.laid (t':=s1.toks) (fun b u e=>Heap.get?_push_of_some _ e) (Nat.le_refl _) ?_,rfl,q _ hf⟩
 exact⟨z,us,r,⟨_,Heap.get?_push_size _ rfl,rfl,⟨_,rfl⟩,rfl⟩⟩
theorem QbJ (h:PA X es t):PE X (.List es pos) (tLst t):=by
 intro pins s σ H Q I hq
 refine wpAny_List_spliced (thn (h pos pins s σ H _ I hq) fun us s1 ⟨xs,H1,I1,r,z,q⟩=>⟨by rw[<- r.length];exact z,?_⟩)
 have hf:H1 s1.heap.objs.size=none:=I1.hok.fresh (Nat.le_refl _)
 refine⟨.ref s1.heap.objs.size,upd H1 s1.heap.objs.size (.lst xs),I1.laid (t':=s1.toks) (fun b u e=>Heap.get?_push_of_some _ e) (Nat.le_refl _) ?_,rfl,q _ hf⟩
 exact⟨z,us,0,r,Heap.get?_push_size _ rfl⟩
end
abbrev Sp:=List V->Hp->VK->XK->Prop
abbrev CXT:=List Env->Hp->Shared->XK->Value->Shared->Prop
structure Env0 (P:Program) (w:World) (K:PySem.W.Frag) (mg:Str->Option Value) (base:Heap) (A:Around) (outer:List Env) (s:Shared) (H:Hp):Prop where
 frames:A.frames=some outer
 mod:Mod K mg base
 bs:∀ b o,base.get? b=some o->s.heap.get? b=some o/\H b=none
 bsz:base.objs.size<=s.heap.objs.size
 funs:s.heap.FunFrames base outer
 frf:∀ b∈frs outer,H b=none
 hok:HOk P w H s.heap
 bare:AllBare s.gens
def CE (outer:List Env) (P:Program) (w:World) (H:Hp) (s:Shared) (Q:VK) (u:Value) (s':Shared):Prop:=
 ∃ v H',s'.os=s.os/\AllBare s'.gens/\Un (frs outer) [] H H' s.heap s'.heap/\HOk P w H' s'.heap/\RelV v u/\Q v H'
def CR (CX:CXT) (outer:List Env) (P:Program) (w:World) (H:Hp) (s:Shared) (Q:VK) (E:XK) (r:Result) (s':Shared):Prop:=
 match r with
 | .ok (.ret u)=>CE outer P w H s Q u s'
 | .ok _=>False
 | .error e=>CX outer H s E e s'
structure FnOk (P:Program) (w:World) (K:PySem.W.Frag) (mg:Str->Option Value) (base:Heap) (CX:CXT) (k:Nat) (f:Addr) (fd:FuncData) (ps:List Str) (sp:Sp):Prop where
 len:∀ vs H Q E,sp vs H Q E->vs.length=ps.length
 run:∀ (A:Around) (outer:List Env) (s:Shared) (H:Hp) (args:Args) (us:List Value) (vs:List V) (Q:VK) (E:XK),Room k A->Env0 P w K mg base A outer s H->BindsTo s fd args (ps.zip us)->Vals vs us->sp vs H Q E ->
  codeAny (model P w) A (.call (.ref f) args) (CR CX outer P w H s Q E) s
theorem Env0.make {P : Program} {w : World} {K : PySem.W.Frag} {mg : Str -> Option Value} {base : Heap} {A : Around} {outer : List Env} {s : Shared} {H : Hp} (e : Env0 P w K mg base A outer s H) (C : Addr) (us : List Value) (kw : List (Str × Value)) :
  Env0 P w K mg base (A.under (.builtin "type.__call__" ⟨.ref C::us,kw⟩)) outer s H:=⟨by first | exact e.frames | (simpa [Around.under,Code.envs,Code.isFrame,pushEnvs] using e.frames),e.mod,e.bs,e.bsz,e.funs,e.frf,e.hok,e.bare⟩
section
variable {X:Cx}{pins:List (Addr × Obj)}{σ:St}{H:Hp}{s s':Shared}
theorem Inv.env0 (I:Inv X pins σ H s):Env0 X.prog X.w X.K X.mg X.base X.A X.stack s H:=
 ⟨I.ok.frames,I.ok.mod,I.bs,Nat.le_trans I.ok.bsz I.sz,I.stack,I.stkFree,I.hok,I.bare⟩
theorem Inv.after {Q:VK}{u:Value} (I:Inv X pins σ H s) (h:CE X.stack X.prog X.w H s Q u s'):EP X pins σ Q u s':=by
 obtain⟨v,H',os,bare,un,hok,r,q⟩:=h
 obtain⟨hh,g,d,t,os'⟩:=s'
 obtain rfl:os'=s.os:=os
 exact⟨v,H',I.call (h':=hh) (g':=g) (d':=d) (t':=t) (ch:=[]) un hok bare (fun b z=>absurd z (by simp)),r,q⟩
end
def tCall (sp:Sp) (dvs:List V) (E:XK) (t:TA):TE:=fun σ H Q=>t σ H fun vs H1=>sp (vs++dvs) H1 Q E
def Binds (K:PySem.W.Frag) (fd:FuncData) (ps:List Str) (ds:List Value):Prop:=
 ∀ (s:Shared) (us:List Value),K.In s.heap->(us++ds).length=ps.length->BindsTo s fd ⟨us,[]⟩ (ps.zip (us++ds))
theorem Binds.all {K:PySem.W.Frag}{fd:FuncData}{ps:List Str} (h:∀ us:List Value,us.length=ps.length->bindArgs fd ⟨us,[]⟩=pure (ps.zip us)):Binds K fd ps []:=fun s us _ hl=>by
 rw[List.append_nil]at hl ⊢
 exact .of_eq (h us hl)
def Passes (CX:CXT) (X:Cx) (E:XK):Prop:=∀ (pins:List (Addr × Obj)) (σ:St) (H:Hp) (s:Shared) (e:Value) (s':Shared),Inv X pins σ H s->CX X.stack H s E e s'->X.xe e s'
section
variable {X:Cx}{CX:CXT}{k:Nat}{f C:Addr}{fd:FuncData}{ps:List Str}{sp:Sp}{dvs:List V}{ds:List Value}{E:XK}{x m:Str}{p pos apos:Pos}{e o:Expr}{es:List Expr}{ta:TE}{t:TA}
theorem QbK {pins : List (Addr × Obj)} {σ : St} {H : Hp} {s : Shared} {Q : VK} {us : List Value} {vs : List V} (F : FnOk X.prog X.w X.K X.mg X.base CX k f fd ps sp) (hr : Room k X.A) (hb : Binds X.K fd ps ds) (hd : Vals dvs ds) (hx : Passes CX X E)
  (I:Inv X pins σ H s) (r:Vals vs us) (h:sp (vs++dvs) H Q E):wpAny (model X.prog X.w) X.A (call (.ref f) us) (EP X pins σ Q) X.xe s:=by
 have r2:Vals (vs++dvs) (us++ds):=r.append hd
 have hl:(us++ds).length=ps.length:=by rw[<- r2.length];exact F.len _ _ _ _ h
 refine wpAny_call (codeAny_mono (F.run X.A X.stack s H ⟨us,[]⟩ (us++ds) (vs++dvs) Q E hr I.env0 (hb s us I.kIn hl) r2 h) fun r s' hq=>?_)
 cases r with
 | error e=>exact hx pins σ H s e s' I hq
 | ok fl=>
  cases fl with
  | ret u=>exact I.after hq
  | next=>exact False.elim hq
  | brk=>exact False.elim hq
  | cont=>exact False.elim hq
theorem QbL (F : FnOk X.prog X.w X.K X.mg X.base CX k f fd ps sp) (hr : Room k X.A) (hg : Gl X x) (hm : X.mg x = some (.ref f)) (hk : PySem.W.keepIn X.K (.ref f) = true) (hb : Binds X.K fd ps ds) (hd : Vals dvs ds) (hx : Passes CX X E)
  (ha:PA X (e::es) t) (hdb:(x == ("__debug__":Str))=false:=by decide) (he:starEach (e::es) X.env=(false,eval e X.env)::starEach es X.env:=by rfl) (hpl:(backTo pos (starEach es X.env)).any (·.1)=false:=by rfl):
  PE X (.Call (.Name x p) (e::es) [] pos) (tCall sp dvs E t):=by
 intro pins s σ H Q I h
 refine wpAny_Call_Name_kw (Qax I hg hm ?_ hdb)
 refine PySem.W.callWith_K (h₀:=X.base) I.ok.mod.kin hk (thn (ha pos pins s σ H _ I h) fun us s1 ⟨vs,H1,I1,r,q⟩=>⟨I1.kIn,?_⟩) he hpl
 exact QbK F hr hb hd hx I1 r q
end
section
variable {X:Cx}{CX:CXT}{k:Nat}{f C:Addr}{fd:FuncData}{ps ks:List Str}{sp:Sp}{E:XK}{x m:Str}{p pos apos kpos:Pos}{e o:Expr}{es:List Expr}{kws:List Keyword}{te ta:TE}{t tk:TA}{nm:Option Str}
variable {g:List Value->List Value->List Value}{gV:List V->List V->List V}
end
structure FnScope (N P:List Str) (sc:Scope):Prop where
 kind:sc.kind=.function
 co:sc.isCoroutine=false
 gen:sc.isGenerator=false
 nd:N.Nodup
 pre:N.take P.length=P
 par:∀ x∈P,sc.names.lookup x=some .local\/sc.names.lookup x=some .cell
 nofree:∀ y∈sc.names,y.2≠.free
theorem QbM {kindOf:Str->Option NameKind}{x:Str}:∀ {binds:List (Str × Value)}{m:Str->Option Value},(∀ v,(x,v)∉binds)->bindL kindOf binds m x=m x
 | [],_,_=>rfl
 | (n,v)::r,m,h=>by
  unfold bindL
  rw[QbM fun w hw=>h w (List.mem_cons_of_mem _ hw)]
  split
  ·have:x≠n:=by rintro rfl;exact h v List.mem_cons_self
   simp[this]
  ·rfl
theorem QbN {kindOf:Str->Option NameKind}{x:Str}:∀ {binds:List (Str × Value)}{m:Str->Option Value},(∀ v,(x,v)∉binds)->bindC kindOf binds m x=m x
 | [],_,_=>rfl
 | (n,v)::r,m,h=>by
  unfold bindC
  rw[QbN fun w hw=>h w (List.mem_cons_of_mem _ hw)]
  split
  ·rfl
  ·have:x≠n:=by rintro rfl;exact h v List.mem_cons_self
   simp[this]
theorem QbO {kindOf : Str -> Option NameKind} {x : Str} {v : Value} : ∀ {P : List Str} {vs : List Value} {i : Nat} {m : Str -> Option Value}, P.Nodup -> P[i]? = some x -> vs[i]? = some v -> kindOf x = some .local ->
  bindL kindOf (P.zip vs) m x=some v
 | [],_,_,_,_,h,_,_=>by simp at h
 | _::_,[],_,_,_,_,h,_=>by simp at h
 | p::P,w::vs,0,m,nd,h1,h2,hk=>by
  simp at h1 h2;subst h1;subst h2
  show bindL kindOf ((p,w)::P.zip vs) m p=_
  unfold bindL
  rw[QbM fun v hv=>(List.nodup_cons.mp nd).1 (List.of_mem_zip hv).1,if_pos hk]
  simp
 | p::P,w::vs,i + 1,m,nd,h1,h2,hk=>by
  show bindL kindOf ((p,w)::P.zip vs) m x=_
  unfold bindL
  exact QbO (i:=i) (List.nodup_cons.mp nd).2 (by simpa using h1) (by simpa using h2) hk
theorem QbP {kindOf : Str -> Option NameKind} {x : Str} {v : Value} : ∀ {P : List Str} {vs : List Value} {i : Nat} {m : Str -> Option Value}, P.Nodup -> P[i]? = some x -> vs[i]? = some v -> kindOf x ≠ some .local ->
  bindC kindOf (P.zip vs) m x=some v
 | [],_,_,_,_,h,_,_=>by simp at h
 | _::_,[],_,_,_,_,h,_=>by simp at h
 | p::P,w::vs,0,m,nd,h1,h2,hk=>by
  simp at h1 h2;subst h1;subst h2
  show bindC kindOf ((p,w)::P.zip vs) m p=_
  unfold bindC
  rw[QbN fun v hv=>(List.nodup_cons.mp nd).1 (List.of_mem_zip hv).1,if_neg hk]
  simp
 | p::P,w::vs,i + 1,m,nd,h1,h2,hk=>by
  show bindC kindOf ((p,w)::P.zip vs) m x=_
  unfold bindC
  exact QbP (i:=i) (List.nodup_cons.mp nd).2 (by simpa using h1) (by simpa using h2) hk
def start (N:List Str) (vs:List V):St:=vs.map some++List.replicate (N.length - vs.length) none
def cxOf (CX:CXT) (P:Program) (w:World) (K:PySem.W.Frag) (mg:Str->Option Value) (base:Heap) (N:List Str) (qual:Str) (scope:Scope) (f:Addr) (cd:Value) (A:Around) (outer:List Env) (s:Shared) (H:Hp) (E:XK):Cx where
 prog:=P
 w:=w
 K:=K
 mg:=mg
 base:=base
 A:=A.deeper (envOfC qual scope s.heap.objs.size f cd)
 N:=N
 s₀:=s
 H₀:=H
 env:=envOfC qual scope s.heap.objs.size f cd
 outer:=outer
 stack:=envOfC qual scope s.heap.objs.size f cd::outer
 ex:=[]
 calm:=true
 fn:=fun _=>true
 pn:=[]
 xe:=fun e s'=>wpAny (model P w) (A.deeper (envOfC qual scope s.heap.objs.size f cd)) (leaving (envOfC qual scope s.heap.objs.size f cd) e) (fun _ s''=>CX outer H s E e s'') (fun e' s''=>CX outer H s E e' s'') s'
theorem QbQ {sc:Scope}{n:Nat}{x:Str} (h:sc.names.lookup x=some .cell):∃ c,(cellsFrom n sc.names []).lookup x=some c:=by
 have q:=PySem.W.cellsFrom_some sc.names n [] (.inl h)
 exact Option.isSome_iff_exists.mp q
theorem QbR {CX : CXT} {P : Program} {w : World} {K : PySem.W.Frag} {mg : Str -> Option Value} {base : Heap} {N ps : List Str} {qual : Str} {scope : Scope} {f : Addr} {cd : Value} {A : Around} {outer : List Env} {s s1 : Shared} {H : Hp} {E : XK} {us : List Value} {vs : List V}
  (S:FnScope N ps scope) (hd:A.handled=none) (e0:Env0 P w K mg base A outer s H) (hl:vs.length=ps.length) (r:Vals vs us)
  (x:InCallC s s.heap.objs.size (bindL (envOfC qual scope s.heap.objs.size f cd).kindOf (ps.zip us) fun _=>none) (cellsFrom (s.heap.objs.size + 1) scope.names []) (bindC (envOfC qual scope s.heap.objs.size f cd).kindOf (ps.zip us) fun _=>none) s1):
  Inv (cxOf CX P w K mg base N qual scope f cd A outer s H E) [] (start N vs) H s1:=by
 have hpl:ps.length<=N.length:=by have:=congrArg List.length S.pre;rw[List.length_take]at this;ac_nf
 obtain⟨h1,tk,rfl,hk⟩:=x.done
 have noA:∀ b:Addr,b∉(cxOf CX P w K mg base N qual scope f cd A outer s H E).ex:=fun b z=>absurd (show b∈([]:List Addr) from z) (by simp)
 refine⟨⟨e0.mod,S.kind,rfl,rfl,Nat.le_refl _,fun y z c h1 h2=>?_,fun y hy=>?_,fun y c _ h=>?_,fun _=>hd,Around.frames_deeper e0.frames,.inr ⟨rfl,rfl⟩,fun b z=>absurd z (noA b),e0.bs,e0.bsz,fun b _ _=>noA b,fun b z=>absurd z (noA b),e0.funs,e0.frf⟩,
  rfl,e0.bare,Un.kept hk,⟨_,x.toInCall.ns,fun i y v h1 h2 h3=>?_⟩,fun y c h=>⟨_,x.cell y c h⟩,e0.hok.fresh (Nat.le_refl _),fun y c h=>?_,fun p hp=>absurd (show p∈([]:List (Addr × Obj)) from hp) (by simp),e0.hok.kept hk,?_⟩
 ·exact name_of_addr x.apart (PySem.mem_of_lookup h1) (PySem.mem_of_lookup h2)
 ·have hy:scope.names.lookup y=some .cell\/scope.names.lookup y=some .free:=hy
  rcases hy with hy | hy
  ·exact QbQ hy
  ·exact absurd rfl (S.nofree _ (PySem.mem_of_lookup hy))
 ·exact Nat.le_of_lt (x.above y c (PySem.mem_of_lookup h))
 ·have hi : i < vs.length := by
    unfold start at h2
    by_cases hi:i < vs.length
    ·exact hi
    ·rw[List.getElem?_append_right (by simpa using hi)]at h2
     rw[List.getElem?_replicate]at h2
     split at h2<;>cases h2
  have ha:vs[i]?=some v:=by
   unfold start at h2
   rw[List.getElem?_append_left (by simpa using hi),List.getElem?_map]at h2
   cases e:vs[i]? with
   | none=>rw[e]at h2;cases h2
   | some a=>rw[e]at h2;cases h2;rfl
  obtain⟨u,hu,rv⟩:=r.get ha
  have hp:ps[i]?=some y:=by
   rw[<- S.pre,List.getElem?_take_of_lt (by ac_nf)];exact h1
  have ndP:ps.Nodup:=by rw[<- S.pre];exact S.nd.sublist (List.take_sublist _ _)
  refine⟨u,rv,?_⟩
  rcases S.par y (List.mem_of_getElem? hp) with k | k
  ·exact .inl ⟨k,QbO ndP hp hu k⟩
  ·obtain⟨c,e⟩:=QbQ (n:=s.heap.objs.size + 1) k
   refine .inr ⟨.inl k,c,e,?_⟩
   have q:=x.cell y c e
   rw[QbP ndP hp hu (by show scope.names.lookup y≠_;rw[k];decide)]at q
   exact q
 ·exact e0.hok.fresh (Nat.le_of_lt (x.above y c (PySem.mem_of_lookup h)))
 ·unfold start
  show _=N.length
  rw[List.length_append,List.length_map,List.length_replicate]
  ac_nf
theorem QbS {CX : CXT} {P : Program} {w : World} {K : PySem.W.Frag} {mg : Str -> Option Value} {base : Heap} {k : Nat} {f : Addr} {name qual : Str} {params : Arguments} {body : List Stmt} {scope : Scope} {dV kV doc pm cdv ct oc : Value} {an od : Option Addr}
  {osl:Array (Option Value)}{N ps:List Str}{sp:Sp} (lk:K.lookup f=some ⟨oc,od,.func (PySem.W.fnOf name qual params body scope dV kV doc pm an cdv ct),osl⟩) (hcd:PySem.W.codeIn K cdv qual=true) (S:FnScope N ps scope)
  (len:∀ vs H Q E,sp vs H Q E->vs.length=ps.length)
  (hbody:∀ (A:Around) (outer:List Env) (s:Shared) (H:Hp) (vs:List V) (Q:VK) (E:XK),Room k (A.deeper (envOfC qual scope s.heap.objs.size f cdv))->sp vs H Q E ->
   ∃ t,PSs (cxOf CX P w K mg base N qual scope f cdv A outer s H E) body t/\t { nx:=fun _ H'=>Q .non H',rt:=Q } (start N vs) H):
  FnOk P w K mg base CX (k + 1) f (PySem.W.fnOf name qual params body scope dV kV doc pm an cdv ct) ps sp:=by
 refine⟨len,fun A outer s H args us vs Q E hr e0 hb r hsp=>?_⟩
 have hl:=len _ _ _ _ hsp
 have KX:K.In s.heap:=e0.mod.kin.keeps fun b o e=>(e0.bs b o e).1
 have lim:s.heap.NoLimit:=e0.mod.nolimit.keeps fun b o e=>(e0.bs b o e).1
 have hkind:∀ y∈ps.zip us,scope.names.lookup y.1=some .local\/(scope.names.lookup y.1=some .cell/\((cellsFrom (s.heap.objs.size + 1) scope.names []).lookup y.1).isSome=true):=fun pq31 hy=>by
  obtain⟨n,v⟩:=pq31
  rcases S.par n (List.of_mem_zip hy).1 with q | q
  ·exact .inl q
  ·exact .inr ⟨q,PySem.W.cellsFrom_some _ _ _ (.inl q)⟩
 refine codeAny_call_function hr.depth (KX _ _ lk) rfl S.co S.gen rfl (PySem.W.codeRec_of KX hcd) (hb _ _ _ _ ?_)
 refine wpAny_newFunctionEnv_cells S.kind hkind fun env he s1 x=>?_
 subst he
 refine⟨lim.keeps x.toInCall.keep,codeAny_func ?_⟩
 obtain⟨t,ht,hq⟩:=hbody A outer s H vs Q E (hr.deeper _) hsp
 have I:Inv (cxOf CX P w K mg base N qual scope f cdv A outer s H E) [] (start N vs) H s1:=QbR S hr.hd e0 hl r x
 refine wpAny_mono (ht [] s1 (start N vs) H _ I hq) (fun fl s' hs=>?_) fun e s' hs=>hs
 have fin:∀ {σ':St}{H':Hp}{v:V}{u:Value},Inv (cxOf CX P w K mg base N qual scope f cdv A outer s H E) [] σ' H' s'->RelV v u->Q v H'->CE outer P w H s Q u s':=
  fun {σ' H' v u} J rv q=>⟨v,H',J.os,J.bare,J.base,J.hok,rv,q⟩
 cases fl with
 | ret u=>
  obtain⟨v,σ',H',J,rv,q⟩:=hs
  exact fin J rv q
 | next=>
  obtain⟨σ',H',J,q⟩:=hs
  exact fin (v:=V.non) (u:=Value.none) J rfl q
 | brk=>
  obtain⟨_,_,_,q⟩:=hs
  exact False.elim q
 | cont=>
  obtain⟨_,_,_,q⟩:=hs
  exact False.elim q
section
variable {X:Cx}{x:Str}{p pos:Pos}{e:Expr}{es:List Expr}{t:TA}{id T:String}{r:List V->Hp->VK->Prop}
def tCB (r:List V->Hp->VK->Prop) (t:TA):TE:=fun σ H Q=>t σ H fun vs H1=>r vs H1 Q
theorem QbT (hc : CallR X (.builtin id) r) (hg : Gl X x) (hm : X.mg x = none) (hv : bootBuiltins x = some (.builtin id)) (ha : PA X (e :: es) t) (hn : x ≠ "__name__" := by decide) (hdb : (x == ("__debug__" : Str)) = false := by decide)
  (he:starEach (e::es) X.env=(false,eval e X.env)::starEach es X.env:=by rfl) (hpl:(backTo pos (starEach es X.env)).any (·.1)=false:=by rfl):PE X (.Call (.Name x p) (e::es) [] pos) (tCB r t):=by
 intro pins s σ H Q I h
 refine wpAny_Call_Name_kw (Qay I hg hm hv ?_ hn hdb)
 exact PyProof.Rows.callWith_builtin1 (thn (ha pos pins s σ H _ I h) fun us s1 pq32=>by obtain⟨vs,H1,I1,r1,q1⟩:=pq32;exact hc pins s1 σ H1 vs us Q I1 r1 q1) he hpl
theorem QbU (hc : CallR X (.type T) r) (hg : Gl X x) (hm : X.mg x = none) (hv : bootBuiltins x = some (.type T)) (ha : PA X (e :: es) t) (hn : x ≠ "__name__" := by decide) (hdb : (x == ("__debug__" : Str)) = false := by decide)
  (he:starEach (e::es) X.env=(false,eval e X.env)::starEach es X.env:=by rfl) (hpl:(backTo pos (starEach es X.env)).any (·.1)=false:=by rfl):PE X (.Call (.Name x p) (e::es) [] pos) (tCB r t):=by
 intro pins s σ H Q I h
 refine wpAny_Call_Name_kw (Qay I hg hm hv ?_ hn hdb)
 exact PyProof.Rows.callWith_type1 (thn (ha pos pins s σ H _ I h) fun us s1 pq33=>by obtain⟨vs,H1,I1,r1,q1⟩:=pq33;exact hc pins s1 σ H1 vs us Q I1 r1 q1) he hpl
end
end L2
namespace HT
open PySem PyProof.Rows
section
open PySem.SeqAt
open PySem.AutoSeq1 (wpAny_loadPart')
open PySem.MeetsSeq PySem.MeetsSeq2 PySem.MeetsSeq3
end
section
variable {prog:Program}{w:World}{A:Around}{E:Value->Shared->Prop}{s:Shared}
theorem cat_tup {t b : Addr} {vs ws : List Value} {Q : Value -> Shared -> Prop} (ht : IsTup s.heap t vs.toArray) (hb : IsTup s.heap b ws.toArray) (hv : vs ≠ [])
  (h1:ws=[]->Q (.ref t) s) (h2:ws≠[]->Q (.ref s.heap.objs.size) { s with heap:=s.heap.push { cls:=.type "tuple",data:=.seq (vs++ws).toArray } })
  (hsz:vs.length + ws.length<=sizeLine):wpAny (model prog w) A (binaryOp .Add (.ref t) (.ref b)) Q E s:=by
 obtain⟨⟨cls,dd,data,sl⟩,ho,hc,n,hd⟩:=id ht
 obtain⟨⟨cls2,dd2,data2,sl2⟩,ho2,hc2,n2,hd2⟩:=id hb
 simp only at hc hd hc2 hd2
 subst hc hd hc2 hd2
 have e:vs.toArray++ws.toArray=(vs++ws).toArray:=by simp
 by_cases hw:ws=[]
 ·exact concat_meets ⟨_, ho, rfl⟩ ⟨_, ho2, rfl⟩ noFill_tuple_add seq_tuple_add PySem.F.slot_tuple_add PySem.F.entry_tuple_add (PySem.F.args_tuple_add_2 _ _)
    (tuple_addW1 t b vs.toArray ws.toArray n n2 dd dd2 sl sl2 (by simpa using hv) (by simp[hw])) ⟨ho,ho2,h1 hw⟩
 ·refine concat_meets ⟨_, ho, rfl⟩ ⟨_, ho2, rfl⟩ noFill_tuple_add seq_tuple_add PySem.F.slot_tuple_add PySem.F.entry_tuple_add (PySem.F.args_tuple_add_2 _ _)
    (tuple_addW2 t b vs.toArray ws.toArray n n2 dd dd2 sl sl2 (by simpa using hv) (by simpa using hw) (by rw[List.size_toArray,List.size_toArray];exact hsz)) ⟨ho,ho2,?_⟩
  rw[e]
  exact h2 hw
def sIx (n d:Nat):Option Int->Nat
 | none=>d
 | some v=>if v < 0 then (v + (n:Int)).toNat else min v.toNat n
end
end HT
namespace L2
open PySem PySem.Spec PyProof.Rows
abbrev TO:=St->Hp->(Option Int->Hp->Prop)->Prop
def PO (X:Cx) (e:Option Expr) (t:TO):Prop:=
 ∀ (pins:List (Addr × Obj)) (s:Shared) (σ:St) (H:Hp) (Q:Option Int->Hp->Prop),Inv X pins σ H s->t σ H Q ->
  wpAny (model X.prog X.w) X.A (evalPart e X.env) (fun u s'=>∃ o H',Inv X pins σ H' s'/\IsPart u o/\Q o H') X.xe s
def tNoPart:TO:=fun _ H Q=>Q none H
def tPart (t:TE):TO:=fun σ H Q=>t σ H fun x H1=>∃ i,x=.int i/\Q (some i) H1
theorem QbV {ns:List Int}:∀ {us:List Value},Vals (ns.map V.int) us->IntsAre us ns:=by
 induction ns with
 | nil=>intro us r;rw[List.map_nil]at r;cases r;exact .nil
 | cons n ns ih=>
  intro us r
  rw[List.map_cons]at r
  cases r with
  | cons r1 r2=>
   obtain⟨t,e⟩:=r1
   subst e
   exact .cons n t (ih r2)
section
variable {X:Cx}{e:Expr}{te:TE}{lo hi:Option Expr}{tl th:TO}{pos p2:Pos}
theorem QbW:PO X none tNoPart:=by
 intro pins s σ H Q I h
 rw[evalPart_none]
 exact wpAny_pure ⟨none,H,I,.none,h⟩
theorem QbX (h:PE X e te):PO X (some e) (tPart te):=by
 intro pins s σ H Q I hw
 rw[evalPart_some]
 refine thn (h pins s σ H _ I hw) fun u s1 pq34=>?_
 obtain⟨x,H1,I1,r1,q1⟩:=pq34
 obtain⟨i,rfl,q⟩:=q1
 obtain⟨t,rfl⟩:=r1
 exact⟨some i,H1,I1,.int i t,q⟩
def SlR (X:Cx) (r:V->Option Int->Option Int->Hp->VK->Prop):Prop:=
 ∀ (pins:List (Addr × Obj)) (s:Shared) (σ:St) (H:Hp) (x:V) (v vl vu:Value) (lo hi:Option Int) (sl:Addr) (Q:VK),Inv X pins σ H s->RelV x v->s.heap.IsSliceOf sl vl vu .none->IsPart vl lo->IsPart vu hi->r x lo hi H Q ->
  ∃ T id,typeLookup (.type T) "__getitem__"=pure (some (.builtin id))/\s.TypeIs v T/\wpAny (model X.prog X.w) X.A (getItem v (.ref sl)) (EP X pins σ Q) X.xe s
def tSl (r:V->Option Int->Option Int->Hp->VK->Prop) (te:TE) (tl th:TO):TE:=fun σ H Q=>te σ H fun x H1=>tl σ H1 fun l H2=>th σ H2 fun u H3=>r x l u H3 Q
theorem QbY {r:V->Option Int->Option Int->Hp->VK->Prop} (hr:SlR X r) (he:PE X e te) (hl:PO X lo tl) (hu:PO X hi th):PE X (.Subscript e (.Slice lo hi none p2) pos) (tSl r te tl th):=by
 intro pins s σ H Q I h
 refine Subscript_ (thn (he pins s σ H _ I h) fun v s1 pq35=>?_)
 obtain⟨x,H1,I1,r1,q1⟩:=pq35
 refine wpAny_Slice (thn (hl pins s1 σ H1 _ I1 q1) fun vl s2 ⟨l,H2,I2,pl,q2⟩=>thn (hu pins s2 σ H2 _ I2 q2) fun vu s3 pq37=>?_)
 obtain⟨u,H3,I3,pu,q3⟩:=pq37
 rw[evalPart_none]
 refine wpAny_pure ?_
 have I4:Inv X pins σ H3 { s3 with heap:=s3.heap.push { cls:=.type "slice",data:=.fields #[vl,vu,.none] } }:=I3.kept (t':=s3.toks) fun b ob q=>Heap.get?_push_of_some _ q
 obtain⟨T,id,hT,ht,hg⟩:=hr pins { s3 with heap:=s3.heap.push { cls:=.type "slice",data:=.fields #[vl,vu,.none] } } σ H3 x v vl vu l u s3.heap.objs.size Q I4 r1 (Heap.IsSliceOf.new ..) pl pu q3
 show wpAny (model X.prog X.w) X.A (subscriptTail e (.Slice lo hi none p2) v (.ref s3.heap.objs.size)) (EP X pins σ Q) X.xe { s3 with heap:=s3.heap.push { cls:=.type "slice",data:=.fields #[vl,vu,.none] } }
 exact tail_any (ops:=[.ref s3.heap.objs.size,v]) ht hT hg (by with_unfolding_all rfl)
def cutV (xs:List V) (lo hi:Option Int):List V:=(xs.drop (HT.sIx xs.length 0 lo)).take (HT.sIx xs.length xs.length hi - HT.sIx xs.length 0 lo)
theorem QbZ (xs:List V) (lo hi:Option Int):(cutV xs lo hi).length<=xs.length:=by
 unfold cutV
 rw[List.length_take,List.length_drop]
 ac_nf
def rCatT (K:PySem.W.Frag):R2:=fun x y H Q=>∃ a b xs ys,x=.ref a/\y=.ref b/\SqT K H a xs/\SqT K H b ys/\xs≠[]/\xs.length + ys.length<=sizeLine /\
 (ys=[]->Q (.ref a) H)/\(ys≠[]->∀ p,H p=none->Q (.ref p) (upd H p (.tup (xs++ys))))
theorem Vals.nil_iff {xs:List V}{us:List Value} (r:Vals xs us):us=[]↔xs=[]:=by
 cases r with
 | nil=>simp
 | cons _ _=>simp
theorem Qb0:OpR X (binaryOp .Add) (rCatT X.K):=by
 intro pins s σ H x y v u Q I rx ry h
 obtain⟨a,b,xs,ys,rfl,rfl,ha,hb,hx,hz,q1,q2⟩:=h
 cases rx
 cases ry
 obtain⟨its,r1,p1,_⟩:=I.tuple ha
 obtain⟨its2,r2,p2,_⟩:=I.tuple hb
 refine HT.cat_tup p1 p2 (fun z=>hx (r1.nil_iff.mp z)) (fun z=>⟨.ref a,H,I,rfl,q1 (r2.nil_iff.mp z)⟩) (fun z=>?_) (by rw[<- r1.length,<- r2.length];exact hz)
 refine⟨.ref s.heap.objs.size,_,I.laid (t':=s.toks) (o:=.tup (xs++ys)) (fun b ob q=>Heap.get?_push_of_some _ q) (Nat.le_refl _) ?_,rfl,q2 (fun w=>z (r2.nil_iff.mpr w)) _ (I.hok.fresh (Nat.le_refl _))⟩
 exact⟨by rw[List.length_append];exact hz,_,r1.append r2,IsTupD.new _ _⟩
end
def ixN (n:Nat) (i:Int):Option Nat:=if 0<=i then (if i < n then some i.toNat else none) else if -(n:Int)<=i then some (i + n).toNat else none
def atI {α:Type} (xs:List α) (i:Int):Option α:=(ixN xs.length i).bind fun j=>xs[j]?
theorem Qb1 {n:Nat}{i:Int}{j:Nat} (h:ixN n i=some j):seqIndex? i n=some j/\j < n /\ -(n:Int)<=i/\i < n:=by
 unfold ixN at h
 by_cases h0:0<=i
 ·rw[if_pos h0]at h
  by_cases h1:i < n
  ·rw[if_pos h1]at h
   have e:i.toNat=j:=Option.some.inj h
   exact⟨by rw[seqIndex_of h0 h1,e],by ac_nf,by ac_nf,h1⟩
  ·rw[if_neg h1]at h;cases h
 ·rw[if_neg h0]at h
  by_cases h1 : -(n:Int)<=i
  ·rw[if_pos h1]at h
   have e:(i + n).toNat=j:=Option.some.inj h
   exact⟨by rw[seqIndex_neg (by ac_nf) h1,e],by ac_nf,h1,by ac_nf⟩
  ·rw[if_neg h1]at h;cases h
theorem Qb2 {α:Type}{xs:List α}{i:Int}{v:α} (h:atI xs i=some v):∃ j,seqIndex? i xs.length=some j/\xs[j]?=some v/\j < xs.length /\ -(xs.length:Int)<=i/\i < xs.length:=by
 unfold atI at h
 cases e:ixN xs.length i with
 | none=>rw[e]at h;cases h
 | some j=>
  rw[e]at h
  obtain⟨h1,h2,h3,h4⟩:=Qb1 e
  exact⟨j,h1,h,h2,h3,h4⟩
def PlainIx (b:Expr):Prop:=∀ o i,subscripted b false o i=operate [o,i] (getItem o i)
def IxR (X:Cx) (r:R2):Prop:=
 ∀ (value slice:Expr) (pins:List (Addr × Obj)) (s:Shared) (σ:St) (H:Hp) (x y:V) (v u:Value) (Q:VK),Inv X pins σ H s->RelV x v->RelV y u->r x y H Q ->
  subscripted slice false v u=operate [v,u] (getItem v u)->wpAny (model X.prog X.w) X.A (subscriptTail value slice v u) (EP X pins σ Q) X.xe s
def MtR (X:Cx) (id:String) (r:V->List V->Hp->VK->Prop):Prop:=
 ∀ (pins:List (Addr × Obj)) (s:Shared) (σ:St) (H:Hp) (x:V) (xs:List V) (v:Value) (us:List Value) (Q:VK),Inv X pins σ H s->RelV x v->Vals xs us->r x xs H Q ->
  wpAny (model X.prog X.w) X.A (call (.builtin id) (v::us)) (EP X pins σ Q) X.xe s
section
variable {X:Cx}{a b:Expr}{ta tb:TE}{pos:Pos}
theorem IxR.or {r r':R2} (h:IxR X r) (h':IxR X r'):IxR X (fun x y H Q=>r x y H Q\/r' x y H Q):=by
 intro value slice pins s σ H x y v u Q I rx ry q hs
 rcases q with q | q
 ·exact h value slice pins s σ H x y v u Q I rx ry q hs
 ·exact h' value slice pins s σ H x y v u Q I rx ry q hs
theorem Qb3 {r:R2} (hr:IxR X r) (ha:PE X a ta) (hb:PE X b tb) (hs:PlainIx b):PE X (.Subscript a b pos) (tOp r ta tb):=by
 intro pins s σ H Q I h
 exact Subscript_ (binT ha hb I h fun v u s2 x y H2 I2 rx ry q=>hr a b pins s2 σ H2 x y v u Q I2 rx ry q (hs _ _))
def rIxL (K:PySem.W.Frag):R2:=fun x y H Q=>∃ p xs i v,x=.ref p/\y=.int i/\SqL K H p xs/\atI xs i=some v/\Q v H
def rIxT (K:PySem.W.Frag):R2:=fun x y H Q=>∃ p xs i v,x=.ref p/\y=.int i/\SqT K H p xs/\atI xs i=some v/\Q v H
def rIxS:R2:=fun x y H Q=>∃ z i c,x=.str z/\y=.int i/\z.length<=sizeLine/\atI z.cps.toList i=some c/\Q (.str ⟨#[c]⟩) H
theorem Qb4:IxR X (rIxL X.K):=by
 intro value slice pins s σ H x y v u Q I rx ry h hs
 obtain⟨p,xs,i,z,rfl,rfl,hq,he,q⟩:=h
 cases rx
 obtain⟨t,rfl⟩:=ry
 obtain⟨its,r,pl,hz⟩:=I.list hq
 obtain⟨j,h1,h2,h3,h4,h5⟩:=Qb2 he
 obtain⟨w,ew,rw'⟩:=r.get h2
 have hl:=r.length
 have hn:=Qbs
 have fin:EP X pins σ Q w s:=⟨z,H,I,rw',q⟩
 by_cases h0:0<=i
 ·have hj : i.toNat = j := by
    rw[seqIndex_of h0 h5]at h1
    exact Option.some.inj h1
  exact item_listR pl.isList h0 (by ac_nf) (by rw[hj];simpa using ew) fin hs
 ·have hj : (i + (its.toArray.size : Int)).toNat = j := by
    rw[seqIndex_neg (by ac_nf) h4]at h1
    rw[List.size_toArray,<- hl]
    exact Option.some.inj h1
  exact subscriptTail_builtinR (x:=w) pl.isList.typeIs slot_list_getitem.lookup
   (wpAny_getItem_list_neg (Q:=fun r s'=>r=w/\EP X pins σ Q r s') pl.isList (by ac_nf) (by rw[List.size_toArray]<;>ac_nf) (by ac_nf) (by rw[hj];simpa using ew) ⟨rfl,fin⟩) hs
theorem Qb5:IxR X (rIxT X.K):=by
 intro value slice pins s σ H x y v u Q I rx ry h hs
 obtain⟨p,xs,i,z,rfl,rfl,hq,he,q⟩:=h
 cases rx
 obtain⟨t,rfl⟩:=ry
 obtain⟨its,r,pl,hz⟩:=I.tuple hq
 obtain⟨j,h1,h2,h3,h4,h5⟩:=Qb2 he
 obtain⟨w,ew,rw'⟩:=r.get h2
 have hl:=r.length
 have hn:=Qbs
 have fin:EP X pins σ Q w s:=⟨z,H,I,rw',q⟩
 exact subscriptTail_builtinR (x:=w) pl.typeIs slot_tuple_getitem.lookup
  (getItem_tuple (j:=j) (Q:=fun r s'=>r=w/\EP X pins σ Q r s') pl (by ac_nf) (by ac_nf) (by rw[List.size_toArray,<- hl];exact h1) (by simpa using ew) ⟨rfl,fin⟩) hs
theorem Qb6:IxR X rIxS:=by
 intro value slice pins s σ H x y v u Q I rx ry h hs
 obtain⟨z,i,c,rfl,rfl,hz,he,q⟩:=h
 obtain⟨t,rfl⟩:=rx
 obtain⟨t',rfl⟩:=ry
 obtain⟨j,h1,h2,h3,h4,h5⟩:=Qb2 he
 have hl:z.cps.toList.length=z.length:=by simp[Str.length]
 rw[hl]at h1 h4 h5
 have hn:=Qbs
 exact tail_any (typeIs_str s z t) slot_str_getitem.lookup (getItem_str (c:=c) (by
  have e1:decide (i < -(2 ^ 63:Int))=false:=decide_eq_false (by ac_nf)
  have e2:decide (i ≥ 2 ^ 63)=false:=decide_eq_false (by ac_nf)
  rw[e1,e2,Bool.or_false]) (by rw[h1];simpa using h2) ⟨.str ⟨#[c]⟩,H,I.tok _,⟨_,rfl⟩,q⟩) hs
def rIx (K:PySem.W.Frag):R2:=fun x y H Q=>rIxL K x y H Q\/rIxT K x y H Q\/rIxS x y H Q
theorem Qb7:IxR X (rIx X.K):=Qb4.or (Qb5.or Qb6)
theorem Qb8 (its:List Value) (n j:Nat) (u:Value):Obj.mapSeq (·.setIfInBounds j u) { cls:=.type "list",data:=.seq its.toArray n }={ cls:=.type "list",data:=.seq (its.set j u).toArray n }:=by
 simp[Obj.mapSeq]
theorem Inv.lst {pins : List (Addr × Obj)} {σ : St} {H : Hp} {s : Shared} {p : Addr} {xs : List V} (I : Inv X pins σ H s) (h : H p = some (.lst xs)) :
  ∃ (its:List Value) (n:Nat),Vals xs its/\s.heap.get? p=some { cls:=.type "list",data:=.seq its.toArray n }/\xs.length<=sizeLine:=by
 obtain⟨z,its,n,r,e⟩:=I.hok p _ h
 exact⟨its,n,r,e,z⟩
theorem Inv.lstUpd {pins : List (Addr × Obj)} {σ : St} {H : Hp} {s : Shared} {p : Addr} {xs ys : List V} {its its' : List Value} {n n' : Nat} {f : Obj -> Obj} (I : Inv X pins σ H s) (h : H p = some (.lst xs))
  (ho:s.heap.get? p=some { cls:=.type "list",data:=.seq its.toArray n }) (hf:f { cls:=.type "list",data:=.seq its.toArray n }={ cls:=.type "list",data:=.seq its'.toArray n' }) (r:Vals ys its') (hz:ys.length<=sizeLine) (t:Nat):
  Inv X pins σ (upd H p (.lst ys)) { s with heap:=s.heap.update p f,toks:=t }:=by
 have e:(s.heap.update p f).get? p=some { cls:=.type "list",data:=.seq its'.toArray n' }:=by
  rw[Heap.get?_update_self f ho (by rw[hf]<;>rfl),hf]
 refine I.write (x:=p) (e:=p) (by rw[h];trivial) (.inl rfl) (fun b u hb q=>(Heap.get?_update_other _ _ (Ne.symm hb)).trans q) ⟨_,e⟩ ?_
 exact⟨hz,its',n',r,e⟩
def rSetL:V->V->V->Hp->(Hp->Prop)->Prop:=fun o i v H Q=>∃ p xs k j,o=.ref p/\i=.int k/\H p=some (.lst xs)/\ixN xs.length k=some j/\Q (upd H p (.lst (xs.set j v)))
theorem Qb9:PSet X rSetL:=by
 intro pins s σ H o i v ov iv u Q I ro ri rv h
 obtain⟨p,xs,k,j,rfl,rfl,hp,hj,q⟩:=h
 cases ro
 obtain⟨t,rfl⟩:=ri
 obtain⟨its,n,r,ho,hz⟩:=I.lst hp
 obtain⟨h1,h2,h3,h4⟩:=Qb1 hj
 have hl:=r.length
 have hn:=Qbs
 have I':Inv X pins σ (upd H p (.lst (xs.set j v))) { s with heap:=s.heap.update p (Obj.mapSeq (·.setIfInBounds j u)) }:=
  I.lstUpd hp ho (Qb8 its n j u) (r.set rv j) (by rw[List.length_set];exact hz) s.toks
 by_cases h0:0<=k
 ·have hk : k.toNat = j := by
    rw[seqIndex_of h0 h4]at h1
    exact Option.some.inj h1
  exact PySem.W.ki_setAt ho h0 (by ac_nf) (by rw[List.size_toArray,<- hl];exact h4) (by rw[hk];exact⟨_,I',q⟩)
 ·have hk : (k + (its.toArray.size : Int)).toNat = j := by
    rw[seqIndex_neg (by ac_nf) h3]at h1
    rw[List.size_toArray,<- hl]
    exact Option.some.inj h1
  exact PySem.W.ki_setBack ho (by ac_nf) (by rw[List.size_toArray,<- hl];exact h3) (by ac_nf) (by rw[hk];exact⟨_,I',q⟩)
theorem Qca (lo hi:Option Int) (n:Nat):(sliceBounds lo hi none n).1=((HT.sIx n 0 lo:Nat):Int)/\(sliceBounds lo hi none n).2.1=((HT.sIx n n hi:Nat):Int)/\(sliceBounds lo hi none n).2.2=1:=by
 refine⟨?_,?_,rfl⟩
 ·cases lo with
  | none=>simp[sliceBounds,HT.sIx]
  | some i=>
   simp only[sliceBounds,HT.sIx,Option.getD_none,show (1:Int) > 0 by decide,if_true]
   by_cases h:i < 0
   ·simp only[h,if_true]<;>ac_nf
   ·simp only[h,if_false]<;>ac_nf
 ·cases hi with
  | none=>simp[sliceBounds,HT.sIx]
  | some i=>
   simp only[sliceBounds,HT.sIx,Option.getD_none,show (1:Int) > 0 by decide,if_true]
   by_cases h:i < 0
   ·simp only[h,if_true]<;>ac_nf
   ·simp only[h,if_false]<;>ac_nf
theorem Qcb (its:List Value) (lo hi:Option Int):slicePick its.toArray lo hi none=((its.drop (HT.sIx its.length 0 lo)).take (HT.sIx its.length its.length hi - HT.sIx its.length 0 lo)).toArray:=by
 obtain⟨h1,h2,h3⟩:=Qca lo hi its.toArray.size
 unfold slicePick
 rw[h1,h2,h3]
 simp only[sliceRange_one,pick_run,List.size_toArray]<;>rfl
def rSlL (K:PySem.W.Frag):V->Option Int->Option Int->Hp->VK->Prop:=fun x lo hi H Q=>∃ a xs,x=.ref a/\SqL K H a xs/\∀ p,H p=none->Q (.ref p) (upd H p (.lst (cutV xs lo hi)))
theorem Qcc:SlR X (rSlL X.K):=by
 intro pins s σ H x v vl vu lo hi sl Q I rx hs pl pu h
 obtain⟨a,xs,rfl,hx,q⟩:=h
 cases rx
 obtain⟨its,r,ht,hz⟩:=I.list hx
 have hlen:=r.length
 refine⟨"list",_,slot_list_getitem.lookup,ht.isList.typeIs,?_⟩
 refine wpAny_getItem_list_slice ht.isList hs pl pu .none (by simp) ?_ (by rw[List.size_toArray]<;>ac_nf)
 rw[Qcb,<- hlen]
 refine⟨.ref s.heap.objs.size,_,I.laid (t':=s.toks) (o:=.lst (cutV xs lo hi)) (fun b ob q=>Heap.get?_push_of_some _ q) (Nat.le_refl _) ?_,rfl,q _ (I.hok.fresh (Nat.le_refl _))⟩
 exact⟨Nat.le_trans (QbZ xs lo hi) hz,_,0,(r.drop (HT.sIx xs.length 0 lo)).take (HT.sIx xs.length xs.length hi - HT.sIx xs.length 0 lo),Heap.get?_push_size _ rfl⟩
def flatV:V->Bool
 | .non=>true
 | .bl _=>true
 | .int _=>true
 | .str _=>true
 | _=>false
def eqV:V->V->Bool
 | .non,.non=>true
 | .bl a,.bl b=>a == b
 | .bl a,.int b=>(if a then 1 else 0) == b
 | .int a,.bl b=>a == (if b then 1 else 0)
 | .int a,.int b=>a == b
 | .str a,.str b=>a == b
 | _,_=>false
theorem Qcd {A:Around}{s:Shared}{y x:V}{u v:Value} (ry:RelV y u) (rx:RelV x v) (fy:flatV y=true) (fx:flatV x=true):SeqAt.EqAt A s u v (eqV y x):=by
 cases y with
 | non=>
  cases ry
  cases x with
  | non=>cases rx;exact SeqAt.EqAt.same _
  | bl b=>cases rx;exact SeqAt.EqAt.none_bool b
  | int b=>obtain⟨t,rfl⟩:=rx;exact SeqAt.EqAt.none_int b t
  | str b=>obtain⟨t,rfl⟩:=rx;exact SeqAt.EqAt.none_str b t
  | _=>exact absurd (show false=true from fx) Bool.false_ne_true
 | bl a=>
  cases ry
  cases x with
  | non=>cases rx;exact SeqAt.EqAt.bool_none a
  | bl b=>cases rx;exact SeqAt.EqAt.bool_bool a b
  | int b=>obtain⟨t,rfl⟩:=rx;exact SeqAt.EqAt.bool_int a b t
  | str b=>obtain⟨t,rfl⟩:=rx;exact SeqAt.EqAt.bool_str a b t
  | _=>exact absurd (show false=true from fx) Bool.false_ne_true
 | int a=>
  obtain⟨t',rfl⟩:=ry
  cases x with
  | non=>cases rx;exact SeqAt.EqAt.int_none a t'
  | bl b=>cases rx;exact SeqAt.EqAt.int_bool a t' b
  | int b=>obtain⟨t,rfl⟩:=rx;exact SeqAt.EqAt.int_int a t' b t
  | str b=>obtain⟨t,rfl⟩:=rx;exact SeqAt.EqAt.int_str a t' b t
  | _=>exact absurd (show false=true from fx) Bool.false_ne_true
 | str a=>
  obtain⟨t',rfl⟩:=ry
  cases x with
  | non=>cases rx;exact SeqAt.EqAt.str_none a t'
  | bl b=>cases rx;exact SeqAt.EqAt.str_bool a t' b
  | int b=>obtain⟨t,rfl⟩:=rx;exact SeqAt.EqAt.str_int a t' b t
  | str b=>obtain⟨t,rfl⟩:=rx;exact SeqAt.EqAt.str_str a t' b t
  | _=>exact absurd (show false=true from fx) Bool.false_ne_true
 | _=>exact absurd (show false=true from fy) Bool.false_ne_true
def eqU (x:V) (u:Value):Bool:=match u with
 | .none=>eqV .non x
 | .bool b=>eqV (.bl b) x
 | .int i _=>eqV (.int i) x
 | .str z _=>eqV (.str z) x
 | _=>false
theorem Qce {x y:V}{u:Value} (r:RelV y u) (f:flatV y=true):eqU x u=eqV y x:=by
 cases y with
 | non=>cases r;rfl
 | bl b=>cases r;rfl
 | int i=>obtain⟨t,rfl⟩:=r;rfl
 | str z=>obtain⟨t,rfl⟩:=r;rfl
 | _=>exact absurd (show false=true from f) Bool.false_ne_true
theorem Qcf {x:V}:∀ {xs:List V}{us:List Value},Vals xs us->xs.all flatV=true->us.any (eqU x)=xs.any fun y=>eqV y x
 | _,_,.nil,_=>rfl
 | y::xs,u::us,.cons r t,f=>by
  rw[List.all_cons,Bool.and_eq_true]at f
  rw[List.any_cons,List.any_cons,Qce r f.1,Qcf t f.2]
theorem Qcg {A:Around}{s:Shared}{x:V}{v:Value} (rx:RelV x v) (fx:flatV x=true):∀ {xs:List V}{us:List Value},Vals xs us->xs.all flatV=true->∀ u∈us,SeqAt.EqAt A s u v (eqU x u)
 | _,_,.nil,_=>fun u hu=>by cases hu
 | y::xs,u::us,.cons r t,f=>fun u' hu=>by
  rw[List.all_cons,Bool.and_eq_true]at f
  rcases List.mem_cons.mp hu with rfl | hu
  ·rw[Qce r f.1];exact Qcd r rx f.1 fx
  ·exact Qcg rx fx t f.2 u' hu
def inV (x:V) (xs:List V):Bool:=xs.any fun y=>eqV y x
def rIn (K:PySem.W.Frag) (neg:Bool):R2:=fun x y H Q=>∃ p xs,y=.ref p/\(SqL K H p xs\/SqT K H p xs)/\flatV x=true/\xs.all flatV=true/\Q (.bl (if neg then !inV x xs else inV x xs)) H
theorem Qch:OpR X (compareOp .In) (rIn X.K false):=by
 intro pins s σ H x y v u Q I rx ry h
 obtain⟨p,xs,rfl,hq,fx,fs,q⟩:=h
 cases ry
 rcases hq with hq | hq
 ·obtain⟨its,r,pl,hz⟩:=I.list hq
  refine SeqAt.in_listAt (eqU x) pl.isList (fun w hw=>Qcg rx fx r fs w (by simpa using hw)) ⟨.bl _,H,I,rfl,?_⟩
  rw[show its.toArray.any (eqU x)=its.any (eqU x) by simp,Qcf r fs]
  exact q
 ·obtain⟨its,r,pl,hz⟩:=I.tuple hq
  refine SeqAt.in_tupleAt (eqU x) pl (fun w hw=>Qcg rx fx r fs w (by simpa using hw)) ⟨.bl _,H,I,rfl,?_⟩
  rw[show its.toArray.any (eqU x)=its.any (eqU x) by simp,Qcf r fs]
  exact q
theorem Qci:CallR X (.builtin "len") (fun xs H Q=>∃ p ys,xs=[.ref p]/\(SqL X.K H p ys\/SqT X.K H p ys)/\Q (.int ys.length) H):=by
 intro pins s σ H xs us Q I r h
 obtain⟨p,ys,rfl,hq,q⟩:=h
 obtain⟨u,rfl,rx⟩:=Qbw r
 cases rx
 have hn:=Qbs
 rcases hq with hq | hq
 ·obtain⟨its,r',pl,hz⟩:=I.list hq
  have hlen:=r'.length
  exact Calls.call_len_list pl.isList (by simp only[List.size_toArray]<;>ac_nf) ⟨.int ys.length,H,I.tok _,⟨s.toks + 1,by rw[List.size_toArray,hlen]⟩,q⟩
 ·obtain⟨its,r',pl,hz⟩:=I.tuple hq
  have hlen:=r'.length
  exact len_tuple pl (by simp only[List.size_toArray]<;>ac_nf) ⟨.int ys.length,H,I.tok _,⟨s.toks + 1,by rw[List.size_toArray,hlen]⟩,q⟩
theorem Qcj:CallR X (.builtin "len") (fun xs H Q=>∃ z,xs=[.str z]/\z.length<=sizeLine/\Q (.int z.length) H):=by
 intro pins s σ H xs us Q I r h
 obtain⟨z,rfl,hz,q⟩:=h
 obtain⟨u,rfl,t,rfl⟩:=Qbw r
 have hn:=Qbs
 exact len_str (by ac_nf) ⟨.int z.length,H,I.tok _,⟨_,rfl⟩,q⟩
theorem CallR.or {f:Value}{r r':List V->Hp->VK->Prop} (h:CallR X f r) (h':CallR X f r'):CallR X f (fun xs H Q=>r xs H Q\/r' xs H Q):=by
 intro pins s σ H xs us Q I rs q
 rcases q with q | q
 ·exact h pins s σ H xs us Q I rs q
 ·exact h' pins s σ H xs us Q I rs q
theorem Qck:CallR X (.type "tuple") (fun xs H Q=>∃ p ys,xs=[.ref p]/\((SqL X.K H p ys/\∀ l,H l=none->Q (.ref l) (upd H l (.tup ys)))\/(SqT X.K H p ys/\Q (.ref p) H))):=by
 intro pins s σ H xs us Q I r h
 obtain⟨p,ys,rfl,h⟩:=h
 obtain⟨u,rfl,rx⟩:=Qbw r
 cases rx
 rcases h with ⟨hq,q⟩ | ⟨hq,q⟩
 ·obtain⟨its,r',pl,hz⟩:=I.list hq
  have hlen:=r'.length
  refine call_tuple_list pl.isList (fun h' kp=>?_) (by simp only[List.size_toArray]<;>ac_nf)
  have I1:Inv X pins σ H { s with heap:=h' }:=I.kept (t':=s.toks) kp
  have I2:Inv X pins σ (upd H h'.objs.size (.tup ys)) { s with heap:=h'.push { cls:=.type "tuple",data:=.seq its.toArray } }:=
   I1.laid (t':=s.toks) (fun b o e=>Heap.get?_push_of_some _ e) (Nat.le_refl _) (show ObjOk X.prog X.w _ _ _ (.tup ys) from ⟨hz,its,r',IsTupD.new _ _⟩)
  exact⟨.ref h'.objs.size,_,I2,rfl,q _ (I1.hok.fresh (Nat.le_refl _))⟩
 ·obtain⟨its,r',pl,hz⟩:=I.tuple hq
  exact call_tuple_same pl ⟨.ref p,H,I,rfl,q⟩
def tyV (K:PySem.W.Frag) (T:String) (x:V) (H:Hp):Prop:=match x with
 | .str _=>T="str"
 | .int _=>T="int"
 | .ref p => (T = "list" /\ ∃ xs, SqL K H p xs) \/ (T = "tuple" /\ ∃ o, K.lookup p = some o /\ o.cls = .type "tuple" /\ o.dict = none) \/
   (T="dict"/\((∃ kvs,H p=some (.dK kvs))\/∃ kvs,H p=some (.dT kvs)))\/(T="set"/\∃ S n,H p=some (.set S n))
 | _=>False
theorem Qcl {pins : List (Addr × Obj)} {σ : St} {H : Hp} {s : Shared} {T : String} {x : V} {v : Value} (I : Inv X pins σ H s) (r : RelV x v) (ty : tyV X.K T x H) :
  s.TypeIs v T/\∀ a,v=.ref a->∃ ob,s.heap.get? a=some ob/\ob.dict=none:=by
 cases x with
 | str z=>
  obtain⟨t,rfl⟩:=r
  cases (show T="str" from ty)
  exact⟨typeIs_str s z t,fun _ e=>nomatch e⟩
 | int i=>
  obtain⟨t,rfl⟩:=r
  cases (show T="int" from ty)
  exact⟨typeIs_int s i t,fun _ e=>nomatch e⟩
 | ref p=>
  cases r
  rcases ty with ⟨rfl,xs,hq⟩ | ⟨rfl,o,hk,hc,hd⟩ | ⟨rfl,hk⟩ | ⟨rfl,S,n,hk⟩
  ·obtain⟨its,_,pl,_⟩:=I.list hq
   refine⟨pl.isList.typeIs,fun a e=>?_⟩
   cases e
   obtain⟨o,n,e,c,hd,_⟩:=pl
   exact⟨o,e,hd⟩
  ·refine⟨⟨o,I.kIn p o hk,hc⟩,fun a e=>?_⟩
   cases e
   exact⟨o,I.kIn _ o hk,hd⟩
  ·have z : ∃ o, s.heap.get? p = some o /\ o.ExactDict := by
     rcases hk with ⟨kvs,hk⟩ | ⟨kvs,hk⟩
     ·obtain⟨_,_,_,_,o,_,_,e,ex,_⟩:=I.hok p _ hk
      exact⟨o,e,ex⟩
     ·obtain⟨_,_,_,_,o,_,_,e,ex,_⟩:=I.hok p _ hk
      exact⟨o,e,ex⟩
   obtain⟨o,e,ex⟩:=z
   refine⟨⟨o,e,ex.1⟩,fun a e2=>?_⟩
   cases e2
   exact⟨o,e,ex.2.1⟩
  ·obtain⟨o,_,_,_,e,ex,_⟩:=I.hok p _ hk
   refine⟨⟨o,e,ex.1⟩,fun a e2=>?_⟩
   cases e2
   exact⟨o,e,ex.2.1⟩
 | _=>exact False.elim ty
def tBM (K:PySem.W.Frag) (T:String) (r:V->List V->Hp->VK->Prop) (to:TE) (t:TA):TE:=fun σ H Q=>to σ H fun x H1=>tyV K T x H1/\t σ H1 fun xs H2=>r x xs H2 Q
variable {o e:Expr}{es:List Expr}{to:TE}{t:TA}{name:Str}{apos cpos:Pos}{T id:String}{r:V->List V->Hp->VK->Prop}
theorem Qcm (pa : PlainAttrs T) (slot : Slot T name id) (hty : typeOf (.builtin id) = pure (.type "method_descriptor")) (hm : MtR X id r) (ho : PE X o to) (ha : PA X (e :: es) t)
  (hbase:attributeBase o name X.env (eval o X.env)=eval o X.env:=by rfl)
  (hfew:((backTo cpos (starEach (e::es) X.env)).all (fun x => !x.1) && (backToKw cpos (keywordEach [] X.env)).all (fun x=>x.1.isSome)
   && decide ((e::es).length + ([]:List Keyword).length + (if ([]:List Keyword).isEmpty then 0 else 1) < 30))=true:=by rfl)
  (hline:(apos.endLine == cpos.line)=true:=by rfl) (hs:starEach (e::es) X.env=(false,eval e X.env)::starEach es X.env:=by rfl) (hplain:(backTo cpos (starEach es X.env)).any (·.1)=false:=by rfl):
  PE X (.Call (.Attribute o name apos) (e::es) [] cpos) (tBM X.K T r to t):=by
 intro pins s σ H Q I h
 refine wpAny_Call_method_late hbase hfew hline rfl (thn (ho pins s σ H _ I h) fun v s1 pq38=>?_)
 obtain⟨x,H1,I1,r1,ty,q1⟩:=pq38
 obtain⟨h1,h2⟩:=Qcl I1 r1 ty
 refine⟨T,id,pa,slot,hty,h1,h2,?_⟩
 have hA:=ha cpos pins s1 σ H1 _ I1 q1
 rw[hs]at hA ⊢
 refine Calls.callWith_builtin (by show (false || (backTo cpos (starEach es X.env)).any (·.1))=false;rw[hplain]<;>rfl) (Calls.evalArgs_plain ?_)
 exact thn hA fun us s2 pq39=>by obtain⟨vs,H2,I2,r2,q2⟩:=pq39;exact hm pins s2 σ H2 x vs v us Q I2 r1 r2 q2
end
def MtM (X:Cx) (id:String) (r:V->List V->Hp->VK->Prop):Prop:=
 ∀ (pins:List (Addr × Obj)) (s:Shared) (σ:St) (H:Hp) (x:V) (xs:List V) (v:Value) (us:List Value) (Q:VK),Inv X pins σ H s->RelV x v->Vals xs us->r x xs H Q ->
  wpAny (model X.prog X.w) X.A (call (.builtin id) (v::us)) (EP X pins σ Q) X.xe s
theorem Vals.one {x:V}{us:List Value} (h:Vals [x] us):∃ u,us=[u]/\RelV x u:=by
 cases h with
 | cons r h=>cases h;exact⟨_,rfl,r⟩
theorem Vals.rep {xs:List V}{us:List Value} (h:Vals xs us):∀ k:Nat,Vals (List.replicate k xs).flatten (List.replicate k us).flatten
 | 0=>.nil
 | k + 1=>by
  rw[List.replicate_succ,List.replicate_succ,List.flatten_cons,List.flatten_cons]
  exact Vals.append h (Vals.rep h k)
section
variable {X:Cx}{pins:List (Addr × Obj)}{σ:St}{H:Hp}{s:Shared}{l b:Addr}{xs ys zs:List V}
theorem Inv.lset {its its' : List Value} {n : Nat} {f : Array Value -> Array Value} {t' : Nat} (I : Inv X pins σ H s) (hH : H l = some (.lst xs))
  (e:s.heap.get? l=some { cls:=.type "list",data:=.seq its.toArray n }) (hf:f its.toArray=its'.toArray) (hv:Vals ys its') (hz:ys.length<=sizeLine):
  Inv X pins σ (upd H l (.lst ys)) { s with heap:=s.heap.update l (Obj.mapSeq f),toks:=t' }:=by
 have q:=PySem.IsL.update e f
 rw[hf]at q
 refine I.write (x:=l) (e:=l) (by rw[hH];exact trivial) (.inl rfl) (fun b' u hb hu=>(Heap.get?_update_other s.heap (Obj.mapSeq f) (Ne.symm hb)).trans hu) ⟨_,q⟩ ?_
 exact⟨hz,its',_,hv,q⟩
theorem Inv.lnew {its : List Value} {t' : Nat} (I : Inv X pins σ H s) (hv : Vals ys its) (hz : ys.length <= sizeLine) :
  Inv X pins σ (upd H s.heap.objs.size (.lst ys)) { s with heap:=s.heap.push { cls:=.type "list",data:=.seq its.toArray },toks:=t' }:=
 I.laid (fun _ _ q=>Heap.get?_push_of_some _ q) (Nat.le_refl _) ⟨hz,its,0,hv,Heap.get?_push_size _ rfl⟩
theorem Inv.fresh (I:Inv X pins σ H s):H s.heap.objs.size=none:=I.hok.fresh (Nat.le_refl _)
theorem Inv.lstM (I:Inv X pins σ H s) (hH:H l=some (.lst xs)):xs.length<=sizeLine/\∃ (its:List Value) (n:Nat),Vals xs its/\xs.length=its.length/\s.heap.get? l=some { cls:=.type "list",data:=.seq its.toArray n }:=by
 obtain⟨z,its,n,r,e⟩:=I.hok l _ hH
 exact⟨z,its,n,r,r.length,e⟩
end
section
variable {X:Cx}
def rAppend:V->List V->Hp->VK->Prop:=fun x vs H Q=>∃ l xs y,x=.ref l/\vs=[y]/\H l=some (.lst xs)/\xs.length < sizeLine/\Q .non (upd H l (.lst (xs++[y])))
theorem Qco:MtM X "list.append" rAppend:=by
 intro pins s σ H x vs v us Q I rx rv h
 obtain⟨l,xs,y,rfl,rfl,hH,hz,q⟩:=h
 cases rx
 obtain⟨u,rfl,ru⟩:=rv.one
 obtain⟨z,its,n,r,hl,e⟩:=I.lstM hH
 refine call_meets F.slot_list_append ⟨_,e,rfl⟩ F.entry_list_append (F.args_list_append_2 _ _) (PySem.list_append l its.toArray n u (by rw[List.size_toArray];ac_nf)) ⟨e,?_⟩
 refine⟨.non,_,I.lset (its':=its++[u]) hH e (by simp) (r.append (.cons ru .nil)) ?_,rfl,q⟩
 rw[List.length_append,List.length_singleton]
 ac_nf
def rCat:R2:=fun x y H Q=>∃ l b xs zs,x=.ref l/\y=.ref b/\H l=some (.lst xs)/\H b=some (.lst zs)/\xs.length + zs.length<=sizeLine/\∀ p,H p=none->Q (.ref p) (upd H p (.lst (xs++zs)))
theorem Qcp:OpR X (binaryOp .Add) rCat:=by
 intro pins s σ H x y v u Q I rx ry h
 obtain⟨l,b,xs,zs,rfl,rfl,hH,hB,hz,q⟩:=h
 cases rx
 cases ry
 obtain⟨z,its,n,r,hl,e⟩:=I.lstM hH
 obtain⟨z2,its2,n2,r2,hl2,e2⟩:=I.lstM hB
 refine PySem.P.add_list e e2 ?_ (by rw[List.size_toArray,List.size_toArray];ac_nf)
 have ea:its.toArray++its2.toArray=(its++its2).toArray:=by simp
 rw[ea]
 exact⟨.ref _,_,I.lnew (t':=s.toks) (r.append r2) (by rw[List.length_append];ac_nf),rfl,q _ I.fresh⟩
end
end L2
namespace Att
open PySem PySem.W PySem.Calls PyProof.Rows
theorem Qcs {P:Params}{h:Heap}:∀ (ns:List Int) (vs:List Value),WellAll P h vs (ns.map WData.int)->IntsAre vs ns:=by
 intro ns
 induction ns with
 | nil=>
  intro vs w
  rw[List.map_nil]at w
  cases w
  exact .nil
 | cons n ns ih=>
  intro vs w
  rw[List.map_cons]at w
  cases w with
  | cons a b=>
   cases a
   exact .cons _ _ (ih _ b)
theorem Qct {l : OpenLaw} {n : Nat} (hn : l.most = some n) {P : Params} {h : Heap} {args : List WData} {vals : List Value}
  (hpre:l.row.toRowW.claim.pre args=true) (hwl:WellAll P h vals args):
  ∃ a vs ns,vals=[Value.ref a]/\args=[WData.list (ns.map WData.int)]/\h.get? a=some { cls:=.type "list",data:=.seq vs.toArray }/\IntsAre vs ns/\ns.length<=n:=by
 have hsh:WShape.hasAll [] args [.list .int]=true:=(pre_splitW hpre).1
 have hc:l.pre.holds [] { args:=args }=true:=(pre_splitW hpre).2
 obtain⟨d,r,rfl,h1,h2⟩:=hasAllW_cons hsh
 obtain rfl:=hasAllW_nil h2
 obtain⟨xs,rfl,h3⟩:=hasW_list h1
 obtain⟨ns,rfl⟩:=items_int h3
 have hlen:ns.length<=n:=by
  unfold OpenLaw.pre at hc
  have h4:(WTm.not (.lt (.lit (.int (n:Int))) (.len (.arg 0)))).holds [] { args:=[.list (ns.map .int)] }=true:=by
   have h4:=(holds_andW hc).1
   rw[hn]at h4
   exact h4
  have h5:=condW_of h4 (w_not (w_lt w_lit (w_len_list (w_arg rfl))))
  rw[List.length_map]at h5
  refine Nat.le_of_not_lt fun q=>?_
  have q':(n:Int) < ((ns.length:Nat):Int):=by ac_nf
  first
   | (rw[decide_eq_true q']at h5;exact absurd h5 (by decide))
   | (simp at h5;ac_nf)
 cases hwl with
 | cons w1 w2=>
  cases w2
  cases w1 with
  | list ho hall=>exact⟨_,_,ns,rfl,rfl,ho,Qcs ns _ hall,hlen⟩
theorem Qcu (l:OpenLaw) (args:List WData):l.row.toRowW.claim.post args (.bool true) args=true:=
 postW_of (r:=l.row.toRowW) (X:=(true == true))
  (show WShape.has [] (.bool true) .bool=true by first | rfl | decide | simp[WShape.has,WShape.arms,WShape.armsAll])
  (show (WTm.eq .res (.lit (.bool true))).value [] { args:=args,res:=some (.bool true),after:=args }=some (.bool (true == true)) from w_eq_bool (w_res rfl) w_lit) rfl
theorem attach_call {l : OpenLaw} {n : Nat} {q : Program} {loose : List Str} {XP : (Str -> Option Value) -> Heap -> Prop} {YP : World -> Heap -> Prop} {d : DefRec}
  (hn:l.most=some n) (hdf:d.params.defaults=[])
  (call:∀ (w:World) (s₀ s₁:Shared) (mg mb:Str->Option Value) (fa:Addr) (o:Obj) (pm cd doc:Value) (a:Addr) (vs:List Value) (ns:List Int),
   Ground q loose [] XP w s₀ mg mb s₁.heap->YP w s₁.heap ->
   s₁.heap.get? fa=some o->o.data=.func (docDef d.name d.params d.body d.scope pm cd doc)->s₁.heap.CodeRec cd d.name->mg d.name=some (.ref fa) ->
   s₁.heap.get? a=some { cls:=.type "list",data:=.seq vs.toArray }->IntsAre vs ns->ns.length<=n->s₁.gens=#[] ->
   codeAny (model l.prog w) callerA (.call (.ref fa) ⟨[.ref a],[]⟩) (fun r s'=>r=.ok (.ret (.bool true))/\OldK s₁.heap s'.heap/\s'.os=s₁.os/\AllBare s'.gens) s₁):
  WalkO q loose XP YP l.row.toRowW d [] (fun f vs=>PySem.call f vs):=by
 intro w s₀ s₁ mg mb G Y fa o pm cd doc dV kV ho hd hcd hD hmg hg args vals as hpre hlay hrd hwl hlo
 obtain rfl:dV=.none:=Dflts.none hD hdf
 obtain rfl:kV=.none:=Dflts.noKw hD
 obtain⟨a,vs,ns,rfl,rfl,hobj,hints,hlen⟩:=Qct hn hpre hwl
 refine enter_call (codeAny_mono (call w s₀ s₁ mg mb fa o pm cd doc a vs ns G Y ho (fd_plain hd) hcd hmg hobj hints hlen hg) fun r s' hq=>?_)
 obtain⟨rfl,h2,h3,h4⟩:=hq
 exact⟨.inl ⟨.bool true,.bool true,[],rfl,fun _=>rfl,.bool true,Qcu l _,fun _=>⟨List.Pairwise.nil,fun _ hm=>(nomatch hm)⟩⟩,h2,h3,h4⟩
end Att
namespace L2
open PySem PySem.Spec PyProof.Rows
theorem Qcv:∀ {vs:List Value}{ns:List Int},IntsAre vs ns->Vals (ns.map V.int) vs
 | _,_,.nil=>.nil
 | _,_,.cons n t h=>.cons ⟨t,rfl⟩ (Qcv h)
def Only (H:Hp):Prop:=∀ b,H b=none\/∃ o xs,H b=some (.frz o (.lst xs))
theorem Qcw {P : Program} {w : World} {K : PySem.W.Frag} {mg mb : Str -> Option Value} {CX : CXT} {k : Nat} {fa a : Addr} {fd : FuncData} {x : Str} {sp : Sp} {s₁ : Shared} {vs : List Value} {ns : List Int}
  (KX:K.In s₁.heap) (hns:s₁.heap.Ns mainGlobals mg) (hb:s₁.heap.Ns builtinsNs mb) (hbb:∀ x:Str,x≠"__name__"->mb x=bootBuiltins x) (hlim:s₁.heap.NoLimit) (hg:s₁.gens=#[])
  (ha:s₁.heap.get? a=some { cls:=.type "list",data:=.seq vs.toArray }) (hi:IntsAre vs ns) (hl:ns.length<=sizeLine) (hr:Room k callerA)
  (F:∀ base:Heap,K.In base->base.Ns mainGlobals mg->FnOk P w K mg base CX k fa fd [x] sp) (hbind:∀ (s:Shared) (u:Value),BindsTo s fd ⟨[u],[]⟩ [(x,u)])
  (hsp:∀ H:Hp,Only H->SqL K H a (ns.map V.int)->sp [.ref a] H (fun v _=>v=.bl true) fun _ _ _=>False)
  (hCX:∀ H e s',CX [] H s₁ (fun _ _ _=>False) e s'->False):
  codeAny (model P w) callerA (.call (.ref fa) ⟨[.ref a],[]⟩) (fun r s'=>r=.ok (.ret (.bool true))/\OldK s₁.heap s'.heap/\s'.os=s₁.os/\AllBare s'.gens) s₁:=by
 have rv:=Qcv hi
 have lenV:=hi.length
 have core : ∀ H : Hp, Only H -> SqL K H a (ns.map V.int) -> HOk P w H s₁.heap -> (∀ b, H b ≠ none -> b = a) -> (H a ≠ none -> K.lookup a = none) ->
   codeAny (model P w) callerA (.call (.ref fa) ⟨[.ref a],[]⟩) (fun r s'=>r=.ok (.ret (.bool true))/\OldK s₁.heap s'.heap/\s'.os=s₁.os/\AllBare s'.gens) s₁:=by
  intro H hO hS hok hA hK
  have base_of:∀ {b:Addr}{o:Obj},s₁.heap.get? b=some o->H b=none->(hidT s₁.heap H).get? b=some o:=fun e n=>Qan e n
  have noA:∀ {b:Addr}{o:Obj}{es:Array DictEntry}{ep:Nat},s₁.heap.get? b=some o->o.data=.dict es ep->H b=none:=fun {b o es ep} e d=>by
   cases q:H b with
   | none=>rfl
   | some u=>
    have e':b=a:=hA b (by rw[q];simp)
    subst e'
    rw[ha]at e;cases e
    have d':Data.seq vs.toArray _=Data.dict es ep:=d
    cases d'
  have nsK:∀ {b:Addr}{m:Str->Option Value},s₁.heap.Ns b m->(hidT s₁.heap H).Ns b m:=fun {b m} pq40=>by obtain⟨o,es,ep,e,d,r⟩:=pq40;exact⟨o,es,ep,base_of e (noA e d),d,r⟩
  have hKb:K.In (hidT s₁.heap H):=fun b o e=>base_of (KX b o e) (by
   cases q:H b with
   | none=>rfl
   | some u=>
    have e':b=a:=hA b (by rw[q];simp)
    subst e'
    rw[hK (by rw[q];simp)]at e;cases e)
  have hM:Mod K mg (hidT s₁.heap H):=⟨hKb,nsK hns,⟨mb,nsK hb,hbb⟩,let ⟨mc,h1,h2⟩:=hlim;⟨mc,nsK h1,h2⟩⟩
  have e0:Env0 P w K mg (hidT s₁.heap H) callerA [] s₁ H:=⟨rfl,hM,fun b o e=>Qao e,Nat.le_of_eq (Qam _ _),trivial,fun b hb=>absurd (show b∈([]:List Addr) from hb) (by simp),hok,.of_eq hg⟩
  refine codeAny_mono ((F _ hKb (nsK hns)).run callerA [] s₁ H ⟨[.ref a],[]⟩ [.ref a] [.ref a] _ _ hr e0 (hbind s₁ (.ref a)) (.cons rfl .nil) (hsp H hO hS)) fun r s' h=>?_
  cases r with
  | error e=>exact (hCX H e s' h).elim
  | ok fl=>
   cases fl with
   | next=>exact False.elim h
   | brk=>exact False.elim h
   | cont=>exact False.elim h
   | ret u=>
    obtain⟨v,H',os,bare,un,hok',r',q⟩:=h
    have q':v=.bl true:=q
    subst q'
    obtain rfl:u=Value.bool true:=r'
    refine⟨rfl,OldK.of_keep fun b o e=>?_,os,bare⟩
    cases q:H b with
    | none=>exact un.keep b o e q (by intro z;exact absurd (show b∈([]:List Addr) from z) (by simp)) (by simp)
    | some u=>
     rcases hO b with z | ⟨ob,xs,z⟩
     ·rw[q]at z;cases z
     ·have z2:=un.frzs b ob _ z
      obtain⟨e1,_⟩:=hok b _ z
      obtain⟨e2,_⟩:=hok' b _ z2
      rw[e]at e1;cases e1
      exact e2
 cases hk:K.lookup a with
 | some o=>
  have e:=KX a o hk
  rw[ha]at e
  cases e
  refine core (fun _=>none) (fun _=>.inl rfl) (.inr ⟨_,vs.toArray,_,hk,rfl,rfl,rfl,by rw[List.size_toArray,lenV];exact hl,by simpa using rv⟩) (fun b u z=>by have z':(none:Option HO)=some u:=z;cases z') (fun b z=>absurd rfl z) fun z=>absurd rfl z
 | none=>
  refine core (fun b=>if b=a then some (.frz { cls:=.type "list",data:=.seq vs.toArray } (.lst (ns.map V.int))) else none) (fun b=>?_) (.inl (.inr ⟨{ cls:=.type "list",data:=.seq vs.toArray },if_pos rfl⟩)) (fun b u z=>?_) (fun b z=>?_) fun _=>hk
  ·by_cases hb:b=a
   ·exact .inr ⟨_,_,if_pos hb⟩
   ·exact .inl (if_neg hb)
  ·by_cases hb:b=a
   ·have z':=(if_pos hb).symm.trans z
    cases z'
    subst hb
    exact⟨ha,by rw[List.length_map];exact hl,vs,_,rv,ha⟩
   ·have z':=(if_neg hb).symm.trans z
    cases z'
  ·by_cases hb:b=a
   ·exact hb
   ·exact absurd (if_neg hb) z
theorem walk_of {l : PySem.W.OpenLaw} {n k : Nat} {q : Program} {loose : List Str} {XP : (Str -> Option Value) -> Heap -> Prop} {YP : World -> Heap -> Prop} {d : DefRec} {K : Params -> PySem.W.Frag} {CX : World -> CXT} {sp : World -> Sp} {x : Str}
  (hn:l.most=some n) (hn2:n<=sizeLine) (hdf:d.params.defaults=[]) (hr:Room k callerA)
  (hY:∀ (w:World) (h:Heap),YP w h->(K w.params).In h)
  (F:∀ (w:World) (mg:Str->Option Value) (fa:Addr) (h:Heap),(K w.params).In h->h.Ns mainGlobals mg->mg d.name=some (.ref fa) ->
   ∃ fd:FuncData,(∀ (s:Shared) (u:Value),BindsTo s fd ⟨[u],[]⟩ [(x,u)]) /\
    ∀ base:Heap,(K w.params).In base->base.Ns mainGlobals mg->FnOk l.prog w (K w.params) mg base (CX w) k fa fd [x] (sp w))
  (hsp:∀ (w:World) (H:Hp) (a:Addr) (ns:List Int),ns.length<=n->Only H->SqL (K w.params) H a (ns.map V.int)->sp w [.ref a] H (fun v _=>v=.bl true) fun _ _ _=>False)
  (hCX:∀ (w:World) (H:Hp) (s:Shared) (e:Value) (s':Shared),CX w [] H s (fun _ _ _=>False) e s'->False):
  PySem.W.WalkO q loose XP YP l.row.toRowW d [] (fun f vs=>PySem.call f vs):=by
 refine Att.attach_call hn hdf fun w s₀ s₁ mg mb fa o pm cd doc a vs ns G Y ho hd hcd hmg hobj hints hlen hg=>?_
 have KX:=hY w _ Y
 obtain⟨fd,hb,hF⟩:=F w mg fa _ KX G.T.g hmg
 exact Qcw KX G.T.g G.T.b G.T.builtins G.T.nolimit hg hobj hints (Nat.le_trans hlen hn2) hr hF hb (fun H hO hS=>hsp w H a ns hlen hO hS) fun H e s'=>hCX w H s₁ e s'
theorem walk_ofK {l : PySem.W.OpenLaw} {n k : Nat} {q : Program} {loose : List Str} {XP : (Str -> Option Value) -> Heap -> Prop} {YP : World -> Heap -> Prop} {d : DefRec} {K : Params -> PySem.W.Frag} {CX : CXT} {sp : PySem.W.Frag -> Sp} {x : Str}
  (hn:l.most=some n) (hn2:n<=sizeLine) (hdf:d.params.defaults=[]) (hr:Room k callerA)
  (hY:∀ (w:World) (h:Heap),YP w h->(K w.params).In h)
  (F:∀ (w:World) (mg:Str->Option Value) (fa:Addr) (h:Heap),(K w.params).In h->h.Ns mainGlobals mg->mg d.name=some (.ref fa) ->
   ∃ fd:FuncData,(∀ (s:Shared) (u:Value),BindsTo s fd ⟨[u],[]⟩ [(x,u)]) /\
    ∀ base:Heap,(K w.params).In base->base.Ns mainGlobals mg->FnOk l.prog w (K w.params) mg base CX k fa fd [x] (sp (K w.params)))
  (hsp:∀ (K:PySem.W.Frag) (H:Hp) (a:Addr) (ns:List Int),ns.length<=n->Only H->SqL K H a (ns.map V.int)->sp K [.ref a] H (fun v _=>v=.bl true) fun _ _ _=>False)
  (hCX:∀ (H:Hp) (s:Shared) (e:Value) (s':Shared),CX [] H s (fun _ _ _=>False) e s'->False):
  PySem.W.WalkO q loose XP YP l.row.toRowW d [] (fun f vs=>PySem.call f vs):=
 walk_of (K:=K) (CX:=fun _=>CX) (sp:=fun w=>sp (K w.params)) hn hn2 hdf hr hY F (fun w H a ns h1 h2 h3=>hsp (K w.params) H a ns h1 h2 h3) fun _ H s e s'=>hCX H s e s'
def defArgs (s:Stmt):Arguments:=match s with
 | .FunctionDef _ a _ _ _ _ _ _ _ _=>a
 | _=>{ posonlyargs:=[],args:=[],vararg:=none,kwonlyargs:=[],kw_defaults:=[],kwarg:=none,defaults:=[] }
def defBody (s:Stmt):List Stmt:=match s with
 | .FunctionDef _ _ b _ _ _ _ _ _ _=>b
 | _=>[]
def defScope (s:Stmt):Scope:=match s with
 | .FunctionDef _ _ _ _ _ _ sc _ _ _=>sc
 | _=>{ kind:=.function,names:=[],isGenerator:=false,isCoroutine:=false }
abbrev CX0:CXT:=fun _ _ _ _ _ _=>False
abbrev E0:XK:=fun _ _ _=>False
theorem Qcx {X:Cx}:Passes CX0 X E0:=fun _ _ _ _ _ _ _ h=>h.elim
structure Fun (K:PySem.W.Frag) (x qual:Str) (st:Stmt) (f:Addr) (fd:FuncData):Prop where
 ex:∃ (oc:Value) (od:Option Addr) (kV doc pm:Value) (an:Option Addr) (cdv ct:Value) (osl:Array (Option Value)),
  fd=PySem.W.fnOf x qual (defArgs st) (defBody st) (defScope st) .none kV doc pm an cdv ct/\K.lookup f=some ⟨oc,od,.func fd,osl⟩/\PySem.W.codeIn K cdv qual=true
 kp:PySem.W.keepIn K (.ref f)=true
section
variable {P:Program}{w:World}{K:PySem.W.Frag}{mg:Str->Option Value}{base:Heap}
theorem Fun.ok {x qual : Str} {st : Stmt} {f : Addr} {fd : FuncData} {N ps : List Str} {k : Nat} {sp : Sp} (F : Fun K x qual st f fd) (S : FnScope N ps (defScope st)) (len : ∀ vs H Q E, sp vs H Q E -> vs.length = ps.length)
  (hbody:∀ (cdv:Value) (A:Around) (outer:List Env) (s:Shared) (H:Hp) (vs:List V) (Q:VK) (E:XK),Room k (A.deeper (envOfC qual (defScope st) s.heap.objs.size f cdv))->sp vs H Q E ->
   ∃ t,PSs (cxOf CX0 P w K mg base N qual (defScope st) f cdv A outer s H E).nox (defBody st) t/\t { nx:=fun _ H'=>Q .non H',rt:=Q } (start N vs) H):FnOk P w K mg base CX0 (k + 1) f fd ps sp:=by
 obtain⟨oc,od,kV,doc,pm,an,cdv,ct,osl,rfl,lk,hcd⟩:=F.ex
 refine QbS lk hcd S len fun A outer s H vs Q E hr hsp=>?_
 obtain⟨t,h,q⟩:=hbody cdv A outer s H vs Q E hr hsp
 exact⟨t,h.nox,q⟩
theorem Fun.binds {x qual : Str} {st : Stmt} {f : Addr} {fd : FuncData} {ps : List Str} (F : Fun K x qual st f fd)
  (h:∀ (kV doc pm:Value) (an:Option Addr) (cdv ct:Value) (us:List Value),us.length=ps.length->bindArgs (PySem.W.fnOf x qual (defArgs st) (defBody st) (defScope st) .none kV doc pm an cdv ct) ⟨us,[]⟩=pure (ps.zip us)):Binds K fd ps []:=by
 obtain⟨oc,od,kV,doc,pm,an,cdv,ct,osl,rfl,lk,hcd⟩:=F.ex
 exact .all (h kV doc pm an cdv ct)
theorem Qcy {x qual : Str} {st : Stmt} {f : Addr} {oc : Value} {od an : Option Addr} {osl : Array (Option Value)} {kV doc pm cdv ct : Value} (l : K.lookup f = some ⟨oc, od, .func (PySem.W.fnOf x qual (defArgs st) (defBody st) (defScope st) .none kV doc pm an cdv ct), osl⟩)
  (c:PySem.W.codeIn K cdv qual=true) (k:PySem.W.keepIn K (.ref f)=true):Fun K x qual st f (PySem.W.fnOf x qual (defArgs st) (defBody st) (defScope st) .none kV doc pm an cdv ct):=⟨⟨oc,od,kV,doc,pm,an,cdv,ct,osl,rfl,l,c⟩,k⟩
end
section
variable {X:Cx}
theorem pv (i : Nat) {x : Str} {pos : Pos} (hN : X.N[i]? = some x := by rfl) (hv : Vis X.env.scope x := by first | exact Or.inl rfl | exact Or.inr (Or.inl rfl) | exact Or.inr (Or.inr rfl)) (hd : (x == ("__debug__" : Str)) = false := by decide)
  (hcd:(x == ("__classdict__":Str))=false:=by decide):PE X (.Name x pos) (tVar i):=Qas hN hv hd hcd
end
section
variable {κ:Type} [DecidableEq κ]
def valV (kvs:List (κ × V)) (k:κ):Option V:=(kvs.find? fun kv=>decide (kv.1=k)).map (·.2)
def putK (kvs:List (κ × V)) (k:κ) (v:V):List (κ × V):=
 if (kvs.any fun kv=>decide (kv.1=k))=true then kvs.map (fun kv=>if kv.1=k then (kv.1,v) else kv) else kvs++[(k,v)]
theorem Qcz {p:κ × V}{r:List (κ × V)}{k:κ} (e:p.1=k):valV (p::r) k=some p.2:=by simp[valV,List.find?_cons,e]
theorem QcA {p:κ × V}{r:List (κ × V)}{k:κ} (e:¬ p.1=k):valV (p::r) k=valV r k:=by simp[valV,List.find?_cons,e]
theorem QcB (k:κ):∀ kvs:List (κ × V),(kvs.any fun kv=>decide (kv.1=k))=(valV kvs k).isSome
 | []=>rfl
 | p::r=>by
  rw[List.any_cons]
  by_cases e:p.1=k
  ·simp only[Qcz e,decide_eq_true e,Bool.true_or,Option.isSome_some]
  ·rw[QcA e,decide_eq_false e,Bool.false_or];exact QcB k r
theorem QcC (kvs:List (κ × V)) (k:κ) (v:V):(putK kvs k v).length<=kvs.length + 1:=by
 unfold putK
 split
 ·rw[List.length_map];ac_nf
 ·rw[List.length_append,List.length_cons,List.length_nil];ac_nf
theorem RelO.isSome_eq {o:Option V}{u:Option Value} (r:RelO o u):o.isSome=u.isSome:=by
 cases o with
 | none=>cases u with
  | none=>rfl
  | some _=>exact (show False from r).elim
 | some _=>cases u with
  | none=>exact (show False from r).elim
  | some _=>rfl
theorem KV.val {kvs:List (κ × V)}{vs:List (κ × Value)} (r:KV kvs vs) (k:κ):RelO (valV kvs k) (valueAt vs k):=by
 unfold KV at r
 induction r with
 | nil=>exact True.intro
 | @cons p q ps qs h t ih=>
  obtain⟨h1,h2⟩:=h
  by_cases e:p.1=k
  ·have e':q.1=k:=h1.symm.trans e
   have b:valueAt (q::qs) k=some q.2:=by simp[valueAt,List.find?_cons,e']
   rw[Qcz e,b];exact h2
  ·have e':¬ q.1=k:=fun z=>e (h1.trans z)
   have b:valueAt (q::qs) k=valueAt qs k:=by simp[valueAt,List.find?_cons,e']
   rw[QcA e,b];exact ih
theorem KV.any {kvs:List (κ × V)}{vs:List (κ × Value)} (r:KV kvs vs) (k:κ):(kvs.any fun kv=>decide (kv.1=k))=vs.any fun kv=>decide (kv.1=k):=by
 unfold KV at r
 induction r with
 | nil=>rfl
 | cons h t ih=>rw[List.any_cons,List.any_cons,ih,h.1]
theorem KV.repl {kvs : List (κ × V)} {vs : List (κ × Value)} (r : KV kvs vs) (k : κ) {y : V} {u : Value} (ry : RelV y u) :
  KV (kvs.map fun kv=>if kv.1=k then (kv.1,y) else kv) (vs.map fun kv=>if kv.1=k then (kv.1,u) else kv):=by
 unfold KV at r ⊢
 induction r with
 | nil=>exact .nil
 | @cons p q ps qs h t ih=>
  rw[List.map_cons,List.map_cons]
  refine .cons ?_ ih
  obtain⟨h1,h2⟩:=h
  by_cases e:p.1=k
  ·rw[if_pos e,if_pos (h1.symm.trans e)];exact⟨h1,ry⟩
  ·rw[if_neg e,if_neg (fun z=>e (h1.trans z))];exact⟨h1,h2⟩
theorem KV.put {kvs:List (κ × V)}{vs:List (κ × Value)} (r:KV kvs vs) (k:κ) {y:V}{u:Value} (ry:RelV y u):KV (putK kvs k y) (stored vs k u):=by
 unfold putK stored
 rw[r.any k]
 by_cases e:(vs.any fun kv=>decide (kv.1=k))=true
 ·rw[if_pos e,if_pos e];exact r.repl k ry
 ·rw[if_neg e,if_neg e];exact Paired.snoc r ⟨rfl,ry⟩
theorem KV.length {kvs:List (κ × V)}{vs:List (κ × Value)} (r:KV kvs vs):kvs.length=vs.length:=Paired.length r
end
theorem QcD {P:Program}{w:World}{k:Key}{u:Value} (r:RelV (kV k) u):(mixKind P w).is k u=true:=by
 cases k with
 | inl i=>obtain⟨t,e⟩:=(show ∃ t,u=Value.int i t from r);subst e;exact Qag P w i t
 | inr x=>obtain⟨t,e⟩:=(show ∃ t,u=Value.str x t from r);subst e;exact Qah P w x t
theorem QcE {P:Program}{w:World}:∀ {ks:List Key}{us:List Value},Vals (ks.map kV) us->ItemsAre (mixKind P w) ks us
 | [],_,r=>by rw[List.map_nil]at r;cases r;exact .nil
 | k::ks,_,r=>by
  rw[List.map_cons]at r
  cases r with
  | cons h t=>exact .cons (QcD h) (QcE t)
abbrev KT (H:Hp):List (List Key × V)->List (List Key × Addr × Value)->Prop:=Paired fun p q=>p.1=q.1/\H q.2.1=some (.tup (p.1.map kV))/\RelV p.2 q.2.2
theorem KT.val {H:Hp}{kvs:List (List Key × V)}{xs:List (List Key × Addr × Value)} (r:KT H kvs xs) (k:List Key):RelO (valV kvs k) ((atKey xs k).map (·.2)):=by
 induction r with
 | nil=>exact True.intro
 | @cons p q ps qs h t ih=>
  obtain⟨h1,_,h2⟩:=h
  by_cases e:p.1=k
  ·have e':q.1=k:=h1.symm.trans e
   have b:atKey (q::qs) k=some q.2:=by simp[atKey,List.find?_cons,e']
   rw[Qcz e,b];exact h2
  ·have e':¬ q.1=k:=fun z=>e (h1.trans z)
   have b:atKey (q::qs) k=atKey qs k:=by simp[atKey,List.find?_cons,e']
   rw[QcA e,b];exact ih
theorem KT.repl {H : Hp} {kvs : List (List Key × V)} {xs : List (List Key × Addr × Value)} (r : KT H kvs xs) (k : List Key) {y : V} {u : Value} (ry : RelV y u) :
  KT H (kvs.map fun kv=>if kv.1=k then (kv.1,y) else kv) (xs.map (putAt k u)):=by
 induction r with
 | nil=>exact .nil
 | @cons p q ps qs h t ih=>
  rw[List.map_cons,List.map_cons]
  refine .cons ?_ ih
  obtain⟨h1,h2,h3⟩:=h
  unfold putAt
  by_cases e:p.1=k
  ·rw[if_pos e,if_pos (h1.symm.trans e)];exact⟨h1,h2,ry⟩
  ·rw[if_neg e,if_neg (fun z=>e (h1.trans z))];exact⟨h1,h2,h3⟩
theorem KT.put {H : Hp} {kvs : List (List Key × V)} {xs : List (List Key × Addr × Value)} (r : KT H kvs xs) (k : List Key) {b : Addr} {y : V} {u : Value} (hb : H b = some (.tup (k.map kV))) (ry : RelV y u) :
  KT H (putK kvs k y) (storedH xs k b u):=by
 have e:(kvs.any fun kv=>decide (kv.1=k))=(atKey xs k).isSome:=by
  rw[QcB,(r.val k).isSome_eq,Option.isSome_map]
 unfold putK storedH
 rw[e]
 by_cases q:(atKey xs k).isSome=true
 ·rw[if_pos q,if_pos q];exact r.repl k ry
 ·rw[if_neg q,if_neg q];exact Paired.snoc r ⟨rfl,hb,ry⟩
theorem KT.keeps {H H':Hp}{kvs:List (List Key × V)}{xs:List (List Key × Addr × Value)} (r:KT H kvs xs) (ht:∀ b ys,H b=some (.tup ys)->H' b=some (.tup ys)):KT H' kvs xs:=
 Paired.mapP r fun _ _ z=>⟨z.1,ht _ _ z.2.1,z.2.2⟩
section
variable {P:Program}{w:World}{H:Hp}{h:Heap}{a:Addr}
theorem QcF {u:HO} (ok:HOk P w H h) (e:Rd H a u):ObjOk P w H h a u:=e.ok ok
theorem QcG {kvs:List (Key × V)} (ok:HOk P w H h) (e:Rd H a (.dK kvs)):kvs.length<=sizeLine/\(a == sysModules)=false/\∃ vs,KV kvs vs/\h.DictOf (mixKind P w) a vs:=
 show ObjOk P w H h a (.dK kvs) from QcF ok e
theorem QcH {kvs:List (Key × V)} (ok:HOk P w H h) (e:H a=some (.dK kvs)):kvs.length<=sizeLine/\(a == sysModules)=false/\∃ vs,KV kvs vs/\h.DictOf (mixKind P w) a vs:=QcG ok (.inl e)
theorem QcI {ks:List Key} (ok:HOk P w H h) (e:H a=some (.tup (ks.map kV))):(tupleKind (mixKind P w)).is h ks a:=by
 obtain⟨_,its,r,o,h1,h2,⟨n,h3⟩,_⟩:=(show ObjOk P w H h a (.tup (ks.map kV)) from ok a _ e)
 exact⟨o,its.toArray,n,h1,h2,h3,by simpa using QcE r⟩
theorem QcJ {kvs : List (List Key × V)} (ok : HOk P w H h) (e : Rd H a (.dT kvs)) : kvs.length <= sizeLine /\ (a == sysModules) = false /\
  ∃ xs,KT H kvs xs/\h.DictOfH (tupleKind (mixKind P w)) a xs:=by
 obtain⟨z,y,xs,r,o,es,ep,h1,h2,h3,h4,h5⟩:=(show ObjOk P w H h a (.dT kvs) from QcF ok e)
 refine⟨z,y,xs,r,o,es,ep,h1,h2,h3,h4,fun x hx=>?_,h5⟩
 have all:∀ {l:List (List Key × V)}{m:List (List Key × Addr × Value)},KT H l m->∀ x∈m,(tupleKind (mixKind P w)).is h x.1 x.2.1:=by
  intro l m q
  induction q with
  | nil=>intro x hx;exact nomatch hx
  | @cons p q ps qs hq t ih=>
   intro x hx
   rcases List.mem_cons.mp hx with e | hx
   ·subst e
    exact QcI ok (by rw[<- hq.1];exact hq.2.1)
   ·exact ih x hx
 exact all r x hx
theorem QcK {kvs : List (List Key × V)} (ok : HOk P w H h) (e : H a = some (.dT kvs)) : kvs.length <= sizeLine /\ (a == sysModules) = false /\
  ∃ xs,KT H kvs xs/\h.DictOfH (tupleKind (mixKind P w)) a xs:=QcJ ok (.inl e)
end
def DGet (H:Hp) (a:Addr) (y:V) (r:Option V):Prop:=
 (∃ kvs k,Rd H a (.dK kvs)/\y=kV k/\r=valV kvs k)\/∃ kvs k b,Rd H a (.dT kvs)/\y=.ref b/\H b=some (.tup (k.map kV))/\r=valV kvs k
def DPut (H:Hp) (a:Addr) (y v:V) (H':Hp):Prop:=
 (∃ kvs k,H a=some (.dK kvs)/\y=kV k/\kvs.length < sizeLine/\H'=upd H a (.dK (putK kvs k v))) \/
 ∃ kvs k b,H a=some (.dT kvs)/\y=.ref b/\H b=some (.tup (k.map kV))/\kvs.length < sizeLine/\H'=upd H a (.dT (putK kvs k v))
theorem DGet.k {H:Hp}{a:Addr}{kvs:List (Key × V)}{k:Key} (e:H a=some (.dK kvs)):DGet H a (kV k) (valV kvs k):=.inl ⟨kvs,k,.inl e,rfl,rfl⟩
theorem DPut.k {H:Hp}{a:Addr}{kvs:List (Key × V)}{k:Key}{v:V} (e:H a=some (.dK kvs)) (hl:kvs.length < sizeLine):DPut H a (kV k) v (upd H a (.dK (putK kvs k v))):=.inl ⟨kvs,k,e,rfl,hl,rfl⟩
section
variable {X:Cx}{pins:List (Addr × Obj)}{σ:St}{H:Hp}{s:Shared}{a:Addr}{y v:V}{u r:Value}{o:Option V}{A:Around}{E:Value->Shared->Prop}
theorem QcL {Q : Value -> Shared -> Prop} (hu : A.units + 1 < cLine) (I : Inv X pins σ H s) (g : DGet H a y (some v)) (ry : RelV y u) (h : ∀ w' s', Inv X pins σ H s' -> RelV v w' -> Q w' s') :
  wpAny (model X.prog X.w) A (getItem (.ref a) u) Q E s:=by
 rcases g with ⟨kvs,k,e,ey,l⟩ | ⟨kvs,k,b,e,ey,eb,l⟩
 ·subst ey
  obtain⟨z,hd,vs,rel,dd⟩:=QcG I.hok e
  obtain⟨w',hw,rw'⟩:=RelO.some_of (v:=v) (o:=valueAt vs k) (by rw[l];exact rel.val k)
  exact wpAny_getItem_of (QcD ry) dd.mapOf hw (h w' _ (I.tok _) rw')
 ·subst ey
  cases (show u=Value.ref b from ry)
  obtain⟨z,hd,xs,rel,dd⟩:=QcJ I.hok e
  obtain⟨w',hw,rw'⟩:=RelO.some_of (v:=v) (o:=(atKey xs k).map (·.2)) (by rw[l];exact rel.val k)
  obtain⟨p,hp,hp2⟩:=Option.map_eq_some_iff.mp hw
  refine wpAny_getItem_heap (tupleKind_room_in1 hu) (QcI I.hok eb) dd hp ?_
  rw[hp2]
  exact h w' _ (I.tok _) rw'
theorem d_in {Q : Value -> Shared -> Prop} (hu : A.units + 1 < cLine) (I : Inv X pins σ H s) (g : DGet H a y o) (ry : RelV y u) (h : ∀ s', Inv X pins σ H s' -> Q (.bool o.isSome) s') :
  wpAny (model X.prog X.w) A (compareOp .In u (.ref a)) Q E s:=by
 rcases g with ⟨kvs,k,e,ey,l⟩ | ⟨kvs,k,b,e,ey,eb,l⟩
 ·subst ey
  obtain⟨z,hd,vs,rel,dd⟩:=QcG I.hok e
  refine wpAny_in_of (QcD ry) hd dd.mapOf ?_
  rw[<- (rel.val k).isSome_eq,<- l]
  exact h _ (I.tok _)
 ·subst ey
  cases (show u=Value.ref b from ry)
  obtain⟨z,hd,xs,rel,dd⟩:=QcJ I.hok e
  refine wpAny_in_heap (tupleKind_room_in1 hu) (QcI I.hok eb) hd dd ?_
  have q:=(rel.val k).isSome_eq
  rw[Option.isSome_map]at q
  rw[<- q,<- l]
  exact h _ (I.tok _)
theorem QcM {h' : Heap} {t' : Nat} {ob : HO} (I : Inv X pins σ H s) (mu : Mut (H a)) (hs : Heap.SameBut a s.heap h') (he : ∃ q, h'.get? a = some q) (new : ObjOk X.prog X.w (upd H a ob) h' a ob) :
  Inv X pins σ (upd H a ob) { s with heap:=h',toks:=t' }:=
 I.write (x:=a) (e:=a) mu (.inl rfl) (fun b q hb z=>(hs.2 b hb).trans z) he new
theorem QcN {P : Program} {w : World} {H' : Hp} {h' : Heap} {kvs : List (Key × V)} {vs : List (Key × Value)} (z : kvs.length <= sizeLine) (hd : (a == sysModules) = false) (rel : KV kvs vs) (dd : h'.DictOf (mixKind P w) a vs) :
  ObjOk P w H' h' a (.dK kvs):=⟨z,hd,vs,rel,dd⟩
theorem QcO {H' : Hp} {Q : Unit -> Shared -> Prop} (hu : A.units + 1 < cLine) (I : Inv X pins σ H s) (g : DPut H a y v H') (ry : RelV y u) (rv : RelV v r) (h : ∀ s', Inv X pins σ H' s' -> Q () s') :
  wpAny (model X.prog X.w) A (setItem (.ref a) u r) Q E s:=by
 rcases g with ⟨kvs,k,e,ey,l,eH⟩ | ⟨kvs,k,b,e,ey,eb,l,eH⟩
 ·subst ey eH
  obtain⟨z,hd,vs,rel,dd⟩:=QcH I.hok e
  have hz:vs.length<=sizeLine:=by rw[<- rel.length];exact z
  have hl:(putK kvs k v).length<=sizeLine:=by have:=QcC kvs k v;ac_nf
  refine wpAny_setItem_pairs (hsz:=hz) (QcD ry) dd fun h' dd' hs=>h _ ?_
  have he:∃ q,h'.get? a=some q:=let ⟨q,_,_,hq,_⟩:=dd';⟨q,hq⟩
  exact QcM I (by rw[e];exact True.intro) hs he (QcN hl hd (rel.put k rv) dd')
 ·subst ey eH
  cases (show u=Value.ref b from ry)
  obtain⟨z,hd,xs,rel,dd⟩:=QcK I.hok e
  have hz:xs.length<=sizeLine:=by rw[<- Paired.length rel];exact z
  have hl:(putK kvs k v).length<=sizeLine:=by have:=QcC kvs k v;ac_nf
  refine wpAny_setItem_heap (hsz:=hz) (tupleKind_room_in1 hu) (QcI I.hok eb) dd fun h' dd' hs=>h _ ?_
  obtain⟨q,es,ep,hq,h2,h3,h4,_,h5⟩:=dd'
  refine QcM I (by rw[e];exact True.intro) hs ⟨q,hq⟩ ⟨hl,hd,_,(rel.put k eb rv).keeps fun c ys ec=>?_,q,es,ep,hq,h2,h3,h4,h5⟩
  rw[Qaj (Qak ec e (fun z=>nomatch z))]
  exact ec
end
section
variable {X:Cx}{pins:List (Addr × Obj)}{σ:St}{H:Hp}{s:Shared}{a:Addr}{kvs:List (Key × V)}{k:Key}{u:Value}{A:Around}{E:Value->Shared->Prop}
theorem QcP {Q:Value->Shared->Prop} (I:Inv X pins σ H s) (e:Rd H a (.dK kvs)) (h:∀ t s',Inv X pins σ H s'->Q (.int kvs.length t) s'):wpAny (model X.prog X.w) A (call (.builtin "len") [.ref a]) Q E s:=by
 obtain⟨z,hd,vs,rel,dd⟩:=QcG I.hok e
 refine call_len_dict hd dd (by rw[<- rel.length];rw[sizeLine_eq]at z;ac_nf) ?_
 rw[<- rel.length]
 exact h _ _ (I.tok _)
end
structure M1 (X:Cx) (o:Expr) (m:Str) (apos:Pos) (e:Expr) (cpos:Pos):Prop where
 base:attributeBase o m X.env (eval o X.env)=eval o X.env
 few:((backTo cpos (starEach [e] X.env)).all (fun x => !x.1) && (backToKw cpos (keywordEach [] X.env)).all (fun x=>x.1.isSome)
  && decide (([e]:List Expr).length + ([]:List Keyword).length + (if ([]:List Keyword).isEmpty then 0 else 1) < 30))=true
 line:(apos.endLine == cpos.line)=true
 trees:backTo cpos (starEach [e] X.env)=[(false,eval e X.env)]
structure M2 (X:Cx) (o:Expr) (m:Str) (apos:Pos) (e f:Expr) (cpos:Pos):Prop where
 base:attributeBase o m X.env (eval o X.env)=eval o X.env
 few:((backTo cpos (starEach [e,f] X.env)).all (fun x => !x.1) && (backToKw cpos (keywordEach [] X.env)).all (fun x=>x.1.isSome)
  && decide (([e,f]:List Expr).length + ([]:List Keyword).length + (if ([]:List Keyword).isEmpty then 0 else 1) < 30))=true
 line:(apos.endLine == cpos.line)=true
 trees:backTo cpos (starEach [e,f] X.env)=[(false,eval e X.env),(false,eval f X.env)]
end L2
namespace MM
open PySem PySem.Spec PyProof.Rows L2
abbrev KI:=Int ⊕ List Int
section
variable {prog:Program}{w:World}
variable (prog w) in
inductive TIt (h:Heap):KI->Value->Prop
 | one (i:Int) (t:Tok):TIt h (.inl i) (.int i t)
 | row {k:List Int}{b:Addr}:IsTupleKey (intKind prog w) h k b->TIt h (.inr k) (.ref b)
variable (prog w) in
inductive TIts (h:Heap):List KI->List Value->Prop
 | nil:TIts h [] []
 | cons {k:KI}{v:Value}{ks:List KI}{vs:List Value}:TIt prog w h k v->TIts h ks vs->TIts h (k::ks) (v::vs)
variable (prog w) in
def IsNestKey (h:Heap) (ks:List KI) (a:Addr):Prop:=∃ o items n,h.get? a=some o/\o.cls=.type "tuple"/\o.data=.seq items n/\TIts prog w h ks items.toList
theorem TIt.inj {h:Heap}{x y:KI}{v:Value} (a:TIt prog w h x v) (b:TIt prog w h y v):x=y:=by
 cases a with
 | one i t=>cases b;rfl
 | row a=>cases b with
  | row b=>rw[a.inj b]
theorem TIts.inj {h:Heap}{x y:List KI}{vs:List Value} (a:TIts prog w h x vs) (b:TIts prog w h y vs):x=y:=by
 induction a generalizing y with
 | nil=>cases b;rfl
 | cons a t ih=>cases b with
  | cons b u=>rw[a.inj b,ih u]
theorem IsNestKey.typeIs {s:Shared}{ks:List KI}{a:Addr} (x:IsNestKey prog w s.heap ks a):s.TypeIs (.ref a) "tuple":=let ⟨o,_,_,ho,hc,_⟩:=x;⟨o,ho,hc⟩
theorem IsNestKey.inj {h:Heap}{a:Addr}{x y:List KI} (hx:IsNestKey prog w h x a) (hy:IsNestKey prog w h y a):x=y:=by
 obtain⟨o,items,n,ho,_,hd,hi⟩:=hx
 obtain⟨o',items',n',ho',_,hd',hi'⟩:=hy
 cases ho.symm.trans ho'
 rw[hd]at hd'
 injection hd' with h1 _
 subst h1
 exact hi.inj hi'
theorem TIt.keeps {h h':Heap}{d:Addr}{o:Obj}{es ep} (ho:h.get? d=some o) (hd:o.data=.dict es ep) (hs:Heap.SameBut d h h'):∀ {x:KI}{v:Value},TIt prog w h x v->TIt prog w h' x v
 | _,_,.one i t=>.one i t
 | _,_,.row a=>.row (a.keeps ho hd hs)
theorem TIts.keeps {h h':Heap}{d:Addr}{o:Obj}{es ep} (ho:h.get? d=some o) (hd:o.data=.dict es ep) (hs:Heap.SameBut d h h'):∀ {x:List KI}{vs:List Value},TIts prog w h x vs->TIts prog w h' x vs
 | _,_,.nil=>.nil
 | _,_,.cons a t=>.cons (a.keeps ho hd hs) (TIts.keeps ho hd hs t)
theorem IsNestKey.keeps {h h' : Heap} {ks : List KI} {a d : Addr} {o : Obj} {es ep} (x : IsNestKey prog w h ks a) (ho : h.get? d = some o) (hd : o.data = .dict es ep) (hs : Heap.SameBut d h h') :
  IsNestKey prog w h' ks a:=by
 obtain⟨o',items,n,ho',hc,hd',hi⟩:=x
 have hne:a≠d:=by
  rintro rfl
  obtain rfl:o'=o:=Option.some.inj (ho'.symm.trans ho)
  rw[hd]at hd';exact nomatch hd'
 exact⟨o',items,n,(hs.2 a hne).trans ho',hc,hd',hi.keeps ho hd hs⟩
def itH:KI->Int
 | .inl i=>hashInt i
 | .inr r=>reduceHash (Builtin.Tuple.tupleHashOf (r.map hashInt))
def nestHash (ks:List KI):Int:=reduceHash (Builtin.Tuple.tupleHashOf (ks.map itH))
def itN:KI->Nat
 | .inl _=>1
 | .inr r=>r.length + 1
def nestDraws:List KI->Nat
 | []=>0
 | k::ks=>itN k + nestDraws ks
variable {A:Around}{E:Value->Shared->Prop}{s:Shared}
theorem QcQ (k:KI):∀ (l:List KI),nestDraws (l++[k])=nestDraws l + itN k
 | []=>by simp[nestDraws]
 | x::l=>by simp[nestDraws,QcQ k l];ac_nf
theorem QcR {k:KI}{v:Value}{Q:Int->Shared->Prop} (hu:A.units < cLine) (hk:TIt prog w s.heap k v) (h:Q (itH k) { s with toks:=s.toks + itN k }):wpAny (model prog w) A (pyHash v) Q E s:=by
 cases hk with
 | one i t=>exact wpAny_pyHash_int h
 | row hk=>exact wpAny_pyHash_tuple (knd:=intKind prog w) hu hk h
theorem QcS {x y:KI}{u v:Value}{Q:Bool->Shared->Prop} (hu:A.units < cLine) (hx:TIt prog w s.heap x u) (hy:TIt prog w s.heap y v) (h:Q (decide (x=y)) s):wpAny (model prog w) A (eqBool u v) Q E s:=by
 cases hx with
 | one i t=>
  cases hy with
  | one j t'=>
   refine wpAny_eqBool_int ?_
   have e:(i == j)=decide ((Sum.inl i:KI)=Sum.inl j):=by
    by_cases z:i=j
    ·subst z;simp
    ·have z2:¬ ((Sum.inl i:KI)=Sum.inl j):=fun q=>z (by injection q)
     rw[decide_eq_false z2];exact beq_eq_false_iff_ne.mpr z
   first | (rw[e];exact h) | (simpa [e] using h)
  | row h2=>
   obtain⟨o,items,n,ho,hc,hd,_⟩:=h2
   rw[decide_eq_false (by simp)]at h
   exact SeqAt.EqAt.int_tuple i t ⟨o,ho,hc,n,hd⟩ hu prog w E Q h
 | row h1=>
  cases hy with
  | one j t'=>
   obtain⟨o,items,n,ho,hc,hd,_⟩:=h1
   rw[decide_eq_false (by simp)]at h
   exact SeqAt.EqAt.tuple_int j t' ⟨o,ho,hc,n,hd⟩ hu prog w E Q h
  | @row k2 b h2=>
   refine wpAny_eqBool_tuple (knd:=intKind prog w) hu h1 h2 ?_
   simpa using h
theorem QcT {ks : List KI} {a : Addr} {Q : Int -> Shared -> Prop} (hu : A.units + 1 < cLine) (hk : IsNestKey prog w s.heap ks a) (h : Q (nestHash ks) { s with toks := s.toks + (nestDraws ks + 1) }) :
  wpAny (model prog w) A (pyHash (.ref a)) Q E s:=by
 have hT:=hk.typeIs
 obtain⟨o,items,n,ho,_,hd,hi⟩:=hk
 unfold pyHash
 first | unfold pyHashByItsType | skip
 first | refine wpAny_bind (wpAny_cRoomFor_or (.inr (by ac_nf)) ?_) | skip
 refine wpAny_bind (wpAny_specialOf hT F.slot_tuple_hash.lookup ?_)
 show wpAny _ _ (if (some (Value.builtin "tuple.__hash__") == some Value.none)=true then _ else _) Q E s
 rw[if_neg (by rw[beq_builtin_none];exact Bool.false_ne_true)]
 refine wpAny_bind (wpAny_specialOf hT F.slot_tuple_hash.lookup ?_)
 show wpAny _ _ (callSpecialIfBoundUnlessNone? (.ref a) "__hash__" _ >>= _) Q E s
 refine wpAny_bind (wpAny_callSpecialIfBoundUnlessNone?_slot hT F.slot_tuple_hash (wpAny_call_entry F.slot_tuple_hash hT F.entry_tuple_hash ?_ (F.args_tuple_hash_1 _)))
 show wpAny _ _ (Builtin.Tuple.tupleItemsOf (.ref a) >>= _) _ _ s
 refine wpAny_bind (wpAny_tupleItemsOf ho hd ?_)
 refine wpAny_bind ?_
 rw[<- Array.forIn_toList]
 refine wpAny_forIn_list _
  (fun rest (b:Array Int) s'=>∃ done left,ks=done++left/\TIts prog w s.heap left rest/\b.toList=done.map (itH)/\s'={ s with toks:=s.toks + nestDraws done })
  _ ?_ ?_ _ _ ⟨[],ks,rfl,hi,rfl,rfl⟩
 ·rintro x rest b s' ⟨done,left,rfl,hl,hb,rfl⟩
  cases hl with
  | @cons k b' ks' _ h1 hl'=>
   refine wpAny_bind (QcR (k:=k) hu h1 ?_)
   first
    | exact wpAny_pure ⟨done++[k],ks',by simp,hl',by simp[hb],by simp[QcQ,Nat.add_assoc]⟩
    | exact wpAny_bind (wpAny_pure (wpAny_pure ⟨done++[k],ks',by simp,hl',by simp[hb],by simp[QcQ,Nat.add_assoc]⟩))
 ·rintro b s' ⟨done,left,rfl,hl,hb,rfl⟩
  cases hl
  rw[List.append_nil]at h
  show wpAny _ _ (retInt (Builtin.Tuple.tupleHashOf b.toList)) _ _ _
  rw[hb]
  refine wpAny_ret_mkInt ?_
  show wpAny _ _ (if (decide (-(2:Int) ^ 63<=Builtin.Tuple.tupleHashOf (done.map (itH))) && decide (Builtin.Tuple.tupleHashOf (done.map (itH)) < 2 ^ 63))=true then _ else _) Q E _
  unfold nestHash reduceHash at h
  by_cases hr:(decide (-(2:Int) ^ 63<=Builtin.Tuple.tupleHashOf (done.map (itH))) && decide (Builtin.Tuple.tupleHashOf (done.map (itH)) < 2 ^ 63))=true
  ·rw[if_pos hr]
   rw[if_pos hr]at h
   exact wpAny_pure (by simpa [Nat.add_assoc] using h)
  ·rw[if_neg hr]
   rw[if_neg hr]at h
   exact wpAny_bind (wpAny_rule (wpAny_pure (by simpa [Nat.add_assoc] using h)))
theorem QcU {x y : List KI} {a b : Addr} {P : Fin -> Shared -> Prop} (hu : A.units < cLine) (hx : IsNestKey prog w s.heap x a) (hy : IsNestKey prog w s.heap y b) (h : P (.done (.ret (.bool (decide (x = y))))) s) :
  wpAny (model prog w) A (Builtin.«tuple.__eq__» ⟨[.ref a,.ref b],[]⟩) P E s:=by
 have hTb:=hy.typeIs
 obtain⟨oa,xs,na,hoa,_,hda,hia⟩:=hx
 obtain⟨ob,ys,nb,hob,_,hdb,hib⟩:=hy
 show wpAny _ _ (isInstance (.ref b) (.type "tuple") >>= _) _ _ s
 refine wpAny_bind (wpAny_isInstance hTb isSubtype_tuple_tuple ?_)
 simp only[Bool.not_true,Bool.false_eq_true,if_false]
 refine wpAny_bind (wpAny_tupleItemsOf hoa hda ?_)
 refine wpAny_bind (wpAny_tupleItemsOf hob hdb ?_)
 refine wpAny_bind ?_
 refine wpAny_forIn_list _
  (fun rest r s'=>r.1=none/\s'=s/\∃ x' y' xs' ys',rest=List.zip xs' ys'/\TIts prog w s.heap x' xs'/\TIts prog w s.heap y' ys'/\decide (x'=y')=decide (x=y)/\(xs'.length == ys'.length)=(xs.size == ys.size))
  _ ?_ ?_ _ _ ⟨rfl,rfl,x,y,xs.toList,ys.toList,rfl,hia,hib,rfl,by simp⟩
 ·rintro ⟨u,v⟩ rest r s' ⟨hr,rfl,x',y',xs',ys',hz,hx',hy',hdec,hlen⟩
  cases hx' with
  | nil=>simp at hz
  | @cons k1 u' x'' xs'' h1 hx''=>
   cases hy' with
   | nil=>simp at hz
   | @cons k2 v' y'' ys'' h2 hy''=>
    simp only[List.zip_cons_cons,List.cons.injEq,Prod.mk.injEq]at hz
    obtain⟨⟨rfl,rfl⟩,rfl⟩:=hz
    refine wpAny_bind (QcS (x:=k1) (y:=k2) hu h1 h2 ?_)
    by_cases hk:k1=k2
    ·subst hk
     rw[decide_eq_true rfl]
     simp only[Bool.not_true,Bool.false_eq_true,if_false]
     refine wpAny_pure ⟨rfl,rfl,x'',y'',xs'',ys'',rfl,hx'',hy'',?_,by simpa using hlen⟩
     rw[<- hdec]
     by_cases hxy:x''=y''
     ·simp[hxy]
     ·simp[hxy]
    ·rw[decide_eq_false hk]
     simp only[Bool.not_false,if_true]
     have hf:decide (x=y)=false:=by rw[<- hdec];simp[hk]
     rw[hf]at h
     exact wpAny_bind (wpAny_pure (wpAny_pure (wpAny_pure h)))
 ·rintro ⟨r1,r2⟩ s' ⟨hr,rfl,x',y',xs',ys',hz,hx',hy',hdec,hlen⟩
  simp only at hr
  subst hr
  refine wpAny_pure ?_
  have hfin:(xs.size == ys.size)=decide (x=y):=by
   rw[<- hdec,<- hlen]
   cases hx' with
   | nil=>
    cases hy' with
    | nil=>simp
    | cons _ _=>simp
   | cons _ _=>
    cases hy' with
    | nil=>simp
    | cons _ _=>simp at hz
  show P (.done (.ret (.bool (xs.size == ys.size)))) s'
  rw[hfin];exact h
theorem QcV {x y : List KI} {a b : Addr} {Q : Bool -> Shared -> Prop} (hu : A.units + 1 < cLine) (hx : IsNestKey prog w s.heap x a) (hy : IsNestKey prog w s.heap y b) (h : Q (decide (x = y)) s) :
  wpAny (model prog w) A (eqBool (.ref a) (.ref b)) Q E s:=by
 unfold eqBool
 try with_reducible refine wpAny_holding ?_
 show wpAny _ _ (if (Value.ref a == Value.ref b)=true then _ else _) Q E s
 by_cases hab:(Value.ref a == Value.ref b)=true
 ·rw[if_pos hab]
  have e:a=b:=by have:=eq_of_beq hab;injection this
  subst e
  obtain rfl:=hx.inj hy
  exact wpAny_bind (wpAny_rule (wpAny_pure (by simpa using h)))
 ·rw[if_neg hab]
  exact wpAny_bind (wpAny_richCompare_same_room (op:=.Eq) hx.typeIs hy.typeIs F.slot_tuple_eq
   (wpAny_call_entry F.slot_tuple_eq hx.typeIs F.entry_tuple_eq (QcU (by exact hu) hx hy ⟨_,rfl,(fun e=>nomatch e),wpAny_truthy_bool h⟩) (F.args_tuple_eq_2 _ _)) (by ac_nf))
theorem QcW {n:Nat}{ks:List Int}{a:Addr}{Q:Bool->Shared->Prop} (hk:IsTupleKey (intKind prog w) s.heap ks a) (h:Q true s):wpAny (model prog w) A (eqIsQuiet (n + 1) (.ref a)) Q E s:=by
 have hT:=hk.typeIs
 obtain⟨o,items,n,ho,_,hd,hi⟩:=hk
 unfold eqIsQuiet
 refine wpAny_bind (wpAny_specialOf hT F.slot_tuple_eq.lookup ?_)
 show wpAny _ _ (isInstance (.ref a) (.type "tuple") >>= _) _ _ s
 refine wpAny_bind (wpAny_isInstance hT isSubtype_tuple_tuple ?_)
 simp only[Bool.not_true,Bool.false_eq_true,if_false]
 refine wpAny_bind (wpAny_seqItems ho hd ?_)
 refine wpAny_bind ?_
 show wpAny _ _ (forIn items _ _) _ _ s
 rw[<- Array.forIn_toList]
 refine wpAny_forIn_list _ (fun rest r s'=>r.1=none/\s'=s/\∀ v∈rest,carriedByValue v=true) _ ?_ ?_ _ _ ⟨rfl,rfl,hi.byValue⟩
 ·rintro v rest r s' ⟨hr,rfl,hall⟩
  rw[eqIsQuiet_byValue _ (hall v List.mem_cons_self)]
  refine wpAny_bind (wpAny_pure ?_)
  simp only[Bool.not_true,Bool.false_eq_true,if_false]
  exact wpAny_pure ⟨rfl,rfl,fun u hu'=>hall u (List.mem_cons_of_mem _ hu')⟩
 ·rintro ⟨r1,r2⟩ s' ⟨hr,rfl,_⟩
  simp only at hr
  subst hr
  exact wpAny_pure h
theorem QcX {n:Nat}{k:KI}{v:Value}{Q:Bool->Shared->Prop} (hk:TIt prog w s.heap k v) (h:Q true s):wpAny (model prog w) A (eqIsQuiet (n + 1) v) Q E s:=by
 cases hk with
 | one i t=>rw[eqIsQuiet_byValue _ (show carriedByValue (Value.int i t)=true from rfl)];exact wpAny_pure h
 | row hk=>exact QcW hk h
theorem QcY {ks:List KI}{a:Addr}{Q:Bool->Shared->Prop} (hk:IsNestKey prog w s.heap ks a) (h:Q true s):wpAny (model prog w) A (eqIsQuiet 8 (.ref a)) Q E s:=by
 have hT:=hk.typeIs
 obtain⟨o,items,n,ho,_,hd,hi⟩:=hk
 unfold eqIsQuiet
 refine wpAny_bind (wpAny_specialOf hT F.slot_tuple_eq.lookup ?_)
 show wpAny _ _ (isInstance (.ref a) (.type "tuple") >>= _) _ _ s
 refine wpAny_bind (wpAny_isInstance hT isSubtype_tuple_tuple ?_)
 simp only[Bool.not_true,Bool.false_eq_true,if_false]
 refine wpAny_bind (wpAny_seqItems ho hd ?_)
 refine wpAny_bind ?_
 show wpAny _ _ (forIn items _ _) _ _ s
 rw[<- Array.forIn_toList]
 refine wpAny_forIn_list _ (fun rest r s'=>r.1=none/\s'=s/\∃ left,TIts prog w s.heap left rest) _ ?_ ?_ _ _ ⟨rfl,rfl,ks,hi⟩
 ·rintro v rest r s' ⟨hr,rfl,left,hall⟩
  cases hall with
  | cons h1 hl=>
   refine wpAny_bind (QcX (n:=6) h1 ?_)
   simp only[Bool.not_true,Bool.false_eq_true,if_false]
   exact wpAny_pure ⟨rfl,rfl,_,hl⟩
 ·rintro ⟨r1,r2⟩ s' ⟨hr,rfl,_⟩
  simp only at hr
  subst hr
  exact wpAny_pure h
end
def nestKind (prog:Program) (w:World):HeapKind prog w (List KI) where
 is:=IsNestKey prog w
 hash:=nestHash
 draws:=fun ks=>nestDraws ks + 1
 room:=fun A=>A.units + 1 < cLine
 inj:=fun hx hy=>hx.inj hy
 keeps:=fun x ho hd hs=>x.keeps ho hd hs
 pyHash:=fun hu hk h=>QcT hu hk h
 eqBool:=fun hu hx hy h=>QcV hu hx hy h
 quiet:=fun hk h=>QcY hk h
end MM
namespace MM
open PySem PyProof.Rows
def EpAt (h:Heap) (d:Addr) (n:Nat):Prop:=∃ o es,h.get? d=some o/\o.data=.dict es n
section
variable {prog:Program}{w:World}{K:Type} [DecidableEq K] {knd:HeapKind prog w K}{A:Around}{E:Value->Shared->Prop}{s:Shared}{d a:Addr}{k:K}{xs:List (K × Addr × Value)}
theorem QcZ {v : Value} {Q : Unit -> Shared -> Prop} (hu : knd.room A) (hkey : knd.is s.heap k a) (hm : s.heap.DictOfH knd d xs) (hp : EpAt s.heap d xs.length) (hsz : xs.length <= sizeLine)
  (h:∀ h',h'.DictOfH knd d (storedH xs k a v)->EpAt h' d (storedH xs k a v).length->Heap.SameBut d s.heap h'->Q () { s with heap:=h',toks:=s.toks + knd.draws k }):
  wpAny (model prog w) A (dictSet d (.ref a) v) Q E s:=by
 obtain⟨o,es,ep,ho,hc,hd,he,his,hn⟩:=id hm
 obtain⟨o',es',ho',hd'⟩:=hp
 rw[ho]at ho';cases ho'
 rw[hd]at hd';cases hd'
 unfold dictSet
 refine wpAny_holding (wpAny_bind (knd.pyHash hu hkey ?_))
 unfold dictSetHashed
 refine wpAny_holding (wpAny_bind (wpAny_dictFind_heap (s:={ s with toks:=s.toks + knd.draws k }) hu hkey ho hd he his hn (fun hno=>?_) fun j p hj=>?_))
 ·have hnot:k∉xs.map (·.1):=not_mem_keys_of_get hno
  have e0:=atKey_none_of_get hno
  have e1:=storedH_new (a:=a) (v:=v) e0
  have e2:=size_of_entries he
  refine wpAny_bind (wpAny_rule (wpAny_updateDictKeys (hz:=by ac_nf) (s:={ s with toks:=s.toks + knd.draws k }) ho hd
   (h _ ⟨_,_,_,Heap.get?_update_self _ ho (Obj.isFreed_of_dict (Obj.data_mapDictKeys hd _)),hc.mapDictKeys _,Obj.data_mapDictKeys hd _,?_,?_,?_⟩ ?_ (Heap.SameBut.update ..))))
  ·rw[e1];simp[he,entryOfKey]
  ·rw[e1]
   intro x hx
   rcases List.mem_append.mp hx with hx | hx
   ·exact knd.keeps (his x hx) ho hd (Heap.SameBut.update ..)
   ·cases List.mem_singleton.mp hx
    exact knd.keeps hkey ho hd (Heap.SameBut.update ..)
  ·rw[e1,List.map_append,List.nodup_append]
   refine⟨hn,by simp,fun x hx y hy=>?_⟩
   cases List.mem_singleton.mp hy
   exact fun e=>hnot ((show x=k from e) ▸ hx)
  ·rw[e1,List.length_append];exact⟨_,_,Heap.get?_update_self _ ho (Obj.isFreed_of_dict (Obj.data_mapDictKeys hd _)),Obj.data_mapDictKeys hd _⟩
 ·have e0:=atKey_of_get hn hj
  have e1:=storedH_old e0 a v
  have ej:j < es.size:=by
   rw[size_of_entries he];exact (List.getElem?_eq_some_iff.mp hj).1
  have hes:(es.modify j fun e=>{ hash:=e.hash,key:=e.key,val:=v }).toList=(xs.map (putAt k v)).map (entryOfKey knd):=by
   apply List.ext_getElem?
   intro i
   rw[Array.getElem?_toList,Array.getElem?_modify,List.getElem?_map,List.getElem?_map]
   have ei:es[i]?=(xs[i]?).map (entryOfKey knd):=by rw[<- Array.getElem?_toList,he,List.getElem?_map]
   rw[ei]
   by_cases z:j=i
   ·subst z
    rw[if_pos rfl,hj]
    simp[putAt,entryOfKey]
   ·rw[if_neg z]
    cases hx:xs[i]? with
    | none=>rfl
    | some x=>
     have nk:x.1≠k:=fun q=>by
      have a1:(xs.map (·.1))[i]?=some k:=by rw[List.getElem?_map,hx,<- q];rfl
      have a2:(xs.map (·.1))[j]?=some k:=by rw[List.getElem?_map,hj];rfl
      exact z ((List.getElem?_inj (by rw[List.length_map];exact (List.getElem?_eq_some_iff.mp hj).1) hn).mp (a2.trans a1.symm))
     simp[putAt,nk]
  refine wpAny_bind (wpAny_rule (wpAny_bind (wpAny_updateDict (s:={ s with toks:=s.toks + knd.draws k }) ho hd (wpAny_point
   (h _ ⟨_,_,_,Heap.get?_update_self _ ho (Obj.isFreed_of_dict (Obj.data_mapDict hd _)),hc.mapDict _,Obj.data_mapDict hd _,?_,?_,?_⟩ ?_ (Heap.SameBut.update ..))))))
  ·rw[e1];exact hes
  ·rw[e1]
   intro x hx
   obtain⟨y,hy,e⟩:=List.mem_map.mp hx
   have q:=knd.keeps (his y hy) ho hd (Heap.SameBut.update s.heap d (Obj.mapDict fun x=>x.modify j fun e=>{ hash:=e.hash,key:=e.key,val:=v }))
   rw[<- e]
   unfold putAt
   split
   ·exact q
   ·exact q
  ·rw[e1,List.map_map]
   have:(xs.map ((fun x=>x.1) ∘ putAt k v))=xs.map (·.1):=List.map_congr_left fun x _=>by
    show (putAt k v x).1=x.1
    unfold putAt
    split<;>rfl
   rw[this];exact hn
  ·rw[e1,List.length_map];exact⟨_,_,Heap.get?_update_self _ ho (Obj.isFreed_of_dict (Obj.data_mapDict hd _)),Obj.data_mapDict hd _⟩
theorem Qc0 {v : Value} {Q : Unit -> Shared -> Prop} (hu : knd.room A.in1) (hkey : knd.is s.heap k a) (hm : s.heap.DictOfH knd d xs) (hp : EpAt s.heap d xs.length) (hsz : xs.length <= sizeLine)
  (h:∀ h',h'.DictOfH knd d (storedH xs k a v)->EpAt h' d (storedH xs k a v).length->Heap.SameBut d s.heap h'->Q () { s with heap:=h',toks:=s.toks + knd.draws k }):
  wpAny (model prog w) A (setItem (.ref d) (.ref a) v) Q E s:=by
 have T:=hm.typeIs
 unfold setItem
 refine wpAny_holding (wpAny_bind (wpAny_sequenceKey T (by decide) (wpAny_bind (wpAny_callSpecial?_slot T F.slot_dict_setitem (wpAny_call_entry F.slot_dict_setitem T F.entry_dict_setitem ?_ (F.args_dict_setitem_3 _ _ _))))))
 unfold Builtin.«dict.__setitem__»
 refine wpAny_bind (wpAny_notOrdered_dict T ?_)
 rw[if_neg (by simp)]
 show wpAny _ _ (dictSet d (.ref a) v >>= _) _ _ s
 refine wpAny_bind (QcZ hu hkey hm hp hsz fun h' a1 a2 a3=>wpAny_pure ⟨_,rfl,wpAny_pure (h h' a1 a2 a3)⟩)
end
end MM
namespace MM
open PySem
inductive D where
 | non | bl (b:Bool) | int (i:Int) | str (x:Str) | tup (ds:List D) | lit (ds:List D) | ref (n:Nat) | dic (n:Nat) | exn (x:Str) (ds:List D)
inductive MO where
 | lst (ds:List D) | dct (b:Bool) (kvs:List (D × D))
abbrev Sto:=List MO
abbrev Exn:=D
inductive Rs (α:Type) where
 | ok (a:α) (s:Sto) | exc (x:Exn) (s:Sto) | bad
def M (α:Type):=Sto->Rs α
section
variable {α β:Type}
def ret (a:α):M α:=fun s=>.ok a s
def bnd (m:M α) (f:α->M β):M β:=fun s=>match m s with
 | .ok a s'=>f a s'
 | .exc x s'=>.exc x s'
 | .bad=>.bad
def bad:M α:=fun _=>.bad
@[irreducible] def chk (c:Prop) [Decidable c] (m:M α):M α:=if c then m else bad
end
abbrev Loc:=List (Option D)
abbrev CE:=Loc->M D
abbrev CT:=Loc->M Bool
abbrev CA:=Loc->M (List D)
inductive Flw where
 | next (l:Loc) | ret (d:D) | brk (l:Loc) | cnt (l:Loc)
abbrev CS:=Loc->M Flw
def lim:Nat:=2 ^ 24
def alloc (o:MO):M D:=fun s=>.ok (.ref s.length) (s++[o])
def getL (n:Nat):M (List D):=fun s=>match s[n]? with
 | some (.lst ds)=>.ok ds s
 | _=>.bad
def putL (n:Nat) (ds:List D):M Unit:=fun s=>match s[n]? with
 | some (.lst _)=>.ok () (s.set n (.lst ds))
 | _=>.bad
def getDc (n:Nat):M (Bool × List (D × D)):=fun s=>match s[n]? with
 | some (.dct b kvs)=>.ok (b,kvs) s
 | _=>.bad
def putDc (n:Nat) (b:Bool) (kvs:List (D × D)):M Unit:=fun s=>match s[n]? with
 | some (.dct c _)=>if b=c then .ok () (s.set n (.dct b kvs)) else .bad
 | _=>.bad
mutual
def eqK:D->D->Bool
 | .int i,.int j=>decide (i=j)
 | .str x,.str y=>decide (x=y)
 | .tup xs,.tup ys=>eqKs xs ys
 | _,_=>false
def eqKs:List D->List D->Bool
 | [],[]=>true
 | x::xs,y::ys=>eqK x y && eqKs xs ys
 | _,_=>false
end
def intsK:List D->Option (List Int)
 | []=>some []
 | .int i::ds=>(intsK ds).map (i::·)
 | _=>none
def rowsK:List D->Option (List (Int ⊕ List Int))
 | []=>some []
 | .tup xs::ds=>match intsK xs,rowsK ds with
  | some r,some rs=>some (.inr r::rs)
  | _,_=>none
 | .int i::ds=>(rowsK ds).map (.inl i::·)
 | _=>none
def stK:D->Option (List (Int ⊕ List Int))
 | .tup ds=>rowsK ds
 | _=>none
def kOk:Bool->D->Bool
 | false,.int _=>true
 | false,.str _=>true
 | true,d=>(stK d).isSome
 | _,_=>false
def lkK (kvs:List (D × D)) (k:D):Option D:=(kvs.find? fun p=>eqK p.1 k).map (·.2)
def ptK (kvs:List (D × D)) (k v:D):List (D × D):=if (kvs.any fun p=>eqK p.1 k)=true then kvs.map fun p=>if eqK p.1 k=true then (p.1,v) else p else kvs++[(k,v)]
def itemK (n:Nat) (k:D):M D:=bnd (getDc n) fun p=>chk (kOk p.1 k=true) (match lkK p.2 k with
 | some d=>ret d
 | none=>bad)
def storeK (n:Nat) (k v:D):M Unit:=bnd (getDc n) fun p=>chk (kOk p.1 k=true/\p.2.length < lim) (putDc n p.1 (ptK p.2 k v))
def hasK (n:Nat) (k:D):M Bool:=bnd (getDc n) fun p=>chk (kOk p.1 k=true) (ret (lkK p.2 k).isSome)
def seqOf:D->M (List D)
 | .tup ds=>ret ds
 | .lit ds=>ret ds
 | .ref n=>getL n
 | _=>bad
def ixN (n:Nat) (i:Int):Option Nat:=if 0<=i then (if i < n then some i.toNat else none) else (if -(n:Int)<=i then some (i + n).toNat else none)
def addD:D->D->M D
 | .int i,.int j=>ret (.int (i + j))
 | .str x,.str y=>chk (x.length + y.length<=lim) (ret (.str (x++y)))
 | .tup x,.tup y=>chk (x.length + y.length<=lim) (ret (.tup (x++y)))
 | .ref a,.ref b=>bnd (getL a) fun x=>bnd (getL b) fun y=>chk (x.length + y.length<=lim) (alloc (.lst (x++y)))
 | _,_=>bad
def subD:D->D->M D
 | .int i,.int j=>ret (.int (i - j))
 | _,_=>bad
def mulOk (i j:Int):Prop:=(-(2 ^ 64) < i/\i < 2 ^ 64)\/(-(2 ^ 64) < j/\j < 2 ^ 64)
instance (i j:Int):Decidable (mulOk i j):=by unfold mulOk;infer_instance
def mulD:D->D->M D
 | .int i,.int j=>chk (mulOk i j) (ret (.int (i * j)))
 | _,_=>bad
def fdivD:D->D->M D
 | .int i,.int j=>chk (0 < j/\j < 1073741824) (ret (.int (i / j)))
 | _,_=>bad
def modD:D->D->M D
 | .int i,.int j=>chk (0 < j) (ret (.int (i % j)))
 | _,_=>bad
def powD:D->D->M D
 | .int i,.int j=>chk (0<=j/\j<=1000000/\i.natAbs < 2 ^ 64) (ret (.int (i ^ j.toNat)))
 | _,_=>bad
def negD:D->M D
 | .int i=>ret (.int (-i))
 | _=>bad
def cmpI (p:Int->Int->Bool):D->D->M D
 | .int i,.int j=>ret (.bl (p i j))
 | _,_=>bad
def ltD:=cmpI fun i j=>decide (i < j)
def leD:=cmpI fun i j=>decide (i<=j)
def gtD:=cmpI fun i j=>decide (j < i)
def geD:=cmpI fun i j=>decide (j<=i)
def allF (f:D->D->Option Bool):List D->List D->Option Bool
 | [],[]=>some true
 | x::xs,y::ys=>match f x y with
  | some true=>allF f xs ys
  | some false=>(allF f xs ys).map fun _=>false
  | none=>none
 | _::_,[]=>some false
 | [],_::_=>some false
def eqS (g:List D->List D->Option Bool):D->D->Option Bool
 | .non,.non=>some true
 | .non,.bl _=>some false
 | .non,.int _=>some false
 | .non,.str _=>some false
 | .non,.tup _=>some false
 | .bl _,.non=>some false
 | .bl a,.bl b=>some (a == b)
 | .bl a,.int b=>some ((if a then 1 else 0) == b)
 | .bl _,.str _=>some false
 | .bl _,.tup _=>some false
 | .int _,.non=>some false
 | .int a,.bl b=>some (a == (if b then 1 else 0))
 | .int a,.int b=>some (a == b)
 | .int _,.str _=>some false
 | .int _,.tup _=>some false
 | .str _,.non=>some false
 | .str _,.bl _=>some false
 | .str _,.int _=>some false
 | .str a,.str b=>some (a == b)
 | .str _,.tup _=>some false
 | .tup _,.non=>some false
 | .tup _,.bl _=>some false
 | .tup _,.int _=>some false
 | .tup _,.str _=>some false
 | .tup xs,.tup ys=>g xs ys
 | _,_=>none
def eqF:Nat->D->D->Option Bool
 | 0,d,e=>eqS (fun _ _=>none) d e
 | n + 1,d,e=>eqS (allF (eqF n)) d e
def eqB (d e:D):M Bool:=match d,e with
 | .ref a,.ref b=>bnd (getL a) fun x=>bnd (getL b) fun y=>match (if x.length=y.length then allF (eqF 50) x y else some false) with
  | some r=>ret r
  | none=>bad
 | .ref a,.non=>bnd (getL a) fun _=>ret false
 | .non,.ref a=>bnd (getL a) fun _=>ret false
 | d,e=>match eqF 50 d e with
  | some r=>ret r
  | none=>bad
def eqD (d e:D):M D:=bnd (eqB d e) fun b=>ret (.bl b)
def neD (d e:D):M D:=bnd (eqB d e) fun b=>ret (.bl !b)
def isND:D->M D
 | .non=>ret (.bl true)
 | _=>ret (.bl false)
def notND:D->M D
 | .non=>ret (.bl false)
 | _=>ret (.bl true)
def itemD (ds:List D) (i:Int):M D:=match ixN ds.length i with
 | some k=>match ds[k]? with
  | some d=>ret d
  | none=>bad
 | none=>bad
def subsD:D->D->M D
 | .tup ds,.int i=>itemD ds i
 | .lit ds,.int i=>itemD ds i
 | .ref n,.int i=>bnd (getL n) fun ds=>itemD ds i
 | .dic n,k=>itemK n k
 | .str x,.int i=>chk (x.length<=lim) (match ixN x.length i with
  | some k=>match x.cps.toList[k]? with
   | some c=>ret (.str ⟨#[c]⟩)
   | none=>bad
  | none=>bad)
 | _,_=>bad
def truD:D->M Bool
 | .non=>ret false
 | .bl b=>ret b
 | .int i=>ret (i != 0)
 | .str x=>chk (x.length<=lim) (ret ((x.length:Int) != 0))
 | .tup ds=>ret (!ds.isEmpty)
 | .lit ds=>ret (!ds.isEmpty)
 | .ref n=>bnd (getL n) fun ds=>ret (!ds.isEmpty)
 | .dic _=>bad
 | .exn _ _=>bad
def cVar (i:Nat):CE:=fun l=>match l[i]? with
 | some (some d)=>ret d
 | _=>bad
def cCon (d:D):CE:=fun _=>ret d
def c1 (g:D->M D) (a:CE):CE:=fun l=>bnd (a l) g
def c2 (g:D->D->M D) (a b:CE):CE:=fun l=>bnd (a l) fun x=>bnd (b l) fun y=>g x y
def cNil:CA:=fun _=>ret []
def cCons (a:CE) (r:CA):CA:=fun l=>bnd (a l) fun x=>bnd (r l) fun xs=>ret (x::xs)
def cTup (a:CA):CE:=fun l=>bnd (a l) fun xs=>chk (xs.length<=lim) (ret (.tup xs))
def cChain (f g:D->D->M D) (a b c:CE):CE:=fun l=>bnd (a l) fun x=>bnd (b l) fun y=>bnd (f x y) fun z=>match z with
 | .bl true=>bnd (c l) fun w=>g y w
 | .bl false=>ret (.bl false)
 | _=>bad
def cAnd (a b:CE):CE:=fun l=>bnd (a l) fun x=>match x with
 | .bl true=>b l
 | .bl false=>ret (.bl false)
 | _=>bad
def cNot (a:CE):CE:=fun l=>bnd (a l) fun x=>match x with
 | .bl b=>ret (.bl !b)
 | _=>bad
def cCall (g:List D->M D) (a:CA):CE:=fun l=>bnd (a l) g
def tVal (a:CE):CT:=fun l=>bnd (a l) truD
def tCmpB (a:CE):CT:=fun l=>bnd (a l) fun x=>match x with
 | .bl b=>ret b
 | _=>bad
def tAndB (a b:CT):CT:=fun l=>bnd (a l) fun c=>if c=true then b l else ret false
def tOrB (a b:CT):CT:=fun l=>bnd (a l) fun c=>if c=true then ret true else b l
def tNotB (a:CT):CT:=fun l=>bnd (a l) fun c=>ret !c
structure Wk where
 ds:List D
 same:Sto->Prop
abbrev CI:=Loc->M Wk
open Classical in
def chkS (p:Sto->Prop):M Unit:=fun s=>if p s then .ok () s else .bad
def anySt:Sto->Prop:=fun _=>True
def sameL (n:Nat) (ds:List D):Sto->Prop:=fun s=>s[n]?=some (.lst ds)
def iSeq (a:CE):CI:=fun l=>bnd (a l) fun x=>match x with
 | .tup ds=>ret ⟨ds,anySt⟩
 | .lit ds=>ret ⟨ds,anySt⟩
 | .ref n=>bnd (getL n) fun ds=>ret ⟨ds,sameL n ds⟩
 | _=>bad
def rngD (lo:Int) (n:Nat):List D:=(List.range n).map fun k=>.int (lo + (k:Nat))
def iRng1 (a:CE):CI:=fun l=>bnd (a l) fun x=>match x with
 | .int j=>chk (-(2 ^ 62)<=j/\j < 2 ^ 62) (ret ⟨rngD 0 j.toNat,anySt⟩)
 | _=>bad
abbrev CG:=D->Loc->M Loc
def gVar (i:Nat):CG:=fun d l=>ret (l.set i (some d))
def gsNil:List D->Loc->M Loc
 | [],l=>ret l
 | _,_=>bad
def gsCons (g:CG) (r:List D->Loc->M Loc):List D->Loc->M Loc
 | d::ds,l=>bnd (g d l) fun l'=>r ds l'
 | _,_=>bad
def gTupD (n:Nat) (r:List D->Loc->M Loc):CG:=fun d l=>match d with
 | .tup ds=>chk (ds.length=n) (r ds l)
 | _=>bad
def capt (n:Nat) (caps:List Nat) (l:Loc):Loc:=List.replicate n none++caps.map fun i=>(l[i]?).join
def collect (g:CG) (t:CT) (e:CE) (same:Sto->Prop):List D->Loc->M (List D)
 | [],_=>bnd (chkS same) fun _=>ret []
 | d::ds,l=>bnd (chkS same) fun _=>bnd (g d l) fun l'=>bnd (t l') fun b=>if b=true then bnd (e l') fun x=>bnd (collect g t e same ds l') fun xs=>ret (x::xs) else collect g t e same ds l'
def aComp (n:Nat) (caps:List Nat) (i:CI) (g:CG) (t:CT) (e:CE):CA:=fun l=>bnd (i l) fun w=>chk (w.ds.length<=lim) (collect g t e w.same w.ds (capt n caps l))
def sIx (n d:Nat):Option Int->Nat
 | none=>d
 | some v=>if v < 0 then (v + (n:Int)).toNat else min v.toNat n
def cutD (xs:List D) (lo hi:Option Int):List D:=(xs.drop (sIx xs.length 0 lo)).take (sIx xs.length xs.length hi - sIx xs.length 0 lo)
abbrev CO:=Loc->M (Option Int)
def oNone:CO:=fun _=>ret none
def oSome (a:CE):CO:=fun l=>bnd (a l) fun x=>match x with
 | .int i=>ret (some i)
 | _=>bad
def aSlice (a:CE) (lo hi:CO):CA:=fun l=>bnd (a l) fun x=>bnd (lo l) fun i=>bnd (hi l) fun j=>match x with
 | .lit ds=>ret (cutD ds i j)
 | .ref n=>bnd (getL n) fun ds=>ret (cutD ds i j)
 | _=>bad
def tTrue:CT:=fun _=>ret true
def cKeep (a:CA):CE:=fun l=>bnd (a l) fun ds=>alloc (.lst ds)
def aDisp (a:CA):CA:=fun l=>bnd (a l) fun xs=>chk (xs.length<=lim) (ret xs)
def cTmpSub (a:CA) (b:CE):CE:=fun l=>bnd (a l) fun ds=>bnd (b l) fun i=>match i with
 | .int k=>itemD ds k
 | _=>bad
def cTmp (g:List D->M D) (a:CA):CE:=fun l=>bnd (a l) g
def sNext:CS:=fun l=>ret (.next l)
def sSeq (a b:CS):CS:=fun l=>bnd (a l) fun f=>match f with
 | .next l'=>b l'
 | f=>ret f
def sAsg (g:CG) (a:CE):CS:=fun l=>bnd (a l) fun d=>bnd (g d l) fun l'=>ret (.next l')
def sRet (a:CE):CS:=fun l=>bnd (a l) fun d=>ret (.ret d)
def sExp (a:CE):CS:=fun l=>bnd (a l) fun _=>ret (.next l)
def sIf (t:CT) (a b:CS):CS:=fun l=>bnd (t l) fun c=>if c=true then a l else b l
def forD (g:CG) (b:CS) (same:Sto->Prop):List D->CS
 | [],l=>bnd (chkS same) fun _=>ret (.next l)
 | d::ds,l=>bnd (chkS same) fun _=>bnd (g d l) fun l'=>bnd (b l') fun f=>match f with
  | .next l2=>forD g b same ds l2
  | .cnt l2=>forD g b same ds l2
  | .brk l2=>ret (.next l2)
  | .ret d=>ret (.ret d)
def sFor (i:CI) (g:CG) (b:CS):CS:=fun l=>bnd (i l) fun w=>forD g b w.same w.ds l
def flwD:Flw->M D
 | .ret d=>ret d
 | .next _=>ret .non
 | _=>bad
def runDef (n:Nat) (body:CS) (ds:List D):M D:=bnd (body (ds.map some++List.replicate (n - ds.length) none)) flwD
def setItemD (o i v:D):M Unit:=match o,i with
 | .ref n,.int k=>bnd (getL n) fun ds=>match ixN ds.length k with
  | some j=>putL n (ds.set j v)
  | none=>bad
 | .dic n,k=>storeK n k v
 | _,_=>bad
def gSubD (o i:CE):CG:=fun v l=>bnd (o l) fun y=>bnd (i l) fun z=>bnd (setItemD y z v) fun _=>ret l
def lenD:D->M D
 | .tup ds=>ret (.int ds.length)
 | .lit ds=>ret (.int ds.length)
 | .ref n=>bnd (getL n) fun ds=>ret (.int ds.length)
 | .str x=>chk (x.length<=lim) (ret (.int x.length))
 | .dic n=>bnd (getDc n) fun p=>ret (.int p.2.length)
 | _=>bad
def appendL (n:Nat) (v:D):M D:=bnd (getL n) fun ds=>chk (ds.length < lim) (bnd (putL n (ds++[v])) fun _=>ret .non)
def cAppend (a b:CE):CE:=fun l=>bnd (a l) fun x=>match x with
 | .ref n=>bnd (b l) fun v=>appendL n v
 | _=>bad
def intD:D->M D
 | .int i=>ret (.int i)
 | .bl b=>ret (.int (if b then 1 else 0))
 | _=>bad
def tupleD:D->M D
 | .tup ds=>ret (.tup ds)
 | .lit ds=>ret (.tup ds)
 | .ref n=>bnd (getL n) fun ds=>ret (.tup ds)
 | _=>bad
def isTy:D->Option (List String)
 | .non=>some ["NoneType"]
 | .bl _=>some ["bool","int"]
 | .int _=>some ["int"]
 | .str _=>some ["str"]
 | .tup _=>some ["tuple"]
 | .lit _=>some ["list"]
 | .ref _=>some ["list"]
 | .dic _=>none
 | .exn _ _=>none
def numsL:List D->Option (List Int)
 | []=>some []
 | .int i::ds=>(numsL ds).map (i::·)
 | _=>none
def boolsL:List D->Option (List Bool)
 | []=>some []
 | .bl b::ds=>(boolsL ds).map (b::·)
 | _=>none
def maxD (ds:List D):M D:=match numsL ds with
 | some (n::ns)=>ret (.int (ns.foldl max n))
 | _=>bad
def minD (ds:List D):M D:=match numsL ds with
 | some (n::ns)=>ret (.int (ns.foldl min n))
 | _=>bad
def allD (ds:List D):M D:=match boolsL ds with
 | some bs=>ret (.bl (bs.all id))
 | _=>bad
def tupL (ds:List D):M D:=ret (.tup ds)
def lenL (ds:List D):M D:=ret (.int ds.length)
def isInst (ts:List String) (d:D):M D:=match isTy d with
 | some us=>ret (.bl (ts.any fun t=>us.contains t))
 | none=>bad
def isD:D->D->M D
 | .bl a,.bl b=>ret (.bl (a == b))
 | x,.non=>isND x
 | _,_=>bad
def isntD:D->D->M D
 | .bl a,.bl b=>ret (.bl !(a == b))
 | x,.non=>notND x
 | _,_=>bad
def flatD:D->Bool
 | .non=>true
 | .bl _=>true
 | .int _=>true
 | .str _=>true
 | _=>false
def eqFl:D->D->Bool
 | .non,.non=>true
 | .bl a,.bl b=>a == b
 | .bl a,.int b=>(if a then 1 else 0) == b
 | .int a,.bl b=>a == (if b then 1 else 0)
 | .int a,.int b=>a == b
 | .str a,.str b=>a == b
 | _,_=>false
def inL (x:D) (ds:List D):M D:=chk (flatD x=true/\ds.all flatD=true) (ret (.bl (ds.any fun d=>eqFl d x)))
def inD (x y:D):M D:=match y with
 | .dic n=>bnd (hasK n x) fun b=>ret (.bl b)
 | y=>bnd (seqOf y) (inL x)
end MM
namespace MM
open PySem PySem.Spec PyProof.Rows L2
abbrev St:=L2.St
def FzL (K:PySem.W.Frag) (H:Hp) (a:Addr) (xs:List V):Prop:=
 (∃ o,H a=some (.frz o (.lst xs))) \/
  ∃ (o:Obj) (its:Array Value) (n:Nat),K.lookup a=some o/\o.cls=.type "list"/\o.dict=none/\o.data=.seq its n/\its.size<=sizeLine/\Vals xs its.toList
theorem FzL.seq {K:PySem.W.Frag}{H:Hp}{a:Addr}{xs:List V} (h:FzL K H a xs):SqL K H a xs:=by
 rcases h with ⟨o,h⟩ | h
 ·exact .inl (.inr ⟨o,h⟩)
 ·exact .inr h
def kO:HO->Nat
 | .lst _=>0
 | .dK _=>1
 | .ext _=>2
 | _=>3
abbrev NK:=List KI
def nH (k:NK):Int:=nestHash k
def nEnt (x:NK × Addr × Value):DictEntry:=⟨nH x.1,.ref x.2.1,x.2.2⟩
def NOk (a:Addr) (es:List (NK × Addr × V)) (h:Heap):Prop:=es.length<=sizeLine/\(a == sysModules)=false/\∃ xs:List (NK × Addr × Value),Paired (fun (p:NK × Addr × V) (q:NK × Addr × Value)=>p.1=q.1/\p.2.1=q.2.1/\RelV p.2.2 q.2.2) es xs /\
 ∃ o es' ep,h.get? a=some o/\o.ExactDict/\o.data=.dict es' ep/\es'.toList=xs.map nEnt/\(xs.map (·.1)).Nodup/\ep=xs.length
def nstO (a:Addr) (es:List (NK × Addr × V)):HO:=.ext (NOk a es)
def rowD (r:List Int):D:=.tup (r.map .int)
def itD:KI->D
 | .inl i=>.int i
 | .inr r=>rowD r
def stD (k:NK):D:=.tup (k.map itD)
def keyD:Key->D
 | .inl i=>.int i
 | .inr x=>.str x
mutual
inductive Rep (K:PySem.W.Frag) (ρ:List Addr) (H:Hp):V->D->Prop
 | non:Rep K ρ H .non .non
 | bl (b:Bool):Rep K ρ H (.bl b) (.bl b)
 | int (i:Int):Rep K ρ H (.int i) (.int i)
 | str (x:Str):Rep K ρ H (.str x) (.str x)
 | tup {a:Addr}{vs:List V}{ds:List D} (h:SqT K H a vs) (r:Reps K ρ H vs ds):Rep K ρ H (.ref a) (.tup ds)
 | lit {a:Addr}{vs:List V}{ds:List D} (h:FzL K H a vs) (r:Reps K ρ H vs ds):Rep K ρ H (.ref a) (.lit ds)
 | ref {a:Addr}{n:Nat} (k:∃ o,H a=some o/\kO o=0) (h:ρ[n]?=some a):Rep K ρ H (.ref a) (.ref n)
 | dic {a:Addr}{n:Nat} (k:∃ o,H a=some o/\(kO o=1\/kO o=2)) (h:ρ[n]?=some a):Rep K ρ H (.ref a) (.dic n)
 | exn0 {a C:Addr}{x:Str} (g:PySem.W.nsIn K mainGlobals x=some (some (.ref C))) (h:∃ o,H a=some (.frz o (.own a))/\o.cls=.ref C):Rep K ρ H (.ref a) (.exn x [])
 | exn {a C dx:Addr}{x f:Str}{v:V}{d:D} (g:PySem.W.nsIn K mainGlobals x=some (some (.ref C))) (h:∃ o,H a=some (.frz o (.own a))/\o.cls=.ref C/\o.dict=some dx/\∃ vs,o.data=.fields vs) (h2:H dx=some (.xd [(f,v)])) (r:Rep K ρ H v d):Rep K ρ H (.ref a) (.exn x [.str f,d])
inductive Reps (K:PySem.W.Frag) (ρ:List Addr) (H:Hp):List V->List D->Prop
 | nil:Reps K ρ H [] []
 | cons {v:V}{d:D}{vs:List V}{ds:List D} (r:Rep K ρ H v d) (t:Reps K ρ H vs ds):Reps K ρ H (v::vs) (d::ds)
end
def ObR (K:PySem.W.Frag) (ρ:List Addr) (H:Hp) (a:Addr):MO->Prop
 | .lst ds=>∃ vs,H a=some (.lst vs)/\Reps K ρ H vs ds
 | .dct false kvs=>∃ es,H a=some (.dK es)/\Paired (fun (p:Key × V) (q:D × D)=>keyD p.1=q.1/\Rep K ρ H p.2 q.2) es kvs
 | .dct true kvs=>∃ es,H a=some (nstO a es)/\Paired (fun (p:NK × Addr × V) (q:D × D)=>stD p.1=q.1/\Rep K ρ H (.ref p.2.1) q.1/\Rep K ρ H p.2.2 q.2) es kvs
structure SR (K:PySem.W.Frag) (ρ:List Addr) (H:Hp) (st:Sto):Prop where
 len:ρ.length=st.length
 nd:ρ.Nodup
 ob:∀ (n:Nat) (a:Addr) (o:MO),ρ[n]?=some a->st[n]?=some o->ObR K ρ H a o
def LR (K:PySem.W.Frag) (ρ:List Addr) (H:Hp) (σ:St) (l:Loc):Prop:=
 σ.length=l.length/\∀ (i:Nat) (d:D),l[i]?=some (some d)->∃ v,σ[i]?=some (some v)/\Rep K ρ H v d
structure Ex (ρ:List Addr) (H:Hp) (ρ':List Addr) (H':Hp):Prop where
 pre:∃ τ,ρ'=ρ++τ/\∀ a∈τ,H a=none
 fix:∀ a o,kO o=3->H a=some o->H' a=some o
 oth:∀ a o,a∉ρ->H a=some o->H' a=some o
 knd:∀ a o,H a=some o->∃ o',H' a=some o'/\kO o'=kO o
structure Up (ρ:List Addr) (H:Hp) (ρ':List Addr) (H':Hp):Prop where
 pre:∃ τ,ρ'=ρ++τ
 fix:∀ a o,kO o=3->H a=some o->H' a=some o
 knd:∀ a o,H a=some o->∃ o',H' a=some o'/\kO o'=kO o
section
variable {K:PySem.W.Frag}{ρ ρ1 ρ2:List Addr}{H H1 H2:Hp}{st st1:Sto}{v:V}{d:D}{vs:List V}{ds:List D}{a:Addr}
theorem Ex.lst (x:Ex ρ H ρ1 H1) (a:Addr) (xs:List V) (na:a∉ρ) (h:H a=some (.lst xs)):H1 a=some (.lst xs):=x.oth a _ na h
theorem Ex.trk (x:Ex ρ H ρ1 H1) (a:Addr) (o:HO) (h:H a=some o):H1 a≠none:=by
 obtain⟨o',e,_⟩:=x.knd a o h
 rw[e];exact fun z=>nomatch z
theorem Ex.up (x:Ex ρ H ρ1 H1):Up ρ H ρ1 H1:=⟨let ⟨τ,e,_⟩:=x.pre;⟨τ,e⟩,x.fix,x.knd⟩
theorem Up.grow {τ:List Addr}:Up ρ H (ρ++τ) H:=⟨⟨τ,rfl⟩,fun _ _ _ e=>e,fun _ o e=>⟨o,e,rfl⟩⟩
theorem Ex.refl:Ex ρ H ρ H:=⟨⟨[],by simp,by simp⟩,fun _ _ _ e=>e,fun _ _ _ e=>e,fun _ o e=>⟨o,e,rfl⟩⟩
theorem Ex.trans (x:Ex ρ H ρ1 H1) (y:Ex ρ1 H1 ρ2 H2):Ex ρ H ρ2 H2:=by
 obtain⟨τ1,rfl,f1⟩:=x.pre
 obtain⟨τ2,rfl,f2⟩:=y.pre
 refine⟨⟨τ1++τ2,by simp,fun a ha=>?_⟩,fun a o no e=>y.fix a o no (x.fix a o no e),fun a o na e=>?_,fun a o e=>?_⟩
 ·rcases List.mem_append.mp ha with ha | ha
  ·exact f1 a ha
  ·cases q:H a with
   | none=>rfl
   | some o=>exact absurd (f2 a ha) (x.trk a o q)
 ·refine y.oth a o (fun z=>?_) (x.oth a o na e)
  rcases List.mem_append.mp z with z | z
  ·exact na z
  ·rw[f1 a z]at e;cases e
 ·obtain⟨o1,e1,k1⟩:=x.knd a o e
  obtain⟨o2,e2,k2⟩:=y.knd a o1 e1
  exact⟨o2,e2,k2.trans k1⟩
theorem Ex.new {o:HO} (h:H a=none):Ex ρ H ρ (upd H a o):=
 ⟨⟨[],by simp,by simp⟩,fun b u _ e=>by rw[Qaj (Qal e h)];exact e,fun b u _ e=>by rw[Qaj (Qal e h)];exact e,
  fun b u e=>⟨u,by rw[Qaj (Qal e h)];exact e,rfl⟩⟩
theorem Ex.newO {o:HO} (h:H a=none):Ex ρ H (ρ++[a]) (upd H a o):=
 ⟨⟨[a],rfl,fun b hb=>by rw[List.mem_singleton]at hb;rw[hb];exact h⟩,(Ex.new (ρ:=ρ) h).fix,(Ex.new (ρ:=ρ) h).oth,(Ex.new (ρ:=ρ) h).knd⟩
theorem Ex.newL {vs:List V} (h:H a=none):Ex ρ H (ρ++[a]) (upd H a (.lst vs)):=Ex.newO h
theorem SqT.mono (x:Up ρ H ρ1 H1) (h:SqT K H a vs):SqT K H1 a vs:=by
 rcases h with h | h
 ·rcases h with h | ⟨o,h⟩
  ·exact .inl (.inl (x.fix a _ rfl h))
  ·exact .inl (.inr ⟨o,x.fix a _ rfl h⟩)
 ·exact .inr h
theorem FzL.mono (x:Up ρ H ρ1 H1) (h:FzL K H a vs):FzL K H1 a vs:=by
 rcases h with ⟨o,h⟩ | h
 ·exact .inl ⟨o,x.fix a _ rfl h⟩
 ·exact .inr h
theorem Qc1 {α:Type}{l τ:List α}{n:Nat}{a:α} (h:l[n]?=some a):(l++τ)[n]?=some a:=by
 rw[List.getElem?_append_left (List.getElem?_eq_some_iff.mp h).1];exact h
mutual
theorem Rep.up (x:Up ρ H ρ1 H1):∀ {v:V}{d:D},Rep K ρ H v d->Rep K ρ1 H1 v d
 | _,_,.non=>.non
 | _,_,.bl b=>.bl b
 | _,_,.int i=>.int i
 | _,_,.str y=>.str y
 | _,_,.tup h r=>.tup (SqT.mono x h) (Reps.up x r)
 | _,_,.lit h r=>.lit (FzL.mono x h) (Reps.up x r)
 | _,_,.ref ⟨o,ho,hk⟩ h=>by
  obtain⟨τ,e⟩:=x.pre
  obtain⟨o',ho',hk'⟩:=x.knd _ o ho
  exact .ref ⟨o',ho',hk'.trans hk⟩ (by rw[e];exact Qc1 h)
 | _,_,.dic ⟨o,ho,hk⟩ h=>by
  obtain⟨τ,e⟩:=x.pre
  obtain⟨o',ho',hk'⟩:=x.knd _ o ho
  exact .dic ⟨o',ho',by rw[hk'];exact hk⟩ (by rw[e];exact Qc1 h)
 | _,_,.exn0 g ⟨o,ho,hc⟩=>.exn0 g ⟨o,x.fix _ _ rfl ho,hc⟩
 | _,_,.exn g ⟨o,ho,hc⟩ h2 r=>.exn g ⟨o,x.fix _ _ rfl ho,hc⟩ (x.fix _ _ rfl h2) (Rep.up x r)
theorem Reps.up (x:Up ρ H ρ1 H1):∀ {vs:List V}{ds:List D},Reps K ρ H vs ds->Reps K ρ1 H1 vs ds
 | _,_,.nil=>.nil
 | _,_,.cons r t=>.cons (Rep.up x r) (Reps.up x t)
end
theorem Rep.mono (r:Rep K ρ H v d) (x:Ex ρ H ρ1 H1):Rep K ρ1 H1 v d:=r.up x.up
theorem Reps.mono (r:Reps K ρ H vs ds) (x:Ex ρ H ρ1 H1):Reps K ρ1 H1 vs ds:=r.up x.up
theorem Reps.length:∀ {vs:List V}{ds:List D},Reps K ρ H vs ds->vs.length=ds.length
 | _,_,.nil=>rfl
 | _,_,.cons _ t=>by simp[Reps.length t]
theorem Reps.get:∀ {vs:List V}{ds:List D}{i:Nat}{d:D},Reps K ρ H vs ds->ds[i]?=some d->∃ v,vs[i]?=some v/\Rep K ρ H v d
 | _,_,_,_,.nil,e=>by simp at e
 | _,_,0,_,.cons r _,e=>by simp at e;subst e;exact⟨_,rfl,r⟩
 | _,_,i + 1,_,.cons _ t,e=>by
  obtain⟨v,h1,h2⟩:=Reps.get (i:=i) t (by simpa using e)
  exact⟨v,by simpa using h1,h2⟩
theorem Reps.app:∀ {vs ws:List V}{ds es:List D},Reps K ρ H vs ds->Reps K ρ H ws es->Reps K ρ H (vs++ws) (ds++es)
 | _,_,_,_,.nil,s=>s
 | _,_,_,_,.cons r t,s=>.cons r (Reps.app t s)
theorem Reps.set:∀ {vs:List V}{ds:List D}{v:V}{d:D} (i:Nat),Reps K ρ H vs ds->Rep K ρ H v d->Reps K ρ H (vs.set i v) (ds.set i d)
 | _,_,_,_,_,.nil,_=>.nil
 | _,_,_,_,0,.cons _ t,r=>.cons r t
 | _,_,_,_,i + 1,.cons q t,r=>.cons q (Reps.set i t r)
theorem Reps.take:∀ {vs:List V}{ds:List D} (n:Nat),Reps K ρ H vs ds->Reps K ρ H (vs.take n) (ds.take n)
 | _,_,0,_=>.nil
 | _,_,_ + 1,.nil=>.nil
 | _,_,n + 1,.cons r t=>.cons r (Reps.take n t)
theorem Reps.drop:∀ {vs:List V}{ds:List D} (n:Nat),Reps K ρ H vs ds->Reps K ρ H (vs.drop n) (ds.drop n)
 | _,_,0,r=>r
 | _,_,_ + 1,.nil=>.nil
 | _,_,n + 1,.cons _ t=>Reps.drop n t
theorem LR.mono {σ:St}{l:Loc} (x:Ex ρ H ρ1 H1) (h:LR K ρ H σ l):LR K ρ1 H1 σ l:=
 ⟨h.1,fun i d e=>let ⟨v,e1,r⟩:=h.2 i d e;⟨v,e1,r.mono x⟩⟩
theorem SR.at (s:SR K ρ H st) {n:Nat}{o:MO} (e:st[n]?=some o):∃ a,ρ[n]?=some a/\ObR K ρ H a o:=by
 have hl:n < ρ.length:=by rw[s.len];exact (List.getElem?_eq_some_iff.mp e).1
 have q:ρ[n]?=some ρ[n]:=List.getElem?_eq_getElem hl
 exact⟨_,q,s.ob n _ o q e⟩
theorem SR.seq (s:SR K ρ H st) {n:Nat} (e:st[n]?=some (.lst ds)):∃ a vs,ρ[n]?=some a/\H a=some (.lst vs)/\Reps K ρ H vs ds:=by
 obtain⟨a,h,vs,q,r⟩:=s.at e
 exact⟨a,vs,h,q,r⟩
theorem ObR.ex {o:MO} (h:ObR K ρ H a o):∃ u,H a=some u:=by
 cases o with
 | lst ds=>obtain⟨vs,q,_⟩:=h;exact⟨_,q⟩
 | dct b kvs=>cases b<;>(obtain⟨vs,q,_⟩:=h;exact⟨_,q⟩)
theorem SR.fresh (s:SR K ρ H st) (h:H a=none):a∉ρ:=fun z=>by
 obtain⟨n,hn⟩:=List.getElem?_of_mem z
 have hl:n < st.length:=by rw[<- s.len];exact (List.getElem?_eq_some_iff.mp hn).1
 obtain⟨u,q⟩:=ObR.ex (s.ob n a _ hn (List.getElem?_eq_getElem hl))
 rw[h]at q;cases q
theorem Qc2 {n:Nat}{xs:List D}{s':Sto} (h:getL n st=.ok xs s'):s'=st/\st[n]?=some (.lst xs):=by
 unfold getL at h
 cases e:st[n]? with
 | none=>rw[e]at h;cases h
 | some o=>
  rw[e]at h
  cases o with
  | lst ds=>cases h;exact⟨rfl,rfl⟩
  | dct _ _=>cases h
theorem Paired.mapS {α β:Type}{F G:α->β->Prop}:∀ {l₁:List α}{l₂:List β},Paired F l₁ l₂->(∀ a b,F a b->G a b)->Paired G l₁ l₂
 | _,_,.nil,_=>.nil
 | _,_,.cons r t,f=>.cons (f _ _ r) (Paired.mapS t f)
theorem ObR.mono {o:MO} (x:Up ρ H ρ1 H1) (h:ObR K ρ H a o) (hk:∀ u,H a=some u->H1 a=some u):ObR K ρ1 H1 a o:=by
 cases o with
 | lst ds=>
  obtain⟨vs,q,r⟩:=h
  exact⟨vs,hk _ q,r.up x⟩
 | dct b kvs=>
  cases b with
  | false=>
   obtain⟨es,q,r⟩:=h
   exact⟨es,hk _ q,Paired.mapS r fun p q z=>⟨z.1,z.2.up x⟩⟩
  | true=>
   obtain⟨es,q,r⟩:=h
   exact⟨es,hk _ q,Paired.mapS r fun p q z=>⟨z.1,z.2.1.up x,z.2.2.up x⟩⟩
theorem SR.new {o:HO} (s:SR K ρ H st) (h:H a=none):SR K ρ (upd H a o) st:=
 ⟨s.len,s.nd,fun n b ob e1 e2=>ObR.mono (o:=ob) (Ex.new (ρ:=ρ) h).up (s.ob n b ob e1 e2) fun vs q=>by rw[Qaj (Qal q h)];exact q⟩
theorem SR.keepO {o':MO} (s:SR K ρ H st) (na:a∉ρ) (r:ObR K ρ H a o'):SR K (ρ++[a]) H (st++[o']):=by
 have hl:=s.len
 have old:∀ (n:Nat) (b:Addr),(ρ++[a])[n]?=some b->(n < ρ.length/\ρ[n]?=some b)\/(n=ρ.length/\b=a):=fun n b e=>by
  by_cases hn:n < ρ.length
  ·rw[List.getElem?_append_left hn]at e;exact .inl ⟨hn,e⟩
  ·rw[List.getElem?_append_right (by ac_nf)]at e
   have hz:n - ρ.length=0:=by
    cases q:n - ρ.length with
    | zero=>rfl
    | succ k=>rw[q]at e;simp at e
   rw[hz]at e
   simp at e
   exact .inr ⟨by ac_nf,e.symm⟩
 refine⟨by simp[hl],List.nodup_append.mpr ⟨s.nd,by simp,fun x hx y hy=>?_⟩,fun n b o e1 e2=>?_⟩
 ·rw[List.mem_singleton]at hy
  subst hy
  exact fun z=>na (z ▸ hx)
 ·rcases old n b e1 with ⟨hn,f1⟩ | ⟨hn,f1⟩
  ·rw[List.getElem?_append_left (by ac_nf)]at e2
   exact ObR.mono (o:=o) Up.grow (s.ob n b o f1 e2) fun _ q=>q
  ·subst f1
   have:o=o':=by
    rw[hn,hl,List.getElem?_append_right (Nat.le_refl _)]at e2
    simp at e2;exact e2.symm
   subst this
   exact ObR.mono (o:=o) Up.grow r fun _ q=>q
theorem SR.keep (s:SR K ρ H st) (h:H a=some (.lst vs)) (na:a∉ρ) (r:Reps K ρ H vs ds):SR K (ρ++[a]) H (st++[.lst ds]):=s.keepO na ⟨vs,h,r⟩
theorem SR.putO (s : SR K ρ H st) {n : Nat} {o' : MO} {u u' : HO} (hl : n < st.length) (ha : ρ[n]? = some a) (hu : H a = some u) (k3 : kO u ≠ 3) (hk : kO u' = kO u) (r : ObR K ρ (upd H a u') a o') :
  SR K ρ (upd H a u') (st.set n o')/\Ex ρ H ρ (upd H a u'):=by
 have x:Ex ρ H ρ (upd H a u'):=by
  refine⟨⟨[],by simp,by simp⟩,fun b o no q=>?_,fun b xs nb q=>?_,fun b o q=>?_⟩
  ·have:b≠a:=fun z=>by subst z;rw[hu]at q;cases q;exact k3 no
   rw[Qaj this];exact q
  ·have:b≠a:=fun z=>by subst z;exact nb (List.mem_of_getElem? ha)
   rw[Qaj this];exact q
  ·by_cases z:b=a
   ·subst z;rw[hu]at q;cases q;exact⟨u',Qai,hk⟩
   ·exact⟨o,by rw[Qaj z];exact q,rfl⟩
 refine⟨⟨by simp[s.len],s.nd,fun m b o e1 e2=>?_⟩,x⟩
 by_cases z:m=n
 ·subst z
  rw[ha]at e1;cases e1
  rw[List.getElem?_set_self hl]at e2;cases e2
  exact r
 ·rw[List.getElem?_set_ne (Ne.symm z)]at e2
  refine ObR.mono (o:=o) x.up (s.ob m b o e1 e2) fun us q=>?_
  have:b≠a:=fun w=>by
   subst w
   exact z ((List.getElem?_inj (List.getElem?_eq_some_iff.mp e1).1 s.nd).mp (e1.trans ha.symm))
  rw[Qaj this];exact q
theorem SR.put (s : SR K ρ H st) {n : Nat} {ws : List V} (hl : n < st.length) (ha : ρ[n]? = some a) (hw : H a = some (.lst ws)) (r : Reps K ρ H vs ds) :
  SR K ρ (upd H a (.lst vs)) (st.set n (.lst ds))/\Ex ρ H ρ (upd H a (.lst vs)):=by
 have u:Up ρ H ρ (upd H a (.lst vs)):=by
  refine⟨⟨[],by simp⟩,fun b o no q=>?_,fun b o q=>?_⟩
  ·have:b≠a:=fun z=>by subst z;rw[hw]at q;cases q;exact nomatch no
   rw[Qaj this];exact q
  ·by_cases z:b=a
   ·subst z;rw[hw]at q;cases q;exact⟨_,Qai,rfl⟩
   ·exact⟨o,by rw[Qaj z];exact q,rfl⟩
 exact s.putO hl ha hw (by show (0:Nat)≠3;decide) rfl ⟨vs,Qai,r.up u⟩
theorem Qc3 (k:∃ o,H a=some o/\kO o=0):∃ vs,H a=some (.lst vs):=by
 obtain⟨o,e,hk⟩:=k
 cases o with
 | lst vs=>exact⟨vs,e⟩
 | _=>exact nomatch hk
def Post {α:Type} (K:PySem.W.Frag) (ρ:List Addr) (H:Hp) (r:Rs α) (R:α->Sto->List Addr->Hp->Prop):Prop:=match r with
 | .ok a st=>∀ ρ' H',Ex ρ H ρ' H'->SR K ρ' H' st->R a st ρ' H'
 | _=>False
theorem Post.left {α:Type}{r:Rs α}{R:α->Sto->List Addr->Hp->Prop} (x:Ex ρ H ρ1 H1) (h:Post K ρ H r R):Post K ρ1 H1 r R:=by
 cases r with
 | ok a st=>exact fun ρ' H' y s=>h ρ' H' (x.trans y) s
 | exc _ _=>exact h
 | bad=>exact h
theorem Post.imp {α:Type}{r:Rs α}{R R':α->Sto->List Addr->Hp->Prop} (h:Post K ρ H r R) (f:∀ a st ρ' H',Ex ρ H ρ' H'->SR K ρ' H' st->R a st ρ' H'->R' a st ρ' H'):Post K ρ H r R':=by
 cases r with
 | ok a st=>exact fun ρ' H' y s=>f a st ρ' H' y s (h ρ' H' y s)
 | exc _ _=>exact h
 | bad=>exact h
theorem Post.bnd {α β:Type}{m:M α}{f:α->M β}{R:β->Sto->List Addr->Hp->Prop} (h:Post K ρ H (bnd m f st) R):Post K ρ H (m st) fun a st' ρ' H'=>Post K ρ' H' (f a st') R:=by
 unfold MM.bnd at h
 cases e:m st with
 | ok a s'=>
  rw[e]at h
  exact fun ρ' H' y s=>h.left y
 | exc _ _=>rw[e]at h;exact h
 | bad=>rw[e]at h;exact h
theorem Post.ret {α:Type}{a:α}{R:α->Sto->List Addr->Hp->Prop} (h:Post K ρ H (MM.ret a st) R) (s:SR K ρ H st):R a st ρ H:=h ρ H Ex.refl s
theorem Post.chk {α:Type}{c:Prop} [Decidable c] {m:M α}{R:α->Sto->List Addr->Hp->Prop} (h:Post K ρ H (MM.chk c m st) R):c/\Post K ρ H (m st) R:=by
 unfold MM.chk at h
 by_cases hc:c
 ·rw[if_pos hc]at h;exact⟨hc,h⟩
 ·rw[if_neg hc]at h;exact h.elim
theorem Post.getL {n:Nat}{R:List D->Sto->List Addr->Hp->Prop} (h:Post K ρ H (MM.getL n st) R) (s:SR K ρ H st):∃ xs,st[n]?=some (.lst xs)/\R xs st ρ H:=by
 cases e:MM.getL n st with
 | ok xs s'=>
  obtain⟨rfl,q⟩:=Qc2 e
  rw[e]at h
  exact⟨xs,q,h ρ H Ex.refl s⟩
 | exc _ _=>rw[e]at h;exact h.elim
 | bad=>rw[e]at h;exact h.elim
def tOf (K:PySem.W.Frag) (f:CE):TE:=fun σ H Q=>∃ ρ l st,LR K ρ H σ l/\SR K ρ H st/\Post K ρ H (f l st) fun d _ ρ' H'=>∀ v,Rep K ρ' H' v d->Q v H'
def ttOf (K:PySem.W.Frag) (f:CT):TT:=fun σ H Q=>∃ ρ l st,LR K ρ H σ l/\SR K ρ H st/\Post K ρ H (f l st) fun b _ _ H'=>Q b H'
def taOf (K:PySem.W.Frag) (f:CA):TA:=fun σ H Q=>∃ ρ l st,LR K ρ H σ l/\SR K ρ H st/\Post K ρ H (f l st) fun ds _ ρ' H'=>∀ vs,Reps K ρ' H' vs ds->Q vs H'
def tlOf (K:PySem.W.Frag) (f:CA):TE:=fun σ H Q=>∃ ρ l st,LR K ρ H σ l/\SR K ρ H st/\Post K ρ H (f l st) fun ds _ ρ' H'=>∀ a vs,H a=none->a∉ρ'->H' a=some (.lst vs)->Reps K ρ' H' vs ds->Q (.ref a) H'
def tsOf (K:PySem.W.Frag) (c:CS):TS:=fun G σ H=>∃ ρ l st,LR K ρ H σ l/\SR K ρ H st/\Post K ρ H (c l st) fun f _ ρ' H'=>match f with
 | .next l'=>∀ σ',LR K ρ' H' σ' l'->G.nx σ' H'
 | .ret d=>∀ v,Rep K ρ' H' v d->G.rt v H'
 | .brk l'=>∀ σ',LR K ρ' H' σ' l'->G.bk σ' H'
 | .cnt l'=>∀ σ',LR K ρ' H' σ' l'->G.ct σ' H'
def tgOf (K:PySem.W.Frag) (g:CG):TG:=fun v σ H Q=>∃ ρ l st d,LR K ρ H σ l/\SR K ρ H st/\Rep K ρ H v d/\Post K ρ H (g d l st) fun l' _ ρ' H'=>∀ σ',LR K ρ' H' σ' l'->Q σ' H'
def tgsOf (K:PySem.W.Frag) (g:List D->Loc->M Loc):TGs:=fun vs σ H Q=>∃ ρ l st ds,LR K ρ H σ l/\SR K ρ H st/\Reps K ρ H vs ds/\Post K ρ H (g ds l st) fun l' _ ρ' H'=>∀ σ',LR K ρ' H' σ' l'->Q σ' H'
def rOf (K:PySem.W.Frag) (g:D->D->M D):R2:=fun x y H Q=>∃ ρ st d e,SR K ρ H st/\Rep K ρ H x d/\Rep K ρ H y e/\Post K ρ H (g d e st) fun r _ ρ' H'=>∀ v,Rep K ρ' H' v r->Q v H'
def uOf (K:PySem.W.Frag) (g:D->M D):V->Hp->VK->Prop:=fun x H Q=>∃ ρ st d,SR K ρ H st/\Rep K ρ H x d/\Post K ρ H (g d st) fun r _ ρ' H'=>∀ v,Rep K ρ' H' v r->Q v H'
def kOf (K:PySem.W.Frag) (g:List D->M D):List V->Hp->VK->Prop:=fun xs H Q=>∃ ρ st ds,SR K ρ H st/\Reps K ρ H xs ds/\Post K ρ H (g ds st) fun r _ ρ' H'=>∀ v,Rep K ρ' H' v r->Q v H'
def spOf (K:PySem.W.Frag) (n:Nat) (g:List D->M D):Sp:=fun vs H Q _=>vs.length=n/\kOf K g vs H Q
end
section
variable {X:Cx}{a b c:Expr}{pos:Pos}
abbrev SE (X:Cx) (e:Expr) (f:CE):Prop:=PE X e (tOf X.K f)
abbrev SL (X:Cx) (e:Expr) (f:CA):Prop:=PE X e (tlOf X.K f)
abbrev ST (X:Cx) (e:Expr) (f:CT):Prop:=PT X e (ttOf X.K f)
abbrev SA (X:Cx) (es:List Expr) (f:CA):Prop:=PA X es (taOf X.K f)
abbrev SS (X:Cx) (s:Stmt) (f:CS):Prop:=PS X s (tsOf X.K f)
abbrev SSs (X:Cx) (s:List Stmt) (f:CS):Prop:=PSs X s (tsOf X.K f)
theorem _root_.L2.PE.of {e:Expr}{t t':TE} (h:PE X e t) (f:∀ σ H Q,t' σ H Q->t σ H Q):PE X e t':=fun pins s σ H Q I q=>h pins s σ H Q I (f σ H Q q)
theorem _root_.L2.PT.of {e:Expr}{t t':TT} (h:PT X e t) (f:∀ σ H Q,t' σ H Q->t σ H Q):PT X e t':=fun pins s σ H Q I q=>h pins s σ H Q I (f σ H Q q)
theorem _root_.L2.PA.of {e:List Expr}{t t':TA} (h:PA X e t) (f:∀ σ H Q,t' σ H Q->t σ H Q):PA X e t':=fun pos pins s σ H Q I q=>h pos pins s σ H Q I (f σ H Q q)
theorem _root_.L2.PS.of {e:Stmt}{t t':TS} (h:PS X e t) (f:∀ D σ H,t' D σ H->t D σ H):PS X e t':=fun pins s σ H D I q=>h pins s σ H D I (f D σ H q)
theorem _root_.L2.PSs.of {e:List Stmt}{t t':TS} (h:PSs X e t) (f:∀ D σ H,t' D σ H->t D σ H):PSs X e t':=fun pins s σ H D I q=>h pins s σ H D I (f D σ H q)
theorem _root_.L2.PG.of {e:Expr}{t t':TG} (h:PG X e t) (f:∀ v σ H Q,t' v σ H Q->t v σ H Q):PG X e t':=fun pins s σ H v u Q I r q=>h pins s σ H v u Q I r (f v σ H Q q)
theorem _root_.L2.PGs.of {e:List Expr}{t t':TGs} (h:PGs X e t) (f:∀ v σ H Q,t' v σ H Q->t v σ H Q):PGs X e t':=fun pins s σ H v u Q I r q=>h pins s σ H v u Q I r (f v σ H Q q)
theorem _root_.L2.OpR.of {f:Value->Value->Sem Value}{r r':R2} (h:OpR X f r) (g:∀ x y H Q,r' x y H Q->r x y H Q):OpR X f r':=fun pins s σ H x y v u Q I rx ry q=>h pins s σ H x y v u Q I rx ry (g x y H Q q)
theorem _root_.L2.CallR.of {f:Value}{r r':List V->Hp->VK->Prop} (h:CallR X f r) (g:∀ x H Q,r' x H Q->r x H Q):CallR X f r':=fun pins s σ H x u Q I rx q=>h pins s σ H x u Q I rx (g x H Q q)
variable {fa fb fc:CE}
theorem Qc4 (i:Nat) {x:Str} (h:PE X (.Name x pos) (tVar i)):SE X (.Name x pos) (cVar i):=h.of fun σ H Q pq41=>by
 obtain⟨ρ,l,st,lr,sr,p⟩:=pq41
 unfold cVar at p
 cases e:l[i]? with
 | none=>rw[e]at p;exact p.elim
 | some o=>
  rw[e]at p
  cases o with
  | none=>exact p.elim
  | some d=>
   obtain⟨v,e1,r⟩:=lr.2 i d e
   exact⟨v,e1,p.ret sr v r⟩
theorem Qc5 {i:Int}{j:Nat}:SE X (.Constant (.int i) j pos) (cCon (.int i)):=(Qat (i:=i) (j:=j) (pos:=pos)).of fun σ H Q pq42=>by obtain⟨ρ,l,st,lr,sr,p⟩:=pq42;exact p.ret sr _ (.int i)
theorem Qc6 {i:Bool}{j:Nat}:SE X (.Constant (.bool i) j pos) (cCon (.bl i)):=(Qau (b:=i) (j:=j) (pos:=pos)).of fun σ H Q pq43=>by obtain⟨ρ,l,st,lr,sr,p⟩:=pq43;exact p.ret sr _ (.bl i)
theorem Qc7 {j:Nat}:SE X (.Constant .none j pos) (cCon .non):=(Qav (j:=j) (pos:=pos)).of fun σ H Q pq44=>by obtain⟨ρ,l,st,lr,sr,p⟩:=pq44;exact p.ret sr _ .non
theorem Qc8 {i:Str}{j:Nat}:SE X (.Constant (.str i) j pos) (cCon (.str i)):=(Qaw (x:=i) (j:=j) (pos:=pos)).of fun σ H Q pq45=>by obtain⟨ρ,l,st,lr,sr,p⟩:=pq45;exact p.ret sr _ (.str i)
theorem Qc9 {g:D->D->M D}{r:R2} (hr:∀ x y H Q,rOf X.K g x y H Q->r x y H Q):∀ σ H Q,tOf X.K (c2 g fa fb) σ H Q->tOp r (tOf X.K fa) (tOf X.K fb) σ H Q:=fun σ H Q pq46=>
 by obtain⟨ρ,l,st,lr,sr,p⟩:=pq46;exact⟨ρ,l,st,lr,sr,p.bnd.imp fun d st1 ρ1 H1 x1 s1 p1 v rv=>⟨ρ1,l,st1,lr.mono x1,s1,p1.bnd.imp fun e st2 ρ2 H2 x2 s2 p2 u ru=>hr _ _ _ _ ⟨ρ2,st2,d,e,s2,rv.mono x2,ru,p2⟩⟩⟩
theorem Qda {op:Operator}{g:D->D->M D} (ho:OpR X (binaryOp op) (rOf X.K g)) (ha:SE X a fa) (hb:SE X b fb):SE X (.BinOp a op b pos) (c2 g fa fb):=
 (Qa4 ho ha hb).of (Qc9 fun _ _ _ _ h=>h)
theorem Qdb {op:CmpOp}{g:D->D->M D} (ho:OpR X (compareOp op) (rOf X.K g)) (ha:SE X a fa) (hb:SE X b fb) (hm:behindInMarks op b=false):SE X (.Compare a [op] [b] pos) (c2 g fa fb):=
 (Qbm ho ha hb hm).of (Qc9 fun _ _ _ _ h=>h)
end
theorem _root_.Exists.el {α β γ:Type}{A B C:α->β->γ->Prop}{G:Prop} (h:∃ a b c,A a b c/\B a b c/\C a b c) (k:∀ a b c,A a b c->B a b c->C a b c->G):G:=by
 obtain⟨ρ,l,st,a,b,c⟩:=h;exact k ρ l st a b c
theorem tOf.el {K:PySem.W.Frag}{f:CE}{σ:St}{H:Hp}{Q:VK}{C:Prop} (h:tOf K f σ H Q) (k:∀ ρ l st,LR K ρ H σ l->SR K ρ H st->Post K ρ H (f l st) (fun d _ ρ' H'=>∀ v,Rep K ρ' H' v d->Q v H')->C):C:=by
 obtain⟨ρ,l,st,a,b,c⟩:=h;exact k ρ l st a b c
theorem ttOf.el {K:PySem.W.Frag}{f:CT}{σ:St}{H:Hp}{Q:Bool->Hp->Prop}{C:Prop} (h:ttOf K f σ H Q) (k:∀ ρ l st,LR K ρ H σ l->SR K ρ H st->Post K ρ H (f l st) (fun b _ _ H'=>Q b H')->C):C:=by
 obtain⟨ρ,l,st,a,b,c⟩:=h;exact k ρ l st a b c
theorem tsOf.el {K:PySem.W.Frag}{c:CS}{σ:St}{H:Hp}{G:Ends}{C:Prop} (h:tsOf K c G σ H) (k:∀ ρ l st,LR K ρ H σ l->SR K ρ H st->Post K ρ H (c l st) (fun f _ ρ' H'=>match f with
 | .next l'=>∀ σ',LR K ρ' H' σ' l'->G.nx σ' H'
 | .ret d=>∀ v,Rep K ρ' H' v d->G.rt v H'
 | .brk l'=>∀ σ',LR K ρ' H' σ' l'->G.bk σ' H'
 | .cnt l'=>∀ σ',LR K ρ' H' σ' l'->G.ct σ' H')->C):C:=by
 obtain⟨ρ,l,st,a,b,c⟩:=h;exact k ρ l st a b c
end MM
namespace MM
open PySem PySem.Spec PyProof.Rows L2
theorem Qdc:∀ (a b:List Int),eqKs (a.map .int) (b.map .int)=decide (a=b)
 | [],[]=>by simp[eqKs]
 | [],_::_=>by simp[eqKs]
 | _::_,[]=>by simp[eqKs]
 | x::xs,y::ys=>by
  rw[List.map_cons,List.map_cons]
  show (eqK (.int x) (.int y) && eqKs _ _)=_
  rw[Qdc xs ys]
  show (decide (x=y) && _)=_
  simp[Bool.decide_and]
theorem Qdd:∀ (a b:KI),eqK (itD a) (itD b)=decide (a=b)
 | .inl i,.inl j=>by
  show decide (i=j)=_
  by_cases z:i=j
  ·subst z;simp
  ·rw[decide_eq_false z,decide_eq_false (fun q=>z (by injection q))]
 | .inl i,.inr r=>by rw[decide_eq_false (by simp)];rfl
 | .inr r,.inl i=>by rw[decide_eq_false (by simp)];rfl
 | .inr r,.inr q=>by
  show eqKs (r.map .int) (q.map .int)=_
  rw[Qdc]
  by_cases z:r=q
  ·subst z;simp
  ·rw[decide_eq_false z,decide_eq_false (fun q=>z (by injection q))]
theorem Qde:∀ (a b:List KI),eqKs (a.map itD) (b.map itD)=decide (a=b)
 | [],[]=>by simp[eqKs]
 | [],_::_=>by simp[eqKs]
 | _::_,[]=>by simp[eqKs]
 | x::xs,y::ys=>by
  rw[List.map_cons,List.map_cons]
  show (eqK (itD x) (itD y) && eqKs _ _)=_
  rw[Qde xs ys,Qdd]
  simp[Bool.decide_and]
theorem Qdf (a b:NK):eqK (stD a) (stD b)=decide (a=b):=Qde a b
theorem Qdg (a b:Key):eqK (keyD a) (keyD b)=decide (a=b):=by
 cases a<;>cases b<;>simp[keyD,eqK]
theorem Qdh:∀ {ds:List D}{r:List Int},intsK ds=some r->ds=r.map .int
 | [],r,h=>by simp[intsK]at h;subst h;rfl
 | d::ds,r,h=>by
  cases d with
  | int i=>
   unfold intsK at h
   cases e:intsK ds with
   | none=>rw[e]at h;cases h
   | some q=>
    rw[e]at h
    cases h
    rw[List.map_cons,Qdh e]
  | _=>cases h
theorem Qdi:∀ {ds:List D}{r:NK},rowsK ds=some r->ds=r.map itD
 | [],r,h=>by simp[rowsK]at h;subst h;rfl
 | d::ds,r,h=>by
  cases d with
  | tup xs=>
   unfold rowsK at h
   cases e:intsK xs with
   | none=>rw[e]at h;cases h
   | some q=>
    cases e2:rowsK ds with
    | none=>rw[e,e2]at h;cases h
    | some q2=>
     rw[e,e2]at h
     cases h
     rw[List.map_cons,<- Qdi e2]
     show _=D.tup (q.map .int)::ds
     rw[<- Qdh e]
  | int i=>
   unfold rowsK at h
   cases e2:rowsK ds with
   | none=>rw[e2]at h;cases h
   | some q2=>
    rw[e2]at h
    cases h
    rw[List.map_cons,<- Qdi e2];rfl
  | _=>cases h
theorem Qdj {d:D}{r:NK} (h:stK d=some r):d=stD r:=by
 cases d with
 | tup ds=>show D.tup ds=D.tup _;rw[Qdi h]
 | _=>cases h
theorem Qdk {d:D} (h:kOk true d=true):∃ k,d=stD k:=by
 cases e:stK d with
 | none=>
  have:kOk true d=(stK d).isSome:=by cases d<;>rfl
  rw[this,e]at h;cases h
 | some k=>exact⟨k,Qdj e⟩
theorem Qdl {d:D} (h:kOk false d=true):∃ k,d=keyD k:=by
 cases d with
 | int i=>exact⟨.inl i,rfl⟩
 | str x=>exact⟨.inr x,rfl⟩
 | _=>cases h
section
variable {X:Cx}{K:PySem.W.Frag}{ρ:List Addr}{H:Hp}{st:Sto}{pins:List (Addr × Obj)}{σ:St}{s:Shared}{a b:Addr}
theorem Qdm {k:Key}{v:V} (r:Rep K ρ H v (keyD k)):v=kV k:=by
 cases k with
 | inl i=>cases r;rfl
 | inr x=>cases r;rfl
abbrev KR (K:PySem.W.Frag) (ρ:List Addr) (H:Hp):List (Key × V)->List (D × D)->Prop:=Paired fun (p:Key × V) (q:D × D)=>keyD p.1=q.1/\Rep K ρ H p.2 q.2
def RO (K:PySem.W.Frag) (ρ:List Addr) (H:Hp):Option V->Option D->Prop
 | some v,some d=>Rep K ρ H v d
 | none,none=>True
 | _,_=>False
theorem RO.some_of {o:Option V}{d:D} (h:RO K ρ H o (some d)):∃ v,o=some v/\Rep K ρ H v d:=by
 cases o with
 | none=>exact h.elim
 | some v=>exact⟨v,rfl,h⟩
theorem RO.isSome_eq {o:Option V}{d:Option D} (h:RO K ρ H o d):o.isSome=d.isSome:=by
 cases o<;>cases d<;>first | rfl | exact h.elim
theorem KR.val {es:List (Key × V)}{kvs:List (D × D)} (r:KR K ρ H es kvs) (k:Key):RO K ρ H (valV es k) (lkK kvs (keyD k)):=by
 induction r with
 | nil=>exact True.intro
 | @cons p q ps qs h t ih=>
  obtain⟨h1,h2⟩:=h
  unfold lkK
  rw[List.find?_cons,<- h1,Qdg]
  by_cases e:p.1=k
  ·rw[Qcz e,decide_eq_true e];exact h2
  ·rw[QcA e,decide_eq_false e];exact ih
theorem KR.any {es:List (Key × V)}{kvs:List (D × D)} (r:KR K ρ H es kvs) (k:Key):(es.any fun kv=>decide (kv.1=k))=kvs.any fun p=>eqK p.1 (keyD k):=by
 induction r with
 | nil=>rfl
 | @cons p q ps qs h t ih=>rw[List.any_cons,List.any_cons,ih,<- h.1,Qdg]
theorem KR.put {es:List (Key × V)}{kvs:List (D × D)} (r:KR K ρ H es kvs) (k:Key) {v:V}{d:D} (rv:Rep K ρ H v d):KR K ρ H (L2.putK es k v) (ptK kvs (keyD k) d):=by
 unfold L2.putK ptK
 rw[r.any k]
 by_cases e:(kvs.any fun p=>eqK p.1 (keyD k))=true
 ·rw[if_pos e,if_pos e]
  clear e
  induction r with
  | nil=>exact .nil
  | @cons p q ps qs h t ih=>
   rw[List.map_cons,List.map_cons]
   refine .cons ?_ ih
   rw[<- h.1,Qdg]
   by_cases e:p.1=k
   ·rw[if_pos e,if_pos (decide_eq_true e)];exact⟨rfl,rv⟩
   ·rw[if_neg e,if_neg (by rw[decide_eq_false e];exact Bool.false_ne_true)];exact h
 ·rw[if_neg e,if_neg e]
  exact Paired.snoc r ⟨rfl,rv⟩
theorem KR.up {ρ1:List Addr}{H1:Hp} (x:Up ρ H ρ1 H1) {es:List (Key × V)}{kvs:List (D × D)} (r:KR K ρ H es kvs):KR K ρ1 H1 es kvs:=Paired.mapS r fun _ _ z=>⟨z.1,z.2.up x⟩
theorem KR.length {es:List (Key × V)}{kvs:List (D × D)} (r:KR K ρ H es kvs):es.length=kvs.length:=Paired.length r
abbrev NR (K:PySem.W.Frag) (ρ:List Addr) (H:Hp):List (NK × Addr × V)->List (D × D)->Prop:=Paired fun (p:NK × Addr × V) (q:D × D)=>stD p.1=q.1/\Rep K ρ H (.ref p.2.1) q.1/\Rep K ρ H p.2.2 q.2
abbrev NX:List (NK × Addr × V)->List (NK × Addr × Value)->Prop:=Paired fun (p:NK × Addr × V) (q:NK × Addr × Value)=>p.1=q.1/\p.2.1=q.2.1/\RelV p.2.2 q.2.2
abbrev nkd (X:Cx):HeapKind X.prog X.w NK:=nestKind X.prog X.w
theorem Qdn {P:Program}{w:World}:∀ {r:List Int}{vs:List V}{us:List Value},Reps K ρ H vs (r.map .int)->Vals vs us->ItemsAre (intKind P w) r us
 | [],_,_,h,g=>by cases h;cases g;exact .nil
 | i::r,_,_,h,g=>by
  cases h with
  | cons h1 ht=>
   cases h1
   cases g with
   | cons g1 gt=>
    obtain⟨t,e⟩:=g1
    subst e
    exact .cons (by show Value.isInt i (Value.int i t)=true;simp[Value.isInt]) (Qdn ht gt)
theorem Qdo {r:List Int}{v:V}{u:Value} (I:Inv X pins σ H s) (h:Rep X.K ρ H v (rowD r)) (g:RelV v u):∃ b,u=.ref b/\IsTupleKey (intKind X.prog X.w) s.heap r b:=by
 cases h with
 | @tup b vs ds h q=>
  have e:u=Value.ref b:=g
  subst e
  obtain⟨its,rv,⟨o,h1,h2,n,h3⟩,_⟩:=I.tuple h
  exact⟨b,rfl,o,its.toArray,n,h1,h2,h3,by simpa using Qdn q rv⟩
theorem Qdp (I:Inv X pins σ H s):∀ {k:NK}{vs:List V}{us:List Value},Reps X.K ρ H vs (k.map itD)->Vals vs us->TIts X.prog X.w s.heap k us
 | [],_,_,h,g=>by cases h;cases g;exact .nil
 | r::k,_,_,h,g=>by
  cases h with
  | cons h1 ht=>
   cases g with
   | cons g1 gt=>
    refine .cons ?_ (Qdp I ht gt)
    cases r with
    | inl i=>
     cases (show Rep X.K ρ H _ (.int i) from h1)
     obtain⟨t,e⟩:=g1
     subst e
     exact .one i t
    | inr r=>
     obtain⟨b,e,hb⟩:=Qdo I h1 g1
     subst e
     exact .row hb
theorem Qdq {k:NK}{v:V}{u:Value} (I:Inv X pins σ H s) (h:Rep X.K ρ H v (stD k)) (g:RelV v u):∃ b,v=.ref b/\u=.ref b/\(nkd X).is s.heap k b:=by
 cases h with
 | @tup b vs ds h q=>
  have e:u=Value.ref b:=g
  subst e
  obtain⟨its,rv,⟨o,h1,h2,n,h3⟩,_⟩:=I.tuple h
  exact⟨b,rfl,rfl,o,its.toArray,n,h1,h2,h3,by simpa using Qdp I q rv⟩
theorem Qdr {es : List (NK × Addr × V)} {kvs : List (D × D)} (I : Inv X pins σ H s) (e : H a = some (nstO a es)) (r : NR X.K ρ H es kvs) :
  es.length<=sizeLine/\(a == sysModules)=false/\∃ xs,NX es xs/\s.heap.DictOfH (nkd X) a xs/\EpAt s.heap a xs.length:=by
 obtain⟨⟨z,y,xs,rx,o,es',ep,h1,h2,h3,h4,h5,h6⟩,w1,w2⟩:=(show ObjOk X.prog X.w H s.heap a (nstO a es) from I.hok a _ e)
 subst h6
 refine⟨z,y,xs,rx,⟨o,es',_,h1,h2,h3,h4,?_,h5⟩,⟨o,es',h1,h3⟩⟩
 clear h1 h2 h3 h4 h5 e z y w1 w2
 induction rx generalizing kvs with
 | nil=>intro x hx;exact nomatch hx
 | @cons p q ps qs h t ih=>
  cases r with
  | cons g gt=>
   intro x hx
   rcases List.mem_cons.mp hx with e | hx
   ·subst e
    obtain⟨b,e1,_,hb⟩:=Qdq I (by rw[g.1];exact g.2.1) (show RelV (.ref p.2.1) (.ref p.2.1) from rfl)
    cases e1
    rw[<- h.1,<- h.2.1]
    exact hb
   ·exact ih gt x hx
theorem Qds {H' : Hp} {h' : Heap} {P : Program} {w : World} {es : List (NK × Addr × V)} {xs : List (NK × Addr × Value)} (z : es.length <= sizeLine) (y : (a == sysModules) = false) (r : NX es xs) (dd : h'.DictOfH (nestKind P w) a xs) (de : EpAt h' a xs.length) :
  ObjOk P w H' h' a (nstO a es):=by
 obtain⟨o,es',ep,h1,h2,h3,h4,_,h5⟩:=dd
 obtain⟨o2,es2,g1,g3⟩:=de
 rw[h1]at g1;cases g1
 rw[h3]at g3;cases g3
 refine⟨⟨z,y,xs,r,o,es',_,h1,h2,h3,h4,h5,rfl⟩,⟨o,h1⟩,?_⟩
 rintro g1 g2 ⟨z,y,xs,r,o,es',ep,h1,h2⟩ k
 exact⟨z,y,xs,r,o,es',ep,k o h1,h2⟩
def valN (es:List (NK × Addr × V)) (k:NK):Option V:=(es.find? fun p=>decide (p.1=k)).map (·.2.2)
def putN (es:List (NK × Addr × V)) (k:NK) (b:Addr) (v:V):List (NK × Addr × V):=if (es.any fun p=>decide (p.1=k))=true then es.map (fun p=>if p.1=k then (p.1,p.2.1,v) else p) else es++[(k,b,v)]
theorem NR.val {es:List (NK × Addr × V)}{kvs:List (D × D)} (r:NR K ρ H es kvs) (k:NK):RO K ρ H (valN es k) (lkK kvs (stD k)):=by
 induction r with
 | nil=>exact True.intro
 | @cons p q ps qs h t ih=>
  obtain⟨h1,_,h2⟩:=h
  unfold lkK valN
  rw[List.find?_cons,List.find?_cons,<- h1,Qdf]
  by_cases e:p.1=k
  ·rw[decide_eq_true e];exact h2
  ·rw[decide_eq_false e];exact ih
theorem NX.val {es:List (NK × Addr × V)}{xs:List (NK × Addr × Value)} (r:NX es xs) (k:NK):RelO (valN es k) ((atKey xs k).map (·.2)):=by
 induction r with
 | nil=>exact True.intro
 | @cons p q ps qs h t ih=>
  obtain⟨h1,_,h2⟩:=h
  unfold atKey valN
  rw[List.find?_cons,List.find?_cons,<- h1]
  by_cases e:p.1=k
  ·rw[decide_eq_true e];exact h2
  ·rw[decide_eq_false e];exact ih
theorem NX.put {es:List (NK × Addr × V)}{xs:List (NK × Addr × Value)} (r:NX es xs) (k:NK) (b:Addr) {v:V}{u:Value} (rv:RelV v u):NX (putN es k b v) (storedH xs k b u):=by
 have e:(es.any fun p=>decide (p.1=k))=(atKey xs k).isSome:=by
  clear rv
  induction r with
  | nil=>rfl
  | @cons p q ps qs h t ih=>
   rw[List.any_cons,ih]
   unfold atKey
   rw[List.find?_cons,<- h.1]
   by_cases e:p.1=k
   ·rw[decide_eq_true e];rfl
   ·rw[decide_eq_false e];rfl
 unfold putN storedH
 rw[e]
 by_cases q:(atKey xs k).isSome=true
 ·rw[if_pos q,if_pos q]
  clear q e
  induction r with
  | nil=>exact .nil
  | @cons p q ps qs h t ih=>
   rw[List.map_cons,List.map_cons]
   refine .cons ?_ ih
   unfold putAt
   by_cases e:p.1=k
   ·rw[if_pos e,if_pos (h.1.symm.trans e)];exact⟨h.1,h.2.1,rv⟩
   ·rw[if_neg e,if_neg (fun z=>e (h.1.trans z))];exact h
 ·rw[if_neg q,if_neg q];exact Paired.snoc r ⟨rfl,rfl,rv⟩
theorem NR.put {es:List (NK × Addr × V)}{kvs:List (D × D)} (r:NR K ρ H es kvs) (k:NK) (b:Addr) {v:V}{d:D} (rk:Rep K ρ H (.ref b) (stD k)) (rv:Rep K ρ H v d):NR K ρ H (putN es k b v) (ptK kvs (stD k) d):=by
 have e:(es.any fun p=>decide (p.1=k))=kvs.any fun p=>eqK p.1 (stD k):=by
  clear rk rv
  induction r with
  | nil=>rfl
  | @cons p q ps qs h t ih=>rw[List.any_cons,List.any_cons,ih,<- h.1,Qdf]
 unfold putN ptK
 rw[e]
 clear e
 by_cases e:(kvs.any fun p=>eqK p.1 (stD k))=true
 ·rw[if_pos e,if_pos e]
  clear e
  induction r with
  | nil=>exact .nil
  | @cons p q ps qs h t ih=>
   rw[List.map_cons,List.map_cons]
   refine .cons ?_ ih
   by_cases e:p.1=k
   ·have z:eqK q.1 (stD k)=true:=by rw[<- h.1,Qdf];exact decide_eq_true e
    rw[if_pos e,if_pos z];exact⟨h.1,h.2.1,rv⟩
   ·have z:¬ eqK q.1 (stD k)=true:=by rw[<- h.1,Qdf,decide_eq_false e];exact Bool.false_ne_true
    rw[if_neg e,if_neg z];exact h
 ·rw[if_neg e,if_neg e]
  exact Paired.snoc r ⟨rfl,rk,rv⟩
theorem NR.up {ρ1:List Addr}{H1:Hp} (x:Up ρ H ρ1 H1) {es:List (NK × Addr × V)}{kvs:List (D × D)} (r:NR K ρ H es kvs):NR K ρ1 H1 es kvs:=Paired.mapS r fun _ _ z=>⟨z.1,z.2.1.up x,z.2.2.up x⟩
theorem NR.length {es:List (NK × Addr × V)}{kvs:List (D × D)} (r:NR K ρ H es kvs):es.length=kvs.length:=Paired.length r
theorem Qdt (es:List (NK × Addr × V)) (k:NK) (b:Addr) (v:V):(putN es k b v).length<=es.length + 1:=by
 unfold putN
 split
 ·rw[List.length_map];ac_nf
 ·rw[List.length_append,List.length_cons,List.length_nil];ac_nf
theorem Qdu {n:Nat}{p:Bool × List (D × D)}{s':Sto} (h:getDc n st=.ok p s'):s'=st/\st[n]?=some (.dct p.1 p.2):=by
 unfold getDc at h
 cases e:st[n]? with
 | none=>rw[e]at h;cases h
 | some o=>
  rw[e]at h
  cases o with
  | lst ds=>cases h
  | dct b kvs=>cases h;exact⟨rfl,rfl⟩
theorem Post.getDc {n:Nat}{R:Bool × List (D × D)->Sto->List Addr->Hp->Prop} (h:Post K ρ H (MM.getDc n st) R) (s:SR K ρ H st):∃ b kvs,st[n]?=some (.dct b kvs)/\R (b,kvs) st ρ H:=by
 cases e:MM.getDc n st with
 | ok xs s'=>
  obtain⟨rfl,q⟩:=Qdu e
  rw[e]at h
  exact⟨xs.1,xs.2,q,h ρ H Ex.refl s⟩
 | exc _ _=>rw[e]at h;exact h.elim
 | bad=>rw[e]at h;exact h.elim
theorem Qdv {b : Bool} {kvs : List (D × D)} {k d : D} {y : V} {u : Value} {Q : Value -> Shared -> Prop} {E : Value -> Shared -> Prop} {A : Around} (hu : A.units + 2 < cLine) (I : Inv X pins σ H s) (g : ObR X.K ρ H a (.dct b kvs)) (rk : Rep X.K ρ H y k) (hk : kOk b k = true) (hl : lkK kvs k = some d) (ry : RelV y u)
  (h:∀ v w' s',Inv X pins σ H s'->Rep X.K ρ H v d->RelV v w'->Q w' s'):wpAny (model X.prog X.w) A (getItem (.ref a) u) Q E s:=by
 cases b with
 | false=>
  obtain⟨es,e,r⟩:=g
  obtain⟨k,rfl⟩:=Qdl hk
  cases Qdm rk
  have q:=KR.val r k
  rw[hl]at q
  obtain⟨v,e1,rv⟩:=q.some_of
  exact QcL (by ac_nf) I (by have:=DGet.k (k:=k) e;rw[e1]at this;exact this) ry fun w' s' I' rw'=>h v w' s' I' rv rw'
 | true=>
  obtain⟨es,e,r⟩:=g
  obtain⟨k,rfl⟩:=Qdk hk
  have q:=NR.val r k
  rw[hl]at q
  obtain⟨v,e1,rv⟩:=q.some_of
  obtain⟨_,hd,xs,rx,dd,de⟩:=Qdr I e r
  obtain⟨c,e2,e3,hc⟩:=Qdq I rk ry
  subst e3
  obtain⟨w',hw,rw'⟩:=RelO.some_of (v:=v) (o:=(atKey xs k).map (·.2)) (by rw[<- e1];exact NX.val rx k)
  obtain⟨p,hp,hp2⟩:=Option.map_eq_some_iff.mp hw
  refine wpAny_getItem_heap (knd:=nkd X) (show A.in1.units + 1 < cLine from hu) hc dd hp ?_
  rw[hp2]
  exact h v w' _ (I.tok _) rv rw'
theorem Qdw {b : Bool} {kvs : List (D × D)} {k : D} {y : V} {u : Value} {Q : Value -> Shared -> Prop} {E : Value -> Shared -> Prop} {A : Around} (hu : A.units + 2 < cLine) (I : Inv X pins σ H s) (g : ObR X.K ρ H a (.dct b kvs)) (rk : Rep X.K ρ H y k) (hk : kOk b k = true) (ry : RelV y u)
  (h:∀ s',Inv X pins σ H s'->Q (.bool (lkK kvs k).isSome) s'):wpAny (model X.prog X.w) A (compareOp .In u (.ref a)) Q E s:=by
 cases b with
 | false=>
  obtain⟨es,e,r⟩:=g
  obtain⟨k,rfl⟩:=Qdl hk
  cases Qdm rk
  rw[<- (KR.val r k).isSome_eq]at h
  exact d_in (by ac_nf) I (DGet.k (k:=k) e) ry h
 | true=>
  obtain⟨es,e,r⟩:=g
  obtain⟨k,rfl⟩:=Qdk hk
  rw[<- (NR.val r k).isSome_eq]at h
  obtain⟨_,hd,xs,rx,dd,de⟩:=Qdr I e r
  obtain⟨c,e2,e3,hc⟩:=Qdq I rk ry
  subst e3
  refine wpAny_in_heap (knd:=nkd X) (show A.in1.units + 1 < cLine from hu) hc hd dd ?_
  have q:=(NX.val rx k).isSome_eq
  rw[Option.isSome_map]at q
  rw[<- q]
  exact h _ (I.tok _)
theorem Qdx {n : Nat} {b : Bool} {kvs : List (D × D)} {k d : D} {y v : V} {u r' : Value} {Q : Unit -> Shared -> Prop} {E : Value -> Shared -> Prop} {A : Around} (hu : A.units + 2 < cLine) (I : Inv X pins σ H s) (sr : SR X.K ρ H st) (ha : ρ[n]? = some a) (hn : st[n]? = some (.dct b kvs))
  (rk:Rep X.K ρ H y k) (hk:kOk b k=true) (hl:kvs.length < sizeLine) (rv:Rep X.K ρ H v d) (ry:RelV y u) (rr:RelV v r')
  (h:∀ H' s',Inv X pins σ H' s'->SR X.K ρ H' (st.set n (.dct b (ptK kvs k d)))->Ex ρ H ρ H'->Q () s'):wpAny (model X.prog X.w) A (setItem (.ref a) u r') Q E s:=by
 have hlt:=(List.getElem?_eq_some_iff.mp hn).1
 have g:=sr.ob n a _ ha hn
 cases b with
 | false=>
  obtain⟨es,e,r⟩:=g
  obtain⟨k,rfl⟩:=Qdl hk
  cases Qdm rk
  have w:=sr.putO (o':=.dct false (ptK kvs (keyD k) d)) (u':=.dK (L2.putK es k v)) hlt ha e (by show (1:Nat)≠3;decide) rfl ⟨_,Qai,(KR.put r k rv).up ?_⟩
  ·exact QcO (by ac_nf) I (DPut.k (k:=k) e (by rw[KR.length r];exact hl)) ry rr fun s' I'=>h _ s' I' w.1 w.2
  ·refine⟨⟨[],by simp⟩,fun c o no q=>?_,fun c o q=>?_⟩
   ·rw[Qaj fun z=>by subst z;rw[e]at q;cases q;exact nomatch no];exact q
   ·by_cases z:c=a
    ·subst z;rw[e]at q;cases q;exact⟨_,Qai,rfl⟩
    ·exact⟨o,by rw[Qaj z];exact q,rfl⟩
 | true=>
  obtain⟨es,e,r⟩:=g
  obtain⟨k,rfl⟩:=Qdk hk
  obtain⟨_,hd,xs,rx,dd,de⟩:=Qdr I e r
  obtain⟨c,e2,e3,hc⟩:=Qdq I rk ry
  subst e2 e3
  have w:=sr.putO (o':=.dct true (ptK kvs (stD k) d)) (u':=nstO a (putN es k c v)) hlt ha e (by show (2:Nat)≠3;decide) rfl ⟨_,Qai,(NR.put r k c rk rv).up ?_⟩
  ·have hz : xs.length <= sizeLine := by
     rw[<- Paired.length rx,NR.length r];ac_nf
   refine Qc0 (knd:=nkd X) (show A.in1.units + 1 < cLine from hu) hc dd de hz fun h' dd' de' hs=>h _ _ ?_ w.1 w.2
   have he:∃ q,h'.get? a=some q:=let ⟨q,_,_,hq,_⟩:=dd';⟨q,hq⟩
   refine QcM I (by rw[e];exact True.intro) hs he (Qds ?_ hd (NX.put rx k c rr) dd' de')
   have:=Qdt es k c v
   rw[NR.length r]at this
   ac_nf
  ·refine⟨⟨[],by simp⟩,fun c o no q=>?_,fun c o q=>?_⟩
   ·rw[Qaj fun z=>by subst z;rw[e]at q;cases q;exact nomatch no];exact q
   ·by_cases z:c=a
    ·subst z;rw[e]at q;cases q;exact⟨_,Qai,rfl⟩
    ·exact⟨o,by rw[Qaj z];exact q,rfl⟩
end
abbrev NoE:Value->Shared->Prop:=fun _ _=>False
def tests (ifs:List Expr) (env:Env):Sem Bool:=forIn ifs true fun c r=>if r=true then do let ok <- isTrue c env (eval c env);pure (ForInStep.yield ok) else pure (ForInStep.yield r)
section
variable {prog:Program}{w:World}{A:Around}{R:Result->Shared->Prop}{s:Shared}
theorem Qdy {elt target iter : Expr} {ifs : List Expr} {scope : Scope} {pos : Pos} {it acc : Value} {env : Env} (I : Nat -> Shared -> Prop)
  (turn:∀ n s,I n s->wpAny (model prog w) A (pyNext it) (fun r s₁=>match r with
   | none=>R (.ok .next) s₁
   | some v => wpAny (model prog w) A (letOwnedTupleGo target it v) (fun _ s₁' => wpAny (model prog w) A (assign target env v) (fun _ s₂ =>
     wpAny (model prog w) A (tests ifs env) (fun ok s₃=>
      if ok=true then wpAny (model prog w) A (eval elt env) (fun x s₄=>
       wpAny (model prog w) A (call (.builtin "list.append") [acc,x]) (fun _ s₅=>∃ m,m < n/\I m s₅) NoE s₄) NoE s₃
      else ∃ m,m < n/\I m s₃) NoE s₂) NoE s₁') NoE s₁) NoE s)
  (n:Nat) (h:I n s):codeAny (model prog w) A (.compLoop (.ListComp elt [⟨target,iter,ifs,0⟩] scope pos) 0 it acc env) R s:=by
 refine codeAny_loop rfl I (fun n s hI=>?_) n h
 show wpAny _ A ((compTurn (.ListComp elt [⟨target,iter,ifs,0⟩] scope pos) 0 it acc env).onRaise (fun x=>do noteFrame x env;theTreesLotGoes x)) _ _ s
 refine wpAny_noted ?_
 rw[compTurn_list]
 refine wpAny_bind (wpAny_standAt (wpAny_bind (wpAny_mono (turn n s hI) (fun r s₁ h₁=>?_) fun _ _ h'=>h'.elim)))
 cases r with
 | none=>exact wpAny_pure h₁
 | some v=>
  refine wpAny_bind (wpAny_mono h₁ (fun _ s₁' h₁'=>?_) fun _ _ h'=>h'.elim)
  refine wpAny_bind (wpAny_mono h₁' (fun _ s₂ h₂=>wpAny_bind (wpAny_mono h₂ (fun ok s₃ h₃=>?_) fun _ _ h'=>h'.elim)) fun _ _ h'=>h'.elim)
  cases ok with
  | false=>exact wpAny_pure ⟨rfl,h₃⟩
  | true=>
   exact wpAny_bind (wpAny_bind (wpAny_mono h₃ (fun x s₄ h₄=>wpAny_bind (wpAny_mono h₄ (fun _ s₅ h₅=>wpAny_pure (wpAny_pure ⟨rfl,h₅⟩)) fun _ _ h'=>h'.elim)) fun _ _ h'=>h'.elim))
end
def clOf:List (Str × NameKind)->List (Str × Addr)->List (Str × Addr)->List (Str × Addr)
 | [],_,acc=>acc
 | (n,k)::r,cells,acc=>clOf r cells (if k == .free then (match cells.lookup n with | some c=>(n,c)::acc | none=>acc) else acc)
theorem Qdz {env : Env} : ∀ (names : List (Str × NameKind)) (acc : List (Str × Addr)), (∀ x, (x, NameKind.free) ∈ names -> ∃ c, env.cells.lookup x = some c) ->
  (forIn names acc fun (x:Str × NameKind) r=>if (x.2 == NameKind.free)=true then (do let a <- cellOf env x.1;pure (ForInStep.yield ((x.1,a)::r)):Sem _) else pure (ForInStep.yield r))=(pure (clOf names env.cells acc):Sem _)
 | [],acc,_=>rfl
 | (n,k)::r,acc,h=>by
  rw[List.forIn_cons]
  by_cases hk:(k == NameKind.free)=true
  ·have e:k=.free:=by simpa using hk
   subst e
   obtain⟨c,hc⟩:=h n List.mem_cons_self
   have q:cellOf env n=pure c:=by unfold cellOf;rw[hc]
   simp only[beq_self_eq_true,if_true,q]
   unfold clOf
   simp only[beq_self_eq_true,if_true,hc]
   exact Qdz r ((n,c)::acc) fun x hx=>h x (List.mem_cons_of_mem _ hx)
  ·simp only[hk,if_false]
   unfold clOf
   simp only[hk,if_false]
   exact Qdz r acc fun x hx=>h x (List.mem_cons_of_mem _ hx)
theorem QdA {scope:Scope}{env:Env} (h:∀ x,(x,NameKind.free)∈scope.names->∃ c,env.cells.lookup x=some c):closureFor scope env=pure (clOf scope.names env.cells []):=by
 have q:=Qdz (env:=env) scope.names [] h
 simp only[closureFor]
 exact congrArg (fun m=>m >>= fun cs=>pure cs) q
theorem QdB {α:Type}{x y:Str}{v:α}{r:List (Str × α)} (h:x≠y):List.lookup x ((y,v)::r)=r.lookup x:=by
 rw[List.lookup_cons]
 have:(x == y)=false:=beq_eq_false_iff_ne.mpr h
 rw[this]
theorem lookup_cons_self {α:Type}{x:Str}{v:α}{r:List (Str × α)}:List.lookup x ((x,v)::r)=some v:=by
 rw[List.lookup_cons,beq_self_eq_true]
theorem clOf_of {cells:List (Str × Addr)}{x:Str}{c:Addr}:∀ (names:List (Str × NameKind)) (acc:List (Str × Addr)),(clOf names cells acc).lookup x=some c->cells.lookup x=some c\/acc.lookup x=some c
 | [],acc,h=>.inr h
 | (n,k)::r,acc,h=>by
  unfold clOf at h
  rcases clOf_of r _ h with q | q
  ·exact .inl q
  ·split at q
   ·split at q
    ·rename_i c' hc
     by_cases hx:x=n
     ·subst hx
      rw[lookup_cons_self]at q
      cases q
      exact .inl hc
     ·rw[QdB hx]at q;exact .inr q
    ·exact .inr q
   ·exact .inr q
theorem QdC {cells:List (Str × Addr)}{x:Str}{c:Addr} (hc:cells.lookup x=some c):∀ (names:List (Str × NameKind)) (acc:List (Str × Addr)),((x,NameKind.free)∈names\/acc.lookup x=some c)->(∀ d,acc.lookup x=some d->d=c)->(clOf names cells acc).lookup x=some c
 | [],acc,h,_=>by
  rcases h with h | h
  ·cases h
  ·exact h
 | (n,k)::r,acc,h,ha=>by
  unfold clOf
  by_cases hx:x=n
  ·subst hx
   by_cases hk:(k == NameKind.free)=true
   ·rw[if_pos hk,hc]
    exact QdC hc r _ (.inr lookup_cons_self) fun d hd=>by rw[lookup_cons_self]at hd;cases hd;rfl
   ·rw[if_neg hk]
    refine QdC hc r _ ?_ ha
    rcases h with h | h
    ·rcases List.mem_cons.mp h with e | e
     ·cases e;exact absurd rfl hk
     ·exact .inl e
    ·exact .inr h
  ·have step : ∀ acc', acc'.lookup x = acc.lookup x -> (clOf r cells acc').lookup x = some c := fun acc' e => by
     refine QdC hc r acc' ?_ (by rw[e];exact ha)
     rcases h with h | h
     ·rcases List.mem_cons.mp h with z | z
      ·cases z;exact absurd rfl hx
      ·exact .inl z
     ·exact .inr (by rw[e];exact h)
   refine step _ ?_
   split
   ·split
    ·exact QdB hx
    ·rfl
   ·rfl
theorem cellsFrom_of {x:Str}{c:Addr}:∀ (names:List (Str × NameKind)) (n:Nat) (acc:List (Str × Addr)),(cellsFrom n names acc).lookup x=some c->n<=c\/acc.lookup x=some c
 | [],_,_,h=>.inr h
 | (y,k)::r,n,acc,h=>by
  unfold cellsFrom at h
  split at h
  ·rcases cellsFrom_of r (n + 1) _ h with q | q
   ·exact .inl (by ac_nf)
   ·by_cases hx:x=y
    ·subst hx;rw[lookup_cons_self]at q;cases q;exact .inl (Nat.le_refl _)
    ·rw[QdB hx]at q;exact .inr q
  ·exact cellsFrom_of r n acc h
theorem QdD : ∀ (names : List (Str × NameKind)) (n : Nat) (acc : List (Str × Addr)), (∀ x y c, acc.lookup x = some c -> acc.lookup y = some c -> x = y) -> (∀ x c, acc.lookup x = some c -> c < n) ->
  ∀ x y c,(cellsFrom n names acc).lookup x=some c->(cellsFrom n names acc).lookup y=some c->x=y
 | [],_,_,hi,_=>hi
 | (z,k)::r,n,acc,hi,hb=>by
  unfold cellsFrom
  split
  ·refine QdD r (n + 1) _ (fun x y c h1 h2=>?_) (fun x c h=>?_)
   ·by_cases hx:x=z
    ·subst hx
     rw[lookup_cons_self]at h1;cases h1
     by_cases hy:y=x
     ·exact hy.symm
     ·rw[QdB hy]at h2
      exact absurd (hb y _ h2) (Nat.lt_irrefl _)
    ·rw[QdB hx]at h1
     by_cases hy:y=z
     ·subst hy
      rw[lookup_cons_self]at h2;cases h2
      exact absurd (hb x _ h1) (Nat.lt_irrefl _)
     ·rw[QdB hy]at h2;exact hi x y c h1 h2
   ·by_cases hx:x=z
    ·subst hx;rw[lookup_cons_self]at h;cases h;exact Nat.lt_succ_self _
    ·rw[QdB hx]at h;exact Nat.lt_succ_of_lt (hb x c h)
  ·exact QdD r n acc hi hb
theorem cellsFrom_cell {x:Str}{c:Addr}:∀ (names:List (Str × NameKind)) (h:Heap) (acc:List (Str × Addr)),(cellsFrom h.objs.size names acc).lookup x=some c->acc.lookup x=some c\/((pushCells h names).IsCell c none/\h.objs.size<=c)
 | [],_,_,q=>.inl q
 | (y,k)::r,h,acc,q=>by
  unfold cellsFrom at q
  unfold pushCells
  split at q
  ·rename_i hk
   rw[if_pos hk]
   rw[<- Heap.size_push h { cls:=.type "cell",data:=.cell none }]at q
   rcases cellsFrom_cell r _ _ q with z | z
   ·by_cases hx:x=y
    ·subst hx;rw[lookup_cons_self]at z;cases z
     refine .inr ⟨?_,Nat.le_refl _⟩
     refine⟨{ cls:=.type "cell",data:=.cell none },pushCells_keeps r _ _ _ (Heap.get?_push_size _ rfl),rfl⟩
    ·rw[QdB hx]at z;exact .inl z
   ·refine .inr ⟨z.1,?_⟩
    have:=z.2
    rw[Heap.size_push]at this
    ac_nf
  ·rename_i hk
   rw[if_neg hk]
   exact cellsFrom_cell r h acc q
theorem QdE {x:Str}:∀ (names:List (Str × NameKind)) (n:Nat) (acc:List (Str × Addr)),(x,NameKind.cell)∉names->(cellsFrom n names acc).lookup x=acc.lookup x
 | [],_,_,_=>rfl
 | (y,k)::r,n,acc,h=>by
  unfold cellsFrom
  split
  ·rename_i hk
   have e:k=.cell:=by simpa using hk
   subst e
   have hx:x≠y:=fun z=>h (by rw[z];exact List.mem_cons_self)
   rw[QdE r (n + 1) _ fun z=>h (List.mem_cons_of_mem _ z),QdB hx]
  ·exact QdE r n acc fun z=>h (List.mem_cons_of_mem _ z)
theorem QdF {α β:Type} (f:Str->α->β) (x:Str):∀ (l:List (Str × α)),(l.map fun p=>(p.1,f p.1 p.2)).lookup x=(l.lookup x).map (f x)
 | []=>rfl
 | (y,v)::r=>by
  by_cases hx:x=y
  ·subst hx
   rw[List.map_cons,lookup_cons_self,lookup_cons_self];rfl
  ·rw[List.map_cons,QdB hx,QdB hx];exact QdF f x r
theorem QdG (scope : Scope) (env : Env) (x : Str) :
  (relabel scope env).names.lookup x=(scope.names.lookup x).map fun k=>if (k == NameKind.free && env.scope.kind == .function && env.kindOf x == some .cell)=true then .cell else k:=by
 have e:(relabel scope env).names=scope.names.map fun p=>(p.1,(fun (n:Str) k=>if (k == NameKind.free && env.scope.kind == .function && env.kindOf n == some .cell)=true then NameKind.cell else k) p.1 p.2):=by
  show scope.names.map _=_
  congr 1
  funext p
  obtain⟨n,k⟩:=p
  dsimp only
  split<;>rfl
 rw[e]
 exact QdF (fun (n:Str) k=>if (k == NameKind.free && env.scope.kind == .function && env.kindOf n == some .cell)=true then NameKind.cell else k) x scope.names
theorem QdH {M : Model} {A : Around} {E : Value -> Shared -> Prop} {s : Shared} {scope : Scope} {globals : Addr} {cl : List (Str × Addr)} {qual : Str} {env : Env} {Q : Env -> Shared -> Prop}
  (h:Q { scope:=scope,locals:=s.heap.objs.size,globals:=globals,cells:=cellsFrom (s.heap.objs.size + 1) scope.names cl,qual:=qual,func:=none,code:=env.code,frame:=env.frame,builtins:=env.builtins }
   { s with heap:=pushCells (s.heap.push { cls:=.type "dict",data:=.dict #[] }) scope.names }):wpAny M A (newFunctionEnv scope globals cl [] qual none .none (some env)) Q E s:=by
 simp only[newFunctionEnv,Option.isSome_some,if_true]
 refine wpAny_bind (wpAny_alloc ?_)
 refine wpAny_bind (wpAny_layCells _ (fun name kind cells=>by cases hkc:kind == NameKind.cell<;>simp[hkc]) _ _ _ _ ?_)
 rw[show ({ s with heap:=s.heap.push { cls:=.type "dict",data:=.dict #[] } }:Shared).heap.objs.size=s.heap.objs.size + 1 from Heap.size_push ..]
 exact wpAny_bind (wpAny_pure (wpAny_pure h))
def cxC (X:Cx) (N:List Str) (scope:Scope) (fp:List Addr) (s:Shared) (H:Hp):Cx where
 prog:=X.prog
 w:=X.w
 K:=X.K
 mg:=X.mg
 base:=X.base
 A:=X.A
 N:=N
 s₀:=s
 H₀:=H
 env:=compEnvC scope (cellsFrom (s.heap.objs.size + 1) scope.names (clOf scope.names X.env.cells [])) s.heap.objs.size X.env
 outer:=X.stack
 stack:=X.stack
 ex:=fp
 fn:=fun x=>decide (scope.names.lookup x=some .local\/scope.names.lookup x=some .cell)
 calm:=X.calm
 pn:=[]
 xe:=NoE
structure CompScope (X:Cx) (scope:Scope):Prop where
 kind:scope.kind=.function
 names:∀ x∈scope.names,x.2=.local->scope.names.lookup x.1=some .local
 free:∀ x,(x,NameKind.free)∈scope.names->X.env.kindOf x=some .cell\/X.env.kindOf x=some .free
 once:∀ x,(x,NameKind.free)∈scope.names->(x,NameKind.cell)∉scope.names
 own:∀ x,(x,NameKind.free)∈scope.names->scope.names.lookup x≠some .local
def capV (n:Nat) (ix:List Nat) (σ:St):St:=List.replicate n none++ix.map fun i=>(σ[i]?).join
structure CompNames (X:Cx) (scope:Scope) (N:List Str) (n:Nat) (ix:List Nat):Prop where
 len:N.length=n + ix.length
 cap:∀ (j i:Nat) (x:Str),ix[j]?=some i->N[n + j]?=some x->X.N[i]?=some x/\scope.names.lookup x=some .free
theorem clOf_mem {cells:List (Str × Addr)}{x:Str}{c:Addr}:∀ (names:List (Str × NameKind)) (acc:List (Str × Addr)),(clOf names cells acc).lookup x=some c->(x,NameKind.free)∈names\/acc.lookup x=some c
 | [],acc,h=>.inr h
 | (n,k)::r,acc,h=>by
  unfold clOf at h
  rcases clOf_mem r _ h with q | q
  ·exact .inl (List.mem_cons_of_mem _ q)
  ·split at q
   ·rename_i hk
    have e:k=.free:=by simpa using hk
    subst e
    split at q
    ·by_cases hx:x=n
     ·subst hx;exact .inl List.mem_cons_self
     ·rw[QdB hx]at q;exact .inr q
    ·exact .inr q
   ·exact .inr q
theorem QdI {X:Cx}{scope:Scope}{cells:List (Str × Addr)}{x:Str}{c:Addr} (h:(clOf scope.names cells []).lookup x=some c) (hf:scope.names.lookup x=some .local\/scope.names.lookup x=some .cell) (S:CompScope X scope):False:=by
 rcases clOf_mem _ _ h with q | q
 ·rcases hf with z | z
  ·exact S.own x q z
  ·exact S.once x q (PySem.mem_of_lookup z)
 ·cases q
section
variable {X:Cx}{pins:List (Addr × Obj)}{σ:St}{H:Hp}{s:Shared}{scope:Scope}{N:List Str}{fp:List Addr}
theorem QdJ (I:Inv X pins σ H s) {x:Str}{c:Addr} (h:(clOf scope.names X.env.cells []).lookup x=some c):X.env.cells.lookup x=some c/\c < s.heap.objs.size/\(∃ v,s.heap.IsCell c v)/\H c=none:=by
 rcases clOf_of _ _ h with q | q
 ·obtain⟨v,z⟩:=I.cell x c q
  exact⟨q,z.lt,⟨v,z⟩,I.freeC x c q⟩
 ·cases q
theorem QdK (I:Inv X pins σ H s) (S:CompScope X scope) (hfp:∀ b∈fp,FpOk X pins H b) (hlt:∀ b∈fp,b < s.heap.objs.size):(cxC X N scope fp s H).Ok:=by
 have inj:∀ x y c,(cellsFrom (s.heap.objs.size + 1) scope.names (clOf scope.names X.env.cells [])).lookup x=some c->(cellsFrom (s.heap.objs.size + 1) scope.names (clOf scope.names X.env.cells [])).lookup y=some c->x=y:=
  QdD scope.names _ _ (fun x y c h1 h2=>I.ok.inj x y c (QdJ I h1).1 (QdJ I h2).1) fun x c h=>Nat.lt_succ_of_lt (QdJ I h).2.1
 refine⟨I.ok.mod,S.kind,I.ok.glob,I.ok.blt,Nat.le_refl _,inj,fun x hx=>?_,fun x c hf hc=>?_,I.ok.hd,I.ok.frames,.inl rfl,fun b hb=>?_,I.bs,Nat.le_trans I.ok.bsz I.sz,fun b o e hb=>?_,fun b hb z=>?_,I.stack,I.stkFree⟩
 ·have hx':(relabel scope X.env).names.lookup x=some .cell\/(relabel scope X.env).names.lookup x=some .free:=hx
  rw[QdG]at hx'
  cases e:scope.names.lookup x with
  | none=>rw[e]at hx';rcases hx' with z | z<;>cases z
  | some k=>
   refine Option.isSome_iff_exists.mp (PySem.W.cellsFrom_some scope.names _ _ ?_)
   cases k with
   | cell=>exact .inl e
   | free=>
    have hm:=PySem.mem_of_lookup e
    obtain⟨c,hc⟩:=I.ok.has x (S.free x hm)
    exact .inr (by rw[QdC hc scope.names [] (.inl hm) fun d hd=>by cases hd];rfl)
   | _=>
    rw[e]at hx'
    rcases hx' with z | z<;>(simp at z)
 ·have hc':(cellsFrom (s.heap.objs.size + 1) scope.names (clOf scope.names X.env.cells [])).lookup x=some c:=hc
  rcases cellsFrom_of _ _ _ hc' with q | q
  ·exact Nat.le_of_succ_le q
  ·exfalso
   have hf':scope.names.lookup x=some .local\/scope.names.lookup x=some .cell:=of_decide_eq_true hf
   exact QdI q hf' S
 ·obtain⟨f0,f1,f2,f3,f4,f5⟩:=hfp b hb
  refine⟨Nat.ne_of_lt (hlt b hb),fun x c hc z=>?_⟩
  have hc':(cellsFrom (s.heap.objs.size + 1) scope.names (clOf scope.names X.env.cells [])).lookup x=some c:=hc
  rcases cellsFrom_of _ _ _ hc' with q | q
  ·rw[z]at q
   exact absurd (Nat.lt_of_lt_of_le (Nat.lt_succ_of_lt (hlt b hb)) q) (Nat.lt_irrefl _)
  ·exact f4 x c (QdJ I q).1 z
 ·obtain⟨f0,f1,f2,f3,f4,f5⟩:=hfp b hb
  rcases f3 with z | z
  ·exact I.ok.noex b o e z
  ·exact absurd (Nat.lt_of_lt_of_le (Nat.lt_of_lt_of_le (Heap.lt_size e) I.ok.bsz) z) (Nat.lt_irrefl _)
 ·obtain⟨f0,f1,f2,f3,f4,f5⟩:=hfp b hb
  rcases List.mem_cons.mp (I.stkSub b z) with q | q
  ·exact f1 q
  ·exact f2 q
abbrev heapC (h:Heap) (scope:Scope):Heap:=pushCells (h.push { cls:=.type "dict",data:=.dict #[] }) scope.names
theorem QdL (h:Heap) (scope:Scope):∀ b o,h.get? b=some o->(heapC h scope).get? b=some o:=fun b o e=>pushCells_keeps _ _ b o (Heap.get?_push_of_some _ e)
theorem QdM {n : Nat} {ix : List Nat} (I : Inv X pins σ H s) (S : CompScope X scope) (T : CompNames X scope N n ix) (hfp : ∀ b ∈ fp, FpOk X pins H b) (hlt : ∀ b ∈ fp, b < s.heap.objs.size) :
  Inv (cxC X N scope fp s H) [] (capV n ix σ) H { s with heap:=heapC s.heap scope }:=by
 have kp:=QdL s.heap scope
 have hns:(heapC s.heap scope).Ns s.heap.objs.size fun _=>none:=(Heap.Ns.new s.heap (.type "dict")).keeps (pushCells_keeps _ _)
 have cells : ∀ x c, (cellsFrom (s.heap.objs.size + 1) scope.names (clOf scope.names X.env.cells [])).lookup x = some c ->
   (∃ v,(heapC s.heap scope).IsCell c v)/\H c=none:=fun x c h=>by
  have h':(cellsFrom (s.heap.push { cls:=.type "dict",data:=.dict #[] }).objs.size scope.names (clOf scope.names X.env.cells [])).lookup x=some c:=by rw[Heap.size_push];exact h
  rcases cellsFrom_cell _ _ _ h' with q | ⟨q,z⟩
  ·obtain⟨_,_,⟨v,hv⟩,hn⟩:=QdJ I q
   exact⟨⟨v,hv.keeps kp⟩,hn⟩
  ·refine⟨⟨none,q⟩,I.hok.fresh ?_⟩
   rw[Heap.size_push]at z
   ac_nf
 refine⟨QdK I S hfp hlt,rfl,I.bare,Un.kept kp,⟨_,hns,fun i x v h1 h2 h3=>?_⟩,fun x c h=>(cells x c h).1,I.hok.fresh (Nat.le_refl _),fun x c h=>(cells x c h).2,fun p hp=>absurd (show p∈([]:List (Addr × Obj)) from hp) (by simp),I.hok.kept kp,?_⟩
 ·have h1':N[i]?=some x:=h1
  have h2':(List.replicate n none++ix.map fun i=>(σ[i]?).join)[i]?=some (some v):=h2
  have hi:n<=i:=Nat.le_of_not_lt fun z=>by
   rw[List.getElem?_append_left (by simpa using z),List.getElem?_replicate]at h2'
   split at h2'<;>cases h2'
  rw[List.getElem?_append_right (by simpa using hi),List.length_replicate,List.getElem?_map]at h2'
  cases e:ix[i - n]? with
  | none=>rw[e]at h2';cases h2'
  | some k=>
   rw[e]at h2'
   have hj:(σ[k]?).join=some v:=Option.some.inj h2'
   have hk:σ[k]?=some (some v):=by
    cases q:σ[k]? with
    | none=>rw[q]at hj;cases hj
    | some o=>rw[q]at hj;exact congrArg some hj
   obtain⟨hN,hfr⟩:=T.cap (i - n) k x e (by rw[show n + (i - n)=i by ac_nf];exact h1')
   have hm:=PySem.mem_of_lookup hfr
   have kx:=S.free x hm
   obtain⟨m,hn,hl⟩:=I.loc
   obtain⟨u,ru,lk⟩:=hl k x v hN hk (by
    rcases kx with z | z
    ·exact .inr (.inl z)
    ·exact .inr (.inr z))
   have lk2:∃ c,X.env.cells.lookup x=some c/\s.heap.IsCell c (some u):=by
    rcases lk with ⟨z,_⟩ | ⟨_,c,hc,q⟩
    ·rcases kx with y | y<;>(rw[y]at z;cases z)
    ·exact⟨c,hc,q⟩
   obtain⟨c,hc,q⟩:=lk2
   refine⟨u,ru,.inr ⟨?_,c,?_,q.keeps kp⟩⟩
   ·show (relabel scope X.env).names.lookup x=some .cell\/(relabel scope X.env).names.lookup x=some .free
    rw[QdG,hfr,Option.map_some]
    by_cases hq:(NameKind.free == NameKind.free && X.env.scope.kind == .function && X.env.kindOf x == some .cell)=true
    ·rw[if_pos hq];exact .inl rfl
    ·rw[if_neg hq];exact .inr rfl
   ·show (cellsFrom (s.heap.objs.size + 1) scope.names (clOf scope.names X.env.cells [])).lookup x=some c
    rw[QdE _ _ _ (S.once x hm)]
    exact QdC hc scope.names [] (.inl hm) fun d hd=>by cases hd
 ·show (List.replicate n none++ix.map fun i=>(σ[i]?).join).length=N.length
  rw[List.length_append,List.length_replicate,List.length_map,T.len]
def tComp (wi:TI) (n:Nat) (ix:List Nat) (g:TG) (tt:TT) (te:TE):TE:=fun σ H Q=>wi σ H fun J H1=>∀ l,H1 l=none->∃ W:Nat->Nat->St->Hp->Prop,(∃ m,W 0 m (capV n ix σ) (upd H1 l (.lst []))) /\
 ∀ i m σ' H',W i m σ' H'->(J.stop i H'/\Q (.ref l) H')\/(J.go i H'/\∀ x H2,J.yld i H' x H2->g x σ' H2 fun σ2 H3=>tt σ2 H3 fun b H4=>
  if b=true then te σ2 H4 fun v H5=>∃ ys,H5 l=some (.lst ys)/\ys.length < sizeLine/\∃ m',m' < m/\W (i + 1) m' σ2 (upd H5 l (.lst (ys++[v]))) else ∃ m',m' < m/\W (i + 1) m' σ2 H4)
def PIfs (X:Cx) (ifs:List Expr) (tt:TT):Prop:=
 ∀ (pins:List (Addr × Obj)) (s:Shared) (σ:St) (H:Hp) (Q:Bool->Hp->Prop),Inv X pins σ H s->tt σ H Q->wpAny (model X.prog X.w) X.A (tests ifs X.env) (TP X pins σ Q) X.xe s
theorem QdN:PIfs X [] (fun _ H Q=>Q true H):=fun pins s σ H Q I h=>wpAny_tests_nil ⟨H,I,h⟩
theorem QdO {c:Expr}{tt:TT} (h:PT X c tt):PIfs X [c] tt:=fun pins s σ H Q I q=>wpAny_tests_one (h pins s σ H Q I q)
structure CFree (X:Cx) (pins:List (Addr × Obj)) (C:Addr) (H:Hp) (s:Shared):Prop where
 ns:∃ m,s.heap.Ns C m
 free:H C=none
 loc:C≠X.env.locals
 cell:∀ x c,X.env.cells.lookup x=some c->c≠C
 sz:X.s₀.heap.objs.size<=C
 pin:∀ p∈X.pn++pins,p.1≠C
theorem CFree.go {C:Addr}{h':Heap} (c:CFree X pins C H s) (I:Inv X pins σ H s) (hs:Heap.SameBut C s.heap h'):Inv X pins σ H { s with heap:=h' }:=
 I.turned (t':=s.toks) (fun b o hb e=>(hs.2 b hb).trans e) c.free c.loc (.inr c.sz) c.cell c.pin
theorem QdP {elt target iter : Expr} {ifs : List Expr} {pos : Pos} {n : Nat} {ix : List Nat} {wi : TI} {g : TG} {tt : TT} {te : TE} {use : Option (Value -> Sem Unit)} {Q : Value -> Shared -> Prop} {QH : VK}
  (hc:X.calm=true) (S:CompScope X scope) (T:CompNames X scope N n ix) (hi:PI X target iter wi)
  (blk:∀ (fp:List Addr) (s:Shared) (H:Hp),PG (cxC X N scope fp s H) target g/\PIfs (cxC X N scope fp s H) ifs tt/\PE (cxC X N scope fp s H) elt te)
  (hs:∀ x,foldedSetIterable iter X.env x=pure x) (I:Inv X pins σ H s) (h:tComp wi n ix g tt te σ H QH)
  (fin:∀ (l C:Addr) (H':Hp) (s':Shared),Inv X pins σ H' s'->QH (.ref l) H'->CFree X pins C H' s'->compPost (model X.prog X.w) X.A X.xe use Q (.ref l) C (.ok .next) s'):
  wpAny (model X.prog X.w) X.A (comprehension (.ListComp elt [⟨target,iter,ifs,0⟩] scope pos) scope X.env (firstIterPos [⟨target,iter,ifs,0⟩] pos) (newList []) false (eval iter X.env) use) Q X.xe s:=by
 have hclos:closureFor scope X.env=pure (clOf scope.names X.env.cells []):=QdA fun x hx=>I.ok.has x (S.free x hx)
 refine wpAny_comprehension_free rfl hs hclos S.kind S.names ?_
 refine thn (hi pins s σ H _ I h) fun v s1 h1=>thn h1 fun itv s2 h2=>?_
 obtain⟨it,fp,tn,J,H2,rfl,I2,TT,st2,f2,rest⟩:=h2
 refine wpAny_newObj_type (hd:=by size_fits) ?_
 have hf2:H2 s2.heap.objs.size=none:=I2.hok.fresh (Nat.le_refl _)
 obtain⟨W,⟨m0,w0⟩,turn⟩:=rest _ hf2
 have fl:∀ b∈fp,b < s2.heap.objs.size:=fun b hb=>by
  obtain⟨o,e,_⟩:=TT.obj _ _ st2 b hb
  exact Heap.lt_size e
 have f3:∀ b∈fp,FpOk X pins (upd H2 s2.heap.objs.size (.lst [])) b:=fun b hb=>by
  obtain⟨f0,fr⟩:=f2 b hb
  refine⟨?_,fr⟩
  rw[Qaj (Nat.ne_of_lt (fl b hb))]
  exact f0
 have I3:Inv X pins σ (upd H2 s2.heap.objs.size (.lst [])) { s2 with heap:=s2.heap.push { cls:=.type "list",dict:=none,data:=.seq ([]:List Value).toArray } }:=
  I2.laid (t':=s2.toks) (fun b o e=>Heap.get?_push_of_some _ e) (Nat.le_refl _) ⟨Nat.zero_le _,[],0,.nil,Heap.get?_push_size _ rfl⟩
 have tn3:tn 0 (s2.heap.push { cls:=.type "list",dict:=none,data:=.seq ([]:List Value).toArray }):=TT.keep _ _ _ st2 fun b hb o e=>Heap.get?_push_of_some _ e
 have fl3:∀ b∈fp,b < (s2.heap.push { cls:=.type "list",dict:=none,data:=.seq ([]:List Value).toArray }).objs.size:=fun b hb=>by
  rw[Heap.size_push];exact Nat.lt_succ_of_lt (fl b hb)
 generalize s2.heap.objs.size=l at *
 generalize hs3:({ s2 with heap:=s2.heap.push { cls:=.type "list",dict:=none,data:=.seq ([]:List Value).toArray } }:Shared)=s3 at *
 have e3:s2.heap.push { cls:=.type "list",dict:=none,data:=.seq ([]:List Value).toArray }=s3.heap:=by rw[<- hs3]
 rw[e3]at tn3 fl3
 generalize upd H2 l (.lst [])=H3 at *
 refine QdH ?_
 have I4:=QdM (N:=N) (n:=n) (ix:=ix) I3 S T f3 fl3
 obtain⟨bg,bt,be⟩:=blk fp s3 H3
 have tn4:tn 0 (heapC s3.heap scope):=TT.keep _ _ _ tn3 fun b hb o e=>QdL _ _ _ _ e
 have fr4:∀ b∈fp,H3 b=none:=fun b hb=>(f3 b hb).1
 show codeAny (model X.prog X.w) X.A (.compStart (.ListComp elt [⟨target,iter,ifs,0⟩] scope pos) 0 (.ref it) (.ref l) (cxC X N scope fp s3 H3).env) (compPost (model X.prog X.w) X.A X.xe use Q (.ref l) s3.heap.objs.size) { s3 with heap:=heapC s3.heap scope }
 have fpx:∀ {σ':St}{H':Hp}{s':Shared},Inv (cxC X N scope fp s3 H3) [] σ' H' s'->(∀ b∈fp,H' b=none)->∀ b∈fp,FpOk (cxC X N scope fp s3 H3) [] H' b:=fun I' hn b hb=>by
  have q:=I'.ok.exf b hb
  exact⟨hn b hb,q.1,I'.ok.exfs b hb,.inl hb,q.2,fun p hp=>absurd (show p∈([]:List (Addr × Obj)) from hp) (by simp)⟩
 have hc':(cxC X N scope fp s3 H3).calm=true:=hc
 have loop:codeAny (model X.prog X.w) X.A (.compLoop (.ListComp elt [⟨target,iter,ifs,0⟩] scope pos) 0 (.ref it) (.ref l) (cxC X N scope fp s3 H3).env) (compPost (model X.prog X.w) X.A X.xe use Q (.ref l) s3.heap.objs.size) { s3 with heap:=heapC s3.heap scope }:=by
  refine Qdy (fun k s'=>∃ i σ' H',Inv (cxC X N scope fp s3 H3) [] σ' H' s'/\tn i s'.heap/\(∀ b∈fp,H' b=none)/\W i k σ' H') ?_ m0 ⟨0,_,H3,I4,tn4,fr4,w0⟩
  rintro k s5 ⟨i,σ5,H5,I5,tn5,fr5,w5⟩
  rcases turn i k σ5 H5 w5 with ⟨stop,q⟩ | ⟨go,step⟩
  ·refine thn (TT.done (cxC X N scope fp s3 H3) rfl rfl rfl hc' i [] s5 σ5 H5 NoE I5 (fpx I5 fr5) tn5 stop) fun r s6 pq47=>?_
   obtain⟨hr,I6⟩:=pq47
   subst hr
   have J6:Inv X pins σ H5 s6:=I3.call' I6.os I6.base I6.hok I6.bare fun b hb=>by
    obtain⟨g0,g1,g2,g3,g4,g5⟩:=f3 b hb
    exact⟨g3,g1,g4,g5⟩
   obtain⟨m,hn,_⟩:=I6.loc
   refine fin l s3.heap.objs.size H5 s6 J6 q ⟨⟨m,hn⟩,I6.free,Nat.ne_of_gt I3.lt,fun x c e=>?_,I3.sz,fun p hp=>?_⟩
   ·obtain⟨v,z⟩:=I3.cell x c e
    exact Nat.ne_of_lt z.lt
   ·exact Nat.ne_of_lt (Heap.lt_size (I3.pin p hp).1)
  ·refine thn (TT.item (cxC X N scope fp s3 H3) rfl rfl rfl hc' i [] s5 σ5 H5 NoE I5 (fpx I5 fr5) tn5 go) fun r s6 pq48=>?_
   obtain⟨u,hr,h6⟩:=pq48
   subst hr
   refine thn h6 fun _ s7 pq49=>?_
   obtain⟨x,H7,I7,r7,y7,tn7,fr7⟩:=pq49
   have I7':=I7.pinned (fpx I7 fr7) (TT.obj _ _ tn7)
   refine thn (bg _ s7 σ5 H7 x u _ I7' r7 (step x H7 y7)) fun _ s8 pq50=>?_
   obtain⟨σ8,H8,I8,q8⟩:=pq50
   refine thn (bt _ s8 σ8 H8 _ I8 q8) fun ok s9 pq51=>?_
   obtain⟨H9,I9,q9⟩:=pq51
   have again : ∀ {s' : Shared} {H' : Hp}, Inv (cxC X N scope fp s3 H3) ([] ++ pinsAt fp s7.heap) σ8 H' s' -> (∃ m', m' < k /\ W (i + 1) m' σ8 H') ->
     ∃ m,m < k/\∃ i σ' H',Inv (cxC X N scope fp s3 H3) [] σ' H' s'/\tn i s'.heap/\(∀ b∈fp,H' b=none)/\W i m σ' H':=fun {s' H'} I' pq52=>by
    obtain⟨m',hm,w'⟩:=pq52
    refine⟨m',hm,i + 1,σ8,H',I'.unpinned,TT.keep _ _ _ tn7 fun b hb o e=>(I'.pin (b,o) (List.mem_append_right _ (List.mem_append_right _ (Qa1 hb e)))).1,fun b hb=>?_,w'⟩
    obtain⟨o,e,d⟩:=TT.obj _ _ tn7 b hb
    exact (I'.pin (b,o) (List.mem_append_right _ (List.mem_append_right _ (Qa1 hb e)))).2.1
   cases ok with
   | false=>exact again I9 q9
   | true=>
    refine thn (be _ s9 σ8 H9 _ I9 q9) fun xv s10 pq53=>?_
    obtain⟨v,H10,I10,r10,ys,hy,hz,q10⟩:=pq53
    refine thn (Qco (X:=cxC X N scope fp s3 H3) _ s10 σ8 H10 (.ref l) [v] (.ref l) [xv] (fun _ H'=>H'=upd H10 l (.lst (ys++[v]))) I10 rfl (.cons r10 .nil) ⟨l,ys,v,rfl,rfl,hy,hz,rfl⟩) fun _ s11 pq54=>?_
    obtain⟨_,H11,I11,_,e⟩:=pq54
    subst e
    exact again I11 q10
 exact codeAny_compStart_list loop (TT.self _ 0 _ _ _ tn4 loop)
theorem QdQ {elt target iter : Expr} {ifs : List Expr} {pos : Pos} {n : Nat} {ix : List Nat} {wi : TI} {g : TG} {tt : TT} {te : TE}
  (hc:X.calm=true) (S:CompScope X scope) (T:CompNames X scope N n ix) (hi:PI X target iter wi)
  (blk:∀ (fp:List Addr) (s:Shared) (H:Hp),PG (cxC X N scope fp s H) target g/\PIfs (cxC X N scope fp s H) ifs tt/\PE (cxC X N scope fp s H) elt te)
  (hs:∀ x,foldedSetIterable iter X.env x=pure x:=by intro _;rfl):PE X (.ListComp elt [⟨target,iter,ifs,0⟩] scope pos) (tComp wi n ix g tt te):=by
 intro pins s σ H Q I h
 rw[eval_ListComp]
 refine QdP (use:=none) hc S T hi blk hs I h fun l C H' s' I' q c=>?_
 obtain⟨m,hn⟩:=c.ns
 exact⟨m,hn,fun h' hs'=>⟨.ref l,H',c.go I' hs',rfl,q⟩⟩
theorem QdR {elt target iter : Expr} {ifs : List Expr} {pos pos' spos : Pos} {n i : Nat} {ix : List Nat} {wi : TI} {g : TG} {tt : TT} {te : TE} {x : Str}
  (hN:X.N.Nodup) (hi':X.N[i]?=some x) (hx:L2.Loc X.env.scope x) (hf:X.fn x=true\/X.env.scope.names.lookup x=some .local)
  (hc:X.calm=true) (S:CompScope X scope) (T:CompNames X scope N n ix) (hi:PI X target iter wi)
  (blk:∀ (fp:List Addr) (s:Shared) (H:Hp),PG (cxC X N scope fp s H) target g/\PIfs (cxC X N scope fp s H) ifs tt/\PE (cxC X N scope fp s H) elt te)
  (hsw:swapsWith (.ListComp elt [⟨target,iter,ifs,0⟩] scope pos) (some (.Name x pos')) spos.line X.env=pure true)
  (hs:∀ x,foldedSetIterable iter X.env x=pure x:=by intro _;rfl):PS X (.Assign [.Name x pos'] (.ListComp elt [⟨target,iter,ifs,0⟩] scope pos) spos) (tAsg (tComp wi n ix g tt te) (gName i)):=by
 intro pins s σ H D I h
 rw[exec_Assign_Name_used _ _ _ _ hsw]
 refine wpAny_bind (wpAny_standAt (wpAny_bind ?_))
 show wpAny _ _ (comprehension (.ListComp elt [⟨target,iter,ifs,0⟩] scope pos) scope X.env _ (newList []) false (eval iter X.env) (some (assign (.Name x pos') X.env)) >>= fun _=>pure ()) _ _ s
 refine wpAny_bind (wpAny_mono (QdP (use:=some (assign (.Name x pos') X.env)) (Q:=fun _ s'=>SP X pins D .next s') hc S T hi blk hs I h fun l C H' s' I' q c=>?_) (fun _ s' hq=>wpAny_pure (wpAny_pure hq)) fun _ _ e=>e)
 obtain⟨m,hn⟩:=c.ns
 refine wpAny_assign_Name (Qaq I' hN hi' hx (v:=.ref l) rfl (fun s2 I2 ⟨b,hb,hb2⟩=>?_) hf)
 have hbC:b≠C:=by
  rcases hb2 with z | z
  ·rw[z];exact c.loc.symm
  ·exact c.cell x b z
 refine⟨m,hn.sameBut hb hbC.symm,fun h' hs'=>⟨_,H',?_,q⟩⟩
 exact CFree.go ⟨⟨m,hn.sameBut hb hbC.symm⟩,c.free,c.loc,c.cell,c.sz,c.pin⟩ I2 hs'
end
section
variable {X:Cx}{a b c e:Expr}{es:List Expr}{pos:Pos}{fa fb fc:CE}{ca cb:CA}{K:PySem.W.Frag}{ρ:List Addr}{H:Hp}{st:Sto}
theorem QdS {K : PySem.W.Frag} {g : D -> D -> M D} {x y : V} {H : Hp} {Q : VK} (hg : ∀ d e, (∃ i j, d = D.int i /\ e = D.int j) \/ g d e = bad) (h : rOf K g x y H Q) :
  ∃ (i j:Int) (ρ:List Addr) (st:Sto),x=.int i/\y=.int j/\SR K ρ H st/\Post K ρ H (g (.int i) (.int j) st) (fun r _ ρ' H'=>∀ v,Rep K ρ' H' v r->Q v H'):=by
 obtain⟨ρ,st,d,e,sr,rx,ry,p⟩:=h
 rcases hg d e with ⟨i,j,e1,e2⟩ | hb
 ·subst e1 e2;cases rx;cases ry;exact⟨_,_,ρ,st,rfl,rfl,sr,p⟩
 ·rw[hb]at p;exact p.elim
theorem QdT:OpR X (binaryOp .Mult) (rOf X.K mulD):=Qa7.of fun x y H Q h=>by
 obtain⟨i,j,ρ,st,rfl,rfl,sr,p⟩:=QdS (by intro d e;cases d<;>cases e<;>first | exact .inl ⟨_,_,rfl,rfl⟩ | exact .inr rfl) h
 exact⟨_,_,rfl,rfl,p.chk.1,p.chk.2.ret sr _ (.int _)⟩
theorem QdU:OpR X (binaryOp .FloorDiv) (rOf X.K fdivD):=Qa8.of fun x y H Q h=>by
 obtain⟨i,j,ρ,st,rfl,rfl,sr,p⟩:=QdS (by intro d e;cases d<;>cases e<;>first | exact .inl ⟨_,_,rfl,rfl⟩ | exact .inr rfl) h
 exact⟨_,_,rfl,rfl,p.chk.1,p.chk.2.ret sr _ (.int _)⟩
theorem QdV:OpR X (binaryOp .Mod) (rOf X.K modD):=Qa9.of fun x y H Q h=>by
 obtain⟨i,j,ρ,st,rfl,rfl,sr,p⟩:=QdS (by intro d e;cases d<;>cases e<;>first | exact .inl ⟨_,_,rfl,rfl⟩ | exact .inr rfl) h
 exact⟨_,_,rfl,rfl,p.chk.1,p.chk.2.ret sr _ (.int _)⟩
theorem QdW:OpR X (binaryOp .Pow) (rOf X.K powD):=Qba.of fun x y H Q h=>by
 obtain⟨i,j,ρ,st,rfl,rfl,sr,p⟩:=QdS (by intro d e;cases d<;>cases e<;>first | exact .inl ⟨_,_,rfl,rfl⟩ | exact .inr rfl) h
 exact⟨_,_,rfl,rfl,p.chk.1,p.chk.2.ret sr _ (.int _)⟩
theorem QdX:OpR X (compareOp .Lt) (rOf X.K ltD):=Qbd.of fun x y H Q h=>by
 obtain⟨i,j,ρ,st,rfl,rfl,sr,p⟩:=QdS (by intro d e;cases d<;>cases e<;>first | exact .inl ⟨_,_,rfl,rfl⟩ | exact .inr rfl) h
 exact⟨_,_,rfl,rfl,p.ret sr _ (.bl _)⟩
theorem QdY:OpR X (compareOp .LtE) (rOf X.K leD):=Qbe.of fun x y H Q h=>by
 obtain⟨i,j,ρ,st,rfl,rfl,sr,p⟩:=QdS (by intro d e;cases d<;>cases e<;>first | exact .inl ⟨_,_,rfl,rfl⟩ | exact .inr rfl) h
 exact⟨_,_,rfl,rfl,p.ret sr _ (.bl _)⟩
theorem QdZ:OpR X (compareOp .Gt) (rOf X.K gtD):=Qbf.of fun x y H Q h=>by
 obtain⟨i,j,ρ,st,rfl,rfl,sr,p⟩:=QdS (by intro d e;cases d<;>cases e<;>first | exact .inl ⟨_,_,rfl,rfl⟩ | exact .inr rfl) h
 exact⟨_,_,rfl,rfl,p.ret sr _ (.bl _)⟩
theorem Qd0:OpR X (compareOp .GtE) (rOf X.K geD):=Qbg.of fun x y H Q h=>by
 obtain⟨i,j,ρ,st,rfl,rfl,sr,p⟩:=QdS (by intro d e;cases d<;>cases e<;>first | exact .inl ⟨_,_,rfl,rfl⟩ | exact .inr rfl) h
 exact⟨_,_,rfl,rfl,p.ret sr _ (.bl _)⟩
theorem Qd1:SA X [] cNil:=QbG.of fun σ H Q h_=>h_.el fun ρ l st lr sr p=>p.ret sr [] .nil
theorem Qd2 (ha:SE X e fa) (hr:SA X es ca) (hs:starEach (e::es) X.env=(false,eval e X.env)::starEach es X.env:=by rfl):SA X (e::es) (cCons fa ca):=
 (QbH ha hr hs).of fun σ H Q h_=>h_.el fun ρ l st lr sr p=>⟨ρ,l,st,lr,sr,p.bnd.imp fun d st1 ρ1 H1 x1 s1 p1 v rv=>⟨ρ1,l,st1,lr.mono x1,s1,p1.bnd.imp fun ds st2 ρ2 H2 x2 s2 p2 vs rvs=>p2.ret s2 _ (.cons (rv.mono x2) rvs)⟩⟩
theorem Qd3 {k:Nat} (h:SA X es ca):SE X (.Tuple es k pos) (cTup ca):=(QbI h).of fun σ H Q h_=>h_.el fun ρ l st lr sr p=>⟨ρ,l,st,lr,sr,p.bnd.imp fun ds st1 ρ1 H1 x1 s1 p1 vs rvs=>by
 obtain⟨hl,p2⟩:=p1.chk
 refine⟨by rw[rvs.length];exact hl,fun q hq=>?_⟩
 exact p2 ρ1 _ (Ex.new hq) (s1.new hq) _ (.tup (SqT.of Qai) (rvs.mono (Ex.new hq)))⟩
theorem Qd4 (h:SA X es ca):SL X (.List es pos) (aDisp ca):=(QbJ h).of fun σ H Q h_=>h_.el fun ρ l st lr sr p=>⟨ρ,l,st,lr,sr,p.bnd.imp fun ds st1 ρ1 H1 x1 s1 p1 vs rvs=>by
 obtain⟨hl,p2⟩:=p1.chk
 refine⟨by rw[rvs.length];exact hl,fun q hq=>?_⟩
 have hn:H q=none:=by
  cases z:H q with
  | none=>rfl
  | some o=>exact absurd hq (x1.trk q o z)
 exact p2 ρ1 _ (Ex.new hq) (s1.new hq) q vs hn (s1.fresh hq) Qai (rvs.mono (Ex.new hq))⟩
theorem Post.bnd0 {α β:Type}{m:M α}{f:α->M β}{R:β->Sto->List Addr->Hp->Prop} (h:Post K ρ H (MM.bnd m f st) R):Post K ρ H (m st) fun a st' _ _=>Post K ρ H (f a st') R:=by
 unfold MM.bnd at h
 cases e:m st with
 | ok a s'=>
  rw[e]at h
  exact fun ρ' H' y s=>h
 | exc _ _=>rw[e]at h;exact h
 | bad=>rw[e]at h;exact h
theorem Qd5 (h:SL X e ca):SE X e (cKeep ca):=h.of fun σ H Q h_=>h_.el fun ρ l st lr sr p=>⟨ρ,l,st,lr,sr,p.bnd0.imp fun ds st1 ρ1 H1 x1 s1 p1 a vs ha na hv rvs=>by
 have x:Ex ρ H (ρ1++[a]) H1:=by
  obtain⟨τ,e,f⟩:=x1.pre
  refine⟨⟨τ++[a],by rw[e,List.append_assoc],fun b hb=>?_⟩,x1.fix,x1.oth,x1.knd⟩
  rcases List.mem_append.mp hb with hb | hb
  ·exact f b hb
  ·rw[List.mem_singleton]at hb;rw[hb];exact ha
 refine p1 (ρ1++[a]) H1 x (s1.keep hv na rvs) _ (.ref ⟨_,hv,rfl⟩ ?_)
 rw[<- s1.len];simp⟩
theorem _root_.L2.IxR.of {r r':R2} (h:IxR X r) (g:∀ x y H Q,r' x y H Q->r x y H Q):IxR X r':=fun value slice pins s σ H x y v u Q I rx ry q hs=>h value slice pins s σ H x y v u Q I rx ry (g x y H Q q) hs
theorem Post.item {ds:List D}{i:Int}{R:D->Sto->List Addr->Hp->Prop} (h:Post K ρ H (itemD ds i st) R) (s:SR K ρ H st):∃ k d,L2.ixN ds.length i=some k/\ds[k]?=some d/\R d st ρ H:=by
 unfold itemD at h
 cases e:MM.ixN ds.length i with
 | none=>rw[e]at h;exact h.elim
 | some k=>
  rw[e]at h
  cases e2:ds[k]? with
  | none=>dsimp only at h;rw[e2]at h;exact h.elim
  | some d=>dsimp only at h;rw[e2]at h;exact⟨k,d,e,e2,h.ret s⟩
theorem Qd6 {vs:List V}{ds:List D}{i:Int}{k:Nat}{d:D} (r:Reps K ρ H vs ds) (h1:L2.ixN ds.length i=some k) (h2:ds[k]?=some d):∃ v,atI vs i=some v/\Rep K ρ H v d:=by
 obtain⟨v,e,rv⟩:=r.get h2
 refine⟨v,?_,rv⟩
 unfold atI
 rw[r.length,h1]
 exact e
theorem Post.itemK {n:Nat}{k:D}{R:D->Sto->List Addr->Hp->Prop} (h:Post K ρ H (MM.itemK n k st) R) (s:SR K ρ H st):∃ b kvs d,st[n]?=some (.dct b kvs)/\kOk b k=true/\lkK kvs k=some d/\R d st ρ H:=by
 obtain⟨b,kvs,e,p1⟩:=Post.getDc (Post.bnd h) s
 obtain⟨hk,p2⟩:=Post.chk p1
 cases e2:lkK kvs k with
 | none=>dsimp only at p2;rw[e2]at p2;exact p2.elim
 | some d=>dsimp only at p2;rw[e2]at p2;exact⟨b,kvs,d,e,hk,e2,p2.ret s⟩
theorem ObR.dictIs {X:Cx}{pins:List (Addr × Obj)}{σ:St}{s:Shared}{a:Addr}{b:Bool}{kvs:List (D × D)} (I:Inv X pins σ H s) (g:ObR X.K ρ H a (.dct b kvs)):s.TypeIs (.ref a) "dict":=by
 cases b with
 | false=>
  obtain⟨es,e,r⟩:=g
  obtain⟨_,_,vs,_,dd⟩:=QcH I.hok e
  exact dd.typeIs
 | true=>
  obtain⟨es,e,r⟩:=g
  obtain⟨_,_,xs,_,dd,_⟩:=Qdr I e r
  exact dd.typeIs
theorem Qd7 (hu:X.A.units + 60 < cLine):IxR X (fun x y H Q=>∃ (ρ:List Addr) (st:Sto) (n:Nat) (a:Addr) (b:Bool) (kvs:List (D × D)) (k d:D),x=.ref a/\SR X.K ρ H st/\ρ[n]?=some a/\st[n]?=some (.dct b kvs)/\Rep X.K ρ H y k/\kOk b k=true/\lkK kvs k=some d/\∀ v,Rep X.K ρ H v d->Q v H):=by
 intro value slice pins s σ H x y v u Q I rx ry pq149 hs;obtain⟨ρ,st,n,a,b,kvs,k,d,ex,sr,ha,hn,rk,hk,hl,q⟩:=pq149
 subst ex
 cases rx
 have g:=sr.ob n a _ ha hn
 exact tail_any (ObR.dictIs I g) PySem.F.slot_dict_getitem.lookup (Qdv (by ac_nf) I g rk hk hl ry fun v w' s' I' rv rw'=>⟨v,H,I',rw',q v rv⟩) hs
theorem Qd8 {x y:V}{d e:D}{Q:VK} (sr:SR K ρ H st) (rx:Rep K ρ H x d) (ry:Rep K ρ H y e) (hd:∀ n,d≠.dic n) (p:Post K ρ H (subsD d e st) fun r _ ρ' H'=>∀ v,Rep K ρ' H' v r->Q v H'):rIx K x y H Q:=by
 cases ry with
 | int i=>
  cases rx with
  | dic _ _=>exact absurd rfl (hd _)
  | tup h r=>
   obtain⟨k,d,h1,h2,q⟩:=Post.item p sr
   obtain⟨v,h3,rv⟩:=Qd6 r h1 h2
   exact .inr (.inl ⟨_,_,i,v,rfl,rfl,h,h3,q v rv⟩)
  | lit h r=>
   obtain⟨k,d,h1,h2,q⟩:=Post.item p sr
   obtain⟨v,h3,rv⟩:=Qd6 r h1 h2
   exact .inl ⟨_,_,i,v,rfl,rfl,h.seq,h3,q v rv⟩
  | ref _ h=>
   obtain⟨xs,e,p1⟩:=Post.getL (Post.bnd p) sr
   obtain⟨a,vs,ha,hv,r⟩:=sr.seq e
   rw[h]at ha;cases ha
   obtain⟨k,d,h1,h2,q⟩:=Post.item p1 sr
   obtain⟨v,h3,rv⟩:=Qd6 r h1 h2
   exact .inl ⟨_,_,i,v,rfl,rfl,SqL.of hv,h3,q v rv⟩
  | str z=>
   obtain⟨hz,p1⟩:=Post.chk p
   cases e:MM.ixN z.length i with
   | none=>rw[e]at p1;exact p1.elim
   | some k=>
    rw[e]at p1
    cases e2:z.cps.toList[k]? with
    | none=>dsimp only at p1;rw[e2]at p1;exact p1.elim
    | some c=>
     dsimp only at p1
     rw[e2]at p1
     refine .inr (.inr ⟨z,i,c,rfl,rfl,hz,?_,p1.ret sr _ (.str _)⟩)
     unfold atI
     rw[show z.cps.toList.length=z.length by simp[Str.length]]
     show (L2.ixN z.length i).bind _=_
     rw[show L2.ixN z.length i=some k from e]
     exact e2
  | _=>exact p.elim
 | _=>cases rx<;>first | exact absurd rfl (hd _) | exact p.elim
theorem ixd (hu:X.A.units + 60 < cLine):IxR X (rOf X.K subsD):=(Qb7.or (Qd7 hu)).of fun x y H Q pq56=>by
 obtain⟨ρ,st,d,e,sr,rx,ry,p⟩:=pq56
 by_cases hd:∃ n,d=.dic n
 ·obtain⟨n,rfl⟩:=hd
  cases rx with
  | @dic a n _ h=>
   have p':Post X.K ρ H (itemK n e st) fun r _ ρ' H'=>∀ (v:V),Rep X.K ρ' H' v r->Q v H':=by cases ry<;>exact p
   obtain⟨b,kvs,d,e1,hk,hl,q⟩:=Post.itemK p' sr
   exact .inr ⟨ρ,st,n,a,b,kvs,e,d,rfl,sr,h,e1,ry,hk,hl,q⟩
 ·exact .inl (Qd8 sr rx ry (fun n z=>hd ⟨n,z⟩) p)
theorem Qd9 (hu:X.A.units + 60 < cLine) (ha:SE X a fa) (hb:SE X b fb) (hs:PlainIx b):SE X (.Subscript a b pos) (c2 subsD fa fb):=(Qb3 (ixd hu) ha hb hs).of (Qc9 fun _ _ _ _ h=>h)
theorem Qea (ha:SL X a ca) (hb:SE X b fb) (hs:PlainIx b):SE X (.Subscript a b pos) (cTmpSub ca fb):=(Qb3 Qb4 ha hb hs).of fun σ H Q h_=>h_.el fun ρ l st lr sr p=>
 ⟨ρ,l,st,lr,sr,p.bnd.imp fun ds st1 ρ1 H1 x1 s1 p1 a vs ha na hv rvs=>⟨ρ1,l,st1,lr.mono x1,s1,p1.bnd.imp fun e st2 ρ2 H2 x2 s2 p2 u ru=>by
  cases ru with
  | int i=>
   obtain⟨k,d,h1,h2,q⟩:=Post.item p2 s2
   obtain⟨v,h3,rv⟩:=Qd6 (rvs.mono x2) h1 h2
   exact⟨a,vs,i,v,rfl,rfl,SqL.of (x2.lst a vs na hv),h3,q v rv⟩
  | _=>exact p2.elim⟩⟩
theorem Qeb {CX : CXT} {k n : Nat} {f : Addr} {fd : FuncData} {ps : List Str} {g : List D -> M D} {x : Str} {p : Pos} (F : FnOk X.prog X.w X.K X.mg X.base CX k f fd ps (spOf X.K n g)) (hr : Room k X.A) (hg : Gl X x) (hm : X.mg x = some (.ref f))
  (hk:PySem.W.keepIn X.K (.ref f)=true) (hb:Binds X.K fd ps []) (hx:Passes CX X E0) (ha:SA X (e::es) ca) (hn:∀ l st ds st',ca l st=.ok ds st'->ds.length=n) (hdb:(x == ("__debug__":Str))=false:=by decide)
  (he:starEach (e::es) X.env=(false,eval e X.env)::starEach es X.env:=by rfl) (hpl:(backTo pos (starEach es X.env)).any (·.1)=false:=by rfl):SE X (.Call (.Name x p) (e::es) [] pos) (cCall g ca):=
 (QbL F hr hg hm hk hb .nil hx ha hdb he hpl).of fun σ H Q h_=>h_.el fun ρ l st lr sr p=>⟨ρ,l,st,lr,sr,by
  have q:=Post.bnd p
  cases ec:ca l st with
  | bad=>rw[ec]at q;exact q
  | exc _ _=>rw[ec]at q;exact q
  | ok ds st1=>
   rw[ec]at q
   intro ρ1 H1 x1 s1 vs rvs
   refine⟨by rw[List.append_nil,rvs.length];exact hn l st ds st1 ec,ρ1,st1,ds,s1,by rw[List.append_nil];exact rvs,q ρ1 H1 x1 s1⟩⟩
variable {ta tb:CT}
theorem Qec {d:D}{v:V}{R:Bool->Sto->List Addr->Hp->Prop} (p:Post K ρ H (truD d st) R) (sr:SR K ρ H st) (rv:Rep K ρ H v d):∃ k,TruV K v H k/\R k st ρ H:=by
 cases rv with
 | non=>exact⟨false,rfl,p.ret sr⟩
 | bl b=>exact⟨b,rfl,p.ret sr⟩
 | int i=>exact⟨_,rfl,p.ret sr⟩
 | str x=>exact⟨_,⟨(Post.chk p).1,rfl⟩,(Post.chk p).2.ret sr⟩
 | @tup a vs ds h r=>
  refine⟨!vs.isEmpty,.inr (.inl ⟨vs,h,rfl⟩),?_⟩
  have:vs.isEmpty=ds.isEmpty:=by
   have:=r.length
   cases vs<;>cases ds<;>simp_all
  rw[this];exact p.ret sr
 | @lit a vs ds h r=>
  refine⟨!vs.isEmpty,.inl ⟨vs,h.seq,rfl⟩,?_⟩
  have:vs.isEmpty=ds.isEmpty:=by
   have:=r.length
   cases vs<;>cases ds<;>simp_all
  rw[this];exact p.ret sr
 | ref _ h=>
  obtain⟨ds,e,p1⟩:=Post.getL (Post.bnd p) sr
  obtain⟨a,vs,ha,hv,r⟩:=sr.seq e
  rw[h]at ha;cases ha
  refine⟨!vs.isEmpty,.inl ⟨vs,SqL.of hv,rfl⟩,?_⟩
  have:vs.isEmpty=ds.isEmpty:=by
   have:=r.length
   cases vs<;>cases ds<;>simp_all
  rw[this];exact p1.ret sr
 | dic _ _=>exact p.elim
 | exn0 _ _=>exact p.elim
 | exn _ _ _ _=>exact p.elim
theorem Qed (ha:SE X a fa) (he:∀ whole,isTrue a X.env whole=(do let v <- whole;standAt a.pos;holding [v] (truthy v)):=by intro _;rfl):ST X a (tVal fa):=
 (Qbu ha he).of fun σ H Q h_=>h_.el fun ρ l st lr sr p=>⟨ρ,l,st,lr,sr,p.bnd.imp fun d st1 ρ1 H1 x1 s1 p1 v rv=>Qec p1 s1 rv⟩
theorem Qee {op:CmpOp}{g:D->D->M D} (ho:OpR X (compareOp op) (rOf X.K g)) (ha:SE X a fa) (hb:SE X b fb) (hm:behindInMarks op b=false):ST X (.Compare a [op] [b] pos) (tCmpB (c2 g fa fb)):=
 (Qbn ho ha hb hm).of fun σ H Q h_=>h_.el fun ρ l st lr sr p=>Qc9 (X:=X) (fun _ _ _ _ h=>h) _ _ _ ⟨ρ,l,st,lr,sr,p.bnd.imp fun d st1 ρ1 H1 x1 s1 p1 v rv=>by
  cases rv with
  | bl k=>exact⟨k,rfl,p1.ret s1⟩
  | _=>exact p1.elim⟩
theorem Qef (ha:ST X a ta):PW X (.BoolOp .And [a] pos) (ttOf X.K ta):=QaB ha
theorem Qeg (ha:ST X a ta):PW X (.BoolOp .Or [a] pos) (ttOf X.K ta):=QaC ha
theorem _root_.L2.PW.of {e:Expr}{t t':TT} (h:PW X e t) (f:∀ σ H Q,t' σ H Q->t σ H Q):PW X e t':=fun whole pins s σ H Q I q=>h whole pins s σ H Q I (f σ H Q q)
theorem Qeh {rest:List Expr} (ha:ST X a ta) (hb:PW X (.BoolOp .And (b::rest) pos) (ttOf X.K tb)):PW X (.BoolOp .And (a::b::rest) pos) (ttOf X.K (tAndB ta tb)):=
 (QaD ha hb).of fun σ H Q h_=>h_.el fun ρ l st lr sr p=>⟨ρ,l,st,lr,sr,p.bnd.imp fun c st1 ρ1 H1 x1 s1 p1=>by
  cases c with
  | true=>exact⟨ρ1,l,st1,lr.mono x1,s1,p1⟩
  | false=>exact p1.ret s1⟩
theorem Qei {rest:List Expr} (ha:ST X a ta) (hb:PW X (.BoolOp .Or (b::rest) pos) (ttOf X.K tb)):PW X (.BoolOp .Or (a::b::rest) pos) (ttOf X.K (tOrB ta tb)):=
 (QaE ha hb).of fun σ H Q h_=>h_.el fun ρ l st lr sr p=>⟨ρ,l,st,lr,sr,p.bnd.imp fun c st1 ρ1 H1 x1 s1 p1=>by
  cases c with
  | true=>exact p1.ret s1
  | false=>exact⟨ρ1,l,st1,lr.mono x1,s1,p1⟩⟩
theorem Qej (ha:ST X a ta):ST X (.UnaryOp .Not a pos) (tNotB ta):=(QaF ha).of fun σ H Q h_=>h_.el fun ρ l st lr sr p=>⟨ρ,l,st,lr,sr,p.bnd.imp fun c st1 ρ1 H1 x1 s1 p1=>p1.ret s1⟩
theorem Qek {op:BoolOp} (h:SE X a fa):SE X (.BoolOp op [a] pos) fa:=QaG h
theorem Qel {rest:List Expr} (ha:SE X a fa) (hb:SE X (.BoolOp .And (b::rest) pos) fb):SE X (.BoolOp .And (a::b::rest) pos) (cAnd fa fb):=
 (QaH ha hb).of fun σ H Q h_=>h_.el fun ρ l st lr sr p=>⟨ρ,l,st,lr,sr,p.bnd.imp fun d st1 ρ1 H1 x1 s1 p1 v rv=>by
  cases rv with
  | bl c=>
   refine⟨c,rfl,?_⟩
   cases c with
   | true=>exact⟨ρ1,l,st1,lr.mono x1,s1,p1⟩
   | false=>exact p1.ret s1 _ (.bl false)
  | _=>exact p1.elim⟩
theorem Qem (ha : SE X a fa) : SE X (.UnaryOp .Not a pos) (cNot fa) := (QaI ha).of fun σ H Q h_ => h_.el fun ρ l st lr sr p => ⟨ρ, l, st, lr, sr, p.bnd.imp fun d st1 ρ1 H1 x1 s1 p1 v rv => by
  cases rv with
  | bl c=>exact⟨c,rfl,p1.ret s1 _ (.bl _)⟩
  | _=>exact p1.elim⟩
theorem Qen {f g:D->D->M D}:∀ σ H Q,tOf X.K (cChain f g fa fb fc) σ H Q->tChain (rOf X.K f) (rOf X.K g) (tOf X.K fa) (tOf X.K fb) (tOf X.K fc) σ H Q:=fun σ H Q h_=>h_.el fun ρ l st lr sr p=>
 ⟨ρ,l,st,lr,sr,p.bnd.imp fun d st1 ρ1 H1 x1 s1 p1 v rv=>⟨ρ1,l,st1,lr.mono x1,s1,p1.bnd.imp fun e st2 ρ2 H2 x2 s2 p2 u ru=>⟨ρ2,st2,d,e,s2,rv.mono x2,ru,p2.bnd.imp fun z st3 ρ3 H3 x3 s3 p3 w rw'=>by
  cases rw' with
  | bl k=>
   refine⟨k,rfl,?_⟩
   cases k with
   | true=>exact⟨ρ3,l,st3,(lr.mono x1).mono (x2.trans x3),s3,p3.bnd.imp fun t st4 ρ4 H4 x4 s4 p4 q rq=>⟨ρ4,st4,e,t,s4,(ru.mono x3).mono x4,rq,p4⟩⟩
   | false=>exact p3.ret s3 _ (.bl false)
  | _=>exact p3.elim⟩⟩⟩
theorem Qeo {op op' : CmpOp} {f g : D -> D -> M D} (ho : OpR X (compareOp op) (rOf X.K f)) (ho' : OpR X (compareOp op') (rOf X.K g)) (ha : SE X a fa) (hb : SE X b fb) (hc : SE X c fc)
  (hm:lastMarks [op,op'] [b,c]=false:=by with_unfolding_all rfl):SE X (.Compare a [op,op'] [b,c] pos) (cChain f g fa fb fc):=(Qbo ho ho' ha hb hc hm).of Qen
theorem Qep {op op' : CmpOp} {f g : D -> D -> M D} (ho : OpR X (compareOp op) (rOf X.K f)) (ho' : OpR X (compareOp op') (rOf X.K g)) (ha : SE X a fa) (hb : SE X b fb) (hc : SE X c fc)
  (hm:lastMarks [op,op'] [b,c]=false:=by with_unfolding_all rfl):ST X (.Compare a [op,op'] [b,c] pos) (tCmpB (cChain f g fa fb fc)):=
 (Qbp ho ho' ha hb hc hm).of fun σ H Q h_=>h_.el fun ρ l st lr sr p=>Qen _ _ _ ⟨ρ,l,st,lr,sr,p.bnd.imp fun d st1 ρ1 H1 x1 s1 p1 v rv=>by
  cases rv with
  | bl k=>exact⟨k,rfl,p1.ret s1⟩
  | _=>exact p1.elim⟩
end
theorem LR.set {K:PySem.W.Frag}{ρ:List Addr}{H:Hp}{σ:St}{l:Loc}{v:V}{d:D} (h:LR K ρ H σ l) (i:Nat) (r:Rep K ρ H v d):LR K ρ H (σ.set i (some v)) (l.set i (some d)):=by
 refine⟨by simp[h.1],fun j e q=>?_⟩
 by_cases z:i=j
 ·subst z
  by_cases hl:i < l.length
  ·rw[List.getElem?_set_self hl]at q
   cases q
   exact⟨v,by rw[List.getElem?_set_self (by rw[h.1];exact hl)],r⟩
  ·rw[List.getElem?_eq_none (by simp;ac_nf)]at q;cases q
 ·rw[List.getElem?_set_ne z]at q
  obtain⟨w,e1,r1⟩:=h.2 j e q
  exact⟨w,by rw[List.getElem?_set_ne z];exact e1,r1⟩
theorem LR.start {K:PySem.W.Frag}{ρ:List Addr}{H:Hp}{N:List Str}{vs:List V}{ds:List D} (r:Reps K ρ H vs ds):LR K ρ H (L2.start N vs) (ds.map some++List.replicate (N.length - ds.length) none):=by
 have hl:=r.length
 unfold L2.start
 refine⟨by simp[hl],fun i d e=>?_⟩
 by_cases hi:i < ds.length
 ·rw[List.getElem?_append_left (by simpa using hi),List.getElem?_map]at e
  cases q:ds[i]? with
  | none=>rw[q]at e;cases e
  | some d'=>
   rw[q]at e
   have e':d'=d:=Option.some.inj (Option.some.inj e)
   subst e'
   obtain⟨v,hv,rv⟩:=r.get q
   refine⟨v,?_,rv⟩
   rw[List.getElem?_append_left (by simp;ac_nf),List.getElem?_map,hv];rfl
 ·rw[List.getElem?_append_right (by simpa using hi),List.getElem?_replicate]at e
  split at e<;>cases e
section
variable {X:Cx}{a b c e tg:Expr}{es:List Expr}{s:Stmt}{ss:List Stmt}{pos:Pos}{fa fb fc:CE}{ca cb:CA}{ta tb:CT}{cs cr:CS}{K:PySem.W.Frag}{ρ:List Addr}{H:Hp}{st:Sto}
abbrev SG (X:Cx) (e:Expr) (g:CG):Prop:=PG X e (tgOf X.K g)
abbrev SGs (X:Cx) (e:List Expr) (g:List D->Loc->M Loc):Prop:=PGs X e (tgsOf X.K g)
theorem Qeq {i:Nat}{x:Str} (h:PG X (.Name x pos) (gName i)):SG X (.Name x pos) (gVar i):=h.of fun v σ H Q pq57=>by obtain⟨ρ,l,st,d,lr,sr,rv,p⟩:=pq57;exact p.ret sr _ (lr.set i rv)
theorem Qer:SGs X [] gsNil:=QaP.of fun vs σ H Q pq58=>by
 obtain⟨ρ,l,st,ds,lr,sr,rvs,p⟩:=pq58
 cases rvs with
 | nil=>exact⟨rfl,p.ret sr σ lr⟩
 | cons _ _=>exact p.elim
theorem Qes {g:CG}{r:List D->Loc->M Loc} (h1:SG X e g) (h2:SGs X es r) (hs:(assignEach (e::es) X.env).map (·.2)=assign e X.env::(assignEach es X.env).map (·.2):=by rfl):SGs X (e::es) (gsCons g r):=
 (QaQ h1 h2 hs).of fun vs σ H Q pq59=>by
  obtain⟨ρ,l,st,ds,lr,sr,rvs,p⟩:=pq59
  cases rvs with
  | nil=>exact p.elim
  | cons rv rt=>exact⟨_,_,rfl,ρ,l,st,_,lr,sr,rv,(Post.bnd p).imp fun l1 st1 ρ1 H1 x1 s1 p1 σ1 lr1=>⟨ρ1,l1,st1,_,lr1,s1,rt.mono x1,p1⟩⟩
theorem Qet {k n:Nat}{r:List D->Loc->M Loc} (hc:X.calm=true) (h:SGs X es r) (hn:(assignEach es X.env).length=n:=by rfl) (hst:(assignEach es X.env).findIdx? (·.1)=none:=by rfl):SG X (.Tuple es k pos) (gTupD n r):=
 (QaR hc h hn hst).of fun v σ H Q pq60=>by
  obtain⟨ρ,l,st,d,lr,sr,rv,p⟩:=pq60
  cases rv with
  | tup h r=>exact⟨_,_,rfl,h,by rw[r.length];exact (Post.chk p).1,ρ,l,st,_,lr,sr,r,(Post.chk p).2⟩
  | _=>exact p.elim
theorem Qeu:SSs X [] sNext:=QaJ.of fun G σ H h_=>h_.el fun ρ l st lr sr p=>p.ret sr σ lr
theorem Qev (h1:SS X s cs) (h2:SSs X ss cr):SSs X (s::ss) (sSeq cs cr):=(QaK h1 h2).of fun G σ H h_=>h_.el fun ρ l st lr sr p=>⟨ρ,l,st,lr,sr,p.bnd.imp fun f st1 ρ1 H1 x1 s1 p1=>by
 cases f with
 | next l'=>exact fun σ' lr'=>⟨ρ1,l',st1,lr',s1,p1⟩
 | ret d=>exact p1.ret s1
 | brk l'=>exact p1.ret s1
 | cnt l'=>exact p1.ret s1⟩
theorem Qew (h:SE X e fa):SS X (.Return (some e) pos) (sRet fa):=(QaM h).of fun G σ H h_=>h_.el fun ρ l st lr sr p=>⟨ρ,l,st,lr,sr,p.bnd.imp fun d st1 ρ1 H1 x1 s1 p1 v rv=>p1.ret s1 v rv⟩
theorem Qex (h:SE X e fa) (hs:swapsWith e none pos.line X.env=pure false:=by rfl):SS X (.Expr e pos) (sExp fa):=(QaL h hs).of fun G σ H h_=>h_.el fun ρ l st lr sr p=>
 ⟨ρ,l,st,lr,sr,p.bnd.imp fun d st1 ρ1 H1 x1 s1 p1 v rv=>p1.ret s1 σ (lr.mono x1)⟩
theorem Qey (hc:ST X c ta) (ha:SSs X ss cs) {sr:List Stmt} (hb:SSs X sr cr):SS X (.If c ss sr pos) (sIf ta cs cr):=(QaN hc ha hb).of fun G σ H h_=>h_.el fun ρ l st lr sr p=>
 ⟨ρ,l,st,lr,sr,p.bnd.imp fun k st1 ρ1 H1 x1 s1 p1=>by
  cases k with
  | true=>exact⟨ρ1,l,st1,lr.mono x1,s1,p1⟩
  | false=>exact⟨ρ1,l,st1,lr.mono x1,s1,p1⟩⟩
theorem Qez {g:CG}{te:TE}{tg:TG} (he:∀ σ H Q,tOf X.K fa σ H Q->te σ H Q) (hg:∀ v σ H Q,tgOf X.K g v σ H Q->tg v σ H Q):∀ G σ H,tsOf X.K (sAsg g fa) G σ H->tAsg te tg G σ H:=fun G σ H h_=>h_.el fun ρ l st lr sr p=>
 he _ _ _ ⟨ρ,l,st,lr,sr,p.bnd.imp fun d st1 ρ1 H1 x1 s1 p1 v rv=>hg _ _ _ _ ⟨ρ1,l,st1,d,lr.mono x1,s1,rv,p1.bnd.imp fun l2 st2 ρ2 H2 x2 s2 p2 σ2 lr2=>p2.ret s2 σ2 lr2⟩⟩
theorem QeA {i:Nat}:∀ v σ H Q,tgOf X.K (gVar i) v σ H Q->gName i v σ H Q:=fun v σ H Q pq61=>by obtain⟨ρ,l,st,d,lr,sr,rv,p⟩:=pq61;exact p.ret sr _ (lr.set i rv)
theorem QeB {i : Nat} {x : Str} {pos' : Pos} (hN : X.N.Nodup) (hi : X.N[i]? = some x) (hx : L2.Loc X.env.scope x) (he : SE X e fa) (hs : swapsWith e (some (.Name x pos')) pos.line X.env = pure false := by rfl)
  (hf:X.fn x=true\/X.env.scope.names.lookup x=some .local:=by first | exact .inl rfl | exact .inr rfl | assumption):SS X (.Assign [.Name x pos'] e pos) (sAsg (gVar i) fa):=
 (QaU hN hi hx he hs hf).of (Qez (fun _ _ _ h=>h) QeA)
theorem QeC {g : CG} (he : SE X e fa) (hg : SG X tg g) (hs : swapsWithSole [tg] e pos.line X.env = pure false := by rfl) (hw : swappedStores [tg] e X.env = pure none := by rfl)
  (h1:(assignEach [tg] X.env).map (·.2)=[assign tg X.env]:=by rfl):SS X (.Assign [tg] e pos) (sAsg g fa):=(QaT he hg hs hw h1).of (Qez (fun _ _ _ h=>h) fun _ _ _ _ h=>h)
theorem Post.storeK {n:Nat}{k v:D}{R:Unit->Sto->List Addr->Hp->Prop} (h:Post K ρ H (MM.storeK n k v st) R) (s:SR K ρ H st):∃ b kvs,st[n]?=some (.dct b kvs)/\kOk b k=true/\kvs.length < lim/\Post K ρ H (.ok () (st.set n (.dct b (ptK kvs k v)))) R:=by
 obtain⟨b,kvs,e,p1⟩:=Post.getDc (Post.bnd h) s
 obtain⟨⟨hk,hl⟩,p2⟩:=Post.chk p1
 refine⟨b,kvs,e,hk,hl,?_⟩
 unfold putDc at p2
 rw[e]at p2
 simpa using p2
def rSetD (X:Cx):V->V->V->Hp->(Hp->Prop)->Prop:=fun o i v H Q=>∃ (ρ:List Addr) (st:Sto) (n:Nat) (a:Addr) (b:Bool) (kvs:List (D × D)) (k d:D),o=.ref a/\SR X.K ρ H st/\ρ[n]?=some a/\st[n]?=some (.dct b kvs)/\Rep X.K ρ H i k/\kOk b k=true/\kvs.length < sizeLine/\Rep X.K ρ H v d /\
 ∀ H',SR X.K ρ H' (st.set n (.dct b (ptK kvs k d)))->Ex ρ H ρ H'->Q H'
theorem QeD (hu:X.A.units + 60 < cLine):PSet X (rSetD X):=by
 intro pins s σ H o i v ov iv u Q I ro ri rv pq150;obtain⟨ρ,st,n,a,b,kvs,k,d,eo,sr,ha,hn,rk,hk,hl,rd,q⟩:=pq150
 subst eo
 cases ro
 exact Qdx (by ac_nf) I sr ha hn rk hk hl rd ri rv fun H' s' I' s3 x3=>⟨H',I',q H' s3 x3⟩
theorem _root_.L2.PSet.or {t t':TSet} (h:PSet X t) (h':PSet X t'):PSet X (fun o i v H Q=>t o i v H Q\/t' o i v H Q):=by
 intro pins s σ H o i v ov iv u Q I ro ri rv q
 rcases q with q | q
 ·exact h pins s σ H o i v ov iv u Q I ro ri rv q
 ·exact h' pins s σ H o i v ov iv u Q I ro ri rv q
theorem QeE {to ti : CE} {o i : Expr} (hu : X.A.units + 60 < cLine) (ho : SE X o to) (hi : SE X i ti)
  (ha:∀ v,assign (.Subscript o i pos) X.env v=(do
   let ov <- holding [v] (eval o X.env)
   let iv <- holding [v,ov] (eval i X.env)
   standAt pos
   holding [v,ov,iv] (setItem ov iv v)
   release [v,ov,iv] []):=by intro _;rfl):SG X (.Subscript o i pos) (gSubD to ti):=
 (QaS ho hi (Qb9.or (QeD hu)) ha).of fun v σ H Q pq62=>by obtain⟨ρ,l,st,d,lr,sr,rv,p⟩:=pq62;exact⟨ρ,l,st,lr,sr,p.bnd.imp fun y st1 ρ1 H1 x1 s1 p1 u ru=>⟨ρ1,l,st1,lr.mono x1,s1,p1.bnd.imp fun z st2 ρ2 H2 x2 s2 p2 w rw'=>by
  have ru2:=ru.mono x2
  have rd:Rep X.K ρ2 H2 v d:=(rv.mono x1).mono x2
  cases ru2 with
  | ref _ h=>
   cases rw' with
   | int k=>
    obtain⟨ds,e,p3⟩:=Post.getL (Post.bnd (Post.bnd p2)) s2
    obtain⟨a,vs,ha,hv,r⟩:=s2.seq e
    rw[h]at ha;cases ha
    cases e2:MM.ixN ds.length k with
    | none=>rw[e2]at p3;exact p3.elim
    | some j=>
     rw[e2]at p3
     have hl:=(List.getElem?_eq_some_iff.mp e).1
     obtain⟨s3,x3⟩:=s2.put hl h hv (r.set j rd)
     refine .inl ⟨_,vs,k,j,rfl,rfl,hv,by rw[r.length];exact e2,?_⟩
     have p4:Post X.K ρ2 H2 (putL _ (ds.set j d) st2) _:=p3
     unfold putL at p4
     rw[e]at p4
     exact (p4 ρ2 _ x3 s3).ret s3 σ (((lr.mono x1).mono x2).mono x3)
   | _=>exact (Post.bnd p2).elim
  | @dic a n _ h=>
   have p':Post X.K ρ2 H2 (storeK n z d st2) fun a st' ρ' H'=>Post X.K ρ' H' (MM.ret l st') fun l' _ ρ' H'=>∀ σ',LR X.K ρ' H' σ' l'->Q σ' H':=by cases rw'<;>exact Post.bnd p2
   obtain⟨b,kvs,e1,hk,hl,q⟩:=Post.storeK p' s2
   exact .inr ⟨ρ2,st2,n,a,b,kvs,z,d,rfl,s2,h,e1,rw',hk,hl,rd,fun H3 s3 x3=>(q ρ2 H3 x3 s3).ret s3 σ (((lr.mono x1).mono x2).mono x3)⟩
  | _=>exact (Post.bnd p2).elim⟩⟩
theorem QeF {P : Program} {w : World} {K : PySem.W.Frag} {mg : Str -> Option Value} {base : Heap} {x qual : Str} {sd : Stmt} {f : Addr} {fd : FuncData} {N ps : List Str} {k : Nat} {body : CS} (F : Fun K x qual sd f fd) (S : FnScope N ps (defScope sd))
  (hbody:∀ (cdv:Value) (A:Around) (outer:List Env) (s:Shared) (H:Hp) (E:XK),Room k (A.deeper (envOfC qual (defScope sd) s.heap.objs.size f cdv))->SSs (cxOf CX0 P w K mg base N qual (defScope sd) f cdv A outer s H E).nox (defBody sd) body):
  FnOk P w K mg base CX0 (k + 1) f fd ps (spOf K ps.length (runDef N.length body)):=by
 refine F.ok S (fun vs H Q E h=>h.1) (fun cdv A outer s H vs Q E hr h=>⟨_,hbody cdv A outer s H E hr,?_⟩)
 obtain⟨hl,ρ,st,ds,sr,rvs,p⟩:=h
 refine⟨ρ,_,st,LR.start rvs,sr,?_⟩
 unfold runDef at p
 exact p.bnd.imp fun f st1 ρ1 H1 x1 s1 p1=>by
  cases f with
  | next l=>exact fun σ' _=>p1.ret s1 _ .non
  | ret d=>exact fun v rv=>p1.ret s1 v rv
  | brk l=>exact p1.elim
  | cnt l=>exact p1.elim
def ItR (K:PySem.W.Frag) (ρ0:List Addr) (H0:Hp) (w:Wk) (J:It):Prop:=∀ ρ H st,Ex ρ0 H0 ρ H->SR K ρ H st->w.same st->J.stop w.ds.length H/\∀ (i:Nat) (d:D),w.ds[i]?=some d->J.go i H/\∀ x H',J.yld i H x H'->Ex ρ H ρ H'/\SR K ρ H' st/\Rep K ρ H' x d
def tiOf (K:PySem.W.Frag) (f:CI):TI:=fun σ H R=>∃ ρ l st,LR K ρ H σ l/\SR K ρ H st/\Post K ρ H (f l st) fun w _ ρ' H'=>∀ J,ItR K ρ' H' w J->R J H'
abbrev SI (X:Cx) (tg e:Expr) (f:CI):Prop:=PI X tg e (tiOf X.K f)
theorem _root_.L2.PI.of {tg e:Expr}{t t':TI} (h:PI X tg e t) (f:∀ σ H R,t' σ H R->t σ H R):PI X tg e t':=fun pins s σ H R I q=>h pins s σ H R I (f σ H R q)
theorem QeG {ρ0:List Addr}{H0:Hp}{ds:List D}{p:Sto->Prop}{a:Addr} (h:∀ ρ H st,Ex ρ0 H0 ρ H->SR K ρ H st->p st->∃ vs,SqL K H a vs/\Reps K ρ H vs ds):ItR K ρ0 H0 ⟨ds,p⟩ (Itl K a):=fun ρ H st x s q=>by
 obtain⟨vs,hv,r⟩:=h ρ H st x s q
 refine⟨⟨vs,hv,by rw[r.length];exact Nat.le_refl _⟩,fun i d e=>?_⟩
 obtain⟨v,e1,rv⟩:=r.get e
 refine⟨⟨vs,v,hv,e1⟩,fun y H' pq63=>?_⟩
 obtain⟨e2,e3⟩:=pq63
 subst e2
 have:=e3 vs hv
 rw[e1]at this;cases this
 exact⟨Ex.refl,s,rv⟩
theorem QeH {ρ0:List Addr}{H0:Hp}{ds:List D}{p:Sto->Prop}{a:Addr} (h:∀ ρ H st,Ex ρ0 H0 ρ H->SR K ρ H st->p st->∃ vs,SqT K H a vs/\Reps K ρ H vs ds):ItR K ρ0 H0 ⟨ds,p⟩ (Itt K a):=fun ρ H st x s q=>by
 obtain⟨vs,hv,r⟩:=h ρ H st x s q
 refine⟨⟨vs,hv,by rw[r.length];exact Nat.le_refl _⟩,fun i d e=>?_⟩
 obtain⟨v,e1,rv⟩:=r.get e
 refine⟨⟨vs,v,hv,e1⟩,fun y H' pq64=>?_⟩
 obtain⟨e2,e3⟩:=pq64
 subst e2
 have:=e3 vs hv
 rw[e1]at this;cases this
 exact⟨Ex.refl,s,rv⟩
theorem QeI {ρ0:List Addr}{H0:Hp}{lo:Int}{n:Nat}:ItR K ρ0 H0 ⟨rngD lo n,anySt⟩ (Itr lo n):=fun ρ H st x s _=>by
 refine⟨by show n<=(rngD lo n).length;unfold rngD;simp,fun i d e=>?_⟩
 have hi:i < n:=by
  have:=(List.getElem?_eq_some_iff.mp e).1
  simpa [rngD] using this
 refine⟨hi,fun y H' pq65=>?_⟩
 obtain⟨e2,e3⟩:=pq65
 subst e2 e3
 have:d=.int (lo + (i:Nat)):=by
  unfold rngD at e
  rw[List.getElem?_map,List.getElem?_range hi]at e
  exact (Option.some.inj e).symm
 subst this
 exact⟨Ex.refl,s,.int _⟩
theorem QeJ {l:Expr}{tl:TE} (hl:PE X l tl):PI X tg l (fun σ H R=>tl σ H fun x H1=>∃ a,x=.ref a/\((∃ xs,SqL X.K H1 a xs)/\R (Itl X.K a) H1\/(∃ xs,SqT X.K H1 a xs)/\R (Itt X.K a) H1)):=by
 intro pins s σ H R I h
 refine thn (hl pins s σ H _ I h) fun v s1 pq66=>?_
 obtain⟨x,H1,I1,r1,a,e,q⟩:=pq66
 subst e
 cases r1
 rcases q with ⟨⟨xs,hq⟩,q⟩ | ⟨⟨xs,hq⟩,q⟩
 ·obtain⟨its,rv,p,hz⟩:=I1.list hq
  refine wpAny_pyIter_list p.isList ?_
  refine⟨s1.heap.objs.size,[s1.heap.objs.size],_,_,H1,rfl,I1.kept (t':=s1.toks) fun b o e=>Heap.get?_push_of_some _ e,QaW a _,⟨_,Heap.get?_push_size _ rfl,rfl,rfl⟩,fun b hb=>?_,q⟩
  have e:b=s1.heap.objs.size:=by simpa using hb
  subst e
  exact I1.fpOk (Nat.le_refl _) (I1.hok.fresh (Nat.le_refl _))
 ·obtain⟨its,rv,p,hz⟩:=I1.tuple hq
  refine wpAny_pyIter_tuple (show s1.heap.IsTuple a its.toArray from p) ?_
  refine⟨s1.heap.objs.size,[s1.heap.objs.size],_,_,H1,rfl,I1.kept (t':=s1.toks) fun b o e=>Heap.get?_push_of_some _ e,QaX a _,⟨_,Heap.get?_push_size _ rfl,rfl,rfl⟩,fun b hb=>?_,q⟩
  have e:b=s1.heap.objs.size:=by simpa using hb
  subst e
  exact I1.fpOk (Nat.le_refl _) (I1.hok.fresh (Nat.le_refl _))
theorem QeK (h:SE X e fa):SI X tg e (iSeq fa):=(QeJ h).of fun σ H R h_=>h_.el fun ρ l st lr sr p=>⟨ρ,l,st,lr,sr,p.bnd.imp fun d st1 ρ1 H1 x1 s1 p1 v rv=>by
 cases rv with
 | @tup a vs ds h r=>exact⟨a,rfl,.inr ⟨⟨vs,h⟩,p1.ret s1 _ (QeH fun ρ H st x s _=>⟨vs,SqT.mono x.up h,r.mono x⟩)⟩⟩
 | @lit a vs ds h r=>exact⟨a,rfl,.inl ⟨⟨vs,h.seq⟩,p1.ret s1 _ (QeG fun ρ H st x s _=>⟨vs,(FzL.mono x.up h).seq,r.mono x⟩)⟩⟩
 | @ref a n _ h=>
  obtain⟨ds,e,p2⟩:=Post.getL (Post.bnd p1) s1
  obtain⟨a',vs,ha,hv,r⟩:=s1.seq e
  rw[h]at ha;cases ha
  refine⟨a,rfl,.inl ⟨⟨vs,SqL.of hv⟩,p2.ret s1 _ (QeG fun ρ H st x s q=>?_)⟩⟩
  obtain⟨a2,ws,ha2,hw,rw'⟩:=s.seq q
  obtain⟨τ,eτ,_⟩:=x.pre
  rw[eτ,Qc1 h]at ha2;cases ha2
  exact⟨ws,SqL.of hw,rw'⟩
 | _=>exact p1.elim⟩
theorem QeL {p:Pos} (hg:Gl X "range") (hm:X.mg "range"=none) (h:SE X a fa) (hs:starEach [a] X.env=[(false,eval a X.env)]:=by rfl):SI X tg (.Call (.Name "range" p) [a] [] pos) (MM.iRng1 fa):=
 (Qa0 (tg:=tg) (p:=p) (pos:=pos) hg hm (Qd2 h Qd1 hs) hs).of fun σ H R h_=>h_.el fun ρ l st lr sr p=>⟨ρ,l,st,lr,sr,by
  have q:=Post.bnd p
  unfold cCons
  show Post X.K ρ H (bnd (fa l) _ st) _
  unfold MM.bnd
  cases e:fa l st with
  | bad=>rw[e]at q;exact q
  | exc _ _=>rw[e]at q;exact q
  | ok d st1=>
   rw[e]at q
   show ∀ ρ' H',Ex ρ H ρ' H'->SR X.K ρ' H' st1->_
   intro ρ1 H1 x1 s1 vs rvs
   have p1:=q ρ1 H1 x1 s1
   cases rvs with
   | cons rv rt=>
    cases rt
    cases rv with
    | int j=>
     obtain⟨⟨h1,h2⟩,p2⟩:=Post.chk p1
     exact⟨j,rfl,h1,h2,p2.ret s1 _ QeI⟩
    | _=>exact p1.elim⟩
theorem Post.chkS {p:Sto->Prop}{R:Unit->Sto->List Addr->Hp->Prop} (h:Post K ρ H (MM.chkS p st) R) (s:SR K ρ H st):p st/\R () st ρ H:=by
 unfold MM.chkS at h
 by_cases hp:p st
 ·rw[if_pos hp]at h;exact⟨hp,h ρ H Ex.refl s⟩
 ·rw[if_neg hp]at h;exact h.elim
theorem QeM {iter : Expr} {body : List Stmt} {ci : CI} {g : CG} {cb : CS} (hp : PassesOwn (model X.prog X.w) X.A X.env X.xe) (hc : X.calm = true) (hi : SI X tg iter ci) (hg : SG X tg g) (hb : SSs X body cb)
  (hs:∀ x,foldedSetIterable iter X.env x=pure x:=by intro _;rfl):SS X (.For tg iter body [] pos) (sFor ci g cb):=(Qa3 hp hc hi hg hb hs).of fun G σ H h_=>h_.el fun ρ l st lr sr p=>
 ⟨ρ,l,st,lr,sr,p.bnd.imp fun w st1 ρ1 H1 x1 s1 p1 J hJ=>by
  refine⟨fun i m σ' H'=>m=w.ds.length - i/\i<=w.ds.length/\∃ ρ' l' st',Ex ρ1 H1 ρ' H'/\LR X.K ρ' H' σ' l'/\SR X.K ρ' H' st'/\Post X.K ρ' H' (forD g cb w.same (w.ds.drop i) l' st') fun f _ ρ' H'=>match f with
   | .next l'=>∀ σ',LR X.K ρ' H' σ' l'->G.nx σ' H'
   | .ret d=>∀ v,Rep X.K ρ' H' v d->G.rt v H'
   | .brk l'=>∀ σ',LR X.K ρ' H' σ' l'->G.bk σ' H'
   | .cnt l'=>∀ σ',LR X.K ρ' H' σ' l'->G.ct σ' H',⟨w.ds.length,by simp,Nat.zero_le _,ρ1,l,st1,Ex.refl,lr.mono x1,s1,p1⟩,?_⟩
  rintro i m σ2 H2 ⟨rfl,hi,ρ2,l2,st2,x2,lr2,s2,p2⟩
  by_cases hlt:i < w.ds.length
  ·have ed:w.ds.drop i=w.ds[i]::w.ds.drop (i + 1):=List.drop_eq_getElem_cons hlt
   rw[ed]at p2
   unfold forD at p2
   obtain⟨sm,p3⟩:=Post.chkS (Post.bnd p2) s2
   obtain⟨_,go⟩:=hJ ρ2 H2 st2 x2 s2 sm
   obtain⟨g1,g2⟩:=go i w.ds[i] (List.getElem?_eq_getElem hlt)
   refine .inr ⟨g1,fun σ3 H3=>∃ ρ3 l3 st3,Ex ρ1 H1 ρ3 H3/\LR X.K ρ3 H3 σ3 l3/\SR X.K ρ3 H3 st3/\Post X.K ρ3 H3 (forD g cb w.same (w.ds.drop (i + 1)) l3 st3) fun f _ ρ' H'=>match f with
    | .next l'=>∀ σ',LR X.K ρ' H' σ' l'->G.nx σ' H'
    | .ret d=>∀ v,Rep X.K ρ' H' v d->G.rt v H'
    | .brk l'=>∀ σ',LR X.K ρ' H' σ' l'->G.bk σ' H'
    | .cnt l'=>∀ σ',LR X.K ρ' H' σ' l'->G.ct σ' H',fun σ3 H3 q=>⟨_,by ac_nf,rfl,hlt,q⟩,fun y H3 hy=>?_⟩
   obtain⟨x3,s3,rv⟩:=g2 y H3 hy
   refine⟨ρ2,l2,st2,_,lr2.mono x3,s3,rv,(Post.left x3 (Post.bnd p3)).imp fun l4 st4 ρ4 H4 x4 s4 p4 σ4 lr4=>⟨ρ4,l4,st4,lr4,s4,(Post.bnd p4).imp fun f st5 ρ5 H5 x5 s5 p5=>?_⟩⟩
   have x5':Ex ρ1 H1 ρ5 H5:=(x2.trans x3).trans (x4.trans x5)
   cases f with
   | next l5=>exact fun σ5 lr5=>⟨ρ5,l5,st5,x5',lr5,s5,p5⟩
   | cnt l5=>exact fun σ5 lr5=>⟨ρ5,l5,st5,x5',lr5,s5,p5⟩
   | brk l5=>exact fun σ5 lr5=>p5.ret s5 σ5 lr5
   | ret d=>exact fun v rv=>p5.ret s5 v rv
  ·have e:i=w.ds.length:=by ac_nf
   subst e
   rw[List.drop_length]at p2
   unfold forD at p2
   obtain⟨sm,p3⟩:=Post.chkS (Post.bnd p2) s2
   obtain⟨g1,_⟩:=hJ ρ2 H2 st2 x2 s2 sm
   exact .inl ⟨g1,p3.ret s2 σ2 lr2⟩⟩
end
section
variable {X:Cx}{a b c e tg:Expr}{es:List Expr}{pos:Pos}{fa fb fc:CE}{ca cb:CA}{ta tb:CT}{K:PySem.W.Frag}{ρ:List Addr}{H:Hp}{st:Sto}{x:Str}{p:Pos}{id T:String}
theorem QeN {n:Nat}{ix:List Nat}{σ:St}{l:Loc} (h:LR K ρ H σ l):LR K ρ H (capV n ix σ) (capt n ix l):=by
 unfold capV capt
 refine⟨by simp,fun i d e=>?_⟩
 have hi:n<=i:=Nat.le_of_not_lt fun z=>by
  rw[List.getElem?_append_left (by simpa using z),List.getElem?_replicate]at e
  split at e<;>cases e
 rw[List.getElem?_append_right (by simpa using hi),List.length_replicate,List.getElem?_map]at e
 cases q:ix[i - n]? with
 | none=>rw[q]at e;cases e
 | some k=>
  rw[q]at e
  have hj:(l[k]?).join=some d:=Option.some.inj e
  have hk:l[k]?=some (some d):=by
   cases z:l[k]? with
   | none=>rw[z]at hj;cases hj
   | some o=>rw[z]at hj;exact congrArg some hj
  obtain⟨v,hv,rv⟩:=h.2 k d hk
  refine⟨v,?_,rv⟩
  rw[List.getElem?_append_right (by simpa using hi),List.length_replicate,List.getElem?_map,q]
  show some ((σ[k]?).join)=some (some v)
  rw[hv];rfl
abbrev SIfs (X:Cx) (ifs:List Expr) (t:CT):Prop:=PIfs X ifs (ttOf X.K t)
theorem QeO:SIfs X [] tTrue:=fun pins s σ H Q I h_=>h_.el fun ρ l st lr sr p=>QdN pins s σ H Q I (p.ret sr)
theorem QeP (h:ST X c ta):SIfs X [c] ta:=QdO h
theorem Ex.own {ρ':List Addr}{H':Hp}{q:Addr}{ws:List V} (x:Ex ρ H ρ' H') (h:H q=none):Ex ρ H ρ' (upd H' q (.lst ws)):=by
 have ne:∀ b o,H b=some o->b≠q:=fun b o e z=>by rw[z,h]at e;cases e
 exact⟨x.pre,fun b o no e=>by rw[Qaj (ne b o e)];exact x.fix b o no e,fun b xs nb e=>by rw[Qaj (ne b _ e)];exact x.oth b xs nb e,fun b o e=>by rw[Qaj (ne b o e)];exact x.knd b o e⟩
theorem Up.own {ρ':List Addr}{H':Hp}{q:Addr}{vs ws:List V} (h:H' q=some (.lst vs)):Up ρ' H' ρ' (upd H' q (.lst ws)):=
 ⟨⟨[],by simp⟩,fun b o no e=>by rw[Qaj fun z=>by subst z;rw[h]at e;cases e;exact nomatch no];exact e,
  fun b o e=>by
   by_cases z:b=q
   ·subst z;rw[h]at e;cases e;exact⟨_,Qai,rfl⟩
   ·exact⟨o,by rw[Qaj z];exact e,rfl⟩⟩
theorem LR.up {ρ':List Addr}{H':Hp}{σ:St}{l:Loc} (x:Up ρ H ρ' H') (h:LR K ρ H σ l):LR K ρ' H' σ l:=⟨h.1,fun i d e=>let ⟨v,e1,r⟩:=h.2 i d e;⟨v,e1,r.up x⟩⟩
theorem SR.own {q:Addr}{vs ws:List V} (s:SR K ρ H st) (h:H q=some (.lst vs)) (nq:q∉ρ):SR K ρ (upd H q (.lst ws)) st:=
 ⟨s.len,s.nd,fun n b o e1 e2=>ObR.mono (o:=o) (Up.own h) (s.ob n b o e1 e2) fun us e=>by rw[Qaj (fun (z:b=q)=>nq (by rw[<- z];exact List.mem_of_getElem? e1))];exact e⟩
theorem QeQ {ci:CI}{g:CG}{n:Nat}{ix:List Nat}:∀ σ H Q,tlOf K (aComp n ix ci g ta fa) σ H Q->tComp (tiOf K ci) n ix (tgOf K g) (ttOf K ta) (tOf K fa) σ H Q:=fun σ H Q h_=>h_.el fun ρ l st lr sr p=>
 ⟨ρ,l,st,lr,sr,p.bnd0.imp fun w st1 ρ1 H1 x1 s1 p1 J hJ q hq=>by
  obtain⟨hz,p2⟩:=Post.chk p1
  have hn:H q=none:=by
   cases z:H q with
   | none=>rfl
   | some o=>exact absurd hq (x1.trk q o z)
  refine⟨fun i m σ' H'=>m=w.ds.length - i/\i<=w.ds.length/\∃ ρ' l' st' done vs,Ex ρ H ρ' H'/\Ex ρ1 H1 ρ' H'/\LR K ρ' H' σ' l'/\SR K ρ' H' st'/\q∉ρ'/\H' q=some (.lst vs)/\Reps K ρ' H' vs done/\done.length<=i /\
   Post K ρ H (collect g ta fa w.same (w.ds.drop i) l' st') (fun rest st2 ρ2 H2=>∀ a ws,H a=none->a∉ρ2->H2 a=some (.lst ws)->Reps K ρ2 H2 ws (done++rest)->Q (.ref a) H2),
   ⟨w.ds.length,by simp,Nat.zero_le _,ρ1,capt n ix l,st1,[],[],x1.trans (Ex.new hq),Ex.new hq,QeN ((lr.mono x1).mono (Ex.new hq)),s1.new hq,s1.fresh hq,Qai,.nil,Nat.zero_le _,p2⟩,?_⟩
  rintro i m σ2 H2 ⟨rfl,hi,ρ2,l2,st2,done,vs,x2,y2,lr2,s2,nq,hv,rvs,hd,p3⟩
  by_cases hlt:i < w.ds.length
  ·have ed:w.ds.drop i=w.ds[i]::w.ds.drop (i + 1):=List.drop_eq_getElem_cons hlt
   rw[ed]at p3
   unfold collect at p3
   obtain⟨sm,p4⟩:=Post.chkS (p3.bnd0.left x2) s2
   obtain⟨_,go⟩:=hJ ρ2 H2 st2 y2 s2 sm
   obtain⟨g1,g2⟩:=go i w.ds[i] (List.getElem?_eq_getElem hlt)
   refine .inr ⟨g1,fun y H3 hy=>?_⟩
   obtain⟨x3,s3,rv⟩:=g2 y H3 hy
   refine⟨ρ2,l2,st2,_,lr2.mono x3,s3,rv,(p4.bnd0.left (x2.trans x3)).imp fun l4 st4 ρ4 H4 x4 s4 p5 σ4 lr4=>⟨ρ4,l4,st4,lr4,s4,(p5.bnd0.left (x2.trans (x3.trans x4))).imp fun b st5 ρ5 H5 x5 s5 p6=>?_⟩⟩
   have y5:Ex ρ2 H2 ρ5 H5:=x3.trans (x4.trans x5)
   have out:∀ {ρ':List Addr}{H':Hp},Ex ρ2 H2 ρ' H'->q∉ρ':=fun z hm=>by
    obtain⟨τ,e,f⟩:=z.pre
    rw[e]at hm
    rcases List.mem_append.mp hm with hm | hm
    ·exact nq hm
    ·rw[f q hm]at hv;cases hv
   cases b with
   | false=>exact⟨_,by ac_nf,rfl,hlt,ρ5,l4,st5,done,vs,x2.trans y5,y2.trans y5,lr4.mono x5,s5,out y5,y5.lst q vs nq hv,rvs.mono y5,Nat.le_succ_of_le hd,p6⟩
   | true=>
    refine⟨ρ5,l4,st5,lr4.mono x5,s5,(p6.bnd0.left (x2.trans y5)).imp fun d st6 ρ6 H6 x6 s6 p7 v rv6=>?_⟩
    have y6:Ex ρ2 H2 ρ6 H6:=y5.trans x6
    have hv6:=y6.lst q vs nq hv
    have u6:Up ρ6 H6 ρ6 (upd H6 q (.lst (vs++[v]))):=Up.own hv6
    refine⟨vs,hv6,?_,_,by ac_nf,rfl,hlt,ρ6,l4,st6,done++[d],vs++[v],(x2.trans y6).own hn,(y2.trans y6).own hq,LR.up u6 ((lr4.mono x5).mono x6),s6.own hv6 (out y6),out y6,Qai,
     Reps.app ((rvs.mono y6).up u6) (.cons (rv6.up u6) .nil),by simp;ac_nf,?_⟩
    ·have e1:=rvs.length
     have e2:w.ds.length<=sizeLine:=hz
     ac_nf
    ·refine p7.bnd0.imp fun rest st8 ρ8 H8 x8 s8 p8 a ws ha na hw rws=>?_
     exact p8 ρ8 H8 x8 s8 a ws ha na hw (by rw[List.append_cons];exact rws)
  ·have e:i=w.ds.length:=by ac_nf
   subst e
   rw[List.drop_length]at p3
   unfold collect at p3
   obtain⟨sm,p4⟩:=Post.chkS (p3.bnd0.left x2) s2
   obtain⟨g1,_⟩:=hJ ρ2 H2 st2 y2 s2 sm
   refine .inl ⟨g1,p4 ρ2 H2 x2 s2 q vs hn nq hv (by rw[List.append_nil];exact rvs)⟩⟩
theorem QeR {scope : Scope} {N : List Str} {ifs : List Expr} {n : Nat} {ix : List Nat} {ci : CI} {g : CG} (hc : X.calm = true) (S : CompScope X scope) (T : CompNames X scope N n ix) (hi : SI X tg b ci)
  (blk:∀ (fp:List Addr) (s:Shared) (H:Hp),SG (cxC X N scope fp s H) tg g/\SIfs (cxC X N scope fp s H) ifs ta/\SE (cxC X N scope fp s H) e fa)
  (hs:∀ x,foldedSetIterable b X.env x=pure x:=by intro _;rfl):SL X (.ListComp e [⟨tg,b,ifs,0⟩] scope pos) (aComp n ix ci g ta fa):=(QdQ hc S T hi blk hs).of QeQ
theorem QeS {scope : Scope} {N : List Str} {ifs : List Expr} {n i : Nat} {ix : List Nat} {ci : CI} {g : CG} {y : Str} {pos' spos : Pos}
  (hN:X.N.Nodup) (hi':X.N[i]?=some y) (hy:L2.Loc X.env.scope y) (hf:X.fn y=true\/X.env.scope.names.lookup y=some .local)
  (hc:X.calm=true) (S:CompScope X scope) (T:CompNames X scope N n ix) (hi:SI X tg b ci)
  (blk:∀ (fp:List Addr) (s:Shared) (H:Hp),SG (cxC X N scope fp s H) tg g/\SIfs (cxC X N scope fp s H) ifs ta/\SE (cxC X N scope fp s H) e fa)
  (hsw:swapsWith (.ListComp e [⟨tg,b,ifs,0⟩] scope pos) (some (.Name y pos')) spos.line X.env=pure true)
  (hs:∀ x,foldedSetIterable b X.env x=pure x:=by intro _;rfl):SS X (.Assign [.Name y pos'] (.ListComp e [⟨tg,b,ifs,0⟩] scope pos) spos) (sAsg (gVar i) (cKeep (aComp n ix ci g ta fa))):=
 (QdR hN hi' hy hf hc S T hi blk hsw hs).of (Qez (fun σ H Q h_=>h_.el fun ρ l st lr sr p=>QeQ _ _ _ ⟨ρ,l,st,lr,sr,p.bnd0.imp fun ds st1 ρ1 H1 x1 s1 p1 a vs ha na hv rvs=>by
  have x:Ex ρ H (ρ1++[a]) H1:=by
   obtain⟨τ,e,f⟩:=x1.pre
   refine⟨⟨τ++[a],by rw[e,List.append_assoc],fun b hb=>?_⟩,x1.fix,x1.oth,x1.knd⟩
   rcases List.mem_append.mp hb with hb | hb
   ·exact f b hb
   ·rw[List.mem_singleton]at hb;rw[hb];exact ha
  refine p1 (ρ1++[a]) H1 x (s1.keep hv na rvs) _ (.ref ⟨_,hv,rfl⟩ ?_)
  rw[<- s1.len];simp⟩) QeA)
theorem QeT {g : D -> M D} (hc : CallR X (.builtin id) (fun xs H Q => ∃ v, xs = [v] /\ uOf X.K g v H Q)) (hg : Gl X x) (hm : X.mg x = none) (hv : bootBuiltins x = some (.builtin id)) (ha : SE X e fa) (hn : x ≠ "__name__" := by decide) (hdb : (x == ("__debug__" : Str)) = false := by decide)
  (he:starEach [e] X.env=[(false,eval e X.env)]:=by rfl):SE X (.Call (.Name x p) [e] [] pos) (c1 g fa):=
 (QbT hc hg hm hv (QbH ha QbG he) hn hdb he rfl).of fun σ H Q h_=>h_.el fun ρ l st lr sr p=>⟨ρ,l,st,lr,sr,p.bnd.imp fun d st1 ρ1 H1 x1 s1 p1 v rv=>⟨v,rfl,ρ1,st1,d,s1,rv,p1⟩⟩
theorem QeU {g : D -> M D} (hc : CallR X (.type T) (fun xs H Q => ∃ v, xs = [v] /\ uOf X.K g v H Q)) (hg : Gl X x) (hm : X.mg x = none) (hv : bootBuiltins x = some (.type T)) (ha : SE X e fa) (hn : x ≠ "__name__" := by decide) (hdb : (x == ("__debug__" : Str)) = false := by decide)
  (he:starEach [e] X.env=[(false,eval e X.env)]:=by rfl):SE X (.Call (.Name x p) [e] [] pos) (c1 g fa):=
 (QbU hc hg hm hv (QbH ha QbG he) hn hdb he rfl).of fun σ H Q h_=>h_.el fun ρ l st lr sr p=>⟨ρ,l,st,lr,sr,p.bnd.imp fun d st1 ρ1 H1 x1 s1 p1 v rv=>⟨v,rfl,ρ1,st1,d,s1,rv,p1⟩⟩
def lOf (K:PySem.W.Frag) (g:List D->M D):List V->Hp->VK->Prop:=fun xs H Q=>∃ a vs ρ st ds,xs=[.ref a]/\SqL K H a vs/\SR K ρ H st/\Reps K ρ H vs ds/\Post K ρ H (g ds st) fun r _ ρ' H'=>∀ v,Rep K ρ' H' v r->Q v H'
theorem QeV {g : List D -> M D} (hc : CallR X (.builtin id) (lOf X.K g)) (hg : Gl X x) (hm : X.mg x = none) (hv : bootBuiltins x = some (.builtin id)) (ha : SL X e ca) (hn : x ≠ "__name__" := by decide) (hdb : (x == ("__debug__" : Str)) = false := by decide)
  (he:starEach [e] X.env=[(false,eval e X.env)]:=by rfl):SE X (.Call (.Name x p) [e] [] pos) (cTmp g ca):=
 (QbT hc hg hm hv (QbH ha QbG he) hn hdb he rfl).of fun σ H Q h_=>h_.el fun ρ l st lr sr p=>⟨ρ,l,st,lr,sr,p.bnd.imp fun ds st1 ρ1 H1 x1 s1 p1 a vs ha na hv rvs=>⟨a,vs,ρ1,st1,ds,rfl,SqL.of hv,s1,rvs,p1⟩⟩
theorem QeW {g : List D -> M D} (hc : CallR X (.type T) (lOf X.K g)) (hg : Gl X x) (hm : X.mg x = none) (hv : bootBuiltins x = some (.type T)) (ha : SL X e ca) (hn : x ≠ "__name__" := by decide) (hdb : (x == ("__debug__" : Str)) = false := by decide)
  (he:starEach [e] X.env=[(false,eval e X.env)]:=by rfl):SE X (.Call (.Name x p) [e] [] pos) (cTmp g ca):=
 (QbU hc hg hm hv (QbH ha QbG he) hn hdb he rfl).of fun σ H Q h_=>h_.el fun ρ l st lr sr p=>⟨ρ,l,st,lr,sr,p.bnd.imp fun ds st1 ρ1 H1 x1 s1 p1 a vs ha na hv rvs=>⟨a,vs,ρ1,st1,ds,rfl,SqL.of hv,s1,rvs,p1⟩⟩
theorem QeX {prog : Program} {w : World} {A : Around} {E : Value -> Shared -> Prop} {s : Shared} {K : Type} [DecidableEq K] {knd : HeapKind prog w K} {d : Addr} {xs : List (K × Addr × Value)} {Q : Value -> Shared -> Prop} (hd : (d == sysModules) = false) (hm : s.heap.DictOfH knd d xs) (hfit : (xs.length : Int) < 2 ^ 63)
  (h:Q (.int xs.length (s.toks + 1)) { s with toks:=s.toks + 1 + 1 }):wpAny (model prog w) A (call (.builtin "len") [.ref d]) Q E s:=by
 refine Calls.call_function_entry kind_len plain_len entry_len (args_len1 _) ?_
 unfold Builtin.«len»
 have meet:MeetsIn prog w (Builtin.«dict.__len__» ⟨[.ref d],[]⟩) (fun _ R s=>∃ xs,s.heap.DictOfH knd d xs/\R (.ok (.ret (.int xs.length s.toks))) { s with toks:=s.toks + 1 }):=.of_wp fun A R s pq67=>by
  obtain⟨xs,hm,h⟩:=pq67
  obtain⟨o,es,ep,ho,hc,hdat,he,_,hn⟩:=hm
  show wpAny _ _ (dictSize d >>= _) _ _ s
  unfold dictSize
  refine wpAny_bind (wpAny_bind (wpAny_dictEntries ho hdat (wpAny_pure ?_)))
  show wpAny _ _ (Builtin.Dict.pendingCount d >>= _) _ _ s
  refine wpAny_bind (wpAny_pendingCount_other hd ?_)
  refine wpAny_ret_mkInt ?_
  rw[Nat.add_zero,size_of_entries he];exact h
 refine wpAny_bind (m:=oneArg "len" _) (wpAny_pure ?_)
 refine wpAny_bind (m:=callSpecial? (.ref d) (Str.ofString "__len__")) (wpAny_callSpecial?_slot (name:=Str.ofString "__len__") hm.typeIs F.slot_dict_len
  (call_meetsIn F.slot_dict_len hm.typeIs F.entry_dict_len (F.args_dict_len_1 _) meet ⟨xs,hm,?_⟩))
 show wpAny _ _ _ _ _ { s with toks:=s.toks + 1 }
 refine wpAny_bind (wpAny_holding (wpAny_pure ?_))
 refine wpAny_bind (wpAny_letGo ?_)
 show wpAny _ _ (if ((xs.length:Nat):Int) < 0 then _ else _) _ _ _
 rw[if_neg (by ac_nf)]
 show wpAny _ _ (if ((xs.length:Nat):Int) ≥ 2 ^ 63 then _ else _) _ _ _
 rw[if_neg (by ac_nf)]
 exact wpAny_bind (wpAny_mkInt (wpAny_pure ⟨_,rfl,h⟩))
theorem QeY:CallR X (.builtin "len") (fun xs H Q=>∃ (ρ:List Addr) (st:Sto) (n:Nat) (a:Addr) (b:Bool) (kvs:List (D × D)),xs=[.ref a]/\SR X.K ρ H st/\ρ[n]?=some a/\st[n]?=some (.dct b kvs)/\Q (.int kvs.length) H):=by
 intro pins s σ H xs us Q I r pq151;obtain⟨ρ,st,n,a,b,kvs,e,sr,ha,hn,q⟩:=pq151
 subst e
 obtain⟨u,rfl,ru⟩:=Qbw r
 cases ru
 have g:=sr.ob n a _ ha hn
 cases b with
 | false=>
  obtain⟨es,e,r⟩:=g
  rw[<- KR.length r]at q
  exact QcP I (.inl e) fun t s' I'=>⟨.int es.length,H,I',⟨t,rfl⟩,q⟩
 | true=>
  obtain⟨es,e,r⟩:=g
  obtain⟨z,hd,xs,rx,dd,_⟩:=Qdr I e r
  rw[<- NR.length r,Paired.length rx]at q
  have hz:xs.length<=sizeLine:=by rw[<- Paired.length rx];exact z
  exact QeX hd dd (by rw[sizeLine_eq]at hz;ac_nf) ⟨.int xs.length,H,I.tok _,⟨_,rfl⟩,q⟩
theorem QeZ:CallR X (.builtin "len") (fun xs H Q=>∃ v,xs=[v]/\uOf X.K lenD v H Q):=((Qci.or Qcj).or QeY).of fun xs H Q pq68=>by
 obtain⟨v,e,ρ,st,d,sr,rv,p⟩:=pq68
 cases rv with
 | @tup a vs ds h r=>exact .inl (.inl ⟨a,vs,e,.inr h,by rw[r.length];exact p.ret sr _ (.int _)⟩)
 | @lit a vs ds h r=>exact .inl (.inl ⟨a,vs,e,.inl h.seq,by rw[r.length];exact p.ret sr _ (.int _)⟩)
 | @ref a n _ h=>
  obtain⟨ds,e2,p1⟩:=Post.getL (Post.bnd p) sr
  obtain⟨a',vs,ha,hv,r⟩:=sr.seq e2
  rw[h]at ha;cases ha
  exact .inl (.inl ⟨a,vs,e,.inl (SqL.of hv),by rw[r.length];exact p1.ret sr _ (.int _)⟩)
 | str z=>exact .inl (.inr ⟨z,e,(Post.chk p).1,(Post.chk p).2.ret sr _ (.int _)⟩)
 | @dic a n _ h=>
  obtain⟨b,kvs,e2,p1⟩:=Post.getDc (Post.bnd p) sr
  exact .inr ⟨ρ,st,n,a,b,kvs,e,sr,h,e2,p1.ret sr _ (.int _)⟩
 | _=>exact p.elim
theorem Qe0:CallR X (.builtin "len") (lOf X.K lenL):=Qci.of fun xs H Q pq69=>by obtain⟨a,vs,ρ,st,ds,e,hv,sr,r,p⟩:=pq69;exact⟨a,vs,e,.inl hv,by rw[r.length];exact p.ret sr _ (.int _)⟩
theorem Qe1:CallR X (.type "int") (fun xs H Q=>∃ v,xs=[v]/\uOf X.K intD v H Q):=Qby.of fun xs H Q pq70=>by
 obtain⟨v,e,ρ,st,d,sr,rv,p⟩:=pq70
 cases rv with
 | int i=>exact .inl ⟨i,e,p.ret sr _ (.int _)⟩
 | bl k=>exact .inr ⟨k,e,p.ret sr _ (.int _)⟩
 | _=>exact p.elim
theorem Qe2:CallR X (.type "tuple") (fun xs H Q=>∃ v,xs=[v]/\uOf X.K tupleD v H Q):=Qck.of fun xs H Q pq71=>by
 obtain⟨v,e,ρ,st,d,sr,rv,p⟩:=pq71
 cases rv with
 | @tup a vs ds h r=>exact⟨a,vs,e,.inr ⟨h,p.ret sr _ (.tup h r)⟩⟩
 | @lit a vs ds h r=>exact⟨a,vs,e,.inl ⟨h.seq,fun l hl=>p ρ _ (Ex.new hl) (sr.new hl) _ (.tup (SqT.of Qai) (r.mono (Ex.new hl)))⟩⟩
 | @ref a n _ h=>
  obtain⟨ds,e2,p1⟩:=Post.getL (Post.bnd p) sr
  obtain⟨a',vs,ha,hv,r⟩:=sr.seq e2
  rw[h]at ha;cases ha
  exact⟨a,vs,e,.inl ⟨SqL.of hv,fun l hl=>p1 ρ _ (Ex.new hl) (sr.new hl) _ (.tup (SqT.of Qai) (r.mono (Ex.new hl)))⟩⟩
 | _=>exact p.elim
theorem Qe3:CallR X (.type "tuple") (lOf X.K tupL):=Qck.of fun xs H Q pq72=>
 by obtain⟨a,vs,ρ,st,ds,e,hv,sr,r,p⟩:=pq72;exact⟨a,vs,e,.inl ⟨hv,fun l hl=>p ρ _ (Ex.new hl) (sr.new hl) _ (.tup (SqT.of Qai) (r.mono (Ex.new hl)))⟩⟩
end
section
variable {X:Cx}{a b c e tg:Expr}{es:List Expr}{pos:Pos}{fa fb fc:CE}{ca cb:CA}{ta tb:CT}{K:PySem.W.Frag}{ρ:List Addr}{H:Hp}{st:Sto}{x:Str}{p:Pos}{T:String}
theorem Qe4 {ds:List D}{ns:List Int}{vs:List V} (h:numsL ds=some ns) (g:Reps K ρ H vs ds):vs=ns.map V.int:=by
 induction ds generalizing ns vs with
 | nil=>cases g;cases h;rfl
 | cons d ds ih=>
  cases g with
  | cons r t=>
   cases r with
   | int i=>
    unfold numsL at h
    cases q:numsL ds with
    | none=>rw[q]at h;cases h
    | some ms=>
     rw[q]at h
     have h':i::ms=_:=Option.some.inj h
     subst h'
     rw[ih q t];rfl
   | _=>cases h
theorem Qe5:∀ {ds:List D}{ns:List Bool}{vs:List V},boolsL ds=some ns->Reps K ρ H vs ds->vs=ns.map V.bl
 | [],_,_,h,.nil=>by cases h;rfl
 | .bl i::ds,_,_,h,.cons r t=>by
  unfold boolsL at h
  cases q:boolsL ds with
  | none=>rw[q]at h;cases h
  | some ms=>
   rw[q]at h
   have h':i::ms=_:=Option.some.inj h
   subst h'
   cases r
   rw[Qe5 q t];rfl
 | .non::_,_,_,h,_=>by cases h
 | .int _::_,_,_,h,_=>by cases h
 | .str _::_,_,_,h,_=>by cases h
 | .tup _::_,_,_,h,_=>by cases h
 | .lit _::_,_,_,h,_=>by cases h
 | .ref _::_,_,_,h,_=>by cases h
theorem Qe6:∀ {bs:List Bool}{us:List Value},Vals (bs.map V.bl) us->us=bs.map Value.bool
 | [],_,.nil=>rfl
 | _::_,_,.cons r t=>by cases r;rw[Qe6 t];rfl
theorem Qe7 (hc:X.calm=true):CallR X (.builtin "all") (fun xs H Q=>∃ (l:Addr) (bs:List Bool),xs=[.ref l]/\SqL X.K H l (bs.map V.bl)/\Q (.bl (bs.all id)) H):=by
 intro pins s σ H xs us Q I r h
 obtain⟨l,bs,rfl,hq,q⟩:=h
 obtain⟨u,rfl,rx⟩:=Qbw r
 cases rx
 obtain⟨its,rv,pl,hz⟩:=I.list hq
 have ei:=Qe6 rv
 subst ei
 refine call_all_walk (wpAny_pyIter_list pl.isList ?_)
 have hlt:l < s.heap.objs.size:=by
  obtain⟨o,ho,_⟩:=pl.isList
  exact Heap.lt_size ho
 refine⟨s.heap.objs.size,_,_,_,_,_,fun i=>(bs[i]?).getD true,rfl,Walks.list (A:=X.A.in1) (I.ok.hd hc) s.heap.objs.size l (Nat.ne_of_lt hlt) (bs.map Value.bool).toArray,⟨⟨_,Heap.get?_push_size _ rfl,rfl,rfl⟩,?_⟩,?_,fun h' tk hk=>?_⟩
 ·obtain⟨o,ho,hr⟩:=pl.isList
  exact⟨o,Heap.get?_push_of_some _ ho,hr⟩
 ·intro i v s' Q' E' hv hQ
  have hv':(bs.map Value.bool)[i]?=some v:=by simpa using hv
  rw[List.getElem?_map]at hv'
  dsimp only at hQ
  cases e:bs[i]? with
  | none=>rw[e]at hv';cases hv'
  | some k=>
   rw[e]at hv' hQ
   have:v=Value.bool k:=(Option.some.inj hv').symm
   subst this
   exact wpAny_truthy_bool hQ
 ·have e : (List.range (bs.map Value.bool).toArray.size).all (fun i => (bs[i]?).getD true) = bs.all id := by
    have hs:(bs.map Value.bool).toArray.size=bs.length:=by simp
    rw[hs,Bool.eq_iff_iff,List.all_eq_true,List.all_eq_true]
    constructor
    ·intro hh k hk
     obtain⟨i,hi⟩:=List.getElem?_of_mem hk
     have:=hh i (List.mem_range.mpr (List.getElem?_eq_some_iff.mp hi).1)
     rw[hi]at this;exact this
    ·intro hh i hi
     have hl:=List.mem_range.mp hi
     rw[List.getElem?_eq_getElem hl]
     exact hh _ (List.getElem_mem hl)
  rw[e]
  exact⟨.bl _,H,I.kept (t':=tk) fun b o hb=>hk b o (by simp;exact Nat.ne_of_lt (Heap.lt_size hb)) (Heap.get?_push_of_some _ hb),rfl,q⟩
theorem Qe8:∀ (ns:List Int) (n:Int),ns.foldl max n∈n::ns/\∀ a∈n::ns,a<=ns.foldl max n
 | [],n=>⟨by simp,by simp⟩
 | m::ns,n=>by
  obtain⟨h1,h2⟩:=Qe8 ns (max n m)
  rw[List.foldl_cons]
  refine⟨?_,fun a ha=>?_⟩
  ·rcases List.mem_cons.mp h1 with e | e
   ·rw[e]
    by_cases hm:n<=m
    ·rw[Int.max_eq_right hm];simp
    ·rw[Int.max_eq_left (by ac_nf)];simp
   ·exact List.mem_cons_of_mem _ (List.mem_cons_of_mem _ e)
  ·have hx:=h2 (max n m) List.mem_cons_self
   rcases List.mem_cons.mp ha with e | e
   ·subst e;exact Int.le_trans (Int.le_max_left ..) hx
   ·rcases List.mem_cons.mp e with e | e
    ·subst e;exact Int.le_trans (Int.le_max_right ..) hx
    ·exact h2 a (List.mem_cons_of_mem _ e)
theorem Qe9:∀ (ns:List Int) (n:Int),ns.foldl min n∈n::ns/\∀ a∈n::ns,ns.foldl min n<=a
 | [],n=>⟨by simp,by simp⟩
 | m::ns,n=>by
  obtain⟨h1,h2⟩:=Qe9 ns (min n m)
  rw[List.foldl_cons]
  refine⟨?_,fun a ha=>?_⟩
  ·rcases List.mem_cons.mp h1 with e | e
   ·rw[e]
    by_cases hm:n<=m
    ·rw[Int.min_eq_left hm];simp
    ·rw[Int.min_eq_right (by ac_nf)];simp
   ·exact List.mem_cons_of_mem _ (List.mem_cons_of_mem _ e)
  ·have hx:=h2 (min n m) List.mem_cons_self
   rcases List.mem_cons.mp ha with e | e
   ·subst e;exact Int.le_trans hx (Int.min_le_left ..)
   ·rcases List.mem_cons.mp e with e | e
    ·subst e;exact Int.le_trans hx (Int.min_le_right ..)
    ·exact h2 a (List.mem_cons_of_mem _ e)
theorem Qfa {vs:List Value}{ns:List Int} (hi:IntsAre vs ns):∃ xs,vs.toArray=intItems xs/\ns=xs.toList.map (·.1):=by
 obtain⟨xs,e⟩:=hi.allInts.items
 exact⟨xs,e,by rw[<- hi.numsOf,<- nums_intItems,<- e]⟩
theorem Qfb (hc:X.calm=true):CallR X (.builtin "max") (fun xs H Q=>∃ (l:Addr) (n:Int) (ns:List Int),xs=[.ref l]/\SqL X.K H l ((n::ns).map V.int)/\Q (.int (ns.foldl max n)) H):=by
 intro pins s σ H xs us Q I r h
 obtain⟨l,n,ns,rfl,hq,q⟩:=h
 obtain⟨u,rfl,rx⟩:=Qbw r
 cases rx
 obtain⟨its,rv,pl,hz⟩:=I.list hq
 obtain⟨ys,e,en⟩:=Qfa (QbV rv)
 have hl:=pl.isList
 rw[e]at hl
 have hsz:ys.size=ns.length + 1:=by have:=congrArg List.length en;simpa using this.symm
 refine max_intList (I.ok.hd hc) hl (by ac_nf) fun v h' tk hv hk=>?_
 obtain⟨t,rfl⟩:=intItems_at hv
 obtain⟨b1,b2⟩:=argBest_gt (numAt ys) (ys.size - 1)
 obtain⟨f1,f2⟩:=Qe8 ns n
 generalize argBest (fun i j=>decide (numAt ys i > numAt ys j)) (ys.size - 1)=k at b1 b2 ⊢
 have hin:numAt ys k∈n::ns:=by
  rw[en,numAt_eq]
  exact getD_mem (by rw[<- en];simp;ac_nf)
 have hge:ns.foldl max n<=numAt ys k:=by
  rw[en]at f1
  obtain⟨j,hj,ej⟩:=mem_getD f1
  rw[<- ej,<- numAt_eq]
  exact b2 j (by rw[<- en]at hj;simp at hj;ac_nf)
 have hM:numAt ys k=ns.foldl max n:=Int.le_antisymm (f2 _ hin) hge
 rw[hM]
 exact⟨.int _,H,I.kept (t':=tk) hk,⟨t,rfl⟩,q⟩
theorem Qfc (hc:X.calm=true):CallR X (.builtin "min") (fun xs H Q=>∃ (l:Addr) (n:Int) (ns:List Int),xs=[.ref l]/\SqL X.K H l ((n::ns).map V.int)/\Q (.int (ns.foldl min n)) H):=by
 intro pins s σ H xs us Q I r h
 obtain⟨l,n,ns,rfl,hq,q⟩:=h
 obtain⟨u,rfl,rx⟩:=Qbw r
 cases rx
 obtain⟨its,rv,pl,hz⟩:=I.list hq
 obtain⟨ys,e,en⟩:=Qfa (QbV rv)
 have hl:=pl.isList
 rw[e]at hl
 have hsz:ys.size=ns.length + 1:=by have:=congrArg List.length en;simpa using this.symm
 refine min_intList (I.ok.hd hc) hl (by ac_nf) fun v h' tk hv hk=>?_
 obtain⟨t,rfl⟩:=intItems_at hv
 obtain⟨b1,b2⟩:=argBest_lt (numAt ys) (ys.size - 1)
 obtain⟨f1,f2⟩:=Qe9 ns n
 generalize argBest (fun i j=>decide (numAt ys i < numAt ys j)) (ys.size - 1)=k at b1 b2 ⊢
 have hin:numAt ys k∈n::ns:=by
  rw[en,numAt_eq]
  exact getD_mem (by rw[<- en];simp;ac_nf)
 have hge:numAt ys k<=ns.foldl min n:=by
  rw[en]at f1
  obtain⟨j,hj,ej⟩:=mem_getD f1
  rw[<- ej,<- numAt_eq]
  exact b2 j (by rw[<- en]at hj;simp at hj;ac_nf)
 have hM:numAt ys k=ns.foldl min n:=Int.le_antisymm hge (f2 _ hin)
 rw[hM]
 exact⟨.int _,H,I.kept (t':=tk) hk,⟨t,rfl⟩,q⟩
theorem Qfd (hc:X.calm=true):CallR X (.builtin "all") (lOf X.K allD):=(Qe7 hc).of fun xs H Q pq73=>by
 obtain⟨a,vs,ρ,st,ds,e,hv,sr,r,p⟩:=pq73
 unfold allD at p
 cases q:boolsL ds with
 | none=>rw[q]at p;exact p.elim
 | some bs=>
  rw[q]at p
  have:=Qe5 q r
  subst this
  exact⟨a,bs,e,hv,p.ret sr _ (.bl _)⟩
theorem Qfe (hc:X.calm=true):CallR X (.builtin "max") (lOf X.K maxD):=(Qfb hc).of fun xs H Q pq74=>by
 obtain⟨a,vs,ρ,st,ds,e,hv,sr,r,p⟩:=pq74
 unfold maxD at p
 cases q:numsL ds with
 | none=>rw[q]at p;exact p.elim
 | some ns=>
  rw[q]at p
  have:=Qe4 q r
  subst this
  cases ns with
  | nil=>exact p.elim
  | cons n ns=>exact⟨a,n,ns,e,hv,p.ret sr _ (.int _)⟩
theorem Qff (hc:X.calm=true):CallR X (.builtin "min") (lOf X.K minD):=(Qfc hc).of fun xs H Q pq75=>by
 obtain⟨a,vs,ρ,st,ds,e,hv,sr,r,p⟩:=pq75
 unfold minD at p
 cases q:numsL ds with
 | none=>rw[q]at p;exact p.elim
 | some ns=>
  rw[q]at p
  have:=Qe4 q r
  subst this
  cases ns with
  | nil=>exact p.elim
  | cons n ns=>exact⟨a,n,ns,e,hv,p.ret sr _ (.int _)⟩
structure TyTab (T:String):Prop where
 non:∀ K,PySem.W.kitOne K (.type "NoneType") (.type T)=some (["NoneType"].contains T)
 bl:∀ K,PySem.W.kitOne K (.type "bool") (.type T)=some (["bool","int"].contains T)
 int:∀ K,PySem.W.kitOne K (.type "int") (.type T)=some (["int"].contains T)
 str:∀ K,PySem.W.kitOne K (.type "str") (.type T)=some (["str"].contains T)
 tup:∀ K,PySem.W.kitOne K (.type "tuple") (.type T)=some (["tuple"].contains T)
 lst:∀ K,PySem.W.kitOne K (.type "list") (.type T)=some (["list"].contains T)
theorem Qfg:TyTab "int":=⟨fun _=>rfl,fun _=>rfl,fun _=>rfl,fun _=>rfl,fun _=>rfl,fun _=>rfl⟩
theorem Qfh:TyTab "bool":=⟨fun _=>rfl,fun _=>rfl,fun _=>rfl,fun _=>rfl,fun _=>rfl,fun _=>rfl⟩
theorem Qfi:TyTab "tuple":=⟨fun _=>rfl,fun _=>rfl,fun _=>rfl,fun _=>rfl,fun _=>rfl,fun _=>rfl⟩
theorem tab_list:TyTab "list":=⟨fun _=>rfl,fun _=>rfl,fun _=>rfl,fun _=>rfl,fun _=>rfl,fun _=>rfl⟩
theorem Qfj {pins : List (Addr × Obj)} {σ : St} {s : Shared} {Q : Value -> Shared -> Prop} {t : String} {u : Addr} {k : Bool} (I : Inv X pins σ H s) (ht : ∃ o, s.heap.get? u = some o /\ o.cls = .type t) (hx : t = "tuple" \/ t = "list") (e : PySem.W.kitOne X.K (.type t) (.type T) = some k)
  (h:∀ tk,Q (.bool k) { s with toks:=tk }):wpAny (model X.prog X.w) X.A (call (.builtin "isinstance") [.ref u,.type T]) Q X.xe s:=by
 rcases hx with rfl | rfl
 ·exact PySem.W.kia_one PySem.W.kitx_tuple I.kIn ht e (fun z=>nomatch z) h
 ·exact PySem.W.kia_one PySem.W.kitx_list I.kIn ht e (fun z=>nomatch z) h
theorem Qfk (B:TyTab T):CallR X (.builtin "isinstance") (fun xs H Q=>∃ v,xs=[v,.ty T]/\uOf X.K (isInst [T]) v H Q):=by
 intro pins s σ H xs us Q I r pq152;obtain⟨v,e,ρ,st,d,sr,rv,p⟩:=pq152
 subst e
 obtain⟨u,w',rfl,ru,rw'⟩:=Qbx r
 have ew:w'=Value.type T:=rw'
 subst ew
 have fin:∀ k:Bool,Q (.bl k) H->∀ tk,EP X pins σ Q (.bool k) { s with toks:=tk }:=fun k q tk=>⟨.bl k,H,I.tok tk,rfl,q⟩
 cases rv with
 | non=>
  refine QbD I ru .non (B.non _) (fin _ ?_)
  simpa [isInst,isTy] using p.ret sr _ (.bl _)
 | bl k=>
  refine QbD I ru (.bl k) (B.bl _) (fin _ ?_)
  simpa [isInst,isTy] using p.ret sr _ (.bl _)
 | int k=>
  refine QbD I ru (.int k) (B.int _) (fin _ ?_)
  simpa [isInst,isTy] using p.ret sr _ (.bl _)
 | str k=>
  refine QbD I ru (.str k) (B.str _) (fin _ ?_)
  simpa [isInst,isTy] using p.ret sr _ (.bl _)
 | tup h r=>
  have eu:u=Value.ref _:=ru
  subst eu
  obtain⟨its,_,⟨o,h1,h2,_⟩,_⟩:=I.tuple h
  refine Qfj I ⟨o,h1,h2⟩ (.inl rfl) (B.tup _) (fin _ ?_)
  simpa [isInst,isTy] using p.ret sr _ (.bl _)
 | lit h r=>
  have eu:u=Value.ref _:=ru
  subst eu
  obtain⟨its,_,pl,_⟩:=I.list h.seq
  obtain⟨o,h1,h2,_⟩:=pl.isList
  refine Qfj I ⟨o,h1,h2⟩ (.inr rfl) (B.lst _) (fin _ ?_)
  simpa [isInst,isTy] using p.ret sr _ (.bl _)
 | @ref a n kk h=>
  have eu:u=Value.ref _:=ru
  subst eu
  obtain⟨vs,hv⟩:=Qc3 kk
  obtain⟨its,_,pl,_⟩:=I.list (SqL.of hv)
  obtain⟨o,h1,h2,_⟩:=pl.isList
  refine Qfj I ⟨o,h1,h2⟩ (.inr rfl) (B.lst _) (fin _ ?_)
  simpa [isInst,isTy] using p.ret sr _ (.bl _)
 | dic _ _=>exact p.elim
 | exn0 _ _=>exact p.elim
 | exn _ _ _ _=>exact p.elim
theorem Qfl {y : Str} {p1 : Pos} (B : TyTab T) (hg : Gl X "isinstance") (hm : X.mg "isinstance" = none) (hgT : Gl X y) (hmT : X.mg y = none) (hvT : bootBuiltins y = some (.type T)) (ha : SE X e fa) (hv : bootBuiltins "isinstance" = some (.builtin "isinstance"))
  (hnT:y≠"__name__":=by decide) (hdT:(y == ("__debug__":Str))=false:=by decide)
  (he:starEach [e,.Name y p1] X.env=(false,eval e X.env)::starEach [.Name y p1] X.env:=by rfl) (he2:starEach [.Name y p1] X.env=(false,eval (.Name y p1) X.env)::starEach [] X.env:=by rfl) (hpl:(backTo pos (starEach [.Name y p1] X.env)).any (·.1)=false:=by rfl):
  SE X (.Call (.Name "isinstance" p) [e,.Name y p1] [] pos) (c1 (isInst [T]) fa):=
 (QbT (Qfk B) hg hm hv (QbH ha (QbH (QaA (v:=.ty T) hgT hmT hvT rfl hnT hdT) QbG he2) he) (by decide) (by decide) he hpl).of fun σ H Q h_=>h_.el fun ρ l st lr sr p=>⟨ρ,l,st,lr,sr,p.bnd.imp fun d st1 ρ1 H1 x1 s1 p1 v rv=>⟨v,rfl,ρ1,st1,d,s1,rv,p1⟩⟩
end
section
variable {X:Cx}{K:PySem.W.Frag}{ρ:List Addr}{H:Hp}{st:Sto}{pins:List (Addr × Obj)}{σ:St}{s:Shared}
theorem Qfm {f:D->D->Option Bool}:∀ {xs ys:List D}{r:Bool},allF f xs ys=some r->∀ (j:Nat) (x y:D),xs[j]?=some x->ys[j]?=some y->∃ k,f x y=some k
 | [],_,_,_,j,x,y,h,_=>by cases j<;>cases h
 | _::_,[],_,_,j,x,y,_,h=>by cases j<;>cases h
 | a::xs,b::ys,r,h,j,x,y,hx,hy=>by
  unfold allF at h
  cases e:f a b with
  | none=>rw[e]at h;cases h
  | some k=>
   cases j with
   | zero=>cases hx;cases hy;exact⟨k,e⟩
   | succ j=>
    rw[e]at h
    have hx':xs[j]?=some x:=hx
    have hy':ys[j]?=some y:=hy
    cases k with
    | true=>exact Qfm h j x y hx' hy'
    | false=>
     cases e2:allF f xs ys with
     | none=>rw[e2]at h;cases h
     | some r'=>exact Qfm e2 j x y hx' hy'
def itE (f:D->D->Option Bool) (xs ys:List D) (j:Nat):Bool:=match xs[j]?,ys[j]? with
 | some x,some y=>(f x y).getD false
 | _,_=>true
theorem Qfn {f:D->D->Option Bool}:∀ {xs ys:List D}{r:Bool},allF f xs ys=some r->r=((List.range (min xs.length ys.length)).all (itE f xs ys) && xs.length == ys.length)
 | [],[],_,h=>by cases h;rfl
 | _::_,[],_,h=>by cases h;simp
 | [],_::_,_,h=>by cases h;simp
 | a::xs,b::ys,r,h=>by
  have step:(List.range (min (a::xs).length (b::ys).length)).all (itE f (a::xs) (b::ys))=((f a b).getD false && (List.range (min xs.length ys.length)).all (itE f xs ys)):=by
   have e:min (a::xs).length (b::ys).length=min xs.length ys.length + 1:=by simp only[List.length_cons];ac_nf
   rw[e,List.range_succ_eq_map,List.all_cons,List.all_map]
   rfl
  rw[step]
  unfold allF at h
  cases e:f a b with
  | none=>rw[e]at h;cases h
  | some k=>
   rw[e]at h
   cases k with
   | true=>
    have:=Qfn h
    simp only[Option.getD_some,Bool.true_and,List.length_cons]
    rw[this]
    congr 1
    rw[Bool.eq_iff_iff];simp
   | false=>
    simp only[Option.getD_some,Bool.false_and]
    cases e2:allF f xs ys with
    | none=>rw[e2]at h;cases h
    | some r'=>rw[e2]at h;cases h;rfl
theorem Vals.at {vs:List V}{us:List Value}{j:Nat}{u:Value} (r:Vals vs us) (h:us[j]?=some u):∃ v,vs[j]?=some v/\RelV v u:=by
 have hl:=r.length
 have hj:j < vs.length:=by rw[hl];exact (List.getElem?_eq_some_iff.mp h).1
 obtain⟨u',e,ru⟩:=r.get (List.getElem?_eq_getElem hj)
 rw[h]at e;cases e
 exact⟨_,List.getElem?_eq_getElem hj,ru⟩
theorem Reps.at {vs:List V}{ds:List D}{j:Nat}{v:V} (r:Reps K ρ H vs ds) (h:vs[j]?=some v):∃ d,ds[j]?=some d/\Rep K ρ H v d:=by
 have hl:=r.length
 have hj:j < ds.length:=by rw[<- hl];exact (List.getElem?_eq_some_iff.mp h).1
 obtain⟨v',e,rv⟩:=r.get (List.getElem?_eq_getElem hj)
 rw[h]at e;cases e
 exact⟨_,List.getElem?_eq_getElem hj,rv⟩
theorem Qfo {g:List D->List D->Option Bool}{v:V}{d e:D}{r:Bool} (I:Inv X pins σ H s) (hg:∀ xs ys vs k,Reps X.K ρ H vs xs->Reps X.K ρ H vs ys->g xs ys=some k->k=true) (h:eqS g d e=some r) (r1:Rep X.K ρ H v d) (r2:Rep X.K ρ H v e):r=true:=by
 cases r1 with
 | non=>cases r2;cases h;rfl
 | bl b=>cases r2;cases h;simp
 | int b=>cases r2;cases h;simp
 | str b=>cases r2;cases h;simp
 | tup h1 q1=>
  cases r2 with
  | tup h2 q2=>
   have:=I.tuple_inj h1 h2
   subst this
   exact hg _ _ _ _ q1 q2 h
  | _=>cases h
 | lit _ _=>cases r2<;>cases h
 | ref _ _=>cases r2<;>cases h
 | dic _ _=>cases r2<;>cases h
 | exn0 _ _=>cases r2<;>cases h
 | exn _ _ _ _=>cases r2<;>cases h
theorem Qfp {f:D->D->Option Bool} (hf:∀ v d e k,Rep K ρ H v d->Rep K ρ H v e->f d e=some k->k=true) {xs ys:List D}{vs:List V}{k:Bool} (h1:Reps K ρ H vs xs) (h2:Reps K ρ H vs ys) (h:allF f xs ys=some k):k=true:=by
 induction xs generalizing ys vs k with
 | nil=>cases h1;cases h2;cases h;rfl
 | cons x xs ih=>
  cases h1 with
  | cons a b=>cases h2 with
   | cons c d=>
    unfold allF at h
    cases e:f _ _ with
    | none=>rw[e]at h;cases h
    | some k=>
     rw[e]at h
     have:=hf _ _ _ _ a c e
     subst this
     exact ih b d h
theorem Qfq (I:Inv X pins σ H s):∀ (n:Nat) {v:V}{d e:D}{r:Bool},eqF n d e=some r->Rep X.K ρ H v d->Rep X.K ρ H v e->r=true
 | 0,_,_,_,_,h,r1,r2=>Qfo I (fun _ _ _ _ _ _ z=>by cases z) h r1 r2
 | n + 1,_,_,_,_,h,r1,r2=>Qfo I (fun xs ys vs k q1 q2 z=>Qfp (fun v d e k a b c=>Qfq I n c a b) q1 q2 z) h r1 r2
open SeqAt in
theorem Qfr {g : List D -> List D -> Option Bool} {A : Around} {v w : V} {u1 u2 : Value} {d e : D} {r : Bool} (I : Inv X pins σ H s) (hu : A.units < cLine)
  (hg:∀ xs ys k,g xs ys=some k->∀ vs ws its its2,Reps X.K ρ H vs xs->Reps X.K ρ H ws ys->Vals vs its->Vals ws its2 ->
   ∃ e:Nat->Bool,k=((List.range (min its.length its2.length)).all e && its.length == its2.length)/\∀ (j:Nat) x y,its[j]?=some x->its2[j]?=some y->EqAt A.in1 s x y (e j))
  (hs:∀ xs ys vs k,Reps X.K ρ H vs xs->Reps X.K ρ H vs ys->g xs ys=some k->k=true)
  (h:eqS g d e=some r) (r1:Rep X.K ρ H v d) (r2:Rep X.K ρ H w e) (v1:RelV v u1) (v2:RelV w u2):RcAt A s u1 u2 r/\RcNeAt A s u1 u2 (!r)/\EqAt A s u1 u2 r:=by
 cases r1 with
 | lit _ _=>cases r2<;>cases h
 | ref _ _=>cases r2<;>cases h
 | dic _ _=>cases r2<;>cases h
 | exn0 _ _=>cases r2<;>cases h
 | exn _ _ _ _=>cases r2<;>cases h
 | non=>
  cases (show u1=Value.none from v1)
  cases r2 with
  | non=>cases (show u2=Value.none from v2);cases h;exact⟨.none_none,.none_none,.same _⟩
  | bl b=>cases (show u2=Value.bool b from v2);cases h;exact⟨.none_bool b,.none_bool b,.none_bool b⟩
  | int b=>obtain⟨t,rfl⟩:=(show ∃ t,u2=Value.int b t from v2);cases h;exact⟨.none_int b t,.none_int b t,.none_int b t⟩
  | str b=>obtain⟨t,rfl⟩:=(show ∃ t,u2=Value.str b t from v2);cases h;exact⟨.none_str b t,.none_str b t,.none_str b t⟩
  | tup h2 q2=>cases (show u2=Value.ref _ from v2);cases h;obtain⟨_,_,p,_⟩:=I.tuple h2;exact⟨.none_tuple p hu,.none_tuple p hu,.none_tuple p hu⟩
  | _=>cases h
 | bl a=>
  cases (show u1=Value.bool a from v1)
  cases r2 with
  | non=>cases (show u2=Value.none from v2);cases h;exact⟨.bool_none a,.bool_none a,.bool_none a⟩
  | bl b=>cases (show u2=Value.bool b from v2);cases h;exact⟨.bool_bool a b,.bool_bool a b,.bool_bool a b⟩
  | int b=>obtain⟨t,rfl⟩:=(show ∃ t,u2=Value.int b t from v2);cases h;exact⟨.bool_int a b t,.bool_int a b t,.bool_int a b t⟩
  | str b=>obtain⟨t,rfl⟩:=(show ∃ t,u2=Value.str b t from v2);cases h;exact⟨.bool_str a b t,.bool_str a b t,.bool_str a b t⟩
  | tup h2 q2=>cases (show u2=Value.ref _ from v2);cases h;obtain⟨_,_,p,_⟩:=I.tuple h2;exact⟨.bool_tuple a p hu,.bool_tuple a p hu,.bool_tuple a p hu⟩
  | _=>cases h
 | int a=>
  obtain⟨t1,rfl⟩:=(show ∃ t,u1=Value.int a t from v1)
  cases r2 with
  | non=>cases (show u2=Value.none from v2);cases h;exact⟨.int_none a t1,.int_none a t1,.int_none a t1⟩
  | bl b=>cases (show u2=Value.bool b from v2);cases h;exact⟨.int_bool a t1 b,.int_bool a t1 b,.int_bool a t1 b⟩
  | int b=>obtain⟨t,rfl⟩:=(show ∃ t,u2=Value.int b t from v2);cases h;exact⟨.int_int a t1 b t,.int_int a t1 b t,.int_int a t1 b t⟩
  | str b=>obtain⟨t,rfl⟩:=(show ∃ t,u2=Value.str b t from v2);cases h;exact⟨.int_str a t1 b t,.int_str a t1 b t,.int_str a t1 b t⟩
  | tup h2 q2=>cases (show u2=Value.ref _ from v2);cases h;obtain⟨_,_,p,_⟩:=I.tuple h2;exact⟨.int_tuple a t1 p hu,.int_tuple a t1 p hu,.int_tuple a t1 p hu⟩
  | _=>cases h
 | str a=>
  obtain⟨t1,rfl⟩:=(show ∃ t,u1=Value.str a t from v1)
  cases r2 with
  | non=>cases (show u2=Value.none from v2);cases h;exact⟨.str_none a t1,.str_none a t1,.str_none a t1⟩
  | bl b=>cases (show u2=Value.bool b from v2);cases h;exact⟨.str_bool a t1 b,.str_bool a t1 b,.str_bool a t1 b⟩
  | int b=>obtain⟨t,rfl⟩:=(show ∃ t,u2=Value.int b t from v2);cases h;exact⟨.str_int a t1 b t,.str_int a t1 b t,.str_int a t1 b t⟩
  | str b=>obtain⟨t,rfl⟩:=(show ∃ t,u2=Value.str b t from v2);cases h;exact⟨.str_str a t1 b t,.str_str a t1 b t,.str_str a t1 b t⟩
  | tup h2 q2=>cases (show u2=Value.ref _ from v2);cases h;obtain⟨_,_,p,_⟩:=I.tuple h2;exact⟨.str_tuple a t1 p hu,.str_tuple a t1 p hu,.str_tuple a t1 p hu⟩
  | _=>cases h
 | @tup l1 vs xs h1 q1=>
  cases (show u1=Value.ref _ from v1)
  obtain⟨its,rv,p,_⟩:=I.tuple h1
  cases r2 with
  | non=>cases (show u2=Value.none from v2);cases h;exact⟨.tuple_none p hu,.tuple_none p hu,.tuple_none p hu⟩
  | bl b=>cases (show u2=Value.bool b from v2);cases h;exact⟨.tuple_bool b p hu,.tuple_bool b p hu,.tuple_bool b p hu⟩
  | int b=>obtain⟨t,rfl⟩:=(show ∃ t,u2=Value.int b t from v2);cases h;exact⟨.tuple_int b t p hu,.tuple_int b t p hu,.tuple_int b t p hu⟩
  | str b=>obtain⟨t,rfl⟩:=(show ∃ t,u2=Value.str b t from v2);cases h;exact⟨.tuple_str b t p hu,.tuple_str b t p hu,.tuple_str b t p hu⟩
  | @tup l2 ws ys h2 q2=>
   cases (show u2=Value.ref _ from v2)
   obtain⟨its2,rw',p2,_⟩:=I.tuple h2
   obtain⟨ef,ek,he⟩:=hg xs ys r h vs ws its its2 q1 q2 rv rw'
   have hit:∀ j (a1:j < its.toArray.size) (a2:j < its2.toArray.size),EqAt A.in1 s its.toArray[j] its2.toArray[j] (ef j):=fun j a1 a2=>
    he j _ _ (by rw[List.getElem_toArray];exact List.getElem?_eq_getElem (by simpa using a1)) (by rw[List.getElem_toArray];exact List.getElem?_eq_getElem (by simpa using a2))
   have k1:=RcAt.tuples (A:=A) (s:=s) p p2 hu hit
   have k2:=RcNeAt.tuples (A:=A) (s:=s) p p2 hu hit
   simp only[List.size_toArray]at k1 k2
   rw[<- ek]at k1 k2
   refine⟨k1,k2,?_⟩
   by_cases hl:l1=l2
   ·subst hl
    have:=I.tuple_inj h1 h2
    subst this
    rw[hs xs ys vs r q1 q2 h]
    exact .same _
   ·exact .of_refs hl k1
  | _=>cases h
open SeqAt in
theorem Qfs {n : Nat} {A : Around} (I : Inv X pins σ H s)
  (ih:∀ {v w:V}{u1 u2:Value}{d e:D}{r:Bool},eqF n d e=some r->Rep X.K ρ H v d->Rep X.K ρ H w e->RelV v u1->RelV w u2->EqAt A s u1 u2 r)
  {xs ys:List D}{k:Bool} (h:allF (eqF n) xs ys=some k) {vs ws:List V}{its its2:List Value} (q1:Reps X.K ρ H vs xs) (q2:Reps X.K ρ H ws ys) (rv:Vals vs its) (rw':Vals ws its2):
  ∃ e:Nat->Bool,k=((List.range (min its.length its2.length)).all e && its.length == its2.length)/\∀ (j:Nat) x y,its[j]?=some x->its2[j]?=some y->EqAt A s x y (e j):=by
 refine⟨itE (eqF n) xs ys,?_,fun j x y hx hy=>?_⟩
 ·have l1:=rv.length
  have l2:=rw'.length
  have l3:=q1.length
  have l4:=q2.length
  rw[<- l1,<- l2,l3,l4]
  exact Qfn h
 ·obtain⟨v,hv,ru⟩:=Vals.at rv hx
  obtain⟨w,hw,rw2⟩:=Vals.at rw' hy
  obtain⟨d,hd,rd⟩:=Reps.at q1 hv
  obtain⟨e,he,re⟩:=Reps.at q2 hw
  obtain⟨r,hr⟩:=Qfm h j d e hd he
  have:itE (eqF n) xs ys j=r:=by unfold itE;rw[hd,he];dsimp only;rw[hr];rfl
  rw[this]
  exact ih hr rd re ru rw2
open SeqAt in
theorem Qft (I:Inv X pins σ H s):∀ (n:Nat) {A:Around}{v w:V}{u1 u2:Value}{d e:D}{r:Bool},A.units + n < cLine->eqF n d e=some r->Rep X.K ρ H v d->Rep X.K ρ H w e->RelV v u1->RelV w u2->RcAt A s u1 u2 r/\RcNeAt A s u1 u2 (!r)/\EqAt A s u1 u2 r
 | 0,_,_,_,_,_,_,_,_,hu,h,r1,r2,v1,v2=>Qfr I hu (fun _ _ _ z=>by cases z) (fun _ _ _ _ _ _ z=>by cases z) h r1 r2 v1 v2
 | n + 1, A, _, _, _, _, _, _, _, hu, h, r1, r2, v1, v2 => Qfr I (by ac_nf)
   (fun xs ys k z vs ws its its2 q1 q2 rv rw'=>Qfs I (fun h r1 r2 v1 v2=>(Qft I n (A:=A.in1) (by show A.units + 1 + n < cLine;ac_nf) h r1 r2 v1 v2).2.2) z q1 q2 rv rw')
   (fun xs ys vs k q1 q2 z=>Qfp (fun v d e k a b c=>Qfq I n c a b) q1 q2 z) h r1 r2 v1 v2
end
section
variable {X:Cx}{K:PySem.W.Frag}{ρ:List Addr}{H:Hp}{st:Sto}{pins:List (Addr × Obj)}{σ:St}{s:Shared}
open SeqAt in
theorem Qfu (hu : X.A.units + 60 < cLine) (I : Inv X pins σ H s) (sr : SR X.K ρ H st) {d e : D} {x y : V} {v u : Value} {R : Bool -> Sto -> List Addr -> Hp -> Prop} (r1 : Rep X.K ρ H x d) (r2 : Rep X.K ρ H y e) (rx : RelV x v) (ry : RelV y u)
  (p:Post X.K ρ H (eqB d e st) R):∃ r,R r st ρ H/\RcAt X.A s v u r/\RcNeAt X.A s v u (!r):=by
 have hu':X.A.units < cLine:=by ac_nf
 have gen:Post X.K ρ H ((match eqF 50 d e with | some r=>ret r | none=>bad:M Bool) st) R->∃ r,R r st ρ H/\RcAt X.A s v u r/\RcNeAt X.A s v u (!r):=fun q=>by
  cases h:eqF 50 d e with
  | none=>rw[h]at q;exact q.elim
  | some r=>
   rw[h]at q
   obtain⟨k1,k2,_⟩:=Qft I 50 (A:=X.A) (by ac_nf) h r1 r2 rx ry
   exact⟨r,q.ret sr,k1,k2⟩
 cases r1 with
 | non=>
  cases r2 with
  | @ref a n _ h=>
   obtain⟨ds,e2,p1⟩:=Post.getL (Post.bnd p) sr
   obtain⟨a',vs,ha,hv,r⟩:=sr.seq e2
   rw[h]at ha;cases ha
   cases (show v=Value.none from rx)
   cases (show u=Value.ref a from ry)
   obtain⟨_,_,pl,_⟩:=I.list (SqL.of hv)
   exact⟨false,p1.ret sr,.none_list pl.isList hu',.none_list pl.isList hu'⟩
  | _=>exact gen p
 | @ref a n _ h=>
  cases r2 with
  | non=>
   obtain⟨ds,e2,p1⟩:=Post.getL (Post.bnd p) sr
   obtain⟨a',vs,ha,hv,r⟩:=sr.seq e2
   rw[h]at ha;cases ha
   cases (show u=Value.none from ry)
   cases (show v=Value.ref a from rx)
   obtain⟨_,_,pl,_⟩:=I.list (SqL.of hv)
   exact⟨false,p1.ret sr,.list_none pl.isList hu',.list_none pl.isList hu'⟩
  | @ref b m _ h'=>
   obtain⟨xs,e2,p1⟩:=Post.getL (Post.bnd p) sr
   obtain⟨ys,e3,p2⟩:=Post.getL (Post.bnd p1) sr
   obtain⟨a',vs,ha,hv,q1⟩:=sr.seq e2
   obtain⟨b',ws,hb,hw,q2⟩:=sr.seq e3
   rw[h]at ha;cases ha
   rw[h']at hb;cases hb
   cases (show v=Value.ref a from rx)
   cases (show u=Value.ref b from ry)
   obtain⟨its,rv,pl,_⟩:=I.list (SqL.of hv)
   obtain⟨its2,rw',pl2,_⟩:=I.list (SqL.of hw)
   have l1:=rv.length
   have l2:=rw'.length
   have l3:=q1.length
   have l4:=q2.length
   by_cases hl:xs.length=ys.length
   ·rw[if_pos hl]at p2
    cases h2:allF (eqF 50) xs ys with
    | none=>rw[h2]at p2;exact p2.elim
    | some r=>
     rw[h2]at p2
     obtain⟨ef,ek,he⟩:=Qfs (A:=X.A.in1) I (fun h r1 r2 v1 v2=>(Qft I 50 (A:=X.A.in1) (by show X.A.units + 1 + 50 < cLine;ac_nf) h r1 r2 v1 v2).2.2) h2 q1 q2 rv rw'
     have hsz:its.toArray.size=its2.toArray.size:=by rw[List.size_toArray,List.size_toArray];ac_nf
     have hit:∀ j (a1:j < its.toArray.size) (a2:j < its2.toArray.size),EqAt X.A.in1 s its.toArray[j] its2.toArray[j] (ef j):=fun j a1 a2=>
      he j _ _ (by rw[List.getElem_toArray];exact List.getElem?_eq_getElem (by simpa using a1)) (by rw[List.getElem_toArray];exact List.getElem?_eq_getElem (by simpa using a2))
     have ek2:(List.range its.toArray.size).all ef=r:=by
      rw[ek,List.size_toArray]
      have:its.length=its2.length:=by ac_nf
      rw[this];simp
     have k1:=RcAt.lists (A:=X.A) (s:=s) pl.isList pl2.isList hsz hu' hit
     have k2:=RcNeAt.lists (A:=X.A) (s:=s) pl.isList pl2.isList hsz hu' hit
     rw[ek2]at k1 k2
     exact⟨r,p2.ret sr,k1,k2⟩
   ·rw[if_neg hl]at p2
    have hne:(its.toArray.size != its2.toArray.size)=true:=by
     rw[List.size_toArray,List.size_toArray]
     simp
     ac_nf
    exact⟨false,p2.ret sr,.lists_lengths pl.isList pl2.isList hne hu',.lists_lengths pl.isList pl2.isList hne hu'⟩
  | _=>exact gen p
 | _=>cases r2<;>exact gen p
theorem Qfv (hu:X.A.units + 60 < cLine):OpR X (compareOp .Eq) (rOf X.K eqD):=by
 intro pins s σ H x y v u Q I rx ry pq153;obtain⟨ρ,st,d,e,sr,r1,r2,p⟩:=pq153
 obtain⟨r,q,k1,_⟩:=Qfu hu I sr r1 r2 rx ry p.bnd
 exact k1 _ _ _ _ ⟨.bl r,H,I,rfl,q.ret sr _ (.bl _)⟩
theorem Qfw (hu:X.A.units + 60 < cLine):OpR X (compareOp .NotEq) (rOf X.K neD):=by
 intro pins s σ H x y v u Q I rx ry pq154;obtain⟨ρ,st,d,e,sr,r1,r2,p⟩:=pq154
 obtain⟨r,q,_,k2⟩:=Qfu hu I sr r1 r2 rx ry p.bnd
 exact k2 _ _ _ _ ⟨.bl (!r),H,I,rfl,q.ret sr _ (.bl _)⟩
end
section
variable {X:Cx}{a b c e o tg:Expr}{es:List Expr}{pos apos cpos:Pos}{fa fb fc:CE}{ca cb:CA}{ta tb:CT}{K:PySem.W.Frag}{ρ:List Addr}{H:Hp}{st:Sto}{x:Str}{p:Pos}{T:String}
theorem Qfx (ho : SE X o fa) (ha : SE X e fb) (hbase : attributeBase o "append" X.env (eval o X.env) = eval o X.env := by rfl)
  (hfew:((backTo cpos (starEach [e] X.env)).all (fun x => !x.1) && (backToKw cpos (keywordEach [] X.env)).all (fun x=>x.1.isSome)
   && decide ([e].length + ([]:List Keyword).length + (if ([]:List Keyword).isEmpty then 0 else 1) < 30))=true:=by rfl)
  (hline:(apos.endLine == cpos.line)=true:=by rfl) (hs:starEach [e] X.env=(false,eval e X.env)::starEach [] X.env:=by rfl) (hplain:(backTo cpos (starEach [] X.env)).any (·.1)=false:=by rfl):
  SE X (.Call (.Attribute o "append" apos) [e] [] cpos) (cAppend fa fb):=
 (Qcm PySem.F.plainAttrs_list PySem.F.slot_list_append PySem.F.type_list_append Qco ho (QbH ha QbG hs) hbase hfew hline hs hplain).of fun σ H Q h_=>h_.el fun ρ l st lr sr p=>⟨ρ,l,st,lr,sr,p.bnd.imp fun d st1 ρ1 H1 x1 s1 p1 v rv=>by
  cases rv with
  | @ref a n kk h=>
   have hl:n < st1.length:=by rw[<- s1.len];exact (List.getElem?_eq_some_iff.mp h).1
   obtain⟨vs0,hv0⟩:=Qc3 kk
   refine⟨.inl ⟨rfl,vs0,SqL.of hv0⟩,ρ1,l,st1,lr.mono x1,s1,(Post.bnd p1).imp fun y st2 ρ2 H2 x2 s2 p2 w rw'=>?_⟩
   have h2:ρ2[n]?=some a:=by
    obtain⟨τ,e,_⟩:=x2.pre
    rw[e];exact Qc1 h
   obtain⟨ds,e2,p3⟩:=Post.getL (Post.bnd p2) s2
   obtain⟨a',vs,ha,hv,r⟩:=s2.seq e2
   rw[h2]at ha;cases ha
   obtain⟨hz,p4⟩:=Post.chk p3
   obtain⟨s3,x3⟩:=s2.put (List.getElem?_eq_some_iff.mp e2).1 h2 hv (Reps.app r (.cons rw' .nil))
   have p5:=Post.bnd p4
   unfold putL at p5
   rw[e2]at p5
   exact⟨a,vs,w,rfl,rfl,hv,by rw[r.length];exact hz,(p5 ρ2 _ x3 s3).ret s3 _ .non⟩
  | _=>exact p1.elim⟩
theorem Qfy:OpR X (binaryOp .Add) (rOf X.K addD):=by
 intro pins s σ H x y v u Q I rx ry pq155;obtain⟨ρ,st,d,e,sr,r1,r2,p⟩:=pq155
 cases r1 with
 | int i=>
  cases r2 with
  | int j=>exact Qa6 pins s σ H _ _ v u Q I rx ry ⟨i,j,rfl,rfl,p.ret sr _ (.int _)⟩
  | _=>exact p.elim
 | str i=>
  cases r2 with
  | str j=>exact Qbv pins s σ H _ _ v u Q I rx ry ⟨i,j,rfl,rfl,(Post.chk p).1,(Post.chk p).2.ret sr _ (.str _)⟩
  | _=>exact p.elim
 | ref _ h=>
  cases r2 with
  | ref _ h'=>
   obtain⟨xs,e2,p1⟩:=Post.getL (Post.bnd p) sr
   obtain⟨ys,e3,p2⟩:=Post.getL (Post.bnd p1) sr
   obtain⟨a',vs,ha,hv,q1⟩:=sr.seq e2
   obtain⟨b',ws,hb,hw,q2⟩:=sr.seq e3
   rw[h]at ha;cases ha
   rw[h']at hb;cases hb
   obtain⟨hz,p3⟩:=Post.chk p2
   refine Qcp pins s σ H _ _ v u Q I rx ry ⟨_,_,vs,ws,rfl,rfl,hv,hw,by rw[q1.length,q2.length];exact hz,fun q hq=>?_⟩
   have nq:=sr.fresh hq
   have x1:Ex ρ H (ρ++[q]) (upd H q (.lst (vs++ws))):=Ex.newL hq
   refine p3 _ _ x1 ((sr.new hq).keep Qai nq ((Reps.app q1 q2).mono (Ex.new hq))) _ (.ref ⟨_,Qai,rfl⟩ ?_)
   rw[<- sr.len];simp
  | _=>exact p.elim
 | tup h1 q1=>
  cases r2 with
  | tup h2 q2=>
   obtain⟨hz,p2⟩:=Post.chk p
   rename_i a1 vs xs b1 ws ys
   by_cases hx:vs=[]
   ·subst hx
    cases q1
    obtain⟨its,v1,ht,_⟩:=I.tuple h1
    obtain⟨its2,v2,hb,_⟩:=I.tuple h2
    cases v1
    have ev:v=Value.ref a1:=rx
    have eu:u=Value.ref b1:=ry
    subst ev eu
    obtain⟨⟨cls,dd,data,sl⟩,ho,hc,n,hd⟩:=ht
    obtain⟨⟨cls2,dd2,data2,sl2⟩,ho2,hc2,n2,hd2⟩:=hb
    simp only at hc hd hc2 hd2
    subst hc hd hc2 hd2
    refine concat_meets (E:=X.xe) ⟨_,ho,rfl⟩ ⟨_,ho2,rfl⟩ noFill_tuple_add seq_tuple_add PySem.F.slot_tuple_add PySem.F.entry_tuple_add (PySem.F.args_tuple_add_2 _ _) (tuple_addW0 a1 b1 _ _ n n2 dd dd2 sl sl2 (by simp)) ⟨ho,ho2,?_⟩
    exact⟨.ref b1,H,I,rfl,p2.ret sr _ (.tup h2 q2)⟩
   ·refine Qb0 pins s σ H _ _ v u Q I rx ry ⟨_,_,vs,ws,rfl,rfl,h1,h2,hx,by rw[q1.length,q2.length];exact hz,fun he=>?_,fun _ q hq=>?_⟩
    ·subst he
     cases q2
     rw[List.append_nil]at p2
     exact p2.ret sr _ (.tup h1 q1)
    ·exact p2 _ _ (Ex.new hq) (sr.new hq) _ (.tup (SqT.of Qai) ((Reps.app q1 q2).mono (Ex.new hq)))
  | _=>exact p.elim
 | _=>cases r2<;>exact p.elim
def toOf (K:PySem.W.Frag) (f:CO):TO:=fun σ H Q=>∃ ρ l st,LR K ρ H σ l/\SR K ρ H st/\Post K ρ H (f l st) fun o _ _ H'=>Q o H'
abbrev SO (X:Cx) (e:Option Expr) (f:CO):Prop:=PO X e (toOf X.K f)
theorem Qfz:SO X none oNone:=fun pins s σ H Q I h_=>h_.el fun ρ l st lr sr p=>QbW pins s σ H Q I (p.ret sr)
theorem QfA (h:SE X e fa):SO X (some e) (oSome fa):=fun pins s σ H Q I h_=>h_.el fun ρ l st lr sr p=>QbX h pins s σ H Q I ⟨ρ,l,st,lr,sr,p.bnd.imp fun d st1 ρ1 H1 x1 s1 p1 v rv=>by
 cases rv with
 | int i=>exact⟨i,rfl,p1.ret s1⟩
 | _=>exact p1.elim⟩
theorem Reps.cut {vs:List V}{ds:List D} (r:Reps K ρ H vs ds) (lo hi:Option Int):Reps K ρ H (cutV vs lo hi) (cutD ds lo hi):=by
 unfold cutV cutD
 have e:∀ n d o,HT.sIx n d o=MM.sIx n d o:=fun n d o=>by cases o<;>rfl
 rw[e,e,r.length]
 exact (r.drop _).take _
theorem QfB {lo hi:Option Expr}{fl fh:CO}{p2:Pos} (h:SE X e fa) (hl:SO X lo fl) (hh:SO X hi fh):SL X (.Subscript e (.Slice lo hi none p2) pos) (aSlice fa fl fh):=
 (QbY Qcc h hl hh).of fun σ H Q h_=>h_.el fun ρ l st lr sr p=>⟨ρ,l,st,lr,sr,p.bnd0.imp fun d st1 ρ1 H1 x1 s1 p1 v rv=>⟨ρ1,l,st1,lr.mono x1,s1,(p1.bnd0.left x1).imp fun i st2 ρ2 H2 x2 s2 p2=>⟨ρ2,l,st2,(lr.mono x1).mono x2,s2,(p2.bnd0.left (x1.trans x2)).imp fun j st3 ρ3 H3 x3 s3 p3=>by
  have rv3:=(rv.mono x2).mono x3
  have x03:=x1.trans (x2.trans x3)
  have fin:∀ {a:Addr}{vs:List V}{ds:List D},SqL X.K H3 a vs->Reps X.K ρ3 H3 vs ds->Post X.K ρ H (ret (cutD ds i j) st3) (fun ds _ ρ' H'=>∀ a vs,H a=none->a∉ρ'->H' a=some (.lst vs)->Reps X.K ρ' H' vs ds->Q (.ref a) H')->rSlL X.K (.ref a) i j H3 Q:=fun {a vs ds} hs r q=>
   ⟨a,vs,rfl,hs,fun q1 hq1=>by
    have hn:H q1=none:=by
     cases z:H q1 with
     | none=>rfl
     | some o=>exact absurd hq1 (x03.trk q1 o z)
    exact q ρ3 _ (x03.trans (Ex.new hq1)) (s3.new hq1) q1 _ hn (s3.fresh hq1) Qai ((Reps.cut r i j).mono (Ex.new hq1))⟩
  cases rv3 with
  | lit h r=>exact fin h.seq r p3
  | ref _ h=>
   obtain⟨ds,e2,p4⟩:=Post.getL (p3.bnd0.left x03) s3
   obtain⟨a',vs,ha,hv,r⟩:=s3.seq e2
   rw[h]at ha;cases ha
   exact fin (SqL.of hv) r p4
  | _=>exact p3.elim⟩⟩⟩
end
open PySem.AutoSeq1 (wpAny_loadPart')
section
variable {X:Cx}{K:PySem.W.Frag}{ρ:List Addr}{H:Hp}{st:Sto}
theorem QfC:OpR X (compareOp .Is) (rOf X.K isD):=by
 intro pins s σ H x y v u Q I rx ry pq156;obtain⟨ρ,st,d,e,sr,r1,r2,p⟩:=pq156
 cases r2 with
 | non=>
  refine Qbi pins s σ H x .non v u Q I rx ry ⟨rfl,?_⟩
  cases r1 with
  | non=>exact p.ret sr _ (.bl true)
  | bl b=>exact p.ret sr _ (.bl false)
  | int b=>exact p.ret sr _ (.bl false)
  | str b=>exact p.ret sr _ (.bl false)
  | tup h r=>exact p.ret sr _ (.bl false)
  | lit h r=>exact p.ret sr _ (.bl false)
  | ref _ h=>exact p.ret sr _ (.bl false)
  | dic _ h=>exact p.ret sr _ (.bl false)
  | exn0 _ h=>exact p.ret sr _ (.bl false)
  | exn _ h _ _=>exact p.ret sr _ (.bl false)
 | bl b=>
  cases r1 with
  | bl a=>
   cases (show v=Value.bool a from rx)
   cases (show u=Value.bool b from ry)
   refine wpAny_is_plain rfl ⟨.bl (a == b),H,I,?_,p.ret sr _ (.bl _)⟩
   cases a<;>cases b<;>rfl
  | _=>exact p.elim
 | _=>cases r1<;>exact p.elim
theorem QfD:OpR X (compareOp .IsNot) (rOf X.K isntD):=by
 intro pins s σ H x y v u Q I rx ry pq157;obtain⟨ρ,st,d,e,sr,r1,r2,p⟩:=pq157
 cases r2 with
 | non=>
  refine Qbj pins s σ H x .non v u Q I rx ry ⟨rfl,?_⟩
  cases r1 with
  | non=>exact p.ret sr _ (.bl false)
  | bl b=>exact p.ret sr _ (.bl true)
  | int b=>exact p.ret sr _ (.bl true)
  | str b=>exact p.ret sr _ (.bl true)
  | tup h r=>exact p.ret sr _ (.bl true)
  | lit h r=>exact p.ret sr _ (.bl true)
  | ref _ h=>exact p.ret sr _ (.bl true)
  | dic _ h=>exact p.ret sr _ (.bl true)
  | exn0 _ h=>exact p.ret sr _ (.bl true)
  | exn _ h _ _=>exact p.ret sr _ (.bl true)
 | bl b=>
  cases r1 with
  | bl a=>
   cases (show v=Value.bool a from rx)
   cases (show u=Value.bool b from ry)
   refine wpAny_isNot_plain rfl ⟨.bl (!(a == b)),H,I,?_,p.ret sr _ (.bl _)⟩
   cases a<;>cases b<;>rfl
  | _=>exact p.elim
 | _=>cases r1<;>exact p.elim
theorem QfE {v:V}{d:D} (r:Rep K ρ H v d) (h:flatD d=true):flatV v=true:=by
 cases r<;>first | rfl | cases h
theorem QfF:∀ {vs:List V}{ds:List D},Reps K ρ H vs ds->ds.all flatD=true->vs.all flatV=true
 | _,_,.nil,_=>rfl
 | _,_,.cons r t,h=>by
  rw[List.all_cons,Bool.and_eq_true]at h
  rw[List.all_cons,Bool.and_eq_true]
  exact⟨QfE r h.1,QfF t h.2⟩
theorem QfG {v w:V}{d e:D} (r:Rep K ρ H v d) (q:Rep K ρ H w e) (h:flatD d=true) (h':flatD e=true):eqV v w=eqFl d e:=by
 cases r<;>first | (cases q<;>first | rfl | cases h') | cases h
theorem QfH {w:V}{e:D} (q:Rep K ρ H w e) (h':flatD e=true):∀ {vs:List V}{ds:List D},Reps K ρ H vs ds->ds.all flatD=true->inV w vs=ds.any fun d=>eqFl d e
 | _,_,.nil,_=>rfl
 | _,_,.cons r t,h=>by
  rw[List.all_cons,Bool.and_eq_true]at h
  have:=QfH q h' t h.2
  unfold inV at this ⊢
  rw[List.any_cons,List.any_cons,this,QfG r q h.1 h']
theorem Post.hasK {n:Nat}{k:D}{R:Bool->Sto->List Addr->Hp->Prop} (h:Post K ρ H (MM.hasK n k st) R) (s:SR K ρ H st):∃ b kvs,st[n]?=some (.dct b kvs)/\kOk b k=true/\R (lkK kvs k).isSome st ρ H:=by
 obtain⟨b,kvs,e,p1⟩:=Post.getDc (Post.bnd h) s
 obtain⟨hk,p2⟩:=Post.chk p1
 exact⟨b,kvs,e,hk,p2.ret s⟩
theorem _root_.L2.OpR.orO {f:Value->Value->Sem Value}{r r':R2} (h:OpR X f r) (h':OpR X f r'):OpR X f (fun x y H Q=>r x y H Q\/r' x y H Q):=by
 intro pins s σ H x y v u Q I rx ry q
 rcases q with q | q
 ·exact h pins s σ H x y v u Q I rx ry q
 ·exact h' pins s σ H x y v u Q I rx ry q
theorem QfI (hu:X.A.units + 60 < cLine):OpR X (compareOp .In) (fun x y H Q=>∃ (ρ:List Addr) (st:Sto) (n:Nat) (a:Addr) (b:Bool) (kvs:List (D × D)) (k:D),y=.ref a/\SR X.K ρ H st/\ρ[n]?=some a/\st[n]?=some (.dct b kvs)/\Rep X.K ρ H x k/\kOk b k=true/\Q (.bl (lkK kvs k).isSome) H):=by
 intro pins s σ H x y v u Q I rx ry pq158;obtain⟨ρ,st,n,a,b,kvs,k,e,sr,ha,hn,rk,hk,q⟩:=pq158
 subst e
 cases ry
 exact Qdw (by ac_nf) I (sr.ob n a _ ha hn) rk hk rx fun s' I'=>⟨.bl _,H,I',rfl,q⟩
theorem QfJ (hu:X.A.units + 60 < cLine):OpR X (compareOp .In) (rOf X.K inD):=(Qch.orO (QfI hu)).of fun x y H Q pq76=>by
 obtain⟨ρ,st,d,e,sr,r1,r2,p⟩:=pq76
 have fin:∀ {a:Addr}{vs:List V}{ds:List D} (hq:SqL X.K H a vs\/SqT X.K H a vs) (r:Reps X.K ρ H vs ds) (p1:Post X.K ρ H (inL d ds st) fun r _ ρ' H'=>∀ v,Rep X.K ρ' H' v r->Q v H'),rIn X.K false x (.ref a) H Q:=fun hq r p1=>by
  obtain⟨⟨h1,h2⟩,p2⟩:=Post.chk p1
  refine⟨_,_,rfl,hq,QfE r1 h1,QfF r h2,?_⟩
  rw[if_neg (by simp),QfH r1 h1 r h2]
  exact p2.ret sr _ (.bl _)
 cases r2 with
 | tup h r=>exact .inl (fin (.inr h) r ((Post.bnd p).ret sr))
 | lit h r=>exact .inl (fin (.inl h.seq) r ((Post.bnd p).ret sr))
 | ref _ h=>
  obtain⟨ds,e2,p1⟩:=Post.getL (Post.bnd p) sr
  obtain⟨a',vs,ha,hv,r⟩:=sr.seq e2
  rw[h]at ha;cases ha
  exact .inl (fin (.inl (SqL.of hv)) r p1)
 | @dic a n _ h=>
  obtain⟨b,kvs,e1,hk,q⟩:=Post.hasK (Post.bnd p) sr
  exact .inr ⟨ρ,st,n,a,b,kvs,d,rfl,sr,h,e1,r1,hk,(q.ret sr) _ (.bl _)⟩
 | _=>exact (show False from p).elim
theorem QfK:UnR X (unaryOp .USub) (uOf X.K negD):=by
 intro pins s σ H x v Q I rx pq159;obtain⟨ρ,st,d,sr,r1,p⟩:=pq159
 cases r1 with
 | int i=>exact Qbb pins s σ H _ v Q I rx ⟨i,rfl,p.ret sr _ (.int _)⟩
 | _=>exact p.elim
end
section
variable {X:Cx}{a b c e o tg:Expr}{es:List Expr}{pos apos cpos:Pos}{fa fb fc:CE}{ca cb:CA}{ta tb:CT}{K:PySem.W.Frag}{ρ:List Addr}{H:Hp}{st:Sto}{x:Str}{p:Pos}{T id:String}{body:List Stmt}{cs:CS}
theorem QfL {op:UnaryOp}{g:D->M D} (ho:UnR X (unaryOp op) (uOf X.K g)) (ha:SE X a fa):SE X (.UnaryOp op a pos) (c1 g fa):=
 (Qa5 ho ha).of fun σ H Q h_=>h_.el fun ρ l st lr sr p=>⟨ρ,l,st,lr,sr,p.bnd.imp fun d st1 ρ1 H1 x1 s1 p1 v rv=>⟨ρ1,st1,d,s1,rv,p1⟩⟩
end
section
variable {X:Cx}{K:PySem.W.Frag}{ρ:List Addr}{H:Hp}{st:Sto}
theorem QfM {P:Program}{w:World}{H:Hp}{h:Heap}{a:Addr}{o:HO} (x:ObjOk P w H h a o):∃ ob,h.get? a=some ob:=by
 cases o with
 | lst _=>obtain⟨_,_,_,_,e⟩:=x;exact⟨_,e⟩
 | tup _=>obtain⟨_,_,_,ob,e,_⟩:=x;exact⟨_,e⟩
 | dK _=>obtain⟨_,_,_,_,ob,_,_,e,_⟩:=x;exact⟨_,e⟩
 | dT _=>obtain⟨_,_,_,_,ob,_,_,e,_⟩:=x;exact⟨_,e⟩
 | set _ _=>obtain⟨ob,_,_,_,e,_⟩:=x;exact⟨_,e⟩
 | ins _ _ _=>obtain⟨_,_,_,e,_⟩:=x;exact⟨_,e⟩
 | own _=>obtain⟨_,e⟩:=x;exact⟨_,e⟩
 | xd _=>obtain⟨_,⟨_,_,_,e,_⟩,_⟩:=x;exact⟨_,e⟩
 | rng _ _=>obtain⟨_,_,_,e⟩:=x;exact⟨_,e⟩
 | frz _ _=>obtain⟨e,_⟩:=x;exact⟨_,e⟩
 | tbl _=>exact⟨_,(show h.get? a=some _ from x)⟩
 | met _ _=>exact⟨_,(show h.get? a=some _ from x)⟩
 | ext _=>obtain⟨_,⟨_,e⟩,_⟩:=x;exact⟨_,e⟩
end
section
variable {X:Cx}{tg:Expr}{es:List Expr}{pos:Pos}{fa fb:CE}{K:PySem.W.Frag}{ρ:List Addr}{H:Hp}{st:Sto}
theorem atI {h h':Heap}{it l:Addr}{k:Nat} (x:h.IsTupleIter it l k) (e:∀ o,h.get? it=some o->h'.get? it=some o):h'.IsTupleIter it l k:=let ⟨o,e1,r⟩:=x;⟨o,e o e1,r⟩
end



































end MM
namespace MM
open PySem PyProof.Rows L2
def strD:D->M D
 | .int i=>chk (i.natAbs.log2 < 1920) (ret (.str (Str.ofString (toString i))))
 | _=>bad
def intTD:D->M D
 | .str x=>match intText? x with
  | some n=>chk (x.length<=640) (ret (.int n))
  | none=>bad
 | _=>bad
def inTD:D->D->M D
 | .str x,.str y=>ret (.bl (!(Builtin.Str.occurrences y x 0 y.length 1).isEmpty))
 | _,_=>bad
section
variable {X:Cx}
theorem QfO:CallR X (.type "str") (fun xs H Q=>∃ v,xs=[v]/\uOf X.K strD v H Q):=Qbz.of fun xs H Q z=>by
 obtain⟨v,e,ρ,st,d,sr,rv,p⟩:=z
 cases rv with
 | int i=>
  obtain⟨hz,p1⟩:=Post.chk p
  exact⟨i,e,hz,p1.ret sr _ (.str _)⟩
 | _=>exact p.elim
theorem QfP:CallR X (.type "int") (fun xs H Q=>∃ x n,xs=[.str x]/\intText? x=some n/\x.length<=640/\Q (.int n) H):=by
 intro pins s σ H xs us Q I r h
 obtain⟨x,n,rfl,hn,hl,q⟩:=h
 obtain⟨u,rfl,t,rfl⟩:=Qbw r
 exact PySem.W.KIN.call_text hn hl ⟨.int n,H,I.tok _,⟨_,rfl⟩,q⟩
theorem QfQ:CallR X (.type "int") (fun xs H Q=>∃ v,xs=[v]/\uOf X.K intTD v H Q):=QfP.of fun xs H Q z=>by
 obtain⟨v,e,ρ,st,d,sr,rv,p⟩:=z
 cases rv with
 | str x=>
  cases en:intText? x with
  | none=>unfold intTD at p;dsimp only at p;rw[en]at p;exact p.elim
  | some n=>
   unfold intTD at p
   dsimp only at p
   rw[en]at p
   obtain⟨hz,p1⟩:=Post.chk p
   exact⟨x,n,e,en,hz,p1.ret sr _ (.int _)⟩
 | _=>exact p.elim
theorem QfR:OpR X (compareOp .In) (rOf X.K inTD):=Qbh.of fun x y H Q z=>by
 obtain⟨ρ,st,d,e,sr,r1,r2,p⟩:=z
 cases r1 with
 | str a=>
  cases r2 with
  | str b=>exact⟨a,b,rfl,rfl,p.ret sr _ (.bl _)⟩
  | _=>exact p.elim
 | _=>first | exact p.elim | (cases r2<;>exact p.elim)
end
section
open PySem.Builtin.Str
variable {prog:Program}{w:World}{A:Around}{E:Value->Shared->Prop}{s:Shared}
theorem QfS {x y : Str} {t u : Tok} {Q : Value -> Shared -> Prop} (hy : (y.length == 0) = false) (hsz : x.length + 2 <= sizeLine)
  (h:∀ l k,l.map (·.1)=Txt.split x y->Q (.ref s.heap.objs.size) { s with heap:=s.heap.push { cls:=.type "list",data:=.seq (strValues l).toArray },toks:=k }):
  wpAny (model prog w) A (call (.builtin "str.split") [.str x t,.str y u]) Q E s:=by
 have hn:(partsBetween x (occurrences x y 0 x.length (x.length + 1)) y.length).length<=sizeLine:=by
  have e1:=StrLaws.occ_length_le x y 0 x.length (x.length + 1)
  rw[length_partsBetween];ac_nf
 cases h1:(decide (x.length < y.length) || decide (strKind x < strKind y)) with
 | true=>exact call_meets F.slot_str_split (typeIs_str _ _ _) F.entry_str_split (F.args_str_split_2 _ _) (meets_str_split_cannot_occur x y t u h1) (h [(x,t)] s.toks (if_pos h1).symm)
 | false=>
  cases hf:(occurrences x y 0 x.length (x.length + 1)).isEmpty with
  | true=>exact call_meets F.slot_str_split (typeIs_str _ _ _) F.entry_str_split (F.args_str_split_2 _ _) (meets_str_split_not_found x y t u h1 hy hf) (h [(x,t)] s.toks ((if_neg (ne_true_of_eq_false h1)).trans (if_pos hf)).symm)
  | false=>
   refine call_meets F.slot_str_split (typeIs_str _ _ _) F.entry_str_split (F.args_str_split_2 _ _) (meets_str_split_sep x y t u h1 hy hf (by ac_nf) hn) ?_
   show wants Q E _ { s with toks:=_,heap:=s.heap.push { cls:=.type "list",data:=.seq (strsFrom s.toks (partsBetween x (occurrences x y 0 x.length (x.length + 1)) y.length)).toArray } }
   rw[strsFrom_eq]
   exact h (numbered s.toks _) _ ((numbered_texts _ _).trans ((if_neg (ne_true_of_eq_false h1)).trans (if_neg (ne_true_of_eq_false hf))).symm)
end
section
variable {X:Cx}
theorem QfT:∀ l:List (Str × Tok),L2.Vals ((l.map (·.1)).map V.str) (strValues l)
 | []=>.nil
 | p::l=>.cons ⟨p.2,rfl⟩ (QfT l)
def rSplit:V->List V->Hp->VK->Prop:=fun x vs H Q=>∃ a b,x=.str a/\vs=[.str b]/\(b.length == 0)=false/\a.length + 2<=sizeLine/\(Txt.split a b).length<=sizeLine/\∀ l,H l=none->Q (.ref l) (upd H l (.lst ((Txt.split a b).map V.str)))
theorem QfU:MtR X "str.split" rSplit:=by
 intro pins s σ H x vs v us Q I rx rv h
 obtain⟨a,b,rfl,rfl,hb,ha,hl,q⟩:=h
 obtain⟨t,rfl⟩:=rx
 obtain⟨u,rfl,ru⟩:=rv.one
 obtain⟨t',rfl⟩:=ru
 refine QfS hb ha fun l k e=>?_
 have rv':=QfT l
 rw[e]at rv'
 exact⟨.ref s.heap.objs.size,_,I.laid (t':=k) (o:=.lst ((Txt.split a b).map V.str)) (fun b o e=>Heap.get?_push_of_some _ e) (Nat.le_refl _) ⟨by rw[List.length_map];exact hl,_,0,rv',Heap.get?_push_size _ rfl⟩,rfl,q _ (I.hok.fresh (Nat.le_refl _))⟩
theorem QfV:∀ {ys:List Str}{us:List Value},L2.Vals (ys.map V.str) us->StrsAre us ys
 | [],_,.nil=>.nil
 | y::ys,_,.cons r t=>by
  obtain⟨k,e⟩:=r
  subst e
  exact .cons y k (QfV t)
def rJoin (K:PySem.W.Frag):V->List V->Hp->VK->Prop:=fun x vs H Q=>∃ (a:Str) (p:Addr) (ys:List Str),x=.str a/\vs=[.ref p]/\SqL K H p (ys.map V.str)/\(ys.map (·.length)).sum + ys.length * a.length<=16777216/\Q (.str (Txt.join a ys)) H
theorem QfW:MtR X "str.join" (rJoin X.K):=by
 intro pins s σ H x vs v us Q I rx rv h
 obtain⟨a,p,ys,rfl,rfl,hq,hz,q⟩:=h
 obtain⟨t,rfl⟩:=rx
 obtain⟨u,rfl,ru⟩:=rv.one
 cases ru
 obtain⟨its,rv',pl,_⟩:=I.list hq
 exact join_list pl.isList (QfV rv') hz fun t' k=>⟨.str _,H,I.kept (t':=k) (fun b o e=>e),⟨_,rfl⟩,q⟩
end
def strsOf:List D->Option (List Str)
 | []=>some []
 | .str x::ds=>(strsOf ds).map (x::·)
 | _::_=>none
def cSplit (a b:CE):CE:=fun l=>bnd (a l) fun x=>match x with
 | .str x=>bnd (b l) fun y=>match y with
  | .str y=>chk ((y.length == 0)=false/\x.length + 2<=lim/\(Txt.split x y).length<=lim) (alloc (.lst ((Txt.split x y).map .str)))
  | _=>bad
 | _=>bad
def cJoin (a b:CE):CE:=fun l=>bnd (a l) fun x=>match x with
 | .str x=>bnd (b l) fun y=>match y with
  | .ref n=>bnd (getL n) fun ds=>match strsOf ds with
   | some ys=>chk ((ys.map (·.length)).sum + ys.length * x.length<=16777216) (ret (.str (Txt.join x ys)))
   | none=>bad
  | _=>bad
 | _=>bad
section
variable {X:Cx}{K:PySem.W.Frag}{ρ:List Addr}{H:Hp}{st:Sto}
theorem QfX:∀ ys:List Str,Reps K ρ H (ys.map V.str) (ys.map D.str)
 | []=>.nil
 | y::ys=>.cons (.str y) (QfX ys)
theorem QfY {ds:List D}{ys:List Str}{vs:List V} (h:strsOf ds=some ys) (r:Reps K ρ H vs ds):vs=ys.map V.str:=by
 induction ds generalizing ys vs with
 | nil=>cases r;cases h;rfl
 | cons d ds ih=>
  cases r with
  | cons a t=>
   cases a with
   | str x=>
    unfold strsOf at h
    cases e:strsOf ds with
    | none=>rw[e]at h;cases h
    | some zs=>
     rw[e]at h
     cases h
     rw[ih e t];rfl
   | _=>cases h
theorem QfZ {o e : Expr} {fa fb : CE} {apos cpos : Pos} (ho : SE X o fa) (ha : SE X e fb) (hbase : attributeBase o "split" X.env (eval o X.env) = eval o X.env := by rfl)
  (hfew:((backTo cpos (starEach [e] X.env)).all (fun x => !x.1) && (backToKw cpos (keywordEach [] X.env)).all (fun x=>x.1.isSome) && decide ([e].length + ([]:List Keyword).length + (if ([]:List Keyword).isEmpty then 0 else 1) < 30))=true:=by rfl)
  (hline:(apos.endLine == cpos.line)=true:=by rfl) (hs:starEach [e] X.env=(false,eval e X.env)::starEach [] X.env:=by rfl) (hplain:(backTo cpos (starEach [] X.env)).any (·.1)=false:=by rfl):
  SE X (.Call (.Attribute o "split" apos) [e] [] cpos) (cSplit fa fb):=
 (Qcm PySem.F.plainAttrs_str PySem.F.slot_str_split PySem.F.type_str_split QfU ho (QbH ha QbG hs) hbase hfew hline hs hplain).of fun σ H Q h_=>h_.el fun ρ l st lr sr p=>⟨ρ,l,st,lr,sr,p.bnd.imp fun d st1 ρ1 H1 x1 s1 p1 v rv=>by
  cases rv with
  | str x=>
   refine⟨rfl,ρ1,l,st1,lr.mono x1,s1,(Post.bnd p1).imp fun y st2 ρ2 H2 x2 s2 p2 w rw'=>?_⟩
   cases rw' with
   | str y=>
    obtain⟨⟨hb,hl1,hl2⟩,p3⟩:=Post.chk p2
    refine⟨x,y,rfl,rfl,hb,hl1,hl2,fun q hq=>?_⟩
    have nl:=s2.fresh hq
    have s3:SR X.K (ρ2++[q]) (upd H2 q (.lst ((Txt.split x y).map V.str))) (st2++[.lst ((Txt.split x y).map D.str)]):=(s2.new hq).keep Qai nl (QfX _)
    refine p3 _ _ (Ex.newL hq) s3 _ (.ref ⟨_,Qai,rfl⟩ ?_)
    rw[<- s2.len];simp
   | _=>exact p2.elim
  | _=>exact p1.elim⟩
theorem Qf0 {o e : Expr} {fa fb : CE} {apos cpos : Pos} (ho : SE X o fa) (ha : SE X e fb) (hbase : attributeBase o "join" X.env (eval o X.env) = eval o X.env := by rfl)
  (hfew:((backTo cpos (starEach [e] X.env)).all (fun x => !x.1) && (backToKw cpos (keywordEach [] X.env)).all (fun x=>x.1.isSome) && decide ([e].length + ([]:List Keyword).length + (if ([]:List Keyword).isEmpty then 0 else 1) < 30))=true:=by rfl)
  (hline:(apos.endLine == cpos.line)=true:=by rfl) (hs:starEach [e] X.env=(false,eval e X.env)::starEach [] X.env:=by rfl) (hplain:(backTo cpos (starEach [] X.env)).any (·.1)=false:=by rfl):
  SE X (.Call (.Attribute o "join" apos) [e] [] cpos) (cJoin fa fb):=
 (Qcm PySem.F.plainAttrs_str PySem.F.slot_str_join PySem.F.type_str_join QfW ho (QbH ha QbG hs) hbase hfew hline hs hplain).of fun σ H Q h_=>h_.el fun ρ l st lr sr p=>⟨ρ,l,st,lr,sr,p.bnd.imp fun d st1 ρ1 H1 x1 s1 p1 v rv=>by
  cases rv with
  | str x=>
   refine⟨rfl,ρ1,l,st1,lr.mono x1,s1,(Post.bnd p1).imp fun y st2 ρ2 H2 x2 s2 p2 w rw'=>?_⟩
   cases rw' with
   | @ref b m kk2 hb=>
    obtain⟨ds,e2,p3⟩:=Post.getL (Post.bnd p2) s2
    obtain⟨a',vs,ha,hv,r⟩:=s2.seq e2
    rw[hb]at ha;cases ha
    cases es:strsOf ds with
    | none=>rw[es]at p3;exact p3.elim
    | some ys=>
     rw[es]at p3
     obtain⟨hz,p4⟩:=Post.chk p3
     have ev:=QfY es r
     subst ev
     exact⟨x,b,ys,rfl,rfl,SqL.of hv,hz,p4.ret s2 _ (.str _)⟩
   | _=>exact p2.elim
  | _=>exact p1.elim⟩
end
abbrev CF:=Str->Loc->M D
def signs (x:Str):List D:=x.cps.toList.map fun c=>.str ⟨#[c]⟩
def iStr (a:CE):CI:=fun l=>bnd (a l) fun x=>match x with
 | .str x=>chk (x.cps.all (· < 128)=true) (ret ⟨signs x,anySt⟩)
 | _=>bad
def Itx (x:Str):It where
 go:=fun i _=>∃ c,x.cps[i]?=some c
 yld:=fun i H v H'=>H'=H/\∃ c,x.cps[i]?=some c/\v=.str ⟨#[c]⟩
 stop:=fun i _=>x.cps[i]?=none
theorem Qf1 {P:Program}{w:World}{K:PySem.W.Frag}{tg:Expr} (x:Str) (t:Tok) (it:Addr):Turn P w K tg (Itx x) [it] it (fun i h=>h.IsStrIter it "str_ascii_iterator" x t i) where
 mem:=by simp
 obj:=fun i h st b hb=>by
  have e:b=it:=by simpa using hb
  subst e
  obtain⟨o,e,c,d⟩:=st
  exact⟨o,e,fun v z=>by rw[d]at z;cases z⟩
 keep:=fun i h h' st k=>by
  obtain⟨o,e,r⟩:=st
  exact⟨o,k it (by simp) o e,r⟩
 item:=by
  intro X hP hw hK hc i pins s σ H E I hf st hg
  subst hP hw hK
  obtain⟨c,hx⟩:=hg
  obtain⟨f0,f1,f2,f3,f4,f5⟩:=hf it (by simp)
  refine wpAny_pyNext_ascii_item st hx fun h' st' sb=>?_
  have I1:Inv X pins σ H { s with heap:=h',toks:=s.toks + 1 }:=I.turned (t':=s.toks + 1) (fun b o hb e=>(sb.2 b hb).trans e) f0 f1 f3 f4 f5
  obtain⟨o,e,cl,d⟩:=id st'
  exact⟨_,rfl,QaV (s:={ s with heap:=h',toks:=s.toks + 1 }) e cl d (by decide) ⟨.str ⟨#[c]⟩,H,I1,⟨_,rfl⟩,⟨rfl,c,hx,rfl⟩,st',fun b hb=>(hf b hb).1⟩⟩
 done:=by
  intro X hP hw hK hc i pins s σ H E I hf st hg
  subst hP hw hK
  obtain⟨f0,f1,f2,f3,f4,f5⟩:=hf it (by simp)
  exact wpAny_pyNext_ascii_end (I.ok.hd hc) st hg fun h' eb=>⟨rfl,I.turned (t':=s.toks) (fun b o hb e=>eb b o hb e) f0 f1 f3 f4 f5⟩
 self:=fun _ _ _ _ _ st h=>wpAny_pyIter_striter_ascii st h
section
variable {X:Cx}{K:PySem.W.Frag}{tg e:Expr}{fa:CE}{te:TE}
theorem Qf2 (he:PE X e te):PI X tg e (fun σ H R=>te σ H fun x H1=>∃ z,x=.str z/\z.cps.all (· < 128)=true/\R (Itx z) H1):=by
 intro pins s σ H R I h
 refine thn (he pins s σ H _ I h) fun v s1 y=>?_
 obtain⟨x,H1,I1,r1,z,rfl,hz,q⟩:=y
 obtain⟨t,rfl⟩:=r1
 refine wpAny_pyIter_ascii hz ?_
 refine⟨s1.heap.objs.size,[s1.heap.objs.size],_,_,H1,rfl,I1.kept (t':=s1.toks) fun b o e=>Heap.get?_push_of_some _ e,Qf1 z t _,⟨_,Heap.get?_push_size _ rfl,rfl,rfl⟩,fun b hb=>?_,q⟩
 have eb:b=s1.heap.objs.size:=by simpa using hb
 subst eb
 exact I1.fpOk (Nat.le_refl _) (I1.hok.fresh (Nat.le_refl _))
theorem Qf3 {ρ0:List Addr}{H0:Hp}{x:Str}:ItR K ρ0 H0 ⟨signs x,anySt⟩ (Itx x):=fun ρ H st y s _=>by
 refine⟨?_,fun i d e=>?_⟩
 ·show x.cps[(signs x).length]?=none
  unfold signs
  simp
 ·unfold signs at e
  rw[List.getElem?_map,Array.getElem?_toList]at e
  cases ec:x.cps[i]? with
  | none=>rw[ec]at e;cases e
  | some c=>
   rw[ec]at e
   cases e
   refine⟨⟨c,ec⟩,fun v H' z=>?_⟩
   obtain⟨e2,c',e3,e4⟩:=z
   subst e2
   rw[ec]at e3;cases e3
   subst e4
   exact⟨Ex.refl,s,.str _⟩
theorem Qf4 (h:SE X e fa):SI X tg e (iStr fa):=(Qf2 h).of fun σ H R h_=>h_.el fun ρ l st lr sr p=>⟨ρ,l,st,lr,sr,p.bnd.imp fun d st1 ρ1 H1 x1 s1 p1 v rv=>by
 cases rv with
 | str x=>
  obtain⟨hz,p2⟩:=Post.chk p1
  exact⟨x,rfl,hz,p2.ret s1 _ Qf3⟩
 | _=>exact p1.elim⟩
end
end MM
namespace MM
open PySem PySem.StrLaws Builtin.Str
structure Mrk (y:Str) (m k:Nat):Prop where
 lt:k < y.length
 at_:y.cps.toList[k]?=some m
 un:∀ j,y.cps.toList[j]?=some m->j=k
 kind:Builtin.Str.strKind y<=1
theorem At.mark {x y:Str}{m k i:Nat} (h:Mrk y m k) (a:At x y x.length i):x.cps.toList[i + k]?=some m:=by
 have e:=a.2
 rw[subAt_eq,beq_iff_eq]at e
 have e2:((x.cps.toList.drop i).take y.length)[k]?=some m:=by rw[e];exact h.at_
 rw[List.getElem?_take_of_lt h.lt,List.getElem?_drop]at e2
 exact e2
theorem Qf5 {l r:List Nat}{a t:Nat} (e:l.drop a=r):l[a + t]?=r[t]?:=by rw[<- e,List.getElem?_drop]
theorem Qf6 (p:Str):p.cps.toList.length=p.length:=by simp[Str.length]
theorem Qf7 {x y : Str} {m k : Nat} (hm : Mrk y m k) : ∀ (ps : List Str) (a : Nat) (cuts : List Nat) (f : Nat), ps ≠ [] -> (∀ p ∈ ps, m ∉ p.cps.toList) -> x.cps.toList.drop a = (Str.join y ps).cps.toList -> a <= x.length ->
  ChainG x y x.length a cuts f->(∀ j,f<=j->¬ At x y x.length j)->partsFrom x y.length a cuts=ps
 | [],_,_,_,h,_,_,_,_,_=>absurd rfl h
 | [p],a,cuts,f,_,hp,e,ha,hc,hf=>by
  have no:∀ j,a<=j->¬ At x y x.length j:=fun j hj hA=>by
   have e1:=At.mark hm hA
   rw[show j + k=a + (j - a + k) by ac_nf,Qf5 e]at e1
   exact hp p (by simp) (List.mem_of_getElem? e1)
  cases cuts with
  | cons c r=>exact absurd hc.2.1 (no c hc.1)
  | nil=>
   show [strSub x a x.length]=[p]
   congr 1
   apply Str.ext'
   apply Array.toList_inj.mp
   rw[strSub_toList,e]
   have e2:(x.cps.toList.drop a).length=p.cps.toList.length:=by rw[e];rfl
   rw[List.length_drop,Qf6]at e2
   exact List.take_of_length_le (Nat.le_of_eq e2.symm)
 | p::q::r,a,cuts,f,_,hp,e,ha,hc,hf=>by
  have ej:(Str.join y (p::q::r)).cps.toList=p.cps.toList++(y.cps.toList++(Str.join y (q::r)).cps.toList):=by
   show (p++y++Str.join y (q::r)).cps.toList=_
   rw[Str.cps_append,Str.cps_append]
   simp
  rw[ej]at e
  have pl:=Qf6 p
  have yl:=Qf6 y
  have e0:∀ t,x.cps.toList[a + t]?=_:=fun t=>Qf5 e
  have hxl:x.length=a + p.length + y.length + (Str.join y (q::r)).length:=by
   have:=congrArg List.length e
   rw[List.length_drop,List.length_append,List.length_append,Qf6,Qf6,Qf6,Qf6]at this
   have:=hm.lt
   ac_nf
  have yes:At x y x.length (a + p.length):=by
   refine⟨by ac_nf,?_⟩
   rw[subAt_eq,beq_iff_eq,<- List.drop_drop,e,<- pl,List.drop_left,<- yl,List.take_left]
  have no:∀ j,a<=j->j < a + p.length->¬ At x y x.length j:=fun j hj hl hA=>by
   have e1:=At.mark hm hA
   rw[show j + k=a + (j - a + k) by ac_nf,e0]at e1
   by_cases h1:j - a + k < p.length
   ·rw[List.getElem?_append_left (by ac_nf)]at e1
    exact hp p (by simp) (List.mem_of_getElem? e1)
   ·have:=hm.lt
    rw[List.getElem?_append_right (by ac_nf),List.getElem?_append_left (by ac_nf)]at e1
    have:=hm.un _ e1
    ac_nf
  cases cuts with
  | nil=>
   have:f=a:=hc
   exact absurd yes (hf _ (by ac_nf))
  | cons c cs=>
   have ec:c=a + p.length:=by
    rcases Nat.lt_trichotomy c (a + p.length) with h | h | h
    ·exact absurd hc.2.1 (no c hc.1 h)
    ·exact h
    ·exact absurd yes (hc.2.2.1 _ (by ac_nf) h)
   subst ec
   show strSub x a (a + p.length)::partsFrom x y.length (a + p.length + y.length) cs=_
   congr 1
   ·apply Str.ext'
    apply Array.toList_inj.mp
    rw[strSub_toList,e,show a + p.length - a=p.cps.toList.length by ac_nf,List.take_left]
   ·refine Qf7 hm (q::r) _ cs f (by simp) (fun z hz=>hp z (List.mem_cons_of_mem _ hz)) ?_ (by ac_nf) hc.2.2.2 hf
    rw[<- List.drop_drop,<- List.drop_drop,e,<- pl,List.drop_left,<- yl,List.drop_left]
theorem Qf8 (x:Str):1<=Builtin.Str.strKind x:=by
 unfold Builtin.Str.strKind
 split
 ·exact Nat.le_refl _
 ·split<;>decide
theorem Qf9 {y:Str}{m k:Nat} (hm:Mrk y m k) {ps:List Str} (h0:ps≠[]) (hp:∀ p∈ps,m∉p.cps.toList):Txt.split (Txt.join y ps) y=ps:=by
 have ej:Txt.join y ps=Str.join y ps:=glued_eq_join y ps
 rw[ej]
 generalize hx:Str.join y ps=x
 have hk:=Qf8 x
 obtain⟨f,hG,hn⟩:=occ_tight x y (by have:=hm.lt;ac_nf)
 have fin:=Qf7 hm ps 0 _ f h0 hp (by rw[hx];rfl) (Nat.zero_le _) hG hn
 unfold Txt.split
 split
 ·rename_i hc
  rw[Bool.or_eq_true,decide_eq_true_eq,decide_eq_true_eq]at hc
  have hl:x.length < y.length:=by have:=hm.kind;ac_nf
  match ps,h0,hx with
  | [p],_,hx=>rw[<- hx];rfl
  | p::q::r,_,hx=>
   have:x.length=(p++y++Str.join y (q::r)).length:=by rw[<- hx];rfl
   rw[Str.length_append,Str.length_append]at this
   ac_nf
 ·split
  ·rename_i he
   rw[List.isEmpty_iff.mp he]at fin
   have:[strSub x 0 x.length]=ps:=fin
   rw[sub_whole]at this
   exact this
  ·rw[partsBetween_eq]
   exact fin
end MM
namespace MM
def sv (m:Nat):List Nat:=(List.range 4).filter fun i=>m.testBit i
open PySem PySem.W PyProof.Rows L2
def tb (led:Bool) (m:Nat):SetTable:=⟨7,(sv m).toArray,#[],0,led,0,true⟩
def slotAt (b:Bool) (m i:Nat):Nat:=if b=true then 0 else match i with
 | 0=>0
 | k + 1=>(sv m).getD k 0 + 1
end MM
namespace MM
open PySem
def attrX (x f:Str):D->M D
 | .exn y [.str g,d]=>chk (y=x/\g=f) (ret d)
 | _=>bad
def isiX (xs:List Str) (b:Str->Bool):D->M D
 | .exn x _=>chk (x∈xs) (ret (.bl (b x)))
 | _=>bad
open PyProof.Rows
def XCls (h:Heap) (C N:Addr) (bm:List Value) (mN:Str->Option Value):Prop:=
 (∃ nm q bs sn sub ab col dd k0 k1 k2 k3 k5,h.get? C=some (excClassObj nm q C N bs bm true sn sub ab col dd k0 k1 k2 k3 k5 "ValueError.__new__"))/\h.Ns N mN
def vErr:List Value:=[.type "ValueError",.type "Exception",.type "BaseException",.type "object"]
structure XCh (h:Heap) (C N P NP:Addr) (mN mP:Str->Option Value):Prop where
 c:XCls h C N (.ref P::vErr) mN
 p:XCls h P NP vErr mP
section
variable {prog:Program}{w:World}{A:Around}{E:Value->Shared->Prop}{s:Shared}{C N P NP e:Addr}{mN mP:Str->Option Value}{bm:List Value}{name:Str}
theorem Qga {h:Heap}{a:Addr} (z:h.objs.size<=a):h.get? a=none:=by
 cases e:h.get? a with
 | none=>rfl
 | some o=>exact absurd (Nat.lt_of_lt_of_le (Heap.lt_size e) z) (Nat.lt_irrefl _)
theorem Qgb {Q:Option Value->Shared->Prop} (x:XCls s.heap C N bm mN) (q:Q (mN name) s):wpAny (model prog w) A (classOwn (.ref C) name) Q E s:=by
 obtain⟨⟨nm,q1,bs,sn,sub,ab,col,dd,k0,k1,k2,k3,k5,g⟩,ns⟩:=x
 obtain⟨h,gg,d,t,os⟩:=s
 exact wpAny_classOwn_exc g ns q
theorem Qgc {Q:List Value->Shared->Prop} (x:XCls s.heap C N bm mN) (q:Q (.ref C::bm) s):wpAny (model prog w) A (mroOf (.ref C)) Q E s:=by
 obtain⟨⟨nm,q1,bs,sn,sub,ab,col,dd,k0,k1,k2,k3,k5,g⟩,ns⟩:=x
 obtain⟨h,gg,d,t,os⟩:=s
 exact wpAny_mroOf_exc g q
theorem Qgd {base:Value}{Q:Bool->Shared->Prop} (x:XCls s.heap C N bm mN) (q:Q ((Value.ref C::bm).contains base) s):wpAny (model prog w) A (isSubtype (.ref C) base) Q E s:=by
 obtain⟨⟨nm,q1,bs,sn,sub,ab,col,dd,k0,k1,k2,k3,k5,g⟩,ns⟩:=x
 obtain⟨h,gg,d,t,os⟩:=s
 exact wpAny_isSubtype_exc g q
theorem Qge {v:Value}{Q:Option Value->Shared->Prop} (x:XCls s.heap C N bm mN) (hn:mN name=some v) (q:Q (some v) s):wpAny (model prog w) A (typeLookup (.ref C) name) Q E s:=by
 unfold typeLookup
 refine wpAny_bind (Qgc x ?_)
 rw[List.forIn_cons]
 refine wpAny_bind (wpAny_bind (wpAny_bind (Qgb x ?_)))
 rw[hn]
 dsimp only
 refine wpAny_pure (wpAny_pure (wpAny_pure q))
theorem Qgf {name:Str}{f:Value->Option (Option Value) × Unit->Sem (ForInStep (Option (Option Value) × Unit))} (h1:∀ n v b,builtinOwn n name=some v->f (.type n) b=pure (.done (some (some v),()))) (h2:∀ n b,builtinOwn n name=none->f (.type n) b=pure (.yield (none,()))):∃ z:Option (Option Value) × Unit,forIn vErr (none,()) f=(pure z:Sem _):=by
 have st:∀ (n:String) (rest:List Value),(∃ z,forIn rest (none,()) f=(pure z:Sem _))->∃ z,forIn (Value.type n::rest) (none,()) f=(pure z:Sem _):=fun n rest h=>by
  obtain⟨z,hz⟩:=h
  rw[List.forIn_cons]
  cases hb:builtinOwn n name with
  | some v=>exact⟨(some (some v),()),by rw[h1 n v _ hb];rfl⟩
  | none=>
   refine⟨z,?_⟩
   rw[<- hz,h2 n _ hb]
   rfl
 unfold vErr
 exact st _ _ (st _ _ (st _ _ (st _ _ ⟨_,rfl⟩)))
theorem Qgg {y:Option Value}{Q:Option Value->Shared->Prop} (x:XCh s.heap C N P NP mN mP) (h1:mN name=none) (h2:mP name=none) (hy:typeLookup (.type "ValueError") name=pure y) (q:Q y s):wpAny (model prog w) A (typeLookup (.ref C) name) Q E s:=by
 have hv:mroOf (.type "ValueError")=pure vErr:=F.excBase_ValueError.mroIs
 unfold typeLookup at hy ⊢
 rw[hv]at hy
 refine wpAny_bind (Qgc x.c ?_)
 rw[List.forIn_cons]
 refine wpAny_bind (wpAny_bind (wpAny_bind (Qgb x.c ?_)))
 rw[h1]
 dsimp only
 refine wpAny_pure ?_
 dsimp only
 rw[List.forIn_cons]
 refine wpAny_bind (wpAny_bind (Qgb x.p ?_))
 rw[h2]
 dsimp only
 refine wpAny_pure ?_
 dsimp only
 obtain ⟨z, hz⟩ := Qgf (name := name) (f := fun c __s => (do
   let __do_lift <- classOwn c name
   typeLookup.match_1 (motive:=fun _=>Sem (ForInStep (Option (Option Value) × Unit))) __do_lift (fun v=>pure (ForInStep.done (some (some v),()))) (fun x=>pure (ForInStep.yield (none,()))))) (fun n v b hb=>by show (pure (builtinOwn n name) >>= _)=_;rw[hb];rfl) (fun n b hb=>by show (pure (builtinOwn n name) >>= _)=_;rw[hb];rfl)
 rw[hz]
 refine wpAny_pure ?_
 change ((forIn vErr (none,()) _:Sem (Option (Option Value) × Unit)) >>= _)=_ at hy
 rw[hz]at hy
 exact (congrArg (fun m=>wpAny (model prog w) A m Q E s) hy).mpr (wpAny_pure q)
theorem Qgh {o:Obj}{Q:Value->Shared->Prop} (g:s.heap.get? e=some o) (hc:o.cls=.ref C) (q:Q (.ref C) s):wpAny (model prog w) A (typeOf (.ref e)) Q E s:=wpAny_typeOf_ref g (by rw[hc];exact q)
theorem XCls.keep {h h':Heap} (x:XCls h C N bm mN) (k:∀ b o,h.get? b=some o->h'.get? b=some o):XCls h' C N bm mN:=by
 obtain⟨⟨nm,q1,bs,sn,sub,ab,col,dd,k0,k1,k2,k3,k5,g⟩,o,es,ep,g2,r⟩:=x
 exact⟨⟨nm,q1,bs,sn,sub,ab,col,dd,k0,k1,k2,k3,k5,k _ _ g⟩,o,es,ep,k _ _ g2,r⟩
theorem XCh.keep {h h':Heap} (x:XCh h C N P NP mN mP) (k:∀ b o,h.get? b=some o->h'.get? b=some o):XCh h' C N P NP mN mP:=⟨x.c.keep k,x.p.keep k⟩
theorem Qgi {rest : List Value} {fI : Addr} {oI : Obj} {Q : PySem.Fin -> Shared -> Prop} (x : XCh s.heap C N P NP mN mP) (hpi : mP (Str.ofString "__init__") = none) (hi : mN (Str.ofString "__init__") = some (.ref fI)) (gI : s.heap.get? fI = some oI) (cI : oI.cls = .type "function")
  (run:∀ h' e,s.heap.objs.size<=e->s.heap.MadeExcOf h' e (.ref C) rest->wpAny (model prog w) A (call (.ref fI) (.ref e::rest)) (fun r s'=>r=.none/\Q (.done (.ret (.ref e))) s') E { s with heap:=h' }) (hl:rest.length<=sizeLine):
  wpAny (model prog w) A (Builtin.«type.__call__» { pos:=.ref C::rest }) Q E s:=by
 unfold Builtin.«type.__call__»
 dsimp only
 rw[if_neg (show ¬ ((Value.ref C == Value.type "type")=true) from Bool.false_ne_true)]
 refine wpAny_bind (Qgc x.c ?_)
 rw[if_neg (by simp)]
 refine wpAny_bind ?_
 obtain⟨⟨nm,q1,bs,sn,sub,ab,col,dd,k0,k1,k2,k3,k5,g⟩,ns⟩:=id x.c
 have tail:OwnTail s.heap vErr (.ref P::vErr):=by
  obtain⟨⟨nm,q1,bs,sn,sub,ab,col,dd,k0,k1,k2,k3,k5,g⟩,ns⟩:=id x.p
  exact .own g ns hpi .base
 refine wpAny_madeBy_exc (h:=s.heap) g ?_
 dsimp only
 refine wpAny_bind (wpAny_pure (wpAny_bind (wpAny_holding (wpAny_call (codeAny_call_builtin_code (Code.quiet_builtin _ (by nofun)) (wpAny_check_new_subU (h:=s.heap) F.excBase_ValueError rfl tail g ?_))))))
 refine codeAny_exc_new_subU (h:=s.heap) F.excBase_ValueError rfl F.excBase_ValueError tail g ?_ hl
 have k:∀ b o,s.heap.get? b=some o->((s.heap.push { cls:=.type "tuple",data:=.seq rest.toArray }).push { cls:=.ref C,data:=.fields #[.ref s.heap.objs.size,.none,.none,.none,.bool false,.none] }).get? b=some o:=fun b o z=>Heap.get?_push_of_some _ (Heap.get?_push_of_some _ z)
 have sz:(s.heap.push { cls:=.type "tuple",data:=.seq rest.toArray }).objs.size=s.heap.objs.size + 1:=by simp[Heap.push]
 have ge:((s.heap.push { cls:=.type "tuple",data:=.seq rest.toArray }).push { cls:=.ref C,data:=.fields #[.ref s.heap.objs.size,.none,.none,.none,.bool false,.none] }).get? (s.heap.objs.size + 1)=some { cls:=.ref C,data:=.fields #[.ref s.heap.objs.size,.none,.none,.none,.bool false,.none] }:=by
  have:=Heap.get?_push_size (s.heap.push { cls:=.type "tuple",data:=.seq rest.toArray }) (o:={ cls:=.ref C,data:=.fields #[.ref s.heap.objs.size,.none,.none,.none,.bool false,.none] }) rfl
  rw[sz]at this
  exact this
 have md:s.heap.MadeExcOf ((s.heap.push { cls:=.type "tuple",data:=.seq rest.toArray }).push { cls:=.ref C,data:=.fields #[.ref s.heap.objs.size,.none,.none,.none,.bool false,.none] }) (s.heap.objs.size + 1) (.ref C) rest:=
  ⟨k,Qga (Nat.le_succ _),s.heap.objs.size,ge,Qga (Nat.le_refl _),Heap.get?_push_of_some _ (Heap.get?_push_size _ rfl)⟩
 have r1:=run _ _ (Nat.le_succ _) md
 have x1:=x.keep k
 generalize (s.heap.push { cls:=.type "tuple",data:=.seq rest.toArray }).push { cls:=.ref C,data:=.fields #[.ref s.heap.objs.size,.none,.none,.none,.bool false,.none] }=h1 at *
 dsimp only
 unfold isInstance
 refine wpAny_bind (wpAny_bind (Qgh (s:={ s with heap:=h1 }) ge rfl (Qgd (s:={ s with heap:=h1 }) x1.c ?_)))
 rw[if_neg (by simp)]
 refine wpAny_bind (wpAny_holding ?_)
 unfold callSpecial? specialOf
 refine wpAny_bind (wpAny_bind (Qgh (s:={ s with heap:=h1 }) ge rfl (Qge (s:={ s with heap:=h1 }) x1.c hi ?_)))
 dsimp only
 refine wpAny_holding (wpAny_bind (wpAny_bindSpecial_def (s:={ s with heap:=h1 }) (k _ _ gI) cI ?_))
 dsimp only
 refine wpAny_bind (wpAny_mono r1 (fun r s' hr=>?_) fun _ _ z=>z)
 obtain⟨er,hq⟩:=hr
 subst er
 refine wpAny_pure ?_
 dsimp only
 rw[if_neg (by decide)]
 exact wpAny_pure hq
theorem Qgj {rest : List Value} {Q : Value -> Shared -> Prop} (x : XCls s.heap C N bm mN)
  (h:wpAny (model prog w) (A.under (Code.builtin "type.__call__" { pos:=.ref C::rest })) (Builtin.«type.__call__» { pos:=.ref C::rest }) (fun fin s'=>∃ v,fin=.done (.ret v)/\Q v s') E s):wpAny (model prog w) A (call (.ref C) rest) Q E s:=by
 obtain⟨⟨nm,q1,bs,sn,sub,ab,col,dd,k0,k1,k2,k3,k5,g⟩,ns⟩:=id x
 refine wpAny_call (codeAny_of_tree ?_)
 show wpAny _ _ (callAny (.ref C) _) _ _ s
 unfold callAny
 dsimp only
 refine wpAny_bind (wpAny_load g ?_)
 dsimp only
 unfold callAny.viaDunder specialOf
 refine wpAny_bind (wpAny_bind (wpAny_typeOf_ref g ?_))
 dsimp only
 rw[F.lookup_type_call]
 refine wpAny_pure ?_
 dsimp only
 rw[F.bind_type_call]
 refine wpAny_bind (wpAny_pure ?_)
 dsimp only
 unfold callAny.plainCallee
 refine wpAny_bind (wpAny_pure ?_)
 rw[if_pos (by decide)]
 refine wpAny_pure ⟨?_,codeAny_call_builtin_code (Code.quiet_builtin _ (by nofun)) (wpAny_check_type_call_sub (h:=s.heap) g (codeAny_builtin entry_typeCall ?_))⟩
 ·first | rfl | decide | simp[Code.quiet,Thread.loud]
 ·refine wpAny_mono h (fun fin s' z=>?_) fun _ _ z=>z
  obtain⟨v,e1,e2⟩:=z
  subst e1
  exact e2
end
theorem Qgk:typeLookup (.type "ValueError") (Str.ofString "__setattr__")=pure (some (.builtin "object.__setattr__")):=by rfl
theorem Qgl (self:Value):bindSpecial (.builtin "object.__setattr__") self=pure (.builtin "object.__setattr__",[self]):=by rfl
section
variable {prog:Program}{w:World}{A:Around}{E:Value->Shared->Prop}{s:Shared}{C N P NP e:Addr}{mN mP:Str->Option Value}{name:Str}
theorem Qgm (x:XCh s.heap C N P NP mN mP) {o:Obj} (g:s.heap.get? e=some o) (hc:o.cls=.ref C) {Q:Unit->Shared->Prop} (q:Q () s):wpAny (model prog w) A (Builtin.ObjectAttr.refuseIfOverridden (.ref e) (Str.ofString "__setattr__")) Q E s:=by
 unfold Builtin.ObjectAttr.refuseIfOverridden
 refine wpAny_bind (Qgh g hc (wpAny_bind (Qgc x.c ?_)))
 rw[List.forIn_cons]
 refine wpAny_bind (wpAny_bind (wpAny_pure ?_))
 dsimp only
 rw[List.forIn_cons]
 refine wpAny_bind (wpAny_pure ?_)
 dsimp only
 unfold vErr
 have o1:classOwn (.type "ValueError") (Str.ofString "__setattr__")=pure none:=by rfl
 have o2:classOwn (.type "Exception") (Str.ofString "__setattr__")=pure none:=by rfl
 have o3:classOwn (.type "BaseException") (Str.ofString "__setattr__")=pure none:=by rfl
 rw[List.forIn_cons]
 dsimp only
 rw[if_neg (by decide),if_neg (by decide),o1]
 refine wpAny_bind (wpAny_bind (wpAny_pure ?_))
 rw[if_neg (by decide)]
 refine wpAny_pure ?_
 dsimp only
 rw[List.forIn_cons]
 dsimp only
 rw[if_neg (by decide),if_neg (by decide),o2]
 refine wpAny_bind (wpAny_bind (wpAny_pure ?_))
 rw[if_neg (by decide)]
 refine wpAny_pure ?_
 dsimp only
 rw[List.forIn_cons]
 dsimp only
 rw[if_neg (by decide),if_neg (by decide),o3]
 refine wpAny_bind (wpAny_bind (wpAny_pure ?_))
 rw[if_neg (by decide)]
 refine wpAny_pure ?_
 dsimp only
 rw[List.forIn_cons]
 dsimp only
 rw[if_neg (by decide),if_neg (by decide),F.own_object_setattr]
 refine wpAny_bind (wpAny_bind (wpAny_pure ?_))
 rw[if_pos (show (some (Value.builtin "object.__setattr__")).isSome=true from rfl),if_neg (by nofun)]
 refine wpAny_pure (wpAny_pure ?_)
 exact wpAny_pure q
theorem Qgn {v : Value} {vs : Array Value} {sl : Array (Option Value)} {Q : Unit -> Shared -> Prop} (x : XCh s.heap C N P NP mN mP) (g : s.heap.get? e = some ⟨.ref C, none, .fields vs, sl⟩)
  (a1:mN (Str.ofString "__setattr__")=none) (a2:mP (Str.ofString "__setattr__")=none) (b1:mN name=none) (b2:mP name=none) (hy:typeLookup (.type "ValueError") name=pure none)
  (q:∀ h' dx tk,s.heap.get? dx=none->h'.get? e=some ⟨.ref C,some dx,.fields vs,sl⟩->(h'.Ns1 dx fun y=>if y=name then some v else none)->(∀ b o,b≠e->s.heap.get? b=some o->h'.get? b=some o)->Q () { s with heap:=h',toks:=tk }):
  wpAny (model prog w) A (setAttr (.ref e) name v) Q E s:=by
 unfold setAttr
 refine wpAny_bind (wpAny_mkText ?_)
 refine wpAny_bind ?_
 unfold callSpecial? specialOf
 refine wpAny_bind (wpAny_bind (Qgh (s:={ s with toks:=s.toks + 1 }) g rfl (Qgg (s:={ s with toks:=s.toks + 1 }) x a1 a2 Qgk ?_)))
 dsimp only
 refine wpAny_holding ?_
 rw[Qgl]
 refine wpAny_bind (wpAny_pure ?_)
 dsimp only
 refine wpAny_bind (wpAny_call (codeAny_call_builtin (by nofun) F.entry_object_setattr ?_))
 unfold checkBuiltinCall
 rw[F.bk_object_setattr,F.sp_object_setattr]
 dsimp only
 unfold isInstance
 refine wpAny_bind (wpAny_bind (Qgh (s:={ s with toks:=s.toks + 1 }) g rfl (Qgd (s:={ s with toks:=s.toks + 1 }) x.c ?_)))
 rw[if_neg (by simp[vErr])]
 have ao:=F.args_object_setattr_3 (.ref e) (.str name s.toks) v
 unfold argsOk at ao
 refine wpAny_of_eq ao ?_
 unfold Builtin.«object.__setattr__»
 rw[if_neg (show ¬ ((!({ pos:=[Value.ref e]++[Value.str name s.toks,v] }:Args).kw.isEmpty)=true) from Bool.false_ne_true)]
 dsimp only
 refine wpAny_bind (Qgm (s:={ s with toks:=s.toks + 1 }) x g rfl ?_)
 refine wpAny_bind (wpAny_pure ?_)
 refine wpAny_bind (Qgh (s:={ s with toks:=s.toks + 1 }) g rfl (wpAny_bind (Qgg (s:={ s with toks:=s.toks + 1 }) x b1 b2 hy (wpAny_bind (wpAny_pure ?_)))))
 dsimp only
 unfold Builtin.ObjectAttr.storeInOwnDict
 refine wpAny_bind (wpAny_pure ?_)
 rw[if_neg (show ¬ ((Value.ref C == Value.type "module")=true) from Bool.false_ne_true)]
 refine wpAny_bind ?_
 unfold Builtin.ObjectAttr.ownDictForStores instanceDict
 dsimp only
 obtain⟨⟨nm,q1,bs,sn,sub,ab,col,dd,k0,k1,k2,k3,k5,gC⟩,ns⟩:=id x.c
 refine wpAny_bind (wpAny_loadPart (s:={ s with toks:=s.toks + 1 }) g ?_)
 dsimp only
 unfold classData
 refine wpAny_bind (wpAny_bind (wpAny_load (s:={ s with toks:=s.toks + 1 }) gC (wpAny_pure ?_)))
 rw[if_neg (by simp)]
 rw[if_neg (by simp[typeHasDict])]
 have k0':∀ b o,s.heap.get? b=some o->(s.heap.push { cls:=.type "dict",data:=.dict #[] }).get? b=some o:=fun b o z=>Heap.get?_push_of_some _ z
 refine wpAny_bind (wpAny_alloc (wpAny_bind (wpAny_update (s:={ s with heap:=s.heap.push { cls:=.type "dict",data:=.dict #[] },toks:=s.toks + 1 }) (k0' _ _ g) ?_)))
 refine wpAny_pure ?_
 dsimp only
 have gd:(s.heap.push { cls:=.type "dict",data:=.dict #[] }).get? s.heap.objs.size=some { cls:=.type "dict",data:=.dict #[] }:=Heap.get?_push_size _ rfl
 have ne:s.heap.objs.size≠e:=fun z=>by
  have:=Heap.lt_size g
  rw[z]at this
  exact Nat.lt_irrefl _ this
 have ge:((s.heap.push { cls:=.type "dict",data:=.dict #[] }).update e fun o=>{ cls:=o.cls,dict:=some s.heap.objs.size,data:=o.data,slots:=o.slots }).get? e=some ⟨.ref C,some s.heap.objs.size,.fields vs,sl⟩:=Heap.get?_update_self _ (k0' _ _ g) rfl
 have sb:=Heap.SameBut.update (s.heap.push { cls:=.type "dict",data:=.dict #[] }) e fun o=>{ cls:=o.cls,dict:=some s.heap.objs.size,data:=o.data,slots:=o.slots }
 generalize (s.heap.push { cls:=.type "dict",data:=.dict #[] }).update e (fun o=>{ cls:=o.cls,dict:=some s.heap.objs.size,data:=o.data,slots:=o.slots })=h1 at *
 have n0:h1.Ns1 s.heap.objs.size fun _=>none:=by
  have z:h1.get? s.heap.objs.size=some { cls:=.type "dict",data:=.dict #[] }:=by rw[sb.2 _ ne];exact gd
  exact Heap.Ns1.of_empty ⟨_,_,_,z,rfl,by intro e he;simp at he,fun _=>rfl⟩
 unfold Builtin.ObjectAttr.storeInDict
 refine wpAny_bind (wpAny_pure ?_)
 refine wpAny_bind (wpAny_nsSet1 (s:={ s with heap:=h1,toks:=s.toks + 1 }) n0 fun h2 n2 sb2=>?_)
 obtain⟨o2,es2,ep2,g2,d2,hz⟩:=n2.count (Within.cons name v Within.nil)
 refine wpAny_bind (wpAny_lookBehind (s:={ s with heap:=h2,toks:=s.toks + 1 + 1 }) g2 (by rw[d2];exact pastItsLine_dict (Nat.le_trans hz (show 1<=sizeLine + 1 by decide))) ?_)
 refine wpAny_pure (wpAny_pure (wpAny_pure ?_))
 refine q h2 s.heap.objs.size _ (Qga (Nat.le_refl _)) (by rw[sb2.2 _ (Ne.symm ne)];exact ge) n2 fun b o hb z=>?_
 rw[sb2.2 b (fun y=>by rw[y,Qga (Nat.le_refl _)]at z;cases z),sb.2 b hb]
 exact k0' _ _ z
end
theorem Qgo:typeLookup (.type "ValueError") (Str.ofString "__getattribute__")=pure (some (.builtin "BaseException.__getattribute__")):=by rfl
theorem Qgp:typeLookup (.type "ValueError") (Str.ofString "__getattr__")=pure none:=by rfl
theorem Qgq (self:Value):bindSpecial (.builtin "BaseException.__getattribute__") self=pure (.builtin "BaseException.__getattribute__",[self]):=by rfl
theorem Qgr:entryFor table "BaseException.__getattribute__"=some Builtin.«object.__getattribute__»:=entryFor_alias (id':="object.__getattribute__") (by rfl) (by nofun) (by nofun) (by rfl)
theorem Qgs:plainId "BaseException.__getattribute__"=true:=by nofun
structure NoN (mN mP:Str->Option Value) (name:Str):Prop where
 c:mN name=none
 p:mP name=none
structure Plain (mN mP:Str->Option Value):Prop where
 ga:NoN mN mP (Str.ofString "__getattribute__")
 gh:NoN mN mP (Str.ofString "__getattr__")
 sa:NoN mN mP (Str.ofString "__setattr__")
 cl:NoN mN mP (Str.ofString "__class__")
 qt:∀ n∈quietNames,mP n=none
section
variable {prog:Program}{w:World}{A:Around}{E:Value->Shared->Prop}{s:Shared}{C N P NP e:Addr}{mN mP:Str->Option Value}{name:Str}
theorem Qgt {nameV : Value} {fill expr : Bool} {o : Obj} {Q : Value -> Shared -> Prop} (x : XCh s.heap C N P NP mN mP) (pl : Plain mN mP) (g : s.heap.get? e = some o) (hc : o.cls = .ref C)
  (h:wpAny (model prog w) A.in1 (Builtin.«object.__getattribute__» { pos:=[.ref e,nameV] }) (fun fin s'=>∃ v,fin=.done (.ret v)/\(∀ id,v≠.builtin id)/\Q v s') (fun _ _=>False) s):wpAny (model prog w) A (getAttrBy (.ref e) nameV fill expr) Q E s:=by
 unfold getAttrBy
 refine wpAny_holding (wpAny_bind (Qgh g hc (wpAny_bind (Qgg x pl.ga.c pl.ga.p Qgo ?_))))
 dsimp only
 have nq:¬ ((onTheHeap (Value.ref C) && (Value.builtin "BaseException.__getattribute__" == Value.builtin "object.__getattribute__"))=true):=(show ¬ ((true && (Value.builtin "BaseException.__getattribute__" == Value.builtin "object.__getattribute__"))=true) by decide)
 rw[if_neg nq]
 unfold getAttrByItsOwn hookBefore
 rw[if_pos (show onTheHeap (.ref C)=true from rfl)]
 refine wpAny_bind (Qgg x pl.gh.c pl.gh.p Qgp ?_)
 refine wpAny_bind (wpAny_attempt (wpAny_holding ?_))
 unfold callGetattribute
 rw[if_neg (by cases expr<;>exact Bool.false_ne_true)]
 unfold boundAndCalled
 rw[Qgq]
 refine wpAny_bind (wpAny_pure ?_)
 dsimp only
 obtain⟨⟨nm,q1,bs,sn,sub,ab,col,dd,k0,k1,k2,k3,k5,gC⟩,ns⟩:=id x.c
 have tail:OwnTailQ s.heap vErr (.ref P::vErr):=by
  obtain⟨⟨nm,q1,bs,sn,sub,ab,col,dd,k0,k1,k2,k3,k5,gP⟩,nsP⟩:=id x.p
  exact .own gP nsP pl.qt .base
 refine wpAny_call (codeAny_call_builtin Qgs Qgr (wpAny_check_ga_own (h:=s.heap) F.attrBase_ValueError gC tail g hc ?_))
 refine wpAny_mono h (fun fin s' z=>?_) fun _ _ z=>z.elim
 obtain⟨v,e1,nb,hq⟩:=z
 subst e1
 dsimp only
 unfold handedOut
 cases v with
 | builtin id=>exact absurd rfl (nb id)
 | _=>exact wpAny_pure hq
theorem Qgu {v : Value} {dx : Addr} {vs : Array Value} {sl : Array (Option Value)} {mA : Str -> Option Value} {expr : Bool} {Q : Value -> Shared -> Prop} (x : XCh s.heap C N P NP mN mP) (pl : Plain mN mP) (g : s.heap.get? e = some ⟨.ref C, some dx, .fields vs, sl⟩) (hn : s.heap.Ns dx mA) (hv : mA name = some v) (nb : ∀ id, v ≠ .builtin id)
  (no:NoN mN mP name) (hy:typeLookup (.type "ValueError") name=pure none) (q:∀ tk,Q v { s with toks:=tk }):wpAny (model prog w) A (getAttr (.ref e) name expr) Q E s:=by
 unfold getAttr
 refine wpAny_bind (wpAny_mkText (Qgt (s:={ s with toks:=s.toks + 1 }) x pl g rfl ?_))
 unfold Builtin.«object.__getattribute__»
 refine wpAny_bind ?_
 show wpAny _ _ (pure (Value.ref e,[Value.str name s.toks])) _ _ _
 refine wpAny_pure ?_
 dsimp only
 refine wpAny_bind (wpAny_pure (wpAny_bind (Qgh (s:={ s with toks:=s.toks + 1 }) g rfl (wpAny_bind ?_))))
 unfold Builtin.ObjectAttr.find
 refine wpAny_bind (Qgg (s:={ s with toks:=s.toks + 1 }) x no.c no.p hy (wpAny_bind (wpAny_pure (wpAny_bind (wpAny_pure ?_)))))
 dsimp only
 unfold Builtin.ObjectAttr.ownThenClass Builtin.ObjectAttr.inOwnDict
 dsimp only
 unfold Builtin.ObjectAttr.ownDict
 obtain⟨⟨nm,q1,bs,sn,sub,ab,col,dd,k0,k1,k2,k3,k5,gC⟩,ns⟩:=id x.c
 unfold loadHead
 refine wpAny_bind (wpAny_bind (wpAny_bind (wpAny_loadPart (s:={ s with toks:=s.toks + 1 }) g ?_)))
 dsimp only
 unfold instanceDict
 refine wpAny_bind (wpAny_loadPart (s:={ s with toks:=s.toks + 1 }) g ?_)
 dsimp only
 unfold classData
 refine wpAny_bind (wpAny_bind (wpAny_load (s:={ s with toks:=s.toks + 1 }) gC (wpAny_pure ?_)))
 rw[if_neg (by simp)]
 refine wpAny_pure ?_
 unfold Builtin.ObjectAttr.inDict
 dsimp only
 refine wpAny_nsGet (s:={ s with toks:=s.toks + 1 }) hn ?_
 rw[hv]
 dsimp only
 refine wpAny_bind (wpAny_rule (wpAny_pure ?_))
 exact wpAny_pure ⟨v,rfl,nb,q _⟩
theorem Qgv:typeLookup (.type "ValueError") (Str.ofString "__class__")=pure (some (.builtin "object.__class__")):=by rfl
theorem Qgw:typeLookup (.type "getset_descriptor") (Str.ofString "__get__")=pure (some (.builtin "getset_descriptor.__get__")):=by rfl
theorem Qgx:entryFor table "getset_descriptor.__get__"=some Builtin.«getset_descriptor.__get__»:=entryFor_of_tree (by rfl)
theorem Qgy:Slot "getset_descriptor" (Str.ofString "__get__") "getset_descriptor.__get__":=Slot.of (owner:="getset_descriptor") (n:="__get__") Qgw (by nofun) (by nofun) (by nofun) (Or.inl (by nofun)) (by rw[isSubtype_type];rfl) (by nofun)
theorem Qgz (a b c:Value):argsOk "getset_descriptor.__get__" { pos:=[a,b,c] }:=by rfl
theorem QgA:∃ n,Builtin.Getset_descriptor.descrNameAndClass (.builtin "object.__class__")=pure (n,.type "object"):=⟨_,rfl⟩
theorem QgB:typeLookup (.type "getset_descriptor") (Str.ofString "__set__")=pure (some (.builtin "getset_descriptor.__set__")):=by rfl
theorem QgC {o:Obj}{Q:Option Value->Shared->Prop} (x:XCh s.heap C N P NP mN mP) (pl:Plain mN mP) (g:s.heap.get? e=some o) (hc:o.cls=.ref C) (q:∀ tk,Q (some (.ref C)) { s with toks:=tk }):wpAny (model prog w) A (getAttr? (.ref e) (Str.ofString "__class__")) Q E s:=by
 unfold getAttr? getAttrBy?
 refine wpAny_bind (wpAny_mkText (wpAny_bind (wpAny_attempt (Qgt (s:={ s with toks:=s.toks + 1 }) x pl g hc ?_))))
 unfold Builtin.«object.__getattribute__»
 refine wpAny_bind ?_
 show wpAny _ _ (pure (Value.ref e,[Value.str (Str.ofString "__class__") s.toks])) _ _ _
 refine wpAny_pure ?_
 dsimp only
 refine wpAny_bind (wpAny_pure (wpAny_bind (Qgh (s:={ s with toks:=s.toks + 1 }) g hc (wpAny_bind ?_))))
 unfold Builtin.ObjectAttr.find
 refine wpAny_bind (Qgg (s:={ s with toks:=s.toks + 1 }) x pl.cl.c pl.cl.p Qgv (wpAny_bind ?_))
 unfold Builtin.ObjectAttr.getOf
 dsimp only
 unfold specialOf
 rw[F.typeOf_object_class]
 refine wpAny_bind (wpAny_pure ?_)
 rw[Qgw]
 refine wpAny_pure (wpAny_bind ?_)
 unfold Builtin.ObjectAttr.dataDescriptor?
 dsimp only
 refine wpAny_bind ?_
 unfold Builtin.ObjectAttr.takesStores specialOf
 rw[F.typeOf_object_class]
 refine wpAny_bind (wpAny_bind (wpAny_pure ?_))
 rw[QgB]
 refine wpAny_pure ?_
 rw[if_pos (show (some (Value.builtin "getset_descriptor.__set__")).isSome=true from rfl)]
 refine wpAny_pure ?_
 rw[if_pos rfl]
 refine wpAny_pure ?_
 dsimp only
 refine wpAny_bind (wpAny_rule (wpAny_pure ?_))
 dsimp only
 unfold Builtin.ObjectAttr.bindTo
 dsimp only
 refine wpAny_bind (wpAny_holding (wpAny_call (codeAny_call_builtin Qgy.plain Qgx (Qgy.check _ _ _ _ _ _ _ _ F.typeOf_object_class (Qgz _ _ _) ?_))))
 unfold Builtin.«getset_descriptor.__get__» Builtin.Getset_descriptor.descrGet
 refine wpAny_bind ?_
 show wpAny _ _ (pure (Value.builtin "object.__class__",some (Value.ref e),some (Value.ref C))) _ _ _
 refine wpAny_pure ?_
 dsimp only
 unfold Builtin.Getset_descriptor.descrGetter
 dsimp only
 refine wpAny_bind ?_
 unfold Builtin.Getset_descriptor.descrCheckInstance
 obtain⟨n,hn⟩:=QgA
 rw[hn]
 refine wpAny_bind (wpAny_pure ?_)
 dsimp only
 unfold isInstance
 refine wpAny_bind (wpAny_bind (Qgh (s:={ s with toks:=s.toks + 1 }) g hc (Qgd (s:={ s with toks:=s.toks + 1 }) x.c ?_)))
 rw[if_neg (by simp[vErr])]
 refine wpAny_pure (wpAny_pure ⟨Code.quiet_builtin _ (by nofun),codeAny_builtin F.entry_object_class ?_⟩)
 unfold Builtin.«object.__class__»
 dsimp only
 unfold shownTypeOf
 refine wpAny_bind (wpAny_bind (Qgh (s:={ s with toks:=s.toks + 1 }) g hc ?_))
 rw[if_neg (show ¬ ((Value.ref C == Value.type "builtin_function_or_method")=true) from Bool.false_ne_true)]
 refine wpAny_pure (wpAny_pure (wpAny_pure ⟨_,rfl,And.intro (fun id z=>by cases z) (wpAny_pure (q _))⟩))
theorem QgD {o : Obj} {T : Value} {Q : Value -> Shared -> Prop} (x : XCh s.heap C N P NP mN mP) (pl : Plain mN mP) (g : s.heap.get? e = some o) (hc : o.cls = .ref C)
  (ht:∀ (A:Around) (E:Value->Shared->Prop) (R:Value->Shared->Prop) tk,R (.type "type") { s with toks:=tk }->wpAny (model prog w) A (typeOf T) R E { s with toks:=tk })
  (hy:∀ (A:Around) (E:Value->Shared->Prop) (R:Bool->Shared->Prop) tk,R true { s with toks:=tk }->wpAny (model prog w) A (isType T) R E { s with toks:=tk })
  (q:∀ tk,Q (.bool ((Value.ref C::Value.ref P::vErr).contains T)) { s with toks:=tk }):wpAny (model prog w) A (call (.builtin "isinstance") [.ref e,T]) Q E s:=by
 refine call_isinstance_of ?_ (fun z=>nomatch z)
 unfold Builtin.«isinstance.nested»
 dsimp only[rawInt]
 refine wpAny_bind (Qgh g hc ?_)
 by_cases h1:(Value.ref C == T)=true
 ·rw[if_pos h1]
  refine wpAny_bind (wpAny_rule (wpAny_pure ?_))
  have e1:(Value.ref C::Value.ref P::vErr).contains T=true:=by
   rw[List.contains_cons]
   have:(T == Value.ref C)=true:=by
    rw[beq_iff_eq]at h1 ⊢;exact h1.symm
   rw[this];rfl
  have:=q s.toks
  rw[e1]at this
  exact this
 ·rw[if_neg h1]
  refine wpAny_bind (ht _ _ _ s.toks ?_)
  rw[if_pos (by decide)]
  refine wpAny_bind ?_
  show wpAny _ _ (isType T >>= _) _ _ _
  refine wpAny_bind (hy _ _ _ s.toks ?_)
  rw[if_neg (by decide)]
  unfold isInstance
  refine wpAny_bind (wpAny_bind (Qgh g hc (Qgd x.c ?_)))
  by_cases h2:(Value.ref C::Value.ref P::vErr).contains T=true
  ·rw[if_pos h2]
   refine wpAny_pure (wpAny_pure ?_)
   have:=q s.toks
   rw[h2]at this
   exact this
  ·rw[if_neg h2]
   refine wpAny_bind (QgC x pl g hc fun tk=>?_)
   dsimp only
   obtain⟨⟨nm,q1,bs,sn,sub,ab,col,dd,k0,k1,k2,k3,k5,gC⟩,ns⟩:=id x.c
   unfold isType
   dsimp only
   unfold loadHead
   refine wpAny_bind (wpAny_bind (wpAny_loadPart (s:={ s with toks:=tk }) gC (wpAny_pure ?_)))
   rw[if_neg (by simp)]
   refine wpAny_bind (wpAny_rule (Qgd (s:={ s with toks:=tk }) x.c ?_))
   have e2:(Value.ref C::Value.ref P::vErr).contains T=false:=by simpa using h2
   refine wpAny_pure ?_
   exact q tk
end
open PySem.W L2
abbrev FF (o:Obj):Prop:=∃ vs,o.data=.fields vs/\vs[1]?=some Value.none
def rawX (e C:Addr) (h:Heap):Prop:=∃ vs sl,h.get? e=some ⟨.ref C,none,.fields vs,sl⟩/\vs[1]?=some Value.none
def StrNs (K:Frag) (N:Addr):Prop:=∃ c d es ep sl,K.lookup N=some ⟨c,d,.dict es ep,sl⟩/\StrKeys es
structure XF (K:Frag) (x f:Str) (C N P NP:Addr):Prop where
 gl:nsIn K mainGlobals x=some (some (.ref C))
 ob:∃ q bs sn sub ab col dd k0 k1 k2 k3 k5,K.lookup C=some (excClassObj x q C N bs (.ref P::vErr) true sn sub ab col dd k0 k1 k2 k3 k5 "ValueError.__new__")
 obP:∃ q bs sn sub ab col dd k0 k1 k2 k3 k5,K.lookup P=some (excClassObj "PactError" q P NP bs vErr true sn sub ab col dd k0 k1 k2 k3 k5 "ValueError.__new__")
 glP:nsIn K mainGlobals "PactError"=some (some (.ref P))
 sN:StrNs K N
 sP:StrNs K NP
 nn:∀ n∈([Str.ofString "__getattribute__",Str.ofString "__getattr__",Str.ofString "__setattr__",Str.ofString "__class__",f]:List Str),nsIn K N n=some none
 np:∀ n∈([Str.ofString "__getattribute__",Str.ofString "__getattr__",Str.ofString "__setattr__",Str.ofString "__class__",f,Str.ofString "__init__",Str.ofString "args"]:List Str),nsIn K NP n=some none
 kp:keepIn K (.ref C)=true
section
variable {K:Frag}{x f:Str}{C N P NP:Addr}{h:Heap}
theorem StrNs.ns (z:StrNs K N) (k:K.In h):∃ m,h.Ns N m:=by
 obtain⟨c,d,es,ep,sl,l,sk⟩:=z
 exact⟨nsFind es,_,es,ep,k _ _ l,rfl,sk,fun _=>rfl⟩
theorem QgE {m:Str->Option Value}{n:Str}{v:Value} (k:K.In h) (ns:h.Ns N m) (e:nsIn K N n=some (some v)):m n=some v:=by
 obtain⟨o,es,ep,g,d,sk,hm⟩:=ns
 unfold nsIn at e
 cases hl:List.lookup N K with
 | none=>rw[hl]at e;cases e
 | some o'=>
  have g':=k _ _ hl
  rw[g]at g'
  cases g'
  rw[hl]at e
  obtain⟨oc,od,oo,os⟩:=o
  cases d
  dsimp only at e
  cases hf:List.find? (fun x=>x.key.isStr n) es.toList with
  | none=>
   rw[hf]at e
   dsimp only at e
   split at e<;>cases e
  | some en=>
   rw[hf]at e
   cases e
   rw[<- hm n]
   unfold nsFind findBy
   rw[<- Array.find?_toList]
   show Option.map (fun x=>x.val) (List.find? (fun x=>x.key.isStr n) es.toList)=_
   rw[hf];rfl
theorem XF.ch (F:XF K x f C N P NP) (k:K.In h):∃ mN mP,XCh h C N P NP mN mP/\Plain mN mP/\NoN mN mP f/\h.Ns N mN/\mP (Str.ofString "__init__")=none:=by
 obtain⟨mN,hN⟩:=F.sN.ns k
 obtain⟨mP,hP⟩:=F.sP.ns k
 obtain⟨q1,bs,sn,sub,ab,col,dd,k0,k1,k2,k3,k5,l⟩:=F.ob
 obtain⟨q1',bs',sn',sub',ab',col',dd',k0',k1',k2',k3',k5',l'⟩:=F.obP
 have a:∀ n∈([Str.ofString "__getattribute__",Str.ofString "__getattr__",Str.ofString "__setattr__",Str.ofString "__class__",f]:List Str),mN n=none:=fun n hn=>ns_none_of k hN (F.nn n hn)
 have b:∀ n∈([Str.ofString "__getattribute__",Str.ofString "__getattr__",Str.ofString "__setattr__",Str.ofString "__class__",f,Str.ofString "__init__",Str.ofString "args"]:List Str),mP n=none:=fun n hn=>ns_none_of k hP (F.np n hn)
 refine⟨mN,mP,⟨⟨⟨x,q1,bs,sn,sub,ab,col,dd,k0,k1,k2,k3,k5,k _ _ l⟩,hN⟩,⟨⟨_,q1',bs',sn',sub',ab',col',dd',k0',k1',k2',k3',k5',k _ _ l'⟩,hP⟩⟩,
  ⟨⟨a _ (by simp),b _ (by simp)⟩,⟨a _ (by simp),b _ (by simp)⟩,⟨a _ (by simp),b _ (by simp)⟩,⟨a _ (by simp),b _ (by simp)⟩,fun n hn=>b n ?_⟩,⟨a _ (by simp),b _ (by simp)⟩,hN,b _ (by simp)⟩
 simp only[quietNames,List.mem_cons,List.not_mem_nil,or_false]at hn
 rcases hn with z | z | z | z<;>(rw[z];simp)
end
section
variable {X:Cx}{x f:Str}{C N P NP:Addr}{pos pos':Pos}{o value:Expr}{ta tv:TE}
def madeX (H:Hp) (e dx:Addr) (f:Str) (v:V) (ob:Obj):Hp:=upd (upd H dx (.xd [(f,v)])) e (.frz ob (.own e))
theorem QgF (F : XF X.K x f C N P NP) (hy : typeLookup (.type "ValueError") f = pure none) (ha : PE X o ta) (hv : PE X value tv) (hs : swapsWith value (some (.Attribute o f pos')) pos.line X.env = pure false := by rfl) :
  PS X (.Assign [.Attribute o f pos'] value pos) (fun D σ H=>tv σ H fun v H1=>ta σ H1 fun y H2=>∃ e,y=.ref e/\H2 e=some (.ext (rawX e C))/\∀ dx ob,H2 dx=none->dx≠e->ob.cls=.ref C->ob.dict=some dx->FF ob->D.nx σ (madeX H2 e dx f v ob)):=by
 intro pins s σ H D I h
 refine plainObj_wpAny_Assign_Attribute (thn (hv pins s σ H _ I h) fun u s1 ⟨y,H1,I1,ry,q⟩=>thn (ha pins s1 σ H1 _ I1 q) fun ov s2 ⟨z,H2,I2,rx,e,ex,ee,q2⟩=>?_) hs
 subst ex
 obtain rfl:ov=Value.ref e:=rx
 obtain⟨mN,mP,ch,pl,no,_,_⟩:=F.ch I2.kIn
 obtain⟨⟨vs,sl,g,gv1⟩,_,_⟩:=(show ObjOk X.prog X.w H2 s2.heap e (.ext (rawX e C)) from I2.hok e _ ee)
 refine Qgn ch g pl.sa.c pl.sa.p no.c no.p hy fun h' dx tk hdx ge ns kp=>?_
 have hdH:H2 dx=none:=by
  cases w:H2 dx with
  | none=>rfl
  | some ob=>
   obtain⟨ob',e'⟩:=QfM (I2.hok dx ob w)
   rw[hdx]at e';cases e'
 have hde:dx≠e:=fun w=>by rw[w,g]at hdx;cases hdx
 refine⟨σ,madeX H2 e dx f y ⟨.ref C,some dx,.fields vs,sl⟩,?_,q2 dx _ hdH hde rfl rfl ⟨vs,rfl,gv1⟩⟩
 have ne:∀ b,H2 b=none->b≠e:=fun b w z=>by rw[z,ee]at w;cases w
 have nd:∀ {b o},s2.heap.get? b=some o->b≠dx:=fun w z=>by rw[z,hdx]at w;cases w
 have upE:∀ b,b≠e->b≠dx->madeX H2 e dx f y ⟨.ref C,some dx,.fields vs,sl⟩ b=H2 b:=fun b h1 h2=>by unfold madeX;rw[Qaj h1,Qaj h2]
 refine I2.step (g':=s2.gens) (d':=s2.drawn) (t':=tk) (ch:=[]) (fun b hb=>by cases hb) (fun b ob _ _ _ e1 n1=>kp b ob (ne b n1) e1) (fun b ob _ _ _ e1 n1=>⟨ob.slots,kp b ob (ne b n1) e1⟩)
  (fun b ob _ e1 n1=>by rw[upE b (ne b n1) (nd e1)];exact n1) (fun b ob _ e1=>by
   by_cases w:b=e
   ·exact⟨_,by rw[w];exact ge⟩
   ·exact⟨ob,kp b ob w e1⟩)
  (fun b ys e1=>by rw[upE b (fun w=>by rw[w,ee]at e1;cases e1) (Qal e1 hdH)];exact e1) (fun b ob ys e1=>by rw[upE b (fun w=>by rw[w,ee]at e1;cases e1) (Qal e1 hdH)];exact e1)
  (fun b ps e1=>⟨#[],by rw[upE b (fun w=>by rw[w,ee]at e1;cases e1) (Qal e1 hdH),e1];simp⟩)
  (fun m hm=>by
   obtain⟨ob,es,ep,g1,r1⟩:=hm
   exact⟨ob,es,ep,kp _ _ (fun w=>by have:=I2.free;rw[w,ee]at this;cases this) g1,r1⟩) ?_ I2.bare
 intro b ob e1
 by_cases w:b=e
 ·subst w
  unfold madeX at e1
  rw[Qai]at e1;cases e1
  exact⟨ge,_,ge⟩
 ·by_cases w2:b=dx
  ·subst w2
   unfold madeX at e1
   rw[Qaj w,Qai]at e1;cases e1
   refine⟨_,ns,fun g=>?_⟩
   show RelO (([(f,y)]:List (Str × V)).lookup g) (if g=f then some u else none)
   by_cases q:g=f
   ·rw[if_pos q,q,List.lookup_cons_self];exact ry
   ·rw[if_neg q,List.lookup_cons,show (g == f)=false from by simpa using q];exact trivial
  ·rw[upE b w w2]at e1
   refine (I2.hok b ob e1).stay (fun c u' hb e2=>kp c u' (fun zz=>?_) e2) (fun c e2=>by rw[upE c (fun zz=>by rw[zz,ee]at e2;cases e2) (Qal e2 hdH)];exact e2) (fun c ys e2=>by rw[upE c (fun zz=>by rw[zz,ee]at e2;cases e2) (Qal e2 hdH)];exact e2)
   rcases hb with y' | y'
   ·exact w (y'.symm.trans zz)
   ·rw[zz,ee]at y';cases y'
def spI (C:Addr) (f:Str):Sp:=fun vs H Q _=>∃ e v,vs=[.ref e,v]/\H e=some (.ext (rawX e C))/\∀ dx ob,H dx=none->dx≠e->ob.cls=.ref C->ob.dict=some dx->FF ob->Q .non (madeX H e dx f v ob)
theorem QgG {PG : Program} {w : World} {K : Frag} {mg : Str -> Option Value} {base : Heap} {qual : Str} {sd : Stmt} {fI : Addr} {fd : FuncData} {p1 p2 p3 p4 : Pos} {n1 n2 : Str} (F : XF K x f C N P NP) (hy : typeLookup (.type "ValueError") f = pure none)
  (FI:L2.Fun K "__init__" qual sd fI fd) (S:FnScope [n1,n2] [n1,n2] (defScope sd)) (hb:defBody sd=[.Assign [.Attribute (.Name n1 p1) f p2] (.Name n2 p3) p4])
  (v1:Vis (defScope sd) n1) (v2:Vis (defScope sd) n2) (d1:(n1 == ("__debug__":Str))=false) (d2:(n2 == ("__debug__":Str))=false) (c1:(n1 == ("__classdict__":Str))=false) (c2:(n2 == ("__classdict__":Str))=false):FnOk PG w K mg base CX0 1 fI fd [n1,n2] (spI C f):=by
 refine FI.ok (k:=0) S (fun vs H Q E h=>?_) (fun cdv A outer s H vs Q E hr h=>?_)
 ·obtain⟨e,v,rfl,_⟩:=h;rfl
 ·obtain⟨e,v,rfl,he,q⟩:=h
  rw[hb]
  refine⟨_,QaK (QgF (X:=(cxOf CX0 PG w K mg base [n1,n2] qual (defScope sd) fI cdv A outer s H E).nox) F hy (Qas (i:=0) rfl v1 d1 c1) (Qas (i:=1) rfl v2 d2 c2)) QaJ,?_⟩
  exact⟨v,rfl,.ref e,rfl,e,rfl,he,fun dx ob h1 h2 h3 h4 h5=>q dx ob h1 h2 h3 h4 h5⟩
theorem QgH {pins : List (Addr × Obj)} {σ : L2.St} {H : Hp} {s : Shared} {Q : VK} {u : Value} {v : V} {fI : Addr} {fd : FuncData} {ps : List Str} (F : XF X.K x f C N P NP) (hi : nsIn X.K N (Str.ofString "__init__") = some (some (.ref fI))) (hfn : ∃ oI, X.K.lookup fI = some oI /\ oI.cls = .type "function")
  (G:FnOk X.prog X.w X.K X.mg X.base CX0 1 fI fd ps (spI C f)) (hr:Room 2 X.A) (hb:Binds X.K fd ps []) (I:Inv X pins σ H s) (r:RelV v u)
  (h:∀ e dx ob,H e=none->(X.ex=[]->X.s₀.heap.get? e=none)->H dx=none->dx≠e->ob.cls=.ref C->ob.dict=some dx->FF ob->Q (.ref e) (madeX (upd H e (.ext (rawX e C))) e dx f v ob)):
  wpAny (model X.prog X.w) X.A (call (.ref C) [u]) (EP X pins σ Q) X.xe s:=by
 obtain⟨mN,mP,ch,pl,no,hN,hpi⟩:=F.ch I.kIn
 obtain⟨oI,lI,cI⟩:=hfn
 refine Qgj ch.c (Qgi ch hpi (QgE I.kIn hN hi) (I.kIn _ _ lI) cI (fun h' e hz md=>?_) (show 1<=sizeLine by decide))
 obtain⟨t,ge,_,_⟩:=md.there
 have I2:Inv X pins σ (upd H e (.ext (rawX e C))) { s with heap:=h' }:=I.laid (t':=s.toks) md.keeps hz (show ObjOk X.prog X.w _ h' e (.ext (rawX e C)) from ⟨⟨_,_,ge,rfl⟩,⟨_,ge⟩,fun h1 h2 y1 k=>by
  obtain⟨vs,sl,g1,g2⟩:=y1
  exact⟨vs,sl,k _ g1,g2⟩⟩)
 have he:H e=none:=I.hok.fresh hz
 have hq:spI C f [.ref e,v] (upd H e (.ext (rawX e C))) (fun z H2=>z=.non/\Q (.ref e) H2) E0:=⟨e,v,rfl,Qai,fun dx ob h1 h2 h3 h4 h5=>⟨rfl,h e dx ob he (fun _=>Qga (Nat.le_trans I.sz hz)) (by rw[Qaj h2]at h1;exact h1) h2 h3 h4 h5⟩⟩
 have hl:([Value.ref e,u]++[]).length=ps.length:=by
  have:=G.len _ _ _ _ hq
  simpa using this
 refine wpAny_call (codeAny_mono (G.run _ X.stack _ _ ⟨[.ref e,u],[]⟩ ([.ref e,u]++[]) [.ref e,v] _ E0 (hr.make C [u] []) (I2.env0.make C [u] []) (hb _ [.ref e,u] I2.kIn hl) (.cons rfl (.cons r .nil)) hq) fun r s' hq'=>?_)
 cases r with
 | error e=>exact hq'.elim
 | ok fl=>
  cases fl with
  | ret u2=>
   obtain⟨v2,H',I3,rv,ev,q3⟩:=I2.after hq'
   subst ev
   exact⟨rv,_,rfl,⟨V.ref e,H',I3,rfl,q3⟩⟩
  | next=>exact False.elim hq'
  | brk=>exact False.elim hq'
  | cont=>exact False.elim hq'
theorem QgI {fI : Addr} {fd : FuncData} {ps : List Str} {e : Expr} {t : TA} {p : Pos} (F : XF X.K x f C N P NP) (hi : nsIn X.K N (Str.ofString "__init__") = some (some (.ref fI))) (hfn : ∃ oI, X.K.lookup fI = some oI /\ oI.cls = .type "function")
  (G:FnOk X.prog X.w X.K X.mg X.base CX0 1 fI fd ps (spI C f)) (hr:Room 2 X.A) (hb:Binds X.K fd ps []) (hg:Gl X x) (hm:X.mg x=some (.ref C)) (ha:PA X [e] t) (hdb:(x == ("__debug__":Str))=false:=by decide)
  (he:starEach [e] X.env=[(false,eval e X.env)]:=by rfl):PE X (.Call (.Name x p) [e] [] pos) (fun σ H Q=>t σ H fun vs H1=>∃ v,vs=[v]/\∀ e dx ob,H1 e=none->(X.ex=[]->X.s₀.heap.get? e=none)->H1 dx=none->dx≠e->ob.cls=.ref C->ob.dict=some dx->FF ob->Q (.ref e) (madeX (upd H1 e (.ext (rawX e C))) e dx f v ob)):=by
 intro pins s σ H Q I h
 refine wpAny_Call_Name_kw (Qax I hg hm ?_ hdb)
 refine PySem.W.callWith_K (h₀:=X.base) I.ok.mod.kin F.kp (thn (ha pos pins s σ H _ I h) fun us s1 ⟨vs,H1,I1,r,v,ev,q⟩=>⟨I1.kIn,?_⟩) he rfl
 subst ev
 obtain⟨u,rfl,ru⟩:=Qbw r
 exact QgH F hi hfn G hr hb I1 ru q
theorem QgJ {e : Expr} {te : TE} (hy : typeLookup (.type "ValueError") f = pure none) (he : PE X e te) (hb : attributeBase e f X.env (eval e X.env) = eval e X.env := by rfl) :
  PE X (.Attribute e f pos) (fun σ H Q=>te σ H fun y H1=>∃ a dx v ob x C N P NP,y=.ref a/\XF X.K x f C N P NP/\H1 a=some (.frz ob (.own a))/\ob.cls=.ref C/\ob.dict=some dx/\(∃ vs,ob.data=.fields vs)/\H1 dx=some (.xd [(f,v)])/\Q v H1):=by
 intro pins s σ H Q I h
 refine QbC hb (thn (he pins s σ H _ I h) fun u s1 z=>?_)
 obtain⟨y,H1,I1,rx,a,dx,v,ob,x,C,N,P,NP,ex,F,ea,oc,od,⟨vs,ov⟩,ed,q⟩:=z
 subst ex
 obtain rfl:u=Value.ref a:=rx
 obtain⟨mN,mP,ch,pl,no,hN,hpi⟩:=F.ch I1.kIn
 obtain⟨ga,_⟩:=(show ObjOk X.prog X.w H1 s1.heap a (.frz ob (.own a)) from I1.hok a _ ea)
 obtain⟨mA,n1,rl⟩:=(show ObjOk X.prog X.w H1 s1.heap dx (.xd [(f,v)]) from I1.hok dx _ ed)
 have r1:=rl f
 rw[List.lookup_cons_self]at r1
 cases hm:mA f with
 | none=>rw[hm]at r1;exact r1.elim
 | some u1=>
  rw[hm]at r1
  have r2:RelV v u1:=r1
  obtain⟨c0,d0,dd0,sl0⟩:=ob
  cases oc
  cases od
  cases ov
  refine Qgu ch pl ga n1.ns hm (fun id z=>?_) no hy fun tk=>⟨v,H1,I1.tok _,r2,q⟩
  subst z
  cases v<;>first | (obtain⟨_,z⟩:=r2;cases z) | cases r2
def isOf (C P:Addr) (T:V):Bool:=match T with
 | .ref D=>decide (D=C) || decide (D=P)
 | .ty n=>["ValueError","Exception","BaseException","object"].contains n
 | _=>false
theorem QgK:CallR X (.builtin "isinstance") (fun xs H Q=>∃ a ob x f C N P NP T,xs=[.ref a,T]/\XF X.K x f C N P NP/\H a=some (.frz ob (.own a))/\ob.cls=.ref C/\(T=.ty "ValueError"\/∃ D nm q bs bm N sn sub ab col dd k0 k1 k2 k3 k5,T=.ref D/\X.K.lookup D=some (excClassObj nm q D N bs bm true sn sub ab col dd k0 k1 k2 k3 k5 "ValueError.__new__"))/\Q (.bl (isOf C P T)) H):=by
 intro pins s σ H xs us Q I r h
 obtain⟨a,ob,x,f,C,N,P,NP,T,rfl,F,ea,oc,hT,q⟩:=h
 obtain⟨mN,mP,ch,pl,no,hN,hpi⟩:=F.ch I.kIn
 obtain⟨ga,_⟩:=(show ObjOk X.prog X.w H s.heap a (.frz ob (.own a)) from I.hok a _ ea)
 cases r with
 | cons r1 r2=>
 cases r1
 cases r2 with
 | cons r3 r4=>
 cases r4
 rcases hT with hT | ⟨D,nm,q1,bs,bm,N',sn,sub,ab,col,dd,k0,k1,k2,k3,k5,hT,lD⟩
 ·subst hT
  cases r3
  refine QgD ch pl ga oc (fun A E R tk hR=>wpAny_pure hR) (fun A E R tk hR=>wpAny_pure hR) fun tk=>?_
  have e1:(Value.ref C::Value.ref P::vErr).contains (Value.type "ValueError")=isOf C P (.ty "ValueError"):=by
   show _=true
   simp[vErr]
  rw[e1]
  exact⟨.bl _,H,I.tok _,rfl,q⟩
 ·subst hT
  cases r3
  have gD:=I.kIn _ _ lD
  refine QgD ch pl ga oc (fun A E R tk hR=>wpAny_typeOf_ref (s:={ s with toks:=tk }) gD hR) (fun A E R tk hR=>?_) fun tk=>?_
  ·unfold isType
   dsimp only
   unfold loadHead
   exact wpAny_bind (wpAny_loadPart (s:={ s with toks:=tk }) gD (wpAny_pure hR))
  ·have e1 : (Value.ref C :: Value.ref P :: vErr).contains (Value.ref D) = isOf C P (.ref D) := by
     show _=(decide (D=C) || decide (D=P))
     rw[List.contains_cons,List.contains_cons]
     have z:vErr.contains (Value.ref D)=false:=rfl
     rw[z,Bool.or_false]
     have z2:∀ a b:Addr,(Value.ref a == Value.ref b)=decide (a=b):=fun a b=>by
      by_cases w:a=b
      ·subst w;rw[decide_eq_true rfl];exact beq_self_eq_true _
      ·rw[decide_eq_false w];exact beq_eq_false_iff_ne.mpr (fun z=>w (by injection z))
     rw[z2,z2]
   rw[e1]
   exact⟨.bl _,H,I.tok _,rfl,q⟩
end
end MM
namespace MM
open PySem PySem.Spec PyProof.Rows L2
structure NameOk (x:Str):Prop where
 d:(x == ("__debug__":Str))=false
 c:(x == ("__classdict__":Str))=false
 n:x≠"__name__"
theorem nok {x:Str} (h:((x == ("__debug__":Str)) || (x == ("__classdict__":Str)) || decide (x=("__name__":Str)))=false):NameOk x:=by
 rw[Bool.or_eq_false_iff,Bool.or_eq_false_iff]at h
 exact⟨h.1.1,h.1.2,of_decide_eq_false h.2⟩
structure Sc (X:Cx) (sc:Scope):Prop where
 vis:∀ x k,sc.names.lookup x=some k->(k=.local\/k=.cell\/k=.free)->Vis X.env.scope x
 cel:∀ x,(sc.names.lookup x=some .cell\/sc.names.lookup x=some .free)->(X.env.kindOf x=some .cell\/X.env.kindOf x=some .free)
 glo:∀ x,sc.names.lookup x=some .globalImplicit->Gl X x
 loc:∀ x k,sc.names.lookup x=some k->(k=.local\/k=.cell)->L2.Loc X.env.scope x/\(X.fn x=true\/X.env.scope.names.lookup x=some .local)
 calm:X.calm=true
theorem QgL {P : Program} {w : World} {K : PySem.W.Frag} {mg : Str -> Option Value} {base : Heap} {N : List Str} {qual : Str} {sc : Scope} {f : Addr} {cdv : Value} {A : Around} {outer : List Env} {s : Shared} {H : Hp} {E : XK} :
  Sc (cxOf CX0 P w K mg base N qual sc f cdv A outer s H E).nox sc where
 vis:=fun x k h hk=>by
  rcases hk with z | z | z<;>subst z
  ·exact .inl h
  ·exact .inr (.inl h)
  ·exact .inr (.inr h)
 cel:=fun x h=>h
 glo:=fun x h=>h
 loc:=fun x k h hk=>⟨by rcases hk with z | z<;>subst z;exact .inl h;exact .inr h,.inl rfl⟩
 calm:=rfl
theorem QgM {X:Cx}{N:List Str}{scope:Scope}{fp:List Addr}{s:Shared}{H:Hp} (hc:X.calm=true):Sc (cxC X N scope fp s H) scope where
 vis:=fun x k h hk=>by
  show (relabel scope X.env).names.lookup x=_\/(relabel scope X.env).names.lookup x=_\/(relabel scope X.env).names.lookup x=_
  rw[QdG,h,Option.map_some]
  rcases hk with z | z | z<;>subst z
  ·exact .inl rfl
  ·exact .inr (.inl rfl)
  ·by_cases hq:(NameKind.free == NameKind.free && X.env.scope.kind == .function && X.env.kindOf x == some .cell)=true
   ·rw[if_pos hq];exact .inr (.inl rfl)
   ·rw[if_neg hq];exact .inr (.inr rfl)
 cel:=fun x h=>by
  show (relabel scope X.env).names.lookup x=_\/(relabel scope X.env).names.lookup x=_
  rcases h with h | h<;>rw[QdG,h,Option.map_some]
  ·exact .inl rfl
  ·by_cases hq:(NameKind.free == NameKind.free && X.env.scope.kind == .function && X.env.kindOf x == some .cell)=true
   ·rw[if_pos hq];exact .inl rfl
   ·rw[if_neg hq];exact .inr rfl
 glo:=fun x h=>by
  show (relabel scope X.env).names.lookup x=_
  rw[QdG,h,Option.map_some];rfl
 loc:=fun x k h hk=>by
  refine⟨?_,.inl ?_⟩
  ·show (relabel scope X.env).names.lookup x=_\/(relabel scope X.env).names.lookup x=_
   rw[QdG,h,Option.map_some]
   rcases hk with z | z<;>subst z
   ·exact .inl rfl
   ·exact .inr rfl
  ·show decide (scope.names.lookup x=some .local\/scope.names.lookup x=some .cell)=true
   rw[h]
   rcases hk with z | z<;>subst z<;>decide
 calm:=hc
def compChk (sc scope:Scope):Bool:=
 (scope.kind == .function) && scope.names.all (fun p=>p.2 != .local || scope.names.lookup p.1 == some .local) &&
 scope.names.all (fun p=>p.2 != .free || ((sc.names.lookup p.1 == some .cell || sc.names.lookup p.1 == some .free) && !scope.names.contains (p.1,.cell) && scope.names.lookup p.1 != some .local))
theorem QgN {X:Cx}{sc scope:Scope} (S:Sc X sc) (h:compChk sc scope=true):CompScope X scope:=by
 unfold compChk at h
 rw[Bool.and_eq_true,Bool.and_eq_true]at h
 obtain⟨⟨h1,h2⟩,h3⟩:=h
 rw[List.all_eq_true]at h2 h3
 have fr:∀ x,(x,NameKind.free)∈scope.names->(sc.names.lookup x=some .cell\/sc.names.lookup x=some .free)/\(x,NameKind.cell)∉scope.names/\scope.names.lookup x≠some .local:=fun x hx=>by
  have q:=h3 _ hx
  simp only[bne_self_eq_false,Bool.false_or,Bool.and_eq_true,Bool.or_eq_true,beq_iff_eq,Bool.not_eq_true',bne_iff_ne,ne_eq]at q
  obtain⟨⟨q1,q2⟩,q3⟩:=q
  refine⟨q1,fun z=>?_,q3⟩
  have:scope.names.contains (x,NameKind.cell)=true:=List.contains_iff_mem.mpr z
  rw[this]at q2;cases q2
 refine⟨by simpa using h1,fun p hp hl=>?_,fun x hx=>S.cel x (fr x hx).1,fun x hx=>(fr x hx).2.1,fun x hx=>(fr x hx).2.2⟩
 have q:=h2 p hp
 rw[hl]at q
 simpa using q
def namesChk (N0:List Str) (scope:Scope) (N:List Str) (n:Nat) (ix:List Nat):Bool:=
 N.length == n + ix.length && (List.range ix.length).all fun j=>match ix[j]?,N[n + j]? with
  | some i,some x=>N0[i]? == some x && scope.names.lookup x == some .free
  | _,_=>false
theorem QgO {X:Cx}{N0:List Str}{scope:Scope}{N:List Str}{n:Nat}{ix:List Nat} (hX:X.N=N0) (h:namesChk N0 scope N n ix=true):CompNames X scope N n ix:=by
 unfold namesChk at h
 rw[Bool.and_eq_true,List.all_eq_true]at h
 refine⟨by simpa using h.1,fun j i x hj hx=>?_⟩
 have q:=h.2 j (List.mem_range.mpr (List.getElem?_eq_some_iff.mp hj).1)
 rw[hj,hx]at q
 simp only[Bool.and_eq_true,beq_iff_eq]at q
 rw[hX]
 exact q
section
variable {X:Cx}{sc:Scope}{a b c e o tg:Expr}{es:List Expr}{pos p:Pos}{fa fb fc:CE}{ca cb:CA}{x:Str}{T id:String}
theorem QgP (S:Sc X sc) (i:Nat) (hN:X.N[i]?=some x) {k:NameKind} (h:sc.names.lookup x=some k) (n:NameOk x) (hk:k=.local\/k=.cell\/k=.free:=by decide):SE X (.Name x pos) (cVar i):=Qc4 i (Qas hN (S.vis x k h hk) n.d n.c)
theorem QgQ (S:Sc X sc) (i:Nat) (nd:X.N.Nodup) (hN:X.N[i]?=some x) {k:NameKind} (h:sc.names.lookup x=some k) (hk:k=.local\/k=.cell:=by decide):SG X (.Name x pos) (gVar i):=
 Qeq (QaO nd hN (S.loc x k h hk).1 (S.loc x k h hk).2)
theorem QgR (S : Sc X sc) (i : Nat) (nd : X.N.Nodup) (hN : X.N[i]? = some x) {k : NameKind} (h : sc.names.lookup x = some k) {pos' : Pos} (he : SE X e fa) (hk : k = .local \/ k = .cell := by decide) (hs : swapsWith e (some (.Name x pos')) pos.line X.env = pure false := by rfl) :
  SS X (.Assign [.Name x pos'] e pos) (sAsg (gVar i) fa):=QeB nd hN (S.loc x k h hk).1 he hs (S.loc x k h hk).2
theorem QgS {v:V}{d:D}{u:Value} (S:Sc X sc) (h:sc.names.lookup x=some .globalImplicit) (hm:X.mg x=some u) (r:RelV v u) (n:NameOk x) (q:∀ ρ H,Rep X.K ρ H v d):SE X (.Name x pos) (cCon d):=
 (Qaz (S.glo x h) hm r n.d).of fun σ H Q h_=>h_.el fun ρ l st lr sr p=>p.ret sr _ (q _ _)
theorem QgT {n:Nat} (h:∀ l st ds st',ca l st=.ok ds st'->ds.length=n):∀ l st ds st',cCons fa ca l st=.ok ds st'->ds.length=n + 1:=fun l st ds st' e=>by
 unfold cCons bnd at e
 cases q:fa l st with
 | ok d s1=>
  rw[q]at e
  dsimp only at e
  cases q2:ca l s1 with
  | ok es s2=>
   rw[q2]at e
   have:=h l s1 es s2 q2
   cases e
   simp[this]
  | exc _ _=>rw[q2]at e;cases e
  | bad=>rw[q2]at e;cases e
 | exc _ _=>rw[q]at e;cases e
 | bad=>rw[q]at e;cases e
theorem QgU:∀ l st ds st',cNil l st=.ok ds st'->ds.length=0:=fun l st ds st' e=>by cases e;rfl
def KwBinds (K:PySem.W.Frag) (fd:FuncData) (ps:List Str):Prop:=∀ (s:Shared) (ws:List Value),ws.length=ps.length->BindsTo s fd ⟨[],ps.zip ws⟩ (ps.zip ws)
theorem QgV {k n : Nat} {f : Addr} {fd : FuncData} {ps : List Str} {g : List D -> M D} (S : Sc X sc) (h : sc.names.lookup x = some .globalImplicit) (F : FnOk X.prog X.w X.K X.mg X.base CX0 k f fd ps (spOf X.K n g)) (hr : Room k X.A) (hm : X.mg x = some (.ref f))
  (hk:PySem.W.keepIn X.K (.ref f)=true) (hb:Binds X.K fd ps []) (nk:NameOk x) (ha:SA X (e::es) ca) (hn:∀ l st ds st',ca l st=.ok ds st'->ds.length=n)
  (he:starEach (e::es) X.env=(false,eval e X.env)::starEach es X.env:=by rfl) (hpl:(backTo pos (starEach es X.env)).any (·.1)=false:=by rfl):SE X (.Call (.Name x p) (e::es) [] pos) (cCall g ca):=
 Qeb F hr (S.glo x h) hm hk hb Qcx ha hn nk.d he hpl
end
theorem QgW {k:Nat}{X:Cx} (h:Room k X.A):X.A.units + 60 < cLine:=by have:=h.units;ac_nf
theorem QgX {P : Program} {w : World} {K : PySem.W.Frag} {mg : Str -> Option Value} {base : Heap} {x qual : Str} {sd : Stmt} {f : Addr} {fd : FuncData} {N ps : List Str} {k n m : Nat} {body : CS} (F : Fun K x qual sd f fd) (S : FnScope N ps (defScope sd)) (hn : ps.length = n) (hm : N.length = m)
  (hbody:∀ (cdv:Value) (A:Around) (outer:List Env) (s:Shared) (H:Hp) (E:XK),Room k (A.deeper (envOfC qual (defScope sd) s.heap.objs.size f cdv))->SSs (cxOf CX0 P w K mg base N qual (defScope sd) f cdv A outer s H E).nox (defBody sd) body):
  FnOk P w K mg base CX0 (k + 1) f fd ps (spOf K n (runDef m body)):=by
 subst hn hm
 exact QeF F S hbody
theorem QgY {K:PySem.W.Frag}{ρ:List Addr}{H:Hp}:∀ (ns:List Int),Reps K ρ H (ns.map V.int) (ns.map D.int)
 | []=>.nil
 | n::ns=>.cons (.int n) (QgY ns)
theorem QgZ {K : PySem.W.Frag} {H : Hp} {a : Addr} {ns : List Int} {g : List D -> M D} (hO : Only H) (hS : SqL K H a (ns.map V.int)) (h : ∃ st', g [.lit (ns.map D.int)] [] = .ok (.bl true) st') :
  spOf K 1 g [.ref a] H (fun v _=>v=.bl true) fun _ _ _=>False:=by
 obtain⟨st',e⟩:=h
 have fz:FzL K H a (ns.map V.int):=by
  rcases hS with (h | ⟨o,h⟩) | h
  ·rcases hO a with z | ⟨ob,xs,z⟩<;>(rw[z]at h;cases h)
  ·exact .inl ⟨o,h⟩
  ·exact .inr h
 refine⟨rfl,[],[],_,⟨rfl,List.nodup_nil,fun n b o z=>by cases z⟩,.cons (.lit fz (QgY ns)) .nil,?_⟩
 rw[e]
 intro ρ' H' _ _ v rv
 cases rv
 rfl
@[elab_as_elim] theorem le1 {A:Type}{P:List A->Prop} (h:∀ a,P [a]) (us:List A) (hl:us.length=1):P us:=by
 cases us with
 | nil=>cases hl
 | cons a t=>cases t with
  | nil=>exact h a
  | cons b u=>simp at hl
@[elab_as_elim] theorem le2 {A:Type}{P:List A->Prop} (h:∀ a0 a1,P [a0,a1]) (us:List A) (hl:us.length=2):P us:=by
 cases us with
 | nil=>cases hl
 | cons a t=>exact le1 (P:=fun t=>P (a::t)) (h a) t (Nat.succ.inj hl)
@[elab_as_elim] theorem le3 {A:Type}{P:List A->Prop} (h:∀ a0 a1 a2,P [a0,a1,a2]) (us:List A) (hl:us.length=3):P us:=by
 cases us with
 | nil=>cases hl
 | cons a t=>exact le2 (P:=fun t=>P (a::t)) (h a) t (Nat.succ.inj hl)
@[elab_as_elim] theorem le4 {A:Type}{P:List A->Prop} (h:∀ a0 a1 a2 a3,P [a0,a1,a2,a3]) (us:List A) (hl:us.length=4):P us:=by
 cases us with
 | nil=>cases hl
 | cons a t=>exact le3 (P:=fun t=>P (a::t)) (h a) t (Nat.succ.inj hl)
@[elab_as_elim] theorem le5 {A:Type}{P:List A->Prop} (h:∀ a0 a1 a2 a3 a4,P [a0,a1,a2,a3,a4]) (us:List A) (hl:us.length=5):P us:=by
 cases us with
 | nil=>cases hl
 | cons a t=>exact le4 (P:=fun t=>P (a::t)) (h a) t (Nat.succ.inj hl)
@[elab_as_elim] theorem le6 {A:Type}{P:List A->Prop} (h:∀ a0 a1 a2 a3 a4 a5,P [a0,a1,a2,a3,a4,a5]) (us:List A) (hl:us.length=6):P us:=by
 cases us with
 | nil=>cases hl
 | cons a t=>exact le5 (P:=fun t=>P (a::t)) (h a) t (Nat.succ.inj hl)
end MM
namespace MM
open PySem PySem.W PyProof.Rows L2
section
variable {K:Frag}{ρ:List Addr}{H H1:Hp}{st:Sto}
theorem Ex.more (h:∀ b o,H b=some o->H1 b=some o):Ex ρ H ρ H1:=
 ⟨⟨[],by simp,by simp⟩,fun b u _ e=>h b u e,fun b u _ e=>h b u e,fun b u e=>⟨u,h b u e,rfl⟩⟩
theorem SR.more (s:SR K ρ H st) (h:∀ b o,H b=some o->H1 b=some o):SR K ρ H1 st:=
 ⟨s.len,s.nd,fun n b ob e1 e2=>ObR.mono (o:=ob) (Ex.more (ρ:=ρ) h).up (s.ob n b ob e1 e2) fun u q=>h b u q⟩
theorem Qg0 {e dx:Addr}{f:Str}{v:V}{ob:Obj}{o:HO} (he:H e=none) (hd:H dx=none):∀ b u,H b=some u->madeX (upd H e o) e dx f v ob b=some u:=fun b u q=>by
 unfold madeX
 rw[Qaj (Qal q he),Qaj (Qal q hd),Qaj (Qal q he)];exact q
end
section
variable {X:Cx}{sc:Scope}{x f y:Str}{C N P NP D:Addr}{pos p p1:Pos}{e:Expr}{fa:CE}{xs:List Str}
theorem Qg1 (F : XF X.K x f C N P NP) (hy : typeLookup (.type "ValueError") f = pure none) (ha : SE X e fa) (hb : attributeBase e f X.env (eval e X.env) = eval e X.env := by rfl) :
  SE X (.Attribute e f pos) (c1 (attrX x f) fa):=
 (QgJ hy ha hb).of fun σ H Q h_=>h_.el fun ρ l st lr sr q=>⟨ρ,l,st,lr,sr,q.bnd.imp fun d st1 ρ1 H1 x1 s1 q1 v rv=>by
  cases rv with
  | @exn a C' dx x' f' v' d' g hh h2 r=>
   obtain⟨⟨rfl,rfl⟩,q2⟩:=q1.chk
   obtain⟨o,ho,hc,hd,hv⟩:=hh
   have eC:C'=C:=by
    have:=g.symm.trans F.gl
    injection this with t;injection t with t;injection t
   subst eC
   exact⟨a,dx,v',o,_,_,_,_,_,rfl,F,ho,hc,hd,hv,h2,q2.ret s1 _ r⟩
  | _=>exact q1.elim⟩
structure XO (K:Frag) (y:Str) (D:Addr):Prop where
 gl:nsIn K mainGlobals y=some (some (.ref D))
 ob:∃ N bm q bs sn sub ab col dd k0 k1 k2 k3 k5,K.lookup D=some (excClassObj y q D N bs bm true sn sub ab col dd k0 k1 k2 k3 k5 "ValueError.__new__")
theorem XF.xo (F:XF X.K x f C N P NP):XO X.K x C:=⟨F.gl,let ⟨q,bs,sn,sub,ab,col,dd,k0,k1,k2,k3,k5,l⟩:=F.ob;⟨_,_,q,bs,sn,sub,ab,col,dd,k0,k1,k2,k3,k5,l⟩⟩
theorem XF.xp (F:XF X.K x f C N P NP):XO X.K "PactError" P:=⟨F.glP,let ⟨q,bs,sn,sub,ab,col,dd,k0,k1,k2,k3,k5,l⟩:=F.obP;⟨_,_,q,bs,sn,sub,ab,col,dd,k0,k1,k2,k3,k5,l⟩⟩
theorem XO.iff {K:Frag}{x y:Str}{C D:Addr} (a:XO K x C) (b:XO K y D):decide (D=C)=(x == y):=by
 by_cases z:x=y
 ·subst z
  have e:C=D:=by
   have:=a.gl.symm.trans b.gl
   injection this with t;injection t with t;injection t
  rw[e];simp
 ·rw[decide_eq_false (fun w=>?_),beq_eq_false_iff_ne.mpr z]
  subst w
  obtain⟨N,bm,q,bs,sn,sub,ab,col,dd,k0,k1,k2,k3,k5,l⟩:=a.ob
  obtain⟨N',bm',q',bs',sn',sub',ab',col',dd',k0',k1',k2',k3',k5',l'⟩:=b.ob
  rw[l]at l'
  injection l' with t
  injection t with _ _ t _
  injection t with t
  injection t with t
  exact z t
theorem Qg2 {H : Hp} {Q : VK} {a C' : Addr} {x' : Str} {T : V} (B : ∀ x ∈ xs, ∃ f C N P NP, XF X.K x f C N P NP) (hx : x' ∈ xs) (g : nsIn X.K mainGlobals x' = some (some (.ref C'))) (hh : ∃ o, H a = some (.frz o (.own a)) /\ o.cls = .ref C')
  (hT:T=.ty "ValueError"\/∃ y D,T=.ref D/\XO X.K y D) (q:∀ P,XO X.K x' C'->XO X.K "PactError" P->Q (.bl (isOf C' P T)) H):
  ∃ b ob x f C N P NP T',[V.ref a,T]=[.ref b,T']/\XF X.K x f C N P NP/\H b=some (.frz ob (.own b))/\ob.cls=.ref C/\(T'=.ty "ValueError"\/∃ D nm q bs bm N sn sub ab col dd k0 k1 k2 k3 k5,T'=.ref D/\X.K.lookup D=some (excClassObj nm q D N bs bm true sn sub ab col dd k0 k1 k2 k3 k5 "ValueError.__new__"))/\Q (.bl (isOf C P T')) H:=by
 obtain⟨f,C,N,P,NP,F⟩:=B x' hx
 obtain⟨o,ho,hc⟩:=hh
 have eC:C'=C:=by
  have:=g.symm.trans F.gl
  injection this with t;injection t with t;injection t
 subst eC
 refine⟨a,o,x',f,C',N,P,NP,T,rfl,F,ho,hc,?_,q P F.xo F.xp⟩
 rcases hT with h | ⟨y,D,h,O⟩
 ·exact .inl h
 ·obtain⟨N,bm,q,bs,sn,sub,ab,col,dd,k0,k1,k2,k3,k5,l⟩:=O.ob
  exact .inr ⟨D,y,q,bs,bm,N,sn,sub,ab,col,dd,k0,k1,k2,k3,k5,h,l⟩
theorem Qg3 (B : ∀ x ∈ xs, ∃ f C N P NP, XF X.K x f C N P NP) (hg : Gl X "isinstance") (hm : X.mg "isinstance" = none) (hv : bootBuiltins "isinstance" = some (.builtin "isinstance")) (hgT : Gl X "ValueError") (hmT : X.mg "ValueError" = none) (hvT : bootBuiltins "ValueError" = some (.type "ValueError")) (ha : SE X e fa)
  (he:starEach [e,.Name "ValueError" p1] X.env=(false,eval e X.env)::starEach [.Name "ValueError" p1] X.env:=by rfl) (he2:starEach [.Name "ValueError" p1] X.env=(false,eval (.Name "ValueError" p1) X.env)::starEach [] X.env:=by rfl) (hpl:(backTo pos (starEach [.Name "ValueError" p1] X.env)).any (·.1)=false:=by rfl):
  SE X (.Call (.Name "isinstance" p) [e,.Name "ValueError" p1] [] pos) (c1 (isiX xs fun _=>true) fa):=
 (QbT QgK hg hm hv (QbH ha (QbH (QaA (v:=.ty "ValueError") hgT hmT hvT rfl (by decide) (by decide)) QbG he2) he) (by decide) (by decide) he hpl).of fun σ H Q h_=>h_.el fun ρ l st lr sr q=>⟨ρ,l,st,lr,sr,q.bnd.imp fun d st1 ρ1 H1 x1 s1 q1 v rv=>by
  cases rv with
  | @exn a C' dx x' f' v' d' g hh h2 r=>
   obtain⟨hx,q2⟩:=q1.chk
   obtain⟨o,ho,hc,_⟩:=hh
   exact Qg2 B hx g ⟨o,ho,hc⟩ (.inl rfl) fun P h1 h2=>q2.ret s1 _ (.bl _)
  | @exn0 a C' x' g hh=>
   obtain⟨hx,q2⟩:=q1.chk
   exact Qg2 B hx g hh (.inl rfl) fun P h1 h2=>q2.ret s1 _ (.bl _)
  | _=>exact q1.elim⟩
end
def keysB (es:Array DictEntry) (ns:List Str):Bool:=es.toList.all fun e=>match e.key with
 | .str n _ => !(ns.contains n)
 | _=>false
section
variable {K:Frag}{N:Addr}{es:Array DictEntry}{ns:List Str}{n:Str}{o:Value}{d:Option Addr}{ep:Nat}{sl:Array (Option Value)}
theorem Qg4 (h:keysB es ns=true):StrKeys es:=fun e he=>by
 have:=List.all_eq_true.mp h e (Array.mem_toList_iff.mpr he)
 cases k:e.key with
 | str n t=>exact⟨n,t,rfl⟩
 | _=>rw[k]at this;cases this
theorem Qg5 (l:K.lookup N=some ⟨o,d,.dict es ep,sl⟩) (h:keysB es ns=true) (hn:n∈ns):nsIn K N n=some none:=by
 have a:∀ e∈es.toList,e.key.isStr n=false/\e.refKey=false:=fun e he=>by
  have:=List.all_eq_true.mp h e he
  obtain⟨hh,k,v⟩:=e
  cases k with
  | str m t=>
   have t1:(!(ns.contains m))=true:=this
   refine⟨?_,rfl⟩
   show (m == n)=false
   refine beq_eq_false_iff_ne.mpr fun z=>?_
   subst z
   rw[List.contains_iff_mem.mpr hn]at t1;cases t1
  | _=>cases this
 unfold nsIn
 rw[l]
 dsimp only
 rw[List.find?_eq_none.mpr fun e he=>by rw[(a e he).1];exact Bool.false_ne_true]
 dsimp only
 rw[if_neg]
 intro z
 obtain⟨e,he,t⟩:=List.any_eq_true.mp z
 rw[(a e he).2]at t;cases t
theorem Qg6 (l:K.lookup N=some ⟨o,d,.dict es ep,sl⟩) (h:keysB es ns=true):StrNs K N:=⟨_,_,_,_,_,l,Qg4 h⟩
end
theorem Qg7 {K : Frag} {x f : Str} {C N P NP : Addr} {fs : List Str} {q q' : Str} {bs bs' : List Value} {sn sn' : List Str} {sub sub' : List Value} {ab ab' : Bool} {col col' : Option Bool} {dd dd' : Option Addr} {k0 k1 k2 k3 k5 k0' k1' k2' k3' k5' : Option Value}
  {o o':Value}{d d':Option Addr}{es es':Array DictEntry}{ep ep':Nat}{sl sl':Array (Option Value)}{ns:List Str}
  (g:nsIn K mainGlobals x=some (some (.ref C))) (l:K.lookup C=some (excClassObj x q C N bs (.ref P::vErr) true sn sub ab col dd k0 k1 k2 k3 k5 "ValueError.__new__")) (lN:K.lookup N=some ⟨o,d,.dict es ep,sl⟩) (h:keysB es ns=true) (kp:keepIn K (.ref C)=true)
  (g':nsIn K mainGlobals "PactError"=some (some (.ref P))) (l':K.lookup P=some (excClassObj "PactError" q' P NP bs' vErr true sn' sub' ab' col' dd' k0' k1' k2' k3' k5' "ValueError.__new__")) (lN':K.lookup NP=some ⟨o',d',.dict es' ep',sl'⟩) (h':keysB es' fs=true)
  (s1:∀ n∈([Str.ofString "__getattribute__",Str.ofString "__getattr__",Str.ofString "__setattr__",Str.ofString "__class__",f]:List Str),n∈ns:=by nofun)
  (s2:∀ n∈([Str.ofString "__getattribute__",Str.ofString "__getattr__",Str.ofString "__setattr__",Str.ofString "__class__",f,Str.ofString "__init__",Str.ofString "args"]:List Str),n∈fs:=by nofun):XF K x f C N P NP where
 gl:=g
 ob:=⟨_,_,_,_,_,_,_,_,_,_,_,_,l⟩
 obP:=⟨_,_,_,_,_,_,_,_,_,_,_,_,l'⟩
 glP:=g'
 sN:=Qg6 lN h
 sP:=Qg6 lN' h'
 nn:=fun n hn=>Qg5 lN h (s1 n hn)
 np:=fun n hn=>Qg5 lN' h' (s2 n hn)
 kp:=kp
end MM
namespace MM
open PySem PySem.Spec PyProof.Rows L2
def Kt (h h':Heap):Prop:=∀ c o,h.get? c=some o->o.cls=.type "tuple"->h'.get? c=some o
structure TKd (prog:Program) (w:World) (K:Type) [DecidableEq K] where
 is:Heap->K->Addr->Prop
 hash:K->Int
 draws:K->Nat
 keep:∀ {h h':Heap}{k:K}{b:Addr},Kt h h'->is h k b->is h' k b
 hashes:∀ {A:Around}{E:Value->Shared->Prop}{s:Shared}{k:K}{b:Addr}{Q:Int->Shared->Prop},A.units + 1 < cLine->is s.heap k b->Q (hash k) { s with toks:=s.toks + draws k }->wpAny (model prog w) A (pyHash (.ref b)) Q E s
 eqs:∀ {A:Around}{E:Value->Shared->Prop}{s:Shared}{x y:K}{a b:Addr}{Q:Bool->Shared->Prop},A.units + 1 < cLine->is s.heap x a->is s.heap y b->Q (decide (x=y)) s->wpAny (model prog w) A (eqBool (.ref a) (.ref b)) Q E s
 quiet:∀ {A:Around}{E:Value->Shared->Prop}{s:Shared}{k:K}{b:Addr}{Q:Bool->Shared->Prop},is s.heap k b->Q true s->wpAny (model prog w) A (eqIsQuiet 8 (.ref b)) Q E s
 cls:∀ {A:Around}{E:Value->Shared->Prop}{s:Shared}{k:K}{b:Addr}{Q:Bool->Shared->Prop},is s.heap k b->Q false s->wpAny (model prog w) A (ofAClassStatement 8 (.ref b)) Q E s
 byv:∀ {A:Around}{E:Value->Shared->Prop}{s:Shared}{k:K}{b:Addr}{Q:Bool->Shared->Prop},is s.heap k b->Q true s->wpAny (model prog w) A (hashByValue 8 (.ref b)) Q E s
section
variable {prog:Program}{w:World}{K:Type} [DecidableEq K] (T:TKd prog w K)
variable {T}
variable {A:Around}{E:Value->Shared->Prop}{s:Shared}{a:Addr}{led:Bool}{m:Nat}{key:Nat->K}{es:Array (Int × Value)}
end
section
variable {prog:Program}{w:World}{A:Around}{E:Value->Shared->Prop}{s:Shared}
theorem items_int {k:List Int}{vs:List Value} (h:ItemsAre (intKind prog w) k vs):∀ v∈vs,∃ i t,v=Value.int i t:=by
 induction h with
 | nil=>simp
 | cons h1 h2 ih=>
  intro v hv
  rcases List.mem_cons.mp hv with z | z
  ·subst z
   cases v with
   | int i t=>exact⟨i,t,rfl⟩
   | _=>exact nomatch h1
  ·exact ih v z
end
end MM
namespace MM
def refL (g:List D->M D):D->M D
 | .ref n=>bnd (getL n) g
 | _=>bad
open PySem PySem.W PyProof.Rows L2
section
variable {X:Cx}
theorem Qg8 {b:Value}{g:List D->M D} (h:CallR X b (lOf X.K g)):CallR X b (fun xs H Q=>∃ v,xs=[v]/\uOf X.K (refL g) v H Q):=h.of fun xs H Q pq81=>by
 obtain⟨v,e,ρ,st,d,sr,rv,p⟩:=pq81
 cases rv with
 | @ref a n _ h=>
  obtain⟨ds,e2,p1⟩:=Post.getL (Post.bnd p) sr
  obtain⟨a',vs,ha,hv,r⟩:=sr.seq e2
  rw[h]at ha;cases ha
  exact⟨a,vs,ρ,st,ds,e,SqL.of hv,sr,r,p1⟩
 | _=>exact p.elim
end
end MM
namespace MM
open PySem PySem.Spec PyProof.Rows L2
structure RF where
 n:Nat
 k:Nat
 ps:List Str
 kw:Bool
 g:List D->M D
structure RC where
 sc:Scope
 N:List Str
 k:Nat
 G:List (Str × RF)
 Z:List Str
 C:List (Str × D)
 H:List (Nat × Nat × Nat)
 top:Bool
def RC.tag (c:RC) (p:Pos) (t:Nat):Bool:=c.H.contains (p.line,p.col,t)
def RC.glo (c:RC) (x:Str):Bool:=c.sc.names.lookup x == some .globalImplicit
def nokB (x:Str):Bool := !((x == ("__debug__":Str)) || (x == ("__classdict__":Str)) || decide (x=("__name__":Str)))
theorem Qg9 {x:Str} (h:nokB x=true):NameOk x:=nok (by unfold nokB at h;simpa only[Bool.not_eq_true'] using h)
structure GF (P:Program) (w:World) (K:PySem.W.Frag) (mg:Str->Option Value) (base:Heap) (x:Str) (r:RF):Prop where
 ex:∃ f fd,mg x=some (.ref f)/\FnOk P w K mg base CX0 r.k f fd r.ps (spOf K r.n r.g)/\PySem.W.keepIn K (.ref f)=true/\Binds K fd r.ps []/\(r.kw=true->KwBinds K fd r.ps)
structure Good (X:Cx) (c:RC):Prop where
 S:Sc X c.sc
 N:X.N=c.N
 nd:X.N.Nodup
 hr:Room c.k X.A
 G:∀ x r,c.G.lookup x=some r->GF X.prog X.w X.K X.mg X.base x r
 Z:∀ x,c.Z.contains x=true->X.mg x=none
 C:∀ x d,c.C.lookup x=some d->∃ v u,X.mg x=some u/\RelV v u/\∀ ρ H,Rep X.K ρ H v d
 ps:PassesOwn (model X.prog X.w) X.A X.env X.xe
 kd:c.top=true->X.env.blockKind=.function/\∀ x,X.env.kindOf x=c.sc.names.lookup x
theorem Good.hu {X:Cx}{c:RC} (g:Good X c):X.A.units + 60 < cLine:=QgW g.hr
structure Rec where
 e:RC->Expr->Option CE
 l:RC->Expr->Option CA
 t:RC->Expr->Option CT
 i:RC->Expr->Expr->Option CI
 g:RC->Expr->Option CG
 s:RC->Stmt->Option CS
structure RecOk (q:Rec):Prop where
 e:∀ {X c},Good X c->∀ {x r},q.e c x=some r->SE X x r
 l:∀ {X c},Good X c->∀ {x r},q.l c x=some r->SL X x r
 t:∀ {X c},Good X c->∀ {x r},q.t c x=some r->ST X x r
 i:∀ {X c},Good X c->∀ {tg x r},q.i c tg x=some r->SI X tg x r
 g:∀ {X c},Good X c->∀ {x r},q.g c x=some r->SG X x r
 s:∀ {X c},Good X c->∀ {x r},q.s c x=some r->SS X x r
structure RuE where
 f:Rec->RC->Expr->Option CE
 ok:∀ {q},RecOk q->∀ {X c},Good X c->∀ {x r},f q c x=some r->SE X x r
structure RuL where
 f:Rec->RC->Expr->Option CA
 ok:∀ {q},RecOk q->∀ {X c},Good X c->∀ {x r},f q c x=some r->SL X x r
structure RuT where
 f:Rec->RC->Expr->Option CT
 ok:∀ {q},RecOk q->∀ {X c},Good X c->∀ {x r},f q c x=some r->ST X x r
structure RuI where
 f:Rec->RC->Expr->Expr->Option CI
 ok:∀ {q},RecOk q->∀ {X c},Good X c->∀ {tg x r},f q c tg x=some r->SI X tg x r
structure RuG where
 f:Rec->RC->Expr->Option CG
 ok:∀ {q},RecOk q->∀ {X c},Good X c->∀ {x r},f q c x=some r->SG X x r
structure RuS where
 f:Rec->RC->Stmt->Option CS
 ok:∀ {q},RecOk q->∀ {X c},Good X c->∀ {x r},f q c x=some r->SS X x r
structure Rules where
 e:List RuE
 l:List RuL
 t:List RuT
 i:List RuI
 g:List RuG
 s:List RuS
def fst1 {α β:Type} (f:α->Option β):List α->Option β
 | []=>none
 | a::as=>match f a with
  | some b=>some b
  | none=>fst1 f as
theorem Qha {α β:Type}{f:α->Option β}{r:β}:∀ {l:List α},fst1 f l=some r->∃ a,f a=some r
 | [],h=>nomatch h
 | a::as,h=>by
  unfold fst1 at h
  cases e:f a with
  | some b=>rw[e]at h;exact⟨a,by rw[e];exact h⟩
  | none=>rw[e]at h;exact Qha h
def recN (R:Rules):Nat->Rec
 | 0=>⟨fun _ _=>none,fun _ _=>none,fun _ _=>none,fun _ _ _=>none,fun _ _=>none,fun _ _=>none⟩
 | n + 1 => ⟨fun c x => fst1 (fun r => r.f (recN R n) c x) R.e, fun c x => fst1 (fun r => r.f (recN R n) c x) R.l, fun c x => fst1 (fun r => r.f (recN R n) c x) R.t,
   fun c tg x=>fst1 (fun r=>r.f (recN R n) c tg x) R.i,fun c x=>fst1 (fun r=>r.f (recN R n) c x) R.g,fun c x=>fst1 (fun r=>r.f (recN R n) c x) R.s⟩
theorem Qhb (R:Rules):∀ n,RecOk (recN R n)
 | 0=>⟨fun _ _ _ h=>(nomatch h),fun _ _ _ h=>(nomatch h),fun _ _ _ h=>(nomatch h),fun _ _ _ _ h=>(nomatch h),fun _ _ _ h=>(nomatch h),fun _ _ _ h=>(nomatch h)⟩
 | n + 1=>by
  have ih:=Qhb R n
  exact⟨fun g _ _ h=>let ⟨a,q⟩:=Qha h;a.ok ih g q,fun g _ _ h=>let ⟨a,q⟩:=Qha h;a.ok ih g q,fun g _ _ h=>let ⟨a,q⟩:=Qha h;a.ok ih g q,
   fun g _ _ _ h=>let ⟨a,q⟩:=Qha h;a.ok ih g q,fun g _ _ h=>let ⟨a,q⟩:=Qha h;a.ok ih g q,fun g _ _ h=>let ⟨a,q⟩:=Qha h;a.ok ih g q⟩
def plE:Expr->Bool
 | .Starred .. => false
 | _=>true
theorem Qhc {e:Expr}{es:List Expr}{env:Env} (h:plE e=true):starEach (e::es) env=(false,eval e env)::starEach es env:=by
 cases e<;>first | rfl | exact nomatch h
theorem Qhd {env:Env}{pos:Pos}:∀ {es:List Expr},es.all plE=true->(backTo pos (starEach es env)).any (·.1)=false
 | [],_=>rfl
 | e::es,h=>by
  rw[List.all_cons,Bool.and_eq_true]at h
  rw[Qhc h.1]
  exact Qhd h.2
theorem Qhe {env:Env}{pos:Pos}:∀ {es:List Expr},es.all plE=true->(backTo pos (starEach es env)).all (fun x => !x.1)=true
 | [],_=>rfl
 | e::es,h=>by
  rw[List.all_cons,Bool.and_eq_true]at h
  rw[Qhc h.1]
  exact Qhe h.2
def ncE:Expr->Bool
 | .ListComp .. => false
 | .SetComp .. => false
 | .DictComp .. => false
 | _=>true
theorem Qhf {e:Expr}{t:Option Expr}{n:Nat}{env:Env} (h:ncE e=true):swapsWith e t n env=pure false:=by
 cases e<;>first | rfl | exact nomatch h
def nsE:Expr->Bool
 | .Set .. => false
 | _=>true
theorem Qhg {e:Expr}{env:Env} (h:nsE e=true) (x:Value):foldedSetIterable e env x=pure x:=by
 cases e<;>first | rfl | exact nomatch h
theorem Qhh {op:CmpOp}{e:Expr} (h:nsE e=true):behindInMarks op e=false:=by
 cases e<;>first | rfl | exact nomatch h
def baE:Expr->Bool
 | .Call _ [] _ _=>false
 | _=>true
theorem Qhi {e:Expr}{x:Str}{env:Env}{w:Sem Value} (h:baE e=true):attributeBase e x env w=w:=by
 cases e with
 | Call f as ks p=>
  cases as with
  | nil=>exact nomatch h
  | cons a as=>unfold attributeBase;cases f<;>rfl
 | _=>rfl
def slE:Expr->Bool
 | .Slice .. => false
 | _=>true
theorem plix {e:Expr} (h:slE e=true):PlainIx e:=by
 intro o i
 cases e<;>first | rfl | exact nomatch h
def tvE:Expr->Bool
 | .Compare .. => false
 | .BoolOp .. => false
 | .UnaryOp .. => false
 | .IfExp .. => false
 | _=>true
theorem tv0 {e:Expr}{env:Env} (h:tvE e=true) (w:Sem Value):PySem.isTrue e env w=(do let v <- w;standAt e.pos;holding [v] (truthy v)):=by
 cases e<;>first | rfl | exact nomatch h
def argC (q:Rec) (c:RC):List Expr->Option CA
 | []=>some cNil
 | e::es=>if plE e=true then (q.e c e).bind fun fa=>(argC q c es).bind fun ca=>some (cCons fa ca) else none
theorem Qhj {q:Rec} (hq:RecOk q) {X:Cx}{c:RC} (g:Good X c):∀ {es:List Expr}{ca:CA},argC q c es=some ca->SA X es ca/\es.all plE=true/\∀ l st ds st',ca l st=.ok ds st'->ds.length=es.length
 | [],ca,h=>by
  cases h;exact⟨Qd1,rfl,QgU⟩
 | e::es,ca,h=>by
  unfold argC at h
  rw[Option.ite_none_right_eq_some]at h
  obtain⟨hp,h⟩:=h
  rw[Option.bind_eq_some_iff]at h
  obtain⟨fa,ha,h⟩:=h
  rw[Option.bind_eq_some_iff]at h
  obtain⟨cb,hb,h⟩:=h
  cases h
  obtain⟨x,y,z⟩:=Qhj hq g hb
  exact⟨Qd2 (hq.e g ha) x (Qhc hp),by rw[List.all_cons,hp,y];rfl,QgT z⟩
def optC (q:Rec) (c:RC):Option Expr->Option CO
 | none=>some oNone
 | some e=>(q.e c e).bind fun f=>some (oSome f)
theorem Qhk {q:Rec} (hq:RecOk q) {X:Cx}{c:RC} (g:Good X c) {e:Option Expr}{f:CO} (h:optC q c e=some f):SO X e f:=by
 cases e with
 | none=>cases h;exact Qfz
 | some e=>
  unfold optC at h
  rw[Option.bind_eq_some_iff]at h
  obtain⟨fa,ha,h⟩:=h
  cases h
  exact QfA (hq.e g ha)
def blkC (q:Rec) (c:RC):List Stmt->Option CS
 | []=>some sNext
 | s::ss=>(q.s c s).bind fun a=>(blkC q c ss).bind fun b=>some (sSeq a b)
theorem Qhl {q:Rec} (hq:RecOk q) {X:Cx}{c:RC} (g:Good X c):∀ {ss:List Stmt}{f:CS},blkC q c ss=some f->SSs X ss f
 | [],f,h=>by cases h;exact Qeu
 | s::ss,f,h=>by
  unfold blkC at h
  rw[Option.bind_eq_some_iff]at h
  obtain⟨fa,ha,h⟩:=h
  rw[Option.bind_eq_some_iff]at h
  obtain⟨cb,hb,h⟩:=h
  cases h
  exact Qev (hq.s g ha) (Qhl hq g hb)
def varC (c:RC) (x:Str):Option Nat:=if c.N[c.N.idxOf x]?=some x/\(c.sc.names.lookup x=some .local\/c.sc.names.lookup x=some .cell\/c.sc.names.lookup x=some .free)/\nokB x=true then some (c.N.idxOf x) else none
def rVar:RuE:=⟨fun _ c e=>match e with
 | .Name x _=>(varC c x).bind fun i=>some (cVar i)
 | _=>none,fun {q} hq {X c} g {e r} h=>by
 split at h
 ·rename_i x p
  rw[Option.bind_eq_some_iff]at h
  obtain⟨i,hi,h⟩:=h
  cases h
  unfold varC at hi
  rw[Option.ite_none_right_eq_some]at hi
  obtain⟨⟨h1,h2,h3⟩,h4⟩:=hi
  cases h4
  have h1:X.N[c.N.idxOf x]?=some x:=by rw[g.N];exact h1
  rcases h2 with h2 | h2 | h2
  ·exact QgP g.S _ h1 h2 (Qg9 h3) (.inl rfl)
  ·exact QgP g.S _ h1 h2 (Qg9 h3) (.inr (.inl rfl))
  ·exact QgP g.S _ h1 h2 (Qg9 h3) (.inr (.inr rfl))
 ·cases h⟩
def rGlob:RuE:=⟨fun _ c e=>match e with
 | .Name x _=>if c.glo x=true/\nokB x=true then (c.C.lookup x).bind fun d=>some (cCon d) else none
 | _=>none,fun {q} hq {X c} g {e r} h=>by
 split at h
 ·rw[Option.ite_none_right_eq_some,Option.bind_eq_some_iff]at h
  obtain⟨⟨h1,h2⟩,d,hd,h⟩:=h
  cases h
  obtain⟨v,u,a,b,k⟩:=g.C _ _ hd
  exact QgS g.S (beq_iff_eq.mp h1) a b (Qg9 h2) k
 ·cases h⟩
def rInt:RuE:=⟨fun _ _ e=>match e with
 | .Constant (.int i) _ _=>some (cCon (.int i))
 | _=>none,fun {q} hq {X c} g {e r} h=>by
 split at h
 ·cases h;exact Qc5
 ·cases h⟩
def rStr:RuE:=⟨fun _ _ e=>match e with
 | .Constant (.str i) _ _=>some (cCon (.str i))
 | _=>none,fun {q} hq {X c} g {e r} h=>by
 split at h
 ·cases h;exact Qc8
 ·cases h⟩
def rBl:RuE:=⟨fun _ _ e=>match e with
 | .Constant (.bool i) _ _=>some (cCon (.bl i))
 | _=>none,fun {q} hq {X c} g {e r} h=>by
 split at h
 ·cases h;exact Qc6
 ·cases h⟩
def rNon:RuE:=⟨fun _ _ e=>match e with
 | .Constant .none _ _=>some (cCon .non)
 | _=>none,fun {q} hq {X c} g {e r} h=>by
 split at h
 ·cases h;exact Qc7
 ·cases h⟩
def rKeep:RuE:=⟨fun q c e=>(q.l c e).bind fun a=>some (cKeep a),fun {q} hq {X c} g {e r} h=>by
 rw[Option.bind_eq_some_iff]at h
 obtain⟨a,ha,h⟩:=h
 cases h
 exact Qd5 (hq.l g ha)⟩
abbrev OpU (op:Operator) (f:D->D->M D):Prop:=∀ {X:Cx},X.A.units + 60 < cLine->OpR X (binaryOp op) (rOf X.K f)
abbrev CmU (op:CmpOp) (f:D->D->M D):Prop:=∀ {X:Cx},X.A.units + 60 < cLine->OpR X (compareOp op) (rOf X.K f)
def rOp (o:Operator) (f:D->D->M D) (h:OpU o f):RuE:=⟨fun q c e=>match e with
 | .BinOp a op b _=>if op=o then (q.e c a).bind fun fa=>(q.e c b).bind fun fb=>some (c2 f fa fb) else none
 | _=>none,fun {q} hq {X c} g {e r} z=>by
 split at z
 ·simp only[Option.ite_none_right_eq_some,Option.bind_eq_some_iff]at z
  obtain⟨rfl,fa,ha,fb,hb,z⟩:=z
  cases z
  exact Qda (h g.hu) (hq.e g ha) (hq.e g hb)
 ·cases z⟩
structure RuC where
 f:Rec->RC->Expr->Option CE
 ok:∀ {q},RecOk q->∀ {X c},Good X c->∀ {x r},f q c x=some r->SE X x r/\ST X x (tCmpB r)
def RuC.e (r:RuC):RuE:=⟨r.f,fun hq _ _ g _ _ h=>(r.ok hq g h).1⟩
def RuC.t (r:RuC):RuT:=⟨fun q c e=>(r.f q c e).bind fun f=>some (tCmpB f),fun {q} hq {X c} g {e x} h=>by
 rw[Option.bind_eq_some_iff]at h
 obtain⟨f,hf,h⟩:=h
 cases h
 exact (r.ok hq g hf).2⟩
def rCmp (o:CmpOp) (f:D->D->M D) (h:CmU o f):RuC:=⟨fun q c e=>match e with
 | .Compare a [op] [b] _=>if op=o/\nsE b=true then (q.e c a).bind fun fa=>(q.e c b).bind fun fb=>some (c2 f fa fb) else none
 | _=>none,fun {q} hq {X c} g {e r} z=>by
 split at z
 ·simp only[Option.ite_none_right_eq_some,Option.bind_eq_some_iff]at z
  obtain⟨⟨rfl,hb0⟩,fa,ha,fb,hb,z⟩:=z
  cases z
  exact⟨Qdb (h g.hu) (hq.e g ha) (hq.e g hb) (Qhh hb0),Qee (h g.hu) (hq.e g ha) (hq.e g hb) (Qhh hb0)⟩
 ·cases z⟩
def rCmpH (t:Nat) (o:CmpOp) (f:D->D->M D) (h:CmU o f):RuC:=⟨fun q c e=>match e with
 | .Compare a [op] [b] p=>if c.tag p t=true then (rCmp o f h).f q c (.Compare a [op] [b] p) else none
 | _=>none,fun {q} hq {X c} g {e r} z=>by
 split at z
 ·rw[Option.ite_none_right_eq_some]at z
  exact (rCmp o f h).ok hq g z.2
 ·cases z⟩
def rChain (o:CmpOp) (f:D->D->M D) (h:CmU o f) (o':CmpOp) (f':D->D->M D) (h':CmU o' f'):RuC:=⟨fun q c e=>match e with
 | .Compare a [op,op'] [b,d] _=>if op=o/\op'=o'/\nsE d=true then (q.e c a).bind fun fa=>(q.e c b).bind fun fb=>(q.e c d).bind fun fc=>some (cChain f f' fa fb fc) else none
 | _=>none,fun {q} hq {X c} g {e r} z=>by
 split at z
 ·simp only[Option.ite_none_right_eq_some,Option.bind_eq_some_iff]at z
  obtain⟨⟨rfl,rfl,hb0⟩,fa,ha,fb,hb,fc,hc,z⟩:=z
  cases z
  exact⟨Qeo (h g.hu) (h' g.hu) (hq.e g ha) (hq.e g hb) (hq.e g hc) (show behindInMarks _ _=false from Qhh hb0),Qep (h g.hu) (h' g.hu) (hq.e g ha) (hq.e g hb) (hq.e g hc) (show behindInMarks _ _=false from Qhh hb0)⟩
 ·cases z⟩
def rAnd:RuE:=⟨fun q c e=>match e with
 | .BoolOp .And [a,b] _=>(q.e c a).bind fun fa=>(q.e c b).bind fun fb=>some (cAnd fa fb)
 | .BoolOp .And (a::b::d::r) p=>(q.e c a).bind fun fa=>(q.e c (.BoolOp .And (b::d::r) p)).bind fun fb=>some (cAnd fa fb)
 | _=>none,fun {q} hq {X c} g {e r} z=>by
 split at z
 ·simp only[Option.bind_eq_some_iff]at z
  obtain⟨fa,ha,fb,hb,z⟩:=z
  cases z
  exact Qel (hq.e g ha) (Qek (hq.e g hb))
 ·simp only[Option.bind_eq_some_iff]at z
  obtain⟨fa,ha,fb,hb,z⟩:=z
  cases z
  exact Qel (hq.e g ha) (hq.e g hb)
 ·cases z⟩
def rNot:RuE:=⟨fun q c e=>match e with
 | .UnaryOp .Not a _=>(q.e c a).bind fun fa=>some (cNot fa)
 | _=>none,fun {q} hq {X c} g {e r} z=>by
 split at z
 ·simp only[Option.bind_eq_some_iff]at z
  obtain⟨fa,ha,z⟩:=z
  cases z
  exact Qem (hq.e g ha)
 ·cases z⟩
def rNeg:RuE:=⟨fun q c e=>match e with
 | .UnaryOp .USub a _=>(q.e c a).bind fun fa=>some (c1 negD fa)
 | _=>none,fun {q} hq {X c} g {e r} z=>by
 split at z
 ·simp only[Option.bind_eq_some_iff]at z
  obtain⟨fa,ha,z⟩:=z
  cases z
  exact QfL QfK (hq.e g ha)
 ·cases z⟩
def rTup:RuE:=⟨fun q c e=>match e with
 | .Tuple es _ _=>(argC q c es).bind fun ca=>some (cTup ca)
 | _=>none,fun {q} hq {X c} g {e r} z=>by
 split at z
 ·simp only[Option.bind_eq_some_iff]at z
  obtain⟨ca,ha,z⟩:=z
  cases z
  exact Qd3 (Qhj hq g ha).1
 ·cases z⟩
def rTmpSub:RuE:=⟨fun q c e=>match e with
 | .Subscript a b _=>if slE b=true then (q.l c a).bind fun fa=>(q.e c b).bind fun fb=>some (cTmpSub fa fb) else none
 | _=>none,fun {q} hq {X c} g {e r} z=>by
 split at z
 ·simp only[Option.ite_none_right_eq_some,Option.bind_eq_some_iff]at z
  obtain⟨hs,fa,ha,fb,hb,z⟩:=z
  cases z
  exact Qea (hq.l g ha) (hq.e g hb) (plix hs)
 ·cases z⟩
def rSub:RuE:=⟨fun q c e=>match e with
 | .Subscript a b _=>if slE b=true then (q.e c a).bind fun fa=>(q.e c b).bind fun fb=>some (c2 subsD fa fb) else none
 | _=>none,fun {q} hq {X c} g {e r} z=>by
 split at z
 ·simp only[Option.ite_none_right_eq_some,Option.bind_eq_some_iff]at z
  obtain⟨hs,fa,ha,fb,hb,z⟩:=z
  cases z
  exact Qd9 g.hu (hq.e g ha) (hq.e g hb) (plix hs)
 ·cases z⟩
abbrev Few (X:Cx) (cpos:Pos) (es:List Expr):Prop:=((backTo cpos (starEach es X.env)).all (fun x => !x.1) && (backToKw cpos (keywordEach [] X.env)).all (fun x=>x.1.isSome) && decide (es.length + ([]:List Keyword).length + (if ([]:List Keyword).isEmpty then 0 else 1) < 30))=true
theorem few1 {X:Cx}{cpos:Pos}{es:List Expr} (h:es.all plE=true) (hl:es.length < 30):Few X cpos es:=by
 unfold Few
 rw[Qhe h]
 exact (Bool.and_eq_true _ _).mpr ⟨rfl,decide_eq_true hl⟩
def meth1 (x : String) (f : CE -> CE -> CE) (ok : RC -> Pos -> Bool) (h : ∀ {X : Cx} {o e : Expr} {fa fb : CE} {apos cpos : Pos}, X.A.units + 60 < cLine -> SE X o fa -> SE X e fb -> attributeBase o (Str.ofString x) X.env (eval o X.env) = eval o X.env -> Few X cpos [e] -> (apos.endLine == cpos.line) = true ->
  starEach [e] X.env=(false,eval e X.env)::starEach [] X.env->(backTo cpos (starEach [] X.env)).any (·.1)=false->SE X (.Call (.Attribute o (Str.ofString x) apos) [e] [] cpos) (f fa fb)):RuE:=
 ⟨fun q c e=>match e with
 | .Call (.Attribute o y ap) [a] [] cp=>if y=Str.ofString x/\baE o=true/\plE a=true/\ok c cp=true/\(ap.endLine == cp.line)=true then (q.e c o).bind fun fa=>(q.e c a).bind fun fb=>some (f fa fb) else none
 | _=>none,fun {q} hq {X c} g {e r} z=>by
 split at z
 ·simp only[Option.ite_none_right_eq_some,Option.bind_eq_some_iff]at z
  obtain⟨⟨rfl,hb,hp,_,hl⟩,fa,ha,fb,hb',z⟩:=z
  cases z
  exact h g.hu (hq.e g ha) (hq.e g hb') (Qhi hb) (few1 (by simp[hp]) (by simp)) hl (Qhc hp) rfl
 ·cases z⟩
def rCall:RuE:=⟨fun q c e=>match e with
 | .Call (.Name x _) (a::as) [] _=>(c.G.lookup x).bind fun r=>if c.glo x=true/\nokB x=true/\r.k<=c.k/\r.n=(a::as).length then (argC q c (a::as)).bind fun ca=>some (cCall r.g ca) else none
 | _=>none,fun {q} hq {X c} g {e r} z=>by
 split at z
 ·simp only[Option.ite_none_right_eq_some,Option.bind_eq_some_iff]at z
  obtain⟨rf,hf,⟨h1,h2,h3,h4⟩,ca,ha,z⟩:=z
  cases z
  obtain⟨f,fd,m,F,kp,B,_⟩:=(g.G _ _ hf).ex
  obtain⟨x,y,l⟩:=Qhj hq g ha
  rw[List.all_cons,Bool.and_eq_true]at y
  exact QgV g.S (beq_iff_eq.mp h1) F (g.hr.mono h3) m kp B (Qg9 h2) x (by rw[h4];exact l) (Qhc y.1) (Qhd y.2)
 ·cases z⟩
def RC.bl (c:RC) (x:Str):Bool:=c.glo x && c.Z.contains x
theorem Good.gl {X:Cx}{c:RC} (g:Good X c) {x:Str} (h:c.bl x=true):Gl X x/\X.mg x=none:=by
 unfold RC.bl at h
 rw[Bool.and_eq_true]at h
 exact⟨g.S.glo _ (beq_iff_eq.mp h.1),g.Z _ h.2⟩
def bltTmp (x:String) (f:List D->M D) (h:∀ {X:Cx}{e:Expr}{ca:CA}{p pos:Pos},X.calm=true->Gl X (Str.ofString x)->X.mg (Str.ofString x)=none->SL X e ca->starEach [e] X.env=[(false,eval e X.env)]->SE X (.Call (.Name (Str.ofString x) p) [e] [] pos) (cTmp f ca)):RuE:=
 ⟨fun q c e=>match e with
 | .Call (.Name y _) [a] [] _=>if y=Str.ofString x/\c.bl y=true/\plE a=true then (q.l c a).bind fun fa=>some (cTmp f fa) else none
 | _=>none,fun {q} hq {X c} g {e r} z=>by
 split at z
 ·simp only[Option.ite_none_right_eq_some,Option.bind_eq_some_iff]at z
  obtain⟨⟨rfl,hb,hp⟩,fa,ha,z⟩:=z
  cases z
  exact h g.S.calm (g.gl hb).1 (g.gl hb).2 (hq.l g ha) (Qhc hp)
 ·cases z⟩
def blt1 (x:String) (ok:RC->Pos->Bool) (f:D->M D) (h:∀ {X:Cx}{e:Expr}{fa:CE}{p pos:Pos},X.calm=true->Gl X (Str.ofString x)->X.mg (Str.ofString x)=none->SE X e fa->starEach [e] X.env=[(false,eval e X.env)]->SE X (.Call (.Name (Str.ofString x) p) [e] [] pos) (c1 f fa)):RuE:=
 ⟨fun q c e=>match e with
 | .Call (.Name y _) [a] [] p=>if y=Str.ofString x/\c.bl y=true/\plE a=true/\ok c p=true then (q.e c a).bind fun fa=>some (c1 f fa) else none
 | _=>none,fun {q} hq {X c} g {e r} z=>by
 split at z
 ·simp only[Option.ite_none_right_eq_some,Option.bind_eq_some_iff]at z
  obtain⟨⟨rfl,hb,hp,_⟩,fa,ha,z⟩:=z
  cases z
  exact h g.S.calm (g.gl hb).1 (g.gl hb).2 (hq.e g ha) (Qhc hp)
 ·cases z⟩
def rIsi (y:String) (T:TyTab y) (h:bootBuiltins (Str.ofString y)=some (.type y)) (n1:Str.ofString y≠Str.ofString "__name__") (n2:(Str.ofString y == Str.ofString "__debug__")=false):RuE:=
 ⟨fun q c e=>match e with
 | .Call (.Name z _) [a,.Name x _] [] p=>if z=Str.ofString "isinstance"/\x=Str.ofString y/\c.bl z=true/\c.bl x=true/\plE a=true then (q.e c a).bind fun fa=>some (c1 (isInst [y]) fa) else none
 | _=>none,fun {q} hq {X c} g {e r} z=>by
 split at z
 ·simp only[Option.ite_none_right_eq_some,Option.bind_eq_some_iff]at z
  obtain⟨⟨rfl,rfl,hb,hb2,hp⟩,fa,ha,z⟩:=z
  cases z
  exact Qfl T (g.gl hb).1 (g.gl hb).2 (g.gl hb2).1 (g.gl hb2).2 h (hq.e g ha) (by nofun) n1 n2 (Qhc hp) rfl rfl
 ·cases z⟩
section
def lLst:RuL:=⟨fun q c e=>match e with
 | .List es _=>(argC q c es).bind fun ca=>some (aDisp ca)
 | _=>none,fun {q} hq {X c} g {e r} z=>by
 split at z
 ·simp only[Option.bind_eq_some_iff]at z
  obtain⟨ca,ha,z⟩:=z
  cases z
  exact Qd4 (Qhj hq g ha).1
 ·cases z⟩
def lSlice:RuL:=⟨fun q c e=>match e with
 | .Subscript a (.Slice lo hi none _) p=>if c.tag p 1=false then (q.e c a).bind fun fa=>(optC q c lo).bind fun fl=>(optC q c hi).bind fun fh=>some (aSlice fa fl fh) else none
 | _=>none,fun {q} hq {X c} g {e r} z=>by
 split at z
 ·simp only[Option.ite_none_right_eq_some,Option.bind_eq_some_iff]at z
  obtain⟨_,fa,ha,fl,hl,fh,hh,z⟩:=z
  cases z
  exact QfB (hq.e g ha) (Qhk hq g hl) (Qhk hq g hh)
 ·cases z⟩
def tgN:Nat->Expr->List Str
 | _,.Name x _=>[x]
 | n + 1,.Tuple es _ _=>es.flatMap (tgN n)
 | _,_=>[]
def ifsC (q:Rec) (c:RC):List Expr->Option CT
 | []=>some tTrue
 | [t]=>q.t c t
 | _=>none
theorem Qhm {q:Rec} (hq:RecOk q) {X:Cx}{c:RC} (g:Good X c) {es:List Expr}{f:CT} (h:ifsC q c es=some f):SIfs X es f:=by
 unfold ifsC at h
 split at h
 ·cases h;exact QeO
 ·exact QeP (hq.t g h)
 ·cases h
def RC.inn (c:RC) (sc:Scope) (own:List Str):RC:={ c with sc:=sc,N:=own++c.N.filter fun x=>sc.names.lookup x == some .free,top:=false }
def RC.ix (c:RC) (sc:Scope):List Nat:=(c.N.filter fun x=>sc.names.lookup x == some .free).map c.N.idxOf
def RC.cok (c:RC) (sc:Scope) (own:List Str) (b:Expr):Prop:=compChk c.sc sc=true/\namesChk c.N sc (c.inn sc own).N own.length (c.ix sc)=true/\(c.inn sc own).N.Nodup/\nsE b=true
instance (c:RC) (sc:Scope) (own:List Str) (b:Expr):Decidable (c.cok sc own b):=by unfold RC.cok;infer_instance
theorem Good.inn {X:Cx}{c:RC} (g:Good X c) {sc:Scope}{own:List Str}{b:Expr} (h:c.cok sc own b) (fp:List Addr) (s:Shared) (H:Hp):Good (cxC X (c.inn sc own).N sc fp s H) (c.inn sc own):=
 ⟨QgM g.S.calm,rfl,h.2.2.1,g.hr,fun x r z=>⟨(g.G x r z).ex⟩,g.Z,g.C,PassesOwn.never,fun z=>nomatch z⟩
def cmpC (q:Rec) (c:RC):Expr->Option (Nat × List Nat × CI × CG × CT × CE)
 | .ListComp e [⟨tg,b,ifs,0⟩] sc _=>
  if c.cok sc (tgN 8 tg).eraseDups b then
   (q.i c tg b).bind fun ci=>(q.g (c.inn sc (tgN 8 tg).eraseDups) tg).bind fun g=>(ifsC q (c.inn sc (tgN 8 tg).eraseDups) ifs).bind fun t=>(q.e (c.inn sc (tgN 8 tg).eraseDups) e).bind fun f=>
    some ((tgN 8 tg).eraseDups.length,c.ix sc,ci,g,t,f)
  else none
 | _=>none
def lComp:RuL:=⟨fun q c e=>(cmpC q c e).bind fun p=>some (aComp p.1 p.2.1 p.2.2.1 p.2.2.2.1 p.2.2.2.2.1 p.2.2.2.2.2),fun {q} hq {X c} g {e r} z=>by
 rw[Option.bind_eq_some_iff]at z
 obtain⟨p,hp,z⟩:=z
 cases z
 unfold cmpC at hp
 split at hp
 ·simp only[Option.ite_none_right_eq_some,Option.bind_eq_some_iff]at hp
  obtain⟨hk,ci,hi,gg,hg,t,ht,f,hf,z⟩:=hp
  cases z
  exact QeR g.S.calm (QgN g.S hk.1) (QgO g.N hk.2.1) (hq.i g hi) (fun fp s H=>⟨hq.g (g.inn hk fp s H) hg,Qhm hq (g.inn hk fp s H) ht,hq.e (g.inn hk fp s H) hf⟩) (Qhg hk.2.2.2)
 ·cases hp⟩
def tAnds (q:Rec) (c:RC):List Expr->Option CT
 | []=>none
 | [a]=>q.t c a
 | a::b::r=>(q.t c a).bind fun fa=>(tAnds q c (b::r)).bind fun fb=>some (tAndB fa fb)
theorem Qhn {q:Rec} (hq:RecOk q) {X:Cx}{c:RC} (g:Good X c) {pos:Pos}:∀ {es:List Expr}{f:CT},tAnds q c es=some f->PW X (.BoolOp .And es pos) (ttOf X.K f)
 | [],f,h=>nomatch h
 | [a],f,h=>Qef (hq.t g h)
 | a::b::r,f,h=>by
  unfold tAnds at h
  simp only[Option.bind_eq_some_iff]at h
  obtain⟨fa,ha,fb,hb,z⟩:=h
  cases z
  exact Qeh (hq.t g ha) (Qhn hq g hb)
def tOrs (q:Rec) (c:RC):List Expr->Option CT
 | []=>none
 | [a]=>q.t c a
 | a::b::r=>(q.t c a).bind fun fa=>(tOrs q c (b::r)).bind fun fb=>some (tOrB fa fb)
theorem Qho {q:Rec} (hq:RecOk q) {X:Cx}{c:RC} (g:Good X c) {pos:Pos}:∀ {es:List Expr}{f:CT},tOrs q c es=some f->PW X (.BoolOp .Or es pos) (ttOf X.K f)
 | [],f,h=>nomatch h
 | [a],f,h=>Qeg (hq.t g h)
 | a::b::r,f,h=>by
  unfold tOrs at h
  simp only[Option.bind_eq_some_iff]at h
  obtain⟨fa,ha,fb,hb,z⟩:=h
  cases z
  exact Qei (hq.t g ha) (Qho hq g hb)
def tAnd:RuT:=⟨fun q c e=>match e with
 | .BoolOp .And es _=>tAnds q c es
 | _=>none,fun {q} hq {X c} g {e r} z=>by
 split at z
 ·exact L2.PW.pt (Qhn hq g z)
 ·cases z⟩
def tOr:RuT:=⟨fun q c e=>match e with
 | .BoolOp .Or es _=>tOrs q c es
 | _=>none,fun {q} hq {X c} g {e r} z=>by
 split at z
 ·exact L2.PW.pt (Qho hq g z)
 ·cases z⟩
def tNot:RuT:=⟨fun q c e=>match e with
 | .UnaryOp .Not a _=>(q.t c a).bind fun f=>some (tNotB f)
 | _=>none,fun {q} hq {X c} g {e r} z=>by
 split at z
 ·simp only[Option.bind_eq_some_iff]at z
  obtain⟨fa,ha,z⟩:=z
  cases z
  exact Qej (hq.t g ha)
 ·cases z⟩
def tVl:RuT:=⟨fun q c e=>if tvE e=true then (q.e c e).bind fun f=>some (tVal f) else none,fun {q} hq {X c} g {e r} z=>by
 simp only[Option.ite_none_right_eq_some,Option.bind_eq_some_iff]at z
 obtain⟨hv,fa,ha,z⟩:=z
 cases z
 exact Qed (hq.e g ha) (tv0 hv)⟩
def iRange1:RuI:=⟨fun q c tg e=>match e with
 | .Call (.Name x _) [a] [] _=>if x=Str.ofString "range"/\c.bl x=true/\plE a=true then (q.e c a).bind fun f=>some (MM.iRng1 f) else none
 | _=>none,fun {q} hq {X c} g {tg e r} z=>by
 split at z
 ·simp only[Option.ite_none_right_eq_some,Option.bind_eq_some_iff]at z
  obtain⟨⟨rfl,h1,hp⟩,fa,ha,z⟩:=z
  cases z
  exact QeL (g.gl h1).1 (g.gl h1).2 (hq.e g ha) (Qhc hp)
 ·cases z⟩
def iSeqr:RuI:=⟨fun q c tg e=>(q.e c e).bind fun f=>some (iSeq f),fun {q} hq {X c} g {tg e r} z=>by
 rw[Option.bind_eq_some_iff]at z
 obtain⟨fa,ha,z⟩:=z
 cases z
 exact QeK (hq.e g ha)⟩
def tgC (c:RC) (x:Str):Option Nat:=if c.N[c.N.idxOf x]?=some x/\(c.sc.names.lookup x=some .local\/c.sc.names.lookup x=some .cell) then some (c.N.idxOf x) else none
theorem Qhp {X:Cx}{c:RC} (g:Good X c) {x:Str}{i:Nat} (h:tgC c x=some i):X.N[i]?=some x/\∃ k,c.sc.names.lookup x=some k/\(k=.local\/k=.cell):=by
 unfold tgC at h
 rw[Option.ite_none_right_eq_some]at h
 obtain⟨⟨h1,h2⟩,h4⟩:=h
 cases h4
 refine⟨by rw[g.N];exact h1,?_⟩
 rcases h2 with h2 | h2
 ·exact⟨_,h2,.inl rfl⟩
 ·exact⟨_,h2,.inr rfl⟩
def gVr:RuG:=⟨fun q c e=>match e with
 | .Name x _=>(tgC c x).bind fun i=>some (gVar i)
 | _=>none,fun {q} hq {X c} g {e r} z=>by
 split at z
 ·rw[Option.bind_eq_some_iff]at z
  obtain⟨i,hi,z⟩:=z
  cases z
  obtain⟨h1,k,h2,h3⟩:=Qhp g hi
  exact QgQ g.S _ g.nd h1 h2 h3
 ·cases z⟩
def tgs (q:Rec) (c:RC):List Expr->Option (List D->Loc->M Loc)
 | []=>some gsNil
 | e::es=>if plE e=true then (q.g c e).bind fun a=>(tgs q c es).bind fun b=>some (gsCons a b) else none
theorem Qhq {q:Rec} (hq:RecOk q) {X:Cx}{c:RC} (g:Good X c):∀ {es:List Expr}{f:List D->Loc->M Loc},tgs q c es=some f->SGs X es f/\(assignEach es X.env).length=es.length/\(assignEach es X.env).findIdx? (·.1)=none
 | [],f,h=>by cases h;exact⟨Qer,rfl,rfl⟩
 | e::es,f,h=>by
  unfold tgs at h
  simp only[Option.ite_none_right_eq_some,Option.bind_eq_some_iff]at h
  obtain⟨hp,fa,ha,fb,hb,z⟩:=h
  cases z
  obtain⟨a,b,d⟩:=Qhq hq g hb
  have eq:assignEach (e::es) X.env=(false,assign e X.env)::assignEach es X.env:=by
   cases e<;>first | rfl | exact nomatch hp
  refine⟨Qes (hq.g g ha) a (by rw[eq];rfl),by rw[eq];exact congrArg (· + 1) b,?_⟩
  rw[eq,List.findIdx?_cons,d]
  rfl
def gTupr:RuG:=⟨fun q c e=>match e with
 | .Tuple es _ _=>(tgs q c es).bind fun f=>some (gTupD es.length f)
 | _=>none,fun {q} hq {X c} g {e r} z=>by
 split at z
 ·rw[Option.bind_eq_some_iff]at z
  obtain⟨f,hf,z⟩:=z
  cases z
  obtain⟨a,b,d⟩:=Qhq hq g hf
  exact Qet g.S.calm a b d
 ·cases z⟩
def gSubr:RuG:=⟨fun q c e=>match e with
 | .Subscript o i _=>if slE i=true then (q.e c o).bind fun f=>(q.e c i).bind fun h=>some (gSubD f h) else none
 | _=>none,fun {q} hq {X c} g {e r} z=>by
 split at z
 ·simp only[Option.ite_none_right_eq_some,Option.bind_eq_some_iff]at z
  obtain⟨hs,fa,ha,fb,hb,z⟩:=z
  cases z
  rename_i o i p
  exact QeE g.hu (hq.e g ha) (hq.e g hb) (fun v=>by cases i<;>first | rfl | exact nomatch hs)
 ·cases z⟩
def sRetr:RuS:=⟨fun q c e=>match e with
 | .Return (some a) _=>(q.e c a).bind fun f=>some (sRet f)
 | _=>none,fun {q} hq {X c} g {e r} z=>by
 split at z
 ·rw[Option.bind_eq_some_iff]at z
  obtain⟨f,hf,z⟩:=z
  cases z
  exact Qew (hq.e g hf)
 ·cases z⟩
def sExpr:RuS:=⟨fun q c e=>match e with
 | .Expr a _=>if ncE a=true then (q.e c a).bind fun f=>some (sExp f) else none
 | _=>none,fun {q} hq {X c} g {e r} z=>by
 split at z
 ·simp only[Option.ite_none_right_eq_some,Option.bind_eq_some_iff]at z
  obtain⟨hn,f,hf,z⟩:=z
  cases z
  exact Qex (hq.e g hf) (Qhf hn)
 ·cases z⟩
def sIfr:RuS:=⟨fun q c e=>match e with
 | .If t a b _=>(q.t c t).bind fun ft=>(blkC q c a).bind fun fa=>(blkC q c b).bind fun fb=>some (sIf ft fa fb)
 | _=>none,fun {q} hq {X c} g {e r} z=>by
 split at z
 ·simp only[Option.bind_eq_some_iff]at z
  obtain⟨ft,ht,fa,ha,fb,hb,z⟩:=z
  cases z
  exact Qey (hq.t g ht) (Qhl hq g ha) (Qhl hq g hb)
 ·cases z⟩
def sForr:RuS:=⟨fun q c e=>match e with
 | .For tg it a [] _=>if nsE it=true then (q.i c tg it).bind fun fi=>(q.g c tg).bind fun fg=>(blkC q c a).bind fun fa=>some (sFor fi fg fa) else none
 | _=>none,fun {q} hq {X c} g {e r} z=>by
 split at z
 ·simp only[Option.ite_none_right_eq_some,Option.bind_eq_some_iff]at z
  obtain⟨hn,fi,hi,fg,hg,fa,ha,z⟩:=z
  cases z
  exact QeM g.ps g.S.calm (hq.i g hi) (hq.g g hg) (Qhl hq g ha) (Qhg hn)
 ·cases z⟩
def sNmr:RuS:=⟨fun q c e=>match e with
 | .Assign [.Name x _] a _=>if ncE a=true\/(c.top=true/\c.sc.names.lookup x=some .cell) then (tgC c x).bind fun i=>(q.e c a).bind fun f=>some (sAsg (gVar i) f) else none
 | _=>none,fun {q} hq {X c} g {e r} z=>by
 split at z
 ·simp only[Option.ite_none_right_eq_some,Option.bind_eq_some_iff]at z
  obtain⟨hn,i,hi,f,hf,z⟩:=z
  cases z
  obtain⟨h1,k,h2,h3⟩:=Qhp g hi
  refine QgR g.S _ g.nd h1 h2 (hq.e g hf) h3 ?_
  rcases hn with hn | ⟨ht,hc⟩
  ·exact Qhf hn
  ·rename_i x p a s
   have e:(X.env.kindOf x == some NameKind.local)=false:=by rw[(g.kd ht).2 x,hc];rfl
   cases a<;>first | rfl | (unfold swapsWith;simp only[e,Bool.and_false,Bool.false_and])
 ·cases z⟩
theorem Qhr {X : Cx} {c : RC} (g : Good X c) {e : Expr} {gs : List Comprehension} {sc : Scope} {p p' : Pos} {y : Str} {n : Nat} (ht : c.top = true) (hl : c.sc.names.lookup y = some .local) (hp : (p'.line == p.line) = true) (ha : (sc.names.any fun z => z.1 == y && (z.2 == .local || z.2 == .cell)) = false) :
  swapsWith (.ListComp e gs sc p) (some (.Name y p')) n X.env=pure true:=by
 have e1:(X.env.kindOf y == some NameKind.local)=true:=by rw[(g.kd ht).2 y,hl];rfl
 have e2:(X.env.blockKind == ScopeKind.function)=true:=by rw[(g.kd ht).1];rfl
 show (pure (X.env.blockKind == ScopeKind.function && X.env.kindOf y == some NameKind.local && p'.line == p.line && !(sc.names.any fun z=>z.1 == y && (z.2 == .local || z.2 == .cell))):Sem Bool)=pure true
 rw[e1,e2,hp,ha]
 rfl
def sCompr:RuS:=⟨fun q c s=>match s with
 | .Assign [.Name y p'] (.ListComp e gs sc p) _ => if c.top = true /\ c.sc.names.lookup y = some .local /\ (p'.line == p.line) = true /\ (sc.names.any fun z => z.1 == y && (z.2 == .local || z.2 == .cell)) = false then
   (tgC c y).bind fun i=>(cmpC q c (.ListComp e gs sc p)).bind fun r=>some (sAsg (gVar i) (cKeep (aComp r.1 r.2.1 r.2.2.1 r.2.2.2.1 r.2.2.2.2.1 r.2.2.2.2.2))) else none
 | _=>none,fun {q} hq {X c} g {s r} z=>by
 split at z
 ·simp only[Option.ite_none_right_eq_some,Option.bind_eq_some_iff]at z
  obtain⟨⟨ht,hl,hp,ha⟩,i,hi,w,hw,z⟩:=z
  cases z
  obtain⟨h1,k,h2,h3⟩:=Qhp g hi
  unfold cmpC at hw
  split at hw
  ·rename_i he
   cases he
   simp only[Option.ite_none_right_eq_some,Option.bind_eq_some_iff]at hw
   obtain⟨hk,ci,hi',gg,hg,t,ht',f,hf,z⟩:=hw
   cases z
   refine QeS g.nd h1 (g.S.loc _ _ h2 h3).1 (g.S.loc _ _ h2 h3).2 g.S.calm (QgN g.S hk.1) (QgO g.N hk.2.1) (hq.i g hi') (fun fp s H=>⟨hq.g (g.inn hk fp s H) hg,Qhm hq (g.inn hk fp s H) ht',hq.e (g.inn hk fp s H) hf⟩) ?_ (Qhg hk.2.2.2)
   exact Qhr g ht hl hp ha
  ·cases hw
 ·cases z⟩
def sSubr:RuS:=⟨fun q c s=>match s with
 | .Assign [.Subscript o i p] a _=>(q.e c a).bind fun f=>(q.g c (.Subscript o i p)).bind fun h=>some (sAsg h f)
 | _=>none,fun {q} hq {X c} g {s r} z=>by
 split at z
 ·simp only[Option.bind_eq_some_iff]at z
  obtain⟨f,hf,h,hh,z⟩:=z
  cases z
  rename_i o i p a s
  exact QeC (hq.e g hf) (hq.g g hh) (by cases a<;>rfl) (by cases a<;>rfl) rfl
 ·cases z⟩
def ntE:Expr->Bool
 | .Tuple _ _ _=>false
 | _=>true
def sTupr:RuS:=⟨fun q c s=>match s with
 | .Assign [.Tuple es k p] a _=>if ntE a=true then (q.e c a).bind fun f=>(q.g c (.Tuple es k p)).bind fun h=>some (sAsg h f) else none
 | _=>none,fun {q} hq {X c} g {s r} z=>by
 split at z
 ·simp only[Option.ite_none_right_eq_some,Option.bind_eq_some_iff]at z
  obtain⟨hn,f,hf,h,hh,z⟩:=z
  cases z
  rename_i o i p a s
  exact QeC (hq.e g hf) (hq.g g hh) (by cases a<;>rfl) (by cases a<;>first | rfl | exact nomatch hn) rfl
 ·cases z⟩
section
variable {P:Program}{w:World}{K:PySem.W.Frag}{mg:Str->Option Value}{base:Heap}
variable (P w K mg base) in
def EnvOk (l:List (Str × RF)):Prop:=∀ x r,l.lookup x=some r->GF P w K mg base x r
theorem Qhs:EnvOk P w K mg base []:=fun _ _ h=>nomatch h
theorem Qht {l : List (Str × RF)} {x : Str} {r : RF} {f : Addr} {fd : FuncData} (m : mg x = some (.ref f)) (F : FnOk P w K mg base CX0 r.k f fd r.ps (spOf K r.n r.g)) (kp : PySem.W.keepIn K (.ref f) = true) (b : Binds K fd r.ps []) (kb : r.kw = true -> KwBinds K fd r.ps) (h : EnvOk P w K mg base l) :
  EnvOk P w K mg base ((x,r)::l):=fun y s z=>by
 by_cases e:y=x
 ·subst e
  rw[List.lookup_cons_self]at z
  cases z
  exact⟨f,fd,m,F,kp,b,kb⟩
 ·rw[QdB e]at z
  exact h y s z
theorem Qhu (R : Rules) (j : Nat) {x qual : Str} {sd : Stmt} {f : Addr} {fd : FuncData} {N ps : List Str} {k n m : Nat} {body : CS} {G : List (Str × RF)} {Z : List Str} {C : List (Str × D)} {H : List (Nat × Nat × Nat)} (F : Fun K x qual sd f fd) (S : FnScope N ps (defScope sd)) (hn : ps.length = n) (hm : N.length = m)
  (hG:EnvOk P w K mg base G) (hZ:∀ x,Z.contains x=true->mg x=none) (hC:∀ x d,C.lookup x=some d->∃ v u,mg x=some u/\RelV v u/\∀ ρ H,Rep K ρ H v d)
  (hb:blkC (recN R j) ⟨defScope sd,N,k,G,Z,C,H,true⟩ (defBody sd)=some body):FnOk P w K mg base CX0 (k + 1) f fd ps (spOf K n (runDef m body)):=
 QgX F S hn hm fun cdv A outer s Hp E hr=>Qhl (c:=⟨defScope sd,N,k,G,Z,C,H,true⟩) (Qhb R j) ⟨QgL,rfl,S.nd,hr,hG,hZ,hC,PassesOwn.never,fun _=>⟨by show (if (defScope sd).kind.isAnnotationScope=true then _ else (defScope sd).kind)=_;rw[S.kind];rfl,fun _=>rfl⟩⟩ hb
end
end
section
variable {K:PySem.W.Frag}{mg:Str->Option Value}
def ZOk (mg:Str->Option Value) (Z:List Str):Prop:=∀ x,Z.contains x=true->mg x=none
theorem z_nil:ZOk mg []:=fun _ h=>nomatch h
theorem z_cons {a:Str}{l:List Str} (h:mg a=none) (t:ZOk mg l):ZOk mg (a::l):=fun x z=>by
 rw[List.contains_cons,Bool.or_eq_true]at z
 rcases z with z | z
 ·rw[beq_iff_eq.mp z];exact h
 ·exact t x z
def COk (K:PySem.W.Frag) (mg:Str->Option Value) (C:List (Str × D)):Prop:=∀ x d,C.lookup x=some d->∃ v u,mg x=some u/\RelV v u/\∀ ρ H,Rep K ρ H v d
theorem c_nil:COk K mg []:=fun _ _ h=>nomatch h
theorem Qhv {a:Str}{l:List (Str × D)}{v:V}{d:D}{u:Value} (m:mg a=some u) (r:RelV v u) (q:∀ ρ H,Rep K ρ H v d) (t:COk K mg l):COk K mg ((a,d)::l):=fun x e z=>by
 by_cases h:x=a
 ·subst h
  rw[List.lookup_cons_self]at z
  cases z
  exact⟨v,u,m,r,q⟩
 ·rw[QdB h]at z
  exact t x e z
theorem c_str {a y:Str}{l:List (Str × D)}{k:Tok} (m:mg a=some (.str y k)) (t:COk K mg l):COk K mg ((a,.str y)::l):=Qhv (v:=.str y) m ⟨k,rfl⟩ (fun _ _=>.str _) t
theorem c_int {a:Str}{i:Int}{l:List (Str × D)}{k:Tok} (m:mg a=some (.int i k)) (t:COk K mg l):COk K mg ((a,.int i)::l):=Qhv (v:=.int i) m ⟨k,rfl⟩ (fun _ _=>.int _) t
end
section
theorem Qhw {x:Str} (h:nokB x=true):x≠"__name__":=(Qg9 h).n
def bLenT:RuE:=bltTmp "len" lenL fun _ g m a s=>QeV Qe0 g m (by nofun) a (Qhw (by nofun)) (by nofun) s
def bMaxT:RuE:=bltTmp "max" maxD fun c g m a s=>QeV (Qfe c) g m (by nofun) a (Qhw (by nofun)) (by nofun) s
def bAllT:RuE:=bltTmp "all" allD fun c g m a s=>QeV (Qfd c) g m (by nofun) a (Qhw (by nofun)) (by nofun) s
def bTupT:RuE:=bltTmp "tuple" tupL fun _ g m a s=>QeW Qe3 g m (by nofun) a (Qhw (by nofun)) (by nofun) s
abbrev noTag:RC->Pos->Bool:=fun _ _=>true
def bLen:RuE:=blt1 "len" noTag lenD fun _ g m a s=>QeT QeZ g m (by nofun) a (Qhw (by nofun)) (by nofun) s
def bInt:RuE:=blt1 "int" noTag intD fun _ g m a s=>QeU Qe1 g m (by nofun) a (Qhw (by nofun)) (by nofun) s
def bTuple:RuE:=blt1 "tuple" noTag tupleD fun _ g m a s=>QeU Qe2 g m (by nofun) a (Qhw (by nofun)) (by nofun) s
def bStr:RuE:=blt1 "str" noTag strD fun _ g m a s=>QeU QfO g m (by nofun) a (Qhw (by nofun)) (by nofun) s
def bIntT:RuE:=blt1 "int" (fun c p=>c.tag p 4) intTD fun _ g m a s=>QeU QfQ g m (by nofun) a (Qhw (by nofun)) (by nofun) s
def bIsiInt:RuE:=rIsi "int" Qfg (by nofun) (Qhw (by nofun)) (by nofun)
def bIsiBool:RuE:=rIsi "bool" Qfh (by nofun) (Qhw (by nofun)) (by nofun)
def bIsiTuple:RuE:=rIsi "tuple" Qfi (by nofun) (Qhw (by nofun)) (by nofun)
def mAppend:RuE:=meth1 "append" cAppend noTag fun _ o a b f l s p=>Qfx o a b f l s p
def mSplit:RuE:=meth1 "split" cSplit noTag fun _ o a b f l s p=>QfZ o a b f l s p
def mJoin:RuE:=meth1 "join" cJoin noTag fun _ o a b f l s p=>Qf0 o a b f l s p
def iStrr:RuI:=⟨fun q c tg e=>if c.tag e.pos 4=true then (q.e c e).bind fun f=>some (iStr f) else none,fun {q} hq {X c} g {tg e r} z=>by
 simp only[Option.ite_none_right_eq_some,Option.bind_eq_some_iff]at z
 obtain⟨_,fa,ha,z⟩:=z
 cases z
 exact Qf4 (hq.e g ha)⟩
end
section
variable {P:Program}{w:World}{K:PySem.W.Frag}{mg:Str->Option Value}{base:Heap}
def FnAt (K:PySem.W.Frag) (mg:Str->Option Value) (x:Str) (sd:Stmt):Prop:=∃ a fd,Fun K x x sd a fd/\mg x=some (.ref a)
theorem fnat {h : Heap} {x : Str} {sd : Stmt} {f : Addr} {od an : Option Addr} {sl : Array (Option Value)} {oc kV dc pm cd ct : Value} (X : K.In h) (G : h.Ns mainGlobals mg) (a : PySem.W.nsIn K mainGlobals x = some (some (.ref f)))
  (l:K.lookup f=some ⟨oc,od,.func (PySem.W.fnOf x x (defArgs sd) (defBody sd) (defScope sd) .none kV dc pm an cd ct),sl⟩) (c:PySem.W.codeIn K cd x=true) (k:PySem.W.keepIn K (.ref f)=true):FnAt K mg x sd:=
 ⟨f,_,Qcy (st:=sd) l c k,PySem.W.mg_of X G a⟩
def fscB (N P:List Str) (sc:Scope):Bool:=(sc.kind == .function) && (sc.isCoroutine == false) && (sc.isGenerator == false) && decide N.Nodup && (N.take P.length == P) && (P.all fun x=>sc.names.lookup x == some .local || sc.names.lookup x == some .cell) && (sc.names.all fun y=>y.2 != .free)
theorem Qhx {N P:List Str}{sc:Scope} (h:fscB N P sc=true):FnScope N P sc:=by
 unfold fscB at h
 simp only[Bool.and_eq_true,beq_iff_eq,decide_eq_true_eq,List.all_eq_true,Bool.or_eq_true,bne_iff_ne,ne_eq]at h
 obtain⟨⟨⟨⟨⟨⟨h1,h2⟩,h3⟩,h4⟩,h5⟩,h6⟩,h7⟩:=h
 exact⟨h1,h2,h3,h4,h5,h6,h7⟩
theorem Qhy (R : Rules) {r : List Str} {x : Str} {sd : Stmt} {f : Addr} {fd : FuncData} {ps : List Str} {k n m : Nat} {body : CS} {G : List (Str × RF)} {Z : List Str} {C : List (Str × D)} {H : List (Nat × Nat × Nat)} (F : Fun K x x sd f fd) (S : fscB (ps ++ r) ps (defScope sd) = true)
  (hb:blkC (recN R 40) ⟨defScope sd,ps++r,k,G,Z,C,H,true⟩ (defBody sd)=some body) (hG:EnvOk P w K mg base G) (hZ:ZOk mg Z) (hC:COk K mg C) (hn:ps.length=n) (hm:(ps++r).length=m):FnOk P w K mg base CX0 (k + 1) f fd ps (spOf K n (runDef m body)):=
 Qhu R 40 F (Qhx S) hn hm hG hZ hC hb
theorem Qhz (R : Rules) {r : List Str} {x : Str} {sd : Stmt} {ps : List Str} {k n m : Nat} {kw : Bool} {body : CS} {G : List (Str × RF)} {Z : List Str} {C : List (Str × D)} {H : List (Nat × Nat × Nat)} (F : FnAt K mg x sd) (S : fscB (ps ++ r) ps (defScope sd) = true)
  (b:∀ (kV doc pm:Value) (an:Option Addr) (cdv ct:Value) (us:List Value),us.length=ps.length->bindArgs (PySem.W.fnOf x x (defArgs sd) (defBody sd) (defScope sd) .none kV doc pm an cdv ct) { pos:=us }=pure (ps.zip us))
  (kb:kw=true->∀ (kV doc pm:Value) (an:Option Addr) (cdv ct:Value) (s:Shared) (ws:List Value),ws.length=ps.length->BindsTo s (PySem.W.fnOf x x (defArgs sd) (defBody sd) (defScope sd) .none kV doc pm an cdv ct) ⟨[],ps.zip ws⟩ (ps.zip ws))
  (hb:blkC (recN R 40) ⟨defScope sd,ps++r,k,G,Z,C,H,true⟩ (defBody sd)=some body) (hG:EnvOk P w K mg base G) (hZ:ZOk mg Z) (hC:COk K mg C) (hn:ps.length=n:=by rfl) (hm:(ps++r).length=m:=by rfl):EnvOk P w K mg base ((x,⟨n,k + 1,ps,kw,runDef m body⟩)::G):=by
 obtain⟨f,fd,F,hm'⟩:=F
 refine Qht hm' (Qhy R F S hb hG hZ hC hn hm) F.kp (F.binds b) (fun z=>?_) hG
 obtain⟨oc,od,kV,doc,pm,an,cdv,ct,osl,e,lk,hcd⟩:=F.ex
 intro s ws hl
 rw[e]
 exact kb z kV doc pm an cdv ct s ws hl
end
section
def bMinV:RuE:=blt1 "min" noTag (refL minD) fun c g m a s=>QeT (Qg8 (Qff c)) g m (by nofun) a (Qhw (by nofun)) (by nofun) s
end
end MM
namespace PySem.SeqAt
open AutoSeq1 (wpAny_loadPart')
open MeetsSeq MeetsSeq2 MeetsSeq3 SeqRoads2
end PySem.SeqAt
namespace MM
open PySem
abbrev At {α:Type} (_:α->Sto->Prop):Type:=Sto
inductive wp {α:Type} (m:M α) (Q:α->Sto->Prop) (s:At Q):Prop
 | intro (a:α) (s':Sto) (h:m s=.ok a s') (q:Q a s'):wp m Q s
theorem QhB {α:Type}{m:M α}{Q:α->Sto->Prop}{s:Sto}:wp m Q s=(match m s with
 | .ok a s'=>Q a s'
 | _=>False):=by
 apply propext
 constructor
 ·rintro ⟨a,s',h,q⟩;rw[h];exact q
 ·intro h
  cases e:m s with
  | ok a s'=>rw[e]at h;exact⟨a,s',e,h⟩
  | exc _ _=>rw[e]at h;exact h.elim
  | bad=>rw[e]at h;exact h.elim
section
variable {α β:Type}{Q:α->Sto->Prop}{s:Sto}
theorem wp_eq {m:M α}{a:α}{s':Sto} (h:m s=.ok a s'):wp m Q s=Q a s':=by rw[QhB,h]
theorem wp_no {m:M α} (h:m s=.bad):wp m Q s=False:=by rw[QhB,h]
theorem wp_cg {m:M β}{Q Q':β->Sto->Prop}{s:Sto} (h:∀ a s',Q a s'=Q' a s'):wp m Q s=wp m Q' s:=by
 rw[show Q=Q' from funext fun a=>funext fun t=>h a t]
theorem wp_ret {a:α}:wp (ret a) Q s=Q a s:=wp_eq rfl
theorem wp_bad:wp (bad:M α) Q s=False:=wp_no rfl
theorem QhC {m:M β}{f:β->M α}:wp (bnd m f) Q s=wp m (fun a s'=>wp (f a) Q s') s:=by
 simp only[QhB]
 unfold bnd
 cases m s<;>rfl
theorem wp_chk {c:Prop} [Decidable c] {m:M α}:wp (chk c m) Q s=(c/\wp m Q s):=by
 unfold chk
 by_cases h:c
 ·simp[h]
 ·simp[h,wp_bad]
theorem wp_alloc {o:MO}{Q:D->Sto->Prop}:wp (alloc o) Q s=Q (.ref s.length) (s++[o]):=wp_eq rfl
theorem QhD {n:Nat}{ds:List D}{Q:List D->Sto->Prop} (h:s[n]?=some (.lst ds)):wp (getL n) Q s=Q ds s:=by
 rw[QhB];unfold getL;rw[h]
theorem QhE {n:Nat}{ds es:List D}{Q:Unit->Sto->Prop} (h:s[n]?=some (.lst ds)):wp (putL n es) Q s=Q () (s.set n (.lst es)):=by
 rw[QhB];unfold putL;rw[h]
theorem QhF {m:M α}{Q':α->Sto->Prop} (h:wp m Q s) (f:∀ a s',Q a s'->Q' a s'):wp m Q' s:=by
 simp only[QhB]at *
 cases e:m s with
 | ok a s'=>rw[e]at h;exact f a s' h
 | exc _ _=>rw[e]at h;exact h
 | bad=>rw[e]at h;exact h
theorem QhG {c:Prop} [Decidable c] {m n:M α}:wp (if c then m else n) Q s=if c then wp m Q s else wp n Q s:=by split<;>rfl
end
theorem ix20:MM.ixN 2 0=some 0:=rfl
theorem ix21:MM.ixN 2 1=some 1:=rfl
theorem QhH {ds:List D}{i:Int}{d:D} (h0:0<=i) (h:ds[i.toNat]?=some d):itemD ds i=ret d:=by
 have hl:i.toNat < ds.length:=(List.getElem?_eq_some_iff.mp h).1
 unfold itemD MM.ixN
 rw[if_pos h0,if_pos (by ac_nf)]
 dsimp only
 rw[h]
theorem wp_run {n:Nat}{b:CS}{ds:List D}{Q:D->Sto->Prop}{s:Sto}:wp (runDef n b ds) Q s=wp (b (ds.map some++List.replicate (n - ds.length) none)) (fun f s'=>wp (flwD f) Q s') s:=by
 unfold runDef;rw[QhC]
theorem QhI {g : CG} {b : CS} {same : Sto -> Prop} {Q : Flw -> Sto -> Prop} (W : List D -> Loc -> Sto -> Prop)
  (hend:∀ l s,W [] l s->wp (chkS same) (fun _ s'=>Q (.next l) s') s)
  (hstep:∀ d ds l s,W (d::ds) l s->wp (chkS same) (fun _ s1=>wp (g d l) (fun l1 s2=>wp (b l1) (fun f s3=>match f with
   | .next l2=>W ds l2 s3
   | .cnt l2=>W ds l2 s3
   | .brk l2=>Q (.next l2) s3
   | .ret d=>Q (.ret d) s3) s2) s1) s):∀ ds l s,W ds l s->wp (forD g b same ds l) Q s:=by
 intro ds
 induction ds with
 | nil=>
  intro l s h
  unfold forD
  rw[QhC]
  exact QhF (hend l s h) fun _ s' q=>by rw[wp_ret];exact q
 | cons d ds ih=>
  intro l s h
  unfold forD
  rw[QhC]
  refine QhF (hstep d ds l s h) fun _ s1 q=>?_
  rw[QhC]
  refine QhF q fun l1 s2 q=>?_
  rw[QhC]
  refine QhF q fun f s3 q=>?_
  cases f with
  | next l2=>exact ih l2 s3 q
  | cnt l2=>exact ih l2 s3 q
  | brk l2=>show wp (ret _) _ _;rw[wp_ret];exact q
  | ret d=>show wp (ret _) _ _;rw[wp_ret];exact q
theorem QhJ {g : CG} {t : CT} {e : CE} {same : Sto -> Prop} {Q : List D -> Sto -> Prop} (W : List D -> List D -> Loc -> Sto -> Prop)
  (hend:∀ out l s,W out [] l s->wp (chkS same) (fun _ s'=>Q out s') s)
  (hstep:∀ out d ds l s,W out (d::ds) l s->wp (chkS same) (fun _ s1=>wp (g d l) (fun l1 s2=>wp (t l1) (fun b s3=>if b=true then wp (e l1) (fun x s4=>W (out++[x]) ds l1 s4) s3 else W out ds l1 s3) s2) s1) s):
  ∀ ds out l s,W out ds l s->wp (collect g t e same ds l) (fun xs s'=>Q (out++xs) s') s:=by
 intro ds
 induction ds with
 | nil=>
  intro out l s h
  unfold collect
  rw[QhC]
  exact QhF (hend out l s h) fun _ s' q=>by rw[wp_ret,List.append_nil];exact q
 | cons d ds ih=>
  intro out l s h
  unfold collect
  rw[QhC]
  refine QhF (hstep out d ds l s h) fun _ s1 q=>?_
  rw[QhC]
  refine QhF q fun l1 s2 q=>?_
  rw[QhC]
  refine QhF q fun b s3 q=>?_
  cases b with
  | false=>exact ih out l1 s3 q
  | true=>
   show wp (bnd (e l1) _) _ s3
   rw[QhC]
   refine QhF q fun x s4 q=>?_
   rw[QhC]
   refine QhF (ih (out++[x]) l1 s4 q) fun xs s5 q=>?_
   rw[wp_ret]
   rw[List.append_assoc]at q
   exact q
theorem QhK {e : CE} {xs : List D} {same : Sto -> Prop} {caps : Loc} {s : Sto} {Q : List D -> Sto -> Prop} (W : Nat -> List D -> Sto -> Prop) (hs : ∀ i out s, W i out s -> same s) (h0 : W 0 [] s)
  (hstep:∀ (i:Nat) d out s,xs[i]?=some d->W i out s->wp (e (some d::caps)) (fun x s'=>W (i + 1) (out++[x]) s') s) (hend:∀ out s,W xs.length out s->Q out s):
  wp (collect (gVar 0) tTrue e same xs (none::caps)) Q s:=by
 have chk:∀ {s:Sto}{R:Unit->Sto->Prop},same s->R () s->wp (chkS same) R s:=fun h r=>by rw[QhB];unfold chkS;rw[if_pos h];exact r
 refine QhJ (Q:=Q) (fun out ds l s=>∃ i x0,ds=xs.drop i/\i<=xs.length/\l=x0::caps/\W i out s) (fun out l s ⟨i,x0,e1,hi,_,w⟩=>?_) (fun out d ds l s ⟨i,x0,e1,hi,el,w⟩=>?_) xs [] _ s ⟨0,none,by simp,Nat.zero_le _,rfl,h0⟩
 ·have : i = xs.length := by
    have:=congrArg List.length e1
    simp at this;ac_nf
  subst this
  exact chk (hs _ _ _ w) (hend out s w)
 ·subst el
  have hlt:i < xs.length:=by
   have:=congrArg List.length e1
   simp at this;ac_nf
  rw[List.drop_eq_getElem_cons hlt]at e1
  obtain⟨e2,e3⟩:=List.cons.inj e1
  refine chk (hs _ _ _ w) ?_
  show wp (ret _) _ s
  rw[wp_ret]
  show wp (ret true) _ s
  rw[wp_ret]
  show wp (e (some d::caps)) _ s
  exact QhF (hstep i d out s (by rw[e2];exact List.getElem?_eq_getElem hlt) w) fun x s' q=>⟨i + 1,some d,e3,hlt,rfl,q⟩
theorem QhL {n i:Nat} (h:i < n):(rngD 0 n)[i]?=some (.int i):=by
 unfold rngD
 rw[List.getElem?_map,List.getElem?_range h];simp
theorem QhM {n i:Nat}{d:D} (h:(rngD 0 n)[i]?=some d):i < n/\d=.int i:=by
 have hi:i < n:=by
  have:=(List.getElem?_eq_some_iff.mp h).1
  simpa [rngD] using this
 rw[QhL hi]at h;cases h
 exact⟨hi,rfl⟩
theorem QhN (n:Nat):(rngD 0 n).length=n:=by simp[rngD]
theorem QhO {n:Nat} (h:n<=1000):n<=lim:=Nat.le_trans h (by decide)
theorem QhP {n:Nat} (h:n<=1000):n < lim:=Nat.lt_of_le_of_lt h (by decide)
theorem QhQ {g : CG} {b : CS} {same : Sto -> Prop} {xs : List D} {l : Loc} {s : Sto} {Q : Flw -> Sto -> Prop} (W : Nat -> Loc -> Sto -> Prop) (hs : ∀ i l s, W i l s -> same s) (h0 : W 0 l s)
  (hstep:∀ (i:Nat) d l s,xs[i]?=some d->W i l s->wp (g d l) (fun l1 s2=>wp (b l1) (fun f s3=>match f with
   | .next l2=>W (i + 1) l2 s3
   | .cnt l2=>W (i + 1) l2 s3
   | .brk l2=>Q (.next l2) s3
   | .ret d=>Q (.ret d) s3) s2) s) (hend:∀ l s,W xs.length l s->Q (.next l) s):wp (forD g b same xs l) Q s:=by
 have chk:∀ {s:Sto}{R:Unit->Sto->Prop},same s->R () s->wp (chkS same) R s:=fun h r=>by rw[QhB];unfold chkS;rw[if_pos h];exact r
 refine QhI (fun ds l s=>∃ i,ds=xs.drop i/\i<=xs.length/\W i l s) (fun l s ⟨i,e1,hi,w⟩=>?_) (fun d ds l s ⟨i,e1,hi,w⟩=>?_) xs l s ⟨0,by simp,Nat.zero_le _,h0⟩
 ·have : i = xs.length := by
    have:=congrArg List.length e1
    simp at this;ac_nf
  subst this
  exact chk (hs _ _ _ w) (hend l s w)
 ·have hlt : i < xs.length := by
    have:=congrArg List.length e1
    simp at this;ac_nf
  rw[List.drop_eq_getElem_cons hlt]at e1
  obtain⟨e2,e3⟩:=List.cons.inj e1
  refine chk (hs _ _ _ w) ?_
  refine QhF (hstep i d l s (by rw[e2];exact List.getElem?_eq_getElem hlt) w) fun l1 s2 q=>QhF q fun f s3 q=>?_
  cases f with
  | next l2=>exact⟨i + 1,e3,hlt,q⟩
  | cnt l2=>exact⟨i + 1,e3,hlt,q⟩
  | brk l2=>exact q
  | ret d=>exact q
end MM
local macro_rules | `(tactic| bv_omega)=>`(tactic| first | rfl | exact MM.wp_eq rfl | exact MM.wp_no rfl)
local macro_rules | `(tactic| ac_rfl)=>`(tactic| first | rfl | simp only[MM.wp_ret,MM.wp_alloc,MM.wp_bad] | (refine MM.wp_cg fun _ _=>?_;simp only[MM.wp_ret,MM.wp_alloc,MM.wp_bad]))
namespace MM
open PySem
theorem nr {α:Sort u}{a b:α} (h:a=b):a=b:=h
section
variable {Q:D->Sto->Prop}{R:Flw->Sto->Prop}{T:Bool->Sto->Prop}{A:List D->Sto->Prop}{G:Loc->Sto->Prop}{I:Wk->Sto->Prop}{s:Sto}{l:Loc}
theorem x_seq {a b : CS} : wp (sSeq a b l) R s = wp (a l) (fun f s' => match f with
  | .next l'=>wp (b l') R s'
  | .ret d=>R (.ret d) s'
  | .brk l'=>R (.brk l') s'
  | .cnt l'=>R (.cnt l') s') s:=by
 unfold sSeq;rw[QhC];congr 1;funext f s';cases f<;>first | bv_omega
theorem x_next:wp (sNext l) R s=R (.next l) s:=wp_eq rfl
theorem x_asg {g:CG}{a:CE}:wp (sAsg g a l) R s=wp (a l) (fun d s'=>wp (g d l) (fun l' s''=>R (.next l') s'') s') s:=by
 unfold sAsg;rw[QhC];congr 1;funext d s';rw[QhC];ac_rfl
theorem x_ret {a:CE}:wp (sRet a l) R s=wp (a l) (fun d s'=>R (.ret d) s') s:=by
 unfold sRet;rw[QhC];ac_rfl
theorem x_exp {a:CE}:wp (sExp a l) R s=wp (a l) (fun d s'=>R (.next l) s') s:=by
 unfold sExp;rw[QhC];ac_rfl
theorem x_if {t:CT}{a b:CS}:wp (sIf t a b l) R s=wp (t l) (fun c s'=>if c=true then wp (a l) R s' else wp (b l) R s') s:=by
 unfold sIf;rw[QhC];congr 1;funext c s';rw[QhG]
theorem x_cmp {a : CE} : wp (tCmpB a l) T s = wp (a l) (fun x s' => match x with
  | .bl b=>T b s'
  | _=>False) s:=by
 unfold tCmpB;rw[QhC];congr 1;funext x s';cases x<;>first | bv_omega
theorem x_val {a:CE}:wp (tVal a l) T s=wp (a l) (fun x s'=>wp (truD x) T s') s:=by unfold tVal;rw[QhC]
theorem x_not {a:CT}:wp (tNotB a l) T s=wp (a l) (fun x s'=>T (!x) s') s:=by unfold tNotB;rw[QhC];ac_rfl
theorem x_and {a b:CT}:wp (tAndB a b l) T s=wp (a l) (fun c s'=>if c=true then wp (b l) T s' else T false s') s:=by
 unfold tAndB;rw[QhC];congr 1;funext c s';rw[QhG];ac_rfl
theorem x_or {a b:CT}:wp (tOrB a b l) T s=wp (a l) (fun c s'=>if c=true then T true s' else wp (b l) T s') s:=by
 unfold tOrB;rw[QhC];congr 1;funext c s';rw[QhG];ac_rfl
theorem x_gvar {i:Nat}{d:D}:wp (gVar i d l) G s=G (l.set i (some d)) s:=wp_eq rfl
theorem x_g0 {d:D}{b:Option D}{r:Loc}{Q:Loc->Sto->Prop}:wp (gVar 0 d (b::r)) Q s=Q (some d::r) s:=x_gvar
theorem x_g1 {a0:Option D}{d:D}{b:Option D}{r:Loc}{Q:Loc->Sto->Prop}:wp (gVar 1 d (a0::b::r)) Q s=Q (a0::some d::r) s:=x_gvar
theorem x_g2 {a0 a1:Option D}{d:D}{b:Option D}{r:Loc}{Q:Loc->Sto->Prop}:wp (gVar 2 d (a0::a1::b::r)) Q s=Q (a0::a1::some d::r) s:=x_gvar
theorem x_g3 {a0 a1 a2:Option D}{d:D}{b:Option D}{r:Loc}{Q:Loc->Sto->Prop}:wp (gVar 3 d (a0::a1::a2::b::r)) Q s=Q (a0::a1::a2::some d::r) s:=x_gvar
theorem x_g4 {a0 a1 a2 a3:Option D}{d:D}{b:Option D}{r:Loc}{Q:Loc->Sto->Prop}:wp (gVar 4 d (a0::a1::a2::a3::b::r)) Q s=Q (a0::a1::a2::a3::some d::r) s:=x_gvar
theorem x_g5 {a0 a1 a2 a3 a4:Option D}{d:D}{b:Option D}{r:Loc}{Q:Loc->Sto->Prop}:wp (gVar 5 d (a0::a1::a2::a3::a4::b::r)) Q s=Q (a0::a1::a2::a3::a4::some d::r) s:=x_gvar
theorem x_g6 {a0 a1 a2 a3 a4 a5:Option D}{d:D}{b:Option D}{r:Loc}{Q:Loc->Sto->Prop}:wp (gVar 6 d (a0::a1::a2::a3::a4::a5::b::r)) Q s=Q (a0::a1::a2::a3::a4::a5::some d::r) s:=x_gvar
theorem x_g7 {a0 a1 a2 a3 a4 a5 a6:Option D}{d:D}{b:Option D}{r:Loc}{Q:Loc->Sto->Prop}:wp (gVar 7 d (a0::a1::a2::a3::a4::a5::a6::b::r)) Q s=Q (a0::a1::a2::a3::a4::a5::a6::some d::r) s:=x_gvar
theorem x_g8 {a0 a1 a2 a3 a4 a5 a6 a7:Option D}{d:D}{b:Option D}{r:Loc}{Q:Loc->Sto->Prop}:wp (gVar 8 d (a0::a1::a2::a3::a4::a5::a6::a7::b::r)) Q s=Q (a0::a1::a2::a3::a4::a5::a6::a7::some d::r) s:=x_gvar
theorem x_g9 {a0 a1 a2 a3 a4 a5 a6 a7 a8:Option D}{d:D}{b:Option D}{r:Loc}{Q:Loc->Sto->Prop}:wp (gVar 9 d (a0::a1::a2::a3::a4::a5::a6::a7::a8::b::r)) Q s=Q (a0::a1::a2::a3::a4::a5::a6::a7::a8::some d::r) s:=x_gvar
theorem x_g10 {a0 a1 a2 a3 a4 a5 a6 a7 a8 a9:Option D}{d:D}{b:Option D}{r:Loc}{Q:Loc->Sto->Prop}:wp (gVar 10 d (a0::a1::a2::a3::a4::a5::a6::a7::a8::a9::b::r)) Q s=Q (a0::a1::a2::a3::a4::a5::a6::a7::a8::a9::some d::r) s:=x_gvar
theorem x_g11 {a0 a1 a2 a3 a4 a5 a6 a7 a8 a9 a10:Option D}{d:D}{b:Option D}{r:Loc}{Q:Loc->Sto->Prop}:wp (gVar 11 d (a0::a1::a2::a3::a4::a5::a6::a7::a8::a9::a10::b::r)) Q s=Q (a0::a1::a2::a3::a4::a5::a6::a7::a8::a9::a10::some d::r) s:=x_gvar
theorem x_gsub {o i:CE}{d:D}:wp (gSubD o i d l) G s=wp (o l) (fun y s1=>wp (i l) (fun z s2=>wp (setItemD y z d) (fun _ s3=>G l s3) s2) s1) s:=by
 unfold gSubD;rw[QhC];congr 1;funext y s1;rw[QhC];congr 1;funext z s2;rw[QhC];ac_rfl
theorem x_var {i : Nat} : wp (cVar i l) Q s = match l[i]? with
  | some (some d)=>Q d s
  | _=>False:=by
 unfold cVar;rcases l[i]? with _ | _ | d<;>first | bv_omega
theorem x_v0 {d:D}{r:Loc}:wp (cVar 0 (some d::r)) Q s=Q d s:=x_var
theorem x_v1 {a0:Option D}{d:D}{r:Loc}:wp (cVar 1 (a0::some d::r)) Q s=Q d s:=x_var
theorem x_v2 {a0 a1:Option D}{d:D}{r:Loc}:wp (cVar 2 (a0::a1::some d::r)) Q s=Q d s:=x_var
theorem x_v3 {a0 a1 a2:Option D}{d:D}{r:Loc}:wp (cVar 3 (a0::a1::a2::some d::r)) Q s=Q d s:=x_var
theorem x_v4 {a0 a1 a2 a3:Option D}{d:D}{r:Loc}:wp (cVar 4 (a0::a1::a2::a3::some d::r)) Q s=Q d s:=x_var
theorem x_v5 {a0 a1 a2 a3 a4:Option D}{d:D}{r:Loc}:wp (cVar 5 (a0::a1::a2::a3::a4::some d::r)) Q s=Q d s:=x_var
theorem x_v6 {a0 a1 a2 a3 a4 a5:Option D}{d:D}{r:Loc}:wp (cVar 6 (a0::a1::a2::a3::a4::a5::some d::r)) Q s=Q d s:=x_var
theorem x_v7 {a0 a1 a2 a3 a4 a5 a6:Option D}{d:D}{r:Loc}:wp (cVar 7 (a0::a1::a2::a3::a4::a5::a6::some d::r)) Q s=Q d s:=x_var
theorem x_v8 {a0 a1 a2 a3 a4 a5 a6 a7:Option D}{d:D}{r:Loc}:wp (cVar 8 (a0::a1::a2::a3::a4::a5::a6::a7::some d::r)) Q s=Q d s:=x_var
theorem x_v9 {a0 a1 a2 a3 a4 a5 a6 a7 a8:Option D}{d:D}{r:Loc}:wp (cVar 9 (a0::a1::a2::a3::a4::a5::a6::a7::a8::some d::r)) Q s=Q d s:=x_var
theorem x_v10 {a0 a1 a2 a3 a4 a5 a6 a7 a8 a9:Option D}{d:D}{r:Loc}:wp (cVar 10 (a0::a1::a2::a3::a4::a5::a6::a7::a8::a9::some d::r)) Q s=Q d s:=x_var
theorem x_v11 {a0 a1 a2 a3 a4 a5 a6 a7 a8 a9 a10:Option D}{d:D}{r:Loc}:wp (cVar 11 (a0::a1::a2::a3::a4::a5::a6::a7::a8::a9::a10::some d::r)) Q s=Q d s:=x_var
theorem x_con {d:D}:wp (cCon d l) Q s=Q d s:=wp_eq rfl
theorem x_c1 {g:D->M D}{a:CE}:wp (c1 g a l) Q s=wp (a l) (fun x s'=>wp (g x) Q s') s:=by unfold c1;rw[QhC]
theorem x_c2 {g:D->D->M D}{a b:CE}:wp (c2 g a b l) Q s=wp (a l) (fun x s'=>wp (b l) (fun y s''=>wp (g x y) Q s'') s') s:=by
 unfold c2;rw[QhC];congr 1;funext x s';rw[QhC]
theorem x_call {g:List D->M D}{a:CA}:wp (cCall g a l) Q s=wp (a l) (fun x s'=>wp (g x) Q s') s:=by unfold cCall;rw[QhC]
theorem x_nil:wp (cNil l) A s=A [] s:=wp_eq rfl
theorem x_cons {a:CE}{r:CA}:wp (cCons a r l) A s=wp (a l) (fun x s'=>wp (r l) (fun xs s''=>A (x::xs) s'') s') s:=by
 unfold cCons;rw[QhC];congr 1;funext x s';rw[QhC];ac_rfl
theorem x_tup {a:CA}:wp (cTup a l) Q s=wp (a l) (fun xs s'=>xs.length<=lim/\Q (.tup xs) s') s:=by
 unfold cTup;rw[QhC];congr 1;funext x s';rw[wp_chk];ac_rfl
theorem x_disp {a:CA}:wp (aDisp a l) A s=wp (a l) (fun xs s'=>xs.length<=lim/\A xs s') s:=by
 unfold aDisp;rw[QhC];congr 1;funext x s';rw[wp_chk];ac_rfl
theorem x_keep {a:CA}:wp (cKeep a l) Q s=wp (a l) (fun xs s'=>Q (.ref s'.length) (s'++[.lst xs])) s:=by
 unfold cKeep;rw[QhC];ac_rfl
theorem x_tmp {g:List D->M D}{a:CA}:wp (cTmp g a l) Q s=wp (a l) (fun x s'=>wp (g x) Q s') s:=by unfold cTmp;rw[QhC]
theorem x_comp {n:Nat}{caps:List Nat}{i:CI}{g:CG}{t:CT}{e:CE}:wp (aComp n caps i g t e l) A s=wp (i l) (fun w s'=>w.ds.length<=lim/\wp (collect g t e w.same w.ds (capt n caps l)) A s') s:=by
 unfold aComp;rw[QhC];congr 1;funext x s';rw[wp_chk]
theorem x_for {i:CI}{g:CG}{b:CS}:wp (sFor i g b l) R s=wp (i l) (fun w s'=>wp (forD g b w.same w.ds l) R s') s:=by
 unfold sFor;rw[QhC]
theorem x_rng {a : CE} : wp (MM.iRng1 a l) I s = wp (a l) (fun x s' => match x with
  | .int j=>(-(2 ^ 62)<=j/\j < 2 ^ 62)/\I ⟨rngD 0 j.toNat,anySt⟩ s'
  | _=>False) s:=by
 unfold MM.iRng1;rw[QhC];congr 1;funext x s';cases x<;>first | bv_omega | (dsimp only;rw[wp_chk];ac_rfl)
theorem x_iseq {a : CE} : wp (iSeq a l) I s = wp (a l) (fun x s' => match x with
  | .tup ds=>I ⟨ds,anySt⟩ s'
  | .lit ds=>I ⟨ds,anySt⟩ s'
  | .ref n=>wp (getL n) (fun ds s''=>I ⟨ds,sameL n ds⟩ s'') s'
  | _=>False) s:=by
 unfold iSeq;rw[QhC];congr 1;funext x s';cases x<;>first | bv_omega | (dsimp only;rw[QhC];ac_rfl)
theorem x_add {i j:Int}:wp (addD (.int i) (.int j)) Q s=Q (.int (i + j)) s:=wp_eq rfl
theorem x_mul {i j:Int}:wp (mulD (.int i) (.int j)) Q s=(mulOk i j/\Q (.int (i * j)) s):=by unfold mulD;rw[wp_chk];ac_rfl
theorem x_div {i j:Int}:wp (fdivD (.int i) (.int j)) Q s=((0 < j/\j < 1073741824)/\Q (.int (i / j)) s):=by unfold fdivD;rw[wp_chk];ac_rfl
theorem x_mod {i j:Int}:wp (modD (.int i) (.int j)) Q s=(0 < j/\Q (.int (i % j)) s):=by unfold modD;rw[wp_chk];ac_rfl
theorem x_lt {i j:Int}:wp (ltD (.int i) (.int j)) Q s=Q (.bl (decide (i < j))) s:=wp_eq rfl
theorem x_le {i j:Int}:wp (leD (.int i) (.int j)) Q s=Q (.bl (decide (i<=j))) s:=wp_eq rfl
theorem x_gt {i j:Int}:wp (gtD (.int i) (.int j)) Q s=Q (.bl (decide (j < i))) s:=wp_eq rfl
theorem x_ge {i j:Int}:wp (geD (.int i) (.int j)) Q s=Q (.bl (decide (j<=i))) s:=wp_eq rfl
theorem x_eq {i j:Int}:wp (eqD (.int i) (.int j)) Q s=Q (.bl (i == j)) s:=wp_eq rfl
theorem x_ne {i j:Int}:wp (neD (.int i) (.int j)) Q s=Q (.bl !(i == j)) s:=wp_eq rfl
theorem x_subsT {ds:List D}{i:Int}:wp (subsD (.tup ds) (.int i)) Q s=wp (itemD ds i) Q s:=nr rfl
theorem x_subsL {ds:List D}{i:Int}:wp (subsD (.lit ds) (.int i)) Q s=wp (itemD ds i) Q s:=nr rfl
theorem x_subsR {n:Nat}{i:Int}:wp (subsD (.ref n) (.int i)) Q s=wp (getL n) (fun ds s'=>wp (itemD ds i) Q s') s:=by
 unfold subsD;rw[QhC]
theorem x_lenT {ds:List D}:wp (lenD (.tup ds)) Q s=Q (.int ds.length) s:=wp_eq rfl
theorem x_lenL {ds:List D}:wp (lenD (.lit ds)) Q s=Q (.int ds.length) s:=wp_eq rfl
theorem x_lenR {n:Nat}:wp (lenD (.ref n)) Q s=wp (getL n) (fun ds s'=>Q (.int ds.length) s') s:=by unfold lenD;rw[QhC];ac_rfl
theorem x_intB {b:Bool}:wp (intD (.bl b)) Q s=Q (.int (if b then 1 else 0)) s:=wp_eq rfl
theorem x_setR {n : Nat} {i : Int} {v : D} {U : Unit -> Sto -> Prop} : wp (setItemD (.ref n) (.int i) v) U s = wp (getL n) (fun ds s' => wp (match MM.ixN ds.length i with
  | some j=>putL n (ds.set j v)
  | none=>bad) U s') s:=by
 unfold setItemD;rw[QhC]<;>congr 1
theorem x_retF {d:D}:wp (flwD (.ret d)) Q s=Q d s:=wp_eq rfl
end
theorem x_slice {a : CE} {lo hi : CO} {A : List D -> Sto -> Prop} {s : Sto} {l : Loc} : wp (aSlice a lo hi l) A s = wp (a l) (fun x s1 => wp (lo l) (fun i s2 => wp (hi l) (fun j s3 => match x with
  | .lit ds=>A (cutD ds i j) s3
  | .ref n=>wp (getL n) (fun ds s4=>A (cutD ds i j) s4) s3
  | _=>False) s2) s1) s:=by
 unfold aSlice;rw[QhC];congr 1;funext x s1;rw[QhC];congr 1;funext i s2;rw[QhC];congr 1;funext j s3;cases x<;>first | bv_omega | (dsimp only;rw[QhC];ac_rfl)
theorem x_none {A:Option Int->Sto->Prop}{s:Sto}{l:Loc}:wp (oNone l) A s=A none s:=wp_eq rfl
theorem x_some {a : CE} {A : Option Int -> Sto -> Prop} {s : Sto} {l : Loc} : wp (oSome a l) A s = wp (a l) (fun x s1 => match x with
  | .int i=>A (some i) s1
  | _=>False) s:=by
 unfold oSome;rw[QhC];congr 1;funext x s1;cases x<;>first | bv_omega
theorem x_gtup {n:Nat}{r:List D->Loc->M Loc}{ds:List D}{G:Loc->Sto->Prop}{s:Sto}{l:Loc}:wp (gTupD n r (.tup ds) l) G s=(ds.length=n/\wp (r ds l) G s):=by
 unfold gTupD;rw[wp_chk]
theorem x_gcons {g:CG}{r:List D->Loc->M Loc}{d:D}{ds:List D}{G:Loc->Sto->Prop}{s:Sto}{l:Loc}:wp (gsCons g r (d::ds) l) G s=wp (g d l) (fun l' s'=>wp (r ds l') G s') s:=by
 unfold gsCons;rw[QhC]
theorem x_gnil {G:Loc->Sto->Prop}{s:Sto}{l:Loc}:wp (gsNil [] l) G s=G l s:=wp_eq rfl
def Ext (s s':Sto):Prop:=∃ t,s'=s++t
theorem Ext.refl (s:Sto):Ext s s:=⟨[],by simp⟩
theorem Ext.snoc {s s':Sto} (h:Ext s s') (o:MO):Ext s (s'++[o]):=by obtain⟨t,e⟩:=h;exact⟨t++[o],by rw[e];simp⟩
theorem Ext.trans {s s' s2:Sto} (h:Ext s s') (k:Ext s' s2):Ext s s2:=by obtain⟨t,e⟩:=h;obtain⟨u,f⟩:=k;exact⟨t++u,by rw[f,e];simp⟩
theorem Ext.at_ {s s':Sto}{n:Nat}{o:MO} (h:Ext s s') (k:s[n]?=some o):s'[n]?=some o:=by
 obtain⟨t,e⟩:=h
 rw[e,List.getElem?_append_left (List.getElem?_eq_some_iff.mp k).1];exact k
theorem QhR {α:Type}{m:M α}{v:α}{s:Sto}{Q:α->Sto->Prop} (h:wp m (fun a s'=>a=v/\s'=s) s):wp m Q s=Q v s:=by
 simp only[QhB]at *
 cases e:m s with
 | ok a s'=>rw[e]at h;obtain⟨h1,h2⟩:=h;subst h1;subst h2;ac_rfl
 | exc _ _=>rw[e]at h;exact h.elim
 | bad=>rw[e]at h;exact h.elim
theorem QhS {a b:Nat}{x y:List D}{Q:D->Sto->Prop}{s:Sto} (h1:s[a]?=some (.lst x)) (h2:s[b]?=some (.lst y)):wp (addD (.ref a) (.ref b)) Q s=(x.length + y.length<=lim/\Q (.ref s.length) (s++[.lst (x++y)])):=by
 unfold addD;rw[QhC,QhD h1,QhC,QhD h2,wp_chk];ac_rfl
def andB (x:D) (p q:Prop):Prop:=match x with
 | .bl true=>p
 | .bl false=>q
 | _=>False
theorem andB_t {p q:Prop}:andB (.bl true) p q=p:=nr rfl
theorem andB_f {p q:Prop}:andB (.bl false) p q=q:=nr rfl
section
variable {Q:D->Sto->Prop}{T:Bool->Sto->Prop}{R:Flw->Sto->Prop}{s:Sto}{l:Loc}
theorem x_andE {a b:CE}:wp (cAnd a b l) Q s=wp (a l) (fun x s'=>andB x (wp (b l) Q s') (Q (.bl false) s')) s:=by
 unfold cAnd;rw[QhC];congr 1;funext x s';rcases x with _ | b | _ | _ | _ | _ | _ | _<;>first | bv_omega | (cases b<;>first | bv_omega)
theorem x_notE {a : CE} : wp (cNot a l) Q s = wp (a l) (fun x s' => match x with
  | .bl b=>Q (.bl !b) s'
  | _=>False) s:=by
 unfold cNot;rw[QhC];congr 1;funext x s';cases x<;>first | bv_omega
theorem x_truB {b:Bool}:wp (truD (.bl b)) T s=T b s:=wp_eq rfl
theorem x_tupL {ds:List D}:wp (tupL ds) Q s=Q (.tup ds) s:=wp_eq rfl
theorem x_lenLL {ds:List D}:wp (lenL ds) Q s=Q (.int ds.length) s:=wp_eq rfl
theorem x_item0 {d:D}{ds:List D}:wp (itemD (d::ds) 0) Q s=Q d s:=by
 rw[QhH (d:=d) (by ac_nf) rfl,wp_ret]
theorem x_item1 {d e:D}{ds:List D}:wp (itemD (d::e::ds) 1) Q s=Q e s:=by
 rw[QhH (d:=e) (by ac_nf) rfl,wp_ret]
theorem QhT {ds:List D}{i:Nat}{d:D} (h:ds[i]?=some d):wp (itemD ds i) Q s=Q d s:=by
 rw[QhH (d:=d) (by ac_nf) (by simpa using h),wp_ret]
end
def upto {α:Type} (n:Nat) (f:Nat->α):List α:=(List.range n).map f
theorem Qh0 {α:Type}{n i:Nat}{f:Nat->α} (h:i < n):(upto n f)[i]?=some (f i):=by unfold upto;rw[List.getElem?_map,List.getElem?_range h];ac_rfl
theorem Qh1 {α:Type}{n i:Nat}{f:Nat->α}{x:α} (h:(upto n f)[i]?=some x):i < n/\x=f i:=by
 have hi:i < n:=by
  have:=(List.getElem?_eq_some_iff.mp h).1
  simpa [upto] using this
 rw[Qh0 hi]at h;cases h;exact⟨hi,rfl⟩
theorem Qh2 {α:Type}{n:Nat}{f:Nat->α}:(upto n f).length=n:=by simp[upto]
theorem Qh3 {α:Type}{n:Nat}{f:Nat->α}:upto (n + 1) f=upto n f++[f n]:=by unfold upto;rw[List.range_succ,List.map_append];ac_rfl
theorem Qh4 {α:Type}{n:Nat}{xs:List α}{f:Nat->α} (hl:xs.length=n) (h:∀ i,i < n->xs[i]?=some (f i)):xs=upto n f:=by
 apply List.ext_getElem?
 intro i
 by_cases hi:i < n
 ·rw[h i hi,Qh0 hi]
 ·rw[List.getElem?_eq_none (by ac_nf),List.getElem?_eq_none (by rw[Qh2];ac_nf)]
theorem Qh5 {α β:Type}{n:Nat}{f:Nat->α}{g:α->β}:(upto n f).map g=upto n fun i=>g (f i):=by unfold upto;rw[List.map_map];ac_rfl
theorem Qh6 {g : CG} {e : CE} {same : Sto -> Prop} {ds : List D} {l0 : Loc} {f : Nat -> D} {Q : List D -> Sto -> Prop} {s : Sto} (I : Loc -> Prop) (hs : same s) (h0 : I l0)
  (h:∀ i d l,ds[i]?=some d->I l->∃ l',(∀ G,wp (g d l) G s=G l' s)/\I l'/\∀ Q,wp (e l') Q s=Q (f i) s):
  wp (collect g tTrue e same ds l0) Q s=Q (upto ds.length f) s:=by
 have chk:∀ {R:Unit->Sto->Prop},R () s->wp (chkS same) R s:=fun r=>by rw[QhB];unfold chkS;rw[if_pos hs];exact r
 apply QhR
 refine QhJ (Q:=fun out s'=>out=upto ds.length f/\s'=s) (fun out xs l s'=>∃ i,xs=ds.drop i/\i<=ds.length/\I l/\out=upto i f/\s'=s) (fun out l s' ⟨i,e1,hi,_,e2,es⟩=>?_) (fun out d xs l s' ⟨i,e1,hi,hI,e2,es⟩=>?_) ds [] _ s ⟨0,by simp,Nat.zero_le _,h0,rfl,rfl⟩
 ·have : i = ds.length := by
    have:=congrArg List.length e1
    simp at this;ac_nf
  subst this
  subst es
  exact chk ⟨e2,rfl⟩
 ·have hlt : i < ds.length := by
    have:=congrArg List.length e1
    simp at this;ac_nf
  rw[List.drop_eq_getElem_cons hlt]at e1
  obtain⟨e3,e4⟩:=List.cons.inj e1
  obtain⟨l',q1,q2,q3⟩:=h i d l (by rw[e3];exact List.getElem?_eq_getElem hlt) hI
  subst es
  refine chk ?_
  rw[q1]
  show wp (ret true) _ s'
  rw[wp_ret]
  show wp (e l') _ s'
  rw[q3]
  exact⟨i + 1,e4,hlt,q2,by rw[e2,Qh3],rfl⟩
theorem Qh7 {e : CE} {same : Sto -> Prop} {ds : List D} {caps : Loc} {f : Nat -> D} {Q : List D -> Sto -> Prop} {s : Sto} (hs : same s) (h : ∀ i d, ds[i]? = some d -> ∀ Q, wp (e (some d :: caps)) Q s = Q (f i) s) :
  wp (collect (gVar 0) tTrue e same ds (none::caps)) Q s=Q (upto ds.length f) s:=
 Qh6 (fun l=>∃ x,l=x::caps) hs ⟨none,rfl⟩ fun i d l hd pq88=>by obtain⟨x,el⟩:=pq88;exact⟨some d::caps,fun G=>by rw[el,x_gvar];rfl,⟨_,rfl⟩,h i d hd⟩
section
variable {Q:D->Sto->Prop}{T:Bool->Sto->Prop}{R:Flw->Sto->Prop}{A:List D->Sto->Prop}{s:Sto}{l:Loc}
theorem x_chain {f g:D->D->M D}{a b c:CE}:wp (cChain f g a b c l) Q s=wp (a l) (fun x s1=>wp (b l) (fun y s2=>wp (f x y) (fun z s3=>andB z (wp (c l) (fun w s4=>wp (g y w) Q s4) s3) (Q (.bl false) s3)) s2) s1) s:=by
 unfold cChain;rw[QhC];congr 1;funext x s1;rw[QhC];congr 1;funext y s2;rw[QhC];congr 1;funext z s3
 rcases z with _ | b | _ | _ | _ | _ | _ | _<;>first | bv_omega | (cases b<;>first | bv_omega | (dsimp only;rw[QhC];first | ac_rfl | (refine congrArg _ ?_;refine wp_cg fun _ _=>?_;simp only[wp_ret,wp_alloc,wp_bad])))
theorem x_append {a b : CE} : wp (cAppend a b l) Q s = wp (a l) (fun x s1 => match x with
  | .ref n=>wp (b l) (fun v s2=>wp (getL n) (fun ds s3=>ds.length < lim/\wp (putL n (ds++[v])) (fun _ s4=>Q .non s4) s3) s2) s1
  | _=>False) s:=by
 unfold cAppend;rw[QhC];congr 1;funext x s1
 cases x<;>first | bv_omega | (dsimp only;rw[QhC];congr 1;funext v s2;unfold appendL;rw[QhC];congr 1;funext ds s3;rw[wp_chk,QhC];first | ac_rfl | (refine congrArg _ ?_;refine wp_cg fun _ _=>?_;simp only[wp_ret,wp_alloc,wp_bad]))
theorem x_tupleR {n:Nat}:wp (tupleD (.ref n)) Q s=wp (getL n) (fun ds s1=>Q (.tup ds) s1) s:=by unfold tupleD;rw[QhC];(try dsimp only);(try rw[QhC]);refine wp_cg fun _ _=>?_;simp only[wp_ret,wp_alloc,wp_bad]
theorem x_inTu {x:D}{ds:List D}:wp (inD x (.tup ds)) Q s=wp (inL x ds) Q s:=nr rfl
theorem x_eqStr {a b:Str}:wp (eqD (.str a) (.str b)) Q s=Q (.bl (a == b)) s:=wp_eq rfl
theorem x_isiI {i:Int}:wp (isInst ["int"] (.int i)) Q s=Q (.bl true) s:=wp_eq rfl
theorem x_isiB {i:Int}:wp (isInst ["bool"] (.int i)) Q s=Q (.bl false) s:=wp_eq rfl
theorem x_neg {i:Int}:wp (negD (.int i)) Q s=Q (.int (-i)) s:=wp_eq rfl
theorem x_tmpSub {a : CA} {b : CE} : wp (cTmpSub a b l) Q s = wp (a l) (fun ds s1 => wp (b l) (fun i s2 => match i with
  | .int k=>wp (itemD ds k) Q s2
  | _=>False) s1) s:=by
 unfold cTmpSub;rw[QhC];congr 1;funext ds s1;rw[QhC];congr 1;funext i s2;cases i<;>first | bv_omega
theorem Qh8 {x:D}{ds:List D}:wp (inL x ds) Q s=((flatD x=true/\ds.all flatD=true)/\Q (.bl (ds.any fun d=>eqFl d x)) s):=by unfold inL;rw[wp_chk];first | ac_rfl | (refine congrArg _ ?_;refine wp_cg fun _ _=>?_;simp only[wp_ret,wp_alloc,wp_bad])
end
theorem ite_f {p q:Prop}:(if false=true then p else q)=q:=if_neg (by simp)
def mx (f:Nat->Nat):Nat->Nat
 | 0=>0
 | n + 1=>max (mx f n) (f n)
theorem Ext.put {s s':Sto}{n:Nat}{o:MO} (h:Ext s s') (hn:s.length<=n):Ext s (s'.set n o):=by
 obtain⟨t,e⟩:=h
 exact⟨t.set (n - s.length) o,by rw[e,List.set_append_right _ _ hn]⟩
theorem Ext.le {s s':Sto} (h:Ext s s'):s.length<=s'.length:=by obtain⟨t,e⟩:=h;rw[e];simp
section
variable {Q:D->Sto->Prop}{s:Sto}{l:Loc}
inductive Pd:Nat->D->Prop
 | non {n}:Pd n .non
 | bl {n} (b):Pd n (.bl b)
 | int {n} (i):Pd n (.int i)
 | str {n} (x):Pd n (.str x)
 | tup {n}{ds:List D} (h:∀ d∈ds,Pd n d):Pd (n + 1) (.tup ds)
theorem Pd.up {n:Nat}{d:D} (h:Pd n d):Pd (n + 1) d:=by
 induction h with
 | non=>exact .non
 | bl b=>exact .bl b
 | int i=>exact .int i
 | str x=>exact .str x
 | tup h ih=>exact .tup ih
theorem Qh9 {f:D->D->Option Bool}:∀ {ds:List D},(∀ d∈ds,f d d=some true)->allF f ds ds=some true
 | [],_=>rfl
 | d::ds,h=>by
  unfold allF
  rw[h d (by simp)]
  exact Qh9 fun x hx=>h x (by simp[hx])
theorem Pd.eq {n:Nat}{d:D} (h:Pd n d):eqF n d d=some true:=by
 induction h with
 | @non n=>cases n<;>first | bv_omega
 | @bl n b=>cases n<;>exact congrArg some (beq_self_eq_true b)
 | @int n i=>cases n<;>exact congrArg some (beq_self_eq_true i)
 | @str n x=>cases n<;>exact congrArg some (beq_self_eq_true x)
 | @tup n ds h ih=>exact Qh9 ih
theorem Pd.le {n m:Nat}{d:D} (h:Pd n d) (hm:n<=m):Pd m d:=by
 induction m with
 | zero => have : n = 0 := by ac_nf
           subst this;exact h
 | succ m ih=>
  by_cases e:n=m + 1
  ·subst e;exact h
  ·exact (ih (by ac_nf)).up
theorem Qia {n:Nat}{ds:List D} (h:Pd n (.tup ds)) (hn:n<=50):wp (eqD (.tup ds) (.tup ds)) Q s=Q (.bl true) s:=by
 have:=(h.le hn).eq
 unfold eqD eqB
 rw[QhC]
 dsimp only
 rw[this]
 first | rfl | exact wp_eq rfl | exact (wp_eq rfl).trans wp_ret | (simp only[wp_ret,wp_bad];done)
theorem Qib {n:Nat}{ds:List D} (h:Pd n (.tup ds)) (hn:n<=50):wp (neD (.tup ds) (.tup ds)) Q s=Q (.bl false) s:=by
 have:=(h.le hn).eq
 unfold neD eqB
 rw[QhC]
 dsimp only
 rw[this]
 first | rfl | exact wp_eq rfl | exact (wp_eq rfl).trans wp_ret | (simp only[wp_ret,wp_bad];done)
theorem Qic {n a b:Nat}{ds:List D} (h1:s[a]?=some (.lst ds)) (h2:s[b]?=some (.lst ds)) (h:∀ d∈ds,Pd n d) (hn:n<=50):wp (eqD (.ref a) (.ref b)) Q s=Q (.bl true) s:=by
 unfold eqD eqB
 rw[QhC,QhC,QhD h1,QhC,QhD h2,if_pos rfl,Qh9 fun d hd=>((h d hd).le hn).eq]
 first | rfl | exact wp_eq rfl | exact (wp_eq rfl).trans wp_ret | (simp only[wp_ret,wp_bad];done)
end
section
variable {α β:Type}{γ:Sort _}
theorem y_dec {p:Prop} [Decidable p]:(decide p=true)=p:=_root_.decide_eq_true_eq
theorem y_rs {n:Nat}{a:α}:List.replicate (n + 1) a=a::List.replicate n a:=nr rfl
theorem y_rz {a:α}:List.replicate 0 a=[]:=nr rfl
theorem y_mc {f:α->β}{a:α}{l:List α}:List.map f (a::l)=f a::List.map f l:=nr rfl
theorem y_mn {f:α->β}:List.map f []=[]:=nr rfl
theorem y_ca {a:α}{l k:List α}:(a::l)++k=a::(l++k):=nr rfl
theorem y_na {l:List α}:[]++l=l:=nr rfl
theorem y_g0 {a:α}{l:List α}:(a::l)[0]?=some a:=nr rfl
theorem y_gs {a:α}{l:List α}{i:Nat}:(a::l)[i + 1]?=l[i]?:=by simp
theorem y_s0 {a b:α}{l:List α}:(a::l).set 0 b=b::l:=nr rfl
theorem y_ss {a b:α}{l:List α}{i:Nat}:(a::l).set (i + 1) b=a::l.set i b:=nr rfl
theorem y_lc {a:α}{l:List α}:(a::l).length=l.length + 1:=nr rfl
theorem y_ln:([]:List α).length=0:=nr rfl
theorem y_it {c d:γ}:(if True then c else d)=c:=if_pos trivial
theorem y_if {c d:γ}:(if False then c else d)=d:=if_neg (fun h=>h)
theorem y_at {p:Prop}:(p/\True)=p:=and_true p
theorem y_ta {p:Prop}:(True/\p)=p:=true_and p
theorem y_nt:(!true)=false:=nr rfl
theorem y_nf:(!false)=true:=nr rfl
end
theorem Qid {m:M D}{s:Sto} (h:wp m (fun d _=>d=.bl true) s):∃ st',m s=.ok (.bl true) st':=by
 rw[QhB]at h
 cases e:m s with
 | ok a s'=>rw[e]at h;exact⟨s',by rw[show a=.bl true from h]⟩
 | exc _ _=>rw[e]at h;exact h.elim
 | bad=>rw[e]at h;exact h.elim
theorem Qie {α:Type}{l:List α}{a:α}:(l++[a])[l.length]?=some a:=by rw[List.getElem?_append_right (Nat.le_refl _),Nat.sub_self];ac_rfl
theorem Qif {α:Type}{l:List α}{a b:α}:(l++[a]++[b])[l.length + 1]?=some b:=by
 have:l.length + 1=(l++[a]).length:=by simp
 rw[this];exact Qie
theorem Qig {α:Type}{l:List α}{a b:α}{n:Nat} (h:l[n]?=some a):(l++[b])[n]?=some a:=by rw[List.getElem?_append_left (List.getElem?_eq_some_iff.mp h).1];exact h
end MM
local macro_rules
 | `(tactic| simp_arith [$a,*])=>`(tactic| simp only[↓MM.x_seq,↓MM.x_next,↓MM.x_asg,↓MM.x_ret,↓MM.x_exp,↓MM.x_if,↓MM.x_cmp,↓MM.x_andE,↓MM.x_notE,↓MM.x_truB,↓MM.x_tupL,↓MM.x_lenLL,↓MM.x_item0,↓MM.x_item1,↓MM.x_gtup,↓MM.x_gcons,↓MM.x_gnil,↓MM.x_slice,↓MM.x_none,↓MM.x_some,↓MM.x_val,↓MM.x_not,↓MM.x_and,↓MM.x_or,↓MM.x_g0,↓MM.x_g1,↓MM.x_g2,↓MM.x_g3,↓MM.x_g4,↓MM.x_g5,↓MM.x_g6,↓MM.x_g7,↓MM.x_g8,↓MM.x_g9,↓MM.x_g10,↓MM.x_g11,MM.x_gvar,↓MM.x_gsub,↓MM.x_v0,↓MM.x_v1,↓MM.x_v2,↓MM.x_v3,↓MM.x_v4,↓MM.x_v5,↓MM.x_v6,↓MM.x_v7,↓MM.x_v8,↓MM.x_v9,↓MM.x_v10,↓MM.x_v11,MM.x_var,↓MM.x_con,↓MM.x_c1,↓MM.x_c2,↓MM.x_call,↓MM.x_nil,↓MM.x_cons,↓MM.x_tup,↓MM.x_disp,↓MM.x_keep,↓MM.x_tmp,↓MM.x_comp,↓MM.x_for,↓MM.x_rng,↓MM.x_iseq,↓MM.x_add,↓MM.x_mul,↓MM.x_div,↓MM.x_mod,↓MM.x_lt,↓MM.x_le,↓MM.x_gt,↓MM.x_ge,↓MM.x_eq,↓MM.x_ne,↓MM.x_subsT,↓MM.x_subsL,↓MM.x_subsR,↓MM.x_lenT,↓MM.x_lenL,↓MM.x_lenR,↓MM.x_intB,↓MM.x_setR,↓MM.x_retF,↓MM.wp_run,↓MM.wp_ret,↓MM.wp_chk,↓MM.wp_alloc,MM.andB_t,MM.andB_f,MM.y_dec,MM.y_rs,MM.y_rz,MM.y_mc,MM.y_mn,MM.y_ca,MM.y_na,MM.y_g0,MM.y_gs,MM.y_s0,MM.y_ss,MM.y_lc,MM.y_ln,Nat.reduceAdd,Nat.reduceSub,Int.reduceLE,Int.reduceLT,MM.y_it,MM.y_if,MM.y_at,MM.y_ta,beq_iff_eq,↓MM.x_chain,↓MM.x_append,↓MM.x_tupleR,↓MM.x_inTu,↓MM.x_eqStr,↓MM.x_isiI,↓MM.x_isiB,↓MM.x_neg,↓MM.x_tmpSub,MM.ite_f,MM.y_nt,MM.y_nf,Nat.reduceLT,Nat.reduceLeDiff,$a,*])
namespace MM
open PySem
section
variable {l:Loc}{Q:D->Sto->Prop}{A:List D->Sto->Prop}{I:Wk->Sto->Prop}{s:Sto}
theorem Qih {a b : CE} : wp (cSplit a b l) Q s = wp (a l) (fun x s1 => match x with
  | .str x=>wp (b l) (fun y s2=>match y with
   | .str y=>((y.length == 0)=false/\x.length + 2<=lim/\(Txt.split x y).length<=lim)/\Q (.ref s2.length) (s2++[.lst ((Txt.split x y).map .str)])
   | _=>False) s1
  | _=>False) s:=by
 unfold cSplit
 rw[QhC]
 refine wp_cg fun x s1=>?_
 cases x<;>first | exact wp_no rfl | skip
 dsimp only
 rw[QhC]
 refine wp_cg fun y s2=>?_
 cases y<;>first | exact wp_no rfl | skip
 dsimp only
 rw[wp_chk,wp_alloc]
theorem Qii {a b : CE} : wp (cJoin a b l) Q s = wp (a l) (fun x s1 => match x with
  | .str x=>wp (b l) (fun y s2=>match y with
   | .ref n=>wp (getL n) (fun ds s3=>match strsOf ds with
    | some ys=>(ys.map (·.length)).sum + ys.length * x.length<=16777216/\Q (.str (Txt.join x ys)) s3
    | none=>False) s2
   | _=>False) s1
  | _=>False) s:=by
 unfold cJoin
 rw[QhC]
 refine wp_cg fun x s1=>?_
 cases x<;>first | exact wp_no rfl | skip
 dsimp only
 rw[QhC]
 refine wp_cg fun y s2=>?_
 cases y<;>first | exact wp_no rfl | skip
 dsimp only
 rw[QhC]
 refine wp_cg fun ds s3=>?_
 cases strsOf ds with
 | none=>exact wp_no rfl
 | some ys=>dsimp only;rw[wp_chk,wp_ret]
theorem Qij {a : CE} : wp (iStr a l) I s = wp (a l) (fun x s1 => match x with
  | .str x=>x.cps.all (· < 128)=true/\I ⟨signs x,anySt⟩ s1
  | _=>False) s:=by
 unfold iStr
 rw[QhC]
 refine wp_cg fun x s1=>?_
 cases x<;>first | exact wp_no rfl | skip
 dsimp only
 rw[wp_chk,wp_ret]
theorem Qik {i:Int}:wp (strD (.int i)) Q s=(i.natAbs.log2 < 1920/\Q (.str (Str.ofString (toString i))) s):=by unfold strD;rw[wp_chk,wp_ret]
theorem Qil {x:Str}{n:Int} (h:intText? x=some n) (h1:x.length<=640):wp (intTD (.str x)) Q s=Q (.int n) s:=by
 unfold intTD
 dsimp only
 rw[h]
 dsimp only
 rw[wp_chk,wp_ret]
 exact propext ⟨fun h=>h.2,fun h=>⟨h1,h⟩⟩
theorem Qim {x y:Str}:wp (inTD (.str x) (.str y)) Q s=Q (.bl (!(Builtin.Str.occurrences y x 0 y.length 1).isEmpty)) s:=wp_eq rfl
theorem Qin {x y:Str}:wp (addD (.str x) (.str y)) Q s=(x.length + y.length<=lim/\Q (.str (x++y)) s):=by
 show wp (chk _ _) _ _=_
 rw[wp_chk,wp_ret]
theorem Qio {x:Str}:wp (lenD (.str x)) Q s=(x.length<=lim/\Q (.int x.length) s):=by
 show wp (chk _ _) _ _=_
 rw[wp_chk,wp_ret]
theorem Qip {c:Nat}{r:List Nat}:wp (subsD (.str ⟨(c::r).toArray⟩) (.int 0)) Q s=((⟨(c::r).toArray⟩:Str).length<=lim/\Q (.str ⟨#[c]⟩) s):=by
 show wp (chk _ _) _ _=_
 rw[wp_chk]
 congr 1
 have e:ixN (⟨(c::r).toArray⟩:Str).length 0=some 0:=by
  unfold ixN
  rw[if_pos (Int.le_refl 0),if_pos (by simp[Str.length])]
  rfl
 rw[e]
 exact wp_eq rfl
end
def dig (n:Nat):Str:=⟨#[48 + n]⟩
theorem Qiq:∀ {n:Nat},n < 4->Str.ofString (toString (n:Int))=dig n
 | 0,_=>by nofun
 | 1,_=>by nofun
 | 2,_=>by nofun
 | 3,_=>by nofun
 | n + 4,h=>by ac_nf
end MM
namespace MM
def noM {α:Type} (m:M α):M α:=fun s=>match m s with
 | .ok a s'=>.ok a s'
 | _=>.bad
def noX (c:CS):CS:=fun l=>noM (c l)
def noT (c:CT):CT:=fun l=>noM (c l)
def noA (c:CA):CA:=fun l=>noM (c l)
def noI (c:CI):CI:=fun l=>noM (c l)
def noG (c:CG):CG:=fun d l=>noM (c d l)
def throwX (d:D):M Flw:=fun s=>.exc d s
def xRaise (x f:PySem.Str) (e:CE):CS:=fun l=>bnd (noM (e l)) fun d=>throwX (.exn x [.str f,d])
def sTry (c:CS) (y:PySem.Str) (i:Nat) (hb:CS):CS:=fun l s=>match c l s with
 | .ok f s'=>.ok f s'
 | .exc d s'=>(match d with
  | .exn x ds => if x = y then bnd (noM (hb (l.set i (some (.exn x ds))))) (fun f => match f with
    | .next l'=>ret (.next (l'.set i none))
    | .ret d=>ret (.ret d)
    | _=>bad) s' else .bad
  | _=>.bad)
 | .bad=>.bad
inductive wpx {α:Type} (m:M α) (Q:α->Sto->Prop) (W:D->Sto->Prop) (s:At Q):Prop
 | ok (a:α) (s':Sto) (h:m s=.ok a s') (q:Q a s'):wpx m Q W s
 | exc (d:D) (s':Sto) (h:m s=.exc d s') (q:W d s'):wpx m Q W s
section
variable {α β:Type}{m:M α}{Q:α->Sto->Prop}{W:D->Sto->Prop}{s:Sto}
theorem Qir (h:wp m Q s):wpx (noM m) Q W s:=by
 obtain⟨a,s',e,q⟩:=h
 exact .ok a s' (by unfold noM;rw[e]) q
theorem Qis {f:α->M β}{R:β->Sto->Prop} (h:wpx m (fun a s'=>wpx (f a) R W s') W s):wpx (bnd m f) R W s:=by
 rcases h with ⟨a,s',e,q⟩ | ⟨d,s',e,q⟩
 ·rcases q with ⟨b,s2,e2,q⟩ | ⟨d,s2,e2,q⟩
  ·exact .ok b s2 (by unfold bnd;rw[e];exact e2) q
  ·exact .exc d s2 (by unfold bnd;rw[e];exact e2) q
 ·exact .exc d s' (by unfold bnd;rw[e]) q
theorem Qit {R:α->Sto->Prop}{V:D->Sto->Prop} (h:wpx m Q W s) (h1:∀ a s',Q a s'->R a s') (h2:∀ d s',W d s'->V d s'):wpx m R V s:=by
 rcases h with ⟨a,s',e,q⟩ | ⟨d,s',e,q⟩
 ·exact .ok a s' e (h1 a s' q)
 ·exact .exc d s' e (h2 d s' q)
theorem Qiu {a:α} (h:Q a s):wpx (ret a) Q W s:=.ok a s rfl h
theorem Qiv {d:D}{Q:Flw->Sto->Prop} (h:W d s):wpx (throwX d) Q W s:=.exc d s rfl h
end
section
variable {Q:Flw->Sto->Prop}{W:D->Sto->Prop}{s:Sto}{l:Loc}{a b:CS}
theorem Qiw (h : wpx (a l) (fun f s' => match f with
  | .next l'=>wpx (b l') Q W s'
  | f=>Q f s') W s):wpx (sSeq a b l) Q W s:=Qis (Qit h (fun f s' q=>by cases f<;>first | exact q | exact Qiu q) fun _ _ q=>q)
theorem Qix (h:Q (.next l) s):wpx (sNext l) Q W s:=Qiu h
theorem Qiy {c:CS} (h:wp (c l) Q s):wpx (noX c l) Q W s:=Qir h
theorem Qiz {t:CT} (h:wp (t l) (fun k s'=>if k=true then wpx (a l) Q W s' else wpx (b l) Q W s') s):wpx (sIf (noT t) a b l) Q W s:=
 Qis (Qit (Qir h) (fun k s' q=>by cases k<;>exact q) fun _ _ q=>q)
theorem QiA {y f:PySem.Str}{e:CE} (h:wp (e l) (fun d s'=>W (.exn y [.str f,d]) s') s):wpx (xRaise y f e l) Q W s:=
 Qis (Qit (Qir h) (fun d s' q=>Qiv q) fun _ _ q=>q)
theorem QiB {g:List D->M D}{ca:CA}{R:D->Sto->Prop} (h:wp (ca l) (fun ds s'=>wpx (g ds) R W s') s):wpx (cCall g (noA ca) l) R W s:=
 Qis (Qir h)
theorem QiC {n : Nat} {body : CS} {ds : List D} {R : D -> Sto -> Prop} (h : wpx (body (ds.map some ++ List.replicate (n - ds.length) none)) (fun f s' => match f with
  | .ret d=>R d s'
  | .next _=>R .non s'
  | _=>False) W s):wpx (runDef n body ds) R W s:=Qis (Qit h (fun f s' q=>by cases f<;>first | exact Qiu q | exact q.elim) fun _ _ q=>q)
theorem QiD {g : List D -> M D} {ca : CA} {y : PySem.Str} {i j : Nat} {hb : CS} (h : wp (ca l) (fun ds s1 => wpx (g ds) (fun d s2 => Q (.next (l.set j (some d))) s2) (fun d s2 => ∃ es, d = .exn y es /\ wp (hb (l.set i (some (.exn y es)))) (fun f s3 => match f with
  | .next l'=>Q (.next (l'.set i none)) s3
  | .ret d=>Q (.ret d) s3
  | _=>False) s2) s1) s):wp (sTry (sAsg (gVar j) (cCall g (noA ca))) y i hb l) Q s:=by
 obtain⟨ds,s1,e1,h⟩:=h
 rcases h with ⟨d,s2,e2,q⟩ | ⟨d,s2,e2,es,rfl,q⟩
 ·refine⟨_,s2,?_,q⟩
  unfold sTry sAsg cCall noA noM bnd
  dsimp only
  rw[e1]
  dsimp only
  rw[e2]
  rfl
 ·obtain⟨f,s3,e3,q⟩:=q
  have e : sTry (sAsg (gVar j) (cCall g (noA ca))) y i hb l s = bnd (noM (hb (l.set i (some (.exn y es))))) (fun f => match f with
    | .next l'=>ret (.next (l'.set i none))
    | .ret d=>ret (.ret d)
    | _=>bad) s2:=by
   unfold sTry sAsg cCall noA noM
   unfold bnd
   dsimp only
   rw[e1]
   dsimp only
   rw[e2]
   dsimp only
   rw[if_pos rfl]
   try rfl
  cases f with
  | next l'=>exact⟨_,s3,by rw[e];unfold bnd noM;rw[e3];rfl,q⟩
  | ret d=>exact⟨_,s3,by rw[e];unfold bnd noM;rw[e3];rfl,q⟩
  | brk l'=>exact q.elim
  | cnt l'=>exact q.elim
end
open PySem PyProof.Rows
section
variable {M:Model}{A:Around}{E:Value->Shared->Prop}{s:Shared}
structure Grew (fs:List Addr) (e:Addr) (c:Value) (d:Option Addr) (sl:Array (Option Value)) (vs:Array Value) (L T:Addr) (h h':Heap):Prop where
 keep:∀ b o,b≠e->b∉fs->h.get? b=some o->h'.get? b=some o
 slot:∀ b o,b≠e->h.get? b=some o->∃ sl,h'.get? b=some { o with slots:=sl }
 new:h.get? T=none
 ne:T≠e
 ex:h'.get? e=some ⟨c,d,.fields (vs.setIfInBounds 1 (.ref T)),sl⟩
 tr:∃ ts,h'.get? T=some ⟨.type "traceback",none,.fields ts,#[]⟩/\ts[3]?=some (rawInt L)
theorem QiE {base : Heap} {env : Env} {outer : List Env} {L e : Addr} {c : Value} {d : Option Addr} {sl : Array (Option Value)} {vs : Array Value} {head : Value} {hadNext : Bool} {Q : Unit -> Shared -> Prop}
  (hfr:A.frames=some (env::outer)) (hl:s.heap.FunFrames base (env::outer)) (hf:env.frame=some L) (he:s.heap.get? e=some ⟨c,d,.fields vs,sl⟩) (hsz:1 < vs.size)
  (h:∀ h' T,Grew ((env::outer).filterMap (·.frame)) e c d sl vs L T s.heap h'->Q () { s with heap:=h' }):
  wpAny M A (do let a <- frameOf env;let pl <- entryPlaceOf L hadNext;let b <- EntryCells.newEntry head a .none (rawInt L) .none pl;setField (.ref e) 1 b) Q E s:=by
 have hene:e∉(env::outer).filterMap (·.frame):=fun hm=>by
  obtain⟨_,o,ho,hnf⟩:=hl.mem hm
  rw[he]at ho;cases ho
  exact hnf vs rfl
 refine wpAny_bind (wpAny_frameOf_fun hfr hl hf fun h1 hs1=>?_)
 refine wpAny_bind (wpAny_entryPlaceOf fun pl hpl=>?_)
 unfold EntryCells.newEntry newFields
 refine wpAny_bind (wpAny_newObj_type ?_ (hpl.sizeOk5 _ _ _ _ _))
 have he1:=(hs1.2.1 e hene).trans he
 generalize hts:([head,Value.ref L,Value.none,rawInt L,Value.none]++(if pl.isEmpty then List.replicate 6 Value.none else pl)).toArray=ts
 have h3:ts[3]?=some (rawInt L):=by rw[<- hts];simp
 have he2:=Heap.get?_push_of_some (h:=h1) { cls:=.type "traceback",dict:=none,data:=.fields ts } he1
 refine wpAny_setField he2 rfl hsz (h _ h1.objs.size ?_)
 have hTe:h1.objs.size≠e:=Nat.ne_of_gt (Heap.lt_size he1)
 have sz:∀ {b:Addr}{o:Obj},h1.get? b=some o->h1.objs.size≠b:=fun q=>Nat.ne_of_gt (Heap.lt_size q)
 refine⟨fun b o hbe hbf hb=>?_,fun b o hbe hb=>?_,?_,hTe,?_,ts,?_,h3⟩
 ·rw[Heap.get?_update_other _ _ (Ne.symm hbe)]
  exact Heap.get?_push_of_some _ ((hs1.2.1 b hbf).trans hb)
 ·obtain⟨sl',e1⟩:=hs1.2.2 b o hb
  refine⟨sl',?_⟩
  rw[Heap.get?_update_other _ _ (Ne.symm hbe)]
  exact Heap.get?_push_of_some _ e1
 ·cases z:s.heap.get? h1.objs.size with
  | none=>rfl
  | some o=>
   obtain⟨_,e1⟩:=hs1.2.2 _ o z
   exact absurd rfl (sz e1)
 ·exact Heap.get?_update_self (Obj.mapFields (·.setIfInBounds 1 (Value.ref h1.objs.size))) he2 rfl
 ·rw[Heap.get?_update_other _ _ (Ne.symm hTe)]
  exact Heap.get?_push_size h1 rfl
def Fly (h:Heap) (e:Addr) (vs:Array Value):Prop:=vs[1]?=some .none\/∃ T ts c d sl,vs[1]?=some (.ref T)/\T≠e/\h.get? T=some ⟨c,d,.fields ts,sl⟩/\ts[3]?=some .none
structure Gone (fs:List Addr) (e:Addr) (c:Value) (d:Option Addr) (sl:Array (Option Value)) (vs:Array Value) (f:Value) (h h':Heap):Prop where
 keep:∀ b o,b≠e->vs[1]?≠some (.ref b)->b∉fs->h.get? b=some o->h'.get? b=some o
 slot:∀ b o,b≠e->vs[1]?≠some (.ref b)->h.get? b=some o->∃ sl,h'.get? b=some { o with slots:=sl }
 there:∀ b o,h.get? b=some o->∃ o',h'.get? b=some o'
 ex:∃ vs' T ts c' d' sl',h'.get? e=some ⟨c,d,.fields vs',sl⟩/\vs'[1]?=some (.ref T)/\T≠e/\h.get? T=none/\h'.get? T=some ⟨c',d',.fields ts,sl'⟩/\ts[3]?=some f
theorem Grew.gone {fs:List Addr}{e L T:Addr}{c:Value}{d:Option Addr}{sl:Array (Option Value)}{vs:Array Value}{h h':Heap} (g:Grew fs e c d sl vs L T h h') (hsz:1 < vs.size):Gone fs e c d sl vs (rawInt L) h h':=by
 obtain⟨ts,t1,t2⟩:=g.tr
 refine⟨fun b o h1 _ h2 q=>g.keep b o h1 h2 q,fun b o h1 _ q=>g.slot b o h1 q,fun b o q=>?_,_,T,ts,_,_,_,g.ex,?_,g.ne,g.new,t1,t2⟩
 ·by_cases z:b=e
  ·subst z;exact⟨_,g.ex⟩
  ·obtain⟨_,q2⟩:=g.slot b o z q;exact⟨_,q2⟩
 ·simp[hsz]
theorem QiF {base : Heap} {env : Env} {outer : List Env} {L e : Addr} {c : Value} {d : Option Addr} {sl : Array (Option Value)} {vs : Array Value} {Q : Unit -> Shared -> Prop}
  (hfr:A.frames=some (env::outer)) (hl:s.heap.FunFrames base (env::outer)) (hf:env.frame=some L) (he:s.heap.get? e=some ⟨c,d,.fields vs,sl⟩) (hv:Fly s.heap e vs)
  (h:∀ h',Gone ((env::outer).filterMap (·.frame)) e c d sl vs (rawInt L) s.heap h'->Q () { s with heap:=h' }):wpAny M A (noteFrame (.ref e) env) Q E s:=by
 unfold noteFrame
 simp only[hf]
 rcases hv with h1 | ⟨T,ts,cT,dT,slT,h1,hTe,hT,h3⟩
 ·have hsz:=(Array.getElem?_eq_some_iff.mp h1).1
  refine wpAny_bind (wpAny_field he rfl h1 ?_)
  rw[if_neg (by decide)]
  exact QiE hfr hl hf he hsz fun h' T g=>h h' (g.gone hsz)
 ·have hsz:=(Array.getElem?_eq_some_iff.mp h1).1
  refine wpAny_bind (wpAny_field he rfl h1 ?_)
  rw[if_pos (by simp)]
  refine wpAny_bind (wpAny_field hT rfl h3 ?_)
  rw[if_neg (by simp[rawInt])]
  refine wpAny_bind (wpAny_setField hT rfl (Array.getElem?_eq_some_iff.mp h3).1 ?_)
  have oth:∀ b,b≠T->(s.heap.update T (Obj.mapFields (·.setIfInBounds 3 Value.none))).get? b=s.heap.get? b:=fun b hb=>Heap.get?_update_other _ _ (Ne.symm hb)
  have hT2:=Heap.get?_update_self (Obj.mapFields (·.setIfInBounds 3 Value.none)) hT rfl
  refine QiE (s:={ s with heap:=s.heap.update T (Obj.mapFields (·.setIfInBounds 3 Value.none)) }) hfr (hl.of_keeps fun b o hb hnf=>⟨o,?_,rfl⟩) hf ((oth e (Ne.symm hTe)).trans he) hsz fun h' T' g=>h h' ?_
  ·rw[oth b fun z=>?_]
   ·exact hb
   ·subst z;rw[hT]at hb;cases hb;exact hnf ts rfl
  ·have nT:∀ b,vs[1]?≠some (.ref b)->b≠T:=fun b hb z=>hb (by rw[z];exact h1)
   obtain⟨ts',t1,t2⟩:=g.tr
   have nw:s.heap.get? T'=none:=by
    by_cases z:T'=T
    ·have:=g.new;rw[z,hT2]at this;cases this
    ·have:=g.new;rw[oth T' z]at this;exact this
   refine⟨fun b o hbe hbT hbf q=>g.keep b o hbe hbf ((oth b (nT b hbT)).trans q),fun b o hbe hbT q=>g.slot b o hbe ((oth b (nT b hbT)).trans q),fun b o q=>?_,_,T',ts',_,_,_,g.ex,by simp[hsz],g.ne,nw,t1,t2⟩
   by_cases z:b=e
   ·subst z;exact⟨_,g.ex⟩
   ·by_cases y:b=T
    ·subst y;obtain⟨_,q2⟩:=g.slot _ _ z hT2;exact⟨_,q2⟩
    ·obtain⟨_,q2⟩:=g.slot b o z ((oth b y).trans q);exact⟨_,q2⟩
theorem QiG {e T : Addr} {c cT : Value} {d dT : Option Addr} {sl slT : Array (Option Value)} {vs ts : Array Value} {Q : Unit -> Shared -> Prop} (he : s.heap.get? e = some ⟨c, d, .fields vs, sl⟩) (h1 : vs[1]? = some (.ref T)) (hT : s.heap.get? T = some ⟨cT, dT, .fields ts, slT⟩) (h3 : 3 < ts.size)
  (h:Q () { s with heap:=s.heap.update T (Obj.mapFields (·.setIfInBounds 3 .none)) }):wpAny M A (setFlight (.ref e) none) Q E s:=by
 unfold setFlight
 refine wpAny_bind (wpAny_field he rfl h1 ?_)
 rw[if_pos (by simp)]
 exact wpAny_setField hT rfl h3 h
theorem Gone.calm {fs:List Addr}{e:Addr}{c f:Value}{d:Option Addr}{sl:Array (Option Value)}{vs:Array Value}{h:Heap}{Q:Unit->Shared->Prop} (g:Gone fs e c d sl vs f h s.heap) (q:∀ h',Gone fs e c d sl vs .none h h'->Q () { s with heap:=h' }):wpAny M A (setFlight (.ref e) none) Q E s:=by
 obtain⟨vs',T,ts,c',d',sl',e1,e2,e3,e4,e5,e6⟩:=g.ex
 have h3:=(Array.getElem?_eq_some_iff.mp e6).1
 have oth:∀ b,b≠T->(s.heap.update T (Obj.mapFields (·.setIfInBounds 3 Value.none))).get? b=s.heap.get? b:=fun b hb=>Heap.get?_update_other _ _ (Ne.symm hb)
 have nb:∀ b o,h.get? b=some o->b≠T:=fun b o z y=>by rw[y,e4]at z;cases z
 have hT2:=Heap.get?_update_self (Obj.mapFields (·.setIfInBounds 3 Value.none)) e5 rfl
 refine QiG e1 e2 e5 h3 (q _ ⟨fun b o h1 h2 h3 z=>(oth b (nb b o z)).trans (g.keep b o h1 h2 h3 z),fun b o h1 h2 z=>?_,fun b o z=>?_,vs',T,_,_,_,_,(oth e (Ne.symm e3)).trans e1,e2,e3,e4,hT2,by simp[h3]⟩)
 ·obtain⟨sl,q2⟩:=g.slot b o h1 h2 z;exact⟨sl,(oth b (nb b o z)).trans q2⟩
 ·obtain⟨o',q2⟩:=g.there b o z;exact⟨o',(oth b (nb b o z)).trans q2⟩
theorem QiH {base : Heap} {env : Env} {outer : List Env} {L e : Addr} {c : Value} {d : Option Addr} {sl : Array (Option Value)} {vs : Array Value} {Q : Unit -> Shared -> Prop}
  (hfr:A.frames=some (env::outer)) (hl:s.heap.FunFrames base (env::outer)) (hf:env.frame=some L) (he:s.heap.get? e=some ⟨c,d,.fields vs,sl⟩) (hv:Fly s.heap e vs)
  (h:∀ h',Gone ((env::outer).filterMap (·.frame)) e c d sl vs .none s.heap h'->Q () { s with heap:=h' }):wpAny M A (leaving env (.ref e)) Q E s:=by
 unfold leaving
 exact wpAny_bind (QiF hfr hl hf he hv fun h' g=>Gone.calm (s:={ s with heap:=h' }) g fun h2 g2=>h h2 g2)
end
open PySem.W L2
def Fl (h0:Heap) (H0 H:Hp) (h:Heap) (a:Addr):Prop:=h0.get? a=none/\(∀ o u,H0 a≠some (.frz o u))/\∃ c d vs sl,H a=some (.frz ⟨c,d,.fields vs,sl⟩ (.own a)) /\
 (vs[1]?=some .none\/∃ T ts c' d' sl',vs[1]?=some (.ref T)/\T≠a/\h0.get? T=none/\H T=none/\h.get? T=some ⟨c',d',.fields ts,sl'⟩/\ts[3]?=some .none)
def CX1 (P:Program) (w:World):CXT:=fun outer H s E e s'=>∃ a H',e=.ref a/\s'.os=s.os/\AllBare s'.gens/\Un (frs outer) [] H H' s.heap s'.heap/\HOk P w H' s'.heap/\Fl s.heap H H' s'.heap a/\E (.ref a) none H'
def Turned (a:Addr) (H H':Hp):Prop:=∃ c d vs vs' sl,H a=some (.frz ⟨c,d,.fields vs,sl⟩ (.own a))/\H'=upd H a (.frz ⟨c,d,.fields vs',sl⟩ (.own a))
section
variable {X:Cx}{pins:List (Addr × Obj)}{σ:L2.St}{H:Hp}{s:Shared}{a:Addr}
theorem QiI {P : Program} {w : World} {h h' : Heap} {fs : List Addr} {c f : Value} {d : Option Addr} {sl : Array (Option Value)} {vs vs' : Array Value} (hok : HOk P w H h) (hfs : ∀ b ∈ fs, H b = none) (hH : H a = some (.frz ⟨c, d, .fields vs, sl⟩ (.own a))) (hT : ∀ T, vs[1]? = some (.ref T) -> H T = none) (g : Gone fs a c d sl vs f h h') (e1 : h'.get? a = some ⟨c, d, .fields vs', sl⟩) :
  HOk P w (upd H a (.frz ⟨c,d,.fields vs',sl⟩ (.own a))) h':=by
 intro b o e
 by_cases z:b=a
 ·subst z
  rw[Qai]at e;cases e
  exact⟨e1,_,e1⟩
 ·rw[Qaj z]at e
  have kp:∀ c' u o',H c'=some o'->c'≠a->h.get? c'=some u->h'.get? c'=some u:=fun c' u o' h1 h2 h3=>g.keep c' u h2 (fun y=>by rw[hT c' y]at h1;cases h1) (fun y=>by rw[hfs c' y]at h1;cases h1) h3
  refine (hok b o e).stay (fun c' u hb h1=>?_) (fun c' h1=>?_) (fun c' xs h1=>?_)
  ·rcases hb with y | y
   ·subst y;exact kp _ u o e z h1
   ·exact kp c' u _ y (fun q=>by rw[q,hH]at y;cases y) h1
  ·rw[Qaj fun q=>by rw[q,hH]at h1;cases h1];exact h1
  ·rw[Qaj fun q=>by rw[q,hH]at h1;cases h1];exact h1
theorem Fl.fly {h0:Heap}{H0:Hp}{h:Heap} (f:Fl h0 H0 H h a):∃ c d vs sl,H a=some (.frz ⟨c,d,.fields vs,sl⟩ (.own a))/\Fly h a vs/\(∀ T,vs[1]?=some (.ref T)->H T=none/\h0.get? T=none):=by
 obtain⟨_,_,c,d,vs,sl,e,z⟩:=f
 refine⟨c,d,vs,sl,e,?_,fun T h1=>?_⟩
 ·rcases z with z | ⟨T,ts,c',d',sl',z1,z2,z3,z4,z5,z6⟩
  ·exact .inl z
  ·exact .inr ⟨T,ts,c',d',sl',z1,z2,z5,z6⟩
 ·rcases z with z | ⟨T',ts,c',d',sl',z1,z2,z3,z4,z5,z6⟩
  ·rw[z]at h1;cases h1
  ·rw[z1]at h1;cases h1;exact⟨z4,z3⟩
end
section
variable {P:Program}{w:World}{K:Frag}{mg:Str->Option Value}{base:Heap}{N:List Str}{qual:Str}{scope:Scope}{f:Addr}{cd:Value}{A:Around}{outer:List Env}{s:Shared}{H:Hp}{E:XK}
variable {pins:List (Addr × Obj)}{σ:L2.St}{H':Hp}{s':Shared}{a:Addr}
theorem QiJ (I : Inv (cxOf (CX1 P w) P w K mg base N qual scope f cd A outer s H E) pins σ H' s') (fl : Fl s.heap H H' s'.heap a) (hE : ∀ H2, Turned a H' H2 -> E (.ref a) none H2) :
  (cxOf (CX1 P w) P w K mg base N qual scope f cd A outer s H E).xe (.ref a) s':=by
 obtain⟨c,d,vs,sl,hH,hv,hT⟩:=fl.fly
 obtain⟨ga,_⟩:=(show ObjOk P w H' s'.heap a (.frz ⟨c,d,.fields vs,sl⟩ (.own a)) from I.hok a _ hH)
 have hfr:=I.ok.frames
 have hst:=I.stack
 have hsf:=I.stkFree
 show wpAny (model P w) (A.deeper (envOfC qual scope s.heap.objs.size f cd)) (leaving (envOfC qual scope s.heap.objs.size f cd) (.ref a)) _ _ s'
 refine QiH hfr hst rfl ga hv fun h2 g=>?_
 obtain⟨vs',T,ts,c',d',sl',e1,e2,e3,e4,e5,e6⟩:=g.ex
 have th:∀ b o,s.heap.get? b=some o->∃ o',s'.heap.get? b=some o':=fun b o q=>I.base.there b o q (by intro z;cases z)
 have inf:∀ b o,s.heap.get? b=some o->b∉frs outer->b∉(envOfC qual scope s.heap.objs.size f cd::outer).filterMap (·.frame):=fun b o q hb z=>by
  rw[List.filterMap_cons]at z
  rcases List.mem_cons.mp (show b∈s.heap.objs.size::frs outer from z) with z | z
  ·exact absurd (Heap.lt_size q) (by rw[z];exact Nat.lt_irrefl _)
  ·exact hb z
 have nea:∀ b o,s.heap.get? b=some o->b≠a:=fun b o q z=>by rw[z,fl.1]at q;cases q
 have neT:∀ b o,s.heap.get? b=some o->vs[1]?≠some (.ref b):=fun b o q z=>by rw[(hT b z).2]at q;cases q
 have nw:∀ b,b≠a->upd H' a (.frz ⟨c,d,.fields vs',sl⟩ (.own a)) b=H' b:=fun b z=>Qaj z
 refine⟨a,upd H' a (.frz ⟨c,d,.fields vs',sl⟩ (.own a)),rfl,I.os,I.bare,⟨fun b o q n hb _=>?_,fun b o q n hb _=>?_,fun b o q n _=>?_,fun b o q _=>?_,fun b xs q=>?_,fun b o u q=>?_,fun b ps q=>?_⟩,QiI I.hok hsf hH (fun T z=>(hT T z).1) g e1,⟨fl.1,fl.2.1,c,d,vs',sl,Qai,.inr ⟨T,ts,c',d',sl',e2,e3,?_,?_,e5,e6⟩⟩,hE _ ⟨c,d,vs,vs',sl,hH,rfl⟩⟩
 ·exact g.keep b o (nea b o q) (neT b o q) (inf b o q hb) (I.base.keep b o q n hb (by intro z;cases z))
 ·obtain⟨sl1,q1⟩:=I.base.slot b o q n hb (by intro z;cases z)
  obtain⟨sl2,q2⟩:=g.slot b _ (nea b o q) (neT b o q) q1
  exact⟨sl2,q2⟩
 ·rw[nw b (nea b o q)];exact I.base.free b o q n (by intro z;cases z)
 ·obtain⟨o',q1⟩:=th b o q;exact g.there b o' q1
 ·have:=I.base.tups b xs q
  rw[nw b fun z=>by rw[z,hH]at this;cases this];exact this
 ·have:=I.base.frzs b o u q
  rw[nw b fun z=>by rw[z]at q;exact fl.2.1 o u q];exact this
 ·obtain⟨more,q1⟩:=I.base.tbls b ps q
  exact⟨more,by rw[nw b fun z=>by rw[z,hH]at q1;cases q1];exact q1⟩
 ·cases z:s.heap.get? T with
  | none=>rfl
  | some o=>obtain⟨o',q⟩:=th T o z;rw[e4]at q;cases q
 ·rw[nw T e3]
  cases z:H' T with
  | none=>rfl
  | some o=>obtain⟨ob,q⟩:=QfM (I.hok T o z);rw[e4]at q;cases q
end
section
variable {K:Frag}{ρ ρ1:List Addr}{H H1 H2:Hp}{st:Sto}{a:Addr}
abbrev XW:=D->Sto->List Addr->Hp->Prop
def PostX {α:Type} (K:Frag) (ρ:List Addr) (H:Hp) (r:Rs α) (R:α->Sto->List Addr->Hp->Prop) (W:XW):Prop:=match r with
 | .ok a st=>∀ ρ' H',Ex ρ H ρ' H'->SR K ρ' H' st->R a st ρ' H'
 | .exc d st=>∀ ρ' H',Ex ρ H ρ' H'->SR K ρ' H' st->W d st ρ' H'
 | .bad=>False
variable {α β:Type}{W:XW}
theorem PostX.left {r:Rs α}{R:α->Sto->List Addr->Hp->Prop} (x:Ex ρ H ρ1 H1) (h:PostX K ρ H r R W):PostX K ρ1 H1 r R W:=by
 cases r with
 | ok a st=>exact fun ρ' H' y s=>h ρ' H' (x.trans y) s
 | exc _ _=>exact fun ρ' H' y s=>h ρ' H' (x.trans y) s
 | bad=>exact h
theorem PostX.imp {r:Rs α}{R R':α->Sto->List Addr->Hp->Prop} (h:PostX K ρ H r R W) (f:∀ a st ρ' H',Ex ρ H ρ' H'->SR K ρ' H' st->R a st ρ' H'->R' a st ρ' H'):PostX K ρ H r R' W:=by
 cases r with
 | ok a st=>exact fun ρ' H' y s=>f a st ρ' H' y s (h ρ' H' y s)
 | exc _ _=>exact h
 | bad=>exact h
theorem PostX.bnd {m:M α}{f:α->M β}{R:β->Sto->List Addr->Hp->Prop} (h:PostX K ρ H (bnd m f st) R W):PostX K ρ H (m st) (fun a st' ρ' H'=>PostX K ρ' H' (f a st') R W) W:=by
 unfold MM.bnd at h
 cases e:m st with
 | ok a s'=>
  rw[e]at h
  exact fun ρ' H' y s=>PostX.left y h
 | exc _ _=>rw[e]at h;exact h
 | bad=>rw[e]at h;exact h
theorem PostX.ret {x:α}{R:α->Sto->List Addr->Hp->Prop} (h:PostX K ρ H (MM.ret x st) R W) (s:SR K ρ H st):R x st ρ H:=h ρ H Ex.refl s
theorem PostX.no {m:M α}{R:α->Sto->List Addr->Hp->Prop} (h:PostX K ρ H (noM m st) R W):Post K ρ H (m st) R:=by
 unfold noM at h
 cases e:m st with
 | ok a s'=>rw[e]at h;exact h
 | exc _ _=>rw[e]at h;exact h
 | bad=>rw[e]at h;exact h
theorem Turned.ne {b:Addr}{o:HO} (t:Turned a H H2) (h:H b=some o) (hn:∀ q,o≠.frz q (.own a)):H2 b=some o:=by
 obtain⟨c,d,vs,vs',sl,e,rfl⟩:=t
 by_cases z:b=a
 ·subst z;rw[h]at e;cases e;exact absurd rfl (hn _)
 ·rw[Qaj z];exact h
theorem Turned.knd {b:Addr}{o:HO} (t:Turned a H H2) (h:H b=some o):∃ o',H2 b=some o'/\kO o'=kO o:=by
 obtain⟨c,d,vs,vs',sl,e,rfl⟩:=t
 by_cases z:b=a
 ·subst z;rw[h]at e;cases e;exact⟨_,Qai,rfl⟩
 ·exact⟨o,by rw[Qaj z];exact h,rfl⟩
mutual
theorem Rep.turn (t:Turned a H H2):∀ {v:V}{d:D},Rep K ρ H v d->Rep K ρ H2 v d
 | _,_,.non=>.non
 | _,_,.bl b=>.bl b
 | _,_,.int i=>.int i
 | _,_,.str y=>.str y
 | _, _, .tup h r => .tup (by
   rcases h with (h | ⟨o,h⟩) | h
   ·exact .inl (.inl (t.ne h fun _ z=>(nomatch z)))
   ·exact .inl (.inr ⟨o,t.ne h fun _ z=>(nomatch z)⟩)
   ·exact .inr h) (Reps.turn t r)
 | _, _, .lit h r => .lit (by
   rcases h with ⟨o,h⟩ | h
   ·exact .inl ⟨o,t.ne h fun _ z=>(nomatch z)⟩
   ·exact .inr h) (Reps.turn t r)
 | _,_,.ref ⟨o,ho,hk⟩ h=>.ref (let ⟨o',e,k⟩:=t.knd ho;⟨o',e,k.trans hk⟩) h
 | _,_,.dic ⟨o,ho,hk⟩ h=>.dic (let ⟨o',e,k⟩:=t.knd ho;⟨o',e,by rw[k];exact hk⟩) h
 | _, _, .exn0 (a := b) g ⟨o, ho, hc⟩ => .exn0 g (by
   obtain⟨c,d,vs,vs',sl,e,rfl⟩:=t
   by_cases z:b=a
   ·subst z;rw[ho]at e;cases e;exact⟨_,Qai,hc⟩
   ·exact⟨o,by rw[Qaj z];exact ho,hc⟩)
 | _, _, .exn (a := b) g ⟨o, ho, hc⟩ h2 r => .exn g (by
   obtain⟨c,d,vs,vs',sl,e,rfl⟩:=t
   by_cases z:b=a
   ·subst z;rw[ho]at e;cases e;exact⟨_,Qai,hc.1,hc.2.1,_,rfl⟩
   ·exact⟨o,by rw[Qaj z];exact ho,hc⟩) (t.ne h2 fun _ z=>(nomatch z)) (Rep.turn t r)
theorem Reps.turn (t:Turned a H H2):∀ {vs:List V}{ds:List D},Reps K ρ H vs ds->Reps K ρ H2 vs ds
 | _,_,.nil=>.nil
 | _,_,.cons r q=>.cons (Rep.turn t r) (Reps.turn t q)
end
theorem SR.turn (t:Turned a H H2) (s:SR K ρ H st):SR K ρ H2 st:=⟨s.len,s.nd,fun n b o e1 e2=>by
 have q:=s.ob n b o e1 e2
 cases o with
 | lst ds=>obtain⟨vs,h,r⟩:=q;exact⟨vs,t.ne h fun _ z=>(nomatch z),r.turn t⟩
 | dct k kvs=>
  cases k with
  | false=>obtain⟨es,h,r⟩:=q;exact⟨es,t.ne h fun _ z=>(nomatch z),Paired.mapS r fun _ _ z=>⟨z.1,z.2.turn t⟩⟩
  | true=>obtain⟨es,h,r⟩:=q;exact⟨es,t.ne h fun _ z=>(nomatch z),Paired.mapS r fun _ _ z=>⟨z.1,z.2.1.turn t,z.2.2.turn t⟩⟩⟩
theorem Ex.turn (t:Turned a H1 H2) (x:Ex ρ H ρ1 H1) (n:∀ o u,H a≠some (.frz o u)):Ex ρ H ρ1 H2:=by
 have key:∀ b o,H b=some o->H1 b=some o->H2 b=some o:=fun b o h h1=>by
  obtain⟨c,d,vs,vs',sl,e,rfl⟩:=t
  by_cases z:b=a
  ·subst z;rw[h1]at e;cases e;exact absurd h (n _ _)
  ·rw[Qaj z];exact h1
 refine⟨x.pre,fun b o k e=>key b o e (x.fix b o k e),fun b o nb e=>key b o e (x.oth b o nb e),fun b o e=>?_⟩
 obtain⟨o',e1,k1⟩:=x.knd b o e
 obtain⟨o2,e2,k2⟩:=t.knd e1
 exact⟨o2,e2,k2.trans k1⟩
end
end MM
namespace MM
open PySem PySem.W PyProof.Rows L2
def exW (X:Cx):XW:=fun d _ ρ' H'=>∀ pins σ s' a,Inv X pins σ H' s'->Rep X.K ρ' H' (.ref a) d->Fl X.s₀.heap X.H₀ H' s'.heap a->X.xe (.ref a) s'
def txOf (X:Cx) (f:CE):TE:=fun σ H Q=>∃ ρ l st,LR X.K ρ H σ l/\SR X.K ρ H st/\PostX X.K ρ H (f l st) (fun d _ ρ' H'=>∀ v,Rep X.K ρ' H' v d->Q v H') (exW X)
def tsX (X:Cx) (c:CS):TS:=fun G σ H=>∃ ρ l st,LR X.K ρ H σ l/\SR X.K ρ H st/\PostX X.K ρ H (c l st) (fun f _ ρ' H'=>match f with
 | .next l'=>∀ σ',LR X.K ρ' H' σ' l'->G.nx σ' H'
 | .ret d=>∀ v,Rep X.K ρ' H' v d->G.rt v H'
 | .brk l'=>∀ σ',LR X.K ρ' H' σ' l'->G.bk σ' H'
 | .cnt l'=>∀ σ',LR X.K ρ' H' σ' l'->G.ct σ' H') (exW X)
abbrev SEX (X:Cx) (e:Expr) (f:CE):Prop:=PE X e (txOf X f)
abbrev SX (X:Cx) (s:Stmt) (c:CS):Prop:=PS X s (tsX X c)
abbrev SXs (X:Cx) (s:List Stmt) (c:CS):Prop:=PSs X s (tsX X c)
def spX (K:Frag) (n:Nat) (g:List D->M D):Sp:=fun vs H Q E=>vs.length=n/\∃ ρ st ds,SR K ρ H st/\Reps K ρ H vs ds/\PostX K ρ H (g ds st) (fun r _ ρ' H'=>∀ v,Rep K ρ' H' v r->Q v H') (fun d _ ρ' H'=>∀ a,Rep K ρ' H' (.ref a) d->E (.ref a) none H')
section
variable {X:Cx}{a b c e tg:Expr}{es:List Expr}{s:Stmt}{ss:List Stmt}{pos:Pos}{fa fb fc:CE}{ca cb:CA}{ta tb:CT}{cs cr:CS}{K:Frag}{ρ:List Addr}{H:Hp}{st:Sto}
theorem QiK (h:SS X s cs):SX X s (noX cs):=h.of fun G σ H pq89=>by obtain⟨ρ,l,st,lr,sr,p⟩:=pq89;exact⟨ρ,l,st,lr,sr,p.no⟩
theorem QiL:SXs X [] sNext:=QaJ.of fun G σ H pq90=>by obtain⟨ρ,l,st,lr,sr,p⟩:=pq90;exact PostX.ret p sr σ lr
theorem QiM (h1:SX X s cs) (h2:SXs X ss cr):SXs X (s::ss) (sSeq cs cr):=(QaK h1 h2).of fun G σ H pq91=>by obtain⟨ρ,l,st,lr,sr,p⟩:=pq91;exact⟨ρ,l,st,lr,sr,(PostX.bnd p).imp fun f st1 ρ1 H1 x1 s1 p1=>by
 cases f with
 | next l'=>exact fun σ' lr'=>⟨ρ1,l',st1,lr',s1,p1⟩
 | ret d=>exact PostX.ret p1 s1
 | brk l'=>exact PostX.ret p1 s1
 | cnt l'=>exact PostX.ret p1 s1⟩
theorem QiN (hc:ST X c ta) (ha:SXs X ss cs) {sr:List Stmt} (hb:SXs X sr cr):SX X (.If c ss sr pos) (sIf (noT ta) cs cr):=(QaN hc ha hb).of fun G σ H pq92=>
 by obtain⟨ρ,l,st,lr,sr,p⟩:=pq92;exact⟨ρ,l,st,lr,sr,(PostX.no (PostX.bnd p)).imp fun k st1 ρ1 H1 x1 s1 p1=>by
  cases k with
  | true=>exact⟨ρ1,l,st1,lr.mono x1,s1,p1⟩
  | false=>exact⟨ρ1,l,st1,lr.mono x1,s1,p1⟩⟩
def EXx (X:Cx):XK:=fun v _ H'=>∀ pins σ s' a,v=.ref a->Inv X pins σ H' s'->Fl X.s₀.heap X.H₀ H' s'.heap a->X.xe (.ref a) s'
theorem QiO (hex:X.ex=[]):Passes (CX1 X.prog X.w) X (EXx X):=fun pins σ H s e s' I h=>by
 obtain⟨a,H',rfl,os,bare,un,hok,fl,q⟩:=h
 have I2:Inv X pins σ H' s':=I.call' os un hok bare (ch:=[]) (fun b z=>absurd z (by simp))
 have up:∀ b,s.heap.get? b=none->X.s₀.heap.get? b=none:=fun b z=>by
  cases y:X.s₀.heap.get? b with
  | none=>rfl
  | some o=>
   obtain⟨o',q⟩:=I.base.there b o y (by rw[hex];simp)
   rw[z]at q;cases q
 obtain⟨f1,f2,c,d,vs,sl,f3,f4⟩:=fl
 refine q pins σ s' a rfl I2 ⟨up a f1,fun o u z=>f2 o u (I.base.frzs a o u z),c,d,vs,sl,f3,?_⟩
 rcases f4 with f4 | ⟨T,ts,c',d',sl',z1,z2,z3,z4⟩
 ·exact .inl f4
 ·exact .inr ⟨T,ts,c',d',sl',z1,z2,up T z3,z4⟩
theorem QiP {k n : Nat} {f : Addr} {fd : FuncData} {ps : List Str} {g : List D -> M D} {x : Str} {p : Pos} (hex : X.ex = []) (F : FnOk X.prog X.w X.K X.mg X.base (CX1 X.prog X.w) k f fd ps (spX X.K n g)) (hr : Room k X.A) (hg : Gl X x) (hm : X.mg x = some (.ref f))
  (hk:keepIn X.K (.ref f)=true) (hb:Binds X.K fd ps []) (ha:SA X (e::es) ca) (hn:∀ l st ds st',ca l st=.ok ds st'->ds.length=n) (hdb:(x == ("__debug__":Str))=false:=by decide)
  (he:starEach (e::es) X.env=(false,eval e X.env)::starEach es X.env:=by rfl) (hpl:(backTo pos (starEach es X.env)).any (·.1)=false:=by rfl):SEX X (.Call (.Name x p) (e::es) [] pos) (cCall g (noA ca)):=
 (QbL F hr hg hm hk hb .nil (QiO hex) ha hdb he hpl).of fun σ H Q pq93=>by obtain⟨ρ,l,st,lr,sr,p⟩:=pq93;exact⟨ρ,l,st,lr,sr,by
  have q:=PostX.no (PostX.bnd p)
  cases ec:ca l st with
  | bad=>rw[ec]at q;exact q
  | exc _ _=>rw[ec]at q;exact q
  | ok ds st1=>
   rw[ec]at q
   intro ρ1 H1 x1 s1 vs rvs
   refine⟨by rw[List.append_nil,rvs.length];exact hn l st ds st1 ec,ρ1,st1,ds,s1,by rw[List.append_nil];exact rvs,?_⟩
   have p1:PostX X.K ρ1 H1 (g ds st1) (fun d _ ρ' H'=>∀ v,Rep X.K ρ' H' v d->Q v H') (exW X):=q ρ1 H1 x1 s1
   cases eg:g ds st1 with
   | bad=>rw[eg]at p1;exact p1
   | ok r st2=>rw[eg]at p1;exact p1
   | exc d st2=>
    rw[eg]at p1
    intro ρ2 H2 x2 s2 a rep pins σ s' a' ea I fl
    cases ea
    exact p1 ρ2 H2 x2 s2 pins σ s' a I rep fl⟩
theorem QiQ (h:SEX X e fa) (hs:swapsWith e none pos.line X.env=pure false:=by rfl):SX X (.Expr e pos) (sExp fa):=(QaL h hs).of fun G σ H pq94=>
 by obtain⟨ρ,l,st,lr,sr,p⟩:=pq94;exact⟨ρ,l,st,lr,sr,(PostX.bnd p).imp fun d st1 ρ1 H1 x1 s1 p1 v rv=>PostX.ret p1 s1 σ (lr.mono x1)⟩
theorem QiR (h:SEX X e fa):SX X (.Return (some e) pos) (sRet fa):=(QaM h).of fun G σ H pq95=>by obtain⟨ρ,l,st,lr,sr,p⟩:=pq95;exact⟨ρ,l,st,lr,sr,(PostX.bnd p).imp fun d st1 ρ1 H1 x1 s1 p1 v rv=>PostX.ret p1 s1 v rv⟩
end
section
variable {P:Program}{w:World}{K:Frag}{mg:Str->Option Value}{base:Heap}
theorem fnX {x qual : Str} {sd : Stmt} {f : Addr} {fd : FuncData} {N ps : List Str} {k n m : Nat} {body : CS} (F : Fun K x qual sd f fd) (S : FnScope N ps (defScope sd)) (hn : ps.length = n) (hm : N.length = m)
  (hbody:∀ (cdv:Value) (A:Around) (outer:List Env) (s:Shared) (H:Hp) (E:XK),Room k (A.deeper (envOfC qual (defScope sd) s.heap.objs.size f cdv))->SXs (cxOf (CX1 P w) P w K mg base N qual (defScope sd) f cdv A outer s H E) (defBody sd) body):
  FnOk P w K mg base (CX1 P w) (k + 1) f fd ps (spX K n (runDef m body)):=by
 subst hn hm
 obtain⟨oc,od,kV,doc,pm,an,cdv,ct,osl,rfl,lk,hcd⟩:=F.ex
 refine QbS lk hcd S (fun vs H Q E h=>h.1) fun A outer s H vs Q E hr h=>⟨_,hbody cdv A outer s H E hr,?_⟩
 obtain⟨hl,ρ,st,ds,sr,rvs,p⟩:=h
 refine⟨ρ,_,st,LR.start rvs,sr,?_⟩
 unfold runDef at p
 have q:=PostX.bnd p
 cases eb:body (ds.map some++List.replicate (N.length - ds.length) none) st with
 | bad=>rw[eb]at q;exact q
 | ok f st1=>
  rw[eb]at q
  intro ρ1 H1 x1 s1
  have p1:=q ρ1 H1 x1 s1
  cases f with
  | next l=>exact fun σ' _=>PostX.ret p1 s1 _ .non
  | ret d=>exact fun v rv=>PostX.ret p1 s1 v rv
  | brk l=>exact p1.elim
  | cnt l=>exact p1.elim
 | exc d st1=>
  rw[eb]at q
  intro ρ1 H1 x1 s1 pins σ s' a I rep fl
  exact QiJ I fl fun H2 t=>q ρ1 H2 (Ex.turn t x1 fl.2.1) (s1.turn t) a (rep.turn t)
end
section
variable {X:Cx}{a b c e tg:Expr}{es:List Expr}{s:Stmt}{ss:List Stmt}{pos:Pos}{fa fb fc:CE}{ca cb:CA}{ta tb:CT}{cs cr:CS}{K:Frag}{ρ:List Addr}{H:Hp}{st:Sto}
theorem PostX.chkS {W:XW}{p:Sto->Prop}{R:Unit->Sto->List Addr->Hp->Prop} (h:PostX K ρ H (MM.chkS p st) R W) (s:SR K ρ H st):p st/\R () st ρ H:=by
 unfold MM.chkS at h
 by_cases hp:p st
 ·rw[if_pos hp]at h;exact⟨hp,h ρ H Ex.refl s⟩
 ·rw[if_neg hp]at h;exact h.elim
theorem QiS {i : Nat} {x : Str} {pos' : Pos} (hN : X.N.Nodup) (hi : X.N[i]? = some x) (hx : L2.Loc X.env.scope x) (he : SEX X e fa) (hs : swapsWith e (some (.Name x pos')) pos.line X.env = pure false := by rfl)
  (hf:X.fn x=true\/X.env.scope.names.lookup x=some .local:=by first | exact .inl rfl | exact .inr rfl | assumption):SX X (.Assign [.Name x pos'] e pos) (sAsg (gVar i) fa):=
 (QaU hN hi hx he hs hf).of fun G σ H pq96=>by obtain⟨ρ,l,st,lr,sr,p⟩:=pq96;exact⟨ρ,l,st,lr,sr,(PostX.bnd p).imp fun d st1 ρ1 H1 x1 s1 p1 v rv=>
  PostX.ret (PostX.ret (PostX.bnd p1) s1) s1 _ ((lr.mono x1).set i rv)⟩
theorem QiT {iter : Expr} {body : List Stmt} {ci : CI} {g : CG} {cb : CS} (hp : PassesOwn (model X.prog X.w) X.A X.env X.xe) (hc : X.calm = true) (hi : SI X tg iter ci) (hg : SG X tg g) (hb : SXs X body cb)
  (hs:∀ x,foldedSetIterable iter X.env x=pure x:=by intro _;rfl):SX X (.For tg iter body [] pos) (sFor (noI ci) (noG g) cb):=(Qa3 hp hc hi hg hb hs).of fun G σ H pq97=>
 by obtain⟨ρ,l,st,lr,sr,p⟩:=pq97;exact⟨ρ,l,st,lr,sr,(PostX.no (PostX.bnd p)).imp fun w st1 ρ1 H1 x1 s1 p1 J hJ=>by
  refine⟨fun i m σ' H'=>m=w.ds.length - i/\i<=w.ds.length/\∃ ρ' l' st',Ex ρ1 H1 ρ' H'/\LR X.K ρ' H' σ' l'/\SR X.K ρ' H' st'/\PostX X.K ρ' H' (forD (noG g) cb w.same (w.ds.drop i) l' st') (fun f _ ρ' H'=>match f with
   | .next l'=>∀ σ',LR X.K ρ' H' σ' l'->G.nx σ' H'
   | .ret d=>∀ v,Rep X.K ρ' H' v d->G.rt v H'
   | .brk l'=>∀ σ',LR X.K ρ' H' σ' l'->G.bk σ' H'
   | .cnt l'=>∀ σ',LR X.K ρ' H' σ' l'->G.ct σ' H') (exW X),⟨w.ds.length,by simp,Nat.zero_le _,ρ1,l,st1,Ex.refl,lr.mono x1,s1,p1⟩,?_⟩
  rintro i m σ2 H2 ⟨rfl,hi,ρ2,l2,st2,x2,lr2,s2,p2⟩
  by_cases hlt:i < w.ds.length
  ·have ed:w.ds.drop i=w.ds[i]::w.ds.drop (i + 1):=List.drop_eq_getElem_cons hlt
   rw[ed]at p2
   unfold forD at p2
   obtain⟨sm,p3⟩:=PostX.chkS (PostX.bnd p2) s2
   obtain⟨_,go⟩:=hJ ρ2 H2 st2 x2 s2 sm
   obtain⟨g1,g2⟩:=go i w.ds[i] (List.getElem?_eq_getElem hlt)
   refine .inr ⟨g1,fun σ3 H3=>∃ ρ3 l3 st3,Ex ρ1 H1 ρ3 H3/\LR X.K ρ3 H3 σ3 l3/\SR X.K ρ3 H3 st3/\PostX X.K ρ3 H3 (forD (noG g) cb w.same (w.ds.drop (i + 1)) l3 st3) (fun f _ ρ' H'=>match f with
    | .next l'=>∀ σ',LR X.K ρ' H' σ' l'->G.nx σ' H'
    | .ret d=>∀ v,Rep X.K ρ' H' v d->G.rt v H'
    | .brk l'=>∀ σ',LR X.K ρ' H' σ' l'->G.bk σ' H'
    | .cnt l'=>∀ σ',LR X.K ρ' H' σ' l'->G.ct σ' H') (exW X),fun σ3 H3 q=>⟨_,by ac_nf,rfl,hlt,q⟩,fun y H3 hy=>?_⟩
   obtain⟨x3,s3,rv⟩:=g2 y H3 hy
   refine⟨ρ2,l2,st2,_,lr2.mono x3,s3,rv,(PostX.no (PostX.left x3 (PostX.bnd p3))).imp fun l4 st4 ρ4 H4 x4 s4 p4 σ4 lr4=>⟨ρ4,l4,st4,lr4,s4,(PostX.bnd p4).imp fun f st5 ρ5 H5 x5 s5 p5=>?_⟩⟩
   have x5':Ex ρ1 H1 ρ5 H5:=(x2.trans x3).trans (x4.trans x5)
   cases f with
   | next l5=>exact fun σ5 lr5=>⟨ρ5,l5,st5,x5',lr5,s5,p5⟩
   | cnt l5=>exact fun σ5 lr5=>⟨ρ5,l5,st5,x5',lr5,s5,p5⟩
   | brk l5=>exact fun σ5 lr5=>PostX.ret p5 s5 σ5 lr5
   | ret d=>exact fun v rv=>PostX.ret p5 s5 v rv
  ·have e:i=w.ds.length:=by ac_nf
   subst e
   rw[List.drop_length]at p2
   unfold forD at p2
   obtain⟨sm,p3⟩:=PostX.chkS (PostX.bnd p2) s2
   obtain⟨g1,_⟩:=hJ ρ2 H2 st2 x2 s2 sm
   exact .inl ⟨g1,PostX.ret p3 s2 σ2 lr2⟩⟩
end
section
variable {prog:Program}{w:World}{A:Around}{E:Value->Shared->Prop}{env:Env}{C N:Addr}{bm:List Value}
theorem QiU {s : Shared} {x : Sem Value} {Q : Flow -> Shared -> Prop} (hb : bm.contains (.type "BaseException") = true) (hh : A.handled = none)
  (h:wpAny (model prog w) A x (fun v s1=>∃ e d vs sl mN,v=.ref e/\XCls s1.heap C N bm mN/\s1.heap.get? e=some ⟨.ref C,d,.fields vs,sl⟩/\vs[1]?=some .none/\E (.ref e) s1) E s):wpAny (model prog w) A (raiseStmt env (some x) none) Q E s:=by
 have hcB:(Value.ref C::bm).contains (.type "BaseException")=true:=by rw[List.contains_cons,hb,Bool.or_true]
 unfold raiseStmt
 refine wpAny_bind (wpAny_mono h (fun v s1 h1=>?_) fun _ _ x=>x)
 obtain⟨e,d,vs,sl,mN,rfl,⟨⟨nm,q1,bs,sn,sub,ab,col,dd,k0,k1,k2,k3,k5,hC⟩,_⟩,he,hv,hE⟩:=h1
 obtain⟨hp,g,dr,tk,os⟩:=s1
 repeat (first
  | with_reducible refine wpAny_loadPart_at he ?_
  | with_reducible refine wpAny_loadPart_at hC ?_
  | (with_reducible refine wpAny_isSubtype_exc hC ?_
     rw[hcB])
  | wp_step)
 rw[hv]
 refine wpAny_pure ?_
 rw[if_neg (by decide)]
 exact wpAny_pure (wpAny_raiseNew_none hh hE)
end
theorem QiV {P:Addr}:(Value.ref P::vErr).contains (.type "BaseException")=true:=by simp[vErr]
section
variable {X:Cx}{sc:Scope}{x f:Str}{C N P NP:Addr}{pos p cpos:Pos}{e:Expr}{fa:CE}
theorem QiW {fI : Addr} {fd : FuncData} {ps : List Str} (hex : X.ex = []) (hcm : X.calm = true) (F : XF X.K x f C N P NP) (hi : nsIn X.K N (Str.ofString "__init__") = some (some (.ref fI))) (hfn : ∃ oI, X.K.lookup fI = some oI /\ oI.cls = .type "function")
  (G:FnOk X.prog X.w X.K X.mg X.base CX0 1 fI fd ps (spI C f)) (hr:Room 2 X.A) (hb:Binds X.K fd ps []) (hg:Gl X x) (hm:X.mg x=some (.ref C)) (hdb:(x == ("__debug__":Str))=false) (ha:SE X e fa)
  (he:starEach [e] X.env=[(false,eval e X.env)]:=by rfl):SX X (.Raise (some (.Call (.Name x p) [e] [] cpos)) none pos) (xRaise x f fa):=by
 intro pins s σ H D I pq160;obtain⟨ρ,l,st,lr,sr,q⟩:=pq160
 rw[arm_exec_Raise]
 refine wpAny_bind (wpAny_standAt ?_)
 show wpAny _ _ (raiseStmt X.env (some (do let v <- eval (.Call (.Name x p) [e] [] cpos) X.env;standAt pos;pure v)) none) _ _ _
 have mk:=QgI (X:=X) (p:=p) (pos:=cpos) F hi hfn G hr hb hg hm (QbH ha QbG he) hdb he
 have q1:=PostX.no (PostX.bnd q)
 refine QiU (C:=C) (N:=N) (bm:=.ref P::vErr) QiV (I.ok.hd hcm) (wpAny_bind (thn (mk pins s σ H (fun v H2=>∃ a d vs sl,v=.ref a/\H2 a=some (.frz ⟨.ref C,d,.fields vs,sl⟩ (.own a))/\vs[1]?=some .none/\X.s₀.heap.get? a=none/\(∀ o u,X.H₀ a≠some (.frz o u))/\∀ pins σ s',Inv X pins σ H2 s'->Fl X.s₀.heap X.H₀ H2 s'.heap a->X.xe (.ref a) s') I ?_) fun v s1 z=>?_))
 ·refine⟨ρ,l,st,lr,sr,q1.imp fun d st1 ρ1 H1 x1 s1 p1 v rv=>⟨v,rfl,fun a dx ob h1 h0 h2 h3 h4 h5 h6=>?_⟩⟩
  have k:=Qg0 (f:=f) (v:=v) (ob:=ob) (o:=.ext (rawX a C)) h1 h2
  have ga:madeX (upd H1 a (.ext (rawX a C))) a dx f v ob a=some (.frz ob (.own a)):=by unfold madeX;rw[Qai]
  have gd:madeX (upd H1 a (.ext (rawX a C))) a dx f v ob dx=some (.xd [(f,v)]):=by unfold madeX;rw[Qaj h3,Qai]
  have W:=p1 ρ1 _ (Ex.more k) (s1.more k)
  have nH:H a=none:=by
   cases z:H a with
   | none=>rfl
   | some o=>exact absurd h1 (x1.trk a o z)
  have rep:Rep X.K ρ1 (madeX (upd H1 a (.ext (rawX a C))) a dx f v ob) (.ref a) (.exn x [.str f,d]):=.exn F.gl ⟨ob,ga,h4,h5,h6.imp fun _ z=>z.1⟩ gd (rv.mono (Ex.more k))
  obtain⟨vs,e1,e2⟩:=h6
  obtain⟨c0,d0,dd0,sl0⟩:=ob
  cases h4
  cases e1
  have nz:∀ o u,X.H₀ a≠some (.frz o u):=fun o u z=>by
   have:=I.base.frzs a o u z
   rw[nH]at this;cases this
  exact⟨a,d0,vs,sl0,rfl,ga,e2,h0 hex,nz,fun pins σ s' I' fl=>W pins σ s' a I' rep fl⟩
 ·obtain⟨y,H2,I2,ry,a,d,vs,sl,rfl,ga,hv,h0,hz,hx⟩:=z
  obtain rfl:v=Value.ref a:=ry
  obtain⟨mN,mP,ch,_⟩:=F.ch I2.kIn
  obtain⟨gh,_⟩:=(show ObjOk X.prog X.w H2 s1.heap a (.frz ⟨.ref C,d,.fields vs,sl⟩ (.own a)) from I2.hok a _ ga)
  exact wpAny_bind (wpAny_standAt (wpAny_pure ⟨a,d,vs,sl,mN,rfl,ch.c,gh,hv,hx pins σ s1 I2 ⟨h0,hz,_,_,_,_,ga,.inl hv⟩⟩))
end
section
variable {prog:Program}{w:World}{A:Around}{E:Value->Shared->Prop}{C N D N':Addr}{bm bm':List Value}{mN mN':Str->Option Value}
theorem QiX {s : Shared} {e : Addr} {oe : Obj} {Q : Bool -> Shared -> Prop} (xc : XCls s.heap C N bm mN) (xd : XCls s.heap D N' bm' mN') (hb : bm'.contains (.type "BaseException") = true) (he : s.heap.get? e = some oe) (hc : oe.cls = .ref C) (h : Q ((Value.ref C :: bm).contains (.ref D)) s) :
  wpAny (model prog w) A (excMatches (.ref e) (.ref D)) Q E s:=by
 have hcB:(Value.ref D::bm').contains (.type "BaseException")=true:=by rw[List.contains_cons,hb,Bool.or_true]
 obtain⟨⟨nm,q1,bs,sn,sub,ab,col,dd,k0,k1,k2,k3,k5,hD⟩,_⟩:=xd
 obtain⟨⟨nm',q1',bs',sn',sub',ab',col',dd',k0',k1',k2',k3',k5',hC⟩,_⟩:=xc
 obtain⟨hp,g,dr,tk,os⟩:=s
 obtain⟨c0,d0,dt0,sl0⟩:=oe
 cases hc
 have f:=tc_notTuple
 generalize hk:(Value.ref C::bm).contains (.ref D)=kk at h
 unfold excMatches
 repeat (first
  | with_reducible refine wpAny_loadPart_at he ?_
  | with_reducible refine wpAny_loadPart_at hD ?_
  | with_reducible refine wpAny_loadPart_at hC ?_
  | (with_reducible refine wpAny_isSubtype_exc hD ?_
     rw[hcB])
  | (with_reducible refine wpAny_isSubtype_exc hC ?_
     rw[hk])
  | wp_step)
 cases kk<;>(wp_walk;exact h)
end
theorem QiY {fs fs' : List Addr} {H1 H' : Hp} {h1 h' h3 : Heap} {a : Addr} {c f : Value} {d : Option Addr} {sl : Array (Option Value)} {vs vs' : Array Value} (un : Un fs [] H1 H' h1 h') (fl1 : h1.get? a = none) (fl2 : ∀ o u, H1 a ≠ some (.frz o u)) (hH : H' a = some (.frz ⟨c, d, .fields vs, sl⟩ (.own a)))
  (hT:∀ T,vs[1]?=some (.ref T)->h1.get? T=none) (g:Gone fs' a c d sl vs f h' h3) (hfs:∀ b o,h1.get? b=some o->b∉fs->b∉fs'):Un fs [] H1 (upd H' a (.frz ⟨c,d,.fields vs',sl⟩ (.own a))) h1 h3:=by
 have nea:∀ b o,h1.get? b=some o->b≠a:=fun b o q z=>by rw[z,fl1]at q;cases q
 have neT:∀ b o,h1.get? b=some o->vs[1]?≠some (.ref b):=fun b o q z=>by rw[hT b z]at q;cases q
 have nw:∀ b,b≠a->upd H' a (.frz ⟨c,d,.fields vs',sl⟩ (.own a)) b=H' b:=fun b z=>Qaj z
 refine⟨fun b o q n hb hx=>?_,fun b o q n hb hx=>?_,fun b o q n hx=>?_,fun b o q hx=>?_,fun b xs q=>?_,fun b o u q=>?_,fun b ps q=>?_⟩
 ·exact g.keep b o (nea b o q) (neT b o q) (hfs b o q hb) (un.keep b o q n hb hx)
 ·obtain⟨sl1,q1⟩:=un.slot b o q n hb hx
  obtain⟨sl2,q2⟩:=g.slot b _ (nea b o q) (neT b o q) q1
  exact⟨sl2,q2⟩
 ·rw[nw b (nea b o q)];exact un.free b o q n hx
 ·obtain⟨o',q1⟩:=un.there b o q hx;exact g.there b o' q1
 ·have:=un.tups b xs q
  rw[nw b fun z=>by rw[z,hH]at this;cases this];exact this
 ·have:=un.frzs b o u q
  rw[nw b fun z=>by rw[z]at q;exact fl2 o u q];exact this
 ·obtain⟨more,q1⟩:=un.tbls b ps q
  exact⟨more,by rw[nw b fun z=>by rw[z,hH]at q1;cases q1];exact q1⟩
def hand (X:Cx) (a:Addr):Cx:={ X with A:=X.A.mark (some (.ref a)),calm:=false,xe:=fun _ _=>False }
section
variable {X:Cx}{pins:List (Addr × Obj)}{σ:L2.St}{H:Hp}{s:Shared}{a:Addr}
theorem QiZ (ok:X.Ok):(hand X a).Ok:=⟨ok.mod,ok.kind,ok.glob,ok.blt,ok.above,ok.inj,ok.has,ok.cab,fun z=>(nomatch z),ok.frames,ok.stk,ok.exf,ok.bs,ok.bsz,ok.noex,ok.exfs,ok.funs,ok.frf⟩
theorem Qi0 (I:Inv X pins σ H s):Inv (hand X a) pins σ H s:=⟨QiZ I.ok,I.os,I.bare,I.base,I.loc,I.cell,I.free,I.freeC,I.pin,I.hok,I.len⟩
theorem Qi1 (ok:X.Ok) (I:Inv (hand X a) pins σ H s):Inv X pins σ H s:=⟨ok,I.os,I.bare,I.base,I.loc,I.cell,I.free,I.freeC,I.pin,I.hok,I.len⟩
theorem Qi2 {M : Model} {A : Around} {E : Value -> Shared -> Prop} {i : Nat} {n : Str} {v : V} {Q : Unit -> Shared -> Prop} (I : Inv X pins σ H s) (hN : X.N.Nodup) (hi : X.N[i]? = some n) (hl : X.env.scope.names.lookup n = some .local) (hv : σ[i]? = some (some v))
  (h:∀ s',Inv X pins (σ.set i none) H s'->Q () s'):wpAny M A (unbindName X.env n) Q E s:=by
 obtain⟨m,hn,hlo⟩:=id I.loc
 have hcls:(X.env.scope.kind == .class || (X.env.scope.kind == .module && X.env.locals != X.env.globals))=false:=by rw[I.ok.kind];rfl
 have hk:X.env.kindOf n=some .local:=hl
 obtain⟨u,ru,lu⟩:=hlo i n v hi hv (.inl hl)
 have hm:m n=some u:=by
  rcases lu with ⟨_,z⟩ | ⟨z,_⟩
  ·exact z
  ·rw[hk]at z;rcases z with z | z<;>cases z
 refine wpAny_unbindName_local hk hn hm hcls fun h' u' hn' hs=>h _ ?_
 have ne0:∀ b o,X.s₀.heap.get? b=some o->b≠X.env.locals:=fun b o q z=>by
  have:=Heap.lt_size q
  rw[z]at this
  exact absurd (Nat.lt_of_lt_of_le this I.ok.above) (Nat.lt_irrefl _)
 have eq0:∀ b o,X.s₀.heap.get? b=some o->h'.get? b=s.heap.get? b:=fun b o q=>hs.2 b (ne0 b o q)
 refine⟨I.ok,I.os,I.bare,⟨fun b o q n hb hx=>(eq0 b o q).trans (I.base.keep b o q n hb hx),fun b o q n hb hx=>?_,I.base.free,fun b o q hx=>?_,I.base.tups,I.base.frzs,I.base.tbls⟩,⟨_,hn',fun j y v' h1 h2 h3=>?_⟩,fun y c e=>?_,I.free,I.freeC,fun p hp=>?_,fun b o e=>?_,?_⟩
 ·obtain⟨sl,z⟩:=I.base.slot b o q n hb hx;exact⟨sl,(eq0 b o q).trans z⟩
 ·obtain⟨o',z⟩:=I.base.there b o q hx;exact⟨o',(eq0 b o q).trans z⟩
 ·have hji : j ≠ i := fun z => by
    subst z
    have hl:j < σ.length:=(List.getElem?_eq_some_iff.mp hv).1
    rw[List.getElem?_set_self hl]at h2;cases h2
  rw[List.getElem?_set_ne (Ne.symm hji)]at h2
  obtain⟨w,rw',lw⟩:=hlo j y v' h1 h2 h3
  refine⟨w,rw',?_⟩
  rcases lw with ⟨z1,z2⟩ | ⟨z1,c,z2,z3⟩
  ·refine .inl ⟨z1,?_⟩
   have:y≠n:=fun z=>by
    subst z
    exact hji ((List.getElem?_inj (List.getElem?_eq_some_iff.mp h1).1 hN).mp (h1.trans hi.symm))
   dsimp only
   rw[if_neg this];exact z2
  ·refine .inr ⟨z1,c,z2,?_⟩
   obtain⟨o,e1,e2⟩:=z3
   exact⟨o,(hs.2 c (I.cne y c z2)).trans e1,e2⟩
 ·obtain⟨w,o,e1,e2⟩:=I.cell y c e
  exact⟨w,o,(hs.2 c (I.cne y c e)).trans e1,e2⟩
 ·obtain⟨p1,p2,p3,p4⟩:=I.pin p hp
  exact⟨(hs.2 p.1 p3).trans p1,p2,p3,p4⟩
 ·refine (I.hok b o e).stay (fun c w' hc q=>(hs.2 c ?_).trans q) (fun _ q=>q) fun _ _ q=>q
  rintro rfl
  rcases hc with z | z
  ·rw[<- z,I.free]at e;cases e
  ·rw[I.free]at z;cases z
 ·rw[List.length_set];exact I.len
end
theorem LR.unset {K:Frag}{ρ:List Addr}{H:Hp}{σ:L2.St}{l:Loc}{i:Nat} (h:LR K ρ H σ l):LR K ρ H (σ.set i none) (l.set i none):=by
 refine⟨by rw[List.length_set,List.length_set];exact h.1,fun k d e=>?_⟩
 have hk:k≠i:=fun z=>by
  subst z
  by_cases hl:k < l.length
  ·rw[List.getElem?_set_self hl]at e;cases e
  ·rw[List.getElem?_eq_none (by rw[List.length_set];ac_nf)]at e;cases e
 rw[List.getElem?_set_ne (Ne.symm hk)]at e ⊢
 exact h.2 k d e
theorem Post.no {α:Type}{K:Frag}{ρ:List Addr}{H:Hp}{st:Sto}{m:M α}{R:α->Sto->List Addr->Hp->Prop} (h:Post K ρ H (noM m st) R):Post K ρ H (m st) R:=by
 unfold noM at h
 cases e:m st with
 | ok a s'=>rw[e]at h;exact h
 | exc _ _=>rw[e]at h;exact h
 | bad=>rw[e]at h;exact h
def hCode (y:Str) (i:Nat) (hb:CS) (l:Loc) (d:D):M Flw:=fun s'=>match d with
 | .exn x ds => if x = y then bnd (noM (hb (l.set i (some (.exn x ds))))) (fun f => match f with
   | .next l'=>ret (.next (l'.set i none))
   | .ret d=>ret (.ret d)
   | _=>bad) s' else .bad
 | _=>.bad
section
variable {X:Cx}{e:Expr}{es:List Expr}{ca:CA}{hc:CS}
variable {k n:Nat}{f:Addr}{fd:FuncData}{ps:List Str}{g:List D->M D}{fn x y nm fl:Str}{p p2 p3 cpos apos hpos pos:Pos}{i j:Nat}{C N P NP:Addr}{b0:Stmt}{suite:List Stmt}
theorem Qi3 (hcm : X.calm = true) (hst : X.stack = X.env :: X.outer) (hfr : X.env.frame = some X.env.locals) (F : FnOk X.prog X.w X.K X.mg X.base (CX1 X.prog X.w) k f fd ps (spX X.K n g)) (hr : Room k X.A) (hg : Gl X fn) (hm : X.mg fn = some (.ref f))
  (hk:keepIn X.K (.ref f)=true) (hb:Binds X.K fd ps []) (ha:SA X.nox (e::es) ca) (hn:∀ l st ds st',ca l st=.ok ds st'->ds.length=n) (hdb:(fn == ("__debug__":Str))=false)
  (he:starEach (e::es) X.env=(false,eval e X.env)::starEach es X.env) (hpl:(backTo cpos (starEach es X.env)).any (·.1)=false)
  (hN:X.N.Nodup) (hj:X.N[j]?=some x) (hx:L2.Loc X.env.scope x) (hs:swapsWith (.Call (.Name fn p2) (e::es) [] cpos) (some (.Name x p)) apos.line X.env=pure false) (hf:X.fn x=true\/X.env.scope.names.lookup x=some .local)
  (G:XF X.K y fl C N P NP) (hgy:Gl X y) (hmy:X.mg y=some (.ref C)) (hdy:(y == ("__debug__":Str))=false) (hi:X.N[i]?=some nm) (hl:X.env.scope.names.lookup nm=some .local)
  (hsuite:∀ a,SSs (hand X a) (b0::suite) hc):
  SS X (.Try [.Assign [.Name x p] (.Call (.Name fn p2) (e::es) [] cpos) apos] [.ExceptHandler (some (.Name y p3)) (some nm) (b0::suite) hpos] [] [] pos) (sTry (sAsg (gVar j) (cCall g (noA ca))) y i hc):=by
 intro pins s σ H D I pq161;obtain⟨ρ,l,st,lr,sr,q⟩:=pq161
 refine wpAny_Try_except (wpAny_execs_cons (wpAny_Assign_Name ?_ hs))
 refine wpAny_Call_Name_kw (Qax I hg hm ?_ hdb)
 have arg : tsOf X.K (sTry (sAsg (gVar j) (cCall g (noA ca))) y i hc) D σ H -> taOf X.K ca σ H fun vs H1 => spX X.K n g vs H1 (fun v H2 => D.nx (σ.set j (some v)) H2) (fun v _ H2 => ∀ a, v = .ref a -> (∀ o u, H1 a ≠ some (.frz o u)) -> ∀ H3, Turned a H2 H3 -> ∃ ρ3 d st3, LR X.K ρ3 H3 σ l /\ SR X.K ρ3 H3 st3 /\ Rep X.K ρ3 H3 (.ref a) d /\ Post X.K ρ3 H3 (hCode y i hc l d st3) fun f _ ρ' H' => match f with
   | .next l'=>∀ σ',LR X.K ρ' H' σ' l'->D.nx σ' H'
   | .ret d=>∀ v,Rep X.K ρ' H' v d->D.rt v H'
   | .brk l'=>∀ σ',LR X.K ρ' H' σ' l'->D.bk σ' H'
   | .cnt l'=>∀ σ',LR X.K ρ' H' σ' l'->D.ct σ' H'):=fun _=>by
  refine⟨ρ,l,st,lr,sr,?_⟩
  cases ec:ca l st with
  | bad=>
   have:sTry (sAsg (gVar j) (cCall g (noA ca))) y i hc l st=.bad:=by unfold sTry sAsg cCall noA noM bnd;dsimp only;rw[ec]
   rw[this]at q;exact q
  | exc _ _=>
   have:sTry (sAsg (gVar j) (cCall g (noA ca))) y i hc l st=.bad:=by unfold sTry sAsg cCall noA noM bnd;dsimp only;rw[ec]
   rw[this]at q;exact q
  | ok ds st1=>
   intro ρ1 H1 x1 s1 vs rvs
   refine⟨by rw[rvs.length];exact hn l st ds st1 ec,ρ1,st1,ds,s1,rvs,?_⟩
   cases eg:g ds st1 with
   | bad=>
    have:sTry (sAsg (gVar j) (cCall g (noA ca))) y i hc l st=.bad:=by unfold sTry sAsg cCall noA noM bnd;dsimp only;rw[ec];dsimp only;rw[eg]
    rw[this]at q;exact q
   | ok r st2=>
    have:sTry (sAsg (gVar j) (cCall g (noA ca))) y i hc l st=.ok (.next (l.set j (some r))) st2:=by unfold sTry sAsg cCall noA noM bnd;dsimp only;rw[ec];dsimp only;rw[eg];rfl
    rw[this]at q
    exact fun ρ2 H2 x2 s2 v rv=>q ρ2 H2 (x1.trans x2) s2 _ ((lr.mono (x1.trans x2)).set j rv)
   | exc d st2=>
    have:sTry (sAsg (gVar j) (cCall g (noA ca))) y i hc l st=hCode y i hc l d st2:=by unfold sTry sAsg cCall noA noM bnd hCode;dsimp only;rw[ec];dsimp only;rw[eg];cases d<;>rfl
    rw[this]at q
    intro ρ2 H2 x2 s2 a rep a' ea na H3 t
    cases ea
    have x3:=Ex.turn t x2 na
    exact⟨ρ2,d,st2,lr.mono (x1.trans x3),s2.turn t,rep.turn t,Post.left (x1.trans x3) q⟩
 have hq:=arg ⟨ρ,l,st,lr,sr,q⟩
 refine PySem.W.callWith_K (h₀:=X.base) I.ok.mod.kin hk (wpAny_mono (ha cpos pins s σ H _ (I.wish _) hq) (fun us s1 z=>?_) fun _ _ z=>False.elim z) he hpl
 obtain⟨vs,H1,I1',rv,sp⟩:=z
 have I1:Inv X pins σ H1 s1:=I1'.unwish
 refine⟨I1.kIn,?_⟩
 have hlen:(us++[]).length=ps.length:=by rw[List.append_nil,<- rv.length];exact F.len _ _ _ _ sp
 refine wpAny_call (codeAny_mono (F.run X.A X.stack s1 H1 ⟨us,[]⟩ (us++[]) vs _ _ hr I1.env0 (hb s1 us I1.kIn hlen) (by rw[List.append_nil];exact rv) sp) fun r s2 hr2=>?_)
 cases r with
 | ok fl=>
  cases fl with
  | ret u=>
   obtain⟨v,H2,I2,ru,nx⟩:=I1.after hr2
   exact Qar I2 hN hj hx ru (fun s3 I3=>wpAny_execs_nil (wpAny_execs_nil ⟨_,H2,I3,nx⟩)) hf
  | next=>exact False.elim hr2
  | brk=>exact False.elim hr2
  | cont=>exact False.elim hr2
 | error ev=>
  obtain⟨a,H2,rfl,os,bare,un,hok,fl,hE⟩:=hr2
  have I2:Inv X pins σ H2 s2:=I1.call' os un hok bare (ch:=[]) (fun b z=>absurd z (by simp))
  obtain⟨c,d0,vs0,sl,hH,hv,hT⟩:=fl.fly
  obtain⟨ga,_⟩:=(show ObjOk X.prog X.w H2 s2.heap a (.frz ⟨c,d0,.fields vs0,sl⟩ (.own a)) from I2.hok a _ hH)
  have hfs:X.A.frames=some (X.env::X.outer):=by rw[<- hst];exact I2.ok.frames
  have hstk:s2.heap.FunFrames X.base (X.env::X.outer):=by rw[<- hst];exact I2.stack
  have hsf:∀ b∈(X.env::X.outer).filterMap (·.frame),H2 b=none:=by
   have:=I2.stkFree;rw[hst]at this;exact this
  have un':Un ((X.env::X.outer).filterMap (·.frame)) [] H1 H2 s1.heap s2.heap:=by rw[hst]at un;exact un
  have key:∀ h4,Gone ((X.env::X.outer).filterMap (·.frame)) a c d0 sl vs0 .none s2.heap h4->∃ H4 o4,Inv X pins σ H4 { s2 with heap:=h4 }/\Turned a H2 H4/\h4.get? a=some o4/\o4.cls=c:=fun h4 g4=>by
   obtain⟨vs',T,ts,c',d',sl',e1,e2,e3,e4,e5,e6⟩:=g4.ex
   have un4:=QiY (vs':=vs') un' fl.1 fl.2.1 hH (fun T z=>(hT T z).2) g4 (fun b o _ hb=>hb)
   refine⟨_,_,I1.call' (s':={ s2 with heap:=h4 }) os (by rw[hst];exact un4) (QiI hok hsf hH (fun T z=>(hT T z).1) g4 e1) bare (ch:=[]) (fun b z=>absurd z (by simp)),⟨c,d0,vs0,vs',sl,hH,rfl⟩,e1,rfl⟩
  refine QiF hfs hstk hfr ga hv fun h3 g3=>Gone.calm (s:={ s2 with heap:=h3 }) g3 fun h4 g4=>?_
  obtain⟨H4,o4,I4,t4,ga4,hc4⟩:=key h4 g4
  obtain⟨ρ4,d4,st4,lr4,sr4,rep4,p4⟩:=hE a rfl fl.2.1 H4 t4
  have exn_of:∀ {ρ':List Addr}{H':Hp}{d:MM.D}{st':Sto}{R:Flw->Sto->List Addr->Hp->Prop},Post X.K ρ' H' (hCode y i hc l d st') R->∃ ds,d=.exn y ds:=fun {ρ' H' d st' R} z=>by
   cases d with
   | exn x' ds=>
    by_cases e:x'=y
    ·subst e;exact⟨ds,rfl⟩
    ·unfold hCode at z
     dsimp only at z
     rw[if_neg e]at z
     exact z.elim
   | _=>exact z.elim
  have hcC:c=.ref C:=by
   obtain⟨ds,rfl⟩:=exn_of p4
   obtain⟨c1,d1,vs1,vs1',sl1,e1,rfl⟩:=t4
   rw[hH]at e1
   cases e1
   cases rep4 with
   | exn0 g h=>
    obtain⟨o,ho,hco⟩:=h
    rw[Qai]at ho
    cases ho
    have:=g.symm.trans G.gl
    injection this with t;injection t with t;rw[<- t];exact hco
   | exn g h h2 r=>
    obtain⟨o,ho,hco,_⟩:=h
    rw[Qai]at ho
    cases ho
    have:=g.symm.trans G.gl
    injection this with t;injection t with t;rw[<- t];exact hco
  refine wpAny_handleBy_cons (codeAny_handlers_test ?_) (by intro q;cases q)
  refine Qax (X:=hand X a) (Qi0 I4) hgy hmy ?_ hdy
  obtain⟨mN,mP,ch,_⟩:=G.ch I4.kIn
  refine QiX ch.c ch.c QiV ga4 (hc4.trans hcC) ?_
  rw[show (Value.ref C::Value.ref P::vErr).contains (.ref C)=true by simp]
  refine codeAny_handlers_suite_as ?_
  refine Gone.calm (s:={ s2 with heap:=h4 }) g4 fun h5 g5=>?_
  obtain⟨H5,o5,I5,t5,ga5,hc5⟩:=key h5 g5
  obtain⟨ρ5,d5,st5,lr5,sr5,rep5,p5⟩:=hE a rfl fl.2.1 H5 t5
  obtain⟨ds,rfl⟩:=exn_of p5
  have hlen:i < σ.length:=by rw[I.len];exact (List.getElem?_eq_some_iff.mp hi).1
  refine Qar I5 hN hi (.inl hl) (v:=.ref a) rfl (fun s6 I6=>?_) (.inr hl)
  refine wpAny_mono (hsuite a pins s6 _ H5 { nx:=fun σ' H'=>D.nx (σ'.set i none) H',rt:=D.rt,bk:=fun _ _=>False,ct:=fun _ _=>False } (Qi0 I6) ⟨ρ5,l.set i (some (.exn y ds)),st5,lr5.set i rep5,sr5,?_⟩) (fun fw s7 hs7=>?_) (fun _ _ z=>False.elim z)
  ·unfold hCode at p5
   dsimp only at p5
   rw[if_pos rfl]at p5
   refine (Post.no (Post.bnd p5)).imp fun fw st6 ρ6 H6 x6 s6' p6=>?_
   cases fw with
   | next l'=>exact fun σ' lr'=>Post.ret p6 s6' _ lr'.unset
   | ret d=>exact fun v rv=>Post.ret p6 s6' v rv
   | brk l'=>exact p6.elim
   | cnt l'=>exact p6.elim
  ·have fin : ∀ (σ' : L2.St) H', Inv X pins σ' H' s7 -> ∀ {Q : Unit -> Shared -> Prop} {E : Value -> Shared -> Prop}, (∀ s9, Inv X pins (σ'.set i none) H' s9 -> Q () s9) -> wpAny (model X.prog X.w) X.A (do bindName X.env nm .none; unbindBehindTheSuite X.env nm hpos) Q E s7 := fun σ' H' I7 {Q E} hQ => by
     have hl7:i < σ'.length:=by rw[I7.len];exact (List.getElem?_eq_some_iff.mp hi).1
     refine wpAny_bind (wpAny_bindName (Qar I7 hN hi (.inl hl) (v:=.non) rfl (fun s8 I8=>?_) (.inr hl)))
     unfold unbindBehindTheSuite
     refine wpAny_onRaise (Qi2 I8 hN hi hl (List.getElem?_set_self hl7) fun s9 I9=>hQ s9 ?_)
     rw[List.set_set]at I9
     exact I9
   cases fw with
   | next=>
    obtain⟨σ',H',I7,nx⟩:=hs7
    exact fin σ' H' (Qi1 I.ok I7) fun s9 I9=>⟨_,H',I9,nx⟩
   | ret u=>
    obtain⟨v,σ',H',I7,r,rt⟩:=hs7
    exact fin σ' H' (Qi1 I.ok I7) fun s9 I9=>⟨v,_,H',I9,r,rt⟩
   | brk=>obtain⟨_,_,_,z⟩:=hs7;exact False.elim z
   | cont=>obtain⟨_,_,_,z⟩:=hs7;exact False.elim z
end
def XCl (h:Heap) (D:Addr):Prop:=∃ nm q bs bm N sn sub ab col dd k0 k1 k2 k3 k5,h.get? D=some (excClassObj nm q D N bs bm true sn sub ab col dd k0 k1 k2 k3 k5 "ValueError.__new__")
section
variable {prog:Program}{w:World}{A:Around}{E:Value->Shared->Prop}{s:Shared}{C N P NP e:Addr}{mN mP:Str->Option Value}
theorem Qi4 {o : Obj} {D : Addr} {dep : Int} {tk0 : Tok} {R : PySem.Fin -> Shared -> Prop} (x : XCh s.heap C N P NP mN mP) (pl : Plain mN mP) (g : s.heap.get? e = some o) (hc : o.cls = .ref C) (hD : XCl s.heap D)
  (q:∀ tk,R (.done (.ret (.bool ((Value.ref C::Value.ref P::vErr).contains (.ref D))))) { s with toks:=tk }):wpAny (model prog w) A (Builtin.«isinstance.nested» ⟨[.ref e,.ref D,.int dep tk0],[]⟩) R E s:=by
 obtain⟨nm0,q0,bs0,bm0,N0,sn0,sub0,ab0,col0,dd0,j0,j1,j2,j3,j5,gD⟩:=hD
 unfold Builtin.«isinstance.nested»
 dsimp only
 refine wpAny_bind (Qgh g hc ?_)
 by_cases h1:(Value.ref C == Value.ref D)=true
 ·rw[if_pos h1]
  refine wpAny_bind (wpAny_rule (wpAny_pure ?_))
  have e1:(Value.ref C::Value.ref P::vErr).contains (.ref D)=true:=by
   rw[List.contains_cons]
   have:(Value.ref D == Value.ref C)=true:=by
    rw[beq_iff_eq]at h1 ⊢;exact h1.symm
   rw[this];rfl
  have:=q s.toks
  rw[e1]at this
  exact this
 ·rw[if_neg h1]
  refine wpAny_bind (wpAny_typeOf_ref gD ?_)
  rw[if_pos (show (Value.type "type" == Value.type "type")=true by decide)]
  refine wpAny_bind ?_
  show wpAny _ _ (isType (.ref D) >>= _) _ _ _
  unfold isType
  dsimp only
  unfold loadHead
  refine wpAny_bind (wpAny_bind (wpAny_loadPart gD (wpAny_pure ?_)))
  rw[if_neg (show ¬ ((!true)=true) by decide)]
  unfold isInstance
  refine wpAny_bind (wpAny_bind (Qgh g hc (Qgd x.c ?_)))
  by_cases h2:(Value.ref C::Value.ref P::vErr).contains (.ref D)=true
  ·rw[if_pos h2]
   refine wpAny_pure (wpAny_pure ?_)
   have:=q s.toks
   rw[h2]at this
   exact this
  ·rw[if_neg h2]
   refine wpAny_bind (QgC x pl g hc fun tk=>?_)
   dsimp only
   obtain⟨⟨nm,q1,bs,sn,sub,ab,col,dd,k0,k1,k2,k3,k5,gC⟩,ns⟩:=id x.c
   refine wpAny_bind (wpAny_bind (wpAny_loadPart (s:={ s with toks:=tk }) gC (wpAny_pure ?_)))
   rw[if_neg (by simp)]
   refine wpAny_bind (wpAny_rule (Qgd (s:={ s with toks:=tk }) x.c ?_))
   refine wpAny_pure ?_
   exact q tk
def cOf (C P D:Addr):Bool:=(Value.ref C::Value.ref P::vErr).contains (.ref D)
theorem Qi5 {o:Obj}{P0:Shared->Prop} (hc:o.cls=.ref C) (pl:Plain mN mP) (h0:∀ s,P0 s->XCh s.heap C N P NP mN mP/\s.heap.get? e=some o):∀ {Ds:List Addr},(∀ s,P0 s->∀ D∈Ds,XCl s.heap D)->AnswersAll P0 (.ref e) (Ds.map Value.ref) (Ds.map (cOf C P))
 | [],_=>trivial
 | D::Ds,h=>⟨fun dep tk prog w A R s hs=>Qi4 (h0 s hs.1).1 pl (h0 s hs.1).2 hc (h s hs.1 D List.mem_cons_self) hs.2,Qi5 hc pl h0 fun s z D' m=>h s z D' (List.mem_cons_of_mem _ m)⟩
theorem Qi6 {o o' : Obj} {tp : Addr} {Ds : List Addr} {n : Nat} {Q : Value -> Shared -> Prop} (x : XCh s.heap C N P NP mN mP) (pl : Plain mN mP) (g : s.heap.get? e = some o) (hc : o.cls = .ref C) (hD : ∀ D ∈ Ds, XCl s.heap D)
  (ht:s.heap.get? tp=some o') (htc:o'.cls=.type "tuple") (htd:o'.data=.seq (Ds.map Value.ref).toArray n) (q:∀ tk,Q (.bool (Ds.any (cOf C P))) { s with toks:=tk }):wpAny (model prog w) A (call (.builtin "isinstance") [.ref e,.ref tp]) Q E s:=by
 refine call_isinstance_of ?_ (fun z=>nomatch z)
 unfold Builtin.«isinstance.nested»
 dsimp only[rawInt]
 refine wpAny_bind (Qgh g hc ?_)
 have hne:¬ ((Value.ref C == Value.ref tp)=true):=fun z=>by
  rw[beq_iff_eq]at z
  injection z with z
  subst z
  obtain⟨⟨nm,q1,bs,sn,sub,ab,col,dd,k0,k1,k2,k3,k5,gC⟩,ns⟩:=x.c
  rw[gC]at ht
  cases ht
  exact absurd (show Value.type "type"=Value.type "tuple" from htc) (by decide)
 rw[if_neg hne]
 refine wpAny_bind (wpAny_typeOf_ref ht ?_)
 rw[htc,if_neg (by decide)]
 refine wpAny_bind ?_
 unfold Builtin.Builtins.unionMembers
 refine wpAny_bind (wpAny_typeOf_ref ht ?_)
 rw[htc,if_neg (by decide)]
 refine wpAny_pure (wpAny_bind (wpAny_isInstance (T:="tuple") (b:=true) ⟨o',ht,htc⟩ F.isi_sub_tuple ?_))
 rw[if_pos rfl]
 rw[if_neg (by decide)]
 unfold seqItems?
 dsimp only
 refine wpAny_bind ?_
 refine wpAny_bind (wpAny_load ht ?_)
 rw[htd]
 refine wpAny_pure (wpAny_bind ?_)
 refine wpAny_arrayLoop ?_
 simp only[Option.getD_some,List.toList_toArray]
 refine isinstance_items (dep:=0) (P:=fun s'=>XCh s'.heap C N P NP mN mP/\s'.heap.get? e=some o/\∀ D∈Ds,XCl s'.heap D) (fun s tk z=>z) (Ds.map Value.ref) (Ds.map (cOf C P)) _ _ (Qi5 hc pl (fun s z=>⟨z.1,z.2.1⟩) fun s z=>z.2.2) ⟨x,g,hD⟩ fun tk'=>?_
 have ea:(Ds.map (cOf C P)).any id=Ds.any (cOf C P):=by rw[List.any_map];rfl
 rw[ea]
 cases hv:Ds.any (cOf C P) with
 | true=>have:=q tk';rw[hv]at this;exact wpAny_pure this
 | false=>have:=q tk';rw[hv]at this;exact wpAny_pure this
end
section
variable {X:Cx}{e:Expr}{fa:CE}{p p1 pos:Pos}{xs ys zs:List Str}
theorem Qi7 (C P D:Addr):cOf C P D=(decide (D=C) || decide (D=P)):=by
 show (Value.ref C::Value.ref P::vErr).contains (Value.ref D)=_
 rw[List.contains_cons,List.contains_cons]
 have z:vErr.contains (Value.ref D)=false:=rfl
 rw[z,Bool.or_false]
 have z2:∀ a b:Addr,(Value.ref a == Value.ref b)=decide (a=b):=fun a b=>by
  by_cases w:a=b
  ·subst w;rw[decide_eq_true rfl];exact beq_self_eq_true _
  ·rw[decide_eq_false w];exact beq_eq_false_iff_ne.mpr (fun z=>w (by injection z))
 rw[z2,z2]
theorem Qi8:∀ {Ds:List Addr}{its:List Value},Vals (Ds.map V.ref) its->its=Ds.map Value.ref
 | [],_,r=>by cases r;rfl
 | D::Ds,_,r=>by
  cases r with
  | cons r1 r2=>cases r1;rw[Qi8 r2];rfl
theorem Qi9:CallR X (.builtin "isinstance") (fun vs H Q=>∃ (a:Addr) (ob:Obj) (x f:Str) (C N P NP tp:Addr) (Ds:List Addr),vs=[.ref a,.ref tp]/\XF X.K x f C N P NP/\H a=some (.frz ob (.own a))/\ob.cls=.ref C/\H tp=some (.tup (Ds.map V.ref))/\(∀ D∈Ds,∃ y,XO X.K y D)/\Q (.bl (Ds.any (cOf C P))) H):=by
 intro pins s σ H xs us Q I r h
 obtain⟨a,ob,x,f,C,N,P,NP,tp,Ds,rfl,F,ea,oc,ht,hD,q⟩:=h
 obtain⟨mN,mP,ch,pl,no,hN,hpi⟩:=F.ch I.kIn
 obtain⟨ga,_⟩:=(show ObjOk X.prog X.w H s.heap a (.frz ob (.own a)) from I.hok a _ ea)
 obtain⟨_,its,rv,o',g1,g2,⟨n,g3⟩,_⟩:=(show ObjOk X.prog X.w H s.heap tp (.tup (Ds.map V.ref)) from I.hok tp _ ht)
 cases r with
 | cons r1 r2=>
 cases r1
 cases r2 with
 | cons r3 r4=>
 cases r4
 cases r3
 refine Qi6 ch pl ga oc (fun D hd=>?_) g1 g2 (by rw[g3,Qi8 rv]) fun tk=>⟨.bl _,H,I.tok _,rfl,q⟩
 obtain⟨y,O⟩:=hD D hd
 obtain⟨N,bm,q,bs,sn,sub,ab,col,dd,k0,k1,k2,k3,k5,l⟩:=O.ob
 exact⟨_,_,_,_,_,_,_,_,_,_,_,_,_,_,_,I.kIn _ _ l⟩
def XOs (K:Frag) (mg:Str->Option Value) (ys:List Str):Prop:=∀ y,ys.contains y=true->∃ D,XO K y D/\mg y=some (.ref D)
def nmsC (ok:Str->Bool):List Expr->Option (List Str)
 | []=>some []
 | .Name y _::es=>if ok y=true then (nmsC ok es).bind fun zs=>some (y::zs) else none
 | _=>none
theorem Qja {ok : Str -> Bool} (hy : XOs X.K X.mg ys) (hok : ∀ y, ok y = true -> ys.contains y = true /\ Gl X y /\ nokB y = true) : ∀ {es : List Expr} {zs : List Str}, nmsC ok es = some zs -> ∃ Ds : List Addr, PA X es (fun σ H Q => Q (Ds.map V.ref) H) /\ zs.length = Ds.length /\ (∀ D ∈ Ds, ∃ y, XO X.K y D) /\
  ∀ C P x,XO X.K x C->XO X.K "PactError" P->Ds.any (cOf C P)=zs.any fun y=>x == y || ("PactError":Str) == y
 | [],zs,h=>by cases h;exact⟨[],QbG,rfl,fun D z=>(nomatch z),fun _ _ _ _ _=>rfl⟩
 | e::es,zs,h=>by
  unfold nmsC at h
  split at h
  ·cases ‹_::_=[]›
  ·rename_i y p es' he
   injection he with e1 e2
   subst e1 e2
   simp only[Option.ite_none_right_eq_some,Option.bind_eq_some_iff]at h
   obtain⟨h1,zs',h2,h⟩:=h
   cases h
   obtain⟨a,b,d⟩:=hok y h1
   obtain⟨D,O,m⟩:=hy y a
   obtain⟨Ds,pa,hl,hO,hA⟩:=Qja hy hok h2
   refine⟨D::Ds,QbH (Qaz (v:=.ref D) b m rfl (Qg9 d).d) pa,by simp[hl],fun D' hD=>?_,fun C P x hx hp=>?_⟩
   ·rcases List.mem_cons.mp hD with z | z
    ·subst z;exact⟨y,O⟩
    ·exact hO D' z
   ·rw[List.any_cons,List.any_cons,hA C P x hx hp,Qi7,hx.iff O,hp.iff O]
  ·cases h
theorem Qjb {H : Hp} {Q : VK} {a C' tp : Addr} {x' : Str} {Ds : List Addr} (B : ∀ x ∈ xs, ∃ f C N P NP, XF X.K x f C N P NP) (hx : x' ∈ xs) (g : nsIn X.K mainGlobals x' = some (some (.ref C'))) (hh : ∃ o, H a = some (.frz o (.own a)) /\ o.cls = .ref C')
  (ht:H tp=some (.tup (Ds.map V.ref))) (hD:∀ D∈Ds,∃ y,XO X.K y D) (q:∀ P,XO X.K x' C'->XO X.K "PactError" P->Q (.bl (Ds.any (cOf C' P))) H):
  ∃ (b:Addr) (ob:Obj) (x f:Str) (C N P NP tp':Addr) (Ds':List Addr),[V.ref a,V.ref tp]=[.ref b,.ref tp']/\XF X.K x f C N P NP/\H b=some (.frz ob (.own b))/\ob.cls=.ref C/\H tp'=some (.tup (Ds'.map V.ref))/\(∀ D∈Ds',∃ y,XO X.K y D)/\Q (.bl (Ds'.any (cOf C P))) H:=by
 obtain⟨f,C,N,P,NP,F⟩:=B x' hx
 obtain⟨o,ho,hc⟩:=hh
 have eC:C'=C:=by
  have:=g.symm.trans F.gl
  injection this with t;injection t with t;injection t
 subst eC
 exact⟨a,o,x',f,C',N,P,NP,tp,Ds,rfl,F,ho,hc,ht,hD,q P F.xo F.xp⟩
theorem Qjc {ok : Str -> Bool} {es : List Expr} {k : Nat} (B : ∀ x ∈ xs, ∃ f C N P NP, XF X.K x f C N P NP) (hy : XOs X.K X.mg ys) (hok : ∀ y, ok y = true -> ys.contains y = true /\ Gl X y /\ nokB y = true) (hz : nmsC ok es = some zs) (hsz : zs.length <= 10) (hg : Gl X "isinstance") (hm : X.mg "isinstance" = none) (hv : bootBuiltins "isinstance" = some (.builtin "isinstance")) (ha : SE X e fa)
  (he:starEach [e,.Tuple es k p1] X.env=(false,eval e X.env)::starEach [.Tuple es k p1] X.env) (he2:starEach [.Tuple es k p1] X.env=(false,eval (.Tuple es k p1) X.env)::starEach [] X.env:=by rfl) (hpl:(backTo pos (starEach [.Tuple es k p1] X.env)).any (·.1)=false:=by rfl):
  SE X (.Call (.Name "isinstance" p) [e,.Tuple es k p1] [] pos) (c1 (isiX xs fun x=>zs.any fun y=>x == y || ("PactError":Str) == y) fa):=by
 obtain⟨Ds,pa,hl,hO,hA⟩:=Qja hy hok hz
 refine (QbT Qi9 hg hm hv (QbH ha (QbH (QbI pa) QbG he2) he) (by decide) (by decide) he hpl).of fun σ H Q h_=>h_.el fun ρ l st lr sr q=>⟨ρ,l,st,lr,sr,q.bnd.imp fun d st1 ρ1 H1 x1 s1 q1 v rv=>?_⟩
 refine⟨by rw[List.length_map,<- hl];exact Nat.le_trans hsz (show 10<=2 ^ 24 by ac_nf),fun tp ht=>?_⟩
 have x2:Ex ρ1 H1 ρ1 (upd H1 tp (.tup (Ds.map V.ref))):=Ex.new ht
 have s2:SR X.K ρ1 (upd H1 tp (.tup (Ds.map V.ref))) st1:=s1.new ht
 have k1:∀ b o,H1 b=some o->upd H1 tp (.tup (Ds.map V.ref)) b=some o:=fun b o z=>by rw[Qaj (Qal z ht)];exact z
 cases rv with
 | @exn a C' dx x' f' v' d' g hh h2 r=>
  obtain⟨hx,q2⟩:=q1.chk
  obtain⟨o,ho,hc,_⟩:=hh
  refine Qjb B hx g ⟨o,k1 _ _ ho,hc⟩ Qai hO fun P h1 h2=>?_
  rw[hA _ _ _ h1 h2]
  exact (Post.left x2 q2).ret s2 _ (.bl _)
 | @exn0 a C' x' g hh=>
  obtain⟨hx,q2⟩:=q1.chk
  obtain⟨o,ho,hc⟩:=hh
  refine Qjb B hx g ⟨o,k1 _ _ ho,hc⟩ Qai hO fun P h1 h2=>?_
  rw[hA _ _ _ h1 h2]
  exact (Post.left x2 q2).ret s2 _ (.bl _)
 | _=>exact q1.elim
end
section
variable {P:Program}{w:World}{K:Frag}{mg:Str->Option Value}{base:Heap}
structure GX (P:Program) (w:World) (K:Frag) (mg:Str->Option Value) (base:Heap) (x:Str) (r:RF):Prop where
 ex:∃ f fd,mg x=some (.ref f)/\FnOk P w K mg base (CX1 P w) r.k f fd r.ps (spX K r.n r.g)/\keepIn K (.ref f)=true/\Binds K fd r.ps []
def EnvX (P:Program) (w:World) (K:Frag) (mg:Str->Option Value) (base:Heap) (l:List (Str × RF)):Prop:=∀ x r,l.lookup x=some r->GX P w K mg base x r
structure XR (P:Program) (w:World) (K:Frag) (mg:Str->Option Value) (base:Heap) (y f:Str):Prop where
 ex:∃ C N PA NP fI fd ps,XF K y f C N PA NP/\mg y=some (.ref C)/\nsIn K N (Str.ofString "__init__")=some (some (.ref fI))/\(∃ oI,K.lookup fI=some oI/\oI.cls=.type "function")/\FnOk P w K mg base CX0 1 fI fd ps (spI C f)/\Binds K fd ps []
 hy:typeLookup (.type "ValueError") f=pure none
theorem Qjd {k n:Nat}{f:Addr}{fd:FuncData}{ps:List Str}{g:List D->M D} (F:FnOk P w K mg base (CX1 P w) k f fd ps (spX K n g)):FnOk P w K mg base CX0 k f fd ps (spOf K n g):=by
 have dn:∀ vs H Q E,spOf K n g vs H Q E->spX K n g vs H Q (fun _ _ _=>False):=fun vs H Q E pq98=>by obtain⟨h1,ρ,st,ds,sr,rv,p⟩:=pq98;exact⟨h1,ρ,st,ds,sr,rv,by
  cases e:g ds st with
  | ok r s=>rw[e]at p;exact p
  | exc d s=>rw[e]at p;exact p.elim
  | bad=>rw[e]at p;exact p.elim⟩
 refine⟨fun vs H Q E h=>F.len vs H Q _ (dn vs H Q E h),fun A outer s H args us vs Q E hr he hb hv hs=>codeAny_mono (F.run A outer s H args us vs Q (fun _ _ _=>False) hr he hb hv (dn vs H Q E hs)) fun r s' h=>?_⟩
 cases r with
 | ok f=>cases f<;>exact h
 | error e=>
  obtain⟨a,H',_,_,_,_,_,_,z⟩:=h
  exact z.elim
end
def rcC (q:Rec) (c:RC) (E:List (Str × RF)):Expr->Option CE
 | .Call (.Name x _) (a::as) [] _=>(E.lookup x).bind fun r=>if c.glo x=true/\nokB x=true/\r.k<=c.k/\r.n=(a::as).length then (argC q c (a::as)).bind fun ca=>some (cCall r.g (noA ca)) else none
 | _=>none
section
variable {X:Cx}{c:RC}{q:Rec}{E:List (Str × RF)}
theorem Qje (hq:RecOk q) (g:Good X c) (hE:EnvX X.prog X.w X.K X.mg X.base E) (hex:X.ex=[]) {e:Expr}{r:CE} (z:rcC q c E e=some r):SEX X e r/\ncE e=true:=by
 unfold rcC at z
 split at z
 ·simp only[Option.ite_none_right_eq_some,Option.bind_eq_some_iff]at z
  obtain⟨rf,hf,⟨h1,h2,h3,h4⟩,ca,ha,z⟩:=z
  cases z
  obtain⟨f,fd,m,F,kp,B⟩:=(hE _ _ hf).ex
  obtain⟨x,y,l⟩:=Qhj hq g ha
  rw[List.all_cons,Bool.and_eq_true]at y
  exact⟨QiP hex F (g.hr.mono h3) (g.S.glo _ (beq_iff_eq.mp h1)) m kp B x (by rw[h4];exact l) (Qg9 h2).d (Qhc y.1) (Qhd y.2),rfl⟩
 ·cases z
def blX (s:Stmt->Option CS):List Stmt->Option CS
 | []=>some sNext
 | a::as=>(s a).bind fun f=>(blX s as).bind fun h=>some (sSeq f h)
theorem Qjf {s:Stmt->Option CS} (h:∀ a f,s a=some f->SX X a f):∀ {ss:List Stmt}{f:CS},blX s ss=some f->SXs X ss f
 | [],f,z=>by cases z;exact QiL
 | a::as,f,z=>by
  unfold blX at z
  simp only[Option.bind_eq_some_iff]at z
  obtain⟨fa,h1,fb,h2,z⟩:=z
  cases z
  exact QiM (h a fa h1) (Qjf h h2)
def stpX (q:Rec) (c:RC) (E:List (Str × RF)) (y fl:Str) (k:Stmt->Option CS) (s:Stmt):Option CS:=match s with
 | .Raise (some (.Call (.Name x _) [e] [] _)) none _=>if x=y/\c.glo y=true/\nokB y=true/\2<=c.k/\plE e=true then (q.e c e).bind fun fa=>some (xRaise y fl fa) else none
 | .If t a b _=>(q.t c t).bind fun ft=>(blX k a).bind fun fa=>(blX k b).bind fun fb=>some (sIf (noT ft) fa fb)
 | .For tg it b [] _=>if nsE it=true then (q.i c tg it).bind fun fi=>(q.g c tg).bind fun fg=>(blX k b).bind fun fb=>some (sFor (noI fi) (noG fg) fb) else none
 | .Expr e _=>match rcC q c E e with
  | some f=>some (sExp f)
  | none=>(q.s c s).bind fun f=>some (noX f)
 | .Return (some e) _=>match rcC q c E e with
  | some f=>some (sRet f)
  | none=>(q.s c s).bind fun f=>some (noX f)
 | .Assign [.Name x _] e _=>match rcC q c E e with
  | some f=>(tgC c x).bind fun i=>some (sAsg (gVar i) f)
  | none=>(q.s c s).bind fun f=>some (noX f)
 | _=>(q.s c s).bind fun f=>some (noX f)
def stX (q:Rec) (c:RC) (E:List (Str × RF)) (y fl:Str):Nat->Stmt->Option CS
 | 0=>fun _=>none
 | n + 1=>stpX q c E y fl (stX q c E y fl n)
theorem Qjg (hq:RecOk q) (g:Good X c) (hE:EnvX X.prog X.w X.K X.mg X.base E) (hex:X.ex=[]) {y fl:Str} (R:XR X.prog X.w X.K X.mg X.base y fl):∀ (n:Nat) (s:Stmt) (f:CS),stX q c E y fl n s=some f->SX X s f:=by
 intro n
 induction n with
 | zero=>intro s f h;cases h
 | succ n ih=>
  intro s f h
  have lift:∀ {s:Stmt}{f:CS},((q.s c s).bind fun f=>some (noX f))=some f->SX X s f:=fun {s f} h=>by
   simp only[Option.bind_eq_some_iff]at h
   obtain⟨fa,h1,z⟩:=h
   cases z
   exact QiK (hq.s g h1)
  change stpX q c E y fl (stX q c E y fl n) s=some f at h
  unfold stpX at h
  split at h
  ·simp only[Option.ite_none_right_eq_some,Option.bind_eq_some_iff]at h
   obtain⟨⟨rfl,h2,h3,h4,h5⟩,fa,ha,z⟩:=h
   cases z
   obtain⟨C,N,PA,NP,fI,fd,ps,F,m,hi,hfn,G,B⟩:=R.ex
   exact QiW hex g.S.calm F hi hfn G (g.hr.mono h4) B (g.S.glo _ (beq_iff_eq.mp h2)) m (Qg9 h3).d (hq.e g ha) (Qhc h5)
  ·simp only[Option.bind_eq_some_iff]at h
   obtain⟨ft,h1,fa,h2,fb,h3,z⟩:=h
   cases z
   exact QiN (hq.t g h1) (Qjf ih h2) (Qjf ih h3)
  ·simp only[Option.ite_none_right_eq_some,Option.bind_eq_some_iff]at h
   obtain⟨h0,fi,h1,fg,h2,fb,h3,z⟩:=h
   cases z
   exact QiT g.ps g.S.calm (hq.i g h1) (hq.g g h2) (Qjf ih h3) (Qhg h0)
  ·split at h
   ·rename_i h1
    cases h
    obtain⟨a,b⟩:=Qje hq g hE hex h1
    exact QiQ a (Qhf b)
   ·exact lift h
  ·split at h
   ·rename_i h1
    cases h
    exact QiR (Qje hq g hE hex h1).1
   ·exact lift h
  ·split at h
   ·rename_i h1
    simp only[Option.bind_eq_some_iff]at h
    obtain⟨i,hi,z⟩:=h
    cases z
    obtain⟨a,b⟩:=Qje hq g hE hex h1
    obtain⟨e1,k,e2,e3⟩:=Qhp g hi
    exact QiS g.nd e1 (g.S.loc _ _ e2 e3).1 a (Qhf b) (g.S.loc _ _ e2 e3).2
   ·exact lift h
  ·exact lift h
end
section
variable {X:Cx}{x f y:Str}{C N P NP D:Addr}{pos p p1:Pos}{e:Expr}{fa:CE}{xs:List Str}
theorem Qjh (B : ∀ x ∈ xs, ∃ f C N P NP, XF X.K x f C N P NP) (O : XO X.K y D) (hg : Gl X "isinstance") (hm : X.mg "isinstance" = none) (hv : bootBuiltins "isinstance" = some (.builtin "isinstance")) (hgy : Gl X y) (hmy : X.mg y = some (.ref D)) (nk : NameOk y) (ha : SE X e fa)
  (he:starEach [e,.Name y p1] X.env=(false,eval e X.env)::starEach [.Name y p1] X.env:=by rfl) (he2:starEach [.Name y p1] X.env=(false,eval (.Name y p1) X.env)::starEach [] X.env:=by rfl) (hpl:(backTo pos (starEach [.Name y p1] X.env)).any (·.1)=false:=by rfl):
  SE X (.Call (.Name "isinstance" p) [e,.Name y p1] [] pos) (c1 (isiX xs fun x=>x == y || ("PactError":Str) == y) fa):=
 (QbT QgK hg hm hv (QbH ha (QbH (Qaz (v:=.ref D) hgy hmy rfl nk.d) QbG he2) he) (by decide) (by decide) he hpl).of fun σ H Q h_=>h_.el fun ρ l st lr sr q=>⟨ρ,l,st,lr,sr,q.bnd.imp fun d st1 ρ1 H1 x1 s1 q1 v rv=>by
  have e:∀ (C' P:Addr) (x':Str),XO X.K x' C'->XO X.K "PactError" P->isOf C' P (.ref D)=(x' == y || ("PactError":Str) == y):=fun C' P x' h1 h2=>by
   show (decide (D=C') || decide (D=P))=_
   rw[h1.iff O,h2.iff O]
  cases rv with
  | @exn a C' dx x' f' v' d' g hh h2 r=>
   obtain⟨hx,q2⟩:=q1.chk
   obtain⟨o,ho,hc,_⟩:=hh
   refine Qg2 B hx g ⟨o,ho,hc⟩ (.inr ⟨y,D,rfl,O⟩) fun P h1 h2=>?_
   rw[e _ _ _ h1 h2]
   exact q2.ret s1 _ (.bl _)
  | @exn0 a C' x' g hh=>
   obtain⟨hx,q2⟩:=q1.chk
   refine Qg2 B hx g hh (.inr ⟨y,D,rfl,O⟩) fun P h1 h2=>?_
   rw[e _ _ _ h1 h2]
   exact q2.ret s1 _ (.bl _)
  | _=>exact q1.elim⟩
end
section
variable {X:Cx}{c:RC}{q:Rec}{E:List (Str × RF)}
def argH (k:Expr->Option CE):List Expr->Option CA
 | []=>some cNil
 | e::es=>if plE e=true then (k e).bind fun fa=>(argH k es).bind fun ca=>some (cCons fa ca) else none
theorem Qji {Y:Cx}{k:Expr->Option CE} (h:∀ e f,k e=some f->SE Y e f):∀ {es:List Expr}{ca:CA},argH k es=some ca->SA Y es ca
 | [],ca,z=>by cases z;exact Qd1
 | e::es,ca,z=>by
  unfold argH at z
  simp only[Option.ite_none_right_eq_some,Option.bind_eq_some_iff]at z
  obtain⟨hp,fa,h1,fb,h2,z⟩:=z
  cases z
  exact Qd2 (h e fa h1) (Qji h h2) (Qhc hp)
def hpE (c:RC) (ys:List Str) (y fl:Str) (k:Expr->Option CE) (e:Expr):Option CE:=match e with
 | .Name x _=>(varC c x).bind fun i=>some (cVar i)
 | .Attribute o g _=>if g=fl/\baE o=true then (k o).bind fun fa=>some (c1 (attrX y fl) fa) else none
 | .Call (.Name z _) [a, .Name t _] [] _ => if z = Str.ofString "isinstance" /\ c.bl z = true /\ plE a = true then
   (if t=Str.ofString "ValueError"/\c.bl t=true then (k a).bind fun fa=>some (c1 (isiX [y] fun _=>true) fa)
    else if ys.contains t=true/\c.glo t=true/\nokB t=true then (k a).bind fun fa=>some (c1 (isiX [y] fun x=>x == t || ("PactError":Str) == t) fa) else none) else none
 | .Call (.Name z _) [a, .Tuple es _ _] [] _ => if z = Str.ofString "isinstance" /\ c.bl z = true /\ plE a = true then
   (nmsC (fun t=>ys.contains t && c.glo t && nokB t) es).bind fun zs=>if zs.length<=10 then (k a).bind fun fa=>some (c1 (isiX [y] fun x=>zs.any fun t=>x == t || ("PactError":Str) == t) fa) else none else none
 | .BoolOp .And [a,b] _=>(k a).bind fun fa=>(k b).bind fun fb=>some (cAnd fa fb)
 | .List es _=>(argH k es).bind fun ca=>some (cKeep (aDisp ca))
 | .BinOp a .Add b _=>(k a).bind fun fa=>(k b).bind fun fb=>some (c2 addD fa fb)
 | _=>none
def hE (c:RC) (ys:List Str) (y fl:Str):Nat->Expr->Option CE
 | 0=>fun _=>none
 | n + 1=>hpE c ys y fl (hE c ys y fl n)
theorem Qjj (g:Good X c) {ys:List Str}{y fl:Str} (R:XR X.prog X.w X.K X.mg X.base y fl) (hy:XOs X.K X.mg ys) (a:Addr):∀ (n:Nat) (e:Expr) (f:CE),hE c ys y fl n e=some f->SE (hand X a) e f:=by
 have B:∀ x∈[y],∃ f C N P NP,XF X.K x f C N P NP:=fun x hx=>by
  rw[List.mem_singleton]at hx
  subst hx
  obtain⟨C,N,PA,NP,fI,fd,ps,F,_⟩:=R.ex
  exact⟨_,_,_,_,_,F⟩
 intro n
 induction n with
 | zero=>intro s f h;cases h
 | succ n ih=>
  intro e f h
  change hpE c ys y fl (hE c ys y fl n) e=some f at h
  unfold hpE at h
  split at h
  ·rename_i x p
   rw[Option.bind_eq_some_iff]at h
   obtain⟨i,hi,h⟩:=h
   cases h
   unfold varC at hi
   rw[Option.ite_none_right_eq_some]at hi
   obtain⟨⟨h1,h2,h3⟩,h4⟩:=hi
   cases h4
   have h1:X.N[c.N.idxOf x]?=some x:=by rw[g.N];exact h1
   have nk:=Qg9 h3
   rcases h2 with h2 | h2 | h2
   ·exact Qc4 _ (Qas h1 (g.S.vis x _ h2 (.inl rfl)) nk.d nk.c)
   ·exact Qc4 _ (Qas h1 (g.S.vis x _ h2 (.inr (.inl rfl))) nk.d nk.c)
   ·exact Qc4 _ (Qas h1 (g.S.vis x _ h2 (.inr (.inr rfl))) nk.d nk.c)
  ·simp only[Option.ite_none_right_eq_some,Option.bind_eq_some_iff]at h
   obtain⟨⟨rfl,hb⟩,fa,h1,z⟩:=h
   cases z
   obtain⟨C,N,PA,NP,fI,fd,ps,F,_⟩:=R.ex
   exact Qg1 (X:=hand X a) F R.hy (ih _ _ h1) (Qhi hb)
  ·rw[Option.ite_none_right_eq_some]at h
   obtain⟨⟨rfl,hb,hp⟩,h⟩:=h
   obtain⟨G1,M1⟩:=g.gl hb
   split at h
   ·rename_i ht
    obtain⟨rfl,hb2⟩:=ht
    obtain⟨G2,M2⟩:=g.gl hb2
    rw[Option.bind_eq_some_iff]at h
    obtain⟨fa,h1,z⟩:=h
    cases z
    exact Qg3 (X:=hand X a) B G1 M1 (by nofun) G2 M2 (by nofun) (ih _ _ h1) (Qhc hp)
   ·simp only[Option.ite_none_right_eq_some,Option.bind_eq_some_iff]at h
    obtain⟨⟨h2,h3,h4⟩,fa,h1,z⟩:=h
    cases z
    obtain⟨D,O,m⟩:=hy _ h2
    exact Qjh (X:=hand X a) B O G1 M1 (by nofun) (g.S.glo _ (beq_iff_eq.mp h3)) m (Qg9 h4) (ih _ _ h1) (Qhc hp)
  ·rw[Option.ite_none_right_eq_some]at h
   obtain⟨⟨rfl,hb,hp⟩,h⟩:=h
   obtain⟨G1,M1⟩:=g.gl hb
   simp only[Option.ite_none_right_eq_some,Option.bind_eq_some_iff]at h
   obtain⟨zs,hz,hl,fa,h1,z⟩:=h
   cases z
   refine Qjc (X:=hand X a) B hy (fun t ht=>?_) hz hl G1 M1 (by nofun) (ih _ _ h1) (Qhc hp)
   rw[Bool.and_eq_true,Bool.and_eq_true]at ht
   exact⟨ht.1.1,g.S.glo _ (beq_iff_eq.mp ht.1.2),ht.2⟩
  ·simp only[Option.bind_eq_some_iff]at h
   obtain⟨fa,h1,fb,h2,z⟩:=h
   cases z
   exact Qel (ih _ _ h1) (Qek (ih _ _ h2))
  ·simp only[Option.bind_eq_some_iff]at h
   obtain⟨ca,h1,z⟩:=h
   cases z
   exact Qd5 (Qd4 (Qji ih h1))
  ·simp only[Option.bind_eq_some_iff]at h
   obtain⟨fa,h1,fb,h2,z⟩:=h
   cases z
   exact Qda Qfy (ih _ _ h1) (ih _ _ h2)
  ·cases h
end
section
def hS (c:RC) (ys:List Str) (y fl:Str):List Stmt->Option CS
 | []=>some sNext
 | .Assign [.Name x _] e _::ss=>if ncE e=true then (tgC c x).bind fun i=>(hE c ys y fl 20 e).bind fun f=>(hS c ys y fl ss).bind fun r=>some (sSeq (sAsg (gVar i) f) r) else none
 | _=>none
section
variable {X:Cx}{c:RC}{q:Rec}{E:List (Str × RF)}{ys:List Str}{y fl:Str}
theorem Qjk (g:Good X c) (R:XR X.prog X.w X.K X.mg X.base y fl) (hy:XOs X.K X.mg ys) (a:Addr):∀ {ss:List Stmt}{f:CS},hS c ys y fl ss=some f->SSs (hand X a) ss f
 | [],f,h=>by cases h;exact Qeu
 | s::ss,f,h=>by
  unfold hS at h
  split at h
  ·cases ‹_::_=[]›
  ·rename_i x p e p' ss' he
   injection he with e1 e2
   subst e1 e2
   simp only[Option.ite_none_right_eq_some,Option.bind_eq_some_iff]at h
   obtain⟨hn,i,hi,f1,h1,f2,h2,z⟩:=h
   cases z
   obtain⟨j1,k,j2,j3⟩:=Qhp g hi
   exact Qev (QeB (X:=hand X a) g.nd j1 (g.S.loc _ _ j2 j3).1 (Qjj g R hy a 20 e f1 h1) (Qhf hn) (g.S.loc _ _ j2 j3).2) (Qjk g R hy a h2)
  ·cases h
def tryC (q:Rec) (c:RC) (E:List (Str × RF)) (ys:List Str) (y fl:Str):Stmt->Option CS
 | .Try [.Assign [.Name x _] (.Call (.Name fn _) (e::es) [] _) _] [.ExceptHandler (some (.Name y' _)) (some nm) (b0::suite) _] [] [] _=>
  if y'=y/\c.glo y=true/\nokB y=true/\c.top=true/\c.sc.names.lookup nm=some .local/\c.N[c.N.idxOf nm]?=some nm/\c.glo fn=true/\nokB fn=true then
   (E.lookup fn).bind fun r=>if r.k<=c.k/\r.n=(e::es).length then (argC q c (e::es)).bind fun ca=>(tgC c x).bind fun j=>(hS c ys y fl (b0::suite)).bind fun hc=>some (sTry (sAsg (gVar j) (cCall r.g (noA ca))) y (c.N.idxOf nm) hc) else none
  else none
 | _=>none
theorem Qjl (hq:RecOk q) (g:Good X c) (hE:EnvX X.prog X.w X.K X.mg X.base E) (hnx:X.nox=X) (hst:X.stack=X.env::X.outer) (hfr:X.env.frame=some X.env.locals) (R:XR X.prog X.w X.K X.mg X.base y fl) (hy:XOs X.K X.mg ys) {s:Stmt}{f:CS} (h:tryC q c E ys y fl s=some f):SS X s f:=by
 unfold tryC at h
 split at h
 ·simp only[Option.ite_none_right_eq_some,Option.bind_eq_some_iff]at h
  obtain⟨⟨rfl,h1,h2,h3,h4,h5,h6,h7⟩,r,hr,⟨h8,h9⟩,ca,ha,j,hj,hc,hh,z⟩:=h
  cases z
  obtain⟨f,fd,m,F,kp,B⟩:=(hE _ _ hr).ex
  obtain⟨xa,ya,la⟩:=Qhj hq g ha
  rw[List.all_cons,Bool.and_eq_true]at ya
  obtain⟨j1,k,j2,j3⟩:=Qhp g hj
  obtain⟨C,N,PA,NP,fI,fd',ps,G,my,_⟩:=R.ex
  refine Qi3 g.S.calm hst hfr F (g.hr.mono h8) (g.S.glo _ (beq_iff_eq.mp h6)) m kp B (by rw[hnx];exact xa) (by rw[h9];exact la) (Qg9 h7).d (Qhc ya.1) (Qhd ya.2) g.nd j1 (g.S.loc _ _ j2 j3).1 (Qhf rfl) (g.S.loc _ _ j2 j3).2 G (g.S.glo _ (beq_iff_eq.mp h1)) my (Qg9 h2).d (by rw[g.N];exact h5) ((g.kd h3).2 _ |>.trans h4) fun a=>Qjk g R hy a hh
 ·cases h
def blT (q:Rec) (c:RC) (E:List (Str × RF)) (ys:List Str) (y fl:Str):List Stmt->Option CS
 | []=>some sNext
 | s::ss=>(match tryC q c E ys y fl s with | some f=>some f | none=>q.s c s).bind fun f=>(blT q c E ys y fl ss).bind fun r=>some (sSeq f r)
theorem Qjm (hq:RecOk q) (g:Good X c) (hE:EnvX X.prog X.w X.K X.mg X.base E) (hnx:X.nox=X) (hst:X.stack=X.env::X.outer) (hfr:X.env.frame=some X.env.locals) (R:XR X.prog X.w X.K X.mg X.base y fl) (hy:XOs X.K X.mg ys):∀ {ss:List Stmt}{f:CS},blT q c E ys y fl ss=some f->SSs X ss f
 | [],f,h=>by cases h;exact Qeu
 | s::ss,f,h=>by
  unfold blT at h
  simp only[Option.bind_eq_some_iff]at h
  obtain⟨f1,h1,f2,h2,z⟩:=h
  cases z
  refine Qev ?_ (Qjm hq g hE hnx hst hfr R hy h2)
  split at h1
  ·rename_i h3
   cases h1
   exact Qjl hq g hE hnx hst hfr R hy h3
  ·exact hq.s g h1
end
section
variable {P:Program}{w:World}{K:Frag}{mg:Str->Option Value}{base:Heap}
theorem Qjn {CX:CXT}{N:List Str}{qual:Str}{sc:Scope}{f:Addr}{cdv:Value}{A:Around}{outer:List Env}{s:Shared}{H:Hp}{E:XK}:Sc (cxOf CX P w K mg base N qual sc f cdv A outer s H E) sc where
 vis:=fun x k h hk=>by
  rcases hk with z | z | z<;>subst z
  ·exact .inl h
  ·exact .inr (.inl h)
  ·exact .inr (.inr h)
 cel:=fun x h=>h
 glo:=fun x h=>h
 loc:=fun x k h hk=>⟨by rcases hk with z | z<;>subst z;exact .inl h;exact .inr h,.inl rfl⟩
 calm:=rfl
def XT (K:Frag) (mg:Str->Option Value) (y f qual:Str) (sd:Stmt):Prop:=∃ C N PA NP fI fd,XF K y f C N PA NP/\mg y=some (.ref C)/\nsIn K N (Str.ofString "__init__")=some (some (.ref fI))/\(∃ oI,K.lookup fI=some oI/\oI.cls=.type "function")/\Fun K "__init__" qual sd fI fd
theorem Qjo {y f qual n1 n2 : Str} {sd : Stmt} {p1 p2 p3 p4 : Pos} (T : XT K mg y f qual sd) (hy : typeLookup (.type "ValueError") f = pure none) (S : fscB [n1, n2] [n1, n2] (defScope sd) = true) (hb : defBody sd = [.Assign [.Attribute (.Name n1 p1) f p2] (.Name n2 p3) p4])
  (v1:(defScope sd).names.lookup n1=some .local) (v2:(defScope sd).names.lookup n2=some .local) (k1:nokB n1=true) (k2:nokB n2=true)
  (b:∀ (kV doc pm:Value) (an:Option Addr) (cdv ct:Value) (us:List Value),us.length=[n1,n2].length->bindArgs (fnOf "__init__" qual (defArgs sd) (defBody sd) (defScope sd) .none kV doc pm an cdv ct) { pos:=us }=pure ([n1,n2].zip us)):XR P w K mg base y f:=by
 obtain⟨C,N,PA,NP,fI,fd,F,m,hi,hfn,FI⟩:=T
 exact⟨⟨C,N,PA,NP,fI,fd,[n1,n2],F,m,hi,hfn,QgG F hy FI (Qhx S) hb (.inl v1) (.inl v2) (Qg9 k1).d (Qg9 k2).d (Qg9 k1).c (Qg9 k2).c,FI.binds b⟩,hy⟩
theorem Qjp {x:Str}{r:RF}{f:Addr}{fd:FuncData}{E:List (Str × RF)} (m:mg x=some (.ref f)) (F:FnOk P w K mg base (CX1 P w) r.k f fd r.ps (spX K r.n r.g)) (kp:keepIn K (.ref f)=true) (b:Binds K fd r.ps []) (h:EnvX P w K mg base E):EnvX P w K mg base ((x,r)::E):=fun y s z=>by
 by_cases e:y=x
 ·subst e
  rw[List.lookup_cons_self]at z
  cases z
  exact⟨f,fd,m,F,kp,b⟩
 ·rw[QdB e]at z
  exact h y s z
theorem Qjq (R : Rules) {r : List Str} {x y fl : Str} {sd : Stmt} {ps : List Str} {k n m : Nat} {body : CS} {G E : List (Str × RF)} {Z : List Str} {C : List (Str × D)} {H : List (Nat × Nat × Nat)} (F : FnAt K mg x sd) (S : fscB (ps ++ r) ps (defScope sd) = true)
  (b:∀ (kV doc pm:Value) (an:Option Addr) (cdv ct:Value) (us:List Value),us.length=ps.length->bindArgs (fnOf x x (defArgs sd) (defBody sd) (defScope sd) .none kV doc pm an cdv ct) { pos:=us }=pure (ps.zip us))
  (hb:blX (stX (recN R 40) ⟨defScope sd,ps++r,k,G,Z,C,H,true⟩ E y fl 20) (defBody sd)=some body) (hG:EnvOk P w K mg base G) (hE:EnvX P w K mg base E) (hR:XR P w K mg base y fl) (hZ:ZOk mg Z) (hC:COk K mg C) (hn:ps.length=n:=by rfl) (hm:(ps++r).length=m:=by rfl):
  EnvX P w K mg base ((x,⟨n,k + 1,ps,false,runDef m body⟩)::E)/\EnvOk P w K mg base ((x,⟨n,k + 1,ps,false,runDef m body⟩)::G):=by
 obtain⟨f,fd,F,hm'⟩:=F
 have S':=Qhx S
 have ok:FnOk P w K mg base (CX1 P w) (k + 1) f fd ps (spX K n (runDef m body)):=fnX F S' hn hm fun cdv A outer s Hp Ex hr=>Qjf (Qjg (X:=cxOf (CX1 P w) P w K mg base (ps++r) x (defScope sd) f cdv A outer s Hp Ex) (c:=⟨defScope sd,ps++r,k,G,Z,C,H,true⟩) (Qhb R 40)
  ⟨Qjn,rfl,S'.nd,hr,hG,hZ,hC,PassesOwn.leaving,fun _=>⟨by show (if (defScope sd).kind.isAnnotationScope=true then _ else (defScope sd).kind)=_;rw[S'.kind];rfl,fun _=>rfl⟩⟩ hE rfl hR 20) hb
 exact⟨Qjp hm' ok F.kp (F.binds b) hE,Qht hm' (Qjd ok) F.kp (F.binds b) (fun z=>nomatch z) hG⟩
theorem Qjr (R : Rules) {r ys : List Str} {x y fl : Str} {sd : Stmt} {ps : List Str} {k n m : Nat} {body : CS} {G E : List (Str × RF)} {Z : List Str} {C : List (Str × D)} {H : List (Nat × Nat × Nat)} (F : FnAt K mg x sd) (S : fscB (ps ++ r) ps (defScope sd) = true)
  (b:∀ (kV doc pm:Value) (an:Option Addr) (cdv ct:Value) (us:List Value),us.length=ps.length->bindArgs (fnOf x x (defArgs sd) (defBody sd) (defScope sd) .none kV doc pm an cdv ct) { pos:=us }=pure (ps.zip us))
  (hb:blT (recN R 40) ⟨defScope sd,ps++r,k,G,Z,C,H,true⟩ E ys y fl (defBody sd)=some body) (hG:EnvOk P w K mg base G) (hE:EnvX P w K mg base E) (hR:XR P w K mg base y fl) (hy:XOs K mg ys) (hZ:ZOk mg Z) (hC:COk K mg C) (hn:ps.length=n:=by rfl) (hm:(ps++r).length=m:=by rfl):
  EnvOk P w K mg base ((x,⟨n,k + 1,ps,false,runDef m body⟩)::G):=by
 obtain⟨f,fd,F,hm'⟩:=F
 have S':=Qhx S
 refine Qht hm' (QgX F S' hn hm fun cdv A outer s Hp E' hr=>Qjm (X:=(cxOf CX0 P w K mg base (ps++r) x (defScope sd) f cdv A outer s Hp E').nox) (c:=⟨defScope sd,ps++r,k,G,Z,C,H,true⟩) (Qhb R 40)
  ⟨QgL,rfl,S'.nd,hr,hG,hZ,hC,PassesOwn.never,fun _=>⟨by show (if (defScope sd).kind.isAnnotationScope=true then _ else (defScope sd).kind)=_;rw[S'.kind];rfl,fun _=>rfl⟩⟩ hE rfl rfl rfl hR hy hb) F.kp (F.binds b) (fun z=>nomatch z) hG
theorem xo_nil:XOs K mg []:=fun _ h=>nomatch h
theorem xo_cons {h : Heap} {y q : Str} {D N : Addr} {ys : List Str} {bs bm : List Value} {sn : List Str} {sub : List Value} {ab : Bool} {col : Option Bool} {dd : Option Addr} {k0 k1 k2 k3 k5 : Option Value} (X : K.In h) (G : h.Ns mainGlobals mg) (g : nsIn K mainGlobals y = some (some (.ref D)))
  (l:K.lookup D=some (excClassObj y q D N bs bm true sn sub ab col dd k0 k1 k2 k3 k5 "ValueError.__new__")) (t:XOs K mg ys):XOs K mg (y::ys):=fun x z=>by
 rw[List.contains_cons,Bool.or_eq_true]at z
 rcases z with z | z
 ·rw[beq_iff_eq.mp z];exact⟨D,⟨g,_,_,_,_,_,_,_,_,_,_,_,_,_,_,l⟩,mg_of X G g⟩
 ·exact t x z
theorem xt_mk {h : Heap} {x f qual : Str} {sd : Stmt} {C N PA NP fI : Addr} {q q' : Str} {bs bs' : List Value} {sn sn' : List Str} {sub sub' : List Value} {ab ab' : Bool} {col col' : Option Bool} {dd dd' : Option Addr} {k0 k1 k2 k3 k5 k0' k1' k2' k3' k5' : Option Value}
  {o o':Value}{d d':Option Addr}{es es':Array DictEntry}{ep ep':Nat}{sl sl':Array (Option Value)}{od an:Option Addr}{sl2:Array (Option Value)}{kV dc pm cd ct:Value} (X:K.In h) (G:h.Ns mainGlobals mg)
  (g:nsIn K mainGlobals x=some (some (.ref C))) (l:K.lookup C=some (excClassObj x q C N bs (.ref PA::vErr) true sn sub ab col dd k0 k1 k2 k3 k5 "ValueError.__new__")) (lN:K.lookup N=some ⟨o,d,.dict es ep,sl⟩)
  (h1:keysB es [Str.ofString "__getattribute__",Str.ofString "__getattr__",Str.ofString "__setattr__",Str.ofString "__class__",f]=true) (kp:keepIn K (.ref C)=true)
  (g':nsIn K mainGlobals "PactError"=some (some (.ref PA))) (l':K.lookup PA=some (excClassObj "PactError" q' PA NP bs' vErr true sn' sub' ab' col' dd' k0' k1' k2' k3' k5' "ValueError.__new__")) (lN':K.lookup NP=some ⟨o',d',.dict es' ep',sl'⟩)
  (h2:keysB es' [Str.ofString "__getattribute__",Str.ofString "__getattr__",Str.ofString "__setattr__",Str.ofString "__class__",f,Str.ofString "__init__",Str.ofString "args"]=true)
  (xi:nsIn K N (Str.ofString "__init__")=some (some (.ref fI))) (xf:K.lookup fI=some ⟨.type "function",od,.func (fnOf "__init__" qual (defArgs sd) (defBody sd) (defScope sd) .none kV dc pm an cd ct),sl2⟩) (xe:codeIn K cd qual=true) (xk:keepIn K (.ref fI)=true):XT K mg x f qual sd:=
 ⟨C,N,PA,NP,fI,_,Qg7 g l lN h1 kp g' l' lN' h2 (fun _ z=>z) (fun _ z=>z),mg_of X G g,xi,⟨_,xf,rfl⟩,Qcy (st:=sd) xf xe xk⟩
end
end
structure GoneX (fs xs:List Addr) (e:Addr) (c:Value) (d:Option Addr) (sl:Array (Option Value)) (vs:Array Value) (f:Value) (h h':Heap):Prop where
 keep:∀ b o,b≠e->vs[1]?≠some (.ref b)->b∉fs->b∉xs->h.get? b=some o->h'.get? b=some o
 slot:∀ b o,b≠e->vs[1]?≠some (.ref b)->b∉xs->h.get? b=some o->∃ sl,h'.get? b=some { o with slots:=sl }
 there:∀ b o,b∉xs->h.get? b=some o->∃ o',h'.get? b=some o'
 ex:∃ vs' T ts c' d' sl',h'.get? e=some ⟨c,d,.fields vs',sl⟩/\vs'[1]?=some (.ref T)/\T≠e/\(T∈xs\/h.get? T=none)/\h'.get? T=some ⟨c',d',.fields ts,sl'⟩/\ts[3]?=some f
section
variable {M:Model}{A:Around}{E:Value->Shared->Prop}{s:Shared}{fs xs:List Addr}{e C:Addr}{c f:Value}{d:Option Addr}{sl:Array (Option Value)}{vs:Array Value}{h h' h2:Heap}
theorem GoneX.but (g:Gone fs e c d sl vs f h h') (hs:Heap.SameBut C h' h2) (hc:∃ o,h.get? C=some o) (hne:C≠e):GoneX fs [C] e c d sl vs f h h2:=by
 have st:∀ b,b∉[C]->h2.get? b=h'.get? b:=fun b hb=>hs.2 b fun z=>hb (by rw[z];exact List.mem_cons_self)
 obtain⟨vs',T,ts,c',d',sl',e1,e2,e3,e4,e5,e6⟩:=g.ex
 have hT:T≠C:=fun z=>by obtain⟨o,q⟩:=hc;rw[z,q]at e4;cases e4
 refine⟨fun b o h1 h2 h3 h4 q=>(st b h4).trans (g.keep b o h1 h2 h3 q),fun b o h1 h2 h4 q=>?_,fun b o h4 q=>?_,vs',T,ts,c',d',sl',(hs.2 e (Ne.symm hne)).trans e1,e2,e3,.inr e4,(hs.2 T hT).trans e5,e6⟩
 ·obtain⟨sl2,z⟩:=g.slot b o h1 h2 q;exact⟨sl2,(st b h4).trans z⟩
 ·obtain⟨o',z⟩:=g.there b o q;exact⟨o',(st b h4).trans z⟩
theorem GoneX.told (g:GoneX fs xs e c d sl vs f h s.heap) {u:Option Addr}{Q:Unit->Shared->Prop} (q:∀ h',GoneX fs xs e c d sl vs (u.elim .none fun f=>rawInt f) h h'->Q () { s with heap:=h' }):wpAny M A (setFlight (.ref e) u) Q E s:=by
 obtain⟨vs',T,ts,c',d',sl',e1,e2,e3,e4,e5,e6⟩:=g.ex
 have h3:=(Array.getElem?_eq_some_iff.mp e6).1
 have oth:∀ b,b≠T->(s.heap.update T (Obj.mapFields (·.setIfInBounds 3 (u.elim .none fun f=>rawInt f)))).get? b=s.heap.get? b:=fun b hb=>Heap.get?_update_other _ _ (Ne.symm hb)
 have nb:∀ b o,b∉xs->h.get? b=some o->b≠T:=fun b o hx z y=>by
  rcases e4 with e4 | e4
  ·exact hx (by rw[y];exact e4)
  ·rw[y,e4]at z;cases z
 have hT2:=Heap.get?_update_self (Obj.mapFields (·.setIfInBounds 3 (u.elim Value.none fun f=>rawInt f))) e5 rfl
 unfold setFlight
 refine wpAny_bind (wpAny_field e1 rfl e2 ?_)
 rw[if_pos (by simp)]
 refine wpAny_setField e5 rfl h3 (q _ ⟨fun b o h1 h2 h3 h4 z=>(oth b (nb b o h4 z)).trans (g.keep b o h1 h2 h3 h4 z),fun b o h1 h2 h4 z=>?_,fun b o h4 z=>?_,vs',T,_,_,_,_,(oth e (Ne.symm e3)).trans e1,e2,e3,e4,hT2,by simp[h3]⟩)
 ·obtain⟨sl,q2⟩:=g.slot b o h1 h2 h4 z;exact⟨sl,(oth b (nb b o h4 z)).trans q2⟩
 ·obtain⟨o',q2⟩:=g.there b o h4 z;exact⟨o',(oth b (nb b o h4 z)).trans q2⟩
theorem GoneX.note {base : Heap} {env : Env} {outer : List Env} {L : Addr} (g : GoneX ((env :: outer).filterMap (·.frame)) xs e c d sl vs f h s.heap) (hfr : A.frames = some (env :: outer)) (hl : s.heap.FunFrames base (env :: outer)) (hf : env.frame = some L) (hxe : e ∉ xs)
  {Q:Unit->Shared->Prop} (q:∀ h' f',GoneX ((env::outer).filterMap (·.frame)) xs e c d sl vs f' h h'->Q () { s with heap:=h' }):wpAny M A (noteFrame (.ref e) env) Q E s:=by
 obtain⟨vs',T,ts,c',d',sl',e1,e2,e3,e4,e5,e6⟩:=g.ex
 have hsz:=(Array.getElem?_eq_some_iff.mp e2).1
 unfold noteFrame
 simp only[hf]
 refine wpAny_bind (wpAny_field e1 rfl e2 ?_)
 rw[if_pos (by simp)]
 refine wpAny_bind (wpAny_field e5 rfl e6 ?_)
 by_cases hq:(f == rawInt L)=true
 ·rw[if_pos hq]
  exact wpAny_pure (q s.heap f g)
 ·rw[if_neg hq]
  refine wpAny_bind (wpAny_setField e5 rfl (Array.getElem?_eq_some_iff.mp e6).1 ?_)
  have oth:∀ b,b≠T->(s.heap.update T (Obj.mapFields (·.setIfInBounds 3 Value.none))).get? b=s.heap.get? b:=fun b hb=>Heap.get?_update_other _ _ (Ne.symm hb)
  have hT2:=Heap.get?_update_self (Obj.mapFields (·.setIfInBounds 3 Value.none)) e5 rfl
  refine QiE (s:={ s with heap:=s.heap.update T (Obj.mapFields (·.setIfInBounds 3 Value.none)) }) hfr (hl.of_keeps fun b o hb hnf=>⟨o,?_,rfl⟩) hf ((oth e (Ne.symm e3)).trans e1) hsz fun h' T' w=>q h' (rawInt L) ?_
  ·rw[oth b fun z=>?_]
   ·exact hb
   ·subst z;rw[e5]at hb;cases hb;exact hnf ts rfl
  ·obtain⟨ts',t1,t2⟩:=w.tr
   have nT:∀ b o,b∉xs->h.get? b=some o->b≠T:=fun b o hx z y=>by
    rcases e4 with e4 | e4
    ·exact hx (by rw[y];exact e4)
    ·rw[y,e4]at z;cases z
   have nw:T'∈xs\/h.get? T'=none:=by
    by_cases y:T'∈xs
    ·exact .inl y
    ·cases z:h.get? T' with
     | none=>exact .inr rfl
     | some o=>
      exfalso
      obtain⟨o',z2⟩:=g.there T' o y z
      have:=w.new
      rw[oth T' (nT _ _ y z),z2]at this
      cases this
   refine⟨fun b o h1 h2 h3 h4 z=>w.keep b o h1 h3 ((oth b (nT _ _ h4 z)).trans (g.keep b o h1 h2 h3 h4 z)),fun b o h1 h2 h4 z=>?_,fun b o h4 z=>?_,_,T',ts',_,_,_,w.ex,by simp[hsz],w.ne,nw,t1,t2⟩
   ·obtain⟨s1,z1⟩:=g.slot b o h1 h2 h4 z
    obtain⟨s2,z2⟩:=w.slot b _ h1 ((oth b (nT _ _ h4 z)).trans z1)
    exact⟨s2,z2⟩
   ·obtain⟨o1,z1⟩:=g.there b o h4 z
    by_cases y:b=e
    ·subst y;exact⟨_,w.ex⟩
    ·obtain⟨s2,z2⟩:=w.slot b _ y ((oth b (nT _ _ h4 z)).trans z1)
     exact⟨_,z2⟩
end
theorem Qjs {h h' base:Heap}:∀ {l:List Env},(∀ b∈l.filterMap (·.frame),∀ o,h.get? b=some o->(∀ vs,o.data≠.fields vs)->∃ o',h'.get? b=some o'/\o'.data=o.data)->h.FunFrames base l->h'.FunFrames base l
 | [],_,_=>trivial
 | env::rest,k,⟨hk,⟨L,o,hf,hn,ho,hd⟩,hr⟩=>by
  have e:(env::rest).filterMap (·.frame)=L::rest.filterMap (·.frame):=by rw[List.filterMap_cons,hf]
  rw[e]at k
  obtain⟨o',ho',hd'⟩:=k L List.mem_cons_self o ho hd
  exact⟨hk,⟨L,o',hf,hn,ho',fun vs=>hd' ▸ hd vs⟩,Qjs (fun b hb=>k b (List.mem_cons_of_mem _ hb)) hr⟩
section
variable {P:Program}{w:World}{K:Frag}{mg:Str->Option Value}{base:Heap}{N:List Str}{qual:Str}{scope:Scope}{f:Addr}{cd:Value}{A:Around}{outer:List Env}{s:Shared}{H:Hp}{E:XK}
variable {pins:List (Addr × Obj)}{σ:L2.St}{H':Hp}{s':Shared}{a C:Addr}
theorem Qjt {c fv : Value} {d : Option Addr} {sl : Array (Option Value)} {vs : Array Value} {s2 : Shared} (I : Inv (cxOf (CX1 P w) P w K mg base N qual scope f cd A outer s H E) pins σ H' s') (fl : Fl s.heap H H' s'.heap a)
  (hos:s2.os=s'.os) (hgs:s2.gens=s'.gens) (hH:H' a=some (.frz ⟨c,d,.fields vs,sl⟩ (.own a))) (hT:∀ T,vs[1]?=some (.ref T)->H' T=none/\s.heap.get? T=none) (hTf:∀ T,vs[1]?=some (.ref T)->∃ c' d' ts sl',s'.heap.get? T=some ⟨c',d',.fields ts,sl'⟩)
  (g:GoneX ((envOfC qual scope s.heap.objs.size f cd::outer).filterMap (·.frame)) [C] a c d sl vs fv s'.heap s2.heap) (hCa:C≠a) (hC0:s.heap.get? C=none) (hCH:H' C=none) (hCf:C∉(envOfC qual scope s.heap.objs.size f cd::outer).filterMap (·.frame))
  (hE:∀ H2,Turned a H' H2->E (.ref a) none H2):
  (cxOf (CX1 P w) P w K mg base N qual scope f cd A outer s H E).xe (.ref a) s2:=by
 obtain⟨ga,_⟩:=(show ObjOk P w H' s'.heap a (.frz ⟨c,d,.fields vs,sl⟩ (.own a)) from I.hok a _ hH)
 have hfr:=I.ok.frames
 have hst:=I.stack
 have hsf:=I.stkFree
 have hst2:s2.heap.FunFrames base (envOfC qual scope s.heap.objs.size f cd::outer):=Qjs (fun b hb o e nf=>by
  obtain⟨sl2,q⟩:=g.slot b o (fun z=>by subst z;rw[ga]at e;cases e;exact nf _ rfl) (fun z=>by obtain⟨c',d',ts,sl',q⟩:=hTf b z;rw[q]at e;cases e;exact nf _ rfl) (fun z=>hCf (by rw[List.mem_singleton]at z;rw[<- z];exact hb)) e
  exact⟨_,q,rfl⟩) hst
 show wpAny (model P w) (A.deeper (envOfC qual scope s.heap.objs.size f cd)) (leaving (envOfC qual scope s.heap.objs.size f cd) (.ref a)) _ _ s2
 unfold leaving
 refine wpAny_bind (g.note hfr hst2 rfl (by rw[List.mem_singleton];exact Ne.symm hCa) fun h3 f3 g3=>?_)
 refine GoneX.told (s:={ s2 with heap:=h3 }) g3 (u:=none) fun h2 g=>?_
 obtain⟨vs',T,ts,c',d',sl',e1,e2,e3,e4,e5,e6⟩:=g.ex
 have th:∀ b o,s.heap.get? b=some o->∃ o',s'.heap.get? b=some o':=fun b o q=>I.base.there b o q (by intro z;cases z)
 have inf:∀ b o,s.heap.get? b=some o->b∉frs outer->b∉(envOfC qual scope s.heap.objs.size f cd::outer).filterMap (·.frame):=fun b o q hb z=>by
  rw[List.filterMap_cons]at z
  rcases List.mem_cons.mp (show b∈s.heap.objs.size::frs outer from z) with z | z
  ·exact absurd (Heap.lt_size q) (by rw[z];exact Nat.lt_irrefl _)
  ·exact hb z
 have nea:∀ b o,s.heap.get? b=some o->b≠a:=fun b o q z=>by rw[z,fl.1]at q;cases q
 have neT:∀ b o,s.heap.get? b=some o->vs[1]?≠some (.ref b):=fun b o q z=>by rw[(hT b z).2]at q;cases q
 have neC:∀ b o,s.heap.get? b=some o->b∉[C]:=fun b o q z=>by rw[List.mem_singleton.mp z,hC0]at q;cases q
 have nw:∀ b,b≠a->upd H' a (.frz ⟨c,d,.fields vs',sl⟩ (.own a)) b=H' b:=fun b z=>Qaj z
 have hok2:HOk P w (upd H' a (.frz ⟨c,d,.fields vs',sl⟩ (.own a))) h2:=by
  intro b o e
  by_cases z:b=a
  ·subst z
   rw[Qai]at e;cases e
   exact⟨e1,_,e1⟩
  ·rw[Qaj z]at e
   have kp:∀ c' u o',H' c'=some o'->c'≠a->s'.heap.get? c'=some u->h2.get? c'=some u:=fun c' u o' h1 h2 h3=>g.keep c' u h2 (fun y=>by rw[(hT c' y).1]at h1;cases h1) (fun y=>by rw[hsf c' y]at h1;cases h1) (fun y=>by rw[List.mem_singleton.mp y,hCH]at h1;cases h1) h3
   refine (I.hok b o e).stay (fun c' u hb h1=>?_) (fun c' h1=>?_) (fun c' xs h1=>?_)
   ·rcases hb with y | y
    ·subst y;exact kp _ u o e z h1
    ·exact kp c' u _ y (fun q=>by rw[q,hH]at y;cases y) h1
   ·rw[Qaj fun q=>by rw[q,hH]at h1;cases h1];exact h1
   ·rw[Qaj fun q=>by rw[q,hH]at h1;cases h1];exact h1
 refine⟨a,upd H' a (.frz ⟨c,d,.fields vs',sl⟩ (.own a)),rfl,hos.trans I.os,by show AllBare s2.gens;rw[hgs];exact I.bare,⟨fun b o q n hb _=>?_,fun b o q n hb _=>?_,fun b o q n _=>?_,fun b o q _=>?_,fun b xs q=>?_,fun b o u q=>?_,fun b ps q=>?_⟩,hok2,⟨fl.1,fl.2.1,c,d,vs',sl,Qai,.inr ⟨T,ts,c',d',sl',e2,e3,?_,?_,e5,e6⟩⟩,hE _ ⟨c,d,vs,vs',sl,hH,rfl⟩⟩
 ·exact g.keep b o (nea b o q) (neT b o q) (inf b o q hb) (neC b o q) (I.base.keep b o q n hb (by intro z;cases z))
 ·obtain⟨sl1,q1⟩:=I.base.slot b o q n hb (by intro z;cases z)
  obtain⟨sl2,q2⟩:=g.slot b _ (nea b o q) (neT b o q) (neC b o q) q1
  exact⟨sl2,q2⟩
 ·rw[nw b (nea b o q)];exact I.base.free b o q n (by intro z;cases z)
 ·obtain⟨o',q1⟩:=th b o q;exact g.there b o' (neC b o q) q1
 ·have:=I.base.tups b xs q
  rw[nw b fun z=>by rw[z,hH]at this;cases this];exact this
 ·have:=I.base.frzs b o u q
  rw[nw b fun z=>by rw[z]at q;exact fl.2.1 o u q];exact this
 ·obtain⟨more,q1⟩:=I.base.tbls b ps q
  exact⟨more,by rw[nw b fun z=>by rw[z,hH]at q1;cases q1];exact q1⟩
 ·rcases e4 with e4 | e4
  ·rw[List.mem_singleton.mp e4];exact hC0
  ·cases z:s.heap.get? T with
   | none=>rfl
   | some o=>obtain⟨o',q⟩:=th T o z;rw[e4]at q;cases q
 ·rw[nw T e3]
  rcases e4 with e4 | e4
  ·rw[List.mem_singleton.mp e4];exact hCH
  ·cases z:H' T with
   | none=>rfl
   | some o=>obtain⟨ob,q⟩:=QfM (I.hok T o z);rw[e4]at q;cases q
end
def CompErr (X:Cx) (H':Hp) (a:Addr):Prop:=∀ (pins:List (Addr × Obj)) (σ:L2.St) (s':Shared) (C:Addr) (m:Str->Option Value) (use:Option (Value->Sem Unit)) (Q:Value->Shared->Prop) (acc:Value) (env':Env),env'.frame=X.env.frame->Inv X pins σ H' s' ->
 Fl X.s₀.heap X.H₀ H' s'.heap a->s'.heap.Ns C m->H' C=none->X.s₀.heap.get? C=none->C∉frs X.stack->notedBy (model X.prog X.w) X.A env' (fun x s''=>compPost (model X.prog X.w) X.A X.xe use Q acc C (.error x) s'') (.ref a) s'
section
variable {P:Program}{w:World}{K:Frag}{mg:Str->Option Value}{base:Heap}{N:List Str}{qual:Str}{scope:Scope}{f:Addr}{cd:Value}{A:Around}{outer:List Env}{s:Shared}{H:Hp}{E:XK}{H':Hp}{a:Addr}
theorem Qju (hE:∀ H2,Turned a H' H2->E (.ref a) none H2):CompErr (cxOf (CX1 P w) P w K mg base N qual scope f cd A outer s H E) H' a:=by
 intro pins σ s' C m use Q acc env' hfe I fl hn hCH hC0 hCf
 obtain⟨c,d,vs,sl,hH,hv,hT⟩:=fl.fly
 obtain⟨ga,_⟩:=(show ObjOk P w H' s'.heap a (.frz ⟨c,d,.fields vs,sl⟩ (.own a)) from I.hok a _ hH)
 have hTf:∀ T,vs[1]?=some (.ref T)->∃ c' d' ts sl',s'.heap.get? T=some ⟨c',d',.fields ts,sl'⟩:=fun T z=>by
  rcases hv with h1 | ⟨T',ts,cT,dT,slT,h1,hTe,hT',h3⟩
  ·rw[h1]at z;cases z
  ·rw[h1]at z;cases z;exact⟨_,_,_,_,hT'⟩
 have hCa:C≠a:=fun z=>by rw[z,hH]at hCH;cases hCH
 obtain⟨o1,o2,o3,ho,hrest⟩:=hn
 have hCT:vs[1]?≠some (.ref C):=fun z=>by
  obtain⟨c',d',ts,sl',q⟩:=hTf C z
  rw[q]at ho
  cases ho
  obtain⟨r1,r2⟩:=hrest
  first | cases r1 | (cases r2) | (simp at r1) | (simp at r2)
 have en:noteFrame (.ref a) env'=noteFrame (.ref a) (envOfC qual scope s.heap.objs.size f cd):=by
  have:env'.frame=(envOfC qual scope s.heap.objs.size f cd).frame:=hfe
  simp only[noteFrame,PySem.frameOf,this]
 show wpAny (model P w) (A.deeper (envOfC qual scope s.heap.objs.size f cd)) (noteFrame (.ref a) env') _ _ s'
 rw[en]
 refine QiF I.ok.frames I.stack rfl ga hv fun h2 g=>?_
 have hC2:=g.keep C _ hCa hCT hCf ho
 refine⟨m,⟨o1,o2,o3,hC2,hrest⟩,fun h3 hs cenv hcl=>?_⟩
 have g3:=GoneX.but g hs ⟨_,ho⟩ hCa
 obtain⟨vs',T,ts,c',d',sl',e1,e2,e3,e4,e5,e6⟩:=g3.ex
 unfold PySem.passOn
 refine wpAny_bind (wpAny_field (s:={ s' with heap:=h3 }) e1 rfl e2 ?_)
 rw[if_neg (by simp)]
 refine wpAny_bind (GoneX.told (s:={ s' with heap:=h3 }) g3 (u:=cenv.frame) fun h4 g4=>?_)
 refine wpAny_throw ?_
 exact Qjt (s2:={ s' with heap:=h4 }) I fl rfl rfl hH hT hTf g4 hCa hC0 hCH hCf hE
end
section
variable {prog:Program}{w:World}{A:Around}{R:Result->Shared->Prop}{s:Shared}
theorem Qjv {elt target iter : Expr} {ifs : List Expr} {scope : Scope} {pos : Pos} {it acc : Value} {env : Env} (I : Nat -> Shared -> Prop)
  (turn:∀ n s,I n s->wpAny (model prog w) A (pyNext it) (fun r s₁=>match r with
   | none=>R (.ok .next) s₁
   | some v => wpAny (model prog w) A (letOwnedTupleGo target it v) (fun _ s₁' => wpAny (model prog w) A (assign target env v) (fun _ s₂ =>
     wpAny (model prog w) A (tests ifs env) (fun ok s₃=>
      if ok=true then wpAny (model prog w) A (eval elt env) (fun x s₄=>
       wpAny (model prog w) A (call (.builtin "list.append") [acc,x]) (fun _ s₅=>∃ m,m < n/\I m s₅) NoE s₄) (notedBy (model prog w) A env fun x s'=>R (.error x) s') s₃
      else ∃ m,m < n/\I m s₃) NoE s₂) NoE s₁') NoE s₁) NoE s)
  (n:Nat) (h:I n s):codeAny (model prog w) A (.compLoop (.ListComp elt [⟨target,iter,ifs,0⟩] scope pos) 0 it acc env) R s:=by
 refine codeAny_loop rfl I (fun n s hI=>?_) n h
 show wpAny _ A ((compTurn (.ListComp elt [⟨target,iter,ifs,0⟩] scope pos) 0 it acc env).onRaise (fun x=>do noteFrame x env;theTreesLotGoes x)) _ _ s
 refine wpAny_noted ?_
 rw[compTurn_list]
 refine wpAny_bind (wpAny_standAt (wpAny_bind (wpAny_mono (turn n s hI) (fun r s₁ h₁=>?_) fun _ _ h'=>h'.elim)))
 cases r with
 | none=>exact wpAny_pure h₁
 | some v=>
  refine wpAny_bind (wpAny_mono h₁ (fun _ s₁' h₁'=>?_) fun _ _ h'=>h'.elim)
  refine wpAny_bind (wpAny_mono h₁' (fun _ s₂ h₂=>wpAny_bind (wpAny_mono h₂ (fun ok s₃ h₃=>?_) fun _ _ h'=>h'.elim)) fun _ _ h'=>h'.elim)
  cases ok with
  | false=>exact wpAny_pure ⟨rfl,h₃⟩
  | true=>
   exact wpAny_bind (wpAny_bind (wpAny_mono h₃ (fun x s₄ h₄=>wpAny_bind (wpAny_mono h₄ (fun _ s₅ h₅=>wpAny_pure (wpAny_pure ⟨rfl,h₅⟩)) fun _ _ h'=>h'.elim)) fun _ _ h'=>h'))
end
def exC (X:Cx):XW:=fun d _ ρ' H'=>∀ a,Rep X.K ρ' H' (.ref a) d->CompErr X H' a
def txW (K:Frag) (f:CE) (W:XW):TE:=fun σ H Q=>∃ ρ l st,LR K ρ H σ l/\SR K ρ H st/\PostX K ρ H (f l st) (fun d _ ρ' H'=>∀ v,Rep K ρ' H' v d->Q v H') W
theorem PostX.impW {α:Type}{K:Frag}{ρ:List Addr}{H:Hp}{r:Rs α}{R:α->Sto->List Addr->Hp->Prop}{W W':XW} (h:PostX K ρ H r R W) (f:∀ d st ρ' H',W d st ρ' H'->W' d st ρ' H'):PostX K ρ H r R W':=by
 cases r with
 | ok a st=>exact h
 | exc d st=>exact fun ρ' H' y s=>f d st ρ' H' (h ρ' H' y s)
 | bad=>exact h
theorem Qjw {X:Cx}{f:CE}{W:XW}{σ:St}{H:Hp}{Q:VK} (hW:∀ d st ρ' H',W d st ρ' H'->exW X d st ρ' H') (h:txW X.K f W σ H Q):txOf X f σ H Q:=by
 obtain⟨ρ,l,st,lr,sr,p⟩:=h
 exact⟨ρ,l,st,lr,sr,p.impW hW⟩
abbrev _root_.L2.Cx.held (X:Cx) (P:List (Addr × Obj)) (E:Value->Shared->Prop):Cx:={ X with pn:=P,xe:=E }
theorem _root_.L2.Inv.held {X:Cx}{P:List (Addr × Obj)}{σ:St}{H:Hp}{s:Shared} (I:Inv X P σ H s) (hp:X.pn=[]) (E:Value->Shared->Prop):Inv (X.held P E) [] σ H s:=
 ⟨⟨I.ok.mod,I.ok.kind,I.ok.glob,I.ok.blt,I.ok.above,I.ok.inj,I.ok.has,I.ok.cab,I.ok.hd,I.ok.frames,I.ok.stk,I.ok.exf,I.ok.bs,I.ok.bsz,I.ok.noex,I.ok.exfs,I.ok.funs,I.ok.frf⟩,I.os,I.bare,I.base,I.loc,I.cell,I.free,I.freeC,fun p h=>I.pin p (by rw[hp];rw[List.append_nil]at h;exact h),I.hok,I.len⟩
theorem _root_.L2.Inv.unheld {X:Cx}{P pins:List (Addr × Obj)}{σ:St}{H:Hp}{s:Shared}{E:Value->Shared->Prop} (I:Inv (X.held P E) pins σ H s) (hp:X.pn=[]):Inv X (P++pins) σ H s:=
 ⟨⟨I.ok.mod,I.ok.kind,I.ok.glob,I.ok.blt,I.ok.above,I.ok.inj,I.ok.has,I.ok.cab,I.ok.hd,I.ok.frames,I.ok.stk,I.ok.exf,I.ok.bs,I.ok.bsz,I.ok.noex,I.ok.exfs,I.ok.funs,I.ok.frf⟩,I.os,I.bare,I.base,I.loc,I.cell,I.free,I.freeC,fun p h=>I.pin p (by rw[hp]at h;exact h),I.hok,I.len⟩
section
variable {X:Cx}{pins:List (Addr × Obj)}{σ:St}{H:Hp}{s:Shared}{scope:Scope}{N:List Str}{fp:List Addr}
theorem Qjx {elt target iter : Expr} {ifs : List Expr} {pos : Pos} {n : Nat} {ix : List Nat} {wi : TI} {g : TG} {tt : TT} {f : CE} {use : Option (Value -> Sem Unit)} {Q : Value -> Shared -> Prop} {QH : VK}
  (hex:X.ex=[]) (hc:X.calm=true) (S:CompScope X scope) (T:CompNames X scope N n ix) (hi:PI X target iter wi)
  (blk:∀ (fp:List Addr) (s:Shared) (H:Hp),PG (cxC X N scope fp s H) target g/\PIfs (cxC X N scope fp s H) ifs tt/\∀ P E',(∀ b∈fp,∃ o,(b,o)∈P)->PE ((cxC X N scope fp s H).held P E') elt (txOf ((cxC X N scope fp s H).held P E') f))
  (hs:∀ x,foldedSetIterable iter X.env x=pure x) (I:Inv X pins σ H s) (h:tComp wi n ix g tt (txW X.K f (exC X)) σ H QH)
  (fin:∀ (l C:Addr) (H':Hp) (s':Shared),Inv X pins σ H' s'->QH (.ref l) H'->CFree X pins C H' s'->compPost (model X.prog X.w) X.A X.xe use Q (.ref l) C (.ok .next) s'):
  wpAny (model X.prog X.w) X.A (comprehension (.ListComp elt [⟨target,iter,ifs,0⟩] scope pos) scope X.env (firstIterPos [⟨target,iter,ifs,0⟩] pos) (newList []) false (eval iter X.env) use) Q X.xe s:=by
 have hclos:closureFor scope X.env=pure (clOf scope.names X.env.cells []):=QdA fun x hx=>I.ok.has x (S.free x hx)
 refine wpAny_comprehension_free rfl hs hclos S.kind S.names ?_
 refine thn (hi pins s σ H _ I h) fun v s1 h1=>thn h1 fun itv s2 h2=>?_
 obtain⟨it,fp,tn,J,H2,rfl,I2,TT,st2,f2,rest⟩:=h2
 refine wpAny_newObj_type (hd:=by size_fits) ?_
 have hf2:H2 s2.heap.objs.size=none:=I2.hok.fresh (Nat.le_refl _)
 obtain⟨W,⟨m0,w0⟩,turn⟩:=rest _ hf2
 have fl:∀ b∈fp,b < s2.heap.objs.size:=fun b hb=>by
  obtain⟨o,e,_⟩:=TT.obj _ _ st2 b hb
  exact Heap.lt_size e
 have f3:∀ b∈fp,FpOk X pins (upd H2 s2.heap.objs.size (.lst [])) b:=fun b hb=>by
  obtain⟨f0,fr⟩:=f2 b hb
  refine⟨?_,fr⟩
  rw[Qaj (Nat.ne_of_lt (fl b hb))]
  exact f0
 have I3:Inv X pins σ (upd H2 s2.heap.objs.size (.lst [])) { s2 with heap:=s2.heap.push { cls:=.type "list",dict:=none,data:=.seq ([]:List Value).toArray } }:=
  I2.laid (t':=s2.toks) (fun b o e=>Heap.get?_push_of_some _ e) (Nat.le_refl _) ⟨Nat.zero_le _,[],0,.nil,Heap.get?_push_size _ rfl⟩
 have tn3:tn 0 (s2.heap.push { cls:=.type "list",dict:=none,data:=.seq ([]:List Value).toArray }):=TT.keep _ _ _ st2 fun b hb o e=>Heap.get?_push_of_some _ e
 have fl3:∀ b∈fp,b < (s2.heap.push { cls:=.type "list",dict:=none,data:=.seq ([]:List Value).toArray }).objs.size:=fun b hb=>by
  rw[Heap.size_push];exact Nat.lt_succ_of_lt (fl b hb)
 generalize s2.heap.objs.size=l at *
 generalize hs3:({ s2 with heap:=s2.heap.push { cls:=.type "list",dict:=none,data:=.seq ([]:List Value).toArray } }:Shared)=s3 at *
 have e3:s2.heap.push { cls:=.type "list",dict:=none,data:=.seq ([]:List Value).toArray }=s3.heap:=by rw[<- hs3]
 rw[e3]at tn3 fl3
 generalize upd H2 l (.lst [])=H3 at *
 refine QdH ?_
 have I4:=QdM (N:=N) (n:=n) (ix:=ix) I3 S T f3 fl3
 obtain⟨bg,bt,be⟩:=blk fp s3 H3
 have tn4:tn 0 (heapC s3.heap scope):=TT.keep _ _ _ tn3 fun b hb o e=>QdL _ _ _ _ e
 have fr4:∀ b∈fp,H3 b=none:=fun b hb=>(f3 b hb).1
 show codeAny (model X.prog X.w) X.A (.compStart (.ListComp elt [⟨target,iter,ifs,0⟩] scope pos) 0 (.ref it) (.ref l) (cxC X N scope fp s3 H3).env) (compPost (model X.prog X.w) X.A X.xe use Q (.ref l) s3.heap.objs.size) { s3 with heap:=heapC s3.heap scope }
 have fpx:∀ {σ':St}{H':Hp}{s':Shared},Inv (cxC X N scope fp s3 H3) [] σ' H' s'->(∀ b∈fp,H' b=none)->∀ b∈fp,FpOk (cxC X N scope fp s3 H3) [] H' b:=fun I' hn b hb=>by
  have q:=I'.ok.exf b hb
  exact⟨hn b hb,q.1,I'.ok.exfs b hb,.inl hb,q.2,fun p hp=>absurd (show p∈([]:List (Addr × Obj)) from hp) (by simp)⟩
 have hc':(cxC X N scope fp s3 H3).calm=true:=hc
 let EE:Value->Shared->Prop:=notedBy (model X.prog X.w) X.A (cxC X N scope fp s3 H3).env fun x s''=>compPost (model X.prog X.w) X.A X.xe use Q (.ref l) s3.heap.objs.size (.error x) s''
 have lk:∀ P d st ρ' H',exC X d st ρ' H'->exW ((cxC X N scope fp s3 H3).held P EE) d st ρ' H':=fun P d st ρ' H5 hW pins5 σ5 s5 a I5' rep fl=>by
  have I5:=I5'.unheld rfl
  have J:Inv X pins σ H5 s5:=I3.call' I5.os I5.base I5.hok I5.bare fun b hb=>by
   obtain⟨g0,g1,g2,g3,g4,g5⟩:=f3 b hb
   exact⟨g3,g1,g4,g5⟩
  have up:∀ b,s3.heap.get? b=none->X.s₀.heap.get? b=none:=fun b z=>by
   cases y:X.s₀.heap.get? b with
   | none=>rfl
   | some o=>
    obtain⟨o',q⟩:=I3.base.there b o y (by rw[hex];simp)
    rw[z]at q;cases q
  have fl':Fl X.s₀.heap X.H₀ H5 s5.heap a:=by
   obtain⟨f1,f2,c,d,vs,sl,f3,f4⟩:=fl
   refine⟨up a f1,fun o u z=>f2 o u (I3.base.frzs a o u z),c,d,vs,sl,f3,?_⟩
   rcases f4 with f4 | ⟨T,ts,c',d',sl',z1,z2,z3,z4⟩
   ·exact .inl f4
   ·exact .inr ⟨T,ts,c',d',sl',z1,z2,up T z3,z4⟩
  obtain⟨m,hn,_⟩:=I5.loc
  refine hW a rep pins σ s5 s3.heap.objs.size m use Q (.ref l) _ rfl J fl' hn I5.free ?_ fun z=>?_
  ·cases y:X.s₀.heap.get? s3.heap.objs.size with
   | none=>rfl
   | some o=>exact absurd (Nat.lt_of_lt_of_le (Heap.lt_size y) I3.sz) (Nat.lt_irrefl _)
  ·obtain⟨_,o,q,_⟩:=I3.stack.mem z
   exact absurd (Heap.lt_size q) (Nat.lt_irrefl _)
 have loop:codeAny (model X.prog X.w) X.A (.compLoop (.ListComp elt [⟨target,iter,ifs,0⟩] scope pos) 0 (.ref it) (.ref l) (cxC X N scope fp s3 H3).env) (compPost (model X.prog X.w) X.A X.xe use Q (.ref l) s3.heap.objs.size) { s3 with heap:=heapC s3.heap scope }:=by
  refine Qjv (fun k s'=>∃ i σ' H',Inv (cxC X N scope fp s3 H3) [] σ' H' s'/\tn i s'.heap/\(∀ b∈fp,H' b=none)/\W i k σ' H') ?_ m0 ⟨0,_,H3,I4,tn4,fr4,w0⟩
  rintro k s5 ⟨i,σ5,H5,I5,tn5,fr5,w5⟩
  rcases turn i k σ5 H5 w5 with ⟨stop,q⟩ | ⟨go,step⟩
  ·refine thn (TT.done (cxC X N scope fp s3 H3) rfl rfl rfl hc' i [] s5 σ5 H5 NoE I5 (fpx I5 fr5) tn5 stop) fun r s6 pq99=>?_
   obtain⟨hr,I6⟩:=pq99
   subst hr
   have J6:Inv X pins σ H5 s6:=I3.call' I6.os I6.base I6.hok I6.bare fun b hb=>by
    obtain⟨g0,g1,g2,g3,g4,g5⟩:=f3 b hb
    exact⟨g3,g1,g4,g5⟩
   obtain⟨m,hn,_⟩:=I6.loc
   refine fin l s3.heap.objs.size H5 s6 J6 q ⟨⟨m,hn⟩,I6.free,Nat.ne_of_gt I3.lt,fun x c e=>?_,I3.sz,fun p hp=>?_⟩
   ·obtain⟨v,z⟩:=I3.cell x c e
    exact Nat.ne_of_lt z.lt
   ·exact Nat.ne_of_lt (Heap.lt_size (I3.pin p hp).1)
  ·refine thn (TT.item (cxC X N scope fp s3 H3) rfl rfl rfl hc' i [] s5 σ5 H5 NoE I5 (fpx I5 fr5) tn5 go) fun r s6 pq100=>?_
   obtain⟨u,hr,h6⟩:=pq100
   subst hr
   refine thn h6 fun _ s7 pq101=>?_
   obtain⟨x,H7,I7,r7,y7,tn7,fr7⟩:=pq101
   have I7':=I7.pinned (fpx I7 fr7) (TT.obj _ _ tn7)
   refine thn (bg _ s7 σ5 H7 x u _ I7' r7 (step x H7 y7)) fun _ s8 pq102=>?_
   obtain⟨σ8,H8,I8,q8⟩:=pq102
   refine thn (bt _ s8 σ8 H8 _ I8 q8) fun ok s9 pq103=>?_
   obtain⟨H9,I9,q9⟩:=pq103
   have again : ∀ {s' : Shared} {H' : Hp}, Inv (cxC X N scope fp s3 H3) ([] ++ pinsAt fp s7.heap) σ8 H' s' -> (∃ m', m' < k /\ W (i + 1) m' σ8 H') ->
     ∃ m,m < k/\∃ i σ' H',Inv (cxC X N scope fp s3 H3) [] σ' H' s'/\tn i s'.heap/\(∀ b∈fp,H' b=none)/\W i m σ' H':=fun {s' H'} I' pq104=>by
    obtain⟨m',hm,w'⟩:=pq104
    refine⟨m',hm,i + 1,σ8,H',I'.unpinned,TT.keep _ _ _ tn7 fun b hb o e=>(I'.pin (b,o) (List.mem_append_right _ (List.mem_append_right _ (Qa1 hb e)))).1,fun b hb=>?_,w'⟩
    obtain⟨o,e,d⟩:=TT.obj _ _ tn7 b hb
    exact (I'.pin (b,o) (List.mem_append_right _ (List.mem_append_right _ (Qa1 hb e)))).2.1
   cases ok with
   | false=>exact again I9 q9
   | true=>
    refine thn (be (pinsAt fp s7.heap) EE (fun b hb=>by obtain⟨o,e,_⟩:=TT.obj _ _ tn7 b hb;exact⟨o,Qa1 hb e⟩) [] s9 σ8 H9 _ (Inv.held I9 rfl _) (Qjw (lk _) q9)) fun xv s10 pq105=>?_
    obtain⟨v,H10,I10',r10,ys,hy,hz,q10⟩:=pq105
    have I10:Inv (cxC X N scope fp s3 H3) ([]++pinsAt fp s7.heap) σ8 H10 s10:=by have:=I10'.unheld rfl;rw[List.append_nil]at this;exact this
    refine thn (Qco (X:=cxC X N scope fp s3 H3) _ s10 σ8 H10 (.ref l) [v] (.ref l) [xv] (fun _ H'=>H'=upd H10 l (.lst (ys++[v]))) I10 rfl (.cons r10 .nil) ⟨l,ys,v,rfl,rfl,hy,hz,rfl⟩) fun _ s11 pq106=>?_
    obtain⟨_,H11,I11,_,e⟩:=pq106
    subst e
    exact again I11 q10
 exact codeAny_compStart_list loop (TT.self _ 0 _ _ _ tn4 loop)
theorem Qjy {elt target iter : Expr} {ifs : List Expr} {pos : Pos} {n : Nat} {ix : List Nat} {wi : TI} {g : TG} {tt : TT} {f : CE}
  (hex:X.ex=[]) (hc:X.calm=true) (S:CompScope X scope) (T:CompNames X scope N n ix) (hi:PI X target iter wi)
  (blk:∀ (fp:List Addr) (s:Shared) (H:Hp),PG (cxC X N scope fp s H) target g/\PIfs (cxC X N scope fp s H) ifs tt/\∀ P E',(∀ b∈fp,∃ o,(b,o)∈P)->PE ((cxC X N scope fp s H).held P E') elt (txOf ((cxC X N scope fp s H).held P E') f))
  (hs:∀ x,foldedSetIterable iter X.env x=pure x:=by intro _;rfl):PE X (.ListComp elt [⟨target,iter,ifs,0⟩] scope pos) (tComp wi n ix g tt (txW X.K f (exC X))):=by
 intro pins s σ H Q I h
 rw[eval_ListComp]
 refine Qjx (use:=none) hex hc S T hi blk hs I h fun l C H' s' I' q c=>?_
 obtain⟨m,hn⟩:=c.ns
 exact⟨m,hn,fun h' hs'=>⟨.ref l,H',c.go I' hs',rfl,q⟩⟩
end
def tlW (K:Frag) (f:CA) (W:XW):TE:=fun σ H Q=>∃ ρ l st,LR K ρ H σ l/\SR K ρ H st/\PostX K ρ H (f l st) (fun ds _ ρ' H'=>∀ a vs,H a=none->a∉ρ'->H' a=some (.lst vs)->Reps K ρ' H' vs ds->Q (.ref a) H') W
section
variable {K:Frag}{ρ ρ1:List Addr}{H H1 H2:Hp}{st:Sto}{α β:Type}{W:XW}
theorem PostX.bnd0 {m:M α}{f:α->M β}{R:β->Sto->List Addr->Hp->Prop} (h:PostX K ρ H (MM.bnd m f st) R W):PostX K ρ H (m st) (fun a st' _ _=>PostX K ρ H (f a st') R W) W:=by
 unfold MM.bnd at h
 cases e:m st with
 | ok a s'=>rw[e]at h;exact fun _ _ _ _=>h
 | exc _ _=>rw[e]at h;exact h
 | bad=>rw[e]at h;exact h
theorem PostX.chk {c:Prop} [Decidable c] {m:M α}{R:α->Sto->List Addr->Hp->Prop} (h:PostX K ρ H (MM.chk c m st) R W):c/\PostX K ρ H (m st) R W:=by
 unfold MM.chk at h
 by_cases hc:c
 ·rw[if_pos hc]at h;exact⟨hc,h⟩
 ·rw[if_neg hc]at h;exact h.elim
end
section
variable {X:Cx}{a b c e tg:Expr}{es:List Expr}{pos:Pos}{fa fb fc:CE}{ca cb:CA}{ta tb:CT}{K:Frag}{ρ:List Addr}{H:Hp}{st:Sto}
theorem Qjz {W:XW}{ci:CI}{g:CG}{n:Nat}{ix:List Nat}:∀ σ H Q,tlW K (aComp n ix (noI ci) (noG g) (noT ta) fa) W σ H Q->tComp (tiOf K ci) n ix (tgOf K g) (ttOf K ta) (txW K fa W) σ H Q:=fun σ H Q pq107=>
 by obtain⟨ρ,l,st,lr,sr,p⟩:=pq107;exact⟨ρ,l,st,lr,sr,(PostX.no (PostX.bnd0 p)).imp fun w st1 ρ1 H1 x1 s1 p1 J hJ q hq=>by
  obtain⟨hz,p2⟩:=PostX.chk p1
  have hn:H q=none:=by
   cases z:H q with
   | none=>rfl
   | some o=>exact absurd hq (x1.trk q o z)
  refine⟨fun i m σ' H'=>m=w.ds.length - i/\i<=w.ds.length/\∃ ρ' l' st' done vs,Ex ρ H ρ' H'/\Ex ρ1 H1 ρ' H'/\LR K ρ' H' σ' l'/\SR K ρ' H' st'/\q∉ρ'/\H' q=some (.lst vs)/\Reps K ρ' H' vs done/\done.length<=i /\
   PostX K ρ H (collect (noG g) (noT ta) fa w.same (w.ds.drop i) l' st') (fun rest st2 ρ2 H2=>∀ a ws,H a=none->a∉ρ2->H2 a=some (.lst ws)->Reps K ρ2 H2 ws (done++rest)->Q (.ref a) H2) W,
   ⟨w.ds.length,by simp,Nat.zero_le _,ρ1,capt n ix l,st1,[],[],x1.trans (Ex.new hq),Ex.new hq,QeN ((lr.mono x1).mono (Ex.new hq)),s1.new hq,s1.fresh hq,Qai,.nil,Nat.zero_le _,p2⟩,?_⟩
  rintro i m σ2 H2 ⟨rfl,hi,ρ2,l2,st2,done,vs,x2,y2,lr2,s2,nq,hv,rvs,hd,p3⟩
  by_cases hlt:i < w.ds.length
  ·have ed:w.ds.drop i=w.ds[i]::w.ds.drop (i + 1):=List.drop_eq_getElem_cons hlt
   rw[ed]at p3
   unfold collect at p3
   obtain⟨sm,p4⟩:=PostX.chkS (PostX.left x2 (PostX.bnd0 p3)) s2
   obtain⟨_,go⟩:=hJ ρ2 H2 st2 y2 s2 sm
   obtain⟨g1,g2⟩:=go i w.ds[i] (List.getElem?_eq_getElem hlt)
   refine .inr ⟨g1,fun y H3 hy=>?_⟩
   obtain⟨x3,s3,rv⟩:=g2 y H3 hy
   refine⟨ρ2,l2,st2,_,lr2.mono x3,s3,rv,(PostX.no (PostX.left (x2.trans x3) (PostX.bnd0 p4))).imp fun l4 st4 ρ4 H4 x4 s4 p5 σ4 lr4=>⟨ρ4,l4,st4,lr4,s4,(PostX.no (PostX.left (x2.trans (x3.trans x4)) (PostX.bnd0 p5))).imp fun b st5 ρ5 H5 x5 s5 p6=>?_⟩⟩
   have y5:Ex ρ2 H2 ρ5 H5:=x3.trans (x4.trans x5)
   have out:∀ {ρ':List Addr}{H':Hp},Ex ρ2 H2 ρ' H'->q∉ρ':=fun z hm=>by
    obtain⟨τ,e,f⟩:=z.pre
    rw[e]at hm
    rcases List.mem_append.mp hm with hm | hm
    ·exact nq hm
    ·rw[f q hm]at hv;cases hv
   cases b with
   | false=>exact⟨_,by ac_nf,rfl,hlt,ρ5,l4,st5,done,vs,x2.trans y5,y2.trans y5,lr4.mono x5,s5,out y5,y5.lst q vs nq hv,rvs.mono y5,Nat.le_succ_of_le hd,p6⟩
   | true=>
    refine⟨ρ5,l4,st5,lr4.mono x5,s5,(PostX.left (x2.trans y5) (PostX.bnd0 p6)).imp fun d st6 ρ6 H6 x6 s6 p7 v rv6=>?_⟩
    have y6:Ex ρ2 H2 ρ6 H6:=y5.trans x6
    have hv6:=y6.lst q vs nq hv
    have u6:Up ρ6 H6 ρ6 (upd H6 q (.lst (vs++[v]))):=Up.own hv6
    refine⟨vs,hv6,?_,_,by ac_nf,rfl,hlt,ρ6,l4,st6,done++[d],vs++[v],(x2.trans y6).own hn,(y2.trans y6).own hq,LR.up u6 ((lr4.mono x5).mono x6),s6.own hv6 (out y6),out y6,Qai,
     Reps.app ((rvs.mono y6).up u6) (.cons (rv6.up u6) .nil),by simp;ac_nf,?_⟩
    ·have e1:=rvs.length
     have e2:w.ds.length<=sizeLine:=hz
     ac_nf
    ·refine (PostX.bnd0 p7).imp fun rest st8 ρ8 H8 x8 s8 p8 a ws ha na hw rws=>?_
     exact p8 ρ8 H8 x8 s8 a ws ha na hw (by rw[List.append_cons];exact rws)
  ·have e:i=w.ds.length:=by ac_nf
   subst e
   rw[List.drop_length]at p3
   unfold collect at p3
   obtain⟨sm,p4⟩:=PostX.chkS (PostX.left x2 (PostX.bnd0 p3)) s2
   obtain⟨g1,_⟩:=hJ ρ2 H2 st2 y2 s2 sm
   refine .inl ⟨g1,p4 ρ2 H2 x2 s2 q vs hn nq hv (by rw[List.append_nil];exact rvs)⟩⟩
theorem QjA {scope : Scope} {N : List Str} {ifs : List Expr} {n : Nat} {ix : List Nat} {ci : CI} {g : CG} (hex : X.ex = []) (hc : X.calm = true) (S : CompScope X scope) (T : CompNames X scope N n ix) (hi : SI X tg b ci)
  (blk:∀ (fp:List Addr) (s:Shared) (H:Hp),SG (cxC X N scope fp s H) tg g/\SIfs (cxC X N scope fp s H) ifs ta/\∀ P E',(∀ b∈fp,∃ o,(b,o)∈P)->SEX ((cxC X N scope fp s H).held P E') e fa)
  (hs:∀ x,foldedSetIterable b X.env x=pure x:=by intro _;rfl):PE X (.ListComp e [⟨tg,b,ifs,0⟩] scope pos) (tlW X.K (aComp n ix (noI ci) (noG g) (noT ta) fa) (exC X)):=(Qjy hex hc S T hi blk hs).of Qjz
theorem QjB (hex:∀ b∈X.ex,∃ o,(b,o)∈X.pn):Passes (CX1 X.prog X.w) X (EXx X):=fun pins σ H s e s' I h=>by
 obtain⟨a,H',rfl,os,bare,un,hok,fl,q⟩:=h
 have I2:Inv X pins σ H' s':=I.call' os un hok bare (ch:=[]) (fun b z=>absurd z (by simp))
 have up:∀ b,s.heap.get? b=none->X.s₀.heap.get? b=none:=fun b z=>by
  cases y:X.s₀.heap.get? b with
  | none=>rfl
  | some o=>
   by_cases hb:b∈X.ex
   ·obtain⟨o',ho⟩:=hex b hb
    have:=(I.pin _ (List.mem_append_left _ ho)).1
    dsimp only at this
    rw[z]at this;cases this
   ·obtain⟨o',q⟩:=I.base.there b o y hb
    rw[z]at q;cases q
 obtain⟨f1,f2,c,d,vs,sl,f3,f4⟩:=fl
 refine q pins σ s' a rfl I2 ⟨up a f1,fun o u z=>f2 o u (I.base.frzs a o u z),c,d,vs,sl,f3,?_⟩
 rcases f4 with f4 | ⟨T,ts,c',d',sl',z1,z2,z3,z4⟩
 ·exact .inl f4
 ·exact .inr ⟨T,ts,c',d',sl',z1,z2,up T z3,z4⟩
end
def noL (g:List D->M D):List D->M D:=fun ds=>noM (g ds)
def exB (X:Cx):XW:=fun d st ρ' H'=>exW X d st ρ' H'/\exC X d st ρ' H'
def tsW (K:Frag) (c:CS) (W:XW):TS:=fun G σ H=>∃ ρ l st,LR K ρ H σ l/\SR K ρ H st/\PostX K ρ H (c l st) (fun f _ ρ' H'=>match f with
 | .next l'=>∀ σ',LR K ρ' H' σ' l'->G.nx σ' H'
 | .ret d=>∀ v,Rep K ρ' H' v d->G.rt v H'
 | .brk l'=>∀ σ',LR K ρ' H' σ' l'->G.bk σ' H'
 | .cnt l'=>∀ σ',LR K ρ' H' σ' l'->G.ct σ' H') W
abbrev SEW (X:Cx) (W:XW) (e:Expr) (f:CE):Prop:=PE X e (txW X.K f W)
abbrev SXW (X:Cx) (W:XW) (s:Stmt) (c:CS):Prop:=PS X s (tsW X.K c W)
abbrev SXWs (X:Cx) (W:XW) (s:List Stmt) (c:CS):Prop:=PSs X s (tsW X.K c W)
section
variable {X:Cx}{W:XW}{a b c e tg:Expr}{es:List Expr}{s:Stmt}{ss:List Stmt}{pos p:Pos}{fa fb fc:CE}{ca cb:CA}{ta tb:CT}{cs cr:CS}{K:Frag}{ρ:List Addr}{H:Hp}{st:Sto}{x T:Str}
theorem QjC (h:SX X s cs) (hW:∀ d st ρ' H',W d st ρ' H'->exW X d st ρ' H'):SXW X W s cs:=h.of fun G σ H pq108=>by obtain⟨ρ,l,st,lr,sr,p⟩:=pq108;exact⟨ρ,l,st,lr,sr,p.impW hW⟩
theorem QjD (h:SXs X ss cs) (hW:∀ d st ρ' H',W d st ρ' H'->exW X d st ρ' H'):SXWs X W ss cs:=h.of fun G σ H pq109=>by obtain⟨ρ,l,st,lr,sr,p⟩:=pq109;exact⟨ρ,l,st,lr,sr,p.impW hW⟩
theorem QjE (h1:SXW X W s cs) (h2:SXWs X W ss cr):SXWs X W (s::ss) (sSeq cs cr):=(QaK h1 h2).of fun G σ H pq110=>by obtain⟨ρ,l,st,lr,sr,p⟩:=pq110;exact⟨ρ,l,st,lr,sr,(PostX.bnd p).imp fun f st1 ρ1 H1 x1 s1 p1=>by
 cases f with
 | next l'=>exact fun σ' lr'=>⟨ρ1,l',st1,lr',s1,p1⟩
 | ret d=>exact PostX.ret p1 s1
 | brk l'=>exact PostX.ret p1 s1
 | cnt l'=>exact PostX.ret p1 s1⟩
theorem QjF {g : List D -> M D} {T : String} (hc : CallR X (.type T) (lOf X.K g)) (hg : Gl X x) (hm : X.mg x = none) (hv : bootBuiltins x = some (.type T)) (ha : PE X e (tlW X.K ca W)) (hn : x ≠ "__name__" := by decide) (hdb : (x == ("__debug__" : Str)) = false := by decide)
  (he:starEach [e] X.env=[(false,eval e X.env)]:=by rfl):SEW X W (.Call (.Name x p) [e] [] pos) (cTmp (noL g) ca):=
 (QbU hc hg hm hv (QbH ha QbG he) hn hdb he rfl).of fun σ H Q pq111=>by obtain⟨ρ,l,st,lr,sr,p⟩:=pq111;exact⟨ρ,l,st,lr,sr,(PostX.bnd p).imp fun ds st1 ρ1 H1 x1 s1 p1 a vs ha na hv rvs=>⟨a,vs,ρ1,st1,ds,rfl,SqL.of hv,s1,rvs,PostX.no p1⟩⟩
theorem QjG (h:SEW X W e fa):SXW X W (.Return (some e) pos) (sRet fa):=(QaM h).of fun G σ H pq112=>by obtain⟨ρ,l,st,lr,sr,p⟩:=pq112;exact⟨ρ,l,st,lr,sr,(PostX.bnd p).imp fun d st1 ρ1 H1 x1 s1 p1 v rv=>PostX.ret p1 s1 v rv⟩
theorem QjH {i : Nat} {x : Str} {pos' : Pos} (hN : X.N.Nodup) (hi : X.N[i]? = some x) (hx : L2.Loc X.env.scope x) (he : SEW X W e fa) (hs : swapsWith e (some (.Name x pos')) pos.line X.env = pure false := by rfl)
  (hf:X.fn x=true\/X.env.scope.names.lookup x=some .local:=by first | exact .inl rfl | exact .inr rfl | assumption):SXW X W (.Assign [.Name x pos'] e pos) (sAsg (gVar i) fa):=
 (QaU hN hi hx he hs hf).of fun G σ H pq113=>by obtain⟨ρ,l,st,lr,sr,p⟩:=pq113;exact⟨ρ,l,st,lr,sr,(PostX.bnd p).imp fun d st1 ρ1 H1 x1 s1 p1 v rv=>
  PostX.ret (PostX.ret (PostX.bnd p1) s1) s1 _ ((lr.mono x1).set i rv)⟩
end
section
variable {P:Program}{w:World}{K:Frag}{mg:Str->Option Value}{base:Heap}
theorem fnB {x qual : Str} {sd : Stmt} {f : Addr} {fd : FuncData} {N ps : List Str} {k n m : Nat} {body : CS} (F : Fun K x qual sd f fd) (S : FnScope N ps (defScope sd)) (hn : ps.length = n) (hm : N.length = m)
  (hbody:∀ (cdv:Value) (A:Around) (outer:List Env) (s:Shared) (H:Hp) (E:XK),Room k (A.deeper (envOfC qual (defScope sd) s.heap.objs.size f cdv))->SXWs (cxOf (CX1 P w) P w K mg base N qual (defScope sd) f cdv A outer s H E) (exB (cxOf (CX1 P w) P w K mg base N qual (defScope sd) f cdv A outer s H E)) (defBody sd) body):
  FnOk P w K mg base (CX1 P w) (k + 1) f fd ps (spX K n (runDef m body)):=by
 subst hn hm
 obtain⟨oc,od,kV,doc,pm,an,cdv,ct,osl,rfl,lk,hcd⟩:=F.ex
 refine QbS lk hcd S (fun vs H Q E h=>h.1) fun A outer s H vs Q E hr h=>⟨_,hbody cdv A outer s H E hr,?_⟩
 obtain⟨hl,ρ,st,ds,sr,rvs,p⟩:=h
 refine⟨ρ,_,st,LR.start rvs,sr,?_⟩
 unfold runDef at p
 have q:=PostX.bnd p
 cases eb:body (ds.map some++List.replicate (N.length - ds.length) none) st with
 | bad=>rw[eb]at q;exact q
 | ok f st1=>
  rw[eb]at q
  intro ρ1 H1 x1 s1
  have p1:=q ρ1 H1 x1 s1
  cases f with
  | next l=>exact fun σ' _=>PostX.ret p1 s1 _ .non
  | ret d=>exact fun v rv=>PostX.ret p1 s1 v rv
  | brk l=>exact p1.elim
  | cnt l=>exact p1.elim
 | exc d st1=>
  rw[eb]at q
  intro ρ1 H1 x1 s1
  refine⟨fun pins σ s' a I rep fl=>QiJ I fl fun H2 t=>q ρ1 H2 (Ex.turn t x1 fl.2.1) (s1.turn t) a (rep.turn t),fun a rep pins σ s' C m use Q acc env' hfe I fl=>?_⟩
  exact Qju (fun H2 t=>q ρ1 H2 (Ex.turn t x1 fl.2.1) (s1.turn t) a (rep.turn t)) pins σ s' C m use Q acc env' hfe I fl
end
section
variable {X:Cx}{a b c e tg:Expr}{es:List Expr}{s:Stmt}{ss:List Stmt}{pos:Pos}{fa fb fc:CE}{ca cb:CA}{ta tb:CT}{cs cr:CS}{K:Frag}{ρ:List Addr}{H:Hp}{st:Sto}
theorem QjI {k n : Nat} {f : Addr} {fd : FuncData} {ps : List Str} {g : List D -> M D} {x : Str} {p : Pos} (hex : ∀ b ∈ X.ex, ∃ o, (b, o) ∈ X.pn) (F : FnOk X.prog X.w X.K X.mg X.base (CX1 X.prog X.w) k f fd ps (spX X.K n g)) (hr : Room k X.A) (hg : Gl X x) (hm : X.mg x = some (.ref f))
  (hk:keepIn X.K (.ref f)=true) (hb:Binds X.K fd ps []) (ha:SA X (e::es) ca) (hn:∀ l st ds st',ca l st=.ok ds st'->ds.length=n) (hdb:(x == ("__debug__":Str))=false:=by decide)
  (he:starEach (e::es) X.env=(false,eval e X.env)::starEach es X.env:=by rfl) (hpl:(backTo pos (starEach es X.env)).any (·.1)=false:=by rfl):SEX X (.Call (.Name x p) (e::es) [] pos) (cCall g (noA ca)):=
 (QbL F hr hg hm hk hb .nil (QjB hex) ha hdb he hpl).of fun σ H Q pq114=>by obtain⟨ρ,l,st,lr,sr,p⟩:=pq114;exact⟨ρ,l,st,lr,sr,by
  have q:=PostX.no (PostX.bnd p)
  cases ec:ca l st with
  | bad=>rw[ec]at q;exact q
  | exc _ _=>rw[ec]at q;exact q
  | ok ds st1=>
   rw[ec]at q
   intro ρ1 H1 x1 s1 vs rvs
   refine⟨by rw[List.append_nil,rvs.length];exact hn l st ds st1 ec,ρ1,st1,ds,s1,by rw[List.append_nil];exact rvs,?_⟩
   have p1:PostX X.K ρ1 H1 (g ds st1) (fun d _ ρ' H'=>∀ v,Rep X.K ρ' H' v d->Q v H') (exW X):=q ρ1 H1 x1 s1
   cases eg:g ds st1 with
   | bad=>rw[eg]at p1;exact p1
   | ok r st2=>rw[eg]at p1;exact p1
   | exc d st2=>
    rw[eg]at p1
    intro ρ2 H2 x2 s2 a rep pins σ s' a' ea I fl
    cases ea
    exact p1 ρ2 H2 x2 s2 pins σ s' a I rep fl⟩
end
theorem _root_.L2.Inv.held2 {X:Cx}{P pins:List (Addr × Obj)}{σ:St}{H:Hp}{s:Shared} (I:Inv X (P++pins) σ H s) (hp:X.pn=[]) (E:Value->Shared->Prop):Inv (X.held P E) pins σ H s:=
 ⟨⟨I.ok.mod,I.ok.kind,I.ok.glob,I.ok.blt,I.ok.above,I.ok.inj,I.ok.has,I.ok.cab,I.ok.hd,I.ok.frames,I.ok.stk,I.ok.exf,I.ok.bs,I.ok.bsz,I.ok.noex,I.ok.exfs,I.ok.funs,I.ok.frf⟩,I.os,I.bare,I.base,I.loc,I.cell,I.free,I.freeC,fun p h=>I.pin p (by rw[hp];exact h),I.hok,I.len⟩
theorem QjJ {X:Cx}{es:List Expr}{t:TA}{P:List (Addr × Obj)}{E:Value->Shared->Prop} (hp:X.pn=[]) (hx:X.xe=NoE) (h:PA X es t):PA (X.held P E) es t:=fun pos pins s σ H Q I q=>by
 have w:=h pos (P++pins) s σ H Q (I.unheld hp) q
 rw[hx]at w
 exact wpAny_mono w (fun us s' pq115=>by obtain⟨vs,H',I',v,r⟩:=pq115;exact⟨vs,H',Inv.held2 I' hp E,v,r⟩) fun _ _ z=>z.elim
section
variable {X:Cx}{c:RC}{q:Rec}{E:List (Str × RF)}
theorem QjK (hq:RecOk q) (g:Good X c) (hE:EnvX X.prog X.w X.K X.mg X.base E) (hp:X.pn=[]) (hx:X.xe=NoE) {e:Expr}{r:CE} (z:rcC q c E e=some r) {P:List (Addr × Obj)}{E':Value->Shared->Prop} (hex:∀ b∈X.ex,∃ o,(b,o)∈P):SEX (X.held P E') e r:=by
 unfold rcC at z
 split at z
 ·simp only[Option.ite_none_right_eq_some,Option.bind_eq_some_iff]at z
  obtain⟨rf,hf,⟨h1,h2,h3,h4⟩,ca,ha,z⟩:=z
  cases z
  obtain⟨f,fd,m,F,kp,B⟩:=(hE _ _ hf).ex
  obtain⟨x,y,l⟩:=Qhj hq g ha
  rw[List.all_cons,Bool.and_eq_true]at y
  have x':SA (X.held P E') _ ca:=QjJ hp hx x
  exact QjI (X:=X.held P E') hex F (g.hr.mono h3) (g.S.glo _ (beq_iff_eq.mp h1)) m kp B x' (by rw[h4];exact l) (Qg9 h2).d (Qhc y.1) (Qhd y.2)
 ·cases z
def cmpX (q:Rec) (c:RC) (E:List (Str × RF)):Expr->Option CA
 | .ListComp e [⟨tg,b,ifs,0⟩] sc _=>
  if c.cok sc (tgN 8 tg).eraseDups b then
   (q.i c tg b).bind fun ci=>(q.g (c.inn sc (tgN 8 tg).eraseDups) tg).bind fun g=>(ifsC q (c.inn sc (tgN 8 tg).eraseDups) ifs).bind fun t=>(rcC q (c.inn sc (tgN 8 tg).eraseDups) E e).bind fun f=>
    some (aComp (tgN 8 tg).eraseDups.length (c.ix sc) (noI ci) (noG g) (noT t) f)
  else none
 | _=>none
theorem QjL (hq:RecOk q) (g:Good X c) (hE:EnvX X.prog X.w X.K X.mg X.base E) (hex:X.ex=[]) {e:Expr}{r:CA} (z:cmpX q c E e=some r):PE X e (tlW X.K r (exC X)):=by
 unfold cmpX at z
 split at z
 ·simp only[Option.ite_none_right_eq_some,Option.bind_eq_some_iff]at z
  obtain⟨hk,ci,hi,gg,hg,t,ht,f,hf,z⟩:=z
  cases z
  exact QjA hex g.S.calm (QgN g.S hk.1) (QgO g.N hk.2.1) (hq.i g hi) (fun fp s H=>⟨hq.g (g.inn hk fp s H) hg,Qhm hq (g.inn hk fp s H) ht,fun P E' hP=>QjK hq (g.inn hk fp s H) hE rfl rfl hf hP⟩) (Qhg hk.2.2.2)
 ·cases z
def tupX (q:Rec) (c:RC) (E:List (Str × RF)):Expr->Option CE
 | .Call (.Name y _) [a] [] _=>if y=Str.ofString "tuple"/\c.bl y=true/\plE a=true then (cmpX q c E a).bind fun ca=>some (cTmp (noL tupL) ca) else none
 | _=>none
theorem QjM (hq:RecOk q) (g:Good X c) (hE:EnvX X.prog X.w X.K X.mg X.base E) (hex:X.ex=[]) {e:Expr}{r:CE} (z:tupX q c E e=some r):SEW X (exC X) e r:=by
 unfold tupX at z
 split at z
 ·simp only[Option.ite_none_right_eq_some,Option.bind_eq_some_iff]at z
  obtain⟨⟨rfl,hb,hp⟩,ca,ha,z⟩:=z
  cases z
  exact QjF Qe3 (g.gl hb).1 (g.gl hb).2 (by nofun) (QjL hq g hE hex ha) (Qhw (by nofun)) (by nofun) (Qhc hp)
 ·cases z
end
section
variable {X:Cx}{c:RC}{q:Rec}{E:List (Str × RF)}
def stB (q:Rec) (c:RC) (E:List (Str × RF)) (y fl:Str) (n:Nat) (s:Stmt):Option CS:=match s with
 | .Return (some e) _=>match tupX q c E e with
  | some f=>some (sRet f)
  | none=>stX q c E y fl n s
 | .Assign [.Name x _] e _=>match tupX q c E e with
  | some f=>if ncE e=true then (tgC c x).bind fun i=>some (sAsg (gVar i) f) else none
  | none=>stX q c E y fl n s
 | _=>stX q c E y fl n s
theorem QjN (hq:RecOk q) (g:Good X c) (hE:EnvX X.prog X.w X.K X.mg X.base E) (hex:X.ex=[]) {y fl:Str} (R:XR X.prog X.w X.K X.mg X.base y fl) (n:Nat) (s:Stmt) (f:CS) (h:stB q c E y fl n s=some f):SXW X (exB X) s f:=by
 have old:∀ {s:Stmt}{f:CS},stX q c E y fl n s=some f->SXW X (exB X) s f:=fun z=>QjC (Qjg hq g hE hex R n _ _ z) fun _ _ _ _ w=>w.1
 have new:∀ {e:Expr}{r:CE},tupX q c E e=some r->SEW X (exB X) e r:=fun z=>(QjM hq g hE hex z).of fun σ H Q pq116=>by obtain⟨ρ,l,st,lr,sr,p⟩:=pq116;exact⟨ρ,l,st,lr,sr,p.impW fun _ _ _ _ w=>w.2⟩
 unfold stB at h
 split at h
 ·split at h
  ·rename_i h1
   cases h
   exact QjG (new h1)
  ·exact old h
 ·split at h
  ·rename_i h1
   simp only[Option.ite_none_right_eq_some,Option.bind_eq_some_iff]at h
   obtain⟨b,i,hi,z⟩:=h
   cases z
   obtain⟨e1,k,e2,e3⟩:=Qhp g hi
   exact QjH g.nd e1 (g.S.loc _ _ e2 e3).1 (new h1) (Qhf b) (g.S.loc _ _ e2 e3).2
  ·exact old h
 ·exact old h
theorem QjO {W:XW}{s:Stmt->Option CS} (hW:∀ d st ρ' H',W d st ρ' H'->exW X d st ρ' H') (h:∀ a f,s a=some f->SXW X W a f):∀ {ss:List Stmt}{f:CS},blX s ss=some f->SXWs X W ss f
 | [],f,z=>by cases z;exact QjD QiL hW
 | a::as,f,z=>by
  unfold blX at z
  simp only[Option.bind_eq_some_iff]at z
  obtain⟨fa,h1,fb,h2,z⟩:=z
  cases z
  exact QjE (h a fa h1) (QjO hW h h2)
end
section
variable {P:Program}{w:World}{K:Frag}{mg:Str->Option Value}{base:Heap}
theorem QjP (R : Rules) {r : List Str} {x y fl : Str} {sd : Stmt} {ps : List Str} {k n m : Nat} {body : CS} {G E : List (Str × RF)} {Z : List Str} {C : List (Str × D)} {H : List (Nat × Nat × Nat)} (F : FnAt K mg x sd) (S : fscB (ps ++ r) ps (defScope sd) = true)
  (b:∀ (kV doc pm:Value) (an:Option Addr) (cdv ct:Value) (us:List Value),us.length=ps.length->bindArgs (fnOf x x (defArgs sd) (defBody sd) (defScope sd) .none kV doc pm an cdv ct) { pos:=us }=pure (ps.zip us))
  (hb:blX (stB (recN R 40) ⟨defScope sd,ps++r,k,G,Z,C,H,true⟩ E y fl 20) (defBody sd)=some body) (hG:EnvOk P w K mg base G) (hE:EnvX P w K mg base E) (hR:XR P w K mg base y fl) (hZ:ZOk mg Z) (hC:COk K mg C) (hn:ps.length=n:=by rfl) (hm:(ps++r).length=m:=by rfl):
  EnvX P w K mg base ((x,⟨n,k + 1,ps,false,runDef m body⟩)::E)/\EnvOk P w K mg base ((x,⟨n,k + 1,ps,false,runDef m body⟩)::G):=by
 obtain⟨f,fd,F,hm'⟩:=F
 have S':=Qhx S
 have ok:FnOk P w K mg base (CX1 P w) (k + 1) f fd ps (spX K n (runDef m body)):=fnB F S' hn hm fun cdv A outer s Hp Ex hr=>QjO (fun _ _ _ _ w=>w.1) (QjN (X:=cxOf (CX1 P w) P w K mg base (ps++r) x (defScope sd) f cdv A outer s Hp Ex) (c:=⟨defScope sd,ps++r,k,G,Z,C,H,true⟩) (Qhb R 40)
  ⟨Qjn,rfl,S'.nd,hr,hG,hZ,hC,PassesOwn.leaving,fun _=>⟨by show (if (defScope sd).kind.isAnnotationScope=true then _ else (defScope sd).kind)=_;rw[S'.kind];rfl,fun _=>rfl⟩⟩ hE rfl hR 20) hb
 exact⟨Qjp hm' ok F.kp (F.binds b) hE,Qht hm' (Qjd ok) F.kp (F.binds b) (fun z=>nomatch z) hG⟩
end
end MM
namespace MM
def cSliceS (a:CE) (lo hi:CO):CE:=fun l=>bnd (a l) fun x=>bnd (lo l) fun i=>bnd (hi l) fun j=>match x with
 | .str x=>chk (x.length<=lim) (ret (.str (PySem.Txt.slice x i j)))
 | _=>bad
open PySem PySem.Spec PyProof.Rows L2
section
variable {X:Cx}{e:Expr}{fa:CE}{pos:Pos}
def rSlS:V->Option Int->Option Int->Hp->VK->Prop:=fun x lo hi H Q=>∃ y,x=.str y/\y.length<=sizeLine/\Q (.str (Txt.slice y lo hi)) H
theorem QjQ {v:Value}{o:Option Int} (h:IsPart v o):∃ p:Option (Int × Tok),v=partValue p/\p.map (·.1)=o:=by
 cases h with
 | none=>exact⟨none,rfl,rfl⟩
 | int=>exact⟨some (_,_),rfl,rfl⟩
theorem QjR:SlR X rSlS:=by
 intro pins s σ H x v vl vu lo hi sl Q I rx hs pl pu h
 obtain⟨y,rfl,hz,q⟩:=h
 obtain⟨t,rfl⟩:=(show ∃ t,v=Value.str y t from rx)
 obtain⟨p1,rfl,rfl⟩:=QjQ pl
 obtain⟨p2,rfl,rfl⟩:=QjQ pu
 refine⟨"str",_,F.slot_str_getitem.lookup,typeIs_str _ _ _,wpAny_getItem_str_slice (l:=p1) (u:=p2) (st:=none) hs rfl
  (post_val_or_str ⟨Nat.le_trans (Txt.slice_le y _ _) hz,fun t' k=>⟨.str (Txt.slice y (p1.map (·.1)) (p2.map (·.1))),H,I.tok k,⟨t',rfl⟩,q⟩⟩)⟩
theorem QjS {lo hi:Option Expr}{fl fh:CO}{p2:Pos} (h:SE X e fa) (hl:SO X lo fl) (hh:SO X hi fh):SE X (.Subscript e (.Slice lo hi none p2) pos) (cSliceS fa fl fh):=
 (QbY QjR h hl hh).of fun σ H Q h_=>h_.el fun ρ l st lr sr p=>⟨ρ,l,st,lr,sr,p.bnd.imp fun d st1 ρ1 H1 x1 s1 p1 v rv=>⟨ρ1,l,st1,lr.mono x1,s1,p1.bnd.imp fun i st2 ρ2 H2 x2 s2 p2=>⟨ρ2,l,st2,(lr.mono x1).mono x2,s2,p2.bnd.imp fun j st3 ρ3 H3 x3 s3 p3=>by
  have rv3:=(rv.mono x2).mono x3
  cases rv3 with
  | str y=>
   obtain⟨hz,p4⟩:=Post.chk p3
   exact⟨y,rfl,hz,p4.ret s3 _ (.str _)⟩
  | _=>exact p3.elim⟩⟩⟩
end
def rSliceS:RuE:=⟨fun q c e=>match e with
 | .Subscript a (.Slice lo hi none _) p=>if c.tag p 17=true then (q.e c a).bind fun fa=>(optC q c lo).bind fun fl=>(optC q c hi).bind fun fh=>some (cSliceS fa fl fh) else none
 | _=>none,fun {q} hq {X c} g {e r} z=>by
 split at z
 ·simp only[Option.ite_none_right_eq_some,Option.bind_eq_some_iff]at z
  obtain⟨_,fa,ha,fl,hl,fh,hh,z⟩:=z
  cases z
  exact QjS (hq.e g ha) (Qhk hq g hl) (Qhk hq g hh)
 ·cases z⟩
end MM
namespace MM
open PySem
def cIdxX (a b:CE):CE:=fun l=>bnd (a l) fun x=>match x with
 | .str x=>bnd (b l) fun y=>match y with
  | .str y=>(match Builtin.Str.occurrences x y 0 x.length 1 with
   | i::_=>ret (.int (i:Nat))
   | []=>bad)
  | _=>bad
 | _=>bad
open PySem.Spec PyProof.Rows L2
section
variable {X:Cx}
def rIdxX:V->List V->Hp->VK->Prop:=fun x vs H Q=>∃ a b i r,x=.str a/\vs=[.str b]/\Builtin.Str.occurrences a b 0 a.length 1=i::r/\Q (.int (i:Nat)) H
theorem QjT:MtR X "str.index" rIdxX:=by
 intro pins s σ H x vs v us Q I rx rv h
 obtain⟨a,b,i,r,rfl,rfl,ho,q⟩:=h
 obtain⟨t,rfl⟩:=rx
 obtain⟨u,rfl,ru⟩:=rv.one
 obtain⟨t',rfl⟩:=ru
 refine call_meets F.slot_str_index (typeIs_str _ _ _) F.entry_str_index (F.args_str_index_2 _ _) (S:=fun A R s=>(Made.int (i:Nat)).post (fun v s'=>R (.ok (.ret v)) s') s) ?_ ⟨.int _,H,I.tok _,⟨_,rfl⟩,q⟩
 intro prog w A R s hR
 exact gives_str_index a b t t' i r ho prog w A R s hR
theorem QjU {o e : Expr} {fa fb : CE} {apos cpos : Pos} (ho : SE X o fa) (ha : SE X e fb) (hbase : attributeBase o "index" X.env (eval o X.env) = eval o X.env)
  (hfew:((backTo cpos (starEach [e] X.env)).all (fun x => !x.1) && (backToKw cpos (keywordEach [] X.env)).all (fun x=>x.1.isSome) && decide ([e].length + ([]:List Keyword).length + (if ([]:List Keyword).isEmpty then 0 else 1) < 30))=true)
  (hline:(apos.endLine == cpos.line)=true) (hs:starEach [e] X.env=(false,eval e X.env)::starEach [] X.env) (hplain:(backTo cpos (starEach [] X.env)).any (·.1)=false):
  SE X (.Call (.Attribute o "index" apos) [e] [] cpos) (cIdxX fa fb):=
 (Qcm PySem.F.plainAttrs_str PySem.F.slot_str_index PySem.F.type_str_index QjT ho (QbH ha QbG hs) hbase hfew hline hs hplain).of fun σ H Q h_=>h_.el fun ρ l st lr sr p=>⟨ρ,l,st,lr,sr,p.bnd.imp fun d st1 ρ1 H1 x1 s1 p1 v rv=>by
  cases rv with
  | str x=>
   refine⟨rfl,ρ1,l,st1,lr.mono x1,s1,(Post.bnd p1).imp fun y st2 ρ2 H2 x2 s2 p2 w rw'=>?_⟩
   cases rw' with
   | str y=>
    cases e:Builtin.Str.occurrences x y 0 x.length 1 with
    | nil=>simp only[e]at p2;exact p2.elim
    | cons i r=>simp only[e]at p2;exact⟨x,y,i,r,rfl,rfl,e,p2.ret s2 _ (.int _)⟩
   | _=>exact p2.elim
  | _=>exact p1.elim⟩
end
def tagIdx (c:RC) (p:Pos):Bool:=c.tag p 18
def mIdxX:RuE:=meth1 "index" cIdxX tagIdx fun _ o a b f l s p=>QjU o a b f l s p
end MM
namespace MM
open PySem
def ninTD:D->D->M D
 | .str x,.str y=>ret (.bl (!(!(Builtin.Str.occurrences y x 0 y.length 1).isEmpty)))
 | _,_=>bad
open PyProof.Rows L2
section
variable {X:Cx}
theorem QjV:OpR X (compareOp .NotIn) (rOf X.K ninTD):=Qbk.of fun x y H Q z=>by
 obtain⟨ρ,st,d,e,sr,r1,r2,p⟩:=z
 cases r1 with
 | str a=>
  cases r2 with
  | str b=>exact⟨a,b,rfl,rfl,p.ret sr _ (.bl _)⟩
  | _=>exact p.elim
 | _=>first | exact p.elim | (cases r2<;>exact p.elim)
end
end MM
namespace MM
section
variable {W:D->Sto->Prop}{s:Sto}{l:Loc}
theorem QjW {α:Type}{c:Prop} [Decidable c] {m:M α}{Q:α->Sto->Prop} (h:c) (k:wpx m Q W s):wpx (chk c m) Q W s:=by unfold chk;rw[if_pos h];exact k
theorem QjX {e : CE} {xs : List D} {same : Sto -> Prop} {caps : Loc} {Q : List D -> Sto -> Prop} (J : Nat -> List D -> Sto -> Prop) (hs : ∀ i out s, J i out s -> same s) (h0 : J 0 [] s)
  (hstep:∀ (i:Nat) d out s,xs[i]?=some d->J i out s->wpx (e (some d::caps)) (fun x s'=>J (i + 1) (out++[x]) s') W s) (hend:∀ out s,J xs.length out s->Q out s):
  wpx (collect (noG (gVar 0)) (noT tTrue) e same xs (none::caps)) Q W s:=by
 have chk:∀ {s:Sto}{R:Unit->Sto->Prop},same s->R () s->wpx (chkS same) R W s:=fun h r=>.ok () _ (by unfold chkS;rw[if_pos h]) r
 have key:∀ (n i:Nat) out s x0,i + n=xs.length->J i out s->wpx (collect (noG (gVar 0)) (noT tTrue) e same (xs.drop i) (x0::caps)) (fun ys s'=>Q (out++ys) s') W s:=by
  intro n
  induction n with
  | zero=>
   intro i out s x0 e j
   have e:i=xs.length:=by ac_nf
   subst e
   rw[List.drop_length]
   unfold collect
   exact Qis (chk (hs _ _ _ j) (Qiu (by rw[List.append_nil];exact hend out s j)))
  | succ n ih=>
   intro i out s x0 e1 j
   have hi:i < xs.length:=by ac_nf
   rw[List.drop_eq_getElem_cons hi]
   unfold collect
   refine Qis (chk (hs _ _ _ j) ?_)
   refine Qis (.ok (some xs[i]::caps) s rfl ?_)
   refine Qis (.ok true s rfl ?_)
   rw[if_pos rfl]
   refine Qis (Qit (hstep i _ out s (List.getElem?_eq_getElem hi) j) (fun x s2 q=>?_) fun _ _ q=>q)
   refine Qis (Qit (ih (i + 1) _ s2 _ (by ac_nf) q) (fun ys s3 q=>Qiu ?_) fun _ _ q=>q)
   rw[List.append_assoc]at q
   exact q
 have:=key xs.length 0 [] s none (by ac_nf) h0
 rw[List.drop_zero]at this
 exact Qit this (fun ys s' q=>by rw[List.nil_append]at q;exact q) fun _ _ q=>q
theorem QjY {i : CI} {e : CE} {caps : List Nat} {Q : D -> Sto -> Prop} (h : wp (i l) (fun w s1 => w.ds.length <= lim /\ wpx (collect (noG (gVar 0)) (noT tTrue) e w.same w.ds (capt 1 caps l)) (fun ds s2 => Q (.tup ds) s2) W s1) s) :
  wpx (cTmp (noL tupL) (aComp 1 caps (noI i) (noG (gVar 0)) (noT tTrue) e) l) Q W s:=
 Qis (Qis (Qit (Qir h) (fun w s1 q=>QjW q.1 (Qit q.2 (fun ds s2 q=>Qir (by show wp (ret _) _ _;rw[wp_ret];exact q)) fun _ _ q=>q)) fun _ _ q=>q))
theorem QjZ {Q:Flw->Sto->Prop}{i:Nat}{e:CE} (h:wpx (e l) (fun d s'=>Q (.next (l.set i (some d))) s') W s):wpx (sAsg (gVar i) e l) Q W s:=Qis (Qit h (fun d s' q=>Qis (.ok _ s' rfl (Qiu q))) fun _ _ q=>q)
theorem Qj0 {Q:Flw->Sto->Prop}{e:CE} (h:wpx (e l) (fun d s'=>Q (.ret d) s') W s):wpx (sRet e l) Q W s:=Qis (Qit h (fun d s' q=>Qiu q) fun _ _ q=>q)
end
end MM
namespace My
open PySem MM
def jG : CS :=
  (sSeq (sIf (tCmpB (c2 neD (c1 lenD (cVar 1)) (c1 lenD (c2 subsD (cVar 0) (cCon (.int 0))))))
   (sSeq (sRet (cCon (.bl false)))
   sNext)
   sNext)
  (sSeq (sRet (cTmp allD (aComp 2 [0] (iSeq (cVar 1)) (gTupD 2 (gsCons (gVar 0) (gsCons (gVar 1) gsNil))) tTrue (cAnd (cChain leD ltD (cCon (.int 0)) (cVar 0) (c1 lenD (cVar 2))) (c2 geD (cVar 1) (cCon (.int 0)))))))
  sNext))
@[irreducible] def jm:List D->M D:=runDef 2 jG
def jw : CS :=
  (sSeq (sIf (tNotB (tCmpB (cChain leD leD (cCon (.int 1)) (c1 lenD (cVar 0)) (cCon (.int 3)))))
   (sSeq (sRet (cCon .non))
   sNext)
   sNext)
  (sSeq (sIf (tNotB (tVal (cTmp allD (aComp 1 [] (iStr (cVar 0)) (gVar 0) tTrue (c2 inTD (cVar 0) (cCon (.str "0123456789")))))))
   (sSeq (sRet (cCon .non))
   sNext)
   sNext)
  (sSeq (sIf (tAndB (tCmpB (c2 eqD (c2 subsD (cVar 0) (cCon (.int 0))) (cCon (.str "0")))) (tCmpB (c2 gtD (c1 lenD (cVar 0)) (cCon (.int 1)))))
   (sSeq (sRet (cCon .non))
   sNext)
   sNext)
  (sSeq (sRet (c1 intTD (cVar 0)))
  sNext))))
@[irreducible] def jb:List D->M D:=runDef 1 jw
def jQ : CS :=
  (sSeq (sAsg (gVar 2) (c2 addD (c2 mulD (cCon (.int 104729)) (cVar 1)) (cCon (.int 17))))
  (sSeq (sIf (tCmpB (c2 ltD (cVar 1) (c1 lenD (cVar 0))))
   (sSeq (sAsg (gVar 2) (c2 subsD (cVar 0) (cVar 1)))
   sNext)
   (sSeq (sIf (tCmpB (c2 gtD (c1 lenD (cVar 0)) (cCon (.int 0))))
    (sSeq (sAsg (gVar 2) (c2 addD (cVar 2) (c2 mulD (c2 modD (c2 subsD (cVar 0) (c2 modD (cVar 1) (c1 lenD (cVar 0)))) (cCon (.int 2147483629))) (cCon (.int 48611)))))
    sNext)
    sNext)
   sNext))
  (sSeq (sAsg (gVar 3) (c2 modD (c2 addD (c2 addD (c2 mulD (c2 modD (cVar 2) (cCon (.int 2147483629))) (cCon (.int 48271))) (c2 mulD (cCon (.int 7919)) (cVar 1))) (cCon (.int 11))) (cCon (.int 2147483629))))
  (sSeq (sRet (cKeep (aDisp (cCons (c2 mulD (cVar 2) (c1 intD (c2 geD (cVar 2) (c2 powD (cCon (.int 10)) (cCon (.int 18)))))) (cCons (cVar 3) cNil)))))
  sNext))))
@[irreducible] def jr:List D->M D:=runDef 4 jQ
def jN : CS :=
  (sSeq (sIf (tCmpB (c2 gtD (c2 subsD (cVar 0) (cCon (.int 0))) (cCon (.int 0))))
   (sSeq (sAsg (gVar 2) (c2 modD (c2 subsD (cVar 0) (cCon (.int 0))) (cVar 1)))
   (sSeq (sAsg (gSubD (cVar 0) (cCon (.int 0))) (c2 fdivD (c2 subsD (cVar 0) (cCon (.int 0))) (cVar 1)))
   (sSeq (sRet (cVar 2))
   sNext)))
   sNext)
  (sSeq (sAsg (gSubD (cVar 0) (cCon (.int 1))) (c2 modD (c2 addD (c2 mulD (c2 subsD (cVar 0) (cCon (.int 1))) (cCon (.int 48271))) (cCon (.int 12345))) (cCon (.int 2147483647))))
  (sSeq (sRet (c2 modD (c2 addD (c2 fdivD (c2 modD (c2 mulD (c2 subsD (cVar 0) (cCon (.int 1))) (c2 subsD (cVar 0) (cCon (.int 1)))) (cCon (.int 2147483629))) (cCon (.int 7))) (c2 subsD (cVar 0) (cCon (.int 1)))) (cVar 1)))
  sNext)))
@[irreducible] def ja:List D->M D:=runDef 3 jN
def jJ : CS :=
  (sSeq (sAsg (gVar 4) (cCall ja (cCons (cVar 0) (cCons (cVar 2) cNil))))
  (sSeq (sAsg (gVar 5) (cKeep (aComp 1 [0,3] (MM.iRng1 (cVar 2)) (gVar 0) tTrue (cCall ja (cCons (cVar 1) (cCons (cVar 2) cNil))))))
  (sSeq (sIf (tCmpB (c2 eqD (cVar 1) (cCon (.int 1))))
   (sSeq (sRet (cKeep (aComp 1 [5] (MM.iRng1 (cVar 2)) (gVar 0) tTrue (cTup (cCons (cVar 0) (cCons (c2 subsD (cVar 1) (cVar 0)) cNil))))))
   sNext)
   sNext)
  (sSeq (sIf (tCmpB (c2 eqD (cVar 1) (cCon (.int 2))))
   (sSeq (sRet (cKeep (aComp 1 [4] (MM.iRng1 (cVar 2)) (gVar 0) tTrue (cTup (cCons (cVar 1) (cCons (cCon (.int 0)) cNil))))))
   sNext)
   sNext)
  (sSeq (sIf (tCmpB (c2 eqD (cVar 1) (cCon (.int 3))))
   (sSeq (sRet (cKeep (aComp 1 [2,4,5] (MM.iRng1 (cVar 2)) (gVar 0) tTrue (cTup (cCons (c2 modD (c2 addD (cVar 0) (cVar 2)) (cVar 1)) (cCons (c2 subsD (cVar 3) (cVar 0)) cNil))))))
   sNext)
   sNext)
  (sSeq (sIf (tCmpB (c2 eqD (cVar 1) (cCon (.int 4))))
   (sSeq (sRet (cKeep (aComp 1 [4] (MM.iRng1 (cVar 2)) (gVar 0) tTrue (cTup (cCons (cVar 1) (cCons (cVar 0) cNil))))))
   sNext)
   sNext)
  (sSeq (sRet (cKeep (aComp 1 [0,2,5] (MM.iRng1 (cVar 2)) (gVar 0) tTrue (cTup (cCons (cCall ja (cCons (cVar 1) (cCons (cVar 2) cNil))) (cCons (c2 subsD (cVar 3) (cVar 0)) cNil))))))
  sNext)))))))
@[irreducible] def jn:List D->M D:=runDef 6 jJ
def jD : CS :=
  (sSeq (sAsg (gVar 1) (c2 addD (cCon (.int 1)) (cCall ja (cCons (cVar 0) (cCons (cCon (.int 4)) cNil)))))
  (sSeq (sAsg (gVar 2) (c2 addD (cCon (.int 1)) (cCall ja (cCons (cVar 0) (cCons (cCon (.int 4)) cNil)))))
  (sSeq (sAsg (gVar 3) (cCall ja (cCons (cVar 0) (cCons (cCon (.int 6)) cNil))))
  (sSeq (sAsg (gVar 4) (cKeep (aDisp cNil)))
  (sSeq (sFor (MM.iRng1 (c2 addD (cCon (.int 1)) (cCall ja (cCons (cVar 0) (cCons (cCon (.int 4)) cNil))))) (gVar 5)
   (sSeq (sAsg (gVar 6) (cTmpSub (aDisp (cCons (cCon (.int 0)) (cCons (cVar 3) (cCons (cVar 3) (cCons (c2 addD (cCon (.int 1)) (cCall ja (cCons (cVar 0) (cCons (cCon (.int 2)) cNil)))) cNil))))) (cCall ja (cCons (cVar 0) (cCons (cCon (.int 4)) cNil)))))
   (sSeq (sIf (tCmpB (c2 eqD (cVar 3) (cCon (.int 5))))
    (sSeq (sAsg (gVar 6) (c2 addD (cCon (.int 1)) (cCall ja (cCons (cVar 0) (cCons (cCon (.int 2)) cNil)))))
    sNext)
    sNext)
   (sSeq (sExp (cAppend (cVar 4) (cCall jn (cCons (cVar 0) (cCons (cVar 6) (cCons (cVar 1) (cCons (cVar 2) cNil)))))))
   sNext))))
  (sSeq (sAsg (gVar 7) (cKeep (aComp 1 [4] (MM.iRng1 (cVar 1)) (gVar 0) tTrue (cKeep (aComp 1 [0] (iSeq (cVar 1)) (gVar 0) tTrue (c2 subsD (cVar 0) (cVar 1)))))))
  (sSeq (sIf (tCmpB (c2 eqD (cCall ja (cCons (cVar 0) (cCons (cCon (.int 4)) cNil))) (cCon (.int 1))))
   (sSeq (sAsg (gVar 8) (cCall ja (cCons (cVar 0) (cCons (cVar 1) cNil))))
   (sSeq (sAsg (gVar 9) (cCall ja (cCons (cVar 0) (cCons (c1 lenD (cVar 4)) cNil))))
   (sSeq (sAsg (gTupD 2 (gsCons (gVar 10) (gsCons (gVar 11) gsNil))) (c2 subsD (c2 subsD (cVar 7) (cVar 8)) (cVar 9)))
   (sSeq (sAsg (gSubD (c2 subsD (cVar 7) (cVar 8)) (cVar 9)) (cTmpSub (aDisp (cCons (cTup (cCons (cCall ja (cCons (cVar 0) (cCons (cVar 1) cNil))) (cCons (cVar 11) cNil))) (cCons (cTup (cCons (cVar 10) (cCons (cCall ja (cCons (cVar 0) (cCons (cCon (.int 4)) cNil))) cNil))) cNil))) (cCall ja (cCons (cVar 0) (cCons (cCon (.int 2)) cNil)))))
   sNext))))
   sNext)
  (sSeq (sRet (cTmp tupL (aComp 1 [] (iSeq (cVar 7)) (gVar 0) tTrue (c1 tupleD (cVar 0)))))
  sNext))))))))
@[irreducible] def jq:List D->M D:=runDef 12 jD
def jE : CS :=
  (sSeq (sRet (cAnd (c1 (isInst ["int"]) (cVar 0)) (cNot (c1 (isInst ["bool"]) (cVar 0)))))
  sNext)
@[irreducible] def jj:List D->M D:=runDef 1 jE
def jM : CS :=
  (sSeq (sRet (cJoin (cCon (.str " / ")) (cKeep (aComp 1 [] (iSeq (cVar 0)) (gVar 0) tTrue (cJoin (cCon (.str " ")) (cKeep (aComp 2 [] (iSeq (cVar 0)) (gTupD 2 (gsCons (gVar 0) (gsCons (gVar 1) gsNil))) tTrue (c2 addD (c2 addD (c1 strD (cVar 0)) (cCon (.str "."))) (c1 strD (cVar 1))))))))))
  sNext)
@[irreducible] def js:List D->M D:=runDef 1 jM
def jH : CS :=
  (sSeq (sAsg (gVar 1) (cCon (.str " !\"#$&'()*+,-./0123456789:;<=>?@ABCDEFGHIJKLMNOPQRSTUVWXYZ[\\]^_`")))
  (sSeq (sAsg (gVar 1) (c2 addD (cVar 1) (cCon (.str "abcdefghijklmnopqrstuvwxyz{|}~\n"))))
  (sSeq (sIf (tCmpB (c2 gtD (cCall ja (cCons (cVar 0) (cCons (cCon (.int 3)) cNil))) (cCon (.int 0))))
   (sSeq (sRet (c2 subsD (cCon (.str "0123. /.  ")) (cCall ja (cCons (cVar 0) (cCons (cCon (.int 10)) cNil)))))
   sNext)
   sNext)
  (sSeq (sRet (c2 subsD (cVar 1) (cCall ja (cCons (cVar 0) (cCons (c1 lenD (cVar 1)) cNil)))))
  sNext))))
@[irreducible] def jo:List D->M D:=runDef 2 jH
def jL : CS :=
  (sSeq (sAsg (gVar 1) (cKeep (aDisp (cCons (cCon (.str "0")) (cCons (cCon (.str "0.")) (cCons (cCon (.str ".0")) (cCons (cCon (.str "0.0.0")) (cCons (cCon (.str "01.0")) (cCons (cCon (.str "0.01")) (cCons (cCon (.str "+1.0")) (cCons (cCon (.str "0.+1")) (cCons (cCon (.str "-0.0")) (cCons (cCon (.str "1_0.0")) (cCons (cCon (.str "0,0")) (cCons (cCon (.str "1.00")) (cCons (cCon (.str "0. 0")) (cCons (cCon (.str "a.0")) cNil)))))))))))))))))
  (sSeq (sAsg (gVar 1) (c2 addD (cVar 1) (cKeep (aDisp (cCons (cCon (.str "")) (cCons (cCon (.str "/")) (cCons (cCon (.str "1000.0")) (cCons (cCon (.str "0.1000")) (cCons (cCon (.str "9.0")) (cCons (cCon (.str "4.0")) (cCons (cCon (.str "0.0")) (cCons (cCon (.str "00.0")) (cCons (cCon (.str "0.-1")) (cCons (cCon (.str "1.1")) (cCons (cCon (.str "//")) (cCons (cCon (.str "0.0/0.0")) cNil))))))))))))))))
  (sSeq (sRet (c2 subsD (cVar 1) (cCall ja (cCons (cVar 0) (cCons (c1 lenD (cVar 1)) cNil)))))
  sNext)))
@[irreducible] def jl:List D->M D:=runDef 2 jL
def jP : CS :=
  (sSeq (sAsg (gVar 3) (cSplit (c2 subsD (cVar 1) (cVar 2)) (cCon (.str " "))))
  (sSeq (sAsg (gVar 4) (cCall ja (cCons (cVar 0) (cCons (c1 lenD (cVar 3)) cNil))))
  (sSeq (sAsg (gVar 5) (cCall ja (cCons (cVar 0) (cCons (cCon (.int 4)) cNil))))
  (sSeq (sIf (tCmpB (c2 eqD (cVar 5) (cCon (.int 0))))
   (sSeq (sAsg (gVar 3) (c2 addD (c2 addD (cKeep (aSlice (cVar 3) oNone (oSome (cVar 4)))) (cKeep (aDisp (cCons (cCall jl (cCons (cVar 0) cNil)) cNil)))) (cKeep (aSlice (cVar 3) (oSome (c2 addD (cVar 4) (cCon (.int 1)))) oNone))))
   sNext)
   (sSeq (sIf (tCmpB (c2 eqD (cVar 5) (cCon (.int 1))))
    (sSeq (sAsg (gVar 3) (c2 addD (cKeep (aSlice (cVar 3) oNone (oSome (cVar 4)))) (cKeep (aSlice (cVar 3) (oSome (c2 addD (cVar 4) (cCon (.int 1)))) oNone))))
    sNext)
    (sSeq (sIf (tCmpB (c2 eqD (cVar 5) (cCon (.int 2))))
     (sSeq (sAsg (gVar 3) (c2 addD (cKeep (aSlice (cVar 3) oNone (oSome (c2 addD (cVar 4) (cCon (.int 1)))))) (cKeep (aSlice (cVar 3) (oSome (cVar 4)) oNone))))
     sNext)
     (sSeq (sAsg (gVar 3) (c2 addD (c2 addD (cKeep (aSlice (cVar 3) oNone (oSome (cVar 4)))) (cKeep (aDisp (cCons (cCall jl (cCons (cVar 0) cNil)) cNil)))) (cKeep (aSlice (cVar 3) (oSome (cVar 4)) oNone))))
     sNext))
    sNext))
   sNext))
  (sSeq (sRet (c2 addD (c2 addD (cKeep (aSlice (cVar 1) oNone (oSome (cVar 2)))) (cKeep (aDisp (cCons (cJoin (cCon (.str " ")) (cVar 3)) cNil)))) (cKeep (aSlice (cVar 1) (oSome (c2 addD (cVar 2) (cCon (.int 1)))) oNone))))
  sNext)))))
@[irreducible] def jt:List D->M D:=runDef 6 jP
def jv : CS :=
  (sSeq (sAsg (gVar 2) (cCall ja (cCons (cVar 0) (cCons (cCon (.int 8)) cNil))))
  (sSeq (sAsg (gVar 3) (cCall ja (cCons (cVar 0) (cCons (c2 addD (c1 lenD (cVar 1)) (cCon (.int 1))) cNil))))
  (sSeq (sAsg (gVar 4) (cSplit (cVar 1) (cCon (.str " / "))))
  (sSeq (sAsg (gVar 5) (cCall ja (cCons (cVar 0) (cCons (c1 lenD (cVar 4)) cNil))))
  (sSeq (sIf (tCmpB (c2 eqD (cVar 2) (cCon (.int 0))))
   (sSeq (sRet (c2 addD (c2 addD (cSliceS (cVar 1) oNone (oSome (cVar 3))) (cCall jo (cCons (cVar 0) cNil))) (cSliceS (cVar 1) (oSome (cVar 3)) oNone)))
   sNext)
   sNext)
  (sSeq (sIf (tCmpB (c2 eqD (cVar 2) (cCon (.int 1))))
   (sSeq (sRet (c2 addD (cSliceS (cVar 1) oNone (oSome (cVar 3))) (cSliceS (cVar 1) (oSome (c2 addD (cVar 3) (cCon (.int 1)))) oNone)))
   sNext)
   sNext)
  (sSeq (sIf (tCmpB (c2 eqD (cVar 2) (cCon (.int 2))))
   (sSeq (sRet (c2 addD (c2 addD (cSliceS (cVar 1) oNone (oSome (cVar 3))) (cCall jo (cCons (cVar 0) cNil))) (cSliceS (cVar 1) (oSome (c2 addD (cVar 3) (cCon (.int 1)))) oNone)))
   sNext)
   sNext)
  (sSeq (sIf (tCmpB (c2 eqD (cVar 2) (cCon (.int 3))))
   (sSeq (sRet (cTmpSub (aDisp (cCons (cSliceS (cVar 1) oNone (oSome (cVar 3))) (cCons (cSliceS (cVar 1) (oSome (cVar 3)) oNone) (cCons (c2 addD (cCon (.str " ")) (cVar 1)) (cCons (c2 addD (cVar 1) (cCon (.str " "))) (cCons (c2 addD (cVar 1) (cCon (.str "\n"))) (cCons (c2 addD (cVar 1) (cCon (.str " /"))) (cCons (c2 addD (cCon (.str "/ ")) (cVar 1)) cNil)))))))) (cCall ja (cCons (cVar 0) (cCons (cCon (.int 7)) cNil)))))
   sNext)
   sNext)
  (sSeq (sIf (tCmpB (c2 eqD (cVar 2) (cCon (.int 4))))
   (sSeq (sRet (cJoin (cCon (.str " / ")) (c2 addD (cKeep (aSlice (cVar 4) oNone (oSome (cVar 5)))) (cKeep (aSlice (cVar 4) (oSome (c2 addD (cVar 5) (cCon (.int 1)))) oNone)))))
   sNext)
   sNext)
  (sSeq (sIf (tCmpB (c2 eqD (cVar 2) (cCon (.int 5))))
   (sSeq (sRet (cJoin (cCon (.str " / ")) (c2 addD (cKeep (aSlice (cVar 4) oNone (oSome (c2 addD (cVar 5) (cCon (.int 1)))))) (cKeep (aSlice (cVar 4) (oSome (cVar 5)) oNone)))))
   sNext)
   sNext)
  (sSeq (sRet (cJoin (cCon (.str " / ")) (cCall jt (cCons (cVar 0) (cCons (cVar 4) (cCons (cVar 5) cNil))))))
  sNext)))))))))))
@[irreducible] def jh:List D->M D:=runDef 6 jv
def jy : CS :=
  (sSeq (sIf (tOrB (tCmpB (c2 eqD (cVar 0) (cCon (.str "")))) (tOrB (tCmpB (c2 gtD (c1 lenD (cVar 0)) (cCon (.int 3)))) (tAndB (tCmpB (c2 gtD (c1 lenD (cVar 0)) (cCon (.int 1)))) (tCmpB (c2 eqD (c2 subsD (cVar 0) (cCon (.int 0))) (cCon (.str "0")))))))
   (sSeq (sRet (c1 negD (cCon (.int 1))))
   sNext)
   sNext)
  (sSeq (sAsg (gVar 1) (cCon (.int 0)))
  (sSeq (sFor (iStr (cVar 0)) (gVar 2)
   (sSeq (sIf (tCmpB (c2 ninTD (cVar 2) (cCon (.str "0123456789"))))
    (sSeq (sRet (c1 negD (cCon (.int 1))))
    sNext)
    sNext)
   (sSeq (sAsg (gVar 1) (c2 addD (c2 mulD (cVar 1) (cCon (.int 10))) (cIdxX (cCon (.str "0123456789")) (cVar 2))))
   sNext)))
  (sSeq (sRet (cVar 1))
  sNext))))
@[irreducible] def jg:List D->M D:=runDef 3 jy
def jO : CS :=
  (sSeq (sAsg (gVar 1) (cKeep (aDisp cNil)))
  (sSeq (sFor (iSeq (cSplit (cVar 0) (cCon (.str " / ")))) (gVar 2)
   (sSeq (sAsg (gVar 3) (cKeep (aDisp cNil)))
   (sSeq (sFor (iSeq (cSplit (cVar 2) (cCon (.str " ")))) (gVar 4)
    (sSeq (sAsg (gVar 5) (cKeep (aComp 1 [] (iSeq (cSplit (cVar 4) (cCon (.str ".")))) (gVar 0) tTrue (cCall jg (cCons (cVar 0) cNil)))))
    (sSeq (sIf (tOrB (tCmpB (c2 neD (c1 lenD (cVar 5)) (cCon (.int 2)))) (tCmpB (c2 ltD (c1 (refL minD) (cVar 5)) (cCon (.int 0)))))
     (sSeq (sRet (cCon .non))
     sNext)
     sNext)
    (sSeq (sExp (cAppend (cVar 3) (cTup (cCons (c2 subsD (cVar 5) (cCon (.int 0))) (cCons (c2 subsD (cVar 5) (cCon (.int 1))) cNil)))))
    sNext))))
   (sSeq (sExp (cAppend (cVar 1) (c1 tupleD (cVar 3))))
   sNext))))
  (sSeq (sFor (iSeq (cVar 1)) (gVar 2)
   (sSeq (sIf (tOrB (tCmpB (c2 neD (c1 lenD (cVar 2)) (c1 lenD (c2 subsD (cVar 1) (cCon (.int 0)))))) (tCmpB (c2 geD (cTmp maxD (aComp 2 [] (iSeq (cVar 2)) (gTupD 2 (gsCons (gVar 0) (gsCons (gVar 1) gsNil))) tTrue (cVar 0))) (c1 lenD (cVar 1)))))
    (sSeq (sRet (cCon .non))
    sNext)
    sNext)
   sNext))
  (sSeq (sRet (c1 tupleD (cVar 1)))
  sNext))))
@[irreducible] def ju:List D->M D:=runDef 6 jO
def jA : CS :=
  (sSeq (sIf (tOrB (tCmpB (c2 gtD (c1 lenD (cVar 0)) (cCon (.int 4)))) (tCmpB (c2 gtD (c1 lenD (c2 subsD (cVar 0) (cCon (.int 0)))) (cCon (.int 4)))))
   (sSeq (sRet (cCon (.bl true)))
   sNext)
   sNext)
  (sSeq (sRet (c2 gtD (cTmp maxD (aComp 1 [] (iSeq (cVar 0)) (gVar 0) tTrue (cTmp maxD (aComp 2 [] (iSeq (cVar 0)) (gTupD 2 (gsCons (gVar 0) (gsCons (gVar 1) gsNil))) tTrue (cVar 1))))) (cCon (.int 3))))
  sNext))
@[irreducible] def jk:List D->M D:=runDef 1 jA
def jK : CS :=
  (sSeq (sIf (tOrB (tCmpB (c2 eqD (c1 lenD (cVar 0)) (cCon (.int 0)))) (tCmpB (c2 eqD (c1 lenD (c2 subsD (cVar 0) (cCon (.int 0)))) (cCon (.int 0)))))
   (sSeq (sRet (cCon (.bl false)))
   sNext)
   sNext)
  (sSeq (sRet (cTmp allD (aComp 1 [0] (iSeq (cVar 0)) (gVar 0) tTrue (cCall jm (cCons (cVar 1) (cCons (cVar 0) cNil))))))
  sNext))
@[irreducible] def jp:List D->M D:=runDef 1 jK
def jF : CS :=
  (sSeq (noX (sAsg (gVar 1) (cTmp tupL (aComp 1 [] (iSeq (cSplit (cVar 0) (cCon (.str ".")))) (gVar 0) tTrue (cCall jb (cCons (cVar 0) cNil))))))
  (sSeq (sIf (noT (tOrB (tCmpB (c2 neD (c1 lenD (cVar 1)) (cCon (.int 2)))) (tCmpB (c2 inD (cCon .non) (cVar 1)))))
   (sSeq (xRaise "NoTable" "at" (cCon (.int 0)))
   sNext)
   sNext)
  (sSeq (noX (sRet (cVar 1)))
  sNext)))
@[irreducible] def ji:List D->M D:=runDef 2 jF
def jx : CS :=
  (sSeq (sRet (cTmp (noL tupL) (aComp 1 [] (noI (iSeq (cSplit (cVar 0) (cCon (.str " "))))) (noG (gVar 0)) (noT tTrue) (cCall ji (noA (cCons (cVar 0) cNil))))))
  sNext)
@[irreducible] def jf:List D->M D:=runDef 1 jx
def jz : CS :=
  (sSeq (sAsg (gVar 1) (cTmp (noL tupL) (aComp 1 [] (noI (iSeq (cSplit (cVar 0) (cCon (.str " / "))))) (noG (gVar 0)) (noT tTrue) (cCall jf (noA (cCons (cVar 0) cNil))))))
  (sSeq (sIf (noT (tNotB (tVal (cCall jp (cCons (cVar 1) cNil)))))
   (sSeq (xRaise "NoTable" "at" (cCon (.int 0)))
   sNext)
   sNext)
  (sSeq (noX (sRet (cVar 1)))
  sNext)))
@[irreducible] def je:List D->M D:=runDef 2 jz
def jI : CS :=
  (sSeq (sAsg (gVar 1) (cCon .non))
  (sSeq (sAsg (gVar 2) (cCon .non))
  (sSeq (sTry (sAsg (gVar 2) (cCall je (noA (cCons (cVar 0) cNil)))) "NoTable" 3
   (sSeq (sAsg (gVar 1) (cKeep (aDisp (cCons (c1 (attrX "NoTable" "at") (cVar 3)) (cCons (cAnd (c1 (isiX ["NoTable"] fun x=>x == "PactError" || ("PactError":Str) == "PactError") (cVar 3)) (c1 (isiX ["NoTable"] fun _=>true) (cVar 3))) (cCons (c1 (isiX ["NoTable"] fun x=>["NoHouse","NoText"].any fun t=>x == t || ("PactError":Str) == t) (cVar 3)) cNil))))))
    (sSeq (sAsg (gVar 1) (c2 addD (cVar 1) (cKeep (aDisp (cCons (c1 (isiX ["NoTable"] fun x=>["TooMany","NotMeek","NoMark"].any fun t=>x == t || ("PactError":Str) == t) (cVar 3)) (cCons (c1 (isiX ["NoTable"] fun x=>["NotGood","NoRow"].any fun t=>x == t || ("PactError":Str) == t) (cVar 3)) cNil))))))
    sNext)))
  (sSeq (sRet (cTup (cCons (cVar 1) (cCons (cVar 2) cNil))))
  sNext))))
@[irreducible] def jc:List D->M D:=runDef 4 jI
def jC : CS :=
  (sSeq (sAsg (gVar 1) (cCall ju (cCons (cVar 0) cNil)))
  (sSeq (sIf (tAndB (tCmpB (c2 isntD (cVar 1) (cCon .non))) (tVal (cCall jk (cCons (cVar 1) cNil))))
   (sSeq (sRet (cCon (.bl true)))
   sNext)
   sNext)
  (sSeq (sAsg (gTupD 2 (gsCons (gVar 2) (gsCons (gVar 3) gsNil))) (cCall jc (cCons (cVar 0) cNil)))
  (sSeq (sIf (tCmpB (c2 isntD (cVar 1) (cCon .non)))
   (sSeq (sRet (cAnd (c2 isD (cVar 2) (cCon .non)) (cAnd (c1 (isInst ["tuple"]) (cVar 3)) (c2 eqD (cVar 3) (cVar 1)))))
   sNext)
   sNext)
  (sSeq (sIf (tOrB (tCmpB (c2 isD (cVar 2) (cCon .non))) (tNotB (tVal (cCall jj (cCons (c2 subsD (cVar 2) (cCon (.int 0))) cNil)))))
   (sSeq (sRet (cCon (.bl false)))
   sNext)
   sNext)
  (sSeq (sRet (c2 eqD (cVar 2) (cKeep (aDisp (cCons (cCon (.int 0)) (cCons (cCon (.bl true)) (cCons (cCon (.bl false)) (cCons (cCon (.bl false)) (cCons (cCon (.bl false)) cNil)))))))))
  sNext))))))
@[irreducible] def jd:List D->M D:=runDef 4 jC
def jR : CS :=
  (sSeq (sAsg (gVar 1) (cCall jr (cCons (cVar 0) (cCons (cCon (.int 0)) cNil))))
  (sSeq (sAsg (gVar 2) (cCall jq (cCons (cCall jr (cCons (cVar 0) (cCons (cCon (.int 1)) cNil))) cNil)))
  (sSeq (sAsg (gVar 3) (cCall js (cCons (cVar 2) cNil)))
  (sSeq (sIf (tOrB (tCmpB (c2 neD (cCall jc (cCons (cVar 3) cNil)) (cTup (cCons (cCon .non) (cCons (cVar 2) cNil))))) (tNotB (tVal (cCall jd (cCons (cCon (.str "")) cNil)))))
   (sSeq (sRet (cCon (.bl false)))
   sNext)
   sNext)
  (sSeq (sFor (MM.iRng1 (c2 addD (cCon (.int 2)) (cTmp lenL (aSlice (cVar 0) (oSome (cCon (.int 2))) (oSome (cCon (.int 8))))))) (gVar 4)
   (sSeq (sAsg (gVar 5) (cVar 3))
   (sSeq (sFor (MM.iRng1 (c2 addD (cCon (.int 1)) (cCall ja (cCons (cVar 1) (cCons (cCon (.int 2)) cNil))))) (gVar 6)
    (sSeq (sAsg (gVar 5) (cCall jh (cCons (cVar 1) (cCons (cVar 5) cNil))))
    sNext))
   (sSeq (sIf (tOrB (tNotB (tVal (cCall jd (cCons (cVar 5) cNil)))) (tNotB (tVal (cCall jd (cCons (cVar 5) cNil)))))
    (sSeq (sRet (cCon (.bl false)))
    sNext)
    sNext)
   sNext))))
  (sSeq (sRet (c2 eqD (cCall jc (cCons (cVar 3) cNil)) (cTup (cCons (cCon .non) (cCons (cVar 2) cNil)))))
  sNext))))))
@[irreducible] def jB:List D->M D:=runDef 7 jR
open PySem.Spec PyProof.Rows L2
def top (i:Nat):Stmt:=PySem.Challenge.pw_pactboards_k15_no_table.main.body.getD i (.Pass ⟨0,0,0,0⟩)
def inOf:Stmt->Stmt
 | .ClassDef _ _ _ (s::_) _ _ _ _ _ _ _=>s
 | s=>s
abbrev yy:List Str:=["NotGood","NoRow","TooMany","NotMeek","NoMark","NoHouse","NoText","PactError"]
set_option genInjectivity false in
structure Txt (K:PySem.W.Frag) (mg:Str->Option Value):Prop where
 f0:FnAt K mg "is_state" (top 12)
 f1:FnAt K mg "read_number" (top 19)
 f2:FnAt K mg "_law_box" (top 21)
 f3:FnAt K mg "_law_take" (top 22)
 f4:FnAt K mg "_law_deed" (top 23)
 f5:FnAt K mg "_law_table" (top 24)
 f6:FnAt K mg "_law_whole" (top 25)
 f7:FnAt K mg "_law_text" (top 26)
 f8:FnAt K mg "_law_sign" (top 27)
 f9:FnAt K mg "_law_word" (top 28)
 f10:FnAt K mg "_law_row" (top 29)
 f11:FnAt K mg "_law_changed" (top 30)
 f12:FnAt K mg "_law_number" (top 31)
 f13:FnAt K mg "_law_due" (top 32)
 f14:FnAt K mg "_law_beyond" (top 33)
 f15:FnAt K mg "is_table" (top 11)
 f16:FnAt K mg "read_pair" (top 18)
 f17:FnAt K mg "read_state" (top 17)
 f18:FnAt K mg "read_table" (top 16)
 f19:FnAt K mg "_law_told" (top 34)
 f20:FnAt K mg "_law_right" (top 35)
 f21:FnAt K mg "law" (top 36)
 z:ZOk mg ["ValueError","all","bool","int","isinstance","len","max","min","range","str","tuple"]
 c:COk K mg [("FIGURES",.str "0123456789"),("MOST_FIGURES",.int 3)]
 x:XT K mg "NoTable" "at" "NoTable.__init__" (inOf (top 2))
 o:XOs K mg yy
section
variable {P:Program}{w:World}{K:PySem.W.Frag}{mg:Str->Option Value}{base:Heap}
def cm0:RuC:=rCmpH 4 .In inTD (fun _=>QfR)
def cm1:RuC:=rCmpH 4 .NotIn ninTD (fun _=>QjV)
def cm2:RuC:=rCmp .Lt ltD (fun _=>QdX)
def cm3:RuC:=rCmp .LtE leD (fun _=>QdY)
def cm4:RuC:=rCmp .Gt gtD (fun _=>QdZ)
def cm5:RuC:=rCmp .GtE geD (fun _=>Qd0)
def cm6:RuC:=rCmp .Eq eqD (fun h=>Qfv h)
def cm7:RuC:=rCmp .NotEq neD (fun h=>Qfw h)
def cm8:RuC:=rCmp .Is isD (fun _=>QfC)
def cm9:RuC:=rCmp .IsNot isntD (fun _=>QfD)
def cm10:RuC:=rCmp .In inD (fun h=>QfJ h)
def cm11:RuC:=rChain .LtE leD (fun _=>QdY) .LtE leD (fun _=>QdY)
def cm12:RuC:=rChain .LtE leD (fun _=>QdY) .Lt ltD (fun _=>QdX)
def RR:Rules:=⟨[rVar,rInt,rStr,rBl,rNon,rCall,rTmpSub,MM.rSub,rTup,rGlob,bLenT,bMaxT,bAllT,bTupT,bStr,bIntT,bMinV,bLen,bInt,bTuple,bIsiInt,bIsiBool,bIsiTuple,mAppend,mSplit,mJoin,rSliceS,mIdxX,rKeep,rOp .Add addD (fun _=>Qfy),rOp .Mult mulD (fun _=>QdT),rOp .FloorDiv fdivD (fun _=>QdU),rOp .Mod modD (fun _=>QdV),rOp .Pow powD (fun _=>QdW),cm0.e,cm1.e,cm2.e,cm3.e,cm4.e,cm5.e,cm6.e,cm7.e,cm8.e,cm9.e,cm10.e,cm11.e,cm12.e,rAnd,rNot,rNeg],[lLst,lComp,lSlice],[cm0.t,cm1.t,cm2.t,cm3.t,cm4.t,cm5.t,cm6.t,cm7.t,cm8.t,cm9.t,cm10.t,cm11.t,cm12.t,tAnd,tOr,tNot,tVl],[iRange1,iStrr,iSeqr],[gVr,gTupr,gSubr],[sNmr,sRetr,sIfr,sExpr,sForr,sCompr,sSubr,sTupr]⟩
abbrev hh:List (Nat × Nat × Nat):=[(57,16,4),(57,44,4),(61,11,4),(140,15,17),(140,69,17),(142,15,17),(142,42,17),(144,15,17),(144,69,17),(146,16,17),(146,42,17),(156,26,4),(157,11,4),(159,51,18)]
def ge0:List (Str × RF):=[]
theorem gk0 (T:Txt K mg):EnvOk P w K mg base ge0:=Qhs
def xe0:List (Str × RF):=[]
theorem xk0 (T:Txt K mg):EnvX P w K mg base xe0:=fun _ _ h=>nomatch h
theorem xr (T:Txt K mg):XR P w K mg base "NoTable" "at":=Qjo (n1:="self") (n2:="at") T.x rfl (by nofun) rfl (by nofun) (by nofun) (by nofun) (by nofun) (fun _ _ _ _ _ _=>le2 fun _ _=>rfl)
def ge1:List (Str × RF):=("is_state",⟨2,1,["table","row"],false,jm⟩)::ge0
theorem gk1 (T:Txt K mg):EnvOk P w K mg base ge1:=by
 unfold ge1 jm
 exact Qhz RR (r:=[]) (H:=hh) T.f0 (by nofun) (fun _ _ _ _ _ _=>le2 fun _ _=>rfl) (fun z=>nomatch z) (by kernel_rfl) (gk0 T) T.z T.c
def ge2:List (Str × RF):=("read_number",⟨1,1,["word"],false,jb⟩)::ge1
theorem gk2 (T:Txt K mg):EnvOk P w K mg base ge2:=by
 unfold ge2 jb
 exact Qhz RR (r:=[]) (H:=hh) T.f1 (by nofun) (fun _ _ _ _ _ _=>le1 fun _=>rfl) (fun z=>nomatch z) (by kernel_rfl) (gk1 T) T.z T.c
def ge3:List (Str × RF):=("_law_box",⟨2,1,["_law_script","_law_k"],false,jr⟩)::ge2
theorem gk3 (T:Txt K mg):EnvOk P w K mg base ge3:=by
 unfold ge3 jr
 exact Qhz RR (r:=["_law_cell","_law_seed"]) (H:=hh) T.f2 (by nofun) (fun _ _ _ _ _ _=>le2 fun _ _=>rfl) (fun z=>nomatch z) (by kernel_rfl) (gk2 T) T.z T.c
def ge4:List (Str × RF):=("_law_take",⟨2,1,["_law_box_here","_law_many"],false,ja⟩)::ge3
theorem gk4 (T:Txt K mg):EnvOk P w K mg base ge4:=by
 unfold ge4 ja
 exact Qhz RR (r:=["_law_digit"]) (H:=hh) T.f3 (by nofun) (fun _ _ _ _ _ _=>le2 fun _ _=>rfl) (fun z=>nomatch z) (by kernel_rfl) (gk3 T) T.z T.c
def ge5:List (Str × RF):=("_law_deed",⟨4,2,["_law_box_here","_law_kind","_law_states","_law_top"],false,jn⟩)::ge4
theorem gk5 (T:Txt K mg):EnvOk P w K mg base ge5:=by
 unfold ge5 jn
 exact Qhz RR (r:=["_law_goal","_law_told_here"]) (H:=hh) T.f4 (by nofun) (fun _ _ _ _ _ _=>le4 fun _ _ _ _=>rfl) (fun z=>nomatch z) (by kernel_rfl) (gk4 T) T.z T.c
def ge6:List (Str × RF):=("_law_table",⟨1,3,["_law_box_here"],false,jq⟩)::ge5
theorem gk6 (T:Txt K mg):EnvOk P w K mg base ge6:=by
 unfold ge6 jq
 exact Qhz RR (r:=["_law_states","_law_top","_law_way","_law_deeds","_law_k","_law_kind","_law_table_here","_law_s","_law_d","_law_goal","_law_told_here"]) (H:=hh) T.f5 (by nofun) (fun _ _ _ _ _ _=>le1 fun _=>rfl) (fun z=>nomatch z) (by kernel_rfl) (gk5 T) T.z T.c
def ge7:List (Str × RF):=("_law_whole",⟨1,1,["_law_found"],false,jj⟩)::ge6
theorem gk7 (T:Txt K mg):EnvOk P w K mg base ge7:=by
 unfold ge7 jj
 exact Qhz RR (r:=[]) (H:=hh) T.f6 (by nofun) (fun _ _ _ _ _ _=>le1 fun _=>rfl) (fun z=>nomatch z) (by kernel_rfl) (gk6 T) T.z T.c
def ge8:List (Str × RF):=("_law_text",⟨1,1,["_law_table_here"],false,js⟩)::ge7
theorem gk8 (T:Txt K mg):EnvOk P w K mg base ge8:=by
 unfold ge8 js
 exact Qhz RR (r:=[]) (H:=hh) T.f7 (by nofun) (fun _ _ _ _ _ _=>le1 fun _=>rfl) (fun z=>nomatch z) (by kernel_rfl) (gk7 T) T.z T.c
def ge9:List (Str × RF):=("_law_sign",⟨1,2,["_law_box_here"],false,jo⟩)::ge8
theorem gk9 (T:Txt K mg):EnvOk P w K mg base ge9:=by
 unfold ge9 jo
 exact Qhz RR (r:=["_law_some"]) (H:=hh) T.f8 (by nofun) (fun _ _ _ _ _ _=>le1 fun _=>rfl) (fun z=>nomatch z) (by kernel_rfl) (gk8 T) T.z T.c
def ge10:List (Str × RF):=("_law_word",⟨1,2,["_law_box_here"],false,jl⟩)::ge9
theorem gk10 (T:Txt K mg):EnvOk P w K mg base ge10:=by
 unfold ge10 jl
 exact Qhz RR (r:=["_law_some"]) (H:=hh) T.f9 (by nofun) (fun _ _ _ _ _ _=>le1 fun _=>rfl) (fun z=>nomatch z) (by kernel_rfl) (gk9 T) T.z T.c
def ge11:List (Str × RF):=("_law_row",⟨3,3,["_law_box_here","_law_rows","_law_at"],false,jt⟩)::ge10
theorem gk11 (T:Txt K mg):EnvOk P w K mg base ge11:=by
 unfold ge11 jt
 exact Qhz RR (r:=["_law_words","_law_place","_law_way"]) (H:=hh) T.f10 (by nofun) (fun _ _ _ _ _ _=>le3 fun _ _ _=>rfl) (fun z=>nomatch z) (by kernel_rfl) (gk10 T) T.z T.c
def ge12:List (Str × RF):=("_law_changed",⟨2,4,["_law_box_here","_law_text_here"],false,jh⟩)::ge11
theorem gk12 (T:Txt K mg):EnvOk P w K mg base ge12:=by
 unfold ge12 jh
 exact Qhz RR (r:=["_law_way","_law_at","_law_rows","_law_place"]) (H:=hh) T.f11 (by nofun) (fun _ _ _ _ _ _=>le2 fun _ _=>rfl) (fun z=>nomatch z) (by kernel_rfl) (gk11 T) T.z T.c
def ge13:List (Str × RF):=("_law_number",⟨1,1,["_law_word_here"],false,jg⟩)::ge12
theorem gk13 (T:Txt K mg):EnvOk P w K mg base ge13:=by
 unfold ge13 jg
 exact Qhz RR (r:=["_law_number_here","_law_sign_here"]) (H:=hh) T.f12 (by nofun) (fun _ _ _ _ _ _=>le1 fun _=>rfl) (fun z=>nomatch z) (by kernel_rfl) (gk12 T) T.z T.c
def ge14:List (Str × RF):=("_law_due",⟨1,2,["_law_text_here"],false,ju⟩)::ge13
theorem gk14 (T:Txt K mg):EnvOk P w K mg base ge14:=by
 unfold ge14 ju
 exact Qhz RR (r:=["_law_table_here","_law_row_here","_law_pairs","_law_word_here","_law_numbers"]) (H:=hh) T.f13 (by nofun) (fun _ _ _ _ _ _=>le1 fun _=>rfl) (fun z=>nomatch z) (by kernel_rfl) (gk13 T) T.z T.c
def ge15:List (Str × RF):=("_law_beyond",⟨1,1,["_law_table_here"],false,jk⟩)::ge14
theorem gk15 (T:Txt K mg):EnvOk P w K mg base ge15:=by
 unfold ge15 jk
 exact Qhz RR (r:=[]) (H:=hh) T.f14 (by nofun) (fun _ _ _ _ _ _=>le1 fun _=>rfl) (fun z=>nomatch z) (by kernel_rfl) (gk14 T) T.z T.c
def ge16:List (Str × RF):=("is_table",⟨1,2,["table"],false,jp⟩)::ge15
theorem gk16 (T:Txt K mg):EnvOk P w K mg base ge16:=by
 unfold ge16 jp
 exact Qhz RR (r:=[]) (H:=hh) T.f15 (by nofun) (fun _ _ _ _ _ _=>le1 fun _=>rfl) (fun z=>nomatch z) (by kernel_rfl) (gk15 T) T.z T.c
def ge17:List (Str × RF):=("read_pair",⟨1,3,["word"],false,ji⟩)::ge16
def xe1:List (Str × RF):=("read_pair",⟨1,3,["word"],false,ji⟩)::xe0
theorem gx17 (T:Txt K mg):EnvX P w K mg base xe1/\EnvOk P w K mg base ge17:=by
 unfold xe1 ge17 ji
 exact Qjq RR (r:=["pair"]) (y:="NoTable") (fl:="at") (H:=hh) T.f16 (by nofun) (fun _ _ _ _ _ _=>le1 fun _=>rfl) (by kernel_rfl) (gk16 T) (xk0 T) (xr T) T.z T.c
theorem gk17 (T:Txt K mg):EnvOk P w K mg base ge17:=(gx17 T).2
theorem xk1 (T:Txt K mg):EnvX P w K mg base xe1:=(gx17 T).1
def ge18:List (Str × RF):=("read_state",⟨1,4,["text"],false,jf⟩)::ge17
def xe2:List (Str × RF):=("read_state",⟨1,4,["text"],false,jf⟩)::xe1
theorem gx18 (T:Txt K mg):EnvX P w K mg base xe2/\EnvOk P w K mg base ge18:=by
 unfold xe2 ge18 jf
 exact QjP RR (r:=[]) (y:="NoTable") (fl:="at") (H:=hh) T.f17 (by nofun) (fun _ _ _ _ _ _=>le1 fun _=>rfl) (by kernel_rfl) (gk17 T) (xk1 T) (xr T) T.z T.c
theorem gk18 (T:Txt K mg):EnvOk P w K mg base ge18:=(gx18 T).2
theorem xk2 (T:Txt K mg):EnvX P w K mg base xe2:=(gx18 T).1
def ge19:List (Str × RF):=("read_table",⟨1,5,["text"],false,je⟩)::ge18
def xe3:List (Str × RF):=("read_table",⟨1,5,["text"],false,je⟩)::xe2
theorem gx19 (T:Txt K mg):EnvX P w K mg base xe3/\EnvOk P w K mg base ge19:=by
 unfold xe3 ge19 je
 exact QjP RR (r:=["table"]) (y:="NoTable") (fl:="at") (H:=hh) T.f18 (by nofun) (fun _ _ _ _ _ _=>le1 fun _=>rfl) (by kernel_rfl) (gk18 T) (xk2 T) (xr T) T.z T.c
theorem gk19 (T:Txt K mg):EnvOk P w K mg base ge19:=(gx19 T).2
theorem xk3 (T:Txt K mg):EnvX P w K mg base xe3:=(gx19 T).1
def ge20:List (Str × RF):=("_law_told",⟨1,6,["_law_text_here"],false,jc⟩)::ge19
theorem gk20 (T:Txt K mg):EnvOk P w K mg base ge20:=by
 unfold ge20 jc
 exact Qjr RR (r:=["_law_caught","_law_found","e"]) (ys:=yy) (y:="NoTable") (fl:="at") (H:=hh) T.f19 (by nofun) (fun _ _ _ _ _ _=>le1 fun _=>rfl) (by kernel_rfl) (gk19 T) (xk3 T) (xr T) T.o T.z T.c
def ge21:List (Str × RF):=("_law_right",⟨1,7,["_law_text_here"],false,jd⟩)::ge20
theorem gk21 (T:Txt K mg):EnvOk P w K mg base ge21:=by
 unfold ge21 jd
 exact Qhz RR (r:=["_law_due_here","_law_caught","_law_found"]) (H:=hh) T.f20 (by nofun) (fun _ _ _ _ _ _=>le1 fun _=>rfl) (fun z=>nomatch z) (by kernel_rfl) (gk20 T) T.z T.c
theorem jS {a:Addr}{fd:FuncData} (F:Fun K "law" "law" (top 36) a fd) (T:Txt K mg):FnOk P w K mg base CX0 8 a fd ["_law_script"] (spOf K 1 jB):=by
 unfold jB
 exact Qhy RR (r:=["_law_box_here","_law_table_here","_law_text_here","_law_k","_law_changed_here","_law_turn"]) (H:=hh) F (by nofun) (by kernel_rfl) (gk21 T) T.z T.c rfl rfl
end
end My
namespace My
open MM
open PySem (Str)
def BoxAt (s:Sto) (b:Nat):Prop:=∃ x y:Int,s[b]?=some (.lst [.int x,.int y])/\0<=y/\y < 2147483648
structure Kept (b:Nat) (s s':Sto):Prop where
 le:s.length<=s'.length
 at_:∀ n,n < s.length->n≠b->s'[n]?=s[n]?
theorem Kept.refl (b:Nat) (s:Sto):Kept b s s:=⟨Nat.le_refl _,fun _ _ _=>rfl⟩
theorem Kept.trans {b:Nat}{s s1 s2:Sto} (h:Kept b s s1) (k:Kept b s1 s2):Kept b s s2:=
 ⟨Nat.le_trans h.le k.le,fun n hn hb=>(k.at_ n (Nat.lt_of_lt_of_le hn h.le) hb).trans (h.at_ n hn hb)⟩
theorem Qj1 {s : Sto} {b : Nat} {k : Int} {Q : D -> Sto -> Prop} (hb : BoxAt s b) (hk : 0 < k) (hk2 : k < 1073741824)
  (h:∀ r s',0<=r->r < k->BoxAt s' b->s'.length=s.length->(∀ n,n≠b->s'[n]?=s[n]?)->Q (.int r) s'):wp (ja [.ref b,.int k]) Q s:=by
 obtain⟨x,y,e,h0,h1⟩:=hb
 have hl:b < s.length:=(List.getElem?_eq_some_iff.mp e).1
 have es:∀ ds:List D,(s.set b (.lst ds))[b]?=some (.lst ds):=fun ds=>List.getElem?_set_self hl
 have eo:∀ (ds:List D) (n:Nat),n≠b->(s.set b (.lst ds))[n]?=s[n]?:=fun ds n hn=>List.getElem?_set_ne (Ne.symm hn)
 have fin:∀ (x' y':Int) (r:Int),0<=y'->y' < 2147483648->0<=r->r < k->Q (.int r) (s.set b (.lst [.int x',.int y'])):=fun x' y' r a1 a2 a3 a4=>
  h r _ a3 a4 ⟨x',y',es _,a1,a2⟩ (by simp) (eo _)
 have q1:∀ Q,wp (getL b) Q s=Q [.int x,.int y] s:=fun Q=>QhD e
 have q2:∀ es' Q,wp (putL b es') Q s=Q () (s.set b (.lst es')):=fun es' Q=>QhE e
 have q3:∀ ds Q,wp (getL b) Q (s.set b (MO.lst ds))=Q ds (s.set b (MO.lst ds)):=fun ds Q=>QhD (es ds)
 have q4:∀ ds es' Q,wp (putL b es') Q (s.set b (MO.lst ds))=Q () ((s.set b (MO.lst ds)).set b (.lst es')):=fun ds es' Q=>QhE (es ds)
 (simp_arith [ja];simp_arith [jN,↓q1,↓q2,↓q3,↓q4,ix20,ix21,List.set_cons_zero,List.set_cons_succ])
 by_cases hx:0 < x
 ·rw[if_pos hx]
  refine⟨hk,⟨hk,hk2⟩,?_⟩
  exact fin _ _ _ h0 h1 (Int.emod_nonneg _ (by ac_nf)) (Int.emod_lt_of_pos _ hk)
 ·rw[if_neg hx]
  have y1:=Int.emod_nonneg (y * 48271 + 12345) (show (2147483647:Int)≠0 by decide)
  have y2:=Int.emod_lt_of_pos (y * 48271 + 12345) (show (0:Int) < 2147483647 by decide)
  generalize (y * 48271 + 12345) % 2147483647=z at *
  refine⟨.inl ⟨by ac_nf,by ac_nf⟩,.inl ⟨by ac_nf,by ac_nf⟩,hk,fin _ _ _ y1 (by ac_nf) (Int.emod_nonneg _ (by ac_nf)) (Int.emod_lt_of_pos _ hk)⟩
theorem Kept.of {b:Nat}{s s':Sto} (h1:s'.length=s.length) (h2:∀ n,n≠b->s'[n]?=s[n]?):Kept b s s':=⟨by ac_nf,fun n _ hn=>h2 n hn⟩
theorem Kept.snoc {b:Nat}{s:Sto} (o:MO):Kept b s (s++[o]):=⟨by simp,fun n hn _=>List.getElem?_append_left hn⟩
theorem Kept.box {b:Nat}{s s':Sto} (hb:BoxAt s b) (o:MO):BoxAt (s++[o]) b:=by
 obtain⟨x,y,e,h0,h1⟩:=hb
 exact⟨x,y,by rw[List.getElem?_append_left (List.getElem?_eq_some_iff.mp e).1];exact e,h0,h1⟩
theorem Qj2 {s : Sto} {b : Nat} {k : Int} {Q : D -> Sto -> Prop} (hb : BoxAt s b) (hk : 0 < k) (hk2 : k < 1073741824)
  (h:∀ r s',0<=r->r < k->BoxAt s' b->Kept b s s'->Q (.int r) s'):wp (ja [.ref b,.int k]) Q s:=
 Qj1 hb hk hk2 fun r s' h1 h2 h3 h4 h5=>h r s' h1 h2 h3 (Kept.of h4 h5)
def PairD (S:Int) (d:D):Prop:=∃ g t:Int,d=.tup [.int g,.int t]/\0<=g/\g < S/\0<=t/\t < 4
structure ListAt (s:Sto) (n:Nat) (k:Nat) (P:D->Prop) (ds:List D):Prop where
 at_:s[n]?=some (.lst ds)
 len:ds.length=k
 all:∀ d∈ds,P d
theorem ListAt.kept {b:Nat}{s s':Sto}{n k:Nat}{P:D->Prop}{ds:List D} (h:ListAt s n k P ds) (q:Kept b s s') (hn:n≠b):ListAt s' n k P ds:=
 ⟨(q.at_ n (List.getElem?_eq_some_iff.mp h.at_).1 hn).trans h.at_,h.len,h.all⟩
theorem Qj3 {s : Sto} {b : Nat} {top : Int} {n : Nat} {caps : Loc} {e : CE} {Q : List D -> Sto -> Prop} (hb : BoxAt s b) (h1 : 0 < top) (h2 : top < 1073741824)
  (he:∀ d,e (some d::caps)=ja [.ref b,.int top]) (h:∀ ds s',ds.length=n->(∀ d∈ds,∃ t:Int,d=.int t/\0<=t/\t < top)->BoxAt s' b->Kept b s s'->Q ds s'):
  wp (collect (gVar 0) tTrue e anySt (rngD 0 n) (none::caps)) Q s:=by
 refine QhK (fun i out s'=>out.length=i/\(∀ d∈out,∃ t:Int,d=.int t/\0<=t/\t < top)/\BoxAt s' b/\Kept b s s') (fun _ _ s _=>trivial) ⟨rfl,by simp,hb,Kept.refl _ _⟩ (fun i d out s1 _ ⟨a1,a2,a3,a4⟩=>?_) (fun out s1 pq118=>by obtain⟨a1,a2,a3,a4⟩:=pq118;exact h out s1 (by rw[a1,QhN]) a2 a3 a4)
 rw[he]
 refine Qj2 a3 h1 h2 fun r s2 r0 r1 b2 k2=>⟨by simp[a1],fun d hd=>?_,b2,a4.trans k2⟩
 rcases List.mem_append.mp hd with hd | hd
 ·exact a2 d hd
 ·rw[List.mem_singleton]at hd;exact⟨r,hd,r0,r1⟩
theorem Qj4 {s : Sto} {b : Nat} {kind S top : Int} {Q : D -> Sto -> Prop} (hb : BoxAt s b) (hS : 1 <= S) (hS2 : S <= 4) (ht : 1 <= top) (ht2 : top <= 4)
  (h:∀ n ds s',s.length<=n->ListAt s' n S.toNat (PairD S) ds->BoxAt s' b->Kept b s s'->Q (.ref n) s'):wp (jn [.ref b,.int kind,.int S,.int top]) Q s:=by
 (simp_arith [jn];simp_arith [jJ])
 refine Qj2 hb (by ac_nf) (by ac_nf) fun goal s1 g0 g1 b1 k1=>?_
 simp_arith []
 have e1:b < s.length:=by obtain⟨x,y,e,_⟩:=hb;exact (List.getElem?_eq_some_iff.mp e).1
 have hSb:(-(2:Int) ^ 62<=S/\S < 2 ^ 62):=⟨by ac_nf,by ac_nf⟩
 have hSl:(rngD 0 S.toNat).length<=lim:=QhO (by rw[QhN];ac_nf)
 refine⟨hSb,hSl,?_⟩
 refine Qj3 b1 (by ac_nf) (by ac_nf) (fun d=>rfl) fun told s2 t1 t2 b2 k2=>?_
 simp_arith []
 have k3:Kept b s (s2++[.lst told]):=(k1.trans k2).trans (Kept.snoc _)
 have b3:BoxAt (s2++[.lst told]) b:=Kept.box (s':=s) b2 _
 have q3:(s2++[MO.lst told])[s2.length]?=some (.lst told):=by simp
 have hle:s.length<=s2.length:=Nat.le_trans k1.le k2.le
 have nb:s2.length≠b:=by ac_nf
 generalize hs3:s2++[MO.lst told]=s3 at *
 have l3:s3.length=s2.length + 1:=by rw[<- hs3];simp
 have got:∀ i:Nat,i < S.toNat->∃ t:Int,told[i]?=some (.int t)/\0<=t/\t < 4:=fun i hi=>by
  have hl:i < told.length:=by ac_nf
  obtain⟨t,e,t0,t9⟩:=t2 told[i] (List.getElem_mem hl)
  exact⟨t,by rw[List.getElem?_eq_getElem hl,e],t0,by ac_nf⟩
 have fin : ∀ {e : CE} {caps : Loc}, (∀ (i : Nat) s', i < S.toNat -> BoxAt s' b -> Kept b s3 s' -> wp (e (some (.int i) :: caps)) (fun x s2 => PairD S x /\ BoxAt s2 b /\ Kept b s3 s2) s') ->
   wp (collect (gVar 0) tTrue e anySt (rngD 0 S.toNat) (none::caps)) (fun a s'=>wp (flwD (Flw.ret (.ref s'.length))) Q (s'++[.lst a])) s3:=fun {e caps} he=>by
  refine QhK (fun i out s'=>out.length=i/\(∀ d∈out,PairD S d)/\BoxAt s' b/\Kept b s3 s') (fun _ _ s _=>trivial) ⟨rfl,by simp,b3,Kept.refl _ _⟩ (fun i d out s1 hd ⟨a1,a2,a3,a4⟩=>?_) (fun out s1 ⟨a1,a2,a3,a4⟩=>?_)
  ·obtain⟨hi,ed⟩:=QhM hd
   subst ed
   refine QhF (he i s1 hi a3 a4) fun x s2 ⟨p1,p2,p3⟩=>⟨by simp[a1],fun d hd=>?_,p2,p3⟩
   rcases List.mem_append.mp hd with hd | hd
   ·exact a2 d hd
   ·rw[List.mem_singleton]at hd;rw[hd];exact p1
  ·refine (show Q (.ref s1.length) _->_ from fun q=>by rw[x_retF];exact q) (h s1.length out _ (Nat.le_trans hle (by have:=a4.le;ac_nf)) ⟨by simp,by rw[a1,QhN],a2⟩ (Kept.box (s':=s) a3 _) ((k3.trans a4).trans (Kept.snoc _)))
 have told_at:∀ (i:Nat) s',i < S.toNat->Kept b s3 s'->∃ t:Int,(0<=t/\t < 4)/\(∀ Q,wp (getL s2.length) Q s'=Q told s')/\∀ Q s,wp (itemD told (i:Int)) Q s=Q (.int t) s:=fun i s' hi kk=>by
  obtain⟨t,e,t0⟩:=got i hi
  refine⟨t,t0,fun Q=>QhD ((kk.at_ _ (by ac_nf) nb).trans q3),fun Q s=>by rw[QhH (d:=.int t) (by ac_nf) (by simpa using e),wp_ret]⟩
 have g2:goal < S:=g1
 split
 ·refine⟨hSb,hSl,fin (caps:=[some (.ref s2.length)]) fun i s' hi b4 k4=>?_⟩
  obtain⟨t,t0,e5,e6⟩:=told_at i s' hi k4
  simp_arith [↓e5,↓e6]
  exact⟨QhO (by decide),⟨_,_,rfl,by ac_nf,by ac_nf,t0⟩,b4,k4⟩
 split
 ·refine⟨hSb,hSl,fin (caps:=[some (.int goal)]) fun i s' hi b4 k4=>?_⟩
  simp_arith []
  exact⟨QhO (by decide),⟨_,_,rfl,g0,g2,by ac_nf,by ac_nf⟩,b4,k4⟩
 split
 ·refine⟨hSb,hSl,fin (caps:=[some (.int S),some (.int goal),some (.ref s2.length)]) fun i s' hi b4 k4=>?_⟩
  obtain⟨t,t0,e5,e6⟩:=told_at i s' hi k4
  simp_arith [↓e5,↓e6]
  exact⟨by ac_nf,QhO (by decide),⟨_,_,rfl,Int.emod_nonneg _ (by ac_nf),Int.emod_lt_of_pos _ (by ac_nf),t0⟩,b4,k4⟩
 split
 ·refine⟨hSb,hSl,fin (caps:=[some (.int goal)]) fun i s' hi b4 k4=>?_⟩
  simp_arith []
  exact⟨QhO (by decide),⟨_,_,rfl,g0,g2,by ac_nf,by ac_nf⟩,b4,k4⟩
 ·refine⟨hSb,hSl,fin (caps:=[some (.ref b),some (.int S),some (.ref s2.length)]) fun i s' hi b4 k4=>?_⟩
  simp_arith []
  refine Qj2 b4 (by ac_nf) (by ac_nf) fun r s5 r0 r1 b5 k5=>?_
  obtain⟨t,t0,e5,e6⟩:=told_at i s5 hi (k4.trans k5)
  simp_arith [↓e5,↓e6]
  exact⟨QhO (by decide),⟨_,_,rfl,r0,r1,t0⟩,b5,k4.trans k5⟩
def RowAt (s:Sto) (b dn:Nat) (S:Int) (d:D):Prop:=∃ n ds,d=.ref n/\n≠b/\ListAt s n dn (PairD S) ds
theorem RowAt.kept {b dn:Nat}{S:Int}{s s':Sto}{d:D} (h:RowAt s b dn S d) (q:Kept b s s'):RowAt s' b dn S d:=by
 obtain⟨n,ds,e,hn,h⟩:=h
 exact⟨n,ds,e,hn,h.kept q hn⟩
theorem RowAt.put {b dn:Nat}{S:Int}{s:Sto}{d:D}{m:Nat}{es:List D} (h:RowAt s b dn S d) (q:es.length=dn) (q2:∀ x∈es,PairD S x):RowAt (s.set m (.lst es)) b dn S d:=by
 obtain⟨n,ds,e,hn,h⟩:=h
 have hl:n < s.length:=(List.getElem?_eq_some_iff.mp h.at_).1
 by_cases hm:m=n
 ·subst hm
  exact⟨m,es,e,hn,⟨List.getElem?_set_self hl,q,q2⟩⟩
 ·exact⟨n,ds,e,hn,⟨by rw[List.getElem?_set_ne hm];exact h.at_,h.len,h.all⟩⟩
def IsTable (t:D):Prop:=∃ (S:Int) (dn:Nat) (rows:List D),t=.tup rows/\1<=S/\S<=4/\rows.length=S.toNat/\1<=dn/\dn<=4 /\
 ∀ r∈rows,∃ ds,r=.tup ds/\ds.length=dn/\∀ d∈ds,PairD S d
theorem Qj5 {s : Sto} {b dn n7 : Nat} {S : Int} {rows : List D} {caps : Loc} {e : CE} {Q : List D -> Sto -> Prop} (hS : 1 <= S) (hS2 : S <= 4) (hd : 1 <= dn) (hd2 : dn <= 4) (h7 : s[n7]? = some (.lst rows)) (hl : rows.length = S.toNat)
  (hr:∀ d∈rows,RowAt s b dn S d) (he:∀ d,e (some d::caps)=tupleD d) (h:∀ out,IsTable (.tup out)->Q out s):
  wp (collect (gVar 0) tTrue e (sameL n7 rows) rows (none::caps)) Q s:=by
 refine QhK (fun i out s'=>s'=s/\out.length=i/\∀ r∈out,∃ ds,r=.tup ds/\ds.length=dn/\∀ d∈ds,PairD S d) (fun _ _ s' h=>by rw[h.1];exact h7) ⟨rfl,rfl,by simp⟩ (fun i d out s1 hdd ⟨a1,a2,a3⟩=>?_) (fun out s1 ⟨a1,a2,a3⟩=>?_)
 ·subst a1
  obtain⟨n,ds,e1,hn,q⟩:=hr d (List.mem_of_getElem? hdd)
  rw[he,e1]
  show wp (bnd (getL n) _) _ _
  rw[QhC,QhD q.at_,wp_ret]
  refine⟨rfl,by simp[a2],fun r hr=>?_⟩
  rcases List.mem_append.mp hr with hr | hr
  ·exact a3 r hr
  ·rw[List.mem_singleton]at hr;exact⟨ds,hr,q.len,q.all⟩
 ·subst a1
  exact h out ⟨S,dn,out,rfl,hS,hS2,by rw[a2,hl],hd,hd2,a3⟩
open PySem (Str)
theorem BoxAt.lt {s:Sto}{b:Nat} (h:BoxAt s b):b < s.length:=by obtain⟨x,y,e,_⟩:=h;exact (List.getElem?_eq_some_iff.mp e).1
theorem BoxAt.put {s:Sto}{b m:Nat}{es:List D} (h:BoxAt s b) (hm:m≠b):BoxAt (s.set m (.lst es)) b:=by
 obtain⟨x,y,e,h0,h1⟩:=h
 exact⟨x,y,by rw[List.getElem?_set_ne hm];exact e,h0,h1⟩
theorem Qj6 {s : Sto} {b n4 : Nat} {S : Int} {i : Nat} {outs : List D} {caps : Loc} {e : CE} {Q : List D -> Sto -> Prop} (hi : i < S.toNat) (h4 : s[n4]? = some (.lst outs)) (hr : ∀ d ∈ outs, RowAt s b S.toNat S d)
  (he:∀ d,e (some d::caps)=subsD d (.int i)) (h:∀ ds,ds.length=outs.length->(∀ d∈ds,PairD S d)->Q ds s):
  wp (collect (gVar 0) tTrue e (sameL n4 outs) outs (none::caps)) Q s:=by
 refine QhK (fun i out s'=>s'=s/\out.length=i/\∀ r∈out,PairD S r) (fun _ _ s' h=>by rw[h.1];exact h4) ⟨rfl,rfl,by simp⟩ (fun k d out s1 hdd ⟨a1,a2,a3⟩=>?_) (fun out s1 ⟨a1,a2,a3⟩=>?_)
 ·subst a1
  obtain⟨n,ds,e1,hn,q⟩:=hr d (List.mem_of_getElem? hdd)
  rw[he,e1]
  show wp (bnd (getL n) _) _ _
  have hl:i < ds.length:=by rw[q.len];exact hi
  rw[QhC,QhD q.at_,QhH (d:=ds[i]) (by ac_nf) (by simp[List.getElem?_eq_getElem hl]),wp_ret]
  refine⟨rfl,by simp[a2],fun r hr=>?_⟩
  rcases List.mem_append.mp hr with hr | hr
  ·exact a3 r hr
  ·rw[List.mem_singleton]at hr;rw[hr];exact q.all _ (List.getElem_mem hl)
 ·subst a1
  exact h out a2 a3
theorem RowAt.other {b dn m:Nat}{S:Int}{s:Sto}{d:D}{o:MO} (h:RowAt s b dn S d) (hd:d≠.ref m):RowAt (s.set m o) b dn S d:=by
 obtain⟨n,ds,e,hn,h⟩:=h
 have:m≠n:=fun e2=>hd (by rw[e,e2])
 exact⟨n,ds,e,hn,⟨by rw[List.getElem?_set_ne this];exact h.at_,h.len,h.all⟩⟩
theorem Qj7 {s:Sto}{b:Nat}{Q:D->Sto->Prop} (hb:BoxAt s b) (h:∀ t s',IsTable t->BoxAt s' b->Kept b s s'->Q t s'):wp (jq [.ref b]) Q s:=by
 (simp_arith [jq];simp_arith [jD])
 refine Qj2 hb (by ac_nf) (by ac_nf) fun r1 s1 r10 r11 b1 k1=>?_
 simp_arith []
 refine Qj2 b1 (by ac_nf) (by ac_nf) fun r2 s2 r20 r21 b2 k2=>?_
 simp_arith []
 refine Qj2 b2 (by ac_nf) (by ac_nf) fun v3 s3 r30 r31 b3 k3=>?_
 simp_arith []
 have hle:s.length<=s3.length:=Nat.le_trans k1.le (Nat.le_trans k2.le k3.le)
 have k4:Kept b s (s3++[.lst []]):=((k1.trans k2).trans k3).trans (Kept.snoc _)
 have b4:BoxAt (s3++[.lst []]) b:=Kept.box (s':=s) b3 _
 have q4:(s3++[MO.lst []])[s3.length]?=some (.lst []):=by simp
 have n4b:s3.length≠b:=by have:=b3.lt;have:=hb.lt;ac_nf
 generalize hs:s3++[MO.lst []]=s4 at *
 have l4:s4.length=s3.length + 1:=by rw[<- hs];simp
 generalize hn4:s3.length=n4 at *
 have hS1:1<=1 + r1:=by ac_nf
 have hS2:1 + r1<=4:=by ac_nf
 have ht1:1<=1 + r2:=by ac_nf
 have ht2:1 + r2<=4:=by ac_nf
 generalize hSe:1 + r1=S at *
 generalize hte:1 + r2=top at *
 refine⟨Nat.zero_le _,?_⟩
 refine Qj2 b4 (by ac_nf) (by ac_nf) fun r4 s5 r40 r41 b5 k5=>?_
 simp_arith []
 have q5:s5[n4]?=some (.lst []):=(k5.at_ n4 (by ac_nf) n4b).trans q4
 refine⟨⟨by ac_nf,by ac_nf⟩,?_⟩
 refine QhQ (fun i l s'=>∃ x5 x6 outs,l=[some (.ref b),some (.int S),some (.int top),some (.int v3),some (.ref n4),x5,x6,none,none,none,none,none]/\s'[n4]?=some (.lst outs)/\outs.length=i/\(∀ d∈outs,RowAt s' b S.toNat S d)/\(∀ d∈outs,d≠.ref n4)/\BoxAt s' b/\s.length<=s'.length/\∀ n,n < s.length->n≠b->s'[n]?=s[n]?) (fun _ _ _ _=>trivial) ⟨_,_,[],rfl,q5,rfl,by simp,by simp,b5,Nat.le_trans hle (by have:=k5.le;ac_nf),fun n hn hb=>(k4.trans k5).at_ n hn hb⟩ (fun i d l s' hd ⟨x5,x6,outs,el,q6,l6,r6,d6,b6,le6,k6⟩=>?_) (fun l s' ⟨x5,x6,outs,el,q6,l6,r6,d6,b6,le6,k6⟩=>?_)
 ·obtain⟨hi,ed⟩:=QhM hd
  subst ed
  subst el
  simp_arith []
  have hlt4:n4 < s'.length:=(List.getElem?_eq_some_iff.mp q6).1
  have go:∀ (kind:Int) (sx:Sto),BoxAt sx b->Kept b s' sx->wp (jn [D.ref b,.int kind,D.int S,D.int top]) (fun d s2=>wp (getL n4) (fun a s3=>a.length < lim/\wp (putL n4 (a++[d])) (fun _ s9=>∃ outs,s9[n4]?=some (.lst outs)/\outs.length=i + 1/\(∀ d∈outs,RowAt s9 b S.toNat S d)/\(∀ d∈outs,d≠.ref n4)/\BoxAt s9 b/\s.length<=s9.length/\∀ n,n < s.length->n≠b->s9[n]?=s[n]?) s3) s2) sx:=fun kind sx hbx kx=>by
   refine Qj4 hbx hS1 hS2 ht1 ht2 fun n ds s2 hn hl hb2 hk=>?_
   have kk:=kx.trans hk
   have e:s2[n4]?=some (.lst outs):=(kk.at_ n4 hlt4 n4b).trans q6
   have lx:=kx.le
   have l2:=kk.le
   rw[QhD e]
   refine⟨QhP (by ac_nf),?_⟩
   rw[QhE e]
   have nn:(D.ref n)≠.ref n4:=fun h=>by cases h;ac_nf
   have bl:=b6.lt
   refine⟨outs++[.ref n],List.getElem?_set_self (by ac_nf),by simp[l6],fun d hd=>?_,fun d hd=>?_,hb2.put n4b,by rw[List.length_set];ac_nf,fun m hm hmb=>?_⟩
   ·rcases List.mem_append.mp hd with hd | hd
    ·exact ((r6 d hd).kept kk).other (d6 d hd)
    ·rw[List.mem_singleton]at hd;rw[hd]
     exact RowAt.other ⟨n,ds,rfl,by ac_nf,hl⟩ nn
   ·rcases List.mem_append.mp hd with hd | hd
    ·exact d6 d hd
    ·rw[List.mem_singleton]at hd;rw[hd];exact nn
   ·rw[List.getElem?_set_ne (by ac_nf),kk.at_ m (by ac_nf) hmb,k6 m hm hmb]
  refine Qj2 b6 (by ac_nf) (by ac_nf) fun ra sa ra0 ra1 ba ka=>?_
  simp_arith []
  refine⟨QhO (by decide),?_⟩
  refine Qj2 ba (by ac_nf) (by ac_nf) fun rb sb rb0 rb1 bb kb=>?_
  simp_arith []
  have hit:∃ kind:Int,itemD [.int 0,.int v3,.int v3,.int (1 + ra)] rb=ret (.int kind):=by
   have:rb=0\/rb=1\/rb=2\/rb=3:=by ac_nf
   rcases this with h | h | h | h<;>subst h<;>exact⟨_,rfl⟩
  obtain⟨kind,e1⟩:=hit
  simp_arith [e1]
  split
  ·refine Qj2 bb (by ac_nf) (by ac_nf) fun rc sc rc0 rc1 bc kc=>?_
   simp_arith []
   exact QhF (go (1 + rc) sc bc ((ka.trans kb).trans kc)) fun d s2 q=>QhF q fun a3 s3 pq128=>by obtain⟨q1,q2⟩:=pq128;exact⟨q1,QhF q2 fun _ s9 pq129=>by
    obtain⟨outs,q⟩:=pq129
    simp_arith []
    exact⟨_,_,outs,rfl,q⟩⟩
  ·exact QhF (go kind sb bb (ka.trans kb)) fun d s2 q => QhF q fun a3 s3 pq130 => by obtain ⟨q1, q2⟩ := pq130; exact ⟨q1, QhF q2 fun _ s9 pq131 => by
     obtain⟨outs,q⟩:=pq131
     simp_arith []
     exact⟨_,_,outs,rfl,q⟩⟩
 ·subst el
  simp_arith []
  rw[QhN]at l6
  refine⟨⟨by ac_nf,by ac_nf⟩,QhO (by rw[QhN];ac_nf),?_⟩
  have hd1:1<=outs.length:=by ac_nf
  have hd2:outs.length<=4:=by ac_nf
  have hlt4:n4 < s'.length:=(List.getElem?_eq_some_iff.mp q6).1
  refine QhK (caps:=[some (.ref n4)]) (fun i out s7=>out.length=i/\(∀ d∈out,RowAt s7 b outs.length S d)/\BoxAt s7 b/\Kept b s' s7/\∀ m,.ref m∈out->s'.length<=m) (fun _ _ _ _=>trivial) ⟨rfl,by simp,b6,Kept.refl _ _,by simp⟩ (fun i d out s7 hd ⟨a1,a2,a3,a4,a5⟩=>?_) (fun rows s7 ⟨a1,a2,a3,a4,a5⟩=>?_)
  ·obtain⟨hi,ed⟩:=QhM hd
   subst ed
   have e4:s7[n4]?=some (.lst outs):=(a4.at_ n4 hlt4 n4b).trans q6
   have q9:∀ Q,wp (getL n4) Q s7=Q outs s7:=fun Q=>QhD e4
   simp_arith [↓q9]
   refine⟨QhO (by ac_nf),?_⟩
   refine Qj6 (b:=b) hi e4 (fun d hd=>(r6 d hd).kept a4) (fun d=>rfl) fun ds p1 p2=>?_
   refine⟨by simp[a1],fun d hd=>?_,Kept.box (s':=s) a3 _,a4.trans (Kept.snoc _),fun m hm=>?_⟩
   ·rcases List.mem_append.mp hd with hd | hd
    ·exact (a2 d hd).kept (Kept.snoc _)
    ·rw[List.mem_singleton]at hd;rw[hd]
     exact⟨s7.length,ds,rfl,by have:=a3.lt;ac_nf,⟨by simp,p1,p2⟩⟩
   ·rcases List.mem_append.mp hm with hm | hm
    ·exact a5 m hm
    ·rw[List.mem_singleton]at hm;cases hm;exact a4.le
  ·rw[QhN]at a1
   have k8:Kept b s' (s7++[.lst rows]):=a4.trans (Kept.snoc _)
   have b8:BoxAt (s7++[.lst rows]) b:=Kept.box (s':=s) a3 _
   have q8:(s7++[MO.lst rows])[s7.length]?=some (.lst rows):=by simp
   have r8:∀ d∈rows,RowAt (s7++[.lst rows]) b outs.length S d:=fun d hd=>(a2 d hd).kept (Kept.snoc _)
   have n7b:s7.length≠b:=by have:=a3.lt;ac_nf
   have n7o:∀ d∈rows,d≠.ref s7.length:=fun d hd e=>by
    obtain⟨n,ds,e1,hn,q⟩:=a2 d hd
    rw[e1]at e;cases e
    have:=(List.getElem?_eq_some_iff.mp q.at_).1
    ac_nf
   have l8:(s7++[MO.lst rows]).length=s7.length + 1:=by simp
   generalize s7++[MO.lst rows]=s8 at *
   generalize s7.length=n7 at *
   have kf:∀ sx,Kept b s8 sx->Kept b s sx:=fun sx k=>Kept.trans (s1:=s') ⟨le6,k6⟩ (k8.trans k)
   simp_arith []
   refine Qj2 b8 (by ac_nf) (by ac_nf) fun rc s9 rc0 rc1 b9 k9=>?_
   simp_arith []
   have h7:∀ sx,Kept b s8 sx->sx[n7]?=some (.lst rows):=fun sx k=>(k.at_ n7 (by ac_nf) n7b).trans q8
   have l7:=k8.le
   have h4:∀ sx,Kept b s8 sx->sx[n4]?=some (.lst outs):=fun sx k=>((k8.trans k).at_ n4 hlt4 n4b).trans q6
   split
   ·refine Qj2 b9 (by ac_nf) (by ac_nf) fun x8 sa xa0 xa1 ba ka=>?_
    simp_arith []
    rw[QhD (h4 sa (k9.trans ka))]
    simp_arith []
    refine Qj2 ba (by ac_nf) (by ac_nf) fun x9 sb xb0 xb1 bb kb=>?_
    simp_arith []
    have kb':=(k9.trans ka).trans kb
    have hx8:x8.toNat < rows.length:=by ac_nf
    obtain⟨n,ds,e1,hn,q⟩:=r8 rows[x8.toNat] (List.getElem_mem hx8)
    have i1:∀ Q s,wp (itemD rows x8) Q s=Q (.ref n) s:=fun Q s=>by rw[QhH (d:=.ref n) xa0 (by rw[List.getElem?_eq_getElem hx8,e1]),wp_ret]
    have hx9:x9.toNat < ds.length:=by rw[q.len];ac_nf
    obtain⟨g,u,e2,g0,g1,u0⟩:=q.all ds[x9.toNat] (List.getElem_mem hx9)
    have i2:∀ Q s,wp (itemD ds x9) Q s=Q (.tup [.int g,.int u]) s:=fun Q s=>by rw[QhH (d:=.tup [.int g,.int u]) xb0 (by rw[List.getElem?_eq_getElem hx9,e2]),wp_ret]
    have hq:∀ sx,Kept b s8 sx->sx[n]?=some (.lst ds):=fun sx k=>(q.kept k hn).at_
    have w1:∀ Q,wp (getL n7) Q sb=Q rows sb:=fun Q=>QhD (h7 sb kb')
    have w2:∀ Q,wp (getL n) Q sb=Q ds sb:=fun Q=>QhD (hq sb kb')
    simp_arith [↓w1,↓i1,↓w2,↓i2]
    refine Qj2 bb (by ac_nf) (by ac_nf) fun xc sc xc0 xc1 bc kc=>?_
    simp_arith []
    refine⟨QhO (by decide),?_⟩
    refine Qj2 bc (by ac_nf) (by ac_nf) fun xd sd xd0 xd1 bd kd=>?_
    simp_arith []
    refine⟨QhO (by decide),QhO (by decide),?_⟩
    refine Qj2 bd (by ac_nf) (by ac_nf) fun xe se xe0 xe1 be ke=>?_
    simp_arith []
    have ke':=((kb'.trans kc).trans kd).trans ke
    have hv:∃ v,itemD [.tup [.int xc,.int u],.tup [.int g,.int xd]] xe=ret v/\PairD S v:=by
     have:xe=0\/xe=1:=by ac_nf
     rcases this with h | h<;>subst h
     ·exact⟨_,rfl,_,_,rfl,xc0,xc1,u0⟩
     ·exact⟨_,rfl,_,_,rfl,g0,g1,xd0,xd1⟩
    obtain⟨v,i3,pv⟩:=hv
    have i4:ixN ds.length x9=some x9.toNat:=by unfold MM.ixN;rw[if_pos xb0,if_pos (by ac_nf)]
    have hnn:n≠n7:=fun e=>n7o _ (List.getElem_mem hx8) (by rw[e1,e])
    have h7':(se.set n (.lst (ds.set x9.toNat v)))[n7]?=some (.lst rows):=by rw[List.getElem?_set_ne hnn];exact h7 se ke'
    simp_arith [i3,QhD (h7 se ke'),i1,QhD (hq se ke'),i4,QhE (hq se ke'),QhD h7']
    refine⟨QhO (by ac_nf),?_⟩
    refine Qj5 (b:=b) (S:=S) (dn:=outs.length) hS1 hS2 hd1 hd2 h7' (by ac_nf) (fun d hd=>((r8 d hd).kept ke').put (by simp[q.len]) (fun x hx=>?_)) (fun d=>rfl) fun out ho=>?_
    ·rcases List.mem_or_eq_of_mem_set hx with hx | hx
     ·exact q.all x hx
     ·rw[hx];exact pv
    ·show wp (ret _) _ _
     rw[wp_ret,x_retF]
     have hnl:s'.length<=n:=a5 n (by rw[<- e1];exact List.getElem_mem hx8)
     have kz:=kf se ke'
     exact h _ _ ho (be.put hn) ⟨by rw[List.length_set];exact kz.le,fun m hm hmb=>by rw[List.getElem?_set_ne (by ac_nf)];exact kz.at_ m hm hmb⟩
   ·rw[QhD (h7 s9 k9)]
    refine⟨QhO (by ac_nf),?_⟩
    refine Qj5 (b:=b) (S:=S) (dn:=outs.length) hS1 hS2 hd1 hd2 (h7 s9 k9) (by ac_nf) (fun d hd=>(r8 d hd).kept k9) (fun d=>rfl) fun out ho=>?_
    show wp (ret _) _ _
    rw[wp_ret,x_retF]
    exact h _ _ ho b9 (kf _ k9)
open PySem (Str)
def g_box (A B C E F G H T U : Int) : CS :=
  (sSeq (sAsg (gVar 2) (c2 addD (c2 mulD (cCon (.int A)) (cVar 1)) (cCon (.int B))))
  (sSeq (sIf (tCmpB (c2 ltD (cVar 1) (c1 lenD (cVar 0))))
   (sSeq (sAsg (gVar 2) (c2 subsD (cVar 0) (cVar 1)))
   sNext)
   (sSeq (sIf (tCmpB (c2 gtD (c1 lenD (cVar 0)) (cCon (.int 0))))
    (sSeq (sAsg (gVar 2) (c2 addD (cVar 2) (c2 mulD (c2 modD (c2 subsD (cVar 0) (c2 modD (cVar 1) (c1 lenD (cVar 0)))) (cCon (.int C))) (cCon (.int E)))))
    sNext)
    sNext)
   sNext))
  (sSeq (sAsg (gVar 3) (c2 modD (c2 addD (c2 addD (c2 mulD (c2 modD (cVar 2) (cCon (.int C))) (cCon (.int F))) (c2 mulD (cCon (.int G)) (cVar 1))) (cCon (.int H))) (cCon (.int C))))
  (sSeq (sRet (cKeep (aDisp (cCons (c2 mulD (cVar 2) (c1 intD (c2 geD (cVar 2) (c2 powD (cCon (.int T)) (cCon (.int U)))))) (cCons (cVar 3) cNil)))))
  sNext))))
theorem Qj8 {s : Sto} {ns : List Int} {i A B C E F G H T U P : Int} {Q : D -> Sto -> Prop} (hi0 : 0 <= i) (hC : 0 < C) (hC2 : C <= 2147483648) (p1 : mulOk A i) (p2 : mulOk G i) (p3 : ∀ x, mulOk x E) (p4 : ∀ x, mulOk x F) (hpow : ∀ Q s, wp (powD (.int T) (.int U)) Q s = Q (.int P) s) (p5 : ∀ v : Int, mulOk v (if P <= v then 1 else 0))
  (h:∀ o,BoxAt (s++[o]) s.length->Q (.ref s.length) (s++[o])):wp (runDef 4 (g_box A B C E F G H T U) [.lit (ns.map D.int),.int i]) Q s:=by
 have fin:∀ x y:Int,Q (.ref s.length) (s++[.lst [.int x,.int (y % C)]]):=fun x y=>
  h _ ⟨x,y % C,by simp,Int.emod_nonneg _ (by ac_nf),by have:=Int.emod_lt_of_pos y hC;ac_nf⟩
 have item:∀ j:Int,0<=j->j < ns.length->∃ v:Int,∀ Q s,wp (itemD (ns.map D.int) j) Q s=Q (.int v) s:=fun j h0 h1=>by
  have hl:j.toNat < ns.length:=by ac_nf
  exact⟨ns[j.toNat],fun Q s=>by rw[QhH h0 (by rw[List.getElem?_map,List.getElem?_eq_getElem hl];rfl),wp_ret]⟩
 by_cases hlt:i < ns.length
 ·obtain⟨v,e⟩:=item i hi0 hlt
  simp_arith [g_box,List.length_map,hlt,↓e,↓hpow,p1,p2,p3,p4,p5,hC]
  exact⟨QhO (by ac_nf),fin _ _⟩
 by_cases hpos:0 < (ns.length:Int)
 ·obtain⟨v,e⟩:=item (i % ns.length) (Int.emod_nonneg _ (by ac_nf)) (Int.emod_lt_of_pos _ hpos)
  simp_arith [g_box,List.length_map,hlt,hpos,↓e,↓hpow,p1,p2,p3,p4,p5,hC]
  exact⟨QhO (by ac_nf),fin _ _⟩
 ·simp_arith [g_box,List.length_map,hlt,hpos,↓hpow,p1,p2,p3,p4,p5,hC]
  exact⟨QhO (by ac_nf),fin _ _⟩
theorem Qj9 {s:Sto}{ns:List Int}{i:Int}{Q:D->Sto->Prop} (hi0:0<=i) (h:∀ o,BoxAt (s++[o]) s.length->Q (.ref s.length) (s++[o])):wp (jr [.lit (ns.map D.int),.int i]) Q s:=by
 have m1:∀ k i:Int,0<=k->k < 10000000->mulOk k i:=fun k i h1 h2=>.inl ⟨by ac_nf,by ac_nf⟩
 have m2:∀ i k:Int,0<=k->k < 10000000->mulOk i k:=fun i k h1 h2=>.inr ⟨by ac_nf,by ac_nf⟩
 unfold jr
 exact Qj8 (A:=104729) (B:=17) (C:=2147483629) (E:=48611) (F:=48271) (G:=7919) (H:=11) (T:=10) (U:=18) (P:=1000000000000000000) hi0 (by ac_nf) (by ac_nf) (m1 _ _ (by ac_nf) (by ac_nf)) (m1 _ _ (by ac_nf) (by ac_nf)) (fun x=>m2 _ _ (by ac_nf) (by ac_nf)) (fun x=>m2 _ _ (by ac_nf) (by ac_nf)) (fun Q s=>wp_eq (by unfold powD chk;rfl)) (fun v=>m2 _ _ (by split<;>ac_nf) (by split<;>ac_nf)) h
theorem Qka {xs:List D}{lo hi:Option Int}:(cutD xs lo hi).length<=xs.length:=by
 unfold cutD;rw[List.length_take,List.length_drop];ac_nf
open PySem (Str)
def tabD (S dn:Nat) (nx un:Nat->Nat->Nat):D:=.tup (upto S fun s=>.tup (upto dn fun d=>.tup [.int (nx s d:Nat),.int (un s d:Nat)]))
theorem Qkb {t:D} (h:IsTable t):∃ S dn nx un,t=tabD S dn nx un/\1<=S/\S<=4/\1<=dn/\dn<=4/\∀ s d,s < S->d < dn->nx s d < S/\un s d < 4:=by
 obtain⟨S,dn,rows,et,hS1,hS2,hl,hd1,hd2,hr⟩:=h
 have key:∀ s:Nat,∃ p:Nat->Nat × Nat,s < S.toNat->rows[s]?=some (.tup (upto dn fun d=>.tup [.int ((p d).1:Nat),.int ((p d).2:Nat)]))/\∀ d,d < dn->(p d).1 < S.toNat/\(p d).2 < 4:=by
  intro s
  by_cases hs:s < S.toNat
  ·have hlt:s < rows.length:=by ac_nf
   obtain⟨ds,e,hdl,hp⟩:=hr rows[s] (List.getElem_mem hlt)
   have k2:∀ d:Nat,∃ p:Nat × Nat,d < dn->ds[d]?=some (.tup [.int (p.1:Nat),.int (p.2:Nat)])/\p.1 < S.toNat/\p.2 < 4:=by
    intro d
    by_cases hd:d < dn
    ·have hdt:d < ds.length:=by ac_nf
     obtain⟨g,u,e2,g0,g1,u0,u9⟩:=hp ds[d] (List.getElem_mem hdt)
     refine⟨(g.toNat,u.toNat),fun _=>⟨?_,by show g.toNat < S.toNat;ac_nf,by show u.toNat < 4;ac_nf⟩⟩
     rw[List.getElem?_eq_getElem hdt,e2,Int.toNat_of_nonneg g0,Int.toNat_of_nonneg u0]
    ·exact⟨(0,0),fun h=>(hd h).elim⟩
   refine⟨fun d=>Classical.choose (k2 d),fun _=>⟨?_,fun d hd=>(Classical.choose_spec (k2 d) hd).2⟩⟩
   rw[List.getElem?_eq_getElem hlt,e]
   congr 2
   exact Qh4 hdl fun d hd=>(Classical.choose_spec (k2 d) hd).1
  ·exact⟨fun _=>(0,0),fun h=>(hs h).elim⟩
 refine⟨S.toNat,dn,fun s d=>(Classical.choose (key s) d).1,fun s d=>(Classical.choose (key s) d).2,?_,by ac_nf,by ac_nf,hd1,hd2,fun s d hs hd=>(Classical.choose_spec (key s) hs).2 d hd⟩
 rw[et]
 unfold tabD
 congr 1
 exact Qh4 hl fun s hs=>(Classical.choose_spec (key s) hs).1
open PySem (Str)
def Txo (n:Nat) (x:Str):Prop:=x.length<=n/\∀ c∈x.cps.toList,c < 128
def isDg (c:Nat):Bool:=decide (48<=c) && decide (c<=57)
def numV (cs:List Nat):Nat:=cs.foldl (fun n c=>n * 10 + (c - 48)) 0
def numC (cs:List Nat):Option Nat:=if cs.length=0\/3 < cs.length\/(1 < cs.length/\cs[0]?=some 48) then none else if cs.all isDg=true then some (numV cs) else none
def numS (x:Str):Option Nat:=numC x.cps.toList
theorem Qkc:("0123456789":Str)=⟨#[48,49,50,51,52,53,54,55,56,57]⟩:=by nofun
theorem z_is:("0":Str)=⟨#[48]⟩:=by nofun
theorem Qkd (c:Nat):(!(PySem.Builtin.Str.occurrences ("0123456789":Str) ⟨#[c]⟩ 0 ("0123456789":Str).length 1).isEmpty)=isDg c:=by
 rw[PySem.StrLaws.found_one,Qkc]
 unfold isDg
 rw[<- Bool.decide_and,decide_eq_decide]
 simp
 ac_nf
theorem Qke:∀ k,k < 10->(PySem.Builtin.Str.occurrences ("0123456789":Str) ⟨#[48 + k]⟩ 0 ("0123456789":Str).length 1).head?=some k:=by nofun
theorem int1:∀ a,a < 10->PySem.intText? ⟨#[48 + a]⟩=some (a:Int):=by nofun
theorem int2:∀ a,a < 10->∀ b,b < 10->PySem.intText? ⟨#[48 + a,48 + b]⟩=some ((a * 10 + b:Nat):Int):=by nofun
theorem int3:∀ a,a < 10->∀ b,b < 10->∀ c,c < 10->PySem.intText? ⟨#[48 + a,48 + b,48 + c]⟩=some (((a * 10 + b) * 10 + c:Nat):Int):=by nofun
theorem Qkf {c:Nat} (h:isDg c=true):∃ k,k < 10/\c=48 + k:=by
 unfold isDg at h
 simp at h
 exact⟨c - 48,by ac_nf,by ac_nf⟩
theorem Qkg (x:Str):x=⟨x.cps.toList.toArray⟩:=by cases x;simp
theorem Qkh {cs:List Nat} (h1:cs.length≠0) (h3:cs.length<=3) (h:cs.all isDg=true):PySem.intText? ⟨cs.toArray⟩=some (numV cs:Int):=by
 match cs,h1,h3,h with
 | [a],_,_,h=>
  simp only[List.all_cons,List.all_nil,Bool.and_true]at h
  obtain⟨k,hk,rfl⟩:=Qkf h
  rw[int1 k hk]
  simp[numV]
 | [a,b],_,_,h=>
  simp only[List.all_cons,List.all_nil,Bool.and_true,Bool.and_eq_true]at h
  obtain⟨ha,hb⟩:=h
  obtain⟨k,hk,rfl⟩:=Qkf ha
  obtain⟨j,hj,rfl⟩:=Qkf hb
  rw[int2 k hk j hj]
  simp[numV]
 | [a,b,c],_,_,h=>
  simp only[List.all_cons,List.all_nil,Bool.and_true,Bool.and_eq_true]at h
  obtain⟨ha,hb,hc⟩:=h
  obtain⟨k,hk,rfl⟩:=Qkf ha
  obtain⟨j,hj,rfl⟩:=Qkf hb
  obtain⟨i,hi,rfl⟩:=Qkf hc
  rw[int3 k hk j hj i hi]
  simp[numV]
open PySem (Str)
section
variable {s s1 s2:Sto}{Q:D->Sto->Prop}
theorem Qki {α:Type}{xs:List α}{f:α->D}:(upto xs.length fun i=>match xs[i]? with | some x=>f x | none=>.non)=xs.map f:=by
 apply List.ext_getElem?
 intro i
 by_cases h:i < xs.length
 ·rw[Qh0 h,List.getElem?_map,List.getElem?_eq_getElem h];rfl
 ·rw[List.getElem?_eq_none (by rw[Qh2];ac_nf),List.getElem?_eq_none (by rw[List.length_map];ac_nf)]
theorem Qkj {α : Type} {e : CE} {same : Sto -> Prop} {xs : List α} {g f : α -> D} {caps : Loc} {Q : List D -> Sto -> Prop} (hs : same s) (h : ∀ x ∈ xs, ∀ Q, wp (e (some (g x) :: caps)) Q s = Q (f x) s) :
  wp (collect (gVar 0) tTrue e same (xs.map g) (none::caps)) Q s=Q (xs.map f) s:=by
 rw[Qh7 (f:=fun i=>match xs[i]? with | some x=>f x | none=>.non) hs fun i d hd Q=>?_]
 ·rw[List.length_map,Qki]
 ·rw[List.getElem?_map]at hd
  cases hx:xs[i]? with
  | none=>rw[hx]at hd;cases hd
  | some x=>rw[hx]at hd;cases hd;exact h x (List.mem_of_getElem? hx) Q
theorem Qkk {α:Type}{f:α->Bool}:∀ {xs:List α},boolsL (xs.map fun x=>.bl (f x))=some (xs.map f)
 | []=>rfl
 | x::xs=>by
  show (boolsL (xs.map fun x=>.bl (f x))).map (f x::·)=_
  rw[Qkk];rfl
theorem all_map {α:Type}{f:α->Bool}{xs:List α}:wp (allD (xs.map fun x=>.bl (f x))) Q s=Q (.bl (xs.all f)) s:=by
 unfold allD
 rw[Qkk]
 dsimp only
 rw[wp_ret,List.all_map]
 rfl
def numD:Option Nat->D
 | some n=>.int (n:Nat)
 | none=>.non
def numI:Option Nat->Int
 | some n=>n
 | none => -1
theorem Qkl {n:Nat}{x:Str} (h:Txo n x):x.cps.all (· < 128)=true:=by
 rw[Array.all_eq_true']
 intro c hc
 exact decide_eq_true (h.2 c (by simpa using hc))
theorem Qkm {n:Nat}{x:Str} (h:Txo n x) (hn:n<=1000):wp (jb [.str x]) Q s=Q (numD (numS x)) s:=by
 have l1:x.length<=lim:=QhO (Nat.le_trans h.1 hn)
 have as:=Qkl h
 have c0:∀ l,capt 1 [] l=[none]:=fun _=>rfl
 have c1:∀ Q s,wp (collect (gVar 0) tTrue (c2 inTD (cVar 0) (cCon (.str "0123456789"))) anySt (signs x) [none]) Q s=Q (x.cps.toList.map fun c=>.bl (isDg c)) s:=fun Q s=>Qkj trivial fun c hc Q=>by
  simp_arith [↓Qim,Qkd]
 have sl:(signs x).length<=lim:=by unfold signs;rw[List.length_map,Qf6];exact l1
 have xl:=Qf6 x
 apply QhR
 (simp_arith [jb];simp_arith [jw,↓Qio,l1,as,c0,↓c1,↓Qij,sl,↓all_map])
 unfold numS numC
 rw[xl]
 by_cases h0:1<=x.length/\x.length<=3
 ·have e1:decide ((1:Int)<=(x.length:Int))=true:=decide_eq_true (by ac_nf)
  have e3:decide ((x.length:Int)<=3)=true:=decide_eq_true (by ac_nf)
  simp_arith [e1,e3,andB_t]
  cases ha:x.cps.toList.all isDg with
  | false=>
   simp_arith []
   split<;>simp[numD]
  | true=>
   simp_arith []
   obtain⟨c,r,ec⟩:∃ c r,x.cps.toList=c::r:=by
    cases hx:x.cps.toList with
    | nil=>rw[hx]at xl;simp at xl;ac_nf
    | cons c r=>exact⟨c,r,rfl⟩
   have s0:∀ (Q:D->Sto->Prop) s,wp (subsD (.str x) (.int 0)) Q s=Q (.str ⟨#[c]⟩) s:=fun Q s=>by
    rw[Qkg x,ec,Qip]
    refine propext ⟨fun h=>h.2,fun h=>⟨?_,h⟩⟩
    rw[<- ec,<- Qkg];exact l1
   have i0:∀ (Q:D->Sto->Prop) s,wp (intTD (.str x)) Q s=Q (.int (numV x.cps.toList:Nat)) s:=fun Q s=>Qil (by
    have:=Qkh (cs:=x.cps.toList) (by ac_nf) (by ac_nf) ha
    rw[<- Qkg]at this
    exact this) (by ac_nf)
   have ez:((⟨#[c]⟩:Str) == ("0":Str))=decide (c=48):=by
    rw[z_is]
    by_cases hc:c=48
    ·subst hc;decide
    ·rw[decide_eq_false hc]
     rw[beq_eq_false_iff_ne]
     intro e
     apply hc
     have:=congrArg (fun x:Str=>x.cps.toList) e
     simpa using this
   have eh:x.cps.toList[0]?=some c:=by rw[ec];rfl
   rw[eh]
   by_cases hc:c=48
   ·by_cases h2:1 < x.length
    ·have e2:((1:Int) < (x.length:Int)):=by ac_nf
     rw[if_pos (.inr (.inr ⟨h2,by rw[hc]⟩))]
     simp_arith [↓s0,ez,decide_eq_true hc,↓Qio,l1,e2,numD]
    ·have e2:¬ ((1:Int) < (x.length:Int)):=by ac_nf
     rw[if_neg (by ac_nf),if_pos rfl]
     simp_arith [↓s0,ez,decide_eq_true hc,↓Qio,l1,e2,↓i0,numD]
   ·rw[if_neg (by simp[hc];ac_nf),if_pos rfl]
    simp_arith [↓s0,ez,decide_eq_false hc,↓Qio,l1,↓i0,numD]
 ·have e4:x.length=0\/3 < x.length\/1 < x.length/\x.cps.toList[0]?=some 48:=by ac_nf
  rw[if_pos e4]
  by_cases h1:1<=x.length
  ·have e1:decide ((1:Int)<=(x.length:Int))=true:=decide_eq_true (by ac_nf)
   have e3:decide ((x.length:Int)<=3)=false:=decide_eq_false (by ac_nf)
   simp_arith [e1,e3,andB_t,numD]
  ·have e1:decide ((1:Int)<=(x.length:Int))=false:=decide_eq_false (by ac_nf)
   simp_arith [e1,andB_f,numD]
end
open PySem (Str)
section
variable {s s1 s2:Sto}{Q:D->Sto->Prop}
theorem Qkn {x y:Str}:wp (ninTD (.str x) (.str y)) Q s=Q (.bl (!(!(PySem.Builtin.Str.occurrences y x 0 y.length 1).isEmpty))) s:=wp_eq rfl
theorem Qko {l:Loc}{k i:Nat} (hk:k < 10) (h:l[i]?=some (some (.str ⟨#[48 + k]⟩))):wp (cIdxX (cCon (.str "0123456789")) (cVar i) l) Q s=Q (.int (k:Nat)) s:=by
 have e:=Qke k hk
 unfold cIdxX
 rw[QhC]
 show wp (ret _) _ _=_
 rw[wp_ret]
 dsimp only
 rw[QhC,x_var,h]
 dsimp only
 cases ho:PySem.Builtin.Str.occurrences (Str.ofString "0123456789") ⟨#[48 + k]⟩ 0 (Str.ofString "0123456789").length 1 with
 | nil=>rw[ho]at e;cases e
 | cons a r=>rw[ho]at e;cases e;dsimp only;rw[wp_ret]
theorem Qkp {cs:List Nat}{c:Nat}:numV (cs++[c])=numV cs * 10 + (c - 48):=by
 unfold numV
 rw[List.foldl_append]
 rfl
theorem Qkq:∀ (n:Nat) {cs:List Nat},cs.length=n->cs.all isDg=true->numV cs < 10 ^ n
 | 0,cs,h,_=>by rw[List.length_eq_zero_iff.mp h];decide
 | n + 1,cs,h,ha=>by
  have hne:cs≠[]:=fun e=>by rw[e]at h;cases h
  rw[<- List.dropLast_concat_getLast hne]at ha ⊢
  rw[List.all_append,Bool.and_eq_true]at ha
  have:=Qkq n (cs:=cs.dropLast) (by rw[List.length_dropLast,h];rfl) ha.1
  rw[Qkp]
  have h2:=ha.2
  simp only[List.all_cons,List.all_nil,Bool.and_true]at h2
  obtain⟨k,hk,e⟩:=Qkf h2
  rw[e,Nat.pow_succ]
  ac_nf
theorem Qkr {n:Nat}{x:Str} (h:Txo n x) (hn:n<=1000):wp (jg [.str x]) Q s=Q (.int (numI (numS x))) s:=by
 have l1:x.length<=lim:=QhO (Nat.le_trans h.1 hn)
 have as:=Qkl h
 have xl:=Qf6 x
 have em:(x == ("":Str))=decide (x.length=0):=by
  by_cases hx:x.length=0
  ·have : x = ("" : Str) := by
     rw[Qkg x]
     rw[<- xl,List.length_eq_zero_iff]at hx
     rw[hx];decide +kernel
   rw[decide_eq_true hx,this];decide +kernel
  ·rw[decide_eq_false hx,beq_eq_false_iff_ne]
   intro e
   rw[e]at hx
   exact hx (by nofun)
 apply QhR
 (simp_arith [jg];simp_arith [jy,↓Qio,l1,em])
 have hv:∀ v,(v=if x.length=0\/3 < x.length\/(1 < x.length/\x.cps.toList[0]?=some 48) then none else if x.cps.toList.all isDg=true then some (numV x.cps.toList) else none)->numS x=v:=fun v e=>by rw[e];unfold numS numC;rw[xl]
 by_cases h0:x.length=0
 ·rw[hv none (by rw[if_pos (.inl h0)])]
  rw[if_pos h0]
  try simp_arith [numI]
  try rfl
 rw[if_neg h0]
 by_cases h3:3 < x.length
 ·have e3:(3:Int) < (x.length:Int):=by ac_nf
  rw[hv none (by rw[if_pos (.inr (.inl h3))])]
  simp_arith [e3,numI]
  try rfl
 have e3:¬ (3:Int) < (x.length:Int):=by ac_nf
 simp_arith [e3]
 obtain⟨c,r,ec⟩:∃ c r,x.cps.toList=c::r:=by
  cases hx:x.cps.toList with
  | nil=>rw[hx]at xl;simp at xl;ac_nf
  | cons c r=>exact⟨c,r,rfl⟩
 have s0:∀ (Q:D->Sto->Prop) s,wp (subsD (.str x) (.int 0)) Q s=Q (.str ⟨#[c]⟩) s:=fun Q s=>by
  rw[Qkg x,ec,Qip]
  refine propext ⟨fun h=>h.2,fun h=>⟨?_,h⟩⟩
  rw[<- ec,<- Qkg];exact l1
 have ez:((⟨#[c]⟩:Str) == ("0":Str))=decide (c=48):=by
  rw[z_is]
  by_cases hc:c=48
  ·subst hc;decide
  ·rw[decide_eq_false hc]
   rw[beq_eq_false_iff_ne]
   intro e
   apply hc
   have:=congrArg (fun x:Str=>x.cps.toList) e
   simpa using this
 have eh:x.cps.toList[0]?=some c:=by rw[ec];rfl
 rw[eh]at hv
 have go : ¬ (1 < x.length /\ c = 48) -> wp (forD (gVar 2) (sSeq (sIf (tCmpB (c2 ninTD (cVar 2) (cCon (.str "0123456789")))) (sSeq (sRet (c1 negD (cCon (.int 1)))) sNext) sNext) (sSeq (sAsg (gVar 1) (c2 addD (c2 mulD (cVar 1) (cCon (.int 10))) (cIdxX (cCon (.str "0123456789")) (cVar 2)))) sNext)) anySt (signs x) [some (.str x), some (.int 0), none])
   (fun f s'=>f=(if x.cps.toList.all isDg=true then .next [some (.str x),some (.int (numV x.cps.toList:Nat)),some (.str ⟨#[x.cps.toList.getLastD 0]⟩)] else .ret (.int (-1)))/\s'=s) s:=fun hz=>by
  refine QhQ (fun i l s'=>s'=s/\(x.cps.toList.take i).all isDg=true/\l=[some (.str x),some (.int (numV (x.cps.toList.take i):Nat)),if i=0 then none else some (.str ⟨#[(x.cps.toList.take i).getLastD 0]⟩)]) (fun _ _ _ _=>trivial) ⟨rfl,rfl,rfl⟩ (fun i d l s' hd ⟨es,ha,el⟩=>?_) (fun l s' ⟨es,ha,el⟩=>?_)
  ·subst es
   subst el
   unfold signs at hd
   rw[List.getElem?_map]at hd
   cases hx:x.cps.toList[i]? with
   | none=>rw[hx]at hd;cases hd
   | some b=>
    rw[hx]at hd
    cases hd
    have tk:x.cps.toList.take (i + 1)=x.cps.toList.take i++[b]:=by rw[List.take_succ,hx];rfl
    simp_arith [↓Qkn,Qkd]
    cases hb:isDg b with
    | false=>
     simp_arith []
     have:x.cps.toList.all isDg=false:=by
      rw[List.all_eq_false]
      exact⟨b,List.mem_of_getElem? hx,by rw[hb];decide⟩
     rw[this]
     first | exact⟨rfl,rfl⟩ | rfl
    | true=>
     obtain⟨k,hk,rfl⟩:=Qkf hb
     have il:i < 3:=by
      have:=(List.getElem?_eq_some_iff.mp hx).1
      ac_nf
     have nv:=Qkq i (cs:=x.cps.toList.take i) (by rw[List.length_take];have:=(List.getElem?_eq_some_iff.mp hx).1;ac_nf) ha
     have p3:10 ^ i<=10 ^ 3:=Nat.pow_le_pow_right (by ac_nf) (by ac_nf)
     have ix:∀ (v:Option D) (Q:D->Sto->Prop) s,wp (cIdxX (cCon (.str "0123456789")) (cVar 2) [some (.str x),v,some (.str ⟨#[48 + k]⟩)]) Q s=Q (.int (k:Nat)) s:=fun v Q s=>Qko hk rfl
     simp_arith [↓ix]
     refine⟨.inr ⟨by ac_nf,by ac_nf⟩,by rw[tk,List.all_append,ha];simp[hb],?_⟩
     rw[tk,Qkp,if_neg (by ac_nf)]
     have e1:((numV (x.cps.toList.take i) * 10 + (48 + k - 48):Nat):Int)=(numV (x.cps.toList.take i):Nat) * 10 + (k:Nat):=by ac_nf
     rw[e1]
     simp
  ·subst es
   subst el
   have e:(signs x).length=x.cps.toList.length:=by unfold signs;rw[List.length_map]
   rw[e,List.take_length]at ha ⊢
   rw[ha,if_pos rfl,if_neg (by ac_nf)]
   exact⟨rfl,rfl⟩
 have fin:¬ (1 < x.length/\c=48)->∀ R:Flw->Sto->Prop,R (if x.cps.toList.all isDg=true then .next [some (.str x),some (.int (numV x.cps.toList:Nat)),some (.str ⟨#[x.cps.toList.getLastD 0]⟩)] else .ret (.int (-1))) s->wp (forD (gVar 2) (sSeq (sIf (tCmpB (c2 ninTD (cVar 2) (cCon (.str "0123456789")))) (sSeq (sRet (c1 negD (cCon (.int 1)))) sNext) sNext) (sSeq (sAsg (gVar 1) (c2 addD (c2 mulD (cVar 1) (cCon (.int 10))) (cIdxX (cCon (.str "0123456789")) (cVar 2)))) sNext)) anySt (signs x) [some (.str x),some (.int 0),none]) R s:=fun hz R hR=>QhF (go hz) fun f s' pq136=>by obtain⟨e1,e2⟩:=pq136;rw[e1,e2];exact hR
 by_cases h2:1 < x.length
 ·have e2:(1:Int) < (x.length:Int):=by ac_nf
  simp_arith [e2,↓s0,ez]
  by_cases hc:c=48
  ·rw[hv none (by rw[if_pos (.inr (.inr ⟨h2,by rw[hc]⟩))])]
   rw[if_pos hc]
   try simp_arith [numI]
   try rfl
  ·rw[if_neg (by simp[hc];ac_nf)]at hv
   rw[if_neg hc]
   simp_arith [↓Qij,as]
   refine fin (by simp[hc]) _ ?_
   cases ha:x.cps.toList.all isDg with
   | true=>rw[hv _ rfl,ha];simp_arith [numI,if_true]
   | false=>rw[hv _ rfl,ha];rw[if_neg Bool.false_ne_true,if_neg Bool.false_ne_true];simp_arith [numI]
 ·have e2:¬ (1:Int) < (x.length:Int):=by ac_nf
  simp_arith [e2,↓Qij,as]
  rw[if_neg (by ac_nf)]at hv
  refine fin (by ac_nf) _ ?_
  cases ha:x.cps.toList.all isDg with
  | true=>rw[hv _ rfl,ha];simp_arith [numI,if_true]
  | false=>rw[hv _ rfl,ha];rw[if_neg Bool.false_ne_true,if_neg Bool.false_ne_true];simp_arith [numI]
end
open PySem (Str)
theorem Qks {y p:Str}{c:Nat}:∀ {ps:List Str},p∈ps->c∈p.cps.toList->c∈(Str.join y ps).cps.toList
 | [q],h,hc=>by rw[List.mem_singleton.mp h]at hc;exact hc
 | q::r::t,h,hc=>by
  show c∈(q++y++Str.join y (r::t)).cps.toList
  rw[Str.cps_append,Str.cps_append,Array.toList_append,Array.toList_append,List.mem_append,List.mem_append]
  rcases List.mem_cons.mp h with h | h
  ·rw[h]at hc;exact .inl (.inl hc)
  ·exact .inr (Qks h hc)
theorem Qkt {y:Str}:∀ {ps:List Str},(ps.map (·.length)).sum + ps.length * y.length<=(Str.join y ps).length + y.length
 | []=>by simp
 | [q]=>by simp[Str.join]
 | q::r::t=>by
  have:=Qkt (y:=y) (ps:=r::t)
  show _<=(q++y++Str.join y (r::t)).length + y.length
  rw[PySem.Str.length_append,PySem.Str.length_append,List.map_cons,List.sum_cons,List.length_cons,Nat.succ_mul]
  ac_nf
theorem Qku {p:Str}:∀ {ps:List Str},p∈ps->p.length<=(ps.map (·.length)).sum
 | q::r,h=>by
  rw[List.map_cons,List.sum_cons]
  rcases List.mem_cons.mp h with h | h
  ·rw[h];ac_nf
  ·have:=Qku h;ac_nf
theorem Qkv {x y:Str}:((PySem.Txt.split x y).map (·.length)).sum + (PySem.Txt.split x y).length * y.length<=x.length + y.length:=by
 have:=Qkt (y:=y) (ps:=PySem.Txt.split x y)
 rw[PySem.StrLaws.join_split]at this
 exact this
theorem Qkw {n:Nat}{x y p:Str} (h:Txo n x) (hp:p∈PySem.Txt.split x y) (hy:1<=y.length):Txo n p:=by
 have e:=Qkv (x:=x) (y:=y)
 have l:=Qku hp
 have:1 * y.length<=(PySem.Txt.split x y).length * y.length:=Nat.mul_le_mul_right _ (List.length_pos_of_mem hp)
 refine⟨by have:=h.1;ac_nf,fun c hc=>h.2 c ?_⟩
 have:=Qks (y:=y) hp hc
 rw[PySem.StrLaws.join_split]at this
 exact this
theorem Qkx {n:Nat}{x y:Str} (h:Txo n x) (hy:1<=y.length):(PySem.Txt.split x y).length<=n + 1:=by
 have e:=Qkv (x:=x) (y:=y)
 have h1:=h.1
 have:(PySem.Txt.split x y).length * 1<=(PySem.Txt.split x y).length * y.length:=Nat.mul_le_mul_left _ hy
 by_cases hz:(PySem.Txt.split x y).length<=n + 1
 ·exact hz
 ·exfalso
  have h2:((PySem.Txt.split x y).length - 1) * 1<=((PySem.Txt.split x y).length - 1) * y.length:=Nat.mul_le_mul_left _ hy
  have h3:(PySem.Txt.split x y).length * y.length=((PySem.Txt.split x y).length - 1) * y.length + y.length:=by
   have:(PySem.Txt.split x y).length=(PySem.Txt.split x y).length - 1 + 1:=by ac_nf
   rw[this,Nat.succ_mul];simp
  ac_nf
theorem Qky {x y:Str}:PySem.Txt.split x y≠[]:=fun e=>by
 unfold PySem.Txt.split at e
 split at e
 ·cases e
 ·split at e
  ·cases e
  ·rw[PySem.StrLaws.partsBetween_eq]at e
   obtain⟨p,r,z⟩:=PySem.StrLaws.partsFrom_ne x y.length 0 (PySem.Builtin.Str.occurrences x y 0 x.length (x.length + 1))
   rw[z]at e;cases e
def optAll {α β:Type} (f:α->Option β):List α->Option (List β)
 | []=>some []
 | x::xs=>match f x,optAll f xs with
  | some y,some ys=>some (y::ys)
  | _,_=>none
theorem Qkz {α β:Type}{f:α->Option β}{x:α}{y:β}:∀ {xs:List α}{ys:List β},optAll f xs=some ys->f x=some y->optAll f (xs++[x])=some (ys++[y])
 | [],ys,h,e=>by cases h;simp[optAll,e]
 | z::xs,ys,h,e=>by
  show (match f z,optAll f (xs++[x]) with
   | some y,some ys=>some (y::ys)
   | _,_=>none)=_
  unfold optAll at h
  cases h1:f z with
  | none=>rw[h1]at h;cases h
  | some a=>
   cases h2:optAll f xs with
   | none=>rw[h1,h2]at h;cases h
   | some as=>
    rw[h1,h2]at h
    cases h
    rw[Qkz h2 e]
    rfl
theorem QkA {α β:Type}{f:α->Option β}{x:α} (e:f x=none):∀ {xs:List α},x∈xs->optAll f xs=none
 | z::xs,h=>by
  unfold optAll
  rcases List.mem_cons.mp h with h | h
  ·rw[<- h,e]
  ·rw[QkA e h];cases f z<;>rfl
theorem QkB {α β:Type}{f:α->Option β}{xs:List α}{i:Nat}{x:α}{y:β}{ys:List β} (h:optAll f (xs.take i)=some ys) (hx:xs[i]?=some x) (e:f x=some y):optAll f (xs.take (i + 1))=some (ys++[y]):=by
 rw[List.take_succ,hx]
 exact Qkz h e
theorem QkC {α β:Type}{f:α->Option β}:∀ {xs:List α}{ys:List β},optAll f xs=some ys->ys.length=xs.length
 | [],ys,h=>by cases h;rfl
 | z::xs,ys,h=>by
  unfold optAll at h
  cases h1:f z with
  | none=>rw[h1]at h;cases h
  | some a=>
   cases h2:optAll f xs with
   | none=>rw[h1,h2]at h;cases h
   | some as=>rw[h1,h2]at h;cases h;rw[List.length_cons,List.length_cons,QkC h2]
theorem QkD {α β:Type}{f:α->Option β}:∀ {xs:List α}{ys:List β}{y:β},optAll f xs=some ys->y∈ys->∃ x∈xs,f x=some y
 | [],ys,y,h,hy=>by cases h;cases hy
 | z::xs,ys,y,h,hy=>by
  unfold optAll at h
  cases h1:f z with
  | none=>rw[h1]at h;cases h
  | some a=>
   cases h2:optAll f xs with
   | none=>rw[h1,h2]at h;cases h
   | some as=>
    rw[h1,h2]at h;cases h
    rcases List.mem_cons.mp hy with e | e
    ·exact⟨z,List.mem_cons_self,by rw[h1,e]⟩
    ·obtain⟨x,hx,e⟩:=QkD h2 e
     exact⟨x,List.mem_cons_of_mem _ hx,e⟩
def pairO (w:Str):Option (Nat × Nat):=match (PySem.Txt.split w (".":Str)).map numS with
 | [some g,some u]=>some (g,u)
 | _=>none
def rowO (x:Str):Option (List (Nat × Nat)):=optAll pairO (PySem.Txt.split x (" ":Str))
def tabO (x:Str):Option (List (List (Nat × Nat))):=optAll rowO (PySem.Txt.split x (" / ":Str))
def okR (n m:Nat) (r:List (Nat × Nat)):Bool:=decide (r.length=m) && r.all fun p=>decide (p.1 < n)
def okT (t:List (List (Nat × Nat))):Bool:=t.all (okR t.length (t.headD []).length)
def dueO (x:Str):Option (List (List (Nat × Nat))):=match tabO x with
 | some t=>if okT t=true then some t else none
 | none=>none
def pairD (p:Nat × Nat):D:=.tup [.int (p.1:Nat),.int (p.2:Nat)]
def rwD (r:List (Nat × Nat)):D:=.tup (r.map pairD)
def tbD (t:List (List (Nat × Nat))):D:=.tup (t.map rwD)
open PySem (Str)
section
variable {s s1 s2:Sto}{Q:D->Sto->Prop}
theorem dotl:(".":Str).length=1:=by nofun
theorem spl:(" ":Str).length=1:=by nofun
theorem sll:(" / ":Str).length=3:=by nofun
def noT0:D:=.exn "NoTable" [.str "at",.int 0]
theorem QkE:∀ {os:List (Option Nat)},(os.map numD).all flatD=true
 | []=>rfl
 | none::os=>by rw[List.map_cons,List.all_cons,QkE];rfl
 | some n::os=>by rw[List.map_cons,List.all_cons,QkE];rfl
theorem QkF {l:Loc}:capt 1 [] l=[none]:=rfl
theorem pair_cases (x:Str):(∃ g u,(PySem.Txt.split x (".":Str)).map numS=[some g,some u]/\pairO x=some (g,u))\/(pairO x=none/\¬ ∃ g u,(PySem.Txt.split x (".":Str)).map numS=[some g,some u]):=by
 unfold pairO
 split
 ·rename_i g u e
  exact .inl ⟨g,u,e,rfl⟩
 ·rename_i hne
  exact .inr ⟨rfl,fun pq137=>by obtain⟨g,u,e⟩:=pq137;exact hne g u e⟩
theorem QkG {n:Nat}{x:Str} (h:Txo n x) (hn:n<=900):wpx (ji [.str x]) (fun d s'=>(∃ p,pairO x=some p/\d=pairD p)/\Ext s s') (fun d s'=>pairO x=none/\d=noT0/\Ext s s') s:=by
 have sp:=Qkx (y:=(".":Str)) h (by rw[dotl];ac_nf)
 have tx:∀ p∈PySem.Txt.split x (".":Str),Txo n p:=fun p hp=>Qkw h hp (by rw[dotl];ac_nf)
 have g1:∀ (ds:List D) Q,wp (getL s.length) Q (s++[MO.lst ds])=Q ds (s++[MO.lst ds]):=fun ds Q=>QhD Qie
 unfold ji jF
 refine QiC (Qiw (Qiy ?_))
 simp_arith [↓Qih,↓g1,QkF,dotl]
 refine⟨⟨rfl,QhO (by have:=h.1;ac_nf),QhO (by ac_nf)⟩,QhO (by rw[List.length_map];ac_nf),?_⟩
 refine (Qkj (f:=fun p=>numD (numS p)) (by exact Qie) fun p hp Q=>?_).mpr ?_
 ·have r:∀ (Q:D->Sto->Prop) s,wp (jb [.str p]) Q s=Q (numD (numS p)) s:=fun Q s=>Qkm (tx p hp) (by ac_nf)
  simp_arith [↓r]
 have em:(PySem.Txt.split x (".":Str)).map (fun p=>numD (numS p))=((PySem.Txt.split x (".":Str)).map numS).map numD:=by rw[List.map_map];rfl
 have ex:Ext s (s++[MO.lst ((PySem.Txt.split x (".":Str)).map D.str)]):=(Ext.refl _).snoc _
 generalize s++[MO.lst ((PySem.Txt.split x (".":Str)).map D.str)]=s1 at *
 simp_arith []
 rw[em]
 refine Qiw (Qiz ?_)
 simp_arith [↓Qh8,QkE,List.length_map]
 rcases pair_cases x with ⟨g,u,e,ep⟩ | ⟨ep,hne⟩
 ·have e2:(PySem.Txt.split x (".":Str)).length=2:=by have:=congrArg List.length e;simpa using this
  rw[e,e2]
  simp_arith []
  have ea:([numD (some g),numD (some u)].any fun d=>eqFl d .non)=false:=rfl
  rw[ea,if_neg (by decide)]
  refine⟨rfl,?_⟩
  rw[if_neg (by decide)]
  refine Qix ?_
  refine Qiw (Qiy ?_)
  simp_arith []
  exact⟨⟨_,ep,rfl⟩,ex⟩
 ·have fin : wpx (sSeq (xRaise "NoTable" "at" (cCon (.int 0))) sNext [some (.str x), some (.tup (((PySem.Txt.split x ("." : Str)).map numS).map numD))]) (fun f s' => match f with
      | .next l'=>wpx (sSeq (noX (sRet (cVar 1))) sNext l') (fun f s'=>match f with
       | .ret d=>(∃ p,pairO x=some p/\d=pairD p)/\Ext s s'
       | .next _=>(∃ p,pairO x=some p/\D.non=pairD p)/\Ext s s'
       | _=>False) (fun d s'=>pairO x=none/\d=noT0/\Ext s s') s'
      | f=>(match f with
       | .ret d=>(∃ p,pairO x=some p/\d=pairD p)/\Ext s s'
       | .next _=>(∃ p,pairO x=some p/\D.non=pairD p)/\Ext s s'
       | _=>False)) (fun d s'=>pairO x=none/\d=noT0/\Ext s s') s1:=Qiw (QiA (by simp_arith [];exact⟨ep,rfl,ex⟩))
  by_cases h2:(PySem.Txt.split x (".":Str)).length=2
  ·have e2:((((PySem.Txt.split x (".":Str)).length:Int) == 2))=true:=by rw[h2];rfl
   obtain⟨a,b,eo⟩:∃ a b,(PySem.Txt.split x (".":Str)).map numS=[a,b]:=by
    match ho:PySem.Txt.split x (".":Str),h2 with
    | [p,q],_=>exact⟨_,_,rfl⟩
   have ea:((((PySem.Txt.split x (".":Str)).map numS).map numD).any fun d=>eqFl d .non)=true:=by
    rw[eo]
    cases a with
    | none=>rfl
    | some a=>
     cases b with
     | none=>rfl
     | some b=>exact absurd ⟨a,b,eo⟩ hne
   rw[h2,if_neg (by decide),ea]
   exact⟨rfl,fin⟩
  ·have e2:¬ ((PySem.Txt.split x (".":Str)).length:Int)=2:=by ac_nf
   rw[if_pos (by rw[beq_eq_false_iff_ne.mpr e2];rfl)]
   exact fin
end
open PySem (Str)
section
variable {s s1 s2:Sto}{Q:D->Sto->Prop}
theorem QkH {xs:List Str}{i:Nat}{d:D} (h:(xs.map D.str)[i]?=some d):∃ x,xs[i]?=some x/\d=.str x:=by
 rw[List.getElem?_map]at h
 cases hx:xs[i]? with
 | none=>rw[hx]at h;cases h
 | some x=>rw[hx]at h;exact⟨x,rfl,(Option.some.inj h).symm⟩
theorem QkI {n:Nat}{x:Str} (h:Txo n x) (hn:n<=900):wpx (jf [.str x]) (fun d s'=>(∃ r,rowO x=some r/\d=rwD r)/\Ext s s') (fun d s'=>rowO x=none/\d=noT0/\Ext s s') s:=by
 have sp:=Qkx (y:=(" ":Str)) h (by rw[spl];ac_nf)
 have tx:∀ p∈PySem.Txt.split x (" ":Str),Txo n p:=fun p hp=>Qkw h hp (by rw[spl];ac_nf)
 have g1:∀ (ds:List D) Q,wp (getL s.length) Q (s++[MO.lst ds])=Q ds (s++[MO.lst ds]):=fun ds Q=>QhD Qie
 unfold jf jx
 refine QiC (Qiw (Qj0 (QjY ?_)))
 simp_arith [↓Qih,↓g1,QkF,spl]
 refine⟨⟨rfl,QhO (by have:=h.1;ac_nf),QhO (by ac_nf)⟩,QhO (by rw[List.length_map];ac_nf),?_⟩
 have ga:(s++[MO.lst ((PySem.Txt.split x (" ":Str)).map D.str)])[s.length]?=some (.lst ((PySem.Txt.split x (" ":Str)).map D.str)):=Qie
 have ex:Ext s (s++[MO.lst ((PySem.Txt.split x (" ":Str)).map D.str)]):=(Ext.refl _).snoc _
 generalize s++[MO.lst ((PySem.Txt.split x (" ":Str)).map D.str)]=s1 at *
 refine QjX (fun i out s'=>∃ ps,optAll pairO ((PySem.Txt.split x (" ":Str)).take i)=some ps/\out=ps.map pairD/\Ext s1 s') (fun i out s' ⟨ps,_,_,e⟩=>e.at_ ga) ⟨[],rfl,rfl,Ext.refl _⟩ (fun i d out s' hd ⟨ps,e1,e2,e3⟩=>?_) (fun out s' ⟨ps,e1,e2,e3⟩=>?_)
 ·obtain⟨p,hp,rfl⟩:=QkH hd
  refine QiB ?_
  simp_arith []
  refine Qit (QkG (tx p (List.mem_of_getElem? hp)) hn) (fun d s2 q=>?_) fun d s2 q=>?_
  ·obtain⟨⟨v,ev,rfl⟩,x2⟩:=q
   exact⟨_,QkB e1 hp ev,by rw[e2,List.map_append];rfl,e3.trans x2⟩
  ·obtain⟨ev,e4,x2⟩:=q
   exact⟨QkA ev (List.mem_of_getElem? hp),e4,ex.trans (e3.trans x2)⟩
 ·rw[List.length_map,List.take_length]at e1
  exact⟨⟨ps,e1,by rw[e2];rfl⟩,ex.trans e3⟩
theorem QkJ {r:List (Nat × Nat)}:wp (lenD (rwD r)) Q s=Q (.int (r.length:Nat)) s:=by
 unfold rwD
 simp_arith [List.length_map]
theorem QkK {t:List (List (Nat × Nat))} (h:t≠[]):wp (itemD (t.map rwD) 0) Q s=Q (rwD (t.headD [])) s:=by
 cases t with
 | nil=>exact absurd rfl h
 | cons r t=>exact QhT (i:=0) rfl
theorem QkL {α : Type} {e : CE} {same : Sto -> Prop} {xs : List α} {a b f : α -> D} {caps : Loc} {Q : List D -> Sto -> Prop} (hs : same s) (h : ∀ x ∈ xs, ∀ Q, wp (e (some (a x) :: some (b x) :: caps)) Q s = Q (f x) s) :
  wp (collect (gTupD 2 (gsCons (gVar 0) (gsCons (gVar 1) gsNil))) tTrue e same (xs.map fun x=>.tup [a x,b x]) (none::none::caps)) Q s=Q (xs.map f) s:=by
 rw[Qh6 (f:=fun i=>match xs[i]? with | some x=>f x | none=>.non) (fun l=>∃ x y,l=x::y::caps) hs ⟨_,_,rfl⟩ fun i d l hd ⟨x0,y0,el⟩=>?_]
 ·rw[List.length_map]
  exact congrArg (fun z=>Q z s) (Qki (xs:=xs) (f:=f))
 ·rw[List.getElem?_map]at hd
  cases hx:xs[i]? with
  | none=>rw[hx]at hd;cases hd
  | some x=>
   rw[hx]at hd;cases hd
   subst el
   refine⟨some (a x)::some (b x)::caps,fun G=>?_,⟨_,_,rfl⟩,fun Q=>h x (List.mem_of_getElem? hx) Q⟩
   simp_arith []
theorem QkM {t:List (List (Nat × Nat))}{r:List (Nat × Nat)} (h:t≠[]) (hr:r.length<=1000):wp (jm [tbD t,rwD r]) Q s=Q (.bl (okR t.length (t.headD []).length r)) s:=by
 have i0:∀ (Q:D->Sto->Prop) s,wp (itemD (t.map rwD) 0) Q s=Q (rwD (t.headD [])) s:=fun Q s=>QkK h
 have et:tbD t=.tup (t.map rwD):=rfl
 apply QhR
 (simp_arith [jm];simp_arith [jG,et,↓i0,↓QkJ])
 unfold okR
 by_cases hl:r.length=(t.headD []).length
 ·have hl2:((r.length:Nat):Int)=((t.headD []).length:Nat):=by rw[hl]
  rw[if_neg (by rw[hl2];simp),decide_eq_true hl,Bool.true_and]
  have er:rwD r=.tup (r.map fun p=>.tup [.int (p.1:Nat),.int (p.2:Nat)]):=rfl
  generalize rwD r=rr at *
  subst er
  simp_arith [List.length_map]
  refine⟨QhO hr,?_⟩
  rw[show ∀ t u,capt 2 [0] [some t,some u]=[none,none,some t] from fun _ _=>rfl]
  rw[QkL (f:=fun p=>.bl (decide (p.1 < t.length))) trivial fun p hp Q=>?_]
  ·simp_arith [↓all_map]
  ·simp_arith [List.length_map]
   rw[decide_eq_true (by ac_nf:(0:Int)<=(p.1:Nat)),andB_t]
   by_cases hp':p.1 < t.length
   ·rw[decide_eq_true (by ac_nf:((p.1:Nat):Int) < (t.length:Nat)),andB_t,decide_eq_true (by ac_nf:(0:Int)<=(p.2:Nat)),decide_eq_true hp']
   ·rw[decide_eq_false (by ac_nf:¬ ((p.1:Nat):Int) < (t.length:Nat)),andB_f,decide_eq_false hp']
 ·have hl2:¬ ((r.length:Nat):Int)=((t.headD []).length:Nat):=by ac_nf
  rw[if_pos (by rw[beq_eq_false_iff_ne.mpr hl2];rfl),decide_eq_false hl]
  simp_arith [Bool.false_and]
theorem QkN {t:List (List (Nat × Nat))} (h:t≠[]) (h0:t.headD []≠[]) (ht:t.length<=1000) (hr:∀ r∈t,r.length<=1000):wp (jp [tbD t]) Q s=Q (.bl (okT t)) s:=by
 have i0:∀ (Q:D->Sto->Prop) s,wp (itemD (t.map rwD) 0) Q s=Q (rwD (t.headD [])) s:=fun Q s=>QkK h
 have c0:∀ t,capt 1 [0] [some t]=[none,some t]:=fun _=>rfl
 have n1:¬ ((t.length:Nat):Int)=0:=by have:t.length≠0:=fun e=>h (List.length_eq_zero_iff.mp e);ac_nf
 have n2:¬ (((t.headD []).length:Nat):Int)=0:=by have:(t.headD []).length≠0:=fun e=>h0 (List.length_eq_zero_iff.mp e);ac_nf
 have et:tbD t=.tup (t.map rwD):=rfl
 apply QhR
 (simp_arith [jp];simp_arith [jK,et,↓i0,↓QkJ,List.length_map,c0])
 rw[if_neg n1,if_neg n2]
 refine⟨QhO ht,?_⟩
 rw[Qkj (f:=fun r=>.bl (okR t.length (t.headD []).length r)) trivial fun r hr' Q=>?_]
 ·simp_arith [↓all_map]
  rfl
 ·have w:∀ (Q:D->Sto->Prop) s,wp (jm [.tup (t.map rwD),rwD r]) Q s=Q (.bl (okR t.length (t.headD []).length r)) s:=fun Q s=>QkM h (hr r hr')
  simp_arith [↓w]
theorem QkO {n:Nat}{x:Str}{t:List (List (Nat × Nat))} (h:Txo n x) (e:tabO x=some t):t≠[]/\t.length<=n + 1/\∀ r∈t,r≠[]/\r.length<=n + 1:=by
 unfold tabO at e
 have l:=QkC e
 refine⟨fun z=>?_,?_,fun r hr=>?_⟩
 ·rw[z]at l
  exact Qky (List.length_eq_zero_iff.mp l.symm)
 ·rw[l];exact Qkx h (by rw[sll];ac_nf)
 ·obtain⟨y,hy,e2⟩:=QkD e hr
  have l2:=QkC e2
  refine⟨fun z=>?_,?_⟩
  ·rw[z]at l2
   exact Qky (List.length_eq_zero_iff.mp l2.symm)
  ·rw[l2];exact Qkx (Qkw h hy (by rw[sll];ac_nf)) (by rw[spl];ac_nf)
theorem QkP {α:Type}{t:List (List α)} (h:t≠[]):t.headD []∈t:=by
 cases t with
 | nil=>exact absurd rfl h
 | cons r t=>exact List.mem_cons_self
theorem QkQ {n:Nat}{x:Str} (h:Txo n x) (hn:n<=900):wpx (je [.str x]) (fun d s'=>(∃ t,dueO x=some t/\d=tbD t)/\Ext s s') (fun d s'=>dueO x=none/\d=noT0/\Ext s s') s:=by
 have sp:=Qkx (y:=(" / ":Str)) h (by rw[sll];ac_nf)
 have tx:∀ p∈PySem.Txt.split x (" / ":Str),Txo n p:=fun p hp=>Qkw h hp (by rw[sll];ac_nf)
 have g1:∀ (ds:List D) Q,wp (getL s.length) Q (s++[MO.lst ds])=Q ds (s++[MO.lst ds]):=fun ds Q=>QhD Qie
 unfold je jz
 refine QiC (Qiw (QjZ (QjY ?_)))
 simp_arith [↓Qih,↓g1,QkF,sll]
 refine⟨⟨rfl,QhO (by have:=h.1;ac_nf),QhO (by ac_nf)⟩,QhO (by rw[List.length_map];ac_nf),?_⟩
 have ga:(s++[MO.lst ((PySem.Txt.split x (" / ":Str)).map D.str)])[s.length]?=some (.lst ((PySem.Txt.split x (" / ":Str)).map D.str)):=Qie
 have ex:Ext s (s++[MO.lst ((PySem.Txt.split x (" / ":Str)).map D.str)]):=(Ext.refl _).snoc _
 generalize s++[MO.lst ((PySem.Txt.split x (" / ":Str)).map D.str)]=s1 at *
 refine QjX (fun i out s'=>∃ ps,optAll rowO ((PySem.Txt.split x (" / ":Str)).take i)=some ps/\out=ps.map rwD/\Ext s1 s') (fun i out s' ⟨ps,_,_,e⟩=>e.at_ ga) ⟨[],rfl,rfl,Ext.refl _⟩ (fun i d out s' hd ⟨ps,e1,e2,e3⟩=>?_) (fun out s' ⟨ps,e1,e2,e3⟩=>?_)
 ·obtain⟨p,hp,rfl⟩:=QkH hd
  refine QiB ?_
  simp_arith []
  refine Qit (QkI (tx p (List.mem_of_getElem? hp)) hn) (fun d s2 q=>?_) fun d s2 q=>?_
  ·obtain⟨⟨v,ev,rfl⟩,x2⟩:=q
   exact⟨_,QkB e1 hp ev,by rw[e2,List.map_append];rfl,e3.trans x2⟩
  ·obtain⟨ev,e4,x2⟩:=q
   refine⟨?_,e4,ex.trans (e3.trans x2)⟩
   have:tabO x=none:=QkA ev (List.mem_of_getElem? hp)
   unfold dueO
   rw[this]
 ·rw[List.length_map,List.take_length]at e1
  have e1:tabO x=some ps:=e1
  obtain⟨a1,a2,a3⟩:=QkO h e1
  have hd:=a3 _ (QkP a1)
  have ed:dueO x=if okT ps=true then some ps else none:=by unfold dueO;rw[e1]
  have et:D.tup out=tbD ps:=by rw[e2];rfl
  have w:∀ (Q:D->Sto->Prop) s,wp (jp [tbD ps]) Q s=Q (.bl (okT ps)) s:=fun Q s=>QkN a1 hd.1 (by ac_nf) fun r hr=>by have:=(a3 r hr).2;ac_nf
  rw[et]
  refine Qiw (Qiz ?_)
  simp_arith [↓w]
  cases ho:okT ps with
  | true=>
   rw[ho,if_pos rfl]at ed
   simp_arith []
   refine Qix ?_
   refine Qiw (Qiy ?_)
   simp_arith []
   exact⟨⟨_,ed,rfl⟩,ex.trans e3⟩
  | false=>
   rw[ho,if_neg Bool.false_ne_true]at ed
   simp_arith []
   exact Qiw (QiA (by simp_arith [];exact⟨ed,rfl,ex.trans e3⟩))
end
open PySem (Str)
section
variable {s s1 s2:Sto}{Q:D->Sto->Prop}
def dueD (x:Str):D:=match dueO x with
 | some t=>tbD t
 | none=>.non
theorem QkR {g:List D->M D}{n:Nat}:wp (refL g (.ref n)) Q s=wp (getL n) (fun ds s'=>wp (g ds) Q s') s:=by
 show wp (bnd _ _) _ _=_
 rw[QhC]
theorem QkS:∀ {ns:List Int},numsL (ns.map D.int)=some ns
 | []=>rfl
 | n::ns=>by
  show (numsL (ns.map D.int)).map (n::·)=_
  rw[QkS];rfl
theorem QkT {ns:List Int} (h:ns≠[]):∃ m,m∈ns/\(∀ n∈ns,n<=m)/\∀ (Q:D->Sto->Prop) s,wp (maxD (ns.map D.int)) Q s=Q (.int m) s:=by
 cases ns with
 | nil=>exact absurd rfl h
 | cons n ns=>
  have key:∀ (ns:List Int) (n:Int),ns.foldl max n∈n::ns/\∀ k∈n::ns,k<=ns.foldl max n:=by
   intro ns
   induction ns with
   | nil=>intro n;simp
   | cons a ns ih=>
    intro n
    obtain⟨h1,h2⟩:=ih (max n a)
    refine⟨?_,fun k hk=>?_⟩
    ·rcases List.mem_cons.mp h1 with e | e
     ·rw[List.foldl_cons,e]
      rcases Int.le_total n a with z | z
      ·rw[Int.max_eq_right z];simp
      ·rw[Int.max_eq_left z];simp
     ·exact List.mem_cons_of_mem _ (List.mem_cons_of_mem _ e)
    ·rw[List.foldl_cons]
     have h3:=h2 _ List.mem_cons_self
     rcases List.mem_cons.mp hk with e | e
     ·rw[e];have:=Int.le_max_left n a;ac_nf
     rcases List.mem_cons.mp e with e | e
     ·rw[e];have:=Int.le_max_right n a;ac_nf
     ·exact h2 k (List.mem_cons_of_mem _ e)
  obtain⟨h1,h2⟩:=key ns n
  refine⟨_,h1,h2,fun Q s=>?_⟩
  unfold maxD
  rw[QkS]
  dsimp only
  rw[wp_ret]
theorem min2 {a b:Int}:wp (minD [.int a,.int b]) Q s=Q (.int (min a b)) s:=wp_eq rfl
theorem QkU {r : List (Nat × Nat)} {n : Nat} (h : r ≠ []) (hr : r.length <= 1000) {l : Loc} {c : CE} (hc : ∀ (Q : D -> Sto -> Prop) s, wp (c l) Q s = Q (rwD r) s) :
  ∃ m:Int,(∀ (Q:D->Sto->Prop) s,wp (cTmp maxD (aComp 2 [] (iSeq c) (gTupD 2 (gsCons (gVar 0) (gsCons (gVar 1) gsNil))) tTrue (cVar 0)) l) Q s=Q (.int m) s)/\(m < n↔(r.all fun p=>decide (p.1 < n))=true):=by
 obtain⟨m,hm,hle,he⟩:=QkT (ns:=r.map fun p=>((p.1:Nat):Int)) (by simpa using h)
 refine⟨m,fun Q s=>?_,?_⟩
 ·have er:rwD r=.tup (r.map fun p=>.tup [.int (p.1:Nat),.int (p.2:Nat)]):=rfl
  apply QhR
  simp_arith [↓hc]
  rw[er]
  simp_arith [List.length_map]
  refine⟨QhO hr,?_⟩
  rw[show ∀ l,capt 2 [] l=[none,none] from fun _=>rfl]
  rw[QkL (f:=fun p=>.int (p.1:Nat)) trivial fun p hp Q=>by simp_arith []]
  have em:r.map (fun p=>D.int (p.1:Nat))=(r.map fun p=>((p.1:Nat):Int)).map D.int:=by rw[List.map_map];rfl
  rw[em,he]
  exact⟨rfl,rfl⟩
 ·rw[List.all_eq_true]
  constructor
  ·intro hlt p hp
   have:=hle _ (List.mem_map_of_mem (f:=fun p:Nat × Nat=>((p.1:Nat):Int)) hp)
   exact decide_eq_true (by ac_nf)
  ·intro ha
   obtain⟨p,hp,e⟩:=List.mem_map.mp hm
   have:=of_decide_eq_true (ha p hp)
   ac_nf
theorem QkV {n:Nat}{x:Str} (h:Txo n x) (hn:n<=900) (hQ:∀ s',Ext s s'->Q (dueD x) s'):wp (ju [.str x]) Q s:=by
 have sp:=Qkx (y:=(" / ":Str)) h (by rw[sll];ac_nf)
 have tx:∀ p∈PySem.Txt.split x (" / ":Str),Txo n p:=fun p hp=>Qkw h hp (by rw[sll];ac_nf)
 have g1:∀ (A ds:List D) Q,wp (getL (s++[MO.lst A]).length) Q (s++[MO.lst A]++[MO.lst ds])=Q ds (s++[MO.lst A]++[MO.lst ds]):=fun A ds Q=>QhD Qie
 (simp_arith [ju];simp_arith [jO,↓Qih,sll,Nat.zero_le,↓g1])
 refine⟨⟨rfl,QhO (by have:=h.1;ac_nf),QhO (by ac_nf)⟩,?_⟩
 have ga:(s++[MO.lst []]++[MO.lst ((PySem.Txt.split x (" / ":Str)).map D.str)])[s.length]?=some (.lst []):=Qig Qie
 have gb:(s++[MO.lst []]++[MO.lst ((PySem.Txt.split x (" / ":Str)).map D.str)])[s.length + 1]?=some (.lst ((PySem.Txt.split x (" / ":Str)).map D.str)):=Qif
 have ex:Ext s (s++[MO.lst []]++[MO.lst ((PySem.Txt.split x (" / ":Str)).map D.str)]):=((Ext.refl _).snoc _).snoc _
 have le:(s++[MO.lst ([]:List D)]).length=s.length + 1:=by simp
 rw[le]
 generalize hs1:s++[MO.lst []]++[MO.lst ((PySem.Txt.split x (" / ":Str)).map D.str)]=s1 at *
 have l1:s1.length=s.length + 2:=by rw[<- hs1];simp
 clear hs1 g1 le
 refine QhQ (fun i l s'=>∃ (ps:List (List (Nat × Nat))) (x2 x3 x4 x5:Option D),optAll rowO ((PySem.Txt.split x (" / ":Str)).take i)=some ps/\l=[some (.str x),some (.ref s.length),x2,x3,x4,x5]/\s'[s.length]?=some (.lst (ps.map rwD))/\s'[s.length + 1]?=some (.lst ((PySem.Txt.split x (" / ":Str)).map D.str))/\Ext s s'/\s.length + 2<=s'.length) (fun _ _ _ ⟨_,_,_,_,_,_,_,_,z,_⟩=>z) ⟨[],_,_,_,_,rfl,rfl,ga,gb,ex,by ac_nf⟩ (fun i d l s' hd hZ=>?_) (fun l s' hZ=>?_)
 ·obtain⟨ps,x2,x3,x4,x5,e1,el,ga',gb',ex',l1'⟩:=hZ
  subst el
  obtain⟨row,hrow,rfl⟩:=QkH hd
  have tr:=tx row (List.mem_of_getElem? hrow)
  have sp2:=Qkx (y:=(" ":Str)) tr (by rw[spl];ac_nf)
  have tx2:∀ p∈PySem.Txt.split row (" ":Str),Txo n p:=fun p hp=>Qkw tr hp (by rw[spl];ac_nf)
  have g2:∀ (A ds:List D) Q,wp (getL (s'++[MO.lst A]).length) Q (s'++[MO.lst A]++[MO.lst ds])=Q ds (s'++[MO.lst A]++[MO.lst ds]):=fun A ds Q=>QhD Qie
  simp_arith [↓Qih,spl,Nat.zero_le,↓g2]
  refine⟨⟨rfl,QhO (by have:=tr.1;ac_nf),QhO (by ac_nf)⟩,?_⟩
  have gc:(s'++[MO.lst []]++[MO.lst ((PySem.Txt.split row (" ":Str)).map D.str)])[s'.length]?=some (.lst []):=Qig Qie
  have gd:(s'++[MO.lst []]++[MO.lst ((PySem.Txt.split row (" ":Str)).map D.str)])[s'.length + 1]?=some (.lst ((PySem.Txt.split row (" ":Str)).map D.str)):=Qif
  have ex2:Ext s' (s'++[MO.lst []]++[MO.lst ((PySem.Txt.split row (" ":Str)).map D.str)]):=((Ext.refl _).snoc _).snoc _
  have le:(s'++[MO.lst ([]:List D)]).length=s'.length + 1:=by simp
  rw[le]
  generalize hs1:s'++[MO.lst []]++[MO.lst ((PySem.Txt.split row (" ":Str)).map D.str)]=s3 at *
  have l3:s3.length=s'.length + 2:=by rw[<- hs1];simp
  clear hs1 g2 le
  refine QhQ (fun j l s4=>∃ (qs:List (Nat × Nat)) (x4 x5:Option D),optAll pairO ((PySem.Txt.split row (" ":Str)).take j)=some qs/\l=[some (.str x),some (.ref s.length),some (.str row),some (.ref s'.length),x4,x5]/\s4[s'.length]?=some (.lst (qs.map pairD))/\s4[s'.length + 1]?=some (.lst ((PySem.Txt.split row (" ":Str)).map D.str))/\Ext s' s4/\s'.length + 2<=s4.length) (fun _ _ _ ⟨_,_,_,_,_,_,z,_⟩=>z) ⟨[],_,_,rfl,rfl,gc,gd,ex2,by ac_nf⟩ (fun j d l s4 hd hZ=>?_) (fun l s4 hZ=>?_)
  ·obtain⟨qs,x4,x5,e4,el,gc',gd',ex4,l4⟩:=hZ
   subst el
   obtain⟨w,hw,rfl⟩:=QkH hd
   have tw:=tx2 w (List.mem_of_getElem? hw)
   have sp3:=Qkx (y:=(".":Str)) tw (by rw[dotl];ac_nf)
   have tx3:∀ p∈PySem.Txt.split w (".":Str),Txo n p:=fun p hp=>Qkw tw hp (by rw[dotl];ac_nf)
   have g3:∀ (ds:List D) Q,wp (getL s4.length) Q (s4++[MO.lst ds])=Q ds (s4++[MO.lst ds]):=fun ds Q=>QhD Qie
   simp_arith [↓Qih,dotl,↓g3,QkF]
   refine⟨⟨rfl,QhO (by have:=tw.1;ac_nf),QhO (by ac_nf)⟩,QhO (by rw[List.length_map];ac_nf),?_⟩
   refine (Qkj (f:=fun p=>.int (numI (numS p))) (by exact Qie) fun p hp Q=>?_).mpr ?_
   ·have r:∀ (Q:D->Sto->Prop) s,wp (jg [.str p]) Q s=Q (.int (numI (numS p))) s:=fun Q s=>Qkr (tx3 p hp) (by ac_nf)
    simp_arith [↓r]
   have ex5:Ext s4 (s4++[MO.lst ((PySem.Txt.split w (".":Str)).map D.str)]):=(Ext.refl _).snoc _
   generalize s4++[MO.lst ((PySem.Txt.split w (".":Str)).map D.str)]=s5 at *
   have em:(PySem.Txt.split w (".":Str)).map (fun p=>D.int (numI (numS p)))=((PySem.Txt.split w (".":Str)).map numS).map fun o=>.int (numI o):=by rw[List.map_map];rfl
   rw[em]
   have g5:∀ (ds:List D) Q,wp (getL s5.length) Q (s5++[MO.lst ds])=Q ds (s5++[MO.lst ds]):=fun ds Q=>QhD Qie
   simp_arith [↓g5,↓QkR,List.length_map]
   have bad:pairO w=none->∀ s',Ext s s'->Q .non s':=fun ep s' e=>by
    have:rowO row=none:=QkA ep (List.mem_of_getElem? hw)
    have:tabO x=none:=QkA this (List.mem_of_getElem? hrow)
    have:dueD x=.non:=by unfold dueD dueO;rw[this]
    rw[<- this]
    exact hQ s' e
   have ex6:Ext s s5:=(ex'.trans ex4).trans ex5
   rcases pair_cases w with ⟨g,u,eo,ep⟩ | ⟨ep,hne⟩
   ·have e2:(PySem.Txt.split w (".":Str)).length=2:=by have:=congrArg List.length eo;simpa using this
    rw[eo,e2]
    have eg:([some g,some u].map fun o=>D.int (numI o))=[.int (g:Nat),.int (u:Nat)]:=rfl
    rw[eg]
    rw[if_neg (by decide)]
    have ga6:(s5++[MO.lst [.int (g:Nat),.int (u:Nat)]])[s'.length]?=some (.lst (qs.map pairD)):=Qig (ex5.at_ gc')
    have l5:=ex5.le
    have q6:∀ Q,wp (getL s'.length) Q (s5++[MO.lst [.int (g:Nat),.int (u:Nat)]])=Q (qs.map pairD) (s5++[MO.lst [.int (g:Nat),.int (u:Nat)]]):=fun Q=>QhD ga6
    have q7:∀ es Q,wp (putL s'.length es) Q (s5++[MO.lst [.int (g:Nat),.int (u:Nat)]])=Q () ((s5++[MO.lst [.int (g:Nat),.int (u:Nat)]]).set s'.length (.lst es)):=fun es Q=>QhE ga6
    have mn:¬ min ((g:Nat):Int) (u:Nat) < 0:=by ac_nf
    simp_arith [↓min2,mn,↓g5,↓q6,↓q7]
    have ql:qs.length<=901:=by
     rw[QkC e4,List.length_take];ac_nf
    refine⟨QhO (by show 2<=1000;ac_nf),QhP (by rw[List.length_map];ac_nf),_,_,_,QkB e4 hw ep,rfl,?_,?_,?_,?_⟩
    ·rw[List.getElem?_set_self (by simp;ac_nf),List.map_append];rfl
    ·rw[List.getElem?_set_ne (by ac_nf)];exact Qig (ex5.at_ gd')
    ·exact ((ex4.trans ex5).snoc _).put (Nat.le_refl _)
    ·simp;ac_nf
   ·by_cases h2:(PySem.Txt.split w (".":Str)).length=2
    ·obtain ⟨a, b, eo⟩ : ∃ a b, (PySem.Txt.split w ("." : Str)).map numS = [a, b] := by
       match ho:PySem.Txt.split w (".":Str),h2 with
       | [p,q],_=>exact⟨_,_,rfl⟩
     rw[eo,h2,if_neg (by decide)]
     have eg:([a,b].map fun o=>D.int (numI o))=[.int (numI a),.int (numI b)]:=rfl
     rw[eg]
     have mn:min (numI a) (numI b) < 0:=by
      cases a with
      | none=>have:numI none = -1:=rfl;ac_nf
      | some a=>
       cases b with
       | none=>have:numI none = -1:=rfl;ac_nf
       | some b=>exact absurd ⟨a,b,eo⟩ hne
     simp_arith [↓min2,mn]
     exact bad ep _ (ex6.snoc _)
    ·have e2:¬ ((PySem.Txt.split w (".":Str)).length:Int)=2:=by ac_nf
     rw[if_pos (by rw[beq_eq_false_iff_ne.mpr e2];rfl)]
     try simp_arith []
     exact bad ep _ (ex6.snoc _)
  ·obtain⟨qs,x4,x5,e4,el,gc',gd',ex4,l4⟩:=hZ
   subst el
   rw[List.length_map,List.take_length]at e4
   have q6:∀ Q,wp (getL s'.length) Q s4=Q (qs.map pairD) s4:=fun Q=>QhD gc'
   have ga4:=ex4.at_ ga'
   have q7:∀ Q,wp (getL s.length) Q s4=Q (ps.map rwD) s4:=fun Q=>QhD ga4
   have q8:∀ es Q,wp (putL s.length es) Q s4=Q () (s4.set s.length (.lst es)):=fun es Q=>QhE ga4
   simp_arith [↓q6,↓q7,↓q8]
   have pl:ps.length<=901:=by rw[QkC e1,List.length_take];ac_nf
   refine⟨QhP (by rw[List.length_map];ac_nf),_,_,_,_,_,QkB e1 hrow e4,rfl,?_,?_,?_,?_⟩
   ·rw[List.getElem?_set_self (by ac_nf),List.map_append];rfl
   ·rw[List.getElem?_set_ne (by ac_nf)];exact ex4.at_ gb'
   ·exact (ex'.trans ex4).put (Nat.le_refl _)
   ·rw[List.length_set];ac_nf
 ·obtain⟨ps,x2,x3,x4,x5,e1,el,ga',gb',ex',l1'⟩:=hZ
  subst el
  rw[List.length_map,List.take_length]at e1
  have e1:tabO x=some ps:=e1
  obtain⟨a1,a2,a3⟩:=QkO h e1
  have q7:∀ Q,wp (getL s.length) Q s'=Q (ps.map rwD) s':=fun Q=>QhD ga'
  have i0:∀ (Q:D->Sto->Prop) s,wp (itemD (ps.map rwD) 0) Q s=Q (rwD (ps.headD [])) s:=fun Q s=>QkK a1
  have hdu:dueO x=if okT ps=true then some ps else none:=by unfold dueO;rw[e1]
  simp_arith [↓q7]
  refine QhQ (fun i l s2=>s2=s'/\(∃ x2,l=[some (.str x),some (.ref s.length),x2,x3,x4,x5])/\∀ r∈ps.take i,okR ps.length (ps.headD []).length r=true) (fun _ _ _ z=>by rw[z.1];exact ga') ⟨rfl,⟨_,rfl⟩,by simp⟩ (fun i d l s2 hd hZ=>?_) (fun l s2 hZ=>?_)
  ·obtain⟨es,⟨x2',el⟩,hr⟩:=hZ
   subst es el
   obtain⟨r,hr',rfl⟩:∃ r,ps[i]?=some r/\d=rwD r:=by
    rw[List.getElem?_map]at hd
    cases hx:ps[i]? with
    | none=>rw[hx]at hd;cases hd
    | some r=>rw[hx]at hd;exact⟨r,rfl,(Option.some.inj hd).symm⟩
   obtain⟨b1,b2⟩:=a3 r (List.mem_of_getElem? hr')
   obtain⟨m,hm,hlt⟩:=QkU (r:=r) (n:=ps.length) b1 (by ac_nf) (l:=[some (.str x),some (.ref s.length),some (rwD r),x3,x4,x5]) (c:=cVar 2) fun Q s=>by rw[x_var];rfl
   have no:okR ps.length (ps.headD []).length r=false->Q .non s2:=fun ho=>by
    have:okT ps=false:=by
     unfold okT
     rw[List.all_eq_false]
     exact⟨r,List.mem_of_getElem? hr',by rw[ho];decide⟩
    rw[this,if_neg Bool.false_ne_true]at hdu
    have:dueD x=.non:=by unfold dueD;rw[hdu]
    rw[<- this]
    exact hQ _ ex'
   simp_arith [↓QkJ,↓q7,↓i0,↓hm,List.length_map]
   by_cases hl:r.length=(ps.headD []).length
   ·have hl2:((r.length:Nat):Int)=((ps.headD []).length:Nat):=by rw[hl]
    rw[if_neg (by rw[hl2];simp)]
    cases ha:(r.all fun p=>decide (p.1 < ps.length)) with
    | true=>
     have:=hlt.mpr ha
     rw[if_neg (by ac_nf)]
     refine⟨⟨_,rfl⟩,fun r' h'=>?_⟩
     rw[List.take_succ,hr']at h'
     rcases List.mem_append.mp h' with h' | h'
     ·exact hr r' h'
     ·have e:r'=r:=by simpa using h'
      rw[e]
      unfold okR
      rw[ha,decide_eq_true hl]
      rfl
    | false=>
     have:¬ m < ps.length:=fun z=>by rw[hlt.mp z]at ha;cases ha
     rw[if_pos (by ac_nf)]
     exact no (by unfold okR;rw[ha,Bool.and_false])
   ·have hl2:¬ ((r.length:Nat):Int)=((ps.headD []).length:Nat):=by ac_nf
    rw[if_pos (by rw[beq_eq_false_iff_ne.mpr hl2];rfl)]
    exact no (by unfold okR;rw[decide_eq_false hl,Bool.false_and])
  ·obtain⟨es,⟨x2',el⟩,hr⟩:=hZ
   subst es el
   rw[List.length_map,List.take_length]at hr
   have:okT ps=true:=by unfold okT;rw[List.all_eq_true];exact hr
   rw[this,if_pos rfl]at hdu
   simp_arith [↓q7]
   have:dueD x=tbD ps:=by unfold dueD;rw[hdu]
   have h2:=hQ _ ex'
   rw[this]at h2
   exact h2
end
open PySem (Str)
section
variable {s s1 s2:Sto}{Q:D->Sto->Prop}
theorem QkW:wp (attrX "NoTable" "at" noT0) Q s=Q (.int 0) s:=by
 show wp (chk _ _) Q s=_
 rw[wp_chk,wp_ret];exact propext ⟨fun h=>h.2,fun h=>⟨⟨rfl,rfl⟩,h⟩⟩
theorem QkX {b:Str->Bool}:wp (isiX ["NoTable"] b noT0) Q s=Q (.bl (b "NoTable")) s:=by
 show wp (chk _ _) Q s=_
 rw[wp_chk,wp_ret];exact propext ⟨fun h=>h.2,fun h=>⟨List.mem_singleton.mpr rfl,h⟩⟩
theorem b1:((("NoTable":Str) == "PactError") || (("PactError":Str) == "PactError"))=true:=by nofun
theorem b2:((["NoHouse","NoText"]:List String).any fun t=>(PySem.Str.ofString "NoTable") == PySem.Str.ofString t || (PySem.Str.ofString "PactError") == PySem.Str.ofString t)=false:=by nofun
theorem b3:((["TooMany","NotMeek","NoMark"]:List String).any fun t=>(PySem.Str.ofString "NoTable") == PySem.Str.ofString t || (PySem.Str.ofString "PactError") == PySem.Str.ofString t)=false:=by nofun
theorem b4:((["NotGood","NoRow"]:List String).any fun t=>(PySem.Str.ofString "NoTable") == PySem.Str.ofString t || (PySem.Str.ofString "PactError") == PySem.Str.ofString t)=false:=by nofun
def five:List D:=[.int 0,.bl true,.bl false,.bl false,.bl false]
theorem QkY {n:Nat}{x:Str} (h:Txo n x) (hn:n<=900) (h1:∀ t,dueO x=some t->∀ s',Ext s s'->Q (.tup [.non,tbD t]) s') (h2:dueO x=none->∀ r s',s'[r]?=some (.lst five)->Ext s s'->Q (.tup [.ref r,.non]) s'):wp (jc [.str x]) Q s:=by
 have l2:2<=lim:=QhO (by ac_nf)
 have l3:3<=lim:=QhO (by ac_nf)
 (simp_arith [jc];simp_arith [jI])
 refine QiD ?_
 simp_arith []
 refine Qit (QkQ h hn) (fun d s' q=>?_) (fun d s' q=>?_)
 ·obtain⟨⟨t,e,rfl⟩,x1⟩:=q
  simp_arith [l2]
  exact h1 t e s' x1
 ·obtain⟨e,rfl,x1⟩:=q
  refine⟨_,rfl,?_⟩
  rw[show D.exn "NoTable" [.str "at",.int 0]=noT0 from rfl]
  simp_arith [↓QkW,↓QkX,b1,b2,b3,b4,l2,l3]
  have g1:∀ o2:MO,(s'++[MO.lst [.int 0,.bl true,.bl false]]++[o2])[s'.length]?=some (.lst [.int 0,.bl true,.bl false]):=fun o2=>by simp
  have g2:(s'++[MO.lst [.int 0,.bl true,.bl false]]++[MO.lst [.bl false,.bl false]])[(s'++[MO.lst [.int 0,D.bl true,D.bl false]]).length]?=some (.lst [.bl false,.bl false]):=by simp
  have x2:Ext s (s'++[MO.lst [.int 0,.bl true,.bl false]]++[MO.lst [.bl false,.bl false]]):=(x1.snoc _).snoc _
  rw[QhS (g1 _) g2]
  refine⟨QhO (by simp),?_⟩
  generalize s'++[MO.lst [.int 0,D.bl true,D.bl false]]++[MO.lst [D.bl false,D.bl false]]=s2 at *
  simp_arith [l2]
  exact h2 e _ _ (by simp;rfl) (x2.snoc _)
theorem QkZ {i:Int}:wp (jj [.int i]) Q s=Q (.bl true) s:=by
 (simp_arith [jj];simp_arith [jE])
theorem Qk0 {t:List (List (Nat × Nat))} (h:t≠[]) (ht:t.length<=1000) (hr:∀ r∈t,r≠[]/\r.length<=1000):∃ b,∀ (Q:D->Sto->Prop) s,wp (jk [tbD t]) Q s=Q (.bl b) s:=by
 have i0:∀ (Q:D->Sto->Prop) s,wp (itemD (t.map rwD) 0) Q s=Q (rwD (t.headD [])) s:=fun Q s=>QkK h
 have mx:∀ r:List (Nat × Nat),∃ m:Int,r∈t->∀ (Q:D->Sto->Prop) s,wp (cTmp maxD (aComp 2 [] (iSeq (cVar 0)) (gTupD 2 (gsCons (gVar 0) (gsCons (gVar 1) gsNil))) tTrue (cVar 1)) [some (rwD r)]) Q s=Q (.int m) s:=fun r=>by
  by_cases hm:r∈t
  ·obtain⟨h1,h2⟩:=hr r hm
   obtain⟨m,_,_,he⟩:=QkT (ns:=r.map fun p=>((p.2:Nat):Int)) (by simpa using h1)
   refine⟨m,fun _ Q s=>?_⟩
   have er:rwD r=.tup (r.map fun p=>.tup [.int (p.1:Nat),.int (p.2:Nat)]):=rfl
   apply QhR
   simp_arith []
   rw[er]
   simp_arith [List.length_map]
   refine⟨QhO h2,?_⟩
   rw[show ∀ l,capt 2 [] l=[none,none] from fun _=>rfl]
   rw[QkL (f:=fun p=>.int (p.2:Nat)) trivial fun p hp Q=>by simp_arith []]
   have em:r.map (fun p=>D.int (p.2:Nat))=(r.map fun p=>((p.2:Nat):Int)).map D.int:=by rw[List.map_map];rfl
   rw[em,he]
   exact⟨rfl,rfl⟩
  ·exact⟨0,fun z=>absurd z hm⟩
 obtain⟨m,_,_,he⟩:=QkT (ns:=t.map fun r=>Classical.choose (mx r)) (by simpa using h)
 have et:tbD t=.tup (t.map rwD):=rfl
 refine⟨if (4 < t.length\/4 < (t.headD []).length) then true else decide (3 < m),fun Q s=>?_⟩
 apply QhR
 (simp_arith [jk];simp_arith [jA,et,↓i0,↓QkJ,List.length_map])
 by_cases z1:4 < t.length
 ·have:(4:Int) < (t.length:Nat):=by ac_nf
  simp_arith [this,z1,true_or]
 have y1:¬ (4:Int) < (t.length:Nat):=by ac_nf
 by_cases z2:4 < (t.headD []).length
 ·have:(4:Int) < ((t.headD []).length:Nat):=by ac_nf
  simp_arith [this,y1,z2,or_true]
 have y2:¬ (4:Int) < ((t.headD []).length:Nat):=by ac_nf
 rw[if_neg y1,if_neg y2]
 refine⟨QhO ht,?_⟩
 rw[show ∀ l,capt 1 [] l=[none] from fun _=>rfl]
 rw[Qkj (f:=fun r=>.int (Classical.choose (mx r))) trivial fun r hr' Q=>(Classical.choose_spec (mx r)) hr' Q s]
 have em:t.map (fun r=>D.int (Classical.choose (mx r)))=(t.map fun r=>Classical.choose (mx r)).map D.int:=by rw[List.map_map];rfl
 rw[em]
 simp_arith [↓he]
 rw[if_neg (by ac_nf)]
theorem Qk1 (t:List (List (Nat × Nat))):Pd 3 (tbD t):=.tup fun d hd=>by
 obtain⟨r,_,rfl⟩:=List.mem_map.mp hd
 refine .tup fun d hd=>?_
 obtain⟨p,_,rfl⟩:=List.mem_map.mp hd
 refine .tup fun d hd=>?_
 rcases List.mem_cons.mp hd with h | h
 ·subst h;exact .int _
 ·rw[List.mem_singleton]at h;subst h;exact .int _
theorem Qk2 {x:Str}{t:List (List (Nat × Nat))} (h:dueO x=some t):tabO x=some t:=by
 unfold dueO at h
 split at h
 ·rename_i t' e
  split at h
  ·cases h;exact e
  ·cases h
 ·cases h
theorem Qk3 {n:Nat}{x:Str} (h:Txo n x) (hn:n<=900) (hQ:∀ s',Ext s s'->Q (.bl true) s'):wp (jd [.str x]) Q s:=by
 have l5:5<=lim:=QhO (by ac_nf)
 (simp_arith [jd];simp_arith [jC])
 refine QkV h hn fun s1 x1=>?_
 cases hd:dueO x with
 | some t=>
  obtain⟨a1,a2,a3⟩:=QkO h (Qk2 hd)
  have ed:dueD x=tbD t:=by unfold dueD;rw[hd]
  have et:tbD t=.tup (t.map rwD):=rfl
  obtain⟨b,hb⟩:=Qk0 a1 (by ac_nf) fun r hr=>⟨(a3 r hr).1,by have:=(a3 r hr).2;ac_nf⟩
  rw[ed]
  have w:∀ (Q:D->Sto->Prop) s,wp (isntD (tbD t) .non) Q s=Q (.bl true) s:=fun Q s=>wp_eq rfl
  have w2:∀ (Q:D->Sto->Prop) s,wp (eqD (tbD t) (tbD t)) Q s=Q (.bl true) s:=fun Q s=>Qia (Qk1 t) (by decide)
  have w3:∀ (Q:D->Sto->Prop) s,wp (isInst ["tuple"] (tbD t)) Q s=Q (.bl true) s:=fun Q s=>wp_eq rfl
  have w4:∀ (Q:D->Sto->Prop) s,wp (isD .non .non) Q s=Q (.bl true) s:=fun Q s=>wp_eq rfl
  simp_arith [↓w,↓hb]
  cases b with
  | true=>
   simp_arith []
   exact hQ _ x1
  | false=>
   simp_arith []
   refine QkY h hn (fun t' e s2 x2=>?_) fun e=>by rw[hd]at e;cases e
   rw[hd]at e
   cases e
   simp_arith [↓w,↓w4,↓w3,↓w2]
   exact hQ _ (x1.trans x2)
 | none=>
  have ed:dueD x=.non:=by unfold dueD;rw[hd]
  rw[ed]
  have w:∀ (Q:D->Sto->Prop) s,wp (isntD .non .non) Q s=Q (.bl false) s:=fun Q s=>wp_eq rfl
  have w1:∀ r (Q:D->Sto->Prop) s,wp (isD (.ref r) .non) Q s=Q (.bl false) s:=fun r Q s=>wp_eq rfl
  simp_arith [↓w]
  refine QkY h hn (fun t' e=>by rw[hd]at e;cases e) fun e r s2 gr x2=>?_
  have q1:∀ Q,wp (getL r) Q s2=Q five s2:=fun Q=>QhD gr
  have i0:∀ (Q:D->Sto->Prop) s,wp (itemD five 0) Q s=Q (.int 0) s:=fun Q s=>QhT (i:=0) rfl
  have ww:∀ (Q:D->Sto->Prop) s,wp (jj [.int 0]) Q s=Q (.bl true) s:=fun Q s=>QkZ
  simp_arith [↓w,↓w1,↓q1,↓i0,↓ww,l5]
  have g2:(s2++[MO.lst five])[s2.length]?=some (.lst five):=Qie
  have pf:∀ d∈five,Pd 0 d:=fun d hd=>by
   unfold five at hd
   simp at hd
   rcases hd with h | h | h<;>subst h
   ·exact .int _
   ·exact .bl _
   ·exact .bl _
  rw[show [D.int 0,.bl true,.bl false,.bl false,.bl false]=five from rfl]
  rw[Qic (Qig gr) g2 pf (by ac_nf)]
  simp_arith []
  exact hQ _ ((x1.trans x2).snoc _)
end
open PySem (Str)
def Wt (y:Nat) (ps:List Str):Nat:=(ps.map (·.length)).sum + ps.length * y
def Asc (ps:List Str):Prop:=∀ p∈ps,∀ c∈p.cps.toList,c < 128
theorem Qk4 {y:Nat}{a b:List Str}:Wt y (a++b)=Wt y a + Wt y b:=by
 unfold Wt;rw[List.map_append,List.sum_append,List.length_append,Nat.add_mul];ac_nf
theorem Qk5 {y:Nat}{a:Str}:Wt y [a]=a.length + y:=by unfold Wt;simp
theorem Qk6 {y i:Nat}{a:List Str}:Wt y (a.take i) + Wt y (a.drop i)=Wt y a:=by rw[<- Qk4,List.take_append_drop]
theorem Qk7 {y i:Nat}{a:List Str}:Wt y (a.drop i)<=Wt y a:=by have:=Qk6 (y:=y) (i:=i) (a:=a);ac_nf
theorem Asc.app {a b:List Str} (h:Asc a) (k:Asc b):Asc (a++b):=fun p hp=>by
 rcases List.mem_append.mp hp with z | z
 ·exact h p z
 ·exact k p z
theorem Asc.take {a:List Str}{i:Nat} (h:Asc a):Asc (a.take i):=fun p hp=>h p (List.mem_of_mem_take hp)
theorem Asc.drop {a:List Str}{i:Nat} (h:Asc a):Asc (a.drop i):=fun p hp=>h p (List.mem_of_mem_drop hp)
theorem Asc.one {n:Nat}{x:Str} (h:Txo n x):Asc [x]:=fun p hp=>by rw[List.mem_singleton.mp hp];exact h.2
theorem Qk8 {n:Nat}{x y:Str} (h:Txo n x) (hy:1<=y.length):Asc (PySem.Txt.split x y):=fun p hp=>(Qkw h hp hy).2
theorem Qk9 {x y:Str}:Wt y.length (PySem.Txt.split x y)<=x.length + y.length:=Qkv
theorem mem_join {y:Str}{c:Nat}:∀ {ps:List Str},c∈(Str.join y ps).cps.toList->c∈y.cps.toList\/∃ p∈ps,c∈p.cps.toList
 | [],h=>by cases h
 | [p],h=>.inr ⟨p,by simp,h⟩
 | p::q::r,h=>by
  have h:c∈(p++y++Str.join y (q::r)).cps.toList:=h
  rw[Str.cps_append,Str.cps_append,Array.toList_append,Array.toList_append,List.mem_append,List.mem_append]at h
  rcases h with (h | h) | h
  ·exact .inr ⟨p,by simp,h⟩
  ·exact .inl h
  ·rcases mem_join h with h | ⟨z,hz,h⟩
   ·exact .inl h
   ·exact .inr ⟨z,List.mem_cons_of_mem _ hz,h⟩
theorem Qla {n:Nat}{y:Str}{ps:List Str} (h:Asc ps) (hy:∀ c∈y.cps.toList,c < 128) (hw:Wt y.length ps<=n):Txo n (PySem.Txt.join y ps):=by
 have e:PySem.Txt.join y ps=Str.join y ps:=PySem.StrLaws.glued_eq_join y ps
 rw[e]
 refine⟨Nat.le_trans (PySem.StrLaws.join_length_le _ _) hw,fun c hc=>?_⟩
 rcases mem_join hc with z | ⟨p,hp,z⟩
 ·exact hy c z
 ·exact h p hp c z
theorem Qlb {n m k:Nat}{x y:Str} (h:Txo n x) (h2:Txo m y) (hk:n + m<=k):Txo k (x++y):=by
 refine⟨by rw[PySem.Str.length_append];have:=h.1;have:=h2.1;ac_nf,fun c hc=>?_⟩
 rw[PySem.Str.cps_append,Array.toList_append]at hc
 rcases List.mem_append.mp hc with z | z
 ·exact h.2 c z
 ·exact h2.2 c z
theorem Txo.mono {n m:Nat}{x:Str} (h:Txo n x) (hm:n<=m):Txo m x:=⟨Nat.le_trans h.1 hm,h.2⟩
theorem Qlc {n:Nat}{x:Str}{i j:Option Int} (h:Txo n x):Txo n (PySem.Txt.slice x i j):=by
 refine⟨Nat.le_trans (PySem.Txt.slice_le x i j) h.1,fun c hc=>?_⟩
 unfold PySem.Txt.slice at hc
 split at hc
 ·exact h.2 c hc
 ·obtain⟨k,_,e⟩:=List.mem_filterMap.mp (by simpa only[List.toList_toArray] using hc)
  refine h.2 c ?_
  have:=Array.mem_of_getElem? e
  simpa using this
theorem Qld:∀ {xs:List Str},strsOf (xs.map D.str)=some xs
 | []=>rfl
 | x::xs=>by
  show (strsOf (xs.map D.str)).map (x::·)=_
  rw[Qld];rfl
section
variable {s s1 s2:Sto}{Q:D->Sto->Prop}
theorem Qle {ds:List D}{r:Int} (h0:0<=r) (h:r<=ds.length):cutD ds none (some r)=ds.take r.toNat:=by
 unfold cutD sIx
 have e:(if r < 0 then (r + (ds.length:Int)).toNat else min r.toNat ds.length)=r.toNat:=by rw[if_neg (by ac_nf)];ac_nf
 simp only[e]
 rfl
theorem Qlf {ds:List D}{r:Int} (h0:0<=r) (h:r<=ds.length):cutD ds (some r) none=ds.drop r.toNat:=by
 unfold cutD sIx
 have e:(if r < 0 then (r + (ds.length:Int)).toNat else min r.toNat ds.length)=r.toNat:=by rw[if_neg (by ac_nf)];ac_nf
 simp only[e]
 exact List.take_of_length_le (by rw[List.length_drop];exact Nat.le_refl _)
theorem Qlg {a : CE} {lo hi : CO} {l : Loc} : wp (cSliceS a lo hi l) Q s = wp (a l) (fun x s1 => wp (lo l) (fun i s2 => wp (hi l) (fun j s3 => match x with
  | .str x=>x.length<=lim/\Q (.str (PySem.Txt.slice x i j)) s3
  | _=>False) s2) s1) s:=by
 unfold cSliceS
 rw[QhC]
 refine wp_cg fun x s1=>?_
 rw[QhC]
 refine wp_cg fun i s2=>?_
 rw[QhC]
 refine wp_cg fun j s3=>?_
 cases x<;>first | exact wp_no rfl | skip
 dsimp only
 rw[wp_chk,wp_ret]
theorem Qlh {x:Str}{r:Int} (h0:0<=r) (h:r < x.length) (hl:x.length<=1000) (ha:∀ c∈x.cps.toList,c < 128):∃ c:Str,Txo 1 c/\∀ (Q:D->Sto->Prop) s,wp (subsD (.str x) (.int r)) Q s=Q (.str c) s:=by
 have xl:=Qf6 x
 have hk:r.toNat < x.cps.toList.length:=by ac_nf
 refine⟨⟨#[x.cps.toList[r.toNat]]⟩,⟨Nat.le_refl 1,fun c hc=>?_⟩,fun Q s=>?_⟩
 ·have:c=x.cps.toList[r.toNat]:=by simpa using hc
  rw[this];exact ha _ (List.getElem_mem hk)
 ·show wp (chk _ _) Q s=_
  rw[wp_chk]
  have e:ixN x.length r=some r.toNat:=by unfold ixN;rw[if_pos h0,if_pos h]
  rw[e]
  dsimp only
  rw[List.getElem?_eq_getElem hk]
  dsimp only
  rw[wp_ret]
  exact propext ⟨fun h=>h.2,fun h=>⟨QhO hl,h⟩⟩
end
open PySem (Str)
def sg1:Str:=" !\"#$&'()*+,-./0123456789:;<=>?@ABCDEFGHIJKLMNOPQRSTUVWXYZ[\\]^_`"
def sg2:Str:="abcdefghijklmnopqrstuvwxyz{|}~\n"
def sg3:Str:="0123. /.  "
theorem sg12:(sg1++sg2).length=95/\sg1.length + sg2.length=95/\∀ c∈(sg1++sg2).cps.toList,c < 128:=by nofun
theorem Qli:sg3.length=10/\∀ c∈sg3.cps.toList,c < 128:=by nofun
def wds1:List Str:=["0","0.",".0","0.0.0","01.0","0.01","+1.0","0.+1","-0.0","1_0.0","0,0","1.00","0. 0","a.0"]
def wds2:List Str:=["","/","1000.0","0.1000","9.0","4.0","0.0","00.0","0.-1","1.1","//","0.0/0.0"]
theorem Qlj:∀ w∈wds1++wds2,w.length<=7/\∀ c∈w.cps.toList,c < 128:=by nofun
section
variable {s s1 s2:Sto}{Q:D->Sto->Prop}{b:Nat}
theorem Qlk (hb:BoxAt s b) (h:∀ c s',Txo 1 c->BoxAt s' b->Kept b s s'->Q (.str c) s'):wp (jo [.ref b]) Q s:=by
 obtain⟨e1,e2,e3⟩:=sg12
 obtain⟨f1,f2⟩:=Qli
 have l1:sg1.length + sg2.length<=lim:=QhO (by ac_nf)
 have l2:(sg1++sg2).length<=lim:=QhO (by ac_nf)
 simp only[jo,jH]
 rw[<- show sg1=Str.ofString " !\"#$&'()*+,-./0123456789:;<=>?@ABCDEFGHIJKLMNOPQRSTUVWXYZ[\\]^_`" from rfl,<- show sg2=Str.ofString "abcdefghijklmnopqrstuvwxyz{|}~\n" from rfl,<- show sg3=Str.ofString "0123. /.  " from rfl]
 simp_arith [↓Qin,l1]
 refine Qj2 hb (by ac_nf) (by ac_nf) fun r s1 r0 r1 b1 k1=>?_
 simp_arith []
 split
 ·refine Qj2 b1 (by ac_nf) (by ac_nf) fun r2 s2 r20 r21 b2 k2=>?_
  obtain⟨c,hc,w⟩:=Qlh (x:=sg3) r20 (by ac_nf) (by ac_nf) f2
  simp_arith [↓w]
  exact h c s2 hc b2 (k1.trans k2)
 ·simp_arith [↓Qio,l2]
  refine Qj2 b1 (by ac_nf) (by ac_nf) fun r2 s2 r20 r21 b2 k2=>?_
  obtain⟨c,hc,w⟩:=Qlh (x:=sg1++sg2) r20 (by ac_nf) (by ac_nf) e3
  simp_arith [↓w]
  exact h c s2 hc b2 (k1.trans k2)
theorem Qll (hb:BoxAt s b) (h:∀ w s',Txo 7 w->BoxAt s' b->Kept b s s'->Q (.str w) s'):wp (jl [.ref b]) Q s:=by
 (simp_arith [jl];simp_arith [jL])
 refine⟨QhO (by decide),QhO (by decide),?_⟩
 have ea:[D.str "0",.str "0.",.str ".0",.str "0.0.0",.str "01.0",.str "0.01",.str "+1.0",.str "0.+1",.str "-0.0",.str "1_0.0",.str "0,0",.str "1.00",.str "0. 0",.str "a.0"]=wds1.map D.str:=rfl
 have eb:[D.str "",.str "/",.str "1000.0",.str "0.1000",.str "9.0",.str "4.0",.str "0.0",.str "00.0",.str "0.-1",.str "1.1",.str "//",.str "0.0/0.0"]=wds2.map D.str:=rfl
 rw[ea,eb]
 have g1:(s++[MO.lst (wds1.map D.str)]++[MO.lst (wds2.map D.str)])[s.length]?=some (.lst (wds1.map D.str)):=Qig Qie
 have g2:(s++[MO.lst (wds1.map D.str)]++[MO.lst (wds2.map D.str)])[(s++[MO.lst (wds1.map D.str)]).length]?=some (.lst (wds2.map D.str)):=Qie
 have k1:Kept b s (s++[MO.lst (wds1.map D.str)]++[MO.lst (wds2.map D.str)]):=(Kept.snoc _).trans (Kept.snoc _)
 have b1:BoxAt (s++[MO.lst (wds1.map D.str)]++[MO.lst (wds2.map D.str)]) b:=Kept.box (s':=s) (Kept.box (s':=s) hb _) _
 rw[QhS g1 g2]
 refine⟨QhO (by decide),?_⟩
 generalize s++[MO.lst (wds1.map D.str)]++[MO.lst (wds2.map D.str)]=s1 at *
 have g3:(s1++[MO.lst (wds1.map D.str++wds2.map D.str)])[s1.length]?=some (.lst ((wds1++wds2).map D.str)):=by rw[List.map_append];exact Qie
 have k2:Kept b s (s1++[MO.lst (wds1.map D.str++wds2.map D.str)]):=k1.trans (Kept.snoc _)
 have b2:BoxAt (s1++[MO.lst (wds1.map D.str++wds2.map D.str)]) b:=Kept.box (s':=s) b1 _
 have nb:s1.length≠b:=by have:=b1.lt;ac_nf
 generalize s1++[MO.lst (wds1.map D.str++wds2.map D.str)]=s2 at *
 have q:∀ Q,wp (getL s1.length) Q s2=Q ((wds1++wds2).map D.str) s2:=fun Q=>QhD g3
 have l26:((wds1++wds2).map D.str).length=26:=rfl
 simp_arith [↓q,l26]
 refine Qj2 b2 (by ac_nf) (by ac_nf) fun r s3 r0 r1 b3 k3=>?_
 have g4:s3[s1.length]?=some (.lst ((wds1++wds2).map D.str)):=(k3.at_ _ (List.getElem?_eq_some_iff.mp g3).1 nb).trans g3
 have q2:∀ Q,wp (getL s1.length) Q s3=Q ((wds1++wds2).map D.str) s3:=fun Q=>QhD g4
 have hk:r.toNat < (wds1++wds2).length:=by have:(wds1++wds2).length=26:=rfl;ac_nf
 have i1:∀ (Q:D->Sto->Prop) s,wp (itemD ((wds1++wds2).map D.str) r) Q s=Q (.str (wds1++wds2)[r.toNat]) s:=fun Q s=>by rw[QhH r0 (by rw[List.getElem?_map,List.getElem?_eq_getElem hk];rfl),wp_ret]
 simp_arith [↓q2,↓i1]
 exact h _ s3 (Qlj _ (List.getElem_mem hk)) b3 (k2.trans k3)
def At' (s:Sto) (r:Nat) (ps:List Str):Prop:=s[r]?=some (.lst (ps.map D.str))
theorem At'.get {r:Nat}{ps:List Str}{Q:List D->Sto->Prop} (h:At' s r ps):wp (getL r) Q s=Q (ps.map D.str) s:=QhD h
theorem At'.lt {r:Nat}{ps:List Str} (h:At' s r ps):r < s.length:=(List.getElem?_eq_some_iff.mp h).1
theorem At'.kept {r:Nat}{ps:List Str} (h:At' s r ps) (k:Kept b s s1) (hb:r≠b):At' s1 r ps:=(k.at_ r h.lt hb).trans h
theorem At'.pre {r:Nat}{ps:List Str} (h:At' s r ps) (o:MO):At' (s++[o]) r ps:=Qig h
theorem At'.end {ps:List Str}:At' (s++[MO.lst (ps.map D.str)]) s.length ps:=Qie
theorem Qlm {a c:Nat}{x y:List Str} (h1:At' s a x) (h2:At' s c y):wp (addD (.ref a) (.ref c)) Q s=(x.length + y.length<=lim/\Q (.ref s.length) (s++[.lst ((x++y).map D.str)])):=by
 rw[QhS h1 h2,List.map_append,List.length_map,List.length_map]
theorem Qln {ps:List Str}{r:Int} (h0:0<=r) (h:r<=ps.length):cutD (ps.map D.str) none (some r)=(ps.take r.toNat).map D.str:=by
 rw[Qle h0 (by rw[List.length_map];exact h),List.map_take]
theorem Qlo {ps:List Str}{r:Int} (h0:0<=r) (h:r<=ps.length):cutD (ps.map D.str) (some r) none=(ps.drop r.toNat).map D.str:=by
 rw[Qlf h0 (by rw[List.length_map];exact h),List.map_drop]
end
open PySem (Str)
def rowZ : CS := (sSeq (sRet (c2 addD (c2 addD (cKeep (aSlice (cVar 1) oNone (oSome (cVar 2)))) (cKeep (aDisp (cCons (cJoin (cCon (.str " ")) (cVar 3)) cNil)))) (cKeep (aSlice (cVar 1) (oSome (c2 addD (cVar 2) (cCon (.int 1)))) oNone))))
  sNext)
section
variable {s s1 s2:Sto}{Q:D->Sto->Prop}{b:Nat}
theorem Qlp {y:Nat}{ps:List Str} (h:1<=y):ps.length<=Wt y ps:=by
 unfold Wt
 have:ps.length * 1<=ps.length * y:=Nat.mul_le_mul_left _ h
 ac_nf
theorem Qlq {y:Nat}{ps:List Str}:(ps.map (·.length)).sum<=Wt y ps:=by unfold Wt;ac_nf
theorem Qlr:∀ c∈(" ":Str).cps.toList,c < 128:=by nofun
theorem Qls:∀ c∈(" / ":Str).cps.toList,c < 128:=by nofun
theorem Qlt {a:CE}{l:Loc}{y:Str}{r:Nat}{ps:List Str} (ha:∀ (Q:D->Sto->Prop),wp (a l) Q s=Q (.ref r) s) (h:At' s r ps) (hw:Wt y.length ps<=10000):wp (cJoin (cCon (.str y)) a l) Q s=Q (.str (PySem.Txt.join y ps)) s:=by
 have q:∀ Q,wp (getL r) Q s=Q (ps.map D.str) s:=fun Q=>h.get
 have hw':(ps.map (·.length)).sum + ps.length * y.length<=16777216:=Nat.le_trans hw (by ac_nf)
 rw[Qii]
 simp_arith [↓ha,↓q,Qld,hw']
theorem Qlu {n w m : Nat} {k : Int} {ps ws : List Str} {x4 x5 : Option D} {R : Flw -> Sto -> Prop} (ha : At' s n ps) (hw : At' s w ws) (k0 : 0 <= k) (k1 : k < ps.length) (h1 : Asc ps) (h2 : Asc ws) (hps : Wt 3 ps <= 3000) (hws : Wt 1 ws <= m) (hm : m <= 3000)
  (hR:∀ r qs s',At' s' r qs->Asc qs->Wt 3 qs<=Wt 3 ps + m + 3->Ext s s'->s.length<=r->R (.ret (.ref r)) s'):wp (rowZ [some (.ref b),some (.ref n),some (.int k),some (.ref w),x4,x5]) R s:=by
 have q:∀ Q,wp (getL n) Q s=Q (ps.map D.str) s:=fun Q=>ha.get
 have c1:=Qln (ps:=ps) k0 (by ac_nf)
 have c2:=Qlo (ps:=ps) (r:=k + 1) (by ac_nf) (by ac_nf)
 have l1:1<=lim:=QhO (by ac_nf)
 have pl:=Qlp (y:=3) (ps:=ps) (by ac_nf)
 unfold rowZ
 simp_arith [↓q,c1]
 have b1:At' (s++[MO.lst ((ps.take k.toNat).map D.str)]) s.length (ps.take k.toNat):=At'.end
 have x1:Ext s (s++[MO.lst ((ps.take k.toNat).map D.str)]):=(Ext.refl _).snoc _
 have w1:At' (s++[MO.lst ((ps.take k.toNat).map D.str)]) w ws:=hw.pre _
 have n1:At' (s++[MO.lst ((ps.take k.toNat).map D.str)]) n ps:=ha.pre _
 have e1:(s++[MO.lst ((ps.take k.toNat).map D.str)]).length=s.length + 1:=by simp
 generalize s++[MO.lst ((ps.take k.toNat).map D.str)]=s1 at *
 have j:∀ (Q:D->Sto->Prop),wp (cJoin (cCon (.str " ")) (cVar 3) [some (.ref b),some (.ref n),some (.int k),some (.ref w),x4,x5]) Q s1=Q (.str (PySem.Txt.join (" ":Str) ws)) s1:=fun Q=>Qlt (fun Q=>by rw[x_var];rfl) w1 (by rw[spl];ac_nf)
 simp_arith [↓j,l1]
 have tj:Txo m (PySem.Txt.join (" ":Str) ws):=Qla h2 Qlr (by rw[spl];exact hws)
 generalize PySem.Txt.join (" ":Str) ws=y at *
 have b2:At' (s1++[MO.lst ([y].map D.str)]) s1.length [y]:=At'.end
 have b2':At' (s1++[MO.lst ([y].map D.str)]) s.length (ps.take k.toNat):=b1.pre _
 have n2:At' (s1++[MO.lst ([y].map D.str)]) n ps:=n1.pre _
 have x2:Ext s (s1++[MO.lst ([y].map D.str)]):=x1.snoc _
 have e2:(s1++[MO.lst ([y].map D.str)]).length=s.length + 2:=by simp;ac_nf
 rw[show [D.str y]=[y].map D.str from rfl]
 generalize s1++[MO.lst ([y].map D.str)]=s2 at *
 rw[Qlm b2' b2]
 refine⟨Nat.le_trans (m:=4000) (by rw[List.length_take];simp;ac_nf) (by decide),?_⟩
 have b3:At' (s2++[MO.lst ((ps.take k.toNat++[y]).map D.str)]) s2.length (ps.take k.toNat++[y]):=At'.end
 have n3:At' (s2++[MO.lst ((ps.take k.toNat++[y]).map D.str)]) n ps:=n2.pre _
 have x3:Ext s (s2++[MO.lst ((ps.take k.toNat++[y]).map D.str)]):=x2.snoc _
 have e3:(s2++[MO.lst ((ps.take k.toNat++[y]).map D.str)]).length=s.length + 3:=by simp;ac_nf
 generalize s2++[MO.lst ((ps.take k.toNat++[y]).map D.str)]=s3 at *
 have q3:∀ Q,wp (getL n) Q s3=Q (ps.map D.str) s3:=fun Q=>n3.get
 simp_arith [↓q3,c2]
 have b4:At' (s3++[MO.lst ((ps.drop (k + 1).toNat).map D.str)]) s3.length (ps.drop (k + 1).toNat):=At'.end
 have b4':At' (s3++[MO.lst ((ps.drop (k + 1).toNat).map D.str)]) s2.length (ps.take k.toNat++[y]):=b3.pre _
 have x4':Ext s (s3++[MO.lst ((ps.drop (k + 1).toNat).map D.str)]):=x3.snoc _
 have e4:(s3++[MO.lst ((ps.drop (k + 1).toNat).map D.str)]).length=s.length + 4:=by simp;ac_nf
 generalize s3++[MO.lst ((ps.drop (k + 1).toNat).map D.str)]=s4 at *
 rw[Qlm b4' b4]
 refine⟨Nat.le_trans (m:=10000) (by simp only[List.length_append,List.length_take,List.length_drop,List.length_cons,List.length_nil];ac_nf) (by decide),?_⟩
 refine hR _ _ _ At'.end ((h1.take.app (Asc.one tj)).app h1.drop) ?_ (x4'.snoc _) (by ac_nf)
 rw[Qk4,Qk4,Qk5]
 have a1:=Qk6 (y:=3) (i:=k.toNat) (a:=ps)
 have a2:Wt 3 (ps.drop (k + 1).toNat)<=Wt 3 (ps.drop k.toNat):=by
  have:ps.drop (k + 1).toNat=(ps.drop k.toNat).drop 1:=by rw[List.drop_drop];congr 1;ac_nf
  rw[this];exact Qk7
 have:=tj.1
 ac_nf
theorem Qlv {n : Nat} {k : Int} {ps : List Str} (hb : BoxAt s b) (ha : At' s n ps) (hnb : n ≠ b) (k0 : 0 <= k) (k1 : k < ps.length) (h1 : Asc ps) (hps : Wt 3 ps <= 800)
  (hQ:∀ r qs s',At' s' r qs->Asc qs->Wt 3 qs<=3 * Wt 3 ps + 13->BoxAt s' b->Kept b s s'->r≠b->Q (.ref r) s'):wp (jt [.ref b,.ref n,.int k]) Q s:=by
 have hk:k.toNat < ps.length:=by ac_nf
 have q:∀ Q,wp (getL n) Q s=Q (ps.map D.str) s:=fun Q=>ha.get
 have i1:∀ (Q:D->Sto->Prop) s,wp (itemD (ps.map D.str) k) Q s=Q (.str ps[k.toNat]) s:=fun Q s=>by rw[QhH k0 (by rw[List.getElem?_map,List.getElem?_eq_getElem hk];rfl),wp_ret]
 have hr:Txo (Wt 3 ps) ps[k.toNat]:=⟨Nat.le_trans (Qku (List.getElem_mem hk)) Qlq,h1 _ (List.getElem_mem hk)⟩
 unfold jt jP
 change wp (runDef 6 (sSeq _ (sSeq _ (sSeq _ (sSeq _ rowZ)))) _) _ _
 simp_arith [↓q,↓i1,↓Qih,spl]
 generalize ps[k.toNat]=row at *
 have wl:=Qkx (y:=(" ":Str)) hr (by rw[spl];ac_nf)
 have wa:=Qk8 (y:=(" ":Str)) hr (by rw[spl];ac_nf)
 have ww:=Qk9 (x:=row) (y:=(" ":Str))
 have wn:=Qky (x:=row) (y:=(" ":Str))
 rw[spl]at ww
 have hrl:=hr.1
 refine⟨⟨rfl,QhO (by ac_nf),QhO (by ac_nf)⟩,?_⟩
 generalize PySem.Txt.split row (" ":Str)=ws at *
 have hpos:1<=ws.length:=by
  cases ws with
  | nil=>exact absurd rfl wn
  | cons=>simp
 have w1:At' (s++[MO.lst (ws.map D.str)]) s.length ws:=At'.end
 have n1:At' (s++[MO.lst (ws.map D.str)]) n ps:=ha.pre _
 have kp1:Kept b s (s++[MO.lst (ws.map D.str)]):=Kept.snoc _
 have b1:BoxAt (s++[MO.lst (ws.map D.str)]) b:=Kept.box (s':=s) hb _
 have wb:s.length≠b:=by have:=hb.lt;ac_nf
 have sl:s.length<=(s++[MO.lst (ws.map D.str)]).length:=by simp
 generalize hv:s.length=v at *
 generalize s++[MO.lst (ws.map D.str)]=s1 at *
 have q1:∀ Q,wp (getL v) Q s1=Q (ws.map D.str) s1:=fun Q=>w1.get
 simp_arith [↓q1,List.length_map]
 refine Qj2 b1 (by ac_nf) (by ac_nf) fun p s2 p0 p1 b2 kp2=>?_
 simp_arith []
 refine Qj2 b2 (by ac_nf) (by ac_nf) fun way s3 y0 y1 b3 kp3=>?_
 have kp:=(kp1.trans kp2).trans kp3
 have w3:At' s3 v ws:=(w1.kept kp2 wb).kept kp3 wb
 have n3:At' s3 n ps:=(n1.kept kp2 hnb).kept kp3 hnb
 have c1:=Qln (ps:=ws) p0 (by ac_nf)
 have c2:=Qlo (ps:=ws) p0 (by ac_nf)
 have c3:=Qln (ps:=ws) (r:=p + 1) (by ac_nf) (by ac_nf)
 have c4:=Qlo (ps:=ws) (r:=p + 1) (by ac_nf) (by ac_nf)
 have l1:1<=lim:=QhO (by ac_nf)
 have a1:=Qk6 (y:=1) (i:=p.toNat) (a:=ws)
 have a2:=Qk6 (y:=1) (i:=(p + 1).toNat) (a:=ws)
 have dl:∀ i,(ws.drop i).length<=801:=fun i=>by rw[List.length_drop];ac_nf
 have tl:∀ i,(ws.take i).length<=801:=fun i=>by rw[List.length_take];ac_nf
 clear q q1
 have fin:∀ (w:Nat) (ws':List Str) (s':Sto),At' s' w ws'->Asc ws'->Wt 1 ws'<=2 * Wt 3 ps + 10->BoxAt s' b->Kept b s3 s'->wp (rowZ [some (.ref b),some (.ref n),some (.int k),some (.ref w),some (.int p),some (.int way)]) (fun f s'=>wp (flwD f) Q s') s':=fun w ws' s' hw hA hW hB hK=>by
  refine Qlu (n3.kept hK hnb) hw k0 k1 h1 hA (by ac_nf) hW (by ac_nf) fun r qs s9 r1 r2 r3 r4 r5=>?_
  rw[x_retF]
  have kz:Kept b s s9:=(kp.trans hK).trans ⟨r4.le,fun m hm _=>by obtain⟨t,e⟩:=r4;rw[e,List.getElem?_append_left hm]⟩
  refine hQ r qs s9 r1 r2 (by ac_nf) ?_ kz ?_
  ·obtain⟨t,e⟩:=r4
   obtain⟨x,y,z,z1⟩:=hB
   exact⟨x,y,by rw[e,List.getElem?_append_left (List.getElem?_eq_some_iff.mp z).1];exact z,z1⟩
  ·have:=hB.lt;ac_nf
 have q3:∀ Q,wp (getL v) Q s3=Q (ws.map D.str) s3:=fun Q=>w3.get
 simp_arith [↓q3,c1,c2,c3,c4]
 have vb:v<=s3.length:=by have:=kp.le;ac_nf
 split
 ·have t1:At' (s3++[MO.lst ((ws.take p.toNat).map D.str)]) s3.length (ws.take p.toNat):=At'.end
  have v1:At' (s3++[MO.lst ((ws.take p.toNat).map D.str)]) v ws:=w3.pre _
  have b4:BoxAt (s3++[MO.lst ((ws.take p.toNat).map D.str)]) b:=Kept.box (s':=s) b3 _
  have k4:Kept b s3 (s3++[MO.lst ((ws.take p.toNat).map D.str)]):=Kept.snoc _
  have nb:s3.length≠b:=by have:=b3.lt;ac_nf
  generalize s3++[MO.lst ((ws.take p.toNat).map D.str)]=s4 at *
  refine Qll b4 fun w s5 tw b5 k5=>?_
  simp_arith [l1]
  rw[show [D.str w]=[w].map D.str from rfl]
  have t2:At' (s5++[MO.lst ([w].map D.str)]) s5.length [w]:=At'.end
  have t2':At' (s5++[MO.lst ([w].map D.str)]) s3.length (ws.take p.toNat):=(t1.kept k5 nb).pre _
  have v2:At' (s5++[MO.lst ([w].map D.str)]) v ws:=(v1.kept k5 wb).pre _
  have b6:BoxAt (s5++[MO.lst ([w].map D.str)]) b:=Kept.box (s':=s) b5 _
  have k6:Kept b s3 (s5++[MO.lst ([w].map D.str)]):=(k4.trans k5).trans (Kept.snoc _)
  generalize s5++[MO.lst ([w].map D.str)]=s6 at *
  rw[Qlm t2' t2]
  refine⟨Nat.le_trans (m:=4000) (by have:=tl p.toNat;simp only[List.length_cons,List.length_nil];ac_nf) (by decide),?_⟩
  have t3:At' (s6++[MO.lst ((ws.take p.toNat++[w]).map D.str)]) s6.length (ws.take p.toNat++[w]):=At'.end
  have v3:At' (s6++[MO.lst ((ws.take p.toNat++[w]).map D.str)]) v ws:=v2.pre _
  have b7:BoxAt (s6++[MO.lst ((ws.take p.toNat++[w]).map D.str)]) b:=Kept.box (s':=s) b6 _
  have k7:Kept b s3 (s6++[MO.lst ((ws.take p.toNat++[w]).map D.str)]):=k6.trans (Kept.snoc _)
  generalize s6++[MO.lst ((ws.take p.toNat++[w]).map D.str)]=s7 at *
  have q7:∀ Q,wp (getL v) Q s7=Q (ws.map D.str) s7:=fun Q=>v3.get
  simp_arith [↓q7,c4]
  have t4:At' (s7++[MO.lst ((ws.drop (p + 1).toNat).map D.str)]) s7.length (ws.drop (p + 1).toNat):=At'.end
  have t4':At' (s7++[MO.lst ((ws.drop (p + 1).toNat).map D.str)]) s6.length (ws.take p.toNat++[w]):=t3.pre _
  have b8:BoxAt (s7++[MO.lst ((ws.drop (p + 1).toNat).map D.str)]) b:=Kept.box (s':=s) b7 _
  have k8:Kept b s3 (s7++[MO.lst ((ws.drop (p + 1).toNat).map D.str)]):=k7.trans (Kept.snoc _)
  generalize s7++[MO.lst ((ws.drop (p + 1).toNat).map D.str)]=s8 at *
  rw[Qlm t4' t4]
  refine⟨Nat.le_trans (m:=4000) (by have:=tl p.toNat;have:=dl p.toNat;have:=dl (p + 1).toNat;simp only[List.length_append,List.length_cons,List.length_nil];ac_nf) (by decide),?_⟩
  try simp_arith []
  refine fin _ _ _ At'.end ((wa.take.app (Asc.one tw)).app wa.drop) ?_ (Kept.box (s':=s) b8 _) (k8.trans (Kept.snoc _))
  rw[Qk4,Qk4,Qk5]
  have:=tw.1
  ac_nf
 split
 ·have t1:At' (s3++[MO.lst ((ws.take p.toNat).map D.str)]) s3.length (ws.take p.toNat):=At'.end
  have v1:At' (s3++[MO.lst ((ws.take p.toNat).map D.str)]) v ws:=w3.pre _
  have b4:BoxAt (s3++[MO.lst ((ws.take p.toNat).map D.str)]) b:=Kept.box (s':=s) b3 _
  have k4:Kept b s3 (s3++[MO.lst ((ws.take p.toNat).map D.str)]):=Kept.snoc _
  generalize s3++[MO.lst ((ws.take p.toNat).map D.str)]=s4 at *
  have q7:∀ Q,wp (getL v) Q s4=Q (ws.map D.str) s4:=fun Q=>v1.get
  simp_arith [↓q7,c4]
  have t4:At' (s4++[MO.lst ((ws.drop (p + 1).toNat).map D.str)]) s4.length (ws.drop (p + 1).toNat):=At'.end
  have t4':At' (s4++[MO.lst ((ws.drop (p + 1).toNat).map D.str)]) s3.length (ws.take p.toNat):=t1.pre _
  have b8:BoxAt (s4++[MO.lst ((ws.drop (p + 1).toNat).map D.str)]) b:=Kept.box (s':=s) b4 _
  have k8:Kept b s3 (s4++[MO.lst ((ws.drop (p + 1).toNat).map D.str)]):=k4.trans (Kept.snoc _)
  generalize s4++[MO.lst ((ws.drop (p + 1).toNat).map D.str)]=s8 at *
  rw[Qlm t4' t4]
  refine⟨Nat.le_trans (m:=4000) (by have:=tl p.toNat;have:=tl (p + 1).toNat;have:=dl p.toNat;have:=dl (p + 1).toNat;ac_nf) (by decide),?_⟩
  try simp_arith []
  refine fin _ _ _ At'.end (wa.take.app wa.drop) ?_ (Kept.box (s':=s) b8 _) (k8.trans (Kept.snoc _))
  rw[Qk4]
  ac_nf
 split
 ·have t1:At' (s3++[MO.lst ((ws.take (p + 1).toNat).map D.str)]) s3.length (ws.take (p + 1).toNat):=At'.end
  have v1:At' (s3++[MO.lst ((ws.take (p + 1).toNat).map D.str)]) v ws:=w3.pre _
  have b4:BoxAt (s3++[MO.lst ((ws.take (p + 1).toNat).map D.str)]) b:=Kept.box (s':=s) b3 _
  have k4:Kept b s3 (s3++[MO.lst ((ws.take (p + 1).toNat).map D.str)]):=Kept.snoc _
  generalize s3++[MO.lst ((ws.take (p + 1).toNat).map D.str)]=s4 at *
  have q7:∀ Q,wp (getL v) Q s4=Q (ws.map D.str) s4:=fun Q=>v1.get
  simp_arith [↓q7,c2]
  have t4:At' (s4++[MO.lst ((ws.drop p.toNat).map D.str)]) s4.length (ws.drop p.toNat):=At'.end
  have t4':At' (s4++[MO.lst ((ws.drop p.toNat).map D.str)]) s3.length (ws.take (p + 1).toNat):=t1.pre _
  have b8:BoxAt (s4++[MO.lst ((ws.drop p.toNat).map D.str)]) b:=Kept.box (s':=s) b4 _
  have k8:Kept b s3 (s4++[MO.lst ((ws.drop p.toNat).map D.str)]):=k4.trans (Kept.snoc _)
  generalize s4++[MO.lst ((ws.drop p.toNat).map D.str)]=s8 at *
  rw[Qlm t4' t4]
  refine⟨Nat.le_trans (m:=4000) (by have:=tl p.toNat;have:=tl (p + 1).toNat;have:=dl p.toNat;have:=dl (p + 1).toNat;ac_nf) (by decide),?_⟩
  try simp_arith []
  refine fin _ _ _ At'.end (wa.take.app wa.drop) ?_ (Kept.box (s':=s) b8 _) (k8.trans (Kept.snoc _))
  rw[Qk4]
  ac_nf
 ·have t1:At' (s3++[MO.lst ((ws.take p.toNat).map D.str)]) s3.length (ws.take p.toNat):=At'.end
  have v1:At' (s3++[MO.lst ((ws.take p.toNat).map D.str)]) v ws:=w3.pre _
  have b4:BoxAt (s3++[MO.lst ((ws.take p.toNat).map D.str)]) b:=Kept.box (s':=s) b3 _
  have k4:Kept b s3 (s3++[MO.lst ((ws.take p.toNat).map D.str)]):=Kept.snoc _
  have nb:s3.length≠b:=by have:=b3.lt;ac_nf
  generalize s3++[MO.lst ((ws.take p.toNat).map D.str)]=s4 at *
  refine Qll b4 fun w s5 tw b5 k5=>?_
  simp_arith [l1]
  rw[show [D.str w]=[w].map D.str from rfl]
  have t2:At' (s5++[MO.lst ([w].map D.str)]) s5.length [w]:=At'.end
  have t2':At' (s5++[MO.lst ([w].map D.str)]) s3.length (ws.take p.toNat):=(t1.kept k5 nb).pre _
  have v2:At' (s5++[MO.lst ([w].map D.str)]) v ws:=(v1.kept k5 wb).pre _
  have b6:BoxAt (s5++[MO.lst ([w].map D.str)]) b:=Kept.box (s':=s) b5 _
  have k6:Kept b s3 (s5++[MO.lst ([w].map D.str)]):=(k4.trans k5).trans (Kept.snoc _)
  generalize s5++[MO.lst ([w].map D.str)]=s6 at *
  rw[Qlm t2' t2]
  refine⟨Nat.le_trans (m:=4000) (by have:=tl p.toNat;simp only[List.length_cons,List.length_nil];ac_nf) (by decide),?_⟩
  have t3:At' (s6++[MO.lst ((ws.take p.toNat++[w]).map D.str)]) s6.length (ws.take p.toNat++[w]):=At'.end
  have v3:At' (s6++[MO.lst ((ws.take p.toNat++[w]).map D.str)]) v ws:=v2.pre _
  have b7:BoxAt (s6++[MO.lst ((ws.take p.toNat++[w]).map D.str)]) b:=Kept.box (s':=s) b6 _
  have k7:Kept b s3 (s6++[MO.lst ((ws.take p.toNat++[w]).map D.str)]):=k6.trans (Kept.snoc _)
  generalize s6++[MO.lst ((ws.take p.toNat++[w]).map D.str)]=s7 at *
  have q7:∀ Q,wp (getL v) Q s7=Q (ws.map D.str) s7:=fun Q=>v3.get
  simp_arith [↓q7,c2]
  have t4:At' (s7++[MO.lst ((ws.drop p.toNat).map D.str)]) s7.length (ws.drop p.toNat):=At'.end
  have t4':At' (s7++[MO.lst ((ws.drop p.toNat).map D.str)]) s6.length (ws.take p.toNat++[w]):=t3.pre _
  have b8:BoxAt (s7++[MO.lst ((ws.drop p.toNat).map D.str)]) b:=Kept.box (s':=s) b7 _
  have k8:Kept b s3 (s7++[MO.lst ((ws.drop p.toNat).map D.str)]):=k7.trans (Kept.snoc _)
  generalize s7++[MO.lst ((ws.drop p.toNat).map D.str)]=s8 at *
  rw[Qlm t4' t4]
  refine⟨Nat.le_trans (m:=4000) (by have:=tl p.toNat;have:=dl p.toNat;have:=dl (p + 1).toNat;simp only[List.length_append,List.length_cons,List.length_nil];ac_nf) (by decide),?_⟩
  try simp_arith []
  refine fin _ _ _ At'.end ((wa.take.app (Asc.one tw)).app wa.drop) ?_ (Kept.box (s':=s) b8 _) (k8.trans (Kept.snoc _))
  rw[Qk4,Qk4,Qk5]
  have:=tw.1
  ac_nf
end
open PySem (Str)
section
variable {s s1 s2:Sto}{Q:D->Sto->Prop}{b:Nat}
theorem Qlw:Txo 1 (" ":Str):=⟨by nofun,by nofun⟩
theorem Qlx:Txo 1 ("\n":Str):=⟨by nofun,by nofun⟩
theorem Qly:Txo 2 (" /":Str):=⟨by nofun,by nofun⟩
theorem Qlz:Txo 2 ("/ ":Str):=⟨by nofun,by nofun⟩
theorem limS {n:Nat} (h:n<=4000):n<=lim:=Nat.le_trans h (by decide)
theorem QlA {n : Nat} {x : Str} (hb : BoxAt s b) (h : Txo n x) (hn : n <= 260)
  (hQ:∀ y s',Txo (3 * n + 25) y->BoxAt s' b->Kept b s s'->Q (.str y) s'):wp (jh [.ref b,.str x]) Q s:=by
 have hl:=h.1
 have l1:x.length<=lim:=QhO (by ac_nf)
 (simp_arith [jh];simp_arith [jv])
 refine Qj2 hb (by ac_nf) (by ac_nf) fun way s1 y0 y1 b1 k1=>?_
 simp_arith [↓Qio,l1]
 refine Qj2 b1 (by ac_nf) (by ac_nf) fun a s2 a0 a1 b2 k2=>?_
 simp_arith [↓Qih,sll]
 have wl:=Qkx (y:=(" / ":Str)) h (by rw[sll];ac_nf)
 have pa:=Qk8 (y:=(" / ":Str)) h (by rw[sll];ac_nf)
 have ww:=Qk9 (x:=x) (y:=(" / ":Str))
 have wn:=Qky (x:=x) (y:=(" / ":Str))
 rw[sll]at ww
 refine⟨⟨rfl,QhO (by ac_nf),QhO (by ac_nf)⟩,?_⟩
 generalize PySem.Txt.split x (" / ":Str)=ps at *
 have hpos:1<=ps.length:=by
  cases ps with
  | nil=>exact absurd rfl wn
  | cons=>simp
 have v3:At' (s2++[MO.lst (ps.map D.str)]) s2.length ps:=At'.end
 have b3:BoxAt (s2++[MO.lst (ps.map D.str)]) b:=Kept.box (s':=s) b2 _
 have k3:Kept b s (s2++[MO.lst (ps.map D.str)]):=(k1.trans k2).trans (Kept.snoc _)
 have vb:s2.length≠b:=by have:=b2.lt;ac_nf
 generalize s2.length=v at *
 generalize s2++[MO.lst (ps.map D.str)]=s3 at *
 have q3:∀ Q,wp (getL v) Q s3=Q (ps.map D.str) s3:=fun Q=>v3.get
 simp_arith [↓q3,List.length_map]
 refine Qj2 b3 (by ac_nf) (by ac_nf) fun p s4 p0 p1 b4 k4=>?_
 have kp:=k3.trans k4
 have v4:At' s4 v ps:=v3.kept k4 vb
 have c1:=Qln (ps:=ps) p0 (by ac_nf)
 have c2:=Qlo (ps:=ps) p0 (by ac_nf)
 have c3:=Qln (ps:=ps) (r:=p + 1) (by ac_nf) (by ac_nf)
 have c4:=Qlo (ps:=ps) (r:=p + 1) (by ac_nf) (by ac_nf)
 have w1:=Qk6 (y:=3) (i:=p.toNat) (a:=ps)
 have w2:=Qk6 (y:=3) (i:=(p + 1).toNat) (a:=ps)
 have dl:∀ i,(ps.drop i).length<=801:=fun i=>by rw[List.length_drop];ac_nf
 have tl:∀ i,(ps.take i).length<=801:=fun i=>by rw[List.length_take];ac_nf
 clear q3
 simp_arith [↓Qlg,↓Qin,l1]
 have ts:∀ i j,Txo n (PySem.Txt.slice x i j):=fun i j=>Qlc h
 have tl2:∀ i j,(PySem.Txt.slice x i j).length<=n:=fun i j=>(ts i j).1
 split
 ·refine Qlk b4 fun c s5 tc b5 k5=>?_
  have:=tc.1
  simp_arith [↓Qlg,↓Qin,l1]
  refine⟨limS (by have:=tl2 none (some a);ac_nf),limS (by rw[PySem.Str.length_append];have:=tl2 none (some a);have:=tl2 (some a) none;ac_nf),?_⟩
  exact hQ _ s5 (Qlb (Qlb (ts _ _) tc (Nat.le_refl _)) (ts _ _) (by ac_nf)) b5 (kp.trans k5)
 split
 ·refine⟨limS (by have:=tl2 none (some a);have:=tl2 (some (a + 1)) none;ac_nf),?_⟩
  exact hQ _ s4 (Qlb (ts _ _) (ts _ _) (by ac_nf)) b4 kp
 split
 ·refine Qlk b4 fun c s5 tc b5 k5=>?_
  have:=tc.1
  simp_arith [↓Qlg,↓Qin,l1]
  refine⟨limS (by have:=tl2 none (some a);ac_nf),limS (by rw[PySem.Str.length_append];have:=tl2 none (some a);have:=tl2 (some (a + 1)) none;ac_nf),?_⟩
  exact hQ _ s5 (Qlb (Qlb (ts _ _) tc (Nat.le_refl _)) (ts _ _) (by ac_nf)) b5 (kp.trans k5)
 split
 ·have u1:=Qlw.1
  have u2:=Qlx.1
  have u3:=Qly.1
  have u4:=Qlz.1
  refine⟨limS (by ac_nf),limS (by ac_nf),limS (by ac_nf),limS (by ac_nf),limS (by ac_nf),limS (by decide),?_⟩
  refine Qj2 b4 (by ac_nf) (by ac_nf) fun r s5 r0 r1 b5 k5=>?_
  have it:∃ y,Txo (3 * n + 25) y/\∀ (Q:D->Sto->Prop) s,wp (itemD [.str (PySem.Txt.slice x none (some a)),.str (PySem.Txt.slice x (some a) none),.str ((" ":Str)++x),.str (x++(" ":Str)),.str (x++("\n":Str)),.str (x++(" /":Str)),.str (("/ ":Str)++x)] r) Q s=Q (.str y) s:=by
   have:r=0\/r=1\/r=2\/r=3\/r=4\/r=5\/r=6:=by ac_nf
   rcases this with z | z | z | z | z | z | z<;>subst z
   ·exact⟨_,(ts _ _).mono (by ac_nf),fun Q s=>QhT (i:=0) rfl⟩
   ·exact⟨_,(ts _ _).mono (by ac_nf),fun Q s=>QhT (i:=1) rfl⟩
   ·exact⟨_,Qlb Qlw h (by ac_nf),fun Q s=>QhT (i:=2) rfl⟩
   ·exact⟨_,Qlb h Qlw (by ac_nf),fun Q s=>QhT (i:=3) rfl⟩
   ·exact⟨_,Qlb h Qlx (by ac_nf),fun Q s=>QhT (i:=4) rfl⟩
   ·exact⟨_,Qlb h Qly (by ac_nf),fun Q s=>QhT (i:=5) rfl⟩
   ·exact⟨_,Qlb Qlz h (by ac_nf),fun Q s=>QhT (i:=6) rfl⟩
  obtain⟨y,hy,iy⟩:=it
  simp_arith [↓iy]
  exact hQ y s5 hy b5 (kp.trans k5)
 simp_arith [↓Qii]
 split
 ·have q4:∀ Q,wp (getL v) Q s4=Q (ps.map D.str) s4:=fun Q=>v4.get
  simp_arith [↓q4,c1,c3]
  have t1:At' (s4++[MO.lst ((ps.take p.toNat).map D.str)]) s4.length (ps.take p.toNat):=At'.end
  have v1:At' (s4++[MO.lst ((ps.take p.toNat).map D.str)]) v ps:=v4.pre _
  have b5:BoxAt (s4++[MO.lst ((ps.take p.toNat).map D.str)]) b:=Kept.box (s':=s) b4 _
  have k5:Kept b s (s4++[MO.lst ((ps.take p.toNat).map D.str)]):=kp.trans (Kept.snoc _)
  generalize s4++[MO.lst ((ps.take p.toNat).map D.str)]=s5 at *
  have q7:∀ Q,wp (getL v) Q s5=Q (ps.map D.str) s5:=fun Q=>v1.get
  simp_arith [↓q7,c4]
  have t4:At' (s5++[MO.lst ((ps.drop (p + 1).toNat).map D.str)]) s5.length (ps.drop (p + 1).toNat):=At'.end
  have t4':At' (s5++[MO.lst ((ps.drop (p + 1).toNat).map D.str)]) s4.length (ps.take p.toNat):=t1.pre _
  have b8:BoxAt (s5++[MO.lst ((ps.drop (p + 1).toNat).map D.str)]) b:=Kept.box (s':=s) b5 _
  have k8:Kept b s (s5++[MO.lst ((ps.drop (p + 1).toNat).map D.str)]):=k5.trans (Kept.snoc _)
  generalize s5++[MO.lst ((ps.drop (p + 1).toNat).map D.str)]=s8 at *
  rw[Qlm t4' t4]
  refine⟨Nat.le_trans (m:=4000) (by have:=tl p.toNat;have:=tl (p + 1).toNat;have:=dl p.toNat;have:=dl (p + 1).toNat;ac_nf) (by decide),?_⟩
  have t5:At' (s8++[MO.lst ((ps.take p.toNat++ps.drop (p + 1).toNat).map D.str)]) s8.length (ps.take p.toNat++ps.drop (p + 1).toNat):=At'.end
  have b9:BoxAt (s8++[MO.lst ((ps.take p.toNat++ps.drop (p + 1).toNat).map D.str)]) b:=Kept.box (s':=s) b8 _
  have k9:Kept b s (s8++[MO.lst ((ps.take p.toNat++ps.drop (p + 1).toNat).map D.str)]):=k8.trans (Kept.snoc _)
  generalize s8++[MO.lst ((ps.take p.toNat++ps.drop (p + 1).toNat).map D.str)]=s9 at *
  have q9:∀ Q,wp (getL s8.length) Q s9=Q ((ps.take p.toNat++ps.drop (p + 1).toNat).map D.str) s9:=fun Q=>t5.get
  have wt:Wt 3 (ps.take p.toNat++ps.drop (p + 1).toNat)<=3 * n + 25:=by rw[Qk4];ac_nf
  have hw':((ps.take p.toNat++ps.drop (p + 1).toNat).map (·.length)).sum + (ps.take p.toNat++ps.drop (p + 1).toNat).length * (" / ":Str).length<=16777216:=by
   have:Wt 3 (ps.take p.toNat++ps.drop (p + 1).toNat)<=16777216:=by ac_nf
   rw[sll];exact this
  simp_arith [↓q9,Qld,hw']
  exact hQ _ s9 (Qla (pa.take.app pa.drop) Qls (by rw[sll];exact wt)) b9 k9
 split
 ·have q4:∀ Q,wp (getL v) Q s4=Q (ps.map D.str) s4:=fun Q=>v4.get
  simp_arith [↓q4,c1,c3]
  have t1:At' (s4++[MO.lst ((ps.take (p + 1).toNat).map D.str)]) s4.length (ps.take (p + 1).toNat):=At'.end
  have v1:At' (s4++[MO.lst ((ps.take (p + 1).toNat).map D.str)]) v ps:=v4.pre _
  have b5:BoxAt (s4++[MO.lst ((ps.take (p + 1).toNat).map D.str)]) b:=Kept.box (s':=s) b4 _
  have k5:Kept b s (s4++[MO.lst ((ps.take (p + 1).toNat).map D.str)]):=kp.trans (Kept.snoc _)
  generalize s4++[MO.lst ((ps.take (p + 1).toNat).map D.str)]=s5 at *
  have q7:∀ Q,wp (getL v) Q s5=Q (ps.map D.str) s5:=fun Q=>v1.get
  simp_arith [↓q7,c2]
  have t4:At' (s5++[MO.lst ((ps.drop p.toNat).map D.str)]) s5.length (ps.drop p.toNat):=At'.end
  have t4':At' (s5++[MO.lst ((ps.drop p.toNat).map D.str)]) s4.length (ps.take (p + 1).toNat):=t1.pre _
  have b8:BoxAt (s5++[MO.lst ((ps.drop p.toNat).map D.str)]) b:=Kept.box (s':=s) b5 _
  have k8:Kept b s (s5++[MO.lst ((ps.drop p.toNat).map D.str)]):=k5.trans (Kept.snoc _)
  generalize s5++[MO.lst ((ps.drop p.toNat).map D.str)]=s8 at *
  rw[Qlm t4' t4]
  refine⟨Nat.le_trans (m:=4000) (by have:=tl p.toNat;have:=tl (p + 1).toNat;have:=dl p.toNat;have:=dl (p + 1).toNat;ac_nf) (by decide),?_⟩
  have t5:At' (s8++[MO.lst ((ps.take (p + 1).toNat++ps.drop p.toNat).map D.str)]) s8.length (ps.take (p + 1).toNat++ps.drop p.toNat):=At'.end
  have b9:BoxAt (s8++[MO.lst ((ps.take (p + 1).toNat++ps.drop p.toNat).map D.str)]) b:=Kept.box (s':=s) b8 _
  have k9:Kept b s (s8++[MO.lst ((ps.take (p + 1).toNat++ps.drop p.toNat).map D.str)]):=k8.trans (Kept.snoc _)
  generalize s8++[MO.lst ((ps.take (p + 1).toNat++ps.drop p.toNat).map D.str)]=s9 at *
  have q9:∀ Q,wp (getL s8.length) Q s9=Q ((ps.take (p + 1).toNat++ps.drop p.toNat).map D.str) s9:=fun Q=>t5.get
  have wt:Wt 3 (ps.take (p + 1).toNat++ps.drop p.toNat)<=3 * n + 25:=by rw[Qk4];ac_nf
  have hw':((ps.take (p + 1).toNat++ps.drop p.toNat).map (·.length)).sum + (ps.take (p + 1).toNat++ps.drop p.toNat).length * (" / ":Str).length<=16777216:=by
   have:Wt 3 (ps.take (p + 1).toNat++ps.drop p.toNat)<=16777216:=by ac_nf
   rw[sll];exact this
  simp_arith [↓q9,Qld,hw']
  exact hQ _ s9 (Qla (pa.take.app pa.drop) Qls (by rw[sll];exact wt)) b9 k9
 refine Qlv b4 v4 vb p0 (by ac_nf) pa (by ac_nf) fun r qs s9 r1 r2 r3 r4 r5 r6=>?_
 have q9:∀ Q,wp (getL r) Q s9=Q (qs.map D.str) s9:=fun Q=>r1.get
 have wt:Wt 3 qs<=3 * n + 25:=by ac_nf
 have hw':(qs.map (·.length)).sum + qs.length * (" / ":Str).length<=16777216:=by
  have:Wt 3 qs<=16777216:=by ac_nf
  rw[sll];exact this
 simp_arith [↓q9,Qld,hw']
 exact hQ _ s9 (Qla r2 Qls (by rw[sll];exact wt)) r4 (kp.trans r5)
end
open PySem (Str)
def pairS (p:Nat × Nat):Str:=⟨#[48 + p.1,46,48 + p.2]⟩
def rowS (r:List (Nat × Nat)):Str:=PySem.Txt.join (" ":Str) (r.map pairS)
def tabS (t:List (List (Nat × Nat))):Str:=PySem.Txt.join (" / ":Str) (t.map rowS)
theorem QlB:(".":Str)=⟨#[46]⟩:=by nofun
theorem QlC:(" ":Str)=⟨#[32]⟩:=by nofun
theorem QlD:(" / ":Str)=⟨#[32,47,32]⟩:=by nofun
theorem QlE:Mrk (".":Str) 46 0:=by
 rw[QlB]
 exact⟨by decide,rfl,(fun j h=>by
  cases j with
  | zero=>rfl
  | succ j=>cases h),by nofun⟩
theorem QlF:Mrk (" ":Str) 32 0:=by
 rw[QlC]
 exact⟨by decide,rfl,(fun j h=>by
  cases j with
  | zero=>rfl
  | succ j=>cases h),by nofun⟩
theorem QlG:Mrk (" / ":Str) 47 1:=by
 rw[QlD]
 exact⟨by decide,rfl,(fun j h=>by
  match j,h with
  | 1,_=>rfl
  | 0,h=>cases h
  | 2,h=>cases h
  | j + 3,h=>cases h),by nofun⟩
theorem QlH:∀ g,g < 4->numS (dig g)=some g:=by nofun
theorem QlI {g u:Nat} (hg:g < 4) (hu:u < 4):PySem.Txt.split (pairS (g,u)) (".":Str)=[dig g,dig u]:=by
 have e:pairS (g,u)=PySem.Txt.join (".":Str) [dig g,dig u]:=by
  rw[QlB]
  exact Str.ext' (by simp[pairS,dig,PySem.Txt.join,PySem.Builtin.Str.glued])
 rw[e]
 refine Qf9 QlE (by simp) fun p hp=>?_
 rcases List.mem_cons.mp hp with h | h
 ·subst h;simp[dig];ac_nf
 ·rw[List.mem_singleton]at h;subst h;simp[dig];ac_nf
theorem QlJ {p:Nat × Nat} (h:p.1 < 4/\p.2 < 4):pairO (pairS p)=some p:=by
 obtain⟨g,u⟩:=p
 unfold pairO
 rw[QlI h.1 h.2]
 show (match [numS (dig g),numS (dig u)] with
  | [some g,some u]=>some (g,u)
  | _=>none)=_
 rw[QlH g h.1,QlH u h.2]
theorem QlK {α β:Type}{f:α->Option β}{g:β->α}:∀ {ys:List β},(∀ y∈ys,f (g y)=some y)->optAll f (ys.map g)=some ys
 | [],_=>rfl
 | y::ys,h=>by
  show (match f (g y),optAll f (ys.map g) with
   | some y,some ys=>some (y::ys)
   | _,_=>none)=_
  rw[h y List.mem_cons_self,QlK fun z hz=>h z (List.mem_cons_of_mem _ hz)]
def R4 (r:List (Nat × Nat)):Prop:=1<=r.length/\r.length<=4/\∀ p∈r,p.1 < 4/\p.2 < 4
theorem QlL {r:List (Nat × Nat)} (h:R4 r) {c:Nat} (hc:c∈(rowS r).cps.toList):c≠47/\c < 128:=by
 unfold rowS at hc
 have hc:c∈(PySem.Builtin.Str.glued _ _).cps.toList:=hc
 rw[PySem.StrLaws.glued_eq_join]at hc
 rcases mem_join hc with z | ⟨x,hx,z⟩
 ·rw[QlC]at z
  simp at z
  ac_nf
 ·obtain⟨p,hp,rfl⟩:=List.mem_map.mp hx
  have:=h.2.2 p hp
  simp[pairS]at z
  ac_nf
theorem QlM {r:List (Nat × Nat)} (h:R4 r):rowO (rowS r)=some r:=by
 unfold rowO rowS
 rw[Qf9 QlF (by intro e;have:=h.1;rw[List.map_eq_nil_iff]at e;rw[e]at this;simp at this) fun x hx=>?_]
 ·exact QlK fun p hp=>QlJ (h.2.2 p hp)
 ·obtain⟨p,hp,rfl⟩:=List.mem_map.mp hx
  have:=h.2.2 p hp
  simp[pairS]
  ac_nf
theorem QlN {t:List (List (Nat × Nat))} (h1:t≠[]) (h:∀ r∈t,R4 r):tabO (tabS t)=some t:=by
 unfold tabO tabS
 rw[Qf9 QlG (by simpa using h1) fun x hx hm=>?_]
 ·exact QlK fun r hr=>QlM (h r hr)
 ·obtain⟨r,hr,rfl⟩:=List.mem_map.mp hx
  exact (QlL (h r hr) hm).1 rfl
theorem sum3 {α:Type}:∀ {r:List α},(r.map fun _=>3).sum=r.length * 3
 | []=>rfl
 | x::xs=>by rw[List.map_cons,List.sum_cons,sum3,List.length_cons];ac_nf
theorem QlO {r:List (Nat × Nat)} (h:R4 r):(rowS r).length<=16:=by
 have:Wt 1 (r.map pairS)<=16:=by
  unfold Wt
  rw[List.map_map,List.length_map]
  have e:r.map ((fun x:Str=>x.length) ∘ pairS)=r.map fun _=>3:=rfl
  rw[e]
  have:=sum3 (r:=r)
  have:=h.2.1
  ac_nf
 have t:=Qla (y:=(" ":Str)) (ps:=r.map pairS) (n:=16) (fun x hx c hc=>by
  obtain⟨p,hp,rfl⟩:=List.mem_map.mp hx
  have:=h.2.2 p hp
  simp[pairS]at hc
  ac_nf) Qlr (by rw[spl];exact this)
 exact t.1
theorem QlP {α:Type}{f:α->Nat}{k:Nat}:∀ {xs:List α},(∀ x∈xs,f x<=k)->(xs.map f).sum<=xs.length * k
 | [],_=>by simp
 | x::xs,h=>by
  rw[List.map_cons,List.sum_cons,List.length_cons,Nat.succ_mul]
  have:=QlP (xs:=xs) fun y hy=>h y (List.mem_cons_of_mem _ hy)
  have:=h x List.mem_cons_self
  ac_nf
theorem QlQ {t:List (List (Nat × Nat))} (hl:t.length<=4) (h:∀ r∈t,R4 r):Wt 3 (t.map rowS)<=76:=by
 unfold Wt
 rw[List.map_map,List.length_map]
 have:=QlP (xs:=t) (f:=(fun x:Str=>x.length) ∘ rowS) (k:=16) fun r hr=>QlO (h r hr)
 ac_nf
theorem QlR {t:List (List (Nat × Nat))} (hl:t.length<=4) (h:∀ r∈t,R4 r):Txo 76 (tabS t):=by
 refine Qla (y:=(" / ":Str)) (fun x hx c hc=>?_) Qls (by rw[sll];exact QlQ hl h)
 obtain⟨r,hr,rfl⟩:=List.mem_map.mp hx
 exact (QlL (h r hr) hc).2
section
variable {s s1 s2:Sto}{Q:D->Sto->Prop}{b:Nat}
theorem QlS {n:Nat} (h:n < 4):(n:Int).natAbs.log2 < 1920:=Nat.lt_of_le_of_lt (Nat.log2_le_self _) (by ac_nf)
theorem QlT {n:Nat}{Q:D->Sto->Prop}{s:Sto} (h:n < 4):wp (strD (.int (n:Nat))) Q s=Q (.str (dig n)) s:=by
 rw[Qik,Qiq h]
 exact propext ⟨fun h=>h.2,fun q=>⟨QlS h,q⟩⟩
theorem QlU {g u:Nat}:dig g++(".":Str)++dig u=pairS (g,u):=by
 rw[QlB];exact Str.ext' (Array.toList_inj.mp (by simp[Str.cps_append,dig,pairS]))
theorem QlV {t:List (List (Nat × Nat))} (hl:t.length<=4) (h:∀ r∈t,R4 r) (hQ:∀ s',Ext s s'->Q (.str (tabS t)) s'):wp (js [tbD t]) Q s:=by
 have et:tbD t=.tup (t.map rwD):=rfl
 (simp_arith [js];simp_arith [jM,et,↓Qii,List.length_map,QkF])
 refine⟨QhO (by ac_nf),?_⟩
 refine QhK (caps:=[]) (fun i out s'=>out=(t.take i).map (fun r=>D.str (rowS r))/\Ext s s') (fun _ _ _ _=>trivial) ⟨rfl,Ext.refl _⟩ (fun i d out s' hd ⟨a1,a2⟩=>?_) (fun out s' ⟨a1,a2⟩=>?_)
 ·rw[List.getElem?_map]at hd
  cases hx:t[i]? with
  | none=>rw[hx]at hd;cases hd
  | some r=>
   rw[hx]at hd
   cases hd
   have hr:=h r (List.mem_of_getElem? hx)
   have er:rwD r=.tup (r.map fun p=>.tup [.int (p.1:Nat),.int (p.2:Nat)]):=rfl
   have rl:=hr.2.1
   rw[er]
   simp_arith [List.length_map,↓Qii]
   refine⟨QhO (by ac_nf),?_⟩
   rw[show ∀ l,capt 2 [] l=[none,none] from fun _=>rfl]
   rw[QkL (f:=fun p=>.str (pairS p)) trivial fun p hp Q=>?_]
   ·have g1:∀ (ds:List D) Q,wp (getL s'.length) Q (s'++[MO.lst ds])=Q ds (s'++[MO.lst ds]):=fun ds Q=>QhD Qie
    have em:r.map (fun p=>D.str (pairS p))=(r.map pairS).map D.str:=by rw[List.map_map];rfl
    have hw':((r.map pairS).map (·.length)).sum + (r.map pairS).length * (" ":Str).length<=16777216:=by
     rw[spl,List.map_map,List.length_map]
     have e:r.map ((fun x:Str=>x.length) ∘ pairS)=r.map fun _=>3:=rfl
     rw[e]
     have:=sum3 (r:=r)
     ac_nf
    rw[em]
    simp_arith [↓g1,Qld,hw']
    refine⟨?_,a2.snoc _⟩
    rw[a1,List.take_succ,hx,List.map_append]
    rfl
   ·obtain⟨h1,h2⟩:=hr.2.2 p hp
    have e1:∀ Q s,wp (strD (.int (p.1:Nat))) Q s=Q (.str (dig p.1)) s:=fun Q s=>QlT h1
    have e2:∀ Q s,wp (strD (.int (p.2:Nat))) Q s=Q (.str (dig p.2)) s:=fun Q s=>QlT h2
    simp_arith [↓Qin,↓e1,↓e2,QlU]
    have l1:(dig p.1).length + (".":Str).length<=lim:=QhO (by rw[dotl];exact Nat.le_of_ble_eq_true rfl)
    have l2:(dig p.1++(".":Str)).length + (dig p.2).length<=lim:=QhO (by rw[PySem.Str.length_append,dotl];exact Nat.le_of_ble_eq_true rfl)
    exact propext ⟨fun h=>h.2.2,fun h=>⟨l1,l2,h⟩⟩
 ·rw[List.length_map,List.take_length]at a1
  have g1:∀ (ds:List D) Q,wp (getL s'.length) Q (s'++[MO.lst ds])=Q ds (s'++[MO.lst ds]):=fun ds Q=>QhD Qie
  have em:t.map (fun r=>D.str (rowS r))=(t.map rowS).map D.str:=by rw[List.map_map];rfl
  have hw':((t.map rowS).map (·.length)).sum + (t.map rowS).length * (" / ":Str).length<=16777216:=by
   have:=QlQ hl h
   unfold Wt at this
   rw[sll];ac_nf
  rw[a1,em]
  simp_arith [↓g1,Qld,hw']
  exact hQ _ (a2.snoc _)
end
open PySem (Str)
theorem tab_list {t:D} (h:IsTable t):∃ T,t=tbD T/\T≠[]/\T.length<=4/\(∀ r∈T,R4 r)/\okT T=true:=by
 obtain⟨S,dn,nx,un,et,hS1,hS,hd1,hd,hb⟩:=Qkb h
 have hne:S≠0:=by ac_nf
 have hm:∀ r∈(upto S fun s=>upto dn fun d=>(nx s d,un s d)),∃ i,i < S/\r=upto dn fun d=>(nx i d,un i d):=fun r hr=>by
  obtain⟨i,hi⟩:=List.getElem?_of_mem hr
  exact⟨i,Qh1 hi⟩
 refine⟨upto S fun s=>upto dn fun d=>(nx s d,un s d),?_,?_,by rw[Qh2];exact hS,fun r hr=>?_,?_⟩
 ·rw[et];unfold tabD tbD
  rw[Qh5]
  congr 2
  funext s
  unfold rwD
  rw[Qh5]
  rfl
 ·intro e
  have:=congrArg List.length e
  rw[Qh2]at this
  exact hne this
 ·obtain⟨i,hi,rfl⟩:=hm r hr
  refine⟨by rw[Qh2];exact hd1,by rw[Qh2];exact hd,fun p hp=>?_⟩
  obtain⟨j,hz⟩:=List.getElem?_of_mem hp
  obtain⟨hj,rfl⟩:=Qh1 hz
  have:=hb i j hi hj
  exact⟨by show nx i j < 4;ac_nf,this.2⟩
 ·unfold okT
  rw[List.all_eq_true]
  intro r hr
  have hl:∀ r∈(upto S fun s=>upto dn fun d=>(nx s d,un s d)),r.length=dn:=fun r hr=>by
   obtain⟨i,hi,rfl⟩:=hm r hr
   rw[Qh2]
  have hh:=hl _ (QkP (t:=upto S fun s=>upto dn fun d=>(nx s d,un s d)) (fun e=>by have:=congrArg List.length e;rw[Qh2]at this;exact hne this))
  unfold okR
  rw[hh,hl r hr,Qh2,decide_eq_true rfl,Bool.true_and,List.all_eq_true]
  intro p hp
  obtain⟨i,hi,rfl⟩:=hm r hr
  obtain⟨j,hz⟩:=List.getElem?_of_mem hp
  obtain⟨hj,rfl⟩:=Qh1 hz
  exact decide_eq_true (hb i j hi hj).1
section
variable {s s1 s2:Sto}{Q:D->Sto->Prop}{b:Nat}
theorem BoxAt.ext (h:BoxAt s b) (x:Ext s s1):BoxAt s1 b:=by
 obtain⟨a,c,e,r⟩:=h
 exact⟨a,c,x.at_ e,r⟩
theorem QlW {T:List (List (Nat × Nat))} (h1:T≠[]) (hl:T.length<=4) (h:∀ r∈T,R4 r) (ho:okT T=true) (hQ:∀ s',Ext s s'->Q (.tup [.non,tbD T]) s'):wp (jc [.str (tabS T)]) Q s:=by
 have ed:dueO (tabS T)=some T:=by unfold dueO;rw[QlN h1 h];dsimp only;rw[if_pos ho]
 refine QkY (QlR hl h) (by ac_nf) (fun t e s' x=>?_) fun e=>by rw[ed]at e;cases e
 rw[ed]at e
 cases e
 exact hQ s' x
theorem QlX (ns:List Int) (hn:ns.length<=63) (s0:Sto) (Q:D->Sto->Prop) (hQ:∀ s,Q (.bl true) s):wp (jB [.lit (ns.map D.int)]) Q s0:=by
 have l2:2<=lim:=QhO (by ac_nf)
 (simp_arith [jB];simp_arith [jR])
 refine Qj9 (by ac_nf) fun o hb=>?_
 generalize hs1:s0++[o]=s1 at *
 simp_arith []
 refine Qj9 (by ac_nf) fun o2 hb2=>?_
 have hb1:BoxAt (s1++[o2]) s0.length:=Kept.box (s':=s1) hb _
 have hne:s0.length≠s1.length:=by rw[<- hs1];simp
 generalize s1++[o2]=s2 at *
 simp_arith []
 refine Qj7 hb2 fun t s3 ht b3 k3=>?_
 have b3':BoxAt s3 s0.length:=by
  obtain⟨a,c,e,r⟩:=hb1
  exact⟨a,c,(k3.at_ _ (List.getElem?_eq_some_iff.mp e).1 hne).trans e,r⟩
 obtain⟨T,rfl,h1,hl,h4,ho⟩:=tab_list ht
 generalize s0.length=b at *
 simp_arith []
 refine QlV hl h4 fun s4 x4=>?_
 have b4:=b3'.ext x4
 have pn:Pd 4 (.tup [.non,tbD T]):=.tup fun d hd=>by
  rcases List.mem_cons.mp hd with h | h
  ·subst h;exact .non
  ·rw[List.mem_singleton]at h;subst h;exact Qk1 T
 have wne:∀ (Q:D->Sto->Prop) s,wp (neD (.tup [.non,tbD T]) (.tup [.non,tbD T])) Q s=Q (.bl false) s:=fun Q s=>Qib pn (by decide)
 have weq:∀ (Q:D->Sto->Prop) s,wp (eqD (.tup [.non,tbD T]) (.tup [.non,tbD T])) Q s=Q (.bl true) s:=fun Q s=>Qia pn (by decide)
 simp_arith []
 refine QlW h1 hl h4 ho fun s5 x5=>?_
 have b5:=b4.ext x5
 simp_arith [l2,↓wne]
 refine Qk3 (x:=("":Str)) (n:=0) ⟨by nofun,by nofun⟩ (by ac_nf) fun s6 x6=>?_
 have b6:=b5.ext x6
 have cl:=@Qka (ns.map D.int) (some 2) (some 8)
 rw[List.length_map]at cl
 simp_arith [↓x_slice,↓x_some,lenL]
 refine⟨⟨by ac_nf,by ac_nf⟩,?_⟩
 have tt:=QlR hl h4
 refine QhQ (fun i l s'=>∃ x4 x5 x6:Option D,l=[some (.lit (ns.map D.int)),some (.ref b),some (tbD T),some (.str (tabS T)),x4,x5,x6]/\BoxAt s' b) (fun _ _ _ _=>trivial) ⟨_,_,_,rfl,b6⟩ (fun i d l s' hd hZ=>?_) (fun l s' hZ=>?_)
 ·obtain⟨x4,x5,x6,el,bb⟩:=hZ
  subst el
  simp_arith []
  refine Qj2 bb (by ac_nf) (by ac_nf) fun r s7 r0 r1 b7 k7=>?_
  simp_arith []
  refine⟨⟨by ac_nf,by ac_nf⟩,?_⟩
  refine QhQ (fun j l s'=>j<=2/\∃ (x6:Option D) (y:Str),l=[some (.lit (ns.map D.int)),some (.ref b),some (tbD T),some (.str (tabS T)),some d,some (.str y),x6]/\Txo (if j=0 then 76 else if j=1 then 253 else 784) y/\BoxAt s' b) (fun _ _ _ _=>trivial) ⟨by ac_nf,_,_,rfl,tt,b7⟩ (fun j d' l s8 hd' hZ=>?_) (fun l s8 hZ=>?_)
  ·obtain⟨hj,x6,y,el,ty,b8⟩:=hZ
   subst el
   obtain⟨hj2,ed⟩:=QhM hd'
   have hj3:j < 2:=by ac_nf
   simp_arith []
   have ty2:Txo (if j=0 then 76 else 253) y:=by
    by_cases z:j=0
    ·rw[if_pos z]at ty ⊢;exact ty
    ·rw[if_neg z,if_pos (by ac_nf)]at ty;rw[if_neg z];exact ty
   refine QlA b8 ty2 (by split<;>ac_nf) fun y' s9 ty' b9 k9=>?_
   simp_arith []
   refine⟨by ac_nf,_,_,rfl,?_,b9⟩
   rw[if_neg (by ac_nf)]
   by_cases z:j=0
   ·subst z;rw[if_pos rfl]at ty';rw[if_pos rfl];exact ty'
   ·rw[if_neg z]at ty';rw[if_neg (by ac_nf)];exact ty'
  ·obtain⟨hj,x6,y,el,ty,b8⟩:=hZ
   subst el
   have ty2:Txo 784 y:=ty.mono (by split;ac_nf;split<;>ac_nf)
   simp_arith []
   refine Qk3 ty2 (by ac_nf) fun s9 x9=>?_
   simp_arith []
   refine Qk3 ty2 (by ac_nf) fun sa xa=>?_
   simp_arith []
   exact⟨_,_,_,rfl,(b8.ext x9).ext xa⟩
 ·obtain⟨x4,x5,x6,el,bb⟩:=hZ
  subst el
  simp_arith []
  refine QlW h1 hl h4 ho fun s9 x9=>?_
  simp_arith [l2,↓weq]
  exact hQ _
end
theorem law_true (ns:List Int) (h:ns.length<=63):∃ st',jB [.lit (ns.map D.int)] []=.ok (.bl true) st':=Qid (QlX ns h [] (fun a _=>a=.bl true) fun _=>rfl)
open PySem PySem.Spec PyProof.Rows L2
theorem walk {l : PySem.W.OpenLaw} {q : Program} {loose : List Str} {XP : (Str -> Option Value) -> Heap -> Prop} {YP : World -> Heap -> Prop} {d : DefRec} {K : Params -> PySem.W.Frag} (hn : l.most = some 63) (hdf : d.params.defaults = []) (hnm : d.name = "law")
  (hY:∀ (w:World) (h:Heap),YP w h->(K w.params).In h) (F:∀ (w:World) (mg:Str->Option Value) (h:Heap),(K w.params).In h->h.Ns mainGlobals mg->Txt (K w.params) mg):
  PySem.W.WalkO q loose XP YP l.row.toRowW d [] (fun f vs=>PySem.call f vs):=by
 refine L2.walk_ofK (n:=63) (k:=8) (x:="_law_script") (CX:=CX0) (K:=K) (sp:=fun K=>spOf K 1 jB) hn (by decide) hdf ⟨rfl,by decide,by decide⟩ hY (fun w mg fa h kin ns hmg=>?_) (fun K H a ns hl hO hS=>QgZ hO hS (law_true ns hl)) (fun _ _ _ _ z=>z)
 have T:=F w mg h kin ns
 obtain⟨a,fd,L,m⟩:=T.f21
 rw[hnm,m]at hmg
 cases hmg
 refine⟨fd,fun s u=>?_,fun base _ _=>jS L T⟩
 obtain⟨oc,od,kV,doc,pm,an,cdv,ct,osl,e,lk,hcd⟩:=L.ex
 rw[e]
 exact .of_eq rfl
end My
def PySem.W.Fast.tw1710380696191590073:PySem.Program:=PySem.Challenge.pw_pactboards_k15_no_table
theorem PySem.W.Fast.te1710380696191590073:PySem.Challenge.pw_pactboards_k15_no_table=PySem.W.Fast.tw1710380696191590073:=rfl
namespace PySem.W.Fast
def tw11694753419687650332:=0
def tw9942887593164972109:=0
def tw5921007198138970376:=0
def tw8550772219429468546:=0
def tw6238608213027053593:=0
def tw9861121191326506999:=0
def tw16597404448594281666:=0
def tw112214228320308444:=0
def tw14504986054562441511:=0
def tw3596406404698128844:=0
def tw931905245351264223:=0
def tw6622562723196852874:=0
def tw7294797863729957826:=0
def tw6636761970945170719:=0
def tw5954235817613925674:=0
def tw17628594052945760406:=0
def tw317677456131170615:=0
def tw15568418484236494529:=0
def tw11159659083063035416:=0
def tw10097388328066694910:=0
def tw12030298648639701937:=0
def tw8786459024113882726:=0
def tw14250125486559917063:=0
def tw704500114921495529:=0
def tw899632551296355383:=0
def tw14949649283286487370:=0
def tw16789229718374622474:=0
def tw16433616485017422906:=0
def tw12389076023608430184:=0
def tw12155629840268584259:=0
def tw8713995443725395981:=0
def tw15024510816733534921:=0
def tw5570171950758143290:=0
def tw5159508467877696443:=0
def tw4494794399710368332:=0
def tw9323728183794495225:=0
def tw4257243313848187962:=0
def tw16936389162722984140:=0
def tw5769902462872766835:=0
def tw6992856443261088940:=0
def tw308120292653739094:=0
def tw443259660497092026:=0
def tw5287545120715999873:=0
def tw8941240953789465633:=0
def tw2846904800714442745:=0
def tw15605438846482654993:=0
def tw3273480774054780882:=0
def tw53953690166064568:=0
def tw15084257500617158610:=0
def tw10905956729134949802:=0
def tw11250089045934125912:=0
def tw11605020762254033097:=0
def tw15861190046119979212:=0
def tw3084967975413871177:=0
def tw5469760366545177493:=0
def tw14001733316380107604:=0
def tw870876061460853291:=0
def tw707549600083620044:=0
def tw8182648070260497816:=0
def tw8235187879575890136:=0
def tw16491277948167667751:=0
def tw6516194107564518119:=0
def tw15525157341569237048:=0
def tw10839147745842660577:=0
def tw15143075267027764039:=0
def tw15341567734667385382:=0
def tw2385708366848490443:=0
def tw11421109374390766131:=0
def tw4683670667121781201:=0
def tw13549621140554385533:=0
def tw15765205845767035426:=0
def tw12512998436227317062:=0
def tw13183062509365762496:=0
def tw6802474540264467013:=0
def tw18360981678880399897:=0
def tw1273646665297038100:=0
def tw1430149780528340793:=0
def tw5093656621965558628:=0
def tw3793450728470049953:=0
def tw18275976152277316765:=0
def tw2671260810583422355:=0
def tw7650967088295496761:=0
def tw5022058653693662533:=0
def tw13441124829396695053:=0
def tw5521126232664006544:=0
def tw6558075730204169009:=0
def tw16806650230500914000:=0
def tw888141474607470813:=0
def tw2051415601410123041:=0
def tw14797769790105258193:=0
def tw15151370861006818988:=0
def tw10877543747911230886:=0
def tw288533086802493421:=0
def tw7856034645929082065:=0
def tw4442301699033718742:=0
def tw18134785412203987231:=0
def tw15073044462032391711:=0
def tw8661707665839057577:=0
def tw11839681746932004169:=0
def tw7445753843995210476:=0
end PySem.W.Fast
open PySem PySem.W PyProof.Rows
set_option maxHeartbeats 0 in
theorem PySem.Challenge.cw_pactboards_k15_no_table_holds : PySem.Challenge.rw_pactboards_k15_no_table.Holds := by
 w_on;o_law;k_head;(case hw=>w_witness2)
 k_fill
 refine My.walk (l:=PySem.Challenge.rw_pactboards_k15_no_table) rfl rfl rfl (fun w h Y=>PySem.W.kIn_of Y) ?F
 case F=>
  intro w mg h KX G
  refine' My.Txt.mk (MM.fnat KX G ?a0 ?l0 ?c0 ?k0) (MM.fnat KX G ?a1 ?l1 ?c1 ?k1) (MM.fnat KX G ?a2 ?l2 ?c2 ?k2) (MM.fnat KX G ?a3 ?l3 ?c3 ?k3) (MM.fnat KX G ?a4 ?l4 ?c4 ?k4) (MM.fnat KX G ?a5 ?l5 ?c5 ?k5) (MM.fnat KX G ?a6 ?l6 ?c6 ?k6) (MM.fnat KX G ?a7 ?l7 ?c7 ?k7) (MM.fnat KX G ?a8 ?l8 ?c8 ?k8) (MM.fnat KX G ?a9 ?l9 ?c9 ?k9) (MM.fnat KX G ?a10 ?l10 ?c10 ?k10) (MM.fnat KX G ?a11 ?l11 ?c11 ?k11) (MM.fnat KX G ?a12 ?l12 ?c12 ?k12) (MM.fnat KX G ?a13 ?l13 ?c13 ?k13) (MM.fnat KX G ?a14 ?l14 ?c14 ?k14) (MM.fnat KX G ?a15 ?l15 ?c15 ?k15) (MM.fnat KX G ?a16 ?l16 ?c16 ?k16) (MM.fnat KX G ?a17 ?l17 ?c17 ?k17) (MM.fnat KX G ?a18 ?l18 ?c18 ?k18) (MM.fnat KX G ?a19 ?l19 ?c19 ?k19) (MM.fnat KX G ?a20 ?l20 ?c20 ?k20) (MM.fnat KX G ?a21 ?l21 ?c21 ?k21) (MM.z_cons (PySem.W.mg_none_of KX G ?z0) (MM.z_cons (PySem.W.mg_none_of KX G ?z1) (MM.z_cons (PySem.W.mg_none_of KX G ?z2) (MM.z_cons (PySem.W.mg_none_of KX G ?z3) (MM.z_cons (PySem.W.mg_none_of KX G ?z4) (MM.z_cons (PySem.W.mg_none_of KX G ?z5) (MM.z_cons (PySem.W.mg_none_of KX G ?z6) (MM.z_cons (PySem.W.mg_none_of KX G ?z7) (MM.z_cons (PySem.W.mg_none_of KX G ?z8) (MM.z_cons (PySem.W.mg_none_of KX G ?z9) (MM.z_cons (PySem.W.mg_none_of KX G ?z10) MM.z_nil))))))))))) (MM.c_str (PySem.W.mg_of KX G ?y0) (MM.c_int (PySem.W.mg_of KX G ?y1) MM.c_nil)) (MM.xt_mk KX G ?xg ?xl ?xn ?xh ?xc ?pg ?pl ?pn ?ph ?xi ?xf ?xe ?xk) (MM.xo_cons KX G ?og0 ?ol0 (MM.xo_cons KX G ?og1 ?ol1 (MM.xo_cons KX G ?og2 ?ol2 (MM.xo_cons KX G ?og3 ?ol3 (MM.xo_cons KX G ?og4 ?ol4 (MM.xo_cons KX G ?og5 ?ol5 (MM.xo_cons KX G ?og6 ?ol6 (MM.xo_cons KX G ?og7 ?ol7 MM.xo_nil))))))))
  case xg | xl | xn | xc | pg | pl | pn | xi | xf | xe | xk | og0 | ol0 | og1 | ol1 | og2 | ol2 | og3 | ol3 | og4 | ol4 | og5 | ol5 | og6 | ol6 | og7 | ol7 | a0 | l0 | c0 | k0 | a1 | l1 | c1 | k1 | a2 | l2 | c2 | k2 | a3 | l3 | c3 | k3 | a4 | l4 | c4 | k4 | a5 | l5 | c5 | k5 | a6 | l6 | c6 | k6 | a7 | l7 | c7 | k7 | a8 | l8 | c8 | k8 | a9 | l9 | c9 | k9 | a10 | l10 | c10 | k10 | a11 | l11 | c11 | k11 | a12 | l12 | c12 | k12 | a13 | l13 | c13 | k13 | a14 | l14 | c14 | k14 | a15 | l15 | c15 | k15 | a16 | l16 | c16 | k16 | a17 | l17 | c17 | k17 | a18 | l18 | c18 | k18 | a19 | l19 | c19 | k19 | a20 | l20 | c20 | k20 | a21 | l21 | c21 | k21 | z0 | z1 | z2 | z3 | z4 | z5 | z6 | z7 | z8 | z9 | z10 | y0 | y1=>k_is
  case xh | ph=>rfl