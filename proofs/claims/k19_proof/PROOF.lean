import PyProof.Rows.All
import Wide.All
import OpenK.AllK
import Wide.FinOn
import Lean
import PyProof.EqAt
import PyProof.EqKinds
import PyProof.TupleCall
import PySem.Str
import PyProof.NeKinds
import PyProof.IsRules
import PyProof.Rows.StrRev
import KE.KSortTup
import PyProof.Rows.ZipGen
import KE.KRevIter
import KE.KDictList
import KE.KIntText
import PyProof.Rows.StrNews
import PyProof.Rows.StrJoin2
import PyProof.Rows.FStr
import PyProof.StrWalks
import PyProof.StrLawsTight
import KE.KSort
import PyProof.Rows.SetFrom
import KE.KDictSum
import PyProof.ExcInit
import PyProof.ExcClass3
import PyProof.ExcBaseAll.ValueError
import PyProof.ExcAttrAll.ValueError
import PyProof.ExcArgsOwn
import PySem.SetOps
import PyProof.TupleOfGen
import PyProof.MinMaxWalk
import PyProof.FactsAll.tuple_2
import KE.KMinBuiltin
import PyProof.Rows.CallKwBuiltin
import PyProof.RaisesMany
import PyProof.RulesDel
import PyProof.RulesAs
import PySem.Challenge.RW_pactboards_k19_houses_written
local macro_rules | `(tactic| nofun)=>`(tactic| decide +kernel)
local macro_rules | `(tactic| ac_nf)=>`(tactic| first | lia | omega)
set_option genSizeOf false
set_option Elab.async false
set_option linter.all false
set_option maxRecDepth 100000
set_option maxHeartbeats 4000000
noncomputable section
namespace L2
open PySem PySem.Spec PyProof.Rows
abbrev Key:=Sum Int Str
def keyIs:Key->Value->Bool
 | .inl k,v=>Value.isInt k v
 | .inr x,v=>Value.isStrOf x v
def keyH (w:World):Key->Int
 | .inl k=>hashInt k
 | .inr x=>hashStr w x
theorem keyIs_shape:∀ {k:Key}{v:Value},keyIs k v=true->(∃ i t,k=Sum.inl i/\v=Value.int i t)\/(∃ x t,k=Sum.inr x/\v=Value.str x t)
 | .inl i,v,h=>by
  obtain⟨t,e⟩:=Value.isInt_shape (k:=i) (v:=v) h
  exact .inl ⟨i,t,rfl,e⟩
 | .inr x,v,h=>by
  obtain⟨t,e⟩:=Value.isStrOf_shape (x:=x) (v:=v) h
  exact .inr ⟨x,t,rfl,e⟩
theorem Qaa (i:Int) (t:Tok):keyIs (.inl i) (.int i t)=true:=by simp[keyIs,Value.isInt]
theorem Qab (x:Str) (t:Tok):keyIs (.inr x) (.str x t)=true:=by simp[keyIs,Value.isStrOf]
theorem Qac (a b:Int):decide ((Sum.inl a:Key)=Sum.inl b)=(a == b):=by
 by_cases e:a=b
 ·subst e;simp
 ·have h:¬ (Sum.inl a:Key)=Sum.inl b:=fun q=>e (Sum.inl.inj q)
  rw[decide_eq_false h]
  exact (beq_eq_false_iff_ne.mpr e).symm
theorem Qad (a b:Str):decide ((Sum.inr a:Key)=Sum.inr b)=decide (a=b):=by
 by_cases e:a=b
 ·subst e;simp
 ·have h:¬ (Sum.inr a:Key)=Sum.inr b:=fun q=>e (Sum.inr.inj q)
  rw[decide_eq_false h,decide_eq_false e]
theorem Qae (a:Int) (b:Str):decide ((Sum.inl a:Key)=Sum.inr b)=false:=decide_eq_false (fun q=>nomatch q)
theorem Qaf (a:Str) (b:Int):decide ((Sum.inr a:Key)=Sum.inl b)=false:=decide_eq_false (fun q=>nomatch q)
def mixKind (prog:Program) (w:World):PySem.KeyKind prog w Key where
 is:=keyIs
 hash:=keyH w
 inj:=fun v a b ha hb=>by
  rcases keyIs_shape ha with ⟨i,t,rfl,rfl⟩ | ⟨x,t,rfl,rfl⟩
  ·rcases keyIs_shape hb with ⟨j,u,rfl,e⟩ | ⟨y,u,rfl,e⟩
   ·injection e with e1 _;rw[e1]
   ·exact nomatch e
  ·rcases keyIs_shape hb with ⟨j,u,rfl,e⟩ | ⟨y,u,rfl,e⟩
   ·exact nomatch e
   ·injection e with e1 _;rw[e1]
 byValue:=fun k v h=>by
  rcases keyIs_shape h with ⟨i,t,rfl,rfl⟩ | ⟨x,t,rfl,rfl⟩<;>rfl
 pyHash:=fun hv h=>by
  rcases keyIs_shape hv with ⟨i,t,rfl,rfl⟩ | ⟨x,t,rfl,rfl⟩
  ·exact wpAny_pyHash_int h
  ·exact wpAny_pyHash_str h
 eqBool:=fun hu hv h=>by
  rcases keyIs_shape hu with ⟨i,t,rfl,rfl⟩ | ⟨x,t,rfl,rfl⟩
  ·rcases keyIs_shape hv with ⟨j,u,rfl,rfl⟩ | ⟨y,u,rfl,rfl⟩
   ·rw[Qac]at h;exact wpAny_eqBool_int h
   ·rw[Qae]at h;exact SeqAt.EqAt.int_str i t y u _ _ _ _ h
  ·rcases keyIs_shape hv with ⟨j,u,rfl,rfl⟩ | ⟨y,u,rfl,rfl⟩
   ·rw[Qaf]at h;exact SeqAt.EqAt.str_int x t j u _ _ _ _ h
   ·rw[Qad]at h;exact wpAny_eqBool_str h
 «strs»:=fun k x t v h=>by
  rcases keyIs_shape h with ⟨i,u,rfl,e⟩ | ⟨y,u,rfl,e⟩
  ·exact nomatch e
  ·injection e with e1 _
   subst e1
   cases v<;>rfl
theorem Qag (prog:Program) (w:World) (i:Int) (t:Tok):(mixKind prog w).is (.inl i) (.int i t)=true:=Qaa i t
theorem Qah (prog:Program) (w:World) (x:Str) (t:Tok):(mixKind prog w).is (.inr x) (.str x t)=true:=Qab x t
inductive V where
 | non | bl (b:Bool) | int (i:Int) | str (x:Str) | byt (b:Array UInt8) | flt (b:UInt64) | ref (a:Addr) | ty (n:String)
 deriving DecidableEq
def RelV:V->Value->Prop
 | .non,u=>u=Value.none
 | .bl b,u=>u=Value.bool b
 | .int i,u=>∃ t,u=Value.int i t
 | .str x,u=>∃ t,u=Value.str x t
 | .byt b,u=>∃ t,u=Value.bytes b t
 | .flt b,u=>∃ t,u=Value.float b t
 | .ref a,u=>u=Value.ref a
 | .ty n,u=>u=Value.type n
abbrev Vals:List V->List Value->Prop:=Paired RelV
theorem Vals.length {xs:List V}{us:List Value} (r:Vals xs us):xs.length=us.length:=Paired.length r
theorem Vals.get:∀ {xs:List V}{us:List Value}{i:Nat}{x:V},Vals xs us->xs[i]?=some x->∃ u,us[i]?=some u/\RelV x u
 | _,_,_,_,.nil,e=>by simp at e
 | _,_,0,_,.cons r _,e=>by simp at e;subst e;exact⟨_,rfl,r⟩
 | _,_,i + 1,x,.cons _ t,e=>by
  obtain⟨u,h1,h2⟩:=Vals.get (i:=i) (x:=x) t (by simpa using e)
  exact⟨u,by simpa using h1,h2⟩
theorem Vals.set {x:V}{u:Value} (r:RelV x u):∀ {xs:List V}{us:List Value} (i:Nat),Vals xs us->Vals (xs.set i x) (us.set i u)
 | _,_,_,.nil=>.nil
 | _,_,0,.cons _ t=>.cons r t
 | _,_,i + 1,.cons q t=>.cons q (Vals.set r i t)
theorem Vals.append:∀ {xs ys:List V}{us ws:List Value},Vals xs us->Vals ys ws->Vals (xs++ys) (us++ws)
 | _,_,_,_,.nil,s=>s
 | _,_,_,_,.cons r t,s=>.cons r (Vals.append t s)
theorem Vals.take:∀ {xs:List V}{us:List Value} (n:Nat),Vals xs us->Vals (xs.take n) (us.take n)
 | _,_,0,_=>.nil
 | _,_,_ + 1,.nil=>.nil
 | _,_,n + 1,.cons r t=>.cons r (Vals.take n t)
theorem Vals.drop:∀ {xs:List V}{us:List Value} (n:Nat),Vals xs us->Vals (xs.drop n) (us.drop n)
 | _,_,0,r=>r
 | _,_,_ + 1,.nil=>.nil
 | _,_,n + 1,.cons _ t=>Vals.drop n t
def RelO:Option V->Option Value->Prop
 | some v,some u=>RelV v u
 | none,none=>True
 | _,_=>False
def KV {κ:Type}:List (κ × V)->List (κ × Value)->Prop:=Paired fun (p:κ × V) (q:κ × Value)=>p.1=q.1/\RelV p.2 q.2
def kV:Key->V
 | .inl i=>.int i
 | .inr x=>.str x
inductive HO where
 | lst (xs:List V)
 | tup (xs:List V)
 | dK (kvs:List (Key × V)) | dT (kvs:List (List Key × V))
 | set (S:Int->Bool) (n:Nat)
 | ins (C dx:Addr) (fs:List (Str × V))
 | own (x:Addr)
 | xd (fs:List (Str × V))
 | met (f x:Addr)
 | rng (lo hi:Int)
 | frz (o:Obj) (u:HO)
 | tbl (ps:Array Value)
 | ext (φ:Heap->Prop)
abbrev Hp:=Addr->Option HO
def upd (H:Hp) (a:Addr) (o:HO):Hp:=fun b=>if b=a then some o else H b
theorem Qai {H:Hp}{a:Addr}{o:HO}:upd H a o a=some o:=by unfold upd;rw[if_pos rfl]
theorem Qaj {H:Hp}{a b:Addr}{o:HO} (h:b≠a):upd H a o b=H b:=by unfold upd;rw[if_neg h]
theorem Qak {H:Hp}{a b:Addr}{o u:HO} (h:H a=some o) (h':H b=some u) (d:o≠u):a≠b:=by
 intro e;subst e;rw[h]at h';exact d (Option.some.inj h')
theorem Qal {H:Hp}{a b:Addr}{o:HO} (h:H a=some o) (h':H b=none):a≠b:=by
 intro e;subst e;rw[h]at h';cases h'
def IsTupD (h:Heap) (a:Addr) (its:Array Value):Prop:=∃ o,h.get? a=some o/\o.cls=.type "tuple"/\(∃ n,o.data=.seq its n)/\o.dict=none
theorem IsTupD.is {h:Heap}{a:Addr}{its:Array Value} (p:IsTupD h a its):IsTup h a its:=let ⟨o,e,c,d,_⟩:=p;⟨o,e,c,d⟩
theorem IsTupD.lt {h:Heap}{a:Addr}{its:Array Value} (p:IsTupD h a its):a < h.objs.size:=p.is.lt
theorem IsTupD.new (h:Heap) (its:Array Value):IsTupD (h.push { cls:=.type "tuple",data:=.seq its }) h.objs.size its:=⟨_,Heap.get?_push_size _ rfl,rfl,⟨_,rfl⟩,rfl⟩
section
variable (P:Program) (w:World)
def ObjOk (H:Hp) (h:Heap) (a:Addr):HO->Prop
 | .lst xs=>xs.length<=sizeLine/\∃ (its:List Value) (n:Nat),Vals xs its/\h.get? a=some { cls:=.type "list",data:=.seq its.toArray n }
 | .tup xs=>xs.length<=sizeLine/\∃ its:List Value,Vals xs its/\IsTupD h a its.toArray
 | .dK kvs=>kvs.length<=sizeLine/\(a == sysModules)=false/\∃ vs,KV kvs vs/\h.DictOf (mixKind P w) a vs
 | .dT kvs => kvs.length <= sizeLine /\ (a == sysModules) = false /\ ∃ xs : List (List Key × Addr × Value),
   Paired (fun (p:List Key × V) (q:List Key × Addr × Value)=>p.1=q.1/\H q.2.1=some (.tup (p.1.map kV))/\RelV p.2 q.2.2) kvs xs /\
   ∃ o es ep,h.get? a=some o/\o.ExactDict/\o.data=.dict es ep/\es.toList=xs.map (entryOfKey (tupleKind (mixKind P w)))/\(xs.map (·.1)).Nodup
 | .set S n=>h.SetOf (intKind P w) a S n
 | .ins C dx fs => H dx = some (.own a) /\ fs.length <= 1000 /\ dx ≠ a /\ h.get? a = some (PySem.W.instObj C dx) /\
   ∃ mA,h.Ns1 dx mA/\(∀ f,RelO (fs.lookup f) (mA f))/\PySem.Within mA (fs.map (·.1))
 | .own _=>∃ o,h.get? a=some o
 | .xd fs=>∃ mA,h.Ns1 a mA/\∀ f,RelO (fs.lookup f) (mA f)
 | .rng lo hi=>∃ t u v,h.get? a=some { cls:=.type "range",data:=.fields #[.int lo t,.int hi u,.int 1 v] }
 | .frz o u=>h.get? a=some o/\ObjOk H h a u
 | .tbl ps=>h.get? a=some { cls:=.none,data:=.fields ps }
 | .met f x=>h.get? a=some (PySem.W.methodObj (.ref f) (.ref x))
 | .ext φ=>φ h/\(∃ o,h.get? a=some o)/\∀ h1 h2:Heap,φ h1->(∀ o,h1.get? a=some o->h2.get? a=some o)->φ h2
def HOk (H:Hp) (h:Heap):Prop:=∀ a o,H a=some o->ObjOk P w H h a o
end
section
variable {P:Program}{w:World}{H H':Hp}{h h':Heap}{a:Addr}{o:HO}
theorem ObjOk.lt (x:ObjOk P w H h a o):a < h.objs.size:=by
 cases o with
 | lst xs=>obtain⟨_,_,_,_,e⟩:=x;exact Heap.lt_size e
 | tup xs=>obtain⟨_,_,_,p⟩:=x;exact p.lt
 | dK kvs=>obtain⟨_,_,_,_,o,_,_,e,_⟩:=x;exact Heap.lt_size e
 | dT kvs=>obtain⟨_,_,_,_,o,_,_,e,_⟩:=x;exact Heap.lt_size e
 | set S n=>obtain⟨o,_,_,_,e,_⟩:=x;exact Heap.lt_size e
 | ins C dx fs=>obtain⟨_,_,_,e,_⟩:=x;exact Heap.lt_size e
 | own y=>obtain⟨_,e⟩:=x;exact Heap.lt_size e
 | xd fs=>obtain⟨_,⟨_,_,_,e,_⟩,_⟩:=x;exact Heap.lt_size e
 | rng lo hi=>obtain⟨_,_,_,e⟩:=x;exact Heap.lt_size e
 | frz ob u=>obtain⟨e,_⟩:=x;exact Heap.lt_size e
 | tbl ps=>exact Heap.lt_size (show h.get? a=some _ from x)
 | met f y=>exact Heap.lt_size (show h.get? a=some _ from x)
 | ext φ=>obtain⟨_,⟨_,e⟩,_⟩:=x;exact Heap.lt_size e
theorem Paired.mapP {α β:Type}{F G:α->β->Prop}:∀ {l₁:List α}{l₂:List β},Paired F l₁ l₂->(∀ a b,F a b->G a b)->Paired G l₁ l₂
 | _,_,.nil,_=>.nil
 | _,_,.cons r t,f=>.cons (f _ _ r) (Paired.mapP t f)
theorem ObjOk.stay (x : ObjOk P w H h a o) (k : ∀ b u, (b = a \/ H b = some (.own a)) -> h.get? b = some u -> h'.get? b = some u)
  (ho:∀ b,H b=some (.own a)->H' b=some (.own a)) (ht:∀ b xs,H b=some (.tup xs)->H' b=some (.tup xs)):ObjOk P w H' h' a o:=by
 induction o with
 | lst xs=>obtain⟨z,its,n,r,e⟩:=x;exact⟨z,its,n,r,k _ _ (.inl rfl) e⟩
 | tup xs=>obtain⟨z,its,r,ob,e,c⟩:=x;exact⟨z,its,r,ob,k _ _ (.inl rfl) e,c⟩
 | dK kvs=>obtain⟨z,y,vs,r,ob,es,ep,e,c⟩:=x;exact⟨z,y,vs,r,ob,es,ep,k _ _ (.inl rfl) e,c⟩
 | dT kvs=>
  obtain⟨z,y,xs,r,ob,es,ep,e,c⟩:=x
  exact⟨z,y,xs,Paired.mapP r fun p q z=>⟨z.1,ht _ _ z.2.1,z.2.2⟩,ob,es,ep,k _ _ (.inl rfl) e,c⟩
 | set S n=>obtain⟨ob,es,ep,t,e,c⟩:=x;exact⟨ob,es,ep,t,k _ _ (.inl rfl) e,c⟩
 | ins C dx fs=>
  obtain⟨d,z,ne,e,mA,⟨od,es,ep,e2,c⟩,r⟩:=x
  exact⟨ho _ d,z,ne,k _ _ (.inl rfl) e,mA,⟨od,es,ep,k _ _ (.inr d) e2,c⟩,r⟩
 | own y=>obtain⟨ob,e⟩:=x;exact⟨ob,k _ _ (.inl rfl) e⟩
 | xd fs=>obtain⟨mA,⟨od,es,ep,e,c⟩,r⟩:=x;exact⟨mA,⟨od,es,ep,k _ _ (.inl rfl) e,c⟩,r⟩
 | rng lo hi=>obtain⟨t,u,v,e⟩:=x;exact⟨t,u,v,k _ _ (.inl rfl) e⟩
 | frz ob u ih=>obtain⟨e,q⟩:=x;exact⟨k _ _ (.inl rfl) e,ih q⟩
 | tbl ps=>
  have e:h.get? a=some { cls:=.none,data:=.fields ps }:=x
  show h'.get? a=some { cls:=.none,data:=.fields ps }
  exact k a _ (.inl rfl) e
 | met f y=>
  have e:h.get? a=some (PySem.W.methodObj (.ref f) (.ref y)):=x
  show h'.get? a=some (PySem.W.methodObj (.ref f) (.ref y))
  exact k a _ (.inl rfl) e
 | ext φ=>obtain⟨p,⟨o,e⟩,st⟩:=x;exact⟨st _ _ p fun o q=>k _ _ (.inl rfl) q,⟨o,k _ _ (.inl rfl) e⟩,st⟩
theorem HOk.lt (x:HOk P w H h) (e:H a=some o):a < h.objs.size:=(x a o e).lt
theorem HOk.fresh (x:HOk P w H h) (e:h.objs.size<=a):H a=none:=by
 cases q:H a with
 | none=>rfl
 | some u=>exact absurd (Nat.lt_of_lt_of_le (x.lt q) e) (Nat.lt_irrefl _)
theorem HOk.kept (x:HOk P w H h) (k:∀ b u,h.get? b=some u->h'.get? b=some u):HOk P w H h':=fun a o e=>
 (x a o e).stay (fun b u _ q=>k b u q) (fun _ q=>q) fun _ _ q=>q
theorem HOk.laid (x:HOk P w H h) (k:∀ b u,h.get? b=some u->h'.get? b=some u) (hp:h.objs.size<=a) (new:ObjOk P w (upd H a o) h' a o):HOk P w (upd H a o) h':=fun b u e=>by
 have hn:=x.fresh hp
 by_cases hb:b=a
 ·subst hb;rw[Qai]at e;cases e;exact new
 ·rw[Qaj hb]at e
  exact (x b u e).stay (fun c v _ q=>k c v q) (fun c q=>by rw[Qaj (Qal q hn)];exact q) fun c xs q=>by rw[Qaj (Qal q hn)];exact q
end
def Rd (H:Hp) (a:Addr) (u:HO):Prop:=H a=some u\/∃ o,H a=some (.frz o u)
theorem Rd.ok {P:Program}{w:World}{H:Hp}{h:Heap}{a:Addr}{u:HO} (r:Rd H a u) (x:HOk P w H h):ObjOk P w H h a u:=by
 rcases r with r | ⟨o,r⟩
 ·exact x a u r
 ·obtain⟨_,q⟩:=x a _ r
  exact q
def Mut:Option HO->Prop
 | some (.lst _)=>True
 | some (.dK _)=>True
 | some (.dT _)=>True
 | some (.set _ _)=>True
 | some (.ins _ _ _)=>True
 | some (.ext _)=>True
 | _=>False
section
variable {P:Program}{w:World}{H:Hp}{h h':Heap}{x e:Addr}{o':HO}
theorem HOk.write (ok : HOk P w H h) (mu : Mut (H x)) (he : e = x \/ H e = some (.own x)) (k : ∀ b u, b ≠ e -> h.get? b = some u -> h'.get? b = some u) (heo : ∃ u, h'.get? e = some u)
  (new:ObjOk P w (upd H x o') h' x o'):HOk P w (upd H x o') h':=fun b u q=>by
 have nown:∀ c y,H c=some (.own y)->c≠x:=fun c y r z=>by subst z;rw[r]at mu;exact mu
 have ntup:∀ c xs,H c=some (.tup xs)->c≠x:=fun c xs r z=>by subst z;rw[r]at mu;exact mu
 by_cases hb:b=x
 ·subst hb;rw[Qai]at q;cases q;exact new
 ·rw[Qaj hb]at q
  by_cases hbe:b=e
  ·have q' : H b = some (.own x) := by
     rcases he with z | z
     ·exact absurd (hbe.trans z) hb
     ·rw[hbe];exact z
   rw[q]at q';cases q'
   obtain⟨v,hv⟩:=heo
   exact⟨v,by rw[hbe];exact hv⟩
  ·refine (ok b u q).stay (fun c v hc r=>k c v ?_ r) (fun c r=>by rw[Qaj (nown c b r)];exact r) fun c xs r=>by rw[Qaj (ntup c xs r)];exact r
   rcases hc with rfl | hc
   ·exact hbe
   ·rintro rfl
    rcases he with z | z
    ·exact nown c b hc z
    ·rw[hc]at z;cases z;exact hb rfl
end
structure Un (fs ex:List Addr) (H H':Hp) (h h':Heap):Prop where
 keep:∀ b o,h.get? b=some o->H b=none->b∉fs->b∉ex->h'.get? b=some o
 slot:∀ b o,h.get? b=some o->H b=none->b∈fs->b∉ex->∃ sl,h'.get? b=some { o with slots:=sl }
 free:∀ b o,h.get? b=some o->H b=none->b∉ex->H' b=none
 there:∀ b o,h.get? b=some o->b∉ex->∃ o',h'.get? b=some o'
 tups:∀ b xs,H b=some (.tup xs)->H' b=some (.tup xs)
 frzs:∀ b o u,H b=some (.frz o u)->H' b=some (.frz o u)
 tbls:∀ b ps,H b=some (.tbl ps)->∃ more,H' b=some (.tbl (ps++more))
section
variable {fs fs' ex ex':List Addr}{H H1 H2:Hp}{h h1 h2 h':Heap}{a x e:Addr}{o:HO}
theorem Un.any (u:Un fs ex H H1 h h1) {b:Addr}{ob:Obj} (q:h.get? b=some ob) (n:H b=none) (hx:b∉ex):∃ sl,h1.get? b=some { ob with slots:=sl }:=by
 by_cases hb:b∈fs
 ·exact u.slot b ob q n hb hx
 ·exact⟨ob.slots,u.keep b ob q n hb hx⟩
theorem Un.kept (k:∀ b u,h.get? b=some u->h'.get? b=some u):Un fs ex H H h h':=
 ⟨fun b ob q _ _ _=>k b ob q,fun b ob q _ _ _=>⟨ob.slots,k b ob q⟩,fun _ _ _ n _=>n,fun b ob q _=>⟨ob,k b ob q⟩,fun _ _ q=>q,fun _ _ _ q=>q,fun _ ps q=>⟨#[],by rw[q];simp⟩⟩
theorem Un.refl:Un fs ex H H h h:=Un.kept fun _ _ q=>q
theorem Un.laid (k:∀ b u,h.get? b=some u->h'.get? b=some u) (hp:h.objs.size<=a) (hn:H a=none):Un fs ex H (upd H a o) h h' where
 keep:=fun b u q _ _ _=>k b u q
 slot:=fun b u q _ _ _=>⟨u.slots,k b u q⟩
 free:=fun b u q n _=>by rw[Qaj (Nat.ne_of_lt (Nat.lt_of_lt_of_le (Heap.lt_size q) hp))];exact n
 there:=fun b u q _=>⟨u,k b u q⟩
 tups:=fun b xs q=>by rw[Qaj (Qal q hn)];exact q
 frzs:=fun b u xs q=>by rw[Qaj (Qal q hn)];exact q
 tbls:=fun b ps q=>⟨#[],by rw[Qaj (Qal q hn),q];simp⟩
theorem Un.write (mu:Mut (H x)) (he:e=x\/H e=some (.own x)) (k:∀ b u,b≠e->h.get? b=some u->h'.get? b=some u) (heo:∃ u,h'.get? e=some u):Un fs ex H (upd H x o) h h':=by
 have hx:∀ b,H b=none->b≠x:=fun b n z=>by subst z;rw[n]at mu;exact mu
 have hb:∀ b,H b=none->b≠e:=fun b n z=>by
  subst z
  rcases he with r | r
  ·exact hx b n r
  ·rw[n]at r;cases r
 have hm:∀ b u,H b=some u->¬ Mut (some u)->b≠x:=fun b u q nm z=>by subst z;rw[q]at mu;exact nm mu
 refine⟨fun b u q n _ _=>k b u (hb b n) q,fun b u q n _ _=>⟨u.slots,k b u (hb b n) q⟩,fun b u q n _=>by rw[Qaj (hx b n)];exact n,fun b u q _=>?_,
  fun b xs q=>by rw[Qaj (hm b _ q fun z=>z)];exact q,fun b u xs q=>by rw[Qaj (hm b _ q fun z=>z)];exact q,fun b ps q=>⟨#[],by rw[Qaj (hm b _ q fun z=>z),q];simp⟩⟩
 by_cases hbe:b=e
 ·subst hbe;exact heo
 ·exact⟨u,k b u hbe q⟩
end
def trk (h:Heap) (H:Hp):List Addr:=(List.range h.objs.size).filter fun a=>(H a).isSome
def hidT (h:Heap) (H:Hp):Heap:=PySem.W.hideAll h (trk h H)
theorem Qam (h:Heap) (H:Hp):(hidT h H).objs.size=h.objs.size:=PySem.W.hideAll_size _ _
theorem Qan {h:Heap}{H:Hp}{b:Addr}{o:Obj} (e:h.get? b=some o) (n:H b=none):(hidT h H).get? b=some o:=
 PySem.W.hideAll_get _ e fun hm=>by
  have q:(H b).isSome=true:=(List.mem_filter.mp hm).2
  rw[n]at q;simp at q
theorem Qao {h:Heap}{H:Hp}{b:Addr}{o:Obj} (e:(hidT h H).get? b=some o):h.get? b=some o/\H b=none:=by
 have e':h.get? b=some o:=PySem.W.of_hideAll (trk h H) e
 refine⟨e',?_⟩
 cases q:H b with
 | none=>rfl
 | some x=>
  have hm:b∈trk h H:=List.mem_filter.mpr ⟨List.mem_range.mpr (Heap.lt_size e'),by simp[q]⟩
  have z:(hidT h H).get? b=none:=PySem.W.hideAll_none (trk h H) hm
  rw[z]at e;cases e
def allNews (g h:Heap) (L:Addr):List (Addr × Obj):=(List.range h.objs.size).filterMap fun a=>if a=L\/(g.get? a).isSome=true then none else (h.get? a).map fun o=>(a,o)
def rest (g h:Heap) (L d:Addr):List (Addr × Obj):=(allNews g h L).filter fun p=>decide (p.1≠d)
structure Mod (K:PySem.W.Frag) (mg:Str->Option Value) (base:Heap):Prop where
 kin:K.In base
 glob:base.Ns mainGlobals mg
 blt:∃ mb,base.Ns builtinsNs mb/\∀ x:Str,x≠"__name__"->mb x=bootBuiltins x
 nolimit:base.NoLimit
structure Cx where
 prog:Program
 w:World
 K:PySem.W.Frag
 mg:Str->Option Value
 base:Heap
 A:Around
 N:List Str
 s₀:Shared
 H₀:Hp
 env:Env
 outer:List Env
 stack:List Env
 ex:List Addr
 fn:Str->Bool
 calm:Bool
 pn:List (Addr × Obj)
 xe:Value->Shared->Prop
def frs (l:List Env):List Addr:=l.filterMap (·.frame)
abbrev Cx.fs (X:Cx):List Addr:=frs X.outer
def Vis (sc:Scope) (x:Str):Prop:=sc.names.lookup x=some .local\/sc.names.lookup x=some .cell\/sc.names.lookup x=some .free
def Loc (sc:Scope) (x:Str):Prop:=sc.names.lookup x=some .local\/sc.names.lookup x=some .cell
def Look (env:Env) (h:Heap) (m:Str->Option Value) (x:Str) (u:Value):Prop:=
 (env.kindOf x=some .local/\m x=some u)\/((env.kindOf x=some .cell\/env.kindOf x=some .free)/\∃ c,env.cells.lookup x=some c/\h.IsCell c (some u))
structure Cx.Ok (X:Cx):Prop where
 mod:Mod X.K X.mg X.base
 kind:X.env.scope.kind=.function
 glob:X.env.globals=mainGlobals
 blt:X.env.builtins=builtinsNs
 above:X.s₀.heap.objs.size<=X.env.locals
 inj:∀ x y c,X.env.cells.lookup x=some c->X.env.cells.lookup y=some c->x=y
 has:∀ x,(X.env.kindOf x=some .cell\/X.env.kindOf x=some .free)->∃ c,X.env.cells.lookup x=some c
 cab:∀ x c,X.fn x=true->X.env.cells.lookup x=some c->X.s₀.heap.objs.size<=c
 hd:X.calm=true->X.A.handled=none
 frames:X.A.frames=some X.stack
 stk:X.stack=X.outer\/(X.stack=X.env::X.outer/\X.env.frame=some X.env.locals)
 exf:∀ b∈X.ex,b≠X.env.locals/\∀ x c,X.env.cells.lookup x=some c->c≠b
 bs:∀ b o,X.base.get? b=some o->X.s₀.heap.get? b=some o/\X.H₀ b=none
 bsz:X.base.objs.size<=X.s₀.heap.objs.size
 noex:∀ b o,X.base.get? b=some o->b∉X.ex
 exfs:∀ b∈X.ex,b∉X.fs
 funs:X.s₀.heap.FunFrames X.base X.outer
 frf:∀ b∈X.fs,X.H₀ b=none
structure Inv (X:Cx) (pins:List (Addr × Obj)) (σ:List (Option V)) (H:Hp) (s:Shared):Prop where
 ok:X.Ok
 os:s.os=X.s₀.os
 bare:AllBare s.gens
 base:Un X.fs X.ex X.H₀ H X.s₀.heap s.heap
 loc:∃ m,s.heap.Ns X.env.locals m/\∀ (i:Nat) (x:Str) (v:V),X.N[i]?=some x->σ[i]?=some (some v)->Vis X.env.scope x->∃ u,RelV v u/\Look X.env s.heap m x u
 cell:∀ x c,X.env.cells.lookup x=some c->∃ v,s.heap.IsCell c v
 free:H X.env.locals=none
 freeC:∀ x c,X.env.cells.lookup x=some c->H c=none
 pin:∀ p∈X.pn++pins,s.heap.get? p.1=some p.2/\H p.1=none/\p.1≠X.env.locals/\p.1∉X.fs/\∀ v,p.2.data≠.cell v
 hok:HOk X.prog X.w H s.heap
 len:σ.length=X.N.length
section
variable {X:Cx}{pins:List (Addr × Obj)}{σ:List (Option V)}{H H':Hp}{s:Shared}{h':Heap}
theorem Cx.Ok.nofr (ok:X.Ok) {b:Addr}{o:Obj} (e:X.base.get? b=some o):b∉X.fs:=fun hb=>by
 have:=(ok.funs.mem hb).1
 rw[e]at this;cases this
theorem Inv.bs (I:Inv X pins σ H s):∀ b o,X.base.get? b=some o->s.heap.get? b=some o/\H b=none:=fun b o e=>
 ⟨I.base.keep b o (I.ok.bs b o e).1 (I.ok.bs b o e).2 (I.ok.nofr e) (I.ok.noex b o e),I.base.free b o (I.ok.bs b o e).1 (I.ok.bs b o e).2 (I.ok.noex b o e)⟩
theorem Inv.bk (I:Inv X pins σ H s):∀ b o,X.base.get? b=some o->s.heap.get? b=some o:=fun b o e=>(I.bs b o e).1
theorem Inv.mod (I:Inv X pins σ H s):Mod X.K X.mg X.base:=I.ok.mod
theorem Inv.kIn (I:Inv X pins σ H s):X.K.In s.heap:=I.ok.mod.kin.keeps I.bk
theorem Inv.lt (I:Inv X pins σ H s):X.env.locals < s.heap.objs.size:=let ⟨_,hn,_⟩:=I.loc;hn.lt
theorem Inv.sz (I:Inv X pins σ H s):X.s₀.heap.objs.size<=s.heap.objs.size:=Nat.le_trans I.ok.above (Nat.le_of_lt I.lt)
theorem Inv.nofs (I:Inv X pins σ H s) {a:Addr} (h:s.heap.objs.size<=a):a∉X.fs:=fun hb=>by
 obtain⟨_,o,ho,_⟩:=I.ok.funs.mem hb
 exact absurd (Nat.lt_of_lt_of_le (Heap.lt_size ho) (Nat.le_trans I.sz h)) (Nat.lt_irrefl _)
theorem Inv.cne (I:Inv X pins σ H s):∀ x c,X.env.cells.lookup x=some c->c≠X.env.locals:=fun x c e z=>by
 obtain⟨v,o,ho,hd⟩:=I.cell x c e
 obtain⟨m,⟨o',es,ep,ho',hd',_⟩,_⟩:=I.loc
 rw[z,ho']at ho;cases ho;rw[hd']at hd;cases hd
theorem Inv.funs (I:Inv X pins σ H s):s.heap.FunFrames X.base X.outer:=by
 have all:∀ (l:List Env),(∀ b∈frs l,b∈X.fs)->X.s₀.heap.FunFrames X.base l->s.heap.FunFrames X.base l:=by
  intro l
  induction l with
  | nil=>intro _ _;trivial
  | cons env r ih=>
   intro hs hl
   obtain⟨hk,⟨L,o,hf,hn,ho,hd⟩,hr⟩:=hl
   have hL:L∈X.fs:=hs L (by unfold frs;rw[List.filterMap_cons,hf];exact List.mem_cons_self)
   obtain⟨sl,e⟩:=I.base.slot L o ho (I.ok.frf L hL) hL fun z=>I.ok.exfs L z hL
   exact⟨hk,⟨L,_,hf,hn,e,hd⟩,ih (fun b hb=>hs b (by unfold frs;rw[List.filterMap_cons,hf];exact List.mem_cons_of_mem _ hb)) hr⟩
 exact all X.outer (fun _ hb=>hb) I.ok.funs
theorem Inv.stack (I:Inv X pins σ H s):s.heap.FunFrames X.base X.stack:=by
 rcases I.ok.stk with e | ⟨e,hf⟩
 ·rw[e];exact I.funs
 ·rw[e]
  obtain⟨m,hn,_⟩:=I.loc
  refine .cons (by rw[I.ok.kind];decide) hf hn ?_ I.funs
  exact Heap.get?_none_of_le (Nat.le_trans I.ok.bsz I.ok.above)
theorem Inv.stkSub (I:Inv X pins σ H s):∀ b∈frs X.stack,b∈X.env.locals::X.fs:=fun b hb=>by
 rcases I.ok.stk with e | ⟨e,hf⟩
 ·rw[e]at hb;exact List.mem_cons_of_mem _ hb
 ·rw[e]at hb
  unfold frs at hb
  rw[List.filterMap_cons,hf]at hb
  exact hb
theorem Inv.stkFree (I:Inv X pins σ H s):∀ b∈frs X.stack,H b=none:=fun b hb=>by
 rcases List.mem_cons.mp (I.stkSub b hb) with e | hb
 ·rw[e];exact I.free
 ·obtain⟨_,o,ho,_⟩:=I.ok.funs.mem hb
  exact I.base.free b o ho (I.ok.frf b hb) fun z=>I.ok.exfs b z hb
theorem Inv.step {g' : Array GenState} {t' : Nat} {d' : Drawn} {ch : List Addr} (I : Inv X pins σ H s)
  (hch:∀ b∈ch,(b∈X.ex\/X.s₀.heap.objs.size<=b)/\b≠X.env.locals/\(∀ x c,X.env.cells.lookup x=some c->c≠b)/\∀ p∈X.pn++pins,p.1≠b)
  (keep:∀ b o,b≠X.env.locals->b∉X.fs->b∉ch->s.heap.get? b=some o->H b=none->h'.get? b=some o)
  (slot:∀ b o,b≠X.env.locals->b∈X.fs->b∉ch->s.heap.get? b=some o->H b=none->∃ sl,h'.get? b=some { o with slots:=sl }) (free:∀ b o,b∉ch->s.heap.get? b=some o->H b=none->H' b=none)
  (there:∀ b o,b∉ch->s.heap.get? b=some o->∃ o',h'.get? b=some o')
  (tups:∀ b xs,H b=some (.tup xs)->H' b=some (.tup xs)) (frzs:∀ b o u,H b=some (.frz o u)->H' b=some (.frz o u)) (tbls:∀ b ps,H b=some (.tbl ps)->∃ more,H' b=some (.tbl (ps++more)))
  (ns:∀ m,s.heap.Ns X.env.locals m->h'.Ns X.env.locals m) (hok:HOk X.prog X.w H' h') (hg:AllBare g'):
  Inv X pins σ H' { s with heap:=h',gens:=g',drawn:=d',toks:=t' }:=by
 have neL:∀ b o,X.s₀.heap.get? b=some o->b≠X.env.locals:=fun b o e=>Nat.ne_of_lt (Nat.lt_of_lt_of_le (Heap.lt_size e) I.ok.above)
 have neC:∀ b o,X.s₀.heap.get? b=some o->b∉X.ex->b∉ch:=fun b o e hx hb=>by
  rcases (hch b hb).1 with z | z
  ·exact hx z
  ·exact absurd (Nat.lt_of_lt_of_le (Heap.lt_size e) z) (Nat.lt_irrefl _)
 have cellK:∀ x c,X.env.cells.lookup x=some c->∀ v,s.heap.IsCell c v->h'.IsCell c v:=fun x c e v pq1=>by
  obtain⟨o,ho,hd⟩:=pq1
  have nch:c∉ch:=fun z=>(hch c z).2.2.1 x c e rfl
  by_cases hc:c∈X.fs
  ·obtain⟨sl,q⟩:=slot c o (I.cne x c e) hc nch ho (I.freeC x c e)
   exact⟨_,q,hd⟩
  ·exact⟨o,keep c o (I.cne x c e) hc nch ho (I.freeC x c e),hd⟩
 refine⟨I.ok,I.os,hg,⟨fun b o e n hb hx=>?_,fun b o e n hb hx=>?_,fun b o e n hx=>?_,fun b o e hx=>?_,fun b xs e=>tups b xs (I.base.tups b xs e),fun b o xs e=>frzs b o xs (I.base.frzs b o xs e),fun b ps e=>?_⟩,?_,fun x c e=>?_,?_,fun x c e=>?_,fun p hp=>?_,hok,I.len⟩
 ·exact keep b o (neL b o e) hb (neC b o e hx) (I.base.keep b o e n hb hx) (I.base.free b o e n hx)
 ·obtain⟨sl,e1⟩:=I.base.slot b o e n hb hx
  obtain⟨sl',e2⟩:=slot b _ (neL b o e) hb (neC b o e hx) e1 (I.base.free b o e n hx)
  exact⟨sl',e2⟩
 ·obtain⟨o',e1⟩:=I.base.there b o e hx
  exact free b o' (neC b o e hx) e1 (I.base.free b o e n hx)
 ·obtain⟨o',e1⟩:=I.base.there b o e hx
  exact there b o' (neC b o e hx) e1
 ·obtain⟨m1,e1⟩:=I.base.tbls b ps e
  obtain⟨m2,e2⟩:=tbls b _ e1
  exact⟨m1++m2,by rw[e2,Array.append_assoc]⟩
 ·obtain⟨m,hn,hl⟩:=I.loc
  refine⟨m,ns m hn,fun i x v e1 e2 e3=>?_⟩
  obtain⟨u,r,l⟩:=hl i x v e1 e2 e3
  refine⟨u,r,?_⟩
  rcases l with l | ⟨k,c,e,z⟩
  ·exact .inl l
  ·exact .inr ⟨k,c,e,cellK x c e _ z⟩
 ·obtain⟨v,z⟩:=I.cell x c e
  exact⟨v,cellK x c e v z⟩
 ·obtain⟨m,⟨o,_,_,ho,_⟩,_⟩:=I.loc
  exact free _ o (fun z=>(hch _ z).2.1 rfl) ho I.free
 ·obtain⟨v,o,ho,hd⟩:=I.cell x c e
  exact free c o (fun z=>(hch c z).2.2.1 x c e rfl) ho (I.freeC x c e)
 ·obtain⟨e,n,ne,nf,d⟩:=I.pin p hp
  have nch:p.1∉ch:=fun z=>(hch p.1 z).2.2.2 p hp rfl
  exact⟨keep p.1 p.2 ne nf nch e n,free p.1 p.2 nch e n,ne,nf,d⟩
theorem Inv.un {t':Nat} (I:Inv X pins σ H s) (u:Un X.fs [] H H' s.heap h') (hok:HOk X.prog X.w H' h'):Inv X pins σ H' { s with heap:=h',toks:=t' }:=by
 obtain⟨m,⟨o,es,ep,ho,r⟩,_⟩:=id I.loc
 obtain⟨sl,hL⟩:=u.any ho I.free (by simp)
 exact I.step (g':=s.gens) (d':=s.drawn) (ch:=[]) (fun _ z=>nomatch z) (fun b o _ hb _ e n=>u.keep b o e n hb (by simp)) (fun b o _ hb _ e n=>u.slot b o e n hb (by simp)) (fun b o _ e n=>u.free b o e n (by simp)) (fun b o _ e=>u.there b o e (by simp)) u.tups u.frzs u.tbls (fun m' hm=>by
  obtain⟨o',es',ep',ho',r'⟩:=hm
  rw[ho]at ho';cases ho'
  exact⟨_,es',ep',hL,r'⟩) hok I.bare
theorem Inv.call {g' : Array GenState} {t' : Nat} {d' : Drawn} {ch : List Addr} (I : Inv X pins σ H s) (u : Un (frs X.stack) ch H H' s.heap h') (hok : HOk X.prog X.w H' h') (hg : AllBare g')
  (hch:∀ b∈ch,(b∈X.ex\/X.s₀.heap.objs.size<=b)/\b≠X.env.locals/\(∀ x c,X.env.cells.lookup x=some c->c≠b)/\∀ p∈X.pn++pins,p.1≠b):
  Inv X pins σ H' { s with heap:=h',gens:=g',drawn:=d',toks:=t' }:=by
 obtain⟨m,⟨o,es,ep,ho,r⟩,_⟩:=id I.loc
 obtain⟨sl,hL⟩:=u.any ho I.free fun z=>(hch _ z).2.1 rfl
 exact I.step (ch:=ch) hch (fun b o hL hb hc e n=>u.keep b o e n (fun z=>(List.mem_cons.mp (I.stkSub b z)).elim hL hb) hc) (fun b o _ _ hc e n=>u.any e n hc) (fun b o hc e n=>u.free b o e n hc) (fun b o hc e=>u.there b o e hc) u.tups u.frzs u.tbls (fun m' hm=>by
  obtain⟨o',es',ep',ho',r'⟩:=hm
  rw[ho]at ho';cases ho'
  exact⟨_,es',ep',hL,r'⟩) hok hg
theorem Inv.turned {t' : Nat} {it : Addr} (I : Inv X pins σ H s) (k : ∀ b o, b ≠ it -> s.heap.get? b = some o -> h'.get? b = some o) (hn : H it = none) (hL : it ≠ X.env.locals)
  (h1:it∈X.ex\/X.s₀.heap.objs.size<=it) (h2:∀ x c,X.env.cells.lookup x=some c->c≠it) (h3:∀ p∈X.pn++pins,p.1≠it):Inv X pins σ H { s with heap:=h',toks:=t' }:=by
 have nit:∀ b u,H b=some u->b≠it:=fun b u e z=>by rw[z,hn]at e;cases e
 refine I.step (g':=s.gens) (d':=s.drawn) (ch:=[it]) (fun b hb=>?_) (fun b o _ _ hc e _=>k b o (fun z=>hc (by simp[z])) e) (fun b o _ _ hc e _=>⟨o.slots,k b o (fun z=>hc (by simp[z])) e⟩) (fun _ _ _ _ n=>n)
  (fun b o hc e=>⟨o,k b o (fun z=>hc (by simp[z])) e⟩) (fun _ _ e=>e) (fun _ _ _ e=>e) (fun b ps e=>⟨#[],by rw[e];simp⟩) (fun m hm=>?_) (fun b u e=>?_) I.bare
 ·have e:b=it:=by simpa using hb
  subst e
  exact⟨h1,hL,h2,h3⟩
 ·obtain⟨o,es,ep,ho,r⟩:=hm
  exact⟨o,es,ep,k _ o (Ne.symm hL) ho,r⟩
 ·refine (I.hok b u e).stay (fun c v hc q=>k c v ?_ q) (fun _ q=>q) fun _ _ q=>q
  rcases hc with z | z
  ·rw[z];exact nit b u e
  ·exact nit c _ z
theorem Inv.tok (I:Inv X pins σ H s) (t:Nat):Inv X pins σ H { s with toks:=t }:=I.un (h':=s.heap) (t':=t) Un.refl I.hok
theorem Inv.kept {t':Nat} (I:Inv X pins σ H s) (k:∀ b u,s.heap.get? b=some u->h'.get? b=some u):Inv X pins σ H { s with heap:=h',toks:=t' }:=I.un (Un.kept k) (I.hok.kept k)
theorem Inv.laid {a : Addr} {o : HO} {t' : Nat} (I : Inv X pins σ H s) (k : ∀ b u, s.heap.get? b = some u -> h'.get? b = some u) (hp : s.heap.objs.size <= a) (new : ObjOk X.prog X.w (upd H a o) h' a o) :
  Inv X pins σ (upd H a o) { s with heap:=h',toks:=t' }:=I.un (Un.laid k hp (I.hok.fresh hp)) (I.hok.laid k hp new)
theorem Inv.write {x e : Addr} {o : HO} {t' : Nat} (I : Inv X pins σ H s) (mu : Mut (H x)) (he : e = x \/ H e = some (.own x)) (k : ∀ b u, b ≠ e -> s.heap.get? b = some u -> h'.get? b = some u) (heo : ∃ u, h'.get? e = some u)
  (new:ObjOk X.prog X.w (upd H x o) h' x o):Inv X pins σ (upd H x o) { s with heap:=h',toks:=t' }:=I.un (Un.write mu he k heo) (I.hok.write mu he k heo new)
theorem Inv.pins_of {pins':List (Addr × Obj)} (I:Inv X pins σ H s) (h:∀ p∈pins',s.heap.get? p.1=some p.2/\H p.1=none/\p.1≠X.env.locals/\p.1∉X.fs/\∀ v,p.2.data≠.cell v):Inv X pins' σ H s:=
 ⟨I.ok,I.os,I.bare,I.base,I.loc,I.cell,I.free,I.freeC,fun p hp=>(List.mem_append.mp hp).elim (fun z=>I.pin p (List.mem_append_left _ z)) (h p),I.hok,I.len⟩
theorem Qap {N:List Str} (hN:N.Nodup) {i j:Nat}{x:Str} (a:N[i]?=some x) (b:N[j]?=some x):i=j:=by
 obtain⟨h1,e1⟩:=List.getElem?_eq_some_iff.mp a
 obtain⟨h2,e2⟩:=List.getElem?_eq_some_iff.mp b
 exact (List.getElem_inj hN).mp (e1.trans e2.symm)
theorem Qaq {M : Model} {A : Around} {E : Value -> Shared -> Prop} {i : Nat} {x : Str} {v : V} {u : Value} {Q : Unit -> Shared -> Prop} (I : Inv X pins σ H s) (hN : X.N.Nodup) (hi : X.N[i]? = some x) (hx : Loc X.env.scope x) (r : RelV v u)
  (h:∀ s',Inv X pins (σ.set i (some v)) H s'->(∃ a,Heap.SameBut a s.heap s'.heap/\(a=X.env.locals\/X.env.cells.lookup x=some a))->Q () s') (hf:X.fn x=true\/X.env.scope.names.lookup x=some .local:=by first | exact .inl rfl | exact .inr rfl | assumption):wpAny M A (storeName X.env x u) Q E s:=by
 obtain⟨m,hn,hl⟩:=id I.loc
 have hcls:(X.env.scope.kind == .class || (X.env.scope.kind == .module && X.env.locals != X.env.globals))=false:=by rw[I.ok.kind];rfl
 have hiσ:i < σ.length:=by rw[I.len];exact (List.getElem?_eq_some_iff.mp hi).1
 have cne:=I.cne
 have tracked:∀ {a:Addr}{h':Heap},(∃ o,s.heap.get? a=some o/\H a=none)->Heap.SameBut a s.heap h'->HOk X.prog X.w H h':=fun {a h'} ha hs b ob e=>by
  obtain⟨_,_,hfree⟩:=ha
  refine (I.hok b ob e).stay (fun c w' hc q=>(hs.2 c ?_).trans q) (fun _ q=>q) fun _ _ q=>q
  rintro rfl
  rcases hc with rfl | hc
  ·rw[hfree]at e;cases e
  ·rw[hfree]at hc;cases hc
 rcases hx with hk | hk
 ·refine wpAny_storeName_local hk hn (fun h' hn' hs=>?_) hcls
  obtain⟨oL,_,_,hoL,_⟩:=id hn
  refine h _ ⟨I.ok,I.os,I.bare,⟨fun b o e n hb hx=>?_,fun b o e n hb hx=>?_,I.base.free,fun b o e hx=>?_,I.base.tups,I.base.frzs,I.base.tbls⟩,⟨_,hn',fun j y v' e1 e2 e3=>?_⟩,fun y c e=>?_,I.free,I.freeC,fun p hp=>?_,tracked ⟨oL,hoL,I.free⟩ hs,by simpa using I.len⟩ ⟨_,hs,.inl rfl⟩
  ·exact (hs.2 b (Nat.ne_of_lt (Nat.lt_of_lt_of_le (Heap.lt_size e) I.ok.above))).trans (I.base.keep b o e n hb hx)
  ·obtain⟨sl,e1⟩:=I.base.slot b o e n hb hx
   exact⟨sl,(hs.2 b (Nat.ne_of_lt (Nat.lt_of_lt_of_le (Heap.lt_size e) I.ok.above))).trans e1⟩
  ·obtain⟨o',e1⟩:=I.base.there b o e hx
   exact⟨o',(hs.2 b (Nat.ne_of_lt (Nat.lt_of_lt_of_le (Heap.lt_size e) I.ok.above))).trans e1⟩
  ·by_cases hj:j=i
   ·subst hj
    rw[hi]at e1;cases e1
    rw[List.getElem?_set_self hiσ]at e2
    cases e2
    exact⟨u,r,.inl ⟨hk,by simp⟩⟩
   ·rw[List.getElem?_set_ne (Ne.symm hj)]at e2
    obtain⟨u',r',q⟩:=hl j y v' e1 e2 e3
    refine⟨u',r',?_⟩
    rcases q with ⟨k,e⟩ | ⟨k,c,e,z⟩
    ·refine .inl ⟨k,?_⟩
     have:y≠x:=fun e=>hj (Qap hN e1 (e ▸ hi))
     simp[this,e]
    ·exact .inr ⟨k,c,e,z.sameBut hs (cne y c e)⟩
  ·obtain⟨w',z⟩:=I.cell y c e
   exact⟨w',z.sameBut hs (cne y c e)⟩
  ·obtain⟨e,n,ne,nf,d⟩:=I.pin p hp
   exact⟨(hs.2 p.1 ne).trans e,n,ne,nf,d⟩
 ·have hfn : X.fn x = true := by
    rcases hf with z | z
    ·exact z
    ·rw[z]at hk;cases hk
  obtain⟨c,hc⟩:=I.ok.has x (.inl hk)
  obtain⟨w',z⟩:=I.cell x c hc
  refine wpAny_storeName_cell I.ok.kind hk hc z (fun h' hc' hs=>?_)
  obtain⟨oc,hoc,hocd⟩:=id z
  refine h { s with heap:=h' } ⟨I.ok,I.os,I.bare,⟨fun b o e n hb hx=>?_,fun b o e n hb hx=>?_,I.base.free,fun b o e hx=>?_,I.base.tups,I.base.frzs,I.base.tbls⟩,⟨m,hn.sameBut hs (Ne.symm (cne x c hc)),fun j y v' e1 e2 e3=>?_⟩,fun y c' e=>?_,I.free,I.freeC,fun p hp=>?_,tracked ⟨oc,hoc,I.freeC x c hc⟩ hs,by simpa using I.len⟩ ⟨c,hs,.inr hc⟩
  ·exact (hs.2 b (Nat.ne_of_lt (Nat.lt_of_lt_of_le (Heap.lt_size e) (I.ok.cab x c hfn hc)))).trans (I.base.keep b o e n hb hx)
  ·obtain⟨sl,e1⟩:=I.base.slot b o e n hb hx
   exact⟨sl,(hs.2 b (Nat.ne_of_lt (Nat.lt_of_lt_of_le (Heap.lt_size e) (I.ok.cab x c hfn hc)))).trans e1⟩
  ·obtain⟨o',e1⟩:=I.base.there b o e hx
   exact⟨o',(hs.2 b (Nat.ne_of_lt (Nat.lt_of_lt_of_le (Heap.lt_size e) (I.ok.cab x c hfn hc)))).trans e1⟩
  ·by_cases hj:j=i
   ·subst hj
    rw[hi]at e1;cases e1
    rw[List.getElem?_set_self hiσ]at e2
    cases e2
    exact⟨u,r,.inr ⟨.inl hk,c,hc,hc'⟩⟩
   ·rw[List.getElem?_set_ne (Ne.symm hj)]at e2
    obtain⟨u',r',q⟩:=hl j y v' e1 e2 e3
    refine⟨u',r',?_⟩
    rcases q with q | ⟨k,c',e,z'⟩
    ·exact .inl q
    ·refine .inr ⟨k,c',e,z'.sameBut hs ?_⟩
     rintro rfl
     exact hj (Qap hN e1 (I.ok.inj _ _ _ e hc ▸ hi))
  ·by_cases hcc:c'=c
   ·subst hcc;exact⟨_,hc'⟩
   ·obtain⟨w2,z2⟩:=I.cell y c' e
    exact⟨w2,z2.sameBut hs hcc⟩
  ·obtain⟨e,n,ne,nf,d⟩:=I.pin p hp
   refine⟨(hs.2 p.1 ?_).trans e,n,ne,nf,d⟩
   intro q
   rw[q,hoc]at e
   have q':oc=p.2:=Option.some.inj e
   exact d w' (by rw[<- q'];exact hocd)
theorem Qar {M : Model} {A : Around} {E : Value -> Shared -> Prop} {i : Nat} {x : Str} {v : V} {u : Value} {Q : Unit -> Shared -> Prop} (I : Inv X pins σ H s) (hN : X.N.Nodup) (hi : X.N[i]? = some x) (hx : Loc X.env.scope x) (r : RelV v u)
  (h:∀ s',Inv X pins (σ.set i (some v)) H s'->Q () s') (hf:X.fn x=true\/X.env.scope.names.lookup x=some .local:=by first | exact .inl rfl | exact .inr rfl | assumption):wpAny M A (storeName X.env x u) Q E s:=
 Qaq I hN hi hx r (fun s' I' _=>h s' I') hf
theorem Inv.call' {s' : Shared} {ch : List Addr} (I : Inv X pins σ H s) (ho : s'.os = s.os) (u : Un (frs X.stack) ch H H' s.heap s'.heap) (hok : HOk X.prog X.w H' s'.heap) (hg : AllBare s'.gens)
  (hch:∀ b∈ch,(b∈X.ex\/X.s₀.heap.objs.size<=b)/\b≠X.env.locals/\(∀ x c,X.env.cells.lookup x=some c->c≠b)/\∀ p∈X.pn++pins,p.1≠b):Inv X pins σ H' s':=by
 obtain⟨h',g',d',t',o'⟩:=s'
 have e:o'=s.os:=ho
 subst e
 exact I.call (g':=g') (t':=t') (d':=d') u hok hg hch
end
abbrev XK:=Value->Option Addr->Hp->Prop
abbrev St:=List (Option V)
abbrev VK:=V->Hp->Prop
abbrev TE:=St->Hp->VK->Prop
abbrev TT:=St->Hp->(Bool->Hp->Prop)->Prop
abbrev TA:=St->Hp->(List V->Hp->Prop)->Prop
structure Ends where
 nx:St->Hp->Prop
 rt:VK
 bk:St->Hp->Prop:=fun _ _=>False
 ct:St->Hp->Prop:=fun _ _=>False
abbrev TS:=Ends->St->Hp->Prop
def EP (X:Cx) (pins:List (Addr × Obj)) (σ:St) (Q:VK) (u:Value) (s':Shared):Prop:=∃ v H',Inv X pins σ H' s'/\RelV v u/\Q v H'
def TP (X:Cx) (pins:List (Addr × Obj)) (σ:St) (Q:Bool->Hp->Prop) (b:Bool) (s':Shared):Prop:=∃ H',Inv X pins σ H' s'/\Q b H'
def AP (X:Cx) (pins:List (Addr × Obj)) (σ:St) (Q:List V->Hp->Prop) (us:List Value) (s':Shared):Prop:=∃ vs H',Inv X pins σ H' s'/\Vals vs us/\Q vs H'
def SP (X:Cx) (pins:List (Addr × Obj)) (D:Ends) (f:Flow) (s':Shared):Prop:=
 match f with
 | .next=>∃ σ' H',Inv X pins σ' H' s'/\D.nx σ' H'
 | .brk=>∃ σ' H',Inv X pins σ' H' s'/\D.bk σ' H'
 | .cont=>∃ σ' H',Inv X pins σ' H' s'/\D.ct σ' H'
 | .ret u=>∃ v σ' H',Inv X pins σ' H' s'/\RelV v u/\D.rt v H'
def PE (X:Cx) (e:Expr) (t:TE):Prop:=
 ∀ (pins:List (Addr × Obj)) (s:Shared) (σ:St) (H:Hp) (Q:VK),Inv X pins σ H s->t σ H Q->wpAny (model X.prog X.w) X.A (eval e X.env) (EP X pins σ Q) X.xe s
def PT (X:Cx) (e:Expr) (t:TT):Prop:=
 ∀ (pins:List (Addr × Obj)) (s:Shared) (σ:St) (H:Hp) (Q:Bool->Hp->Prop),Inv X pins σ H s->t σ H Q->wpAny (model X.prog X.w) X.A (isTrue e X.env (eval e X.env)) (TP X pins σ Q) X.xe s
def PW (X:Cx) (e:Expr) (t:TT):Prop:=
 ∀ (whole:Sem Value) (pins:List (Addr × Obj)) (s:Shared) (σ:St) (H:Hp) (Q:Bool->Hp->Prop),Inv X pins σ H s->t σ H Q->wpAny (model X.prog X.w) X.A (isTrue e X.env whole) (TP X pins σ Q) X.xe s
theorem PW.pt {X:Cx}{e:Expr}{t:TT} (h:PW X e t):PT X e t:=h _
def PA (X:Cx) (es:List Expr) (t:TA):Prop:=
 ∀ (pos:Pos) (pins:List (Addr × Obj)) (s:Shared) (σ:St) (H:Hp) (Q:List V->Hp->Prop),Inv X pins σ H s->t σ H Q->wpAny (model X.prog X.w) X.A (spliced (backTo pos (starEach es X.env))) (AP X pins σ Q) X.xe s
def PS (X:Cx) (st:Stmt) (t:TS):Prop:=
 ∀ (pins:List (Addr × Obj)) (s:Shared) (σ:St) (H:Hp) (D:Ends),Inv X pins σ H s->t D σ H->wpAny (model X.prog X.w) X.A (exec st X.env) (SP X pins D) X.xe s
def PSs (X:Cx) (st:List Stmt) (t:TS):Prop:=
 ∀ (pins:List (Addr × Obj)) (s:Shared) (σ:St) (H:Hp) (D:Ends),Inv X pins σ H s->t D σ H->wpAny (model X.prog X.w) X.A (execs st X.env) (SP X pins D) X.xe s
theorem thn {α:Type}{t:Sem α}{Q Q':α->Shared->Prop}{M:Model}{A:Around}{E:Value->Shared->Prop}{s:Shared} (h:wpAny M A t Q E s) (hQ:∀ a s,Q a s->Q' a s):wpAny M A t Q' E s:=wpAny_mono h hQ fun _ _ x=>x
section
variable {X:Cx}
def tVar (i:Nat):TE:=fun σ H Q=>∃ v,σ[i]?=some (some v)/\Q v H
def tC (v:V):TE:=fun _ H Q=>Q v H
theorem Qas {i:Nat}{x:Str}{pos:Pos} (hN:X.N[i]?=some x) (hv:Vis X.env.scope x) (hd:(x == ("__debug__":Str))=false:=by decide) (hcd:(x == ("__classdict__":Str))=false:=by decide):PE X (.Name x pos) (tVar i):=by
 intro pins s σ H Q I h
 obtain⟨v,e,h⟩:=h
 obtain⟨m,hn,hl⟩:=I.loc
 obtain⟨u,r,l⟩:=hl i x v hN e hv
 have fin:EP X pins σ Q u s:=⟨v,H,I,r,h⟩
 rcases l with ⟨hk,hm⟩ | ⟨hk,c,hc,hcell⟩
 ·exact wpAny_Name (wpAny_loadName_local I.ok.kind hk hn hm fin) hd
 ·rcases hk with hk | hk
  ·exact wpAny_Name (wpAny_loadName_cell I.ok.kind hk hc hcell fin) hd
  ·exact wpAny_Name (wpAny_loadName_free I.ok.kind hk hc hcell fin hcd) hd
theorem Qat {i j pos}:PE X (.Constant (.int i) j pos) (tC (.int i)):=fun _ _ _ H _ I h=>wpAny_Constant_int ⟨.int i,H,I.tok _,⟨_,rfl⟩,h⟩
theorem Qau {b j pos}:PE X (.Constant (.bool b) j pos) (tC (.bl b)):=fun _ _ _ H _ I h=>Constant_bool ⟨.bl b,H,I,rfl,h⟩
theorem Qav {j pos}:PE X (.Constant .none j pos) (tC .non):=fun _ _ _ H _ I h=>Constant_none ⟨.non,H,I,rfl,h⟩
theorem Qaw {x j pos}:PE X (.Constant (.str x) j pos) (tC (.str x)):=fun _ _ _ H _ I h=>Calls.Constant_str ⟨.str x,H,I.tok _,⟨_,rfl⟩,h⟩
def Gl (X:Cx) (x:Str):Prop:=X.env.kindOf x=some .globalImplicit
theorem Qax {E : Value -> Shared -> Prop} {pins : List (Addr × Obj)} {s : Shared} {σ : St} {H : Hp} {x : Str} {u : Value} {pos : Pos} {Q : Value -> Shared -> Prop} (I : Inv X pins σ H s) (hg : Gl X x) (hm : X.mg x = some u) (h : Q u s)
  (hd:(x == ("__debug__":Str))=false:=by decide):wpAny (model X.prog X.w) X.A (eval (.Name x pos) X.env) Q E s:=
 Calls.Name_function_global I.ok.kind hg (Calls.loadGlobal_global (by rw[I.ok.glob];exact I.mod.glob.keeps I.bk) hm h) hd
theorem Qay {E : Value -> Shared -> Prop} {pins : List (Addr × Obj)} {s : Shared} {σ : St} {H : Hp} {x : Str} {u : Value} {pos : Pos} {Q : Value -> Shared -> Prop} (I : Inv X pins σ H s) (hg : Gl X x) (hm : X.mg x = none) (hv : bootBuiltins x = some u) (h : Q u s)
  (hn:x≠"__name__":=by decide) (hd:(x == ("__debug__":Str))=false:=by decide):wpAny (model X.prog X.w) X.A (eval (.Name x pos) X.env) Q E s:=by
 obtain⟨mb,h1,h2⟩:=I.mod.blt
 exact Calls.Name_function_global I.ok.kind hg (Calls.loadGlobal_builtin (by rw[I.ok.glob];exact I.mod.glob.keeps I.bk) hm (by rw[I.ok.blt];exact h1.keeps I.bk) ((h2 x hn).trans hv) h) hd
theorem Qaz {x:Str}{v:V}{u:Value}{pos:Pos} (hg:Gl X x) (hm:X.mg x=some u) (r:RelV v u) (hd:(x == ("__debug__":Str))=false:=by decide):PE X (.Name x pos) (tC v):=
 fun _ _ _ H _ I h=>Qax I hg hm ⟨v,H,I,r,h⟩ hd
theorem QaA {x:Str}{v:V}{u:Value}{pos:Pos} (hg:Gl X x) (hm:X.mg x=none) (hv:bootBuiltins x=some u) (r:RelV v u) (hn:x≠"__name__":=by decide) (hd:(x == ("__debug__":Str))=false:=by decide):PE X (.Name x pos) (tC v):=
 fun _ _ _ H _ I h=>Qay I hg hm hv ⟨v,H,I,r,h⟩ hn hd
variable {a b:Expr}{ta tb:TE}{pos:Pos}
variable {tA tB':TT}{rest:List Expr}
def tAnd (t u:TT):TT:=fun σ H Q=>t σ H fun c H1=>if c=true then u σ H1 Q else Q false H1
def tOr (t u:TT):TT:=fun σ H Q=>t σ H fun c H1=>if c=true then Q true H1 else u σ H1 Q
def tNot (t:TT):TT:=fun σ H Q=>t σ H fun c H1=>Q (!c) H1
theorem QaB (ha:PT X a tA):PW X (.BoolOp .And [a] pos) tA:=by
 intro wh pins s σ H Q I h
 refine isTrue_and (thn (ha pins s σ H Q I h) fun c s1 e=>?_)
 cases c with
 | true=>exact isTrue_and_nil e
 | false=>exact e
theorem QaC (ha:PT X a tA):PW X (.BoolOp .Or [a] pos) tA:=by
 intro wh pins s σ H Q I h
 refine isTrue_or (thn (ha pins s σ H Q I h) fun c s1 e=>?_)
 cases c with
 | false=>exact isTrue_or_nil e
 | true=>exact e
theorem QaD (ha:PT X a tA) (hb:PW X (.BoolOp .And (b::rest) pos) tB'):PW X (.BoolOp .And (a::b::rest) pos) (tAnd tA tB'):=by
 intro wh pins s σ H Q I h
 refine isTrue_and (thn (ha pins s σ H _ I h) fun c s1 pq2=>?_)
 obtain⟨H1,I1,q1⟩:=pq2
 cases c with
 | true=>exact hb wh pins s1 σ H1 Q I1 q1
 | false=>exact⟨H1,I1,q1⟩
theorem QaE (ha:PT X a tA) (hb:PW X (.BoolOp .Or (b::rest) pos) tB'):PW X (.BoolOp .Or (a::b::rest) pos) (tOr tA tB'):=by
 intro wh pins s σ H Q I h
 refine isTrue_or (thn (ha pins s σ H _ I h) fun c s1 pq3=>?_)
 obtain⟨H1,I1,q1⟩:=pq3
 cases c with
 | true=>exact⟨H1,I1,q1⟩
 | false=>exact hb wh pins s1 σ H1 Q I1 q1
theorem QaF (ha:PT X a tA):PT X (.UnaryOp .Not a pos) (tNot tA):=by
 intro pins s σ H Q I h
 exact isTrue_not (ha pins s σ H (fun c H1=>Q (!c) H1) I h)
def tAndV (ta tb:TE):TE:=fun σ H Q=>ta σ H fun x H1=>∃ c,x=.bl c/\if c=true then tb σ H1 Q else Q (.bl false) H1
def tNotV (ta:TE):TE:=fun σ H Q=>ta σ H fun x H1=>∃ c,x=.bl c/\Q (.bl (!c)) H1
theorem QaG {op}{t:TE} (h:PE X a t):PE X (.BoolOp op [a] pos) t:=fun pins s σ H Q I hw=>BoolOp_one (h pins s σ H Q I hw)
theorem QaH (ha:PE X a ta) (hb:PE X (.BoolOp .And (b::rest) pos) tb):PE X (.BoolOp .And (a::b::rest) pos) (tAndV ta tb):=by
 intro pins s σ H Q I h
 refine BoolOp_and (thn (ha pins s σ H _ I h) fun v s1 pq4=>?_)
 obtain⟨x,H1,I1,r1,q1⟩:=pq4
 obtain⟨c,rfl,q1⟩:=q1
 cases r1
 refine wpAny_truthy_bool ?_
 cases c with
 | true=>exact hb pins s1 σ H1 Q I1 q1
 | false=>exact⟨.bl false,H1,I1,rfl,q1⟩
theorem QaI (ha:PE X a ta):PE X (.UnaryOp .Not a pos) (tNotV ta):=by
 intro pins s σ H Q I h
 refine UnaryOp_ (thn (ha pins s σ H _ I h) fun v s1 pq5=>?_)
 obtain⟨x,H1,I1,r1,q1⟩:=pq5
 obtain⟨c,rfl,q1⟩:=q1
 cases r1
 exact not_of (wpAny_truthy_bool ⟨.bl (!c),H1,I1,rfl,q1⟩)
end
def SqL (K:PySem.W.Frag) (H:Hp) (a:Addr) (xs:List V):Prop:=
 Rd H a (.lst xs) \/
  ∃ (o:Obj) (its:Array Value) (n:Nat),K.lookup a=some o/\o.cls=.type "list"/\o.dict=none/\o.data=.seq its n/\its.size<=sizeLine/\Vals xs its.toList
def SqT (K:PySem.W.Frag) (H:Hp) (a:Addr) (xs:List V):Prop:=
 Rd H a (.tup xs) \/
  ∃ (o:Obj) (its:Array Value) (n:Nat),K.lookup a=some o/\o.cls=.type "tuple"/\o.dict=none/\o.data=.seq its n/\its.size<=sizeLine/\Vals xs its.toList
def absV:Value->Option V
 | .none=>some .non
 | .bool b=>some (.bl b)
 | .int i _=>some (.int i)
 | .str x _=>some (.str x)
 | .bytes b _=>some (.byt b)
 | .float b _=>some (.flt b)
 | .ref a=>some (.ref a)
 | .type n=>some (.ty n)
 | _=>none
theorem RelV.abs {x:V}{u:Value} (r:RelV x u):absV u=some x:=by
 cases x with
 | non=>cases r;rfl
 | bl _=>cases r;rfl
 | int _=>obtain⟨t,rfl⟩:=r;rfl
 | str _=>obtain⟨t,rfl⟩:=r;rfl
 | byt _=>obtain⟨t,rfl⟩:=r;rfl
 | flt _=>obtain⟨t,rfl⟩:=r;rfl
 | ref _=>cases r;rfl
 | ty _=>cases r;rfl
theorem RelV.inj {x y:V}{u:Value} (r:RelV x u) (q:RelV y u):x=y:=Option.some.inj (r.abs.symm.trans q.abs)
theorem Vals.inj:∀ {xs ys:List V}{us:List Value},Vals xs us->Vals ys us->xs=ys
 | _,_,_,.nil,.nil=>rfl
 | _,_,_,.cons r t,.cons r' t'=>by rw[r.inj r',Vals.inj t t']
section
variable {X:Cx}{pins:List (Addr × Obj)}{σ:St}{H:Hp}{s:Shared}{a:Addr}{xs ys:List V}
theorem SqL.of {K:PySem.W.Frag} (h:H a=some (.lst xs)):SqL K H a xs:=.inl (.inl h)
theorem SqT.of {K:PySem.W.Frag} (h:H a=some (.tup xs)):SqT K H a xs:=.inl (.inl h)
theorem Inv.list (I:Inv X pins σ H s) (h:SqL X.K H a xs):∃ its:List Value,Vals xs its/\PlainL s.heap a its.toArray/\xs.length<=sizeLine:=by
 rcases h with h | ⟨o,its,n,hk,hc,hd,hs,hz,r⟩
 ·obtain⟨z,its,n,r,e⟩:=h.ok I.hok
  exact⟨its,r,⟨_,n,e,rfl,rfl,rfl⟩,z⟩
 ·refine⟨its.toList,r,⟨o,n,I.kIn a o hk,hc,hd,by simpa using hs⟩,?_⟩
  have e:=r.length
  simp only[Array.length_toList]at e
  ac_nf
theorem Inv.tupleD (I:Inv X pins σ H s) (h:SqT X.K H a xs):∃ its:List Value,Vals xs its/\IsTupD s.heap a its.toArray/\xs.length<=sizeLine:=by
 rcases h with h | ⟨o,its,n,hk,hc,hd,hs,hz,r⟩
 ·obtain⟨z,its,r,p⟩:=h.ok I.hok
  exact⟨its,r,p,z⟩
 ·refine⟨its.toList,r,⟨o,I.kIn a o hk,hc,⟨n,by simpa using hs⟩,hd⟩,?_⟩
  have e:=r.length
  simp only[Array.length_toList]at e
  ac_nf
theorem Inv.tuple (I:Inv X pins σ H s) (h:SqT X.K H a xs):∃ its:List Value,Vals xs its/\IsTup s.heap a its.toArray/\xs.length<=sizeLine:=let ⟨its,r,p,z⟩:=I.tupleD h;⟨its,r,p.is,z⟩
theorem Inv.list_inj (I:Inv X pins σ H s) (h:SqL X.K H a xs) (h':SqL X.K H a ys):xs=ys:=by
 obtain⟨its,r,⟨o,n,e,_,_,d⟩,_⟩:=I.list h
 obtain⟨its',r',⟨o',n',e',_,_,d'⟩,_⟩:=I.list h'
 rw[e]at e';cases e'
 rw[d]at d'
 injection d' with d1 _
 have:its=its':=by simpa using congrArg Array.toList d1
 subst this
 exact r.inj r'
theorem Inv.tuple_inj (I:Inv X pins σ H s) (h:SqT X.K H a xs) (h':SqT X.K H a ys):xs=ys:=by
 obtain⟨its,r,⟨o,e,_,n,d⟩,_⟩:=I.tuple h
 obtain⟨its',r',⟨o',e',_,n',d'⟩,_⟩:=I.tuple h'
 rw[e]at e';cases e'
 rw[d]at d'
 injection d' with d1 _
 have:its=its':=by simpa using congrArg Array.toList d1
 subst this
 exact r.inj r'
end
abbrev Cx.wish (X:Cx) (E:Value->Shared->Prop):Cx:={ X with xe:=E }
abbrev Cx.nox (X:Cx):Cx:=X.wish fun _ _=>False
theorem Cx.Ok.wish {X:Cx} (ok:X.Ok) (E:Value->Shared->Prop):(X.wish E).Ok:=
 ⟨ok.mod,ok.kind,ok.glob,ok.blt,ok.above,ok.inj,ok.has,ok.cab,ok.hd,ok.frames,ok.stk,ok.exf,ok.bs,ok.bsz,ok.noex,ok.exfs,ok.funs,ok.frf⟩
theorem Cx.Ok.unwish {X:Cx}{E:Value->Shared->Prop} (ok:(X.wish E).Ok):X.Ok:=
 ⟨ok.mod,ok.kind,ok.glob,ok.blt,ok.above,ok.inj,ok.has,ok.cab,ok.hd,ok.frames,ok.stk,ok.exf,ok.bs,ok.bsz,ok.noex,ok.exfs,ok.funs,ok.frf⟩
section
variable {X:Cx}{pins:List (Addr × Obj)}{σ:St}{H:Hp}{s:Shared}{E:Value->Shared->Prop}
theorem Inv.wish (I:Inv X pins σ H s) (E:Value->Shared->Prop):Inv (X.wish E) pins σ H s:=⟨I.ok.wish E,I.os,I.bare,I.base,I.loc,I.cell,I.free,I.freeC,I.pin,I.hok,I.len⟩
theorem Inv.unwish (I:Inv (X.wish E) pins σ H s):Inv X pins σ H s:=⟨I.ok.unwish,I.os,I.bare,I.base,I.loc,I.cell,I.free,I.freeC,I.pin,I.hok,I.len⟩
theorem SP.unwish {D:Ends}{f:Flow}{s':Shared} (h:SP (X.wish E) pins D f s'):SP X pins D f s':=by
 cases f with
 | next=>obtain⟨σ',H',I,q⟩:=h;exact⟨σ',H',I.unwish,q⟩
 | brk=>obtain⟨σ',H',I,q⟩:=h;exact⟨σ',H',I.unwish,q⟩
 | cont=>obtain⟨σ',H',I,q⟩:=h;exact⟨σ',H',I.unwish,q⟩
 | ret u=>obtain⟨v,σ',H',I,r,q⟩:=h;exact⟨v,σ',H',I.unwish,r,q⟩
theorem PSs.nox {st:List Stmt}{t:TS} (h:PSs X.nox st t):PSs X st t:=fun pins s σ H D I hw=>
 wpAny_mono (h pins s σ H D (I.wish _) hw) (fun _ _ q=>q.unwish) fun _ _ z=>False.elim z
end
section
variable {X:Cx}{st:Stmt}{rest:List Stmt}{t u:TS}{e:Expr}{te:TE}{pos:Pos}
def tNext:TS:=fun D σ H=>D.nx σ H
def tSeq (t u:TS):TS:=fun D σ H=>t { D with nx:=u D } σ H
theorem QaJ:PSs X [] tNext:=fun _ _ σ H _ I h=>wpAny_execs_nil ⟨σ,H,I,h⟩
theorem QaK (h1:PS X st t) (h2:PSs X rest u):PSs X (st::rest) (tSeq t u):=by
 intro pins s σ H D I h
 refine wpAny_execs_cons (thn (h1 pins s σ H { D with nx:=u D } I h) fun f s1 q=>?_)
 cases f with
 | next=>
  obtain⟨σ',H',I',q⟩:=q
  exact h2 pins s1 σ' H' D I' q
 | ret v=>exact q
 | brk=>exact q
 | cont=>exact q
theorem Inv.quiet {pins:List (Addr × Obj)}{σ:St}{H:Hp}{s:Shared} (I:Inv X pins σ H s):interactive X.env=false:=by simp[interactive,I.ok.kind]
def tDrop (te:TE):TS:=fun D σ H=>te σ H fun _ H1=>D.nx σ H1
theorem QaL (he:PE X e te) (hs:swapsWith e none pos.line X.env=pure false:=by rfl):PS X (.Expr e pos) (tDrop te):=by
 intro pins s σ H D I h
 exact wpAny_Expr_any (thn (he pins s σ H _ I h) fun v s1 pq8=>by obtain⟨x,H1,I1,r1,q1⟩:=pq8;exact⟨σ,H1,I1,q1⟩) I.quiet hs
def tRet (te:TE):TS:=fun D σ H=>te σ H D.rt
theorem QaM (he:PE X e te):PS X (.Return (some e) pos) (tRet te):=by
 intro pins s σ H D I h
 exact wpAny_Return_some (thn (he pins s σ H _ I h) fun v s1 pq9=>by obtain⟨x,H1,I1,r1,q1⟩:=pq9;exact⟨x,σ,H1,I1,r1,q1⟩)
def tIfS (c:TT) (t u:TS):TS:=fun D σ H=>c σ H fun b H1=>if b=true then t D σ H1 else u D σ H1
theorem QaN {c:Expr}{a b:List Stmt}{tc:TT} (hc:PT X c tc) (ha:PSs X a t) (hb:PSs X b u):PS X (.If c a b pos) (tIfS tc t u):=by
 intro pins s σ H D I h
 refine wpAny_If (thn (hc pins s σ H _ I h) fun d s1 pq10=>?_)
 obtain⟨H1,I1,q1⟩:=pq10
 cases d with
 | true=>exact ha pins s1 σ H1 D I1 q1
 | false=>exact hb pins s1 σ H1 D I1 q1
def tNever:TS:=fun _ _ _=>False
theorem QaO:PS X st tNever:=fun _ _ _ _ _ _ h=>h.elim
end
abbrev TG:=V->St->Hp->(St->Hp->Prop)->Prop
abbrev TGs:=List V->St->Hp->(St->Hp->Prop)->Prop
def PG (X:Cx) (target:Expr) (t:TG):Prop:=
 ∀ (pins:List (Addr × Obj)) (s:Shared) (σ:St) (H:Hp) (v:V) (u:Value) (Q:St->Hp->Prop),Inv X pins σ H s->RelV v u->t v σ H Q ->
  wpAny (model X.prog X.w) X.A (assign target X.env u) (fun _ s'=>∃ σ' H',Inv X pins σ' H' s'/\Q σ' H') X.xe s
def PGs (X:Cx) (ts:List Expr) (t:TGs):Prop:=
 ∀ (pins:List (Addr × Obj)) (s:Shared) (σ:St) (H:Hp) (vs:List V) (us:List Value) (Q:St->Hp->Prop),Inv X pins σ H s->Vals vs us->t vs σ H Q ->
  wpAny (model X.prog X.w) X.A (assignInOrder ((assignEach ts X.env).map (·.2)) us) (fun _ s'=>∃ σ' H',Inv X pins σ' H' s'/\Q σ' H') X.xe s
abbrev TSet:=V->V->V->Hp->(Hp->Prop)->Prop
def PSet (X:Cx) (t:TSet):Prop:=
 ∀ (pins:List (Addr × Obj)) (s:Shared) (σ:St) (H:Hp) (o i v:V) (ov iv u:Value) (Q:Hp->Prop),Inv X pins σ H s->RelV o ov->RelV i iv->RelV v u->t o i v H Q ->
  wpAny (model X.prog X.w) X.A (setItem ov iv u) (fun _ s'=>∃ H',Inv X pins σ H' s'/\Q H') X.xe s
section
variable {X:Cx}{pos:Pos}
def gName (i:Nat):TG:=fun v σ H Q=>Q (σ.set i (some v)) H
theorem QaP {i:Nat}{x:Str} (hN:X.N.Nodup) (hi:X.N[i]?=some x) (hx:Loc X.env.scope x) (hf:X.fn x=true\/X.env.scope.names.lookup x=some .local:=by first | exact .inl rfl | exact .inr rfl | assumption):PG X (.Name x pos) (gName i):=by
 intro pins s σ H v u Q I r h
 exact wpAny_assign_Name (Qar I hN hi hx r (fun s' I'=>⟨_,H,I',h⟩) hf)
def gNil:TGs:=fun vs σ H Q=>vs=[]/\Q σ H
def gCons (t:TG) (u:TGs):TGs:=fun vs σ H Q=>∃ v r,vs=v::r/\t v σ H fun σ' H'=>u r σ' H' Q
theorem QaQ:PGs X [] gNil:=by
 intro pins s σ H vs us Q I r h
 obtain⟨e,h⟩:=h
 subst e
 cases r
 exact assignInOrder_nil ⟨σ,H,I,h⟩
theorem QaR {e : Expr} {es : List Expr} {t : TG} {u : TGs} (h1 : PG X e t) (h2 : PGs X es u)
  (hs:(assignEach (e::es) X.env).map (·.2)=assign e X.env::(assignEach es X.env).map (·.2):=by rfl):PGs X (e::es) (gCons t u):=by
 intro pins s σ H vs us Q I r h
 obtain⟨v,vr,e1,h⟩:=h
 subst e1
 cases r with
 | cons r rr=>
  rw[hs]
  refine assignInOrder_cons (thn (h1 pins s σ H _ _ _ I r h) fun _ s1 pq11=>?_)
  obtain⟨σ1,H1,I1,q1⟩:=pq11
  exact h2 pins s1 σ1 H1 _ _ Q I1 rr q1
def gTup (K:PySem.W.Frag) (n:Nat) (t:TGs):TG:=fun v σ H Q=>∃ a xs,v=.ref a/\SqT K H a xs/\xs.length=n/\t xs σ H Q
theorem QaS {es : List Expr} {k : Nat} {t : TGs} {n : Nat} (hc : X.calm = true) (h : PGs X es t)
  (hn:(assignEach es X.env).length=n:=by rfl) (hst:(assignEach es X.env).findIdx? (·.1)=none:=by rfl):PG X (.Tuple es k pos) (gTup X.K n t):=by
 intro pins s σ H v u Q I r hw
 obtain⟨a,xs,e1,hq,hl,hw⟩:=hw
 subst e1
 cases r
 obtain⟨its,rv,ht,hz⟩:=I.tuple hq
 refine assign_Tuple_tuple (I.ok.hd hc) ht (by simp[hn,<- hl,rv.length]) hst fun h' hx=>?_
 have I1:Inv X pins σ H { s with heap:=h' }:=I.kept (t':=s.toks) fun b o e=>hx b o (Nat.ne_of_lt (Heap.lt_size e)) e
 exact h pins _ σ H xs _ Q I1 (by simpa using rv) hw
def gSub (to ti:TE) (t:TSet):TG:=fun v σ H Q=>to σ H fun o H1=>ti σ H1 fun i H2=>t o i v H2 fun H3=>Q σ H3
theorem QaT {o i : Expr} {to ti : TE} {t : TSet} (ho : PE X o to) (hi : PE X i ti) (hs : PSet X t)
  (ha:∀ v,assign (.Subscript o i pos) X.env v=(do
   let ov <- holding [v] (eval o X.env)
   let iv <- holding [v,ov] (eval i X.env)
   standAt pos
   holding [v,ov,iv] (setItem ov iv v)
   release [v,ov,iv] []):=by intro _;rfl):PG X (.Subscript o i pos) (gSub to ti t):=by
 intro pins s σ H v u Q I r h
 rw[ha]
 refine wpAny_bind (wpAny_holding (thn (ho pins s σ H _ I h) fun ov s1 pq12=>?_))
 obtain⟨x,H1,I1,r1,q1⟩:=pq12
 refine wpAny_bind (wpAny_holding (thn (hi pins s1 σ H1 _ I1 q1) fun iv s2 pq13=>?_))
 obtain⟨y,H2,I2,r2,q2⟩:=pq13
 refine wpAny_bind (wpAny_standAt (wpAny_bind (wpAny_holding (thn (hs pins s2 σ H2 x y v ov iv u _ I2 r1 r2 r q2) fun _ s3 pq14=>?_))))
 obtain⟨H3,I3,q3⟩:=pq14
 exact wpAny_release ⟨σ,H3,I3,q3⟩
def tAsg (te:TE) (g:TG):TS:=fun D σ H=>te σ H fun x H1=>g x σ H1 D.nx
theorem QaU {tg e : Expr} {te : TE} {g : TG} (he : PE X e te) (hg : PG X tg g) (hs : swapsWithSole [tg] e pos.line X.env = pure false := by rfl) (hw : swappedStores [tg] e X.env = pure none := by rfl)
  (h1:(assignEach [tg] X.env).map (·.2)=[assign tg X.env]:=by rfl):PS X (.Assign [tg] e pos) (tAsg te g):=by
 intro pins s σ H D I h
 refine wpAny_Assign_stores (thn (he pins s σ H _ I h) fun v s1 ⟨x,H1,I1,r1,q1⟩=>?_) hs hw
 rw[h1]
 exact thn (hg pins s1 σ H1 x v _ I1 r1 q1) fun _ s2 q=>q
theorem QaV {i : Nat} {x : Str} {e : Expr} {te : TE} {pos' : Pos} (hN : X.N.Nodup) (hi : X.N[i]? = some x) (hx : Loc X.env.scope x) (he : PE X e te) (hs : swapsWith e (some (.Name x pos')) pos.line X.env = pure false := by rfl) (hf : X.fn x = true \/ X.env.scope.names.lookup x = some .local := by first | exact .inl rfl | exact .inr rfl | assumption) :
  PS X (.Assign [.Name x pos'] e pos) (tAsg te (gName i)):=by
 intro pins s σ H D I h
 refine wpAny_Assign_Name (thn (he pins s σ H _ I h) fun v s1 ⟨y,H1,I1,r1,q1⟩=>?_) hs
 exact Qar I1 hN hi hx r1 (fun s2 I2=>⟨_,H1,I2,q1⟩) hf
end
structure It where
 go:Nat->Hp->Prop
 yld:Nat->Hp->V->Hp->Prop
 stop:Nat->Hp->Prop
def FpOk (X:Cx) (pins:List (Addr × Obj)) (H:Hp) (b:Addr):Prop:=
 H b=none/\b≠X.env.locals/\b∉X.fs/\(b∈X.ex\/X.s₀.heap.objs.size<=b)/\(∀ x c,X.env.cells.lookup x=some c->c≠b)/\∀ p∈X.pn++pins,p.1≠b
theorem Inv.fpOk {X:Cx}{pins:List (Addr × Obj)}{σ:St}{H H':Hp}{s:Shared}{b:Addr} (I:Inv X pins σ H s) (hb:s.heap.objs.size<=b) (hn:H' b=none):FpOk X pins H' b:=by
 refine⟨hn,Nat.ne_of_gt (Nat.lt_of_lt_of_le I.lt hb),I.nofs hb,.inr (Nat.le_trans I.sz hb),fun x c e z=>?_,fun p hp z=>?_⟩
 ·obtain⟨v,q⟩:=I.cell x c e
  exact absurd (Nat.lt_of_lt_of_le q.lt (by rw[z];exact hb)) (Nat.lt_irrefl _)
 ·exact absurd (Nat.lt_of_lt_of_le (Heap.lt_size (I.pin p hp).1) (by rw[z];exact hb)) (Nat.lt_irrefl _)
structure Turn (P:Program) (w:World) (K:PySem.W.Frag) (tg:Expr) (J:It) (fp:List Addr) (it:Addr) (tn:Nat->Heap->Prop):Prop where
 mem:it∈fp
 obj:∀ i h,tn i h->∀ b∈fp,∃ o,h.get? b=some o/\∀ v,o.data≠.cell v
 keep:∀ i h h',tn i h->(∀ b∈fp,∀ o,h.get? b=some o->h'.get? b=some o)->tn i h'
 item:∀ (X:Cx),X.prog=P->X.w=w->X.K=K->X.calm=true->∀ (i:Nat) (pins:List (Addr × Obj)) (s:Shared) (σ:St) (H:Hp) (E:Value->Shared->Prop),Inv X pins σ H s->(∀ b∈fp,FpOk X pins H b)->tn i s.heap->J.go i H ->
  wpAny (model P w) X.A (pyNext (.ref it)) (fun r s1=>∃ u,r=some u /\
   wpAny (model P w) X.A (letOwnedTupleGo tg (.ref it) u) (fun _ s2=>∃ x H',Inv X pins σ H' s2/\RelV x u/\J.yld i H x H'/\tn (i + 1) s2.heap/\∀ b∈fp,H' b=none) E s1) E s
 done:∀ (X:Cx),X.prog=P->X.w=w->X.K=K->X.calm=true->∀ (i:Nat) (pins:List (Addr × Obj)) (s:Shared) (σ:St) (H:Hp) (E:Value->Shared->Prop),Inv X pins σ H s->(∀ b∈fp,FpOk X pins H b)->tn i s.heap->J.stop i H ->
  wpAny (model P w) X.A (pyNext (.ref it)) (fun r s1=>r=none/\Inv X pins σ H s1) E s
 self:∀ (A:Around) (i:Nat) (s:Shared) (Q:Value->Shared->Prop) (E:Value->Shared->Prop),tn i s.heap->Q (.ref it) s->wpAny (model P w) A (pyIter (.ref it)) Q E s
abbrev TI:=St->Hp->(It->Hp->Prop)->Prop
def PIE (X:Cx) (pins:List (Addr × Obj)) (σ:St) (tg:Expr) (R:It->Hp->Prop) (itv:Value) (s2:Shared):Prop:=
 ∃ (it:Addr) (fp:List Addr) (tn:Nat->Heap->Prop) (J:It) (H':Hp),itv=.ref it/\Inv X pins σ H' s2/\Turn X.prog X.w X.K tg J fp it tn/\tn 0 s2.heap/\(∀ b∈fp,FpOk X pins H' b)/\R J H'
def PI (X:Cx) (tg iter:Expr) (wi:TI):Prop:=
 ∀ (pins:List (Addr × Obj)) (s:Shared) (σ:St) (H:Hp) (R:It->Hp->Prop),Inv X pins σ H s->wi σ H R ->
  wpAny (model X.prog X.w) X.A (eval iter X.env) (fun v s1=>wpAny (model X.prog X.w) X.A (pyIter v) (PIE X pins σ tg R) X.xe s1) X.xe s
theorem QaW {M : Model} {A : Around} {E : Value -> Shared -> Prop} {s : Shared} {tg : Expr} {it : Addr} {u : Value} {o : Obj} {n : String} {vs : Array Value} {Q : Unit -> Shared -> Prop} (ho : s.heap.get? it = some o) (hc : o.cls = .type n) (hd : o.data = .fields vs)
  (hn:["enumerate","zip","dict_itemiterator","dict_reverseitemiterator","odict_iterator","itertools.zip_longest","itertools.pairwise"].contains n=false) (hQ:Q () s):wpAny M A (letOwnedTupleGo tg (.ref it) u) Q E s:=by
 unfold letOwnedTupleGo
 cases tg<;>first
  | exact wpAny_pure hQ
  | (cases u <;> first
    | exact wpAny_pure hQ
    | (refine wpAny_bind (wpAny_load ho ?_)
       rw[hc,hd]
       show wpAny M A (if (["enumerate","zip","dict_itemiterator","dict_reverseitemiterator","odict_iterator","itertools.zip_longest","itertools.pairwise"].contains n && vs[0]? == some (rawInt _))=true then _ else _) Q E s
       rw[if_neg (by intro h;rw[hn,Bool.false_and]at h;cases h)]
       exact wpAny_pure hQ))
def Itl (K:PySem.W.Frag) (a:Addr):It:=
 ⟨fun i H=>∃ xs x,SqL K H a xs/\xs[i]?=some x,fun i H x H'=>H'=H/\∀ xs,SqL K H a xs->xs[i]?=some x,fun i H=>∃ xs,SqL K H a xs/\xs.length<=i⟩
def Itt (K:PySem.W.Frag) (a:Addr):It:=
 ⟨fun i H=>∃ xs x,SqT K H a xs/\xs[i]?=some x,fun i H x H'=>H'=H/\∀ xs,SqT K H a xs->xs[i]?=some x,fun i H=>∃ xs,SqT K H a xs/\xs.length<=i⟩
def Itr (lo:Int) (n:Nat):It:=⟨fun i _=>i < n,fun i H x H'=>H'=H/\x=.int (lo + i),fun i _=>n<=i⟩
theorem QaX {P:Program}{w:World}{K:PySem.W.Frag}{tg:Expr} (a it:Addr):Turn P w K tg (Itl K a) [it] it (fun i h=>h.IsListIter it a i) where
 mem:=by simp
 obj:=fun i h st b hb=>by
  have e:b=it:=by simpa using hb
  subst e
  obtain⟨o,e,c,d⟩:=st
  exact⟨o,e,fun v z=>by rw[d]at z;cases z⟩
 keep:=fun i h h' st k=>st.at fun o e=>k it (by simp) o e
 item:=by
  intro X hP hw hK hc i pins s σ H E I hf st hg
  subst hP hw hK
  obtain⟨xs,x,hq,hx⟩:=hg
  obtain⟨its,rv,p,hz⟩:=I.list hq
  obtain⟨u,hu,ru⟩:=rv.get hx
  obtain⟨f0,f1,f2,f3,f4,f5⟩:=hf it (by simp)
  refine wpAny_pyNext_list_item st p.isList (x:=u) (by simpa using hu) fun h' st' sb=>?_
  have I1:Inv X pins σ H { s with heap:=h' }:=I.turned (t':=s.toks) (fun b o hb e=>(sb.2 b hb).trans e) f0 f1 f3 f4 f5
  obtain⟨o,e,c,d⟩:=id st'
  exact⟨u,rfl,QaW (s:={ s with heap:=h' }) e c d (by decide) ⟨x,H,I1,ru,⟨rfl,fun ys hy=>by rw[I.list_inj hy hq];exact hx⟩,st',fun b hb=>(hf b hb).1⟩⟩
 done:=by
  intro X hP hw hK hc i pins s σ H E I hf st hg
  subst hP hw hK
  obtain⟨xs,hq,hx⟩:=hg
  obtain⟨its,rv,p,hz⟩:=I.list hq
  obtain⟨f0,f1,f2,f3,f4,f5⟩:=hf it (by simp)
  have hl:=rv.length
  exact wpAny_pyNext_list_end (I.ok.hd hc) st p.isList (by simp;ac_nf) fun h' eb=>⟨rfl,I.turned (t':=s.toks) (fun b o hb e=>eb b o hb e) f0 f1 f3 f4 f5⟩
 self:=fun _ _ _ _ _ st h=>wpAny_pyIter_listiter st h
theorem QaY {P:Program}{w:World}{K:PySem.W.Frag}{tg:Expr} (a it:Addr):Turn P w K tg (Itt K a) [it] it (fun i h=>h.IsTupleIter it a i) where
 mem:=by simp
 obj:=fun i h st b hb=>by
  have e:b=it:=by simpa using hb
  subst e
  obtain⟨o,e,c,d⟩:=st
  exact⟨o,e,fun v z=>by rw[d]at z;cases z⟩
 keep:=fun i h h' st k=>st.at fun o e=>k it (by simp) o e
 item:=by
  intro X hP hw hK hc i pins s σ H E I hf st hg
  subst hP hw hK
  obtain⟨xs,x,hq,hx⟩:=hg
  obtain⟨its,rv,p,hz⟩:=I.tuple hq
  obtain⟨u,hu,ru⟩:=rv.get hx
  obtain⟨f0,f1,f2,f3,f4,f5⟩:=hf it (by simp)
  refine wpAny_pyNext_tuple_item st (show s.heap.IsTuple a its.toArray from p) (x:=u) (by simpa using hu) fun h' st' sb=>?_
  have I1:Inv X pins σ H { s with heap:=h' }:=I.turned (t':=s.toks) (fun b o hb e=>(sb.2 b hb).trans e) f0 f1 f3 f4 f5
  obtain⟨o,e,c,d⟩:=id st'
  exact⟨u,rfl,QaW (s:={ s with heap:=h' }) e c d (by decide) ⟨x,H,I1,ru,⟨rfl,fun ys hy=>by rw[I.tuple_inj hy hq];exact hx⟩,st',fun b hb=>(hf b hb).1⟩⟩
 done:=by
  intro X hP hw hK hc i pins s σ H E I hf st hg
  subst hP hw hK
  obtain⟨xs,hq,hx⟩:=hg
  obtain⟨its,rv,p,hz⟩:=I.tuple hq
  obtain⟨f0,f1,f2,f3,f4,f5⟩:=hf it (by simp)
  have hl:=rv.length
  exact wpAny_pyNext_tuple_end (I.ok.hd hc) st (show s.heap.IsTuple a its.toArray from p) (by simp;ac_nf) fun h' eb=>⟨rfl,I.turned (t':=s.toks) (fun b o hb e=>eb b o hb e) f0 f1 f3 f4 f5⟩
 self:=fun _ _ _ _ _ st h=>wpAny_pyIter_tupleiter st h
theorem QaZ {P:Program}{w:World}{K:PySem.W.Frag}{tg:Expr} (it:Addr) (lo:Int) (n:Nat):Turn P w K tg (Itr lo n) [it] it (fun i h=>IsRangeIter h it (lo + (i:Nat) * 1) ((n:Int) - (i:Nat)) 1) where
 mem:=by simp
 obj:=fun i h st b hb=>by
  have e:b=it:=by simpa using hb
  subst e
  exact⟨_,st,fun v z=>by
   have z':Data.fields _=Data.cell v:=z
   cases z'⟩
 keep:=fun i h h' st k=>k it (by simp) _ st
 item:=by
  intro X hP hw hK hc i pins s σ H E I hf st hg
  subst hP hw hK
  obtain⟨f0,f1,f2,f3,f4,f5⟩:=hf it (by simp)
  have W:=Walks.range (prog:=X.prog) (w:=X.w) (I.ok.hd hc) it lo 1 n
  refine W.item i s _ _ hg st fun v h' tk hv st' kk=>?_
  obtain⟨t,rfl⟩:=hv
  have I1:Inv X pins σ H { s with heap:=h',toks:=tk }:=I.turned (fun b o hb e=>kk b o (by simpa using hb) e) f0 f1 f3 f4 f5
  refine⟨_,rfl,QaW (s:={ s with heap:=h',toks:=tk }) (n:="range_iterator") st' rfl rfl (by decide) ⟨.int (lo + i),H,I1,⟨t,?_⟩,⟨rfl,rfl⟩,st',fun b hb=>(hf b hb).1⟩⟩
  rw[Int.mul_one]
 done:=by
  intro X hP hw hK hc i pins s σ H E I hf st hg
  subst hP hw hK
  obtain⟨f0,f1,f2,f3,f4,f5⟩:=hf it (by simp)
  exact wpAny_pyNext_range_end (I.ok.hd hc) st (by have:n<=i:=hg;ac_nf) fun h' eb=>⟨rfl,I.turned (t':=s.toks) (fun b o hb e=>eb b o hb e) f0 f1 f3 f4 f5⟩
 self:=fun _ _ _ _ _ st h=>wpAny_pyIter_rangeiter st h
section
variable {X:Cx}{tg:Expr}
theorem Qa0 {pins : List (Addr × Obj)} {σ : St} {H : Hp} {s : Shared} {R : It -> Hp -> Prop} {E : Value -> Shared -> Prop} {lo hi : Int} {t u v : Tok} {tk : Nat} (I : Inv X pins σ H s) (h1 : -(2 ^ 62) <= lo) (h2 : lo < 2 ^ 62) (h3 : -(2 ^ 62) <= hi) (h4 : hi < 2 ^ 62)
  (q:R (Itr lo (hi - lo).toNat) H):wpAny (model X.prog X.w) X.A (pyIter (.ref s.heap.objs.size)) (PIE X pins σ tg R) E { s with heap:=s.heap.push { cls:=.type "range",data:=.fields #[.int lo t,.int hi u,.int 1 v] },toks:=tk }:=by
 refine wpAny_pyIter_range (IsRange.new ..) (small_one h1 h2 h3 h4) ?_
 have I1:Inv X pins σ H { s with heap:=s.heap.push { cls:=.type "range",data:=.fields #[.int lo t,.int hi u,.int 1 v] },toks:=tk }:=I.kept fun b o e=>Heap.get?_push_of_some _ e
 refine⟨(s.heap.push { cls:=.type "range",data:=.fields #[.int lo t,.int hi u,.int 1 v] }).objs.size,[(s.heap.push { cls:=.type "range",data:=.fields #[.int lo t,.int hi u,.int 1 v] }).objs.size],_,_,H,rfl,
  I1.kept (t':=tk) fun b o e=>Heap.get?_push_of_some _ e,QaZ _ lo (hi - lo).toNat,?_,fun b hb=>?_,q⟩
 ·have e1:lo + ((0:Nat):Int) * 1=lo:=by simp
  have e2:(((hi - lo).toNat:Nat):Int) - ((0:Nat):Int)=Builtin.Range.rangeSize lo hi 1:=by rw[rangeSize_one];split<;>ac_nf
  show IsRangeIter _ _ (lo + ((0:Nat):Int) * 1) ((((hi - lo).toNat:Nat):Int) - ((0:Nat):Int)) 1
  rw[e1,e2]
  exact Heap.get?_push_size _ rfl
 ·have e:b=(s.heap.push { cls:=.type "range",data:=.fields #[.int lo t,.int hi u,.int 1 v] }).objs.size:=by simpa using hb
  subst e
  exact I1.fpOk (Nat.le_refl _) (I1.hok.fresh (Nat.le_refl _))
def iRng1 (ta:TA):TI:=fun σ H R=>ta σ H fun vs H1=>∃ j:Int,vs=[.int j] /\ -(2 ^ 62)<=j/\j < 2 ^ 62/\R (Itr 0 j.toNat) H1
def iRng2 (ta:TA):TI:=fun σ H R=>ta σ H fun vs H1=>∃ i j:Int,vs=[.int i,.int j]/\(-(2 ^ 62)<=i/\i < 2 ^ 62 /\ -(2 ^ 62)<=j/\j < 2 ^ 62)/\R (Itr i (j - i).toNat) H1
theorem Qa1 {a:Expr}{ta:TA}{p pos:Pos} (hg:Gl X "range") (hm:X.mg "range"=none) (ha:PA X [a] ta) (hs:starEach [a] X.env=[(false,eval a X.env)]:=by rfl):PI X tg (.Call (.Name "range" p) [a] [] pos) (iRng1 ta):=by
 intro pins s σ H R I h
 refine Call_ (Qay I hg hm boot_range (PyProof.Rows.callWith_type1 (thn (ha pos pins s σ H _ I h) fun us s1 ⟨vs,H1,I1,r1,q1⟩=>?_) hs rfl))
 obtain⟨j,e,q1,q2,q⟩:=q1
 subst e
 cases r1 with
 | cons r rr=>
  cases rr
  obtain⟨t,rfl⟩:=r
  exact call_range_1 (Qa0 I1 (by ac_nf) (by ac_nf) q1 q2 (by simpa using q))
theorem Qa2 {a b : Expr} {ta : TA} {p pos : Pos} (hg : Gl X "range") (hm : X.mg "range" = none) (ha : PA X [a, b] ta) (hs : starEach [a, b] X.env = [(false, eval a X.env), (false, eval b X.env)] := by rfl) (hs2 : starEach [b] X.env = [(false, eval b X.env)] := by rfl) :
  PI X tg (.Call (.Name "range" p) [a,b] [] pos) (iRng2 ta):=by
 intro pins s σ H R I h
 refine Call_ (Qay I hg hm boot_range (PyProof.Rows.callWith_type1 (thn (ha pos pins s σ H _ I h) fun us s1 ⟨vs,H1,I1,r1,q1⟩=>?_) (by rw[hs,hs2]) (by rw[hs2];rfl)))
 obtain⟨i,j,e,⟨q1,q2,q3,q4⟩,q⟩:=q1
 subst e
 cases r1 with
 | cons r rr=>
  cases rr with
  | cons r' rr=>
   cases rr
   obtain⟨t,rfl⟩:=r
   obtain⟨t',rfl⟩:=r'
   exact call_range_2 (Qa0 I1 q1 q2 q3 q4 q)
def tFor (wi:TI) (g:TG) (tb:TS):TS:=fun D σ H=>wi σ H fun J H1=>∃ W:Nat->Nat->St->Hp->Prop,(∃ m,W 0 m σ H1)/\∀ i m σ H,W i m σ H ->
 (J.stop i H/\D.nx σ H)\/(J.go i H/\∃ N:St->Hp->Prop,(∀ σ' H',N σ' H'->∃ m',m' < m/\W (i + 1) m' σ' H')/\∀ x H',J.yld i H x H'->g x σ H' fun σ2 H2=>tb { D with nx:=N,ct:=N,bk:=D.nx } σ2 H2)
def pinsAt (fp:List Addr) (h:Heap):List (Addr × Obj):=fp.filterMap fun b=>(h.get? b).map fun o=>(b,o)
theorem Qa3 {fp:List Addr}{h:Heap}{b:Addr}{o:Obj} (hb:b∈fp) (e:h.get? b=some o):(b,o)∈pinsAt fp h:=List.mem_filterMap.mpr ⟨b,hb,by rw[e];rfl⟩
theorem Qa4 {fp:List Addr}{h:Heap}{p:Addr × Obj} (hp:p∈pinsAt fp h):p.1∈fp/\h.get? p.1=some p.2:=by
 obtain⟨b,hb,e⟩:=List.mem_filterMap.mp hp
 cases q:h.get? b with
 | none=>rw[q]at e;cases e
 | some o=>
  rw[q]at e
  have e':(b,o)=p:=Option.some.inj e
  subst e'
  exact⟨hb,q⟩
theorem Inv.pinned {pins:List (Addr × Obj)}{σ:St}{H:Hp}{s:Shared}{fp:List Addr} (I:Inv X pins σ H s) (hf:∀ b∈fp,FpOk X pins H b) (ho:∀ b∈fp,∃ o,s.heap.get? b=some o/\∀ v,o.data≠.cell v):Inv X (pins++pinsAt fp s.heap) σ H s:=
 I.pins_of fun p hp=>(List.mem_append.mp hp).elim (fun z=>I.pin p (List.mem_append_right _ z)) fun z=>by
  obtain⟨hb,e⟩:=Qa4 z
  obtain⟨f0,f1,f2,_⟩:=hf p.1 hb
  obtain⟨o,e',d⟩:=ho p.1 hb
  rw[e]at e';cases e'
  exact⟨e,f0,f1,f2,d⟩
theorem Inv.unpinned {pins pl:List (Addr × Obj)}{σ:St}{H:Hp}{s:Shared} (I:Inv X (pins++pl) σ H s):Inv X pins σ H s:=I.pins_of fun p hp=>I.pin p (List.mem_append_right _ (List.mem_append_left _ hp))
theorem Qa5 {iter : Expr} {body : List Stmt} {wi : TI} {g : TG} {tb : TS} {pos : Pos} (hp : PassesOwn (model X.prog X.w) X.A X.env X.xe) (hc : X.calm = true) (hi : PI X tg iter wi) (hg : PG X tg g) (hb : PSs X body tb)
  (hs:∀ x,foldedSetIterable iter X.env x=pure x:=by intro _;rfl):PS X (.For tg iter body [] pos) (tFor wi g tb):=by
 intro pins s σ H D I h
 refine wpAny_For (thn (hi pins s σ H _ I h) fun v s1 h1=>thn h1 fun itv s2 h2=>?_) hs
 obtain⟨it,fp,tn,J,H2,e,I2,T,st2,f2,W,⟨m0,w0⟩,turn⟩:=h2
 subst e
 have stat:∀ {H':Hp},(∀ b∈fp,H' b=none)->∀ b∈fp,FpOk X pins H' b:=fun hn b hb=>⟨hn b hb,(f2 b hb).2⟩
 refine codeAny_forLoop_any (fun n s'=>∃ i σ' H',Inv X pins σ' H' s'/\tn i s'.heap/\(∀ b∈fp,H' b=none)/\W i n σ' H') ?_ m0 ⟨0,σ,H2,I2,st2,fun b hb=>(f2 b hb).1,w0⟩
 rintro n s3 ⟨i,σ3,H3,I3,st3,fr3,w3⟩
 rcases turn i n σ3 H3 w3 with ⟨stop,qn⟩ | ⟨go,N,hN,step⟩
 ·refine wpAny_passesOwn hp (thn (T.done X rfl rfl rfl hc i pins s3 σ3 H3 X.xe I3 (stat fr3) st3 stop) fun r s4 pq19=>?_)
  obtain⟨hr,I4⟩:=pq19
  subst hr
  exact wpAny_execs_nil ⟨σ3,H3,I4,qn⟩
 ·refine wpAny_passesOwn hp (thn (T.item X rfl rfl rfl hc i pins s3 σ3 H3 X.xe I3 (stat fr3) st3 go) fun r s4 pq20=>?_)
  obtain⟨u,hr,h4⟩:=pq20
  subst hr
  refine wpAny_passesOwn hp (thn h4 fun _ s5 pq21=>?_)
  obtain⟨x,H5,I5,r5,y5,st5,fr5⟩:=pq21
  have I5':=I5.pinned (stat fr5) (T.obj _ _ st5)
  refine wpAny_passesOwn hp (thn (hg _ s5 σ3 H5 x u _ I5' r5 (step x H5 y5)) fun _ s6 pq22=>?_)
  obtain⟨σ6,H6,I6,q6⟩:=pq22
  refine wpAny_passesOwn hp (thn (hb _ s6 σ6 H6 _ I6 q6) fun f s7 q7=>?_)
  have again:∀ {σ7:St}{H7:Hp},Inv X (pins++pinsAt fp s5.heap) σ7 H7 s7->N σ7 H7->∃ m,m < n/\∃ i σ' H',Inv X pins σ' H' s7/\tn i s7.heap/\(∀ b∈fp,H' b=none)/\W i m σ' H':=fun {σ7 H7} I7 n7=>by
   obtain⟨m',hm,w7⟩:=hN σ7 H7 n7
   refine⟨m',hm,i + 1,σ7,H7,I7.unpinned,T.keep _ _ _ st5 fun b hb o e=>(I7.pin (b,o) (List.mem_append_right _ (List.mem_append_right _ (Qa3 hb e)))).1,fun b hb=>?_,w7⟩
   obtain⟨o,e,d⟩:=T.obj _ _ st5 b hb
   exact (I7.pin (b,o) (List.mem_append_right _ (List.mem_append_right _ (Qa3 hb e)))).2.1
  cases f with
  | next=>obtain⟨σ7,H7,I7,n7⟩:=q7;exact again I7 n7
  | cont=>obtain⟨σ7,H7,I7,n7⟩:=q7;exact again I7 n7
  | brk=>obtain⟨σ7,H7,I7,q7⟩:=q7;exact⟨σ7,H7,I7.unpinned,q7⟩
  | ret v=>obtain⟨x7,σ7,H7,I7,r7,q7⟩:=q7;exact⟨x7,σ7,H7,I7.unpinned,r7,q7⟩
end
abbrev R2:=V->V->Hp->VK->Prop
def OpR (X:Cx) (f:Value->Value->Sem Value) (r:R2):Prop:=
 ∀ (pins:List (Addr × Obj)) (s:Shared) (σ:St) (H:Hp) (x y:V) (v u:Value) (Q:VK),Inv X pins σ H s->RelV x v->RelV y u->r x y H Q ->
  wpAny (model X.prog X.w) X.A (f v u) (EP X pins σ Q) X.xe s
def UnR (X:Cx) (f:Value->Sem Value) (r:V->Hp->VK->Prop):Prop:=
 ∀ (pins:List (Addr × Obj)) (s:Shared) (σ:St) (H:Hp) (x:V) (v:Value) (Q:VK),Inv X pins σ H s->RelV x v->r x H Q ->
  wpAny (model X.prog X.w) X.A (f v) (EP X pins σ Q) X.xe s
def CallR (X:Cx) (f:Value) (r:List V->Hp->VK->Prop):Prop:=
 ∀ (pins:List (Addr × Obj)) (s:Shared) (σ:St) (H:Hp) (xs:List V) (us:List Value) (Q:VK),Inv X pins σ H s->Vals xs us->r xs H Q ->
  wpAny (model X.prog X.w) X.A (call f us) (EP X pins σ Q) X.xe s
def TruR (X:Cx) (r:V->Hp->(Bool->Hp->Prop)->Prop):Prop:=
 ∀ (pins:List (Addr × Obj)) (s:Shared) (σ:St) (H:Hp) (x:V) (v:Value) (Q:Bool->Hp->Prop),Inv X pins σ H s->RelV x v->r x H Q ->
  wpAny (model X.prog X.w) X.A (truthy v) (TP X pins σ Q) X.xe s
def tOp (r:R2) (ta tb:TE):TE:=fun σ H Q=>ta σ H fun x H1=>tb σ H1 fun y H2=>r x y H2 Q
def tUn (r:V->Hp->VK->Prop) (ta:TE):TE:=fun σ H Q=>ta σ H fun x H1=>r x H1 Q
def rI (C:Int->Int->Prop) (g:Int->Int->V):R2:=fun x y H Q=>∃ i j,x=.int i/\y=.int j/\C i j/\Q (g i j) H
def rI0 (g:Int->Int->V):R2:=fun x y H Q=>∃ i j,x=.int i/\y=.int j/\Q (g i j) H
def rU (g:Int->V):V->Hp->VK->Prop:=fun x H Q=>∃ i,x=.int i/\Q (g i) H
section
variable {X:Cx}{a b c:Expr}{ta tb tc:TE}{pos:Pos}
theorem binT (ha : PE X a ta) (hb : PE X b tb) {pins : List (Addr × Obj)} {s : Shared} {σ : St} {H : Hp} {R : V -> V -> Hp -> Prop} (I : Inv X pins σ H s)
  (h:ta σ H fun x H1=>tb σ H1 fun y H2=>R x y H2) {Q:Value->Shared->Prop}{f:Value->Value->Sem Value}
  (hf:∀ v u s2 x y H2,Inv X pins σ H2 s2->RelV x v->RelV y u->R x y H2->wpAny (model X.prog X.w) X.A (f v u) Q X.xe s2):
  wpAny (model X.prog X.w) X.A (eval a X.env) (fun v s₁=>wpAny (model X.prog X.w) X.A (eval b X.env) (fun u s₂=>wpAny (model X.prog X.w) X.A (f v u) Q X.xe s₂) X.xe s₁) X.xe s:=by
 refine thn (ha pins s σ H _ I h) fun v s1 pq23=>?_
 obtain⟨x,H1,I1,r1,q1⟩:=pq23
 refine thn (hb pins s1 σ H1 _ I1 q1) fun u s2 pq24=>?_
 obtain⟨y,H2,I2,r2,q2⟩:=pq24
 exact hf v u s2 x y H2 I2 r1 r2 q2
theorem Qa6 {op:Operator}{r:R2} (ho:OpR X (binaryOp op) r) (ha:PE X a ta) (hb:PE X b tb):PE X (.BinOp a op b pos) (tOp r ta tb):=by
 intro pins s σ H Q I h
 exact wpAny_BinOp (binT ha hb I h fun v u s2 x y H2 I2 rx ry q=>ho pins s2 σ H2 x y v u Q I2 rx ry q)
theorem Qa7 {op:UnaryOp}{r:V->Hp->VK->Prop} (ho:UnR X (unaryOp op) r) (ha:PE X a ta):PE X (.UnaryOp op a pos) (tUn r ta):=by
 intro pins s σ H Q I h
 exact UnaryOp_ (thn (ha pins s σ H _ I h) fun v s1 pq25=>by obtain⟨x,H1,I1,r1,q1⟩:=pq25;exact ho pins s1 σ H1 x v Q I1 r1 q1)
theorem opI {f : Value -> Value -> Sem Value} {C : Int -> Int -> Prop} {g : Int -> Int -> Int}
  (rule:∀ (i j:Int) (t u:Tok) (s:Shared) (Q:Value->Shared->Prop) (E:Value->Shared->Prop),C i j->Q (.int (g i j) s.toks) { s with toks:=s.toks + 1 }->wpAny (model X.prog X.w) X.A (f (.int i t) (.int j u)) Q E s):
  OpR X f (rI C fun i j=>.int (g i j)):=by
 intro pins s σ H x y v u Q I rx ry h
 obtain⟨i,j,rfl,rfl,hc,q⟩:=h
 obtain⟨t,rfl⟩:=rx
 obtain⟨t',rfl⟩:=ry
 exact rule i j t t' s _ _ hc ⟨.int (g i j),H,I.tok _,⟨_,rfl⟩,q⟩
theorem opI0 {f : Value -> Value -> Sem Value} {g : Int -> Int -> Int}
  (rule:∀ (i j:Int) (t u:Tok) (s:Shared) (Q:Value->Shared->Prop) (E:Value->Shared->Prop),Q (.int (g i j) s.toks) { s with toks:=s.toks + 1 }->wpAny (model X.prog X.w) X.A (f (.int i t) (.int j u)) Q E s):
  OpR X f (rI0 fun i j=>.int (g i j)):=by
 intro pins s σ H x y v u Q I rx ry h
 obtain⟨i,j,rfl,rfl,q⟩:=h
 obtain⟨t,rfl⟩:=rx
 obtain⟨t',rfl⟩:=ry
 exact rule i j t t' s _ _ ⟨.int (g i j),H,I.tok _,⟨_,rfl⟩,q⟩
theorem opB0 {f : Value -> Value -> Sem Value} {g : Int -> Int -> Bool}
  (rule:∀ (i j:Int) (t u:Tok) (s:Shared) (Q:Value->Shared->Prop) (E:Value->Shared->Prop),Q (.bool (g i j)) s->wpAny (model X.prog X.w) X.A (f (.int i t) (.int j u)) Q E s):
  OpR X f (rI0 fun i j=>.bl (g i j)):=by
 intro pins s σ H x y v u Q I rx ry h
 obtain⟨i,j,rfl,rfl,q⟩:=h
 obtain⟨t,rfl⟩:=rx
 obtain⟨t',rfl⟩:=ry
 exact rule i j t t' s _ _ ⟨.bl (g i j),H,I,rfl,q⟩
def CDiv (i j:Int):Prop:=0 < j/\j < 1073741824
def CPow (i j:Int):Prop:=0<=j/\j<=1000000/\i.natAbs < 2 ^ 64
def CMul (i j:Int):Prop:=(-(2 ^ 64) < i/\i < 2 ^ 64)\/(-(2 ^ 64) < j/\j < 2 ^ 64)
theorem CMul.ok {i j:Int} (h:CMul i j):IntMulOk i j:=by
 rcases h with ⟨h1,h2⟩ | ⟨h1,h2⟩
 ·exact .of_left (intBits_le_64 h1 h2)
 ·exact .of_right (intBits_le_64 h1 h2)
theorem Qa8:OpR X (binaryOp .Add) (rI0 fun i j=>.int (i + j)):=opI0 fun _ _ _ _ _ _ _ q=>add_int q
theorem Qa9:OpR X (binaryOp .Mult) (rI CMul fun i j=>.int (i * j)):=opI fun _ _ _ _ _ _ _ hc q=>mul_int q hc.ok
theorem Qba:OpR X (binaryOp .FloorDiv) (rI CDiv fun i j=>.int (i / j)):=opI fun i j _ _ _ _ _ hc q=>by
 have h1:(0:Int) < j:=hc.1
 have h2:j < 1073741824:=hc.2
 exact floordiv_int (by ac_nf) (by rw[Int.fdiv_eq_ediv_of_nonneg i (by ac_nf)];exact q) (.inl (PyProof.noPylong_small (by ac_nf)))
theorem Qbb:OpR X (binaryOp .Mod) (rI (fun _ j=>0 < j) fun i j=>.int (i % j)):=opI fun i j _ _ _ _ _ hc q=>by
 have h1:(0:Int) < j:=hc
 exact mod_int' (by ac_nf) (by rw[Int.fmod_eq_emod_of_nonneg i (by ac_nf)];exact q)
theorem Qbc:OpR X (binaryOp .Pow) (rI CPow fun i j=>.int (i ^ j.toNat)):=opI fun _ _ _ _ _ _ _ hc q=>pow_int_small hc.1 hc.2.1 hc.2.2 q
theorem unI {f : Value -> Sem Value} {g : Int -> Int}
  (rule:∀ (i:Int) (t:Tok) (s:Shared) (Q:Value->Shared->Prop) (E:Value->Shared->Prop),Q (.int (g i) s.toks) { s with toks:=s.toks + 1 }->wpAny (model X.prog X.w) X.A (f (.int i t)) Q E s):
  UnR X f (rU fun i=>.int (g i)):=by
 intro pins s σ H x v Q I rx h
 obtain⟨i,rfl,q⟩:=h
 obtain⟨t,rfl⟩:=rx
 exact rule i t s _ _ ⟨.int (g i),H,I.tok _,⟨_,rfl⟩,q⟩
theorem Qbd:UnR X (unaryOp .USub) (rU fun i=>.int (-i)):=unI fun _ _ _ _ _ q=>neg_int q
end
section
variable {X:Cx}{a b c:Expr}{ta tb tc:TE}{pos:Pos}
theorem Qbe {pins:List (Addr × Obj)}{σ:St}{H:Hp}{s:Shared}{Q:VK}{k k':Bool} (I:Inv X pins σ H s) (q:Q (.bl k) H) (e:k=k'):EP X pins σ Q (.bool k') s:=by
 subst e
 exact⟨.bl k,H,I,rfl,q⟩
theorem Qbf:OpR X (compareOp .Lt) (rI0 fun i j=>.bl (decide (i < j))):=opB0 fun _ _ _ _ _ _ _ q=>lt_int q
theorem Qbg:OpR X (compareOp .LtE) (rI0 fun i j=>.bl (decide (i<=j))):=opB0 fun _ _ _ _ _ _ _ q=>le_int q
theorem Qbh:OpR X (compareOp .Gt) (rI0 fun i j=>.bl (decide (j < i))):=opB0 fun _ _ _ _ _ _ _ q=>gt_int q
theorem Qbi:OpR X (compareOp .GtE) (rI0 fun i j=>.bl (decide (j<=i))):=opB0 fun _ _ _ _ _ _ _ q=>ge_int q
theorem Qbj:OpR X (compareOp .In) (fun x y H Q=>∃ i j,x=.str i/\y=.str j/\Q (.bl (!(Builtin.Str.occurrences j i 0 j.length 1).isEmpty)) H):=by
 intro pins s σ H x y v u Q I rx ry h
 obtain⟨i,j,rfl,rfl,q⟩:=h
 obtain⟨t,rfl⟩:=rx
 obtain⟨t',rfl⟩:=ry
 exact in_str (Qbe I q rfl)
theorem Qbk (b:Expr) {op:CmpOp} (h:op≠.In:=by decide) (h2:op≠.NotIn:=by decide):behindInMarks op b=false:=by
 have e1:(op == CmpOp.In)=false:=by cases op<;>first | rfl | exact absurd rfl h
 have e2:(op == CmpOp.NotIn)=false:=by cases op<;>first | rfl | exact absurd rfl h2
 cases b<;>simp[behindInMarks,e1,e2]
theorem Qbl {op:CmpOp}{r:R2} (ho:OpR X (compareOp op) r) (ha:PE X a ta) (hb:PE X b tb) (hm:behindInMarks op b=false):PE X (.Compare a [op] [b] pos) (tOp r ta tb):=by
 intro pins s σ H Q I h
 exact wpAny_Compare1 (binT ha hb I h fun v u s2 x y H2 I2 rx ry q=>ho pins s2 σ H2 x y v u Q I2 rx ry q) hm
def tTest (t:TE):TT:=fun σ H Q=>t σ H fun x H'=>∃ k,x=.bl k/\Q k H'
theorem Qbm {op:CmpOp}{r:R2} (ho:OpR X (compareOp op) r) (ha:PE X a ta) (hb:PE X b tb) (hm:behindInMarks op b=false):PT X (.Compare a [op] [b] pos) (tTest (tOp r ta tb)):=by
 intro pins s σ H Q I h
 refine wpAny_isTrue_Compare1 (thn (ha pins s σ H _ I h) fun v s1 ⟨x,H1,I1,r1,q1⟩=>thn (hb pins s1 σ H1 _ I1 q1) fun u s2 ⟨y,H2,I2,r2,q2⟩=>
  thn (ho pins s2 σ H2 x y v u _ I2 r1 r2 q2) fun c s3 ⟨z,H3,I3,r3,k,e,q3⟩=>?_) hm
 subst e
 cases r3
 exact wpAny_truthy_bool ⟨H3,I3,q3⟩
def tChain (r r':R2) (ta tb tc:TE):TE:=fun σ H Q=>ta σ H fun x H1=>tb σ H1 fun y H2=>r x y H2 fun z H3=>∃ k,z=.bl k /\
 (if k=true then tc σ H3 fun w' H4=>r' y w' H4 Q else Q (.bl false) H3)
theorem Qbn {op op' : CmpOp} {r r' : R2} (ho : OpR X (compareOp op) r) (ho' : OpR X (compareOp op') r') (ha : PE X a ta) (hb : PE X b tb) (hc : PE X c tc)
  (hm:lastMarks [op,op'] [b,c]=false:=by with_unfolding_all rfl):PE X (.Compare a [op,op'] [b,c] pos) (tChain r r' ta tb tc):=by
 intro pins s σ H Q I h
 refine Compare_chain (thn (ha pins s σ H _ I h) fun v s1 ⟨x,H1,I1,r1,q1⟩=>chain_link (thn (hb pins s1 σ H1 _ I1 q1) fun u s2 ⟨y,H2,I2,r2,q2⟩=>
  thn (ho pins s2 σ H2 x y v u _ I2 r1 r2 q2) fun d s3 ⟨z,H3,I3,r3,k,e,q3⟩=>?_)) hm
 subst e
 cases r3
 refine wpAny_truthy_bool ?_
 cases k with
 | false=>exact ite_ff ⟨.bl false,H3,I3,rfl,q3⟩
 | true=>exact ite_tt (chain_last (thn (hc pins s3 σ H3 _ I3 q3) fun w' s4 ⟨z',H4,I4,r4,q4⟩=>ho' pins s4 σ H4 y z' u w' Q I4 r2 r4 q4))
theorem Qbo {op op' : CmpOp} {r r' : R2} (ho : OpR X (compareOp op) r) (ho' : OpR X (compareOp op') r') (ha : PE X a ta) (hb : PE X b tb) (hc : PE X c tc)
  (hm:lastMarks [op,op'] [b,c]=false:=by with_unfolding_all rfl):PT X (.Compare a [op,op'] [b,c] pos) (tTest (tChain r r' ta tb tc)):=by
 intro pins s σ H Q I h
 refine isTrue_chain (thn (ha pins s σ H _ I h) fun v s1 ⟨x,H1,I1,r1,q1⟩=>test_link (thn (hb pins s1 σ H1 _ I1 q1) fun u s2 ⟨y,H2,I2,r2,q2⟩=>
  thn (ho pins s2 σ H2 x y v u _ I2 r1 r2 q2) fun d s3 ⟨z,H3,I3,r3,k,e,q3⟩=>?_)) hm
 subst e
 cases r3
 refine wpAny_truthy_bool ?_
 cases k with
 | false=>
  obtain⟨k',e',q'⟩:=q3
  cases e'
  exact ite_ff ⟨H3,I3,q'⟩
 | true=>
  refine ite_tt (test_last (thn (hc pins s3 σ H3 _ I3 q3) fun w' s4 ⟨z',H4,I4,r4,q4⟩=>thn (ho' pins s4 σ H4 y z' u w' _ I4 r2 r4 q4) fun d' s5 ⟨z2,H5,I5,r5,k2,e2,q5⟩=>?_))
  subst e2
  cases r5
  exact wpAny_truthy_bool ⟨H5,I5,q5⟩
def TruV (K:PySem.W.Frag) (x:V) (H:Hp) (k:Bool):Prop:=
 match x with
 | .non=>k=false
 | .bl b=>k=b
 | .int i=>k=(i != 0)
 | .str y=>y.length<=sizeLine/\k=((y.length:Int) != 0)
 | .byt y=>y.size<=sizeLine/\k=((y.size:Int) != 0)
 | .ref p=>(∃ xs,SqL K H p xs/\k = !xs.isEmpty)\/(∃ xs,SqT K H p xs/\k = !xs.isEmpty)\/∃ kvs,H p=some (.dK kvs)/\k = !kvs.isEmpty
 | _=>False
theorem Qbp {κ:Type}{kvs:List (κ × V)}{vs:List (κ × Value)} (r:KV kvs vs):(!vs.isEmpty) = !kvs.isEmpty:=by
 cases r<;>rfl
theorem Qbq {xs:List V}{its:List Value} (r:Vals xs its):(!its.toArray.isEmpty) = !xs.isEmpty:=by
 cases r<;>simp
theorem Qbr:(sizeLine:Nat) < 2 ^ 63:=by rw[sizeLine_eq];decide
theorem Qbs:TruR X (fun x H Q=>∃ k,TruV X.K x H k/\Q k H):=by
 intro pins s σ H x v Q I rx h
 obtain⟨k,e,q⟩:=h
 have hl:=Qbr
 have hs:sizeLine=16777216:=sizeLine_eq
 cases x with
 | non=>
  cases rx
  have e':k=false:=e
  subst e'
  exact truthy_none ⟨H,I,q⟩
 | bl b=>
  cases rx
  have e':k=b:=e
  subst e'
  exact wpAny_truthy_bool ⟨H,I,q⟩
 | int i=>
  obtain⟨t,rfl⟩:=rx
  have e':k=(i != 0):=e
  subst e'
  exact PySem.P.truthy_int ⟨H,I,q⟩
 | str y=>
  obtain⟨t,rfl⟩:=rx
  obtain⟨hy,e'⟩:y.length<=sizeLine/\k=((y.length:Int) != 0):=e
  subst e'
  exact PySem.P.truthy_str (by ac_nf) ⟨H,I.tok _,q⟩
 | byt y=>
  obtain⟨t,rfl⟩:=rx
  obtain⟨hy,e'⟩:y.size<=sizeLine/\k=((y.size:Int) != 0):=e
  subst e'
  exact PySem.W.truthy_bytes (by ac_nf) ⟨H,I.tok _,q⟩
 | ref p=>
  cases rx
  have e':(∃ xs,SqL X.K H p xs/\k = !xs.isEmpty)\/(∃ xs,SqT X.K H p xs/\k = !xs.isEmpty)\/∃ kvs,H p=some (.dK kvs)/\k = !kvs.isEmpty:=e
  rcases e' with ⟨xs,hx,e'⟩ | ⟨xs,hx,e'⟩ | ⟨kvs,hx,e'⟩
  ·subst e'
   obtain⟨its,r,pl,hz⟩:=I.list hx
   have hlen:=r.length
   exact wpAny_truthy_list pl.isList (by simp only[List.size_toArray];ac_nf) ⟨H,I.tok _,by rw[Qbq r];exact q⟩
  ·subst e'
   obtain⟨its,r,pl,hz⟩:=I.tuple hx
   have hlen:=r.length
   exact truthy_tuple pl (by simp only[List.size_toArray];ac_nf) ⟨H,I.tok _,by rw[Qbq r];exact q⟩
  ·subst e'
   obtain⟨hz,hS,vs,r,m⟩:kvs.length<=sizeLine/\(p == sysModules)=false/\∃ vs,KV kvs vs/\s.heap.DictOf (mixKind X.prog X.w) p vs:=I.hok p _ hx
   have hlen:kvs.length=vs.length:=Paired.length r
   exact wpAny_truthy_dict hS m (by ac_nf) ⟨H,I.tok _,by rw[Qbp r];exact q⟩
 | _=>exact (show False from e).elim
theorem Qbt (ha : PE X a ta) (he : ∀ whole, isTrue a X.env whole = (do let v <- whole; standAt a.pos; holding [v] (truthy v))) :
  PT X a (fun σ H Q=>ta σ H fun x H'=>∃ k,TruV X.K x H' k/\Q k H'):=by
 intro pins s σ H Q I h
 exact isTrue_plain (thn (ha pins s σ H _ I h) fun v s1 pq26=>by obtain⟨x,H1,I1,r1,q1⟩:=pq26;exact Qbs pins s1 σ H1 x v Q I1 r1 q1) (he _)
theorem Qbu:OpR X (binaryOp .Add) (fun x y H Q=>∃ i j,x=.str i/\y=.str j/\i.length + j.length<=sizeLine/\Q (.str (i++j)) H):=by
 intro pins s σ H x y v u Q I rx ry h
 obtain⟨i,j,rfl,rfl,hz,q⟩:=h
 obtain⟨t,rfl⟩:=rx
 obtain⟨t',rfl⟩:=ry
 exact add_str (fun t' tk=>⟨.str (i++j),H,I.tok _,⟨_,rfl⟩,q⟩) hz
theorem Qbv {x:V}{us:List Value} (r:Vals [x] us):∃ u,us=[u]/\RelV x u:=by
 cases r with
 | cons r1 r2=>cases r2;exact⟨_,rfl,r1⟩
theorem Qbw {x y:V}{us:List Value} (r:Vals [x,y] us):∃ u w',us=[u,w']/\RelV x u/\RelV y w':=by
 cases r with
 | cons r1 r2=>
  cases r2 with
  | cons r3 r4=>cases r4;exact⟨_,_,rfl,r1,r3⟩
theorem Qbx:CallR X (.type "str") (fun xs H Q=>∃ i,xs=[.int i]/\i.natAbs.log2 < 1920/\Q (.str (toString i)) H):=by
 intro pins s σ H xs us Q I r h
 obtain⟨i,rfl,hz,q⟩:=h
 obtain⟨u,rfl,t,rfl⟩:=Qbv r
 exact PySem.P.str_of_int hz ⟨.str _,H,I.tok _,⟨_,rfl⟩,q⟩
end
structure ObjM (h:Heap) (x dx C:Addr) (mA:Str->Option Value):Prop where
 obj:h.get? x=some (PySem.W.instObj C dx)
 ns:h.Ns1 dx mA
 ne:dx≠x
theorem Qby {h:Heap}{dx:Addr}{mA:Str->Option Value} (n:h.Ns1 dx mA):∃ od,h.get? dx=some od/\∀ name,PySem.W.lookIn name od=some (mA name):=by
 obtain⟨o,es,ep,ho,hd,hk,_,hm⟩:=n
 refine⟨o,ho,fun name=>?_⟩
 have e:=hm name
 unfold nsFind findBy at e
 rw[<- Array.find?_toList]at e
 unfold PySem.W.lookIn
 rw[hd]
 dsimp only
 split
 ·rename_i y q
  rw[q]at e
  exact congrArg some e
 ·rename_i q
  rw[q]at e
  have a:es.toList.any (·.refKey)=false:=by
   rw[List.any_eq_false]
   intro y hy
   obtain⟨z,t,hkey⟩:=hk y (Array.mem_toList_iff.mp hy)
   simp[DictEntry.refKey,hkey]
  have a':¬ es.toList.any (·.refKey)=true:=by rw[a];exact Bool.false_ne_true
  rw[if_neg a']
  exact congrArg some e
theorem ObjM.look {h:Heap}{x dx C:Addr}{mA:Str->Option Value} (I:ObjM h x dx C mA):∃ od,PySem.W.InstAt h x (PySem.W.instObj C dx) C (some od)/\∀ name,PySem.W.lookIn name od=some (mA name):=
 let ⟨od,ho,hl⟩:=Qby I.ns
 ⟨od,⟨I.obj,rfl,rfl,ho⟩,hl⟩
theorem RelO.some_of {v:V}{o:Option Value} (r:RelO (some v) o):∃ u,o=some u/\RelV v u:=by
 cases o with
 | none=>exact (show False from r).elim
 | some u=>exact⟨u,rfl,r⟩
section
variable {P:Program}{w:World}{H H':Hp}{h h':Heap}{a C dx:Addr}{fs fs':List (Str × V)}
theorem Qbz (hok:HOk P w H h) (e:H a=some (.ins C dx fs)):∃ mA,ObjM h a dx C mA/\(∀ f,RelO (fs.lookup f) (mA f))/\PySem.Within mA (fs.map (·.1))/\fs.length<=1000/\H dx=some (.own a):=by
 obtain⟨d,z,ne,ob,mA,n,r,q⟩:=(show ObjOk P w H h a (.ins C dx fs) from hok a _ e)
 exact⟨mA,⟨ob,n,ne⟩,r,q,z,d⟩
end
structure Cls (K:PySem.W.Frag) (C:Addr):Prop where
 pg:PySem.W.plainGet K C Str.empty=true
 hd:PySem.W.hasDictIn K C=true
 po:PySem.W.plainOver K C=true
 sa:PySem.W.findIn K (.ref C) "__setattr__"=some (some (.builtin "object.__setattr__"))
theorem Cls.get {K:PySem.W.Frag}{C:Addr} (c:Cls K C) (f:Str):PySem.W.plainGet K C f=true:=c.pg
section
variable {X:Cx}{o e value:Expr}{f:Str}{pos pos' tpos:Pos}{ta tv:TE}
def rSub:V->V->Hp->VK->Prop:=fun x y H Q=>∃ i j,x=.int i/\y=.int j/\Q (.int (i - j)) H
end
section
variable {X:Cx}{pins:List (Addr × Obj)}{σ:St}{H:Hp}{s:Shared}{A:Around}{E:Value->Shared->Prop}{Q:Value->Shared->Prop}{c:Value}{b:Bool}
inductive TyOf (K:PySem.W.Frag) (H:Hp):V->Value->Prop where
 | non:TyOf K H .non (.type "NoneType")
 | bl (x:Bool):TyOf K H (.bl x) (.type "bool")
 | int (i:Int):TyOf K H (.int i) (.type "int")
 | str (x:Str):TyOf K H (.str x) (.type "str")
 | flt (x:UInt64):TyOf K H (.flt x) (.type "float")
 | lst {a:Addr}{xs:List V} (e:H a=some (.lst xs)):TyOf K H (.ref a) (.type "list")
 | frz {a:Addr}{o:Obj}{xs:List V} (e:H a=some (.frz o (.lst xs))):TyOf K H (.ref a) (.type "list")
 | tup {a:Addr}{xs:List V} (e:H a=some (.tup xs)):TyOf K H (.ref a) (.type "tuple")
 | dK {a:Addr}{kvs:List (Key × V)} (e:H a=some (.dK kvs)):TyOf K H (.ref a) (.type "dict")
 | dT {a:Addr}{kvs:List (List Key × V)} (e:H a=some (.dT kvs)):TyOf K H (.ref a) (.type "dict")
 | ins {a C dx : Addr} {fs : List (Str × V)} (e : H a = some (.ins C dx fs)) (cl : Cls K C) (ha : PySem.W.findIn K (.ref C) "__class__" = some (some (.builtin "object.__class__")))
   (hn:PySem.W.specialIn K (.builtin "object.__class__") "__get__"=some (some (.builtin "getset_descriptor.__get__"))) (htk:PySem.W.takesIn K (.builtin "object.__class__")=some true)
   (hm:PySem.W.mroIn K C (.type "object")=some true):TyOf K H (.ref a) (.ref C)
theorem QbA {x : V} {u t : Value} (I : Inv X pins σ H s) (rx : RelV x u) (ty : TyOf X.K H x t) (e : PySem.W.kitOne X.K t c = some b) (h : ∀ tk, Q (.bool b) { s with toks := tk }) :
  wpAny (model X.prog X.w) A (call (.builtin "isinstance") [u,c]) Q E s:=by
 cases ty with
 | non=>cases (show u=Value.none from rx);exact PySem.W.kia_one PySem.W.kitx_none I.kIn True.intro e (fun z=>nomatch z) h
 | bl y=>cases (show u=Value.bool y from rx);exact PySem.W.kia_one PySem.W.kitx_bool I.kIn True.intro e (fun z=>nomatch z) h
 | int i=>obtain⟨t,q⟩:=(show ∃ t,u=Value.int i t from rx);cases q;exact PySem.W.kia_one PySem.W.kitx_int I.kIn True.intro e (fun z=>nomatch z) h
 | str y=>obtain⟨t,q⟩:=(show ∃ t,u=Value.str y t from rx);cases q;exact PySem.W.kia_one PySem.W.kitx_str I.kIn True.intro e (fun z=>nomatch z) h
 | flt y=>obtain⟨t,q⟩:=(show ∃ t,u=Value.float y t from rx);cases q;exact PySem.W.kia_one PySem.W.kitx_float I.kIn True.intro e (fun z=>nomatch z) h
 | @lst a xs ea=>
  cases (show u=Value.ref a from rx)
  obtain⟨_,_,n,_,h1⟩:=(show ObjOk X.prog X.w H s.heap a (.lst xs) from I.hok a _ ea)
  exact PySem.W.kia_one PySem.W.kitx_list I.kIn ⟨_,h1,rfl⟩ e (fun z=>nomatch z) h
 | @frz a ob xs ea=>
  cases (show u=Value.ref a from rx)
  obtain⟨_,_,_,n,_,h1⟩:=(show ObjOk X.prog X.w H s.heap a (.frz ob (.lst xs)) from I.hok a _ ea)
  exact PySem.W.kia_one PySem.W.kitx_list I.kIn ⟨_,h1,rfl⟩ e (fun z=>nomatch z) h
 | @tup a xs ea=>
  cases (show u=Value.ref a from rx)
  obtain⟨_,_,_,p⟩:=(show ObjOk X.prog X.w H s.heap a (.tup xs) from I.hok a _ ea)
  obtain⟨o,h1,h2,_⟩:=p
  exact PySem.W.kia_one PySem.W.kitx_tuple I.kIn ⟨o,h1,h2⟩ e (fun z=>nomatch z) h
 | @dK a kvs ea=>
  cases (show u=Value.ref a from rx)
  obtain⟨_,_,vs,_,p⟩:=(show ObjOk X.prog X.w H s.heap a (.dK kvs) from I.hok a _ ea)
  obtain⟨o,es,ep,h1,h2,_⟩:=p
  exact PySem.W.kia_one PySem.W.kitx_dict I.kIn ⟨o,h1,h2.1⟩ e (fun z=>nomatch z) h
 | @dT a kvs ea=>
  cases (show u=Value.ref a from rx)
  obtain⟨_,_,xs,_,o,es,ep,h1,h2,_⟩:=(show ObjOk X.prog X.w H s.heap a (.dT kvs) from I.hok a _ ea)
  exact PySem.W.kia_one PySem.W.kitx_dict I.kIn ⟨o,h1,h2.1⟩ e (fun z=>nomatch z) h
 | @ins a C dx fs ea cl ha hn htk hm=>
  cases (show u=Value.ref a from rx)
  obtain⟨mA,O,_⟩:=Qbz I.hok ea
  obtain⟨od,J,_⟩:=O.look
  exact PySem.W.kia_one (PySem.W.kitx_own (cl.get _) cl.hd ha hn htk hm) I.kIn J e (fun z=>nomatch z) h
end
structure Room (k:Nat) (A:Around):Prop where
 hd:A.handled=none
 dp:A.depth + 3 * k + 5 < recursionLimit
 un:A.units + 16 * k + 200 < cLine
theorem Room.mono {j k:Nat}{A:Around} (r:Room k A) (h:j<=k):Room j A:=⟨r.hd,by have:=r.dp;ac_nf,by have:=r.un;ac_nf⟩
theorem Room.deeper {k:Nat}{A:Around} (r:Room (k + 1) A) (env:Env):Room k (A.deeper env):=
 ⟨r.hd,by have:=r.dp;show A.depth + 1 + 3 * k + 5 < _;ac_nf,by have:=r.un;show A.units + 3 + 16 * k + 200 < _;ac_nf⟩
theorem Room.depth {k:Nat}{A:Around} (r:Room k A):A.depth < recursionLimit:=by have:=r.dp;ac_nf
theorem Room.units {k:Nat}{A:Around} (r:Room k A):A.units + 64 < cLine:=by have:=r.un;ac_nf
def tNil:TA:=fun _ H Q=>Q [] H
def tCons (ta:TE) (tr:TA):TA:=fun σ H Q=>ta σ H fun x H1=>tr σ H1 fun xs H2=>Q (x::xs) H2
section
variable {X:Cx}{e:Expr}{es:List Expr}{te:TE}{t:TA}{pos:Pos}
theorem QbD:PA X [] tNil:=fun _ _ _ _ H Q I h=>Calls.spliced_nil ⟨[],H,I,.nil,h⟩
theorem QbE (ha:PE X e te) (hr:PA X es t) (hs:starEach (e::es) X.env=(false,eval e X.env)::starEach es X.env:=by rfl):PA X (e::es) (tCons te t):=by
 intro pos pins s σ H Q I h
 rw[hs]
 show wpAny _ _ (spliced ((false,eval e X.env)::backTo pos (starEach es X.env))) _ _ s
 refine Calls.spliced_cons (thn (ha pins s σ H _ I h) fun u s1 pq27=>?_)
 obtain⟨x,H1,I1,r1,q1⟩:=pq27
 exact thn (hr pos pins s1 σ H1 _ I1 q1) fun us s2 pq28=>by obtain⟨xs,H2,I2,r2,q2⟩:=pq28;exact⟨x::xs,H2,I2,.cons r1 r2,q2⟩
def tTup (t:TA):TE:=fun σ H Q=>t σ H fun xs H1=>xs.length<=sizeLine/\∀ p,H1 p=none->Q (.ref p) (upd H1 p (.tup xs))
def tLst (t:TA):TE:=fun σ H Q=>t σ H fun xs H1=>xs.length<=sizeLine/\∀ p,H1 p=none->Q (.ref p) (upd H1 p (.lst xs))
theorem QbF {x1} (h:PA X es t):PE X (.Tuple es x1 pos) (tTup t):=by
 intro pins s σ H Q I hq
 refine wpAny_Tuple_spliced (thn (h pos pins s σ H _ I hq) fun us s1 ⟨xs,H1,I1,r,z,q⟩=>⟨by rw[<- r.length];exact z,?_⟩)
 have hf:H1 s1.heap.objs.size=none:=I1.hok.fresh (Nat.le_refl _)
 refine⟨.ref s1.heap.objs.size,upd H1 s1.heap.objs.size (.tup xs),I1.laid (t':=s1.toks) (fun b u e=>Heap.get?_push_of_some _ e) (Nat.le_refl _) ?_,rfl,q _ hf⟩
 exact⟨z,us,r,⟨_,Heap.get?_push_size _ rfl,rfl,⟨_,rfl⟩,rfl⟩⟩
theorem QbG (h:PA X es t):PE X (.List es pos) (tLst t):=by
 intro pins s σ H Q I hq
 refine wpAny_List_spliced (thn (h pos pins s σ H _ I hq) fun us s1 ⟨xs,H1,I1,r,z,q⟩=>⟨by rw[<- r.length];exact z,?_⟩)
 have hf:H1 s1.heap.objs.size=none:=I1.hok.fresh (Nat.le_refl _)
 refine⟨.ref s1.heap.objs.size,upd H1 s1.heap.objs.size (.lst xs),I1.laid (t':=s1.toks) (fun b u e=>Heap.get?_push_of_some _ e) (Nat.le_refl _) ?_,rfl,q _ hf⟩
 exact⟨z,us,0,r,Heap.get?_push_size _ rfl⟩
end
abbrev Sp:=List V->Hp->VK->XK->Prop
abbrev CXT:=List Env->Hp->Shared->XK->Value->Shared->Prop
structure Env0 (P:Program) (w:World) (K:PySem.W.Frag) (mg:Str->Option Value) (base:Heap) (A:Around) (outer:List Env) (s:Shared) (H:Hp):Prop where
 frames:A.frames=some outer
 mod:Mod K mg base
 bs:∀ b o,base.get? b=some o->s.heap.get? b=some o/\H b=none
 bsz:base.objs.size<=s.heap.objs.size
 funs:s.heap.FunFrames base outer
 frf:∀ b∈frs outer,H b=none
 hok:HOk P w H s.heap
 bare:AllBare s.gens
def CE (outer:List Env) (P:Program) (w:World) (H:Hp) (s:Shared) (Q:VK) (u:Value) (s':Shared):Prop:=
 ∃ v H',s'.os=s.os/\AllBare s'.gens/\Un (frs outer) [] H H' s.heap s'.heap/\HOk P w H' s'.heap/\RelV v u/\Q v H'
def CR (CX:CXT) (outer:List Env) (P:Program) (w:World) (H:Hp) (s:Shared) (Q:VK) (E:XK) (r:Result) (s':Shared):Prop:=
 match r with
 | .ok (.ret u)=>CE outer P w H s Q u s'
 | .ok _=>False
 | .error e=>CX outer H s E e s'
structure FnOk (P:Program) (w:World) (K:PySem.W.Frag) (mg:Str->Option Value) (base:Heap) (CX:CXT) (k:Nat) (f:Addr) (fd:FuncData) (ps:List Str) (sp:Sp):Prop where
 len:∀ vs H Q E,sp vs H Q E->vs.length=ps.length
 run:∀ (A:Around) (outer:List Env) (s:Shared) (H:Hp) (args:Args) (us:List Value) (vs:List V) (Q:VK) (E:XK),Room k A->Env0 P w K mg base A outer s H->BindsTo s fd args (ps.zip us)->Vals vs us->sp vs H Q E ->
  codeAny (model P w) A (.call (.ref f) args) (CR CX outer P w H s Q E) s
section
variable {X:Cx}{pins:List (Addr × Obj)}{σ:St}{H:Hp}{s s':Shared}
theorem Inv.env0 (I:Inv X pins σ H s):Env0 X.prog X.w X.K X.mg X.base X.A X.stack s H:=
 ⟨I.ok.frames,I.ok.mod,I.bs,Nat.le_trans I.ok.bsz I.sz,I.stack,I.stkFree,I.hok,I.bare⟩
theorem Inv.after {Q:VK}{u:Value} (I:Inv X pins σ H s) (h:CE X.stack X.prog X.w H s Q u s'):EP X pins σ Q u s':=by
 obtain⟨v,H',os,bare,un,hok,r,q⟩:=h
 obtain⟨hh,g,d,t,os'⟩:=s'
 obtain rfl:os'=s.os:=os
 exact⟨v,H',I.call (h':=hh) (g':=g) (d':=d) (t':=t) (ch:=[]) un hok bare (fun b z=>absurd z (by simp)),r,q⟩
end
def tCall (sp:Sp) (dvs:List V) (E:XK) (t:TA):TE:=fun σ H Q=>t σ H fun vs H1=>sp (vs++dvs) H1 Q E
def Binds (K:PySem.W.Frag) (fd:FuncData) (ps:List Str) (ds:List Value):Prop:=
 ∀ (s:Shared) (us:List Value),K.In s.heap->(us++ds).length=ps.length->BindsTo s fd ⟨us,[]⟩ (ps.zip (us++ds))
theorem Binds.all {K:PySem.W.Frag}{fd:FuncData}{ps:List Str} (h:∀ us:List Value,us.length=ps.length->bindArgs fd ⟨us,[]⟩=pure (ps.zip us)):Binds K fd ps []:=fun s us _ hl=>by
 rw[List.append_nil]at hl ⊢
 exact .of_eq (h us hl)
def Passes (CX:CXT) (X:Cx) (E:XK):Prop:=∀ (pins:List (Addr × Obj)) (σ:St) (H:Hp) (s:Shared) (e:Value) (s':Shared),Inv X pins σ H s->CX X.stack H s E e s'->X.xe e s'
section
variable {X:Cx}{CX:CXT}{k:Nat}{f C:Addr}{fd:FuncData}{ps:List Str}{sp:Sp}{dvs:List V}{ds:List Value}{E:XK}{x m:Str}{p pos apos:Pos}{e o:Expr}{es:List Expr}{ta:TE}{t:TA}
theorem QbH {pins : List (Addr × Obj)} {σ : St} {H : Hp} {s : Shared} {Q : VK} {us : List Value} {vs : List V} (F : FnOk X.prog X.w X.K X.mg X.base CX k f fd ps sp) (hr : Room k X.A) (hb : Binds X.K fd ps ds) (hd : Vals dvs ds) (hx : Passes CX X E)
  (I:Inv X pins σ H s) (r:Vals vs us) (h:sp (vs++dvs) H Q E):wpAny (model X.prog X.w) X.A (call (.ref f) us) (EP X pins σ Q) X.xe s:=by
 have r2:Vals (vs++dvs) (us++ds):=r.append hd
 have hl:(us++ds).length=ps.length:=by rw[<- r2.length];exact F.len _ _ _ _ h
 refine wpAny_call (codeAny_mono (F.run X.A X.stack s H ⟨us,[]⟩ (us++ds) (vs++dvs) Q E hr I.env0 (hb s us I.kIn hl) r2 h) fun r s' hq=>?_)
 cases r with
 | error e=>exact hx pins σ H s e s' I hq
 | ok fl=>
  cases fl with
  | ret u=>exact I.after hq
  | next=>exact False.elim hq
  | brk=>exact False.elim hq
  | cont=>exact False.elim hq
theorem QbI (F : FnOk X.prog X.w X.K X.mg X.base CX k f fd ps sp) (hr : Room k X.A) (hg : Gl X x) (hm : X.mg x = some (.ref f)) (hk : PySem.W.keepIn X.K (.ref f) = true) (hb : Binds X.K fd ps ds) (hd : Vals dvs ds) (hx : Passes CX X E)
  (ha:PA X (e::es) t) (hdb:(x == ("__debug__":Str))=false:=by decide) (he:starEach (e::es) X.env=(false,eval e X.env)::starEach es X.env:=by rfl) (hpl:(backTo pos (starEach es X.env)).any (·.1)=false:=by rfl):
  PE X (.Call (.Name x p) (e::es) [] pos) (tCall sp dvs E t):=by
 intro pins s σ H Q I h
 refine wpAny_Call_Name_kw (Qax I hg hm ?_ hdb)
 refine PySem.W.callWith_K (h₀:=X.base) I.ok.mod.kin hk (thn (ha pos pins s σ H _ I h) fun us s1 ⟨vs,H1,I1,r,q⟩=>⟨I1.kIn,?_⟩) he hpl
 exact QbH F hr hb hd hx I1 r q
end
def PK (X:Cx) (kws:List Keyword) (t:TA):Prop:=
 ∀ (pos:Pos) (pins:List (Addr × Obj)) (s:Shared) (σ:St) (H:Hp) (Q:List V->Hp->Prop),Inv X pins σ H s->t σ H Q->wpAny (model X.prog X.w) X.A (evalAll ((backToKw pos (keywordEach kws X.env)).map (·.2))) (AP X pins σ Q) X.xe s
section
variable {X:Cx}{CX:CXT}{k:Nat}{f C:Addr}{fd:FuncData}{ps ks:List Str}{sp:Sp}{E:XK}{x m:Str}{p pos apos kpos:Pos}{e o:Expr}{es:List Expr}{kws:List Keyword}{te ta:TE}{t tk:TA}{nm:Option Str}
variable {g:List Value->List Value->List Value}{gV:List V->List V->List V}
end
structure FnScope (N P:List Str) (sc:Scope):Prop where
 kind:sc.kind=.function
 co:sc.isCoroutine=false
 gen:sc.isGenerator=false
 nd:N.Nodup
 pre:N.take P.length=P
 par:∀ x∈P,sc.names.lookup x=some .local\/sc.names.lookup x=some .cell
 nofree:∀ y∈sc.names,y.2≠.free
theorem QbJ {kindOf:Str->Option NameKind}{x:Str}:∀ {binds:List (Str × Value)}{m:Str->Option Value},(∀ v,(x,v)∉binds)->bindL kindOf binds m x=m x
 | [],_,_=>rfl
 | (n,v)::r,m,h=>by
  unfold bindL
  rw[QbJ fun w hw=>h w (List.mem_cons_of_mem _ hw)]
  split
  ·have:x≠n:=by rintro rfl;exact h v List.mem_cons_self
   simp[this]
  ·rfl
theorem QbK {kindOf:Str->Option NameKind}{x:Str}:∀ {binds:List (Str × Value)}{m:Str->Option Value},(∀ v,(x,v)∉binds)->bindC kindOf binds m x=m x
 | [],_,_=>rfl
 | (n,v)::r,m,h=>by
  unfold bindC
  rw[QbK fun w hw=>h w (List.mem_cons_of_mem _ hw)]
  split
  ·rfl
  ·have:x≠n:=by rintro rfl;exact h v List.mem_cons_self
   simp[this]
theorem QbL {kindOf : Str -> Option NameKind} {x : Str} {v : Value} : ∀ {P : List Str} {vs : List Value} {i : Nat} {m : Str -> Option Value}, P.Nodup -> P[i]? = some x -> vs[i]? = some v -> kindOf x = some .local ->
  bindL kindOf (P.zip vs) m x=some v
 | [],_,_,_,_,h,_,_=>by simp at h
 | _::_,[],_,_,_,_,h,_=>by simp at h
 | p::P,w::vs,0,m,nd,h1,h2,hk=>by
  simp at h1 h2;subst h1;subst h2
  show bindL kindOf ((p,w)::P.zip vs) m p=_
  unfold bindL
  rw[QbJ fun v hv=>(List.nodup_cons.mp nd).1 (List.of_mem_zip hv).1,if_pos hk]
  simp
 | p::P,w::vs,i + 1,m,nd,h1,h2,hk=>by
  show bindL kindOf ((p,w)::P.zip vs) m x=_
  unfold bindL
  exact QbL (i:=i) (List.nodup_cons.mp nd).2 (by simpa using h1) (by simpa using h2) hk
theorem QbM {kindOf : Str -> Option NameKind} {x : Str} {v : Value} : ∀ {P : List Str} {vs : List Value} {i : Nat} {m : Str -> Option Value}, P.Nodup -> P[i]? = some x -> vs[i]? = some v -> kindOf x ≠ some .local ->
  bindC kindOf (P.zip vs) m x=some v
 | [],_,_,_,_,h,_,_=>by simp at h
 | _::_,[],_,_,_,_,h,_=>by simp at h
 | p::P,w::vs,0,m,nd,h1,h2,hk=>by
  simp at h1 h2;subst h1;subst h2
  show bindC kindOf ((p,w)::P.zip vs) m p=_
  unfold bindC
  rw[QbK fun v hv=>(List.nodup_cons.mp nd).1 (List.of_mem_zip hv).1,if_neg hk]
  simp
 | p::P,w::vs,i + 1,m,nd,h1,h2,hk=>by
  show bindC kindOf ((p,w)::P.zip vs) m x=_
  unfold bindC
  exact QbM (i:=i) (List.nodup_cons.mp nd).2 (by simpa using h1) (by simpa using h2) hk
def start (N:List Str) (vs:List V):St:=vs.map some++List.replicate (N.length - vs.length) none
def cxOf (CX:CXT) (P:Program) (w:World) (K:PySem.W.Frag) (mg:Str->Option Value) (base:Heap) (N:List Str) (qual:Str) (scope:Scope) (f:Addr) (cd:Value) (A:Around) (outer:List Env) (s:Shared) (H:Hp) (E:XK):Cx where
 prog:=P
 w:=w
 K:=K
 mg:=mg
 base:=base
 A:=A.deeper (envOfC qual scope s.heap.objs.size f cd)
 N:=N
 s₀:=s
 H₀:=H
 env:=envOfC qual scope s.heap.objs.size f cd
 outer:=outer
 stack:=envOfC qual scope s.heap.objs.size f cd::outer
 ex:=[]
 calm:=true
 fn:=fun _=>true
 pn:=[]
 xe:=fun e s'=>wpAny (model P w) (A.deeper (envOfC qual scope s.heap.objs.size f cd)) (leaving (envOfC qual scope s.heap.objs.size f cd) e) (fun _ s''=>CX outer H s E e s'') (fun e' s''=>CX outer H s E e' s'') s'
theorem QbN {sc:Scope}{n:Nat}{x:Str} (h:sc.names.lookup x=some .cell):∃ c,(cellsFrom n sc.names []).lookup x=some c:=by
 have q:=PySem.W.cellsFrom_some sc.names n [] (.inl h)
 exact Option.isSome_iff_exists.mp q
theorem QbO {CX : CXT} {P : Program} {w : World} {K : PySem.W.Frag} {mg : Str -> Option Value} {base : Heap} {N ps : List Str} {qual : Str} {scope : Scope} {f : Addr} {cd : Value} {A : Around} {outer : List Env} {s s1 : Shared} {H : Hp} {E : XK} {us : List Value} {vs : List V}
  (S:FnScope N ps scope) (hd:A.handled=none) (e0:Env0 P w K mg base A outer s H) (hl:vs.length=ps.length) (r:Vals vs us)
  (x:InCallC s s.heap.objs.size (bindL (envOfC qual scope s.heap.objs.size f cd).kindOf (ps.zip us) fun _=>none) (cellsFrom (s.heap.objs.size + 1) scope.names []) (bindC (envOfC qual scope s.heap.objs.size f cd).kindOf (ps.zip us) fun _=>none) s1):
  Inv (cxOf CX P w K mg base N qual scope f cd A outer s H E) [] (start N vs) H s1:=by
 have hpl:ps.length<=N.length:=by have:=congrArg List.length S.pre;rw[List.length_take]at this;ac_nf
 obtain⟨h1,tk,rfl,hk⟩:=x.done
 have noA:∀ b:Addr,b∉(cxOf CX P w K mg base N qual scope f cd A outer s H E).ex:=fun b z=>absurd (show b∈([]:List Addr) from z) (by simp)
 refine⟨⟨e0.mod,S.kind,rfl,rfl,Nat.le_refl _,fun y z c h1 h2=>?_,fun y hy=>?_,fun y c _ h=>?_,fun _=>hd,Around.frames_deeper e0.frames,.inr ⟨rfl,rfl⟩,fun b z=>absurd z (noA b),e0.bs,e0.bsz,fun b _ _=>noA b,fun b z=>absurd z (noA b),e0.funs,e0.frf⟩,
  rfl,e0.bare,Un.kept hk,⟨_,x.toInCall.ns,fun i y v h1 h2 h3=>?_⟩,fun y c h=>⟨_,x.cell y c h⟩,e0.hok.fresh (Nat.le_refl _),fun y c h=>?_,fun p hp=>absurd (show p∈([]:List (Addr × Obj)) from hp) (by simp),e0.hok.kept hk,?_⟩
 ·exact name_of_addr x.apart (PySem.mem_of_lookup h1) (PySem.mem_of_lookup h2)
 ·have hy:scope.names.lookup y=some .cell\/scope.names.lookup y=some .free:=hy
  rcases hy with hy | hy
  ·exact QbN hy
  ·exact absurd rfl (S.nofree _ (PySem.mem_of_lookup hy))
 ·exact Nat.le_of_lt (x.above y c (PySem.mem_of_lookup h))
 ·have hi : i < vs.length := by
    unfold start at h2
    by_cases hi:i < vs.length
    ·exact hi
    ·rw[List.getElem?_append_right (by simpa using hi)]at h2
     rw[List.getElem?_replicate]at h2
     split at h2<;>cases h2
  have ha:vs[i]?=some v:=by
   unfold start at h2
   rw[List.getElem?_append_left (by simpa using hi),List.getElem?_map]at h2
   cases e:vs[i]? with
   | none=>rw[e]at h2;cases h2
   | some a=>rw[e]at h2;cases h2;rfl
  obtain⟨u,hu,rv⟩:=r.get ha
  have hp:ps[i]?=some y:=by
   rw[<- S.pre,List.getElem?_take_of_lt (by ac_nf)];exact h1
  have ndP:ps.Nodup:=by rw[<- S.pre];exact S.nd.sublist (List.take_sublist _ _)
  refine⟨u,rv,?_⟩
  rcases S.par y (List.mem_of_getElem? hp) with k | k
  ·exact .inl ⟨k,QbL ndP hp hu k⟩
  ·obtain⟨c,e⟩:=QbN (n:=s.heap.objs.size + 1) k
   refine .inr ⟨.inl k,c,e,?_⟩
   have q:=x.cell y c e
   rw[QbM ndP hp hu (by show scope.names.lookup y≠_;rw[k];decide)]at q
   exact q
 ·exact e0.hok.fresh (Nat.le_of_lt (x.above y c (PySem.mem_of_lookup h)))
 ·unfold start
  show _=N.length
  rw[List.length_append,List.length_map,List.length_replicate]
  ac_nf
theorem QbP {CX : CXT} {P : Program} {w : World} {K : PySem.W.Frag} {mg : Str -> Option Value} {base : Heap} {k : Nat} {f : Addr} {name qual : Str} {params : Arguments} {body : List Stmt} {scope : Scope} {dV kV doc pm cdv ct oc : Value} {an od : Option Addr}
  {osl:Array (Option Value)}{N ps:List Str}{sp:Sp} (lk:K.lookup f=some ⟨oc,od,.func (PySem.W.fnOf name qual params body scope dV kV doc pm an cdv ct),osl⟩) (hcd:PySem.W.codeIn K cdv qual=true) (S:FnScope N ps scope)
  (len:∀ vs H Q E,sp vs H Q E->vs.length=ps.length)
  (hbody:∀ (A:Around) (outer:List Env) (s:Shared) (H:Hp) (vs:List V) (Q:VK) (E:XK),Room k (A.deeper (envOfC qual scope s.heap.objs.size f cdv))->sp vs H Q E ->
   ∃ t,PSs (cxOf CX P w K mg base N qual scope f cdv A outer s H E) body t/\t { nx:=fun _ H'=>Q .non H',rt:=Q } (start N vs) H):
  FnOk P w K mg base CX (k + 1) f (PySem.W.fnOf name qual params body scope dV kV doc pm an cdv ct) ps sp:=by
 refine⟨len,fun A outer s H args us vs Q E hr e0 hb r hsp=>?_⟩
 have hl:=len _ _ _ _ hsp
 have KX:K.In s.heap:=e0.mod.kin.keeps fun b o e=>(e0.bs b o e).1
 have lim:s.heap.NoLimit:=e0.mod.nolimit.keeps fun b o e=>(e0.bs b o e).1
 have hkind:∀ y∈ps.zip us,scope.names.lookup y.1=some .local\/(scope.names.lookup y.1=some .cell/\((cellsFrom (s.heap.objs.size + 1) scope.names []).lookup y.1).isSome=true):=fun pq32 hy=>by
  obtain⟨n,v⟩:=pq32
  rcases S.par n (List.of_mem_zip hy).1 with q | q
  ·exact .inl q
  ·exact .inr ⟨q,PySem.W.cellsFrom_some _ _ _ (.inl q)⟩
 refine codeAny_call_function hr.depth (KX _ _ lk) rfl S.co S.gen rfl (PySem.W.codeRec_of KX hcd) (hb _ _ _ _ ?_)
 refine wpAny_newFunctionEnv_cells S.kind hkind fun env he s1 x=>?_
 subst he
 refine⟨lim.keeps x.toInCall.keep,codeAny_func ?_⟩
 obtain⟨t,ht,hq⟩:=hbody A outer s H vs Q E (hr.deeper _) hsp
 have I:Inv (cxOf CX P w K mg base N qual scope f cdv A outer s H E) [] (start N vs) H s1:=QbO S hr.hd e0 hl r x
 refine wpAny_mono (ht [] s1 (start N vs) H _ I hq) (fun fl s' hs=>?_) fun e s' hs=>hs
 have fin:∀ {σ':St}{H':Hp}{v:V}{u:Value},Inv (cxOf CX P w K mg base N qual scope f cdv A outer s H E) [] σ' H' s'->RelV v u->Q v H'->CE outer P w H s Q u s':=
  fun {σ' H' v u} J rv q=>⟨v,H',J.os,J.bare,J.base,J.hok,rv,q⟩
 cases fl with
 | ret u=>
  obtain⟨v,σ',H',J,rv,q⟩:=hs
  exact fin J rv q
 | next=>
  obtain⟨σ',H',J,q⟩:=hs
  exact fin (v:=V.non) (u:=Value.none) J rfl q
 | brk=>
  obtain⟨_,_,_,q⟩:=hs
  exact False.elim q
 | cont=>
  obtain⟨_,_,_,q⟩:=hs
  exact False.elim q
section
variable {X:Cx}{x:Str}{p pos:Pos}{e:Expr}{es:List Expr}{t:TA}{id T:String}{r:List V->Hp->VK->Prop}
def tCB (r:List V->Hp->VK->Prop) (t:TA):TE:=fun σ H Q=>t σ H fun vs H1=>r vs H1 Q
theorem QbQ (hc : CallR X (.builtin id) r) (hg : Gl X x) (hm : X.mg x = none) (hv : bootBuiltins x = some (.builtin id)) (ha : PA X (e :: es) t) (hn : x ≠ "__name__" := by decide) (hdb : (x == ("__debug__" : Str)) = false := by decide)
  (he:starEach (e::es) X.env=(false,eval e X.env)::starEach es X.env:=by rfl) (hpl:(backTo pos (starEach es X.env)).any (·.1)=false:=by rfl):PE X (.Call (.Name x p) (e::es) [] pos) (tCB r t):=by
 intro pins s σ H Q I h
 refine wpAny_Call_Name_kw (Qay I hg hm hv ?_ hn hdb)
 exact PyProof.Rows.callWith_builtin1 (thn (ha pos pins s σ H _ I h) fun us s1 pq33=>by obtain⟨vs,H1,I1,r1,q1⟩:=pq33;exact hc pins s1 σ H1 vs us Q I1 r1 q1) he hpl
theorem QbR (hc : CallR X (.type T) r) (hg : Gl X x) (hm : X.mg x = none) (hv : bootBuiltins x = some (.type T)) (ha : PA X (e :: es) t) (hn : x ≠ "__name__" := by decide) (hdb : (x == ("__debug__" : Str)) = false := by decide)
  (he:starEach (e::es) X.env=(false,eval e X.env)::starEach es X.env:=by rfl) (hpl:(backTo pos (starEach es X.env)).any (·.1)=false:=by rfl):PE X (.Call (.Name x p) (e::es) [] pos) (tCB r t):=by
 intro pins s σ H Q I h
 refine wpAny_Call_Name_kw (Qay I hg hm hv ?_ hn hdb)
 exact PyProof.Rows.callWith_type1 (thn (ha pos pins s σ H _ I h) fun us s1 pq34=>by obtain⟨vs,H1,I1,r1,q1⟩:=pq34;exact hc pins s1 σ H1 vs us Q I1 r1 q1) he hpl
end
end L2
namespace HT
open PySem PyProof.Rows
section
open PySem.SeqAt
open PySem.AutoSeq1 (wpAny_loadPart')
open PySem.MeetsSeq PySem.MeetsSeq2 PySem.MeetsSeq3
end
section
variable {prog:Program}{w:World}{A:Around}{E:Value->Shared->Prop}{s:Shared}
theorem cat_tup {t b : Addr} {vs ws : List Value} {Q : Value -> Shared -> Prop} (ht : IsTup s.heap t vs.toArray) (hb : IsTup s.heap b ws.toArray) (hv : vs ≠ [])
  (h1:ws=[]->Q (.ref t) s) (h2:ws≠[]->Q (.ref s.heap.objs.size) { s with heap:=s.heap.push { cls:=.type "tuple",data:=.seq (vs++ws).toArray } })
  (hsz:vs.length + ws.length<=sizeLine):wpAny (model prog w) A (binaryOp .Add (.ref t) (.ref b)) Q E s:=by
 obtain⟨⟨cls,dd,data,sl⟩,ho,hc,n,hd⟩:=id ht
 obtain⟨⟨cls2,dd2,data2,sl2⟩,ho2,hc2,n2,hd2⟩:=id hb
 simp only at hc hd hc2 hd2
 subst hc hd hc2 hd2
 have e:vs.toArray++ws.toArray=(vs++ws).toArray:=by simp
 by_cases hw:ws=[]
 ·exact concat_meets ⟨_, ho, rfl⟩ ⟨_, ho2, rfl⟩ noFill_tuple_add seq_tuple_add PySem.F.slot_tuple_add PySem.F.entry_tuple_add (PySem.F.args_tuple_add_2 _ _)
    (tuple_addW1 t b vs.toArray ws.toArray n n2 dd dd2 sl sl2 (by simpa using hv) (by simp[hw])) ⟨ho,ho2,h1 hw⟩
 ·refine concat_meets ⟨_, ho, rfl⟩ ⟨_, ho2, rfl⟩ noFill_tuple_add seq_tuple_add PySem.F.slot_tuple_add PySem.F.entry_tuple_add (PySem.F.args_tuple_add_2 _ _)
    (tuple_addW2 t b vs.toArray ws.toArray n n2 dd dd2 sl sl2 (by simpa using hv) (by simpa using hw) (by rw[List.size_toArray,List.size_toArray];exact hsz)) ⟨ho,ho2,?_⟩
  rw[e]
  exact h2 hw
def sIx (n d:Nat):Option Int->Nat
 | none=>d
 | some v=>if v < 0 then (v + (n:Int)).toNat else min v.toNat n
theorem QbS (n d:Nat) (hd:d<=n) (o:Option Int):sIx n d o<=n:=by
 cases o with
 | none=>exact hd
 | some v=>
  show (if v < 0 then (v + (n:Int)).toNat else min v.toNat n)<=n
  by_cases hv:v < 0
  ·rw[if_pos hv];ac_nf
  ·rw[if_neg hv];exact Nat.min_le_right _ _
theorem QbT (v:Int) (n d:Nat):(if v < 0 then max (v + (n:Int)) 0 else min v (n:Int))=((sIx n d (some v):Nat):Int):=by
 show (if v < 0 then max (v + (n:Int)) 0 else min v (n:Int))=(((if v < 0 then (v + (n:Int)).toNat else min v.toNat n):Nat):Int)
 by_cases hv:v < 0
 ·simp only[if_pos hv];ac_nf
 ·simp only[if_neg hv];ac_nf
theorem QbU (lo hi:Option Int) (n:Nat):Builtin.Slice.sliceAdjust lo hi 1 (n:Int)=(((sIx n 0 lo:Nat):Int),((sIx n n hi:Nat):Int)):=by
 have h1:¬ ((1:Int) < 0):=by ac_nf
 unfold Builtin.Slice.sliceAdjust
 simp only[h1,if_false]
 refine Prod.ext ?_ ?_
 ·cases lo with
  | none=>rfl
  | some v=>exact QbT v n 0
 ·cases hi with
  | none=>rfl
  | some v=>exact QbT v n n
theorem QbV (i j:Nat):Builtin.Slice.slicePlaces (i:Int) (j:Int) 1=j - i:=by
 unfold Builtin.Slice.slicePlaces
 have h1:(1:Int) > 0:=by ac_nf
 simp only[h1,if_true,Int.ediv_one]
 split<;>ac_nf
theorem QbW {v:Value}{o:Option Int}{Q:Option Int->Shared->Prop} (p:IsPart v o) (h:Q o s):wpAny (model prog w) A (Builtin.Slice.slicePartIndex v) Q E s:=by
 cases p with
 | none=>exact slicePart_none h
 | int i t=>exact slicePart_int h
theorem QbX {sl : Addr} {vl vu : Value} {lo hi : Option Int} {n : Nat} {Q : Int × Int × Nat -> Shared -> Prop} (hs : s.heap.IsSliceOf sl vl vu .none) (pl : IsPart vl lo) (pu : IsPart vu hi)
  (h:Q (((sIx n 0 lo:Nat):Int),1,sIx n n hi - sIx n 0 lo) s):wpAny (model prog w) A (Builtin.Slice.sliceApplied (.ref sl) (pure (n:Int))) Q E s:=by
 obtain⟨os,hos,hcs,hds⟩:=id hs
 unfold Builtin.Slice.sliceApplied Builtin.Slice.sliceFields
 refine wpAny_bind (wpAny_bind (wpAny_field hos hds (x:=vl) rfl (wpAny_bind (wpAny_field hos hds (x:=vu) rfl (wpAny_bind (wpAny_field hos hds (x:=.none) rfl (wpAny_pure ?_)))))))
 refine wpAny_bind (slicePart_none ?_)
 show wpAny _ _ (if ((1:Int) == 0)=true then _ else _) _ _ s
 rw[if_neg (by decide)]
 refine wpAny_bind (QbW pl (wpAny_bind (QbW pu (wpAny_bind (wpAny_pure ?_)))))
 show wpAny _ _ (match Builtin.Slice.sliceAdjust lo hi 1 (n:Int) with | (lo,hi)=>pure (lo,(1:Int),Builtin.Slice.slicePlaces lo hi 1)) _ _ s
 rw[QbU lo hi n]
 show wpAny _ _ (pure (((sIx n 0 lo:Nat):Int),(1:Int),Builtin.Slice.slicePlaces ((sIx n 0 lo:Nat):Int) ((sIx n n hi:Nat):Int) 1)) _ _ s
 rw[QbV]
 exact wpAny_pure h
theorem QbY (xs:Array Value) (i k:Nat):((List.range k).filterMap fun (m:Nat)=>xs[((i:Int) + (m:Int) * 1).toNat]?).toArray=((xs.toList.drop i).take k).toArray:=by
 have e:(fun (m:Nat)=>xs[((i:Int) + (m:Int) * 1).toNat]?)=fun m=>xs[i + m]?:=by
  funext m
  have:((i:Int) + (m:Int) * 1).toNat=i + m:=by ac_nf
  rw[this]
 rw[e]
 have:=pick_run xs i k
 rw[List.filterMap_map]at this
 have e2:((fun x=>xs[x]?) ∘ fun x=>i + x)=fun m=>xs[i + m]?:=rfl
 rw[e2]at this
 rw[this]
theorem getItem_tuple_cut {t sl : Addr} {items : Array Value} {vl vu : Value} {lo hi : Option Int} {Q : Value -> Shared -> Prop} (ht : IsTup s.heap t items) (hs : s.heap.IsSliceOf sl vl vu .none) (pl : IsPart vl lo) (pu : IsPart vu hi)
  (hw:¬ (sIx items.size 0 lo=0/\sIx items.size items.size hi=items.size))
  (h:Q (.ref s.heap.objs.size) { s with heap:=s.heap.push { cls:=.type "tuple",data:=.seq ((items.toList.drop (sIx items.size 0 lo)).take (sIx items.size items.size hi - sIx items.size 0 lo)).toArray } })
  (hsz:items.size<=sizeLine):wpAny (model prog w) A (getItem (.ref t) (.ref sl)) Q E s:=by
 have htake:sizeOk (.seq ((items.toList.drop (sIx items.size 0 lo)).take (sIx items.size items.size hi - sIx items.size 0 lo)).toArray):=by
  show ((items.toList.drop (sIx items.size 0 lo)).take (sIx items.size items.size hi - sIx items.size 0 lo)).toArray.size<=sizeLine
  rw[List.size_toArray,List.length_take,List.length_drop,Array.length_toList]
  ac_nf
 have hj:sIx items.size items.size hi<=items.size:=QbS _ _ (Nat.le_refl _) hi
 obtain⟨os,hos,hcs,hds⟩:=id hs
 have hTs:s.TypeIs (.ref sl) "slice":=⟨os,hos,hcs⟩
 unfold getItem
 try with_reducible refine wpAny_holding ?_
 first | refine wpAny_bind (wpAny_pure ?_) | skip
 refine wpAny_bind (wpAny_sequenceKey ht.typeIs (by decide) ?_)
 refine wpAny_bind (wpAny_callSpecial?_slot (name:=Str.ofString "__getitem__") ht.typeIs PyProof.Rows.slot_tuple_getitem
  (wpAny_call_entry PyProof.Rows.slot_tuple_getitem ht.typeIs entry_tuple_getitem ?_ (args_tuple_getitem _ _)))
 show wpAny _ _ (Builtin.Tuple.tupleItemsOf (.ref t) >>= _) _ _ s
 refine wpAny_bind (tupleItemsOf_ ht ?_)
 refine wpAny_bind (wpAny_typeOf hTs ?_)
 rw[if_pos (by decide)]
 refine wpAny_bind (QbX hs pl pu ?_)
 have hno:¬ ((((sIx items.size 0 lo:Nat):Int) == 0 && (1:Int) == 1 && (sIx items.size items.size hi - sIx items.size 0 lo) == items.size)=true):=by
  intro q
  rw[Bool.and_eq_true,Bool.and_eq_true]at q
  have q1:((sIx items.size 0 lo:Nat):Int)=0:=eq_of_beq q.1.1
  have q2:sIx items.size items.size hi - sIx items.size 0 lo=items.size:=eq_of_beq q.2
  exact hw ⟨by ac_nf,by ac_nf⟩
 show wpAny _ _ (if (((sIx items.size 0 lo:Nat):Int) == 0 && (1:Int) == 1 && (sIx items.size items.size hi - sIx items.size 0 lo) == items.size)=true then _ else _) _ _ s
 rw[if_neg hno,QbY]
 first
  | exact wpAny_bind (m:=Builtin.Tuple.tupleExact _) (wpAny_newObj_type (wpAny_pure ⟨_,rfl,wpAny_pure h⟩) htake)
  | exact wpAny_bind (m:=Builtin.Tuple.tupleExact _) (wpAny_newObj_type (wpAny_bind (wpAny_pure (wpAny_pure ⟨_,rfl,wpAny_pure h⟩))) htake)
  | exact wpAny_bind (wpAny_bind (m:=Builtin.Tuple.tupleExact _) (wpAny_newObj_type (wpAny_pure (wpAny_pure ⟨_,rfl,wpAny_pure h⟩)) htake))
  | exact wpAny_bind (wpAny_bind (m:=Builtin.Tuple.tupleExact _) (wpAny_newObj_type (wpAny_pure ⟨_,rfl,wpAny_pure h⟩) htake))
end
end HT
namespace L2
open PySem PySem.Spec PyProof.Rows
abbrev TO:=St->Hp->(Option Int->Hp->Prop)->Prop
def PO (X:Cx) (e:Option Expr) (t:TO):Prop:=
 ∀ (pins:List (Addr × Obj)) (s:Shared) (σ:St) (H:Hp) (Q:Option Int->Hp->Prop),Inv X pins σ H s->t σ H Q ->
  wpAny (model X.prog X.w) X.A (evalPart e X.env) (fun u s'=>∃ o H',Inv X pins σ H' s'/\IsPart u o/\Q o H') X.xe s
def tNoPart:TO:=fun _ H Q=>Q none H
def tPart (t:TE):TO:=fun σ H Q=>t σ H fun x H1=>∃ i,x=.int i/\Q (some i) H1
theorem QbZ {ns:List Int}:∀ {us:List Value},Vals (ns.map V.int) us->IntsAre us ns:=by
 induction ns with
 | nil=>intro us r;rw[List.map_nil]at r;cases r;exact .nil
 | cons n ns ih=>
  intro us r
  rw[List.map_cons]at r
  cases r with
  | cons r1 r2=>
   obtain⟨t,e⟩:=r1
   subst e
   exact .cons n t (ih r2)
section
variable {X:Cx}{e:Expr}{te:TE}{lo hi:Option Expr}{tl th:TO}{pos p2:Pos}
theorem Qb0:PO X none tNoPart:=by
 intro pins s σ H Q I h
 rw[evalPart_none]
 exact wpAny_pure ⟨none,H,I,.none,h⟩
theorem Qb1 (h:PE X e te):PO X (some e) (tPart te):=by
 intro pins s σ H Q I hw
 rw[evalPart_some]
 refine thn (h pins s σ H _ I hw) fun u s1 pq35=>?_
 obtain⟨x,H1,I1,r1,q1⟩:=pq35
 obtain⟨i,rfl,q⟩:=q1
 obtain⟨t,rfl⟩:=r1
 exact⟨some i,H1,I1,.int i t,q⟩
def SlR (X:Cx) (r:V->Option Int->Option Int->Hp->VK->Prop):Prop:=
 ∀ (pins:List (Addr × Obj)) (s:Shared) (σ:St) (H:Hp) (x:V) (v vl vu:Value) (lo hi:Option Int) (sl:Addr) (Q:VK),Inv X pins σ H s->RelV x v->s.heap.IsSliceOf sl vl vu .none->IsPart vl lo->IsPart vu hi->r x lo hi H Q ->
  ∃ T id,typeLookup (.type T) "__getitem__"=pure (some (.builtin id))/\s.TypeIs v T/\wpAny (model X.prog X.w) X.A (getItem v (.ref sl)) (EP X pins σ Q) X.xe s
def tSl (r:V->Option Int->Option Int->Hp->VK->Prop) (te:TE) (tl th:TO):TE:=fun σ H Q=>te σ H fun x H1=>tl σ H1 fun l H2=>th σ H2 fun u H3=>r x l u H3 Q
theorem Qb2 {r:V->Option Int->Option Int->Hp->VK->Prop} (hr:SlR X r) (he:PE X e te) (hl:PO X lo tl) (hu:PO X hi th):PE X (.Subscript e (.Slice lo hi none p2) pos) (tSl r te tl th):=by
 intro pins s σ H Q I h
 refine Subscript_ (thn (he pins s σ H _ I h) fun v s1 pq36=>?_)
 obtain⟨x,H1,I1,r1,q1⟩:=pq36
 refine wpAny_Slice (thn (hl pins s1 σ H1 _ I1 q1) fun vl s2 ⟨l,H2,I2,pl,q2⟩=>thn (hu pins s2 σ H2 _ I2 q2) fun vu s3 pq38=>?_)
 obtain⟨u,H3,I3,pu,q3⟩:=pq38
 rw[evalPart_none]
 refine wpAny_pure ?_
 have I4:Inv X pins σ H3 { s3 with heap:=s3.heap.push { cls:=.type "slice",data:=.fields #[vl,vu,.none] } }:=I3.kept (t':=s3.toks) fun b ob q=>Heap.get?_push_of_some _ q
 obtain⟨T,id,hT,ht,hg⟩:=hr pins { s3 with heap:=s3.heap.push { cls:=.type "slice",data:=.fields #[vl,vu,.none] } } σ H3 x v vl vu l u s3.heap.objs.size Q I4 r1 (Heap.IsSliceOf.new ..) pl pu q3
 show wpAny (model X.prog X.w) X.A (subscriptTail e (.Slice lo hi none p2) v (.ref s3.heap.objs.size)) (EP X pins σ Q) X.xe { s3 with heap:=s3.heap.push { cls:=.type "slice",data:=.fields #[vl,vu,.none] } }
 exact tail_any (ops:=[.ref s3.heap.objs.size,v]) ht hT hg (by with_unfolding_all rfl)
def cutV (xs:List V) (lo hi:Option Int):List V:=(xs.drop (HT.sIx xs.length 0 lo)).take (HT.sIx xs.length xs.length hi - HT.sIx xs.length 0 lo)
theorem Qb3 (xs:List V) (lo hi:Option Int):(cutV xs lo hi).length<=xs.length:=by
 unfold cutV
 rw[List.length_take,List.length_drop]
 ac_nf
def rSlT (K:PySem.W.Frag):V->Option Int->Option Int->Hp->VK->Prop:=fun x lo hi H Q=>∃ a xs,x=.ref a/\SqT K H a xs /\
 ¬ (HT.sIx xs.length 0 lo=0/\HT.sIx xs.length xs.length hi=xs.length)/\∀ p,H p=none->Q (.ref p) (upd H p (.tup (cutV xs lo hi)))
theorem Qb4:SlR X (rSlT X.K):=by
 intro pins s σ H x v vl vu lo hi sl Q I rx hs pl pu h
 obtain⟨a,xs,rfl,hx,hw,q⟩:=h
 cases rx
 obtain⟨its,r,ht,hz⟩:=I.tuple hx
 have hlen:its.toArray.size=xs.length:=by rw[List.size_toArray];exact r.length.symm
 refine⟨"tuple",_,PyProof.Rows.slot_tuple_getitem.lookup,ht.typeIs,?_⟩
 refine HT.getItem_tuple_cut ht hs pl pu (by rw[hlen];exact hw) ?_ (by rw[hlen];exact hz)
 rw[hlen]
 refine⟨.ref s.heap.objs.size,_,I.laid (t':=s.toks) (o:=.tup (cutV xs lo hi)) (fun b ob q=>Heap.get?_push_of_some _ q) (Nat.le_refl _) ?_,rfl,q _ (I.hok.fresh (Nat.le_refl _))⟩
 exact⟨Nat.le_trans (Qb3 xs lo hi) hz,_,(r.drop (HT.sIx xs.length 0 lo)).take (HT.sIx xs.length xs.length hi - HT.sIx xs.length 0 lo),IsTupD.new _ _⟩
def rCatT (K:PySem.W.Frag):R2:=fun x y H Q=>∃ a b xs ys,x=.ref a/\y=.ref b/\SqT K H a xs/\SqT K H b ys/\xs≠[]/\xs.length + ys.length<=sizeLine /\
 (ys=[]->Q (.ref a) H)/\(ys≠[]->∀ p,H p=none->Q (.ref p) (upd H p (.tup (xs++ys))))
theorem Vals.nil_iff {xs:List V}{us:List Value} (r:Vals xs us):us=[]↔xs=[]:=by
 cases r with
 | nil=>simp
 | cons _ _=>simp
theorem Qb5:OpR X (binaryOp .Add) (rCatT X.K):=by
 intro pins s σ H x y v u Q I rx ry h
 obtain⟨a,b,xs,ys,rfl,rfl,ha,hb,hx,hz,q1,q2⟩:=h
 cases rx
 cases ry
 obtain⟨its,r1,p1,_⟩:=I.tuple ha
 obtain⟨its2,r2,p2,_⟩:=I.tuple hb
 refine HT.cat_tup p1 p2 (fun z=>hx (r1.nil_iff.mp z)) (fun z=>⟨.ref a,H,I,rfl,q1 (r2.nil_iff.mp z)⟩) (fun z=>?_) (by rw[<- r1.length,<- r2.length];exact hz)
 refine⟨.ref s.heap.objs.size,_,I.laid (t':=s.toks) (o:=.tup (xs++ys)) (fun b ob q=>Heap.get?_push_of_some _ q) (Nat.le_refl _) ?_,rfl,q2 (fun w=>z (r2.nil_iff.mpr w)) _ (I.hok.fresh (Nat.le_refl _))⟩
 exact⟨by rw[List.length_append];exact hz,_,r1.append r2,IsTupD.new _ _⟩
end
def ixN (n:Nat) (i:Int):Option Nat:=if 0<=i then (if i < n then some i.toNat else none) else if -(n:Int)<=i then some (i + n).toNat else none
def atI {α:Type} (xs:List α) (i:Int):Option α:=(ixN xs.length i).bind fun j=>xs[j]?
theorem Qb6 {n:Nat}{i:Int}{j:Nat} (h:ixN n i=some j):seqIndex? i n=some j/\j < n /\ -(n:Int)<=i/\i < n:=by
 unfold ixN at h
 by_cases h0:0<=i
 ·rw[if_pos h0]at h
  by_cases h1:i < n
  ·rw[if_pos h1]at h
   have e:i.toNat=j:=Option.some.inj h
   exact⟨by rw[seqIndex_of h0 h1,e],by ac_nf,by ac_nf,h1⟩
  ·rw[if_neg h1]at h;cases h
 ·rw[if_neg h0]at h
  by_cases h1 : -(n:Int)<=i
  ·rw[if_pos h1]at h
   have e:(i + n).toNat=j:=Option.some.inj h
   exact⟨by rw[seqIndex_neg (by ac_nf) h1,e],by ac_nf,h1,by ac_nf⟩
  ·rw[if_neg h1]at h;cases h
theorem Qb7 {α:Type}{xs:List α}{i:Int}{v:α} (h:atI xs i=some v):∃ j,seqIndex? i xs.length=some j/\xs[j]?=some v/\j < xs.length /\ -(xs.length:Int)<=i/\i < xs.length:=by
 unfold atI at h
 cases e:ixN xs.length i with
 | none=>rw[e]at h;cases h
 | some j=>
  rw[e]at h
  obtain⟨h1,h2,h3,h4⟩:=Qb6 e
  exact⟨j,h1,h,h2,h3,h4⟩
def PlainIx (b:Expr):Prop:=∀ o i,subscripted b false o i=operate [o,i] (getItem o i)
def IxR (X:Cx) (r:R2):Prop:=
 ∀ (value slice:Expr) (pins:List (Addr × Obj)) (s:Shared) (σ:St) (H:Hp) (x y:V) (v u:Value) (Q:VK),Inv X pins σ H s->RelV x v->RelV y u->r x y H Q ->
  subscripted slice false v u=operate [v,u] (getItem v u)->wpAny (model X.prog X.w) X.A (subscriptTail value slice v u) (EP X pins σ Q) X.xe s
def MtR (X:Cx) (id:String) (r:V->List V->Hp->VK->Prop):Prop:=
 ∀ (pins:List (Addr × Obj)) (s:Shared) (σ:St) (H:Hp) (x:V) (xs:List V) (v:Value) (us:List Value) (Q:VK),Inv X pins σ H s->RelV x v->Vals xs us->r x xs H Q ->
  wpAny (model X.prog X.w) X.A (call (.builtin id) (v::us)) (EP X pins σ Q) X.xe s
section
variable {X:Cx}{a b:Expr}{ta tb:TE}{pos:Pos}
theorem IxR.or {r r':R2} (h:IxR X r) (h':IxR X r'):IxR X (fun x y H Q=>r x y H Q\/r' x y H Q):=by
 intro value slice pins s σ H x y v u Q I rx ry q hs
 rcases q with q | q
 ·exact h value slice pins s σ H x y v u Q I rx ry q hs
 ·exact h' value slice pins s σ H x y v u Q I rx ry q hs
theorem Qb8 {r:R2} (hr:IxR X r) (ha:PE X a ta) (hb:PE X b tb) (hs:PlainIx b):PE X (.Subscript a b pos) (tOp r ta tb):=by
 intro pins s σ H Q I h
 exact Subscript_ (binT ha hb I h fun v u s2 x y H2 I2 rx ry q=>hr a b pins s2 σ H2 x y v u Q I2 rx ry q (hs _ _))
def rIxL (K:PySem.W.Frag):R2:=fun x y H Q=>∃ p xs i v,x=.ref p/\y=.int i/\SqL K H p xs/\atI xs i=some v/\Q v H
def rIxT (K:PySem.W.Frag):R2:=fun x y H Q=>∃ p xs i v,x=.ref p/\y=.int i/\SqT K H p xs/\atI xs i=some v/\Q v H
def rIxS:R2:=fun x y H Q=>∃ z i c,x=.str z/\y=.int i/\z.length<=sizeLine/\atI z.cps.toList i=some c/\Q (.str ⟨#[c]⟩) H
theorem Qb9:IxR X (rIxL X.K):=by
 intro value slice pins s σ H x y v u Q I rx ry h hs
 obtain⟨p,xs,i,z,rfl,rfl,hq,he,q⟩:=h
 cases rx
 obtain⟨t,rfl⟩:=ry
 obtain⟨its,r,pl,hz⟩:=I.list hq
 obtain⟨j,h1,h2,h3,h4,h5⟩:=Qb7 he
 obtain⟨w,ew,rw'⟩:=r.get h2
 have hl:=r.length
 have hn:=Qbr
 have fin:EP X pins σ Q w s:=⟨z,H,I,rw',q⟩
 by_cases h0:0<=i
 ·have hj : i.toNat = j := by
    rw[seqIndex_of h0 h5]at h1
    exact Option.some.inj h1
  exact item_listR pl.isList h0 (by ac_nf) (by rw[hj];simpa using ew) fin hs
 ·have hj : (i + (its.toArray.size : Int)).toNat = j := by
    rw[seqIndex_neg (by ac_nf) h4]at h1
    rw[List.size_toArray,<- hl]
    exact Option.some.inj h1
  exact subscriptTail_builtinR (x:=w) pl.isList.typeIs slot_list_getitem.lookup
   (wpAny_getItem_list_neg (Q:=fun r s'=>r=w/\EP X pins σ Q r s') pl.isList (by ac_nf) (by rw[List.size_toArray]<;>ac_nf) (by ac_nf) (by rw[hj];simpa using ew) ⟨rfl,fin⟩) hs
theorem Qca:IxR X (rIxT X.K):=by
 intro value slice pins s σ H x y v u Q I rx ry h hs
 obtain⟨p,xs,i,z,rfl,rfl,hq,he,q⟩:=h
 cases rx
 obtain⟨t,rfl⟩:=ry
 obtain⟨its,r,pl,hz⟩:=I.tuple hq
 obtain⟨j,h1,h2,h3,h4,h5⟩:=Qb7 he
 obtain⟨w,ew,rw'⟩:=r.get h2
 have hl:=r.length
 have hn:=Qbr
 have fin:EP X pins σ Q w s:=⟨z,H,I,rw',q⟩
 exact subscriptTail_builtinR (x:=w) pl.typeIs slot_tuple_getitem.lookup
  (getItem_tuple (j:=j) (Q:=fun r s'=>r=w/\EP X pins σ Q r s') pl (by ac_nf) (by ac_nf) (by rw[List.size_toArray,<- hl];exact h1) (by simpa using ew) ⟨rfl,fin⟩) hs
theorem Qcb:IxR X rIxS:=by
 intro value slice pins s σ H x y v u Q I rx ry h hs
 obtain⟨z,i,c,rfl,rfl,hz,he,q⟩:=h
 obtain⟨t,rfl⟩:=rx
 obtain⟨t',rfl⟩:=ry
 obtain⟨j,h1,h2,h3,h4,h5⟩:=Qb7 he
 have hl:z.cps.toList.length=z.length:=by simp[Str.length]
 rw[hl]at h1 h4 h5
 have hn:=Qbr
 exact tail_any (typeIs_str s z t) slot_str_getitem.lookup (getItem_str (c:=c) (by
  have e1:decide (i < -(2 ^ 63:Int))=false:=decide_eq_false (by ac_nf)
  have e2:decide (i ≥ 2 ^ 63)=false:=decide_eq_false (by ac_nf)
  rw[e1,e2,Bool.or_false]) (by rw[h1];simpa using h2) ⟨.str ⟨#[c]⟩,H,I.tok _,⟨_,rfl⟩,q⟩) hs
def rIx (K:PySem.W.Frag):R2:=fun x y H Q=>rIxL K x y H Q\/rIxT K x y H Q\/rIxS x y H Q
theorem Qcc:IxR X (rIx X.K):=Qb9.or (Qca.or Qcb)
theorem Qcd (its:List Value) (n j:Nat) (u:Value):Obj.mapSeq (·.setIfInBounds j u) { cls:=.type "list",data:=.seq its.toArray n }={ cls:=.type "list",data:=.seq (its.set j u).toArray n }:=by
 simp[Obj.mapSeq]
theorem Inv.lst {pins : List (Addr × Obj)} {σ : St} {H : Hp} {s : Shared} {p : Addr} {xs : List V} (I : Inv X pins σ H s) (h : H p = some (.lst xs)) :
  ∃ (its:List Value) (n:Nat),Vals xs its/\s.heap.get? p=some { cls:=.type "list",data:=.seq its.toArray n }/\xs.length<=sizeLine:=by
 obtain⟨z,its,n,r,e⟩:=I.hok p _ h
 exact⟨its,n,r,e,z⟩
theorem Inv.lstUpd {pins : List (Addr × Obj)} {σ : St} {H : Hp} {s : Shared} {p : Addr} {xs ys : List V} {its its' : List Value} {n n' : Nat} {f : Obj -> Obj} (I : Inv X pins σ H s) (h : H p = some (.lst xs))
  (ho:s.heap.get? p=some { cls:=.type "list",data:=.seq its.toArray n }) (hf:f { cls:=.type "list",data:=.seq its.toArray n }={ cls:=.type "list",data:=.seq its'.toArray n' }) (r:Vals ys its') (hz:ys.length<=sizeLine) (t:Nat):
  Inv X pins σ (upd H p (.lst ys)) { s with heap:=s.heap.update p f,toks:=t }:=by
 have e:(s.heap.update p f).get? p=some { cls:=.type "list",data:=.seq its'.toArray n' }:=by
  rw[Heap.get?_update_self f ho (by rw[hf]<;>rfl),hf]
 refine I.write (x:=p) (e:=p) (by rw[h];trivial) (.inl rfl) (fun b u hb q=>(Heap.get?_update_other _ _ (Ne.symm hb)).trans q) ⟨_,e⟩ ?_
 exact⟨hz,its',n',r,e⟩
def rSetL:V->V->V->Hp->(Hp->Prop)->Prop:=fun o i v H Q=>∃ p xs k j,o=.ref p/\i=.int k/\H p=some (.lst xs)/\ixN xs.length k=some j/\Q (upd H p (.lst (xs.set j v)))
theorem Qce:PSet X rSetL:=by
 intro pins s σ H o i v ov iv u Q I ro ri rv h
 obtain⟨p,xs,k,j,rfl,rfl,hp,hj,q⟩:=h
 cases ro
 obtain⟨t,rfl⟩:=ri
 obtain⟨its,n,r,ho,hz⟩:=I.lst hp
 obtain⟨h1,h2,h3,h4⟩:=Qb6 hj
 have hl:=r.length
 have hn:=Qbr
 have I':Inv X pins σ (upd H p (.lst (xs.set j v))) { s with heap:=s.heap.update p (Obj.mapSeq (·.setIfInBounds j u)) }:=
  I.lstUpd hp ho (Qcd its n j u) (r.set rv j) (by rw[List.length_set];exact hz) s.toks
 by_cases h0:0<=k
 ·have hk : k.toNat = j := by
    rw[seqIndex_of h0 h4]at h1
    exact Option.some.inj h1
  exact PySem.W.ki_setAt ho h0 (by ac_nf) (by rw[List.size_toArray,<- hl];exact h4) (by rw[hk];exact⟨_,I',q⟩)
 ·have hk : (k + (its.toArray.size : Int)).toNat = j := by
    rw[seqIndex_neg (by ac_nf) h3]at h1
    rw[List.size_toArray,<- hl]
    exact Option.some.inj h1
  exact PySem.W.ki_setBack ho (by ac_nf) (by rw[List.size_toArray,<- hl];exact h3) (by ac_nf) (by rw[hk];exact⟨_,I',q⟩)
theorem Qcf (lo hi:Option Int) (n:Nat):(sliceBounds lo hi none n).1=((HT.sIx n 0 lo:Nat):Int)/\(sliceBounds lo hi none n).2.1=((HT.sIx n n hi:Nat):Int)/\(sliceBounds lo hi none n).2.2=1:=by
 refine⟨?_,?_,rfl⟩
 ·cases lo with
  | none=>simp[sliceBounds,HT.sIx]
  | some i=>
   simp only[sliceBounds,HT.sIx,Option.getD_none,show (1:Int) > 0 by decide,if_true]
   by_cases h:i < 0
   ·simp only[h,if_true]<;>ac_nf
   ·simp only[h,if_false]<;>ac_nf
 ·cases hi with
  | none=>simp[sliceBounds,HT.sIx]
  | some i=>
   simp only[sliceBounds,HT.sIx,Option.getD_none,show (1:Int) > 0 by decide,if_true]
   by_cases h:i < 0
   ·simp only[h,if_true]<;>ac_nf
   ·simp only[h,if_false]<;>ac_nf
theorem Qcg (its:List Value) (lo hi:Option Int):slicePick its.toArray lo hi none=((its.drop (HT.sIx its.length 0 lo)).take (HT.sIx its.length its.length hi - HT.sIx its.length 0 lo)).toArray:=by
 obtain⟨h1,h2,h3⟩:=Qcf lo hi its.toArray.size
 unfold slicePick
 rw[h1,h2,h3]
 simp only[sliceRange_one,pick_run,List.size_toArray]<;>rfl
def rSlL (K:PySem.W.Frag):V->Option Int->Option Int->Hp->VK->Prop:=fun x lo hi H Q=>∃ a xs,x=.ref a/\SqL K H a xs/\∀ p,H p=none->Q (.ref p) (upd H p (.lst (cutV xs lo hi)))
theorem Qch:SlR X (rSlL X.K):=by
 intro pins s σ H x v vl vu lo hi sl Q I rx hs pl pu h
 obtain⟨a,xs,rfl,hx,q⟩:=h
 cases rx
 obtain⟨its,r,ht,hz⟩:=I.list hx
 have hlen:=r.length
 refine⟨"list",_,slot_list_getitem.lookup,ht.isList.typeIs,?_⟩
 refine wpAny_getItem_list_slice ht.isList hs pl pu .none (by simp) ?_ (by rw[List.size_toArray]<;>ac_nf)
 rw[Qcg,<- hlen]
 refine⟨.ref s.heap.objs.size,_,I.laid (t':=s.toks) (o:=.lst (cutV xs lo hi)) (fun b ob q=>Heap.get?_push_of_some _ q) (Nat.le_refl _) ?_,rfl,q _ (I.hok.fresh (Nat.le_refl _))⟩
 exact⟨Nat.le_trans (Qb3 xs lo hi) hz,_,0,(r.drop (HT.sIx xs.length 0 lo)).take (HT.sIx xs.length xs.length hi - HT.sIx xs.length 0 lo),Heap.get?_push_size _ rfl⟩
def flatV:V->Bool
 | .non=>true
 | .bl _=>true
 | .int _=>true
 | .str _=>true
 | _=>false
def eqV:V->V->Bool
 | .non,.non=>true
 | .bl a,.bl b=>a == b
 | .bl a,.int b=>(if a then 1 else 0) == b
 | .int a,.bl b=>a == (if b then 1 else 0)
 | .int a,.int b=>a == b
 | .str a,.str b=>a == b
 | _,_=>false
theorem Qci {A:Around}{s:Shared}{y x:V}{u v:Value} (ry:RelV y u) (rx:RelV x v) (fy:flatV y=true) (fx:flatV x=true):SeqAt.EqAt A s u v (eqV y x):=by
 cases y with
 | non=>
  cases ry
  cases x with
  | non=>cases rx;exact SeqAt.EqAt.same _
  | bl b=>cases rx;exact SeqAt.EqAt.none_bool b
  | int b=>obtain⟨t,rfl⟩:=rx;exact SeqAt.EqAt.none_int b t
  | str b=>obtain⟨t,rfl⟩:=rx;exact SeqAt.EqAt.none_str b t
  | _=>exact absurd (show false=true from fx) Bool.false_ne_true
 | bl a=>
  cases ry
  cases x with
  | non=>cases rx;exact SeqAt.EqAt.bool_none a
  | bl b=>cases rx;exact SeqAt.EqAt.bool_bool a b
  | int b=>obtain⟨t,rfl⟩:=rx;exact SeqAt.EqAt.bool_int a b t
  | str b=>obtain⟨t,rfl⟩:=rx;exact SeqAt.EqAt.bool_str a b t
  | _=>exact absurd (show false=true from fx) Bool.false_ne_true
 | int a=>
  obtain⟨t',rfl⟩:=ry
  cases x with
  | non=>cases rx;exact SeqAt.EqAt.int_none a t'
  | bl b=>cases rx;exact SeqAt.EqAt.int_bool a t' b
  | int b=>obtain⟨t,rfl⟩:=rx;exact SeqAt.EqAt.int_int a t' b t
  | str b=>obtain⟨t,rfl⟩:=rx;exact SeqAt.EqAt.int_str a t' b t
  | _=>exact absurd (show false=true from fx) Bool.false_ne_true
 | str a=>
  obtain⟨t',rfl⟩:=ry
  cases x with
  | non=>cases rx;exact SeqAt.EqAt.str_none a t'
  | bl b=>cases rx;exact SeqAt.EqAt.str_bool a t' b
  | int b=>obtain⟨t,rfl⟩:=rx;exact SeqAt.EqAt.str_int a t' b t
  | str b=>obtain⟨t,rfl⟩:=rx;exact SeqAt.EqAt.str_str a t' b t
  | _=>exact absurd (show false=true from fx) Bool.false_ne_true
 | _=>exact absurd (show false=true from fy) Bool.false_ne_true
def eqU (x:V) (u:Value):Bool:=match u with
 | .none=>eqV .non x
 | .bool b=>eqV (.bl b) x
 | .int i _=>eqV (.int i) x
 | .str z _=>eqV (.str z) x
 | _=>false
theorem Qcj {x y:V}{u:Value} (r:RelV y u) (f:flatV y=true):eqU x u=eqV y x:=by
 cases y with
 | non=>cases r;rfl
 | bl b=>cases r;rfl
 | int i=>obtain⟨t,rfl⟩:=r;rfl
 | str z=>obtain⟨t,rfl⟩:=r;rfl
 | _=>exact absurd (show false=true from f) Bool.false_ne_true
theorem Qck {x:V}:∀ {xs:List V}{us:List Value},Vals xs us->xs.all flatV=true->us.any (eqU x)=xs.any fun y=>eqV y x
 | _,_,.nil,_=>rfl
 | y::xs,u::us,.cons r t,f=>by
  rw[List.all_cons,Bool.and_eq_true]at f
  rw[List.any_cons,List.any_cons,Qcj r f.1,Qck t f.2]
theorem Qcl {A:Around}{s:Shared}{x:V}{v:Value} (rx:RelV x v) (fx:flatV x=true):∀ {xs:List V}{us:List Value},Vals xs us->xs.all flatV=true->∀ u∈us,SeqAt.EqAt A s u v (eqU x u)
 | _,_,.nil,_=>fun u hu=>by cases hu
 | y::xs,u::us,.cons r t,f=>fun u' hu=>by
  rw[List.all_cons,Bool.and_eq_true]at f
  rcases List.mem_cons.mp hu with rfl | hu
  ·rw[Qcj r f.1];exact Qci r rx f.1 fx
  ·exact Qcl rx fx t f.2 u' hu
def inV (x:V) (xs:List V):Bool:=xs.any fun y=>eqV y x
def rIn (K:PySem.W.Frag) (neg:Bool):R2:=fun x y H Q=>∃ p xs,y=.ref p/\(SqL K H p xs\/SqT K H p xs)/\flatV x=true/\xs.all flatV=true/\Q (.bl (if neg then !inV x xs else inV x xs)) H
theorem Qcm:OpR X (compareOp .In) (rIn X.K false):=by
 intro pins s σ H x y v u Q I rx ry h
 obtain⟨p,xs,rfl,hq,fx,fs,q⟩:=h
 cases ry
 rcases hq with hq | hq
 ·obtain⟨its,r,pl,hz⟩:=I.list hq
  refine SeqAt.in_listAt (eqU x) pl.isList (fun w hw=>Qcl rx fx r fs w (by simpa using hw)) ⟨.bl _,H,I,rfl,?_⟩
  rw[show its.toArray.any (eqU x)=its.any (eqU x) by simp,Qck r fs]
  exact q
 ·obtain⟨its,r,pl,hz⟩:=I.tuple hq
  refine SeqAt.in_tupleAt (eqU x) pl (fun w hw=>Qcl rx fx r fs w (by simpa using hw)) ⟨.bl _,H,I,rfl,?_⟩
  rw[show its.toArray.any (eqU x)=its.any (eqU x) by simp,Qck r fs]
  exact q
theorem Qcn:CallR X (.builtin "len") (fun xs H Q=>∃ p ys,xs=[.ref p]/\(SqL X.K H p ys\/SqT X.K H p ys)/\Q (.int ys.length) H):=by
 intro pins s σ H xs us Q I r h
 obtain⟨p,ys,rfl,hq,q⟩:=h
 obtain⟨u,rfl,rx⟩:=Qbv r
 cases rx
 have hn:=Qbr
 rcases hq with hq | hq
 ·obtain⟨its,r',pl,hz⟩:=I.list hq
  have hlen:=r'.length
  exact Calls.call_len_list pl.isList (by simp only[List.size_toArray]<;>ac_nf) ⟨.int ys.length,H,I.tok _,⟨s.toks + 1,by rw[List.size_toArray,hlen]⟩,q⟩
 ·obtain⟨its,r',pl,hz⟩:=I.tuple hq
  have hlen:=r'.length
  exact len_tuple pl (by simp only[List.size_toArray]<;>ac_nf) ⟨.int ys.length,H,I.tok _,⟨s.toks + 1,by rw[List.size_toArray,hlen]⟩,q⟩
theorem Qco:CallR X (.builtin "len") (fun xs H Q=>∃ z,xs=[.str z]/\z.length<=sizeLine/\Q (.int z.length) H):=by
 intro pins s σ H xs us Q I r h
 obtain⟨z,rfl,hz,q⟩:=h
 obtain⟨u,rfl,t,rfl⟩:=Qbv r
 have hn:=Qbr
 exact len_str (by ac_nf) ⟨.int z.length,H,I.tok _,⟨_,rfl⟩,q⟩
theorem CallR.or {f:Value}{r r':List V->Hp->VK->Prop} (h:CallR X f r) (h':CallR X f r'):CallR X f (fun xs H Q=>r xs H Q\/r' xs H Q):=by
 intro pins s σ H xs us Q I rs q
 rcases q with q | q
 ·exact h pins s σ H xs us Q I rs q
 ·exact h' pins s σ H xs us Q I rs q
theorem Qcp:CallR X (.type "list") (fun xs H Q=>∃ p ys,xs=[.ref p]/\(SqL X.K H p ys\/SqT X.K H p ys)/\∀ l,H l=none->Q (.ref l) (upd H l (.lst ys))):=by
 intro pins s σ H xs us Q I r h
 obtain⟨p,ys,rfl,hq,q⟩:=h
 obtain⟨u,rfl,rx⟩:=Qbv r
 cases rx
 have fin : ∀ (its : List Value), Vals ys its -> ys.length <= sizeLine -> ∀ (h' : Heap) (c' : Nat), (∀ b o', s.heap.get? b = some o' -> h'.get? b = some o') ->
   h'.get? s.heap.objs.size=some { cls:=.type "list",dict:=none,data:=.seq its.toArray c',slots:=#[] }->EP X pins σ Q (.ref s.heap.objs.size) { s with heap:=h' }:=fun its r' hz h' c' kp e=>
  ⟨.ref s.heap.objs.size,_,I.laid (t':=s.toks) kp (Nat.le_refl _) (show ObjOk X.prog X.w _ h' _ (.lst ys) from ⟨hz,its,c',r',e⟩),rfl,q _ (I.hok.fresh (Nat.le_refl _))⟩
 rcases hq with hq | hq
 ·obtain⟨its,r',pl,hz⟩:=I.list hq
  have hlen:=r'.length
  obtain⟨o,ho,hc,n,hd⟩:=pl.isList
  exact call_list_seq p (.inl rfl) ho hc hd (fun h' c' kp e=>fin its r' hz h' c' kp e) (by simp only[List.size_toArray]<;>ac_nf)
 ·obtain⟨its,r',pl,hz⟩:=I.tuple hq
  have hlen:=r'.length
  obtain⟨o,ho,hc,n,hd⟩:=pl
  exact call_list_seq p (.inr rfl) ho hc hd (fun h' c' kp e=>fin its r' hz h' c' kp e) (by simp only[List.size_toArray]<;>ac_nf)
theorem Qcq:CallR X (.type "tuple") (fun xs H Q=>∃ p ys,xs=[.ref p]/\((SqL X.K H p ys/\∀ l,H l=none->Q (.ref l) (upd H l (.tup ys)))\/(SqT X.K H p ys/\Q (.ref p) H))):=by
 intro pins s σ H xs us Q I r h
 obtain⟨p,ys,rfl,h⟩:=h
 obtain⟨u,rfl,rx⟩:=Qbv r
 cases rx
 rcases h with ⟨hq,q⟩ | ⟨hq,q⟩
 ·obtain⟨its,r',pl,hz⟩:=I.list hq
  have hlen:=r'.length
  refine call_tuple_list pl.isList (fun h' kp=>?_) (by simp only[List.size_toArray]<;>ac_nf)
  have I1:Inv X pins σ H { s with heap:=h' }:=I.kept (t':=s.toks) kp
  have I2:Inv X pins σ (upd H h'.objs.size (.tup ys)) { s with heap:=h'.push { cls:=.type "tuple",data:=.seq its.toArray } }:=
   I1.laid (t':=s.toks) (fun b o e=>Heap.get?_push_of_some _ e) (Nat.le_refl _) (show ObjOk X.prog X.w _ _ _ (.tup ys) from ⟨hz,its,r',IsTupD.new _ _⟩)
  exact⟨.ref h'.objs.size,_,I2,rfl,q _ (I1.hok.fresh (Nat.le_refl _))⟩
 ·obtain⟨its,r',pl,hz⟩:=I.tuple hq
  exact call_tuple_same pl ⟨.ref p,H,I,rfl,q⟩
def tyV (K:PySem.W.Frag) (T:String) (x:V) (H:Hp):Prop:=match x with
 | .str _=>T="str"
 | .int _=>T="int"
 | .ref p => (T = "list" /\ ∃ xs, SqL K H p xs) \/ (T = "tuple" /\ ∃ o, K.lookup p = some o /\ o.cls = .type "tuple" /\ o.dict = none) \/
   (T="dict"/\((∃ kvs,H p=some (.dK kvs))\/∃ kvs,H p=some (.dT kvs)))\/(T="set"/\∃ S n,H p=some (.set S n))
 | _=>False
theorem Qcr {pins : List (Addr × Obj)} {σ : St} {H : Hp} {s : Shared} {T : String} {x : V} {v : Value} (I : Inv X pins σ H s) (r : RelV x v) (ty : tyV X.K T x H) :
  s.TypeIs v T/\∀ a,v=.ref a->∃ ob,s.heap.get? a=some ob/\ob.dict=none:=by
 cases x with
 | str z=>
  obtain⟨t,rfl⟩:=r
  cases (show T="str" from ty)
  exact⟨typeIs_str s z t,fun _ e=>nomatch e⟩
 | int i=>
  obtain⟨t,rfl⟩:=r
  cases (show T="int" from ty)
  exact⟨typeIs_int s i t,fun _ e=>nomatch e⟩
 | ref p=>
  cases r
  rcases ty with ⟨rfl,xs,hq⟩ | ⟨rfl,o,hk,hc,hd⟩ | ⟨rfl,hk⟩ | ⟨rfl,S,n,hk⟩
  ·obtain⟨its,_,pl,_⟩:=I.list hq
   refine⟨pl.isList.typeIs,fun a e=>?_⟩
   cases e
   obtain⟨o,n,e,c,hd,_⟩:=pl
   exact⟨o,e,hd⟩
  ·refine⟨⟨o,I.kIn p o hk,hc⟩,fun a e=>?_⟩
   cases e
   exact⟨o,I.kIn _ o hk,hd⟩
  ·have z : ∃ o, s.heap.get? p = some o /\ o.ExactDict := by
     rcases hk with ⟨kvs,hk⟩ | ⟨kvs,hk⟩
     ·obtain⟨_,_,_,_,o,_,_,e,ex,_⟩:=I.hok p _ hk
      exact⟨o,e,ex⟩
     ·obtain⟨_,_,_,_,o,_,_,e,ex,_⟩:=I.hok p _ hk
      exact⟨o,e,ex⟩
   obtain⟨o,e,ex⟩:=z
   refine⟨⟨o,e,ex.1⟩,fun a e2=>?_⟩
   cases e2
   exact⟨o,e,ex.2.1⟩
  ·obtain⟨o,_,_,_,e,ex,_⟩:=I.hok p _ hk
   refine⟨⟨o,e,ex.1⟩,fun a e2=>?_⟩
   cases e2
   exact⟨o,e,ex.2.1⟩
 | _=>exact False.elim ty
def tBM (K:PySem.W.Frag) (T:String) (r:V->List V->Hp->VK->Prop) (to:TE) (t:TA):TE:=fun σ H Q=>to σ H fun x H1=>tyV K T x H1/\t σ H1 fun xs H2=>r x xs H2 Q
variable {o e:Expr}{es:List Expr}{to:TE}{t:TA}{name:Str}{apos cpos:Pos}{T id:String}{r:V->List V->Hp->VK->Prop}
theorem Qcs (pa : PlainAttrs T) (slot : Slot T name id) (hty : typeOf (.builtin id) = pure (.type "method_descriptor")) (hm : MtR X id r) (ho : PE X o to) (ha : PA X (e :: es) t)
  (hbase:attributeBase o name X.env (eval o X.env)=eval o X.env:=by rfl)
  (hfew:((backTo cpos (starEach (e::es) X.env)).all (fun x => !x.1) && (backToKw cpos (keywordEach [] X.env)).all (fun x=>x.1.isSome)
   && decide ((e::es).length + ([]:List Keyword).length + (if ([]:List Keyword).isEmpty then 0 else 1) < 30))=true:=by rfl)
  (hline:(apos.endLine == cpos.line)=true:=by rfl) (hs:starEach (e::es) X.env=(false,eval e X.env)::starEach es X.env:=by rfl) (hplain:(backTo cpos (starEach es X.env)).any (·.1)=false:=by rfl):
  PE X (.Call (.Attribute o name apos) (e::es) [] cpos) (tBM X.K T r to t):=by
 intro pins s σ H Q I h
 refine wpAny_Call_method_late hbase hfew hline rfl (thn (ho pins s σ H _ I h) fun v s1 pq39=>?_)
 obtain⟨x,H1,I1,r1,ty,q1⟩:=pq39
 obtain⟨h1,h2⟩:=Qcr I1 r1 ty
 refine⟨T,id,pa,slot,hty,h1,h2,?_⟩
 have hA:=ha cpos pins s1 σ H1 _ I1 q1
 rw[hs]at hA ⊢
 refine Calls.callWith_builtin (by show (false || (backTo cpos (starEach es X.env)).any (·.1))=false;rw[hplain]<;>rfl) (Calls.evalArgs_plain ?_)
 exact thn hA fun us s2 pq40=>by obtain⟨vs,H2,I2,r2,q2⟩:=pq40;exact hm pins s2 σ H2 x vs v us Q I2 r1 r2 q2
end
def MtM (X:Cx) (id:String) (r:V->List V->Hp->VK->Prop):Prop:=
 ∀ (pins:List (Addr × Obj)) (s:Shared) (σ:St) (H:Hp) (x:V) (xs:List V) (v:Value) (us:List Value) (Q:VK),Inv X pins σ H s->RelV x v->Vals xs us->r x xs H Q ->
  wpAny (model X.prog X.w) X.A (call (.builtin id) (v::us)) (EP X pins σ Q) X.xe s
theorem Vals.one {x:V}{us:List Value} (h:Vals [x] us):∃ u,us=[u]/\RelV x u:=by
 cases h with
 | cons r h=>cases h;exact⟨_,rfl,r⟩
theorem Vals.rep {xs:List V}{us:List Value} (h:Vals xs us):∀ k:Nat,Vals (List.replicate k xs).flatten (List.replicate k us).flatten
 | 0=>.nil
 | k + 1=>by
  rw[List.replicate_succ,List.replicate_succ,List.flatten_cons,List.flatten_cons]
  exact Vals.append h (Vals.rep h k)
section
variable {X:Cx}{pins:List (Addr × Obj)}{σ:St}{H:Hp}{s:Shared}{l b:Addr}{xs ys zs:List V}
theorem Inv.lset {its its' : List Value} {n : Nat} {f : Array Value -> Array Value} {t' : Nat} (I : Inv X pins σ H s) (hH : H l = some (.lst xs))
  (e:s.heap.get? l=some { cls:=.type "list",data:=.seq its.toArray n }) (hf:f its.toArray=its'.toArray) (hv:Vals ys its') (hz:ys.length<=sizeLine):
  Inv X pins σ (upd H l (.lst ys)) { s with heap:=s.heap.update l (Obj.mapSeq f),toks:=t' }:=by
 have q:=PySem.IsL.update e f
 rw[hf]at q
 refine I.write (x:=l) (e:=l) (by rw[hH];exact trivial) (.inl rfl) (fun b' u hb hu=>(Heap.get?_update_other s.heap (Obj.mapSeq f) (Ne.symm hb)).trans hu) ⟨_,q⟩ ?_
 exact⟨hz,its',_,hv,q⟩
theorem Inv.lnew {its : List Value} {t' : Nat} (I : Inv X pins σ H s) (hv : Vals ys its) (hz : ys.length <= sizeLine) :
  Inv X pins σ (upd H s.heap.objs.size (.lst ys)) { s with heap:=s.heap.push { cls:=.type "list",data:=.seq its.toArray },toks:=t' }:=
 I.laid (fun _ _ q=>Heap.get?_push_of_some _ q) (Nat.le_refl _) ⟨hz,its,0,hv,Heap.get?_push_size _ rfl⟩
theorem Inv.fresh (I:Inv X pins σ H s):H s.heap.objs.size=none:=I.hok.fresh (Nat.le_refl _)
theorem Inv.lstM (I:Inv X pins σ H s) (hH:H l=some (.lst xs)):xs.length<=sizeLine/\∃ (its:List Value) (n:Nat),Vals xs its/\xs.length=its.length/\s.heap.get? l=some { cls:=.type "list",data:=.seq its.toArray n }:=by
 obtain⟨z,its,n,r,e⟩:=I.hok l _ hH
 exact⟨z,its,n,r,r.length,e⟩
theorem Qct {n:Nat} (h:n<=sizeLine):Builtin.List.listTooLong n=false:=by
 unfold Builtin.List.listTooLong
 exact decide_eq_false (by ac_nf)
end
section
variable {X:Cx}
def rAppend:V->List V->Hp->VK->Prop:=fun x vs H Q=>∃ l xs y,x=.ref l/\vs=[y]/\H l=some (.lst xs)/\xs.length < sizeLine/\Q .non (upd H l (.lst (xs++[y])))
theorem Qcu:MtM X "list.append" rAppend:=by
 intro pins s σ H x vs v us Q I rx rv h
 obtain⟨l,xs,y,rfl,rfl,hH,hz,q⟩:=h
 cases rx
 obtain⟨u,rfl,ru⟩:=rv.one
 obtain⟨z,its,n,r,hl,e⟩:=I.lstM hH
 refine call_meets F.slot_list_append ⟨_,e,rfl⟩ F.entry_list_append (F.args_list_append_2 _ _) (PySem.list_append l its.toArray n u (by rw[List.size_toArray];ac_nf)) ⟨e,?_⟩
 refine⟨.non,_,I.lset (its':=its++[u]) hH e (by simp) (r.append (.cons ru .nil)) ?_,rfl,q⟩
 rw[List.length_append,List.length_singleton]
 ac_nf
def rExtend:V->List V->Hp->VK->Prop:=fun x vs H Q=>∃ l b xs zs,x=.ref l/\vs=[.ref b]/\H l=some (.lst xs)/\H b=some (.lst zs)/\xs.length + zs.length<=sizeLine/\Q .non (upd H l (.lst (xs++zs)))
theorem Qcv:MtM X "list.extend" rExtend:=by
 intro pins s σ H x vs v us Q I rx rv h
 obtain⟨l,b,xs,zs,rfl,rfl,hH,hB,hz,q⟩:=h
 cases rx
 obtain⟨u,rfl,ru⟩:=rv.one
 cases ru
 obtain⟨z,its,n,r,hl,e⟩:=I.lstM hH
 obtain⟨z2,its2,n2,r2,hl2,e2⟩:=I.lstM hB
 have hsz:its.toArray.size + its2.toArray.size<=sizeLine:=by rw[List.size_toArray,List.size_toArray];ac_nf
 have hlong:¬ (!its.toArray.isEmpty && Builtin.List.listTooLong (its.toArray.size + its2.toArray.size))=true:=by
  rw[Qct hsz,Bool.and_false]
  exact Bool.false_ne_true
 refine call_meets F.slot_list_extend ⟨_,e,rfl⟩ F.entry_list_extend (F.args_list_extend_2 _ _)
  (AutoSeq1.list_extend_list_list_0 l its.toArray n b its2.toArray n2 hlong (by rw[List.size_toArray];ac_nf) (by ac_nf)) ⟨e,e2,?_⟩
 refine⟨.non,_,I.lset (its':=its++its2) hH e (by simp) (r.append r2) ?_,rfl,q⟩
 rw[List.length_append]
 ac_nf
def rCat:R2:=fun x y H Q=>∃ l b xs zs,x=.ref l/\y=.ref b/\H l=some (.lst xs)/\H b=some (.lst zs)/\xs.length + zs.length<=sizeLine/\∀ p,H p=none->Q (.ref p) (upd H p (.lst (xs++zs)))
theorem Qcw:OpR X (binaryOp .Add) rCat:=by
 intro pins s σ H x y v u Q I rx ry h
 obtain⟨l,b,xs,zs,rfl,rfl,hH,hB,hz,q⟩:=h
 cases rx
 cases ry
 obtain⟨z,its,n,r,hl,e⟩:=I.lstM hH
 obtain⟨z2,its2,n2,r2,hl2,e2⟩:=I.lstM hB
 refine PySem.P.add_list e e2 ?_ (by rw[List.size_toArray,List.size_toArray];ac_nf)
 have ea:its.toArray++its2.toArray=(its++its2).toArray:=by simp
 rw[ea]
 exact⟨.ref _,_,I.lnew (t':=s.toks) (r.append r2) (by rw[List.length_append];ac_nf),rfl,q _ I.fresh⟩
end
section
variable {prog:Program}{w:World}{A:Around}{E:Value->Shared->Prop}{s:Shared}
theorem Qcx {a c n:Nat} (hac:a<=c) (hc:c<=n):sliceBounds (some (a:Int)) (some (c:Int)) none n=((a:Int),(c:Int),1):=by
 simp only[sliceBounds,Option.getD_none]
 have h1:¬ ((a:Int) < 0):=by ac_nf
 have h2:¬ ((c:Int) < 0):=by ac_nf
 simp only[h1,h2,if_false,show (1:Int) > 0 by decide,if_true]
 congr 1
 ·ac_nf
 ·congr 1;ac_nf
end
end L2
namespace Att
open PySem PySem.W PySem.Calls PyProof.Rows
theorem Qcz {P:Params}{h:Heap}:∀ (ns:List Int) (vs:List Value),WellAll P h vs (ns.map WData.int)->IntsAre vs ns:=by
 intro ns
 induction ns with
 | nil=>
  intro vs w
  rw[List.map_nil]at w
  cases w
  exact .nil
 | cons n ns ih=>
  intro vs w
  rw[List.map_cons]at w
  cases w with
  | cons a b=>
   cases a
   exact .cons _ _ (ih _ b)
theorem QcA {l : OpenLaw} {n : Nat} (hn : l.most = some n) {P : Params} {h : Heap} {args : List WData} {vals : List Value}
  (hpre:l.row.toRowW.claim.pre args=true) (hwl:WellAll P h vals args):
  ∃ a vs ns,vals=[Value.ref a]/\args=[WData.list (ns.map WData.int)]/\h.get? a=some { cls:=.type "list",data:=.seq vs.toArray }/\IntsAre vs ns/\ns.length<=n:=by
 have hsh:WShape.hasAll [] args [.list .int]=true:=(pre_splitW hpre).1
 have hc:l.pre.holds [] { args:=args }=true:=(pre_splitW hpre).2
 obtain⟨d,r,rfl,h1,h2⟩:=hasAllW_cons hsh
 obtain rfl:=hasAllW_nil h2
 obtain⟨xs,rfl,h3⟩:=hasW_list h1
 obtain⟨ns,rfl⟩:=items_int h3
 have hlen:ns.length<=n:=by
  unfold OpenLaw.pre at hc
  have h4:(WTm.not (.lt (.lit (.int (n:Int))) (.len (.arg 0)))).holds [] { args:=[.list (ns.map .int)] }=true:=by
   have h4:=(holds_andW hc).1
   rw[hn]at h4
   exact h4
  have h5:=condW_of h4 (w_not (w_lt w_lit (w_len_list (w_arg rfl))))
  rw[List.length_map]at h5
  refine Nat.le_of_not_lt fun q=>?_
  have q':(n:Int) < ((ns.length:Nat):Int):=by ac_nf
  first
   | (rw[decide_eq_true q']at h5;exact absurd h5 (by decide))
   | (simp at h5;ac_nf)
 cases hwl with
 | cons w1 w2=>
  cases w2
  cases w1 with
  | list ho hall=>exact⟨_,_,ns,rfl,rfl,ho,Qcz ns _ hall,hlen⟩
theorem QcB (l:OpenLaw) (args:List WData):l.row.toRowW.claim.post args (.bool true) args=true:=
 postW_of (r:=l.row.toRowW) (X:=(true == true))
  (show WShape.has [] (.bool true) .bool=true by first | rfl | decide | simp[WShape.has,WShape.arms,WShape.armsAll])
  (show (WTm.eq .res (.lit (.bool true))).value [] { args:=args,res:=some (.bool true),after:=args }=some (.bool (true == true)) from w_eq_bool (w_res rfl) w_lit) rfl
theorem attach_call {l : OpenLaw} {n : Nat} {q : Program} {loose : List Str} {XP : (Str -> Option Value) -> Heap -> Prop} {YP : World -> Heap -> Prop} {d : DefRec}
  (hn:l.most=some n) (hdf:d.params.defaults=[])
  (call:∀ (w:World) (s₀ s₁:Shared) (mg mb:Str->Option Value) (fa:Addr) (o:Obj) (pm cd doc:Value) (a:Addr) (vs:List Value) (ns:List Int),
   Ground q loose [] XP w s₀ mg mb s₁.heap->YP w s₁.heap ->
   s₁.heap.get? fa=some o->o.data=.func (docDef d.name d.params d.body d.scope pm cd doc)->s₁.heap.CodeRec cd d.name->mg d.name=some (.ref fa) ->
   s₁.heap.get? a=some { cls:=.type "list",data:=.seq vs.toArray }->IntsAre vs ns->ns.length<=n->s₁.gens=#[] ->
   codeAny (model l.prog w) callerA (.call (.ref fa) ⟨[.ref a],[]⟩) (fun r s'=>r=.ok (.ret (.bool true))/\OldK s₁.heap s'.heap/\s'.os=s₁.os/\AllBare s'.gens) s₁):
  WalkO q loose XP YP l.row.toRowW d [] (fun f vs=>PySem.call f vs):=by
 intro w s₀ s₁ mg mb G Y fa o pm cd doc dV kV ho hd hcd hD hmg hg args vals as hpre hlay hrd hwl hlo
 obtain rfl:dV=.none:=Dflts.none hD hdf
 obtain rfl:kV=.none:=Dflts.noKw hD
 obtain⟨a,vs,ns,rfl,rfl,hobj,hints,hlen⟩:=QcA hn hpre hwl
 refine enter_call (codeAny_mono (call w s₀ s₁ mg mb fa o pm cd doc a vs ns G Y ho (fd_plain hd) hcd hmg hobj hints hlen hg) fun r s' hq=>?_)
 obtain⟨rfl,h2,h3,h4⟩:=hq
 exact⟨.inl ⟨.bool true,.bool true,[],rfl,fun _=>rfl,.bool true,QcB l _,fun _=>⟨List.Pairwise.nil,fun _ hm=>(nomatch hm)⟩⟩,h2,h3,h4⟩
end Att
namespace L2
open PySem PySem.Spec PyProof.Rows
theorem QcC:∀ {vs:List Value}{ns:List Int},IntsAre vs ns->Vals (ns.map V.int) vs
 | _,_,.nil=>.nil
 | _,_,.cons n t h=>.cons ⟨t,rfl⟩ (QcC h)
def Only (H:Hp):Prop:=∀ b,H b=none\/∃ o xs,H b=some (.frz o (.lst xs))
theorem QcD {P : Program} {w : World} {K : PySem.W.Frag} {mg mb : Str -> Option Value} {CX : CXT} {k : Nat} {fa a : Addr} {fd : FuncData} {x : Str} {sp : Sp} {s₁ : Shared} {vs : List Value} {ns : List Int}
  (KX:K.In s₁.heap) (hns:s₁.heap.Ns mainGlobals mg) (hb:s₁.heap.Ns builtinsNs mb) (hbb:∀ x:Str,x≠"__name__"->mb x=bootBuiltins x) (hlim:s₁.heap.NoLimit) (hg:s₁.gens=#[])
  (ha:s₁.heap.get? a=some { cls:=.type "list",data:=.seq vs.toArray }) (hi:IntsAre vs ns) (hl:ns.length<=sizeLine) (hr:Room k callerA)
  (F:∀ base:Heap,K.In base->base.Ns mainGlobals mg->FnOk P w K mg base CX k fa fd [x] sp) (hbind:∀ (s:Shared) (u:Value),BindsTo s fd ⟨[u],[]⟩ [(x,u)])
  (hsp:∀ H:Hp,Only H->SqL K H a (ns.map V.int)->sp [.ref a] H (fun v _=>v=.bl true) fun _ _ _=>False)
  (hCX:∀ H e s',CX [] H s₁ (fun _ _ _=>False) e s'->False):
  codeAny (model P w) callerA (.call (.ref fa) ⟨[.ref a],[]⟩) (fun r s'=>r=.ok (.ret (.bool true))/\OldK s₁.heap s'.heap/\s'.os=s₁.os/\AllBare s'.gens) s₁:=by
 have rv:=QcC hi
 have lenV:=hi.length
 have core : ∀ H : Hp, Only H -> SqL K H a (ns.map V.int) -> HOk P w H s₁.heap -> (∀ b, H b ≠ none -> b = a) -> (H a ≠ none -> K.lookup a = none) ->
   codeAny (model P w) callerA (.call (.ref fa) ⟨[.ref a],[]⟩) (fun r s'=>r=.ok (.ret (.bool true))/\OldK s₁.heap s'.heap/\s'.os=s₁.os/\AllBare s'.gens) s₁:=by
  intro H hO hS hok hA hK
  have base_of:∀ {b:Addr}{o:Obj},s₁.heap.get? b=some o->H b=none->(hidT s₁.heap H).get? b=some o:=fun e n=>Qan e n
  have noA:∀ {b:Addr}{o:Obj}{es:Array DictEntry}{ep:Nat},s₁.heap.get? b=some o->o.data=.dict es ep->H b=none:=fun {b o es ep} e d=>by
   cases q:H b with
   | none=>rfl
   | some u=>
    have e':b=a:=hA b (by rw[q];simp)
    subst e'
    rw[ha]at e;cases e
    have d':Data.seq vs.toArray _=Data.dict es ep:=d
    cases d'
  have nsK:∀ {b:Addr}{m:Str->Option Value},s₁.heap.Ns b m->(hidT s₁.heap H).Ns b m:=fun {b m} pq41=>by obtain⟨o,es,ep,e,d,r⟩:=pq41;exact⟨o,es,ep,base_of e (noA e d),d,r⟩
  have hKb:K.In (hidT s₁.heap H):=fun b o e=>base_of (KX b o e) (by
   cases q:H b with
   | none=>rfl
   | some u=>
    have e':b=a:=hA b (by rw[q];simp)
    subst e'
    rw[hK (by rw[q];simp)]at e;cases e)
  have hM:Mod K mg (hidT s₁.heap H):=⟨hKb,nsK hns,⟨mb,nsK hb,hbb⟩,let ⟨mc,h1,h2⟩:=hlim;⟨mc,nsK h1,h2⟩⟩
  have e0:Env0 P w K mg (hidT s₁.heap H) callerA [] s₁ H:=⟨rfl,hM,fun b o e=>Qao e,Nat.le_of_eq (Qam _ _),trivial,fun b hb=>absurd (show b∈([]:List Addr) from hb) (by simp),hok,.of_eq hg⟩
  refine codeAny_mono ((F _ hKb (nsK hns)).run callerA [] s₁ H ⟨[.ref a],[]⟩ [.ref a] [.ref a] _ _ hr e0 (hbind s₁ (.ref a)) (.cons rfl .nil) (hsp H hO hS)) fun r s' h=>?_
  cases r with
  | error e=>exact (hCX H e s' h).elim
  | ok fl=>
   cases fl with
   | next=>exact False.elim h
   | brk=>exact False.elim h
   | cont=>exact False.elim h
   | ret u=>
    obtain⟨v,H',os,bare,un,hok',r',q⟩:=h
    have q':v=.bl true:=q
    subst q'
    obtain rfl:u=Value.bool true:=r'
    refine⟨rfl,OldK.of_keep fun b o e=>?_,os,bare⟩
    cases q:H b with
    | none=>exact un.keep b o e q (by intro z;exact absurd (show b∈([]:List Addr) from z) (by simp)) (by simp)
    | some u=>
     rcases hO b with z | ⟨ob,xs,z⟩
     ·rw[q]at z;cases z
     ·have z2:=un.frzs b ob _ z
      obtain⟨e1,_⟩:=hok b _ z
      obtain⟨e2,_⟩:=hok' b _ z2
      rw[e]at e1;cases e1
      exact e2
 cases hk:K.lookup a with
 | some o=>
  have e:=KX a o hk
  rw[ha]at e
  cases e
  refine core (fun _=>none) (fun _=>.inl rfl) (.inr ⟨_,vs.toArray,_,hk,rfl,rfl,rfl,by rw[List.size_toArray,lenV];exact hl,by simpa using rv⟩) (fun b u z=>by have z':(none:Option HO)=some u:=z;cases z') (fun b z=>absurd rfl z) fun z=>absurd rfl z
 | none=>
  refine core (fun b=>if b=a then some (.frz { cls:=.type "list",data:=.seq vs.toArray } (.lst (ns.map V.int))) else none) (fun b=>?_) (.inl (.inr ⟨{ cls:=.type "list",data:=.seq vs.toArray },if_pos rfl⟩)) (fun b u z=>?_) (fun b z=>?_) fun _=>hk
  ·by_cases hb:b=a
   ·exact .inr ⟨_,_,if_pos hb⟩
   ·exact .inl (if_neg hb)
  ·by_cases hb:b=a
   ·have z':=(if_pos hb).symm.trans z
    cases z'
    subst hb
    exact⟨ha,by rw[List.length_map];exact hl,vs,_,rv,ha⟩
   ·have z':=(if_neg hb).symm.trans z
    cases z'
  ·by_cases hb:b=a
   ·exact hb
   ·exact absurd (if_neg hb) z
theorem walk_of {l : PySem.W.OpenLaw} {n k : Nat} {q : Program} {loose : List Str} {XP : (Str -> Option Value) -> Heap -> Prop} {YP : World -> Heap -> Prop} {d : DefRec} {K : Params -> PySem.W.Frag} {CX : World -> CXT} {sp : World -> Sp} {x : Str}
  (hn:l.most=some n) (hn2:n<=sizeLine) (hdf:d.params.defaults=[]) (hr:Room k callerA)
  (hY:∀ (w:World) (h:Heap),YP w h->(K w.params).In h)
  (F:∀ (w:World) (mg:Str->Option Value) (fa:Addr) (h:Heap),(K w.params).In h->h.Ns mainGlobals mg->mg d.name=some (.ref fa) ->
   ∃ fd:FuncData,(∀ (s:Shared) (u:Value),BindsTo s fd ⟨[u],[]⟩ [(x,u)]) /\
    ∀ base:Heap,(K w.params).In base->base.Ns mainGlobals mg->FnOk l.prog w (K w.params) mg base (CX w) k fa fd [x] (sp w))
  (hsp:∀ (w:World) (H:Hp) (a:Addr) (ns:List Int),ns.length<=n->Only H->SqL (K w.params) H a (ns.map V.int)->sp w [.ref a] H (fun v _=>v=.bl true) fun _ _ _=>False)
  (hCX:∀ (w:World) (H:Hp) (s:Shared) (e:Value) (s':Shared),CX w [] H s (fun _ _ _=>False) e s'->False):
  PySem.W.WalkO q loose XP YP l.row.toRowW d [] (fun f vs=>PySem.call f vs):=by
 refine Att.attach_call hn hdf fun w s₀ s₁ mg mb fa o pm cd doc a vs ns G Y ho hd hcd hmg hobj hints hlen hg=>?_
 have KX:=hY w _ Y
 obtain⟨fd,hb,hF⟩:=F w mg fa _ KX G.T.g hmg
 exact QcD KX G.T.g G.T.b G.T.builtins G.T.nolimit hg hobj hints (Nat.le_trans hlen hn2) hr hF hb (fun H hO hS=>hsp w H a ns hlen hO hS) fun H e s'=>hCX w H s₁ e s'
theorem walk_ofK {l : PySem.W.OpenLaw} {n k : Nat} {q : Program} {loose : List Str} {XP : (Str -> Option Value) -> Heap -> Prop} {YP : World -> Heap -> Prop} {d : DefRec} {K : Params -> PySem.W.Frag} {CX : CXT} {sp : PySem.W.Frag -> Sp} {x : Str}
  (hn:l.most=some n) (hn2:n<=sizeLine) (hdf:d.params.defaults=[]) (hr:Room k callerA)
  (hY:∀ (w:World) (h:Heap),YP w h->(K w.params).In h)
  (F:∀ (w:World) (mg:Str->Option Value) (fa:Addr) (h:Heap),(K w.params).In h->h.Ns mainGlobals mg->mg d.name=some (.ref fa) ->
   ∃ fd:FuncData,(∀ (s:Shared) (u:Value),BindsTo s fd ⟨[u],[]⟩ [(x,u)]) /\
    ∀ base:Heap,(K w.params).In base->base.Ns mainGlobals mg->FnOk l.prog w (K w.params) mg base CX k fa fd [x] (sp (K w.params)))
  (hsp:∀ (K:PySem.W.Frag) (H:Hp) (a:Addr) (ns:List Int),ns.length<=n->Only H->SqL K H a (ns.map V.int)->sp K [.ref a] H (fun v _=>v=.bl true) fun _ _ _=>False)
  (hCX:∀ (H:Hp) (s:Shared) (e:Value) (s':Shared),CX [] H s (fun _ _ _=>False) e s'->False):
  PySem.W.WalkO q loose XP YP l.row.toRowW d [] (fun f vs=>PySem.call f vs):=
 walk_of (K:=K) (CX:=fun _=>CX) (sp:=fun w=>sp (K w.params)) hn hn2 hdf hr hY F (fun w H a ns h1 h2 h3=>hsp (K w.params) H a ns h1 h2 h3) fun _ H s e s'=>hCX H s e s'
def defArgs (s:Stmt):Arguments:=match s with
 | .FunctionDef _ a _ _ _ _ _ _ _ _=>a
 | _=>{ posonlyargs:=[],args:=[],vararg:=none,kwonlyargs:=[],kw_defaults:=[],kwarg:=none,defaults:=[] }
def defBody (s:Stmt):List Stmt:=match s with
 | .FunctionDef _ _ b _ _ _ _ _ _ _=>b
 | _=>[]
def defScope (s:Stmt):Scope:=match s with
 | .FunctionDef _ _ _ _ _ _ sc _ _ _=>sc
 | _=>{ kind:=.function,names:=[],isGenerator:=false,isCoroutine:=false }
abbrev CX0:CXT:=fun _ _ _ _ _ _=>False
abbrev E0:XK:=fun _ _ _=>False
theorem QcE {X:Cx}:Passes CX0 X E0:=fun _ _ _ _ _ _ _ h=>h.elim
structure Fun (K:PySem.W.Frag) (x qual:Str) (st:Stmt) (f:Addr) (fd:FuncData):Prop where
 ex:∃ (oc:Value) (od:Option Addr) (kV doc pm:Value) (an:Option Addr) (cdv ct:Value) (osl:Array (Option Value)),
  fd=PySem.W.fnOf x qual (defArgs st) (defBody st) (defScope st) .none kV doc pm an cdv ct/\K.lookup f=some ⟨oc,od,.func fd,osl⟩/\PySem.W.codeIn K cdv qual=true
 kp:PySem.W.keepIn K (.ref f)=true
section
variable {P:Program}{w:World}{K:PySem.W.Frag}{mg:Str->Option Value}{base:Heap}
theorem Fun.ok {x qual : Str} {st : Stmt} {f : Addr} {fd : FuncData} {N ps : List Str} {k : Nat} {sp : Sp} (F : Fun K x qual st f fd) (S : FnScope N ps (defScope st)) (len : ∀ vs H Q E, sp vs H Q E -> vs.length = ps.length)
  (hbody:∀ (cdv:Value) (A:Around) (outer:List Env) (s:Shared) (H:Hp) (vs:List V) (Q:VK) (E:XK),Room k (A.deeper (envOfC qual (defScope st) s.heap.objs.size f cdv))->sp vs H Q E ->
   ∃ t,PSs (cxOf CX0 P w K mg base N qual (defScope st) f cdv A outer s H E).nox (defBody st) t/\t { nx:=fun _ H'=>Q .non H',rt:=Q } (start N vs) H):FnOk P w K mg base CX0 (k + 1) f fd ps sp:=by
 obtain⟨oc,od,kV,doc,pm,an,cdv,ct,osl,rfl,lk,hcd⟩:=F.ex
 refine QbP lk hcd S len fun A outer s H vs Q E hr hsp=>?_
 obtain⟨t,h,q⟩:=hbody cdv A outer s H vs Q E hr hsp
 exact⟨t,h.nox,q⟩
theorem Fun.binds {x qual : Str} {st : Stmt} {f : Addr} {fd : FuncData} {ps : List Str} (F : Fun K x qual st f fd)
  (h:∀ (kV doc pm:Value) (an:Option Addr) (cdv ct:Value) (us:List Value),us.length=ps.length->bindArgs (PySem.W.fnOf x qual (defArgs st) (defBody st) (defScope st) .none kV doc pm an cdv ct) ⟨us,[]⟩=pure (ps.zip us)):Binds K fd ps []:=by
 obtain⟨oc,od,kV,doc,pm,an,cdv,ct,osl,rfl,lk,hcd⟩:=F.ex
 exact .all (h kV doc pm an cdv ct)
theorem QcF {x qual : Str} {st : Stmt} {f : Addr} {oc : Value} {od an : Option Addr} {osl : Array (Option Value)} {kV doc pm cdv ct : Value} (l : K.lookup f = some ⟨oc, od, .func (PySem.W.fnOf x qual (defArgs st) (defBody st) (defScope st) .none kV doc pm an cdv ct), osl⟩)
  (c:PySem.W.codeIn K cdv qual=true) (k:PySem.W.keepIn K (.ref f)=true):Fun K x qual st f (PySem.W.fnOf x qual (defArgs st) (defBody st) (defScope st) .none kV doc pm an cdv ct):=⟨⟨oc,od,kV,doc,pm,an,cdv,ct,osl,rfl,l,c⟩,k⟩
end
section
variable {κ:Type} [DecidableEq κ]
def valV (kvs:List (κ × V)) (k:κ):Option V:=(kvs.find? fun kv=>decide (kv.1=k)).map (·.2)
def putK (kvs:List (κ × V)) (k:κ) (v:V):List (κ × V):=
 if (kvs.any fun kv=>decide (kv.1=k))=true then kvs.map (fun kv=>if kv.1=k then (kv.1,v) else kv) else kvs++[(k,v)]
theorem QcG {p:κ × V}{r:List (κ × V)}{k:κ} (e:p.1=k):valV (p::r) k=some p.2:=by simp[valV,List.find?_cons,e]
theorem QcH {p:κ × V}{r:List (κ × V)}{k:κ} (e:¬ p.1=k):valV (p::r) k=valV r k:=by simp[valV,List.find?_cons,e]
theorem QcI (k:κ):∀ kvs:List (κ × V),(kvs.any fun kv=>decide (kv.1=k))=(valV kvs k).isSome
 | []=>rfl
 | p::r=>by
  rw[List.any_cons]
  by_cases e:p.1=k
  ·simp only[QcG e,decide_eq_true e,Bool.true_or,Option.isSome_some]
  ·rw[QcH e,decide_eq_false e,Bool.false_or];exact QcI k r
theorem QcJ (kvs:List (κ × V)) (k:κ) (v:V):(putK kvs k v).length<=kvs.length + 1:=by
 unfold putK
 split
 ·rw[List.length_map];ac_nf
 ·rw[List.length_append,List.length_cons,List.length_nil];ac_nf
theorem RelO.isSome_eq {o:Option V}{u:Option Value} (r:RelO o u):o.isSome=u.isSome:=by
 cases o with
 | none=>cases u with
  | none=>rfl
  | some _=>exact (show False from r).elim
 | some _=>cases u with
  | none=>exact (show False from r).elim
  | some _=>rfl
theorem KV.val {kvs:List (κ × V)}{vs:List (κ × Value)} (r:KV kvs vs) (k:κ):RelO (valV kvs k) (valueAt vs k):=by
 unfold KV at r
 induction r with
 | nil=>exact True.intro
 | @cons p q ps qs h t ih=>
  obtain⟨h1,h2⟩:=h
  by_cases e:p.1=k
  ·have e':q.1=k:=h1.symm.trans e
   have b:valueAt (q::qs) k=some q.2:=by simp[valueAt,List.find?_cons,e']
   rw[QcG e,b];exact h2
  ·have e':¬ q.1=k:=fun z=>e (h1.trans z)
   have b:valueAt (q::qs) k=valueAt qs k:=by simp[valueAt,List.find?_cons,e']
   rw[QcH e,b];exact ih
theorem KV.any {kvs:List (κ × V)}{vs:List (κ × Value)} (r:KV kvs vs) (k:κ):(kvs.any fun kv=>decide (kv.1=k))=vs.any fun kv=>decide (kv.1=k):=by
 unfold KV at r
 induction r with
 | nil=>rfl
 | cons h t ih=>rw[List.any_cons,List.any_cons,ih,h.1]
theorem KV.repl {kvs : List (κ × V)} {vs : List (κ × Value)} (r : KV kvs vs) (k : κ) {y : V} {u : Value} (ry : RelV y u) :
  KV (kvs.map fun kv=>if kv.1=k then (kv.1,y) else kv) (vs.map fun kv=>if kv.1=k then (kv.1,u) else kv):=by
 unfold KV at r ⊢
 induction r with
 | nil=>exact .nil
 | @cons p q ps qs h t ih=>
  rw[List.map_cons,List.map_cons]
  refine .cons ?_ ih
  obtain⟨h1,h2⟩:=h
  by_cases e:p.1=k
  ·rw[if_pos e,if_pos (h1.symm.trans e)];exact⟨h1,ry⟩
  ·rw[if_neg e,if_neg (fun z=>e (h1.trans z))];exact⟨h1,h2⟩
theorem KV.put {kvs:List (κ × V)}{vs:List (κ × Value)} (r:KV kvs vs) (k:κ) {y:V}{u:Value} (ry:RelV y u):KV (putK kvs k y) (stored vs k u):=by
 unfold putK stored
 rw[r.any k]
 by_cases e:(vs.any fun kv=>decide (kv.1=k))=true
 ·rw[if_pos e,if_pos e];exact r.repl k ry
 ·rw[if_neg e,if_neg e];exact Paired.snoc r ⟨rfl,ry⟩
theorem KV.length {kvs:List (κ × V)}{vs:List (κ × Value)} (r:KV kvs vs):kvs.length=vs.length:=Paired.length r
end
theorem QcK {P:Program}{w:World}{k:Key}{u:Value} (r:RelV (kV k) u):(mixKind P w).is k u=true:=by
 cases k with
 | inl i=>obtain⟨t,e⟩:=(show ∃ t,u=Value.int i t from r);subst e;exact Qag P w i t
 | inr x=>obtain⟨t,e⟩:=(show ∃ t,u=Value.str x t from r);subst e;exact Qah P w x t
theorem QcL {P:Program}{w:World}:∀ {ks:List Key}{us:List Value},Vals (ks.map kV) us->ItemsAre (mixKind P w) ks us
 | [],_,r=>by rw[List.map_nil]at r;cases r;exact .nil
 | k::ks,_,r=>by
  rw[List.map_cons]at r
  cases r with
  | cons h t=>exact .cons (QcK h) (QcL t)
abbrev KT (H:Hp):List (List Key × V)->List (List Key × Addr × Value)->Prop:=Paired fun p q=>p.1=q.1/\H q.2.1=some (.tup (p.1.map kV))/\RelV p.2 q.2.2
theorem KT.val {H:Hp}{kvs:List (List Key × V)}{xs:List (List Key × Addr × Value)} (r:KT H kvs xs) (k:List Key):RelO (valV kvs k) ((atKey xs k).map (·.2)):=by
 induction r with
 | nil=>exact True.intro
 | @cons p q ps qs h t ih=>
  obtain⟨h1,_,h2⟩:=h
  by_cases e:p.1=k
  ·have e':q.1=k:=h1.symm.trans e
   have b:atKey (q::qs) k=some q.2:=by simp[atKey,List.find?_cons,e']
   rw[QcG e,b];exact h2
  ·have e':¬ q.1=k:=fun z=>e (h1.trans z)
   have b:atKey (q::qs) k=atKey qs k:=by simp[atKey,List.find?_cons,e']
   rw[QcH e,b];exact ih
theorem KT.repl {H : Hp} {kvs : List (List Key × V)} {xs : List (List Key × Addr × Value)} (r : KT H kvs xs) (k : List Key) {y : V} {u : Value} (ry : RelV y u) :
  KT H (kvs.map fun kv=>if kv.1=k then (kv.1,y) else kv) (xs.map (putAt k u)):=by
 induction r with
 | nil=>exact .nil
 | @cons p q ps qs h t ih=>
  rw[List.map_cons,List.map_cons]
  refine .cons ?_ ih
  obtain⟨h1,h2,h3⟩:=h
  unfold putAt
  by_cases e:p.1=k
  ·rw[if_pos e,if_pos (h1.symm.trans e)];exact⟨h1,h2,ry⟩
  ·rw[if_neg e,if_neg (fun z=>e (h1.trans z))];exact⟨h1,h2,h3⟩
theorem KT.put {H : Hp} {kvs : List (List Key × V)} {xs : List (List Key × Addr × Value)} (r : KT H kvs xs) (k : List Key) {b : Addr} {y : V} {u : Value} (hb : H b = some (.tup (k.map kV))) (ry : RelV y u) :
  KT H (putK kvs k y) (storedH xs k b u):=by
 have e:(kvs.any fun kv=>decide (kv.1=k))=(atKey xs k).isSome:=by
  rw[QcI,(r.val k).isSome_eq,Option.isSome_map]
 unfold putK storedH
 rw[e]
 by_cases q:(atKey xs k).isSome=true
 ·rw[if_pos q,if_pos q];exact r.repl k ry
 ·rw[if_neg q,if_neg q];exact Paired.snoc r ⟨rfl,hb,ry⟩
theorem KT.keeps {H H':Hp}{kvs:List (List Key × V)}{xs:List (List Key × Addr × Value)} (r:KT H kvs xs) (ht:∀ b ys,H b=some (.tup ys)->H' b=some (.tup ys)):KT H' kvs xs:=
 Paired.mapP r fun _ _ z=>⟨z.1,ht _ _ z.2.1,z.2.2⟩
section
variable {P:Program}{w:World}{H:Hp}{h:Heap}{a:Addr}
theorem QcM {u:HO} (ok:HOk P w H h) (e:Rd H a u):ObjOk P w H h a u:=e.ok ok
theorem QcN {kvs:List (Key × V)} (ok:HOk P w H h) (e:Rd H a (.dK kvs)):kvs.length<=sizeLine/\(a == sysModules)=false/\∃ vs,KV kvs vs/\h.DictOf (mixKind P w) a vs:=
 show ObjOk P w H h a (.dK kvs) from QcM ok e
theorem QcO {kvs:List (Key × V)} (ok:HOk P w H h) (e:H a=some (.dK kvs)):kvs.length<=sizeLine/\(a == sysModules)=false/\∃ vs,KV kvs vs/\h.DictOf (mixKind P w) a vs:=QcN ok (.inl e)
theorem QcP {ks:List Key} (ok:HOk P w H h) (e:H a=some (.tup (ks.map kV))):(tupleKind (mixKind P w)).is h ks a:=by
 obtain⟨_,its,r,o,h1,h2,⟨n,h3⟩,_⟩:=(show ObjOk P w H h a (.tup (ks.map kV)) from ok a _ e)
 exact⟨o,its.toArray,n,h1,h2,h3,by simpa using QcL r⟩
theorem QcQ {kvs : List (List Key × V)} (ok : HOk P w H h) (e : Rd H a (.dT kvs)) : kvs.length <= sizeLine /\ (a == sysModules) = false /\
  ∃ xs,KT H kvs xs/\h.DictOfH (tupleKind (mixKind P w)) a xs:=by
 obtain⟨z,y,xs,r,o,es,ep,h1,h2,h3,h4,h5⟩:=(show ObjOk P w H h a (.dT kvs) from QcM ok e)
 refine⟨z,y,xs,r,o,es,ep,h1,h2,h3,h4,fun x hx=>?_,h5⟩
 have all:∀ {l:List (List Key × V)}{m:List (List Key × Addr × Value)},KT H l m->∀ x∈m,(tupleKind (mixKind P w)).is h x.1 x.2.1:=by
  intro l m q
  induction q with
  | nil=>intro x hx;exact nomatch hx
  | @cons p q ps qs hq t ih=>
   intro x hx
   rcases List.mem_cons.mp hx with e | hx
   ·subst e
    exact QcP ok (by rw[<- hq.1];exact hq.2.1)
   ·exact ih x hx
 exact all r x hx
theorem QcR {kvs : List (List Key × V)} (ok : HOk P w H h) (e : H a = some (.dT kvs)) : kvs.length <= sizeLine /\ (a == sysModules) = false /\
  ∃ xs,KT H kvs xs/\h.DictOfH (tupleKind (mixKind P w)) a xs:=QcQ ok (.inl e)
end
def DGet (H:Hp) (a:Addr) (y:V) (r:Option V):Prop:=
 (∃ kvs k,Rd H a (.dK kvs)/\y=kV k/\r=valV kvs k)\/∃ kvs k b,Rd H a (.dT kvs)/\y=.ref b/\H b=some (.tup (k.map kV))/\r=valV kvs k
def DPut (H:Hp) (a:Addr) (y v:V) (H':Hp):Prop:=
 (∃ kvs k,H a=some (.dK kvs)/\y=kV k/\kvs.length < sizeLine/\H'=upd H a (.dK (putK kvs k v))) \/
 ∃ kvs k b,H a=some (.dT kvs)/\y=.ref b/\H b=some (.tup (k.map kV))/\kvs.length < sizeLine/\H'=upd H a (.dT (putK kvs k v))
theorem DGet.k {H:Hp}{a:Addr}{kvs:List (Key × V)}{k:Key} (e:H a=some (.dK kvs)):DGet H a (kV k) (valV kvs k):=.inl ⟨kvs,k,.inl e,rfl,rfl⟩
theorem DPut.k {H:Hp}{a:Addr}{kvs:List (Key × V)}{k:Key}{v:V} (e:H a=some (.dK kvs)) (hl:kvs.length < sizeLine):DPut H a (kV k) v (upd H a (.dK (putK kvs k v))):=.inl ⟨kvs,k,e,rfl,hl,rfl⟩
section
variable {X:Cx}{pins:List (Addr × Obj)}{σ:St}{H:Hp}{s:Shared}{a:Addr}{y v:V}{u r:Value}{o:Option V}{A:Around}{E:Value->Shared->Prop}
theorem QcS {Q : Value -> Shared -> Prop} (hu : A.units + 1 < cLine) (I : Inv X pins σ H s) (g : DGet H a y (some v)) (ry : RelV y u) (h : ∀ w' s', Inv X pins σ H s' -> RelV v w' -> Q w' s') :
  wpAny (model X.prog X.w) A (getItem (.ref a) u) Q E s:=by
 rcases g with ⟨kvs,k,e,ey,l⟩ | ⟨kvs,k,b,e,ey,eb,l⟩
 ·subst ey
  obtain⟨z,hd,vs,rel,dd⟩:=QcN I.hok e
  obtain⟨w',hw,rw'⟩:=RelO.some_of (v:=v) (o:=valueAt vs k) (by rw[l];exact rel.val k)
  exact wpAny_getItem_of (QcK ry) dd.mapOf hw (h w' _ (I.tok _) rw')
 ·subst ey
  cases (show u=Value.ref b from ry)
  obtain⟨z,hd,xs,rel,dd⟩:=QcQ I.hok e
  obtain⟨w',hw,rw'⟩:=RelO.some_of (v:=v) (o:=(atKey xs k).map (·.2)) (by rw[l];exact rel.val k)
  obtain⟨p,hp,hp2⟩:=Option.map_eq_some_iff.mp hw
  refine wpAny_getItem_heap (tupleKind_room_in1 hu) (QcP I.hok eb) dd hp ?_
  rw[hp2]
  exact h w' _ (I.tok _) rw'
theorem d_in {Q : Value -> Shared -> Prop} (hu : A.units + 1 < cLine) (I : Inv X pins σ H s) (g : DGet H a y o) (ry : RelV y u) (h : ∀ s', Inv X pins σ H s' -> Q (.bool o.isSome) s') :
  wpAny (model X.prog X.w) A (compareOp .In u (.ref a)) Q E s:=by
 rcases g with ⟨kvs,k,e,ey,l⟩ | ⟨kvs,k,b,e,ey,eb,l⟩
 ·subst ey
  obtain⟨z,hd,vs,rel,dd⟩:=QcN I.hok e
  refine wpAny_in_of (QcK ry) hd dd.mapOf ?_
  rw[<- (rel.val k).isSome_eq,<- l]
  exact h _ (I.tok _)
 ·subst ey
  cases (show u=Value.ref b from ry)
  obtain⟨z,hd,xs,rel,dd⟩:=QcQ I.hok e
  refine wpAny_in_heap (tupleKind_room_in1 hu) (QcP I.hok eb) hd dd ?_
  have q:=(rel.val k).isSome_eq
  rw[Option.isSome_map]at q
  rw[<- q,<- l]
  exact h _ (I.tok _)
theorem QcT {h' : Heap} {t' : Nat} {ob : HO} (I : Inv X pins σ H s) (mu : Mut (H a)) (hs : Heap.SameBut a s.heap h') (he : ∃ q, h'.get? a = some q) (new : ObjOk X.prog X.w (upd H a ob) h' a ob) :
  Inv X pins σ (upd H a ob) { s with heap:=h',toks:=t' }:=
 I.write (x:=a) (e:=a) mu (.inl rfl) (fun b q hb z=>(hs.2 b hb).trans z) he new
theorem QcU {P : Program} {w : World} {H' : Hp} {h' : Heap} {kvs : List (Key × V)} {vs : List (Key × Value)} (z : kvs.length <= sizeLine) (hd : (a == sysModules) = false) (rel : KV kvs vs) (dd : h'.DictOf (mixKind P w) a vs) :
  ObjOk P w H' h' a (.dK kvs):=⟨z,hd,vs,rel,dd⟩
theorem QcV {H' : Hp} {Q : Unit -> Shared -> Prop} (hu : A.units + 1 < cLine) (I : Inv X pins σ H s) (g : DPut H a y v H') (ry : RelV y u) (rv : RelV v r) (h : ∀ s', Inv X pins σ H' s' -> Q () s') :
  wpAny (model X.prog X.w) A (setItem (.ref a) u r) Q E s:=by
 rcases g with ⟨kvs,k,e,ey,l,eH⟩ | ⟨kvs,k,b,e,ey,eb,l,eH⟩
 ·subst ey eH
  obtain⟨z,hd,vs,rel,dd⟩:=QcO I.hok e
  have hz:vs.length<=sizeLine:=by rw[<- rel.length];exact z
  have hl:(putK kvs k v).length<=sizeLine:=by have:=QcJ kvs k v;ac_nf
  refine wpAny_setItem_pairs (hsz:=hz) (QcK ry) dd fun h' dd' hs=>h _ ?_
  have he:∃ q,h'.get? a=some q:=let ⟨q,_,_,hq,_⟩:=dd';⟨q,hq⟩
  exact QcT I (by rw[e];exact True.intro) hs he (QcU hl hd (rel.put k rv) dd')
 ·subst ey eH
  cases (show u=Value.ref b from ry)
  obtain⟨z,hd,xs,rel,dd⟩:=QcR I.hok e
  have hz:xs.length<=sizeLine:=by rw[<- Paired.length rel];exact z
  have hl:(putK kvs k v).length<=sizeLine:=by have:=QcJ kvs k v;ac_nf
  refine wpAny_setItem_heap (hsz:=hz) (tupleKind_room_in1 hu) (QcP I.hok eb) dd fun h' dd' hs=>h _ ?_
  obtain⟨q,es,ep,hq,h2,h3,h4,_,h5⟩:=dd'
  refine QcT I (by rw[e];exact True.intro) hs ⟨q,hq⟩ ⟨hl,hd,_,(rel.put k eb rv).keeps fun c ys ec=>?_,q,es,ep,hq,h2,h3,h4,h5⟩
  rw[Qaj (Qak ec e (fun z=>nomatch z))]
  exact ec
end
section
variable {X:Cx}{pins:List (Addr × Obj)}{σ:St}{H:Hp}{s:Shared}{a:Addr}{kvs:List (Key × V)}{k:Key}{u:Value}{A:Around}{E:Value->Shared->Prop}
theorem QcW {Q:Value->Shared->Prop} (I:Inv X pins σ H s) (e:Rd H a (.dK kvs)) (h:∀ t s',Inv X pins σ H s'->Q (.int kvs.length t) s'):wpAny (model X.prog X.w) A (call (.builtin "len") [.ref a]) Q E s:=by
 obtain⟨z,hd,vs,rel,dd⟩:=QcN I.hok e
 refine call_len_dict hd dd (by rw[<- rel.length];rw[sizeLine_eq]at z;ac_nf) ?_
 rw[<- rel.length]
 exact h _ _ (I.tok _)
end
end L2
namespace MM
open PySem PySem.Spec PyProof.Rows L2
abbrev KI:=Int ⊕ List Int
section
variable {prog:Program}{w:World}
variable (prog w) in
inductive TIt (h:Heap):KI->Value->Prop
 | one (i:Int) (t:Tok):TIt h (.inl i) (.int i t)
 | row {k:List Int}{b:Addr}:IsTupleKey (intKind prog w) h k b->TIt h (.inr k) (.ref b)
variable (prog w) in
inductive TIts (h:Heap):List KI->List Value->Prop
 | nil:TIts h [] []
 | cons {k:KI}{v:Value}{ks:List KI}{vs:List Value}:TIt prog w h k v->TIts h ks vs->TIts h (k::ks) (v::vs)
variable (prog w) in
def IsNestKey (h:Heap) (ks:List KI) (a:Addr):Prop:=∃ o items n,h.get? a=some o/\o.cls=.type "tuple"/\o.data=.seq items n/\TIts prog w h ks items.toList
theorem TIt.inj {h:Heap}{x y:KI}{v:Value} (a:TIt prog w h x v) (b:TIt prog w h y v):x=y:=by
 cases a with
 | one i t=>cases b;rfl
 | row a=>cases b with
  | row b=>rw[a.inj b]
theorem TIts.inj {h:Heap}{x y:List KI}{vs:List Value} (a:TIts prog w h x vs) (b:TIts prog w h y vs):x=y:=by
 induction a generalizing y with
 | nil=>cases b;rfl
 | cons a t ih=>cases b with
  | cons b u=>rw[a.inj b,ih u]
theorem IsNestKey.typeIs {s:Shared}{ks:List KI}{a:Addr} (x:IsNestKey prog w s.heap ks a):s.TypeIs (.ref a) "tuple":=let ⟨o,_,_,ho,hc,_⟩:=x;⟨o,ho,hc⟩
theorem IsNestKey.inj {h:Heap}{a:Addr}{x y:List KI} (hx:IsNestKey prog w h x a) (hy:IsNestKey prog w h y a):x=y:=by
 obtain⟨o,items,n,ho,_,hd,hi⟩:=hx
 obtain⟨o',items',n',ho',_,hd',hi'⟩:=hy
 cases ho.symm.trans ho'
 rw[hd]at hd'
 injection hd' with h1 _
 subst h1
 exact hi.inj hi'
theorem TIt.keeps {h h':Heap}{d:Addr}{o:Obj}{es ep} (ho:h.get? d=some o) (hd:o.data=.dict es ep) (hs:Heap.SameBut d h h'):∀ {x:KI}{v:Value},TIt prog w h x v->TIt prog w h' x v
 | _,_,.one i t=>.one i t
 | _,_,.row a=>.row (a.keeps ho hd hs)
theorem TIts.keeps {h h':Heap}{d:Addr}{o:Obj}{es ep} (ho:h.get? d=some o) (hd:o.data=.dict es ep) (hs:Heap.SameBut d h h'):∀ {x:List KI}{vs:List Value},TIts prog w h x vs->TIts prog w h' x vs
 | _,_,.nil=>.nil
 | _,_,.cons a t=>.cons (a.keeps ho hd hs) (TIts.keeps ho hd hs t)
theorem IsNestKey.keeps {h h' : Heap} {ks : List KI} {a d : Addr} {o : Obj} {es ep} (x : IsNestKey prog w h ks a) (ho : h.get? d = some o) (hd : o.data = .dict es ep) (hs : Heap.SameBut d h h') :
  IsNestKey prog w h' ks a:=by
 obtain⟨o',items,n,ho',hc,hd',hi⟩:=x
 have hne:a≠d:=by
  rintro rfl
  obtain rfl:o'=o:=Option.some.inj (ho'.symm.trans ho)
  rw[hd]at hd';exact nomatch hd'
 exact⟨o',items,n,(hs.2 a hne).trans ho',hc,hd',hi.keeps ho hd hs⟩
def itH:KI->Int
 | .inl i=>hashInt i
 | .inr r=>reduceHash (Builtin.Tuple.tupleHashOf (r.map hashInt))
def nestHash (ks:List KI):Int:=reduceHash (Builtin.Tuple.tupleHashOf (ks.map itH))
def itN:KI->Nat
 | .inl _=>1
 | .inr r=>r.length + 1
def nestDraws:List KI->Nat
 | []=>0
 | k::ks=>itN k + nestDraws ks
variable {A:Around}{E:Value->Shared->Prop}{s:Shared}
theorem QcX (k:KI):∀ (l:List KI),nestDraws (l++[k])=nestDraws l + itN k
 | []=>by simp[nestDraws]
 | x::l=>by simp[nestDraws,QcX k l];ac_nf
theorem QcY {k:KI}{v:Value}{Q:Int->Shared->Prop} (hu:A.units < cLine) (hk:TIt prog w s.heap k v) (h:Q (itH k) { s with toks:=s.toks + itN k }):wpAny (model prog w) A (pyHash v) Q E s:=by
 cases hk with
 | one i t=>exact wpAny_pyHash_int h
 | row hk=>exact wpAny_pyHash_tuple (knd:=intKind prog w) hu hk h
theorem QcZ {x y:KI}{u v:Value}{Q:Bool->Shared->Prop} (hu:A.units < cLine) (hx:TIt prog w s.heap x u) (hy:TIt prog w s.heap y v) (h:Q (decide (x=y)) s):wpAny (model prog w) A (eqBool u v) Q E s:=by
 cases hx with
 | one i t=>
  cases hy with
  | one j t'=>
   refine wpAny_eqBool_int ?_
   have e:(i == j)=decide ((Sum.inl i:KI)=Sum.inl j):=by
    by_cases z:i=j
    ·subst z;simp
    ·have z2:¬ ((Sum.inl i:KI)=Sum.inl j):=fun q=>z (by injection q)
     rw[decide_eq_false z2];exact beq_eq_false_iff_ne.mpr z
   first | (rw[e];exact h) | (simpa [e] using h)
  | row h2=>
   obtain⟨o,items,n,ho,hc,hd,_⟩:=h2
   rw[decide_eq_false (by simp)]at h
   exact SeqAt.EqAt.int_tuple i t ⟨o,ho,hc,n,hd⟩ hu prog w E Q h
 | row h1=>
  cases hy with
  | one j t'=>
   obtain⟨o,items,n,ho,hc,hd,_⟩:=h1
   rw[decide_eq_false (by simp)]at h
   exact SeqAt.EqAt.tuple_int j t' ⟨o,ho,hc,n,hd⟩ hu prog w E Q h
  | @row k2 b h2=>
   refine wpAny_eqBool_tuple (knd:=intKind prog w) hu h1 h2 ?_
   simpa using h
theorem Qc0 {ks : List KI} {a : Addr} {Q : Int -> Shared -> Prop} (hu : A.units + 1 < cLine) (hk : IsNestKey prog w s.heap ks a) (h : Q (nestHash ks) { s with toks := s.toks + (nestDraws ks + 1) }) :
  wpAny (model prog w) A (pyHash (.ref a)) Q E s:=by
 have hT:=hk.typeIs
 obtain⟨o,items,n,ho,_,hd,hi⟩:=hk
 unfold pyHash
 first | unfold pyHashByItsType | skip
 first | refine wpAny_bind (wpAny_cRoomFor_or (.inr (by ac_nf)) ?_) | skip
 refine wpAny_bind (wpAny_specialOf hT F.slot_tuple_hash.lookup ?_)
 show wpAny _ _ (if (some (Value.builtin "tuple.__hash__") == some Value.none)=true then _ else _) Q E s
 rw[if_neg (by rw[beq_builtin_none];exact Bool.false_ne_true)]
 refine wpAny_bind (wpAny_specialOf hT F.slot_tuple_hash.lookup ?_)
 show wpAny _ _ (callSpecialIfBoundUnlessNone? (.ref a) "__hash__" _ >>= _) Q E s
 refine wpAny_bind (wpAny_callSpecialIfBoundUnlessNone?_slot hT F.slot_tuple_hash (wpAny_call_entry F.slot_tuple_hash hT F.entry_tuple_hash ?_ (F.args_tuple_hash_1 _)))
 show wpAny _ _ (Builtin.Tuple.tupleItemsOf (.ref a) >>= _) _ _ s
 refine wpAny_bind (wpAny_tupleItemsOf ho hd ?_)
 refine wpAny_bind ?_
 rw[<- Array.forIn_toList]
 refine wpAny_forIn_list _
  (fun rest (b:Array Int) s'=>∃ done left,ks=done++left/\TIts prog w s.heap left rest/\b.toList=done.map (itH)/\s'={ s with toks:=s.toks + nestDraws done })
  _ ?_ ?_ _ _ ⟨[],ks,rfl,hi,rfl,rfl⟩
 ·rintro x rest b s' ⟨done,left,rfl,hl,hb,rfl⟩
  cases hl with
  | @cons k b' ks' _ h1 hl'=>
   refine wpAny_bind (QcY (k:=k) hu h1 ?_)
   first
    | exact wpAny_pure ⟨done++[k],ks',by simp,hl',by simp[hb],by simp[QcX,Nat.add_assoc]⟩
    | exact wpAny_bind (wpAny_pure (wpAny_pure ⟨done++[k],ks',by simp,hl',by simp[hb],by simp[QcX,Nat.add_assoc]⟩))
 ·rintro b s' ⟨done,left,rfl,hl,hb,rfl⟩
  cases hl
  rw[List.append_nil]at h
  show wpAny _ _ (retInt (Builtin.Tuple.tupleHashOf b.toList)) _ _ _
  rw[hb]
  refine wpAny_ret_mkInt ?_
  show wpAny _ _ (if (decide (-(2:Int) ^ 63<=Builtin.Tuple.tupleHashOf (done.map (itH))) && decide (Builtin.Tuple.tupleHashOf (done.map (itH)) < 2 ^ 63))=true then _ else _) Q E _
  unfold nestHash reduceHash at h
  by_cases hr:(decide (-(2:Int) ^ 63<=Builtin.Tuple.tupleHashOf (done.map (itH))) && decide (Builtin.Tuple.tupleHashOf (done.map (itH)) < 2 ^ 63))=true
  ·rw[if_pos hr]
   rw[if_pos hr]at h
   exact wpAny_pure (by simpa [Nat.add_assoc] using h)
  ·rw[if_neg hr]
   rw[if_neg hr]at h
   exact wpAny_bind (wpAny_rule (wpAny_pure (by simpa [Nat.add_assoc] using h)))
theorem Qc1 {x y : List KI} {a b : Addr} {P : Fin -> Shared -> Prop} (hu : A.units < cLine) (hx : IsNestKey prog w s.heap x a) (hy : IsNestKey prog w s.heap y b) (h : P (.done (.ret (.bool (decide (x = y))))) s) :
  wpAny (model prog w) A (Builtin.«tuple.__eq__» ⟨[.ref a,.ref b],[]⟩) P E s:=by
 have hTb:=hy.typeIs
 obtain⟨oa,xs,na,hoa,_,hda,hia⟩:=hx
 obtain⟨ob,ys,nb,hob,_,hdb,hib⟩:=hy
 show wpAny _ _ (isInstance (.ref b) (.type "tuple") >>= _) _ _ s
 refine wpAny_bind (wpAny_isInstance hTb isSubtype_tuple_tuple ?_)
 simp only[Bool.not_true,Bool.false_eq_true,if_false]
 refine wpAny_bind (wpAny_tupleItemsOf hoa hda ?_)
 refine wpAny_bind (wpAny_tupleItemsOf hob hdb ?_)
 refine wpAny_bind ?_
 refine wpAny_forIn_list _
  (fun rest r s'=>r.1=none/\s'=s/\∃ x' y' xs' ys',rest=List.zip xs' ys'/\TIts prog w s.heap x' xs'/\TIts prog w s.heap y' ys'/\decide (x'=y')=decide (x=y)/\(xs'.length == ys'.length)=(xs.size == ys.size))
  _ ?_ ?_ _ _ ⟨rfl,rfl,x,y,xs.toList,ys.toList,rfl,hia,hib,rfl,by simp⟩
 ·rintro ⟨u,v⟩ rest r s' ⟨hr,rfl,x',y',xs',ys',hz,hx',hy',hdec,hlen⟩
  cases hx' with
  | nil=>simp at hz
  | @cons k1 u' x'' xs'' h1 hx''=>
   cases hy' with
   | nil=>simp at hz
   | @cons k2 v' y'' ys'' h2 hy''=>
    simp only[List.zip_cons_cons,List.cons.injEq,Prod.mk.injEq]at hz
    obtain⟨⟨rfl,rfl⟩,rfl⟩:=hz
    refine wpAny_bind (QcZ (x:=k1) (y:=k2) hu h1 h2 ?_)
    by_cases hk:k1=k2
    ·subst hk
     rw[decide_eq_true rfl]
     simp only[Bool.not_true,Bool.false_eq_true,if_false]
     refine wpAny_pure ⟨rfl,rfl,x'',y'',xs'',ys'',rfl,hx'',hy'',?_,by simpa using hlen⟩
     rw[<- hdec]
     by_cases hxy:x''=y''
     ·simp[hxy]
     ·simp[hxy]
    ·rw[decide_eq_false hk]
     simp only[Bool.not_false,if_true]
     have hf:decide (x=y)=false:=by rw[<- hdec];simp[hk]
     rw[hf]at h
     exact wpAny_bind (wpAny_pure (wpAny_pure (wpAny_pure h)))
 ·rintro ⟨r1,r2⟩ s' ⟨hr,rfl,x',y',xs',ys',hz,hx',hy',hdec,hlen⟩
  simp only at hr
  subst hr
  refine wpAny_pure ?_
  have hfin:(xs.size == ys.size)=decide (x=y):=by
   rw[<- hdec,<- hlen]
   cases hx' with
   | nil=>
    cases hy' with
    | nil=>simp
    | cons _ _=>simp
   | cons _ _=>
    cases hy' with
    | nil=>simp
    | cons _ _=>simp at hz
  show P (.done (.ret (.bool (xs.size == ys.size)))) s'
  rw[hfin];exact h
theorem Qc2 {x y : List KI} {a b : Addr} {Q : Bool -> Shared -> Prop} (hu : A.units + 1 < cLine) (hx : IsNestKey prog w s.heap x a) (hy : IsNestKey prog w s.heap y b) (h : Q (decide (x = y)) s) :
  wpAny (model prog w) A (eqBool (.ref a) (.ref b)) Q E s:=by
 unfold eqBool
 try with_reducible refine wpAny_holding ?_
 show wpAny _ _ (if (Value.ref a == Value.ref b)=true then _ else _) Q E s
 by_cases hab:(Value.ref a == Value.ref b)=true
 ·rw[if_pos hab]
  have e:a=b:=by have:=eq_of_beq hab;injection this
  subst e
  obtain rfl:=hx.inj hy
  exact wpAny_bind (wpAny_rule (wpAny_pure (by simpa using h)))
 ·rw[if_neg hab]
  exact wpAny_bind (wpAny_richCompare_same_room (op:=.Eq) hx.typeIs hy.typeIs F.slot_tuple_eq
   (wpAny_call_entry F.slot_tuple_eq hx.typeIs F.entry_tuple_eq (Qc1 (by exact hu) hx hy ⟨_,rfl,(fun e=>nomatch e),wpAny_truthy_bool h⟩) (F.args_tuple_eq_2 _ _)) (by ac_nf))
theorem Qc3 {n:Nat}{ks:List Int}{a:Addr}{Q:Bool->Shared->Prop} (hk:IsTupleKey (intKind prog w) s.heap ks a) (h:Q true s):wpAny (model prog w) A (eqIsQuiet (n + 1) (.ref a)) Q E s:=by
 have hT:=hk.typeIs
 obtain⟨o,items,n,ho,_,hd,hi⟩:=hk
 unfold eqIsQuiet
 refine wpAny_bind (wpAny_specialOf hT F.slot_tuple_eq.lookup ?_)
 show wpAny _ _ (isInstance (.ref a) (.type "tuple") >>= _) _ _ s
 refine wpAny_bind (wpAny_isInstance hT isSubtype_tuple_tuple ?_)
 simp only[Bool.not_true,Bool.false_eq_true,if_false]
 refine wpAny_bind (wpAny_seqItems ho hd ?_)
 refine wpAny_bind ?_
 show wpAny _ _ (forIn items _ _) _ _ s
 rw[<- Array.forIn_toList]
 refine wpAny_forIn_list _ (fun rest r s'=>r.1=none/\s'=s/\∀ v∈rest,carriedByValue v=true) _ ?_ ?_ _ _ ⟨rfl,rfl,hi.byValue⟩
 ·rintro v rest r s' ⟨hr,rfl,hall⟩
  rw[eqIsQuiet_byValue _ (hall v List.mem_cons_self)]
  refine wpAny_bind (wpAny_pure ?_)
  simp only[Bool.not_true,Bool.false_eq_true,if_false]
  exact wpAny_pure ⟨rfl,rfl,fun u hu'=>hall u (List.mem_cons_of_mem _ hu')⟩
 ·rintro ⟨r1,r2⟩ s' ⟨hr,rfl,_⟩
  simp only at hr
  subst hr
  exact wpAny_pure h
theorem Qc4 {n:Nat}{k:KI}{v:Value}{Q:Bool->Shared->Prop} (hk:TIt prog w s.heap k v) (h:Q true s):wpAny (model prog w) A (eqIsQuiet (n + 1) v) Q E s:=by
 cases hk with
 | one i t=>rw[eqIsQuiet_byValue _ (show carriedByValue (Value.int i t)=true from rfl)];exact wpAny_pure h
 | row hk=>exact Qc3 hk h
theorem Qc5 {ks:List KI}{a:Addr}{Q:Bool->Shared->Prop} (hk:IsNestKey prog w s.heap ks a) (h:Q true s):wpAny (model prog w) A (eqIsQuiet 8 (.ref a)) Q E s:=by
 have hT:=hk.typeIs
 obtain⟨o,items,n,ho,_,hd,hi⟩:=hk
 unfold eqIsQuiet
 refine wpAny_bind (wpAny_specialOf hT F.slot_tuple_eq.lookup ?_)
 show wpAny _ _ (isInstance (.ref a) (.type "tuple") >>= _) _ _ s
 refine wpAny_bind (wpAny_isInstance hT isSubtype_tuple_tuple ?_)
 simp only[Bool.not_true,Bool.false_eq_true,if_false]
 refine wpAny_bind (wpAny_seqItems ho hd ?_)
 refine wpAny_bind ?_
 show wpAny _ _ (forIn items _ _) _ _ s
 rw[<- Array.forIn_toList]
 refine wpAny_forIn_list _ (fun rest r s'=>r.1=none/\s'=s/\∃ left,TIts prog w s.heap left rest) _ ?_ ?_ _ _ ⟨rfl,rfl,ks,hi⟩
 ·rintro v rest r s' ⟨hr,rfl,left,hall⟩
  cases hall with
  | cons h1 hl=>
   refine wpAny_bind (Qc4 (n:=6) h1 ?_)
   simp only[Bool.not_true,Bool.false_eq_true,if_false]
   exact wpAny_pure ⟨rfl,rfl,_,hl⟩
 ·rintro ⟨r1,r2⟩ s' ⟨hr,rfl,_⟩
  simp only at hr
  subst hr
  exact wpAny_pure h
end
def nestKind (prog:Program) (w:World):HeapKind prog w (List KI) where
 is:=IsNestKey prog w
 hash:=nestHash
 draws:=fun ks=>nestDraws ks + 1
 room:=fun A=>A.units + 1 < cLine
 inj:=fun hx hy=>hx.inj hy
 keeps:=fun x ho hd hs=>x.keeps ho hd hs
 pyHash:=fun hu hk h=>Qc0 hu hk h
 eqBool:=fun hu hx hy h=>Qc2 hu hx hy h
 quiet:=fun hk h=>Qc5 hk h
end MM
namespace MM
open PySem PyProof.Rows
def EpAt (h:Heap) (d:Addr) (n:Nat):Prop:=∃ o es,h.get? d=some o/\o.data=.dict es n
section
variable {prog:Program}{w:World}{K:Type} [DecidableEq K] {knd:HeapKind prog w K}{A:Around}{E:Value->Shared->Prop}{s:Shared}{d a:Addr}{k:K}{xs:List (K × Addr × Value)}
theorem Qc6 {v : Value} {Q : Unit -> Shared -> Prop} (hu : knd.room A) (hkey : knd.is s.heap k a) (hm : s.heap.DictOfH knd d xs) (hp : EpAt s.heap d xs.length) (hsz : xs.length <= sizeLine)
  (h:∀ h',h'.DictOfH knd d (storedH xs k a v)->EpAt h' d (storedH xs k a v).length->Heap.SameBut d s.heap h'->Q () { s with heap:=h',toks:=s.toks + knd.draws k }):
  wpAny (model prog w) A (dictSet d (.ref a) v) Q E s:=by
 obtain⟨o,es,ep,ho,hc,hd,he,his,hn⟩:=id hm
 obtain⟨o',es',ho',hd'⟩:=hp
 rw[ho]at ho';cases ho'
 rw[hd]at hd';cases hd'
 unfold dictSet
 refine wpAny_holding (wpAny_bind (knd.pyHash hu hkey ?_))
 unfold dictSetHashed
 refine wpAny_holding (wpAny_bind (wpAny_dictFind_heap (s:={ s with toks:=s.toks + knd.draws k }) hu hkey ho hd he his hn (fun hno=>?_) fun j p hj=>?_))
 ·have hnot:k∉xs.map (·.1):=not_mem_keys_of_get hno
  have e0:=atKey_none_of_get hno
  have e1:=storedH_new (a:=a) (v:=v) e0
  have e2:=size_of_entries he
  refine wpAny_bind (wpAny_rule (wpAny_updateDictKeys (hz:=by ac_nf) (s:={ s with toks:=s.toks + knd.draws k }) ho hd
   (h _ ⟨_,_,_,Heap.get?_update_self _ ho (Obj.isFreed_of_dict (Obj.data_mapDictKeys hd _)),hc.mapDictKeys _,Obj.data_mapDictKeys hd _,?_,?_,?_⟩ ?_ (Heap.SameBut.update ..))))
  ·rw[e1];simp[he,entryOfKey]
  ·rw[e1]
   intro x hx
   rcases List.mem_append.mp hx with hx | hx
   ·exact knd.keeps (his x hx) ho hd (Heap.SameBut.update ..)
   ·cases List.mem_singleton.mp hx
    exact knd.keeps hkey ho hd (Heap.SameBut.update ..)
  ·rw[e1,List.map_append,List.nodup_append]
   refine⟨hn,by simp,fun x hx y hy=>?_⟩
   cases List.mem_singleton.mp hy
   exact fun e=>hnot ((show x=k from e) ▸ hx)
  ·rw[e1,List.length_append];exact⟨_,_,Heap.get?_update_self _ ho (Obj.isFreed_of_dict (Obj.data_mapDictKeys hd _)),Obj.data_mapDictKeys hd _⟩
 ·have e0:=atKey_of_get hn hj
  have e1:=storedH_old e0 a v
  have ej:j < es.size:=by
   rw[size_of_entries he];exact (List.getElem?_eq_some_iff.mp hj).1
  have hes:(es.modify j fun e=>{ hash:=e.hash,key:=e.key,val:=v }).toList=(xs.map (putAt k v)).map (entryOfKey knd):=by
   apply List.ext_getElem?
   intro i
   rw[Array.getElem?_toList,Array.getElem?_modify,List.getElem?_map,List.getElem?_map]
   have ei:es[i]?=(xs[i]?).map (entryOfKey knd):=by rw[<- Array.getElem?_toList,he,List.getElem?_map]
   rw[ei]
   by_cases z:j=i
   ·subst z
    rw[if_pos rfl,hj]
    simp[putAt,entryOfKey]
   ·rw[if_neg z]
    cases hx:xs[i]? with
    | none=>rfl
    | some x=>
     have nk:x.1≠k:=fun q=>by
      have a1:(xs.map (·.1))[i]?=some k:=by rw[List.getElem?_map,hx,<- q];rfl
      have a2:(xs.map (·.1))[j]?=some k:=by rw[List.getElem?_map,hj];rfl
      exact z ((List.getElem?_inj (by rw[List.length_map];exact (List.getElem?_eq_some_iff.mp hj).1) hn).mp (a2.trans a1.symm))
     simp[putAt,nk]
  refine wpAny_bind (wpAny_rule (wpAny_bind (wpAny_updateDict (s:={ s with toks:=s.toks + knd.draws k }) ho hd (wpAny_point
   (h _ ⟨_,_,_,Heap.get?_update_self _ ho (Obj.isFreed_of_dict (Obj.data_mapDict hd _)),hc.mapDict _,Obj.data_mapDict hd _,?_,?_,?_⟩ ?_ (Heap.SameBut.update ..))))))
  ·rw[e1];exact hes
  ·rw[e1]
   intro x hx
   obtain⟨y,hy,e⟩:=List.mem_map.mp hx
   have q:=knd.keeps (his y hy) ho hd (Heap.SameBut.update s.heap d (Obj.mapDict fun x=>x.modify j fun e=>{ hash:=e.hash,key:=e.key,val:=v }))
   rw[<- e]
   unfold putAt
   split
   ·exact q
   ·exact q
  ·rw[e1,List.map_map]
   have:(xs.map ((fun x=>x.1) ∘ putAt k v))=xs.map (·.1):=List.map_congr_left fun x _=>by
    show (putAt k v x).1=x.1
    unfold putAt
    split<;>rfl
   rw[this];exact hn
  ·rw[e1,List.length_map];exact⟨_,_,Heap.get?_update_self _ ho (Obj.isFreed_of_dict (Obj.data_mapDict hd _)),Obj.data_mapDict hd _⟩
theorem Qc7 {v : Value} {Q : Unit -> Shared -> Prop} (hu : knd.room A.in1) (hkey : knd.is s.heap k a) (hm : s.heap.DictOfH knd d xs) (hp : EpAt s.heap d xs.length) (hsz : xs.length <= sizeLine)
  (h:∀ h',h'.DictOfH knd d (storedH xs k a v)->EpAt h' d (storedH xs k a v).length->Heap.SameBut d s.heap h'->Q () { s with heap:=h',toks:=s.toks + knd.draws k }):
  wpAny (model prog w) A (setItem (.ref d) (.ref a) v) Q E s:=by
 have T:=hm.typeIs
 unfold setItem
 refine wpAny_holding (wpAny_bind (wpAny_sequenceKey T (by decide) (wpAny_bind (wpAny_callSpecial?_slot T F.slot_dict_setitem (wpAny_call_entry F.slot_dict_setitem T F.entry_dict_setitem ?_ (F.args_dict_setitem_3 _ _ _))))))
 unfold Builtin.«dict.__setitem__»
 refine wpAny_bind (wpAny_notOrdered_dict T ?_)
 rw[if_neg (by simp)]
 show wpAny _ _ (dictSet d (.ref a) v >>= _) _ _ s
 refine wpAny_bind (Qc6 hu hkey hm hp hsz fun h' a1 a2 a3=>wpAny_pure ⟨_,rfl,wpAny_pure (h h' a1 a2 a3)⟩)
end
end MM
namespace MM
open PySem
inductive D where
 | non | bl (b:Bool) | int (i:Int) | str (x:Str) | tup (ds:List D) | lit (ds:List D) | ref (n:Nat) | dic (n:Nat) | exn (x:Str) (ds:List D)
inductive MO where
 | lst (ds:List D) | dct (b:Bool) (kvs:List (D × D))
abbrev Sto:=List MO
abbrev Exn:=D
inductive Rs (α:Type) where
 | ok (a:α) (s:Sto) | exc (x:Exn) (s:Sto) | bad
def M (α:Type):=Sto->Rs α
section
variable {α β:Type}
def ret (a:α):M α:=fun s=>.ok a s
def bnd (m:M α) (f:α->M β):M β:=fun s=>match m s with
 | .ok a s'=>f a s'
 | .exc x s'=>.exc x s'
 | .bad=>.bad
def bad:M α:=fun _=>.bad
@[irreducible] def chk (c:Prop) [Decidable c] (m:M α):M α:=if c then m else bad
end
abbrev Loc:=List (Option D)
abbrev CE:=Loc->M D
abbrev CT:=Loc->M Bool
abbrev CA:=Loc->M (List D)
inductive Flw where
 | next (l:Loc) | ret (d:D) | brk (l:Loc) | cnt (l:Loc)
abbrev CS:=Loc->M Flw
def lim:Nat:=2 ^ 24
def alloc (o:MO):M D:=fun s=>.ok (.ref s.length) (s++[o])
def getL (n:Nat):M (List D):=fun s=>match s[n]? with
 | some (.lst ds)=>.ok ds s
 | _=>.bad
def putL (n:Nat) (ds:List D):M Unit:=fun s=>match s[n]? with
 | some (.lst _)=>.ok () (s.set n (.lst ds))
 | _=>.bad
def getDc (n:Nat):M (Bool × List (D × D)):=fun s=>match s[n]? with
 | some (.dct b kvs)=>.ok (b,kvs) s
 | _=>.bad
def putDc (n:Nat) (b:Bool) (kvs:List (D × D)):M Unit:=fun s=>match s[n]? with
 | some (.dct c _)=>if b=c then .ok () (s.set n (.dct b kvs)) else .bad
 | _=>.bad
mutual
def eqK:D->D->Bool
 | .int i,.int j=>decide (i=j)
 | .str x,.str y=>decide (x=y)
 | .tup xs,.tup ys=>eqKs xs ys
 | _,_=>false
def eqKs:List D->List D->Bool
 | [],[]=>true
 | x::xs,y::ys=>eqK x y && eqKs xs ys
 | _,_=>false
end
def intsK:List D->Option (List Int)
 | []=>some []
 | .int i::ds=>(intsK ds).map (i::·)
 | _=>none
def rowsK:List D->Option (List (Int ⊕ List Int))
 | []=>some []
 | .tup xs::ds=>match intsK xs,rowsK ds with
  | some r,some rs=>some (.inr r::rs)
  | _,_=>none
 | .int i::ds=>(rowsK ds).map (.inl i::·)
 | _=>none
def stK:D->Option (List (Int ⊕ List Int))
 | .tup ds=>rowsK ds
 | _=>none
def kOk:Bool->D->Bool
 | false,.int _=>true
 | false,.str _=>true
 | true,d=>(stK d).isSome
 | _,_=>false
def lkK (kvs:List (D × D)) (k:D):Option D:=(kvs.find? fun p=>eqK p.1 k).map (·.2)
def ptK (kvs:List (D × D)) (k v:D):List (D × D):=if (kvs.any fun p=>eqK p.1 k)=true then kvs.map fun p=>if eqK p.1 k=true then (p.1,v) else p else kvs++[(k,v)]
def itemK (n:Nat) (k:D):M D:=bnd (getDc n) fun p=>chk (kOk p.1 k=true) (match lkK p.2 k with
 | some d=>ret d
 | none=>bad)
def storeK (n:Nat) (k v:D):M Unit:=bnd (getDc n) fun p=>chk (kOk p.1 k=true/\p.2.length < lim) (putDc n p.1 (ptK p.2 k v))
def hasK (n:Nat) (k:D):M Bool:=bnd (getDc n) fun p=>chk (kOk p.1 k=true) (ret (lkK p.2 k).isSome)
def seqOf:D->M (List D)
 | .tup ds=>ret ds
 | .lit ds=>ret ds
 | .ref n=>getL n
 | _=>bad
def ixN (n:Nat) (i:Int):Option Nat:=if 0<=i then (if i < n then some i.toNat else none) else (if -(n:Int)<=i then some (i + n).toNat else none)
def addD:D->D->M D
 | .int i,.int j=>ret (.int (i + j))
 | .str x,.str y=>chk (x.length + y.length<=lim) (ret (.str (x++y)))
 | .tup x,.tup y=>chk (x.length + y.length<=lim) (ret (.tup (x++y)))
 | .ref a,.ref b=>bnd (getL a) fun x=>bnd (getL b) fun y=>chk (x.length + y.length<=lim) (alloc (.lst (x++y)))
 | _,_=>bad
def subD:D->D->M D
 | .int i,.int j=>ret (.int (i - j))
 | _,_=>bad
def mulOk (i j:Int):Prop:=(-(2 ^ 64) < i/\i < 2 ^ 64)\/(-(2 ^ 64) < j/\j < 2 ^ 64)
instance (i j:Int):Decidable (mulOk i j):=by unfold mulOk;infer_instance
def mulD:D->D->M D
 | .int i,.int j=>chk (mulOk i j) (ret (.int (i * j)))
 | _,_=>bad
def fdivD:D->D->M D
 | .int i,.int j=>chk (0 < j/\j < 1073741824) (ret (.int (i / j)))
 | _,_=>bad
def modD:D->D->M D
 | .int i,.int j=>chk (0 < j) (ret (.int (i % j)))
 | _,_=>bad
def powD:D->D->M D
 | .int i,.int j=>chk (0<=j/\j<=1000000/\i.natAbs < 2 ^ 64) (ret (.int (i ^ j.toNat)))
 | _,_=>bad
def negD:D->M D
 | .int i=>ret (.int (-i))
 | _=>bad
def cmpI (p:Int->Int->Bool):D->D->M D
 | .int i,.int j=>ret (.bl (p i j))
 | _,_=>bad
def ltD:=cmpI fun i j=>decide (i < j)
def leD:=cmpI fun i j=>decide (i<=j)
def gtD:=cmpI fun i j=>decide (j < i)
def geD:=cmpI fun i j=>decide (j<=i)
def allF (f:D->D->Option Bool):List D->List D->Option Bool
 | [],[]=>some true
 | x::xs,y::ys=>match f x y with
  | some true=>allF f xs ys
  | some false=>(allF f xs ys).map fun _=>false
  | none=>none
 | _::_,[]=>some false
 | [],_::_=>some false
def eqS (g:List D->List D->Option Bool):D->D->Option Bool
 | .non,.non=>some true
 | .non,.bl _=>some false
 | .non,.int _=>some false
 | .non,.str _=>some false
 | .non,.tup _=>some false
 | .bl _,.non=>some false
 | .bl a,.bl b=>some (a == b)
 | .bl a,.int b=>some ((if a then 1 else 0) == b)
 | .bl _,.str _=>some false
 | .bl _,.tup _=>some false
 | .int _,.non=>some false
 | .int a,.bl b=>some (a == (if b then 1 else 0))
 | .int a,.int b=>some (a == b)
 | .int _,.str _=>some false
 | .int _,.tup _=>some false
 | .str _,.non=>some false
 | .str _,.bl _=>some false
 | .str _,.int _=>some false
 | .str a,.str b=>some (a == b)
 | .str _,.tup _=>some false
 | .tup _,.non=>some false
 | .tup _,.bl _=>some false
 | .tup _,.int _=>some false
 | .tup _,.str _=>some false
 | .tup xs,.tup ys=>g xs ys
 | _,_=>none
def eqF:Nat->D->D->Option Bool
 | 0,d,e=>eqS (fun _ _=>none) d e
 | n + 1,d,e=>eqS (allF (eqF n)) d e
def eqB (d e:D):M Bool:=match d,e with
 | .ref a,.ref b=>bnd (getL a) fun x=>bnd (getL b) fun y=>match (if x.length=y.length then allF (eqF 50) x y else some false) with
  | some r=>ret r
  | none=>bad
 | .ref a,.non=>bnd (getL a) fun _=>ret false
 | .non,.ref a=>bnd (getL a) fun _=>ret false
 | d,e=>match eqF 50 d e with
  | some r=>ret r
  | none=>bad
def eqD (d e:D):M D:=bnd (eqB d e) fun b=>ret (.bl b)
def neD (d e:D):M D:=bnd (eqB d e) fun b=>ret (.bl !b)
def isND:D->M D
 | .non=>ret (.bl true)
 | _=>ret (.bl false)
def itemD (ds:List D) (i:Int):M D:=match ixN ds.length i with
 | some k=>match ds[k]? with
  | some d=>ret d
  | none=>bad
 | none=>bad
def subsD:D->D->M D
 | .tup ds,.int i=>itemD ds i
 | .lit ds,.int i=>itemD ds i
 | .ref n,.int i=>bnd (getL n) fun ds=>itemD ds i
 | .dic n,k=>itemK n k
 | .str x,.int i=>chk (x.length<=lim) (match ixN x.length i with
  | some k=>match x.cps.toList[k]? with
   | some c=>ret (.str ⟨#[c]⟩)
   | none=>bad
  | none=>bad)
 | _,_=>bad
def truD:D->M Bool
 | .non=>ret false
 | .bl b=>ret b
 | .int i=>ret (i != 0)
 | .str x=>chk (x.length<=lim) (ret ((x.length:Int) != 0))
 | .tup ds=>ret (!ds.isEmpty)
 | .lit ds=>ret (!ds.isEmpty)
 | .ref n=>bnd (getL n) fun ds=>ret (!ds.isEmpty)
 | .dic _=>bad
 | .exn _ _=>bad
def cVar (i:Nat):CE:=fun l=>match l[i]? with
 | some (some d)=>ret d
 | _=>bad
def cCon (d:D):CE:=fun _=>ret d
def c1 (g:D->M D) (a:CE):CE:=fun l=>bnd (a l) g
def c2 (g:D->D->M D) (a b:CE):CE:=fun l=>bnd (a l) fun x=>bnd (b l) fun y=>g x y
def cNil:CA:=fun _=>ret []
def cCons (a:CE) (r:CA):CA:=fun l=>bnd (a l) fun x=>bnd (r l) fun xs=>ret (x::xs)
def cTup (a:CA):CE:=fun l=>bnd (a l) fun xs=>chk (xs.length<=lim) (ret (.tup xs))
def cChain (f g:D->D->M D) (a b c:CE):CE:=fun l=>bnd (a l) fun x=>bnd (b l) fun y=>bnd (f x y) fun z=>match z with
 | .bl true=>bnd (c l) fun w=>g y w
 | .bl false=>ret (.bl false)
 | _=>bad
def cAnd (a b:CE):CE:=fun l=>bnd (a l) fun x=>match x with
 | .bl true=>b l
 | .bl false=>ret (.bl false)
 | _=>bad
def cNot (a:CE):CE:=fun l=>bnd (a l) fun x=>match x with
 | .bl b=>ret (.bl !b)
 | _=>bad
def cCall (g:List D->M D) (a:CA):CE:=fun l=>bnd (a l) g
def tVal (a:CE):CT:=fun l=>bnd (a l) truD
def tCmpB (a:CE):CT:=fun l=>bnd (a l) fun x=>match x with
 | .bl b=>ret b
 | _=>bad
def tAndB (a b:CT):CT:=fun l=>bnd (a l) fun c=>if c=true then b l else ret false
def tOrB (a b:CT):CT:=fun l=>bnd (a l) fun c=>if c=true then ret true else b l
def tNotB (a:CT):CT:=fun l=>bnd (a l) fun c=>ret !c
structure Wk where
 ds:List D
 same:Sto->Prop
abbrev CI:=Loc->M Wk
open Classical in
def chkS (p:Sto->Prop):M Unit:=fun s=>if p s then .ok () s else .bad
def anySt:Sto->Prop:=fun _=>True
def sameL (n:Nat) (ds:List D):Sto->Prop:=fun s=>s[n]?=some (.lst ds)
def iSeq (a:CE):CI:=fun l=>bnd (a l) fun x=>match x with
 | .tup ds=>ret ⟨ds,anySt⟩
 | .lit ds=>ret ⟨ds,anySt⟩
 | .ref n=>bnd (getL n) fun ds=>ret ⟨ds,sameL n ds⟩
 | _=>bad
def rngD (lo:Int) (n:Nat):List D:=(List.range n).map fun k=>.int (lo + (k:Nat))
def iRng1 (a:CE):CI:=fun l=>bnd (a l) fun x=>match x with
 | .int j=>chk (-(2 ^ 62)<=j/\j < 2 ^ 62) (ret ⟨rngD 0 j.toNat,anySt⟩)
 | _=>bad
def iRng2 (a b:CE):CI:=fun l=>bnd (a l) fun x=>bnd (b l) fun y=>match x,y with
 | .int i,.int j=>chk ((-(2 ^ 62)<=i/\i < 2 ^ 62)/\(-(2 ^ 62)<=j/\j < 2 ^ 62)) (ret ⟨rngD i (j - i).toNat,anySt⟩)
 | _,_=>bad
def iEnum (a:CE):CI:=fun l=>bnd (a l) fun x=>match x with
 | .tup ds=>ret ⟨(rngD 0 ds.length).zipWith (fun i d=>.tup [i,d]) ds,anySt⟩
 | _=>bad
abbrev CG:=D->Loc->M Loc
def gVar (i:Nat):CG:=fun d l=>ret (l.set i (some d))
def gsNil:List D->Loc->M Loc
 | [],l=>ret l
 | _,_=>bad
def gsCons (g:CG) (r:List D->Loc->M Loc):List D->Loc->M Loc
 | d::ds,l=>bnd (g d l) fun l'=>r ds l'
 | _,_=>bad
def gTupD (n:Nat) (r:List D->Loc->M Loc):CG:=fun d l=>match d with
 | .tup ds=>chk (ds.length=n) (r ds l)
 | _=>bad
def capt (n:Nat) (caps:List Nat) (l:Loc):Loc:=List.replicate n none++caps.map fun i=>(l[i]?).join
def collect (g:CG) (t:CT) (e:CE) (same:Sto->Prop):List D->Loc->M (List D)
 | [],_=>bnd (chkS same) fun _=>ret []
 | d::ds,l=>bnd (chkS same) fun _=>bnd (g d l) fun l'=>bnd (t l') fun b=>if b=true then bnd (e l') fun x=>bnd (collect g t e same ds l') fun xs=>ret (x::xs) else collect g t e same ds l'
def aComp (n:Nat) (caps:List Nat) (i:CI) (g:CG) (t:CT) (e:CE):CA:=fun l=>bnd (i l) fun w=>chk (w.ds.length<=lim) (collect g t e w.same w.ds (capt n caps l))
def sIx (n d:Nat):Option Int->Nat
 | none=>d
 | some v=>if v < 0 then (v + (n:Int)).toNat else min v.toNat n
def cutD (xs:List D) (lo hi:Option Int):List D:=(xs.drop (sIx xs.length 0 lo)).take (sIx xs.length xs.length hi - sIx xs.length 0 lo)
abbrev CO:=Loc->M (Option Int)
def oNone:CO:=fun _=>ret none
def oSome (a:CE):CO:=fun l=>bnd (a l) fun x=>match x with
 | .int i=>ret (some i)
 | _=>bad
def aSlice (a:CE) (lo hi:CO):CA:=fun l=>bnd (a l) fun x=>bnd (lo l) fun i=>bnd (hi l) fun j=>match x with
 | .lit ds=>ret (cutD ds i j)
 | .ref n=>bnd (getL n) fun ds=>ret (cutD ds i j)
 | _=>bad
def tTrue:CT:=fun _=>ret true
def cKeep (a:CA):CE:=fun l=>bnd (a l) fun ds=>alloc (.lst ds)
def aDisp (a:CA):CA:=fun l=>bnd (a l) fun xs=>chk (xs.length<=lim) (ret xs)
def cTmp (g:List D->M D) (a:CA):CE:=fun l=>bnd (a l) g
def sNext:CS:=fun l=>ret (.next l)
def sSeq (a b:CS):CS:=fun l=>bnd (a l) fun f=>match f with
 | .next l'=>b l'
 | f=>ret f
def sAsg (g:CG) (a:CE):CS:=fun l=>bnd (a l) fun d=>bnd (g d l) fun l'=>ret (.next l')
def sRet (a:CE):CS:=fun l=>bnd (a l) fun d=>ret (.ret d)
def sExp (a:CE):CS:=fun l=>bnd (a l) fun _=>ret (.next l)
def sIf (t:CT) (a b:CS):CS:=fun l=>bnd (t l) fun c=>if c=true then a l else b l
def sBad:CS:=fun _=>bad
def forD (g:CG) (b:CS) (same:Sto->Prop):List D->CS
 | [],l=>bnd (chkS same) fun _=>ret (.next l)
 | d::ds,l=>bnd (chkS same) fun _=>bnd (g d l) fun l'=>bnd (b l') fun f=>match f with
  | .next l2=>forD g b same ds l2
  | .cnt l2=>forD g b same ds l2
  | .brk l2=>ret (.next l2)
  | .ret d=>ret (.ret d)
def sFor (i:CI) (g:CG) (b:CS):CS:=fun l=>bnd (i l) fun w=>forD g b w.same w.ds l
def flwD:Flw->M D
 | .ret d=>ret d
 | .next _=>ret .non
 | _=>bad
def runDef (n:Nat) (body:CS) (ds:List D):M D:=bnd (body (ds.map some++List.replicate (n - ds.length) none)) flwD
def setItemD (o i v:D):M Unit:=match o,i with
 | .ref n,.int k=>bnd (getL n) fun ds=>match ixN ds.length k with
  | some j=>putL n (ds.set j v)
  | none=>bad
 | .dic n,k=>storeK n k v
 | _,_=>bad
def gSubD (o i:CE):CG:=fun v l=>bnd (o l) fun y=>bnd (i l) fun z=>bnd (setItemD y z v) fun _=>ret l
def lenD:D->M D
 | .tup ds=>ret (.int ds.length)
 | .lit ds=>ret (.int ds.length)
 | .ref n=>bnd (getL n) fun ds=>ret (.int ds.length)
 | .str x=>chk (x.length<=lim) (ret (.int x.length))
 | .dic n=>bnd (getDc n) fun p=>ret (.int p.2.length)
 | _=>bad
def appendL (n:Nat) (v:D):M D:=bnd (getL n) fun ds=>chk (ds.length < lim) (bnd (putL n (ds++[v])) fun _=>ret .non)
def cAppend (a b:CE):CE:=fun l=>bnd (a l) fun x=>match x with
 | .ref n=>bnd (b l) fun v=>appendL n v
 | _=>bad
def tupleD:D->M D
 | .tup ds=>ret (.tup ds)
 | .lit ds=>ret (.tup ds)
 | .ref n=>bnd (getL n) fun ds=>ret (.tup ds)
 | _=>bad
def isTy:D->Option (List String)
 | .non=>some ["NoneType"]
 | .bl _=>some ["bool","int"]
 | .int _=>some ["int"]
 | .str _=>some ["str"]
 | .tup _=>some ["tuple"]
 | .lit _=>some ["list"]
 | .ref _=>some ["list"]
 | .dic _=>none
 | .exn _ _=>none
def numsL:List D->Option (List Int)
 | []=>some []
 | .int i::ds=>(numsL ds).map (i::·)
 | _=>none
def boolsL:List D->Option (List Bool)
 | []=>some []
 | .bl b::ds=>(boolsL ds).map (b::·)
 | _=>none
def maxD (ds:List D):M D:=match numsL ds with
 | some (n::ns)=>ret (.int (ns.foldl max n))
 | _=>bad
def allD (ds:List D):M D:=match boolsL ds with
 | some bs=>ret (.bl (bs.all id))
 | _=>bad
def tupL (ds:List D):M D:=ret (.tup ds)
def isInst (ts:List String) (d:D):M D:=match isTy d with
 | some us=>ret (.bl (ts.any fun t=>us.contains t))
 | none=>bad
def flatD:D->Bool
 | .non=>true
 | .bl _=>true
 | .int _=>true
 | .str _=>true
 | _=>false
def eqFl:D->D->Bool
 | .non,.non=>true
 | .bl a,.bl b=>a == b
 | .bl a,.int b=>(if a then 1 else 0) == b
 | .int a,.bl b=>a == (if b then 1 else 0)
 | .int a,.int b=>a == b
 | .str a,.str b=>a == b
 | _,_=>false
def inL (x:D) (ds:List D):M D:=chk (flatD x=true/\ds.all flatD=true) (ret (.bl (ds.any fun d=>eqFl d x)))
def inD (x y:D):M D:=match y with
 | .dic n=>bnd (hasK n x) fun b=>ret (.bl b)
 | y=>bnd (seqOf y) (inL x)
def listD (d:D):M D:=bnd (seqOf d) fun ds=>alloc (.lst ds)
end MM
namespace MM
open PySem PySem.Spec PyProof.Rows L2
abbrev St:=L2.St
def FzL (K:PySem.W.Frag) (H:Hp) (a:Addr) (xs:List V):Prop:=
 (∃ o,H a=some (.frz o (.lst xs))) \/
  ∃ (o:Obj) (its:Array Value) (n:Nat),K.lookup a=some o/\o.cls=.type "list"/\o.dict=none/\o.data=.seq its n/\its.size<=sizeLine/\Vals xs its.toList
theorem FzL.seq {K:PySem.W.Frag}{H:Hp}{a:Addr}{xs:List V} (h:FzL K H a xs):SqL K H a xs:=by
 rcases h with ⟨o,h⟩ | h
 ·exact .inl (.inr ⟨o,h⟩)
 ·exact .inr h
def kO:HO->Nat
 | .lst _=>0
 | .dK _=>1
 | .ext _=>2
 | _=>3
abbrev NK:=List KI
def nH (k:NK):Int:=nestHash k
def nEnt (x:NK × Addr × Value):DictEntry:=⟨nH x.1,.ref x.2.1,x.2.2⟩
def NOk (a:Addr) (es:List (NK × Addr × V)) (h:Heap):Prop:=es.length<=sizeLine/\(a == sysModules)=false/\∃ xs:List (NK × Addr × Value),Paired (fun (p:NK × Addr × V) (q:NK × Addr × Value)=>p.1=q.1/\p.2.1=q.2.1/\RelV p.2.2 q.2.2) es xs /\
 ∃ o es' ep,h.get? a=some o/\o.ExactDict/\o.data=.dict es' ep/\es'.toList=xs.map nEnt/\(xs.map (·.1)).Nodup/\ep=xs.length
def nstO (a:Addr) (es:List (NK × Addr × V)):HO:=.ext (NOk a es)
def rowD (r:List Int):D:=.tup (r.map .int)
def itD:KI->D
 | .inl i=>.int i
 | .inr r=>rowD r
def stD (k:NK):D:=.tup (k.map itD)
def keyD:Key->D
 | .inl i=>.int i
 | .inr x=>.str x
mutual
inductive Rep (K:PySem.W.Frag) (ρ:List Addr) (H:Hp):V->D->Prop
 | non:Rep K ρ H .non .non
 | bl (b:Bool):Rep K ρ H (.bl b) (.bl b)
 | int (i:Int):Rep K ρ H (.int i) (.int i)
 | str (x:Str):Rep K ρ H (.str x) (.str x)
 | tup {a:Addr}{vs:List V}{ds:List D} (h:SqT K H a vs) (r:Reps K ρ H vs ds):Rep K ρ H (.ref a) (.tup ds)
 | lit {a:Addr}{vs:List V}{ds:List D} (h:FzL K H a vs) (r:Reps K ρ H vs ds):Rep K ρ H (.ref a) (.lit ds)
 | ref {a:Addr}{n:Nat} (k:∃ o,H a=some o/\kO o=0) (h:ρ[n]?=some a):Rep K ρ H (.ref a) (.ref n)
 | dic {a:Addr}{n:Nat} (k:∃ o,H a=some o/\(kO o=1\/kO o=2)) (h:ρ[n]?=some a):Rep K ρ H (.ref a) (.dic n)
 | exn0 {a C:Addr}{x:Str} (g:PySem.W.nsIn K mainGlobals x=some (some (.ref C))) (h:∃ o,H a=some (.frz o (.own a))/\o.cls=.ref C):Rep K ρ H (.ref a) (.exn x [])
 | exn {a C dx:Addr}{x f:Str}{v:V}{d:D} (g:PySem.W.nsIn K mainGlobals x=some (some (.ref C))) (h:∃ o,H a=some (.frz o (.own a))/\o.cls=.ref C/\o.dict=some dx/\∃ vs,o.data=.fields vs) (h2:H dx=some (.xd [(f,v)])) (r:Rep K ρ H v d):Rep K ρ H (.ref a) (.exn x [.str f,d])
inductive Reps (K:PySem.W.Frag) (ρ:List Addr) (H:Hp):List V->List D->Prop
 | nil:Reps K ρ H [] []
 | cons {v:V}{d:D}{vs:List V}{ds:List D} (r:Rep K ρ H v d) (t:Reps K ρ H vs ds):Reps K ρ H (v::vs) (d::ds)
end
def ObR (K:PySem.W.Frag) (ρ:List Addr) (H:Hp) (a:Addr):MO->Prop
 | .lst ds=>∃ vs,H a=some (.lst vs)/\Reps K ρ H vs ds
 | .dct false kvs=>∃ es,H a=some (.dK es)/\Paired (fun (p:Key × V) (q:D × D)=>keyD p.1=q.1/\Rep K ρ H p.2 q.2) es kvs
 | .dct true kvs=>∃ es,H a=some (nstO a es)/\Paired (fun (p:NK × Addr × V) (q:D × D)=>stD p.1=q.1/\Rep K ρ H (.ref p.2.1) q.1/\Rep K ρ H p.2.2 q.2) es kvs
structure SR (K:PySem.W.Frag) (ρ:List Addr) (H:Hp) (st:Sto):Prop where
 len:ρ.length=st.length
 nd:ρ.Nodup
 ob:∀ (n:Nat) (a:Addr) (o:MO),ρ[n]?=some a->st[n]?=some o->ObR K ρ H a o
def LR (K:PySem.W.Frag) (ρ:List Addr) (H:Hp) (σ:St) (l:Loc):Prop:=
 σ.length=l.length/\∀ (i:Nat) (d:D),l[i]?=some (some d)->∃ v,σ[i]?=some (some v)/\Rep K ρ H v d
structure Ex (ρ:List Addr) (H:Hp) (ρ':List Addr) (H':Hp):Prop where
 pre:∃ τ,ρ'=ρ++τ/\∀ a∈τ,H a=none
 fix:∀ a o,kO o=3->H a=some o->H' a=some o
 oth:∀ a o,a∉ρ->H a=some o->H' a=some o
 knd:∀ a o,H a=some o->∃ o',H' a=some o'/\kO o'=kO o
structure Up (ρ:List Addr) (H:Hp) (ρ':List Addr) (H':Hp):Prop where
 pre:∃ τ,ρ'=ρ++τ
 fix:∀ a o,kO o=3->H a=some o->H' a=some o
 knd:∀ a o,H a=some o->∃ o',H' a=some o'/\kO o'=kO o
section
variable {K:PySem.W.Frag}{ρ ρ1 ρ2:List Addr}{H H1 H2:Hp}{st st1:Sto}{v:V}{d:D}{vs:List V}{ds:List D}{a:Addr}
theorem Ex.lst (x:Ex ρ H ρ1 H1) (a:Addr) (xs:List V) (na:a∉ρ) (h:H a=some (.lst xs)):H1 a=some (.lst xs):=x.oth a _ na h
theorem Ex.trk (x:Ex ρ H ρ1 H1) (a:Addr) (o:HO) (h:H a=some o):H1 a≠none:=by
 obtain⟨o',e,_⟩:=x.knd a o h
 rw[e];exact fun z=>nomatch z
theorem Ex.up (x:Ex ρ H ρ1 H1):Up ρ H ρ1 H1:=⟨let ⟨τ,e,_⟩:=x.pre;⟨τ,e⟩,x.fix,x.knd⟩
theorem Up.grow {τ:List Addr}:Up ρ H (ρ++τ) H:=⟨⟨τ,rfl⟩,fun _ _ _ e=>e,fun _ o e=>⟨o,e,rfl⟩⟩
theorem Ex.refl:Ex ρ H ρ H:=⟨⟨[],by simp,by simp⟩,fun _ _ _ e=>e,fun _ _ _ e=>e,fun _ o e=>⟨o,e,rfl⟩⟩
theorem Ex.trans (x:Ex ρ H ρ1 H1) (y:Ex ρ1 H1 ρ2 H2):Ex ρ H ρ2 H2:=by
 obtain⟨τ1,rfl,f1⟩:=x.pre
 obtain⟨τ2,rfl,f2⟩:=y.pre
 refine⟨⟨τ1++τ2,by simp,fun a ha=>?_⟩,fun a o no e=>y.fix a o no (x.fix a o no e),fun a o na e=>?_,fun a o e=>?_⟩
 ·rcases List.mem_append.mp ha with ha | ha
  ·exact f1 a ha
  ·cases q:H a with
   | none=>rfl
   | some o=>exact absurd (f2 a ha) (x.trk a o q)
 ·refine y.oth a o (fun z=>?_) (x.oth a o na e)
  rcases List.mem_append.mp z with z | z
  ·exact na z
  ·rw[f1 a z]at e;cases e
 ·obtain⟨o1,e1,k1⟩:=x.knd a o e
  obtain⟨o2,e2,k2⟩:=y.knd a o1 e1
  exact⟨o2,e2,k2.trans k1⟩
theorem Ex.new {o:HO} (h:H a=none):Ex ρ H ρ (upd H a o):=
 ⟨⟨[],by simp,by simp⟩,fun b u _ e=>by rw[Qaj (Qal e h)];exact e,fun b u _ e=>by rw[Qaj (Qal e h)];exact e,
  fun b u e=>⟨u,by rw[Qaj (Qal e h)];exact e,rfl⟩⟩
theorem Ex.newO {o:HO} (h:H a=none):Ex ρ H (ρ++[a]) (upd H a o):=
 ⟨⟨[a],rfl,fun b hb=>by rw[List.mem_singleton]at hb;rw[hb];exact h⟩,(Ex.new (ρ:=ρ) h).fix,(Ex.new (ρ:=ρ) h).oth,(Ex.new (ρ:=ρ) h).knd⟩
theorem Ex.newL {vs:List V} (h:H a=none):Ex ρ H (ρ++[a]) (upd H a (.lst vs)):=Ex.newO h
theorem SqT.mono (x:Up ρ H ρ1 H1) (h:SqT K H a vs):SqT K H1 a vs:=by
 rcases h with h | h
 ·rcases h with h | ⟨o,h⟩
  ·exact .inl (.inl (x.fix a _ rfl h))
  ·exact .inl (.inr ⟨o,x.fix a _ rfl h⟩)
 ·exact .inr h
theorem FzL.mono (x:Up ρ H ρ1 H1) (h:FzL K H a vs):FzL K H1 a vs:=by
 rcases h with ⟨o,h⟩ | h
 ·exact .inl ⟨o,x.fix a _ rfl h⟩
 ·exact .inr h
theorem Qc8 {α:Type}{l τ:List α}{n:Nat}{a:α} (h:l[n]?=some a):(l++τ)[n]?=some a:=by
 rw[List.getElem?_append_left (List.getElem?_eq_some_iff.mp h).1];exact h
mutual
theorem Rep.up (x:Up ρ H ρ1 H1):∀ {v:V}{d:D},Rep K ρ H v d->Rep K ρ1 H1 v d
 | _,_,.non=>.non
 | _,_,.bl b=>.bl b
 | _,_,.int i=>.int i
 | _,_,.str y=>.str y
 | _,_,.tup h r=>.tup (SqT.mono x h) (Reps.up x r)
 | _,_,.lit h r=>.lit (FzL.mono x h) (Reps.up x r)
 | _,_,.ref ⟨o,ho,hk⟩ h=>by
  obtain⟨τ,e⟩:=x.pre
  obtain⟨o',ho',hk'⟩:=x.knd _ o ho
  exact .ref ⟨o',ho',hk'.trans hk⟩ (by rw[e];exact Qc8 h)
 | _,_,.dic ⟨o,ho,hk⟩ h=>by
  obtain⟨τ,e⟩:=x.pre
  obtain⟨o',ho',hk'⟩:=x.knd _ o ho
  exact .dic ⟨o',ho',by rw[hk'];exact hk⟩ (by rw[e];exact Qc8 h)
 | _,_,.exn0 g ⟨o,ho,hc⟩=>.exn0 g ⟨o,x.fix _ _ rfl ho,hc⟩
 | _,_,.exn g ⟨o,ho,hc⟩ h2 r=>.exn g ⟨o,x.fix _ _ rfl ho,hc⟩ (x.fix _ _ rfl h2) (Rep.up x r)
theorem Reps.up (x:Up ρ H ρ1 H1):∀ {vs:List V}{ds:List D},Reps K ρ H vs ds->Reps K ρ1 H1 vs ds
 | _,_,.nil=>.nil
 | _,_,.cons r t=>.cons (Rep.up x r) (Reps.up x t)
end
theorem Rep.mono (r:Rep K ρ H v d) (x:Ex ρ H ρ1 H1):Rep K ρ1 H1 v d:=r.up x.up
theorem Reps.mono (r:Reps K ρ H vs ds) (x:Ex ρ H ρ1 H1):Reps K ρ1 H1 vs ds:=r.up x.up
theorem Reps.length:∀ {vs:List V}{ds:List D},Reps K ρ H vs ds->vs.length=ds.length
 | _,_,.nil=>rfl
 | _,_,.cons _ t=>by simp[Reps.length t]
theorem Reps.get:∀ {vs:List V}{ds:List D}{i:Nat}{d:D},Reps K ρ H vs ds->ds[i]?=some d->∃ v,vs[i]?=some v/\Rep K ρ H v d
 | _,_,_,_,.nil,e=>by simp at e
 | _,_,0,_,.cons r _,e=>by simp at e;subst e;exact⟨_,rfl,r⟩
 | _,_,i + 1,_,.cons _ t,e=>by
  obtain⟨v,h1,h2⟩:=Reps.get (i:=i) t (by simpa using e)
  exact⟨v,by simpa using h1,h2⟩
theorem Reps.app:∀ {vs ws:List V}{ds es:List D},Reps K ρ H vs ds->Reps K ρ H ws es->Reps K ρ H (vs++ws) (ds++es)
 | _,_,_,_,.nil,s=>s
 | _,_,_,_,.cons r t,s=>.cons r (Reps.app t s)
theorem Reps.set:∀ {vs:List V}{ds:List D}{v:V}{d:D} (i:Nat),Reps K ρ H vs ds->Rep K ρ H v d->Reps K ρ H (vs.set i v) (ds.set i d)
 | _,_,_,_,_,.nil,_=>.nil
 | _,_,_,_,0,.cons _ t,r=>.cons r t
 | _,_,_,_,i + 1,.cons q t,r=>.cons q (Reps.set i t r)
theorem Reps.take:∀ {vs:List V}{ds:List D} (n:Nat),Reps K ρ H vs ds->Reps K ρ H (vs.take n) (ds.take n)
 | _,_,0,_=>.nil
 | _,_,_ + 1,.nil=>.nil
 | _,_,n + 1,.cons r t=>.cons r (Reps.take n t)
theorem Reps.drop:∀ {vs:List V}{ds:List D} (n:Nat),Reps K ρ H vs ds->Reps K ρ H (vs.drop n) (ds.drop n)
 | _,_,0,r=>r
 | _,_,_ + 1,.nil=>.nil
 | _,_,n + 1,.cons _ t=>Reps.drop n t
theorem LR.mono {σ:St}{l:Loc} (x:Ex ρ H ρ1 H1) (h:LR K ρ H σ l):LR K ρ1 H1 σ l:=
 ⟨h.1,fun i d e=>let ⟨v,e1,r⟩:=h.2 i d e;⟨v,e1,r.mono x⟩⟩
theorem SR.at (s:SR K ρ H st) {n:Nat}{o:MO} (e:st[n]?=some o):∃ a,ρ[n]?=some a/\ObR K ρ H a o:=by
 have hl:n < ρ.length:=by rw[s.len];exact (List.getElem?_eq_some_iff.mp e).1
 have q:ρ[n]?=some ρ[n]:=List.getElem?_eq_getElem hl
 exact⟨_,q,s.ob n _ o q e⟩
theorem SR.seq (s:SR K ρ H st) {n:Nat} (e:st[n]?=some (.lst ds)):∃ a vs,ρ[n]?=some a/\H a=some (.lst vs)/\Reps K ρ H vs ds:=by
 obtain⟨a,h,vs,q,r⟩:=s.at e
 exact⟨a,vs,h,q,r⟩
theorem ObR.ex {o:MO} (h:ObR K ρ H a o):∃ u,H a=some u:=by
 cases o with
 | lst ds=>obtain⟨vs,q,_⟩:=h;exact⟨_,q⟩
 | dct b kvs=>cases b<;>(obtain⟨vs,q,_⟩:=h;exact⟨_,q⟩)
theorem SR.fresh (s:SR K ρ H st) (h:H a=none):a∉ρ:=fun z=>by
 obtain⟨n,hn⟩:=List.getElem?_of_mem z
 have hl:n < st.length:=by rw[<- s.len];exact (List.getElem?_eq_some_iff.mp hn).1
 obtain⟨u,q⟩:=ObR.ex (s.ob n a _ hn (List.getElem?_eq_getElem hl))
 rw[h]at q;cases q
theorem Qc9 {n:Nat}{xs:List D}{s':Sto} (h:getL n st=.ok xs s'):s'=st/\st[n]?=some (.lst xs):=by
 unfold getL at h
 cases e:st[n]? with
 | none=>rw[e]at h;cases h
 | some o=>
  rw[e]at h
  cases o with
  | lst ds=>cases h;exact⟨rfl,rfl⟩
  | dct _ _=>cases h
theorem Paired.mapS {α β:Type}{F G:α->β->Prop}:∀ {l₁:List α}{l₂:List β},Paired F l₁ l₂->(∀ a b,F a b->G a b)->Paired G l₁ l₂
 | _,_,.nil,_=>.nil
 | _,_,.cons r t,f=>.cons (f _ _ r) (Paired.mapS t f)
theorem ObR.mono {o:MO} (x:Up ρ H ρ1 H1) (h:ObR K ρ H a o) (hk:∀ u,H a=some u->H1 a=some u):ObR K ρ1 H1 a o:=by
 cases o with
 | lst ds=>
  obtain⟨vs,q,r⟩:=h
  exact⟨vs,hk _ q,r.up x⟩
 | dct b kvs=>
  cases b with
  | false=>
   obtain⟨es,q,r⟩:=h
   exact⟨es,hk _ q,Paired.mapS r fun p q z=>⟨z.1,z.2.up x⟩⟩
  | true=>
   obtain⟨es,q,r⟩:=h
   exact⟨es,hk _ q,Paired.mapS r fun p q z=>⟨z.1,z.2.1.up x,z.2.2.up x⟩⟩
theorem SR.new {o:HO} (s:SR K ρ H st) (h:H a=none):SR K ρ (upd H a o) st:=
 ⟨s.len,s.nd,fun n b ob e1 e2=>ObR.mono (o:=ob) (Ex.new (ρ:=ρ) h).up (s.ob n b ob e1 e2) fun vs q=>by rw[Qaj (Qal q h)];exact q⟩
theorem SR.keepO {o':MO} (s:SR K ρ H st) (na:a∉ρ) (r:ObR K ρ H a o'):SR K (ρ++[a]) H (st++[o']):=by
 have hl:=s.len
 have old:∀ (n:Nat) (b:Addr),(ρ++[a])[n]?=some b->(n < ρ.length/\ρ[n]?=some b)\/(n=ρ.length/\b=a):=fun n b e=>by
  by_cases hn:n < ρ.length
  ·rw[List.getElem?_append_left hn]at e;exact .inl ⟨hn,e⟩
  ·rw[List.getElem?_append_right (by ac_nf)]at e
   have hz:n - ρ.length=0:=by
    cases q:n - ρ.length with
    | zero=>rfl
    | succ k=>rw[q]at e;simp at e
   rw[hz]at e
   simp at e
   exact .inr ⟨by ac_nf,e.symm⟩
 refine⟨by simp[hl],List.nodup_append.mpr ⟨s.nd,by simp,fun x hx y hy=>?_⟩,fun n b o e1 e2=>?_⟩
 ·rw[List.mem_singleton]at hy
  subst hy
  exact fun z=>na (z ▸ hx)
 ·rcases old n b e1 with ⟨hn,f1⟩ | ⟨hn,f1⟩
  ·rw[List.getElem?_append_left (by ac_nf)]at e2
   exact ObR.mono (o:=o) Up.grow (s.ob n b o f1 e2) fun _ q=>q
  ·subst f1
   have:o=o':=by
    rw[hn,hl,List.getElem?_append_right (Nat.le_refl _)]at e2
    simp at e2;exact e2.symm
   subst this
   exact ObR.mono (o:=o) Up.grow r fun _ q=>q
theorem SR.keep (s:SR K ρ H st) (h:H a=some (.lst vs)) (na:a∉ρ) (r:Reps K ρ H vs ds):SR K (ρ++[a]) H (st++[.lst ds]):=s.keepO na ⟨vs,h,r⟩
theorem SR.putO (s : SR K ρ H st) {n : Nat} {o' : MO} {u u' : HO} (hl : n < st.length) (ha : ρ[n]? = some a) (hu : H a = some u) (k3 : kO u ≠ 3) (hk : kO u' = kO u) (r : ObR K ρ (upd H a u') a o') :
  SR K ρ (upd H a u') (st.set n o')/\Ex ρ H ρ (upd H a u'):=by
 have x:Ex ρ H ρ (upd H a u'):=by
  refine⟨⟨[],by simp,by simp⟩,fun b o no q=>?_,fun b xs nb q=>?_,fun b o q=>?_⟩
  ·have:b≠a:=fun z=>by subst z;rw[hu]at q;cases q;exact k3 no
   rw[Qaj this];exact q
  ·have:b≠a:=fun z=>by subst z;exact nb (List.mem_of_getElem? ha)
   rw[Qaj this];exact q
  ·by_cases z:b=a
   ·subst z;rw[hu]at q;cases q;exact⟨u',Qai,hk⟩
   ·exact⟨o,by rw[Qaj z];exact q,rfl⟩
 refine⟨⟨by simp[s.len],s.nd,fun m b o e1 e2=>?_⟩,x⟩
 by_cases z:m=n
 ·subst z
  rw[ha]at e1;cases e1
  rw[List.getElem?_set_self hl]at e2;cases e2
  exact r
 ·rw[List.getElem?_set_ne (Ne.symm z)]at e2
  refine ObR.mono (o:=o) x.up (s.ob m b o e1 e2) fun us q=>?_
  have:b≠a:=fun w=>by
   subst w
   exact z ((List.getElem?_inj (List.getElem?_eq_some_iff.mp e1).1 s.nd).mp (e1.trans ha.symm))
  rw[Qaj this];exact q
theorem SR.put (s : SR K ρ H st) {n : Nat} {ws : List V} (hl : n < st.length) (ha : ρ[n]? = some a) (hw : H a = some (.lst ws)) (r : Reps K ρ H vs ds) :
  SR K ρ (upd H a (.lst vs)) (st.set n (.lst ds))/\Ex ρ H ρ (upd H a (.lst vs)):=by
 have u:Up ρ H ρ (upd H a (.lst vs)):=by
  refine⟨⟨[],by simp⟩,fun b o no q=>?_,fun b o q=>?_⟩
  ·have:b≠a:=fun z=>by subst z;rw[hw]at q;cases q;exact nomatch no
   rw[Qaj this];exact q
  ·by_cases z:b=a
   ·subst z;rw[hw]at q;cases q;exact⟨_,Qai,rfl⟩
   ·exact⟨o,by rw[Qaj z];exact q,rfl⟩
 exact s.putO hl ha hw (by show (0:Nat)≠3;decide) rfl ⟨vs,Qai,r.up u⟩
theorem Qda (k:∃ o,H a=some o/\kO o=0):∃ vs,H a=some (.lst vs):=by
 obtain⟨o,e,hk⟩:=k
 cases o with
 | lst vs=>exact⟨vs,e⟩
 | _=>exact nomatch hk
def Post {α:Type} (K:PySem.W.Frag) (ρ:List Addr) (H:Hp) (r:Rs α) (R:α->Sto->List Addr->Hp->Prop):Prop:=match r with
 | .ok a st=>∀ ρ' H',Ex ρ H ρ' H'->SR K ρ' H' st->R a st ρ' H'
 | _=>False
theorem Post.left {α:Type}{r:Rs α}{R:α->Sto->List Addr->Hp->Prop} (x:Ex ρ H ρ1 H1) (h:Post K ρ H r R):Post K ρ1 H1 r R:=by
 cases r with
 | ok a st=>exact fun ρ' H' y s=>h ρ' H' (x.trans y) s
 | exc _ _=>exact h
 | bad=>exact h
theorem Post.imp {α:Type}{r:Rs α}{R R':α->Sto->List Addr->Hp->Prop} (h:Post K ρ H r R) (f:∀ a st ρ' H',Ex ρ H ρ' H'->SR K ρ' H' st->R a st ρ' H'->R' a st ρ' H'):Post K ρ H r R':=by
 cases r with
 | ok a st=>exact fun ρ' H' y s=>f a st ρ' H' y s (h ρ' H' y s)
 | exc _ _=>exact h
 | bad=>exact h
theorem Post.bnd {α β:Type}{m:M α}{f:α->M β}{R:β->Sto->List Addr->Hp->Prop} (h:Post K ρ H (bnd m f st) R):Post K ρ H (m st) fun a st' ρ' H'=>Post K ρ' H' (f a st') R:=by
 unfold MM.bnd at h
 cases e:m st with
 | ok a s'=>
  rw[e]at h
  exact fun ρ' H' y s=>h.left y
 | exc _ _=>rw[e]at h;exact h
 | bad=>rw[e]at h;exact h
theorem Post.ret {α:Type}{a:α}{R:α->Sto->List Addr->Hp->Prop} (h:Post K ρ H (MM.ret a st) R) (s:SR K ρ H st):R a st ρ H:=h ρ H Ex.refl s
theorem Post.chk {α:Type}{c:Prop} [Decidable c] {m:M α}{R:α->Sto->List Addr->Hp->Prop} (h:Post K ρ H (MM.chk c m st) R):c/\Post K ρ H (m st) R:=by
 unfold MM.chk at h
 by_cases hc:c
 ·rw[if_pos hc]at h;exact⟨hc,h⟩
 ·rw[if_neg hc]at h;exact h.elim
theorem Post.getL {n:Nat}{R:List D->Sto->List Addr->Hp->Prop} (h:Post K ρ H (MM.getL n st) R) (s:SR K ρ H st):∃ xs,st[n]?=some (.lst xs)/\R xs st ρ H:=by
 cases e:MM.getL n st with
 | ok xs s'=>
  obtain⟨rfl,q⟩:=Qc9 e
  rw[e]at h
  exact⟨xs,q,h ρ H Ex.refl s⟩
 | exc _ _=>rw[e]at h;exact h.elim
 | bad=>rw[e]at h;exact h.elim
def tOf (K:PySem.W.Frag) (f:CE):TE:=fun σ H Q=>∃ ρ l st,LR K ρ H σ l/\SR K ρ H st/\Post K ρ H (f l st) fun d _ ρ' H'=>∀ v,Rep K ρ' H' v d->Q v H'
def ttOf (K:PySem.W.Frag) (f:CT):TT:=fun σ H Q=>∃ ρ l st,LR K ρ H σ l/\SR K ρ H st/\Post K ρ H (f l st) fun b _ _ H'=>Q b H'
def taOf (K:PySem.W.Frag) (f:CA):TA:=fun σ H Q=>∃ ρ l st,LR K ρ H σ l/\SR K ρ H st/\Post K ρ H (f l st) fun ds _ ρ' H'=>∀ vs,Reps K ρ' H' vs ds->Q vs H'
def tlOf (K:PySem.W.Frag) (f:CA):TE:=fun σ H Q=>∃ ρ l st,LR K ρ H σ l/\SR K ρ H st/\Post K ρ H (f l st) fun ds _ ρ' H'=>∀ a vs,H a=none->a∉ρ'->H' a=some (.lst vs)->Reps K ρ' H' vs ds->Q (.ref a) H'
def tsOf (K:PySem.W.Frag) (c:CS):TS:=fun G σ H=>∃ ρ l st,LR K ρ H σ l/\SR K ρ H st/\Post K ρ H (c l st) fun f _ ρ' H'=>match f with
 | .next l'=>∀ σ',LR K ρ' H' σ' l'->G.nx σ' H'
 | .ret d=>∀ v,Rep K ρ' H' v d->G.rt v H'
 | .brk l'=>∀ σ',LR K ρ' H' σ' l'->G.bk σ' H'
 | .cnt l'=>∀ σ',LR K ρ' H' σ' l'->G.ct σ' H'
def tgOf (K:PySem.W.Frag) (g:CG):TG:=fun v σ H Q=>∃ ρ l st d,LR K ρ H σ l/\SR K ρ H st/\Rep K ρ H v d/\Post K ρ H (g d l st) fun l' _ ρ' H'=>∀ σ',LR K ρ' H' σ' l'->Q σ' H'
def tgsOf (K:PySem.W.Frag) (g:List D->Loc->M Loc):TGs:=fun vs σ H Q=>∃ ρ l st ds,LR K ρ H σ l/\SR K ρ H st/\Reps K ρ H vs ds/\Post K ρ H (g ds l st) fun l' _ ρ' H'=>∀ σ',LR K ρ' H' σ' l'->Q σ' H'
def rOf (K:PySem.W.Frag) (g:D->D->M D):R2:=fun x y H Q=>∃ ρ st d e,SR K ρ H st/\Rep K ρ H x d/\Rep K ρ H y e/\Post K ρ H (g d e st) fun r _ ρ' H'=>∀ v,Rep K ρ' H' v r->Q v H'
def uOf (K:PySem.W.Frag) (g:D->M D):V->Hp->VK->Prop:=fun x H Q=>∃ ρ st d,SR K ρ H st/\Rep K ρ H x d/\Post K ρ H (g d st) fun r _ ρ' H'=>∀ v,Rep K ρ' H' v r->Q v H'
def kOf (K:PySem.W.Frag) (g:List D->M D):List V->Hp->VK->Prop:=fun xs H Q=>∃ ρ st ds,SR K ρ H st/\Reps K ρ H xs ds/\Post K ρ H (g ds st) fun r _ ρ' H'=>∀ v,Rep K ρ' H' v r->Q v H'
def spOf (K:PySem.W.Frag) (n:Nat) (g:List D->M D):Sp:=fun vs H Q _=>vs.length=n/\kOf K g vs H Q
end
section
variable {X:Cx}{a b c:Expr}{pos:Pos}
abbrev SE (X:Cx) (e:Expr) (f:CE):Prop:=PE X e (tOf X.K f)
abbrev SL (X:Cx) (e:Expr) (f:CA):Prop:=PE X e (tlOf X.K f)
abbrev ST (X:Cx) (e:Expr) (f:CT):Prop:=PT X e (ttOf X.K f)
abbrev SA (X:Cx) (es:List Expr) (f:CA):Prop:=PA X es (taOf X.K f)
abbrev SS (X:Cx) (s:Stmt) (f:CS):Prop:=PS X s (tsOf X.K f)
abbrev SSs (X:Cx) (s:List Stmt) (f:CS):Prop:=PSs X s (tsOf X.K f)
theorem _root_.L2.PE.of {e:Expr}{t t':TE} (h:PE X e t) (f:∀ σ H Q,t' σ H Q->t σ H Q):PE X e t':=fun pins s σ H Q I q=>h pins s σ H Q I (f σ H Q q)
theorem _root_.L2.PT.of {e:Expr}{t t':TT} (h:PT X e t) (f:∀ σ H Q,t' σ H Q->t σ H Q):PT X e t':=fun pins s σ H Q I q=>h pins s σ H Q I (f σ H Q q)
theorem _root_.L2.PA.of {e:List Expr}{t t':TA} (h:PA X e t) (f:∀ σ H Q,t' σ H Q->t σ H Q):PA X e t':=fun pos pins s σ H Q I q=>h pos pins s σ H Q I (f σ H Q q)
theorem _root_.L2.PS.of {e:Stmt}{t t':TS} (h:PS X e t) (f:∀ D σ H,t' D σ H->t D σ H):PS X e t':=fun pins s σ H D I q=>h pins s σ H D I (f D σ H q)
theorem _root_.L2.PSs.of {e:List Stmt}{t t':TS} (h:PSs X e t) (f:∀ D σ H,t' D σ H->t D σ H):PSs X e t':=fun pins s σ H D I q=>h pins s σ H D I (f D σ H q)
theorem _root_.L2.PG.of {e:Expr}{t t':TG} (h:PG X e t) (f:∀ v σ H Q,t' v σ H Q->t v σ H Q):PG X e t':=fun pins s σ H v u Q I r q=>h pins s σ H v u Q I r (f v σ H Q q)
theorem _root_.L2.PGs.of {e:List Expr}{t t':TGs} (h:PGs X e t) (f:∀ v σ H Q,t' v σ H Q->t v σ H Q):PGs X e t':=fun pins s σ H v u Q I r q=>h pins s σ H v u Q I r (f v σ H Q q)
theorem _root_.L2.OpR.of {f:Value->Value->Sem Value}{r r':R2} (h:OpR X f r) (g:∀ x y H Q,r' x y H Q->r x y H Q):OpR X f r':=fun pins s σ H x y v u Q I rx ry q=>h pins s σ H x y v u Q I rx ry (g x y H Q q)
theorem _root_.L2.CallR.of {f:Value}{r r':List V->Hp->VK->Prop} (h:CallR X f r) (g:∀ x H Q,r' x H Q->r x H Q):CallR X f r':=fun pins s σ H x u Q I rx q=>h pins s σ H x u Q I rx (g x H Q q)
variable {fa fb fc:CE}
theorem Qdb (i:Nat) {x:Str} (h:PE X (.Name x pos) (tVar i)):SE X (.Name x pos) (cVar i):=h.of fun σ H Q pq42=>by
 obtain⟨ρ,l,st,lr,sr,p⟩:=pq42
 unfold cVar at p
 cases e:l[i]? with
 | none=>rw[e]at p;exact p.elim
 | some o=>
  rw[e]at p
  cases o with
  | none=>exact p.elim
  | some d=>
   obtain⟨v,e1,r⟩:=lr.2 i d e
   exact⟨v,e1,p.ret sr v r⟩
theorem Qdc {i:Int}{j:Nat}:SE X (.Constant (.int i) j pos) (cCon (.int i)):=(Qat (i:=i) (j:=j) (pos:=pos)).of fun σ H Q pq43=>by obtain⟨ρ,l,st,lr,sr,p⟩:=pq43;exact p.ret sr _ (.int i)
theorem Qdd {i:Bool}{j:Nat}:SE X (.Constant (.bool i) j pos) (cCon (.bl i)):=(Qau (b:=i) (j:=j) (pos:=pos)).of fun σ H Q pq44=>by obtain⟨ρ,l,st,lr,sr,p⟩:=pq44;exact p.ret sr _ (.bl i)
theorem Qde {j:Nat}:SE X (.Constant .none j pos) (cCon .non):=(Qav (j:=j) (pos:=pos)).of fun σ H Q pq45=>by obtain⟨ρ,l,st,lr,sr,p⟩:=pq45;exact p.ret sr _ .non
theorem Qdf {i:Str}{j:Nat}:SE X (.Constant (.str i) j pos) (cCon (.str i)):=(Qaw (x:=i) (j:=j) (pos:=pos)).of fun σ H Q pq46=>by obtain⟨ρ,l,st,lr,sr,p⟩:=pq46;exact p.ret sr _ (.str i)
theorem Qdg {g:D->D->M D}{r:R2} (hr:∀ x y H Q,rOf X.K g x y H Q->r x y H Q):∀ σ H Q,tOf X.K (c2 g fa fb) σ H Q->tOp r (tOf X.K fa) (tOf X.K fb) σ H Q:=fun σ H Q pq47=>
 by obtain⟨ρ,l,st,lr,sr,p⟩:=pq47;exact⟨ρ,l,st,lr,sr,p.bnd.imp fun d st1 ρ1 H1 x1 s1 p1 v rv=>⟨ρ1,l,st1,lr.mono x1,s1,p1.bnd.imp fun e st2 ρ2 H2 x2 s2 p2 u ru=>hr _ _ _ _ ⟨ρ2,st2,d,e,s2,rv.mono x2,ru,p2⟩⟩⟩
theorem Qdh {op:Operator}{g:D->D->M D} (ho:OpR X (binaryOp op) (rOf X.K g)) (ha:SE X a fa) (hb:SE X b fb):SE X (.BinOp a op b pos) (c2 g fa fb):=
 (Qa6 ho ha hb).of (Qdg fun _ _ _ _ h=>h)
theorem Qdi {op:CmpOp}{g:D->D->M D} (ho:OpR X (compareOp op) (rOf X.K g)) (ha:SE X a fa) (hb:SE X b fb) (hm:behindInMarks op b=false):SE X (.Compare a [op] [b] pos) (c2 g fa fb):=
 (Qbl ho ha hb hm).of (Qdg fun _ _ _ _ h=>h)
end
theorem _root_.Exists.el {α β γ:Type}{A B C:α->β->γ->Prop}{G:Prop} (h:∃ a b c,A a b c/\B a b c/\C a b c) (k:∀ a b c,A a b c->B a b c->C a b c->G):G:=by
 obtain⟨ρ,l,st,a,b,c⟩:=h;exact k ρ l st a b c
theorem tOf.el {K:PySem.W.Frag}{f:CE}{σ:St}{H:Hp}{Q:VK}{C:Prop} (h:tOf K f σ H Q) (k:∀ ρ l st,LR K ρ H σ l->SR K ρ H st->Post K ρ H (f l st) (fun d _ ρ' H'=>∀ v,Rep K ρ' H' v d->Q v H')->C):C:=by
 obtain⟨ρ,l,st,a,b,c⟩:=h;exact k ρ l st a b c
theorem ttOf.el {K:PySem.W.Frag}{f:CT}{σ:St}{H:Hp}{Q:Bool->Hp->Prop}{C:Prop} (h:ttOf K f σ H Q) (k:∀ ρ l st,LR K ρ H σ l->SR K ρ H st->Post K ρ H (f l st) (fun b _ _ H'=>Q b H')->C):C:=by
 obtain⟨ρ,l,st,a,b,c⟩:=h;exact k ρ l st a b c
theorem tsOf.el {K:PySem.W.Frag}{c:CS}{σ:St}{H:Hp}{G:Ends}{C:Prop} (h:tsOf K c G σ H) (k:∀ ρ l st,LR K ρ H σ l->SR K ρ H st->Post K ρ H (c l st) (fun f _ ρ' H'=>match f with
 | .next l'=>∀ σ',LR K ρ' H' σ' l'->G.nx σ' H'
 | .ret d=>∀ v,Rep K ρ' H' v d->G.rt v H'
 | .brk l'=>∀ σ',LR K ρ' H' σ' l'->G.bk σ' H'
 | .cnt l'=>∀ σ',LR K ρ' H' σ' l'->G.ct σ' H')->C):C:=by
 obtain⟨ρ,l,st,a,b,c⟩:=h;exact k ρ l st a b c
end MM
namespace MM
open PySem PySem.Spec PyProof.Rows L2
theorem Qdj:∀ (a b:List Int),eqKs (a.map .int) (b.map .int)=decide (a=b)
 | [],[]=>by simp[eqKs]
 | [],_::_=>by simp[eqKs]
 | _::_,[]=>by simp[eqKs]
 | x::xs,y::ys=>by
  rw[List.map_cons,List.map_cons]
  show (eqK (.int x) (.int y) && eqKs _ _)=_
  rw[Qdj xs ys]
  show (decide (x=y) && _)=_
  simp[Bool.decide_and]
theorem Qdk:∀ (a b:KI),eqK (itD a) (itD b)=decide (a=b)
 | .inl i,.inl j=>by
  show decide (i=j)=_
  by_cases z:i=j
  ·subst z;simp
  ·rw[decide_eq_false z,decide_eq_false (fun q=>z (by injection q))]
 | .inl i,.inr r=>by rw[decide_eq_false (by simp)];rfl
 | .inr r,.inl i=>by rw[decide_eq_false (by simp)];rfl
 | .inr r,.inr q=>by
  show eqKs (r.map .int) (q.map .int)=_
  rw[Qdj]
  by_cases z:r=q
  ·subst z;simp
  ·rw[decide_eq_false z,decide_eq_false (fun q=>z (by injection q))]
theorem Qdl:∀ (a b:List KI),eqKs (a.map itD) (b.map itD)=decide (a=b)
 | [],[]=>by simp[eqKs]
 | [],_::_=>by simp[eqKs]
 | _::_,[]=>by simp[eqKs]
 | x::xs,y::ys=>by
  rw[List.map_cons,List.map_cons]
  show (eqK (itD x) (itD y) && eqKs _ _)=_
  rw[Qdl xs ys,Qdk]
  simp[Bool.decide_and]
theorem Qdm (a b:NK):eqK (stD a) (stD b)=decide (a=b):=Qdl a b
theorem Qdn (a b:Key):eqK (keyD a) (keyD b)=decide (a=b):=by
 cases a<;>cases b<;>simp[keyD,eqK]
theorem Qdo:∀ {ds:List D}{r:List Int},intsK ds=some r->ds=r.map .int
 | [],r,h=>by simp[intsK]at h;subst h;rfl
 | d::ds,r,h=>by
  cases d with
  | int i=>
   unfold intsK at h
   cases e:intsK ds with
   | none=>rw[e]at h;cases h
   | some q=>
    rw[e]at h
    cases h
    rw[List.map_cons,Qdo e]
  | _=>cases h
theorem Qdp:∀ {ds:List D}{r:NK},rowsK ds=some r->ds=r.map itD
 | [],r,h=>by simp[rowsK]at h;subst h;rfl
 | d::ds,r,h=>by
  cases d with
  | tup xs=>
   unfold rowsK at h
   cases e:intsK xs with
   | none=>rw[e]at h;cases h
   | some q=>
    cases e2:rowsK ds with
    | none=>rw[e,e2]at h;cases h
    | some q2=>
     rw[e,e2]at h
     cases h
     rw[List.map_cons,<- Qdp e2]
     show _=D.tup (q.map .int)::ds
     rw[<- Qdo e]
  | int i=>
   unfold rowsK at h
   cases e2:rowsK ds with
   | none=>rw[e2]at h;cases h
   | some q2=>
    rw[e2]at h
    cases h
    rw[List.map_cons,<- Qdp e2];rfl
  | _=>cases h
theorem Qdq {d:D}{r:NK} (h:stK d=some r):d=stD r:=by
 cases d with
 | tup ds=>show D.tup ds=D.tup _;rw[Qdp h]
 | _=>cases h
theorem Qdr {d:D} (h:kOk true d=true):∃ k,d=stD k:=by
 cases e:stK d with
 | none=>
  have:kOk true d=(stK d).isSome:=by cases d<;>rfl
  rw[this,e]at h;cases h
 | some k=>exact⟨k,Qdq e⟩
theorem Qds {d:D} (h:kOk false d=true):∃ k,d=keyD k:=by
 cases d with
 | int i=>exact⟨.inl i,rfl⟩
 | str x=>exact⟨.inr x,rfl⟩
 | _=>cases h
section
variable {X:Cx}{K:PySem.W.Frag}{ρ:List Addr}{H:Hp}{st:Sto}{pins:List (Addr × Obj)}{σ:St}{s:Shared}{a b:Addr}
theorem Qdt {k:Key}{v:V} (r:Rep K ρ H v (keyD k)):v=kV k:=by
 cases k with
 | inl i=>cases r;rfl
 | inr x=>cases r;rfl
abbrev KR (K:PySem.W.Frag) (ρ:List Addr) (H:Hp):List (Key × V)->List (D × D)->Prop:=Paired fun (p:Key × V) (q:D × D)=>keyD p.1=q.1/\Rep K ρ H p.2 q.2
def RO (K:PySem.W.Frag) (ρ:List Addr) (H:Hp):Option V->Option D->Prop
 | some v,some d=>Rep K ρ H v d
 | none,none=>True
 | _,_=>False
theorem RO.some_of {o:Option V}{d:D} (h:RO K ρ H o (some d)):∃ v,o=some v/\Rep K ρ H v d:=by
 cases o with
 | none=>exact h.elim
 | some v=>exact⟨v,rfl,h⟩
theorem RO.isSome_eq {o:Option V}{d:Option D} (h:RO K ρ H o d):o.isSome=d.isSome:=by
 cases o<;>cases d<;>first | rfl | exact h.elim
theorem KR.val {es:List (Key × V)}{kvs:List (D × D)} (r:KR K ρ H es kvs) (k:Key):RO K ρ H (valV es k) (lkK kvs (keyD k)):=by
 induction r with
 | nil=>exact True.intro
 | @cons p q ps qs h t ih=>
  obtain⟨h1,h2⟩:=h
  unfold lkK
  rw[List.find?_cons,<- h1,Qdn]
  by_cases e:p.1=k
  ·rw[QcG e,decide_eq_true e];exact h2
  ·rw[QcH e,decide_eq_false e];exact ih
theorem KR.any {es:List (Key × V)}{kvs:List (D × D)} (r:KR K ρ H es kvs) (k:Key):(es.any fun kv=>decide (kv.1=k))=kvs.any fun p=>eqK p.1 (keyD k):=by
 induction r with
 | nil=>rfl
 | @cons p q ps qs h t ih=>rw[List.any_cons,List.any_cons,ih,<- h.1,Qdn]
theorem KR.put {es:List (Key × V)}{kvs:List (D × D)} (r:KR K ρ H es kvs) (k:Key) {v:V}{d:D} (rv:Rep K ρ H v d):KR K ρ H (L2.putK es k v) (ptK kvs (keyD k) d):=by
 unfold L2.putK ptK
 rw[r.any k]
 by_cases e:(kvs.any fun p=>eqK p.1 (keyD k))=true
 ·rw[if_pos e,if_pos e]
  clear e
  induction r with
  | nil=>exact .nil
  | @cons p q ps qs h t ih=>
   rw[List.map_cons,List.map_cons]
   refine .cons ?_ ih
   rw[<- h.1,Qdn]
   by_cases e:p.1=k
   ·rw[if_pos e,if_pos (decide_eq_true e)];exact⟨rfl,rv⟩
   ·rw[if_neg e,if_neg (by rw[decide_eq_false e];exact Bool.false_ne_true)];exact h
 ·rw[if_neg e,if_neg e]
  exact Paired.snoc r ⟨rfl,rv⟩
theorem KR.up {ρ1:List Addr}{H1:Hp} (x:Up ρ H ρ1 H1) {es:List (Key × V)}{kvs:List (D × D)} (r:KR K ρ H es kvs):KR K ρ1 H1 es kvs:=Paired.mapS r fun _ _ z=>⟨z.1,z.2.up x⟩
theorem KR.length {es:List (Key × V)}{kvs:List (D × D)} (r:KR K ρ H es kvs):es.length=kvs.length:=Paired.length r
abbrev NR (K:PySem.W.Frag) (ρ:List Addr) (H:Hp):List (NK × Addr × V)->List (D × D)->Prop:=Paired fun (p:NK × Addr × V) (q:D × D)=>stD p.1=q.1/\Rep K ρ H (.ref p.2.1) q.1/\Rep K ρ H p.2.2 q.2
abbrev NX:List (NK × Addr × V)->List (NK × Addr × Value)->Prop:=Paired fun (p:NK × Addr × V) (q:NK × Addr × Value)=>p.1=q.1/\p.2.1=q.2.1/\RelV p.2.2 q.2.2
abbrev nkd (X:Cx):HeapKind X.prog X.w NK:=nestKind X.prog X.w
theorem Qdu {P:Program}{w:World}:∀ {r:List Int}{vs:List V}{us:List Value},Reps K ρ H vs (r.map .int)->Vals vs us->ItemsAre (intKind P w) r us
 | [],_,_,h,g=>by cases h;cases g;exact .nil
 | i::r,_,_,h,g=>by
  cases h with
  | cons h1 ht=>
   cases h1
   cases g with
   | cons g1 gt=>
    obtain⟨t,e⟩:=g1
    subst e
    exact .cons (by show Value.isInt i (Value.int i t)=true;simp[Value.isInt]) (Qdu ht gt)
theorem Qdv {r:List Int}{v:V}{u:Value} (I:Inv X pins σ H s) (h:Rep X.K ρ H v (rowD r)) (g:RelV v u):∃ b,u=.ref b/\IsTupleKey (intKind X.prog X.w) s.heap r b:=by
 cases h with
 | @tup b vs ds h q=>
  have e:u=Value.ref b:=g
  subst e
  obtain⟨its,rv,⟨o,h1,h2,n,h3⟩,_⟩:=I.tuple h
  exact⟨b,rfl,o,its.toArray,n,h1,h2,h3,by simpa using Qdu q rv⟩
theorem Qdw (I:Inv X pins σ H s):∀ {k:NK}{vs:List V}{us:List Value},Reps X.K ρ H vs (k.map itD)->Vals vs us->TIts X.prog X.w s.heap k us
 | [],_,_,h,g=>by cases h;cases g;exact .nil
 | r::k,_,_,h,g=>by
  cases h with
  | cons h1 ht=>
   cases g with
   | cons g1 gt=>
    refine .cons ?_ (Qdw I ht gt)
    cases r with
    | inl i=>
     cases (show Rep X.K ρ H _ (.int i) from h1)
     obtain⟨t,e⟩:=g1
     subst e
     exact .one i t
    | inr r=>
     obtain⟨b,e,hb⟩:=Qdv I h1 g1
     subst e
     exact .row hb
theorem Qdx {k:NK}{v:V}{u:Value} (I:Inv X pins σ H s) (h:Rep X.K ρ H v (stD k)) (g:RelV v u):∃ b,v=.ref b/\u=.ref b/\(nkd X).is s.heap k b:=by
 cases h with
 | @tup b vs ds h q=>
  have e:u=Value.ref b:=g
  subst e
  obtain⟨its,rv,⟨o,h1,h2,n,h3⟩,_⟩:=I.tuple h
  exact⟨b,rfl,rfl,o,its.toArray,n,h1,h2,h3,by simpa using Qdw I q rv⟩
theorem Qdy {es : List (NK × Addr × V)} {kvs : List (D × D)} (I : Inv X pins σ H s) (e : H a = some (nstO a es)) (r : NR X.K ρ H es kvs) :
  es.length<=sizeLine/\(a == sysModules)=false/\∃ xs,NX es xs/\s.heap.DictOfH (nkd X) a xs/\EpAt s.heap a xs.length:=by
 obtain⟨⟨z,y,xs,rx,o,es',ep,h1,h2,h3,h4,h5,h6⟩,w1,w2⟩:=(show ObjOk X.prog X.w H s.heap a (nstO a es) from I.hok a _ e)
 subst h6
 refine⟨z,y,xs,rx,⟨o,es',_,h1,h2,h3,h4,?_,h5⟩,⟨o,es',h1,h3⟩⟩
 clear h1 h2 h3 h4 h5 e z y w1 w2
 induction rx generalizing kvs with
 | nil=>intro x hx;exact nomatch hx
 | @cons p q ps qs h t ih=>
  cases r with
  | cons g gt=>
   intro x hx
   rcases List.mem_cons.mp hx with e | hx
   ·subst e
    obtain⟨b,e1,_,hb⟩:=Qdx I (by rw[g.1];exact g.2.1) (show RelV (.ref p.2.1) (.ref p.2.1) from rfl)
    cases e1
    rw[<- h.1,<- h.2.1]
    exact hb
   ·exact ih gt x hx
theorem Qdz {H' : Hp} {h' : Heap} {P : Program} {w : World} {es : List (NK × Addr × V)} {xs : List (NK × Addr × Value)} (z : es.length <= sizeLine) (y : (a == sysModules) = false) (r : NX es xs) (dd : h'.DictOfH (nestKind P w) a xs) (de : EpAt h' a xs.length) :
  ObjOk P w H' h' a (nstO a es):=by
 obtain⟨o,es',ep,h1,h2,h3,h4,_,h5⟩:=dd
 obtain⟨o2,es2,g1,g3⟩:=de
 rw[h1]at g1;cases g1
 rw[h3]at g3;cases g3
 refine⟨⟨z,y,xs,r,o,es',_,h1,h2,h3,h4,h5,rfl⟩,⟨o,h1⟩,?_⟩
 rintro g1 g2 ⟨z,y,xs,r,o,es',ep,h1,h2⟩ k
 exact⟨z,y,xs,r,o,es',ep,k o h1,h2⟩
def valN (es:List (NK × Addr × V)) (k:NK):Option V:=(es.find? fun p=>decide (p.1=k)).map (·.2.2)
def putN (es:List (NK × Addr × V)) (k:NK) (b:Addr) (v:V):List (NK × Addr × V):=if (es.any fun p=>decide (p.1=k))=true then es.map (fun p=>if p.1=k then (p.1,p.2.1,v) else p) else es++[(k,b,v)]
theorem NR.val {es:List (NK × Addr × V)}{kvs:List (D × D)} (r:NR K ρ H es kvs) (k:NK):RO K ρ H (valN es k) (lkK kvs (stD k)):=by
 induction r with
 | nil=>exact True.intro
 | @cons p q ps qs h t ih=>
  obtain⟨h1,_,h2⟩:=h
  unfold lkK valN
  rw[List.find?_cons,List.find?_cons,<- h1,Qdm]
  by_cases e:p.1=k
  ·rw[decide_eq_true e];exact h2
  ·rw[decide_eq_false e];exact ih
theorem NX.val {es:List (NK × Addr × V)}{xs:List (NK × Addr × Value)} (r:NX es xs) (k:NK):RelO (valN es k) ((atKey xs k).map (·.2)):=by
 induction r with
 | nil=>exact True.intro
 | @cons p q ps qs h t ih=>
  obtain⟨h1,_,h2⟩:=h
  unfold atKey valN
  rw[List.find?_cons,List.find?_cons,<- h1]
  by_cases e:p.1=k
  ·rw[decide_eq_true e];exact h2
  ·rw[decide_eq_false e];exact ih
theorem NX.put {es:List (NK × Addr × V)}{xs:List (NK × Addr × Value)} (r:NX es xs) (k:NK) (b:Addr) {v:V}{u:Value} (rv:RelV v u):NX (putN es k b v) (storedH xs k b u):=by
 have e:(es.any fun p=>decide (p.1=k))=(atKey xs k).isSome:=by
  clear rv
  induction r with
  | nil=>rfl
  | @cons p q ps qs h t ih=>
   rw[List.any_cons,ih]
   unfold atKey
   rw[List.find?_cons,<- h.1]
   by_cases e:p.1=k
   ·rw[decide_eq_true e];rfl
   ·rw[decide_eq_false e];rfl
 unfold putN storedH
 rw[e]
 by_cases q:(atKey xs k).isSome=true
 ·rw[if_pos q,if_pos q]
  clear q e
  induction r with
  | nil=>exact .nil
  | @cons p q ps qs h t ih=>
   rw[List.map_cons,List.map_cons]
   refine .cons ?_ ih
   unfold putAt
   by_cases e:p.1=k
   ·rw[if_pos e,if_pos (h.1.symm.trans e)];exact⟨h.1,h.2.1,rv⟩
   ·rw[if_neg e,if_neg (fun z=>e (h.1.trans z))];exact h
 ·rw[if_neg q,if_neg q];exact Paired.snoc r ⟨rfl,rfl,rv⟩
theorem NR.put {es:List (NK × Addr × V)}{kvs:List (D × D)} (r:NR K ρ H es kvs) (k:NK) (b:Addr) {v:V}{d:D} (rk:Rep K ρ H (.ref b) (stD k)) (rv:Rep K ρ H v d):NR K ρ H (putN es k b v) (ptK kvs (stD k) d):=by
 have e:(es.any fun p=>decide (p.1=k))=kvs.any fun p=>eqK p.1 (stD k):=by
  clear rk rv
  induction r with
  | nil=>rfl
  | @cons p q ps qs h t ih=>rw[List.any_cons,List.any_cons,ih,<- h.1,Qdm]
 unfold putN ptK
 rw[e]
 clear e
 by_cases e:(kvs.any fun p=>eqK p.1 (stD k))=true
 ·rw[if_pos e,if_pos e]
  clear e
  induction r with
  | nil=>exact .nil
  | @cons p q ps qs h t ih=>
   rw[List.map_cons,List.map_cons]
   refine .cons ?_ ih
   by_cases e:p.1=k
   ·have z:eqK q.1 (stD k)=true:=by rw[<- h.1,Qdm];exact decide_eq_true e
    rw[if_pos e,if_pos z];exact⟨h.1,h.2.1,rv⟩
   ·have z:¬ eqK q.1 (stD k)=true:=by rw[<- h.1,Qdm,decide_eq_false e];exact Bool.false_ne_true
    rw[if_neg e,if_neg z];exact h
 ·rw[if_neg e,if_neg e]
  exact Paired.snoc r ⟨rfl,rk,rv⟩
theorem NR.up {ρ1:List Addr}{H1:Hp} (x:Up ρ H ρ1 H1) {es:List (NK × Addr × V)}{kvs:List (D × D)} (r:NR K ρ H es kvs):NR K ρ1 H1 es kvs:=Paired.mapS r fun _ _ z=>⟨z.1,z.2.1.up x,z.2.2.up x⟩
theorem NR.length {es:List (NK × Addr × V)}{kvs:List (D × D)} (r:NR K ρ H es kvs):es.length=kvs.length:=Paired.length r
theorem QdA (es:List (NK × Addr × V)) (k:NK) (b:Addr) (v:V):(putN es k b v).length<=es.length + 1:=by
 unfold putN
 split
 ·rw[List.length_map];ac_nf
 ·rw[List.length_append,List.length_cons,List.length_nil];ac_nf
theorem QdB {n:Nat}{p:Bool × List (D × D)}{s':Sto} (h:getDc n st=.ok p s'):s'=st/\st[n]?=some (.dct p.1 p.2):=by
 unfold getDc at h
 cases e:st[n]? with
 | none=>rw[e]at h;cases h
 | some o=>
  rw[e]at h
  cases o with
  | lst ds=>cases h
  | dct b kvs=>cases h;exact⟨rfl,rfl⟩
theorem Post.getDc {n:Nat}{R:Bool × List (D × D)->Sto->List Addr->Hp->Prop} (h:Post K ρ H (MM.getDc n st) R) (s:SR K ρ H st):∃ b kvs,st[n]?=some (.dct b kvs)/\R (b,kvs) st ρ H:=by
 cases e:MM.getDc n st with
 | ok xs s'=>
  obtain⟨rfl,q⟩:=QdB e
  rw[e]at h
  exact⟨xs.1,xs.2,q,h ρ H Ex.refl s⟩
 | exc _ _=>rw[e]at h;exact h.elim
 | bad=>rw[e]at h;exact h.elim
theorem QdC {b : Bool} {kvs : List (D × D)} {k d : D} {y : V} {u : Value} {Q : Value -> Shared -> Prop} {E : Value -> Shared -> Prop} {A : Around} (hu : A.units + 2 < cLine) (I : Inv X pins σ H s) (g : ObR X.K ρ H a (.dct b kvs)) (rk : Rep X.K ρ H y k) (hk : kOk b k = true) (hl : lkK kvs k = some d) (ry : RelV y u)
  (h:∀ v w' s',Inv X pins σ H s'->Rep X.K ρ H v d->RelV v w'->Q w' s'):wpAny (model X.prog X.w) A (getItem (.ref a) u) Q E s:=by
 cases b with
 | false=>
  obtain⟨es,e,r⟩:=g
  obtain⟨k,rfl⟩:=Qds hk
  cases Qdt rk
  have q:=KR.val r k
  rw[hl]at q
  obtain⟨v,e1,rv⟩:=q.some_of
  exact QcS (by ac_nf) I (by have:=DGet.k (k:=k) e;rw[e1]at this;exact this) ry fun w' s' I' rw'=>h v w' s' I' rv rw'
 | true=>
  obtain⟨es,e,r⟩:=g
  obtain⟨k,rfl⟩:=Qdr hk
  have q:=NR.val r k
  rw[hl]at q
  obtain⟨v,e1,rv⟩:=q.some_of
  obtain⟨_,hd,xs,rx,dd,de⟩:=Qdy I e r
  obtain⟨c,e2,e3,hc⟩:=Qdx I rk ry
  subst e3
  obtain⟨w',hw,rw'⟩:=RelO.some_of (v:=v) (o:=(atKey xs k).map (·.2)) (by rw[<- e1];exact NX.val rx k)
  obtain⟨p,hp,hp2⟩:=Option.map_eq_some_iff.mp hw
  refine wpAny_getItem_heap (knd:=nkd X) (show A.in1.units + 1 < cLine from hu) hc dd hp ?_
  rw[hp2]
  exact h v w' _ (I.tok _) rv rw'
theorem QdD {b : Bool} {kvs : List (D × D)} {k : D} {y : V} {u : Value} {Q : Value -> Shared -> Prop} {E : Value -> Shared -> Prop} {A : Around} (hu : A.units + 2 < cLine) (I : Inv X pins σ H s) (g : ObR X.K ρ H a (.dct b kvs)) (rk : Rep X.K ρ H y k) (hk : kOk b k = true) (ry : RelV y u)
  (h:∀ s',Inv X pins σ H s'->Q (.bool (lkK kvs k).isSome) s'):wpAny (model X.prog X.w) A (compareOp .In u (.ref a)) Q E s:=by
 cases b with
 | false=>
  obtain⟨es,e,r⟩:=g
  obtain⟨k,rfl⟩:=Qds hk
  cases Qdt rk
  rw[<- (KR.val r k).isSome_eq]at h
  exact d_in (by ac_nf) I (DGet.k (k:=k) e) ry h
 | true=>
  obtain⟨es,e,r⟩:=g
  obtain⟨k,rfl⟩:=Qdr hk
  rw[<- (NR.val r k).isSome_eq]at h
  obtain⟨_,hd,xs,rx,dd,de⟩:=Qdy I e r
  obtain⟨c,e2,e3,hc⟩:=Qdx I rk ry
  subst e3
  refine wpAny_in_heap (knd:=nkd X) (show A.in1.units + 1 < cLine from hu) hc hd dd ?_
  have q:=(NX.val rx k).isSome_eq
  rw[Option.isSome_map]at q
  rw[<- q]
  exact h _ (I.tok _)
theorem QdE {n : Nat} {b : Bool} {kvs : List (D × D)} {k d : D} {y v : V} {u r' : Value} {Q : Unit -> Shared -> Prop} {E : Value -> Shared -> Prop} {A : Around} (hu : A.units + 2 < cLine) (I : Inv X pins σ H s) (sr : SR X.K ρ H st) (ha : ρ[n]? = some a) (hn : st[n]? = some (.dct b kvs))
  (rk:Rep X.K ρ H y k) (hk:kOk b k=true) (hl:kvs.length < sizeLine) (rv:Rep X.K ρ H v d) (ry:RelV y u) (rr:RelV v r')
  (h:∀ H' s',Inv X pins σ H' s'->SR X.K ρ H' (st.set n (.dct b (ptK kvs k d)))->Ex ρ H ρ H'->Q () s'):wpAny (model X.prog X.w) A (setItem (.ref a) u r') Q E s:=by
 have hlt:=(List.getElem?_eq_some_iff.mp hn).1
 have g:=sr.ob n a _ ha hn
 cases b with
 | false=>
  obtain⟨es,e,r⟩:=g
  obtain⟨k,rfl⟩:=Qds hk
  cases Qdt rk
  have w:=sr.putO (o':=.dct false (ptK kvs (keyD k) d)) (u':=.dK (L2.putK es k v)) hlt ha e (by show (1:Nat)≠3;decide) rfl ⟨_,Qai,(KR.put r k rv).up ?_⟩
  ·exact QcV (by ac_nf) I (DPut.k (k:=k) e (by rw[KR.length r];exact hl)) ry rr fun s' I'=>h _ s' I' w.1 w.2
  ·refine⟨⟨[],by simp⟩,fun c o no q=>?_,fun c o q=>?_⟩
   ·rw[Qaj fun z=>by subst z;rw[e]at q;cases q;exact nomatch no];exact q
   ·by_cases z:c=a
    ·subst z;rw[e]at q;cases q;exact⟨_,Qai,rfl⟩
    ·exact⟨o,by rw[Qaj z];exact q,rfl⟩
 | true=>
  obtain⟨es,e,r⟩:=g
  obtain⟨k,rfl⟩:=Qdr hk
  obtain⟨_,hd,xs,rx,dd,de⟩:=Qdy I e r
  obtain⟨c,e2,e3,hc⟩:=Qdx I rk ry
  subst e2 e3
  have w:=sr.putO (o':=.dct true (ptK kvs (stD k) d)) (u':=nstO a (putN es k c v)) hlt ha e (by show (2:Nat)≠3;decide) rfl ⟨_,Qai,(NR.put r k c rk rv).up ?_⟩
  ·have hz : xs.length <= sizeLine := by
     rw[<- Paired.length rx,NR.length r];ac_nf
   refine Qc7 (knd:=nkd X) (show A.in1.units + 1 < cLine from hu) hc dd de hz fun h' dd' de' hs=>h _ _ ?_ w.1 w.2
   have he:∃ q,h'.get? a=some q:=let ⟨q,_,_,hq,_⟩:=dd';⟨q,hq⟩
   refine QcT I (by rw[e];exact True.intro) hs he (Qdz ?_ hd (NX.put rx k c rr) dd' de')
   have:=QdA es k c v
   rw[NR.length r]at this
   ac_nf
  ·refine⟨⟨[],by simp⟩,fun c o no q=>?_,fun c o q=>?_⟩
   ·rw[Qaj fun z=>by subst z;rw[e]at q;cases q;exact nomatch no];exact q
   ·by_cases z:c=a
    ·subst z;rw[e]at q;cases q;exact⟨_,Qai,rfl⟩
    ·exact⟨o,by rw[Qaj z];exact q,rfl⟩
end
abbrev NoE:Value->Shared->Prop:=fun _ _=>False
def tests (ifs:List Expr) (env:Env):Sem Bool:=forIn ifs true fun c r=>if r=true then do let ok <- isTrue c env (eval c env);pure (ForInStep.yield ok) else pure (ForInStep.yield r)
section
variable {prog:Program}{w:World}{A:Around}{R:Result->Shared->Prop}{s:Shared}
theorem QdF {elt target iter : Expr} {ifs : List Expr} {scope : Scope} {pos : Pos} {it acc : Value} {env : Env} (I : Nat -> Shared -> Prop)
  (turn:∀ n s,I n s->wpAny (model prog w) A (pyNext it) (fun r s₁=>match r with
   | none=>R (.ok .next) s₁
   | some v => wpAny (model prog w) A (letOwnedTupleGo target it v) (fun _ s₁' => wpAny (model prog w) A (assign target env v) (fun _ s₂ =>
     wpAny (model prog w) A (tests ifs env) (fun ok s₃=>
      if ok=true then wpAny (model prog w) A (eval elt env) (fun x s₄=>
       wpAny (model prog w) A (call (.builtin "list.append") [acc,x]) (fun _ s₅=>∃ m,m < n/\I m s₅) NoE s₄) NoE s₃
      else ∃ m,m < n/\I m s₃) NoE s₂) NoE s₁') NoE s₁) NoE s)
  (n:Nat) (h:I n s):codeAny (model prog w) A (.compLoop (.ListComp elt [⟨target,iter,ifs,0⟩] scope pos) 0 it acc env) R s:=by
 refine codeAny_loop rfl I (fun n s hI=>?_) n h
 show wpAny _ A ((compTurn (.ListComp elt [⟨target,iter,ifs,0⟩] scope pos) 0 it acc env).onRaise (fun x=>do noteFrame x env;theTreesLotGoes x)) _ _ s
 refine wpAny_noted ?_
 rw[compTurn_list]
 refine wpAny_bind (wpAny_standAt (wpAny_bind (wpAny_mono (turn n s hI) (fun r s₁ h₁=>?_) fun _ _ h'=>h'.elim)))
 cases r with
 | none=>exact wpAny_pure h₁
 | some v=>
  refine wpAny_bind (wpAny_mono h₁ (fun _ s₁' h₁'=>?_) fun _ _ h'=>h'.elim)
  refine wpAny_bind (wpAny_mono h₁' (fun _ s₂ h₂=>wpAny_bind (wpAny_mono h₂ (fun ok s₃ h₃=>?_) fun _ _ h'=>h'.elim)) fun _ _ h'=>h'.elim)
  cases ok with
  | false=>exact wpAny_pure ⟨rfl,h₃⟩
  | true=>
   exact wpAny_bind (wpAny_bind (wpAny_mono h₃ (fun x s₄ h₄=>wpAny_bind (wpAny_mono h₄ (fun _ s₅ h₅=>wpAny_pure (wpAny_pure ⟨rfl,h₅⟩)) fun _ _ h'=>h'.elim)) fun _ _ h'=>h'.elim))
end
def clOf:List (Str × NameKind)->List (Str × Addr)->List (Str × Addr)->List (Str × Addr)
 | [],_,acc=>acc
 | (n,k)::r,cells,acc=>clOf r cells (if k == .free then (match cells.lookup n with | some c=>(n,c)::acc | none=>acc) else acc)
theorem QdG {env : Env} : ∀ (names : List (Str × NameKind)) (acc : List (Str × Addr)), (∀ x, (x, NameKind.free) ∈ names -> ∃ c, env.cells.lookup x = some c) ->
  (forIn names acc fun (x:Str × NameKind) r=>if (x.2 == NameKind.free)=true then (do let a <- cellOf env x.1;pure (ForInStep.yield ((x.1,a)::r)):Sem _) else pure (ForInStep.yield r))=(pure (clOf names env.cells acc):Sem _)
 | [],acc,_=>rfl
 | (n,k)::r,acc,h=>by
  rw[List.forIn_cons]
  by_cases hk:(k == NameKind.free)=true
  ·have e:k=.free:=by simpa using hk
   subst e
   obtain⟨c,hc⟩:=h n List.mem_cons_self
   have q:cellOf env n=pure c:=by unfold cellOf;rw[hc]
   simp only[beq_self_eq_true,if_true,q]
   unfold clOf
   simp only[beq_self_eq_true,if_true,hc]
   exact QdG r ((n,c)::acc) fun x hx=>h x (List.mem_cons_of_mem _ hx)
  ·simp only[hk,if_false]
   unfold clOf
   simp only[hk,if_false]
   exact QdG r acc fun x hx=>h x (List.mem_cons_of_mem _ hx)
theorem QdH {scope:Scope}{env:Env} (h:∀ x,(x,NameKind.free)∈scope.names->∃ c,env.cells.lookup x=some c):closureFor scope env=pure (clOf scope.names env.cells []):=by
 have q:=QdG (env:=env) scope.names [] h
 simp only[closureFor]
 exact congrArg (fun m=>m >>= fun cs=>pure cs) q
theorem QdI {α:Type}{x y:Str}{v:α}{r:List (Str × α)} (h:x≠y):List.lookup x ((y,v)::r)=r.lookup x:=by
 rw[List.lookup_cons]
 have:(x == y)=false:=beq_eq_false_iff_ne.mpr h
 rw[this]
theorem lookup_cons_self {α:Type}{x:Str}{v:α}{r:List (Str × α)}:List.lookup x ((x,v)::r)=some v:=by
 rw[List.lookup_cons,beq_self_eq_true]
theorem clOf_of {cells:List (Str × Addr)}{x:Str}{c:Addr}:∀ (names:List (Str × NameKind)) (acc:List (Str × Addr)),(clOf names cells acc).lookup x=some c->cells.lookup x=some c\/acc.lookup x=some c
 | [],acc,h=>.inr h
 | (n,k)::r,acc,h=>by
  unfold clOf at h
  rcases clOf_of r _ h with q | q
  ·exact .inl q
  ·split at q
   ·split at q
    ·rename_i c' hc
     by_cases hx:x=n
     ·subst hx
      rw[lookup_cons_self]at q
      cases q
      exact .inl hc
     ·rw[QdI hx]at q;exact .inr q
    ·exact .inr q
   ·exact .inr q
theorem QdJ {cells:List (Str × Addr)}{x:Str}{c:Addr} (hc:cells.lookup x=some c):∀ (names:List (Str × NameKind)) (acc:List (Str × Addr)),((x,NameKind.free)∈names\/acc.lookup x=some c)->(∀ d,acc.lookup x=some d->d=c)->(clOf names cells acc).lookup x=some c
 | [],acc,h,_=>by
  rcases h with h | h
  ·cases h
  ·exact h
 | (n,k)::r,acc,h,ha=>by
  unfold clOf
  by_cases hx:x=n
  ·subst hx
   by_cases hk:(k == NameKind.free)=true
   ·rw[if_pos hk,hc]
    exact QdJ hc r _ (.inr lookup_cons_self) fun d hd=>by rw[lookup_cons_self]at hd;cases hd;rfl
   ·rw[if_neg hk]
    refine QdJ hc r _ ?_ ha
    rcases h with h | h
    ·rcases List.mem_cons.mp h with e | e
     ·cases e;exact absurd rfl hk
     ·exact .inl e
    ·exact .inr h
  ·have step : ∀ acc', acc'.lookup x = acc.lookup x -> (clOf r cells acc').lookup x = some c := fun acc' e => by
     refine QdJ hc r acc' ?_ (by rw[e];exact ha)
     rcases h with h | h
     ·rcases List.mem_cons.mp h with z | z
      ·cases z;exact absurd rfl hx
      ·exact .inl z
     ·exact .inr (by rw[e];exact h)
   refine step _ ?_
   split
   ·split
    ·exact QdI hx
    ·rfl
   ·rfl
theorem cellsFrom_of {x:Str}{c:Addr}:∀ (names:List (Str × NameKind)) (n:Nat) (acc:List (Str × Addr)),(cellsFrom n names acc).lookup x=some c->n<=c\/acc.lookup x=some c
 | [],_,_,h=>.inr h
 | (y,k)::r,n,acc,h=>by
  unfold cellsFrom at h
  split at h
  ·rcases cellsFrom_of r (n + 1) _ h with q | q
   ·exact .inl (by ac_nf)
   ·by_cases hx:x=y
    ·subst hx;rw[lookup_cons_self]at q;cases q;exact .inl (Nat.le_refl _)
    ·rw[QdI hx]at q;exact .inr q
  ·exact cellsFrom_of r n acc h
theorem QdK : ∀ (names : List (Str × NameKind)) (n : Nat) (acc : List (Str × Addr)), (∀ x y c, acc.lookup x = some c -> acc.lookup y = some c -> x = y) -> (∀ x c, acc.lookup x = some c -> c < n) ->
  ∀ x y c,(cellsFrom n names acc).lookup x=some c->(cellsFrom n names acc).lookup y=some c->x=y
 | [],_,_,hi,_=>hi
 | (z,k)::r,n,acc,hi,hb=>by
  unfold cellsFrom
  split
  ·refine QdK r (n + 1) _ (fun x y c h1 h2=>?_) (fun x c h=>?_)
   ·by_cases hx:x=z
    ·subst hx
     rw[lookup_cons_self]at h1;cases h1
     by_cases hy:y=x
     ·exact hy.symm
     ·rw[QdI hy]at h2
      exact absurd (hb y _ h2) (Nat.lt_irrefl _)
    ·rw[QdI hx]at h1
     by_cases hy:y=z
     ·subst hy
      rw[lookup_cons_self]at h2;cases h2
      exact absurd (hb x _ h1) (Nat.lt_irrefl _)
     ·rw[QdI hy]at h2;exact hi x y c h1 h2
   ·by_cases hx:x=z
    ·subst hx;rw[lookup_cons_self]at h;cases h;exact Nat.lt_succ_self _
    ·rw[QdI hx]at h;exact Nat.lt_succ_of_lt (hb x c h)
  ·exact QdK r n acc hi hb
theorem cellsFrom_cell {x:Str}{c:Addr}:∀ (names:List (Str × NameKind)) (h:Heap) (acc:List (Str × Addr)),(cellsFrom h.objs.size names acc).lookup x=some c->acc.lookup x=some c\/((pushCells h names).IsCell c none/\h.objs.size<=c)
 | [],_,_,q=>.inl q
 | (y,k)::r,h,acc,q=>by
  unfold cellsFrom at q
  unfold pushCells
  split at q
  ·rename_i hk
   rw[if_pos hk]
   rw[<- Heap.size_push h { cls:=.type "cell",data:=.cell none }]at q
   rcases cellsFrom_cell r _ _ q with z | z
   ·by_cases hx:x=y
    ·subst hx;rw[lookup_cons_self]at z;cases z
     refine .inr ⟨?_,Nat.le_refl _⟩
     refine⟨{ cls:=.type "cell",data:=.cell none },pushCells_keeps r _ _ _ (Heap.get?_push_size _ rfl),rfl⟩
    ·rw[QdI hx]at z;exact .inl z
   ·refine .inr ⟨z.1,?_⟩
    have:=z.2
    rw[Heap.size_push]at this
    ac_nf
  ·rename_i hk
   rw[if_neg hk]
   exact cellsFrom_cell r h acc q
theorem QdL {x:Str}:∀ (names:List (Str × NameKind)) (n:Nat) (acc:List (Str × Addr)),(x,NameKind.cell)∉names->(cellsFrom n names acc).lookup x=acc.lookup x
 | [],_,_,_=>rfl
 | (y,k)::r,n,acc,h=>by
  unfold cellsFrom
  split
  ·rename_i hk
   have e:k=.cell:=by simpa using hk
   subst e
   have hx:x≠y:=fun z=>h (by rw[z];exact List.mem_cons_self)
   rw[QdL r (n + 1) _ fun z=>h (List.mem_cons_of_mem _ z),QdI hx]
  ·exact QdL r n acc fun z=>h (List.mem_cons_of_mem _ z)
theorem QdM {α β:Type} (f:Str->α->β) (x:Str):∀ (l:List (Str × α)),(l.map fun p=>(p.1,f p.1 p.2)).lookup x=(l.lookup x).map (f x)
 | []=>rfl
 | (y,v)::r=>by
  by_cases hx:x=y
  ·subst hx
   rw[List.map_cons,lookup_cons_self,lookup_cons_self];rfl
  ·rw[List.map_cons,QdI hx,QdI hx];exact QdM f x r
theorem QdN (scope : Scope) (env : Env) (x : Str) :
  (relabel scope env).names.lookup x=(scope.names.lookup x).map fun k=>if (k == NameKind.free && env.scope.kind == .function && env.kindOf x == some .cell)=true then .cell else k:=by
 have e:(relabel scope env).names=scope.names.map fun p=>(p.1,(fun (n:Str) k=>if (k == NameKind.free && env.scope.kind == .function && env.kindOf n == some .cell)=true then NameKind.cell else k) p.1 p.2):=by
  show scope.names.map _=_
  congr 1
  funext p
  obtain⟨n,k⟩:=p
  dsimp only
  split<;>rfl
 rw[e]
 exact QdM (fun (n:Str) k=>if (k == NameKind.free && env.scope.kind == .function && env.kindOf n == some .cell)=true then NameKind.cell else k) x scope.names
theorem QdO {M : Model} {A : Around} {E : Value -> Shared -> Prop} {s : Shared} {scope : Scope} {globals : Addr} {cl : List (Str × Addr)} {qual : Str} {env : Env} {Q : Env -> Shared -> Prop}
  (h:Q { scope:=scope,locals:=s.heap.objs.size,globals:=globals,cells:=cellsFrom (s.heap.objs.size + 1) scope.names cl,qual:=qual,func:=none,code:=env.code,frame:=env.frame,builtins:=env.builtins }
   { s with heap:=pushCells (s.heap.push { cls:=.type "dict",data:=.dict #[] }) scope.names }):wpAny M A (newFunctionEnv scope globals cl [] qual none .none (some env)) Q E s:=by
 simp only[newFunctionEnv,Option.isSome_some,if_true]
 refine wpAny_bind (wpAny_alloc ?_)
 refine wpAny_bind (wpAny_layCells _ (fun name kind cells=>by cases hkc:kind == NameKind.cell<;>simp[hkc]) _ _ _ _ ?_)
 rw[show ({ s with heap:=s.heap.push { cls:=.type "dict",data:=.dict #[] } }:Shared).heap.objs.size=s.heap.objs.size + 1 from Heap.size_push ..]
 exact wpAny_bind (wpAny_pure (wpAny_pure h))
def cxC (X:Cx) (N:List Str) (scope:Scope) (fp:List Addr) (s:Shared) (H:Hp):Cx where
 prog:=X.prog
 w:=X.w
 K:=X.K
 mg:=X.mg
 base:=X.base
 A:=X.A
 N:=N
 s₀:=s
 H₀:=H
 env:=compEnvC scope (cellsFrom (s.heap.objs.size + 1) scope.names (clOf scope.names X.env.cells [])) s.heap.objs.size X.env
 outer:=X.stack
 stack:=X.stack
 ex:=fp
 fn:=fun x=>decide (scope.names.lookup x=some .local\/scope.names.lookup x=some .cell)
 calm:=X.calm
 pn:=[]
 xe:=NoE
structure CompScope (X:Cx) (scope:Scope):Prop where
 kind:scope.kind=.function
 names:∀ x∈scope.names,x.2=.local->scope.names.lookup x.1=some .local
 free:∀ x,(x,NameKind.free)∈scope.names->X.env.kindOf x=some .cell\/X.env.kindOf x=some .free
 once:∀ x,(x,NameKind.free)∈scope.names->(x,NameKind.cell)∉scope.names
 own:∀ x,(x,NameKind.free)∈scope.names->scope.names.lookup x≠some .local
def capV (n:Nat) (ix:List Nat) (σ:St):St:=List.replicate n none++ix.map fun i=>(σ[i]?).join
structure CompNames (X:Cx) (scope:Scope) (N:List Str) (n:Nat) (ix:List Nat):Prop where
 len:N.length=n + ix.length
 cap:∀ (j i:Nat) (x:Str),ix[j]?=some i->N[n + j]?=some x->X.N[i]?=some x/\scope.names.lookup x=some .free
theorem clOf_mem {cells:List (Str × Addr)}{x:Str}{c:Addr}:∀ (names:List (Str × NameKind)) (acc:List (Str × Addr)),(clOf names cells acc).lookup x=some c->(x,NameKind.free)∈names\/acc.lookup x=some c
 | [],acc,h=>.inr h
 | (n,k)::r,acc,h=>by
  unfold clOf at h
  rcases clOf_mem r _ h with q | q
  ·exact .inl (List.mem_cons_of_mem _ q)
  ·split at q
   ·rename_i hk
    have e:k=.free:=by simpa using hk
    subst e
    split at q
    ·by_cases hx:x=n
     ·subst hx;exact .inl List.mem_cons_self
     ·rw[QdI hx]at q;exact .inr q
    ·exact .inr q
   ·exact .inr q
theorem QdP {X:Cx}{scope:Scope}{cells:List (Str × Addr)}{x:Str}{c:Addr} (h:(clOf scope.names cells []).lookup x=some c) (hf:scope.names.lookup x=some .local\/scope.names.lookup x=some .cell) (S:CompScope X scope):False:=by
 rcases clOf_mem _ _ h with q | q
 ·rcases hf with z | z
  ·exact S.own x q z
  ·exact S.once x q (PySem.mem_of_lookup z)
 ·cases q
section
variable {X:Cx}{pins:List (Addr × Obj)}{σ:St}{H:Hp}{s:Shared}{scope:Scope}{N:List Str}{fp:List Addr}
theorem QdQ (I:Inv X pins σ H s) {x:Str}{c:Addr} (h:(clOf scope.names X.env.cells []).lookup x=some c):X.env.cells.lookup x=some c/\c < s.heap.objs.size/\(∃ v,s.heap.IsCell c v)/\H c=none:=by
 rcases clOf_of _ _ h with q | q
 ·obtain⟨v,z⟩:=I.cell x c q
  exact⟨q,z.lt,⟨v,z⟩,I.freeC x c q⟩
 ·cases q
theorem QdR (I:Inv X pins σ H s) (S:CompScope X scope) (hfp:∀ b∈fp,FpOk X pins H b) (hlt:∀ b∈fp,b < s.heap.objs.size):(cxC X N scope fp s H).Ok:=by
 have inj:∀ x y c,(cellsFrom (s.heap.objs.size + 1) scope.names (clOf scope.names X.env.cells [])).lookup x=some c->(cellsFrom (s.heap.objs.size + 1) scope.names (clOf scope.names X.env.cells [])).lookup y=some c->x=y:=
  QdK scope.names _ _ (fun x y c h1 h2=>I.ok.inj x y c (QdQ I h1).1 (QdQ I h2).1) fun x c h=>Nat.lt_succ_of_lt (QdQ I h).2.1
 refine⟨I.ok.mod,S.kind,I.ok.glob,I.ok.blt,Nat.le_refl _,inj,fun x hx=>?_,fun x c hf hc=>?_,I.ok.hd,I.ok.frames,.inl rfl,fun b hb=>?_,I.bs,Nat.le_trans I.ok.bsz I.sz,fun b o e hb=>?_,fun b hb z=>?_,I.stack,I.stkFree⟩
 ·have hx':(relabel scope X.env).names.lookup x=some .cell\/(relabel scope X.env).names.lookup x=some .free:=hx
  rw[QdN]at hx'
  cases e:scope.names.lookup x with
  | none=>rw[e]at hx';rcases hx' with z | z<;>cases z
  | some k=>
   refine Option.isSome_iff_exists.mp (PySem.W.cellsFrom_some scope.names _ _ ?_)
   cases k with
   | cell=>exact .inl e
   | free=>
    have hm:=PySem.mem_of_lookup e
    obtain⟨c,hc⟩:=I.ok.has x (S.free x hm)
    exact .inr (by rw[QdJ hc scope.names [] (.inl hm) fun d hd=>by cases hd];rfl)
   | _=>
    rw[e]at hx'
    rcases hx' with z | z<;>(simp at z)
 ·have hc':(cellsFrom (s.heap.objs.size + 1) scope.names (clOf scope.names X.env.cells [])).lookup x=some c:=hc
  rcases cellsFrom_of _ _ _ hc' with q | q
  ·exact Nat.le_of_succ_le q
  ·exfalso
   have hf':scope.names.lookup x=some .local\/scope.names.lookup x=some .cell:=of_decide_eq_true hf
   exact QdP q hf' S
 ·obtain⟨f0,f1,f2,f3,f4,f5⟩:=hfp b hb
  refine⟨Nat.ne_of_lt (hlt b hb),fun x c hc z=>?_⟩
  have hc':(cellsFrom (s.heap.objs.size + 1) scope.names (clOf scope.names X.env.cells [])).lookup x=some c:=hc
  rcases cellsFrom_of _ _ _ hc' with q | q
  ·rw[z]at q
   exact absurd (Nat.lt_of_lt_of_le (Nat.lt_succ_of_lt (hlt b hb)) q) (Nat.lt_irrefl _)
  ·exact f4 x c (QdQ I q).1 z
 ·obtain⟨f0,f1,f2,f3,f4,f5⟩:=hfp b hb
  rcases f3 with z | z
  ·exact I.ok.noex b o e z
  ·exact absurd (Nat.lt_of_lt_of_le (Nat.lt_of_lt_of_le (Heap.lt_size e) I.ok.bsz) z) (Nat.lt_irrefl _)
 ·obtain⟨f0,f1,f2,f3,f4,f5⟩:=hfp b hb
  rcases List.mem_cons.mp (I.stkSub b z) with q | q
  ·exact f1 q
  ·exact f2 q
abbrev heapC (h:Heap) (scope:Scope):Heap:=pushCells (h.push { cls:=.type "dict",data:=.dict #[] }) scope.names
theorem QdS (h:Heap) (scope:Scope):∀ b o,h.get? b=some o->(heapC h scope).get? b=some o:=fun b o e=>pushCells_keeps _ _ b o (Heap.get?_push_of_some _ e)
theorem QdT {n : Nat} {ix : List Nat} (I : Inv X pins σ H s) (S : CompScope X scope) (T : CompNames X scope N n ix) (hfp : ∀ b ∈ fp, FpOk X pins H b) (hlt : ∀ b ∈ fp, b < s.heap.objs.size) :
  Inv (cxC X N scope fp s H) [] (capV n ix σ) H { s with heap:=heapC s.heap scope }:=by
 have kp:=QdS s.heap scope
 have hns:(heapC s.heap scope).Ns s.heap.objs.size fun _=>none:=(Heap.Ns.new s.heap (.type "dict")).keeps (pushCells_keeps _ _)
 have cells : ∀ x c, (cellsFrom (s.heap.objs.size + 1) scope.names (clOf scope.names X.env.cells [])).lookup x = some c ->
   (∃ v,(heapC s.heap scope).IsCell c v)/\H c=none:=fun x c h=>by
  have h':(cellsFrom (s.heap.push { cls:=.type "dict",data:=.dict #[] }).objs.size scope.names (clOf scope.names X.env.cells [])).lookup x=some c:=by rw[Heap.size_push];exact h
  rcases cellsFrom_cell _ _ _ h' with q | ⟨q,z⟩
  ·obtain⟨_,_,⟨v,hv⟩,hn⟩:=QdQ I q
   exact⟨⟨v,hv.keeps kp⟩,hn⟩
  ·refine⟨⟨none,q⟩,I.hok.fresh ?_⟩
   rw[Heap.size_push]at z
   ac_nf
 refine⟨QdR I S hfp hlt,rfl,I.bare,Un.kept kp,⟨_,hns,fun i x v h1 h2 h3=>?_⟩,fun x c h=>(cells x c h).1,I.hok.fresh (Nat.le_refl _),fun x c h=>(cells x c h).2,fun p hp=>absurd (show p∈([]:List (Addr × Obj)) from hp) (by simp),I.hok.kept kp,?_⟩
 ·have h1':N[i]?=some x:=h1
  have h2':(List.replicate n none++ix.map fun i=>(σ[i]?).join)[i]?=some (some v):=h2
  have hi:n<=i:=Nat.le_of_not_lt fun z=>by
   rw[List.getElem?_append_left (by simpa using z),List.getElem?_replicate]at h2'
   split at h2'<;>cases h2'
  rw[List.getElem?_append_right (by simpa using hi),List.length_replicate,List.getElem?_map]at h2'
  cases e:ix[i - n]? with
  | none=>rw[e]at h2';cases h2'
  | some k=>
   rw[e]at h2'
   have hj:(σ[k]?).join=some v:=Option.some.inj h2'
   have hk:σ[k]?=some (some v):=by
    cases q:σ[k]? with
    | none=>rw[q]at hj;cases hj
    | some o=>rw[q]at hj;exact congrArg some hj
   obtain⟨hN,hfr⟩:=T.cap (i - n) k x e (by rw[show n + (i - n)=i by ac_nf];exact h1')
   have hm:=PySem.mem_of_lookup hfr
   have kx:=S.free x hm
   obtain⟨m,hn,hl⟩:=I.loc
   obtain⟨u,ru,lk⟩:=hl k x v hN hk (by
    rcases kx with z | z
    ·exact .inr (.inl z)
    ·exact .inr (.inr z))
   have lk2:∃ c,X.env.cells.lookup x=some c/\s.heap.IsCell c (some u):=by
    rcases lk with ⟨z,_⟩ | ⟨_,c,hc,q⟩
    ·rcases kx with y | y<;>(rw[y]at z;cases z)
    ·exact⟨c,hc,q⟩
   obtain⟨c,hc,q⟩:=lk2
   refine⟨u,ru,.inr ⟨?_,c,?_,q.keeps kp⟩⟩
   ·show (relabel scope X.env).names.lookup x=some .cell\/(relabel scope X.env).names.lookup x=some .free
    rw[QdN,hfr,Option.map_some]
    by_cases hq:(NameKind.free == NameKind.free && X.env.scope.kind == .function && X.env.kindOf x == some .cell)=true
    ·rw[if_pos hq];exact .inl rfl
    ·rw[if_neg hq];exact .inr rfl
   ·show (cellsFrom (s.heap.objs.size + 1) scope.names (clOf scope.names X.env.cells [])).lookup x=some c
    rw[QdL _ _ _ (S.once x hm)]
    exact QdJ hc scope.names [] (.inl hm) fun d hd=>by cases hd
 ·show (List.replicate n none++ix.map fun i=>(σ[i]?).join).length=N.length
  rw[List.length_append,List.length_replicate,List.length_map,T.len]
def tComp (wi:TI) (n:Nat) (ix:List Nat) (g:TG) (tt:TT) (te:TE):TE:=fun σ H Q=>wi σ H fun J H1=>∀ l,H1 l=none->∃ W:Nat->Nat->St->Hp->Prop,(∃ m,W 0 m (capV n ix σ) (upd H1 l (.lst []))) /\
 ∀ i m σ' H',W i m σ' H'->(J.stop i H'/\Q (.ref l) H')\/(J.go i H'/\∀ x H2,J.yld i H' x H2->g x σ' H2 fun σ2 H3=>tt σ2 H3 fun b H4=>
  if b=true then te σ2 H4 fun v H5=>∃ ys,H5 l=some (.lst ys)/\ys.length < sizeLine/\∃ m',m' < m/\W (i + 1) m' σ2 (upd H5 l (.lst (ys++[v]))) else ∃ m',m' < m/\W (i + 1) m' σ2 H4)
def PIfs (X:Cx) (ifs:List Expr) (tt:TT):Prop:=
 ∀ (pins:List (Addr × Obj)) (s:Shared) (σ:St) (H:Hp) (Q:Bool->Hp->Prop),Inv X pins σ H s->tt σ H Q->wpAny (model X.prog X.w) X.A (tests ifs X.env) (TP X pins σ Q) X.xe s
theorem QdU:PIfs X [] (fun _ H Q=>Q true H):=fun pins s σ H Q I h=>wpAny_tests_nil ⟨H,I,h⟩
theorem QdV {c:Expr}{tt:TT} (h:PT X c tt):PIfs X [c] tt:=fun pins s σ H Q I q=>wpAny_tests_one (h pins s σ H Q I q)
structure CFree (X:Cx) (pins:List (Addr × Obj)) (C:Addr) (H:Hp) (s:Shared):Prop where
 ns:∃ m,s.heap.Ns C m
 free:H C=none
 loc:C≠X.env.locals
 cell:∀ x c,X.env.cells.lookup x=some c->c≠C
 sz:X.s₀.heap.objs.size<=C
 pin:∀ p∈X.pn++pins,p.1≠C
theorem CFree.go {C:Addr}{h':Heap} (c:CFree X pins C H s) (I:Inv X pins σ H s) (hs:Heap.SameBut C s.heap h'):Inv X pins σ H { s with heap:=h' }:=
 I.turned (t':=s.toks) (fun b o hb e=>(hs.2 b hb).trans e) c.free c.loc (.inr c.sz) c.cell c.pin
theorem QdW {elt target iter : Expr} {ifs : List Expr} {pos : Pos} {n : Nat} {ix : List Nat} {wi : TI} {g : TG} {tt : TT} {te : TE} {use : Option (Value -> Sem Unit)} {Q : Value -> Shared -> Prop} {QH : VK}
  (hc:X.calm=true) (S:CompScope X scope) (T:CompNames X scope N n ix) (hi:PI X target iter wi)
  (blk:∀ (fp:List Addr) (s:Shared) (H:Hp),PG (cxC X N scope fp s H) target g/\PIfs (cxC X N scope fp s H) ifs tt/\PE (cxC X N scope fp s H) elt te)
  (hs:∀ x,foldedSetIterable iter X.env x=pure x) (I:Inv X pins σ H s) (h:tComp wi n ix g tt te σ H QH)
  (fin:∀ (l C:Addr) (H':Hp) (s':Shared),Inv X pins σ H' s'->QH (.ref l) H'->CFree X pins C H' s'->compPost (model X.prog X.w) X.A X.xe use Q (.ref l) C (.ok .next) s'):
  wpAny (model X.prog X.w) X.A (comprehension (.ListComp elt [⟨target,iter,ifs,0⟩] scope pos) scope X.env (firstIterPos [⟨target,iter,ifs,0⟩] pos) (newList []) false (eval iter X.env) use) Q X.xe s:=by
 have hclos:closureFor scope X.env=pure (clOf scope.names X.env.cells []):=QdH fun x hx=>I.ok.has x (S.free x hx)
 refine wpAny_comprehension_free rfl hs hclos S.kind S.names ?_
 refine thn (hi pins s σ H _ I h) fun v s1 h1=>thn h1 fun itv s2 h2=>?_
 obtain⟨it,fp,tn,J,H2,rfl,I2,TT,st2,f2,rest⟩:=h2
 refine wpAny_newObj_type (hd:=by size_fits) ?_
 have hf2:H2 s2.heap.objs.size=none:=I2.hok.fresh (Nat.le_refl _)
 obtain⟨W,⟨m0,w0⟩,turn⟩:=rest _ hf2
 have fl:∀ b∈fp,b < s2.heap.objs.size:=fun b hb=>by
  obtain⟨o,e,_⟩:=TT.obj _ _ st2 b hb
  exact Heap.lt_size e
 have f3:∀ b∈fp,FpOk X pins (upd H2 s2.heap.objs.size (.lst [])) b:=fun b hb=>by
  obtain⟨f0,fr⟩:=f2 b hb
  refine⟨?_,fr⟩
  rw[Qaj (Nat.ne_of_lt (fl b hb))]
  exact f0
 have I3:Inv X pins σ (upd H2 s2.heap.objs.size (.lst [])) { s2 with heap:=s2.heap.push { cls:=.type "list",dict:=none,data:=.seq ([]:List Value).toArray } }:=
  I2.laid (t':=s2.toks) (fun b o e=>Heap.get?_push_of_some _ e) (Nat.le_refl _) ⟨Nat.zero_le _,[],0,.nil,Heap.get?_push_size _ rfl⟩
 have tn3:tn 0 (s2.heap.push { cls:=.type "list",dict:=none,data:=.seq ([]:List Value).toArray }):=TT.keep _ _ _ st2 fun b hb o e=>Heap.get?_push_of_some _ e
 have fl3:∀ b∈fp,b < (s2.heap.push { cls:=.type "list",dict:=none,data:=.seq ([]:List Value).toArray }).objs.size:=fun b hb=>by
  rw[Heap.size_push];exact Nat.lt_succ_of_lt (fl b hb)
 generalize s2.heap.objs.size=l at *
 generalize hs3:({ s2 with heap:=s2.heap.push { cls:=.type "list",dict:=none,data:=.seq ([]:List Value).toArray } }:Shared)=s3 at *
 have e3:s2.heap.push { cls:=.type "list",dict:=none,data:=.seq ([]:List Value).toArray }=s3.heap:=by rw[<- hs3]
 rw[e3]at tn3 fl3
 generalize upd H2 l (.lst [])=H3 at *
 refine QdO ?_
 have I4:=QdT (N:=N) (n:=n) (ix:=ix) I3 S T f3 fl3
 obtain⟨bg,bt,be⟩:=blk fp s3 H3
 have tn4:tn 0 (heapC s3.heap scope):=TT.keep _ _ _ tn3 fun b hb o e=>QdS _ _ _ _ e
 have fr4:∀ b∈fp,H3 b=none:=fun b hb=>(f3 b hb).1
 show codeAny (model X.prog X.w) X.A (.compStart (.ListComp elt [⟨target,iter,ifs,0⟩] scope pos) 0 (.ref it) (.ref l) (cxC X N scope fp s3 H3).env) (compPost (model X.prog X.w) X.A X.xe use Q (.ref l) s3.heap.objs.size) { s3 with heap:=heapC s3.heap scope }
 have fpx:∀ {σ':St}{H':Hp}{s':Shared},Inv (cxC X N scope fp s3 H3) [] σ' H' s'->(∀ b∈fp,H' b=none)->∀ b∈fp,FpOk (cxC X N scope fp s3 H3) [] H' b:=fun I' hn b hb=>by
  have q:=I'.ok.exf b hb
  exact⟨hn b hb,q.1,I'.ok.exfs b hb,.inl hb,q.2,fun p hp=>absurd (show p∈([]:List (Addr × Obj)) from hp) (by simp)⟩
 have hc':(cxC X N scope fp s3 H3).calm=true:=hc
 have loop:codeAny (model X.prog X.w) X.A (.compLoop (.ListComp elt [⟨target,iter,ifs,0⟩] scope pos) 0 (.ref it) (.ref l) (cxC X N scope fp s3 H3).env) (compPost (model X.prog X.w) X.A X.xe use Q (.ref l) s3.heap.objs.size) { s3 with heap:=heapC s3.heap scope }:=by
  refine QdF (fun k s'=>∃ i σ' H',Inv (cxC X N scope fp s3 H3) [] σ' H' s'/\tn i s'.heap/\(∀ b∈fp,H' b=none)/\W i k σ' H') ?_ m0 ⟨0,_,H3,I4,tn4,fr4,w0⟩
  rintro k s5 ⟨i,σ5,H5,I5,tn5,fr5,w5⟩
  rcases turn i k σ5 H5 w5 with ⟨stop,q⟩ | ⟨go,step⟩
  ·refine thn (TT.done (cxC X N scope fp s3 H3) rfl rfl rfl hc' i [] s5 σ5 H5 NoE I5 (fpx I5 fr5) tn5 stop) fun r s6 pq48=>?_
   obtain⟨hr,I6⟩:=pq48
   subst hr
   have J6:Inv X pins σ H5 s6:=I3.call' I6.os I6.base I6.hok I6.bare fun b hb=>by
    obtain⟨g0,g1,g2,g3,g4,g5⟩:=f3 b hb
    exact⟨g3,g1,g4,g5⟩
   obtain⟨m,hn,_⟩:=I6.loc
   refine fin l s3.heap.objs.size H5 s6 J6 q ⟨⟨m,hn⟩,I6.free,Nat.ne_of_gt I3.lt,fun x c e=>?_,I3.sz,fun p hp=>?_⟩
   ·obtain⟨v,z⟩:=I3.cell x c e
    exact Nat.ne_of_lt z.lt
   ·exact Nat.ne_of_lt (Heap.lt_size (I3.pin p hp).1)
  ·refine thn (TT.item (cxC X N scope fp s3 H3) rfl rfl rfl hc' i [] s5 σ5 H5 NoE I5 (fpx I5 fr5) tn5 go) fun r s6 pq49=>?_
   obtain⟨u,hr,h6⟩:=pq49
   subst hr
   refine thn h6 fun _ s7 pq50=>?_
   obtain⟨x,H7,I7,r7,y7,tn7,fr7⟩:=pq50
   have I7':=I7.pinned (fpx I7 fr7) (TT.obj _ _ tn7)
   refine thn (bg _ s7 σ5 H7 x u _ I7' r7 (step x H7 y7)) fun _ s8 pq51=>?_
   obtain⟨σ8,H8,I8,q8⟩:=pq51
   refine thn (bt _ s8 σ8 H8 _ I8 q8) fun ok s9 pq52=>?_
   obtain⟨H9,I9,q9⟩:=pq52
   have again : ∀ {s' : Shared} {H' : Hp}, Inv (cxC X N scope fp s3 H3) ([] ++ pinsAt fp s7.heap) σ8 H' s' -> (∃ m', m' < k /\ W (i + 1) m' σ8 H') ->
     ∃ m,m < k/\∃ i σ' H',Inv (cxC X N scope fp s3 H3) [] σ' H' s'/\tn i s'.heap/\(∀ b∈fp,H' b=none)/\W i m σ' H':=fun {s' H'} I' pq53=>by
    obtain⟨m',hm,w'⟩:=pq53
    refine⟨m',hm,i + 1,σ8,H',I'.unpinned,TT.keep _ _ _ tn7 fun b hb o e=>(I'.pin (b,o) (List.mem_append_right _ (List.mem_append_right _ (Qa3 hb e)))).1,fun b hb=>?_,w'⟩
    obtain⟨o,e,d⟩:=TT.obj _ _ tn7 b hb
    exact (I'.pin (b,o) (List.mem_append_right _ (List.mem_append_right _ (Qa3 hb e)))).2.1
   cases ok with
   | false=>exact again I9 q9
   | true=>
    refine thn (be _ s9 σ8 H9 _ I9 q9) fun xv s10 pq54=>?_
    obtain⟨v,H10,I10,r10,ys,hy,hz,q10⟩:=pq54
    refine thn (Qcu (X:=cxC X N scope fp s3 H3) _ s10 σ8 H10 (.ref l) [v] (.ref l) [xv] (fun _ H'=>H'=upd H10 l (.lst (ys++[v]))) I10 rfl (.cons r10 .nil) ⟨l,ys,v,rfl,rfl,hy,hz,rfl⟩) fun _ s11 pq55=>?_
    obtain⟨_,H11,I11,_,e⟩:=pq55
    subst e
    exact again I11 q10
 exact codeAny_compStart_list loop (TT.self _ 0 _ _ _ tn4 loop)
theorem QdX {elt target iter : Expr} {ifs : List Expr} {pos : Pos} {n : Nat} {ix : List Nat} {wi : TI} {g : TG} {tt : TT} {te : TE}
  (hc:X.calm=true) (S:CompScope X scope) (T:CompNames X scope N n ix) (hi:PI X target iter wi)
  (blk:∀ (fp:List Addr) (s:Shared) (H:Hp),PG (cxC X N scope fp s H) target g/\PIfs (cxC X N scope fp s H) ifs tt/\PE (cxC X N scope fp s H) elt te)
  (hs:∀ x,foldedSetIterable iter X.env x=pure x:=by intro _;rfl):PE X (.ListComp elt [⟨target,iter,ifs,0⟩] scope pos) (tComp wi n ix g tt te):=by
 intro pins s σ H Q I h
 rw[eval_ListComp]
 refine QdW (use:=none) hc S T hi blk hs I h fun l C H' s' I' q c=>?_
 obtain⟨m,hn⟩:=c.ns
 exact⟨m,hn,fun h' hs'=>⟨.ref l,H',c.go I' hs',rfl,q⟩⟩
theorem QdY {elt target iter : Expr} {ifs : List Expr} {pos pos' spos : Pos} {n i : Nat} {ix : List Nat} {wi : TI} {g : TG} {tt : TT} {te : TE} {x : Str}
  (hN:X.N.Nodup) (hi':X.N[i]?=some x) (hx:L2.Loc X.env.scope x) (hf:X.fn x=true\/X.env.scope.names.lookup x=some .local)
  (hc:X.calm=true) (S:CompScope X scope) (T:CompNames X scope N n ix) (hi:PI X target iter wi)
  (blk:∀ (fp:List Addr) (s:Shared) (H:Hp),PG (cxC X N scope fp s H) target g/\PIfs (cxC X N scope fp s H) ifs tt/\PE (cxC X N scope fp s H) elt te)
  (hsw:swapsWith (.ListComp elt [⟨target,iter,ifs,0⟩] scope pos) (some (.Name x pos')) spos.line X.env=pure true)
  (hs:∀ x,foldedSetIterable iter X.env x=pure x:=by intro _;rfl):PS X (.Assign [.Name x pos'] (.ListComp elt [⟨target,iter,ifs,0⟩] scope pos) spos) (tAsg (tComp wi n ix g tt te) (gName i)):=by
 intro pins s σ H D I h
 rw[exec_Assign_Name_used _ _ _ _ hsw]
 refine wpAny_bind (wpAny_standAt (wpAny_bind ?_))
 show wpAny _ _ (comprehension (.ListComp elt [⟨target,iter,ifs,0⟩] scope pos) scope X.env _ (newList []) false (eval iter X.env) (some (assign (.Name x pos') X.env)) >>= fun _=>pure ()) _ _ s
 refine wpAny_bind (wpAny_mono (QdW (use:=some (assign (.Name x pos') X.env)) (Q:=fun _ s'=>SP X pins D .next s') hc S T hi blk hs I h fun l C H' s' I' q c=>?_) (fun _ s' hq=>wpAny_pure (wpAny_pure hq)) fun _ _ e=>e)
 obtain⟨m,hn⟩:=c.ns
 refine wpAny_assign_Name (Qaq I' hN hi' hx (v:=.ref l) rfl (fun s2 I2 ⟨b,hb,hb2⟩=>?_) hf)
 have hbC:b≠C:=by
  rcases hb2 with z | z
  ·rw[z];exact c.loc.symm
  ·exact c.cell x b z
 refine⟨m,hn.sameBut hb hbC.symm,fun h' hs'=>⟨_,H',?_,q⟩⟩
 exact CFree.go ⟨⟨m,hn.sameBut hb hbC.symm⟩,c.free,c.loc,c.cell,c.sz,c.pin⟩ I2 hs'
end
section
variable {X:Cx}{a b c e:Expr}{es:List Expr}{pos:Pos}{fa fb fc:CE}{ca cb:CA}{K:PySem.W.Frag}{ρ:List Addr}{H:Hp}{st:Sto}
theorem QdZ {K : PySem.W.Frag} {g : D -> D -> M D} {x y : V} {H : Hp} {Q : VK} (hg : ∀ d e, (∃ i j, d = D.int i /\ e = D.int j) \/ g d e = bad) (h : rOf K g x y H Q) :
  ∃ (i j:Int) (ρ:List Addr) (st:Sto),x=.int i/\y=.int j/\SR K ρ H st/\Post K ρ H (g (.int i) (.int j) st) (fun r _ ρ' H'=>∀ v,Rep K ρ' H' v r->Q v H'):=by
 obtain⟨ρ,st,d,e,sr,rx,ry,p⟩:=h
 rcases hg d e with ⟨i,j,e1,e2⟩ | hb
 ·subst e1 e2;cases rx;cases ry;exact⟨_,_,ρ,st,rfl,rfl,sr,p⟩
 ·rw[hb]at p;exact p.elim
theorem Qd0:OpR X (binaryOp .Mult) (rOf X.K mulD):=Qa9.of fun x y H Q h=>by
 obtain⟨i,j,ρ,st,rfl,rfl,sr,p⟩:=QdZ (by intro d e;cases d<;>cases e<;>first | exact .inl ⟨_,_,rfl,rfl⟩ | exact .inr rfl) h
 exact⟨_,_,rfl,rfl,p.chk.1,p.chk.2.ret sr _ (.int _)⟩
theorem Qd1:OpR X (binaryOp .FloorDiv) (rOf X.K fdivD):=Qba.of fun x y H Q h=>by
 obtain⟨i,j,ρ,st,rfl,rfl,sr,p⟩:=QdZ (by intro d e;cases d<;>cases e<;>first | exact .inl ⟨_,_,rfl,rfl⟩ | exact .inr rfl) h
 exact⟨_,_,rfl,rfl,p.chk.1,p.chk.2.ret sr _ (.int _)⟩
theorem Qd2:OpR X (binaryOp .Mod) (rOf X.K modD):=Qbb.of fun x y H Q h=>by
 obtain⟨i,j,ρ,st,rfl,rfl,sr,p⟩:=QdZ (by intro d e;cases d<;>cases e<;>first | exact .inl ⟨_,_,rfl,rfl⟩ | exact .inr rfl) h
 exact⟨_,_,rfl,rfl,p.chk.1,p.chk.2.ret sr _ (.int _)⟩
theorem Qd3:OpR X (binaryOp .Pow) (rOf X.K powD):=Qbc.of fun x y H Q h=>by
 obtain⟨i,j,ρ,st,rfl,rfl,sr,p⟩:=QdZ (by intro d e;cases d<;>cases e<;>first | exact .inl ⟨_,_,rfl,rfl⟩ | exact .inr rfl) h
 exact⟨_,_,rfl,rfl,p.chk.1,p.chk.2.ret sr _ (.int _)⟩
theorem Qd4:OpR X (compareOp .Lt) (rOf X.K ltD):=Qbf.of fun x y H Q h=>by
 obtain⟨i,j,ρ,st,rfl,rfl,sr,p⟩:=QdZ (by intro d e;cases d<;>cases e<;>first | exact .inl ⟨_,_,rfl,rfl⟩ | exact .inr rfl) h
 exact⟨_,_,rfl,rfl,p.ret sr _ (.bl _)⟩
theorem Qd5:OpR X (compareOp .LtE) (rOf X.K leD):=Qbg.of fun x y H Q h=>by
 obtain⟨i,j,ρ,st,rfl,rfl,sr,p⟩:=QdZ (by intro d e;cases d<;>cases e<;>first | exact .inl ⟨_,_,rfl,rfl⟩ | exact .inr rfl) h
 exact⟨_,_,rfl,rfl,p.ret sr _ (.bl _)⟩
theorem Qd6:OpR X (compareOp .Gt) (rOf X.K gtD):=Qbh.of fun x y H Q h=>by
 obtain⟨i,j,ρ,st,rfl,rfl,sr,p⟩:=QdZ (by intro d e;cases d<;>cases e<;>first | exact .inl ⟨_,_,rfl,rfl⟩ | exact .inr rfl) h
 exact⟨_,_,rfl,rfl,p.ret sr _ (.bl _)⟩
theorem Qd7:OpR X (compareOp .GtE) (rOf X.K geD):=Qbi.of fun x y H Q h=>by
 obtain⟨i,j,ρ,st,rfl,rfl,sr,p⟩:=QdZ (by intro d e;cases d<;>cases e<;>first | exact .inl ⟨_,_,rfl,rfl⟩ | exact .inr rfl) h
 exact⟨_,_,rfl,rfl,p.ret sr _ (.bl _)⟩
theorem Qd8:SA X [] cNil:=QbD.of fun σ H Q h_=>h_.el fun ρ l st lr sr p=>p.ret sr [] .nil
theorem Qd9 (ha:SE X e fa) (hr:SA X es ca) (hs:starEach (e::es) X.env=(false,eval e X.env)::starEach es X.env:=by rfl):SA X (e::es) (cCons fa ca):=
 (QbE ha hr hs).of fun σ H Q h_=>h_.el fun ρ l st lr sr p=>⟨ρ,l,st,lr,sr,p.bnd.imp fun d st1 ρ1 H1 x1 s1 p1 v rv=>⟨ρ1,l,st1,lr.mono x1,s1,p1.bnd.imp fun ds st2 ρ2 H2 x2 s2 p2 vs rvs=>p2.ret s2 _ (.cons (rv.mono x2) rvs)⟩⟩
theorem Qea {k:Nat} (h:SA X es ca):SE X (.Tuple es k pos) (cTup ca):=(QbF h).of fun σ H Q h_=>h_.el fun ρ l st lr sr p=>⟨ρ,l,st,lr,sr,p.bnd.imp fun ds st1 ρ1 H1 x1 s1 p1 vs rvs=>by
 obtain⟨hl,p2⟩:=p1.chk
 refine⟨by rw[rvs.length];exact hl,fun q hq=>?_⟩
 exact p2 ρ1 _ (Ex.new hq) (s1.new hq) _ (.tup (SqT.of Qai) (rvs.mono (Ex.new hq)))⟩
theorem Qeb (h:SA X es ca):SL X (.List es pos) (aDisp ca):=(QbG h).of fun σ H Q h_=>h_.el fun ρ l st lr sr p=>⟨ρ,l,st,lr,sr,p.bnd.imp fun ds st1 ρ1 H1 x1 s1 p1 vs rvs=>by
 obtain⟨hl,p2⟩:=p1.chk
 refine⟨by rw[rvs.length];exact hl,fun q hq=>?_⟩
 have hn:H q=none:=by
  cases z:H q with
  | none=>rfl
  | some o=>exact absurd hq (x1.trk q o z)
 exact p2 ρ1 _ (Ex.new hq) (s1.new hq) q vs hn (s1.fresh hq) Qai (rvs.mono (Ex.new hq))⟩
theorem Post.bnd0 {α β:Type}{m:M α}{f:α->M β}{R:β->Sto->List Addr->Hp->Prop} (h:Post K ρ H (MM.bnd m f st) R):Post K ρ H (m st) fun a st' _ _=>Post K ρ H (f a st') R:=by
 unfold MM.bnd at h
 cases e:m st with
 | ok a s'=>
  rw[e]at h
  exact fun ρ' H' y s=>h
 | exc _ _=>rw[e]at h;exact h
 | bad=>rw[e]at h;exact h
theorem Qec (h:SL X e ca):SE X e (cKeep ca):=h.of fun σ H Q h_=>h_.el fun ρ l st lr sr p=>⟨ρ,l,st,lr,sr,p.bnd0.imp fun ds st1 ρ1 H1 x1 s1 p1 a vs ha na hv rvs=>by
 have x:Ex ρ H (ρ1++[a]) H1:=by
  obtain⟨τ,e,f⟩:=x1.pre
  refine⟨⟨τ++[a],by rw[e,List.append_assoc],fun b hb=>?_⟩,x1.fix,x1.oth,x1.knd⟩
  rcases List.mem_append.mp hb with hb | hb
  ·exact f b hb
  ·rw[List.mem_singleton]at hb;rw[hb];exact ha
 refine p1 (ρ1++[a]) H1 x (s1.keep hv na rvs) _ (.ref ⟨_,hv,rfl⟩ ?_)
 rw[<- s1.len];simp⟩
theorem _root_.L2.IxR.of {r r':R2} (h:IxR X r) (g:∀ x y H Q,r' x y H Q->r x y H Q):IxR X r':=fun value slice pins s σ H x y v u Q I rx ry q hs=>h value slice pins s σ H x y v u Q I rx ry (g x y H Q q) hs
theorem Post.item {ds:List D}{i:Int}{R:D->Sto->List Addr->Hp->Prop} (h:Post K ρ H (itemD ds i st) R) (s:SR K ρ H st):∃ k d,L2.ixN ds.length i=some k/\ds[k]?=some d/\R d st ρ H:=by
 unfold itemD at h
 cases e:MM.ixN ds.length i with
 | none=>rw[e]at h;exact h.elim
 | some k=>
  rw[e]at h
  cases e2:ds[k]? with
  | none=>dsimp only at h;rw[e2]at h;exact h.elim
  | some d=>dsimp only at h;rw[e2]at h;exact⟨k,d,e,e2,h.ret s⟩
theorem Qed {vs:List V}{ds:List D}{i:Int}{k:Nat}{d:D} (r:Reps K ρ H vs ds) (h1:L2.ixN ds.length i=some k) (h2:ds[k]?=some d):∃ v,atI vs i=some v/\Rep K ρ H v d:=by
 obtain⟨v,e,rv⟩:=r.get h2
 refine⟨v,?_,rv⟩
 unfold atI
 rw[r.length,h1]
 exact e
theorem Post.itemK {n:Nat}{k:D}{R:D->Sto->List Addr->Hp->Prop} (h:Post K ρ H (MM.itemK n k st) R) (s:SR K ρ H st):∃ b kvs d,st[n]?=some (.dct b kvs)/\kOk b k=true/\lkK kvs k=some d/\R d st ρ H:=by
 obtain⟨b,kvs,e,p1⟩:=Post.getDc (Post.bnd h) s
 obtain⟨hk,p2⟩:=Post.chk p1
 cases e2:lkK kvs k with
 | none=>dsimp only at p2;rw[e2]at p2;exact p2.elim
 | some d=>dsimp only at p2;rw[e2]at p2;exact⟨b,kvs,d,e,hk,e2,p2.ret s⟩
theorem ObR.dictIs {X:Cx}{pins:List (Addr × Obj)}{σ:St}{s:Shared}{a:Addr}{b:Bool}{kvs:List (D × D)} (I:Inv X pins σ H s) (g:ObR X.K ρ H a (.dct b kvs)):s.TypeIs (.ref a) "dict":=by
 cases b with
 | false=>
  obtain⟨es,e,r⟩:=g
  obtain⟨_,_,vs,_,dd⟩:=QcO I.hok e
  exact dd.typeIs
 | true=>
  obtain⟨es,e,r⟩:=g
  obtain⟨_,_,xs,_,dd,_⟩:=Qdy I e r
  exact dd.typeIs
theorem Qee (hu:X.A.units + 60 < cLine):IxR X (fun x y H Q=>∃ (ρ:List Addr) (st:Sto) (n:Nat) (a:Addr) (b:Bool) (kvs:List (D × D)) (k d:D),x=.ref a/\SR X.K ρ H st/\ρ[n]?=some a/\st[n]?=some (.dct b kvs)/\Rep X.K ρ H y k/\kOk b k=true/\lkK kvs k=some d/\∀ v,Rep X.K ρ H v d->Q v H):=by
 intro value slice pins s σ H x y v u Q I rx ry pq122 hs;obtain⟨ρ,st,n,a,b,kvs,k,d,ex,sr,ha,hn,rk,hk,hl,q⟩:=pq122
 subst ex
 cases rx
 have g:=sr.ob n a _ ha hn
 exact tail_any (ObR.dictIs I g) PySem.F.slot_dict_getitem.lookup (QdC (by ac_nf) I g rk hk hl ry fun v w' s' I' rv rw'=>⟨v,H,I',rw',q v rv⟩) hs
theorem Qef {x y:V}{d e:D}{Q:VK} (sr:SR K ρ H st) (rx:Rep K ρ H x d) (ry:Rep K ρ H y e) (hd:∀ n,d≠.dic n) (p:Post K ρ H (subsD d e st) fun r _ ρ' H'=>∀ v,Rep K ρ' H' v r->Q v H'):rIx K x y H Q:=by
 cases ry with
 | int i=>
  cases rx with
  | dic _ _=>exact absurd rfl (hd _)
  | tup h r=>
   obtain⟨k,d,h1,h2,q⟩:=Post.item p sr
   obtain⟨v,h3,rv⟩:=Qed r h1 h2
   exact .inr (.inl ⟨_,_,i,v,rfl,rfl,h,h3,q v rv⟩)
  | lit h r=>
   obtain⟨k,d,h1,h2,q⟩:=Post.item p sr
   obtain⟨v,h3,rv⟩:=Qed r h1 h2
   exact .inl ⟨_,_,i,v,rfl,rfl,h.seq,h3,q v rv⟩
  | ref _ h=>
   obtain⟨xs,e,p1⟩:=Post.getL (Post.bnd p) sr
   obtain⟨a,vs,ha,hv,r⟩:=sr.seq e
   rw[h]at ha;cases ha
   obtain⟨k,d,h1,h2,q⟩:=Post.item p1 sr
   obtain⟨v,h3,rv⟩:=Qed r h1 h2
   exact .inl ⟨_,_,i,v,rfl,rfl,SqL.of hv,h3,q v rv⟩
  | str z=>
   obtain⟨hz,p1⟩:=Post.chk p
   cases e:MM.ixN z.length i with
   | none=>rw[e]at p1;exact p1.elim
   | some k=>
    rw[e]at p1
    cases e2:z.cps.toList[k]? with
    | none=>dsimp only at p1;rw[e2]at p1;exact p1.elim
    | some c=>
     dsimp only at p1
     rw[e2]at p1
     refine .inr (.inr ⟨z,i,c,rfl,rfl,hz,?_,p1.ret sr _ (.str _)⟩)
     unfold atI
     rw[show z.cps.toList.length=z.length by simp[Str.length]]
     show (L2.ixN z.length i).bind _=_
     rw[show L2.ixN z.length i=some k from e]
     exact e2
  | _=>exact p.elim
 | _=>cases rx<;>first | exact absurd rfl (hd _) | exact p.elim
theorem ixd (hu:X.A.units + 60 < cLine):IxR X (rOf X.K subsD):=(Qcc.or (Qee hu)).of fun x y H Q pq57=>by
 obtain⟨ρ,st,d,e,sr,rx,ry,p⟩:=pq57
 by_cases hd:∃ n,d=.dic n
 ·obtain⟨n,rfl⟩:=hd
  cases rx with
  | @dic a n _ h=>
   have p':Post X.K ρ H (itemK n e st) fun r _ ρ' H'=>∀ (v:V),Rep X.K ρ' H' v r->Q v H':=by cases ry<;>exact p
   obtain⟨b,kvs,d,e1,hk,hl,q⟩:=Post.itemK p' sr
   exact .inr ⟨ρ,st,n,a,b,kvs,e,d,rfl,sr,h,e1,ry,hk,hl,q⟩
 ·exact .inl (Qef sr rx ry (fun n z=>hd ⟨n,z⟩) p)
theorem Qeg (hu:X.A.units + 60 < cLine) (ha:SE X a fa) (hb:SE X b fb) (hs:PlainIx b):SE X (.Subscript a b pos) (c2 subsD fa fb):=(Qb8 (ixd hu) ha hb hs).of (Qdg fun _ _ _ _ h=>h)
theorem Qeh {CX : CXT} {k n : Nat} {f : Addr} {fd : FuncData} {ps : List Str} {g : List D -> M D} {x : Str} {p : Pos} (F : FnOk X.prog X.w X.K X.mg X.base CX k f fd ps (spOf X.K n g)) (hr : Room k X.A) (hg : Gl X x) (hm : X.mg x = some (.ref f))
  (hk:PySem.W.keepIn X.K (.ref f)=true) (hb:Binds X.K fd ps []) (hx:Passes CX X E0) (ha:SA X (e::es) ca) (hn:∀ l st ds st',ca l st=.ok ds st'->ds.length=n) (hdb:(x == ("__debug__":Str))=false:=by decide)
  (he:starEach (e::es) X.env=(false,eval e X.env)::starEach es X.env:=by rfl) (hpl:(backTo pos (starEach es X.env)).any (·.1)=false:=by rfl):SE X (.Call (.Name x p) (e::es) [] pos) (cCall g ca):=
 (QbI F hr hg hm hk hb .nil hx ha hdb he hpl).of fun σ H Q h_=>h_.el fun ρ l st lr sr p=>⟨ρ,l,st,lr,sr,by
  have q:=Post.bnd p
  cases ec:ca l st with
  | bad=>rw[ec]at q;exact q
  | exc _ _=>rw[ec]at q;exact q
  | ok ds st1=>
   rw[ec]at q
   intro ρ1 H1 x1 s1 vs rvs
   refine⟨by rw[List.append_nil,rvs.length];exact hn l st ds st1 ec,ρ1,st1,ds,s1,by rw[List.append_nil];exact rvs,q ρ1 H1 x1 s1⟩⟩
variable {ta tb:CT}
theorem Qei {d:D}{v:V}{R:Bool->Sto->List Addr->Hp->Prop} (p:Post K ρ H (truD d st) R) (sr:SR K ρ H st) (rv:Rep K ρ H v d):∃ k,TruV K v H k/\R k st ρ H:=by
 cases rv with
 | non=>exact⟨false,rfl,p.ret sr⟩
 | bl b=>exact⟨b,rfl,p.ret sr⟩
 | int i=>exact⟨_,rfl,p.ret sr⟩
 | str x=>exact⟨_,⟨(Post.chk p).1,rfl⟩,(Post.chk p).2.ret sr⟩
 | @tup a vs ds h r=>
  refine⟨!vs.isEmpty,.inr (.inl ⟨vs,h,rfl⟩),?_⟩
  have:vs.isEmpty=ds.isEmpty:=by
   have:=r.length
   cases vs<;>cases ds<;>simp_all
  rw[this];exact p.ret sr
 | @lit a vs ds h r=>
  refine⟨!vs.isEmpty,.inl ⟨vs,h.seq,rfl⟩,?_⟩
  have:vs.isEmpty=ds.isEmpty:=by
   have:=r.length
   cases vs<;>cases ds<;>simp_all
  rw[this];exact p.ret sr
 | ref _ h=>
  obtain⟨ds,e,p1⟩:=Post.getL (Post.bnd p) sr
  obtain⟨a,vs,ha,hv,r⟩:=sr.seq e
  rw[h]at ha;cases ha
  refine⟨!vs.isEmpty,.inl ⟨vs,SqL.of hv,rfl⟩,?_⟩
  have:vs.isEmpty=ds.isEmpty:=by
   have:=r.length
   cases vs<;>cases ds<;>simp_all
  rw[this];exact p1.ret sr
 | dic _ _=>exact p.elim
 | exn0 _ _=>exact p.elim
 | exn _ _ _ _=>exact p.elim
theorem Qej (ha:SE X a fa) (he:∀ whole,isTrue a X.env whole=(do let v <- whole;standAt a.pos;holding [v] (truthy v)):=by intro _;rfl):ST X a (tVal fa):=
 (Qbt ha he).of fun σ H Q h_=>h_.el fun ρ l st lr sr p=>⟨ρ,l,st,lr,sr,p.bnd.imp fun d st1 ρ1 H1 x1 s1 p1 v rv=>Qei p1 s1 rv⟩
theorem Qek {op:CmpOp}{g:D->D->M D} (ho:OpR X (compareOp op) (rOf X.K g)) (ha:SE X a fa) (hb:SE X b fb) (hm:behindInMarks op b=false):ST X (.Compare a [op] [b] pos) (tCmpB (c2 g fa fb)):=
 (Qbm ho ha hb hm).of fun σ H Q h_=>h_.el fun ρ l st lr sr p=>Qdg (X:=X) (fun _ _ _ _ h=>h) _ _ _ ⟨ρ,l,st,lr,sr,p.bnd.imp fun d st1 ρ1 H1 x1 s1 p1 v rv=>by
  cases rv with
  | bl k=>exact⟨k,rfl,p1.ret s1⟩
  | _=>exact p1.elim⟩
theorem Qel (ha:ST X a ta):PW X (.BoolOp .And [a] pos) (ttOf X.K ta):=QaB ha
theorem Qem (ha:ST X a ta):PW X (.BoolOp .Or [a] pos) (ttOf X.K ta):=QaC ha
theorem _root_.L2.PW.of {e:Expr}{t t':TT} (h:PW X e t) (f:∀ σ H Q,t' σ H Q->t σ H Q):PW X e t':=fun whole pins s σ H Q I q=>h whole pins s σ H Q I (f σ H Q q)
theorem Qen {rest:List Expr} (ha:ST X a ta) (hb:PW X (.BoolOp .And (b::rest) pos) (ttOf X.K tb)):PW X (.BoolOp .And (a::b::rest) pos) (ttOf X.K (tAndB ta tb)):=
 (QaD ha hb).of fun σ H Q h_=>h_.el fun ρ l st lr sr p=>⟨ρ,l,st,lr,sr,p.bnd.imp fun c st1 ρ1 H1 x1 s1 p1=>by
  cases c with
  | true=>exact⟨ρ1,l,st1,lr.mono x1,s1,p1⟩
  | false=>exact p1.ret s1⟩
theorem Qeo {rest:List Expr} (ha:ST X a ta) (hb:PW X (.BoolOp .Or (b::rest) pos) (ttOf X.K tb)):PW X (.BoolOp .Or (a::b::rest) pos) (ttOf X.K (tOrB ta tb)):=
 (QaE ha hb).of fun σ H Q h_=>h_.el fun ρ l st lr sr p=>⟨ρ,l,st,lr,sr,p.bnd.imp fun c st1 ρ1 H1 x1 s1 p1=>by
  cases c with
  | true=>exact p1.ret s1
  | false=>exact⟨ρ1,l,st1,lr.mono x1,s1,p1⟩⟩
theorem Qep (ha:ST X a ta):ST X (.UnaryOp .Not a pos) (tNotB ta):=(QaF ha).of fun σ H Q h_=>h_.el fun ρ l st lr sr p=>⟨ρ,l,st,lr,sr,p.bnd.imp fun c st1 ρ1 H1 x1 s1 p1=>p1.ret s1⟩
theorem Qeq {op:BoolOp} (h:SE X a fa):SE X (.BoolOp op [a] pos) fa:=QaG h
theorem Qer {rest:List Expr} (ha:SE X a fa) (hb:SE X (.BoolOp .And (b::rest) pos) fb):SE X (.BoolOp .And (a::b::rest) pos) (cAnd fa fb):=
 (QaH ha hb).of fun σ H Q h_=>h_.el fun ρ l st lr sr p=>⟨ρ,l,st,lr,sr,p.bnd.imp fun d st1 ρ1 H1 x1 s1 p1 v rv=>by
  cases rv with
  | bl c=>
   refine⟨c,rfl,?_⟩
   cases c with
   | true=>exact⟨ρ1,l,st1,lr.mono x1,s1,p1⟩
   | false=>exact p1.ret s1 _ (.bl false)
  | _=>exact p1.elim⟩
theorem Qes (ha : SE X a fa) : SE X (.UnaryOp .Not a pos) (cNot fa) := (QaI ha).of fun σ H Q h_ => h_.el fun ρ l st lr sr p => ⟨ρ, l, st, lr, sr, p.bnd.imp fun d st1 ρ1 H1 x1 s1 p1 v rv => by
  cases rv with
  | bl c=>exact⟨c,rfl,p1.ret s1 _ (.bl _)⟩
  | _=>exact p1.elim⟩
theorem Qet {f g:D->D->M D}:∀ σ H Q,tOf X.K (cChain f g fa fb fc) σ H Q->tChain (rOf X.K f) (rOf X.K g) (tOf X.K fa) (tOf X.K fb) (tOf X.K fc) σ H Q:=fun σ H Q h_=>h_.el fun ρ l st lr sr p=>
 ⟨ρ,l,st,lr,sr,p.bnd.imp fun d st1 ρ1 H1 x1 s1 p1 v rv=>⟨ρ1,l,st1,lr.mono x1,s1,p1.bnd.imp fun e st2 ρ2 H2 x2 s2 p2 u ru=>⟨ρ2,st2,d,e,s2,rv.mono x2,ru,p2.bnd.imp fun z st3 ρ3 H3 x3 s3 p3 w rw'=>by
  cases rw' with
  | bl k=>
   refine⟨k,rfl,?_⟩
   cases k with
   | true=>exact⟨ρ3,l,st3,(lr.mono x1).mono (x2.trans x3),s3,p3.bnd.imp fun t st4 ρ4 H4 x4 s4 p4 q rq=>⟨ρ4,st4,e,t,s4,(ru.mono x3).mono x4,rq,p4⟩⟩
   | false=>exact p3.ret s3 _ (.bl false)
  | _=>exact p3.elim⟩⟩⟩
theorem Qeu {op op' : CmpOp} {f g : D -> D -> M D} (ho : OpR X (compareOp op) (rOf X.K f)) (ho' : OpR X (compareOp op') (rOf X.K g)) (ha : SE X a fa) (hb : SE X b fb) (hc : SE X c fc)
  (hm:lastMarks [op,op'] [b,c]=false:=by with_unfolding_all rfl):SE X (.Compare a [op,op'] [b,c] pos) (cChain f g fa fb fc):=(Qbn ho ho' ha hb hc hm).of Qet
theorem Qev {op op' : CmpOp} {f g : D -> D -> M D} (ho : OpR X (compareOp op) (rOf X.K f)) (ho' : OpR X (compareOp op') (rOf X.K g)) (ha : SE X a fa) (hb : SE X b fb) (hc : SE X c fc)
  (hm:lastMarks [op,op'] [b,c]=false:=by with_unfolding_all rfl):ST X (.Compare a [op,op'] [b,c] pos) (tCmpB (cChain f g fa fb fc)):=
 (Qbo ho ho' ha hb hc hm).of fun σ H Q h_=>h_.el fun ρ l st lr sr p=>Qet _ _ _ ⟨ρ,l,st,lr,sr,p.bnd.imp fun d st1 ρ1 H1 x1 s1 p1 v rv=>by
  cases rv with
  | bl k=>exact⟨k,rfl,p1.ret s1⟩
  | _=>exact p1.elim⟩
end
theorem LR.set {K:PySem.W.Frag}{ρ:List Addr}{H:Hp}{σ:St}{l:Loc}{v:V}{d:D} (h:LR K ρ H σ l) (i:Nat) (r:Rep K ρ H v d):LR K ρ H (σ.set i (some v)) (l.set i (some d)):=by
 refine⟨by simp[h.1],fun j e q=>?_⟩
 by_cases z:i=j
 ·subst z
  by_cases hl:i < l.length
  ·rw[List.getElem?_set_self hl]at q
   cases q
   exact⟨v,by rw[List.getElem?_set_self (by rw[h.1];exact hl)],r⟩
  ·rw[List.getElem?_eq_none (by simp;ac_nf)]at q;cases q
 ·rw[List.getElem?_set_ne z]at q
  obtain⟨w,e1,r1⟩:=h.2 j e q
  exact⟨w,by rw[List.getElem?_set_ne z];exact e1,r1⟩
theorem LR.start {K:PySem.W.Frag}{ρ:List Addr}{H:Hp}{N:List Str}{vs:List V}{ds:List D} (r:Reps K ρ H vs ds):LR K ρ H (L2.start N vs) (ds.map some++List.replicate (N.length - ds.length) none):=by
 have hl:=r.length
 unfold L2.start
 refine⟨by simp[hl],fun i d e=>?_⟩
 by_cases hi:i < ds.length
 ·rw[List.getElem?_append_left (by simpa using hi),List.getElem?_map]at e
  cases q:ds[i]? with
  | none=>rw[q]at e;cases e
  | some d'=>
   rw[q]at e
   have e':d'=d:=Option.some.inj (Option.some.inj e)
   subst e'
   obtain⟨v,hv,rv⟩:=r.get q
   refine⟨v,?_,rv⟩
   rw[List.getElem?_append_left (by simp;ac_nf),List.getElem?_map,hv];rfl
 ·rw[List.getElem?_append_right (by simpa using hi),List.getElem?_replicate]at e
  split at e<;>cases e
section
variable {X:Cx}{a b c e tg:Expr}{es:List Expr}{s:Stmt}{ss:List Stmt}{pos:Pos}{fa fb fc:CE}{ca cb:CA}{ta tb:CT}{cs cr:CS}{K:PySem.W.Frag}{ρ:List Addr}{H:Hp}{st:Sto}
abbrev SG (X:Cx) (e:Expr) (g:CG):Prop:=PG X e (tgOf X.K g)
abbrev SGs (X:Cx) (e:List Expr) (g:List D->Loc->M Loc):Prop:=PGs X e (tgsOf X.K g)
theorem Qew {i:Nat}{x:Str} (h:PG X (.Name x pos) (gName i)):SG X (.Name x pos) (gVar i):=h.of fun v σ H Q pq58=>by obtain⟨ρ,l,st,d,lr,sr,rv,p⟩:=pq58;exact p.ret sr _ (lr.set i rv)
theorem Qex:SGs X [] gsNil:=QaQ.of fun vs σ H Q pq59=>by
 obtain⟨ρ,l,st,ds,lr,sr,rvs,p⟩:=pq59
 cases rvs with
 | nil=>exact⟨rfl,p.ret sr σ lr⟩
 | cons _ _=>exact p.elim
theorem Qey {g:CG}{r:List D->Loc->M Loc} (h1:SG X e g) (h2:SGs X es r) (hs:(assignEach (e::es) X.env).map (·.2)=assign e X.env::(assignEach es X.env).map (·.2):=by rfl):SGs X (e::es) (gsCons g r):=
 (QaR h1 h2 hs).of fun vs σ H Q pq60=>by
  obtain⟨ρ,l,st,ds,lr,sr,rvs,p⟩:=pq60
  cases rvs with
  | nil=>exact p.elim
  | cons rv rt=>exact⟨_,_,rfl,ρ,l,st,_,lr,sr,rv,(Post.bnd p).imp fun l1 st1 ρ1 H1 x1 s1 p1 σ1 lr1=>⟨ρ1,l1,st1,_,lr1,s1,rt.mono x1,p1⟩⟩
theorem Qez {k n:Nat}{r:List D->Loc->M Loc} (hc:X.calm=true) (h:SGs X es r) (hn:(assignEach es X.env).length=n:=by rfl) (hst:(assignEach es X.env).findIdx? (·.1)=none:=by rfl):SG X (.Tuple es k pos) (gTupD n r):=
 (QaS hc h hn hst).of fun v σ H Q pq61=>by
  obtain⟨ρ,l,st,d,lr,sr,rv,p⟩:=pq61
  cases rv with
  | tup h r=>exact⟨_,_,rfl,h,by rw[r.length];exact (Post.chk p).1,ρ,l,st,_,lr,sr,r,(Post.chk p).2⟩
  | _=>exact p.elim
theorem QeA:SSs X [] sNext:=QaJ.of fun G σ H h_=>h_.el fun ρ l st lr sr p=>p.ret sr σ lr
theorem QeB (h1:SS X s cs) (h2:SSs X ss cr):SSs X (s::ss) (sSeq cs cr):=(QaK h1 h2).of fun G σ H h_=>h_.el fun ρ l st lr sr p=>⟨ρ,l,st,lr,sr,p.bnd.imp fun f st1 ρ1 H1 x1 s1 p1=>by
 cases f with
 | next l'=>exact fun σ' lr'=>⟨ρ1,l',st1,lr',s1,p1⟩
 | ret d=>exact p1.ret s1
 | brk l'=>exact p1.ret s1
 | cnt l'=>exact p1.ret s1⟩
theorem QeC:SS X s sBad:=QaO.of fun G σ H h_=>h_.el fun ρ l st lr sr p=>p.elim
theorem QeD (h:SE X e fa):SS X (.Return (some e) pos) (sRet fa):=(QaM h).of fun G σ H h_=>h_.el fun ρ l st lr sr p=>⟨ρ,l,st,lr,sr,p.bnd.imp fun d st1 ρ1 H1 x1 s1 p1 v rv=>p1.ret s1 v rv⟩
theorem QeE (h:SE X e fa) (hs:swapsWith e none pos.line X.env=pure false:=by rfl):SS X (.Expr e pos) (sExp fa):=(QaL h hs).of fun G σ H h_=>h_.el fun ρ l st lr sr p=>
 ⟨ρ,l,st,lr,sr,p.bnd.imp fun d st1 ρ1 H1 x1 s1 p1 v rv=>p1.ret s1 σ (lr.mono x1)⟩
theorem QeF (hc:ST X c ta) (ha:SSs X ss cs) {sr:List Stmt} (hb:SSs X sr cr):SS X (.If c ss sr pos) (sIf ta cs cr):=(QaN hc ha hb).of fun G σ H h_=>h_.el fun ρ l st lr sr p=>
 ⟨ρ,l,st,lr,sr,p.bnd.imp fun k st1 ρ1 H1 x1 s1 p1=>by
  cases k with
  | true=>exact⟨ρ1,l,st1,lr.mono x1,s1,p1⟩
  | false=>exact⟨ρ1,l,st1,lr.mono x1,s1,p1⟩⟩
theorem QeG {g:CG}{te:TE}{tg:TG} (he:∀ σ H Q,tOf X.K fa σ H Q->te σ H Q) (hg:∀ v σ H Q,tgOf X.K g v σ H Q->tg v σ H Q):∀ G σ H,tsOf X.K (sAsg g fa) G σ H->tAsg te tg G σ H:=fun G σ H h_=>h_.el fun ρ l st lr sr p=>
 he _ _ _ ⟨ρ,l,st,lr,sr,p.bnd.imp fun d st1 ρ1 H1 x1 s1 p1 v rv=>hg _ _ _ _ ⟨ρ1,l,st1,d,lr.mono x1,s1,rv,p1.bnd.imp fun l2 st2 ρ2 H2 x2 s2 p2 σ2 lr2=>p2.ret s2 σ2 lr2⟩⟩
theorem QeH {i:Nat}:∀ v σ H Q,tgOf X.K (gVar i) v σ H Q->gName i v σ H Q:=fun v σ H Q pq62=>by obtain⟨ρ,l,st,d,lr,sr,rv,p⟩:=pq62;exact p.ret sr _ (lr.set i rv)
theorem QeI {i : Nat} {x : Str} {pos' : Pos} (hN : X.N.Nodup) (hi : X.N[i]? = some x) (hx : L2.Loc X.env.scope x) (he : SE X e fa) (hs : swapsWith e (some (.Name x pos')) pos.line X.env = pure false := by rfl)
  (hf:X.fn x=true\/X.env.scope.names.lookup x=some .local:=by first | exact .inl rfl | exact .inr rfl | assumption):SS X (.Assign [.Name x pos'] e pos) (sAsg (gVar i) fa):=
 (QaV hN hi hx he hs hf).of (QeG (fun _ _ _ h=>h) QeH)
theorem QeJ {g : CG} (he : SE X e fa) (hg : SG X tg g) (hs : swapsWithSole [tg] e pos.line X.env = pure false := by rfl) (hw : swappedStores [tg] e X.env = pure none := by rfl)
  (h1:(assignEach [tg] X.env).map (·.2)=[assign tg X.env]:=by rfl):SS X (.Assign [tg] e pos) (sAsg g fa):=(QaU he hg hs hw h1).of (QeG (fun _ _ _ h=>h) fun _ _ _ _ h=>h)
theorem Post.storeK {n:Nat}{k v:D}{R:Unit->Sto->List Addr->Hp->Prop} (h:Post K ρ H (MM.storeK n k v st) R) (s:SR K ρ H st):∃ b kvs,st[n]?=some (.dct b kvs)/\kOk b k=true/\kvs.length < lim/\Post K ρ H (.ok () (st.set n (.dct b (ptK kvs k v)))) R:=by
 obtain⟨b,kvs,e,p1⟩:=Post.getDc (Post.bnd h) s
 obtain⟨⟨hk,hl⟩,p2⟩:=Post.chk p1
 refine⟨b,kvs,e,hk,hl,?_⟩
 unfold putDc at p2
 rw[e]at p2
 simpa using p2
def rSetD (X:Cx):V->V->V->Hp->(Hp->Prop)->Prop:=fun o i v H Q=>∃ (ρ:List Addr) (st:Sto) (n:Nat) (a:Addr) (b:Bool) (kvs:List (D × D)) (k d:D),o=.ref a/\SR X.K ρ H st/\ρ[n]?=some a/\st[n]?=some (.dct b kvs)/\Rep X.K ρ H i k/\kOk b k=true/\kvs.length < sizeLine/\Rep X.K ρ H v d /\
 ∀ H',SR X.K ρ H' (st.set n (.dct b (ptK kvs k d)))->Ex ρ H ρ H'->Q H'
theorem QeK (hu:X.A.units + 60 < cLine):PSet X (rSetD X):=by
 intro pins s σ H o i v ov iv u Q I ro ri rv pq123;obtain⟨ρ,st,n,a,b,kvs,k,d,eo,sr,ha,hn,rk,hk,hl,rd,q⟩:=pq123
 subst eo
 cases ro
 exact QdE (by ac_nf) I sr ha hn rk hk hl rd ri rv fun H' s' I' s3 x3=>⟨H',I',q H' s3 x3⟩
theorem _root_.L2.PSet.or {t t':TSet} (h:PSet X t) (h':PSet X t'):PSet X (fun o i v H Q=>t o i v H Q\/t' o i v H Q):=by
 intro pins s σ H o i v ov iv u Q I ro ri rv q
 rcases q with q | q
 ·exact h pins s σ H o i v ov iv u Q I ro ri rv q
 ·exact h' pins s σ H o i v ov iv u Q I ro ri rv q
theorem QeL {to ti : CE} {o i : Expr} (hu : X.A.units + 60 < cLine) (ho : SE X o to) (hi : SE X i ti)
  (ha:∀ v,assign (.Subscript o i pos) X.env v=(do
   let ov <- holding [v] (eval o X.env)
   let iv <- holding [v,ov] (eval i X.env)
   standAt pos
   holding [v,ov,iv] (setItem ov iv v)
   release [v,ov,iv] []):=by intro _;rfl):SG X (.Subscript o i pos) (gSubD to ti):=
 (QaT ho hi (Qce.or (QeK hu)) ha).of fun v σ H Q pq63=>by obtain⟨ρ,l,st,d,lr,sr,rv,p⟩:=pq63;exact⟨ρ,l,st,lr,sr,p.bnd.imp fun y st1 ρ1 H1 x1 s1 p1 u ru=>⟨ρ1,l,st1,lr.mono x1,s1,p1.bnd.imp fun z st2 ρ2 H2 x2 s2 p2 w rw'=>by
  have ru2:=ru.mono x2
  have rd:Rep X.K ρ2 H2 v d:=(rv.mono x1).mono x2
  cases ru2 with
  | ref _ h=>
   cases rw' with
   | int k=>
    obtain⟨ds,e,p3⟩:=Post.getL (Post.bnd (Post.bnd p2)) s2
    obtain⟨a,vs,ha,hv,r⟩:=s2.seq e
    rw[h]at ha;cases ha
    cases e2:MM.ixN ds.length k with
    | none=>rw[e2]at p3;exact p3.elim
    | some j=>
     rw[e2]at p3
     have hl:=(List.getElem?_eq_some_iff.mp e).1
     obtain⟨s3,x3⟩:=s2.put hl h hv (r.set j rd)
     refine .inl ⟨_,vs,k,j,rfl,rfl,hv,by rw[r.length];exact e2,?_⟩
     have p4:Post X.K ρ2 H2 (putL _ (ds.set j d) st2) _:=p3
     unfold putL at p4
     rw[e]at p4
     exact (p4 ρ2 _ x3 s3).ret s3 σ (((lr.mono x1).mono x2).mono x3)
   | _=>exact (Post.bnd p2).elim
  | @dic a n _ h=>
   have p':Post X.K ρ2 H2 (storeK n z d st2) fun a st' ρ' H'=>Post X.K ρ' H' (MM.ret l st') fun l' _ ρ' H'=>∀ σ',LR X.K ρ' H' σ' l'->Q σ' H':=by cases rw'<;>exact Post.bnd p2
   obtain⟨b,kvs,e1,hk,hl,q⟩:=Post.storeK p' s2
   exact .inr ⟨ρ2,st2,n,a,b,kvs,z,d,rfl,s2,h,e1,rw',hk,hl,rd,fun H3 s3 x3=>(q ρ2 H3 x3 s3).ret s3 σ (((lr.mono x1).mono x2).mono x3)⟩
  | _=>exact (Post.bnd p2).elim⟩⟩
theorem QeM {P : Program} {w : World} {K : PySem.W.Frag} {mg : Str -> Option Value} {base : Heap} {x qual : Str} {sd : Stmt} {f : Addr} {fd : FuncData} {N ps : List Str} {k : Nat} {body : CS} (F : Fun K x qual sd f fd) (S : FnScope N ps (defScope sd))
  (hbody:∀ (cdv:Value) (A:Around) (outer:List Env) (s:Shared) (H:Hp) (E:XK),Room k (A.deeper (envOfC qual (defScope sd) s.heap.objs.size f cdv))->SSs (cxOf CX0 P w K mg base N qual (defScope sd) f cdv A outer s H E).nox (defBody sd) body):
  FnOk P w K mg base CX0 (k + 1) f fd ps (spOf K ps.length (runDef N.length body)):=by
 refine F.ok S (fun vs H Q E h=>h.1) (fun cdv A outer s H vs Q E hr h=>⟨_,hbody cdv A outer s H E hr,?_⟩)
 obtain⟨hl,ρ,st,ds,sr,rvs,p⟩:=h
 refine⟨ρ,_,st,LR.start rvs,sr,?_⟩
 unfold runDef at p
 exact p.bnd.imp fun f st1 ρ1 H1 x1 s1 p1=>by
  cases f with
  | next l=>exact fun σ' _=>p1.ret s1 _ .non
  | ret d=>exact fun v rv=>p1.ret s1 v rv
  | brk l=>exact p1.elim
  | cnt l=>exact p1.elim
def ItR (K:PySem.W.Frag) (ρ0:List Addr) (H0:Hp) (w:Wk) (J:It):Prop:=∀ ρ H st,Ex ρ0 H0 ρ H->SR K ρ H st->w.same st->J.stop w.ds.length H/\∀ (i:Nat) (d:D),w.ds[i]?=some d->J.go i H/\∀ x H',J.yld i H x H'->Ex ρ H ρ H'/\SR K ρ H' st/\Rep K ρ H' x d
def tiOf (K:PySem.W.Frag) (f:CI):TI:=fun σ H R=>∃ ρ l st,LR K ρ H σ l/\SR K ρ H st/\Post K ρ H (f l st) fun w _ ρ' H'=>∀ J,ItR K ρ' H' w J->R J H'
abbrev SI (X:Cx) (tg e:Expr) (f:CI):Prop:=PI X tg e (tiOf X.K f)
theorem _root_.L2.PI.of {tg e:Expr}{t t':TI} (h:PI X tg e t) (f:∀ σ H R,t' σ H R->t σ H R):PI X tg e t':=fun pins s σ H R I q=>h pins s σ H R I (f σ H R q)
theorem QeN {ρ0:List Addr}{H0:Hp}{ds:List D}{p:Sto->Prop}{a:Addr} (h:∀ ρ H st,Ex ρ0 H0 ρ H->SR K ρ H st->p st->∃ vs,SqL K H a vs/\Reps K ρ H vs ds):ItR K ρ0 H0 ⟨ds,p⟩ (Itl K a):=fun ρ H st x s q=>by
 obtain⟨vs,hv,r⟩:=h ρ H st x s q
 refine⟨⟨vs,hv,by rw[r.length];exact Nat.le_refl _⟩,fun i d e=>?_⟩
 obtain⟨v,e1,rv⟩:=r.get e
 refine⟨⟨vs,v,hv,e1⟩,fun y H' pq64=>?_⟩
 obtain⟨e2,e3⟩:=pq64
 subst e2
 have:=e3 vs hv
 rw[e1]at this;cases this
 exact⟨Ex.refl,s,rv⟩
theorem QeO {ρ0:List Addr}{H0:Hp}{ds:List D}{p:Sto->Prop}{a:Addr} (h:∀ ρ H st,Ex ρ0 H0 ρ H->SR K ρ H st->p st->∃ vs,SqT K H a vs/\Reps K ρ H vs ds):ItR K ρ0 H0 ⟨ds,p⟩ (Itt K a):=fun ρ H st x s q=>by
 obtain⟨vs,hv,r⟩:=h ρ H st x s q
 refine⟨⟨vs,hv,by rw[r.length];exact Nat.le_refl _⟩,fun i d e=>?_⟩
 obtain⟨v,e1,rv⟩:=r.get e
 refine⟨⟨vs,v,hv,e1⟩,fun y H' pq65=>?_⟩
 obtain⟨e2,e3⟩:=pq65
 subst e2
 have:=e3 vs hv
 rw[e1]at this;cases this
 exact⟨Ex.refl,s,rv⟩
theorem QeP {ρ0:List Addr}{H0:Hp}{lo:Int}{n:Nat}:ItR K ρ0 H0 ⟨rngD lo n,anySt⟩ (Itr lo n):=fun ρ H st x s _=>by
 refine⟨by show n<=(rngD lo n).length;unfold rngD;simp,fun i d e=>?_⟩
 have hi:i < n:=by
  have:=(List.getElem?_eq_some_iff.mp e).1
  simpa [rngD] using this
 refine⟨hi,fun y H' pq66=>?_⟩
 obtain⟨e2,e3⟩:=pq66
 subst e2 e3
 have:d=.int (lo + (i:Nat)):=by
  unfold rngD at e
  rw[List.getElem?_map,List.getElem?_range hi]at e
  exact (Option.some.inj e).symm
 subst this
 exact⟨Ex.refl,s,.int _⟩
theorem QeQ {l:Expr}{tl:TE} (hl:PE X l tl):PI X tg l (fun σ H R=>tl σ H fun x H1=>∃ a,x=.ref a/\((∃ xs,SqL X.K H1 a xs)/\R (Itl X.K a) H1\/(∃ xs,SqT X.K H1 a xs)/\R (Itt X.K a) H1)):=by
 intro pins s σ H R I h
 refine thn (hl pins s σ H _ I h) fun v s1 pq67=>?_
 obtain⟨x,H1,I1,r1,a,e,q⟩:=pq67
 subst e
 cases r1
 rcases q with ⟨⟨xs,hq⟩,q⟩ | ⟨⟨xs,hq⟩,q⟩
 ·obtain⟨its,rv,p,hz⟩:=I1.list hq
  refine wpAny_pyIter_list p.isList ?_
  refine⟨s1.heap.objs.size,[s1.heap.objs.size],_,_,H1,rfl,I1.kept (t':=s1.toks) fun b o e=>Heap.get?_push_of_some _ e,QaX a _,⟨_,Heap.get?_push_size _ rfl,rfl,rfl⟩,fun b hb=>?_,q⟩
  have e:b=s1.heap.objs.size:=by simpa using hb
  subst e
  exact I1.fpOk (Nat.le_refl _) (I1.hok.fresh (Nat.le_refl _))
 ·obtain⟨its,rv,p,hz⟩:=I1.tuple hq
  refine wpAny_pyIter_tuple (show s1.heap.IsTuple a its.toArray from p) ?_
  refine⟨s1.heap.objs.size,[s1.heap.objs.size],_,_,H1,rfl,I1.kept (t':=s1.toks) fun b o e=>Heap.get?_push_of_some _ e,QaY a _,⟨_,Heap.get?_push_size _ rfl,rfl,rfl⟩,fun b hb=>?_,q⟩
  have e:b=s1.heap.objs.size:=by simpa using hb
  subst e
  exact I1.fpOk (Nat.le_refl _) (I1.hok.fresh (Nat.le_refl _))
theorem QeR (h:SE X e fa):SI X tg e (iSeq fa):=(QeQ h).of fun σ H R h_=>h_.el fun ρ l st lr sr p=>⟨ρ,l,st,lr,sr,p.bnd.imp fun d st1 ρ1 H1 x1 s1 p1 v rv=>by
 cases rv with
 | @tup a vs ds h r=>exact⟨a,rfl,.inr ⟨⟨vs,h⟩,p1.ret s1 _ (QeO fun ρ H st x s _=>⟨vs,SqT.mono x.up h,r.mono x⟩)⟩⟩
 | @lit a vs ds h r=>exact⟨a,rfl,.inl ⟨⟨vs,h.seq⟩,p1.ret s1 _ (QeN fun ρ H st x s _=>⟨vs,(FzL.mono x.up h).seq,r.mono x⟩)⟩⟩
 | @ref a n _ h=>
  obtain⟨ds,e,p2⟩:=Post.getL (Post.bnd p1) s1
  obtain⟨a',vs,ha,hv,r⟩:=s1.seq e
  rw[h]at ha;cases ha
  refine⟨a,rfl,.inl ⟨⟨vs,SqL.of hv⟩,p2.ret s1 _ (QeN fun ρ H st x s q=>?_)⟩⟩
  obtain⟨a2,ws,ha2,hw,rw'⟩:=s.seq q
  obtain⟨τ,eτ,_⟩:=x.pre
  rw[eτ,Qc8 h]at ha2;cases ha2
  exact⟨ws,SqL.of hw,rw'⟩
 | _=>exact p1.elim⟩
theorem QeS {p:Pos} (hg:Gl X "range") (hm:X.mg "range"=none) (h:SE X a fa) (hs:starEach [a] X.env=[(false,eval a X.env)]:=by rfl):SI X tg (.Call (.Name "range" p) [a] [] pos) (MM.iRng1 fa):=
 (Qa1 (tg:=tg) (p:=p) (pos:=pos) hg hm (Qd9 h Qd8 hs) hs).of fun σ H R h_=>h_.el fun ρ l st lr sr p=>⟨ρ,l,st,lr,sr,by
  have q:=Post.bnd p
  unfold cCons
  show Post X.K ρ H (bnd (fa l) _ st) _
  unfold MM.bnd
  cases e:fa l st with
  | bad=>rw[e]at q;exact q
  | exc _ _=>rw[e]at q;exact q
  | ok d st1=>
   rw[e]at q
   show ∀ ρ' H',Ex ρ H ρ' H'->SR X.K ρ' H' st1->_
   intro ρ1 H1 x1 s1 vs rvs
   have p1:=q ρ1 H1 x1 s1
   cases rvs with
   | cons rv rt=>
    cases rt
    cases rv with
    | int j=>
     obtain⟨⟨h1,h2⟩,p2⟩:=Post.chk p1
     exact⟨j,rfl,h1,h2,p2.ret s1 _ QeP⟩
    | _=>exact p1.elim⟩
theorem Post.chkS {p:Sto->Prop}{R:Unit->Sto->List Addr->Hp->Prop} (h:Post K ρ H (MM.chkS p st) R) (s:SR K ρ H st):p st/\R () st ρ H:=by
 unfold MM.chkS at h
 by_cases hp:p st
 ·rw[if_pos hp]at h;exact⟨hp,h ρ H Ex.refl s⟩
 ·rw[if_neg hp]at h;exact h.elim
theorem QeT {iter : Expr} {body : List Stmt} {ci : CI} {g : CG} {cb : CS} (hp : PassesOwn (model X.prog X.w) X.A X.env X.xe) (hc : X.calm = true) (hi : SI X tg iter ci) (hg : SG X tg g) (hb : SSs X body cb)
  (hs:∀ x,foldedSetIterable iter X.env x=pure x:=by intro _;rfl):SS X (.For tg iter body [] pos) (sFor ci g cb):=(Qa5 hp hc hi hg hb hs).of fun G σ H h_=>h_.el fun ρ l st lr sr p=>
 ⟨ρ,l,st,lr,sr,p.bnd.imp fun w st1 ρ1 H1 x1 s1 p1 J hJ=>by
  refine⟨fun i m σ' H'=>m=w.ds.length - i/\i<=w.ds.length/\∃ ρ' l' st',Ex ρ1 H1 ρ' H'/\LR X.K ρ' H' σ' l'/\SR X.K ρ' H' st'/\Post X.K ρ' H' (forD g cb w.same (w.ds.drop i) l' st') fun f _ ρ' H'=>match f with
   | .next l'=>∀ σ',LR X.K ρ' H' σ' l'->G.nx σ' H'
   | .ret d=>∀ v,Rep X.K ρ' H' v d->G.rt v H'
   | .brk l'=>∀ σ',LR X.K ρ' H' σ' l'->G.bk σ' H'
   | .cnt l'=>∀ σ',LR X.K ρ' H' σ' l'->G.ct σ' H',⟨w.ds.length,by simp,Nat.zero_le _,ρ1,l,st1,Ex.refl,lr.mono x1,s1,p1⟩,?_⟩
  rintro i m σ2 H2 ⟨rfl,hi,ρ2,l2,st2,x2,lr2,s2,p2⟩
  by_cases hlt:i < w.ds.length
  ·have ed:w.ds.drop i=w.ds[i]::w.ds.drop (i + 1):=List.drop_eq_getElem_cons hlt
   rw[ed]at p2
   unfold forD at p2
   obtain⟨sm,p3⟩:=Post.chkS (Post.bnd p2) s2
   obtain⟨_,go⟩:=hJ ρ2 H2 st2 x2 s2 sm
   obtain⟨g1,g2⟩:=go i w.ds[i] (List.getElem?_eq_getElem hlt)
   refine .inr ⟨g1,fun σ3 H3=>∃ ρ3 l3 st3,Ex ρ1 H1 ρ3 H3/\LR X.K ρ3 H3 σ3 l3/\SR X.K ρ3 H3 st3/\Post X.K ρ3 H3 (forD g cb w.same (w.ds.drop (i + 1)) l3 st3) fun f _ ρ' H'=>match f with
    | .next l'=>∀ σ',LR X.K ρ' H' σ' l'->G.nx σ' H'
    | .ret d=>∀ v,Rep X.K ρ' H' v d->G.rt v H'
    | .brk l'=>∀ σ',LR X.K ρ' H' σ' l'->G.bk σ' H'
    | .cnt l'=>∀ σ',LR X.K ρ' H' σ' l'->G.ct σ' H',fun σ3 H3 q=>⟨_,by ac_nf,rfl,hlt,q⟩,fun y H3 hy=>?_⟩
   obtain⟨x3,s3,rv⟩:=g2 y H3 hy
   refine⟨ρ2,l2,st2,_,lr2.mono x3,s3,rv,(Post.left x3 (Post.bnd p3)).imp fun l4 st4 ρ4 H4 x4 s4 p4 σ4 lr4=>⟨ρ4,l4,st4,lr4,s4,(Post.bnd p4).imp fun f st5 ρ5 H5 x5 s5 p5=>?_⟩⟩
   have x5':Ex ρ1 H1 ρ5 H5:=(x2.trans x3).trans (x4.trans x5)
   cases f with
   | next l5=>exact fun σ5 lr5=>⟨ρ5,l5,st5,x5',lr5,s5,p5⟩
   | cnt l5=>exact fun σ5 lr5=>⟨ρ5,l5,st5,x5',lr5,s5,p5⟩
   | brk l5=>exact fun σ5 lr5=>p5.ret s5 σ5 lr5
   | ret d=>exact fun v rv=>p5.ret s5 v rv
  ·have e:i=w.ds.length:=by ac_nf
   subst e
   rw[List.drop_length]at p2
   unfold forD at p2
   obtain⟨sm,p3⟩:=Post.chkS (Post.bnd p2) s2
   obtain⟨g1,_⟩:=hJ ρ2 H2 st2 x2 s2 sm
   exact .inl ⟨g1,p3.ret s2 σ2 lr2⟩⟩
end
section
variable {X:Cx}{a b c e tg:Expr}{es:List Expr}{pos:Pos}{fa fb fc:CE}{ca cb:CA}{ta tb:CT}{K:PySem.W.Frag}{ρ:List Addr}{H:Hp}{st:Sto}{x:Str}{p:Pos}{id T:String}
theorem QeU {n:Nat}{ix:List Nat}{σ:St}{l:Loc} (h:LR K ρ H σ l):LR K ρ H (capV n ix σ) (capt n ix l):=by
 unfold capV capt
 refine⟨by simp,fun i d e=>?_⟩
 have hi:n<=i:=Nat.le_of_not_lt fun z=>by
  rw[List.getElem?_append_left (by simpa using z),List.getElem?_replicate]at e
  split at e<;>cases e
 rw[List.getElem?_append_right (by simpa using hi),List.length_replicate,List.getElem?_map]at e
 cases q:ix[i - n]? with
 | none=>rw[q]at e;cases e
 | some k=>
  rw[q]at e
  have hj:(l[k]?).join=some d:=Option.some.inj e
  have hk:l[k]?=some (some d):=by
   cases z:l[k]? with
   | none=>rw[z]at hj;cases hj
   | some o=>rw[z]at hj;exact congrArg some hj
  obtain⟨v,hv,rv⟩:=h.2 k d hk
  refine⟨v,?_,rv⟩
  rw[List.getElem?_append_right (by simpa using hi),List.length_replicate,List.getElem?_map,q]
  show some ((σ[k]?).join)=some (some v)
  rw[hv];rfl
abbrev SIfs (X:Cx) (ifs:List Expr) (t:CT):Prop:=PIfs X ifs (ttOf X.K t)
theorem QeV:SIfs X [] tTrue:=fun pins s σ H Q I h_=>h_.el fun ρ l st lr sr p=>QdU pins s σ H Q I (p.ret sr)
theorem QeW (h:ST X c ta):SIfs X [c] ta:=QdV h
theorem Ex.own {ρ':List Addr}{H':Hp}{q:Addr}{ws:List V} (x:Ex ρ H ρ' H') (h:H q=none):Ex ρ H ρ' (upd H' q (.lst ws)):=by
 have ne:∀ b o,H b=some o->b≠q:=fun b o e z=>by rw[z,h]at e;cases e
 exact⟨x.pre,fun b o no e=>by rw[Qaj (ne b o e)];exact x.fix b o no e,fun b xs nb e=>by rw[Qaj (ne b _ e)];exact x.oth b xs nb e,fun b o e=>by rw[Qaj (ne b o e)];exact x.knd b o e⟩
theorem Up.own {ρ':List Addr}{H':Hp}{q:Addr}{vs ws:List V} (h:H' q=some (.lst vs)):Up ρ' H' ρ' (upd H' q (.lst ws)):=
 ⟨⟨[],by simp⟩,fun b o no e=>by rw[Qaj fun z=>by subst z;rw[h]at e;cases e;exact nomatch no];exact e,
  fun b o e=>by
   by_cases z:b=q
   ·subst z;rw[h]at e;cases e;exact⟨_,Qai,rfl⟩
   ·exact⟨o,by rw[Qaj z];exact e,rfl⟩⟩
theorem LR.up {ρ':List Addr}{H':Hp}{σ:St}{l:Loc} (x:Up ρ H ρ' H') (h:LR K ρ H σ l):LR K ρ' H' σ l:=⟨h.1,fun i d e=>let ⟨v,e1,r⟩:=h.2 i d e;⟨v,e1,r.up x⟩⟩
theorem SR.own {q:Addr}{vs ws:List V} (s:SR K ρ H st) (h:H q=some (.lst vs)) (nq:q∉ρ):SR K ρ (upd H q (.lst ws)) st:=
 ⟨s.len,s.nd,fun n b o e1 e2=>ObR.mono (o:=o) (Up.own h) (s.ob n b o e1 e2) fun us e=>by rw[Qaj (fun (z:b=q)=>nq (by rw[<- z];exact List.mem_of_getElem? e1))];exact e⟩
theorem QeX {ci:CI}{g:CG}{n:Nat}{ix:List Nat}:∀ σ H Q,tlOf K (aComp n ix ci g ta fa) σ H Q->tComp (tiOf K ci) n ix (tgOf K g) (ttOf K ta) (tOf K fa) σ H Q:=fun σ H Q h_=>h_.el fun ρ l st lr sr p=>
 ⟨ρ,l,st,lr,sr,p.bnd0.imp fun w st1 ρ1 H1 x1 s1 p1 J hJ q hq=>by
  obtain⟨hz,p2⟩:=Post.chk p1
  have hn:H q=none:=by
   cases z:H q with
   | none=>rfl
   | some o=>exact absurd hq (x1.trk q o z)
  refine⟨fun i m σ' H'=>m=w.ds.length - i/\i<=w.ds.length/\∃ ρ' l' st' done vs,Ex ρ H ρ' H'/\Ex ρ1 H1 ρ' H'/\LR K ρ' H' σ' l'/\SR K ρ' H' st'/\q∉ρ'/\H' q=some (.lst vs)/\Reps K ρ' H' vs done/\done.length<=i /\
   Post K ρ H (collect g ta fa w.same (w.ds.drop i) l' st') (fun rest st2 ρ2 H2=>∀ a ws,H a=none->a∉ρ2->H2 a=some (.lst ws)->Reps K ρ2 H2 ws (done++rest)->Q (.ref a) H2),
   ⟨w.ds.length,by simp,Nat.zero_le _,ρ1,capt n ix l,st1,[],[],x1.trans (Ex.new hq),Ex.new hq,QeU ((lr.mono x1).mono (Ex.new hq)),s1.new hq,s1.fresh hq,Qai,.nil,Nat.zero_le _,p2⟩,?_⟩
  rintro i m σ2 H2 ⟨rfl,hi,ρ2,l2,st2,done,vs,x2,y2,lr2,s2,nq,hv,rvs,hd,p3⟩
  by_cases hlt:i < w.ds.length
  ·have ed:w.ds.drop i=w.ds[i]::w.ds.drop (i + 1):=List.drop_eq_getElem_cons hlt
   rw[ed]at p3
   unfold collect at p3
   obtain⟨sm,p4⟩:=Post.chkS (p3.bnd0.left x2) s2
   obtain⟨_,go⟩:=hJ ρ2 H2 st2 y2 s2 sm
   obtain⟨g1,g2⟩:=go i w.ds[i] (List.getElem?_eq_getElem hlt)
   refine .inr ⟨g1,fun y H3 hy=>?_⟩
   obtain⟨x3,s3,rv⟩:=g2 y H3 hy
   refine⟨ρ2,l2,st2,_,lr2.mono x3,s3,rv,(p4.bnd0.left (x2.trans x3)).imp fun l4 st4 ρ4 H4 x4 s4 p5 σ4 lr4=>⟨ρ4,l4,st4,lr4,s4,(p5.bnd0.left (x2.trans (x3.trans x4))).imp fun b st5 ρ5 H5 x5 s5 p6=>?_⟩⟩
   have y5:Ex ρ2 H2 ρ5 H5:=x3.trans (x4.trans x5)
   have out:∀ {ρ':List Addr}{H':Hp},Ex ρ2 H2 ρ' H'->q∉ρ':=fun z hm=>by
    obtain⟨τ,e,f⟩:=z.pre
    rw[e]at hm
    rcases List.mem_append.mp hm with hm | hm
    ·exact nq hm
    ·rw[f q hm]at hv;cases hv
   cases b with
   | false=>exact⟨_,by ac_nf,rfl,hlt,ρ5,l4,st5,done,vs,x2.trans y5,y2.trans y5,lr4.mono x5,s5,out y5,y5.lst q vs nq hv,rvs.mono y5,Nat.le_succ_of_le hd,p6⟩
   | true=>
    refine⟨ρ5,l4,st5,lr4.mono x5,s5,(p6.bnd0.left (x2.trans y5)).imp fun d st6 ρ6 H6 x6 s6 p7 v rv6=>?_⟩
    have y6:Ex ρ2 H2 ρ6 H6:=y5.trans x6
    have hv6:=y6.lst q vs nq hv
    have u6:Up ρ6 H6 ρ6 (upd H6 q (.lst (vs++[v]))):=Up.own hv6
    refine⟨vs,hv6,?_,_,by ac_nf,rfl,hlt,ρ6,l4,st6,done++[d],vs++[v],(x2.trans y6).own hn,(y2.trans y6).own hq,LR.up u6 ((lr4.mono x5).mono x6),s6.own hv6 (out y6),out y6,Qai,
     Reps.app ((rvs.mono y6).up u6) (.cons (rv6.up u6) .nil),by simp;ac_nf,?_⟩
    ·have e1:=rvs.length
     have e2:w.ds.length<=sizeLine:=hz
     ac_nf
    ·refine p7.bnd0.imp fun rest st8 ρ8 H8 x8 s8 p8 a ws ha na hw rws=>?_
     exact p8 ρ8 H8 x8 s8 a ws ha na hw (by rw[List.append_cons];exact rws)
  ·have e:i=w.ds.length:=by ac_nf
   subst e
   rw[List.drop_length]at p3
   unfold collect at p3
   obtain⟨sm,p4⟩:=Post.chkS (p3.bnd0.left x2) s2
   obtain⟨g1,_⟩:=hJ ρ2 H2 st2 y2 s2 sm
   refine .inl ⟨g1,p4 ρ2 H2 x2 s2 q vs hn nq hv (by rw[List.append_nil];exact rvs)⟩⟩
theorem QeY {scope : Scope} {N : List Str} {ifs : List Expr} {n : Nat} {ix : List Nat} {ci : CI} {g : CG} (hc : X.calm = true) (S : CompScope X scope) (T : CompNames X scope N n ix) (hi : SI X tg b ci)
  (blk:∀ (fp:List Addr) (s:Shared) (H:Hp),SG (cxC X N scope fp s H) tg g/\SIfs (cxC X N scope fp s H) ifs ta/\SE (cxC X N scope fp s H) e fa)
  (hs:∀ x,foldedSetIterable b X.env x=pure x:=by intro _;rfl):SL X (.ListComp e [⟨tg,b,ifs,0⟩] scope pos) (aComp n ix ci g ta fa):=(QdX hc S T hi blk hs).of QeX
theorem QeZ {scope : Scope} {N : List Str} {ifs : List Expr} {n i : Nat} {ix : List Nat} {ci : CI} {g : CG} {y : Str} {pos' spos : Pos}
  (hN:X.N.Nodup) (hi':X.N[i]?=some y) (hy:L2.Loc X.env.scope y) (hf:X.fn y=true\/X.env.scope.names.lookup y=some .local)
  (hc:X.calm=true) (S:CompScope X scope) (T:CompNames X scope N n ix) (hi:SI X tg b ci)
  (blk:∀ (fp:List Addr) (s:Shared) (H:Hp),SG (cxC X N scope fp s H) tg g/\SIfs (cxC X N scope fp s H) ifs ta/\SE (cxC X N scope fp s H) e fa)
  (hsw:swapsWith (.ListComp e [⟨tg,b,ifs,0⟩] scope pos) (some (.Name y pos')) spos.line X.env=pure true)
  (hs:∀ x,foldedSetIterable b X.env x=pure x:=by intro _;rfl):SS X (.Assign [.Name y pos'] (.ListComp e [⟨tg,b,ifs,0⟩] scope pos) spos) (sAsg (gVar i) (cKeep (aComp n ix ci g ta fa))):=
 (QdY hN hi' hy hf hc S T hi blk hsw hs).of (QeG (fun σ H Q h_=>h_.el fun ρ l st lr sr p=>QeX _ _ _ ⟨ρ,l,st,lr,sr,p.bnd0.imp fun ds st1 ρ1 H1 x1 s1 p1 a vs ha na hv rvs=>by
  have x:Ex ρ H (ρ1++[a]) H1:=by
   obtain⟨τ,e,f⟩:=x1.pre
   refine⟨⟨τ++[a],by rw[e,List.append_assoc],fun b hb=>?_⟩,x1.fix,x1.oth,x1.knd⟩
   rcases List.mem_append.mp hb with hb | hb
   ·exact f b hb
   ·rw[List.mem_singleton]at hb;rw[hb];exact ha
  refine p1 (ρ1++[a]) H1 x (s1.keep hv na rvs) _ (.ref ⟨_,hv,rfl⟩ ?_)
  rw[<- s1.len];simp⟩) QeH)
theorem Qe0 {g : D -> M D} (hc : CallR X (.builtin id) (fun xs H Q => ∃ v, xs = [v] /\ uOf X.K g v H Q)) (hg : Gl X x) (hm : X.mg x = none) (hv : bootBuiltins x = some (.builtin id)) (ha : SE X e fa) (hn : x ≠ "__name__" := by decide) (hdb : (x == ("__debug__" : Str)) = false := by decide)
  (he:starEach [e] X.env=[(false,eval e X.env)]:=by rfl):SE X (.Call (.Name x p) [e] [] pos) (c1 g fa):=
 (QbQ hc hg hm hv (QbE ha QbD he) hn hdb he rfl).of fun σ H Q h_=>h_.el fun ρ l st lr sr p=>⟨ρ,l,st,lr,sr,p.bnd.imp fun d st1 ρ1 H1 x1 s1 p1 v rv=>⟨v,rfl,ρ1,st1,d,s1,rv,p1⟩⟩
theorem Qe1 {g : D -> M D} (hc : CallR X (.type T) (fun xs H Q => ∃ v, xs = [v] /\ uOf X.K g v H Q)) (hg : Gl X x) (hm : X.mg x = none) (hv : bootBuiltins x = some (.type T)) (ha : SE X e fa) (hn : x ≠ "__name__" := by decide) (hdb : (x == ("__debug__" : Str)) = false := by decide)
  (he:starEach [e] X.env=[(false,eval e X.env)]:=by rfl):SE X (.Call (.Name x p) [e] [] pos) (c1 g fa):=
 (QbR hc hg hm hv (QbE ha QbD he) hn hdb he rfl).of fun σ H Q h_=>h_.el fun ρ l st lr sr p=>⟨ρ,l,st,lr,sr,p.bnd.imp fun d st1 ρ1 H1 x1 s1 p1 v rv=>⟨v,rfl,ρ1,st1,d,s1,rv,p1⟩⟩
def lOf (K:PySem.W.Frag) (g:List D->M D):List V->Hp->VK->Prop:=fun xs H Q=>∃ a vs ρ st ds,xs=[.ref a]/\SqL K H a vs/\SR K ρ H st/\Reps K ρ H vs ds/\Post K ρ H (g ds st) fun r _ ρ' H'=>∀ v,Rep K ρ' H' v r->Q v H'
theorem Qe2 {g : List D -> M D} (hc : CallR X (.builtin id) (lOf X.K g)) (hg : Gl X x) (hm : X.mg x = none) (hv : bootBuiltins x = some (.builtin id)) (ha : SL X e ca) (hn : x ≠ "__name__" := by decide) (hdb : (x == ("__debug__" : Str)) = false := by decide)
  (he:starEach [e] X.env=[(false,eval e X.env)]:=by rfl):SE X (.Call (.Name x p) [e] [] pos) (cTmp g ca):=
 (QbQ hc hg hm hv (QbE ha QbD he) hn hdb he rfl).of fun σ H Q h_=>h_.el fun ρ l st lr sr p=>⟨ρ,l,st,lr,sr,p.bnd.imp fun ds st1 ρ1 H1 x1 s1 p1 a vs ha na hv rvs=>⟨a,vs,ρ1,st1,ds,rfl,SqL.of hv,s1,rvs,p1⟩⟩
theorem Qe3 {g : List D -> M D} (hc : CallR X (.type T) (lOf X.K g)) (hg : Gl X x) (hm : X.mg x = none) (hv : bootBuiltins x = some (.type T)) (ha : SL X e ca) (hn : x ≠ "__name__" := by decide) (hdb : (x == ("__debug__" : Str)) = false := by decide)
  (he:starEach [e] X.env=[(false,eval e X.env)]:=by rfl):SE X (.Call (.Name x p) [e] [] pos) (cTmp g ca):=
 (QbR hc hg hm hv (QbE ha QbD he) hn hdb he rfl).of fun σ H Q h_=>h_.el fun ρ l st lr sr p=>⟨ρ,l,st,lr,sr,p.bnd.imp fun ds st1 ρ1 H1 x1 s1 p1 a vs ha na hv rvs=>⟨a,vs,ρ1,st1,ds,rfl,SqL.of hv,s1,rvs,p1⟩⟩
theorem Qe4 {prog : Program} {w : World} {A : Around} {E : Value -> Shared -> Prop} {s : Shared} {K : Type} [DecidableEq K] {knd : HeapKind prog w K} {d : Addr} {xs : List (K × Addr × Value)} {Q : Value -> Shared -> Prop} (hd : (d == sysModules) = false) (hm : s.heap.DictOfH knd d xs) (hfit : (xs.length : Int) < 2 ^ 63)
  (h:Q (.int xs.length (s.toks + 1)) { s with toks:=s.toks + 1 + 1 }):wpAny (model prog w) A (call (.builtin "len") [.ref d]) Q E s:=by
 refine Calls.call_function_entry kind_len plain_len entry_len (args_len1 _) ?_
 unfold Builtin.«len»
 have meet:MeetsIn prog w (Builtin.«dict.__len__» ⟨[.ref d],[]⟩) (fun _ R s=>∃ xs,s.heap.DictOfH knd d xs/\R (.ok (.ret (.int xs.length s.toks))) { s with toks:=s.toks + 1 }):=.of_wp fun A R s pq68=>by
  obtain⟨xs,hm,h⟩:=pq68
  obtain⟨o,es,ep,ho,hc,hdat,he,_,hn⟩:=hm
  show wpAny _ _ (dictSize d >>= _) _ _ s
  unfold dictSize
  refine wpAny_bind (wpAny_bind (wpAny_dictEntries ho hdat (wpAny_pure ?_)))
  show wpAny _ _ (Builtin.Dict.pendingCount d >>= _) _ _ s
  refine wpAny_bind (wpAny_pendingCount_other hd ?_)
  refine wpAny_ret_mkInt ?_
  rw[Nat.add_zero,size_of_entries he];exact h
 refine wpAny_bind (m:=oneArg "len" _) (wpAny_pure ?_)
 refine wpAny_bind (m:=callSpecial? (.ref d) (Str.ofString "__len__")) (wpAny_callSpecial?_slot (name:=Str.ofString "__len__") hm.typeIs F.slot_dict_len
  (call_meetsIn F.slot_dict_len hm.typeIs F.entry_dict_len (F.args_dict_len_1 _) meet ⟨xs,hm,?_⟩))
 show wpAny _ _ _ _ _ { s with toks:=s.toks + 1 }
 refine wpAny_bind (wpAny_holding (wpAny_pure ?_))
 refine wpAny_bind (wpAny_letGo ?_)
 show wpAny _ _ (if ((xs.length:Nat):Int) < 0 then _ else _) _ _ _
 rw[if_neg (by ac_nf)]
 show wpAny _ _ (if ((xs.length:Nat):Int) ≥ 2 ^ 63 then _ else _) _ _ _
 rw[if_neg (by ac_nf)]
 exact wpAny_bind (wpAny_mkInt (wpAny_pure ⟨_,rfl,h⟩))
theorem Qe5:CallR X (.builtin "len") (fun xs H Q=>∃ (ρ:List Addr) (st:Sto) (n:Nat) (a:Addr) (b:Bool) (kvs:List (D × D)),xs=[.ref a]/\SR X.K ρ H st/\ρ[n]?=some a/\st[n]?=some (.dct b kvs)/\Q (.int kvs.length) H):=by
 intro pins s σ H xs us Q I r pq124;obtain⟨ρ,st,n,a,b,kvs,e,sr,ha,hn,q⟩:=pq124
 subst e
 obtain⟨u,rfl,ru⟩:=Qbv r
 cases ru
 have g:=sr.ob n a _ ha hn
 cases b with
 | false=>
  obtain⟨es,e,r⟩:=g
  rw[<- KR.length r]at q
  exact QcW I (.inl e) fun t s' I'=>⟨.int es.length,H,I',⟨t,rfl⟩,q⟩
 | true=>
  obtain⟨es,e,r⟩:=g
  obtain⟨z,hd,xs,rx,dd,_⟩:=Qdy I e r
  rw[<- NR.length r,Paired.length rx]at q
  have hz:xs.length<=sizeLine:=by rw[<- Paired.length rx];exact z
  exact Qe4 hd dd (by rw[sizeLine_eq]at hz;ac_nf) ⟨.int xs.length,H,I.tok _,⟨_,rfl⟩,q⟩
theorem Qe6:CallR X (.builtin "len") (fun xs H Q=>∃ v,xs=[v]/\uOf X.K lenD v H Q):=((Qcn.or Qco).or Qe5).of fun xs H Q pq69=>by
 obtain⟨v,e,ρ,st,d,sr,rv,p⟩:=pq69
 cases rv with
 | @tup a vs ds h r=>exact .inl (.inl ⟨a,vs,e,.inr h,by rw[r.length];exact p.ret sr _ (.int _)⟩)
 | @lit a vs ds h r=>exact .inl (.inl ⟨a,vs,e,.inl h.seq,by rw[r.length];exact p.ret sr _ (.int _)⟩)
 | @ref a n _ h=>
  obtain⟨ds,e2,p1⟩:=Post.getL (Post.bnd p) sr
  obtain⟨a',vs,ha,hv,r⟩:=sr.seq e2
  rw[h]at ha;cases ha
  exact .inl (.inl ⟨a,vs,e,.inl (SqL.of hv),by rw[r.length];exact p1.ret sr _ (.int _)⟩)
 | str z=>exact .inl (.inr ⟨z,e,(Post.chk p).1,(Post.chk p).2.ret sr _ (.int _)⟩)
 | @dic a n _ h=>
  obtain⟨b,kvs,e2,p1⟩:=Post.getDc (Post.bnd p) sr
  exact .inr ⟨ρ,st,n,a,b,kvs,e,sr,h,e2,p1.ret sr _ (.int _)⟩
 | _=>exact p.elim
theorem Qe7:CallR X (.type "tuple") (fun xs H Q=>∃ v,xs=[v]/\uOf X.K tupleD v H Q):=Qcq.of fun xs H Q pq70=>by
 obtain⟨v,e,ρ,st,d,sr,rv,p⟩:=pq70
 cases rv with
 | @tup a vs ds h r=>exact⟨a,vs,e,.inr ⟨h,p.ret sr _ (.tup h r)⟩⟩
 | @lit a vs ds h r=>exact⟨a,vs,e,.inl ⟨h.seq,fun l hl=>p ρ _ (Ex.new hl) (sr.new hl) _ (.tup (SqT.of Qai) (r.mono (Ex.new hl)))⟩⟩
 | @ref a n _ h=>
  obtain⟨ds,e2,p1⟩:=Post.getL (Post.bnd p) sr
  obtain⟨a',vs,ha,hv,r⟩:=sr.seq e2
  rw[h]at ha;cases ha
  exact⟨a,vs,e,.inl ⟨SqL.of hv,fun l hl=>p1 ρ _ (Ex.new hl) (sr.new hl) _ (.tup (SqT.of Qai) (r.mono (Ex.new hl)))⟩⟩
 | _=>exact p.elim
theorem Qe8:CallR X (.type "tuple") (lOf X.K tupL):=Qcq.of fun xs H Q pq71=>
 by obtain⟨a,vs,ρ,st,ds,e,hv,sr,r,p⟩:=pq71;exact⟨a,vs,e,.inl ⟨hv,fun l hl=>p ρ _ (Ex.new hl) (sr.new hl) _ (.tup (SqT.of Qai) (r.mono (Ex.new hl)))⟩⟩
end
section
variable {X:Cx}{a b c e tg:Expr}{es:List Expr}{pos:Pos}{fa fb fc:CE}{ca cb:CA}{ta tb:CT}{K:PySem.W.Frag}{ρ:List Addr}{H:Hp}{st:Sto}{x:Str}{p:Pos}{T:String}
theorem Qe9 {ds:List D}{ns:List Int}{vs:List V} (h:numsL ds=some ns) (g:Reps K ρ H vs ds):vs=ns.map V.int:=by
 induction ds generalizing ns vs with
 | nil=>cases g;cases h;rfl
 | cons d ds ih=>
  cases g with
  | cons r t=>
   cases r with
   | int i=>
    unfold numsL at h
    cases q:numsL ds with
    | none=>rw[q]at h;cases h
    | some ms=>
     rw[q]at h
     have h':i::ms=_:=Option.some.inj h
     subst h'
     rw[ih q t];rfl
   | _=>cases h
theorem Qfa:∀ {ds:List D}{ns:List Bool}{vs:List V},boolsL ds=some ns->Reps K ρ H vs ds->vs=ns.map V.bl
 | [],_,_,h,.nil=>by cases h;rfl
 | .bl i::ds,_,_,h,.cons r t=>by
  unfold boolsL at h
  cases q:boolsL ds with
  | none=>rw[q]at h;cases h
  | some ms=>
   rw[q]at h
   have h':i::ms=_:=Option.some.inj h
   subst h'
   cases r
   rw[Qfa q t];rfl
 | .non::_,_,_,h,_=>by cases h
 | .int _::_,_,_,h,_=>by cases h
 | .str _::_,_,_,h,_=>by cases h
 | .tup _::_,_,_,h,_=>by cases h
 | .lit _::_,_,_,h,_=>by cases h
 | .ref _::_,_,_,h,_=>by cases h
theorem Qfb:∀ {bs:List Bool}{us:List Value},Vals (bs.map V.bl) us->us=bs.map Value.bool
 | [],_,.nil=>rfl
 | _::_,_,.cons r t=>by cases r;rw[Qfb t];rfl
theorem Qfc (hc:X.calm=true):CallR X (.builtin "all") (fun xs H Q=>∃ (l:Addr) (bs:List Bool),xs=[.ref l]/\SqL X.K H l (bs.map V.bl)/\Q (.bl (bs.all id)) H):=by
 intro pins s σ H xs us Q I r h
 obtain⟨l,bs,rfl,hq,q⟩:=h
 obtain⟨u,rfl,rx⟩:=Qbv r
 cases rx
 obtain⟨its,rv,pl,hz⟩:=I.list hq
 have ei:=Qfb rv
 subst ei
 refine call_all_walk (wpAny_pyIter_list pl.isList ?_)
 have hlt:l < s.heap.objs.size:=by
  obtain⟨o,ho,_⟩:=pl.isList
  exact Heap.lt_size ho
 refine⟨s.heap.objs.size,_,_,_,_,_,fun i=>(bs[i]?).getD true,rfl,Walks.list (A:=X.A.in1) (I.ok.hd hc) s.heap.objs.size l (Nat.ne_of_lt hlt) (bs.map Value.bool).toArray,⟨⟨_,Heap.get?_push_size _ rfl,rfl,rfl⟩,?_⟩,?_,fun h' tk hk=>?_⟩
 ·obtain⟨o,ho,hr⟩:=pl.isList
  exact⟨o,Heap.get?_push_of_some _ ho,hr⟩
 ·intro i v s' Q' E' hv hQ
  have hv':(bs.map Value.bool)[i]?=some v:=by simpa using hv
  rw[List.getElem?_map]at hv'
  dsimp only at hQ
  cases e:bs[i]? with
  | none=>rw[e]at hv';cases hv'
  | some k=>
   rw[e]at hv' hQ
   have:v=Value.bool k:=(Option.some.inj hv').symm
   subst this
   exact wpAny_truthy_bool hQ
 ·have e : (List.range (bs.map Value.bool).toArray.size).all (fun i => (bs[i]?).getD true) = bs.all id := by
    have hs:(bs.map Value.bool).toArray.size=bs.length:=by simp
    rw[hs,Bool.eq_iff_iff,List.all_eq_true,List.all_eq_true]
    constructor
    ·intro hh k hk
     obtain⟨i,hi⟩:=List.getElem?_of_mem hk
     have:=hh i (List.mem_range.mpr (List.getElem?_eq_some_iff.mp hi).1)
     rw[hi]at this;exact this
    ·intro hh i hi
     have hl:=List.mem_range.mp hi
     rw[List.getElem?_eq_getElem hl]
     exact hh _ (List.getElem_mem hl)
  rw[e]
  exact⟨.bl _,H,I.kept (t':=tk) fun b o hb=>hk b o (by simp;exact Nat.ne_of_lt (Heap.lt_size hb)) (Heap.get?_push_of_some _ hb),rfl,q⟩
theorem Qfd:∀ (ns:List Int) (n:Int),ns.foldl max n∈n::ns/\∀ a∈n::ns,a<=ns.foldl max n
 | [],n=>⟨by simp,by simp⟩
 | m::ns,n=>by
  obtain⟨h1,h2⟩:=Qfd ns (max n m)
  rw[List.foldl_cons]
  refine⟨?_,fun a ha=>?_⟩
  ·rcases List.mem_cons.mp h1 with e | e
   ·rw[e]
    by_cases hm:n<=m
    ·rw[Int.max_eq_right hm];simp
    ·rw[Int.max_eq_left (by ac_nf)];simp
   ·exact List.mem_cons_of_mem _ (List.mem_cons_of_mem _ e)
  ·have hx:=h2 (max n m) List.mem_cons_self
   rcases List.mem_cons.mp ha with e | e
   ·subst e;exact Int.le_trans (Int.le_max_left ..) hx
   ·rcases List.mem_cons.mp e with e | e
    ·subst e;exact Int.le_trans (Int.le_max_right ..) hx
    ·exact h2 a (List.mem_cons_of_mem _ e)
theorem Qfe {vs:List Value}{ns:List Int} (hi:IntsAre vs ns):∃ xs,vs.toArray=intItems xs/\ns=xs.toList.map (·.1):=by
 obtain⟨xs,e⟩:=hi.allInts.items
 exact⟨xs,e,by rw[<- hi.numsOf,<- nums_intItems,<- e]⟩
theorem Qff (hc:X.calm=true):CallR X (.builtin "max") (fun xs H Q=>∃ (l:Addr) (n:Int) (ns:List Int),xs=[.ref l]/\SqL X.K H l ((n::ns).map V.int)/\Q (.int (ns.foldl max n)) H):=by
 intro pins s σ H xs us Q I r h
 obtain⟨l,n,ns,rfl,hq,q⟩:=h
 obtain⟨u,rfl,rx⟩:=Qbv r
 cases rx
 obtain⟨its,rv,pl,hz⟩:=I.list hq
 obtain⟨ys,e,en⟩:=Qfe (QbZ rv)
 have hl:=pl.isList
 rw[e]at hl
 have hsz:ys.size=ns.length + 1:=by have:=congrArg List.length en;simpa using this.symm
 refine max_intList (I.ok.hd hc) hl (by ac_nf) fun v h' tk hv hk=>?_
 obtain⟨t,rfl⟩:=intItems_at hv
 obtain⟨b1,b2⟩:=argBest_gt (numAt ys) (ys.size - 1)
 obtain⟨f1,f2⟩:=Qfd ns n
 generalize argBest (fun i j=>decide (numAt ys i > numAt ys j)) (ys.size - 1)=k at b1 b2 ⊢
 have hin:numAt ys k∈n::ns:=by
  rw[en,numAt_eq]
  exact getD_mem (by rw[<- en];simp;ac_nf)
 have hge:ns.foldl max n<=numAt ys k:=by
  rw[en]at f1
  obtain⟨j,hj,ej⟩:=mem_getD f1
  rw[<- ej,<- numAt_eq]
  exact b2 j (by rw[<- en]at hj;simp at hj;ac_nf)
 have hM:numAt ys k=ns.foldl max n:=Int.le_antisymm (f2 _ hin) hge
 rw[hM]
 exact⟨.int _,H,I.kept (t':=tk) hk,⟨t,rfl⟩,q⟩
theorem Qfg (hc:X.calm=true):CallR X (.builtin "all") (lOf X.K allD):=(Qfc hc).of fun xs H Q pq72=>by
 obtain⟨a,vs,ρ,st,ds,e,hv,sr,r,p⟩:=pq72
 unfold allD at p
 cases q:boolsL ds with
 | none=>rw[q]at p;exact p.elim
 | some bs=>
  rw[q]at p
  have:=Qfa q r
  subst this
  exact⟨a,bs,e,hv,p.ret sr _ (.bl _)⟩
theorem Qfh (hc:X.calm=true):CallR X (.builtin "max") (lOf X.K maxD):=(Qff hc).of fun xs H Q pq73=>by
 obtain⟨a,vs,ρ,st,ds,e,hv,sr,r,p⟩:=pq73
 unfold maxD at p
 cases q:numsL ds with
 | none=>rw[q]at p;exact p.elim
 | some ns=>
  rw[q]at p
  have:=Qe9 q r
  subst this
  cases ns with
  | nil=>exact p.elim
  | cons n ns=>exact⟨a,n,ns,e,hv,p.ret sr _ (.int _)⟩
structure TyTab (T:String):Prop where
 non:∀ K,PySem.W.kitOne K (.type "NoneType") (.type T)=some (["NoneType"].contains T)
 bl:∀ K,PySem.W.kitOne K (.type "bool") (.type T)=some (["bool","int"].contains T)
 int:∀ K,PySem.W.kitOne K (.type "int") (.type T)=some (["int"].contains T)
 str:∀ K,PySem.W.kitOne K (.type "str") (.type T)=some (["str"].contains T)
 tup:∀ K,PySem.W.kitOne K (.type "tuple") (.type T)=some (["tuple"].contains T)
 lst:∀ K,PySem.W.kitOne K (.type "list") (.type T)=some (["list"].contains T)
theorem Qfi:TyTab "int":=⟨fun _=>rfl,fun _=>rfl,fun _=>rfl,fun _=>rfl,fun _=>rfl,fun _=>rfl⟩
theorem Qfj:TyTab "bool":=⟨fun _=>rfl,fun _=>rfl,fun _=>rfl,fun _=>rfl,fun _=>rfl,fun _=>rfl⟩
theorem Qfk:TyTab "str":=⟨fun _=>rfl,fun _=>rfl,fun _=>rfl,fun _=>rfl,fun _=>rfl,fun _=>rfl⟩
theorem Qfl:TyTab "tuple":=⟨fun _=>rfl,fun _=>rfl,fun _=>rfl,fun _=>rfl,fun _=>rfl,fun _=>rfl⟩
theorem Qfm {pins : List (Addr × Obj)} {σ : St} {s : Shared} {Q : Value -> Shared -> Prop} {t : String} {u : Addr} {k : Bool} (I : Inv X pins σ H s) (ht : ∃ o, s.heap.get? u = some o /\ o.cls = .type t) (hx : t = "tuple" \/ t = "list") (e : PySem.W.kitOne X.K (.type t) (.type T) = some k)
  (h:∀ tk,Q (.bool k) { s with toks:=tk }):wpAny (model X.prog X.w) X.A (call (.builtin "isinstance") [.ref u,.type T]) Q X.xe s:=by
 rcases hx with rfl | rfl
 ·exact PySem.W.kia_one PySem.W.kitx_tuple I.kIn ht e (fun z=>nomatch z) h
 ·exact PySem.W.kia_one PySem.W.kitx_list I.kIn ht e (fun z=>nomatch z) h
theorem Qfn (B:TyTab T):CallR X (.builtin "isinstance") (fun xs H Q=>∃ v,xs=[v,.ty T]/\uOf X.K (isInst [T]) v H Q):=by
 intro pins s σ H xs us Q I r pq125;obtain⟨v,e,ρ,st,d,sr,rv,p⟩:=pq125
 subst e
 obtain⟨u,w',rfl,ru,rw'⟩:=Qbw r
 have ew:w'=Value.type T:=rw'
 subst ew
 have fin:∀ k:Bool,Q (.bl k) H->∀ tk,EP X pins σ Q (.bool k) { s with toks:=tk }:=fun k q tk=>⟨.bl k,H,I.tok tk,rfl,q⟩
 cases rv with
 | non=>
  refine QbA I ru .non (B.non _) (fin _ ?_)
  simpa [isInst,isTy] using p.ret sr _ (.bl _)
 | bl k=>
  refine QbA I ru (.bl k) (B.bl _) (fin _ ?_)
  simpa [isInst,isTy] using p.ret sr _ (.bl _)
 | int k=>
  refine QbA I ru (.int k) (B.int _) (fin _ ?_)
  simpa [isInst,isTy] using p.ret sr _ (.bl _)
 | str k=>
  refine QbA I ru (.str k) (B.str _) (fin _ ?_)
  simpa [isInst,isTy] using p.ret sr _ (.bl _)
 | tup h r=>
  have eu:u=Value.ref _:=ru
  subst eu
  obtain⟨its,_,⟨o,h1,h2,_⟩,_⟩:=I.tuple h
  refine Qfm I ⟨o,h1,h2⟩ (.inl rfl) (B.tup _) (fin _ ?_)
  simpa [isInst,isTy] using p.ret sr _ (.bl _)
 | lit h r=>
  have eu:u=Value.ref _:=ru
  subst eu
  obtain⟨its,_,pl,_⟩:=I.list h.seq
  obtain⟨o,h1,h2,_⟩:=pl.isList
  refine Qfm I ⟨o,h1,h2⟩ (.inr rfl) (B.lst _) (fin _ ?_)
  simpa [isInst,isTy] using p.ret sr _ (.bl _)
 | @ref a n kk h=>
  have eu:u=Value.ref _:=ru
  subst eu
  obtain⟨vs,hv⟩:=Qda kk
  obtain⟨its,_,pl,_⟩:=I.list (SqL.of hv)
  obtain⟨o,h1,h2,_⟩:=pl.isList
  refine Qfm I ⟨o,h1,h2⟩ (.inr rfl) (B.lst _) (fin _ ?_)
  simpa [isInst,isTy] using p.ret sr _ (.bl _)
 | dic _ _=>exact p.elim
 | exn0 _ _=>exact p.elim
 | exn _ _ _ _=>exact p.elim
theorem Qfo {y : Str} {p1 : Pos} (B : TyTab T) (hg : Gl X "isinstance") (hm : X.mg "isinstance" = none) (hgT : Gl X y) (hmT : X.mg y = none) (hvT : bootBuiltins y = some (.type T)) (ha : SE X e fa) (hv : bootBuiltins "isinstance" = some (.builtin "isinstance"))
  (hnT:y≠"__name__":=by decide) (hdT:(y == ("__debug__":Str))=false:=by decide)
  (he:starEach [e,.Name y p1] X.env=(false,eval e X.env)::starEach [.Name y p1] X.env:=by rfl) (he2:starEach [.Name y p1] X.env=(false,eval (.Name y p1) X.env)::starEach [] X.env:=by rfl) (hpl:(backTo pos (starEach [.Name y p1] X.env)).any (·.1)=false:=by rfl):
  SE X (.Call (.Name "isinstance" p) [e,.Name y p1] [] pos) (c1 (isInst [T]) fa):=
 (QbQ (Qfn B) hg hm hv (QbE ha (QbE (QaA (v:=.ty T) hgT hmT hvT rfl hnT hdT) QbD he2) he) (by decide) (by decide) he hpl).of fun σ H Q h_=>h_.el fun ρ l st lr sr p=>⟨ρ,l,st,lr,sr,p.bnd.imp fun d st1 ρ1 H1 x1 s1 p1 v rv=>⟨v,rfl,ρ1,st1,d,s1,rv,p1⟩⟩
end
section
variable {X:Cx}{K:PySem.W.Frag}{ρ:List Addr}{H:Hp}{st:Sto}{pins:List (Addr × Obj)}{σ:St}{s:Shared}
theorem Qfp {f:D->D->Option Bool}:∀ {xs ys:List D}{r:Bool},allF f xs ys=some r->∀ (j:Nat) (x y:D),xs[j]?=some x->ys[j]?=some y->∃ k,f x y=some k
 | [],_,_,_,j,x,y,h,_=>by cases j<;>cases h
 | _::_,[],_,_,j,x,y,_,h=>by cases j<;>cases h
 | a::xs,b::ys,r,h,j,x,y,hx,hy=>by
  unfold allF at h
  cases e:f a b with
  | none=>rw[e]at h;cases h
  | some k=>
   cases j with
   | zero=>cases hx;cases hy;exact⟨k,e⟩
   | succ j=>
    rw[e]at h
    have hx':xs[j]?=some x:=hx
    have hy':ys[j]?=some y:=hy
    cases k with
    | true=>exact Qfp h j x y hx' hy'
    | false=>
     cases e2:allF f xs ys with
     | none=>rw[e2]at h;cases h
     | some r'=>exact Qfp e2 j x y hx' hy'
def itE (f:D->D->Option Bool) (xs ys:List D) (j:Nat):Bool:=match xs[j]?,ys[j]? with
 | some x,some y=>(f x y).getD false
 | _,_=>true
theorem Qfq {f:D->D->Option Bool}:∀ {xs ys:List D}{r:Bool},allF f xs ys=some r->r=((List.range (min xs.length ys.length)).all (itE f xs ys) && xs.length == ys.length)
 | [],[],_,h=>by cases h;rfl
 | _::_,[],_,h=>by cases h;simp
 | [],_::_,_,h=>by cases h;simp
 | a::xs,b::ys,r,h=>by
  have step:(List.range (min (a::xs).length (b::ys).length)).all (itE f (a::xs) (b::ys))=((f a b).getD false && (List.range (min xs.length ys.length)).all (itE f xs ys)):=by
   have e:min (a::xs).length (b::ys).length=min xs.length ys.length + 1:=by simp only[List.length_cons];ac_nf
   rw[e,List.range_succ_eq_map,List.all_cons,List.all_map]
   rfl
  rw[step]
  unfold allF at h
  cases e:f a b with
  | none=>rw[e]at h;cases h
  | some k=>
   rw[e]at h
   cases k with
   | true=>
    have:=Qfq h
    simp only[Option.getD_some,Bool.true_and,List.length_cons]
    rw[this]
    congr 1
    rw[Bool.eq_iff_iff];simp
   | false=>
    simp only[Option.getD_some,Bool.false_and]
    cases e2:allF f xs ys with
    | none=>rw[e2]at h;cases h
    | some r'=>rw[e2]at h;cases h;rfl
theorem Vals.at {vs:List V}{us:List Value}{j:Nat}{u:Value} (r:Vals vs us) (h:us[j]?=some u):∃ v,vs[j]?=some v/\RelV v u:=by
 have hl:=r.length
 have hj:j < vs.length:=by rw[hl];exact (List.getElem?_eq_some_iff.mp h).1
 obtain⟨u',e,ru⟩:=r.get (List.getElem?_eq_getElem hj)
 rw[h]at e;cases e
 exact⟨_,List.getElem?_eq_getElem hj,ru⟩
theorem Reps.at {vs:List V}{ds:List D}{j:Nat}{v:V} (r:Reps K ρ H vs ds) (h:vs[j]?=some v):∃ d,ds[j]?=some d/\Rep K ρ H v d:=by
 have hl:=r.length
 have hj:j < ds.length:=by rw[<- hl];exact (List.getElem?_eq_some_iff.mp h).1
 obtain⟨v',e,rv⟩:=r.get (List.getElem?_eq_getElem hj)
 rw[h]at e;cases e
 exact⟨_,List.getElem?_eq_getElem hj,rv⟩
theorem Qfr {g:List D->List D->Option Bool}{v:V}{d e:D}{r:Bool} (I:Inv X pins σ H s) (hg:∀ xs ys vs k,Reps X.K ρ H vs xs->Reps X.K ρ H vs ys->g xs ys=some k->k=true) (h:eqS g d e=some r) (r1:Rep X.K ρ H v d) (r2:Rep X.K ρ H v e):r=true:=by
 cases r1 with
 | non=>cases r2;cases h;rfl
 | bl b=>cases r2;cases h;simp
 | int b=>cases r2;cases h;simp
 | str b=>cases r2;cases h;simp
 | tup h1 q1=>
  cases r2 with
  | tup h2 q2=>
   have:=I.tuple_inj h1 h2
   subst this
   exact hg _ _ _ _ q1 q2 h
  | _=>cases h
 | lit _ _=>cases r2<;>cases h
 | ref _ _=>cases r2<;>cases h
 | dic _ _=>cases r2<;>cases h
 | exn0 _ _=>cases r2<;>cases h
 | exn _ _ _ _=>cases r2<;>cases h
theorem Qfs {f:D->D->Option Bool} (hf:∀ v d e k,Rep K ρ H v d->Rep K ρ H v e->f d e=some k->k=true) {xs ys:List D}{vs:List V}{k:Bool} (h1:Reps K ρ H vs xs) (h2:Reps K ρ H vs ys) (h:allF f xs ys=some k):k=true:=by
 induction xs generalizing ys vs k with
 | nil=>cases h1;cases h2;cases h;rfl
 | cons x xs ih=>
  cases h1 with
  | cons a b=>cases h2 with
   | cons c d=>
    unfold allF at h
    cases e:f _ _ with
    | none=>rw[e]at h;cases h
    | some k=>
     rw[e]at h
     have:=hf _ _ _ _ a c e
     subst this
     exact ih b d h
theorem Qft (I:Inv X pins σ H s):∀ (n:Nat) {v:V}{d e:D}{r:Bool},eqF n d e=some r->Rep X.K ρ H v d->Rep X.K ρ H v e->r=true
 | 0,_,_,_,_,h,r1,r2=>Qfr I (fun _ _ _ _ _ _ z=>by cases z) h r1 r2
 | n + 1,_,_,_,_,h,r1,r2=>Qfr I (fun xs ys vs k q1 q2 z=>Qfs (fun v d e k a b c=>Qft I n c a b) q1 q2 z) h r1 r2
open SeqAt in
theorem Qfu {g : List D -> List D -> Option Bool} {A : Around} {v w : V} {u1 u2 : Value} {d e : D} {r : Bool} (I : Inv X pins σ H s) (hu : A.units < cLine)
  (hg:∀ xs ys k,g xs ys=some k->∀ vs ws its its2,Reps X.K ρ H vs xs->Reps X.K ρ H ws ys->Vals vs its->Vals ws its2 ->
   ∃ e:Nat->Bool,k=((List.range (min its.length its2.length)).all e && its.length == its2.length)/\∀ (j:Nat) x y,its[j]?=some x->its2[j]?=some y->EqAt A.in1 s x y (e j))
  (hs:∀ xs ys vs k,Reps X.K ρ H vs xs->Reps X.K ρ H vs ys->g xs ys=some k->k=true)
  (h:eqS g d e=some r) (r1:Rep X.K ρ H v d) (r2:Rep X.K ρ H w e) (v1:RelV v u1) (v2:RelV w u2):RcAt A s u1 u2 r/\RcNeAt A s u1 u2 (!r)/\EqAt A s u1 u2 r:=by
 cases r1 with
 | lit _ _=>cases r2<;>cases h
 | ref _ _=>cases r2<;>cases h
 | dic _ _=>cases r2<;>cases h
 | exn0 _ _=>cases r2<;>cases h
 | exn _ _ _ _=>cases r2<;>cases h
 | non=>
  cases (show u1=Value.none from v1)
  cases r2 with
  | non=>cases (show u2=Value.none from v2);cases h;exact⟨.none_none,.none_none,.same _⟩
  | bl b=>cases (show u2=Value.bool b from v2);cases h;exact⟨.none_bool b,.none_bool b,.none_bool b⟩
  | int b=>obtain⟨t,rfl⟩:=(show ∃ t,u2=Value.int b t from v2);cases h;exact⟨.none_int b t,.none_int b t,.none_int b t⟩
  | str b=>obtain⟨t,rfl⟩:=(show ∃ t,u2=Value.str b t from v2);cases h;exact⟨.none_str b t,.none_str b t,.none_str b t⟩
  | tup h2 q2=>cases (show u2=Value.ref _ from v2);cases h;obtain⟨_,_,p,_⟩:=I.tuple h2;exact⟨.none_tuple p hu,.none_tuple p hu,.none_tuple p hu⟩
  | _=>cases h
 | bl a=>
  cases (show u1=Value.bool a from v1)
  cases r2 with
  | non=>cases (show u2=Value.none from v2);cases h;exact⟨.bool_none a,.bool_none a,.bool_none a⟩
  | bl b=>cases (show u2=Value.bool b from v2);cases h;exact⟨.bool_bool a b,.bool_bool a b,.bool_bool a b⟩
  | int b=>obtain⟨t,rfl⟩:=(show ∃ t,u2=Value.int b t from v2);cases h;exact⟨.bool_int a b t,.bool_int a b t,.bool_int a b t⟩
  | str b=>obtain⟨t,rfl⟩:=(show ∃ t,u2=Value.str b t from v2);cases h;exact⟨.bool_str a b t,.bool_str a b t,.bool_str a b t⟩
  | tup h2 q2=>cases (show u2=Value.ref _ from v2);cases h;obtain⟨_,_,p,_⟩:=I.tuple h2;exact⟨.bool_tuple a p hu,.bool_tuple a p hu,.bool_tuple a p hu⟩
  | _=>cases h
 | int a=>
  obtain⟨t1,rfl⟩:=(show ∃ t,u1=Value.int a t from v1)
  cases r2 with
  | non=>cases (show u2=Value.none from v2);cases h;exact⟨.int_none a t1,.int_none a t1,.int_none a t1⟩
  | bl b=>cases (show u2=Value.bool b from v2);cases h;exact⟨.int_bool a t1 b,.int_bool a t1 b,.int_bool a t1 b⟩
  | int b=>obtain⟨t,rfl⟩:=(show ∃ t,u2=Value.int b t from v2);cases h;exact⟨.int_int a t1 b t,.int_int a t1 b t,.int_int a t1 b t⟩
  | str b=>obtain⟨t,rfl⟩:=(show ∃ t,u2=Value.str b t from v2);cases h;exact⟨.int_str a t1 b t,.int_str a t1 b t,.int_str a t1 b t⟩
  | tup h2 q2=>cases (show u2=Value.ref _ from v2);cases h;obtain⟨_,_,p,_⟩:=I.tuple h2;exact⟨.int_tuple a t1 p hu,.int_tuple a t1 p hu,.int_tuple a t1 p hu⟩
  | _=>cases h
 | str a=>
  obtain⟨t1,rfl⟩:=(show ∃ t,u1=Value.str a t from v1)
  cases r2 with
  | non=>cases (show u2=Value.none from v2);cases h;exact⟨.str_none a t1,.str_none a t1,.str_none a t1⟩
  | bl b=>cases (show u2=Value.bool b from v2);cases h;exact⟨.str_bool a t1 b,.str_bool a t1 b,.str_bool a t1 b⟩
  | int b=>obtain⟨t,rfl⟩:=(show ∃ t,u2=Value.int b t from v2);cases h;exact⟨.str_int a t1 b t,.str_int a t1 b t,.str_int a t1 b t⟩
  | str b=>obtain⟨t,rfl⟩:=(show ∃ t,u2=Value.str b t from v2);cases h;exact⟨.str_str a t1 b t,.str_str a t1 b t,.str_str a t1 b t⟩
  | tup h2 q2=>cases (show u2=Value.ref _ from v2);cases h;obtain⟨_,_,p,_⟩:=I.tuple h2;exact⟨.str_tuple a t1 p hu,.str_tuple a t1 p hu,.str_tuple a t1 p hu⟩
  | _=>cases h
 | @tup l1 vs xs h1 q1=>
  cases (show u1=Value.ref _ from v1)
  obtain⟨its,rv,p,_⟩:=I.tuple h1
  cases r2 with
  | non=>cases (show u2=Value.none from v2);cases h;exact⟨.tuple_none p hu,.tuple_none p hu,.tuple_none p hu⟩
  | bl b=>cases (show u2=Value.bool b from v2);cases h;exact⟨.tuple_bool b p hu,.tuple_bool b p hu,.tuple_bool b p hu⟩
  | int b=>obtain⟨t,rfl⟩:=(show ∃ t,u2=Value.int b t from v2);cases h;exact⟨.tuple_int b t p hu,.tuple_int b t p hu,.tuple_int b t p hu⟩
  | str b=>obtain⟨t,rfl⟩:=(show ∃ t,u2=Value.str b t from v2);cases h;exact⟨.tuple_str b t p hu,.tuple_str b t p hu,.tuple_str b t p hu⟩
  | @tup l2 ws ys h2 q2=>
   cases (show u2=Value.ref _ from v2)
   obtain⟨its2,rw',p2,_⟩:=I.tuple h2
   obtain⟨ef,ek,he⟩:=hg xs ys r h vs ws its its2 q1 q2 rv rw'
   have hit:∀ j (a1:j < its.toArray.size) (a2:j < its2.toArray.size),EqAt A.in1 s its.toArray[j] its2.toArray[j] (ef j):=fun j a1 a2=>
    he j _ _ (by rw[List.getElem_toArray];exact List.getElem?_eq_getElem (by simpa using a1)) (by rw[List.getElem_toArray];exact List.getElem?_eq_getElem (by simpa using a2))
   have k1:=RcAt.tuples (A:=A) (s:=s) p p2 hu hit
   have k2:=RcNeAt.tuples (A:=A) (s:=s) p p2 hu hit
   simp only[List.size_toArray]at k1 k2
   rw[<- ek]at k1 k2
   refine⟨k1,k2,?_⟩
   by_cases hl:l1=l2
   ·subst hl
    have:=I.tuple_inj h1 h2
    subst this
    rw[hs xs ys vs r q1 q2 h]
    exact .same _
   ·exact .of_refs hl k1
  | _=>cases h
open SeqAt in
theorem Qfv {n : Nat} {A : Around} (I : Inv X pins σ H s)
  (ih:∀ {v w:V}{u1 u2:Value}{d e:D}{r:Bool},eqF n d e=some r->Rep X.K ρ H v d->Rep X.K ρ H w e->RelV v u1->RelV w u2->EqAt A s u1 u2 r)
  {xs ys:List D}{k:Bool} (h:allF (eqF n) xs ys=some k) {vs ws:List V}{its its2:List Value} (q1:Reps X.K ρ H vs xs) (q2:Reps X.K ρ H ws ys) (rv:Vals vs its) (rw':Vals ws its2):
  ∃ e:Nat->Bool,k=((List.range (min its.length its2.length)).all e && its.length == its2.length)/\∀ (j:Nat) x y,its[j]?=some x->its2[j]?=some y->EqAt A s x y (e j):=by
 refine⟨itE (eqF n) xs ys,?_,fun j x y hx hy=>?_⟩
 ·have l1:=rv.length
  have l2:=rw'.length
  have l3:=q1.length
  have l4:=q2.length
  rw[<- l1,<- l2,l3,l4]
  exact Qfq h
 ·obtain⟨v,hv,ru⟩:=Vals.at rv hx
  obtain⟨w,hw,rw2⟩:=Vals.at rw' hy
  obtain⟨d,hd,rd⟩:=Reps.at q1 hv
  obtain⟨e,he,re⟩:=Reps.at q2 hw
  obtain⟨r,hr⟩:=Qfp h j d e hd he
  have:itE (eqF n) xs ys j=r:=by unfold itE;rw[hd,he];dsimp only;rw[hr];rfl
  rw[this]
  exact ih hr rd re ru rw2
open SeqAt in
theorem Qfw (I:Inv X pins σ H s):∀ (n:Nat) {A:Around}{v w:V}{u1 u2:Value}{d e:D}{r:Bool},A.units + n < cLine->eqF n d e=some r->Rep X.K ρ H v d->Rep X.K ρ H w e->RelV v u1->RelV w u2->RcAt A s u1 u2 r/\RcNeAt A s u1 u2 (!r)/\EqAt A s u1 u2 r
 | 0,_,_,_,_,_,_,_,_,hu,h,r1,r2,v1,v2=>Qfu I hu (fun _ _ _ z=>by cases z) (fun _ _ _ _ _ _ z=>by cases z) h r1 r2 v1 v2
 | n + 1, A, _, _, _, _, _, _, _, hu, h, r1, r2, v1, v2 => Qfu I (by ac_nf)
   (fun xs ys k z vs ws its its2 q1 q2 rv rw'=>Qfv I (fun h r1 r2 v1 v2=>(Qfw I n (A:=A.in1) (by show A.units + 1 + n < cLine;ac_nf) h r1 r2 v1 v2).2.2) z q1 q2 rv rw')
   (fun xs ys vs k q1 q2 z=>Qfs (fun v d e k a b c=>Qft I n c a b) q1 q2 z) h r1 r2 v1 v2
end
section
variable {X:Cx}{K:PySem.W.Frag}{ρ:List Addr}{H:Hp}{st:Sto}{pins:List (Addr × Obj)}{σ:St}{s:Shared}
open SeqAt in
theorem Qfx (hu : X.A.units + 60 < cLine) (I : Inv X pins σ H s) (sr : SR X.K ρ H st) {d e : D} {x y : V} {v u : Value} {R : Bool -> Sto -> List Addr -> Hp -> Prop} (r1 : Rep X.K ρ H x d) (r2 : Rep X.K ρ H y e) (rx : RelV x v) (ry : RelV y u)
  (p:Post X.K ρ H (eqB d e st) R):∃ r,R r st ρ H/\RcAt X.A s v u r/\RcNeAt X.A s v u (!r):=by
 have hu':X.A.units < cLine:=by ac_nf
 have gen:Post X.K ρ H ((match eqF 50 d e with | some r=>ret r | none=>bad:M Bool) st) R->∃ r,R r st ρ H/\RcAt X.A s v u r/\RcNeAt X.A s v u (!r):=fun q=>by
  cases h:eqF 50 d e with
  | none=>rw[h]at q;exact q.elim
  | some r=>
   rw[h]at q
   obtain⟨k1,k2,_⟩:=Qfw I 50 (A:=X.A) (by ac_nf) h r1 r2 rx ry
   exact⟨r,q.ret sr,k1,k2⟩
 cases r1 with
 | non=>
  cases r2 with
  | @ref a n _ h=>
   obtain⟨ds,e2,p1⟩:=Post.getL (Post.bnd p) sr
   obtain⟨a',vs,ha,hv,r⟩:=sr.seq e2
   rw[h]at ha;cases ha
   cases (show v=Value.none from rx)
   cases (show u=Value.ref a from ry)
   obtain⟨_,_,pl,_⟩:=I.list (SqL.of hv)
   exact⟨false,p1.ret sr,.none_list pl.isList hu',.none_list pl.isList hu'⟩
  | _=>exact gen p
 | @ref a n _ h=>
  cases r2 with
  | non=>
   obtain⟨ds,e2,p1⟩:=Post.getL (Post.bnd p) sr
   obtain⟨a',vs,ha,hv,r⟩:=sr.seq e2
   rw[h]at ha;cases ha
   cases (show u=Value.none from ry)
   cases (show v=Value.ref a from rx)
   obtain⟨_,_,pl,_⟩:=I.list (SqL.of hv)
   exact⟨false,p1.ret sr,.list_none pl.isList hu',.list_none pl.isList hu'⟩
  | @ref b m _ h'=>
   obtain⟨xs,e2,p1⟩:=Post.getL (Post.bnd p) sr
   obtain⟨ys,e3,p2⟩:=Post.getL (Post.bnd p1) sr
   obtain⟨a',vs,ha,hv,q1⟩:=sr.seq e2
   obtain⟨b',ws,hb,hw,q2⟩:=sr.seq e3
   rw[h]at ha;cases ha
   rw[h']at hb;cases hb
   cases (show v=Value.ref a from rx)
   cases (show u=Value.ref b from ry)
   obtain⟨its,rv,pl,_⟩:=I.list (SqL.of hv)
   obtain⟨its2,rw',pl2,_⟩:=I.list (SqL.of hw)
   have l1:=rv.length
   have l2:=rw'.length
   have l3:=q1.length
   have l4:=q2.length
   by_cases hl:xs.length=ys.length
   ·rw[if_pos hl]at p2
    cases h2:allF (eqF 50) xs ys with
    | none=>rw[h2]at p2;exact p2.elim
    | some r=>
     rw[h2]at p2
     obtain⟨ef,ek,he⟩:=Qfv (A:=X.A.in1) I (fun h r1 r2 v1 v2=>(Qfw I 50 (A:=X.A.in1) (by show X.A.units + 1 + 50 < cLine;ac_nf) h r1 r2 v1 v2).2.2) h2 q1 q2 rv rw'
     have hsz:its.toArray.size=its2.toArray.size:=by rw[List.size_toArray,List.size_toArray];ac_nf
     have hit:∀ j (a1:j < its.toArray.size) (a2:j < its2.toArray.size),EqAt X.A.in1 s its.toArray[j] its2.toArray[j] (ef j):=fun j a1 a2=>
      he j _ _ (by rw[List.getElem_toArray];exact List.getElem?_eq_getElem (by simpa using a1)) (by rw[List.getElem_toArray];exact List.getElem?_eq_getElem (by simpa using a2))
     have ek2:(List.range its.toArray.size).all ef=r:=by
      rw[ek,List.size_toArray]
      have:its.length=its2.length:=by ac_nf
      rw[this];simp
     have k1:=RcAt.lists (A:=X.A) (s:=s) pl.isList pl2.isList hsz hu' hit
     have k2:=RcNeAt.lists (A:=X.A) (s:=s) pl.isList pl2.isList hsz hu' hit
     rw[ek2]at k1 k2
     exact⟨r,p2.ret sr,k1,k2⟩
   ·rw[if_neg hl]at p2
    have hne:(its.toArray.size != its2.toArray.size)=true:=by
     rw[List.size_toArray,List.size_toArray]
     simp
     ac_nf
    exact⟨false,p2.ret sr,.lists_lengths pl.isList pl2.isList hne hu',.lists_lengths pl.isList pl2.isList hne hu'⟩
  | _=>exact gen p
 | _=>cases r2<;>exact gen p
theorem Qfy (hu:X.A.units + 60 < cLine):OpR X (compareOp .Eq) (rOf X.K eqD):=by
 intro pins s σ H x y v u Q I rx ry pq126;obtain⟨ρ,st,d,e,sr,r1,r2,p⟩:=pq126
 obtain⟨r,q,k1,_⟩:=Qfx hu I sr r1 r2 rx ry p.bnd
 exact k1 _ _ _ _ ⟨.bl r,H,I,rfl,q.ret sr _ (.bl _)⟩
theorem Qfz (hu:X.A.units + 60 < cLine):OpR X (compareOp .NotEq) (rOf X.K neD):=by
 intro pins s σ H x y v u Q I rx ry pq127;obtain⟨ρ,st,d,e,sr,r1,r2,p⟩:=pq127
 obtain⟨r,q,_,k2⟩:=Qfx hu I sr r1 r2 rx ry p.bnd
 exact k2 _ _ _ _ ⟨.bl (!r),H,I,rfl,q.ret sr _ (.bl _)⟩
end
section
variable {X:Cx}{a b c e o tg:Expr}{es:List Expr}{pos apos cpos:Pos}{fa fb fc:CE}{ca cb:CA}{ta tb:CT}{K:PySem.W.Frag}{ρ:List Addr}{H:Hp}{st:Sto}{x:Str}{p:Pos}{T:String}
theorem QfA (ho : SE X o fa) (ha : SE X e fb) (hbase : attributeBase o "append" X.env (eval o X.env) = eval o X.env := by rfl)
  (hfew:((backTo cpos (starEach [e] X.env)).all (fun x => !x.1) && (backToKw cpos (keywordEach [] X.env)).all (fun x=>x.1.isSome)
   && decide ([e].length + ([]:List Keyword).length + (if ([]:List Keyword).isEmpty then 0 else 1) < 30))=true:=by rfl)
  (hline:(apos.endLine == cpos.line)=true:=by rfl) (hs:starEach [e] X.env=(false,eval e X.env)::starEach [] X.env:=by rfl) (hplain:(backTo cpos (starEach [] X.env)).any (·.1)=false:=by rfl):
  SE X (.Call (.Attribute o "append" apos) [e] [] cpos) (cAppend fa fb):=
 (Qcs PySem.F.plainAttrs_list PySem.F.slot_list_append PySem.F.type_list_append Qcu ho (QbE ha QbD hs) hbase hfew hline hs hplain).of fun σ H Q h_=>h_.el fun ρ l st lr sr p=>⟨ρ,l,st,lr,sr,p.bnd.imp fun d st1 ρ1 H1 x1 s1 p1 v rv=>by
  cases rv with
  | @ref a n kk h=>
   have hl:n < st1.length:=by rw[<- s1.len];exact (List.getElem?_eq_some_iff.mp h).1
   obtain⟨vs0,hv0⟩:=Qda kk
   refine⟨.inl ⟨rfl,vs0,SqL.of hv0⟩,ρ1,l,st1,lr.mono x1,s1,(Post.bnd p1).imp fun y st2 ρ2 H2 x2 s2 p2 w rw'=>?_⟩
   have h2:ρ2[n]?=some a:=by
    obtain⟨τ,e,_⟩:=x2.pre
    rw[e];exact Qc8 h
   obtain⟨ds,e2,p3⟩:=Post.getL (Post.bnd p2) s2
   obtain⟨a',vs,ha,hv,r⟩:=s2.seq e2
   rw[h2]at ha;cases ha
   obtain⟨hz,p4⟩:=Post.chk p3
   obtain⟨s3,x3⟩:=s2.put (List.getElem?_eq_some_iff.mp e2).1 h2 hv (Reps.app r (.cons rw' .nil))
   have p5:=Post.bnd p4
   unfold putL at p5
   rw[e2]at p5
   exact⟨a,vs,w,rfl,rfl,hv,by rw[r.length];exact hz,(p5 ρ2 _ x3 s3).ret s3 _ .non⟩
  | _=>exact p1.elim⟩
theorem QfB:OpR X (binaryOp .Add) (rOf X.K addD):=by
 intro pins s σ H x y v u Q I rx ry pq128;obtain⟨ρ,st,d,e,sr,r1,r2,p⟩:=pq128
 cases r1 with
 | int i=>
  cases r2 with
  | int j=>exact Qa8 pins s σ H _ _ v u Q I rx ry ⟨i,j,rfl,rfl,p.ret sr _ (.int _)⟩
  | _=>exact p.elim
 | str i=>
  cases r2 with
  | str j=>exact Qbu pins s σ H _ _ v u Q I rx ry ⟨i,j,rfl,rfl,(Post.chk p).1,(Post.chk p).2.ret sr _ (.str _)⟩
  | _=>exact p.elim
 | ref _ h=>
  cases r2 with
  | ref _ h'=>
   obtain⟨xs,e2,p1⟩:=Post.getL (Post.bnd p) sr
   obtain⟨ys,e3,p2⟩:=Post.getL (Post.bnd p1) sr
   obtain⟨a',vs,ha,hv,q1⟩:=sr.seq e2
   obtain⟨b',ws,hb,hw,q2⟩:=sr.seq e3
   rw[h]at ha;cases ha
   rw[h']at hb;cases hb
   obtain⟨hz,p3⟩:=Post.chk p2
   refine Qcw pins s σ H _ _ v u Q I rx ry ⟨_,_,vs,ws,rfl,rfl,hv,hw,by rw[q1.length,q2.length];exact hz,fun q hq=>?_⟩
   have nq:=sr.fresh hq
   have x1:Ex ρ H (ρ++[q]) (upd H q (.lst (vs++ws))):=Ex.newL hq
   refine p3 _ _ x1 ((sr.new hq).keep Qai nq ((Reps.app q1 q2).mono (Ex.new hq))) _ (.ref ⟨_,Qai,rfl⟩ ?_)
   rw[<- sr.len];simp
  | _=>exact p.elim
 | tup h1 q1=>
  cases r2 with
  | tup h2 q2=>
   obtain⟨hz,p2⟩:=Post.chk p
   rename_i a1 vs xs b1 ws ys
   by_cases hx:vs=[]
   ·subst hx
    cases q1
    obtain⟨its,v1,ht,_⟩:=I.tuple h1
    obtain⟨its2,v2,hb,_⟩:=I.tuple h2
    cases v1
    have ev:v=Value.ref a1:=rx
    have eu:u=Value.ref b1:=ry
    subst ev eu
    obtain⟨⟨cls,dd,data,sl⟩,ho,hc,n,hd⟩:=ht
    obtain⟨⟨cls2,dd2,data2,sl2⟩,ho2,hc2,n2,hd2⟩:=hb
    simp only at hc hd hc2 hd2
    subst hc hd hc2 hd2
    refine concat_meets (E:=X.xe) ⟨_,ho,rfl⟩ ⟨_,ho2,rfl⟩ noFill_tuple_add seq_tuple_add PySem.F.slot_tuple_add PySem.F.entry_tuple_add (PySem.F.args_tuple_add_2 _ _) (tuple_addW0 a1 b1 _ _ n n2 dd dd2 sl sl2 (by simp)) ⟨ho,ho2,?_⟩
    exact⟨.ref b1,H,I,rfl,p2.ret sr _ (.tup h2 q2)⟩
   ·refine Qb5 pins s σ H _ _ v u Q I rx ry ⟨_,_,vs,ws,rfl,rfl,h1,h2,hx,by rw[q1.length,q2.length];exact hz,fun he=>?_,fun _ q hq=>?_⟩
    ·subst he
     cases q2
     rw[List.append_nil]at p2
     exact p2.ret sr _ (.tup h1 q1)
    ·exact p2 _ _ (Ex.new hq) (sr.new hq) _ (.tup (SqT.of Qai) ((Reps.app q1 q2).mono (Ex.new hq)))
  | _=>exact p.elim
 | _=>cases r2<;>exact p.elim
def toOf (K:PySem.W.Frag) (f:CO):TO:=fun σ H Q=>∃ ρ l st,LR K ρ H σ l/\SR K ρ H st/\Post K ρ H (f l st) fun o _ _ H'=>Q o H'
abbrev SO (X:Cx) (e:Option Expr) (f:CO):Prop:=PO X e (toOf X.K f)
theorem QfC:SO X none oNone:=fun pins s σ H Q I h_=>h_.el fun ρ l st lr sr p=>Qb0 pins s σ H Q I (p.ret sr)
theorem QfD (h:SE X e fa):SO X (some e) (oSome fa):=fun pins s σ H Q I h_=>h_.el fun ρ l st lr sr p=>Qb1 h pins s σ H Q I ⟨ρ,l,st,lr,sr,p.bnd.imp fun d st1 ρ1 H1 x1 s1 p1 v rv=>by
 cases rv with
 | int i=>exact⟨i,rfl,p1.ret s1⟩
 | _=>exact p1.elim⟩
theorem Reps.cut {vs:List V}{ds:List D} (r:Reps K ρ H vs ds) (lo hi:Option Int):Reps K ρ H (cutV vs lo hi) (cutD ds lo hi):=by
 unfold cutV cutD
 have e:∀ n d o,HT.sIx n d o=MM.sIx n d o:=fun n d o=>by cases o<;>rfl
 rw[e,e,r.length]
 exact (r.drop _).take _
theorem QfE {lo hi:Option Expr}{fl fh:CO}{p2:Pos} (h:SE X e fa) (hl:SO X lo fl) (hh:SO X hi fh):SL X (.Subscript e (.Slice lo hi none p2) pos) (aSlice fa fl fh):=
 (Qb2 Qch h hl hh).of fun σ H Q h_=>h_.el fun ρ l st lr sr p=>⟨ρ,l,st,lr,sr,p.bnd0.imp fun d st1 ρ1 H1 x1 s1 p1 v rv=>⟨ρ1,l,st1,lr.mono x1,s1,(p1.bnd0.left x1).imp fun i st2 ρ2 H2 x2 s2 p2=>⟨ρ2,l,st2,(lr.mono x1).mono x2,s2,(p2.bnd0.left (x1.trans x2)).imp fun j st3 ρ3 H3 x3 s3 p3=>by
  have rv3:=(rv.mono x2).mono x3
  have x03:=x1.trans (x2.trans x3)
  have fin:∀ {a:Addr}{vs:List V}{ds:List D},SqL X.K H3 a vs->Reps X.K ρ3 H3 vs ds->Post X.K ρ H (ret (cutD ds i j) st3) (fun ds _ ρ' H'=>∀ a vs,H a=none->a∉ρ'->H' a=some (.lst vs)->Reps X.K ρ' H' vs ds->Q (.ref a) H')->rSlL X.K (.ref a) i j H3 Q:=fun {a vs ds} hs r q=>
   ⟨a,vs,rfl,hs,fun q1 hq1=>by
    have hn:H q1=none:=by
     cases z:H q1 with
     | none=>rfl
     | some o=>exact absurd hq1 (x03.trk q1 o z)
    exact q ρ3 _ (x03.trans (Ex.new hq1)) (s3.new hq1) q1 _ hn (s3.fresh hq1) Qai ((Reps.cut r i j).mono (Ex.new hq1))⟩
  cases rv3 with
  | lit h r=>exact fin h.seq r p3
  | ref _ h=>
   obtain⟨ds,e2,p4⟩:=Post.getL (p3.bnd0.left x03) s3
   obtain⟨a',vs,ha,hv,r⟩:=s3.seq e2
   rw[h]at ha;cases ha
   exact fin (SqL.of hv) r p4
  | _=>exact p3.elim⟩⟩⟩
end
open PySem.AutoSeq1 (wpAny_loadPart')
theorem QfF (l : Addr) (items : Array Value) (n : Nat) (dct : Option Addr) (sl : Array (Option Value)) :
  Meets (Builtin.«enumerate.__new__» ⟨[.type "enumerate",.ref l],[]⟩) (fun _ R s=>s.heap.get? l=some { cls:=.type "tuple",dict:=dct,data:=.seq items n,slots:=sl } /\
   R (.ok (.ret (.ref (s.heap.push { cls:=.type "tuple_iterator",data:=.fields #[.ref l,.int 0 0] }).objs.size)))
    { s with heap:=(s.heap.push { cls:=.type "tuple_iterator",data:=.fields #[.ref l,.int 0 0] }).push { cls:=.type "enumerate",data:=.fields #[.none,.bool false,.ref s.heap.objs.size,rawInt 0,.none,.none] } }):=
 .of_wp fun prog w A R s h=>by
  obtain⟨hp,g,d,tk,os⟩:=s;obtain⟨hl,h⟩:=h;have hsub:=sub_enumerate
  have hT:Heap.IsTuple (Shared.heap ⟨hp,g,d,tk,os⟩) l items:=⟨_,hl,rfl,n,rfl⟩
  wp_walk using wpAny_loadPart' hl;refine wpAny_stack_any fun st=>wpAny_pure ?_;split
  ·rename_i c _ _ _ _ _;cases (c == Value.type "enumerate")<;>(wp_walk using wpAny_loadPart' hl,wpAny_pyIter_tuple hT;exact⟨_,rfl,h⟩)
  ·wp_walk using wpAny_loadPart' hl,wpAny_pyIter_tuple hT;exact⟨_,rfl,h⟩
section
variable {prog:Program}{w:World}{A:Around}{E:Value->Shared->Prop}{s:Shared}
theorem QfG {l : Addr} {items : Array Value} {Q : Value -> Shared -> Prop} (hL : s.heap.IsTuple l items)
  (h:∀ h',IsEnum h' (s.heap.objs.size + 1) s.heap.objs.size 0 .none->h'.IsTupleIter s.heap.objs.size l 0->h'.objs.size=s.heap.objs.size + 2->(∀ b o,s.heap.get? b=some o->h'.get? b=some o)->Q (.ref (s.heap.objs.size + 1)) { s with heap:=h' }):
  wpAny (model prog w) A (call (.type "enumerate") [.ref l]) Q E s:=by
 obtain⟨⟨c,dct,dt,sl⟩,hl,hc,n,hd⟩:=hL
 replace hc:c=.type "tuple":=hc
 replace hd:dt=.seq items n:=hd
 subst hc hd
 refine callType_new F.called_enumerate (by decide) (F.typeCall_enumerate_1 _) (F.newCall_enumerate_1 _) (fun obj=>F.args_object_init_2 obj _) F.entry_enumerate_new (QfF l items n dct sl) ⟨hl,?_⟩
 have hz:(s.heap.push { cls:=.type "tuple_iterator",data:=.fields #[.ref l,.int 0 0] }).objs.size=s.heap.objs.size + 1:=Heap.size_push ..
 show _/\_;rw[hz]
 have he:IsEnum ((s.heap.push { cls:=.type "tuple_iterator",data:=.fields #[.ref l,.int 0 0] }).push { cls:=.type "enumerate",data:=.fields #[.none,.bool false,.ref s.heap.objs.size,rawInt 0,.none,.none] }) (s.heap.objs.size + 1) s.heap.objs.size 0 .none:=by
  have q:=Heap.get?_push_size (s.heap.push { cls:=.type "tuple_iterator",data:=.fields #[.ref l,.int 0 0] }) (o:={ cls:=.type "enumerate",data:=.fields #[.none,.bool false,.ref s.heap.objs.size,rawInt 0,.none,.none] }) rfl
  rw[hz]at q;exact q
 exact⟨⟨_,he,rfl⟩,h _ he ⟨_,Heap.get?_push_of_some _ (Heap.get?_push_size _ rfl),rfl,rfl⟩ (by rw[Heap.size_push,hz]) fun b o x=>Heap.get?_push_of_some _ (Heap.get?_push_of_some _ x)⟩
theorem QfH {it l : Addr} {i : Nat} {items} {x : Value} {Q : Value -> Shared -> Prop} (hit : s.heap.IsTupleIter it l i) (hl : s.heap.IsTuple l items) (hx : items[i]? = some x)
  (hQ:∀ h',h'.IsTupleIter it l (i + 1)->Heap.SameBut it s.heap h'->Q x { s with heap:=h' }):wpAny (model prog w) A (Builtin.SmallTypes.nextOf (.ref it)) Q E s:=by
 obtain⟨o,ho,hc,hd⟩:=id hit;obtain⟨ol,hol,_,nl,hdl⟩:=hl
 unfold Builtin.SmallTypes.nextOf
 refine wpAny_bind (wpAny_callSpecial?_slot (name:=Str.ofString "__next__") hit.typeIs F.slot_tuple_iterator_next (wpAny_call_entry F.slot_tuple_iterator_next hit.typeIs F.entry_tuple_iterator_next ?_ (F.args_tuple_iterator_next_1 _)))
 show wpAny _ _ (field (.ref it) 0 >>= _) _ _ s;refine wpAny_bind (wpAny_field ho hd (x:=.ref l) rfl ?_)
 show wpAny _ _ (if (Value.ref l == Value.none)=true then _ else _) _ _ s;rw[if_neg (show ¬ ((Value.ref l == Value.none)=true) from Bool.false_ne_true)]
 show wpAny _ _ (field (.ref it) 1 >>= _) _ _ s;refine wpAny_bind (wpAny_field ho hd (x:=.int i 0) rfl ?_)
 show wpAny _ _ (seqItems? (.ref l) >>= _) _ _ s;refine wpAny_bind (wpAny_seqItems hol hdl ?_);simp only[Int.toNat_natCast,hx]
 refine wpAny_bind (wpAny_setField ho hd (by simp) (wpAny_pure ⟨x,rfl,wpAny_pure (hQ _ ⟨_,Heap.get?_update_self _ ho (Obj.isFreed_of_fields (Obj.data_mapFields hd _)),(Obj.cls_mapFields ..).trans hc,?_⟩ (Heap.SameBut.update ..))⟩))
 rw[Obj.data_mapFields hd];simp[rawInt]
theorem QfI {it l : Addr} {i : Nat} {items} {Q : Value -> Shared -> Prop} (hh : A.handled = none) (hit : s.heap.IsTupleIter it l i) (hl : s.heap.IsTuple l items) (hx : items[i]? = none)
  (hE:∀ h' e,Heap.ExtBut it s.heap h'->(∃ o,h'.get? e=some o/\o.cls=.type "StopIteration")->E (.ref e) { s with heap:=h' }):wpAny (model prog w) A (Builtin.SmallTypes.nextOf (.ref it)) Q E s:=by
 obtain⟨o,ho,hc,hd⟩:=id hit;obtain⟨ol,hol,_,nl,hdl⟩:=hl
 unfold Builtin.SmallTypes.nextOf
 refine wpAny_bind (wpAny_callSpecial?_slot (name:=Str.ofString "__next__") hit.typeIs F.slot_tuple_iterator_next (wpAny_call_entry F.slot_tuple_iterator_next hit.typeIs F.entry_tuple_iterator_next ?_ (F.args_tuple_iterator_next_1 _)))
 show wpAny _ _ (field (.ref it) 0 >>= _) _ _ s;refine wpAny_bind (wpAny_field ho hd (x:=.ref l) rfl ?_)
 show wpAny _ _ (if (Value.ref l == Value.none)=true then _ else _) _ _ s;rw[if_neg (show ¬ ((Value.ref l == Value.none)=true) from Bool.false_ne_true)]
 show wpAny _ _ (field (.ref it) 1 >>= _) _ _ s;refine wpAny_bind (wpAny_field ho hd (x:=.int i 0) rfl ?_)
 show wpAny _ _ (seqItems? (.ref l) >>= _) _ _ s;refine wpAny_bind (wpAny_seqItems hol hdl ?_);simp only[Int.toNat_natCast,hx]
 refine wpAny_bind (wpAny_rule (wpAny_bind (wpAny_setField ho hd (by simp) ?_)));show wpAny _ _ (newExc (.type "StopIteration") [] >>= _) _ _ _
 refine wpAny_bind ?_;simp only[newExc,newTuple];refine wpAny_bind (wpAny_newObj_type ?_ (by size_fits))
 refine wpAny_bind (m:=firstArgMember _ _) (wpAny_of_eq (a:=Value.none) (by first | rfl | (simp only[firstArgMember];rfl)) (wpAny_newObj_type ?_ (by size_fits)))
 simp only[raiseNew];refine wpAny_bind (wpAny_handled ?_);first | rw[show A.in1.handled=none from hh] | rw[hh]
 exact wpAny_bind (wpAny_pure (wpAny_throw (hE _ _ (((Heap.SameBut.update ..).extBut.push _).push _) ⟨_,Heap.get?_push_size _ rfl,rfl⟩)))
end
theorem QfJ {prog : Program} {w : World} {A : Around} (hh : A.handled = none) (it l : Addr) (hne : l ≠ it) (items : Array Value) :
  Draws prog w A it [it,l] items.size (fun i v=>items[i]?=some v) (fun i h=>h.IsTupleIter it l i/\h.IsTuple l items) where
 live:=fun _ _ st=>let ⟨o,ho,_⟩:=st.1;⟨o,ho⟩
 frame:=fun _ _ _ st hk=>⟨let ⟨o,e,r⟩:=st.1;⟨o,hk it (by simp) o e,r⟩,let ⟨o,e,r⟩:=st.2;⟨o,hk l (by simp) o e,r⟩⟩
 item:=fun i s Q E hi st hQ=>QfH st.1 st.2 (x:=items[i]) (by simp[hi]) fun h' hit' hs'=>hQ _ h' s.toks (by simp[hi]) ⟨hit',st.2.extBut hs'.extBut hne⟩ hs'
 done:=fun s Q E st hE=>QfI hh st.1 st.2 (by simp) hE
def Ite (K:PySem.W.Frag) (a:Addr):It:=
 ⟨fun i H=>∃ xs x,SqT K H a xs/\xs[i]?=some x,fun i H x H'=>∃ T v,x=.ref T/\H T=none/\(∀ xs,SqT K H a xs->xs[i]?=some v)/\H'=upd H T (.tup [.int i,v]),fun i H=>∃ xs,SqT K H a xs/\xs.length<=i⟩
section
variable {X:Cx}{tg:Expr}{es:List Expr}{pos:Pos}{fa:CE}{K:PySem.W.Frag}{ρ:List Addr}{H:Hp}{st:Sto}
theorem QfK {P:Program}{w:World}{k:Nat} (a e it:Addr) (hei:e≠it):Turn P w K (.Tuple es k pos) (Ite K a) [e,it] e (fun i h=>(∃ old,IsEnum h e it i old)/\h.IsTupleIter it a i) where
 mem:=by simp
 obj:=fun i h pq74 b hb=>by
  obtain⟨⟨old,he⟩,hit⟩:=pq74
  rcases List.mem_cons.mp hb with z | z
  ·subst z;exact⟨_,he,fun v q=>by cases q⟩
  ·have z':b=it:=by simpa using z
   subst z'
   obtain⟨o,e,c,d⟩:=hit
   exact⟨o,e,fun v q=>by rw[d]at q;cases q⟩
 keep:=fun i h h' pq75 kp=>by obtain⟨⟨old,he⟩,hit⟩:=pq75;exact⟨⟨old,kp e (by simp) _ he⟩,let ⟨o,x,r⟩:=hit;⟨o,kp it (by simp) o x,r⟩⟩
 item:=by
  intro X hP hw hK hc i pins s σ H E I hf pq129 hg;obtain⟨⟨old,he⟩,hit⟩:=pq129
  subst hP hw hK
  obtain⟨xs,x,hq,hx⟩:=hg
  obtain⟨its,rv,p,hz⟩:=I.tuple hq
  obtain⟨u,hu,ru⟩:=rv.get hx
  have hlt:i < its.toArray.size:=by rw[List.size_toArray];exact (List.getElem?_eq_some_iff.mp hu).1
  obtain⟨f0,f1,f2,f3,f4,f5⟩:=hf e (by simp)
  obtain⟨g0,g1,g2,g3,g4,g5⟩:=hf it (by simp)
  have hai:a≠it:=fun z=>by
   obtain⟨o,e1,c,_⟩:=hit
   obtain⟨o',e2,c',_⟩:=p
   rw[z,e1]at e2;cases e2;rw[c]at c';exact absurd (Value.type.inj c') (by decide)
  have hae:a≠e:=fun z=>by
   obtain⟨o',e2,c',_⟩:=p
   rw[z,he]at e2;cases e2;exact absurd (Value.type.inj c') (by decide)
  have D:=QfJ (prog:=X.prog) (w:=X.w) (A:=X.A.in1) (I.ok.hd hc) it a hai its.toArray
  refine wpAny_pyNext_enum_itemD D he ⟨hit,p⟩ hlt hei (by simp;exact⟨hei,hae.symm⟩) fun y h' tk hP ho hst hT hsz hk=>?_
  have ey:y=u:=by
   have:its.toArray[i]?=some u:=by simpa using hu
   rw[this]at hP;cases hP;rfl
  subst ey
  refine⟨_,rfl,wpAny_letOwnedTupleGo_enum ho fun h2 he2 hs2=>?_⟩
  have helt:e < s.heap.objs.size:=Heap.lt_size he
  have hTn:H s.heap.objs.size=none:=I.hok.fresh (Nat.le_refl _)
  have keep:∀ b o,b≠e->b≠it->s.heap.get? b=some o->h2.get? b=some o:=fun b o hb1 hb2 e1=>(hs2.2 b hb1).trans (hk b o hb1 hb2 e1)
  have hT2:h2.get? s.heap.objs.size=some { cls:=.type "tuple",data:=.seq #[.int i tk,y] }:=(hs2.2 _ (Nat.ne_of_gt helt)).trans hT
  have I2:Inv X pins σ (upd H s.heap.objs.size (.tup [.int i,x])) { s with heap:=h2,toks:=tk + 1 }:=by
   have ne:∀ b o,H b=some o->b≠e/\b≠it:=fun b o q=>⟨fun z=>(by rw[z,f0]at q;cases q),fun z=>(by rw[z,g0]at q;cases q)⟩
   refine I.step (g':=s.gens) (d':=s.drawn) (ch:=[e,it]) (fun b hb=>?_) (fun b o _ _ hc' e1 _=>keep b o (fun z=>hc' (by simp[z])) (fun z=>hc' (by simp[z])) e1)
    (fun b o _ _ hc' e1 _=>⟨o.slots,keep b o (fun z=>hc' (by simp[z])) (fun z=>hc' (by simp[z])) e1⟩) (fun b o hc' e1 n1=>by rw[Qaj (Nat.ne_of_lt (Heap.lt_size e1))];exact n1) (fun b o hc' e1=>⟨o,keep b o (fun z=>hc' (by simp[z])) (fun z=>hc' (by simp[z])) e1⟩)
    (fun b ys q=>by rw[Qaj (Qal q hTn)];exact q) (fun b o ys q=>by rw[Qaj (Qal q hTn)];exact q) (fun b ps q=>⟨#[],by rw[Qaj (Qal q hTn),q];simp⟩) (fun m hm=>?_) ?_ I.bare
   ·rcases List.mem_cons.mp hb with z | z
    ·subst z;exact⟨f3,f1,f4,f5⟩
    ·have z':b=it:=by simpa using z
     subst z';exact⟨g3,g1,g4,g5⟩
   ·obtain⟨o,es',ep,e1,r⟩:=hm
    exact⟨o,es',ep,keep _ o f1.symm g1.symm e1,r⟩
   ·intro b o q
    by_cases hb:b=s.heap.objs.size
    ·subst hb
     rw[Qai]at q;cases q
     exact⟨by show 2<=sizeLine;decide,[.int i tk,y],.cons ⟨tk,rfl⟩ (.cons ru .nil),⟨_,hT2,rfl,⟨_,rfl⟩,rfl⟩⟩
    ·rw[Qaj hb]at q
     have:=ne b o q
     refine (I.hok b o q).stay (fun c v hc' r=>keep c v ?_ ?_ r) (fun c q'=>by rw[Qaj (Qal q' hTn)];exact q') fun c ys q'=>by rw[Qaj (Qal q' hTn)];exact q'
     ·rcases hc' with z | z
      ·rw[z];exact this.1
      ·exact (ne c _ z).1
     ·rcases hc' with z | z
      ·rw[z];exact this.2
      ·exact (ne c _ z).2
  refine⟨.ref s.heap.objs.size,_,I2,rfl,⟨_,x,rfl,hTn,fun ys hy=>by rw[I.tuple_inj hy hq];exact hx,rfl⟩,⟨⟨y,by simpa using he2⟩,let ⟨o,x1,r⟩:=hst.1;⟨o,(hs2.2 it hei.symm).trans x1,r⟩⟩,fun b hb=>?_⟩
  rw[Qaj]
  ·exact (hf b hb).1
  ·intro z
   have:b < s.heap.objs.size:=by
    rcases List.mem_cons.mp hb with q | q
    ·rw[q];exact helt
    ·have q':b=it:=by simpa using q
     rw[q'];obtain⟨o,x1,_⟩:=hit;exact Heap.lt_size x1
   exact absurd this (by rw[z];exact Nat.lt_irrefl _)
 done:=by
  intro X hP hw hK hc i pins s σ H E I hf pq130 hg;obtain⟨⟨old,he⟩,hit⟩:=pq130
  subst hP hw hK
  obtain⟨xs,hq,hx⟩:=hg
  obtain⟨its,rv,p,hz⟩:=I.tuple hq
  obtain⟨g0,g1,g2,g3,g4,g5⟩:=hf it (by simp)
  have hl:=rv.length
  have hT:s.TypeIs (.ref e) "enumerate":=⟨_,he,rfl⟩
  unfold pyNext
  refine wpAny_bind (wpAny_attempt (wpAny_callSpecial?_slot (name:=Str.ofString "__next__") hT F.slot_enumerate_next (wpAny_call_entry F.slot_enumerate_next hT F.entry_enumerate_next ?_ (F.args_enumerate_next_1 _))))
  show wpAny _ _ (field (.ref e) 2 >>= _) _ _ _;refine wpAny_bind (wpAny_field he rfl (x:=.ref it) rfl ?_)
  refine wpAny_bind (QfI (A:=X.A.in1) (I.ok.hd hc) hit p (by simp;ac_nf) fun h' x he' pq76=>?_)
  obtain⟨o,ho,hc'⟩:=pq76
  exact wpAny_bind (wpAny_isInstance (T:="StopIteration") (b:=true) ⟨o,ho,hc'⟩ isSubtype_stop (wpAny_pure ⟨rfl,I.turned (t':=s.toks) (fun b o hb e=>he' b o hb e) g0 g1 g3 g4 g5⟩))
 self:=fun _ _ _ _ _ pq77 h=>by obtain⟨⟨old,he⟩,_⟩:=pq77;exact wpAny_pyIter_enum he h
theorem QfL {b : Expr} {p tpos : Pos} {k : Nat} (hg : Gl X "enumerate") (hm : X.mg "enumerate" = none) (h : SE X b fa) (hs : starEach [b] X.env = [(false, eval b X.env)] := by rfl) :
  SI X (.Tuple es k tpos) (.Call (.Name "enumerate" p) [b] [] pos) (iEnum fa):=by
 intro pins s σ H R I pq131;obtain⟨ρ,l,st,lr,sr,q⟩:=pq131
 refine Call_ (Qay I hg hm boot_enumerate (PyProof.Rows.callWith_type1 (thn (Qd9 h Qd8 hs pos pins s σ H (fun vs H1=>∃ a xs,vs=[.ref a]/\SqT X.K H1 a xs/\R (Ite X.K a) H1) I ⟨ρ,l,st,lr,sr,?_⟩) fun us s1 ⟨vs,H1,I1,r1,q1⟩=>?_) hs rfl))
 ·have q':=Post.bnd q
  show Post X.K ρ H (MM.bnd (fa l) _ st) _
  unfold MM.bnd
  cases e:fa l st with
  | bad=>rw[e]at q';exact q'
  | exc _ _=>rw[e]at q';exact q'
  | ok d st1=>
   rw[e]at q'
   show ∀ ρ' H',Ex ρ H ρ' H'->SR X.K ρ' H' st1->_
   intro ρ1 H1 x1 s1 vs rvs
   have p1:=q' ρ1 H1 x1 s1
   cases rvs with
   | cons rv rt=>
    cases rt
    cases rv with
    | @tup a ws ds ht r=>
     refine⟨a,ws,rfl,ht,p1.ret s1 _ ?_⟩
     intro ρ2 H2 st2 x2 s2 _
     have hl:=r.length
     have ht2:SqT X.K H2 a ws:=SqT.mono x2.up ht
     have len:((rngD 0 ds.length).zipWith (fun i d=>D.tup [i,d]) ds).length=ds.length:=by simp[rngD]
     refine⟨⟨ws,ht2,by rw[len,hl];exact Nat.le_refl _⟩,fun i d e1=>?_⟩
     have hi:i < ds.length:=by rw[<- len];exact (List.getElem?_eq_some_iff.mp e1).1
     have ed:d=.tup [.int i,ds[i]]:=by
      rw[List.getElem?_zipWith,rngD,List.getElem?_map,List.getElem?_range hi,List.getElem?_eq_getElem hi]at e1
      have:=Option.some.inj e1
      rw[<- this];simp
     subst ed
     obtain⟨v,hv,rv⟩:=(r.mono x2).get (List.getElem?_eq_getElem hi)
     refine⟨⟨ws,v,ht2,hv⟩,fun y H3 pq79=>?_⟩
     obtain⟨T,w,ey,hn,hw,eH⟩:=pq79
     subst ey eH
     have ew:=hw ws ht2
     rw[hv]at ew;cases ew
     have x3:Ex ρ2 H2 ρ2 (upd H2 T (.tup [.int i,v])):=Ex.new hn
     exact⟨x3,s2.new hn,.tup (SqT.of Qai) (.cons (.int _) (.cons (rv.mono x3) .nil))⟩
    | _=>exact p1.elim
 ·obtain⟨a,xs,e,hq,hR⟩:=q1
  subst e
  obtain⟨u,rfl,ru⟩:=Qbv r1
  cases ru
  obtain⟨its,rv,p1,hz⟩:=I1.tuple hq
  refine QfG p1 fun h' he hit hsz kp=>wpAny_pyIter_enum he ?_
  have I2:Inv X pins σ H1 { s1 with heap:=h' }:=I1.kept (t':=s1.toks) kp
  refine⟨s1.heap.objs.size + 1,[s1.heap.objs.size + 1,s1.heap.objs.size],_,Ite X.K a,H1,rfl,I2,QfK a (s1.heap.objs.size + 1) s1.heap.objs.size (Nat.succ_ne_self _),⟨⟨_,he⟩,hit⟩,fun b hb=>?_,hR⟩
  have hle:s1.heap.objs.size<=b:=by
   rcases List.mem_cons.mp hb with z | z
   ·rw[z];exact Nat.le_succ _
   ·have z':b=s1.heap.objs.size:=by simpa using z
    rw[z'];exact Nat.le_refl _
  exact I1.fpOk hle (I1.hok.fresh hle)
end
section
variable {X:Cx}{K:PySem.W.Frag}{ρ:List Addr}{H:Hp}{st:Sto}
theorem QfM {v:V}{d:D} (r:Rep K ρ H v d) (h:flatD d=true):flatV v=true:=by
 cases r<;>first | rfl | cases h
theorem QfN:∀ {vs:List V}{ds:List D},Reps K ρ H vs ds->ds.all flatD=true->vs.all flatV=true
 | _,_,.nil,_=>rfl
 | _,_,.cons r t,h=>by
  rw[List.all_cons,Bool.and_eq_true]at h
  rw[List.all_cons,Bool.and_eq_true]
  exact⟨QfM r h.1,QfN t h.2⟩
theorem QfO {v w:V}{d e:D} (r:Rep K ρ H v d) (q:Rep K ρ H w e) (h:flatD d=true) (h':flatD e=true):eqV v w=eqFl d e:=by
 cases r<;>first | (cases q<;>first | rfl | cases h') | cases h
theorem QfP {w:V}{e:D} (q:Rep K ρ H w e) (h':flatD e=true):∀ {vs:List V}{ds:List D},Reps K ρ H vs ds->ds.all flatD=true->inV w vs=ds.any fun d=>eqFl d e
 | _,_,.nil,_=>rfl
 | _,_,.cons r t,h=>by
  rw[List.all_cons,Bool.and_eq_true]at h
  have:=QfP q h' t h.2
  unfold inV at this ⊢
  rw[List.any_cons,List.any_cons,this,QfO r q h.1 h']
theorem Post.hasK {n:Nat}{k:D}{R:Bool->Sto->List Addr->Hp->Prop} (h:Post K ρ H (MM.hasK n k st) R) (s:SR K ρ H st):∃ b kvs,st[n]?=some (.dct b kvs)/\kOk b k=true/\R (lkK kvs k).isSome st ρ H:=by
 obtain⟨b,kvs,e,p1⟩:=Post.getDc (Post.bnd h) s
 obtain⟨hk,p2⟩:=Post.chk p1
 exact⟨b,kvs,e,hk,p2.ret s⟩
theorem _root_.L2.OpR.orO {f:Value->Value->Sem Value}{r r':R2} (h:OpR X f r) (h':OpR X f r'):OpR X f (fun x y H Q=>r x y H Q\/r' x y H Q):=by
 intro pins s σ H x y v u Q I rx ry q
 rcases q with q | q
 ·exact h pins s σ H x y v u Q I rx ry q
 ·exact h' pins s σ H x y v u Q I rx ry q
theorem QfQ (hu:X.A.units + 60 < cLine):OpR X (compareOp .In) (fun x y H Q=>∃ (ρ:List Addr) (st:Sto) (n:Nat) (a:Addr) (b:Bool) (kvs:List (D × D)) (k:D),y=.ref a/\SR X.K ρ H st/\ρ[n]?=some a/\st[n]?=some (.dct b kvs)/\Rep X.K ρ H x k/\kOk b k=true/\Q (.bl (lkK kvs k).isSome) H):=by
 intro pins s σ H x y v u Q I rx ry pq132;obtain⟨ρ,st,n,a,b,kvs,k,e,sr,ha,hn,rk,hk,q⟩:=pq132
 subst e
 cases ry
 exact QdD (by ac_nf) I (sr.ob n a _ ha hn) rk hk rx fun s' I'=>⟨.bl _,H,I',rfl,q⟩
theorem QfR (hu:X.A.units + 60 < cLine):OpR X (compareOp .In) (rOf X.K inD):=(Qcm.orO (QfQ hu)).of fun x y H Q pq80=>by
 obtain⟨ρ,st,d,e,sr,r1,r2,p⟩:=pq80
 have fin:∀ {a:Addr}{vs:List V}{ds:List D} (hq:SqL X.K H a vs\/SqT X.K H a vs) (r:Reps X.K ρ H vs ds) (p1:Post X.K ρ H (inL d ds st) fun r _ ρ' H'=>∀ v,Rep X.K ρ' H' v r->Q v H'),rIn X.K false x (.ref a) H Q:=fun hq r p1=>by
  obtain⟨⟨h1,h2⟩,p2⟩:=Post.chk p1
  refine⟨_,_,rfl,hq,QfM r1 h1,QfN r h2,?_⟩
  rw[if_neg (by simp),QfP r1 h1 r h2]
  exact p2.ret sr _ (.bl _)
 cases r2 with
 | tup h r=>exact .inl (fin (.inr h) r ((Post.bnd p).ret sr))
 | lit h r=>exact .inl (fin (.inl h.seq) r ((Post.bnd p).ret sr))
 | ref _ h=>
  obtain⟨ds,e2,p1⟩:=Post.getL (Post.bnd p) sr
  obtain⟨a',vs,ha,hv,r⟩:=sr.seq e2
  rw[h]at ha;cases ha
  exact .inl (fin (.inl (SqL.of hv)) r p1)
 | @dic a n _ h=>
  obtain⟨b,kvs,e1,hk,q⟩:=Post.hasK (Post.bnd p) sr
  exact .inr ⟨ρ,st,n,a,b,kvs,d,rfl,sr,h,e1,r1,hk,(q.ret sr) _ (.bl _)⟩
 | _=>exact (show False from p).elim
theorem QfS:UnR X (unaryOp .USub) (uOf X.K negD):=by
 intro pins s σ H x v Q I rx pq133;obtain⟨ρ,st,d,sr,r1,p⟩:=pq133
 cases r1 with
 | int i=>exact Qbd pins s σ H _ v Q I rx ⟨i,rfl,p.ret sr _ (.int _)⟩
 | _=>exact p.elim
end
section
variable {X:Cx}{a b c e o tg:Expr}{es:List Expr}{pos apos cpos:Pos}{fa fb fc:CE}{ca cb:CA}{ta tb:CT}{K:PySem.W.Frag}{ρ:List Addr}{H:Hp}{st:Sto}{x:Str}{p:Pos}{T id:String}{body:List Stmt}{cs:CS}
theorem QfT {op:UnaryOp}{g:D->M D} (ho:UnR X (unaryOp op) (uOf X.K g)) (ha:SE X a fa):SE X (.UnaryOp op a pos) (c1 g fa):=
 (Qa7 ho ha).of fun σ H Q h_=>h_.el fun ρ l st lr sr p=>⟨ρ,l,st,lr,sr,p.bnd.imp fun d st1 ρ1 H1 x1 s1 p1 v rv=>⟨ρ1,st1,d,s1,rv,p1⟩⟩
theorem QfU:CallR X (.type "list") (fun xs H Q=>∃ v,xs=[v]/\uOf X.K listD v H Q):=Qcp.of fun xs H Q pq81=>by
 obtain⟨v,e,ρ,st,d,sr,rv,p⟩:=pq81
 have fin:∀ {ds:List D}{vs:List V}{l:Addr} (r:Reps X.K ρ H vs ds) (hl:H l=none) (p1:Post X.K ρ H (alloc (.lst ds) st) fun r _ ρ' H'=>∀ v,Rep X.K ρ' H' v r->Q v H'),Q (.ref l) (upd H l (.lst vs)):=fun {ds vs l} r hl p1=>by
  have nl:=sr.fresh hl
  have s2:SR X.K (ρ++[l]) (upd H l (.lst vs)) (st++[.lst ds]):=(sr.new hl).keep Qai nl (r.mono (Ex.new hl))
  refine p1 _ _ (Ex.newL hl) s2 _ (.ref ⟨_,Qai,rfl⟩ ?_)
  rw[<- sr.len];simp
 cases rv with
 | @tup a vs ds h r=>exact⟨a,vs,e,.inr h,fun l hl=>fin r hl ((Post.bnd p).ret sr)⟩
 | @lit a vs ds h r=>exact⟨a,vs,e,.inl h.seq,fun l hl=>fin r hl ((Post.bnd p).ret sr)⟩
 | @ref a n _ h=>
  obtain⟨ds,e2,p1⟩:=Post.getL (Post.bnd p) sr
  obtain⟨a',vs,ha,hv,r⟩:=sr.seq e2
  rw[h]at ha;cases ha
  exact⟨a,vs,e,.inl (SqL.of hv),fun l hl=>fin r hl p1⟩
 | _=>exact (Post.bnd p).elim
theorem QfV {p : Pos} (hg : Gl X "range") (hm : X.mg "range" = none) (h : SE X a fa) (h' : SE X b fb) (he1 : starEach [a, b] X.env = (false, eval a X.env) :: starEach [b] X.env := by rfl) (he2 : starEach [b] X.env = (false, eval b X.env) :: starEach [] X.env := by rfl)
  (hs:starEach [a,b] X.env=[(false,eval a X.env),(false,eval b X.env)]:=by rfl) (hs2:starEach [b] X.env=[(false,eval b X.env)]:=by rfl):SI X tg (.Call (.Name "range" p) [a,b] [] pos) (MM.iRng2 fa fb):=
 (Qa2 (tg:=tg) (p:=p) (pos:=pos) hg hm (QbE h (QbE h' QbD he2) he1) hs hs2).of fun σ H R h_=>h_.el fun ρ l st lr sr p=>⟨ρ,l,st,lr,sr,p.bnd.imp fun d st1 ρ1 H1 x1 s1 p1 v rv=>⟨ρ1,l,st1,lr.mono x1,s1,p1.bnd.imp fun e st2 ρ2 H2 x2 s2 p2 w rw'=>by
  have rv2:=rv.mono x2
  cases rv2 with
  | int i=>
   cases rw' with
   | int j=>
    obtain⟨⟨⟨h1,h2⟩,h3,h4⟩,p3⟩:=Post.chk p2
    exact⟨i,j,rfl,⟨h1,h2,h3,h4⟩,p3.ret s2 _ QeP⟩
   | _=>exact p2.elim
  | _=>cases rw'<;>exact p2.elim⟩⟩
end
section
variable {X:Cx}{K:PySem.W.Frag}{ρ:List Addr}{H:Hp}{st:Sto}
theorem Reps.pick:∀ {vs:List V}{ds:List D} (i:Nat),Reps K ρ H vs ds->Rep K ρ H (vs.getD i .non) (ds.getD i .non)
 | _,_,_,.nil=>by simp;exact .non
 | _,_,0,.cons r t=>by simpa using r
 | _,_,i + 1,.cons r t=>by simpa using Reps.pick i t
theorem Reps.picks {vs:List V}{ds:List D} (r:Reps K ρ H vs ds):∀ (p:List Nat),Reps K ρ H (p.map fun i=>vs.getD i .non) (p.map fun i=>ds.getD i .non)
 | []=>.nil
 | i::p=>.cons (Reps.pick i r) (Reps.picks r p)
end
section
variable {X:Cx}{pins:List (Addr × Obj)}{σ:St}{H:Hp}{s:Shared}{h':Heap}{ch:List Addr}
theorem QfW {t':Nat} (I:Inv X pins σ H s) (hf:∀ b∈ch,FpOk X pins H b) (keep:∀ b o,b∉ch->s.heap.get? b=some o->h'.get? b=some o):Inv X pins σ H { s with heap:=h',toks:=t' }:=by
 have ne:∀ b o,H b=some o->b∉ch:=fun b o e z=>by rw[(hf b z).1]at e;cases e
 have hL:X.env.locals∉ch:=fun z=>(hf _ z).2.1 rfl
 refine I.step (g':=s.gens) (d':=s.drawn) (ch:=ch) (fun b hb=>?_) (fun b o _ _ hc e _=>keep b o hc e) (fun b o _ _ hc e _=>⟨o.slots,keep b o hc e⟩) (fun b o _ _ e=>e) (fun b o hc e=>⟨o,keep b o hc e⟩)
  (fun b ys e=>e) (fun b o ys e=>e) (fun b ps e=>⟨#[],by rw[e];simp⟩) (fun m hm=>?_) ?_ I.bare
 ·obtain⟨f0,f1,f2,f3,f4,f5⟩:=hf b hb
  exact⟨f3,f1,f4,f5⟩
 ·obtain⟨o,es,ep,e,r⟩:=hm
  exact⟨o,es,ep,keep _ o hL e,r⟩
 ·intro a o e
  refine (I.hok a o e).stay (fun b u hb e1=>keep b u ?_ e1) (fun b e1=>e1) (fun b ys e1=>e1)
  rcases hb with y | y
  ·rw[y];exact ne a o e
  ·exact ne b _ y
theorem QfX {t' : Nat} {T : Addr} {vs : List V} {its : List Value} (I : Inv X pins σ H s) (hf : ∀ b ∈ ch, FpOk X pins H b) (keep : ∀ b o, b ∉ ch -> s.heap.get? b = some o -> h'.get? b = some o) (hT : s.heap.objs.size <= T)
  (hz:vs.length<=sizeLine) (hv:Vals vs its) (hp:IsTupD h' T its.toArray):Inv X pins σ (upd H T (.tup vs)) { s with heap:=h',toks:=t' }:=by
 have hTn:H T=none:=I.hok.fresh hT
 have ne:∀ b o,H b=some o->b∉ch:=fun b o e z=>by rw[(hf b z).1]at e;cases e
 have hL:X.env.locals∉ch:=fun z=>(hf _ z).2.1 rfl
 refine I.step (g':=s.gens) (d':=s.drawn) (ch:=ch) (fun b hb=>?_) (fun b o _ _ hc e _=>keep b o hc e) (fun b o _ _ hc e _=>⟨o.slots,keep b o hc e⟩) (fun b o _ e n=>by rw[Qaj (Nat.ne_of_lt (Nat.lt_of_lt_of_le (Heap.lt_size e) hT))];exact n) (fun b o hc e=>⟨o,keep b o hc e⟩)
  (fun b ys e=>by rw[Qaj (Qal e hTn)];exact e) (fun b o ys e=>by rw[Qaj (Qal e hTn)];exact e) (fun b ps e=>⟨#[],by rw[Qaj (Qal e hTn),e];simp⟩) (fun m hm=>?_) ?_ I.bare
 ·obtain⟨f0,f1,f2,f3,f4,f5⟩:=hf b hb
  exact⟨f3,f1,f4,f5⟩
 ·obtain⟨o,es,ep,e,r⟩:=hm
  exact⟨o,es,ep,keep _ o hL e,r⟩
 ·intro a o e
  by_cases z:a=T
  ·subst z
   rw[Qai]at e;cases e
   exact⟨hz,its,hv,hp⟩
  ·rw[Qaj z]at e
   refine (I.hok a o e).stay (fun b u hb e1=>keep b u ?_ e1) (fun b e1=>by rw[Qaj (Qal e1 hTn)];exact e1) (fun b ys e1=>by rw[Qaj (Qal e1 hTn)];exact e1)
   rcases hb with y | y
   ·rw[y];exact ne a o e
   ·exact ne b _ y
end
structure Src (prog:Program) (w:World) (A:Around) (it src:Addr) (val:Nat->Option Value) (P:Nat->Heap->Prop):Prop where
 there:∀ k h,P k h->∃ o,h.get? it=some o
 keep:∀ k h h',P k h->(∀ b,b=it\/b=src->∀ o,h.get? b=some o->h'.get? b=some o)->P k h'
 item:∀ k x (s:Shared) (Q:Value->Shared->Prop) (E:Value->Shared->Prop),P k s.heap->val k=some x->(∀ h',P (k + 1) h'->Heap.SameBut it s.heap h'->Q x { s with heap:=h' })->wpAny (model prog w) A (Builtin.SmallTypes.nextOf (.ref it)) Q E s
 done:∀ k (s:Shared) (Q:Value->Shared->Prop) (E:Value->Shared->Prop),P k s.heap->val k=none->(∀ h' e,Heap.ExtBut it s.heap h'->(∃ o,h'.get? e=some o/\o.cls=.type "StopIteration")->E (.ref e) { s with heap:=h' })->wpAny (model prog w) A (Builtin.SmallTypes.nextOf (.ref it)) Q E s
section
variable {prog:Program}{w:World}{A:Around}{E:Value->Shared->Prop}{s:Shared}{z tI tO i1 i2 l1 l2:Addr}{v1 v2:Nat->Option Value}{P1 P2:Nat->Heap->Prop}{k:Nat}{u v:Value}
theorem QfY {it src b:Addr}{val:Nat->Option Value}{P:Nat->Heap->Prop}{h h':Heap} (S:Src prog w A it src val P) (x:P k h) (e:Heap.ExtBut b h h') (h1:it≠b) (h2:src≠b):P k h':=
 S.keep k h h' x fun c hc o ho=>e c o (by rcases hc with q | q<;>rw[q]<;>assumption) ho
theorem QfZ {a it:Addr}{items:Array Value} (hh:A.handled=none) (hne:a≠it):Src prog w A it a (fun i=>items[i]?) (fun i h=>h.IsTupleIter it a i/\h.IsTuple a items) where
 there:=fun k h pq82=>by obtain⟨⟨o,e,_⟩,_⟩:=pq82;exact⟨o,e⟩
 keep:=fun k h h' pq83 kp=>by obtain⟨⟨o,e,r⟩,⟨o',e',r'⟩⟩:=pq83;exact⟨⟨o,kp it (.inl rfl) o e,r⟩,⟨o',kp a (.inr rfl) o' e',r'⟩⟩
 item:=fun k x s Q E pq84 hx hQ=>by obtain⟨p1,p2⟩:=pq84;exact QfH p1 p2 hx fun h' q hs=>hQ h' ⟨q,p2.extBut hs.extBut hne⟩ hs
 done:=fun k s Q E pq85 hx hE=>by obtain⟨p1,p2⟩:=pq85;exact QfI hh p1 p2 hx hE
theorem Qf0 {Q : Value -> Shared -> Prop} (D : ZipApart z tI tO i1 i2 l1 l2) (S1 : Src prog w A i1 l1 v1 P1) (S2 : Src prog w A i2 l2 v2 P2) (hz : IsZip s.heap z tI tO .none) (hi : IsPair s.heap tI (.ref i1) (.ref i2)) (ho : IsPair s.heap tO u v)
  (p1:P1 k s.heap) (p2:P2 k s.heap) {x y:Value} (hx:v1 k=some x) (hy:v2 k=some y)
  (hQ:∀ h',IsZip h' z tI tO (rawInt s.heap.objs.size)->IsPair h' tO x y->P1 (k + 1) h'->P2 (k + 1) h'->IsPair h' s.heap.objs.size x y ->
   (∀ c o,c≠z->c≠tO->c≠i1->c≠i2->s.heap.get? c=some o->h'.get? c=some o)->Q (.ref s.heap.objs.size) { s with heap:=h' }):
  wpAny (model prog w) A (Builtin.«zip.__next__» ⟨[.ref z],[]⟩) (fun f s'=>∃ r,f=.done (.ret r)/\Q r s') E s:=by
 show wpAny _ _ (field (.ref z) 2 >>= _) _ _ _;refine wpAny_bind (wpAny_field hz rfl (x:=.bool false) rfl ?_);show wpAny _ _ (field (.ref z) 3 >>= _) _ _ _
 refine wpAny_bind (wpAny_field hz rfl (x:=.ref tI) rfl (wpAny_bind (wpAny_seqItems hi rfl ?_)));show wpAny _ _ (Builtin.SmallTypes.ownedTupleIsFree (.ref z) >>= _) _ _ _;refine wpAny_bind ?_
 unfold Builtin.SmallTypes.ownedTupleIsFree;refine wpAny_bind (wpAny_field hz rfl (x:=.none) rfl (wpAny_pure ?_));simp only[if_true]
 refine wpAny_bind (wpAny_rule (wpAny_bind (wpAny_field hz rfl (x:=.ref tO) rfl (wpAny_bind (wpAny_setField_rec hz (by simp) fun ha za sa=>?_)))))
 have za':IsZip ha z tI tO .ellipsis:=za
 refine wpAny_bind ?_;simp only[List.zipIdx_cons,List.zipIdx_nil,List.forIn_cons,List.forIn_nil];refine wpAny_bind (wpAny_bind (wpAny_onRaise ?_));show wpAny _ _ (Builtin.SmallTypes.nextOf (.ref i1) >>= _) _ _ _
 refine wpAny_bind (S1.item k x _ _ _ (QfY S1 p1 sa.extBut D.i1z D.l1z) hx fun hb q1 sb=>wpAny_pure ?_)
 have ob:IsPair hb tO u v:=sb.extBut _ _ D.TOi1 (sa.extBut _ _ D.TOz ho)
 refine wpAny_bind (wpAny_seqItems ob rfl (wpAny_bind (wpAny_updateSeq_pair ob fun hc oc sc=>?_)))
 have oc':IsPair hc tO x v:=oc
 refine wpAny_bind (wpAny_letGo (wpAny_pure ?_));refine wpAny_bind (wpAny_bind (wpAny_onRaise ?_));show wpAny _ _ (Builtin.SmallTypes.nextOf (.ref i2) >>= _) _ _ _
 have p2c:P2 k hc:=QfY S2 (QfY S2 (QfY S2 p2 sa.extBut D.i2z D.l2z) sb.extBut D.i12.symm D.l2i1) sc.extBut D.TOi2.symm D.l2TO
 refine wpAny_bind (S2.item k y _ _ _ p2c hy fun hd q2 sd=>wpAny_pure ?_)
 have od:IsPair hd tO x v:=sd.extBut _ _ D.TOi2 oc'
 refine wpAny_bind (wpAny_seqItems od rfl (wpAny_bind (wpAny_updateSeq_pair od fun he oe se=>?_)))
 have oe':IsPair he tO x y:=oe
 refine wpAny_bind (wpAny_letGo (wpAny_pure (wpAny_pure ?_)));refine wpAny_bind (wpAny_seqItems oe' rfl (wpAny_bind (wpAny_newTuple ?_)))
 have size:he.objs.size=s.heap.objs.size:=by rw[se.1,sd.1,sc.1,sb.1,sa.1]
 have ze:IsZip he z tI tO .ellipsis:=se.extBut _ _ D.TOz.symm (sd.extBut _ _ D.i2z.symm (sc.extBut _ _ D.TOz.symm (sb.extBut _ _ D.i1z.symm za')))
 have all:∀ c o,c≠z->c≠tO->c≠i1->c≠i2->s.heap.get? c=some o->he.get? c=some o:=fun c o n1 n2 n3 n4 e=>se.extBut _ _ n2 (sd.extBut _ _ n4 (sc.extBut _ _ n2 (sb.extBut _ _ n3 (sa.extBut _ _ n1 e))))
 have q1e:P1 (k + 1) he:=QfY S1 (QfY S1 (QfY S1 q1 sc.extBut D.TOi1.symm D.l1TO) sd.extBut D.i12 D.l1i2) se.extBut D.TOi1.symm D.l1TO
 have q2e:P2 (k + 1) he:=QfY S2 q2 se.extBut D.TOi2.symm D.l2TO
 have zlt:z < he.objs.size:=Heap.lt_size ze
 show wpAny _ _ (Builtin.SmallTypes.ownedTupleHandOut (.ref z) (.ref he.objs.size) >>= _) _ _ _;refine wpAny_bind ?_;unfold Builtin.SmallTypes.ownedTupleHandOut
 have zf:IsZip (he.push { cls:=.type "tuple",data:=.seq #[x,y] }) z tI tO .ellipsis:=Heap.get?_push_of_some _ ze
 refine wpAny_bind (wpAny_setField_rec zf (by simp) fun hg zg sg=>?_)
 have zg':IsZip hg z tI tO (rawInt he.objs.size):=zg
 refine wpAny_setField_rec zg' (by simp) fun hh zh sh=>?_
 have zh':IsZip hh z tI tO (rawInt he.objs.size):=zh
 have up:∀ c o,c≠z->he.get? c=some o->hh.get? c=some o:=fun c o n1 e=>sh.extBut _ _ n1 (sg.extBut _ _ n1 (Heap.get?_push_of_some _ e))
 have new:IsPair hh he.objs.size x y:=sh.extBut _ _ (Nat.ne_of_gt zlt) (sg.extBut _ _ (Nat.ne_of_gt zlt) (Heap.get?_push_size _ rfl))
 rw[size]at zh' new
 refine wpAny_pure ⟨_,rfl,?_⟩;show Q (.ref he.objs.size) _;rw[size]
 exact hQ hh zh' (up _ _ D.TOz oe') (S1.keep _ _ _ q1e fun c hc o e=>up c o (hc.elim (fun q=>by rw[q];exact D.i1z) (fun q=>by rw[q];exact D.l1z)) e) (S2.keep _ _ _ q2e fun c hc o e=>up c o (hc.elim (fun q=>by rw[q];exact D.i2z) (fun q=>by rw[q];exact D.l2z)) e) new fun c o n1 n2 n3 n4 e=>up c o n1 (all c o n1 n2 n3 n4 e)
theorem Qf1 {Q : PySem.Fin -> Shared -> Prop} (D : ZipApart z tI tO i1 i2 l1 l2) (S1 : Src prog w A i1 l1 v1 P1) (S2 : Src prog w A i2 l2 v2 P2) (hz : IsZip s.heap z tI tO .none) (hi : IsPair s.heap tI (.ref i1) (.ref i2)) (ho : IsPair s.heap tO u v)
  (p1:P1 k s.heap) (p2:P2 k s.heap) (hend:v1 k=none\/v2 k=none)
  (hE:∀ h' e,(∀ c o,c≠z->c≠tO->c≠i1->c≠i2->s.heap.get? c=some o->h'.get? c=some o)->(∃ o,h'.get? e=some o/\o.cls=.type "StopIteration")->E (.ref e) { s with heap:=h' }):
  wpAny (model prog w) A (Builtin.«zip.__next__» ⟨[.ref z],[]⟩) Q E s:=by
 show wpAny _ _ (field (.ref z) 2 >>= _) _ _ _;refine wpAny_bind (wpAny_field hz rfl (x:=.bool false) rfl ?_);show wpAny _ _ (field (.ref z) 3 >>= _) _ _ _
 refine wpAny_bind (wpAny_field hz rfl (x:=.ref tI) rfl (wpAny_bind (wpAny_seqItems hi rfl ?_)));show wpAny _ _ (Builtin.SmallTypes.ownedTupleIsFree (.ref z) >>= _) _ _ _;refine wpAny_bind ?_
 unfold Builtin.SmallTypes.ownedTupleIsFree;refine wpAny_bind (wpAny_field hz rfl (x:=.none) rfl (wpAny_pure ?_));simp only[if_true]
 refine wpAny_bind (wpAny_rule (wpAny_bind (wpAny_field hz rfl (x:=.ref tO) rfl (wpAny_bind (wpAny_setField_rec hz (by simp) fun ha za sa=>?_)))))
 have za':IsZip ha z tI tO .ellipsis:=za
 refine wpAny_bind ?_;simp only[List.zipIdx_cons,List.zipIdx_nil,List.forIn_cons,List.forIn_nil];refine wpAny_bind (wpAny_bind (wpAny_onRaise ?_));show wpAny _ _ (Builtin.SmallTypes.nextOf (.ref i1) >>= _) _ _ _
 have p1a:P1 k ha:=QfY S1 p1 sa.extBut D.i1z D.l1z
 cases hx:v1 k with
 | none=>
  refine wpAny_bind (S1.done k _ _ _ p1a hx fun hb e sb pq86=>?_)
  obtain⟨oe,e1,e2⟩:=pq86
  have zb:IsZip hb z tI tO .ellipsis:=sb _ _ D.i1z.symm za'
  have ne:e≠z:=fun q=>by rw[q,zb]at e1;cases e1;simp at e2
  exact wpAny_setField_rec zb (by simp) fun hc _ sc=>hE hc e (fun c o n1 _ n3 _ q=>sc.extBut _ _ n1 (sb _ _ n3 (sa.extBut _ _ n1 q))) ⟨oe,sc.extBut _ _ ne e1,e2⟩
 | some x=>
  have hy:v2 k=none:=hend.resolve_left (by rw[hx];simp)
  refine wpAny_bind (S1.item k x _ _ _ p1a hx fun hb q1 sb=>wpAny_pure ?_)
  have ob:IsPair hb tO u v:=sb.extBut _ _ D.TOi1 (sa.extBut _ _ D.TOz ho)
  refine wpAny_bind (wpAny_seqItems ob rfl (wpAny_bind (wpAny_updateSeq_pair ob fun hc oc sc=>?_)))
  refine wpAny_bind (wpAny_letGo (wpAny_pure ?_));refine wpAny_bind (wpAny_bind (wpAny_onRaise ?_));show wpAny _ _ (Builtin.SmallTypes.nextOf (.ref i2) >>= _) _ _ _
  have p2c:P2 k hc:=QfY S2 (QfY S2 (QfY S2 p2 sa.extBut D.i2z D.l2z) sb.extBut D.i12.symm D.l2i1) sc.extBut D.TOi2.symm D.l2TO
  refine wpAny_bind (S2.done k _ _ _ p2c hy fun hd e sd pq87=>?_)
  obtain⟨oe,e1,e2⟩:=pq87
  have zd:IsZip hd z tI tO .ellipsis:=sd _ _ D.i2z.symm (sc.extBut _ _ D.TOz.symm (sb.extBut _ _ D.i1z.symm za'))
  have ne:e≠z:=fun q=>by rw[q,zd]at e1;cases e1;simp at e2
  exact wpAny_setField_rec zd (by simp) fun he _ se=>hE he e (fun c o n1 n2 n3 n4 q=>se.extBut _ _ n1 (sd _ _ n4 (sc.extBut _ _ n2 (sb.extBut _ _ n3 (sa.extBut _ _ n1 q))))) ⟨oe,se.extBut _ _ ne e1,e2⟩
end
abbrev itObj (a:Addr):Obj:={ cls:=.type "tuple_iterator",data:=.fields #[.ref a,.int 0 0] }
abbrev zz1 (h:Heap) (a:Addr):Heap:=h.push (itObj a)
abbrev zz2 (h:Heap) (a b:Addr):Heap:=(zz1 h a).push (itObj b)
abbrev zz3 (h:Heap) (a b:Addr):Heap:=(zz2 h a b).push { cls:=.type "tuple",data:=.seq #[.ref h.objs.size,.ref (zz1 h a).objs.size] }
abbrev zz4 (h:Heap) (a b:Addr):Heap:=(zz3 h a b).push { cls:=.type "tuple",data:=.seq #[.none,.none] }
abbrev zz5 (h:Heap) (a b:Addr):Heap:=(zz4 h a b).push { cls:=.type "zip",data:=.fields #[.none,.bool false,.bool false,.ref (zz2 h a b).objs.size,.ref (zz3 h a b).objs.size] }
theorem Qf2 (a b : Addr) (xs ys : Array Value) :
  Meets (Builtin.«zip.__new__» ⟨[.type "zip",.ref a,.ref b],[]⟩) (fun _ R s=>s.heap.IsTuple a xs/\s.heap.IsTuple b ys/\R (.ok (.ret (.ref (zz4 s.heap a b).objs.size))) { s with heap:=zz5 s.heap a b }):=
 .of_wp fun prog w A R s h=>by
  obtain⟨hp,g,d,tk,os⟩:=s;obtain⟨ha,hb,h⟩:=h;have hsub:=sub_zip
  have t1:Heap.IsTuple (Shared.heap ⟨hp,g,d,tk,os⟩) a xs:=ha
  have t2:Heap.IsTuple (Shared.heap ⟨hp.push (itObj a),g,d,tk,os⟩) b ys:=let ⟨o,e,r⟩:=hb;⟨o,Heap.get?_push_of_some _ e,r⟩
  wp_walk using wpAny_pyIter_tuple t1,wpAny_pyIter_tuple t2
  exact⟨_,rfl,h⟩
section
variable {prog:Program}{w:World}{A:Around}{E:Value->Shared->Prop}{s:Shared}
theorem Qf3 {a b : Addr} {xs ys : Array Value} {Q : Value -> Shared -> Prop} (ha : s.heap.IsTuple a xs) (hb : s.heap.IsTuple b ys)
  (h:∀ h',IsZip h' (s.heap.objs.size + 4) (s.heap.objs.size + 2) (s.heap.objs.size + 3) .none->IsPair h' (s.heap.objs.size + 2) (.ref s.heap.objs.size) (.ref (s.heap.objs.size + 1))->IsPair h' (s.heap.objs.size + 3) .none .none ->
   h'.IsTupleIter s.heap.objs.size a 0->h'.IsTupleIter (s.heap.objs.size + 1) b 0->(∀ c o,s.heap.get? c=some o->h'.get? c=some o)->Q (.ref (s.heap.objs.size + 4)) { s with heap:=h' }):
  wpAny (model prog w) A (call (.type "zip") [.ref a,.ref b]) Q E s:=by
 refine callType_new F.called_zip (by decide) (F.typeCall_zip_2 _ _) (F.newCall_zip_2 _ _) (fun obj=>F.args_object_init_3 obj _ _) F.entry_zip_new (Qf2 a b xs ys) ⟨ha,hb,?_⟩
 have n1:(zz1 s.heap a).objs.size=s.heap.objs.size + 1:=Heap.size_push ..
 have n2:(zz2 s.heap a b).objs.size=s.heap.objs.size + 2:=by rw[Heap.size_push,n1]
 have n3:(zz3 s.heap a b).objs.size=s.heap.objs.size + 3:=by rw[Heap.size_push,n2]
 have n4:(zz4 s.heap a b).objs.size=s.heap.objs.size + 4:=by rw[Heap.size_push,n3]
 have up4:∀ c o,(zz4 s.heap a b).get? c=some o->(zz5 s.heap a b).get? c=some o:=fun c o e=>Heap.get?_push_of_some _ e
 have up3:∀ c o,(zz3 s.heap a b).get? c=some o->(zz5 s.heap a b).get? c=some o:=fun c o e=>up4 c o (Heap.get?_push_of_some _ e)
 have up2:∀ c o,(zz2 s.heap a b).get? c=some o->(zz5 s.heap a b).get? c=some o:=fun c o e=>up3 c o (Heap.get?_push_of_some _ e)
 have up1:∀ c o,(zz1 s.heap a).get? c=some o->(zz5 s.heap a b).get? c=some o:=fun c o e=>up2 c o (Heap.get?_push_of_some _ e)
 have z5:IsZip (zz5 s.heap a b) (zz4 s.heap a b).objs.size (zz2 s.heap a b).objs.size (zz3 s.heap a b).objs.size .none:=Heap.get?_push_size _ rfl
 have z4:IsPair (zz5 s.heap a b) (zz3 s.heap a b).objs.size .none .none:=up4 _ _ (Heap.get?_push_size _ rfl)
 have z3:IsPair (zz5 s.heap a b) (zz2 s.heap a b).objs.size (.ref s.heap.objs.size) (.ref (zz1 s.heap a).objs.size):=up3 _ _ (Heap.get?_push_size _ rfl)
 have z2:(zz5 s.heap a b).get? (zz1 s.heap a).objs.size=some (itObj b):=up2 _ _ (Heap.get?_push_size _ rfl)
 have z1:(zz5 s.heap a b).get? s.heap.objs.size=some (itObj a):=up1 _ _ (Heap.get?_push_size _ rfl)
 show _/\_
 rw[n2,n3,n4]at z5
 rw[n3]at z4
 rw[n1,n2]at z3
 rw[n1]at z2
 rw[n4]
 exact⟨⟨_,z5,rfl⟩,h _ z5 z3 z4 ⟨_,z1,rfl,rfl⟩ ⟨_,z2,rfl,rfl⟩ fun c o e=>up1 c o (Heap.get?_push_of_some _ e)⟩
end
def Itzt (K:PySem.W.Frag) (a b:Addr):It:=
 ⟨fun i H=>∃ xs ys x y,SqT K H a xs/\SqT K H b ys/\xs[i]?=some x/\ys[i]?=some y,
  fun i H r H'=>∃ T x y,r=.ref T/\H T=none/\(∀ xs,SqT K H a xs->xs[i]?=some x)/\(∀ ys,SqT K H b ys->ys[i]?=some y)/\H'=upd H T (.tup [x,y]),
  fun i H=>∃ xs ys,SqT K H a xs/\SqT K H b ys/\(xs.length<=i\/ys.length<=i)⟩
section
variable {X:Cx}{tg:Expr}{es:List Expr}{pos:Pos}{fa fb:CE}{K:PySem.W.Frag}{ρ:List Addr}{H:Hp}{st:Sto}
def ztSt (z tI tO i1 i2 a b:Addr) (i:Nat) (h:Heap):Prop:=IsZip h z tI tO .none/\IsPair h tI (.ref i1) (.ref i2)/\(∃ u v,IsPair h tO u v)/\h.IsTupleIter i1 a i/\h.IsTupleIter i2 b i
theorem atI {h h':Heap}{it l:Addr}{k:Nat} (x:h.IsTupleIter it l k) (e:∀ o,h.get? it=some o->h'.get? it=some o):h'.IsTupleIter it l k:=let ⟨o,e1,r⟩:=x;⟨o,e o e1,r⟩
theorem Qf4 {P:Program}{w:World}{k:Nat}{z tI tO i1 i2 a b:Addr} (D:ZipApart z tI tO i1 i2 a b):Turn P w K (.Tuple es k pos) (Itzt K a b) [z,tI,tO,i1,i2] z (ztSt z tI tO i1 i2 a b) where
 mem:=by simp
 obj:=fun i h pq88 c hc=>by
  obtain⟨h1,h2,⟨u,v,h3⟩,⟨o4,h4,c4,d4⟩,⟨o5,h5,c5,d5⟩⟩:=pq88
  simp only[List.mem_cons,List.not_mem_nil,or_false]at hc
  rcases hc with e | e | e | e | e<;>subst e
  ·exact⟨_,h1,fun v q=>by cases q⟩
  ·exact⟨_,h2,fun v q=>by cases q⟩
  ·exact⟨_,h3,fun v q=>by cases q⟩
  ·exact⟨_,h4,fun v q=>by rw[d4]at q;cases q⟩
  ·exact⟨_,h5,fun v q=>by rw[d5]at q;cases q⟩
 keep:=fun i h h' pq89 kp=>by obtain⟨h1,h2,⟨u,v,h3⟩,h4,h5⟩:=pq89;exact⟨kp z (by simp) _ h1,kp tI (by simp) _ h2,⟨u,v,kp tO (by simp) _ h3⟩,atI h4 fun o e=>kp i1 (by simp) o e,atI h5 fun o e=>kp i2 (by simp) o e⟩
 item:=by
  intro X hP hw hK hc i pins s σ H E I hf pq134 hg;obtain⟨h1,h2,⟨u,v,h3⟩,h4,h5⟩:=pq134
  subst hP hw hK
  obtain⟨xs,ys,x,y,qa,qb,hx,hy⟩:=hg
  obtain⟨its,rv,p,hz⟩:=I.tuple qa
  obtain⟨its2,rv2,p2,hz2⟩:=I.tuple qb
  obtain⟨ux,hux,rux⟩:=rv.get hx
  obtain⟨uy,huy,ruy⟩:=rv2.get hy
  have hT:s.TypeIs (.ref z) "zip":=⟨_,h1,rfl⟩
  have S1:=QfZ (prog:=X.prog) (w:=X.w) (A:=X.A.in1) (items:=its.toArray) (I.ok.hd hc) D.l1i1
  have S2:=QfZ (prog:=X.prog) (w:=X.w) (A:=X.A.in1) (items:=its2.toArray) (I.ok.hd hc) D.l2i2
  unfold pyNext
  refine wpAny_bind (wpAny_attempt (wpAny_callSpecial?_slot (name:=Str.ofString "__next__") hT F.slot_zip_next (wpAny_call_entry F.slot_zip_next hT F.entry_zip_next (Qf0 D S1 S2 h1 h2 h3 ⟨h4,p⟩ ⟨h5,p2⟩ (x:=ux) (y:=uy) (by simpa using hux) (by simpa using huy) fun h' g1 g2 g3 g4 g5 g7=>wpAny_pure ?_) (F.args_zip_next_1 _))))
  refine⟨_,rfl,wpAny_letOwnedTupleGo_zip g1 fun h'' k1 k2=>?_⟩
  have zlt:z < s.heap.objs.size:=Heap.lt_size h1
  have keep:∀ c o,c∉[z,tI,tO,i1,i2]->s.heap.get? c=some o->h''.get? c=some o:=fun c o hc e=>by
   simp only[List.mem_cons,List.not_mem_nil,or_false,not_or]at hc
   exact (k2.2 c hc.1).trans (g7 c o hc.1 hc.2.2.1 hc.2.2.2.1 hc.2.2.2.2 e)
  have hT:IsPair h'' s.heap.objs.size ux uy:=(k2.2 _ (Nat.ne_of_gt zlt)).trans g5
  have I2:Inv X pins σ (upd H s.heap.objs.size (.tup [x,y])) { s with heap:=h'',toks:=s.toks }:=
   QfX (its:=[ux,uy]) I hf keep (Nat.le_refl _) (by show 2<=sizeLine;decide) (.cons rux (.cons ruy .nil)) ⟨_,hT,rfl,⟨_,rfl⟩,rfl⟩
  have hTn:H s.heap.objs.size=none:=I.hok.fresh (Nat.le_refl _)
  refine⟨.ref s.heap.objs.size,_,I2,rfl,⟨_,x,y,rfl,hTn,fun zs hzs=>by rw[I.tuple_inj hzs qa];exact hx,fun zs hzs=>by rw[I.tuple_inj hzs qb];exact hy,rfl⟩,
   ⟨k1,(k2.2 tI D.TIz).trans (g7 tI _ D.TIz D.TITO D.TIi1 D.TIi2 h2),⟨_,_,(k2.2 tO D.TOz).trans g2⟩,atI g3.1 fun o e=>(k2.2 i1 D.i1z).trans e,atI g4.1 fun o e=>(k2.2 i2 D.i2z).trans e⟩,fun c hc=>?_⟩
  rw[Qaj]
  ·exact (hf c hc).1
  ·intro e
   have:∃ o,s.heap.get? c=some o:=by
    simp only[List.mem_cons,List.not_mem_nil,or_false]at hc
    rcases hc with q | q | q | q | q<;>subst q
    ·exact⟨_,h1⟩
    ·exact⟨_,h2⟩
    ·exact⟨_,h3⟩
    ·obtain⟨o,e,_⟩:=h4;exact⟨o,e⟩
    ·obtain⟨o,e,_⟩:=h5;exact⟨o,e⟩
   obtain⟨o,eo⟩:=this
   have:=Heap.lt_size eo
   rw[e]at this
   exact absurd this (Nat.lt_irrefl _)
 done:=by
  intro X hP hw hK hc i pins s σ H E I hf pq135 hg;obtain⟨h1,h2,⟨u,v,h3⟩,h4,h5⟩:=pq135
  subst hP hw hK
  obtain⟨xs,ys,qa,qb,hl⟩:=hg
  obtain⟨its,rv,p,hz⟩:=I.tuple qa
  obtain⟨its2,rv2,p2,hz2⟩:=I.tuple qb
  have l1:=rv.length
  have l2:=rv2.length
  have hT:s.TypeIs (.ref z) "zip":=⟨_,h1,rfl⟩
  have S1:=QfZ (prog:=X.prog) (w:=X.w) (A:=X.A.in1) (items:=its.toArray) (I.ok.hd hc) D.l1i1
  have S2:=QfZ (prog:=X.prog) (w:=X.w) (A:=X.A.in1) (items:=its2.toArray) (I.ok.hd hc) D.l2i2
  unfold pyNext
  refine wpAny_bind (wpAny_attempt (wpAny_callSpecial?_slot (name:=Str.ofString "__next__") hT F.slot_zip_next (wpAny_call_entry F.slot_zip_next hT F.entry_zip_next (Qf1 D S1 S2 h1 h2 h3 ⟨h4,p⟩ ⟨h5,p2⟩ ?_ fun h' e g ⟨o,q1,q2⟩=>?_) (F.args_zip_next_1 _))))
  ·rcases hl with hl | hl
   ·exact .inl (by simp;ac_nf)
   ·exact .inr (by simp;ac_nf)
  ·refine wpAny_bind (wpAny_isInstance (T:="StopIteration") (b:=true) ⟨o,q1,q2⟩ isSubtype_stop (wpAny_pure ⟨rfl,QfW (t':=s.toks) I hf fun c o hc e=>?_⟩))
   simp only[List.mem_cons,List.not_mem_nil,or_false,not_or]at hc
   exact g c o hc.1 hc.2.2.1 hc.2.2.2.1 hc.2.2.2.2 e
 self:=fun _ _ _ _ _ pq91 h=>by obtain⟨h1,_⟩:=pq91;exact wpAny_pyIter_zip h1 h
theorem Qf5 {a b : Expr} {ta : TA} {p tpos : Pos} {k : Nat} (hg : Gl X "zip") (hm : X.mg "zip" = none) (ha : PA X [a, b] ta) (hs : starEach [a, b] X.env = [(false, eval a X.env), (false, eval b X.env)]) (hs2 : starEach [b] X.env = [(false, eval b X.env)]) :
  PI X (.Tuple es k tpos) (.Call (.Name "zip" p) [a,b] [] pos) (fun σ H R=>ta σ H fun vs H1=>∃ l1 l2 xs ys,vs=[.ref l1,.ref l2]/\SqT X.K H1 l1 xs/\SqT X.K H1 l2 ys/\R (Itzt X.K l1 l2) H1):=by
 intro pins s σ H R I h
 refine Call_ (Qay I hg hm boot_zip (PyProof.Rows.callWith_type1 (thn (ha pos pins s σ H _ I h) fun us s1 ⟨vs,H1,I1,r1,q1⟩=>?_) (by rw[hs,hs2]) (by rw[hs2];rfl)))
 obtain⟨l1,l2,xs,ys,e,hx,hy,q⟩:=q1
 subst e
 cases r1 with
 | cons r rr=>
  cases rr with
  | cons r' rr=>
   cases rr
   cases r
   cases r'
   obtain⟨its,rv,p1,hz⟩:=I1.tuple hx
   obtain⟨its2,rv2,p2,hz2⟩:=I1.tuple hy
   have lt1:l1 < s1.heap.objs.size:=by obtain⟨o,e,_⟩:=id p1;exact Heap.lt_size e
   have lt2:l2 < s1.heap.objs.size:=by obtain⟨o,e,_⟩:=id p2;exact Heap.lt_size e
   refine Qf3 p1 p2 fun h' g1 g2 g3 g4 g5 g7=>wpAny_pyIter_zip g1 ?_
   have I2:Inv X pins σ H1 { s1 with heap:=h' }:=I1.kept (t':=s1.toks) g7
   refine⟨s1.heap.objs.size + 4,[s1.heap.objs.size + 4,s1.heap.objs.size + 2,s1.heap.objs.size + 3,s1.heap.objs.size,s1.heap.objs.size + 1],_,Itzt X.K l1 l2,H1,rfl,I2,Qf4 (zipApart_new lt1 lt2),⟨g1,g2,⟨_,_,g3⟩,g4,g5⟩,fun b hb=>?_,q⟩
   have hle:s1.heap.objs.size<=b:=by
    simp only[List.mem_cons,List.not_mem_nil,or_false]at hb
    rcases hb with e | e | e | e | e<;>rw[e]<;>ac_nf
   exact I1.fpOk hle (I1.hok.fresh hle)
def iZipT (a b:CE):CI:=fun l=>bnd (a l) fun x=>bnd (b l) fun y=>match x,y with
 | .tup ds,.tup es=>ret ⟨ds.zipWith (fun p q=>.tup [p,q]) es,anySt⟩
 | _,_=>bad
theorem Qf6 {a b : Expr} {p tpos : Pos} {k : Nat} (hg : Gl X "zip") (hm : X.mg "zip" = none) (h : SE X a fa) (h' : SE X b fb) (he1 : starEach [a, b] X.env = (false, eval a X.env) :: starEach [b] X.env := by rfl) (he2 : starEach [b] X.env = (false, eval b X.env) :: starEach [] X.env := by rfl)
  (hs:starEach [a,b] X.env=[(false,eval a X.env),(false,eval b X.env)]:=by rfl) (hs2:starEach [b] X.env=[(false,eval b X.env)]:=by rfl):SI X (.Tuple es k tpos) (.Call (.Name "zip" p) [a,b] [] pos) (iZipT fa fb):=
 (Qf5 hg hm (QbE h (QbE h' QbD he2) he1) hs hs2).of fun σ H R h_=>h_.el fun ρ l st lr sr p=>⟨ρ,l,st,lr,sr,p.bnd.imp fun d st1 ρ1 H1 x1 s1 p1 v rv=>⟨ρ1,l,st1,lr.mono x1,s1,p1.bnd.imp fun e st2 ρ2 H2 x2 s2 p2 w rw'=>by
  have rv2:=rv.mono x2
  cases rv2 with
  | @tup a1 vs ds ha r=>
   cases rw' with
   | @tup a2 ws es' hb r'=>
    refine⟨a1,a2,vs,ws,rfl,ha,hb,p2.ret s2 _ ?_⟩
    intro ρ3 H3 st3 x3 s3 _
    have ha3:SqT X.K H3 a1 vs:=SqT.mono x3.up ha
    have hb3:SqT X.K H3 a2 ws:=SqT.mono x3.up hb
    have r3:=r.mono x3
    have r3':=r'.mono x3
    have l1:=r3.length
    have l2:=r3'.length
    refine⟨⟨vs,ws,ha3,hb3,?_⟩,fun i d hd=>?_⟩
    ·show vs.length<=(ds.zipWith _ es').length\/ws.length<=(ds.zipWith _ es').length
     rw[List.length_zipWith];ac_nf
    ·rw[List.getElem?_zipWith]at hd
     cases f1:ds[i]? with
     | none=>rw[f1]at hd;cases hd
     | some d1=>
      cases f2:es'[i]? with
      | none=>rw[f1,f2]at hd;cases hd
      | some d2=>
       rw[f1,f2]at hd
       have ed:d=.tup [d1,d2]:=(Option.some.inj hd).symm
       subst ed
       obtain⟨v1,k1,rv1⟩:=r3.get f1
       obtain⟨v2,k2,rv2⟩:=r3'.get f2
       refine⟨⟨vs,ws,v1,v2,ha3,hb3,k1,k2⟩,fun y H4 pq93=>?_⟩
       obtain⟨T,x,y',ey,hn,hx,hy,eH⟩:=pq93
       subst ey eH
       have z1:=hx vs ha3
       have z2:=hy ws hb3
       rw[k1]at z1;cases z1
       rw[k2]at z2;cases z2
       have x4:Ex ρ3 H3 ρ3 (upd H3 T (.tup [v1,v2])):=Ex.new hn
       exact⟨x4,s3.new hn,.tup (SqT.of Qai) (.cons (rv1.mono x4) (.cons (rv2.mono x4) .nil))⟩
   | _=>exact p2.elim
  | _=>cases rw'<;>exact p2.elim⟩⟩
end
end MM
namespace MM
def cExtend (a b:CE):CE:=fun l=>bnd (a l) fun x=>match x with
 | .ref n=>bnd (b l) fun y=>match y with
  | .ref m=>bnd (getL n) fun xs=>bnd (getL m) fun ys=>chk (xs.length + ys.length<=lim) (bnd (putL n (xs++ys)) fun _=>ret .non)
  | _=>bad
 | _=>bad
open PySem PySem.Spec PyProof.Rows L2
mutual
theorem Qf7:∀ {a b c:D},eqK a b=true->eqK b c=true->eqK a c=true
 | .int i,b,c,h1,h2=>by
  obtain⟨j,rfl⟩:∃ j,b=.int j:=by cases b<;>simp[eqK]at h1 ⊢
  obtain⟨k,rfl⟩:∃ j,c=.int j:=by cases c<;>simp[eqK]at h2 ⊢
  simp[eqK]at h1 h2 ⊢;ac_nf
 | .str i,b,c,h1,h2=>by
  obtain⟨j,rfl⟩:∃ j,b=.str j:=by cases b<;>simp[eqK]at h1 ⊢
  obtain⟨k,rfl⟩:∃ j,c=.str j:=by cases c<;>simp[eqK]at h2 ⊢
  simp[eqK]at h1 h2 ⊢;rw[h1,h2]
 | .tup xs,b,c,h1,h2=>by
  obtain⟨ys,rfl⟩:∃ j,b=.tup j:=by cases b<;>simp[eqK]at h1 ⊢
  obtain⟨zs,rfl⟩:∃ j,c=.tup j:=by cases c<;>simp[eqK]at h2 ⊢
  rw[eqK]at h1 h2 ⊢
  exact eqKs_trans h1 h2
 | .non,_,_,h1,_=>by simp[eqK]at h1
 | .bl _,_,_,h1,_=>by simp[eqK]at h1
 | .lit _,_,_,h1,_=>by simp[eqK]at h1
 | .ref _,_,_,h1,_=>by simp[eqK]at h1
 | .dic _,_,_,h1,_=>by simp[eqK]at h1
theorem eqKs_trans:∀ {a b c:List D},eqKs a b=true->eqKs b c=true->eqKs a c=true
 | [],b,c,h1,h2=>by
  cases b with
  | nil=>exact h2
  | cons _ _=>simp[eqKs]at h1
 | x::xs,b,c,h1,h2=>by
  cases b with
  | nil=>simp[eqKs]at h1
  | cons y ys=>
   cases c with
   | nil=>simp[eqKs]at h2
   | cons z zs=>
    rw[eqKs,Bool.and_eq_true]at h1 h2 ⊢
    exact⟨Qf7 h1.1 h2.1,eqKs_trans h1.2 h2.2⟩
end
section
variable {X:Cx}{pins:List (Addr × Obj)}{σ:St}{H:Hp}{s:Shared}{ρ:List Addr}
theorem Qf8 {o e : Expr} {fa fb : CE} {apos cpos : Pos} (ho : SE X o fa) (ha : SE X e fb) (hbase : attributeBase o "extend" X.env (eval o X.env) = eval o X.env := by rfl)
  (hfew:((backTo cpos (starEach [e] X.env)).all (fun x => !x.1) && (backToKw cpos (keywordEach [] X.env)).all (fun x=>x.1.isSome)
   && decide ([e].length + ([]:List Keyword).length + (if ([]:List Keyword).isEmpty then 0 else 1) < 30))=true:=by rfl)
  (hline:(apos.endLine == cpos.line)=true:=by rfl) (hs:starEach [e] X.env=(false,eval e X.env)::starEach [] X.env:=by rfl) (hplain:(backTo cpos (starEach [] X.env)).any (·.1)=false:=by rfl):
  SE X (.Call (.Attribute o "extend" apos) [e] [] cpos) (cExtend fa fb):=
 (Qcs PySem.F.plainAttrs_list PySem.F.slot_list_extend PySem.F.type_list_extend Qcv ho (QbE ha QbD hs) hbase hfew hline hs hplain).of fun σ H Q h_=>h_.el fun ρ l st lr sr p=>⟨ρ,l,st,lr,sr,p.bnd.imp fun d st1 ρ1 H1 x1 s1 p1 v rv=>by
  cases rv with
  | @ref a n kk h=>
   obtain⟨vs0,hv0⟩:=Qda kk
   refine⟨.inl ⟨rfl,vs0,SqL.of hv0⟩,ρ1,l,st1,lr.mono x1,s1,(Post.bnd p1).imp fun y st2 ρ2 H2 x2 s2 p2 w rw'=>?_⟩
   have h2:ρ2[n]?=some a:=by
    obtain⟨τ,e,_⟩:=x2.pre
    rw[e];exact Qc8 h
   cases rw' with
   | @ref b m kk2 hb=>
    obtain⟨ds,e2,p3⟩:=Post.getL (Post.bnd p2) s2
    obtain⟨a',vs,ha,hv,r⟩:=s2.seq e2
    rw[h2]at ha;cases ha
    obtain⟨ds2,e3,p4⟩:=Post.getL (Post.bnd p3) s2
    obtain⟨b',ws,hb',hw,r2⟩:=s2.seq e3
    rw[hb]at hb';cases hb'
    obtain⟨hz,p5⟩:=Post.chk p4
    obtain⟨s3,x3⟩:=s2.put (List.getElem?_eq_some_iff.mp e2).1 h2 hv (Reps.app r r2)
    have p6:=Post.bnd p5
    unfold putL at p6
    rw[e2]at p6
    exact⟨a,b,vs,ws,rfl,rfl,hv,hw,by rw[r.length,r2.length];exact hz,(p6 ρ2 _ x3 s3).ret s3 _ .non⟩
   | _=>exact p2.elim
  | _=>exact p1.elim⟩
end
end MM
namespace MM
open PySem PyProof.Rows L2
def strD:D->M D
 | .int i=>chk (i.natAbs.log2 < 1920) (ret (.str (Str.ofString (toString i))))
 | _=>bad
def intTD:D->M D
 | .str x=>match intText? x with
  | some n=>chk (x.length<=640) (ret (.int n))
  | none=>bad
 | _=>bad
def inTD:D->D->M D
 | .str x,.str y=>ret (.bl (!(Builtin.Str.occurrences y x 0 y.length 1).isEmpty))
 | _,_=>bad
section
variable {X:Cx}
theorem Qf9:CallR X (.type "str") (fun xs H Q=>∃ v,xs=[v]/\uOf X.K strD v H Q):=Qbx.of fun xs H Q z=>by
 obtain⟨v,e,ρ,st,d,sr,rv,p⟩:=z
 cases rv with
 | int i=>
  obtain⟨hz,p1⟩:=Post.chk p
  exact⟨i,e,hz,p1.ret sr _ (.str _)⟩
 | _=>exact p.elim
theorem Qga:CallR X (.type "int") (fun xs H Q=>∃ x n,xs=[.str x]/\intText? x=some n/\x.length<=640/\Q (.int n) H):=by
 intro pins s σ H xs us Q I r h
 obtain⟨x,n,rfl,hn,hl,q⟩:=h
 obtain⟨u,rfl,t,rfl⟩:=Qbv r
 exact PySem.W.KIN.call_text hn hl ⟨.int n,H,I.tok _,⟨_,rfl⟩,q⟩
theorem Qgb:CallR X (.type "int") (fun xs H Q=>∃ v,xs=[v]/\uOf X.K intTD v H Q):=Qga.of fun xs H Q z=>by
 obtain⟨v,e,ρ,st,d,sr,rv,p⟩:=z
 cases rv with
 | str x=>
  cases en:intText? x with
  | none=>unfold intTD at p;dsimp only at p;rw[en]at p;exact p.elim
  | some n=>
   unfold intTD at p
   dsimp only at p
   rw[en]at p
   obtain⟨hz,p1⟩:=Post.chk p
   exact⟨x,n,e,en,hz,p1.ret sr _ (.int _)⟩
 | _=>exact p.elim
theorem Qgc:OpR X (compareOp .In) (rOf X.K inTD):=Qbj.of fun x y H Q z=>by
 obtain⟨ρ,st,d,e,sr,r1,r2,p⟩:=z
 cases r1 with
 | str a=>
  cases r2 with
  | str b=>exact⟨a,b,rfl,rfl,p.ret sr _ (.bl _)⟩
  | _=>exact p.elim
 | _=>first | exact p.elim | (cases r2<;>exact p.elim)
end
section
open PySem.Builtin.Str
variable {prog:Program}{w:World}{A:Around}{E:Value->Shared->Prop}{s:Shared}
theorem Qgd {x y : Str} {t u : Tok} {Q : Value -> Shared -> Prop} (hy : (y.length == 0) = false) (hsz : x.length + 2 <= sizeLine)
  (h:∀ l k,l.map (·.1)=Txt.split x y->Q (.ref s.heap.objs.size) { s with heap:=s.heap.push { cls:=.type "list",data:=.seq (strValues l).toArray },toks:=k }):
  wpAny (model prog w) A (call (.builtin "str.split") [.str x t,.str y u]) Q E s:=by
 have hn:(partsBetween x (occurrences x y 0 x.length (x.length + 1)) y.length).length<=sizeLine:=by
  have e1:=StrLaws.occ_length_le x y 0 x.length (x.length + 1)
  rw[length_partsBetween];ac_nf
 cases h1:(decide (x.length < y.length) || decide (strKind x < strKind y)) with
 | true=>exact call_meets F.slot_str_split (typeIs_str _ _ _) F.entry_str_split (F.args_str_split_2 _ _) (meets_str_split_cannot_occur x y t u h1) (h [(x,t)] s.toks (if_pos h1).symm)
 | false=>
  cases hf:(occurrences x y 0 x.length (x.length + 1)).isEmpty with
  | true=>exact call_meets F.slot_str_split (typeIs_str _ _ _) F.entry_str_split (F.args_str_split_2 _ _) (meets_str_split_not_found x y t u h1 hy hf) (h [(x,t)] s.toks ((if_neg (ne_true_of_eq_false h1)).trans (if_pos hf)).symm)
  | false=>
   refine call_meets F.slot_str_split (typeIs_str _ _ _) F.entry_str_split (F.args_str_split_2 _ _) (meets_str_split_sep x y t u h1 hy hf (by ac_nf) hn) ?_
   show wants Q E _ { s with toks:=_,heap:=s.heap.push { cls:=.type "list",data:=.seq (strsFrom s.toks (partsBetween x (occurrences x y 0 x.length (x.length + 1)) y.length)).toArray } }
   rw[strsFrom_eq]
   exact h (numbered s.toks _) _ ((numbered_texts _ _).trans ((if_neg (ne_true_of_eq_false h1)).trans (if_neg (ne_true_of_eq_false hf))).symm)
end
section
variable {X:Cx}
theorem Qge:∀ l:List (Str × Tok),L2.Vals ((l.map (·.1)).map V.str) (strValues l)
 | []=>.nil
 | p::l=>.cons ⟨p.2,rfl⟩ (Qge l)
def rSplit:V->List V->Hp->VK->Prop:=fun x vs H Q=>∃ a b,x=.str a/\vs=[.str b]/\(b.length == 0)=false/\a.length + 2<=sizeLine/\(Txt.split a b).length<=sizeLine/\∀ l,H l=none->Q (.ref l) (upd H l (.lst ((Txt.split a b).map V.str)))
theorem Qgf:MtR X "str.split" rSplit:=by
 intro pins s σ H x vs v us Q I rx rv h
 obtain⟨a,b,rfl,rfl,hb,ha,hl,q⟩:=h
 obtain⟨t,rfl⟩:=rx
 obtain⟨u,rfl,ru⟩:=rv.one
 obtain⟨t',rfl⟩:=ru
 refine Qgd hb ha fun l k e=>?_
 have rv':=Qge l
 rw[e]at rv'
 exact⟨.ref s.heap.objs.size,_,I.laid (t':=k) (o:=.lst ((Txt.split a b).map V.str)) (fun b o e=>Heap.get?_push_of_some _ e) (Nat.le_refl _) ⟨by rw[List.length_map];exact hl,_,0,rv',Heap.get?_push_size _ rfl⟩,rfl,q _ (I.hok.fresh (Nat.le_refl _))⟩
theorem Qgg:∀ {ys:List Str}{us:List Value},L2.Vals (ys.map V.str) us->StrsAre us ys
 | [],_,.nil=>.nil
 | y::ys,_,.cons r t=>by
  obtain⟨k,e⟩:=r
  subst e
  exact .cons y k (Qgg t)
def rJoin (K:PySem.W.Frag):V->List V->Hp->VK->Prop:=fun x vs H Q=>∃ (a:Str) (p:Addr) (ys:List Str),x=.str a/\vs=[.ref p]/\SqL K H p (ys.map V.str)/\(ys.map (·.length)).sum + ys.length * a.length<=16777216/\Q (.str (Txt.join a ys)) H
theorem Qgh:MtR X "str.join" (rJoin X.K):=by
 intro pins s σ H x vs v us Q I rx rv h
 obtain⟨a,p,ys,rfl,rfl,hq,hz,q⟩:=h
 obtain⟨t,rfl⟩:=rx
 obtain⟨u,rfl,ru⟩:=rv.one
 cases ru
 obtain⟨its,rv',pl,_⟩:=I.list hq
 exact join_list pl.isList (Qgg rv') hz fun t' k=>⟨.str _,H,I.kept (t':=k) (fun b o e=>e),⟨_,rfl⟩,q⟩
end
def strsOf:List D->Option (List Str)
 | []=>some []
 | .str x::ds=>(strsOf ds).map (x::·)
 | _::_=>none
def cSplit (a b:CE):CE:=fun l=>bnd (a l) fun x=>match x with
 | .str x=>bnd (b l) fun y=>match y with
  | .str y=>chk ((y.length == 0)=false/\x.length + 2<=lim/\(Txt.split x y).length<=lim) (alloc (.lst ((Txt.split x y).map .str)))
  | _=>bad
 | _=>bad
def cJoin (a b:CE):CE:=fun l=>bnd (a l) fun x=>match x with
 | .str x=>bnd (b l) fun y=>match y with
  | .ref n=>bnd (getL n) fun ds=>match strsOf ds with
   | some ys=>chk ((ys.map (·.length)).sum + ys.length * x.length<=16777216) (ret (.str (Txt.join x ys)))
   | none=>bad
  | _=>bad
 | _=>bad
section
variable {X:Cx}{K:PySem.W.Frag}{ρ:List Addr}{H:Hp}{st:Sto}
theorem Qgi:∀ ys:List Str,Reps K ρ H (ys.map V.str) (ys.map D.str)
 | []=>.nil
 | y::ys=>.cons (.str y) (Qgi ys)
theorem Qgj {ds:List D}{ys:List Str}{vs:List V} (h:strsOf ds=some ys) (r:Reps K ρ H vs ds):vs=ys.map V.str:=by
 induction ds generalizing ys vs with
 | nil=>cases r;cases h;rfl
 | cons d ds ih=>
  cases r with
  | cons a t=>
   cases a with
   | str x=>
    unfold strsOf at h
    cases e:strsOf ds with
    | none=>rw[e]at h;cases h
    | some zs=>
     rw[e]at h
     cases h
     rw[ih e t];rfl
   | _=>cases h
theorem Qgk {o e : Expr} {fa fb : CE} {apos cpos : Pos} (ho : SE X o fa) (ha : SE X e fb) (hbase : attributeBase o "split" X.env (eval o X.env) = eval o X.env := by rfl)
  (hfew:((backTo cpos (starEach [e] X.env)).all (fun x => !x.1) && (backToKw cpos (keywordEach [] X.env)).all (fun x=>x.1.isSome) && decide ([e].length + ([]:List Keyword).length + (if ([]:List Keyword).isEmpty then 0 else 1) < 30))=true:=by rfl)
  (hline:(apos.endLine == cpos.line)=true:=by rfl) (hs:starEach [e] X.env=(false,eval e X.env)::starEach [] X.env:=by rfl) (hplain:(backTo cpos (starEach [] X.env)).any (·.1)=false:=by rfl):
  SE X (.Call (.Attribute o "split" apos) [e] [] cpos) (cSplit fa fb):=
 (Qcs PySem.F.plainAttrs_str PySem.F.slot_str_split PySem.F.type_str_split Qgf ho (QbE ha QbD hs) hbase hfew hline hs hplain).of fun σ H Q h_=>h_.el fun ρ l st lr sr p=>⟨ρ,l,st,lr,sr,p.bnd.imp fun d st1 ρ1 H1 x1 s1 p1 v rv=>by
  cases rv with
  | str x=>
   refine⟨rfl,ρ1,l,st1,lr.mono x1,s1,(Post.bnd p1).imp fun y st2 ρ2 H2 x2 s2 p2 w rw'=>?_⟩
   cases rw' with
   | str y=>
    obtain⟨⟨hb,hl1,hl2⟩,p3⟩:=Post.chk p2
    refine⟨x,y,rfl,rfl,hb,hl1,hl2,fun q hq=>?_⟩
    have nl:=s2.fresh hq
    have s3:SR X.K (ρ2++[q]) (upd H2 q (.lst ((Txt.split x y).map V.str))) (st2++[.lst ((Txt.split x y).map D.str)]):=(s2.new hq).keep Qai nl (Qgi _)
    refine p3 _ _ (Ex.newL hq) s3 _ (.ref ⟨_,Qai,rfl⟩ ?_)
    rw[<- s2.len];simp
   | _=>exact p2.elim
  | _=>exact p1.elim⟩
theorem Qgl {o e : Expr} {fa fb : CE} {apos cpos : Pos} (ho : SE X o fa) (ha : SE X e fb) (hbase : attributeBase o "join" X.env (eval o X.env) = eval o X.env := by rfl)
  (hfew:((backTo cpos (starEach [e] X.env)).all (fun x => !x.1) && (backToKw cpos (keywordEach [] X.env)).all (fun x=>x.1.isSome) && decide ([e].length + ([]:List Keyword).length + (if ([]:List Keyword).isEmpty then 0 else 1) < 30))=true:=by rfl)
  (hline:(apos.endLine == cpos.line)=true:=by rfl) (hs:starEach [e] X.env=(false,eval e X.env)::starEach [] X.env:=by rfl) (hplain:(backTo cpos (starEach [] X.env)).any (·.1)=false:=by rfl):
  SE X (.Call (.Attribute o "join" apos) [e] [] cpos) (cJoin fa fb):=
 (Qcs PySem.F.plainAttrs_str PySem.F.slot_str_join PySem.F.type_str_join Qgh ho (QbE ha QbD hs) hbase hfew hline hs hplain).of fun σ H Q h_=>h_.el fun ρ l st lr sr p=>⟨ρ,l,st,lr,sr,p.bnd.imp fun d st1 ρ1 H1 x1 s1 p1 v rv=>by
  cases rv with
  | str x=>
   refine⟨rfl,ρ1,l,st1,lr.mono x1,s1,(Post.bnd p1).imp fun y st2 ρ2 H2 x2 s2 p2 w rw'=>?_⟩
   cases rw' with
   | @ref b m kk2 hb=>
    obtain⟨ds,e2,p3⟩:=Post.getL (Post.bnd p2) s2
    obtain⟨a',vs,ha,hv,r⟩:=s2.seq e2
    rw[hb]at ha;cases ha
    cases es:strsOf ds with
    | none=>rw[es]at p3;exact p3.elim
    | some ys=>
     rw[es]at p3
     obtain⟨hz,p4⟩:=Post.chk p3
     have ev:=Qgj es r
     subst ev
     exact⟨x,b,ys,rfl,rfl,SqL.of hv,hz,p4.ret s2 _ (.str _)⟩
   | _=>exact p2.elim
  | _=>exact p1.elim⟩
end
abbrev CF:=Str->Loc->M D
def fNil:CF:=fun out _=>chk (out.length<=lim) (ret (.str out))
def fCons (a:CE) (r:CF):CF:=fun out l=>bnd (a l) fun x=>match x with
 | .str y=>chk ((out++y).length<=lim) (r (out++y) l)
 | _=>bad
def cFmt (r:CF):CE:=fun l=>r Str.empty l
section
variable {X:Cx}{e:Expr}{es:List Expr}{pos:Pos}{fa:CE}{r:CF}{te:TE}
theorem Qgm (he:PE X e te):PE X (.FormattedValue e (-1) none pos) (fun σ H Q=>te σ H fun x H1=>∃ i,x=.int i/\i.natAbs.log2 < 1920/\Q (.str (Str.ofString (toString i))) H1):=by
 intro pins s σ H Q I h
 refine FormattedValue_plain (thn (he pins s σ H _ I h) fun v s1 z=>?_)
 obtain⟨x,H1,I1,r1,i,rfl,hz,q⟩:=z
 obtain⟨t,rfl⟩:=r1
 exact formatField_int_small hz ⟨.str _,H1,I1.tok _,⟨_,rfl⟩,q⟩
theorem Qgn (ha:SE X e fa):SE X (.FormattedValue e (-1) none pos) (c1 strD fa):=(Qgm ha).of fun σ H Q h_=>h_.el fun ρ l st lr sr p=>⟨ρ,l,st,lr,sr,p.bnd.imp fun d st1 ρ1 H1 x1 s1 p1 v rv=>by
 cases rv with
 | int i=>
  obtain⟨hz,p2⟩:=Post.chk p1
  exact⟨i,rfl,hz,p2.ret s1 _ (.str _)⟩
 | _=>exact p1.elim⟩
def SJ (X:Cx) (es:List Expr) (r:CF):Prop:=∀ (out:Str) (pins:List (Addr × Obj)) (s:Shared) (σ:L2.St) (H:Hp) (Q:VK),Inv X pins σ H s->tOf X.K (r out) σ H Q->wpAny (model X.prog X.w) X.A (joinParts out (evalEach es X.env)) (EP X pins σ Q) X.xe s
theorem Qgo:SJ X [] fNil:=fun out pins s σ H Q I h=>by
 obtain⟨ρ,l,st,lr,sr,p⟩:=h
 obtain⟨hz,p1⟩:=Post.chk p
 exact joinParts_nil ⟨.str out,H,I.tok _,⟨_,rfl⟩,p1.ret sr _ (.str _)⟩ hz
theorem Qgp (ha:SE X e fa) (hr:SJ X es r) (he:evalEach (e::es) X.env=eval e X.env::evalEach es X.env:=by rfl):SJ X (e::es) (fCons fa r):=fun out pins s σ H Q I h=>by
 rw[he]
 obtain⟨ρ,l,st,lr,sr,p⟩:=h
 refine joinParts_cons (thn (ha pins s σ H (fun x H1=>∃ y,x=.str y/\(out++y).length<=sizeLine/\tOf X.K (r (out++y)) σ H1 Q) I ⟨ρ,l,st,lr,sr,(Post.bnd p).imp fun d st1 ρ1 H1 x1 s1 p1 v rv=>?_⟩) fun v s1 z=>?_)
 ·cases rv with
  | str y=>
   obtain⟨hz,p2⟩:=Post.chk p1
   exact⟨y,rfl,hz,ρ1,l,st1,lr.mono x1,s1,p2⟩
  | _=>exact p1.elim
 ·obtain⟨x,H1,I1,r1,y,rfl,hz,q⟩:=z
  obtain⟨t,rfl⟩:=r1
  exact⟨hz,hr (out++y) pins s1 σ H1 Q I1 q⟩
theorem Qgq {e2:Expr} (h:SJ X (e::e2::es) r) (he:evalEach (e::e2::es) X.env=eval e X.env::eval e2 X.env::evalEach es X.env:=by rfl):SE X (.JoinedStr (e::e2::es) pos) (cFmt r):=fun pins s σ H Q I q=>by
 have:=h Str.empty pins s σ H Q I q
 rw[he]at this
 exact JoinedStr_many this
end
def signs (x:Str):List D:=x.cps.toList.map fun c=>.str ⟨#[c]⟩
def iStr (a:CE):CI:=fun l=>bnd (a l) fun x=>match x with
 | .str x=>chk (x.cps.all (· < 128)=true) (ret ⟨signs x,anySt⟩)
 | _=>bad
def Itx (x:Str):It where
 go:=fun i _=>∃ c,x.cps[i]?=some c
 yld:=fun i H v H'=>H'=H/\∃ c,x.cps[i]?=some c/\v=.str ⟨#[c]⟩
 stop:=fun i _=>x.cps[i]?=none
theorem Qgr {P:Program}{w:World}{K:PySem.W.Frag}{tg:Expr} (x:Str) (t:Tok) (it:Addr):Turn P w K tg (Itx x) [it] it (fun i h=>h.IsStrIter it "str_ascii_iterator" x t i) where
 mem:=by simp
 obj:=fun i h st b hb=>by
  have e:b=it:=by simpa using hb
  subst e
  obtain⟨o,e,c,d⟩:=st
  exact⟨o,e,fun v z=>by rw[d]at z;cases z⟩
 keep:=fun i h h' st k=>by
  obtain⟨o,e,r⟩:=st
  exact⟨o,k it (by simp) o e,r⟩
 item:=by
  intro X hP hw hK hc i pins s σ H E I hf st hg
  subst hP hw hK
  obtain⟨c,hx⟩:=hg
  obtain⟨f0,f1,f2,f3,f4,f5⟩:=hf it (by simp)
  refine wpAny_pyNext_ascii_item st hx fun h' st' sb=>?_
  have I1:Inv X pins σ H { s with heap:=h',toks:=s.toks + 1 }:=I.turned (t':=s.toks + 1) (fun b o hb e=>(sb.2 b hb).trans e) f0 f1 f3 f4 f5
  obtain⟨o,e,cl,d⟩:=id st'
  exact⟨_,rfl,QaW (s:={ s with heap:=h',toks:=s.toks + 1 }) e cl d (by decide) ⟨.str ⟨#[c]⟩,H,I1,⟨_,rfl⟩,⟨rfl,c,hx,rfl⟩,st',fun b hb=>(hf b hb).1⟩⟩
 done:=by
  intro X hP hw hK hc i pins s σ H E I hf st hg
  subst hP hw hK
  obtain⟨f0,f1,f2,f3,f4,f5⟩:=hf it (by simp)
  exact wpAny_pyNext_ascii_end (I.ok.hd hc) st hg fun h' eb=>⟨rfl,I.turned (t':=s.toks) (fun b o hb e=>eb b o hb e) f0 f1 f3 f4 f5⟩
 self:=fun _ _ _ _ _ st h=>wpAny_pyIter_striter_ascii st h
section
variable {X:Cx}{K:PySem.W.Frag}{tg e:Expr}{fa:CE}{te:TE}
theorem Qgs (he:PE X e te):PI X tg e (fun σ H R=>te σ H fun x H1=>∃ z,x=.str z/\z.cps.all (· < 128)=true/\R (Itx z) H1):=by
 intro pins s σ H R I h
 refine thn (he pins s σ H _ I h) fun v s1 y=>?_
 obtain⟨x,H1,I1,r1,z,rfl,hz,q⟩:=y
 obtain⟨t,rfl⟩:=r1
 refine wpAny_pyIter_ascii hz ?_
 refine⟨s1.heap.objs.size,[s1.heap.objs.size],_,_,H1,rfl,I1.kept (t':=s1.toks) fun b o e=>Heap.get?_push_of_some _ e,Qgr z t _,⟨_,Heap.get?_push_size _ rfl,rfl,rfl⟩,fun b hb=>?_,q⟩
 have eb:b=s1.heap.objs.size:=by simpa using hb
 subst eb
 exact I1.fpOk (Nat.le_refl _) (I1.hok.fresh (Nat.le_refl _))
theorem Qgt {ρ0:List Addr}{H0:Hp}{x:Str}:ItR K ρ0 H0 ⟨signs x,anySt⟩ (Itx x):=fun ρ H st y s _=>by
 refine⟨?_,fun i d e=>?_⟩
 ·show x.cps[(signs x).length]?=none
  unfold signs
  simp
 ·unfold signs at e
  rw[List.getElem?_map,Array.getElem?_toList]at e
  cases ec:x.cps[i]? with
  | none=>rw[ec]at e;cases e
  | some c=>
   rw[ec]at e
   cases e
   refine⟨⟨c,ec⟩,fun v H' z=>?_⟩
   obtain⟨e2,c',e3,e4⟩:=z
   subst e2
   rw[ec]at e3;cases e3
   subst e4
   exact⟨Ex.refl,s,.str _⟩
theorem Qgu (h:SE X e fa):SI X tg e (iStr fa):=(Qgs h).of fun σ H R h_=>h_.el fun ρ l st lr sr p=>⟨ρ,l,st,lr,sr,p.bnd.imp fun d st1 ρ1 H1 x1 s1 p1 v rv=>by
 cases rv with
 | str x=>
  obtain⟨hz,p2⟩:=Post.chk p1
  exact⟨x,rfl,hz,p2.ret s1 _ Qgt⟩
 | _=>exact p1.elim⟩
end
end MM
namespace MM
open PySem PySem.StrLaws Builtin.Str
structure Mrk (y:Str) (m k:Nat):Prop where
 lt:k < y.length
 at_:y.cps.toList[k]?=some m
 un:∀ j,y.cps.toList[j]?=some m->j=k
 kind:Builtin.Str.strKind y<=1
theorem At.mark {x y:Str}{m k i:Nat} (h:Mrk y m k) (a:At x y x.length i):x.cps.toList[i + k]?=some m:=by
 have e:=a.2
 rw[subAt_eq,beq_iff_eq]at e
 have e2:((x.cps.toList.drop i).take y.length)[k]?=some m:=by rw[e];exact h.at_
 rw[List.getElem?_take_of_lt h.lt,List.getElem?_drop]at e2
 exact e2
theorem Qgv {l r:List Nat}{a t:Nat} (e:l.drop a=r):l[a + t]?=r[t]?:=by rw[<- e,List.getElem?_drop]
theorem Qgw (p:Str):p.cps.toList.length=p.length:=by simp[Str.length]
theorem Qgx {x y : Str} {m k : Nat} (hm : Mrk y m k) : ∀ (ps : List Str) (a : Nat) (cuts : List Nat) (f : Nat), ps ≠ [] -> (∀ p ∈ ps, m ∉ p.cps.toList) -> x.cps.toList.drop a = (Str.join y ps).cps.toList -> a <= x.length ->
  ChainG x y x.length a cuts f->(∀ j,f<=j->¬ At x y x.length j)->partsFrom x y.length a cuts=ps
 | [],_,_,_,h,_,_,_,_,_=>absurd rfl h
 | [p],a,cuts,f,_,hp,e,ha,hc,hf=>by
  have no:∀ j,a<=j->¬ At x y x.length j:=fun j hj hA=>by
   have e1:=At.mark hm hA
   rw[show j + k=a + (j - a + k) by ac_nf,Qgv e]at e1
   exact hp p (by simp) (List.mem_of_getElem? e1)
  cases cuts with
  | cons c r=>exact absurd hc.2.1 (no c hc.1)
  | nil=>
   show [strSub x a x.length]=[p]
   congr 1
   apply Str.ext'
   apply Array.toList_inj.mp
   rw[strSub_toList,e]
   have e2:(x.cps.toList.drop a).length=p.cps.toList.length:=by rw[e];rfl
   rw[List.length_drop,Qgw]at e2
   exact List.take_of_length_le (Nat.le_of_eq e2.symm)
 | p::q::r,a,cuts,f,_,hp,e,ha,hc,hf=>by
  have ej:(Str.join y (p::q::r)).cps.toList=p.cps.toList++(y.cps.toList++(Str.join y (q::r)).cps.toList):=by
   show (p++y++Str.join y (q::r)).cps.toList=_
   rw[Str.cps_append,Str.cps_append]
   simp
  rw[ej]at e
  have pl:=Qgw p
  have yl:=Qgw y
  have e0:∀ t,x.cps.toList[a + t]?=_:=fun t=>Qgv e
  have hxl:x.length=a + p.length + y.length + (Str.join y (q::r)).length:=by
   have:=congrArg List.length e
   rw[List.length_drop,List.length_append,List.length_append,Qgw,Qgw,Qgw,Qgw]at this
   have:=hm.lt
   ac_nf
  have yes:At x y x.length (a + p.length):=by
   refine⟨by ac_nf,?_⟩
   rw[subAt_eq,beq_iff_eq,<- List.drop_drop,e,<- pl,List.drop_left,<- yl,List.take_left]
  have no:∀ j,a<=j->j < a + p.length->¬ At x y x.length j:=fun j hj hl hA=>by
   have e1:=At.mark hm hA
   rw[show j + k=a + (j - a + k) by ac_nf,e0]at e1
   by_cases h1:j - a + k < p.length
   ·rw[List.getElem?_append_left (by ac_nf)]at e1
    exact hp p (by simp) (List.mem_of_getElem? e1)
   ·have:=hm.lt
    rw[List.getElem?_append_right (by ac_nf),List.getElem?_append_left (by ac_nf)]at e1
    have:=hm.un _ e1
    ac_nf
  cases cuts with
  | nil=>
   have:f=a:=hc
   exact absurd yes (hf _ (by ac_nf))
  | cons c cs=>
   have ec:c=a + p.length:=by
    rcases Nat.lt_trichotomy c (a + p.length) with h | h | h
    ·exact absurd hc.2.1 (no c hc.1 h)
    ·exact h
    ·exact absurd yes (hc.2.2.1 _ (by ac_nf) h)
   subst ec
   show strSub x a (a + p.length)::partsFrom x y.length (a + p.length + y.length) cs=_
   congr 1
   ·apply Str.ext'
    apply Array.toList_inj.mp
    rw[strSub_toList,e,show a + p.length - a=p.cps.toList.length by ac_nf,List.take_left]
   ·refine Qgx hm (q::r) _ cs f (by simp) (fun z hz=>hp z (List.mem_cons_of_mem _ hz)) ?_ (by ac_nf) hc.2.2.2 hf
    rw[<- List.drop_drop,<- List.drop_drop,e,<- pl,List.drop_left,<- yl,List.drop_left]
theorem Qgy (x:Str):1<=Builtin.Str.strKind x:=by
 unfold Builtin.Str.strKind
 split
 ·exact Nat.le_refl _
 ·split<;>decide
theorem Qgz {y:Str}{m k:Nat} (hm:Mrk y m k) {ps:List Str} (h0:ps≠[]) (hp:∀ p∈ps,m∉p.cps.toList):Txt.split (Txt.join y ps) y=ps:=by
 have ej:Txt.join y ps=Str.join y ps:=glued_eq_join y ps
 rw[ej]
 generalize hx:Str.join y ps=x
 have hk:=Qgy x
 obtain⟨f,hG,hn⟩:=occ_tight x y (by have:=hm.lt;ac_nf)
 have fin:=Qgx hm ps 0 _ f h0 hp (by rw[hx];rfl) (Nat.zero_le _) hG hn
 unfold Txt.split
 split
 ·rename_i hc
  rw[Bool.or_eq_true,decide_eq_true_eq,decide_eq_true_eq]at hc
  have hl:x.length < y.length:=by have:=hm.kind;ac_nf
  match ps,h0,hx with
  | [p],_,hx=>rw[<- hx];rfl
  | p::q::r,_,hx=>
   have:x.length=(p++y++Str.join y (q::r)).length:=by rw[<- hx];rfl
   rw[Str.length_append,Str.length_append]at this
   ac_nf
 ·split
  ·rename_i he
   rw[List.isEmpty_iff.mp he]at fin
   have:[strSub x 0 x.length]=ps:=fin
   rw[sub_whole]at this
   exact this
  ·rw[partsBetween_eq]
   exact fin
end MM
namespace MM
def sv (m:Nat):List Nat:=(List.range 4).filter fun i=>m.testBit i
open PySem PySem.W PyProof.Rows L2
def tb (led:Bool) (m:Nat):SetTable:=⟨7,(sv m).toArray,#[],0,led,0,true⟩
def slotAt (b:Bool) (m i:Nat):Nat:=if b=true then 0 else match i with
 | 0=>0
 | k + 1=>(sv m).getD k 0 + 1
end MM
namespace MM
open PySem PySem.Spec PyProof.Rows L2
structure NameOk (x:Str):Prop where
 d:(x == ("__debug__":Str))=false
 c:(x == ("__classdict__":Str))=false
 n:x≠"__name__"
theorem nok {x:Str} (h:((x == ("__debug__":Str)) || (x == ("__classdict__":Str)) || decide (x=("__name__":Str)))=false):NameOk x:=by
 rw[Bool.or_eq_false_iff,Bool.or_eq_false_iff]at h
 exact⟨h.1.1,h.1.2,of_decide_eq_false h.2⟩
structure Sc (X:Cx) (sc:Scope):Prop where
 vis:∀ x k,sc.names.lookup x=some k->(k=.local\/k=.cell\/k=.free)->Vis X.env.scope x
 cel:∀ x,(sc.names.lookup x=some .cell\/sc.names.lookup x=some .free)->(X.env.kindOf x=some .cell\/X.env.kindOf x=some .free)
 glo:∀ x,sc.names.lookup x=some .globalImplicit->Gl X x
 loc:∀ x k,sc.names.lookup x=some k->(k=.local\/k=.cell)->L2.Loc X.env.scope x/\(X.fn x=true\/X.env.scope.names.lookup x=some .local)
 calm:X.calm=true
theorem QgA {P : Program} {w : World} {K : PySem.W.Frag} {mg : Str -> Option Value} {base : Heap} {N : List Str} {qual : Str} {sc : Scope} {f : Addr} {cdv : Value} {A : Around} {outer : List Env} {s : Shared} {H : Hp} {E : XK} :
  Sc (cxOf CX0 P w K mg base N qual sc f cdv A outer s H E).nox sc where
 vis:=fun x k h hk=>by
  rcases hk with z | z | z<;>subst z
  ·exact .inl h
  ·exact .inr (.inl h)
  ·exact .inr (.inr h)
 cel:=fun x h=>h
 glo:=fun x h=>h
 loc:=fun x k h hk=>⟨by rcases hk with z | z<;>subst z;exact .inl h;exact .inr h,.inl rfl⟩
 calm:=rfl
theorem QgB {X:Cx}{N:List Str}{scope:Scope}{fp:List Addr}{s:Shared}{H:Hp} (hc:X.calm=true):Sc (cxC X N scope fp s H) scope where
 vis:=fun x k h hk=>by
  show (relabel scope X.env).names.lookup x=_\/(relabel scope X.env).names.lookup x=_\/(relabel scope X.env).names.lookup x=_
  rw[QdN,h,Option.map_some]
  rcases hk with z | z | z<;>subst z
  ·exact .inl rfl
  ·exact .inr (.inl rfl)
  ·by_cases hq:(NameKind.free == NameKind.free && X.env.scope.kind == .function && X.env.kindOf x == some .cell)=true
   ·rw[if_pos hq];exact .inr (.inl rfl)
   ·rw[if_neg hq];exact .inr (.inr rfl)
 cel:=fun x h=>by
  show (relabel scope X.env).names.lookup x=_\/(relabel scope X.env).names.lookup x=_
  rcases h with h | h<;>rw[QdN,h,Option.map_some]
  ·exact .inl rfl
  ·by_cases hq:(NameKind.free == NameKind.free && X.env.scope.kind == .function && X.env.kindOf x == some .cell)=true
   ·rw[if_pos hq];exact .inl rfl
   ·rw[if_neg hq];exact .inr rfl
 glo:=fun x h=>by
  show (relabel scope X.env).names.lookup x=_
  rw[QdN,h,Option.map_some];rfl
 loc:=fun x k h hk=>by
  refine⟨?_,.inl ?_⟩
  ·show (relabel scope X.env).names.lookup x=_\/(relabel scope X.env).names.lookup x=_
   rw[QdN,h,Option.map_some]
   rcases hk with z | z<;>subst z
   ·exact .inl rfl
   ·exact .inr rfl
  ·show decide (scope.names.lookup x=some .local\/scope.names.lookup x=some .cell)=true
   rw[h]
   rcases hk with z | z<;>subst z<;>decide
 calm:=hc
def compChk (sc scope:Scope):Bool:=
 (scope.kind == .function) && scope.names.all (fun p=>p.2 != .local || scope.names.lookup p.1 == some .local) &&
 scope.names.all (fun p=>p.2 != .free || ((sc.names.lookup p.1 == some .cell || sc.names.lookup p.1 == some .free) && !scope.names.contains (p.1,.cell) && scope.names.lookup p.1 != some .local))
theorem QgC {X:Cx}{sc scope:Scope} (S:Sc X sc) (h:compChk sc scope=true):CompScope X scope:=by
 unfold compChk at h
 rw[Bool.and_eq_true,Bool.and_eq_true]at h
 obtain⟨⟨h1,h2⟩,h3⟩:=h
 rw[List.all_eq_true]at h2 h3
 have fr:∀ x,(x,NameKind.free)∈scope.names->(sc.names.lookup x=some .cell\/sc.names.lookup x=some .free)/\(x,NameKind.cell)∉scope.names/\scope.names.lookup x≠some .local:=fun x hx=>by
  have q:=h3 _ hx
  simp only[bne_self_eq_false,Bool.false_or,Bool.and_eq_true,Bool.or_eq_true,beq_iff_eq,Bool.not_eq_true',bne_iff_ne,ne_eq]at q
  obtain⟨⟨q1,q2⟩,q3⟩:=q
  refine⟨q1,fun z=>?_,q3⟩
  have:scope.names.contains (x,NameKind.cell)=true:=List.contains_iff_mem.mpr z
  rw[this]at q2;cases q2
 refine⟨by simpa using h1,fun p hp hl=>?_,fun x hx=>S.cel x (fr x hx).1,fun x hx=>(fr x hx).2.1,fun x hx=>(fr x hx).2.2⟩
 have q:=h2 p hp
 rw[hl]at q
 simpa using q
def namesChk (N0:List Str) (scope:Scope) (N:List Str) (n:Nat) (ix:List Nat):Bool:=
 N.length == n + ix.length && (List.range ix.length).all fun j=>match ix[j]?,N[n + j]? with
  | some i,some x=>N0[i]? == some x && scope.names.lookup x == some .free
  | _,_=>false
theorem QgD {X:Cx}{N0:List Str}{scope:Scope}{N:List Str}{n:Nat}{ix:List Nat} (hX:X.N=N0) (h:namesChk N0 scope N n ix=true):CompNames X scope N n ix:=by
 unfold namesChk at h
 rw[Bool.and_eq_true,List.all_eq_true]at h
 refine⟨by simpa using h.1,fun j i x hj hx=>?_⟩
 have q:=h.2 j (List.mem_range.mpr (List.getElem?_eq_some_iff.mp hj).1)
 rw[hj,hx]at q
 simp only[Bool.and_eq_true,beq_iff_eq]at q
 rw[hX]
 exact q
section
variable {X:Cx}{sc:Scope}{a b c e o tg:Expr}{es:List Expr}{pos p:Pos}{fa fb fc:CE}{ca cb:CA}{x:Str}{T id:String}
theorem QgE (S:Sc X sc) (i:Nat) (hN:X.N[i]?=some x) {k:NameKind} (h:sc.names.lookup x=some k) (n:NameOk x) (hk:k=.local\/k=.cell\/k=.free:=by decide):SE X (.Name x pos) (cVar i):=Qdb i (Qas hN (S.vis x k h hk) n.d n.c)
theorem QgF (S:Sc X sc) (i:Nat) (nd:X.N.Nodup) (hN:X.N[i]?=some x) {k:NameKind} (h:sc.names.lookup x=some k) (hk:k=.local\/k=.cell:=by decide):SG X (.Name x pos) (gVar i):=
 Qew (QaP nd hN (S.loc x k h hk).1 (S.loc x k h hk).2)
theorem QgG (S : Sc X sc) (i : Nat) (nd : X.N.Nodup) (hN : X.N[i]? = some x) {k : NameKind} (h : sc.names.lookup x = some k) {pos' : Pos} (he : SE X e fa) (hk : k = .local \/ k = .cell := by decide) (hs : swapsWith e (some (.Name x pos')) pos.line X.env = pure false := by rfl) :
  SS X (.Assign [.Name x pos'] e pos) (sAsg (gVar i) fa):=QeI nd hN (S.loc x k h hk).1 he hs (S.loc x k h hk).2
theorem QgH {v:V}{d:D}{u:Value} (S:Sc X sc) (h:sc.names.lookup x=some .globalImplicit) (hm:X.mg x=some u) (r:RelV v u) (n:NameOk x) (q:∀ ρ H,Rep X.K ρ H v d):SE X (.Name x pos) (cCon d):=
 (Qaz (S.glo x h) hm r n.d).of fun σ H Q h_=>h_.el fun ρ l st lr sr p=>p.ret sr _ (q _ _)
theorem QgI {n:Nat} (h:∀ l st ds st',ca l st=.ok ds st'->ds.length=n):∀ l st ds st',cCons fa ca l st=.ok ds st'->ds.length=n + 1:=fun l st ds st' e=>by
 unfold cCons bnd at e
 cases q:fa l st with
 | ok d s1=>
  rw[q]at e
  dsimp only at e
  cases q2:ca l s1 with
  | ok es s2=>
   rw[q2]at e
   have:=h l s1 es s2 q2
   cases e
   simp[this]
  | exc _ _=>rw[q2]at e;cases e
  | bad=>rw[q2]at e;cases e
 | exc _ _=>rw[q]at e;cases e
 | bad=>rw[q]at e;cases e
theorem QgJ:∀ l st ds st',cNil l st=.ok ds st'->ds.length=0:=fun l st ds st' e=>by cases e;rfl
def KwBinds (K:PySem.W.Frag) (fd:FuncData) (ps:List Str):Prop:=∀ (s:Shared) (ws:List Value),ws.length=ps.length->BindsTo s fd ⟨[],ps.zip ws⟩ (ps.zip ws)
theorem QgK {k n : Nat} {f : Addr} {fd : FuncData} {ps : List Str} {g : List D -> M D} (S : Sc X sc) (h : sc.names.lookup x = some .globalImplicit) (F : FnOk X.prog X.w X.K X.mg X.base CX0 k f fd ps (spOf X.K n g)) (hr : Room k X.A) (hm : X.mg x = some (.ref f))
  (hk:PySem.W.keepIn X.K (.ref f)=true) (hb:Binds X.K fd ps []) (nk:NameOk x) (ha:SA X (e::es) ca) (hn:∀ l st ds st',ca l st=.ok ds st'->ds.length=n)
  (he:starEach (e::es) X.env=(false,eval e X.env)::starEach es X.env:=by rfl) (hpl:(backTo pos (starEach es X.env)).any (·.1)=false:=by rfl):SE X (.Call (.Name x p) (e::es) [] pos) (cCall g ca):=
 Qeh F hr (S.glo x h) hm hk hb QcE ha hn nk.d he hpl
end
theorem QgL {k:Nat}{X:Cx} (h:Room k X.A):X.A.units + 60 < cLine:=by have:=h.units;ac_nf
theorem QgM {P : Program} {w : World} {K : PySem.W.Frag} {mg : Str -> Option Value} {base : Heap} {x qual : Str} {sd : Stmt} {f : Addr} {fd : FuncData} {N ps : List Str} {k n m : Nat} {body : CS} (F : Fun K x qual sd f fd) (S : FnScope N ps (defScope sd)) (hn : ps.length = n) (hm : N.length = m)
  (hbody:∀ (cdv:Value) (A:Around) (outer:List Env) (s:Shared) (H:Hp) (E:XK),Room k (A.deeper (envOfC qual (defScope sd) s.heap.objs.size f cdv))->SSs (cxOf CX0 P w K mg base N qual (defScope sd) f cdv A outer s H E).nox (defBody sd) body):
  FnOk P w K mg base CX0 (k + 1) f fd ps (spOf K n (runDef m body)):=by
 subst hn hm
 exact QeM F S hbody
theorem QgN {K:PySem.W.Frag}{ρ:List Addr}{H:Hp}:∀ (ns:List Int),Reps K ρ H (ns.map V.int) (ns.map D.int)
 | []=>.nil
 | n::ns=>.cons (.int n) (QgN ns)
theorem QgO {K : PySem.W.Frag} {H : Hp} {a : Addr} {ns : List Int} {g : List D -> M D} (hO : Only H) (hS : SqL K H a (ns.map V.int)) (h : ∃ st', g [.lit (ns.map D.int)] [] = .ok (.bl true) st') :
  spOf K 1 g [.ref a] H (fun v _=>v=.bl true) fun _ _ _=>False:=by
 obtain⟨st',e⟩:=h
 have fz:FzL K H a (ns.map V.int):=by
  rcases hS with (h | ⟨o,h⟩) | h
  ·rcases hO a with z | ⟨ob,xs,z⟩<;>(rw[z]at h;cases h)
  ·exact .inl ⟨o,h⟩
  ·exact .inr h
 refine⟨rfl,[],[],_,⟨rfl,List.nodup_nil,fun n b o z=>by cases z⟩,.cons (.lit fz (QgN ns)) .nil,?_⟩
 rw[e]
 intro ρ' H' _ _ v rv
 cases rv
 rfl
@[elab_as_elim] theorem le1 {A:Type}{P:List A->Prop} (h:∀ a,P [a]) (us:List A) (hl:us.length=1):P us:=by
 cases us with
 | nil=>cases hl
 | cons a t=>cases t with
  | nil=>exact h a
  | cons b u=>simp at hl
@[elab_as_elim] theorem le2 {A:Type}{P:List A->Prop} (h:∀ a0 a1,P [a0,a1]) (us:List A) (hl:us.length=2):P us:=by
 cases us with
 | nil=>cases hl
 | cons a t=>exact le1 (P:=fun t=>P (a::t)) (h a) t (Nat.succ.inj hl)
@[elab_as_elim] theorem le3 {A:Type}{P:List A->Prop} (h:∀ a0 a1 a2,P [a0,a1,a2]) (us:List A) (hl:us.length=3):P us:=by
 cases us with
 | nil=>cases hl
 | cons a t=>exact le2 (P:=fun t=>P (a::t)) (h a) t (Nat.succ.inj hl)
def Kt (h h':Heap):Prop:=∀ c o,h.get? c=some o->o.cls=.type "tuple"->h'.get? c=some o
structure TKd (prog:Program) (w:World) (K:Type) [DecidableEq K] where
 is:Heap->K->Addr->Prop
 hash:K->Int
 draws:K->Nat
 keep:∀ {h h':Heap}{k:K}{b:Addr},Kt h h'->is h k b->is h' k b
 hashes:∀ {A:Around}{E:Value->Shared->Prop}{s:Shared}{k:K}{b:Addr}{Q:Int->Shared->Prop},A.units + 1 < cLine->is s.heap k b->Q (hash k) { s with toks:=s.toks + draws k }->wpAny (model prog w) A (pyHash (.ref b)) Q E s
 eqs:∀ {A:Around}{E:Value->Shared->Prop}{s:Shared}{x y:K}{a b:Addr}{Q:Bool->Shared->Prop},A.units + 1 < cLine->is s.heap x a->is s.heap y b->Q (decide (x=y)) s->wpAny (model prog w) A (eqBool (.ref a) (.ref b)) Q E s
 quiet:∀ {A:Around}{E:Value->Shared->Prop}{s:Shared}{k:K}{b:Addr}{Q:Bool->Shared->Prop},is s.heap k b->Q true s->wpAny (model prog w) A (eqIsQuiet 8 (.ref b)) Q E s
 cls:∀ {A:Around}{E:Value->Shared->Prop}{s:Shared}{k:K}{b:Addr}{Q:Bool->Shared->Prop},is s.heap k b->Q false s->wpAny (model prog w) A (ofAClassStatement 8 (.ref b)) Q E s
 byv:∀ {A:Around}{E:Value->Shared->Prop}{s:Shared}{k:K}{b:Addr}{Q:Bool->Shared->Prop},is s.heap k b->Q true s->wpAny (model prog w) A (hashByValue 8 (.ref b)) Q E s
section
variable {prog:Program}{w:World}{K:Type} [DecidableEq K] (T:TKd prog w K)
variable {T}
variable {A:Around}{E:Value->Shared->Prop}{s:Shared}{a:Addr}{led:Bool}{m:Nat}{key:Nat->K}{es:Array (Int × Value)}
end
section
variable {prog:Program}{w:World}{A:Around}{E:Value->Shared->Prop}{s:Shared}
theorem items_int {k:List Int}{vs:List Value} (h:ItemsAre (intKind prog w) k vs):∀ v∈vs,∃ i t,v=Value.int i t:=by
 induction h with
 | nil=>simp
 | cons h1 h2 ih=>
  intro v hv
  rcases List.mem_cons.mp hv with z | z
  ·subst z
   cases v with
   | int i t=>exact⟨i,t,rfl⟩
   | _=>exact nomatch h1
  ·exact ih v z
end
structure RF where
 n:Nat
 k:Nat
 ps:List Str
 kw:Bool
 g:List D->M D
structure RC where
 sc:Scope
 N:List Str
 k:Nat
 G:List (Str × RF)
 Z:List Str
 C:List (Str × D)
 H:List (Nat × Nat × Nat)
 top:Bool
def RC.tag (c:RC) (p:Pos) (t:Nat):Bool:=c.H.contains (p.line,p.col,t)
def RC.glo (c:RC) (x:Str):Bool:=c.sc.names.lookup x == some .globalImplicit
def nokB (x:Str):Bool := !((x == ("__debug__":Str)) || (x == ("__classdict__":Str)) || decide (x=("__name__":Str)))
theorem QgP {x:Str} (h:nokB x=true):NameOk x:=nok (by unfold nokB at h;simpa only[Bool.not_eq_true'] using h)
structure GF (P:Program) (w:World) (K:PySem.W.Frag) (mg:Str->Option Value) (base:Heap) (x:Str) (r:RF):Prop where
 ex:∃ f fd,mg x=some (.ref f)/\FnOk P w K mg base CX0 r.k f fd r.ps (spOf K r.n r.g)/\PySem.W.keepIn K (.ref f)=true/\Binds K fd r.ps []/\(r.kw=true->KwBinds K fd r.ps)
structure Good (X:Cx) (c:RC):Prop where
 S:Sc X c.sc
 N:X.N=c.N
 nd:X.N.Nodup
 hr:Room c.k X.A
 G:∀ x r,c.G.lookup x=some r->GF X.prog X.w X.K X.mg X.base x r
 Z:∀ x,c.Z.contains x=true->X.mg x=none
 C:∀ x d,c.C.lookup x=some d->∃ v u,X.mg x=some u/\RelV v u/\∀ ρ H,Rep X.K ρ H v d
 ps:PassesOwn (model X.prog X.w) X.A X.env X.xe
 kd:c.top=true->X.env.blockKind=.function/\∀ x,X.env.kindOf x=c.sc.names.lookup x
theorem Good.hu {X:Cx}{c:RC} (g:Good X c):X.A.units + 60 < cLine:=QgL g.hr
structure Rec where
 e:RC->Expr->Option CE
 l:RC->Expr->Option CA
 t:RC->Expr->Option CT
 i:RC->Expr->Expr->Option CI
 g:RC->Expr->Option CG
 s:RC->Stmt->Option CS
structure RecOk (q:Rec):Prop where
 e:∀ {X c},Good X c->∀ {x r},q.e c x=some r->SE X x r
 l:∀ {X c},Good X c->∀ {x r},q.l c x=some r->SL X x r
 t:∀ {X c},Good X c->∀ {x r},q.t c x=some r->ST X x r
 i:∀ {X c},Good X c->∀ {tg x r},q.i c tg x=some r->SI X tg x r
 g:∀ {X c},Good X c->∀ {x r},q.g c x=some r->SG X x r
 s:∀ {X c},Good X c->∀ {x r},q.s c x=some r->SS X x r
structure RuE where
 f:Rec->RC->Expr->Option CE
 ok:∀ {q},RecOk q->∀ {X c},Good X c->∀ {x r},f q c x=some r->SE X x r
structure RuL where
 f:Rec->RC->Expr->Option CA
 ok:∀ {q},RecOk q->∀ {X c},Good X c->∀ {x r},f q c x=some r->SL X x r
structure RuT where
 f:Rec->RC->Expr->Option CT
 ok:∀ {q},RecOk q->∀ {X c},Good X c->∀ {x r},f q c x=some r->ST X x r
structure RuI where
 f:Rec->RC->Expr->Expr->Option CI
 ok:∀ {q},RecOk q->∀ {X c},Good X c->∀ {tg x r},f q c tg x=some r->SI X tg x r
structure RuG where
 f:Rec->RC->Expr->Option CG
 ok:∀ {q},RecOk q->∀ {X c},Good X c->∀ {x r},f q c x=some r->SG X x r
structure RuS where
 f:Rec->RC->Stmt->Option CS
 ok:∀ {q},RecOk q->∀ {X c},Good X c->∀ {x r},f q c x=some r->SS X x r
structure Rules where
 e:List RuE
 l:List RuL
 t:List RuT
 i:List RuI
 g:List RuG
 s:List RuS
def fst1 {α β:Type} (f:α->Option β):List α->Option β
 | []=>none
 | a::as=>match f a with
  | some b=>some b
  | none=>fst1 f as
theorem QgQ {α β:Type}{f:α->Option β}{r:β}:∀ {l:List α},fst1 f l=some r->∃ a,f a=some r
 | [],h=>nomatch h
 | a::as,h=>by
  unfold fst1 at h
  cases e:f a with
  | some b=>rw[e]at h;exact⟨a,by rw[e];exact h⟩
  | none=>rw[e]at h;exact QgQ h
def recN (R:Rules):Nat->Rec
 | 0=>⟨fun _ _=>none,fun _ _=>none,fun _ _=>none,fun _ _ _=>none,fun _ _=>none,fun _ _=>none⟩
 | n + 1 => ⟨fun c x => fst1 (fun r => r.f (recN R n) c x) R.e, fun c x => fst1 (fun r => r.f (recN R n) c x) R.l, fun c x => fst1 (fun r => r.f (recN R n) c x) R.t,
   fun c tg x=>fst1 (fun r=>r.f (recN R n) c tg x) R.i,fun c x=>fst1 (fun r=>r.f (recN R n) c x) R.g,fun c x=>fst1 (fun r=>r.f (recN R n) c x) R.s⟩
theorem QgR (R:Rules):∀ n,RecOk (recN R n)
 | 0=>⟨fun _ _ _ h=>(nomatch h),fun _ _ _ h=>(nomatch h),fun _ _ _ h=>(nomatch h),fun _ _ _ _ h=>(nomatch h),fun _ _ _ h=>(nomatch h),fun _ _ _ h=>(nomatch h)⟩
 | n + 1=>by
  have ih:=QgR R n
  exact⟨fun g _ _ h=>let ⟨a,q⟩:=QgQ h;a.ok ih g q,fun g _ _ h=>let ⟨a,q⟩:=QgQ h;a.ok ih g q,fun g _ _ h=>let ⟨a,q⟩:=QgQ h;a.ok ih g q,
   fun g _ _ _ h=>let ⟨a,q⟩:=QgQ h;a.ok ih g q,fun g _ _ h=>let ⟨a,q⟩:=QgQ h;a.ok ih g q,fun g _ _ h=>let ⟨a,q⟩:=QgQ h;a.ok ih g q⟩
def plE:Expr->Bool
 | .Starred .. => false
 | _=>true
theorem QgS {e:Expr}{es:List Expr}{env:Env} (h:plE e=true):starEach (e::es) env=(false,eval e env)::starEach es env:=by
 cases e<;>first | rfl | exact nomatch h
theorem QgT {env:Env}{pos:Pos}:∀ {es:List Expr},es.all plE=true->(backTo pos (starEach es env)).any (·.1)=false
 | [],_=>rfl
 | e::es,h=>by
  rw[List.all_cons,Bool.and_eq_true]at h
  rw[QgS h.1]
  exact QgT h.2
theorem QgU {env:Env}{pos:Pos}:∀ {es:List Expr},es.all plE=true->(backTo pos (starEach es env)).all (fun x => !x.1)=true
 | [],_=>rfl
 | e::es,h=>by
  rw[List.all_cons,Bool.and_eq_true]at h
  rw[QgS h.1]
  exact QgU h.2
def ncE:Expr->Bool
 | .ListComp .. => false
 | .SetComp .. => false
 | .DictComp .. => false
 | _=>true
theorem QgV {e:Expr}{t:Option Expr}{n:Nat}{env:Env} (h:ncE e=true):swapsWith e t n env=pure false:=by
 cases e<;>first | rfl | exact nomatch h
def nsE:Expr->Bool
 | .Set .. => false
 | _=>true
theorem QgW {e:Expr}{env:Env} (h:nsE e=true) (x:Value):foldedSetIterable e env x=pure x:=by
 cases e<;>first | rfl | exact nomatch h
theorem QgX {op:CmpOp}{e:Expr} (h:nsE e=true):behindInMarks op e=false:=by
 cases e<;>first | rfl | exact nomatch h
def baE:Expr->Bool
 | .Call _ [] _ _=>false
 | _=>true
theorem QgY {e:Expr}{x:Str}{env:Env}{w:Sem Value} (h:baE e=true):attributeBase e x env w=w:=by
 cases e with
 | Call f as ks p=>
  cases as with
  | nil=>exact nomatch h
  | cons a as=>unfold attributeBase;cases f<;>rfl
 | _=>rfl
def slE:Expr->Bool
 | .Slice .. => false
 | _=>true
theorem plix {e:Expr} (h:slE e=true):PlainIx e:=by
 intro o i
 cases e<;>first | rfl | exact nomatch h
def tvE:Expr->Bool
 | .Compare .. => false
 | .BoolOp .. => false
 | .UnaryOp .. => false
 | .IfExp .. => false
 | _=>true
theorem tv0 {e:Expr}{env:Env} (h:tvE e=true) (w:Sem Value):PySem.isTrue e env w=(do let v <- w;standAt e.pos;holding [v] (truthy v)):=by
 cases e<;>first | rfl | exact nomatch h
def argC (q:Rec) (c:RC):List Expr->Option CA
 | []=>some cNil
 | e::es=>if plE e=true then (q.e c e).bind fun fa=>(argC q c es).bind fun ca=>some (cCons fa ca) else none
theorem QgZ {q:Rec} (hq:RecOk q) {X:Cx}{c:RC} (g:Good X c):∀ {es:List Expr}{ca:CA},argC q c es=some ca->SA X es ca/\es.all plE=true/\∀ l st ds st',ca l st=.ok ds st'->ds.length=es.length
 | [],ca,h=>by
  cases h;exact⟨Qd8,rfl,QgJ⟩
 | e::es,ca,h=>by
  unfold argC at h
  rw[Option.ite_none_right_eq_some]at h
  obtain⟨hp,h⟩:=h
  rw[Option.bind_eq_some_iff]at h
  obtain⟨fa,ha,h⟩:=h
  rw[Option.bind_eq_some_iff]at h
  obtain⟨cb,hb,h⟩:=h
  cases h
  obtain⟨x,y,z⟩:=QgZ hq g hb
  exact⟨Qd9 (hq.e g ha) x (QgS hp),by rw[List.all_cons,hp,y];rfl,QgI z⟩
def optC (q:Rec) (c:RC):Option Expr->Option CO
 | none=>some oNone
 | some e=>(q.e c e).bind fun f=>some (oSome f)
theorem Qg0 {q:Rec} (hq:RecOk q) {X:Cx}{c:RC} (g:Good X c) {e:Option Expr}{f:CO} (h:optC q c e=some f):SO X e f:=by
 cases e with
 | none=>cases h;exact QfC
 | some e=>
  unfold optC at h
  rw[Option.bind_eq_some_iff]at h
  obtain⟨fa,ha,h⟩:=h
  cases h
  exact QfD (hq.e g ha)
def blkC (q:Rec) (c:RC):List Stmt->Option CS
 | []=>some sNext
 | s::ss=>(q.s c s).bind fun a=>(blkC q c ss).bind fun b=>some (sSeq a b)
theorem Qg1 {q:Rec} (hq:RecOk q) {X:Cx}{c:RC} (g:Good X c):∀ {ss:List Stmt}{f:CS},blkC q c ss=some f->SSs X ss f
 | [],f,h=>by cases h;exact QeA
 | s::ss,f,h=>by
  unfold blkC at h
  rw[Option.bind_eq_some_iff]at h
  obtain⟨fa,ha,h⟩:=h
  rw[Option.bind_eq_some_iff]at h
  obtain⟨cb,hb,h⟩:=h
  cases h
  exact QeB (hq.s g ha) (Qg1 hq g hb)
def varC (c:RC) (x:Str):Option Nat:=if c.N[c.N.idxOf x]?=some x/\(c.sc.names.lookup x=some .local\/c.sc.names.lookup x=some .cell\/c.sc.names.lookup x=some .free)/\nokB x=true then some (c.N.idxOf x) else none
def rVar:RuE:=⟨fun _ c e=>match e with
 | .Name x _=>(varC c x).bind fun i=>some (cVar i)
 | _=>none,fun {q} hq {X c} g {e r} h=>by
 split at h
 ·rename_i x p
  rw[Option.bind_eq_some_iff]at h
  obtain⟨i,hi,h⟩:=h
  cases h
  unfold varC at hi
  rw[Option.ite_none_right_eq_some]at hi
  obtain⟨⟨h1,h2,h3⟩,h4⟩:=hi
  cases h4
  have h1:X.N[c.N.idxOf x]?=some x:=by rw[g.N];exact h1
  rcases h2 with h2 | h2 | h2
  ·exact QgE g.S _ h1 h2 (QgP h3) (.inl rfl)
  ·exact QgE g.S _ h1 h2 (QgP h3) (.inr (.inl rfl))
  ·exact QgE g.S _ h1 h2 (QgP h3) (.inr (.inr rfl))
 ·cases h⟩
def rGlob:RuE:=⟨fun _ c e=>match e with
 | .Name x _=>if c.glo x=true/\nokB x=true then (c.C.lookup x).bind fun d=>some (cCon d) else none
 | _=>none,fun {q} hq {X c} g {e r} h=>by
 split at h
 ·rw[Option.ite_none_right_eq_some,Option.bind_eq_some_iff]at h
  obtain⟨⟨h1,h2⟩,d,hd,h⟩:=h
  cases h
  obtain⟨v,u,a,b,k⟩:=g.C _ _ hd
  exact QgH g.S (beq_iff_eq.mp h1) a b (QgP h2) k
 ·cases h⟩
def rInt:RuE:=⟨fun _ _ e=>match e with
 | .Constant (.int i) _ _=>some (cCon (.int i))
 | _=>none,fun {q} hq {X c} g {e r} h=>by
 split at h
 ·cases h;exact Qdc
 ·cases h⟩
def rStr:RuE:=⟨fun _ _ e=>match e with
 | .Constant (.str i) _ _=>some (cCon (.str i))
 | _=>none,fun {q} hq {X c} g {e r} h=>by
 split at h
 ·cases h;exact Qdf
 ·cases h⟩
def rBl:RuE:=⟨fun _ _ e=>match e with
 | .Constant (.bool i) _ _=>some (cCon (.bl i))
 | _=>none,fun {q} hq {X c} g {e r} h=>by
 split at h
 ·cases h;exact Qdd
 ·cases h⟩
def rNon:RuE:=⟨fun _ _ e=>match e with
 | .Constant .none _ _=>some (cCon .non)
 | _=>none,fun {q} hq {X c} g {e r} h=>by
 split at h
 ·cases h;exact Qde
 ·cases h⟩
def rKeep:RuE:=⟨fun q c e=>(q.l c e).bind fun a=>some (cKeep a),fun {q} hq {X c} g {e r} h=>by
 rw[Option.bind_eq_some_iff]at h
 obtain⟨a,ha,h⟩:=h
 cases h
 exact Qec (hq.l g ha)⟩
abbrev OpU (op:Operator) (f:D->D->M D):Prop:=∀ {X:Cx},X.A.units + 60 < cLine->OpR X (binaryOp op) (rOf X.K f)
abbrev CmU (op:CmpOp) (f:D->D->M D):Prop:=∀ {X:Cx},X.A.units + 60 < cLine->OpR X (compareOp op) (rOf X.K f)
def rOp (o:Operator) (f:D->D->M D) (h:OpU o f):RuE:=⟨fun q c e=>match e with
 | .BinOp a op b _=>if op=o then (q.e c a).bind fun fa=>(q.e c b).bind fun fb=>some (c2 f fa fb) else none
 | _=>none,fun {q} hq {X c} g {e r} z=>by
 split at z
 ·simp only[Option.ite_none_right_eq_some,Option.bind_eq_some_iff]at z
  obtain⟨rfl,fa,ha,fb,hb,z⟩:=z
  cases z
  exact Qdh (h g.hu) (hq.e g ha) (hq.e g hb)
 ·cases z⟩
structure RuC where
 f:Rec->RC->Expr->Option CE
 ok:∀ {q},RecOk q->∀ {X c},Good X c->∀ {x r},f q c x=some r->SE X x r/\ST X x (tCmpB r)
def RuC.e (r:RuC):RuE:=⟨r.f,fun hq _ _ g _ _ h=>(r.ok hq g h).1⟩
def RuC.t (r:RuC):RuT:=⟨fun q c e=>(r.f q c e).bind fun f=>some (tCmpB f),fun {q} hq {X c} g {e x} h=>by
 rw[Option.bind_eq_some_iff]at h
 obtain⟨f,hf,h⟩:=h
 cases h
 exact (r.ok hq g hf).2⟩
def rCmp (o:CmpOp) (f:D->D->M D) (h:CmU o f):RuC:=⟨fun q c e=>match e with
 | .Compare a [op] [b] _=>if op=o/\nsE b=true then (q.e c a).bind fun fa=>(q.e c b).bind fun fb=>some (c2 f fa fb) else none
 | _=>none,fun {q} hq {X c} g {e r} z=>by
 split at z
 ·simp only[Option.ite_none_right_eq_some,Option.bind_eq_some_iff]at z
  obtain⟨⟨rfl,hb0⟩,fa,ha,fb,hb,z⟩:=z
  cases z
  exact⟨Qdi (h g.hu) (hq.e g ha) (hq.e g hb) (QgX hb0),Qek (h g.hu) (hq.e g ha) (hq.e g hb) (QgX hb0)⟩
 ·cases z⟩
def rCmpH (t:Nat) (o:CmpOp) (f:D->D->M D) (h:CmU o f):RuC:=⟨fun q c e=>match e with
 | .Compare a [op] [b] p=>if c.tag p t=true then (rCmp o f h).f q c (.Compare a [op] [b] p) else none
 | _=>none,fun {q} hq {X c} g {e r} z=>by
 split at z
 ·rw[Option.ite_none_right_eq_some]at z
  exact (rCmp o f h).ok hq g z.2
 ·cases z⟩
def rChain (o:CmpOp) (f:D->D->M D) (h:CmU o f) (o':CmpOp) (f':D->D->M D) (h':CmU o' f'):RuC:=⟨fun q c e=>match e with
 | .Compare a [op,op'] [b,d] _=>if op=o/\op'=o'/\nsE d=true then (q.e c a).bind fun fa=>(q.e c b).bind fun fb=>(q.e c d).bind fun fc=>some (cChain f f' fa fb fc) else none
 | _=>none,fun {q} hq {X c} g {e r} z=>by
 split at z
 ·simp only[Option.ite_none_right_eq_some,Option.bind_eq_some_iff]at z
  obtain⟨⟨rfl,rfl,hb0⟩,fa,ha,fb,hb,fc,hc,z⟩:=z
  cases z
  exact⟨Qeu (h g.hu) (h' g.hu) (hq.e g ha) (hq.e g hb) (hq.e g hc) (show behindInMarks _ _=false from QgX hb0),Qev (h g.hu) (h' g.hu) (hq.e g ha) (hq.e g hb) (hq.e g hc) (show behindInMarks _ _=false from QgX hb0)⟩
 ·cases z⟩
def rAnd:RuE:=⟨fun q c e=>match e with
 | .BoolOp .And [a,b] _=>(q.e c a).bind fun fa=>(q.e c b).bind fun fb=>some (cAnd fa fb)
 | .BoolOp .And (a::b::d::r) p=>(q.e c a).bind fun fa=>(q.e c (.BoolOp .And (b::d::r) p)).bind fun fb=>some (cAnd fa fb)
 | _=>none,fun {q} hq {X c} g {e r} z=>by
 split at z
 ·simp only[Option.bind_eq_some_iff]at z
  obtain⟨fa,ha,fb,hb,z⟩:=z
  cases z
  exact Qer (hq.e g ha) (Qeq (hq.e g hb))
 ·simp only[Option.bind_eq_some_iff]at z
  obtain⟨fa,ha,fb,hb,z⟩:=z
  cases z
  exact Qer (hq.e g ha) (hq.e g hb)
 ·cases z⟩
def rNot:RuE:=⟨fun q c e=>match e with
 | .UnaryOp .Not a _=>(q.e c a).bind fun fa=>some (cNot fa)
 | _=>none,fun {q} hq {X c} g {e r} z=>by
 split at z
 ·simp only[Option.bind_eq_some_iff]at z
  obtain⟨fa,ha,z⟩:=z
  cases z
  exact Qes (hq.e g ha)
 ·cases z⟩
def rNeg:RuE:=⟨fun q c e=>match e with
 | .UnaryOp .USub a _=>(q.e c a).bind fun fa=>some (c1 negD fa)
 | _=>none,fun {q} hq {X c} g {e r} z=>by
 split at z
 ·simp only[Option.bind_eq_some_iff]at z
  obtain⟨fa,ha,z⟩:=z
  cases z
  exact QfT QfS (hq.e g ha)
 ·cases z⟩
def rTup:RuE:=⟨fun q c e=>match e with
 | .Tuple es _ _=>(argC q c es).bind fun ca=>some (cTup ca)
 | _=>none,fun {q} hq {X c} g {e r} z=>by
 split at z
 ·simp only[Option.bind_eq_some_iff]at z
  obtain⟨ca,ha,z⟩:=z
  cases z
  exact Qea (QgZ hq g ha).1
 ·cases z⟩
def rSub:RuE:=⟨fun q c e=>match e with
 | .Subscript a b _=>if slE b=true then (q.e c a).bind fun fa=>(q.e c b).bind fun fb=>some (c2 subsD fa fb) else none
 | _=>none,fun {q} hq {X c} g {e r} z=>by
 split at z
 ·simp only[Option.ite_none_right_eq_some,Option.bind_eq_some_iff]at z
  obtain⟨hs,fa,ha,fb,hb,z⟩:=z
  cases z
  exact Qeg g.hu (hq.e g ha) (hq.e g hb) (plix hs)
 ·cases z⟩
abbrev Few (X:Cx) (cpos:Pos) (es:List Expr):Prop:=((backTo cpos (starEach es X.env)).all (fun x => !x.1) && (backToKw cpos (keywordEach [] X.env)).all (fun x=>x.1.isSome) && decide (es.length + ([]:List Keyword).length + (if ([]:List Keyword).isEmpty then 0 else 1) < 30))=true
theorem few1 {X:Cx}{cpos:Pos}{es:List Expr} (h:es.all plE=true) (hl:es.length < 30):Few X cpos es:=by
 unfold Few
 rw[QgU h]
 exact (Bool.and_eq_true _ _).mpr ⟨rfl,decide_eq_true hl⟩
def meth1 (x : String) (f : CE -> CE -> CE) (ok : RC -> Pos -> Bool) (h : ∀ {X : Cx} {o e : Expr} {fa fb : CE} {apos cpos : Pos}, X.A.units + 60 < cLine -> SE X o fa -> SE X e fb -> attributeBase o (Str.ofString x) X.env (eval o X.env) = eval o X.env -> Few X cpos [e] -> (apos.endLine == cpos.line) = true ->
  starEach [e] X.env=(false,eval e X.env)::starEach [] X.env->(backTo cpos (starEach [] X.env)).any (·.1)=false->SE X (.Call (.Attribute o (Str.ofString x) apos) [e] [] cpos) (f fa fb)):RuE:=
 ⟨fun q c e=>match e with
 | .Call (.Attribute o y ap) [a] [] cp=>if y=Str.ofString x/\baE o=true/\plE a=true/\ok c cp=true/\(ap.endLine == cp.line)=true then (q.e c o).bind fun fa=>(q.e c a).bind fun fb=>some (f fa fb) else none
 | _=>none,fun {q} hq {X c} g {e r} z=>by
 split at z
 ·simp only[Option.ite_none_right_eq_some,Option.bind_eq_some_iff]at z
  obtain⟨⟨rfl,hb,hp,_,hl⟩,fa,ha,fb,hb',z⟩:=z
  cases z
  exact h g.hu (hq.e g ha) (hq.e g hb') (QgY hb) (few1 (by simp[hp]) (by simp)) hl (QgS hp) rfl
 ·cases z⟩
def rCall:RuE:=⟨fun q c e=>match e with
 | .Call (.Name x _) (a::as) [] _=>(c.G.lookup x).bind fun r=>if c.glo x=true/\nokB x=true/\r.k<=c.k/\r.n=(a::as).length then (argC q c (a::as)).bind fun ca=>some (cCall r.g ca) else none
 | _=>none,fun {q} hq {X c} g {e r} z=>by
 split at z
 ·simp only[Option.ite_none_right_eq_some,Option.bind_eq_some_iff]at z
  obtain⟨rf,hf,⟨h1,h2,h3,h4⟩,ca,ha,z⟩:=z
  cases z
  obtain⟨f,fd,m,F,kp,B,_⟩:=(g.G _ _ hf).ex
  obtain⟨x,y,l⟩:=QgZ hq g ha
  rw[List.all_cons,Bool.and_eq_true]at y
  exact QgK g.S (beq_iff_eq.mp h1) F (g.hr.mono h3) m kp B (QgP h2) x (by rw[h4];exact l) (QgS y.1) (QgT y.2)
 ·cases z⟩
def RC.bl (c:RC) (x:Str):Bool:=c.glo x && c.Z.contains x
theorem Good.gl {X:Cx}{c:RC} (g:Good X c) {x:Str} (h:c.bl x=true):Gl X x/\X.mg x=none:=by
 unfold RC.bl at h
 rw[Bool.and_eq_true]at h
 exact⟨g.S.glo _ (beq_iff_eq.mp h.1),g.Z _ h.2⟩
def bltTmp (x:String) (f:List D->M D) (h:∀ {X:Cx}{e:Expr}{ca:CA}{p pos:Pos},X.calm=true->Gl X (Str.ofString x)->X.mg (Str.ofString x)=none->SL X e ca->starEach [e] X.env=[(false,eval e X.env)]->SE X (.Call (.Name (Str.ofString x) p) [e] [] pos) (cTmp f ca)):RuE:=
 ⟨fun q c e=>match e with
 | .Call (.Name y _) [a] [] _=>if y=Str.ofString x/\c.bl y=true/\plE a=true then (q.l c a).bind fun fa=>some (cTmp f fa) else none
 | _=>none,fun {q} hq {X c} g {e r} z=>by
 split at z
 ·simp only[Option.ite_none_right_eq_some,Option.bind_eq_some_iff]at z
  obtain⟨⟨rfl,hb,hp⟩,fa,ha,z⟩:=z
  cases z
  exact h g.S.calm (g.gl hb).1 (g.gl hb).2 (hq.l g ha) (QgS hp)
 ·cases z⟩
def blt1 (x:String) (ok:RC->Pos->Bool) (f:D->M D) (h:∀ {X:Cx}{e:Expr}{fa:CE}{p pos:Pos},X.calm=true->Gl X (Str.ofString x)->X.mg (Str.ofString x)=none->SE X e fa->starEach [e] X.env=[(false,eval e X.env)]->SE X (.Call (.Name (Str.ofString x) p) [e] [] pos) (c1 f fa)):RuE:=
 ⟨fun q c e=>match e with
 | .Call (.Name y _) [a] [] p=>if y=Str.ofString x/\c.bl y=true/\plE a=true/\ok c p=true then (q.e c a).bind fun fa=>some (c1 f fa) else none
 | _=>none,fun {q} hq {X c} g {e r} z=>by
 split at z
 ·simp only[Option.ite_none_right_eq_some,Option.bind_eq_some_iff]at z
  obtain⟨⟨rfl,hb,hp,_⟩,fa,ha,z⟩:=z
  cases z
  exact h g.S.calm (g.gl hb).1 (g.gl hb).2 (hq.e g ha) (QgS hp)
 ·cases z⟩
def rIsi (y:String) (T:TyTab y) (h:bootBuiltins (Str.ofString y)=some (.type y)) (n1:Str.ofString y≠Str.ofString "__name__") (n2:(Str.ofString y == Str.ofString "__debug__")=false):RuE:=
 ⟨fun q c e=>match e with
 | .Call (.Name z _) [a,.Name x _] [] p=>if z=Str.ofString "isinstance"/\x=Str.ofString y/\c.bl z=true/\c.bl x=true/\plE a=true then (q.e c a).bind fun fa=>some (c1 (isInst [y]) fa) else none
 | _=>none,fun {q} hq {X c} g {e r} z=>by
 split at z
 ·simp only[Option.ite_none_right_eq_some,Option.bind_eq_some_iff]at z
  obtain⟨⟨rfl,rfl,hb,hb2,hp⟩,fa,ha,z⟩:=z
  cases z
  exact Qfo T (g.gl hb).1 (g.gl hb).2 (g.gl hb2).1 (g.gl hb2).2 h (hq.e g ha) (by nofun) n1 n2 (QgS hp) rfl rfl
 ·cases z⟩
section
def lLst:RuL:=⟨fun q c e=>match e with
 | .List es _=>(argC q c es).bind fun ca=>some (aDisp ca)
 | _=>none,fun {q} hq {X c} g {e r} z=>by
 split at z
 ·simp only[Option.bind_eq_some_iff]at z
  obtain⟨ca,ha,z⟩:=z
  cases z
  exact Qeb (QgZ hq g ha).1
 ·cases z⟩
def lSlice:RuL:=⟨fun q c e=>match e with
 | .Subscript a (.Slice lo hi none _) p=>if c.tag p 1=false then (q.e c a).bind fun fa=>(optC q c lo).bind fun fl=>(optC q c hi).bind fun fh=>some (aSlice fa fl fh) else none
 | _=>none,fun {q} hq {X c} g {e r} z=>by
 split at z
 ·simp only[Option.ite_none_right_eq_some,Option.bind_eq_some_iff]at z
  obtain⟨_,fa,ha,fl,hl,fh,hh,z⟩:=z
  cases z
  exact QfE (hq.e g ha) (Qg0 hq g hl) (Qg0 hq g hh)
 ·cases z⟩
def tgN:Nat->Expr->List Str
 | _,.Name x _=>[x]
 | n + 1,.Tuple es _ _=>es.flatMap (tgN n)
 | _,_=>[]
def ifsC (q:Rec) (c:RC):List Expr->Option CT
 | []=>some tTrue
 | [t]=>q.t c t
 | _=>none
theorem Qg2 {q:Rec} (hq:RecOk q) {X:Cx}{c:RC} (g:Good X c) {es:List Expr}{f:CT} (h:ifsC q c es=some f):SIfs X es f:=by
 unfold ifsC at h
 split at h
 ·cases h;exact QeV
 ·exact QeW (hq.t g h)
 ·cases h
def RC.inn (c:RC) (sc:Scope) (own:List Str):RC:={ c with sc:=sc,N:=own++c.N.filter fun x=>sc.names.lookup x == some .free,top:=false }
def RC.ix (c:RC) (sc:Scope):List Nat:=(c.N.filter fun x=>sc.names.lookup x == some .free).map c.N.idxOf
def RC.cok (c:RC) (sc:Scope) (own:List Str) (b:Expr):Prop:=compChk c.sc sc=true/\namesChk c.N sc (c.inn sc own).N own.length (c.ix sc)=true/\(c.inn sc own).N.Nodup/\nsE b=true
instance (c:RC) (sc:Scope) (own:List Str) (b:Expr):Decidable (c.cok sc own b):=by unfold RC.cok;infer_instance
theorem Good.inn {X:Cx}{c:RC} (g:Good X c) {sc:Scope}{own:List Str}{b:Expr} (h:c.cok sc own b) (fp:List Addr) (s:Shared) (H:Hp):Good (cxC X (c.inn sc own).N sc fp s H) (c.inn sc own):=
 ⟨QgB g.S.calm,rfl,h.2.2.1,g.hr,fun x r z=>⟨(g.G x r z).ex⟩,g.Z,g.C,PassesOwn.never,fun z=>nomatch z⟩
def cmpC (q:Rec) (c:RC):Expr->Option (Nat × List Nat × CI × CG × CT × CE)
 | .ListComp e [⟨tg,b,ifs,0⟩] sc _=>
  if c.cok sc (tgN 8 tg).eraseDups b then
   (q.i c tg b).bind fun ci=>(q.g (c.inn sc (tgN 8 tg).eraseDups) tg).bind fun g=>(ifsC q (c.inn sc (tgN 8 tg).eraseDups) ifs).bind fun t=>(q.e (c.inn sc (tgN 8 tg).eraseDups) e).bind fun f=>
    some ((tgN 8 tg).eraseDups.length,c.ix sc,ci,g,t,f)
  else none
 | _=>none
def lComp:RuL:=⟨fun q c e=>(cmpC q c e).bind fun p=>some (aComp p.1 p.2.1 p.2.2.1 p.2.2.2.1 p.2.2.2.2.1 p.2.2.2.2.2),fun {q} hq {X c} g {e r} z=>by
 rw[Option.bind_eq_some_iff]at z
 obtain⟨p,hp,z⟩:=z
 cases z
 unfold cmpC at hp
 split at hp
 ·simp only[Option.ite_none_right_eq_some,Option.bind_eq_some_iff]at hp
  obtain⟨hk,ci,hi,gg,hg,t,ht,f,hf,z⟩:=hp
  cases z
  exact QeY g.S.calm (QgC g.S hk.1) (QgD g.N hk.2.1) (hq.i g hi) (fun fp s H=>⟨hq.g (g.inn hk fp s H) hg,Qg2 hq (g.inn hk fp s H) ht,hq.e (g.inn hk fp s H) hf⟩) (QgW hk.2.2.2)
 ·cases hp⟩
def tAnds (q:Rec) (c:RC):List Expr->Option CT
 | []=>none
 | [a]=>q.t c a
 | a::b::r=>(q.t c a).bind fun fa=>(tAnds q c (b::r)).bind fun fb=>some (tAndB fa fb)
theorem Qg3 {q:Rec} (hq:RecOk q) {X:Cx}{c:RC} (g:Good X c) {pos:Pos}:∀ {es:List Expr}{f:CT},tAnds q c es=some f->PW X (.BoolOp .And es pos) (ttOf X.K f)
 | [],f,h=>nomatch h
 | [a],f,h=>Qel (hq.t g h)
 | a::b::r,f,h=>by
  unfold tAnds at h
  simp only[Option.bind_eq_some_iff]at h
  obtain⟨fa,ha,fb,hb,z⟩:=h
  cases z
  exact Qen (hq.t g ha) (Qg3 hq g hb)
def tOrs (q:Rec) (c:RC):List Expr->Option CT
 | []=>none
 | [a]=>q.t c a
 | a::b::r=>(q.t c a).bind fun fa=>(tOrs q c (b::r)).bind fun fb=>some (tOrB fa fb)
theorem Qg4 {q:Rec} (hq:RecOk q) {X:Cx}{c:RC} (g:Good X c) {pos:Pos}:∀ {es:List Expr}{f:CT},tOrs q c es=some f->PW X (.BoolOp .Or es pos) (ttOf X.K f)
 | [],f,h=>nomatch h
 | [a],f,h=>Qem (hq.t g h)
 | a::b::r,f,h=>by
  unfold tOrs at h
  simp only[Option.bind_eq_some_iff]at h
  obtain⟨fa,ha,fb,hb,z⟩:=h
  cases z
  exact Qeo (hq.t g ha) (Qg4 hq g hb)
def tAnd:RuT:=⟨fun q c e=>match e with
 | .BoolOp .And es _=>tAnds q c es
 | _=>none,fun {q} hq {X c} g {e r} z=>by
 split at z
 ·exact L2.PW.pt (Qg3 hq g z)
 ·cases z⟩
def tOr:RuT:=⟨fun q c e=>match e with
 | .BoolOp .Or es _=>tOrs q c es
 | _=>none,fun {q} hq {X c} g {e r} z=>by
 split at z
 ·exact L2.PW.pt (Qg4 hq g z)
 ·cases z⟩
def tNot:RuT:=⟨fun q c e=>match e with
 | .UnaryOp .Not a _=>(q.t c a).bind fun f=>some (tNotB f)
 | _=>none,fun {q} hq {X c} g {e r} z=>by
 split at z
 ·simp only[Option.bind_eq_some_iff]at z
  obtain⟨fa,ha,z⟩:=z
  cases z
  exact Qep (hq.t g ha)
 ·cases z⟩
def tVl:RuT:=⟨fun q c e=>if tvE e=true then (q.e c e).bind fun f=>some (tVal f) else none,fun {q} hq {X c} g {e r} z=>by
 simp only[Option.ite_none_right_eq_some,Option.bind_eq_some_iff]at z
 obtain⟨hv,fa,ha,z⟩:=z
 cases z
 exact Qej (hq.e g ha) (tv0 hv)⟩
def iRange1:RuI:=⟨fun q c tg e=>match e with
 | .Call (.Name x _) [a] [] _=>if x=Str.ofString "range"/\c.bl x=true/\plE a=true then (q.e c a).bind fun f=>some (MM.iRng1 f) else none
 | _=>none,fun {q} hq {X c} g {tg e r} z=>by
 split at z
 ·simp only[Option.ite_none_right_eq_some,Option.bind_eq_some_iff]at z
  obtain⟨⟨rfl,h1,hp⟩,fa,ha,z⟩:=z
  cases z
  exact QeS (g.gl h1).1 (g.gl h1).2 (hq.e g ha) (QgS hp)
 ·cases z⟩
def iRange2:RuI:=⟨fun q c tg e=>match e with
 | .Call (.Name x _) [a,b] [] _=>if x=Str.ofString "range"/\c.bl x=true/\plE a=true/\plE b=true then (q.e c a).bind fun f=>(q.e c b).bind fun h=>some (MM.iRng2 f h) else none
 | _=>none,fun {q} hq {X c} g {tg e r} z=>by
 split at z
 ·simp only[Option.ite_none_right_eq_some,Option.bind_eq_some_iff]at z
  obtain⟨⟨rfl,h1,hp,hp2⟩,fa,ha,fb,hb,z⟩:=z
  cases z
  exact QfV (g.gl h1).1 (g.gl h1).2 (hq.e g ha) (hq.e g hb) (QgS hp) (QgS hp2) (by rw[QgS hp,QgS hp2];rfl) (QgS hp2)
 ·cases z⟩
def iZipTr (t:Bool):RuI:=⟨fun q c tg e=>match tg,e with
 | .Tuple _ _ _,.Call (.Name x _) [a,b] [] p=>if x=Str.ofString "zip"/\c.bl x=true/\plE a=true/\plE b=true/\c.tag p 7=t then (q.e c a).bind fun f=>(q.e c b).bind fun h=>some (iZipT f h) else none
 | _,_=>none,fun {q} hq {X c} g {tg e r} z=>by
 split at z
 ·simp only[Option.ite_none_right_eq_some,Option.bind_eq_some_iff]at z
  obtain⟨⟨rfl,h1,hp,hp2,_⟩,fa,ha,fb,hb,z⟩:=z
  cases z
  exact Qf6 (g.gl h1).1 (g.gl h1).2 (hq.e g ha) (hq.e g hb) (QgS hp) (QgS hp2) (by rw[QgS hp,QgS hp2];rfl) (QgS hp2)
 ·cases z⟩
def iEnumr:RuI:=⟨fun q c tg e=>match tg,e with
 | .Tuple _ _ _,.Call (.Name x _) [a] [] _=>if x=Str.ofString "enumerate"/\c.bl x=true/\plE a=true then (q.e c a).bind fun f=>some (iEnum f) else none
 | _,_=>none,fun {q} hq {X c} g {tg e r} z=>by
 split at z
 ·simp only[Option.ite_none_right_eq_some,Option.bind_eq_some_iff]at z
  obtain⟨⟨rfl,h1,hp⟩,fa,ha,z⟩:=z
  cases z
  exact QfL (g.gl h1).1 (g.gl h1).2 (hq.e g ha) (QgS hp)
 ·cases z⟩
def iSeqr:RuI:=⟨fun q c tg e=>(q.e c e).bind fun f=>some (iSeq f),fun {q} hq {X c} g {tg e r} z=>by
 rw[Option.bind_eq_some_iff]at z
 obtain⟨fa,ha,z⟩:=z
 cases z
 exact QeR (hq.e g ha)⟩
def tgC (c:RC) (x:Str):Option Nat:=if c.N[c.N.idxOf x]?=some x/\(c.sc.names.lookup x=some .local\/c.sc.names.lookup x=some .cell) then some (c.N.idxOf x) else none
theorem Qg5 {X:Cx}{c:RC} (g:Good X c) {x:Str}{i:Nat} (h:tgC c x=some i):X.N[i]?=some x/\∃ k,c.sc.names.lookup x=some k/\(k=.local\/k=.cell):=by
 unfold tgC at h
 rw[Option.ite_none_right_eq_some]at h
 obtain⟨⟨h1,h2⟩,h4⟩:=h
 cases h4
 refine⟨by rw[g.N];exact h1,?_⟩
 rcases h2 with h2 | h2
 ·exact⟨_,h2,.inl rfl⟩
 ·exact⟨_,h2,.inr rfl⟩
def gVr:RuG:=⟨fun q c e=>match e with
 | .Name x _=>(tgC c x).bind fun i=>some (gVar i)
 | _=>none,fun {q} hq {X c} g {e r} z=>by
 split at z
 ·rw[Option.bind_eq_some_iff]at z
  obtain⟨i,hi,z⟩:=z
  cases z
  obtain⟨h1,k,h2,h3⟩:=Qg5 g hi
  exact QgF g.S _ g.nd h1 h2 h3
 ·cases z⟩
def tgs (q:Rec) (c:RC):List Expr->Option (List D->Loc->M Loc)
 | []=>some gsNil
 | e::es=>if plE e=true then (q.g c e).bind fun a=>(tgs q c es).bind fun b=>some (gsCons a b) else none
theorem Qg6 {q:Rec} (hq:RecOk q) {X:Cx}{c:RC} (g:Good X c):∀ {es:List Expr}{f:List D->Loc->M Loc},tgs q c es=some f->SGs X es f/\(assignEach es X.env).length=es.length/\(assignEach es X.env).findIdx? (·.1)=none
 | [],f,h=>by cases h;exact⟨Qex,rfl,rfl⟩
 | e::es,f,h=>by
  unfold tgs at h
  simp only[Option.ite_none_right_eq_some,Option.bind_eq_some_iff]at h
  obtain⟨hp,fa,ha,fb,hb,z⟩:=h
  cases z
  obtain⟨a,b,d⟩:=Qg6 hq g hb
  have eq:assignEach (e::es) X.env=(false,assign e X.env)::assignEach es X.env:=by
   cases e<;>first | rfl | exact nomatch hp
  refine⟨Qey (hq.g g ha) a (by rw[eq];rfl),by rw[eq];exact congrArg (· + 1) b,?_⟩
  rw[eq,List.findIdx?_cons,d]
  rfl
def gTupr:RuG:=⟨fun q c e=>match e with
 | .Tuple es _ _=>(tgs q c es).bind fun f=>some (gTupD es.length f)
 | _=>none,fun {q} hq {X c} g {e r} z=>by
 split at z
 ·rw[Option.bind_eq_some_iff]at z
  obtain⟨f,hf,z⟩:=z
  cases z
  obtain⟨a,b,d⟩:=Qg6 hq g hf
  exact Qez g.S.calm a b d
 ·cases z⟩
def gSubr:RuG:=⟨fun q c e=>match e with
 | .Subscript o i _=>if slE i=true then (q.e c o).bind fun f=>(q.e c i).bind fun h=>some (gSubD f h) else none
 | _=>none,fun {q} hq {X c} g {e r} z=>by
 split at z
 ·simp only[Option.ite_none_right_eq_some,Option.bind_eq_some_iff]at z
  obtain⟨hs,fa,ha,fb,hb,z⟩:=z
  cases z
  rename_i o i p
  exact QeL g.hu (hq.e g ha) (hq.e g hb) (fun v=>by cases i<;>first | rfl | exact nomatch hs)
 ·cases z⟩
def sRetr:RuS:=⟨fun q c e=>match e with
 | .Return (some a) _=>(q.e c a).bind fun f=>some (sRet f)
 | _=>none,fun {q} hq {X c} g {e r} z=>by
 split at z
 ·rw[Option.bind_eq_some_iff]at z
  obtain⟨f,hf,z⟩:=z
  cases z
  exact QeD (hq.e g hf)
 ·cases z⟩
def sExpr:RuS:=⟨fun q c e=>match e with
 | .Expr a _=>if ncE a=true then (q.e c a).bind fun f=>some (sExp f) else none
 | _=>none,fun {q} hq {X c} g {e r} z=>by
 split at z
 ·simp only[Option.ite_none_right_eq_some,Option.bind_eq_some_iff]at z
  obtain⟨hn,f,hf,z⟩:=z
  cases z
  exact QeE (hq.e g hf) (QgV hn)
 ·cases z⟩
def sRaiser:RuS:=⟨fun q c e=>match e with
 | .Raise .. => some sBad
 | _=>none,fun {q} hq {X c} g {e r} z=>by
 split at z
 ·cases z;exact QeC
 ·cases z⟩
def sIfr:RuS:=⟨fun q c e=>match e with
 | .If t a b _=>(q.t c t).bind fun ft=>(blkC q c a).bind fun fa=>(blkC q c b).bind fun fb=>some (sIf ft fa fb)
 | _=>none,fun {q} hq {X c} g {e r} z=>by
 split at z
 ·simp only[Option.bind_eq_some_iff]at z
  obtain⟨ft,ht,fa,ha,fb,hb,z⟩:=z
  cases z
  exact QeF (hq.t g ht) (Qg1 hq g ha) (Qg1 hq g hb)
 ·cases z⟩
def sForr:RuS:=⟨fun q c e=>match e with
 | .For tg it a [] _=>if nsE it=true then (q.i c tg it).bind fun fi=>(q.g c tg).bind fun fg=>(blkC q c a).bind fun fa=>some (sFor fi fg fa) else none
 | _=>none,fun {q} hq {X c} g {e r} z=>by
 split at z
 ·simp only[Option.ite_none_right_eq_some,Option.bind_eq_some_iff]at z
  obtain⟨hn,fi,hi,fg,hg,fa,ha,z⟩:=z
  cases z
  exact QeT g.ps g.S.calm (hq.i g hi) (hq.g g hg) (Qg1 hq g ha) (QgW hn)
 ·cases z⟩
def sNmr:RuS:=⟨fun q c e=>match e with
 | .Assign [.Name x _] a _=>if ncE a=true\/(c.top=true/\c.sc.names.lookup x=some .cell) then (tgC c x).bind fun i=>(q.e c a).bind fun f=>some (sAsg (gVar i) f) else none
 | _=>none,fun {q} hq {X c} g {e r} z=>by
 split at z
 ·simp only[Option.ite_none_right_eq_some,Option.bind_eq_some_iff]at z
  obtain⟨hn,i,hi,f,hf,z⟩:=z
  cases z
  obtain⟨h1,k,h2,h3⟩:=Qg5 g hi
  refine QgG g.S _ g.nd h1 h2 (hq.e g hf) h3 ?_
  rcases hn with hn | ⟨ht,hc⟩
  ·exact QgV hn
  ·rename_i x p a s
   have e:(X.env.kindOf x == some NameKind.local)=false:=by rw[(g.kd ht).2 x,hc];rfl
   cases a<;>first | rfl | (unfold swapsWith;simp only[e,Bool.and_false,Bool.false_and])
 ·cases z⟩
theorem Qg7 {X : Cx} {c : RC} (g : Good X c) {e : Expr} {gs : List Comprehension} {sc : Scope} {p p' : Pos} {y : Str} {n : Nat} (ht : c.top = true) (hl : c.sc.names.lookup y = some .local) (hp : (p'.line == p.line) = true) (ha : (sc.names.any fun z => z.1 == y && (z.2 == .local || z.2 == .cell)) = false) :
  swapsWith (.ListComp e gs sc p) (some (.Name y p')) n X.env=pure true:=by
 have e1:(X.env.kindOf y == some NameKind.local)=true:=by rw[(g.kd ht).2 y,hl];rfl
 have e2:(X.env.blockKind == ScopeKind.function)=true:=by rw[(g.kd ht).1];rfl
 show (pure (X.env.blockKind == ScopeKind.function && X.env.kindOf y == some NameKind.local && p'.line == p.line && !(sc.names.any fun z=>z.1 == y && (z.2 == .local || z.2 == .cell))):Sem Bool)=pure true
 rw[e1,e2,hp,ha]
 rfl
def sCompr:RuS:=⟨fun q c s=>match s with
 | .Assign [.Name y p'] (.ListComp e gs sc p) _ => if c.top = true /\ c.sc.names.lookup y = some .local /\ (p'.line == p.line) = true /\ (sc.names.any fun z => z.1 == y && (z.2 == .local || z.2 == .cell)) = false then
   (tgC c y).bind fun i=>(cmpC q c (.ListComp e gs sc p)).bind fun r=>some (sAsg (gVar i) (cKeep (aComp r.1 r.2.1 r.2.2.1 r.2.2.2.1 r.2.2.2.2.1 r.2.2.2.2.2))) else none
 | _=>none,fun {q} hq {X c} g {s r} z=>by
 split at z
 ·simp only[Option.ite_none_right_eq_some,Option.bind_eq_some_iff]at z
  obtain⟨⟨ht,hl,hp,ha⟩,i,hi,w,hw,z⟩:=z
  cases z
  obtain⟨h1,k,h2,h3⟩:=Qg5 g hi
  unfold cmpC at hw
  split at hw
  ·rename_i he
   cases he
   simp only[Option.ite_none_right_eq_some,Option.bind_eq_some_iff]at hw
   obtain⟨hk,ci,hi',gg,hg,t,ht',f,hf,z⟩:=hw
   cases z
   refine QeZ g.nd h1 (g.S.loc _ _ h2 h3).1 (g.S.loc _ _ h2 h3).2 g.S.calm (QgC g.S hk.1) (QgD g.N hk.2.1) (hq.i g hi') (fun fp s H=>⟨hq.g (g.inn hk fp s H) hg,Qg2 hq (g.inn hk fp s H) ht',hq.e (g.inn hk fp s H) hf⟩) ?_ (QgW hk.2.2.2)
   exact Qg7 g ht hl hp ha
  ·cases hw
 ·cases z⟩
def sSubr:RuS:=⟨fun q c s=>match s with
 | .Assign [.Subscript o i p] a _=>(q.e c a).bind fun f=>(q.g c (.Subscript o i p)).bind fun h=>some (sAsg h f)
 | _=>none,fun {q} hq {X c} g {s r} z=>by
 split at z
 ·simp only[Option.bind_eq_some_iff]at z
  obtain⟨f,hf,h,hh,z⟩:=z
  cases z
  rename_i o i p a s
  exact QeJ (hq.e g hf) (hq.g g hh) (by cases a<;>rfl) (by cases a<;>rfl) rfl
 ·cases z⟩
def ntE:Expr->Bool
 | .Tuple _ _ _=>false
 | _=>true
def sTupr:RuS:=⟨fun q c s=>match s with
 | .Assign [.Tuple es k p] a _=>if ntE a=true then (q.e c a).bind fun f=>(q.g c (.Tuple es k p)).bind fun h=>some (sAsg h f) else none
 | _=>none,fun {q} hq {X c} g {s r} z=>by
 split at z
 ·simp only[Option.ite_none_right_eq_some,Option.bind_eq_some_iff]at z
  obtain⟨hn,f,hf,h,hh,z⟩:=z
  cases z
  rename_i o i p a s
  exact QeJ (hq.e g hf) (hq.g g hh) (by cases a<;>rfl) (by cases a<;>first | rfl | exact nomatch hn) rfl
 ·cases z⟩
section
variable {P:Program}{w:World}{K:PySem.W.Frag}{mg:Str->Option Value}{base:Heap}
variable (P w K mg base) in
def EnvOk (l:List (Str × RF)):Prop:=∀ x r,l.lookup x=some r->GF P w K mg base x r
theorem Qg8:EnvOk P w K mg base []:=fun _ _ h=>nomatch h
theorem Qg9 {l : List (Str × RF)} {x : Str} {r : RF} {f : Addr} {fd : FuncData} (m : mg x = some (.ref f)) (F : FnOk P w K mg base CX0 r.k f fd r.ps (spOf K r.n r.g)) (kp : PySem.W.keepIn K (.ref f) = true) (b : Binds K fd r.ps []) (kb : r.kw = true -> KwBinds K fd r.ps) (h : EnvOk P w K mg base l) :
  EnvOk P w K mg base ((x,r)::l):=fun y s z=>by
 by_cases e:y=x
 ·subst e
  rw[List.lookup_cons_self]at z
  cases z
  exact⟨f,fd,m,F,kp,b,kb⟩
 ·rw[QdI e]at z
  exact h y s z
theorem Qha (R : Rules) (j : Nat) {x qual : Str} {sd : Stmt} {f : Addr} {fd : FuncData} {N ps : List Str} {k n m : Nat} {body : CS} {G : List (Str × RF)} {Z : List Str} {C : List (Str × D)} {H : List (Nat × Nat × Nat)} (F : Fun K x qual sd f fd) (S : FnScope N ps (defScope sd)) (hn : ps.length = n) (hm : N.length = m)
  (hG:EnvOk P w K mg base G) (hZ:∀ x,Z.contains x=true->mg x=none) (hC:∀ x d,C.lookup x=some d->∃ v u,mg x=some u/\RelV v u/\∀ ρ H,Rep K ρ H v d)
  (hb:blkC (recN R j) ⟨defScope sd,N,k,G,Z,C,H,true⟩ (defBody sd)=some body):FnOk P w K mg base CX0 (k + 1) f fd ps (spOf K n (runDef m body)):=
 QgM F S hn hm fun cdv A outer s Hp E hr=>Qg1 (c:=⟨defScope sd,N,k,G,Z,C,H,true⟩) (QgR R j) ⟨QgA,rfl,S.nd,hr,hG,hZ,hC,PassesOwn.never,fun _=>⟨by show (if (defScope sd).kind.isAnnotationScope=true then _ else (defScope sd).kind)=_;rw[S.kind];rfl,fun _=>rfl⟩⟩ hb
end
end
section
variable {K:PySem.W.Frag}{mg:Str->Option Value}
def ZOk (mg:Str->Option Value) (Z:List Str):Prop:=∀ x,Z.contains x=true->mg x=none
theorem z_nil:ZOk mg []:=fun _ h=>nomatch h
theorem z_cons {a:Str}{l:List Str} (h:mg a=none) (t:ZOk mg l):ZOk mg (a::l):=fun x z=>by
 rw[List.contains_cons,Bool.or_eq_true]at z
 rcases z with z | z
 ·rw[beq_iff_eq.mp z];exact h
 ·exact t x z
def COk (K:PySem.W.Frag) (mg:Str->Option Value) (C:List (Str × D)):Prop:=∀ x d,C.lookup x=some d->∃ v u,mg x=some u/\RelV v u/\∀ ρ H,Rep K ρ H v d
theorem c_nil:COk K mg []:=fun _ _ h=>nomatch h
theorem Qhb {a:Str}{l:List (Str × D)}{v:V}{d:D}{u:Value} (m:mg a=some u) (r:RelV v u) (q:∀ ρ H,Rep K ρ H v d) (t:COk K mg l):COk K mg ((a,d)::l):=fun x e z=>by
 by_cases h:x=a
 ·subst h
  rw[List.lookup_cons_self]at z
  cases z
  exact⟨v,u,m,r,q⟩
 ·rw[QdI h]at z
  exact t x e z
theorem c_str {a y:Str}{l:List (Str × D)}{k:Tok} (m:mg a=some (.str y k)) (t:COk K mg l):COk K mg ((a,.str y)::l):=Qhb (v:=.str y) m ⟨k,rfl⟩ (fun _ _=>.str _) t
theorem c_int {a:Str}{i:Int}{l:List (Str × D)}{k:Tok} (m:mg a=some (.int i k)) (t:COk K mg l):COk K mg ((a,.int i)::l):=Qhb (v:=.int i) m ⟨k,rfl⟩ (fun _ _=>.int _) t
end
section
theorem Qhc {x:Str} (h:nokB x=true):x≠"__name__":=(QgP h).n
def bMaxT:RuE:=bltTmp "max" maxD fun c g m a s=>Qe2 (Qfh c) g m (by nofun) a (Qhc (by nofun)) (by nofun) s
def bAllT:RuE:=bltTmp "all" allD fun c g m a s=>Qe2 (Qfg c) g m (by nofun) a (Qhc (by nofun)) (by nofun) s
def bTupT:RuE:=bltTmp "tuple" tupL fun _ g m a s=>Qe3 Qe8 g m (by nofun) a (Qhc (by nofun)) (by nofun) s
abbrev noTag:RC->Pos->Bool:=fun _ _=>true
def bLen:RuE:=blt1 "len" noTag lenD fun _ g m a s=>Qe0 Qe6 g m (by nofun) a (Qhc (by nofun)) (by nofun) s
def bTuple:RuE:=blt1 "tuple" noTag tupleD fun _ g m a s=>Qe1 Qe7 g m (by nofun) a (Qhc (by nofun)) (by nofun) s
def bList:RuE:=blt1 "list" noTag listD fun _ g m a s=>Qe1 QfU g m (by nofun) a (Qhc (by nofun)) (by nofun) s
def bStr:RuE:=blt1 "str" noTag strD fun _ g m a s=>Qe1 Qf9 g m (by nofun) a (Qhc (by nofun)) (by nofun) s
def bIntT:RuE:=blt1 "int" (fun c p=>c.tag p 4) intTD fun _ g m a s=>Qe1 Qgb g m (by nofun) a (Qhc (by nofun)) (by nofun) s
def bIsiInt:RuE:=rIsi "int" Qfi (by nofun) (Qhc (by nofun)) (by nofun)
def bIsiBool:RuE:=rIsi "bool" Qfj (by nofun) (Qhc (by nofun)) (by nofun)
def bIsiStr:RuE:=rIsi "str" Qfk (by nofun) (Qhc (by nofun)) (by nofun)
def bIsiTuple:RuE:=rIsi "tuple" Qfl (by nofun) (Qhc (by nofun)) (by nofun)
def mAppend:RuE:=meth1 "append" cAppend noTag fun _ o a b f l s p=>QfA o a b f l s p
def mExtend:RuE:=meth1 "extend" cExtend noTag fun _ o a b f l s p=>Qf8 o a b f l s p
def mSplit:RuE:=meth1 "split" cSplit noTag fun _ o a b f l s p=>Qgk o a b f l s p
def mJoin:RuE:=meth1 "join" cJoin noTag fun _ o a b f l s p=>Qgl o a b f l s p
def rFmt:RuE:=⟨fun q c e=>match e with
 | .FormattedValue a i none _=>if i = -1 then (q.e c a).bind fun f=>some (c1 strD f) else none
 | _=>none,fun {q} hq {X c} g {e r} z=>by
 split at z
 ·simp only[Option.ite_none_right_eq_some,Option.bind_eq_some_iff]at z
  obtain⟨rfl,f,hf,z⟩:=z
  cases z
  exact Qgn (hq.e g hf)
 ·cases z⟩
def fstC (q:Rec) (c:RC):List Expr->Option CF
 | []=>some fNil
 | e::es=>(q.e c e).bind fun f=>(fstC q c es).bind fun r=>some (fCons f r)
theorem Qhd {q:Rec} (hq:RecOk q) {X:Cx}{c:RC} (g:Good X c):∀ {es:List Expr}{f:CF},fstC q c es=some f->SJ X es f
 | [],f,h=>by cases h;exact Qgo
 | e::es,f,h=>by
  unfold fstC at h
  simp only[Option.bind_eq_some_iff]at h
  obtain⟨fa,ha,fb,hb,z⟩:=h
  cases z
  exact Qgp (hq.e g ha) (Qhd hq g hb) rfl
def rFstr:RuE:=⟨fun q c e=>match e with
 | .JoinedStr (a::b::es) _=>(fstC q c (a::b::es)).bind fun f=>some (cFmt f)
 | _=>none,fun {q} hq {X c} g {e r} z=>by
 split at z
 ·rw[Option.bind_eq_some_iff]at z
  obtain⟨f,hf,z⟩:=z
  cases z
  exact Qgq (Qhd hq g hf) rfl
 ·cases z⟩
def iStrr:RuI:=⟨fun q c tg e=>if c.tag e.pos 4=true then (q.e c e).bind fun f=>some (iStr f) else none,fun {q} hq {X c} g {tg e r} z=>by
 simp only[Option.ite_none_right_eq_some,Option.bind_eq_some_iff]at z
 obtain⟨_,fa,ha,z⟩:=z
 cases z
 exact Qgu (hq.e g ha)⟩
end
section
variable {P:Program}{w:World}{K:PySem.W.Frag}{mg:Str->Option Value}{base:Heap}
def FnAt (K:PySem.W.Frag) (mg:Str->Option Value) (x:Str) (sd:Stmt):Prop:=∃ a fd,Fun K x x sd a fd/\mg x=some (.ref a)
theorem fnat {h : Heap} {x : Str} {sd : Stmt} {f : Addr} {od an : Option Addr} {sl : Array (Option Value)} {oc kV dc pm cd ct : Value} (X : K.In h) (G : h.Ns mainGlobals mg) (a : PySem.W.nsIn K mainGlobals x = some (some (.ref f)))
  (l:K.lookup f=some ⟨oc,od,.func (PySem.W.fnOf x x (defArgs sd) (defBody sd) (defScope sd) .none kV dc pm an cd ct),sl⟩) (c:PySem.W.codeIn K cd x=true) (k:PySem.W.keepIn K (.ref f)=true):FnAt K mg x sd:=
 ⟨f,_,QcF (st:=sd) l c k,PySem.W.mg_of X G a⟩
def fscB (N P:List Str) (sc:Scope):Bool:=(sc.kind == .function) && (sc.isCoroutine == false) && (sc.isGenerator == false) && decide N.Nodup && (N.take P.length == P) && (P.all fun x=>sc.names.lookup x == some .local || sc.names.lookup x == some .cell) && (sc.names.all fun y=>y.2 != .free)
theorem Qhe {N P:List Str}{sc:Scope} (h:fscB N P sc=true):FnScope N P sc:=by
 unfold fscB at h
 simp only[Bool.and_eq_true,beq_iff_eq,decide_eq_true_eq,List.all_eq_true,Bool.or_eq_true,bne_iff_ne,ne_eq]at h
 obtain⟨⟨⟨⟨⟨⟨h1,h2⟩,h3⟩,h4⟩,h5⟩,h6⟩,h7⟩:=h
 exact⟨h1,h2,h3,h4,h5,h6,h7⟩
theorem Qhf (R : Rules) {r : List Str} {x : Str} {sd : Stmt} {f : Addr} {fd : FuncData} {ps : List Str} {k n m : Nat} {body : CS} {G : List (Str × RF)} {Z : List Str} {C : List (Str × D)} {H : List (Nat × Nat × Nat)} (F : Fun K x x sd f fd) (S : fscB (ps ++ r) ps (defScope sd) = true)
  (hb:blkC (recN R 40) ⟨defScope sd,ps++r,k,G,Z,C,H,true⟩ (defBody sd)=some body) (hG:EnvOk P w K mg base G) (hZ:ZOk mg Z) (hC:COk K mg C) (hn:ps.length=n) (hm:(ps++r).length=m):FnOk P w K mg base CX0 (k + 1) f fd ps (spOf K n (runDef m body)):=
 Qha R 40 F (Qhe S) hn hm hG hZ hC hb
theorem Qhg (R : Rules) {r : List Str} {x : Str} {sd : Stmt} {ps : List Str} {k n m : Nat} {kw : Bool} {body : CS} {G : List (Str × RF)} {Z : List Str} {C : List (Str × D)} {H : List (Nat × Nat × Nat)} (F : FnAt K mg x sd) (S : fscB (ps ++ r) ps (defScope sd) = true)
  (b:∀ (kV doc pm:Value) (an:Option Addr) (cdv ct:Value) (us:List Value),us.length=ps.length->bindArgs (PySem.W.fnOf x x (defArgs sd) (defBody sd) (defScope sd) .none kV doc pm an cdv ct) { pos:=us }=pure (ps.zip us))
  (kb:kw=true->∀ (kV doc pm:Value) (an:Option Addr) (cdv ct:Value) (s:Shared) (ws:List Value),ws.length=ps.length->BindsTo s (PySem.W.fnOf x x (defArgs sd) (defBody sd) (defScope sd) .none kV doc pm an cdv ct) ⟨[],ps.zip ws⟩ (ps.zip ws))
  (hb:blkC (recN R 40) ⟨defScope sd,ps++r,k,G,Z,C,H,true⟩ (defBody sd)=some body) (hG:EnvOk P w K mg base G) (hZ:ZOk mg Z) (hC:COk K mg C) (hn:ps.length=n:=by rfl) (hm:(ps++r).length=m:=by rfl):EnvOk P w K mg base ((x,⟨n,k + 1,ps,kw,runDef m body⟩)::G):=by
 obtain⟨f,fd,F,hm'⟩:=F
 refine Qg9 hm' (Qhf R F S hb hG hZ hC hn hm) F.kp (F.binds b) (fun z=>?_) hG
 obtain⟨oc,od,kV,doc,pm,an,cdv,ct,osl,e,lk,hcd⟩:=F.ex
 intro s ws hl
 rw[e]
 exact kb z kV doc pm an cdv ct s ws hl
end
end MM
namespace PySem.SeqAt
open AutoSeq1 (wpAny_loadPart')
open MeetsSeq MeetsSeq2 MeetsSeq3 SeqRoads2
end PySem.SeqAt
namespace MM
open PySem PySem.Spec PyProof.Rows L2 PySem.SeqAt
section
variable {A:Around}{s:Shared}
def IsPr (h:Heap) (v:Value) (p:Int × List Int):Prop:=∃ a t b xs,v=.ref a/\h.IsTuple a #[.int p.1 t,.ref b]/\h.IsTuple b xs/\IntsAre xs.toList p.2
end
end MM
namespace MM
open PySem
abbrev At {α:Type} (_:α->Sto->Prop):Type:=Sto
inductive wp {α:Type} (m:M α) (Q:α->Sto->Prop) (s:At Q):Prop
 | intro (a:α) (s':Sto) (h:m s=.ok a s') (q:Q a s'):wp m Q s
theorem Qhi {α:Type}{m:M α}{Q:α->Sto->Prop}{s:Sto}:wp m Q s=(match m s with
 | .ok a s'=>Q a s'
 | _=>False):=by
 apply propext
 constructor
 ·rintro ⟨a,s',h,q⟩;rw[h];exact q
 ·intro h
  cases e:m s with
  | ok a s'=>rw[e]at h;exact⟨a,s',e,h⟩
  | exc _ _=>rw[e]at h;exact h.elim
  | bad=>rw[e]at h;exact h.elim
section
variable {α β:Type}{Q:α->Sto->Prop}{s:Sto}
theorem wp_eq {m:M α}{a:α}{s':Sto} (h:m s=.ok a s'):wp m Q s=Q a s':=by rw[Qhi,h]
theorem wp_no {m:M α} (h:m s=.bad):wp m Q s=False:=by rw[Qhi,h]
theorem wp_cg {m:M β}{Q Q':β->Sto->Prop}{s:Sto} (h:∀ a s',Q a s'=Q' a s'):wp m Q s=wp m Q' s:=by
 rw[show Q=Q' from funext fun a=>funext fun t=>h a t]
theorem wp_ret {a:α}:wp (ret a) Q s=Q a s:=wp_eq rfl
theorem wp_bad:wp (bad:M α) Q s=False:=wp_no rfl
theorem Qhj {m:M β}{f:β->M α}:wp (bnd m f) Q s=wp m (fun a s'=>wp (f a) Q s') s:=by
 simp only[Qhi]
 unfold bnd
 cases m s<;>rfl
theorem wp_chk {c:Prop} [Decidable c] {m:M α}:wp (chk c m) Q s=(c/\wp m Q s):=by
 unfold chk
 by_cases h:c
 ·simp[h]
 ·simp[h,wp_bad]
theorem wp_alloc {o:MO}{Q:D->Sto->Prop}:wp (alloc o) Q s=Q (.ref s.length) (s++[o]):=wp_eq rfl
theorem Qhk {n:Nat}{ds:List D}{Q:List D->Sto->Prop} (h:s[n]?=some (.lst ds)):wp (getL n) Q s=Q ds s:=by
 rw[Qhi];unfold getL;rw[h]
theorem Qhl {n:Nat}{ds es:List D}{Q:Unit->Sto->Prop} (h:s[n]?=some (.lst ds)):wp (putL n es) Q s=Q () (s.set n (.lst es)):=by
 rw[Qhi];unfold putL;rw[h]
theorem Qhm {Q:Unit->Sto->Prop}:wp (chkS anySt) Q s=Q () s:=by
 rw[Qhi];unfold chkS anySt;simp
theorem Qhn {m:M α}{Q':α->Sto->Prop} (h:wp m Q s) (f:∀ a s',Q a s'->Q' a s'):wp m Q' s:=by
 simp only[Qhi]at *
 cases e:m s with
 | ok a s'=>rw[e]at h;exact f a s' h
 | exc _ _=>rw[e]at h;exact h
 | bad=>rw[e]at h;exact h
theorem Qho {c:Prop} [Decidable c] {m n:M α}:wp (if c then m else n) Q s=if c then wp m Q s else wp n Q s:=by split<;>rfl
end
theorem Qhp {ds:List D}{i:Int}{d:D} (h0:0<=i) (h:ds[i.toNat]?=some d):itemD ds i=ret d:=by
 have hl:i.toNat < ds.length:=(List.getElem?_eq_some_iff.mp h).1
 unfold itemD MM.ixN
 rw[if_pos h0,if_pos (by ac_nf)]
 dsimp only
 rw[h]
theorem wp_run {n:Nat}{b:CS}{ds:List D}{Q:D->Sto->Prop}{s:Sto}:wp (runDef n b ds) Q s=wp (b (ds.map some++List.replicate (n - ds.length) none)) (fun f s'=>wp (flwD f) Q s') s:=by
 unfold runDef;rw[Qhj]
theorem Qhq {g : CG} {b : CS} {same : Sto -> Prop} {Q : Flw -> Sto -> Prop} (W : List D -> Loc -> Sto -> Prop)
  (hend:∀ l s,W [] l s->wp (chkS same) (fun _ s'=>Q (.next l) s') s)
  (hstep:∀ d ds l s,W (d::ds) l s->wp (chkS same) (fun _ s1=>wp (g d l) (fun l1 s2=>wp (b l1) (fun f s3=>match f with
   | .next l2=>W ds l2 s3
   | .cnt l2=>W ds l2 s3
   | .brk l2=>Q (.next l2) s3
   | .ret d=>Q (.ret d) s3) s2) s1) s):∀ ds l s,W ds l s->wp (forD g b same ds l) Q s:=by
 intro ds
 induction ds with
 | nil=>
  intro l s h
  unfold forD
  rw[Qhj]
  exact Qhn (hend l s h) fun _ s' q=>by rw[wp_ret];exact q
 | cons d ds ih=>
  intro l s h
  unfold forD
  rw[Qhj]
  refine Qhn (hstep d ds l s h) fun _ s1 q=>?_
  rw[Qhj]
  refine Qhn q fun l1 s2 q=>?_
  rw[Qhj]
  refine Qhn q fun f s3 q=>?_
  cases f with
  | next l2=>exact ih l2 s3 q
  | cnt l2=>exact ih l2 s3 q
  | brk l2=>show wp (ret _) _ _;rw[wp_ret];exact q
  | ret d=>show wp (ret _) _ _;rw[wp_ret];exact q
theorem Qhr {g : CG} {t : CT} {e : CE} {same : Sto -> Prop} {Q : List D -> Sto -> Prop} (W : List D -> List D -> Loc -> Sto -> Prop)
  (hend:∀ out l s,W out [] l s->wp (chkS same) (fun _ s'=>Q out s') s)
  (hstep:∀ out d ds l s,W out (d::ds) l s->wp (chkS same) (fun _ s1=>wp (g d l) (fun l1 s2=>wp (t l1) (fun b s3=>if b=true then wp (e l1) (fun x s4=>W (out++[x]) ds l1 s4) s3 else W out ds l1 s3) s2) s1) s):
  ∀ ds out l s,W out ds l s->wp (collect g t e same ds l) (fun xs s'=>Q (out++xs) s') s:=by
 intro ds
 induction ds with
 | nil=>
  intro out l s h
  unfold collect
  rw[Qhj]
  exact Qhn (hend out l s h) fun _ s' q=>by rw[wp_ret,List.append_nil];exact q
 | cons d ds ih=>
  intro out l s h
  unfold collect
  rw[Qhj]
  refine Qhn (hstep out d ds l s h) fun _ s1 q=>?_
  rw[Qhj]
  refine Qhn q fun l1 s2 q=>?_
  rw[Qhj]
  refine Qhn q fun b s3 q=>?_
  cases b with
  | false=>exact ih out l1 s3 q
  | true=>
   show wp (bnd (e l1) _) _ s3
   rw[Qhj]
   refine Qhn q fun x s4 q=>?_
   rw[Qhj]
   refine Qhn (ih (out++[x]) l1 s4 q) fun xs s5 q=>?_
   rw[wp_ret]
   rw[List.append_assoc]at q
   exact q
theorem Qhs {e : CE} {xs : List D} {same : Sto -> Prop} {caps : Loc} {s : Sto} {Q : List D -> Sto -> Prop} (W : Nat -> List D -> Sto -> Prop) (hs : ∀ i out s, W i out s -> same s) (h0 : W 0 [] s)
  (hstep:∀ (i:Nat) d out s,xs[i]?=some d->W i out s->wp (e (some d::caps)) (fun x s'=>W (i + 1) (out++[x]) s') s) (hend:∀ out s,W xs.length out s->Q out s):
  wp (collect (gVar 0) tTrue e same xs (none::caps)) Q s:=by
 have chk:∀ {s:Sto}{R:Unit->Sto->Prop},same s->R () s->wp (chkS same) R s:=fun h r=>by rw[Qhi];unfold chkS;rw[if_pos h];exact r
 refine Qhr (Q:=Q) (fun out ds l s=>∃ i x0,ds=xs.drop i/\i<=xs.length/\l=x0::caps/\W i out s) (fun out l s ⟨i,x0,e1,hi,_,w⟩=>?_) (fun out d ds l s ⟨i,x0,e1,hi,el,w⟩=>?_) xs [] _ s ⟨0,none,by simp,Nat.zero_le _,rfl,h0⟩
 ·have : i = xs.length := by
    have:=congrArg List.length e1
    simp at this;ac_nf
  subst this
  exact chk (hs _ _ _ w) (hend out s w)
 ·subst el
  have hlt:i < xs.length:=by
   have:=congrArg List.length e1
   simp at this;ac_nf
  rw[List.drop_eq_getElem_cons hlt]at e1
  obtain⟨e2,e3⟩:=List.cons.inj e1
  refine chk (hs _ _ _ w) ?_
  show wp (ret _) _ s
  rw[wp_ret]
  show wp (ret true) _ s
  rw[wp_ret]
  show wp (e (some d::caps)) _ s
  exact Qhn (hstep i d out s (by rw[e2];exact List.getElem?_eq_getElem hlt) w) fun x s' q=>⟨i + 1,some d,e3,hlt,rfl,q⟩
theorem Qht {n i:Nat} (h:i < n):(rngD 0 n)[i]?=some (.int i):=by
 unfold rngD
 rw[List.getElem?_map,List.getElem?_range h];simp
theorem Qhu {n i:Nat}{d:D} (h:(rngD 0 n)[i]?=some d):i < n/\d=.int i:=by
 have hi:i < n:=by
  have:=(List.getElem?_eq_some_iff.mp h).1
  simpa [rngD] using this
 rw[Qht hi]at h;cases h
 exact⟨hi,rfl⟩
theorem Qhv (n:Nat):(rngD 0 n).length=n:=by simp[rngD]
theorem Qhw {n:Nat} (h:n<=1000):n<=lim:=Nat.le_trans h (by decide)
theorem Qhx {n:Nat} (h:n<=1000):n < lim:=Nat.lt_of_le_of_lt h (by decide)
theorem Qhy {g : CG} {b : CS} {same : Sto -> Prop} {xs : List D} {l : Loc} {s : Sto} {Q : Flw -> Sto -> Prop} (W : Nat -> Loc -> Sto -> Prop) (hs : ∀ i l s, W i l s -> same s) (h0 : W 0 l s)
  (hstep:∀ (i:Nat) d l s,xs[i]?=some d->W i l s->wp (g d l) (fun l1 s2=>wp (b l1) (fun f s3=>match f with
   | .next l2=>W (i + 1) l2 s3
   | .cnt l2=>W (i + 1) l2 s3
   | .brk l2=>Q (.next l2) s3
   | .ret d=>Q (.ret d) s3) s2) s) (hend:∀ l s,W xs.length l s->Q (.next l) s):wp (forD g b same xs l) Q s:=by
 have chk:∀ {s:Sto}{R:Unit->Sto->Prop},same s->R () s->wp (chkS same) R s:=fun h r=>by rw[Qhi];unfold chkS;rw[if_pos h];exact r
 refine Qhq (fun ds l s=>∃ i,ds=xs.drop i/\i<=xs.length/\W i l s) (fun l s ⟨i,e1,hi,w⟩=>?_) (fun d ds l s ⟨i,e1,hi,w⟩=>?_) xs l s ⟨0,by simp,Nat.zero_le _,h0⟩
 ·have : i = xs.length := by
    have:=congrArg List.length e1
    simp at this;ac_nf
  subst this
  exact chk (hs _ _ _ w) (hend l s w)
 ·have hlt : i < xs.length := by
    have:=congrArg List.length e1
    simp at this;ac_nf
  rw[List.drop_eq_getElem_cons hlt]at e1
  obtain⟨e2,e3⟩:=List.cons.inj e1
  refine chk (hs _ _ _ w) ?_
  refine Qhn (hstep i d l s (by rw[e2];exact List.getElem?_eq_getElem hlt) w) fun l1 s2 q=>Qhn q fun f s3 q=>?_
  cases f with
  | next l2=>exact⟨i + 1,e3,hlt,q⟩
  | cnt l2=>exact⟨i + 1,e3,hlt,q⟩
  | brk l2=>exact q
  | ret d=>exact q
end MM
local macro_rules | `(tactic| bv_omega)=>`(tactic| first | rfl | exact MM.wp_eq rfl | exact MM.wp_no rfl)
local macro_rules | `(tactic| ac_rfl)=>`(tactic| first | rfl | simp only[MM.wp_ret,MM.wp_alloc,MM.wp_bad] | (refine MM.wp_cg fun _ _=>?_;simp only[MM.wp_ret,MM.wp_alloc,MM.wp_bad]))
namespace MM
open PySem
theorem nr {α:Sort u}{a b:α} (h:a=b):a=b:=h
section
variable {Q:D->Sto->Prop}{R:Flw->Sto->Prop}{T:Bool->Sto->Prop}{A:List D->Sto->Prop}{G:Loc->Sto->Prop}{I:Wk->Sto->Prop}{s:Sto}{l:Loc}
theorem x_seq {a b : CS} : wp (sSeq a b l) R s = wp (a l) (fun f s' => match f with
  | .next l'=>wp (b l') R s'
  | .ret d=>R (.ret d) s'
  | .brk l'=>R (.brk l') s'
  | .cnt l'=>R (.cnt l') s') s:=by
 unfold sSeq;rw[Qhj];congr 1;funext f s';cases f<;>first | bv_omega
theorem x_next:wp (sNext l) R s=R (.next l) s:=wp_eq rfl
theorem x_asg {g:CG}{a:CE}:wp (sAsg g a l) R s=wp (a l) (fun d s'=>wp (g d l) (fun l' s''=>R (.next l') s'') s') s:=by
 unfold sAsg;rw[Qhj];congr 1;funext d s';rw[Qhj];ac_rfl
theorem x_ret {a:CE}:wp (sRet a l) R s=wp (a l) (fun d s'=>R (.ret d) s') s:=by
 unfold sRet;rw[Qhj];ac_rfl
theorem x_exp {a:CE}:wp (sExp a l) R s=wp (a l) (fun d s'=>R (.next l) s') s:=by
 unfold sExp;rw[Qhj];ac_rfl
theorem x_if {t:CT}{a b:CS}:wp (sIf t a b l) R s=wp (t l) (fun c s'=>if c=true then wp (a l) R s' else wp (b l) R s') s:=by
 unfold sIf;rw[Qhj];congr 1;funext c s';rw[Qho]
theorem x_cmp {a : CE} : wp (tCmpB a l) T s = wp (a l) (fun x s' => match x with
  | .bl b=>T b s'
  | _=>False) s:=by
 unfold tCmpB;rw[Qhj];congr 1;funext x s';cases x<;>first | bv_omega
theorem x_val {a:CE}:wp (tVal a l) T s=wp (a l) (fun x s'=>wp (truD x) T s') s:=by unfold tVal;rw[Qhj]
theorem x_not {a:CT}:wp (tNotB a l) T s=wp (a l) (fun x s'=>T (!x) s') s:=by unfold tNotB;rw[Qhj];ac_rfl
theorem x_and {a b:CT}:wp (tAndB a b l) T s=wp (a l) (fun c s'=>if c=true then wp (b l) T s' else T false s') s:=by
 unfold tAndB;rw[Qhj];congr 1;funext c s';rw[Qho];ac_rfl
theorem x_or {a b:CT}:wp (tOrB a b l) T s=wp (a l) (fun c s'=>if c=true then T true s' else wp (b l) T s') s:=by
 unfold tOrB;rw[Qhj];congr 1;funext c s';rw[Qho];ac_rfl
theorem x_gvar {i:Nat}{d:D}:wp (gVar i d l) G s=G (l.set i (some d)) s:=wp_eq rfl
theorem x_g0 {d:D}{b:Option D}{r:Loc}{Q:Loc->Sto->Prop}:wp (gVar 0 d (b::r)) Q s=Q (some d::r) s:=x_gvar
theorem x_g1 {a0:Option D}{d:D}{b:Option D}{r:Loc}{Q:Loc->Sto->Prop}:wp (gVar 1 d (a0::b::r)) Q s=Q (a0::some d::r) s:=x_gvar
theorem x_g2 {a0 a1:Option D}{d:D}{b:Option D}{r:Loc}{Q:Loc->Sto->Prop}:wp (gVar 2 d (a0::a1::b::r)) Q s=Q (a0::a1::some d::r) s:=x_gvar
theorem x_g3 {a0 a1 a2:Option D}{d:D}{b:Option D}{r:Loc}{Q:Loc->Sto->Prop}:wp (gVar 3 d (a0::a1::a2::b::r)) Q s=Q (a0::a1::a2::some d::r) s:=x_gvar
theorem x_g4 {a0 a1 a2 a3:Option D}{d:D}{b:Option D}{r:Loc}{Q:Loc->Sto->Prop}:wp (gVar 4 d (a0::a1::a2::a3::b::r)) Q s=Q (a0::a1::a2::a3::some d::r) s:=x_gvar
theorem x_g5 {a0 a1 a2 a3 a4:Option D}{d:D}{b:Option D}{r:Loc}{Q:Loc->Sto->Prop}:wp (gVar 5 d (a0::a1::a2::a3::a4::b::r)) Q s=Q (a0::a1::a2::a3::a4::some d::r) s:=x_gvar
theorem x_g6 {a0 a1 a2 a3 a4 a5:Option D}{d:D}{b:Option D}{r:Loc}{Q:Loc->Sto->Prop}:wp (gVar 6 d (a0::a1::a2::a3::a4::a5::b::r)) Q s=Q (a0::a1::a2::a3::a4::a5::some d::r) s:=x_gvar
theorem x_g7 {a0 a1 a2 a3 a4 a5 a6:Option D}{d:D}{b:Option D}{r:Loc}{Q:Loc->Sto->Prop}:wp (gVar 7 d (a0::a1::a2::a3::a4::a5::a6::b::r)) Q s=Q (a0::a1::a2::a3::a4::a5::a6::some d::r) s:=x_gvar
theorem x_g8 {a0 a1 a2 a3 a4 a5 a6 a7:Option D}{d:D}{b:Option D}{r:Loc}{Q:Loc->Sto->Prop}:wp (gVar 8 d (a0::a1::a2::a3::a4::a5::a6::a7::b::r)) Q s=Q (a0::a1::a2::a3::a4::a5::a6::a7::some d::r) s:=x_gvar
theorem x_gsub {o i:CE}{d:D}:wp (gSubD o i d l) G s=wp (o l) (fun y s1=>wp (i l) (fun z s2=>wp (setItemD y z d) (fun _ s3=>G l s3) s2) s1) s:=by
 unfold gSubD;rw[Qhj];congr 1;funext y s1;rw[Qhj];congr 1;funext z s2;rw[Qhj];ac_rfl
theorem x_var {i : Nat} : wp (cVar i l) Q s = match l[i]? with
  | some (some d)=>Q d s
  | _=>False:=by
 unfold cVar;rcases l[i]? with _ | _ | d<;>first | bv_omega
theorem x_v0 {d:D}{r:Loc}:wp (cVar 0 (some d::r)) Q s=Q d s:=x_var
theorem x_v1 {a0:Option D}{d:D}{r:Loc}:wp (cVar 1 (a0::some d::r)) Q s=Q d s:=x_var
theorem x_v2 {a0 a1:Option D}{d:D}{r:Loc}:wp (cVar 2 (a0::a1::some d::r)) Q s=Q d s:=x_var
theorem x_v3 {a0 a1 a2:Option D}{d:D}{r:Loc}:wp (cVar 3 (a0::a1::a2::some d::r)) Q s=Q d s:=x_var
theorem x_v4 {a0 a1 a2 a3:Option D}{d:D}{r:Loc}:wp (cVar 4 (a0::a1::a2::a3::some d::r)) Q s=Q d s:=x_var
theorem x_v5 {a0 a1 a2 a3 a4:Option D}{d:D}{r:Loc}:wp (cVar 5 (a0::a1::a2::a3::a4::some d::r)) Q s=Q d s:=x_var
theorem x_v6 {a0 a1 a2 a3 a4 a5:Option D}{d:D}{r:Loc}:wp (cVar 6 (a0::a1::a2::a3::a4::a5::some d::r)) Q s=Q d s:=x_var
theorem x_v7 {a0 a1 a2 a3 a4 a5 a6:Option D}{d:D}{r:Loc}:wp (cVar 7 (a0::a1::a2::a3::a4::a5::a6::some d::r)) Q s=Q d s:=x_var
theorem x_v8 {a0 a1 a2 a3 a4 a5 a6 a7:Option D}{d:D}{r:Loc}:wp (cVar 8 (a0::a1::a2::a3::a4::a5::a6::a7::some d::r)) Q s=Q d s:=x_var
theorem x_con {d:D}:wp (cCon d l) Q s=Q d s:=wp_eq rfl
theorem x_c1 {g:D->M D}{a:CE}:wp (c1 g a l) Q s=wp (a l) (fun x s'=>wp (g x) Q s') s:=by unfold c1;rw[Qhj]
theorem x_c2 {g:D->D->M D}{a b:CE}:wp (c2 g a b l) Q s=wp (a l) (fun x s'=>wp (b l) (fun y s''=>wp (g x y) Q s'') s') s:=by
 unfold c2;rw[Qhj];congr 1;funext x s';rw[Qhj]
theorem x_call {g:List D->M D}{a:CA}:wp (cCall g a l) Q s=wp (a l) (fun x s'=>wp (g x) Q s') s:=by unfold cCall;rw[Qhj]
theorem x_nil:wp (cNil l) A s=A [] s:=wp_eq rfl
theorem x_cons {a:CE}{r:CA}:wp (cCons a r l) A s=wp (a l) (fun x s'=>wp (r l) (fun xs s''=>A (x::xs) s'') s') s:=by
 unfold cCons;rw[Qhj];congr 1;funext x s';rw[Qhj];ac_rfl
theorem x_tup {a:CA}:wp (cTup a l) Q s=wp (a l) (fun xs s'=>xs.length<=lim/\Q (.tup xs) s') s:=by
 unfold cTup;rw[Qhj];congr 1;funext x s';rw[wp_chk];ac_rfl
theorem x_disp {a:CA}:wp (aDisp a l) A s=wp (a l) (fun xs s'=>xs.length<=lim/\A xs s') s:=by
 unfold aDisp;rw[Qhj];congr 1;funext x s';rw[wp_chk];ac_rfl
theorem x_keep {a:CA}:wp (cKeep a l) Q s=wp (a l) (fun xs s'=>Q (.ref s'.length) (s'++[.lst xs])) s:=by
 unfold cKeep;rw[Qhj];ac_rfl
theorem x_tmp {g:List D->M D}{a:CA}:wp (cTmp g a l) Q s=wp (a l) (fun x s'=>wp (g x) Q s') s:=by unfold cTmp;rw[Qhj]
theorem x_comp {n:Nat}{caps:List Nat}{i:CI}{g:CG}{t:CT}{e:CE}:wp (aComp n caps i g t e l) A s=wp (i l) (fun w s'=>w.ds.length<=lim/\wp (collect g t e w.same w.ds (capt n caps l)) A s') s:=by
 unfold aComp;rw[Qhj];congr 1;funext x s';rw[wp_chk]
theorem x_for {i:CI}{g:CG}{b:CS}:wp (sFor i g b l) R s=wp (i l) (fun w s'=>wp (forD g b w.same w.ds l) R s') s:=by
 unfold sFor;rw[Qhj]
theorem x_rng {a : CE} : wp (MM.iRng1 a l) I s = wp (a l) (fun x s' => match x with
  | .int j=>(-(2 ^ 62)<=j/\j < 2 ^ 62)/\I ⟨rngD 0 j.toNat,anySt⟩ s'
  | _=>False) s:=by
 unfold MM.iRng1;rw[Qhj];congr 1;funext x s';cases x<;>first | bv_omega | (dsimp only;rw[wp_chk];ac_rfl)
theorem x_iseq {a : CE} : wp (iSeq a l) I s = wp (a l) (fun x s' => match x with
  | .tup ds=>I ⟨ds,anySt⟩ s'
  | .lit ds=>I ⟨ds,anySt⟩ s'
  | .ref n=>wp (getL n) (fun ds s''=>I ⟨ds,sameL n ds⟩ s'') s'
  | _=>False) s:=by
 unfold iSeq;rw[Qhj];congr 1;funext x s';cases x<;>first | bv_omega | (dsimp only;rw[Qhj];ac_rfl)
theorem x_add {i j:Int}:wp (addD (.int i) (.int j)) Q s=Q (.int (i + j)) s:=wp_eq rfl
theorem x_mul {i j:Int}:wp (mulD (.int i) (.int j)) Q s=(mulOk i j/\Q (.int (i * j)) s):=by unfold mulD;rw[wp_chk];ac_rfl
theorem x_div {i j:Int}:wp (fdivD (.int i) (.int j)) Q s=((0 < j/\j < 1073741824)/\Q (.int (i / j)) s):=by unfold fdivD;rw[wp_chk];ac_rfl
theorem x_mod {i j:Int}:wp (modD (.int i) (.int j)) Q s=(0 < j/\Q (.int (i % j)) s):=by unfold modD;rw[wp_chk];ac_rfl
theorem x_lt {i j:Int}:wp (ltD (.int i) (.int j)) Q s=Q (.bl (decide (i < j))) s:=wp_eq rfl
theorem x_le {i j:Int}:wp (leD (.int i) (.int j)) Q s=Q (.bl (decide (i<=j))) s:=wp_eq rfl
theorem x_gt {i j:Int}:wp (gtD (.int i) (.int j)) Q s=Q (.bl (decide (j < i))) s:=wp_eq rfl
theorem x_ge {i j:Int}:wp (geD (.int i) (.int j)) Q s=Q (.bl (decide (j<=i))) s:=wp_eq rfl
theorem x_eq {i j:Int}:wp (eqD (.int i) (.int j)) Q s=Q (.bl (i == j)) s:=wp_eq rfl
theorem x_ne {i j:Int}:wp (neD (.int i) (.int j)) Q s=Q (.bl !(i == j)) s:=wp_eq rfl
theorem x_subsT {ds:List D}{i:Int}:wp (subsD (.tup ds) (.int i)) Q s=wp (itemD ds i) Q s:=nr rfl
theorem x_subsR {n:Nat}{i:Int}:wp (subsD (.ref n) (.int i)) Q s=wp (getL n) (fun ds s'=>wp (itemD ds i) Q s') s:=by
 unfold subsD;rw[Qhj]
theorem x_lenT {ds:List D}:wp (lenD (.tup ds)) Q s=Q (.int ds.length) s:=wp_eq rfl
theorem x_lenR {n:Nat}:wp (lenD (.ref n)) Q s=wp (getL n) (fun ds s'=>Q (.int ds.length) s') s:=by unfold lenD;rw[Qhj];ac_rfl
theorem x_setR {n : Nat} {i : Int} {v : D} {U : Unit -> Sto -> Prop} : wp (setItemD (.ref n) (.int i) v) U s = wp (getL n) (fun ds s' => wp (match MM.ixN ds.length i with
  | some j=>putL n (ds.set j v)
  | none=>bad) U s') s:=by
 unfold setItemD;rw[Qhj]<;>congr 1
theorem x_retF {d:D}:wp (flwD (.ret d)) Q s=Q d s:=wp_eq rfl
theorem x_nextF:wp (flwD (.next l)) Q s=Q .non s:=wp_eq rfl
end
theorem x_slice {a : CE} {lo hi : CO} {A : List D -> Sto -> Prop} {s : Sto} {l : Loc} : wp (aSlice a lo hi l) A s = wp (a l) (fun x s1 => wp (lo l) (fun i s2 => wp (hi l) (fun j s3 => match x with
  | .lit ds=>A (cutD ds i j) s3
  | .ref n=>wp (getL n) (fun ds s4=>A (cutD ds i j) s4) s3
  | _=>False) s2) s1) s:=by
 unfold aSlice;rw[Qhj];congr 1;funext x s1;rw[Qhj];congr 1;funext i s2;rw[Qhj];congr 1;funext j s3;cases x<;>first | bv_omega | (dsimp only;rw[Qhj];ac_rfl)
theorem x_none {A:Option Int->Sto->Prop}{s:Sto}{l:Loc}:wp (oNone l) A s=A none s:=wp_eq rfl
theorem x_some {a : CE} {A : Option Int -> Sto -> Prop} {s : Sto} {l : Loc} : wp (oSome a l) A s = wp (a l) (fun x s1 => match x with
  | .int i=>A (some i) s1
  | _=>False) s:=by
 unfold oSome;rw[Qhj];congr 1;funext x s1;cases x<;>first | bv_omega
theorem x_enum {a : CE} {I : Wk -> Sto -> Prop} {s : Sto} {l : Loc} : wp (iEnum a l) I s = wp (a l) (fun x s' => match x with
  | .tup ds=>I ⟨(rngD 0 ds.length).zipWith (fun i d=>.tup [i,d]) ds,anySt⟩ s'
  | _=>False) s:=by
 unfold iEnum;rw[Qhj];congr 1;funext x s';cases x<;>first | bv_omega
theorem x_gtup {n:Nat}{r:List D->Loc->M Loc}{ds:List D}{G:Loc->Sto->Prop}{s:Sto}{l:Loc}:wp (gTupD n r (.tup ds) l) G s=(ds.length=n/\wp (r ds l) G s):=by
 unfold gTupD;rw[wp_chk]
theorem x_gcons {g:CG}{r:List D->Loc->M Loc}{d:D}{ds:List D}{G:Loc->Sto->Prop}{s:Sto}{l:Loc}:wp (gsCons g r (d::ds) l) G s=wp (g d l) (fun l' s'=>wp (r ds l') G s') s:=by
 unfold gsCons;rw[Qhj]
theorem x_gnil {G:Loc->Sto->Prop}{s:Sto}{l:Loc}:wp (gsNil [] l) G s=G l s:=wp_eq rfl
theorem Qhz {ds:List D}{i:Nat}{d:D} (h:((rngD 0 ds.length).zipWith (fun i d=>D.tup [i,d]) ds)[i]?=some d):∃ x,ds[i]?=some x/\d=.tup [.int i,x]:=by
 rw[List.getElem?_zipWith]at h
 cases e1:(rngD 0 ds.length)[i]? with
 | none=>rw[e1]at h;cases h
 | some a=>
  rw[e1]at h
  obtain⟨_,ea⟩:=Qhu e1
  cases e2:ds[i]? with
  | none=>rw[e2]at h;cases h
  | some x=>rw[e2]at h;cases h;exact⟨x,rfl,by rw[ea]⟩
def Ext (s s':Sto):Prop:=∃ t,s'=s++t
theorem Ext.refl (s:Sto):Ext s s:=⟨[],by simp⟩
theorem Ext.snoc {s s':Sto} (h:Ext s s') (o:MO):Ext s (s'++[o]):=by obtain⟨t,e⟩:=h;exact⟨t++[o],by rw[e];simp⟩
theorem Ext.trans {s s' s2:Sto} (h:Ext s s') (k:Ext s' s2):Ext s s2:=by obtain⟨t,e⟩:=h;obtain⟨u,f⟩:=k;exact⟨t++u,by rw[f,e];simp⟩
theorem Ext.at_ {s s':Sto}{n:Nat}{o:MO} (h:Ext s s') (k:s[n]?=some o):s'[n]?=some o:=by
 obtain⟨t,e⟩:=h
 rw[e,List.getElem?_append_left (List.getElem?_eq_some_iff.mp k).1];exact k
theorem QhA {α:Type} (f:α->Int) (xs:List α):numsL (xs.map fun x=>.int (f x))=some (xs.map f):=by
 induction xs with
 | nil=>rfl
 | cons x xs ih=>simp only[List.map_cons,numsL,ih];ac_rfl
theorem QhB {α:Type}{m:M α}{v:α}{s:Sto}{Q:α->Sto->Prop} (h:wp m (fun a s'=>a=v/\s'=s) s):wp m Q s=Q v s:=by
 simp only[Qhi]at *
 cases e:m s with
 | ok a s'=>rw[e]at h;obtain⟨h1,h2⟩:=h;subst h1;subst h2;ac_rfl
 | exc _ _=>rw[e]at h;exact h.elim
 | bad=>rw[e]at h;exact h.elim
theorem QhC {a b:Nat}{x y:List D}{Q:D->Sto->Prop}{s:Sto} (h1:s[a]?=some (.lst x)) (h2:s[b]?=some (.lst y)):wp (addD (.ref a) (.ref b)) Q s=(x.length + y.length<=lim/\Q (.ref s.length) (s++[.lst (x++y)])):=by
 unfold addD;rw[Qhj,Qhk h1,Qhj,Qhk h2,wp_chk];ac_rfl
def andB (x:D) (p q:Prop):Prop:=match x with
 | .bl true=>p
 | .bl false=>q
 | _=>False
theorem andB_t {p q:Prop}:andB (.bl true) p q=p:=nr rfl
theorem andB_f {p q:Prop}:andB (.bl false) p q=q:=nr rfl
section
variable {Q:D->Sto->Prop}{T:Bool->Sto->Prop}{R:Flw->Sto->Prop}{s:Sto}{l:Loc}
theorem x_andE {a b:CE}:wp (cAnd a b l) Q s=wp (a l) (fun x s'=>andB x (wp (b l) Q s') (Q (.bl false) s')) s:=by
 unfold cAnd;rw[Qhj];congr 1;funext x s';rcases x with _ | b | _ | _ | _ | _ | _ | _<;>first | bv_omega | (cases b<;>first | bv_omega)
theorem x_notE {a : CE} : wp (cNot a l) Q s = wp (a l) (fun x s' => match x with
  | .bl b=>Q (.bl !b) s'
  | _=>False) s:=by
 unfold cNot;rw[Qhj];congr 1;funext x s';cases x<;>first | bv_omega
theorem x_truB {b:Bool}:wp (truD (.bl b)) T s=T b s:=wp_eq rfl
theorem x_tupL {ds:List D}:wp (tupL ds) Q s=Q (.tup ds) s:=wp_eq rfl
theorem x_item0 {d:D}{ds:List D}:wp (itemD (d::ds) 0) Q s=Q d s:=by
 rw[Qhp (d:=d) (by ac_nf) rfl,wp_ret]
theorem x_item1 {d e:D}{ds:List D}:wp (itemD (d::e::ds) 1) Q s=Q e s:=by
 rw[Qhp (d:=e) (by ac_nf) rfl,wp_ret]
theorem x_item2 {d e f:D}{ds:List D}:wp (itemD (d::e::f::ds) 2) Q s=Q f s:=by
 rw[Qhp (d:=f) (by ac_nf) rfl,wp_ret]
theorem x_item3 {d e f g:D}{ds:List D}:wp (itemD (d::e::f::g::ds) 3) Q s=Q g s:=by
 rw[Qhp (d:=g) (by ac_nf) rfl,wp_ret]
theorem QhD {ds:List D}{i:Nat}{d:D} (h:ds[i]?=some d):wp (itemD ds i) Q s=Q d s:=by
 rw[Qhp (d:=d) (by ac_nf) (by simpa using h),wp_ret]
theorem x_tTrue:wp (tTrue l) T s=T true s:=wp_eq rfl
end
def bP (p:Prop):Bool:=@decide p (Classical.propDecidable p)
theorem QhE {p:Prop}:bP p=true↔p:=by unfold bP;exact @decide_eq_true_iff p (Classical.propDecidable p)
theorem QhF {p:Prop} (h:p):bP p=true:=QhE.mpr h
theorem QhG {p:Prop} (h:¬p):bP p=false:=by
 cases e:bP p with
 | false=>rfl
 | true=>exact (h (QhE.mp e)).elim
theorem QhH {b:Bool}{p:Prop} (h:b=true↔p):b=bP p:=by
 cases b with
 | true=>exact (QhF (h.mp rfl)).symm
 | false=>exact (QhG fun k=>by cases h.mpr k).symm
def upto {α:Type} (n:Nat) (f:Nat->α):List α:=(List.range n).map f
theorem QhK {α:Type}{n i:Nat}{f:Nat->α} (h:i < n):(upto n f)[i]?=some (f i):=by unfold upto;rw[List.getElem?_map,List.getElem?_range h];ac_rfl
theorem QhL {α:Type}{n i:Nat}{f:Nat->α}{x:α} (h:(upto n f)[i]?=some x):i < n/\x=f i:=by
 have hi:i < n:=by
  have:=(List.getElem?_eq_some_iff.mp h).1
  simpa [upto] using this
 rw[QhK hi]at h;cases h;exact⟨hi,rfl⟩
theorem QhM {α:Type}{n:Nat}{f:Nat->α}:(upto n f).length=n:=by simp[upto]
theorem QhN {α:Type}{n:Nat}{f:Nat->α}:upto (n + 1) f=upto n f++[f n]:=by unfold upto;rw[List.range_succ,List.map_append];ac_rfl
theorem QhO {α:Type}{n:Nat}{xs:List α}{f:Nat->α} (hl:xs.length=n) (h:∀ i,i < n->xs[i]?=some (f i)):xs=upto n f:=by
 apply List.ext_getElem?
 intro i
 by_cases hi:i < n
 ·rw[h i hi,QhK hi]
 ·rw[List.getElem?_eq_none (by ac_nf),List.getElem?_eq_none (by rw[QhM];ac_nf)]
theorem QhP {α:Type}{n:Nat}{f g:Nat->α} (h:∀ i,i < n->f i=g i):upto n f=upto n g:=
 QhO QhM fun i hi=>by rw[QhK hi,h i hi]
theorem QhQ {α β:Type}{n:Nat}{f:Nat->α}{g:α->β}:(upto n f).map g=upto n fun i=>g (f i):=by unfold upto;rw[List.map_map];ac_rfl
theorem QhR {n:Nat}:rngD 0 n=upto n fun i=>.int i:=by unfold rngD upto;congr 1;funext k;simp
theorem QhS {n:Nat}{f:Nat->Bool}:boolsL (upto n fun i=>.bl (f i))=some (upto n f):=by
 have:∀ (xs:List Nat),boolsL (xs.map fun i=>.bl (f i))=some (xs.map f):=by
  intro xs
  induction xs with
  | nil=>rfl
  | cons x xs ih=>simp only[List.map_cons,boolsL,ih];ac_rfl
 exact this _
theorem QhT {n:Nat}{p:Nat->Prop}{Q:D->Sto->Prop}{s:Sto}:wp (allD (upto n fun i=>.bl (bP (p i)))) Q s=Q (.bl (bP (∀ i,i < n->p i))) s:=by
 unfold allD;rw[QhS]
 have:(upto n fun i=>bP (p i)).all id=bP (∀ i,i < n->p i):=QhH (by simp[upto,List.all_map,QhE])
 dsimp only;rw[this,wp_ret]
theorem QhU {g : CG} {e : CE} {same : Sto -> Prop} {ds : List D} {l0 : Loc} {f : Nat -> D} {Q : List D -> Sto -> Prop} {s : Sto} (I : Loc -> Prop) (hs : same s) (h0 : I l0)
  (h:∀ i d l,ds[i]?=some d->I l->∃ l',(∀ G,wp (g d l) G s=G l' s)/\I l'/\∀ Q,wp (e l') Q s=Q (f i) s):
  wp (collect g tTrue e same ds l0) Q s=Q (upto ds.length f) s:=by
 have chk:∀ {R:Unit->Sto->Prop},R () s->wp (chkS same) R s:=fun r=>by rw[Qhi];unfold chkS;rw[if_pos hs];exact r
 apply QhB
 refine Qhr (Q:=fun out s'=>out=upto ds.length f/\s'=s) (fun out xs l s'=>∃ i,xs=ds.drop i/\i<=ds.length/\I l/\out=upto i f/\s'=s) (fun out l s' ⟨i,e1,hi,_,e2,es⟩=>?_) (fun out d xs l s' ⟨i,e1,hi,hI,e2,es⟩=>?_) ds [] _ s ⟨0,by simp,Nat.zero_le _,h0,rfl,rfl⟩
 ·have : i = ds.length := by
    have:=congrArg List.length e1
    simp at this;ac_nf
  subst this
  subst es
  exact chk ⟨e2,rfl⟩
 ·have hlt : i < ds.length := by
    have:=congrArg List.length e1
    simp at this;ac_nf
  rw[List.drop_eq_getElem_cons hlt]at e1
  obtain⟨e3,e4⟩:=List.cons.inj e1
  obtain⟨l',q1,q2,q3⟩:=h i d l (by rw[e3];exact List.getElem?_eq_getElem hlt) hI
  subst es
  refine chk ?_
  rw[q1]
  show wp (ret true) _ s'
  rw[wp_ret]
  show wp (e l') _ s'
  rw[q3]
  exact⟨i + 1,e4,hlt,q2,by rw[e2,QhN],rfl⟩
theorem QhV {e : CE} {same : Sto -> Prop} {ds : List D} {caps : Loc} {f : Nat -> D} {Q : List D -> Sto -> Prop} {s : Sto} (hs : same s) (h : ∀ i d, ds[i]? = some d -> ∀ Q, wp (e (some d :: caps)) Q s = Q (f i) s) :
  wp (collect (gVar 0) tTrue e same ds (none::caps)) Q s=Q (upto ds.length f) s:=
 QhU (fun l=>∃ x,l=x::caps) hs ⟨none,rfl⟩ fun i d l hd pq101=>by obtain⟨x,el⟩:=pq101;exact⟨some d::caps,fun G=>by rw[el,x_gvar];rfl,⟨_,rfl⟩,h i d hd⟩
theorem QhW {e : CE} {same : Sto -> Prop} {ds : List D} {caps : Loc} {f : Nat -> D} {Q : List D -> Sto -> Prop} {s : Sto} (hs : same s) (h : ∀ i d, ds[i]? = some d -> ∃ a b, d = .tup [a, b] /\ ∀ Q, wp (e (some a :: some b :: caps)) Q s = Q (f i) s) :
  wp (collect (gTupD 2 (gsCons (gVar 0) (gsCons (gVar 1) gsNil))) tTrue e same ds (none::none::caps)) Q s=Q (upto ds.length f) s:=
 QhU (fun l=>∃ x y,l=x::y::caps) hs ⟨none,none,rfl⟩ fun i d l hd pq102=>by
  obtain⟨x,y,el⟩:=pq102
  obtain⟨a,b,ed,q⟩:=h i d hd
  refine⟨some a::some b::caps,fun G=>?_,⟨_,_,rfl⟩,q⟩
  rw[ed,el,x_gtup,x_gcons,x_gvar,x_gcons,x_gvar,x_gnil]
  exact propext ⟨fun h=>h.2,fun h=>⟨rfl,h⟩⟩
section
variable {n:Nat}{f:Nat->D}{Q:D->Sto->Prop}{s:Sto}
theorem QhX {i:Nat} (h:i < n):wp (itemD (upto n f) (i:Int)) Q s=Q (f i) s:=QhD (QhK h)
theorem QhY (h:0 < n):wp (itemD (upto n f) 0) Q s=Q (f 0) s:=by
 have:=@QhD Q s (upto n f) 0 (f 0) (QhK h);simpa using this
end
theorem QhZ {s:Sto}:anySt s:=trivial
theorem Qh0 {e : CE} {n : Nat} {f : Nat -> D} {same : Sto -> Prop} {caps : Loc} {s : Sto} {Q : List D -> Sto -> Prop} (W : Nat -> List D -> Sto -> Prop) (hs : ∀ i out s, W i out s -> same s) (h0 : W 0 [] s)
  (hstep:∀ (i:Nat) out s,i < n->W i out s->wp (e (some (f i)::caps)) (fun x s'=>W (i + 1) (out++[x]) s') s) (hend:∀ out s,W n out s->Q out s):
  wp (collect (gVar 0) tTrue e same (upto n f) (none::caps)) Q s:=
 Qhs W hs h0 (fun i d out s hd w=>by obtain⟨hi,e⟩:=QhL hd;subst e;exact hstep i out s hi w) (fun out s w=>hend out s (by rw[QhM]at w;exact w))
theorem Qh1 {e : CE} {same : Sto -> Prop} {n : Nat} {g : Nat -> D} {caps : Loc} {f : Nat -> D} {Q : List D -> Sto -> Prop} {s : Sto} (hs : same s) (h : ∀ i, i < n -> ∀ Q, wp (e (some (g i) :: caps)) Q s = Q (f i) s) :
  wp (collect (gVar 0) tTrue e same (upto n g) (none::caps)) Q s=Q (upto n f) s:=by
 rw[QhV (f:=f) hs (fun i d hd=>by obtain⟨hi,e⟩:=QhL hd;subst e;exact h i hi),QhM]
theorem Qh2 {e : CE} {same : Sto -> Prop} {n : Nat} {a b : Nat -> D} {caps : Loc} {f : Nat -> D} {Q : List D -> Sto -> Prop} {s : Sto} (hs : same s) (h : ∀ i, i < n -> ∀ Q, wp (e (some (a i) :: some (b i) :: caps)) Q s = Q (f i) s) :
  wp (collect (gTupD 2 (gsCons (gVar 0) (gsCons (gVar 1) gsNil))) tTrue e same (upto n fun i=>.tup [a i,b i]) (none::none::caps)) Q s=Q (upto n f) s:=by
 rw[QhW (f:=f) hs (fun i d hd=>by obtain⟨hi,e⟩:=QhL hd;exact⟨_,_,e,h i hi⟩),QhM]
section
variable {Q:D->Sto->Prop}{T:Bool->Sto->Prop}{R:Flw->Sto->Prop}{A:List D->Sto->Prop}{s:Sto}{l:Loc}
theorem x_chain {f g:D->D->M D}{a b c:CE}:wp (cChain f g a b c l) Q s=wp (a l) (fun x s1=>wp (b l) (fun y s2=>wp (f x y) (fun z s3=>andB z (wp (c l) (fun w s4=>wp (g y w) Q s4) s3) (Q (.bl false) s3)) s2) s1) s:=by
 unfold cChain;rw[Qhj];congr 1;funext x s1;rw[Qhj];congr 1;funext y s2;rw[Qhj];congr 1;funext z s3
 rcases z with _ | b | _ | _ | _ | _ | _ | _<;>first | bv_omega | (cases b<;>first | bv_omega | (dsimp only;rw[Qhj];first | ac_rfl | (refine congrArg _ ?_;refine wp_cg fun _ _=>?_;simp only[wp_ret,wp_alloc,wp_bad])))
theorem x_append {a b : CE} : wp (cAppend a b l) Q s = wp (a l) (fun x s1 => match x with
  | .ref n=>wp (b l) (fun v s2=>wp (getL n) (fun ds s3=>ds.length < lim/\wp (putL n (ds++[v])) (fun _ s4=>Q .non s4) s3) s2) s1
  | _=>False) s:=by
 unfold cAppend;rw[Qhj];congr 1;funext x s1
 cases x<;>first | bv_omega | (dsimp only;rw[Qhj];congr 1;funext v s2;unfold appendL;rw[Qhj];congr 1;funext ds s3;rw[wp_chk,Qhj];first | ac_rfl | (refine congrArg _ ?_;refine wp_cg fun _ _=>?_;simp only[wp_ret,wp_alloc,wp_bad]))
theorem x_tupleR {n:Nat}:wp (tupleD (.ref n)) Q s=wp (getL n) (fun ds s1=>Q (.tup ds) s1) s:=by unfold tupleD;rw[Qhj];(try dsimp only);(try rw[Qhj]);refine wp_cg fun _ _=>?_;simp only[wp_ret,wp_alloc,wp_bad]
theorem x_inTu {x:D}{ds:List D}:wp (inD x (.tup ds)) Q s=wp (inL x ds) Q s:=nr rfl
theorem Qh3 {v:Int} (h:v=0\/v=1):wp (inL (.int v) [.int 0,.int 1]) Q s=Q (.bl true) s:=by
 unfold inL
 rw[wp_chk,wp_ret]
 rcases h with h | h<;>subst h<;>exact propext ⟨fun h=>h.2,fun h=>⟨⟨rfl,rfl⟩,h⟩⟩
theorem x_eqStr {a b:Str}:wp (eqD (.str a) (.str b)) Q s=Q (.bl (a == b)) s:=wp_eq rfl
theorem x_neStr {a b:Str}:wp (neD (.str a) (.str b)) Q s=Q (.bl !(a == b)) s:=wp_eq rfl
theorem x_isiT {ds:List D}:wp (isInst ["tuple"] (.tup ds)) Q s=Q (.bl true) s:=wp_eq rfl
theorem x_isiI {i:Int}:wp (isInst ["int"] (.int i)) Q s=Q (.bl true) s:=wp_eq rfl
theorem x_isiB {i:Int}:wp (isInst ["bool"] (.int i)) Q s=Q (.bl false) s:=wp_eq rfl
theorem x_neg {i:Int}:wp (negD (.int i)) Q s=Q (.int (-i)) s:=wp_eq rfl
theorem x_rng2 {a b : CE} {I : Wk -> Sto -> Prop} : wp (MM.iRng2 a b l) I s = wp (a l) (fun x s1 => wp (b l) (fun y s2 => match x, y with
  | .int i,.int j=>((-(2 ^ 62)<=i/\i < 2 ^ 62)/\(-(2 ^ 62)<=j/\j < 2 ^ 62))/\I ⟨rngD i (j - i).toNat,anySt⟩ s2
  | _,_=>False) s1) s:=by
 unfold MM.iRng2;rw[Qhj];congr 1;funext x s1;rw[Qhj];congr 1;funext y s2
 cases x<;>cases y<;>first | bv_omega | (dsimp only;rw[wp_chk];first | ac_rfl | (refine congrArg _ ?_;refine wp_cg fun _ _=>?_;simp only[wp_ret,wp_alloc,wp_bad]))
theorem x_addT {x y:List D}:wp (addD (.tup x) (.tup y)) Q s=(x.length + y.length<=lim/\Q (.tup (x++y)) s):=by unfold addD;rw[wp_chk];first | ac_rfl | (refine congrArg _ ?_;refine wp_cg fun _ _=>?_;simp only[wp_ret,wp_alloc,wp_bad])
theorem Qh4 {n:Nat}:wp (allD (upto n fun _=>.bl true)) Q s=Q (.bl true) s:=by
 have:=@QhT n (fun _=>True) Q s
 rw[show (fun _:Nat=>D.bl (bP True))=fun _=>D.bl true from by funext i;rw[QhF trivial]]at this
 rw[this,QhF (fun _ _=>trivial)]
end
theorem ite_f {p q:Prop}:(if false=true then p else q)=q:=if_neg (by simp)
def mx (f:Nat->Nat):Nat->Nat
 | 0=>0
 | n + 1=>max (mx f n) (f n)
theorem Qh5 {f:Nat->Nat}{n m:Nat} (h:∀ i,i < n->f i<=m):mx f n<=m:=by
 induction n with
 | zero=>exact Nat.zero_le _
 | succ n ih=>unfold mx;exact Nat.max_le.mpr ⟨ih fun i hi=>h i (by ac_nf),h n (by ac_nf)⟩
theorem Qh6 {f:Nat->Nat}{n:Nat}{Q:D->Sto->Prop}{s:Sto} (hn:0 < n):wp (maxD (upto n fun i=>.int (f i:Nat))) Q s=Q (.int (mx f n:Nat)) s:=by
 obtain⟨k,rfl⟩:∃ k,n=k + 1:=⟨n - 1,by ac_nf⟩
 have hm:∀ (k:Nat),(((List.range k).map (· + 1)).map fun (i:Nat)=>((f i:Nat):Int)).foldl max ((f 0:Nat):Int)=((mx f (k + 1):Nat):Int):=by
  intro k
  induction k with
  | zero=>show ((f 0:Nat):Int)=((max 0 (f 0):Nat):Int);ac_nf
  | succ k ih=>
   rw[List.range_succ,List.map_append,List.map_append,List.foldl_append,ih]
   show max ((mx f (k + 1):Nat):Int) ((f (k + 1):Nat):Int)=((max (mx f (k + 1)) (f (k + 1)):Nat):Int)
   ac_nf
 unfold maxD upto
 rw[QhA (fun i=>((f i:Nat):Int)),List.range_succ_eq_map,List.map_cons]
 dsimp only
 rw[wp_ret,<- hm k]
theorem Qh8 {lo:Int}{n:Nat}:rngD lo n=upto n fun i=>.int (lo + i):=rfl
section
variable {α β:Type}{γ:Sort _}
theorem y_dec {p:Prop} [Decidable p]:(decide p=true)=p:=_root_.decide_eq_true_eq
theorem y_rs {n:Nat}{a:α}:List.replicate (n + 1) a=a::List.replicate n a:=nr rfl
theorem y_rz {a:α}:List.replicate 0 a=[]:=nr rfl
theorem y_js {x:Option α}:(some x).join=x:=nr rfl
theorem y_mc {f:α->β}{a:α}{l:List α}:List.map f (a::l)=f a::List.map f l:=nr rfl
theorem y_mn {f:α->β}:List.map f []=[]:=nr rfl
theorem y_ca {a:α}{l k:List α}:(a::l)++k=a::(l++k):=nr rfl
theorem y_na {l:List α}:[]++l=l:=nr rfl
theorem y_g0 {a:α}{l:List α}:(a::l)[0]?=some a:=nr rfl
theorem y_gs {a:α}{l:List α}{i:Nat}:(a::l)[i + 1]?=l[i]?:=by simp
theorem y_lc {a:α}{l:List α}:(a::l).length=l.length + 1:=nr rfl
theorem y_ln:([]:List α).length=0:=nr rfl
theorem y_it {c d:γ}:(if True then c else d)=c:=if_pos trivial
theorem y_if {c d:γ}:(if False then c else d)=d:=if_neg (fun h=>h)
theorem y_at {p:Prop}:(p/\True)=p:=and_true p
theorem y_ta {p:Prop}:(True/\p)=p:=true_and p
theorem y_nt:(!true)=false:=nr rfl
theorem y_nf:(!false)=true:=nr rfl
end
theorem Qh9 {m:M D}{s:Sto} (h:wp m (fun d _=>d=.bl true) s):∃ st',m s=.ok (.bl true) st':=by
 rw[Qhi]at h
 cases e:m s with
 | ok a s'=>rw[e]at h;exact⟨s',by rw[show a=.bl true from h]⟩
 | exc _ _=>rw[e]at h;exact h.elim
 | bad=>rw[e]at h;exact h.elim
theorem Qia {α:Type}{l:List α}{a:α}:(l++[a])[l.length]?=some a:=by rw[List.getElem?_append_right (Nat.le_refl _),Nat.sub_self];ac_rfl
theorem Qib {α:Type}{l:List α}{a b:α}{n:Nat} (h:l[n]?=some a):(l++[b])[n]?=some a:=by rw[List.getElem?_append_left (List.getElem?_eq_some_iff.mp h).1];exact h
section
variable {Q:D->Sto->Prop}{A:List D->Sto->Prop}{s:Sto}
theorem Qic {g : CG} {e : CE} {same : Sto -> Prop} {xs : List D} {l : Loc} (V : D -> Prop) (L : Loc -> Prop) (P : D -> Prop) (W : Sto -> Prop) (hs : ∀ s, W s -> same s) (h0 : W s) (hl : L l) (hV : ∀ d ∈ xs, V d)
  (hstep:∀ d l s,V d->L l->W s->wp (g d l) (fun l1 s1=>L l1/\wp (e l1) (fun x s2=>P x/\W s2) s1) s) (hend:∀ out s',out.length=xs.length->(∀ d∈out,P d)->W s'->A out s'):
  wp (collect g tTrue e same xs l) A s:=by
 have chk:∀ {s:Sto}{R:Unit->Sto->Prop},same s->R () s->wp (chkS same) R s:=fun h r=>by rw[Qhi];unfold chkS;rw[if_pos h];exact r
 refine Qhr (Q:=A) (fun out ds l s=>out.length + ds.length=xs.length/\(∀ d∈ds,V d)/\L l/\(∀ d∈out,P d)/\W s) (fun out l s ⟨e1,_,_,hP,w⟩=>?_) (fun out d ds l s ⟨e1,hv,hL,hP,w⟩=>?_) xs [] l s ⟨by simp,hV,hl,fun d hd=>absurd hd (by simp),h0⟩
 ·exact chk (hs _ w) (hend out s (by simpa using e1) hP w)
 ·refine chk (hs _ w) ?_
  refine Qhn (hstep d l s (hv d (by simp)) hL w) fun l1 s1 pq105=>?_
  obtain⟨hL1,q⟩:=pq105
  show wp (ret true) _ s1
  rw[wp_ret]
  show wp (e l1) _ s1
  exact Qhn q fun x s2 pq106=>by obtain⟨px,w2⟩:=pq106;exact⟨by simp at e1 ⊢;ac_nf,fun d hd=>hv d (by simp[hd]),hL1,fun d hd=>by
   rcases List.mem_append.mp hd with hd | hd
   ·exact hP d hd
   ·rw[List.mem_singleton.mp hd];exact px,w2⟩
theorem Qid {e : CE} {same : Sto -> Prop} {xs : List D} {caps : Loc} (V : D -> Prop) (P : D -> Prop) (W : Sto -> Prop) (hs : ∀ s, W s -> same s) (h0 : W s) (hV : ∀ d ∈ xs, V d)
  (hstep:∀ d s,V d->W s->wp (e (some d::caps)) (fun x s2=>P x/\W s2) s) (hend:∀ out s',out.length=xs.length->(∀ d∈out,P d)->W s'->A out s'):
  wp (collect (gVar 0) tTrue e same xs (none::caps)) A s:=
 Qic V (fun l=>∃ x,l=x::caps) P W hs h0 ⟨none,rfl⟩ hV (fun d l s hv pq107 w=>by obtain⟨x,el⟩:=pq107;subst el;rw[x_gvar];exact⟨⟨_,rfl⟩,hstep d s hv w⟩) hend
def isI (n:Nat) (d:D):Prop:=∃ i:Nat,i < n/\d=.int i
theorem Qie {n:Nat}:∀ d∈rngD 0 n,isI n d:=fun d hd=>by
 obtain⟨i,hi⟩:=List.getElem?_of_mem hd
 obtain⟨h1,h2⟩:=Qhu hi
 exact⟨i,h1,h2⟩
end
end MM
local macro_rules
 | `(tactic| simp_arith [$a,*])=>`(tactic| simp only[↓MM.x_seq,↓MM.x_next,↓MM.x_asg,↓MM.x_ret,↓MM.x_exp,↓MM.x_if,↓MM.x_cmp,↓MM.x_andE,↓MM.x_notE,↓MM.x_truB,↓MM.x_tupL,↓MM.x_item0,↓MM.x_item1,↓MM.x_item2,↓MM.x_item3,↓MM.x_tTrue,↓MM.x_enum,↓MM.x_gtup,↓MM.x_gcons,↓MM.x_gnil,↓MM.x_slice,↓MM.x_none,↓MM.x_some,↓MM.x_val,↓MM.x_not,↓MM.x_and,↓MM.x_or,↓MM.x_g0,↓MM.x_g1,↓MM.x_g2,↓MM.x_g3,↓MM.x_g4,↓MM.x_g5,↓MM.x_g6,↓MM.x_g7,↓MM.x_g8,MM.x_gvar,↓MM.x_gsub,↓MM.x_v0,↓MM.x_v1,↓MM.x_v2,↓MM.x_v3,↓MM.x_v4,↓MM.x_v5,↓MM.x_v6,↓MM.x_v7,↓MM.x_v8,MM.x_var,↓MM.x_con,↓MM.x_c1,↓MM.x_c2,↓MM.x_call,↓MM.x_nil,↓MM.x_cons,↓MM.x_tup,↓MM.x_disp,↓MM.x_keep,↓MM.x_tmp,↓MM.x_comp,↓MM.x_for,↓MM.x_rng,↓MM.x_iseq,↓MM.x_add,↓MM.x_mul,↓MM.x_div,↓MM.x_mod,↓MM.x_lt,↓MM.x_le,↓MM.x_gt,↓MM.x_ge,↓MM.x_eq,↓MM.x_ne,↓MM.x_subsT,↓MM.x_subsR,↓MM.x_lenT,↓MM.x_lenR,↓MM.x_setR,↓MM.x_retF,↓MM.x_nextF,↓MM.wp_run,↓MM.wp_ret,↓MM.wp_chk,↓MM.wp_alloc,MM.andB_t,MM.andB_f,MM.y_dec,MM.y_rs,MM.y_rz,MM.y_js,MM.y_mc,MM.y_mn,MM.y_ca,MM.y_na,MM.y_g0,MM.y_gs,MM.y_lc,MM.y_ln,Nat.reduceAdd,Nat.reduceSub,Int.reduceLE,Int.reduceLT,MM.y_it,MM.y_if,MM.y_at,MM.y_ta,beq_iff_eq,↓MM.x_chain,↓MM.x_append,↓MM.x_tupleR,↓MM.x_inTu,↓MM.x_eqStr,↓MM.x_neStr,↓MM.x_isiT,↓MM.x_isiI,↓MM.x_isiB,↓MM.x_neg,↓MM.x_rng2,↓MM.x_addT,MM.ite_f,MM.y_nt,MM.y_nf,Nat.reduceLT,Nat.reduceLeDiff,$a,*])
namespace MM
open PySem
def pr:List Nat->Nat
 | []=>1
 | b::bs=>b * pr bs
section
variable {l:Loc}{Q:D->Sto->Prop}{A:List D->Sto->Prop}{I:Wk->Sto->Prop}{s:Sto}
theorem Qif {a b : CE} : wp (cSplit a b l) Q s = wp (a l) (fun x s1 => match x with
  | .str x=>wp (b l) (fun y s2=>match y with
   | .str y=>((y.length == 0)=false/\x.length + 2<=lim/\(Txt.split x y).length<=lim)/\Q (.ref s2.length) (s2++[.lst ((Txt.split x y).map .str)])
   | _=>False) s1
  | _=>False) s:=by
 unfold cSplit
 rw[Qhj]
 refine wp_cg fun x s1=>?_
 cases x<;>first | exact wp_no rfl | skip
 dsimp only
 rw[Qhj]
 refine wp_cg fun y s2=>?_
 cases y<;>first | exact wp_no rfl | skip
 dsimp only
 rw[wp_chk,wp_alloc]
theorem Qig {a b : CE} : wp (cJoin a b l) Q s = wp (a l) (fun x s1 => match x with
  | .str x=>wp (b l) (fun y s2=>match y with
   | .ref n=>wp (getL n) (fun ds s3=>match strsOf ds with
    | some ys=>(ys.map (·.length)).sum + ys.length * x.length<=16777216/\Q (.str (Txt.join x ys)) s3
    | none=>False) s2
   | _=>False) s1
  | _=>False) s:=by
 unfold cJoin
 rw[Qhj]
 refine wp_cg fun x s1=>?_
 cases x<;>first | exact wp_no rfl | skip
 dsimp only
 rw[Qhj]
 refine wp_cg fun y s2=>?_
 cases y<;>first | exact wp_no rfl | skip
 dsimp only
 rw[Qhj]
 refine wp_cg fun ds s3=>?_
 cases strsOf ds with
 | none=>exact wp_no rfl
 | some ys=>dsimp only;rw[wp_chk,wp_ret]
theorem Qih {r:CF}:wp (cFmt r l) Q s=wp (r Str.empty l) Q s:=rfl
theorem Qii {out:Str}:wp (fNil out l) Q s=(out.length<=lim/\Q (.str out) s):=by unfold fNil;rw[wp_chk,wp_ret]
theorem Qij {a : CE} {r : CF} {out : Str} : wp (fCons a r out l) Q s = wp (a l) (fun x s1 => match x with
  | .str y=>(out++y).length<=lim/\wp (r (out++y) l) Q s1
  | _=>False) s:=by
 unfold fCons
 rw[Qhj]
 refine wp_cg fun x s1=>?_
 cases x<;>first | exact wp_no rfl | skip
 dsimp only
 rw[wp_chk]
theorem Qik {a : CE} : wp (iStr a l) I s = wp (a l) (fun x s1 => match x with
  | .str x=>x.cps.all (· < 128)=true/\I ⟨signs x,anySt⟩ s1
  | _=>False) s:=by
 unfold iStr
 rw[Qhj]
 refine wp_cg fun x s1=>?_
 cases x<;>first | exact wp_no rfl | skip
 dsimp only
 rw[wp_chk,wp_ret]
theorem Qil {i:Int}:wp (strD (.int i)) Q s=(i.natAbs.log2 < 1920/\Q (.str (Str.ofString (toString i))) s):=by unfold strD;rw[wp_chk,wp_ret]
theorem Qim {x:Str}{n:Int} (h:intText? x=some n) (h1:x.length<=640):wp (intTD (.str x)) Q s=Q (.int n) s:=by
 unfold intTD
 dsimp only
 rw[h]
 dsimp only
 rw[wp_chk,wp_ret]
 exact propext ⟨fun h=>h.2,fun h=>⟨h1,h⟩⟩
theorem Qin {x y:Str}:wp (inTD (.str x) (.str y)) Q s=Q (.bl (!(Builtin.Str.occurrences y x 0 y.length 1).isEmpty)) s:=wp_eq rfl
theorem Qio {x y:Str}:wp (addD (.str x) (.str y)) Q s=(x.length + y.length<=lim/\Q (.str (x++y)) s):=by
 show wp (chk _ _) _ _=_
 rw[wp_chk,wp_ret]
theorem Qip {x:Str}:wp (lenD (.str x)) Q s=(x.length<=lim/\Q (.int x.length) s):=by
 show wp (chk _ _) _ _=_
 rw[wp_chk,wp_ret]
theorem Qiq {x:Str}:wp (isInst ["str"] (.str x)) Q s=Q (.bl true) s:=wp_eq rfl
theorem Qir {c:Nat}{r:List Nat}:wp (subsD (.str ⟨(c::r).toArray⟩) (.int 0)) Q s=((⟨(c::r).toArray⟩:Str).length<=lim/\Q (.str ⟨#[c]⟩) s):=by
 show wp (chk _ _) _ _=_
 rw[wp_chk]
 congr 1
 have e:ixN (⟨(c::r).toArray⟩:Str).length 0=some 0:=by
  unfold ixN
  rw[if_pos (Int.le_refl 0),if_pos (by simp[Str.length])]
  rfl
 rw[e]
 exact wp_eq rfl
end
theorem Qis {n:Nat}{f:Nat->Str}:strsOf (upto n fun i=>.str (f i))=some (upto n f):=by
 unfold upto
 generalize List.range n=r
 induction r with
 | nil=>rfl
 | cons a r ih=>
  rw[List.map_cons,List.map_cons]
  show (strsOf (r.map fun i=>D.str (f i))).map (f a::·)=_
  rw[ih]
  rfl
def dig (n:Nat):Str:=⟨#[48 + n]⟩
end MM
namespace MM
def cSliceW (a:CE) (lo hi:CO):CE:=fun l=>bnd (a l) fun x=>bnd (lo l) fun i=>bnd (hi l) fun j=>match x with
 | .tup ds=>ret (.tup (cutD ds i j))
 | _=>bad
end MM
namespace HT
open PySem PySem.Spec PyProof.Rows L2
section
variable {prog:Program}{w:World}{A:Around}{E:Value->Shared->Prop}{s:Shared}
theorem getItem_tuple_all {t sl : Addr} {items : Array Value} {vl vu : Value} {lo hi : Option Int} {Q : Value -> Shared -> Prop} (ht : IsTup s.heap t items) (hs : s.heap.IsSliceOf sl vl vu .none) (pl : IsPart vl lo) (pu : IsPart vu hi)
  (hw:sIx items.size 0 lo=0/\sIx items.size items.size hi=items.size) (h:Q (.ref t) s):wpAny (model prog w) A (getItem (.ref t) (.ref sl)) Q E s:=by
 obtain⟨os,hos,hcs,hds⟩:=id hs
 have hTs:s.TypeIs (.ref sl) "slice":=⟨os,hos,hcs⟩
 unfold getItem
 try with_reducible refine wpAny_holding ?_
 first | refine wpAny_bind (wpAny_pure ?_) | skip
 refine wpAny_bind (wpAny_sequenceKey ht.typeIs (by decide) ?_)
 refine wpAny_bind (wpAny_callSpecial?_slot (name:=Str.ofString "__getitem__") ht.typeIs PyProof.Rows.slot_tuple_getitem
  (wpAny_call_entry PyProof.Rows.slot_tuple_getitem ht.typeIs entry_tuple_getitem ?_ (args_tuple_getitem _ _)))
 show wpAny _ _ (Builtin.Tuple.tupleItemsOf (.ref t) >>= _) _ _ s
 refine wpAny_bind (tupleItemsOf_ ht ?_)
 refine wpAny_bind (wpAny_typeOf hTs ?_)
 rw[if_pos (by decide)]
 refine wpAny_bind (QbX hs pl pu ?_)
 have hyes:((((sIx items.size 0 lo:Nat):Int) == 0 && (1:Int) == 1 && (sIx items.size items.size hi - sIx items.size 0 lo) == items.size)=true):=by
  rw[hw.1,hw.2];simp
 show wpAny _ _ (if (((sIx items.size 0 lo:Nat):Int) == 0 && (1:Int) == 1 && (sIx items.size items.size hi - sIx items.size 0 lo) == items.size)=true then _ else _) _ _ s
 rw[if_pos hyes]
 unfold Builtin.Tuple.tupleIsExact
 refine wpAny_bind (wpAny_bind (wpAny_typeOf ht.typeIs ?_))
 refine wpAny_pure ?_
 rw[if_pos (by decide)]
 exact wpAny_bind (wpAny_rule (wpAny_pure ⟨_,rfl,wpAny_pure h⟩))
end
end HT
namespace MM
open PySem PySem.Spec PyProof.Rows L2
section
variable {X:Cx}{e:Expr}{fa:CE}{pos:Pos}
def rSlW (K:PySem.W.Frag):V->Option Int->Option Int->Hp->VK->Prop:=fun x lo hi H Q=>∃ a xs,x=.ref a/\SqT K H a xs/\((HT.sIx xs.length 0 lo=0/\HT.sIx xs.length xs.length hi=xs.length)->Q (.ref a) H) /\
 (¬ (HT.sIx xs.length 0 lo=0/\HT.sIx xs.length xs.length hi=xs.length)->∀ p,H p=none->Q (.ref p) (upd H p (.tup (cutV xs lo hi))))
theorem Qit:SlR X (rSlW X.K):=by
 intro pins s σ H x v vl vu lo hi sl Q I rx hs pl pu h
 obtain⟨a,xs,rfl,hx,h1,h2⟩:=h
 by_cases hw:HT.sIx xs.length 0 lo=0/\HT.sIx xs.length xs.length hi=xs.length
 ·cases rx
  obtain⟨its,r,ht,hz⟩:=I.tuple hx
  have hlen:its.toArray.size=xs.length:=by rw[List.size_toArray];exact r.length.symm
  refine⟨"tuple",_,PyProof.Rows.slot_tuple_getitem.lookup,ht.typeIs,?_⟩
  exact HT.getItem_tuple_all ht hs pl pu (by rw[hlen];exact hw) ⟨.ref a,H,I,rfl,h1 hw⟩
 ·exact Qb4 pins s σ H _ v vl vu lo hi sl Q I rx hs pl pu ⟨a,xs,rfl,hx,hw,h2 hw⟩
theorem Qiu {ds:List D}{i j:Option Int} (h:MM.sIx ds.length 0 i=0/\MM.sIx ds.length ds.length j=ds.length):cutD ds i j=ds:=by
 unfold cutD
 rw[h.1,h.2,List.drop_zero,Nat.sub_zero,List.take_length]
theorem Qiv {lo hi:Option Expr}{fl fh:CO}{p2:Pos} (h:SE X e fa) (hl:SO X lo fl) (hh:SO X hi fh):SE X (.Subscript e (.Slice lo hi none p2) pos) (cSliceW fa fl fh):=
 (Qb2 Qit h hl hh).of fun σ H Q h_=>h_.el fun ρ l st lr sr p=>⟨ρ,l,st,lr,sr,p.bnd.imp fun d st1 ρ1 H1 x1 s1 p1 v rv=>⟨ρ1,l,st1,lr.mono x1,s1,p1.bnd.imp fun i st2 ρ2 H2 x2 s2 p2=>⟨ρ2,l,st2,(lr.mono x1).mono x2,s2,p2.bnd.imp fun j st3 ρ3 H3 x3 s3 p3=>by
  have rv3:=(rv.mono x2).mono x3
  have e:∀ n d o,HT.sIx n d o=MM.sIx n d o:=fun n d o=>by cases o<;>rfl
  cases rv3 with
  | @tup a vs ds h r=>
   refine⟨a,vs,rfl,h,fun hw=>?_,fun hw q hq=>p3 ρ3 _ (Ex.new hq) (s3.new hq) _ (.tup (SqT.of Qai) ((Reps.cut r i j).mono (Ex.new hq)))⟩
   rw[e,e,r.length]at hw
   dsimp only at p3
   rw[Qiu hw]at p3
   exact p3.ret s3 _ (.tup h r)
  | _=>exact p3.elim⟩⟩⟩
end
def rSliceW:RuE:=⟨fun q c e=>match e with
 | .Subscript a (.Slice lo hi none _) p=>if c.tag p 1=true then (q.e c a).bind fun fa=>(optC q c lo).bind fun fl=>(optC q c hi).bind fun fh=>some (cSliceW fa fl fh) else none
 | _=>none,fun {q} hq {X c} g {e r} z=>by
 split at z
 ·simp only[Option.ite_none_right_eq_some,Option.bind_eq_some_iff]at z
  obtain⟨_,fa,ha,fl,hl,fh,hh,z⟩:=z
  cases z
  exact Qiv (hq.e g ha) (Qg0 hq g hl) (Qg0 hq g hh)
 ·cases z⟩
end MM
namespace MM
open PySem
def cStarts (a b:CE):CE:=fun l=>bnd (a l) fun x=>match x with
 | .str x=>bnd (b l) fun y=>match y with
  | .str y=>ret (.bl (Txt.startswith x y))
  | _=>bad
 | _=>bad
def tri (p:Str × Str × Str):D:=.tup [.str p.1,.str p.2.1,.str p.2.2]
def cPart (f:Str->Str->Str × Str × Str) (a b:CE):CE:=fun l=>bnd (a l) fun x=>match x with
 | .str x=>bnd (b l) fun y=>match y with
  | .str y=>chk ((y.length == 0)=false/\x.length<=lim) (ret (tri (f x y)))
  | _=>bad
 | _=>bad
def fmtS:D->M D
 | .str x=>chk (x.length<=lim) (ret (.str x))
 | _=>bad
def iEnumL (a:CE):CI:=fun l=>bnd (a l) fun x=>match x with
 | .ref n=>bnd (getL n) fun ds=>ret ⟨(rngD 0 ds.length).zipWith (fun i d=>.tup [i,d]) ds,sameL n ds⟩
 | _=>bad
open PySem.Spec PyProof.Rows L2
open PySem.AutoSeq1 (wpAny_loadPart')
def Itl (K:PySem.W.Frag) (a:Addr):It:=
 ⟨fun i H=>∃ xs x,SqL K H a xs/\xs[i]?=some x,fun i H x H'=>∃ T v,x=.ref T/\H T=none/\(∀ xs,SqL K H a xs->xs[i]?=some v)/\H'=upd H T (.tup [.int i,v]),fun i H=>∃ xs,SqL K H a xs/\xs.length<=i⟩
section
variable {X:Cx}{tg:Expr}{es:List Expr}{pos:Pos}{fa:CE}{K:PySem.W.Frag}{ρ:List Addr}{H:Hp}{st:Sto}
theorem Qiw {P:Program}{w:World}{k:Nat} (a e it:Addr) (hei:e≠it):Turn P w K (.Tuple es k pos) (Itl K a) [e,it] e (fun i h=>(∃ old,IsEnum h e it i old)/\h.IsListIter it a i) where
 mem:=by simp
 obj:=fun i h pq108 b hb=>by
  obtain⟨⟨old,he⟩,hit⟩:=pq108
  rcases List.mem_cons.mp hb with z | z
  ·subst z;exact⟨_,he,fun v q=>by cases q⟩
  ·have z':b=it:=by simpa using z
   subst z'
   obtain⟨o,e,c,d⟩:=hit
   exact⟨o,e,fun v q=>by rw[d]at q;cases q⟩
 keep:=fun i h h' pq109 kp=>by obtain⟨⟨old,he⟩,hit⟩:=pq109;exact⟨⟨old,kp e (by simp) _ he⟩,let ⟨o,x,r⟩:=hit;⟨o,kp it (by simp) o x,r⟩⟩
 item:=by
  intro X hP hw hK hc i pins s σ H E I hf pq136 hg;obtain⟨⟨old,he⟩,hit⟩:=pq136
  subst hP hw hK
  obtain⟨xs,x,hq,hx⟩:=hg
  obtain⟨its,rv,p0,hz⟩:=I.list hq
  have p:=p0.isList
  obtain⟨u,hu,ru⟩:=rv.get hx
  have hlt:i < its.toArray.size:=by rw[List.size_toArray];exact (List.getElem?_eq_some_iff.mp hu).1
  obtain⟨f0,f1,f2,f3,f4,f5⟩:=hf e (by simp)
  obtain⟨g0,g1,g2,g3,g4,g5⟩:=hf it (by simp)
  have hai:a≠it:=fun z=>by
   obtain⟨o,e1,c,_⟩:=hit
   obtain⟨o',e2,c',_⟩:=p
   rw[z,e1]at e2;cases e2;rw[c]at c';exact absurd (Value.type.inj c') (by decide)
  have hae:a≠e:=fun z=>by
   obtain⟨o',e2,c',_⟩:=p
   rw[z,he]at e2;cases e2;exact absurd (Value.type.inj c') (by decide)
  refine wpAny_pyNext_enum_item he hit p (x:=u) (by simpa using hu) hei fun h' ho hst hT hsz hk=>?_
  refine⟨_,rfl,wpAny_letOwnedTupleGo_enum ho fun h2 he2 hs2=>?_⟩
  have helt:e < s.heap.objs.size:=Heap.lt_size he
  have hTn:H s.heap.objs.size=none:=I.hok.fresh (Nat.le_refl _)
  have keep:∀ b o,b≠e->b≠it->s.heap.get? b=some o->h2.get? b=some o:=fun b o hb1 hb2 e1=>(hs2.2 b hb1).trans (hk b o hb1 hb2 e1)
  have hT2:h2.get? s.heap.objs.size=some { cls:=.type "tuple",data:=.seq #[.int i s.toks,u] }:=(hs2.2 _ (Nat.ne_of_gt helt)).trans hT
  have I2:Inv X pins σ (upd H s.heap.objs.size (.tup [.int i,x])) { s with heap:=h2,toks:=s.toks + 1 }:=by
   have ne:∀ b o,H b=some o->b≠e/\b≠it:=fun b o q=>⟨fun z=>(by rw[z,f0]at q;cases q),fun z=>(by rw[z,g0]at q;cases q)⟩
   refine I.step (g':=s.gens) (d':=s.drawn) (ch:=[e,it]) (fun b hb=>?_) (fun b o _ _ hc' e1 _=>keep b o (fun z=>hc' (by simp[z])) (fun z=>hc' (by simp[z])) e1)
    (fun b o _ _ hc' e1 _=>⟨o.slots,keep b o (fun z=>hc' (by simp[z])) (fun z=>hc' (by simp[z])) e1⟩) (fun b o hc' e1 n1=>by rw[Qaj (Nat.ne_of_lt (Heap.lt_size e1))];exact n1) (fun b o hc' e1=>⟨o,keep b o (fun z=>hc' (by simp[z])) (fun z=>hc' (by simp[z])) e1⟩)
    (fun b ys q=>by rw[Qaj (Qal q hTn)];exact q) (fun b o ys q=>by rw[Qaj (Qal q hTn)];exact q) (fun b ps q=>⟨#[],by rw[Qaj (Qal q hTn),q];simp⟩) (fun m hm=>?_) ?_ I.bare
   ·rcases List.mem_cons.mp hb with z | z
    ·subst z;exact⟨f3,f1,f4,f5⟩
    ·have z':b=it:=by simpa using z
     subst z';exact⟨g3,g1,g4,g5⟩
   ·obtain⟨o,es',ep,e1,r⟩:=hm
    exact⟨o,es',ep,keep _ o f1.symm g1.symm e1,r⟩
   ·intro b o q
    by_cases hb:b=s.heap.objs.size
    ·subst hb
     rw[Qai]at q;cases q
     exact⟨by show 2<=sizeLine;decide,[.int i s.toks,u],.cons ⟨s.toks,rfl⟩ (.cons ru .nil),⟨_,hT2,rfl,⟨_,rfl⟩,rfl⟩⟩
    ·rw[Qaj hb]at q
     have:=ne b o q
     refine (I.hok b o q).stay (fun c v hc' r=>keep c v ?_ ?_ r) (fun c q'=>by rw[Qaj (Qal q' hTn)];exact q') fun c ys q'=>by rw[Qaj (Qal q' hTn)];exact q'
     ·rcases hc' with z | z
      ·rw[z];exact this.1
      ·exact (ne c _ z).1
     ·rcases hc' with z | z
      ·rw[z];exact this.2
      ·exact (ne c _ z).2
  refine⟨.ref s.heap.objs.size,_,I2,rfl,⟨_,x,rfl,hTn,fun ys hy=>by rw[I.list_inj hy hq];exact hx,rfl⟩,⟨⟨u,by simpa using he2⟩,let ⟨o,x1,r⟩:=hst;⟨o,(hs2.2 it hei.symm).trans x1,r⟩⟩,fun b hb=>?_⟩
  rw[Qaj]
  ·exact (hf b hb).1
  ·intro z
   have:b < s.heap.objs.size:=by
    rcases List.mem_cons.mp hb with q | q
    ·rw[q];exact helt
    ·have q':b=it:=by simpa using q
     rw[q'];obtain⟨o,x1,_⟩:=hit;exact Heap.lt_size x1
   exact absurd this (by rw[z];exact Nat.lt_irrefl _)
 done:=by
  intro X hP hw hK hc i pins s σ H E I hf pq137 hg;obtain⟨⟨old,he⟩,hit⟩:=pq137
  subst hP hw hK
  obtain⟨xs,hq,hx⟩:=hg
  obtain⟨its,rv,p0,hz⟩:=I.list hq
  have p:=p0.isList
  obtain⟨g0,g1,g2,g3,g4,g5⟩:=hf it (by simp)
  have hl:=rv.length
  exact wpAny_pyNext_enum_end (I.ok.hd hc) he hit p (by simp;ac_nf) fun h' he'=>⟨rfl,I.turned (t':=s.toks) (fun b o hb e=>he' b o hb e) g0 g1 g3 g4 g5⟩
 self:=fun _ _ _ _ _ pq110 h=>by obtain⟨⟨old,he⟩,_⟩:=pq110;exact wpAny_pyIter_enum he h
theorem Qix {b : Expr} {p tpos : Pos} {k : Nat} (hg : Gl X "enumerate") (hm : X.mg "enumerate" = none) (h : SE X b fa) (hs : starEach [b] X.env = [(false, eval b X.env)] := by rfl) :
  SI X (.Tuple es k tpos) (.Call (.Name "enumerate" p) [b] [] pos) (iEnumL fa):=by
 intro pins s σ H R I pq138;obtain⟨ρ,l,st,lr,sr,q⟩:=pq138
 refine Call_ (Qay I hg hm boot_enumerate (PyProof.Rows.callWith_type1 (thn (Qd9 h Qd8 hs pos pins s σ H (fun vs H1=>∃ a xs,vs=[.ref a]/\SqL X.K H1 a xs/\R (Itl X.K a) H1) I ⟨ρ,l,st,lr,sr,?_⟩) fun us s1 ⟨vs,H1,I1,r1,q1⟩=>?_) hs rfl))
 ·have q':=Post.bnd q
  show Post X.K ρ H (MM.bnd (fa l) _ st) _
  unfold MM.bnd
  cases e:fa l st with
  | bad=>rw[e]at q';exact q'
  | exc _ _=>rw[e]at q';exact q'
  | ok d st1=>
   rw[e]at q'
   show ∀ ρ' H',Ex ρ H ρ' H'->SR X.K ρ' H' st1->_
   intro ρ1 H1 x1 s1 vs rvs
   have p1:=q' ρ1 H1 x1 s1
   cases rvs with
   | cons rv rt=>
    cases rt
    cases rv with
    | @ref a n _ h=>
     obtain⟨ds,e2,p2⟩:=Post.getL (Post.bnd p1) s1
     obtain⟨a',ws,ha,hv,r⟩:=s1.seq e2
     rw[h]at ha;cases ha
     refine⟨a,ws,rfl,SqL.of hv,p2.ret s1 _ ?_⟩
     intro ρ2 H2 st2 x2 s2 sm
     obtain⟨a2,ws2,ha2,hw2,r2⟩:=s2.seq sm
     obtain⟨τ,eτ,_⟩:=x2.pre
     rw[eτ,Qc8 h]at ha2;cases ha2
     have hl:=r2.length
     have ht2:SqL X.K H2 a ws2:=SqL.of hw2
     have len:((rngD 0 ds.length).zipWith (fun i d=>D.tup [i,d]) ds).length=ds.length:=by simp[rngD]
     refine⟨⟨ws2,ht2,by rw[len,hl];exact Nat.le_refl _⟩,fun i d e1=>?_⟩
     have hi:i < ds.length:=by rw[<- len];exact (List.getElem?_eq_some_iff.mp e1).1
     have ed:d=.tup [.int i,ds[i]]:=by
      rw[List.getElem?_zipWith,rngD,List.getElem?_map,List.getElem?_range hi,List.getElem?_eq_getElem hi]at e1
      have:=Option.some.inj e1
      rw[<- this];simp
     subst ed
     obtain⟨v,hv',rv⟩:=r2.get (List.getElem?_eq_getElem hi)
     refine⟨⟨ws2,v,ht2,hv'⟩,fun y H3 z3=>?_⟩
     obtain⟨T,w,ey,hn,hw,eH⟩:=z3
     subst ey eH
     have ew:=hw ws2 ht2
     rw[hv']at ew;cases ew
     have x3:Ex ρ2 H2 ρ2 (upd H2 T (.tup [.int i,v])):=Ex.new hn
     exact⟨x3,s2.new hn,.tup (SqT.of Qai) (.cons (.int _) (.cons (rv.mono x3) .nil))⟩
    | _=>exact p1.elim
 ·obtain⟨a,xs,e,hq,hR⟩:=q1
  subst e
  obtain⟨u,rfl,ru⟩:=Qbv r1
  cases ru
  obtain⟨its,rv,p1,hz⟩:=I1.list hq
  refine call_enumerate_list p1.isList fun h' he hit hsz kp=>wpAny_pyIter_enum he ?_
  have I2:Inv X pins σ H1 { s1 with heap:=h' }:=I1.kept (t':=s1.toks) kp
  refine⟨s1.heap.objs.size + 1,[s1.heap.objs.size + 1,s1.heap.objs.size],_,Itl X.K a,H1,rfl,I2,Qiw a (s1.heap.objs.size + 1) s1.heap.objs.size (Nat.succ_ne_self _),⟨⟨_,he⟩,hit⟩,fun b hb=>?_,hR⟩
  have hle:s1.heap.objs.size<=b:=by
   rcases List.mem_cons.mp hb with z | z
   ·rw[z];exact Nat.le_succ _
   ·have z':b=s1.heap.objs.size:=by simpa using z
    rw[z'];exact Nat.le_refl _
  exact I1.fpOk hle (I1.hok.fresh hle)
end
section
def iEnumLr:RuI:=⟨fun q c tg e=>match tg,e with
 | .Tuple _ _ _,.Call (.Name x _) [a] [] p=>if x=Str.ofString "enumerate"/\c.bl x=true/\plE a=true/\c.tag p 16=true then (q.e c a).bind fun f=>some (iEnumL f) else none
 | _,_=>none,fun {q} hq {X c} g {tg e r} z=>by
 split at z
 ·simp only[Option.ite_none_right_eq_some,Option.bind_eq_some_iff]at z
  obtain⟨⟨rfl,h1,hp,_⟩,fa,ha,z⟩:=z
  cases z
  exact Qix (g.gl h1).1 (g.gl h1).2 (hq.e g ha) (QgS hp)
 ·cases z⟩
end
section
variable {X:Cx}
theorem Qiy {x y z:Str}{a b c:Tok}:Vals [V.str x,.str y,.str z] [Value.str x a,.str y b,.str z c]:=.cons ⟨a,rfl⟩ (.cons ⟨b,rfl⟩ (.cons ⟨c,rfl⟩ .nil))
def rStarts:V->List V->Hp->VK->Prop:=fun x vs H Q=>∃ a b,x=.str a/\vs=[.str b]/\Q (.bl (Txt.startswith a b)) H
theorem Qiz:MtR X "str.startswith" rStarts:=by
 intro pins s σ H x vs v us Q I rx rv h
 obtain⟨a,b,rfl,rfl,q⟩:=h
 obtain⟨t,rfl⟩:=rx
 obtain⟨u,rfl,ru⟩:=rv.one
 obtain⟨t',rfl⟩:=ru
 refine call_meets F.slot_str_startswith (typeIs_str _ _ _) F.entry_str_startswith (F.args_str_startswith_2 _ _) (S:=fun A R s=>R (.ok (.ret (.bool (Txt.startswith a b)))) s) ?_ ⟨.bl _,H,I,rfl,q⟩
 intro prog w A R s hR
 exact gives_str_startswith a b t t' prog w A R s hR
def rPart (f:Str->Str->Str × Str × Str):V->List V->Hp->VK->Prop:=fun x vs H Q=>∃ a b,x=.str a/\vs=[.str b]/\(b.length == 0)=false/\a.length<=lim/\∀ l,H l=none->Q (.ref l) (upd H l (.tup [.str (f a b).1,.str (f a b).2.1,.str (f a b).2.2]))
theorem QiA:MtR X "str.partition" (rPart Txt.partition):=by
 intro pins s σ H x vs v us Q I rx rv h
 obtain⟨a,b,rfl,rfl,hb,ha,q⟩:=h
 obtain⟨t,rfl⟩:=rx
 obtain⟨u,rfl,ru⟩:=rv.one
 obtain⟨t',rfl⟩:=ru
 have ha':a.length<=sizeLine:=Nat.le_trans ha (by decide)
 refine call_meets F.slot_str_partition (typeIs_str _ _ _) F.entry_str_partition (F.args_str_partition_2 _ _) (meets_str_partition a b t t' hb ha') ?_
 unfold Txt.partition at q
 have hn:=I.hok.fresh (Nat.le_refl s.heap.objs.size)
 have q':=q _ hn
 split<;>rename_i e<;>rw[e]at q'
 ·exact⟨.ref s.heap.objs.size,_,I.laid (o:=.tup [.str _,.str _,.str _]) (fun b o e=>Heap.get?_push_of_some _ e) (Nat.le_refl _) ⟨by show 3<=sizeLine;decide,[.str _ _,.str _ _,.str _ _],Qiy,IsTupD.new _ _⟩,rfl,q'⟩
 ·exact⟨.ref s.heap.objs.size,_,I.laid (o:=.tup [.str _,.str _,.str _]) (fun b o e=>Heap.get?_push_of_some _ e) (Nat.le_refl _) ⟨by show 3<=sizeLine;decide,[.str _ _,.str _ _,.str _ _],Qiy,IsTupD.new _ _⟩,rfl,q'⟩
theorem QiB:MtR X "str.rpartition" (rPart Txt.rpartition):=by
 intro pins s σ H x vs v us Q I rx rv h
 obtain⟨a,b,rfl,rfl,hb,ha,q⟩:=h
 obtain⟨t,rfl⟩:=rx
 obtain⟨u,rfl,ru⟩:=rv.one
 obtain⟨t',rfl⟩:=ru
 have ha':a.length<=sizeLine:=Nat.le_trans ha (by decide)
 refine call_meets F.slot_str_rpartition (typeIs_str _ _ _) F.entry_str_rpartition (F.args_str_rpartition_2 _ _) (meets_str_rpartition a b t t' hb ha') ?_
 unfold Txt.rpartition at q
 have hn:=I.hok.fresh (Nat.le_refl s.heap.objs.size)
 have q':=q _ hn
 split<;>rename_i e<;>rw[e]at q'
 ·exact⟨.ref s.heap.objs.size,_,I.laid (o:=.tup [.str _,.str _,.str _]) (fun b o e=>Heap.get?_push_of_some _ e) (Nat.le_refl _) ⟨by show 3<=sizeLine;decide,[.str _ _,.str _ _,.str _ _],Qiy,IsTupD.new _ _⟩,rfl,q'⟩
 ·exact⟨.ref s.heap.objs.size,_,I.laid (o:=.tup [.str _,.str _,.str _]) (fun b o e=>Heap.get?_push_of_some _ e) (Nat.le_refl _) ⟨by show 3<=sizeLine;decide,[.str _ _,.str _ _,.str _ _],Qiy,IsTupD.new _ _⟩,rfl,q'⟩
theorem QiC {o e : Expr} {fa fb : CE} {apos cpos : Pos} (ho : SE X o fa) (ha : SE X e fb) (hbase : attributeBase o "startswith" X.env (eval o X.env) = eval o X.env)
  (hfew:((backTo cpos (starEach [e] X.env)).all (fun x => !x.1) && (backToKw cpos (keywordEach [] X.env)).all (fun x=>x.1.isSome) && decide ([e].length + ([]:List Keyword).length + (if ([]:List Keyword).isEmpty then 0 else 1) < 30))=true)
  (hline:(apos.endLine == cpos.line)=true) (hs:starEach [e] X.env=(false,eval e X.env)::starEach [] X.env) (hplain:(backTo cpos (starEach [] X.env)).any (·.1)=false):
  SE X (.Call (.Attribute o "startswith" apos) [e] [] cpos) (cStarts fa fb):=
 (Qcs PySem.F.plainAttrs_str PySem.F.slot_str_startswith PySem.F.type_str_startswith Qiz ho (QbE ha QbD hs) hbase hfew hline hs hplain).of fun σ H Q h_=>h_.el fun ρ l st lr sr p=>⟨ρ,l,st,lr,sr,p.bnd.imp fun d st1 ρ1 H1 x1 s1 p1 v rv=>by
  cases rv with
  | str x=>
   refine⟨rfl,ρ1,l,st1,lr.mono x1,s1,(Post.bnd p1).imp fun y st2 ρ2 H2 x2 s2 p2 w rw'=>?_⟩
   cases rw' with
   | str y=>exact⟨x,y,rfl,rfl,p2.ret s2 _ (.bl _)⟩
   | _=>exact p2.elim
  | _=>exact p1.elim⟩
theorem QiD {o e : Expr} {fa fb : CE} {apos cpos : Pos} (ho : SE X o fa) (ha : SE X e fb) (hbase : attributeBase o "partition" X.env (eval o X.env) = eval o X.env)
  (hfew:((backTo cpos (starEach [e] X.env)).all (fun x => !x.1) && (backToKw cpos (keywordEach [] X.env)).all (fun x=>x.1.isSome) && decide ([e].length + ([]:List Keyword).length + (if ([]:List Keyword).isEmpty then 0 else 1) < 30))=true)
  (hline:(apos.endLine == cpos.line)=true) (hs:starEach [e] X.env=(false,eval e X.env)::starEach [] X.env) (hplain:(backTo cpos (starEach [] X.env)).any (·.1)=false):
  SE X (.Call (.Attribute o "partition" apos) [e] [] cpos) (cPart Txt.partition fa fb):=
 (Qcs PySem.F.plainAttrs_str PySem.F.slot_str_partition PySem.F.type_str_partition QiA ho (QbE ha QbD hs) hbase hfew hline hs hplain).of fun σ H Q h_=>h_.el fun ρ l st lr sr p=>⟨ρ,l,st,lr,sr,p.bnd.imp fun d st1 ρ1 H1 x1 s1 p1 v rv=>by
  cases rv with
  | str x=>
   refine⟨rfl,ρ1,l,st1,lr.mono x1,s1,(Post.bnd p1).imp fun y st2 ρ2 H2 x2 s2 p2 w rw'=>?_⟩
   cases rw' with
   | str y=>
    obtain⟨⟨hb,hl⟩,p3⟩:=Post.chk p2
    exact⟨x,y,rfl,rfl,hb,hl,fun q hq=>p3 _ _ (Ex.new hq) (s2.new hq) _ (.tup (SqT.of Qai) (.cons (.str _) (.cons (.str _) (.cons (.str _) .nil))))⟩
   | _=>exact p2.elim
  | _=>exact p1.elim⟩
theorem QiE {o e : Expr} {fa fb : CE} {apos cpos : Pos} (ho : SE X o fa) (ha : SE X e fb) (hbase : attributeBase o "rpartition" X.env (eval o X.env) = eval o X.env)
  (hfew:((backTo cpos (starEach [e] X.env)).all (fun x => !x.1) && (backToKw cpos (keywordEach [] X.env)).all (fun x=>x.1.isSome) && decide ([e].length + ([]:List Keyword).length + (if ([]:List Keyword).isEmpty then 0 else 1) < 30))=true)
  (hline:(apos.endLine == cpos.line)=true) (hs:starEach [e] X.env=(false,eval e X.env)::starEach [] X.env) (hplain:(backTo cpos (starEach [] X.env)).any (·.1)=false):
  SE X (.Call (.Attribute o "rpartition" apos) [e] [] cpos) (cPart Txt.rpartition fa fb):=
 (Qcs PySem.F.plainAttrs_str PySem.F.slot_str_rpartition PySem.F.type_str_rpartition QiB ho (QbE ha QbD hs) hbase hfew hline hs hplain).of fun σ H Q h_=>h_.el fun ρ l st lr sr p=>⟨ρ,l,st,lr,sr,p.bnd.imp fun d st1 ρ1 H1 x1 s1 p1 v rv=>by
  cases rv with
  | str x=>
   refine⟨rfl,ρ1,l,st1,lr.mono x1,s1,(Post.bnd p1).imp fun y st2 ρ2 H2 x2 s2 p2 w rw'=>?_⟩
   cases rw' with
   | str y=>
    obtain⟨⟨hb,hl⟩,p3⟩:=Post.chk p2
    exact⟨x,y,rfl,rfl,hb,hl,fun q hq=>p3 _ _ (Ex.new hq) (s2.new hq) _ (.tup (SqT.of Qai) (.cons (.str _) (.cons (.str _) (.cons (.str _) .nil))))⟩
   | _=>exact p2.elim
  | _=>exact p1.elim⟩
theorem QiF {e:Expr}{pos:Pos}{te:TE} (he:PE X e te):PE X (.FormattedValue e (-1) none pos) (fun σ H Q=>te σ H fun x H1=>∃ y,x=.str y/\y.length<=lim/\Q (.str y) H1):=by
 intro pins s σ H Q I h
 refine FormattedValue_plain (thn (he pins s σ H _ I h) fun v s1 z=>?_)
 obtain⟨x,H1,I1,r1,y,rfl,hz,q⟩:=z
 obtain⟨t,rfl⟩:=r1
 exact SB.field_str (fun t' k=>⟨.str _,H1,I1.kept (t':=k) (fun b o e=>e),⟨_,rfl⟩,q⟩) (Nat.le_trans hz (by decide))
theorem QiG {e:Expr}{pos:Pos}{fa:CE} (ha:SE X e fa):SE X (.FormattedValue e (-1) none pos) (c1 fmtS fa):=(QiF ha).of fun σ H Q h_=>h_.el fun ρ l st lr sr p=>⟨ρ,l,st,lr,sr,p.bnd.imp fun d st1 ρ1 H1 x1 s1 p1 v rv=>by
 cases rv with
 | str y=>
  obtain⟨hz,p2⟩:=Post.chk p1
  exact⟨y,rfl,hz,p2.ret s1 _ (.str _)⟩
 | _=>exact p1.elim⟩
end
section
def rFmtS:RuE:=⟨fun q c e=>match e with
 | .FormattedValue a i none p=>if i = -1/\c.tag p 15=true then (q.e c a).bind fun f=>some (c1 fmtS f) else none
 | _=>none,fun {q} hq {X c} g {e r} z=>by
 split at z
 ·simp only[Option.ite_none_right_eq_some,Option.bind_eq_some_iff]at z
  obtain⟨⟨rfl,_⟩,f,hf,z⟩:=z
  cases z
  exact QiG (hq.e g hf)
 ·cases z⟩
def mStarts:RuE:=meth1 "startswith" cStarts noTag fun _ o a b f l s p=>QiC o a b f l s p
def mPart:RuE:=meth1 "partition" (cPart Txt.partition) noTag fun _ o a b f l s p=>QiD o a b f l s p
def mRPart:RuE:=meth1 "rpartition" (cPart Txt.rpartition) noTag fun _ o a b f l s p=>QiE o a b f l s p
end
end MM
namespace MM
def noM {α:Type} (m:M α):M α:=fun s=>match m s with
 | .ok a s'=>.ok a s'
 | _=>.bad
def noA (c:CA):CA:=fun l=>noM (c l)
open PySem PySem.W PyProof.Rows L2
def Turned (a:Addr) (H H':Hp):Prop:=∃ c d vs vs' sl,H a=some (.frz ⟨c,d,.fields vs,sl⟩ (.own a))/\H'=upd H a (.frz ⟨c,d,.fields vs',sl⟩ (.own a))
section
variable {P:Program}{w:World}{K:Frag}{mg:Str->Option Value}{base:Heap}{N:List Str}{qual:Str}{scope:Scope}{f:Addr}{cd:Value}{A:Around}{outer:List Env}{s:Shared}{H:Hp}{E:XK}
variable {pins:List (Addr × Obj)}{σ:L2.St}{H':Hp}{s':Shared}{a:Addr}
end
section
variable {K:Frag}{ρ ρ1:List Addr}{H H1 H2:Hp}{st:Sto}{a:Addr}
abbrev XW:=D->Sto->List Addr->Hp->Prop
variable {α β:Type}{W:XW}
end
end MM
namespace MM
open PySem PySem.W PyProof.Rows L2
def hand (X:Cx) (a:Addr):Cx:={ X with A:=X.A.mark (some (.ref a)),calm:=false,xe:=fun _ _=>False }
section
variable {X:Cx}{e:Expr}{es:List Expr}{ca:CA}{hc:CS}
variable {k n:Nat}{f:Addr}{fd:FuncData}{ps:List Str}{g:List D->M D}{fn x y nm fl:Str}{p p2 p3 cpos apos hpos pos:Pos}{i j:Nat}{C N P NP:Addr}{b0:Stmt}{suite:List Stmt}
end
end MM
namespace MM
open PySem PySem.Spec PyProof.Rows L2
section
variable {X:Cx}
theorem QiI {body:List Stmt}{h₀:ExceptHandler}{hs:List ExceptHandler}{pos:Pos}{cb:CS} (h:SSs X.nox body cb):SS X (.Try body (h₀::hs) [] [] pos) cb:=by
 intro pins s σ H D I q
 refine wpAny_Try_except (wpAny_mono (h pins s σ H D (I.wish _) q) (fun f s1 z=>?_) fun e s1 z=>(show False from z).elim)
 have z':=z.unwish
 cases f with
 | next=>exact wpAny_execs_nil z'
 | brk=>exact z'
 | cont=>exact z'
 | ret v=>exact z'
theorem Good.nox {c:RC} (g:Good X c):Good X.nox c:=⟨⟨g.S.vis,g.S.cel,g.S.glo,g.S.loc,g.S.calm⟩,g.N,g.nd,g.hr,g.G,g.Z,g.C,PassesOwn.never,g.kd⟩
end
section
def sTry0r:RuS:=⟨fun q c e=>match e with
 | .Try a (_::_) [] [] _=>blkC q c a
 | _=>none,fun {q} hq {X c} g {e r} z=>by
 split at z
 ·exact QiI (Qg1 hq g.nox z)
 ·cases z⟩
end
section
variable {P:Program}{w:World}{K:PySem.W.Frag}{mg:Str->Option Value}{base:Heap}
theorem QiJ {x : Str} {sd : Stmt} {ps : List Str} {k n : Nat} {G : List (Str × RF)} (F : FnAt K mg x sd) (hn : ps.length = n)
  (b:∀ (kV doc pm:Value) (an:Option Addr) (cdv ct:Value) (us:List Value),us.length=ps.length->bindArgs (PySem.W.fnOf x x (defArgs sd) (defBody sd) (defScope sd) .none kV doc pm an cdv ct) { pos:=us }=pure (ps.zip us))
  (hG:EnvOk P w K mg base G):EnvOk P w K mg base ((x,⟨n,k,ps,false,fun _=>bad⟩)::G):=by
 obtain⟨f,fd,F,hm'⟩:=F
 refine Qg9 hm' ⟨fun vs H Q E h=>?_,fun A outer s H args us vs Q E hr=>?_⟩ F.kp (F.binds b) (fun z=>nomatch z) hG
 ·exact h.1.trans hn.symm
 ·intro _ _ _ hs
  obtain⟨_,ρ,st,ds,_,_,p⟩:=hs
  exact (show False from p).elim
end
end MM
namespace My
open PySem MM
def yn : CS :=
  (sSeq (sRet (c2 addD (cCon (.int 1)) (cTmp maxD (aComp 1 [1] (iSeq (cVar 0)) (gVar 0) tTrue (c2 subsD (c2 subsD (cVar 0) (cVar 1)) (cCon (.int 1)))))))
  sNext)
@[irreducible] def jD:List D->M D:=runDef 2 yn
def jY : CS :=
  (sSeq (sIf (tCmpB (c2 neD (c1 lenD (cVar 1)) (c1 lenD (c2 subsD (cVar 0) (cCon (.int 0))))))
   (sSeq (sRet (cCon (.bl false)))
   sNext)
   sNext)
  (sSeq (sRet (cTmp allD (aComp 2 [0] (iSeq (cVar 1)) (gTupD 2 (gsCons (gVar 0) (gsCons (gVar 1) gsNil))) tTrue (cAnd (cChain leD ltD (cCon (.int 0)) (cVar 0) (c1 lenD (cVar 2))) (c2 geD (cVar 1) (cCon (.int 0)))))))
  sNext))
@[irreducible] def jh:List D->M D:=runDef 2 jY
def jS : CS :=
  (sSeq (sRet (cKeep (aComp 1 [0] (MM.iRng1 (c1 lenD (c2 subsD (cVar 0) (cCon (.int 0))))) (gVar 0) tTrue (cCall jD (cCons (cVar 1) (cCons (cVar 0) cNil))))))
  sNext)
@[irreducible] def jf:List D->M D:=runDef 1 jS
def yg : CS :=
  (sSeq (sRet (cTmp allD (aComp 1 [1] (iSeq (cVar 0)) (gVar 0) tTrue (cChain leD ltD (cCon (.int 0)) (cVar 0) (c1 lenD (cVar 1))))))
  sNext)
@[irreducible] def jk:List D->M D:=runDef 2 yg
def j8 : CS :=
  (sSeq (sIf (tCmpB (c2 eqD (c2 subsD (cVar 2) (cCon (.int 0))) (cCon (.str "settle"))))
   (sSeq (sRet (c2 inD (c2 subsD (cVar 2) (cCon (.int 1))) (cTup (cCons (cCon (.int 0)) (cCons (cCon (.int 1)) cNil)))))
   sNext)
   sNext)
  (sSeq (sAsg (gVar 3) (c2 subsD (cVar 2) (cCon (.int 1))))
  (sSeq (sAsg (gVar 4) (c2 subsD (cVar 2) (cCon (.int 2))))
  (sSeq (sAsg (gVar 5) (c2 subsD (cVar 2) (cCon (.int 3))))
  (sSeq (sIf (tOrB (tNotB (tCmpB (cChain leD ltD (cCon (.int 0)) (cVar 3) (c1 lenD (cVar 0))))) (tNotB (tCmpB (cChain leD ltD (cCon (.int 0)) (cVar 4) (c1 lenD (c2 subsD (cVar 0) (cVar 3)))))))
   (sSeq (sRet (cCon (.bl false)))
   sNext)
   sNext)
  (sSeq (sRet (cAnd (c2 eqD (c1 lenD (cVar 5)) (c2 subsD (c2 subsD (cVar 0) (cVar 3)) (cVar 4))) (cCall jk (cCons (cVar 5) (cCons (cVar 1) cNil)))))
  sNext))))))
@[irreducible] def jI:List D->M D:=runDef 6 j8
def ya : CS :=
  (sSeq (sRet (cJoin (cCon (.str " ")) (cKeep (aComp 2 [] (iSeq (cVar 0)) (gTupD 2 (gsCons (gVar 0) (gsCons (gVar 1) gsNil))) tTrue (cFmt (fCons (c1 strD (cVar 0)) (fCons (cCon (.str ".")) (fCons (c1 strD (cVar 1)) fNil))))))))
  sNext)
@[irreducible] def jG:List D->M D:=runDef 1 ya
def j1 : CS :=
  (sSeq (sIf (tNotB (tCmpB (cChain leD leD (cCon (.int 1)) (c1 lenD (cVar 0)) (cCon (.int 3)))))
   (sSeq (sRet (cCon .non))
   sNext)
   sNext)
  (sSeq (sIf (tNotB (tVal (cTmp allD (aComp 1 [] (iStr (cVar 0)) (gVar 0) tTrue (c2 inTD (cVar 0) (cCon (.str "0123456789")))))))
   (sSeq (sRet (cCon .non))
   sNext)
   sNext)
  (sSeq (sIf (tAndB (tCmpB (c2 eqD (c2 subsD (cVar 0) (cCon (.int 0))) (cCon (.str "0")))) (tCmpB (c2 gtD (c1 lenD (cVar 0)) (cCon (.int 1)))))
   (sSeq (sRet (cCon .non))
   sNext)
   sNext)
  (sSeq (sRet (c1 intTD (cVar 0)))
  sNext))))
@[irreducible] def jc:List D->M D:=runDef 1 j1
def jU : CS :=
  (sSeq (sRet (cJoin (cCon (.str " ")) (cKeep (aComp 1 [] (iSeq (cVar 0)) (gVar 0) tTrue (c1 strD (cVar 0))))))
  sNext)
@[irreducible] def je:List D->M D:=runDef 1 jU
def jW : CS :=
  (sSeq (sAsg (gVar 2) (cTmp tupL (aComp 1 [] (iSeq (cVar 1)) (gVar 0) tTrue (cCall jc (cCons (cVar 0) cNil)))))
  (sSeq (sIf (tCmpB (c2 inD (cCon .non) (cVar 2)))
   (sSeq sBad
   sNext)
   sNext)
  (sSeq (sRet (cVar 2))
  sNext)))
@[irreducible] def jb:List D->M D:=runDef 3 jW
def yk : CS :=
  (sSeq (sAsg (gSubD (cVar 0) (cCon (.int 2))) (c2 addD (c2 subsD (cVar 0) (cCon (.int 2))) (cCon (.int 1))))
  (sSeq (sIf (tCmpB (c2 gtD (c2 subsD (cVar 0) (cCon (.int 1))) (cCon (.int 0))))
   (sSeq (sAsg (gVar 2) (c2 modD (c2 subsD (cVar 0) (cCon (.int 1))) (cVar 1)))
   (sSeq (sAsg (gSubD (cVar 0) (cCon (.int 1))) (c2 fdivD (c2 subsD (cVar 0) (cCon (.int 1))) (cVar 1)))
   (sSeq (sRet (cVar 2))
   sNext)))
   sNext)
  (sSeq (sAsg (gVar 3) (cCon (.int 7)))
  (sSeq (sIf (tCmpB (c2 ltD (c2 subsD (cVar 0) (cCon (.int 3))) (c1 lenD (c2 subsD (cVar 0) (cCon (.int 0))))))
   (sSeq (sAsg (gVar 3) (c2 subsD (c2 subsD (cVar 0) (cCon (.int 0))) (c2 subsD (cVar 0) (cCon (.int 3)))))
   (sSeq (sAsg (gSubD (cVar 0) (cCon (.int 3))) (c2 addD (c2 subsD (cVar 0) (cCon (.int 3))) (cCon (.int 1))))
   (sSeq (sIf (tCmpB (c2 geD (cVar 3) (c2 powD (cCon (.int 10)) (cCon (.int 18)))))
    (sSeq (sAsg (gSubD (cVar 0) (cCon (.int 1))) (c2 fdivD (cVar 3) (cVar 1)))
    (sSeq (sRet (c2 modD (cVar 3) (cVar 1)))
    sNext))
    sNext)
   sNext)))
   (sSeq (sIf (tCmpB (c2 gtD (c1 lenD (c2 subsD (cVar 0) (cCon (.int 0)))) (cCon (.int 0))))
    (sSeq (sAsg (gVar 3) (c2 subsD (c2 subsD (cVar 0) (cCon (.int 0))) (c2 modD (c2 subsD (cVar 0) (cCon (.int 2))) (c1 lenD (c2 subsD (cVar 0) (cCon (.int 0)))))))
    sNext)
    sNext)
   sNext))
  (sSeq (sAsg (gVar 4) (c2 modD (c2 addD (c2 addD (c2 mulD (cVar 3) (cCon (.int 48271))) (c2 mulD (cCon (.int 7919)) (c2 subsD (cVar 0) (cCon (.int 2))))) (cCon (.int 5))) (cCon (.int 2147483647))))
  (sSeq (sAsg (gVar 4) (c2 modD (c2 addD (c2 mulD (cVar 4) (cVar 4)) (c2 mulD (cCon (.int 104729)) (c2 subsD (cVar 0) (cCon (.int 2))))) (cCon (.int 2147483629))))
  (sSeq (sAsg (gVar 4) (c2 modD (c2 addD (c2 mulD (cVar 4) (cCon (.int 69621))) (cCon (.int 16807))) (cCon (.int 2147483587))))
  (sSeq (sRet (c2 modD (c2 modD (c2 mulD (cVar 4) (cVar 4)) (cCon (.int 2147483579))) (cVar 1)))
  sNext))))))))
@[irreducible] def ja:List D->M D:=runDef 5 yk
def jR : CS :=
  (sSeq (sAsg (gVar 1) (c2 addD (cCon (.int 1)) (cCall ja (cCons (cVar 0) (cCons (cCon (.int 4)) cNil)))))
  (sSeq (sAsg (gVar 2) (c2 addD (cCon (.int 1)) (cCall ja (cCons (cVar 0) (cCons (cCon (.int 4)) cNil)))))
  (sSeq (sAsg (gVar 3) (c2 addD (cCon (.int 1)) (cCall ja (cCons (cVar 0) (cCons (cCon (.int 4)) cNil)))))
  (sSeq (sRet (cTmp tupL (aComp 1 [0,1,2,3] (MM.iRng1 (cVar 1)) (gVar 0) tTrue (cTmp tupL (aComp 1 [1,2,4] (MM.iRng1 (cVar 3)) (gVar 0) tTrue (cTup (cCons (cCall ja (cCons (cVar 1) (cCons (cVar 2) cNil))) (cCons (cCall ja (cCons (cVar 1) (cCons (cVar 3) cNil))) cNil))))))))
  sNext))))
@[irreducible] def jm:List D->M D:=runDef 4 jR
def yf : CS :=
  (sSeq (sAsg (gVar 1) (c2 addD (cCon (.int 1)) (cCall ja (cCons (cVar 0) (cCons (cCon (.int 3)) cNil)))))
  (sSeq (sAsg (gVar 2) (cCall ja (cCons (cVar 0) (cCons (cCon (.int 6)) cNil))))
  (sSeq (sIf (tCmpB (c2 eqD (cVar 2) (cCon (.int 0))))
   (sSeq (sAsg (gVar 3) (cKeep (aDisp (cCons (cTmp tupL (aComp 1 [] (MM.iRng2 (cCon (.int 1)) (c2 addD (cVar 1) (cCon (.int 1)))) (gVar 0) tTrue (cTup (cCons (cVar 0) (cCons (cVar 0) cNil))))) cNil))))
   (sSeq (sRet (c1 tupleD (c2 addD (cVar 3) (cKeep (aComp 1 [1] (MM.iRng2 (cCon (.int 1)) (c2 addD (cVar 1) (cCon (.int 1)))) (gVar 0) tTrue (cTmp tupL (aComp 1 [0] (MM.iRng1 (cVar 1)) (gVar 0) tTrue (cTup (cCons (cVar 1) (cCons (cVar 1) cNil))))))))))
   sNext))
   sNext)
  (sSeq (sIf (tCmpB (c2 eqD (cVar 2) (cCon (.int 1))))
   (sSeq (sRet (cTmp tupL (aComp 1 [1] (MM.iRng1 (cVar 1)) (gVar 0) tTrue (c1 tupleD (c2 addD (cKeep (aDisp (cCons (cTup (cCons (cVar 0) (cCons (cVar 0) cNil))) cNil))) (cKeep (aComp 1 [] (MM.iRng1 (cVar 1)) (gVar 0) tTrue (cTup (cCons (cVar 0) (cCons (cCon (.int 0)) cNil))))))))))
   sNext)
   sNext)
  (sSeq (sIf (tCmpB (c2 eqD (cVar 2) (cCon (.int 2))))
   (sSeq (sRet (cTmp tupL (aComp 1 [1] (MM.iRng1 (c2 addD (cVar 1) (cCon (.int 1)))) (gVar 0) tTrue (cTmp tupL (aComp 1 [0] (MM.iRng1 (c2 addD (cVar 1) (cCon (.int 1)))) (gVar 0) tTrue (cTup (cCons (cVar 0) (cCons (cVar 1) cNil))))))))
   sNext)
   sNext)
  (sSeq (sIf (tCmpB (c2 eqD (cVar 2) (cCon (.int 3))))
   (sSeq (sRet (cTmp tupL (aComp 1 [1] (MM.iRng1 (c2 addD (cVar 1) (cCon (.int 1)))) (gVar 0) tTrue (cTup (cCons (cTup (cCons (c2 modD (c2 addD (cVar 0) (cCon (.int 1))) (c2 addD (cVar 1) (cCon (.int 1)))) (cCons (cVar 0) cNil))) cNil)))))
   sNext)
   sNext)
  (sSeq (sRet (cCall jm (cCons (cVar 0) cNil)))
  sNext)))))))
@[irreducible] def jL:List D->M D:=runDef 4 yf
def yj : CS :=
  (sSeq (sIf (tOrB (tCmpB (c2 eqD (c1 lenD (cVar 1)) (cCon (.int 0)))) (tCmpB (c2 eqD (cCall ja (cCons (cVar 0) (cCons (cCon (.int 4)) cNil))) (cCon (.int 0)))))
   (sSeq (sRet (cTup (cCons (cCon (.str "settle")) (cCons (cCall ja (cCons (cVar 0) (cCons (cCon (.int 2)) cNil))) cNil))))
   sNext)
   sNext)
  (sSeq (sAsg (gVar 3) (cCall ja (cCons (cVar 0) (cCons (c1 lenD (cVar 1)) cNil))))
  (sSeq (sAsg (gVar 4) (c2 subsD (c2 subsD (cVar 1) (cVar 3)) (cCon (.int 0))))
  (sSeq (sAsg (gVar 5) (cCall ja (cCons (cVar 0) (cCons (c1 lenD (c2 subsD (cVar 4) (cCon (.int 0)))) cNil))))
  (sSeq (sAsg (gVar 6) (cTmp maxD (aComp 1 [5] (iSeq (cVar 4)) (gVar 0) tTrue (c2 subsD (c2 subsD (cVar 0) (cVar 1)) (cCon (.int 1))))))
  (sSeq (sRet (cTup (cCons (cCon (.str "do")) (cCons (cVar 3) (cCons (cVar 5) (cCons (cTmp tupL (aComp 1 [0,2] (MM.iRng1 (c2 addD (cVar 6) (cCon (.int 1)))) (gVar 0) tTrue (cCall ja (cCons (cVar 1) (cCons (cVar 2) cNil))))) cNil))))))
  sNext))))))
@[irreducible] def jO:List D->M D:=runDef 7 yj
def yh : CS :=
  (sSeq (sAsg (gVar 3) (cKeep (aDisp cNil)))
  (sSeq (sFor (MM.iRng1 (cCall ja (cCons (cVar 0) (cCons (c2 addD (cVar 1) (cCon (.int 1))) cNil)))) (gVar 4)
   (sSeq (sAsg (gVar 5) (cCall jL (cCons (cVar 0) cNil)))
   (sSeq (sExp (cAppend (cVar 3) (cTup (cCons (cVar 5) (cCons (cCall ja (cCons (cVar 0) (cCons (c1 lenD (cVar 5)) cNil))) cNil)))))
   sNext)))
  (sSeq (sAsg (gVar 6) (cKeep (aDisp cNil)))
  (sSeq (sFor (MM.iRng1 (c2 addD (cCon (.int 2)) (cCall ja (cCons (cVar 0) (cCons (cCon (.int 2)) cNil))))) (gVar 4)
   (sSeq (sAsg (gVar 7) (c2 addD (cCon (.int 1)) (cCall ja (cCons (cVar 0) (cCons (cVar 2) cNil)))))
   (sSeq (sAsg (gVar 8) (cTup (cCons (cCall ja (cCons (cVar 0) (cCons (cVar 7) cNil))) (cCons (cCall ja (cCons (cVar 0) (cCons (cVar 7) cNil))) cNil))))
   (sSeq (sExp (cAppend (cVar 6) (cTup (cCons (cVar 8) (cCons (cTmp tupL (aComp 1 [0,3,7] (MM.iRng1 (cVar 7)) (gVar 0) tTrue (cCall jO (cCons (cVar 1) (cCons (cVar 2) (cCons (cVar 3) cNil)))))) cNil)))))
   sNext))))
  (sSeq (sRet (cTup (cCons (c1 tupleD (cVar 3)) (cCons (c1 tupleD (cVar 6)) cNil))))
  sNext)))))
@[irreducible] def jx:List D->M D:=runDef 9 yh
def jN : CS :=
  (sSeq (sIf (tCmpB (c2 eqD (c2 subsD (cVar 0) (cCon (.int 0))) (cCon (.str "settle"))))
   (sSeq (sRet (c2 addD (cCon (.str "settle ")) (c1 strD (c2 subsD (cVar 0) (cCon (.int 1))))))
   sNext)
   sNext)
  (sSeq (sRet (c2 addD (c2 addD (c2 addD (c2 addD (c2 addD (cCon (.str "do ")) (c1 strD (c2 subsD (cVar 0) (cCon (.int 1))))) (cCon (.str " "))) (c1 strD (c2 subsD (cVar 0) (cCon (.int 2))))) (cCon (.str " : "))) (cJoin (cCon (.str " ")) (cKeep (aComp 1 [] (iSeq (c2 subsD (cVar 0) (cCon (.int 3)))) (gVar 0) tTrue (c1 strD (cVar 0)))))))
  sNext))
@[irreducible] def jj:List D->M D:=runDef 1 jN
def ym : CS :=
  (sSeq (sAsg (gVar 1) (cKeep (aDisp cNil)))
  (sSeq (sFor (iSeq (c2 subsD (cVar 0) (cCon (.int 0)))) (gTupD 2 (gsCons (gVar 2) (gsCons (gVar 3) gsNil)))
   (sSeq (sAsg (gVar 4) (cKeep (aComp 1 [] (iSeq (cVar 2)) (gVar 0) tTrue (cJoin (cCon (.str " ")) (cKeep (aComp 2 [] (iSeq (cVar 0)) (gTupD 2 (gsCons (gVar 0) (gsCons (gVar 1) gsNil))) tTrue (c2 addD (c2 addD (c1 strD (cVar 0)) (cCon (.str "."))) (c1 strD (cVar 1)))))))))
   (sSeq (sExp (cAppend (cVar 1) (c2 addD (c2 addD (c2 addD (cCon (.str "board ")) (cJoin (cCon (.str " / ")) (cVar 4))) (cCon (.str " at "))) (c1 strD (cVar 3)))))
   sNext)))
  (sSeq (sFor (iSeq (c2 subsD (cVar 0) (cCon (.int 1)))) (gTupD 2 (gsCons (gVar 5) (gsCons (gVar 6) gsNil)))
   (sSeq (sExp (cAppend (cVar 1) (c2 addD (c2 addD (c2 addD (cCon (.str "hand ")) (c1 strD (c2 subsD (cVar 5) (cCon (.int 0))))) (cCon (.str " "))) (c1 strD (c2 subsD (cVar 5) (cCon (.int 1)))))))
   (sSeq (sAsg (gVar 1) (c2 addD (cVar 1) (cKeep (aComp 1 [] (iSeq (cVar 6)) (gVar 0) tTrue (cCall jj (cCons (cVar 0) cNil))))))
   sNext)))
  (sSeq (sRet (cVar 1))
  sNext))))
@[irreducible] def jP:List D->M D:=runDef 7 ym
def jd (g : List D -> M D) : CS :=
  (sSeq (sIf (tVal (c1 (isInst ["tuple"]) (cVar 1)))
   (sSeq (sIf (tOrB (tNotB (tVal (c1 (isInst ["tuple"]) (cVar 0)))) (tCmpB (c2 neD (c1 lenD (cVar 0)) (c1 lenD (cVar 1)))))
    (sSeq (sRet (cCon (.bl false)))
    sNext)
    sNext)
   (sSeq (sRet (cTmp allD (aComp 2 [] (iZipT (cVar 0) (cVar 1)) (gTupD 2 (gsCons (gVar 0) (gsCons (gVar 1) gsNil))) tTrue (cCall g (cCons (cVar 0) (cCons (cVar 1) cNil))))))
   sNext))
   sNext)
  (sSeq (sIf (tVal (c1 (isInst ["str"]) (cVar 1)))
   (sSeq (sRet (cAnd (c1 (isInst ["str"]) (cVar 0)) (c2 eqD (cVar 0) (cVar 1))))
   sNext)
   sNext)
  (sSeq (sRet (cAnd (c1 (isInst ["int"]) (cVar 0)) (cAnd (cNot (c1 (isInst ["bool"]) (cVar 0))) (c2 eqD (cVar 0) (cVar 1)))))
  sNext)))
def j0:List D->M D:=fun _=>bad
@[irreducible] def ju:List D->M D:=runDef 2 (jd j0)
@[irreducible] def js:List D->M D:=runDef 2 (jd ju)
@[irreducible] def jo:List D->M D:=runDef 2 (jd js)
@[irreducible] def jt:List D->M D:=runDef 2 (jd jo)
@[irreducible] def jq:List D->M D:=runDef 2 (jd jt)
@[irreducible] def jw:List D->M D:=runDef 2 (jd jq)
@[irreducible] def jp:List D->M D:=runDef 2 (jd jw)
@[irreducible] def jv:List D->M D:=runDef 2 (jd jp)
abbrev m_law_alike:List D->M D:=jv
def jX : CS :=
  (sSeq (sIf (tOrB (tCmpB (c2 eqD (c1 lenD (cVar 0)) (cCon (.int 0)))) (tCmpB (c2 eqD (c1 lenD (c2 subsD (cVar 0) (cCon (.int 0)))) (cCon (.int 0)))))
   (sSeq (sRet (cCon (.bl false)))
   sNext)
   sNext)
  (sSeq (sRet (cTmp allD (aComp 1 [0] (iSeq (cVar 0)) (gVar 0) tTrue (cCall jh (cCons (cVar 1) (cCons (cVar 0) cNil))))))
  sNext))
@[irreducible] def ji:List D->M D:=runDef 1 jX
def jQ : CS :=
  (sSeq (sFor (iEnum (cVar 0)) (gTupD 2 (gsCons (gVar 1) (gsCons (gVar 2) gsNil)))
   (sSeq (sAsg (gVar 3) (c2 subsD (cVar 2) (cCon (.int 0))))
   (sSeq (sIf (tOrB (tNotB (tVal (cCall ji (cCons (cVar 3) cNil)))) (tNotB (tCmpB (cChain leD ltD (cCon (.int 0)) (c2 subsD (cVar 2) (cCon (.int 1))) (c1 lenD (cVar 3))))))
    (sSeq sBad
    sNext)
    sNext)
   sNext)))
  sNext)
@[irreducible] def jg:List D->M D:=runDef 4 jQ
def jV : CS :=
  (sSeq (sAsg (gVar 3) (c2 subsD (cVar 2) (cCon (.int 1))))
  (sSeq (sIf (tNotB (tVal (cCall jk (cCons (c2 subsD (cVar 2) (cCon (.int 0))) (cCons (cVar 3) cNil)))))
   (sSeq sBad
   sNext)
   sNext)
  (sSeq (sFor (iEnum (cVar 3)) (gTupD 2 (gsCons (gVar 4) (gsCons (gVar 5) gsNil)))
   (sSeq (sIf (tNotB (tVal (cCall jI (cCons (cVar 0) (cCons (cVar 3) (cCons (cVar 5) cNil))))))
    (sSeq sBad
    sNext)
    sNext)
   sNext))
  sNext)))
@[irreducible] def jl:List D->M D:=runDef 6 jV
def yc : CS :=
  (sSeq (sRet (cJoin (cCon (.str " / ")) (cKeep (aComp 1 [] (iSeq (cVar 0)) (gVar 0) tTrue (cCall jG (cCons (cVar 0) cNil))))))
  sNext)
@[irreducible] def jF:List D->M D:=runDef 1 yc
def ye : CS :=
  (sSeq (sAsg (gVar 1) (cTmp tupL (aComp 1 [] (iSeq (cSplit (cVar 0) (cCon (.str ".")))) (gVar 0) tTrue (cCall jc (cCons (cVar 0) cNil)))))
  (sSeq (sIf (tOrB (tCmpB (c2 neD (c1 lenD (cVar 1)) (cCon (.int 2)))) (tCmpB (c2 inD (cCon .non) (cVar 1))))
   (sSeq sBad
   sNext)
   sNext)
  (sSeq (sRet (cVar 1))
  sNext)))
@[irreducible] def jK:List D->M D:=runDef 2 ye
def yi : CS :=
  (sSeq (sAsg (gVar 2) (cCall jF (cCons (cVar 0) cNil)))
  (sSeq (sRet (cFmt (fCons (cCon (.str "board ")) (fCons (c1 fmtS (cVar 2)) (fCons (cCon (.str " at ")) (fCons (c1 strD (cVar 1)) fNil))))))
  sNext))
@[irreducible] def jM:List D->M D:=runDef 3 yi
def jZ : CS :=
  (sSeq (sIf (tCmpB (c2 eqD (c2 subsD (cVar 0) (cCon (.int 0))) (cCon (.str "settle"))))
   (sSeq (sRet (c2 addD (cCon (.str "settle ")) (cCall je (cCons (cSliceW (cVar 0) (oSome (cCon (.int 1))) oNone) cNil))))
   sNext)
   sNext)
  (sSeq (sRet (c2 addD (c2 addD (c2 addD (cCon (.str "do ")) (cCall je (cCons (cSliceW (cVar 0) (oSome (cCon (.int 1))) (oSome (cCon (.int 3)))) cNil))) (cCon (.str " : "))) (cCall je (cCons (c2 subsD (cVar 0) (cCon (.int 3))) cNil))))
  sNext))
@[irreducible] def jJ:List D->M D:=runDef 1 jZ
def jT : CS :=
  (sSeq (sIf (tAndB (tCmpB (c2 eqD (c2 subsD (cVar 1) (cCon (.int 0))) (cCon (.str "settle")))) (tCmpB (c2 eqD (c1 lenD (cVar 1)) (cCon (.int 2)))))
   (sSeq (sRet (c2 addD (cTup (cCons (cCon (.str "settle")) cNil)) (cCall jb (cCons (cVar 0) (cCons (cKeep (aSlice (cVar 1) (oSome (cCon (.int 1))) oNone)) cNil)))))
   sNext)
   sNext)
  (sSeq (sIf (tAndB (tCmpB (c2 eqD (c2 subsD (cVar 1) (cCon (.int 0))) (cCon (.str "do")))) (tAndB (tCmpB (c2 gtD (c1 lenD (cVar 1)) (cCon (.int 4)))) (tCmpB (c2 eqD (c2 subsD (cVar 1) (cCon (.int 3))) (cCon (.str ":"))))))
   (sSeq (sRet (c2 addD (c2 addD (cTup (cCons (cCon (.str "do")) cNil)) (cCall jb (cCons (cVar 0) (cCons (cKeep (aSlice (cVar 1) (oSome (cCon (.int 1))) (oSome (cCon (.int 3))))) cNil)))) (cTup (cCons (cCall jb (cCons (cVar 0) (cCons (cKeep (aSlice (cVar 1) (oSome (cCon (.int 4))) oNone)) cNil))) cNil))))
   sNext)
   sNext)
  (sSeq sBad
  sNext)))
@[irreducible] def jy:List D->M D:=runDef 2 jT
def yo : CS :=
  (sSeq (sAsg (gVar 1) (c2 subsD (cVar 0) (cCon (.int 0))))
  (sSeq (sAsg (gVar 2) (c2 subsD (cVar 0) (cCon (.int 1))))
  (sSeq (sExp (cCall jg (cCons (cVar 1) cNil)))
  (sSeq (sIf (tNotB (tCmpB (cChain leD leD (cCon (.int 2)) (c1 lenD (cVar 2)) (cCon (.int 3)))))
   (sSeq sBad
   sNext)
   sNext)
  (sSeq (sAsg (gVar 3) (cKeep (aComp 2 [] (iSeq (cVar 1)) (gTupD 2 (gsCons (gVar 0) (gsCons (gVar 1) gsNil))) tTrue (cCall jf (cCons (cVar 0) cNil)))))
  (sSeq (sFor (iEnum (cVar 2)) (gTupD 2 (gsCons (gVar 4) (gsCons (gVar 5) gsNil)))
   (sSeq (sExp (cCall jl (cCons (cVar 3) (cCons (cVar 4) (cCons (cVar 5) cNil)))))
   sNext))
  (sSeq (sRet (cCon (.bl true)))
  sNext)))))))
@[irreducible] def j5:List D->M D:=runDef 6 yo
def yb : CS :=
  (sSeq (sRet (cTmp tupL (aComp 1 [] (iSeq (cSplit (cVar 0) (cCon (.str " ")))) (gVar 0) tTrue (cCall jK (cCons (cVar 0) cNil)))))
  sNext)
@[irreducible] def jz:List D->M D:=runDef 1 yb
def j9 : CS :=
  (sSeq (sAsg (gVar 1) (cKeep (aComp 2 [] (iSeq (c2 subsD (cVar 0) (cCon (.int 0)))) (gTupD 2 (gsCons (gVar 0) (gsCons (gVar 1) gsNil))) tTrue (cCall jM (cCons (cVar 0) (cCons (cVar 1) cNil))))))
  (sSeq (sFor (iSeq (c2 subsD (cVar 0) (cCon (.int 1)))) (gTupD 2 (gsCons (gVar 2) (gsCons (gVar 3) gsNil)))
   (sSeq (sExp (cAppend (cVar 1) (c2 addD (cCon (.str "hand ")) (cCall je (cCons (cVar 2) cNil)))))
   (sSeq (sExp (cExtend (cVar 1) (cKeep (aComp 1 [] (iSeq (cVar 3)) (gVar 0) tTrue (cCall jJ (cCons (cVar 0) cNil))))))
   sNext)))
  (sSeq (sRet (cJoin (cCon (.str "\n")) (cVar 1)))
  sNext)))
@[irreducible] def jB:List D->M D:=runDef 4 j9
def j7 : CS :=
  (sSeq (sAsg (gVar 2) (cKeep (aDisp cNil)))
  (sSeq (sFor (MM.iRng2 (cVar 1) (c1 lenD (cVar 0))) (gVar 3)
   (sSeq (sAsg (gVar 4) (cSplit (c2 subsD (cVar 0) (cVar 3)) (cCon (.str " "))))
   (sSeq (sIf (tAndB (tCmpB (c2 eqD (c2 subsD (cVar 4) (cCon (.int 0))) (cCon (.str "hand")))) (tCmpB (c2 eqD (c1 lenD (cVar 4)) (cCon (.int 3)))))
    (sSeq (sExp (cAppend (cVar 2) (cTup (cCons (cCall jb (cCons (cVar 3) (cCons (cKeep (aSlice (cVar 4) (oSome (cCon (.int 1))) oNone)) cNil))) (cCons (cKeep (aDisp cNil)) cNil)))))
    sNext)
    (sSeq (sIf (tCmpB (c2 gtD (c1 lenD (cVar 2)) (cCon (.int 0))))
     (sSeq (sExp (cAppend (c2 subsD (c2 subsD (cVar 2) (c1 negD (cCon (.int 1)))) (cCon (.int 1))) (cCall jy (cCons (cVar 3) (cCons (cVar 4) cNil)))))
     sNext)
     (sSeq sBad
     sNext))
    sNext))
   sNext)))
  (sSeq (sRet (cTmp tupL (aComp 2 [] (iSeq (cVar 2)) (gTupD 2 (gsCons (gVar 0) (gsCons (gVar 1) gsNil))) tTrue (cTup (cCons (cVar 0) (cCons (c1 tupleD (cVar 1)) cNil))))))
  sNext)))
@[irreducible] def jA:List D->M D:=runDef 5 j7
def j3 : CS :=
  (sSeq (sAsg (gVar 1) (cTmp tupL (aComp 1 [] (iSeq (cSplit (cVar 0) (cCon (.str " / ")))) (gVar 0) tTrue (cCall jz (cCons (cVar 0) cNil)))))
  (sSeq (sIf (tNotB (tVal (cCall ji (cCons (cVar 1) cNil))))
   (sSeq sBad
   sNext)
   sNext)
  (sSeq (sRet (cVar 1))
  sNext)))
@[irreducible] def jH:List D->M D:=runDef 2 j3
def j6 : CS :=
  (sSeq (sAsg (gVar 2) (cPart PySem.Txt.rpartition (cVar 1) (cCon (.str " at "))))
  (sSeq (sAsg (gVar 3) (cPart PySem.Txt.partition (c2 subsD (cVar 2) (cCon (.int 0))) (cCon (.str " "))))
  (sSeq (sSeq (sAsg (gVar 4) (cCall jH (cCons (c2 subsD (cVar 3) (cCon (.int 2))) cNil)))
   sNext)
  (sSeq (sRet (cTup (cCons (cVar 4) (cCons (c2 subsD (cCall jb (cCons (cVar 0) (cCons (cKeep (aDisp (cCons (c2 subsD (cVar 2) (cCon (.int 2))) cNil))) cNil))) (cCon (.int 0))) cNil))))
  sNext))))
@[irreducible] def jC:List D->M D:=runDef 5 j6
def j2 : CS :=
  (sSeq (sAsg (gVar 1) (cKeep (aDisp cNil)))
  (sSeq (sFor (iEnumL (cVar 0)) (gTupD 2 (gsCons (gVar 2) (gsCons (gVar 3) gsNil)))
   (sSeq (sIf (tNotB (tVal (cStarts (cVar 3) (cCon (.str "board ")))))
    (sSeq (sRet (c1 tupleD (cVar 1)))
    sNext)
    sNext)
   (sSeq (sExp (cAppend (cVar 1) (cCall jC (cCons (cVar 2) (cCons (cVar 3) cNil)))))
   sNext)))
  (sSeq sBad
  sNext)))
@[irreducible] def jr:List D->M D:=runDef 4 j2
def j4 : CS :=
  (sSeq (sAsg (gVar 1) (cSplit (cVar 0) (cCon (.str "\n"))))
  (sSeq (sAsg (gVar 2) (cCall jr (cCons (cVar 1) cNil)))
  (sSeq (sAsg (gVar 3) (cTup (cCons (cVar 2) (cCons (cCall jA (cCons (cVar 1) (cCons (c1 lenD (cVar 2)) cNil))) cNil))))
  (sSeq (sExp (cCall j5 (cCons (cVar 3) cNil)))
  (sSeq (sRet (cVar 3))
  sNext)))))
@[irreducible] def jE:List D->M D:=runDef 4 j4
def yp : CS :=
  (sSeq (sAsg (gVar 1) (cKeep (aDisp (cCons (c1 listD (cVar 0)) (cCons (cCon (.int 0)) (cCons (cCon (.int 0)) (cCons (cCon (.int 0)) cNil)))))))
  (sSeq (sAsg (gVar 2) (cCall jx (cCons (cVar 1) (cCons (cCon (.int 4)) (cCons (cCon (.int 8)) cNil)))))
  (sSeq (sAsg (gVar 3) (cCall jx (cCons (cVar 1) (cCons (cCon (.int 4)) (cCons (cCon (.int 8)) cNil)))))
  (sSeq (sFor (iSeq (cTup (cCons (cVar 2) (cCons (cVar 3) (cCons (cVar 2) cNil))))) (gVar 4)
   (sSeq (sAsg (gVar 5) (cJoin (cCon (.str "\n")) (cCall jP (cCons (cVar 4) cNil))))
   (sSeq (sAsg (gVar 6) (cCall jB (cCons (cVar 4) cNil)))
   (sSeq (sIf (tOrB (tNotB (tVal (c1 (isInst ["str"]) (cVar 6)))) (tOrB (tCmpB (c2 neD (cVar 6) (cVar 5))) (tNotB (tVal (cCall m_law_alike (cCons (cCall jE (cCons (cVar 5) cNil)) (cCons (cVar 4) cNil)))))))
    (sSeq (sRet (cCon (.bl false)))
    sNext)
    sNext)
   sNext))))
  (sSeq (sRet (cCon (.bl true)))
  sNext)))))
@[irreducible] def yd:List D->M D:=runDef 7 yp
open PySem.Spec PyProof.Rows L2
def top (i:Nat):Stmt:=PySem.Challenge.pw_pactboards_k19_houses_written.main.body.getD i (.Pass ⟨0,0,0,0⟩)
set_option genInjectivity false in
structure Txt (K:PySem.W.Frag) (mg:Str->Option Value):Prop where
 f0:FnAt K mg "answers" (top 6)
 f1:FnAt K mg "is_state" (top 8)
 f2:FnAt K mg "answer_counts" (top 12)
 f3:FnAt K mg "are_lines" (top 14)
 f4:FnAt K mg "is_line" (top 15)
 f5:FnAt K mg "state_text" (top 20)
 f6:FnAt K mg "read_number" (top 24)
 f7:FnAt K mg "numbers_text" (top 29)
 f8:FnAt K mg "read_numbers" (top 35)
 f9:FnAt K mg "_law_draw" (top 37)
 f10:FnAt K mg "_law_any_table" (top 38)
 f11:FnAt K mg "_law_table" (top 39)
 f12:FnAt K mg "_law_line" (top 40)
 f13:FnAt K mg "_law_house" (top 41)
 f14:FnAt K mg "_law_line_text" (top 42)
 f15:FnAt K mg "_law_rows" (top 43)
 f16:FnAt K mg "_law_alike" (top 44)
 f17:FnAt K mg "is_table" (top 7)
 f18:FnAt K mg "look_at_boards" (top 11)
 f19:FnAt K mg "look_at_hand" (top 13)
 f20:FnAt K mg "table_text" (top 19)
 f21:FnAt K mg "read_pair" (top 23)
 f22:FnAt K mg "board_row" (top 27)
 f23:FnAt K mg "line_row" (top 28)
 f24:FnAt K mg "read_line" (top 34)
 f25:FnAt K mg "look" (top 10)
 f26:FnAt K mg "read_state" (top 22)
 f27:FnAt K mg "house_text" (top 26)
 f28:FnAt K mg "read_hands" (top 33)
 f29:FnAt K mg "read_table" (top 21)
 f30:FnAt K mg "read_board" (top 32)
 f31:FnAt K mg "read_boards" (top 31)
 f32:FnAt K mg "read_house" (top 30)
 f33:FnAt K mg "law" (top 45)
 z:ZOk mg ["all","bool","enumerate","int","isinstance","len","list","max","range","str","tuple","zip"]
 c:COk K mg [("FIGURES",.str "0123456789"),("MOST_FIGURES",.int 3)]
section
variable {P:Program}{w:World}{K:PySem.W.Frag}{mg:Str->Option Value}{base:Heap}
def cm0:RuC:=rCmpH 4 .In inTD (fun _=>Qgc)
def cm1:RuC:=rCmp .Lt ltD (fun _=>Qd4)
def cm2:RuC:=rCmp .LtE leD (fun _=>Qd5)
def cm3:RuC:=rCmp .Gt gtD (fun _=>Qd6)
def cm4:RuC:=rCmp .GtE geD (fun _=>Qd7)
def cm5:RuC:=rCmp .Eq eqD (fun h=>Qfy h)
def cm6:RuC:=rCmp .NotEq neD (fun h=>Qfz h)
def cm7:RuC:=rCmp .In inD (fun h=>QfR h)
def cm8:RuC:=rChain .LtE leD (fun _=>Qd5) .LtE leD (fun _=>Qd5)
def cm9:RuC:=rChain .LtE leD (fun _=>Qd5) .Lt ltD (fun _=>Qd4)
def RR:Rules:=⟨[rVar,rInt,rStr,rBl,rNon,rCall,MM.rSub,rTup,rGlob,bMaxT,bAllT,bTupT,bStr,bIntT,mStarts,rFmtS,mPart,mRPart,bLen,bTuple,bList,bIsiInt,bIsiBool,bIsiStr,bIsiTuple,mAppend,mExtend,mSplit,mJoin,rSliceW,rKeep,rOp .Add addD (fun _=>QfB),rOp .Mult mulD (fun _=>Qd0),rOp .FloorDiv fdivD (fun _=>Qd1),rOp .Mod modD (fun _=>Qd2),rOp .Pow powD (fun _=>Qd3),cm0.e,cm1.e,cm2.e,cm3.e,cm4.e,cm5.e,cm6.e,cm7.e,cm8.e,cm9.e,rAnd,rNot,rNeg,rFmt,rFstr],[lLst,lComp,lSlice],[cm0.t,cm1.t,cm2.t,cm3.t,cm4.t,cm5.t,cm6.t,cm7.t,cm8.t,cm9.t,tAnd,tOr,tNot,tVl],[iRange1,iRange2,iEnumLr,iEnumr,iZipTr true,iStrr,iSeqr],[gVr,gTupr,gSubr],[sNmr,sRetr,sIfr,sExpr,sForr,sCompr,sRaiser,sTry0r,sSubr,sTupr]⟩
abbrev hh:List (Nat × Nat × Nat):=[(85,16,4),(85,44,4),(89,11,4),(99,19,15),(102,40,1),(103,32,1),(114,19,16),(223,69,7)]
def ge0:List (Str × RF):=[]
theorem gk0 (T:Txt K mg):EnvOk P w K mg base ge0:=Qg8
def ge1:List (Str × RF):=("answers",⟨2,1,["table","deed"],false,jD⟩)::ge0
theorem gk1 (T:Txt K mg):EnvOk P w K mg base ge1:=by
 unfold ge1 jD
 exact Qhg RR (r:=[]) (H:=hh) T.f0 (by nofun) (fun _ _ _ _ _ _=>le2 fun _ _=>rfl) (fun z=>nomatch z) (by kernel_rfl) (gk0 T) T.z T.c
def ge2:List (Str × RF):=("is_state",⟨2,1,["table","row"],false,jh⟩)::ge1
theorem gk2 (T:Txt K mg):EnvOk P w K mg base ge2:=by
 unfold ge2 jh
 exact Qhg RR (r:=[]) (H:=hh) T.f1 (by nofun) (fun _ _ _ _ _ _=>le2 fun _ _=>rfl) (fun z=>nomatch z) (by kernel_rfl) (gk1 T) T.z T.c
def ge3:List (Str × RF):=("answer_counts",⟨1,2,["table"],false,jf⟩)::ge2
theorem gk3 (T:Txt K mg):EnvOk P w K mg base ge3:=by
 unfold ge3 jf
 exact Qhg RR (r:=[]) (H:=hh) T.f2 (by nofun) (fun _ _ _ _ _ _=>le1 fun _=>rfl) (fun z=>nomatch z) (by kernel_rfl) (gk2 T) T.z T.c
def ge4:List (Str × RF):=("are_lines",⟨2,1,["goals","lines"],false,jk⟩)::ge3
theorem gk4 (T:Txt K mg):EnvOk P w K mg base ge4:=by
 unfold ge4 jk
 exact Qhg RR (r:=[]) (H:=hh) T.f3 (by nofun) (fun _ _ _ _ _ _=>le2 fun _ _=>rfl) (fun z=>nomatch z) (by kernel_rfl) (gk3 T) T.z T.c
def ge5:List (Str × RF):=("is_line",⟨3,2,["counts","lines","line"],false,jI⟩)::ge4
theorem gk5 (T:Txt K mg):EnvOk P w K mg base ge5:=by
 unfold ge5 jI
 exact Qhg RR (r:=["board","deed","goals"]) (H:=hh) T.f4 (by nofun) (fun _ _ _ _ _ _=>le3 fun _ _ _=>rfl) (fun z=>nomatch z) (by kernel_rfl) (gk4 T) T.z T.c
def ge6:List (Str × RF):=("state_text",⟨1,1,["row"],false,jG⟩)::ge5
theorem gk6 (T:Txt K mg):EnvOk P w K mg base ge6:=by
 unfold ge6 jG
 exact Qhg RR (r:=[]) (H:=hh) T.f5 (by nofun) (fun _ _ _ _ _ _=>le1 fun _=>rfl) (fun z=>nomatch z) (by kernel_rfl) (gk5 T) T.z T.c
def ge7:List (Str × RF):=("read_number",⟨1,1,["word"],false,jc⟩)::ge6
theorem gk7 (T:Txt K mg):EnvOk P w K mg base ge7:=by
 unfold ge7 jc
 exact Qhg RR (r:=[]) (H:=hh) T.f6 (by nofun) (fun _ _ _ _ _ _=>le1 fun _=>rfl) (fun z=>nomatch z) (by kernel_rfl) (gk6 T) T.z T.c
def ge8:List (Str × RF):=("numbers_text",⟨1,1,["numbers"],false,je⟩)::ge7
theorem gk8 (T:Txt K mg):EnvOk P w K mg base ge8:=by
 unfold ge8 je
 exact Qhg RR (r:=[]) (H:=hh) T.f7 (by nofun) (fun _ _ _ _ _ _=>le1 fun _=>rfl) (fun z=>nomatch z) (by kernel_rfl) (gk7 T) T.z T.c
def ge9:List (Str × RF):=("read_numbers",⟨2,2,["at","words"],false,jb⟩)::ge8
theorem gk9 (T:Txt K mg):EnvOk P w K mg base ge9:=by
 unfold ge9 jb
 exact Qhg RR (r:=["numbers"]) (H:=hh) T.f8 (by nofun) (fun _ _ _ _ _ _=>le2 fun _ _=>rfl) (fun z=>nomatch z) (by kernel_rfl) (gk8 T) T.z T.c
def ge10:List (Str × RF):=("_law_draw",⟨2,1,["_law_state","_law_many"],false,ja⟩)::ge9
theorem gk10 (T:Txt K mg):EnvOk P w K mg base ge10:=by
 unfold ge10 ja
 exact Qhg RR (r:=["_law_found","_law_cell","_law_number"]) (H:=hh) T.f9 (by nofun) (fun _ _ _ _ _ _=>le2 fun _ _=>rfl) (fun z=>nomatch z) (by kernel_rfl) (gk9 T) T.z T.c
def ge11:List (Str × RF):=("_law_any_table",⟨1,2,["_law_state"],false,jm⟩)::ge10
theorem gk11 (T:Txt K mg):EnvOk P w K mg base ge11:=by
 unfold ge11 jm
 exact Qhg RR (r:=["_law_many","_law_deeds","_law_top"]) (H:=hh) T.f10 (by nofun) (fun _ _ _ _ _ _=>le1 fun _=>rfl) (fun z=>nomatch z) (by kernel_rfl) (gk10 T) T.z T.c
def ge12:List (Str × RF):=("_law_table",⟨1,3,["_law_state"],false,jL⟩)::ge11
theorem gk12 (T:Txt K mg):EnvOk P w K mg base ge12:=by
 unfold ge12 jL
 exact Qhg RR (r:=["_law_n","_law_form","_law_rows_here"]) (H:=hh) T.f11 (by nofun) (fun _ _ _ _ _ _=>le1 fun _=>rfl) (fun z=>nomatch z) (by kernel_rfl) (gk11 T) T.z T.c
def ge13:List (Str × RF):=("_law_line",⟨3,2,["_law_state","_law_boards","_law_many"],false,jO⟩)::ge12
theorem gk13 (T:Txt K mg):EnvOk P w K mg base ge13:=by
 unfold ge13 jO
 exact Qhg RR (r:=["_law_b","_law_table_here","_law_d","_law_top"]) (H:=hh) T.f12 (by nofun) (fun _ _ _ _ _ _=>le3 fun _ _ _=>rfl) (fun z=>nomatch z) (by kernel_rfl) (gk12 T) T.z T.c
def ge14:List (Str × RF):=("_law_house",⟨3,4,["_law_state","_law_most_boards","_law_most_lines"],false,jx⟩)::ge13
theorem gk14 (T:Txt K mg):EnvOk P w K mg base ge14:=by
 unfold ge14 jx
 exact Qhg RR (r:=["_law_boards","_law_k","_law_table_here","_law_hands","_law_many","_law_begins"]) (H:=hh) T.f13 (by nofun) (fun _ _ _ _ _ _=>le3 fun _ _ _=>rfl) (fun z=>nomatch z) (by kernel_rfl) (gk13 T) T.z T.c
def ge15:List (Str × RF):=("_law_line_text",⟨1,1,["_law_line_here"],false,jj⟩)::ge14
theorem gk15 (T:Txt K mg):EnvOk P w K mg base ge15:=by
 unfold ge15 jj
 exact Qhg RR (r:=[]) (H:=hh) T.f14 (by nofun) (fun _ _ _ _ _ _=>le1 fun _=>rfl) (fun z=>nomatch z) (by kernel_rfl) (gk14 T) T.z T.c
def ge16:List (Str × RF):=("_law_rows",⟨1,2,["_law_house_here"],false,jP⟩)::ge15
theorem gk16 (T:Txt K mg):EnvOk P w K mg base ge16:=by
 unfold ge16 jP
 exact Qhg RR (r:=["_law_rows_here","_law_table_here","_law_start","_law_texts","_law_begins","_law_lines"]) (H:=hh) T.f15 (by nofun) (fun _ _ _ _ _ _=>le1 fun _=>rfl) (fun z=>nomatch z) (by kernel_rfl) (gk15 T) T.z T.c
def gs16_0:List (Str × RF):=("_law_alike",⟨2,1,["_law_found","_law_due"],false,fun _=>bad⟩)::ge16
theorem QiK (T:Txt K mg):EnvOk P w K mg base gs16_0:=QiJ T.f16 rfl (fun _ _ _ _ _ _=>le2 fun _ _=>rfl) (gk16 T)
def gs16_1:List (Str × RF):=("_law_alike",⟨2,2,["_law_found","_law_due"],false,ju⟩)::gs16_0
theorem QiL (T:Txt K mg):EnvOk P w K mg base gs16_1:=by
 unfold gs16_1 ju
 exact Qhg RR (r:=[]) (H:=hh) T.f16 (by nofun) (fun _ _ _ _ _ _=>le2 fun _ _=>rfl) (fun z=>nomatch z) (by kernel_rfl) (QiK T) T.z T.c
def gs16_2:List (Str × RF):=("_law_alike",⟨2,3,["_law_found","_law_due"],false,js⟩)::gs16_1
theorem QiM (T:Txt K mg):EnvOk P w K mg base gs16_2:=by
 unfold gs16_2 js
 exact Qhg RR (r:=[]) (H:=hh) T.f16 (by nofun) (fun _ _ _ _ _ _=>le2 fun _ _=>rfl) (fun z=>nomatch z) (by kernel_rfl) (QiL T) T.z T.c
def gs16_3:List (Str × RF):=("_law_alike",⟨2,4,["_law_found","_law_due"],false,jo⟩)::gs16_2
theorem QiN (T:Txt K mg):EnvOk P w K mg base gs16_3:=by
 unfold gs16_3 jo
 exact Qhg RR (r:=[]) (H:=hh) T.f16 (by nofun) (fun _ _ _ _ _ _=>le2 fun _ _=>rfl) (fun z=>nomatch z) (by kernel_rfl) (QiM T) T.z T.c
def gs16_4:List (Str × RF):=("_law_alike",⟨2,5,["_law_found","_law_due"],false,jt⟩)::gs16_3
theorem QiO (T:Txt K mg):EnvOk P w K mg base gs16_4:=by
 unfold gs16_4 jt
 exact Qhg RR (r:=[]) (H:=hh) T.f16 (by nofun) (fun _ _ _ _ _ _=>le2 fun _ _=>rfl) (fun z=>nomatch z) (by kernel_rfl) (QiN T) T.z T.c
def gs16_5:List (Str × RF):=("_law_alike",⟨2,6,["_law_found","_law_due"],false,jq⟩)::gs16_4
theorem QiP (T:Txt K mg):EnvOk P w K mg base gs16_5:=by
 unfold gs16_5 jq
 exact Qhg RR (r:=[]) (H:=hh) T.f16 (by nofun) (fun _ _ _ _ _ _=>le2 fun _ _=>rfl) (fun z=>nomatch z) (by kernel_rfl) (QiO T) T.z T.c
def gs16_6:List (Str × RF):=("_law_alike",⟨2,7,["_law_found","_law_due"],false,jw⟩)::gs16_5
theorem QiQ (T:Txt K mg):EnvOk P w K mg base gs16_6:=by
 unfold gs16_6 jw
 exact Qhg RR (r:=[]) (H:=hh) T.f16 (by nofun) (fun _ _ _ _ _ _=>le2 fun _ _=>rfl) (fun z=>nomatch z) (by kernel_rfl) (QiP T) T.z T.c
def gs16_7:List (Str × RF):=("_law_alike",⟨2,8,["_law_found","_law_due"],false,jp⟩)::gs16_6
theorem QiR (T:Txt K mg):EnvOk P w K mg base gs16_7:=by
 unfold gs16_7 jp
 exact Qhg RR (r:=[]) (H:=hh) T.f16 (by nofun) (fun _ _ _ _ _ _=>le2 fun _ _=>rfl) (fun z=>nomatch z) (by kernel_rfl) (QiQ T) T.z T.c
def gs16_8:List (Str × RF):=("_law_alike",⟨2,9,["_law_found","_law_due"],false,jv⟩)::gs16_7
theorem QiS (T:Txt K mg):EnvOk P w K mg base gs16_8:=by
 unfold gs16_8 jv
 exact Qhg RR (r:=[]) (H:=hh) T.f16 (by nofun) (fun _ _ _ _ _ _=>le2 fun _ _=>rfl) (fun z=>nomatch z) (by kernel_rfl) (QiR T) T.z T.c
abbrev ge17:List (Str × RF):=gs16_8
theorem gk17 (T:Txt K mg):EnvOk P w K mg base ge17:=QiS T
def ge18:List (Str × RF):=("is_table",⟨1,2,["table"],false,ji⟩)::ge17
theorem gk18 (T:Txt K mg):EnvOk P w K mg base ge18:=by
 unfold ge18 ji
 exact Qhg RR (r:=[]) (H:=hh) T.f17 (by nofun) (fun _ _ _ _ _ _=>le1 fun _=>rfl) (fun z=>nomatch z) (by kernel_rfl) (gk17 T) T.z T.c
def ge19:List (Str × RF):=("look_at_boards",⟨1,3,["boards"],false,jg⟩)::ge18
theorem gk19 (T:Txt K mg):EnvOk P w K mg base ge19:=by
 unfold ge19 jg
 exact Qhg RR (r:=["k","board","table"]) (H:=hh) T.f18 (by nofun) (fun _ _ _ _ _ _=>le1 fun _=>rfl) (fun z=>nomatch z) (by kernel_rfl) (gk18 T) T.z T.c
def ge20:List (Str × RF):=("look_at_hand",⟨3,3,["counts","k","hand"],false,jl⟩)::ge19
theorem gk20 (T:Txt K mg):EnvOk P w K mg base ge20:=by
 unfold ge20 jl
 exact Qhg RR (r:=["lines","number","line"]) (H:=hh) T.f19 (by nofun) (fun _ _ _ _ _ _=>le3 fun _ _ _=>rfl) (fun z=>nomatch z) (by kernel_rfl) (gk19 T) T.z T.c
def ge21:List (Str × RF):=("table_text",⟨1,2,["table"],false,jF⟩)::ge20
theorem gk21 (T:Txt K mg):EnvOk P w K mg base ge21:=by
 unfold ge21 jF
 exact Qhg RR (r:=[]) (H:=hh) T.f20 (by nofun) (fun _ _ _ _ _ _=>le1 fun _=>rfl) (fun z=>nomatch z) (by kernel_rfl) (gk20 T) T.z T.c
def ge22:List (Str × RF):=("read_pair",⟨1,2,["word"],false,jK⟩)::ge21
theorem gk22 (T:Txt K mg):EnvOk P w K mg base ge22:=by
 unfold ge22 jK
 exact Qhg RR (r:=["pair"]) (H:=hh) T.f21 (by nofun) (fun _ _ _ _ _ _=>le1 fun _=>rfl) (fun z=>nomatch z) (by kernel_rfl) (gk21 T) T.z T.c
def ge23:List (Str × RF):=("board_row",⟨2,3,["table","state"],false,jM⟩)::ge22
theorem gk23 (T:Txt K mg):EnvOk P w K mg base ge23:=by
 unfold ge23 jM
 exact Qhg RR (r:=["text"]) (H:=hh) T.f22 (by nofun) (fun _ _ _ _ _ _=>le2 fun _ _=>rfl) (fun z=>nomatch z) (by kernel_rfl) (gk22 T) T.z T.c
def ge24:List (Str × RF):=("line_row",⟨1,2,["line"],false,jJ⟩)::ge23
theorem gk24 (T:Txt K mg):EnvOk P w K mg base ge24:=by
 unfold ge24 jJ
 exact Qhg RR (r:=[]) (H:=hh) T.f23 (by nofun) (fun _ _ _ _ _ _=>le1 fun _=>rfl) (fun z=>nomatch z) (by kernel_rfl) (gk23 T) T.z T.c
def ge25:List (Str × RF):=("read_line",⟨2,3,["at","words"],false,jy⟩)::ge24
theorem gk25 (T:Txt K mg):EnvOk P w K mg base ge25:=by
 unfold ge25 jy
 exact Qhg RR (r:=[]) (H:=hh) T.f24 (by nofun) (fun _ _ _ _ _ _=>le2 fun _ _=>rfl) (fun z=>nomatch z) (by kernel_rfl) (gk24 T) T.z T.c
def ge26:List (Str × RF):=("look",⟨1,4,["house"],false,j5⟩)::ge25
theorem gk26 (T:Txt K mg):EnvOk P w K mg base ge26:=by
 unfold ge26 j5
 exact Qhg RR (r:=["boards","hands","counts","k","hand"]) (H:=hh) T.f25 (by nofun) (fun _ _ _ _ _ _=>le1 fun _=>rfl) (fun z=>nomatch z) (by kernel_rfl) (gk25 T) T.z T.c
def ge27:List (Str × RF):=("read_state",⟨1,3,["text"],false,jz⟩)::ge26
theorem gk27 (T:Txt K mg):EnvOk P w K mg base ge27:=by
 unfold ge27 jz
 exact Qhg RR (r:=[]) (H:=hh) T.f26 (by nofun) (fun _ _ _ _ _ _=>le1 fun _=>rfl) (fun z=>nomatch z) (by kernel_rfl) (gk26 T) T.z T.c
def ge28:List (Str × RF):=("house_text",⟨1,4,["house"],false,jB⟩)::ge27
theorem gk28 (T:Txt K mg):EnvOk P w K mg base ge28:=by
 unfold ge28 jB
 exact Qhg RR (r:=["rows","begins","lines"]) (H:=hh) T.f27 (by nofun) (fun _ _ _ _ _ _=>le1 fun _=>rfl) (fun z=>nomatch z) (by kernel_rfl) (gk27 T) T.z T.c
def ge29:List (Str × RF):=("read_hands",⟨2,4,["rows","first"],false,jA⟩)::ge28
theorem gk29 (T:Txt K mg):EnvOk P w K mg base ge29:=by
 unfold ge29 jA
 exact Qhg RR (r:=["hands","at","words"]) (H:=hh) T.f28 (by nofun) (fun _ _ _ _ _ _=>le2 fun _ _=>rfl) (fun z=>nomatch z) (by kernel_rfl) (gk28 T) T.z T.c
def ge30:List (Str × RF):=("read_table",⟨1,4,["text"],false,jH⟩)::ge29
theorem gk30 (T:Txt K mg):EnvOk P w K mg base ge30:=by
 unfold ge30 jH
 exact Qhg RR (r:=["table"]) (H:=hh) T.f29 (by nofun) (fun _ _ _ _ _ _=>le1 fun _=>rfl) (fun z=>nomatch z) (by kernel_rfl) (gk29 T) T.z T.c
def ge31:List (Str × RF):=("read_board",⟨2,5,["at","row"],false,jC⟩)::ge30
theorem gk31 (T:Txt K mg):EnvOk P w K mg base ge31:=by
 unfold ge31 jC
 exact Qhg RR (r:=["parts","ahead","table"]) (H:=hh) T.f30 (by nofun) (fun _ _ _ _ _ _=>le2 fun _ _=>rfl) (fun z=>nomatch z) (by kernel_rfl) (gk30 T) T.z T.c
def ge32:List (Str × RF):=("read_boards",⟨1,6,["rows"],false,jr⟩)::ge31
theorem gk32 (T:Txt K mg):EnvOk P w K mg base ge32:=by
 unfold ge32 jr
 exact Qhg RR (r:=["boards","at","row"]) (H:=hh) T.f31 (by nofun) (fun _ _ _ _ _ _=>le1 fun _=>rfl) (fun z=>nomatch z) (by kernel_rfl) (gk31 T) T.z T.c
def ge33:List (Str × RF):=("read_house",⟨1,7,["text"],false,jE⟩)::ge32
theorem gk33 (T:Txt K mg):EnvOk P w K mg base ge33:=by
 unfold ge33 jE
 exact Qhg RR (r:=["rows","boards","house"]) (H:=hh) T.f32 (by nofun) (fun _ _ _ _ _ _=>le1 fun _=>rfl) (fun z=>nomatch z) (by kernel_rfl) (gk32 T) T.z T.c
theorem yq {a:Addr}{fd:FuncData} (F:Fun K "law" "law" (top 45) a fd) (T:Txt K mg):FnOk P w K mg base CX0 10 a fd ["_law_script"] (spOf K 1 yd):=by
 unfold yd
 exact Qhf RR (r:=["_law_state","_law_one","_law_other","_law_house_here","_law_text","_law_found"]) (H:=hh) F (by nofun) (by kernel_rfl) (gk33 T) T.z T.c rfl rfl
end
end My
namespace My
open MM
open PySem (Str)
theorem QiT {s:Sto}{n:Nat}{o:MO} (h:s[n]?=some o):n < s.length:=(List.getElem?_eq_some_iff.mp h).1
structure PotAt (s:Sto) (p q:Nat):Prop where
 ne:p≠q
 ex:∃ (x c k:Int) (ns:List Int),s[p]?=some (.lst [.ref q,.int x,.int c,.int k])/\s[q]?=some (.lst (ns.map D.int))/\0<=c/\0<=k/\ns.length<=63
structure Kept (p q:Nat) (s s':Sto):Prop where
 le:s.length<=s'.length
 at_:∀ n,n < s.length->n≠p->n≠q->s'[n]?=s[n]?
section
variable {p q:Nat}{s s1 s2:Sto}{Q:D->Sto->Prop}
theorem Kept.refl:Kept p q s s:=⟨Nat.le_refl _,fun _ _ _ _=>rfl⟩
theorem Kept.trans (h:Kept p q s s1) (k:Kept p q s1 s2):Kept p q s s2:=⟨Nat.le_trans h.le k.le,fun n hn hp hq=>(k.at_ n (Nat.lt_of_lt_of_le hn h.le) hp hq).trans (h.at_ n hn hp hq)⟩
theorem Kept.same {n:Nat}{o:MO} (h:Kept p q s s1) (hp:n≠p) (hq:n≠q) (g:s[n]?=some o):s1[n]?=some o:=(h.at_ n (QiT g) hp hq).trans g
theorem Kept.snoc {o:MO} (h:Kept p q s s1):Kept p q s (s1++[o]):=h.trans ⟨by simp,fun n hn _ _=>List.getElem?_append_left hn⟩
theorem Kept.put {n:Nat}{o:MO} (h:Kept p q s s1) (hn:s.length<=n):Kept p q s (s1.set n o):=
 ⟨by simp;exact h.le,fun m hm hp hq=>by rw[List.getElem?_set_ne (by ac_nf)];exact h.at_ m hm hp hq⟩
theorem PotAt.lt (h:PotAt s p q):p < s.length/\q < s.length:=by obtain⟨x,c,k,ns,a,b,_⟩:=h.ex;exact⟨QiT a,QiT b⟩
theorem PotAt.snoc {o:MO} (h:PotAt s p q):PotAt (s++[o]) p q:=by
 obtain⟨x,c,k,ns,a,b,r⟩:=h.ex
 exact⟨h.ne,x,c,k,ns,by rw[List.getElem?_append_left (QiT a)];exact a,by rw[List.getElem?_append_left (QiT b)];exact b,r⟩
theorem PotAt.put {n:Nat}{o:MO} (h:PotAt s p q) (hp:n≠p) (hq:n≠q):PotAt (s.set n o) p q:=by
 obtain⟨x,c,k,ns,a,b,r⟩:=h.ex
 exact⟨h.ne,x,c,k,ns,by rw[List.getElem?_set_ne hp];exact a,by rw[List.getElem?_set_ne hq];exact b,r⟩
theorem QiU {k:Int} (hp:PotAt s p q) (hk:0 < k) (hk2:k < 1073741824) (h:∀ r s',0<=r->r < k->PotAt s' p q->Kept p q s s'->Q (.int r) s'):wp (ja [.ref p,.int k]) Q s:=by
 obtain⟨x,c,j,ns,e1,e2,hc,hj,hns⟩:=hp.ex
 have hne:=hp.ne
 have lp:=QiT e1
 have m2:∀ a b:Int,0<=b->b < 10000000000->mulOk a b:=fun a b h1 h2=>.inr ⟨by ac_nf,by ac_nf⟩
 have m1:∀ a b:Int,0<=a->a < 10000000000->mulOk a b:=fun a b h1 h2=>.inl ⟨by ac_nf,by ac_nf⟩
 have pw:∀ Q s,wp (powD (.int 10) (.int 18)) Q s=Q (.int 1000000000000000000) s:=fun Q s=>by unfold powD;rw[wp_chk,wp_ret];exact propext ⟨fun h=>h.2,fun h=>⟨by decide,h⟩⟩
 generalize (1000000000000000000:Int)=big at pw
 have at1:∀ l,(s.set p (MO.lst l))[p]?=some (.lst l):=fun l=>List.getElem?_set_self lp
 have at2:∀ l,(s.set p (MO.lst l))[q]?=some (.lst (ns.map D.int)):=fun l=>by rw[List.getElem?_set_ne hne];exact e2
 have ss:∀ l l',(s.set p (MO.lst l)).set p (MO.lst l')=s.set p (.lst l'):=fun l l'=>List.set_set ..
 have g0:∀ Q,wp (getL p) Q s=Q [.ref q,.int x,.int c,.int j] s:=fun Q=>Qhk e1
 have g0q:∀ Q,wp (getL q) Q s=Q (ns.map D.int) s:=fun Q=>Qhk e2
 have u0:∀ es Q,wp (putL p es) Q s=Q () (s.set p (.lst es)):=fun es Q=>Qhl e1
 have g1:∀ l Q,wp (getL p) Q (s.set p (MO.lst l))=Q l (s.set p (MO.lst l)):=fun l Q=>Qhk (at1 l)
 have g2:∀ l Q,wp (getL q) Q (s.set p (MO.lst l))=Q (ns.map D.int) (s.set p (MO.lst l)):=fun l Q=>Qhk (at2 l)
 have u1:∀ l es Q,wp (putL p es) Q (s.set p (MO.lst l))=Q () (s.set p (.lst es)):=fun l es Q=>by rw[Qhl (at1 l),ss]
 have kp:∀ l,Kept p q s (s.set p (MO.lst l)):=fun l=>⟨by simp,fun n hn hp' hq=>by rw[List.getElem?_set_ne (Ne.symm hp')]⟩
 have pt:∀ x' c' k',0<=c'->0<=k'->PotAt (s.set p (MO.lst [.ref q,.int x',.int c',.int k'])) p q:=fun x' c' k' h1 h2=>⟨hne,x',c',k',ns,at1 _,at2 _,h1,h2,hns⟩
 have ix2:ixN 4 2=some 2:=rfl
 have ix1:ixN 4 1=some 1:=rfl
 have ix3:ixN 4 3=some 3:=rfl
 have st2:∀ v,[D.ref q,.int x,.int c,.int j].set 2 v=[.ref q,.int x,v,.int j]:=fun v=>rfl
 have sx1:∀ a b d v,[D.ref q,a,b,d].set 1 v=[.ref q,v,b,d]:=fun a b d v=>rfl
 have sx3:∀ a b d v,[D.ref q,a,b,d].set 3 v=[.ref q,a,b,v]:=fun a b d v=>rfl
 have i3:∀ (a b d:D) (Q:D->Sto->Prop) s,wp (itemD [.ref q,a,b,d] 3) Q s=Q d s:=fun a b d Q s=>QhD (i:=3) rfl
 have fin:∀ (cell x' k':Int),0<=k'->wp (sSeq (sAsg (gVar 4) (c2 modD (c2 addD (c2 addD (c2 mulD (cVar 3) (cCon (.int 48271))) (c2 mulD (cCon (.int 7919)) (c2 subsD (cVar 0) (cCon (.int 2))))) (cCon (.int 5))) (cCon (.int 2147483647))))
  (sSeq (sAsg (gVar 4) (c2 modD (c2 addD (c2 mulD (cVar 4) (cVar 4)) (c2 mulD (cCon (.int 104729)) (c2 subsD (cVar 0) (cCon (.int 2))))) (cCon (.int 2147483629))))
  (sSeq (sAsg (gVar 4) (c2 modD (c2 addD (c2 mulD (cVar 4) (cCon (.int 69621))) (cCon (.int 16807))) (cCon (.int 2147483587))))
  (sSeq (sRet (c2 modD (c2 modD (c2 mulD (cVar 4) (cVar 4)) (cCon (.int 2147483579))) (cVar 1)))
  sNext))) [some (.ref p),some (.int k),none,some (.int cell),none]) (fun f s'=>wp (flwD f) Q s') (s.set p (.lst [.ref q,.int x',.int (c + 1),.int k'])):=fun cell x' k' hk'=>by
  simp_arith [↓g1]
  have y0:=Int.emod_nonneg (cell * 48271 + 7919 * (c + 1) + 5) (show (2147483647:Int)≠0 by ac_nf)
  have y1:=Int.emod_lt_of_pos (cell * 48271 + 7919 * (c + 1) + 5) (show (0:Int) < 2147483647 by ac_nf)
  generalize (cell * 48271 + 7919 * (c + 1) + 5) % 2147483647=y at y0 y1 ⊢
  have z0:=Int.emod_nonneg (y * y + 104729 * (c + 1)) (show (2147483629:Int)≠0 by ac_nf)
  have z1:=Int.emod_lt_of_pos (y * y + 104729 * (c + 1)) (show (0:Int) < 2147483629 by ac_nf)
  generalize (y * y + 104729 * (c + 1)) % 2147483629=z at z0 z1 ⊢
  have v0:=Int.emod_nonneg (z * 69621 + 16807) (show (2147483587:Int)≠0 by ac_nf)
  have v1:=Int.emod_lt_of_pos (z * 69621 + 16807) (show (0:Int) < 2147483587 by ac_nf)
  generalize (z * 69621 + 16807) % 2147483587=v at v0 v1 ⊢
  exact⟨m2 _ _ (by ac_nf) (by ac_nf),m1 _ _ (by ac_nf) (by ac_nf),m2 _ _ (by ac_nf) (by ac_nf),m1 _ _ (by ac_nf) (by ac_nf),m2 _ _ (by ac_nf) (by ac_nf),m2 _ _ (by ac_nf) (by ac_nf),hk,h _ _ (Int.emod_nonneg _ (by ac_nf)) (Int.emod_lt_of_pos _ hk) (pt _ _ _ (by ac_nf) hk') (kp _)⟩
 (simp_arith [ja];simp_arith [yk,↓g0,↓u0,List.length_cons,List.length_nil,Nat.reduceAdd,ix2,st2,↓g1,↓g2,↓u1])
 by_cases cx:0 < x
 ·rw[if_pos cx]
  simp_arith [ix1,sx1,↓u1]
  exact⟨hk,⟨hk,hk2⟩,h _ _ (Int.emod_nonneg _ (by ac_nf)) (Int.emod_lt_of_pos _ hk) (pt _ _ _ (by ac_nf) hj) (kp _)⟩
 rw[if_neg cx]
 by_cases cj:j < (ns.length:Int)
 ·obtain⟨jn,rfl⟩:∃ n:Nat,j=n:=⟨j.toNat,(Int.toNat_of_nonneg hj).symm⟩
  have hjn:jn < ns.length:=by ac_nf
  have ij:∀ (Q:D->Sto->Prop) s,wp (itemD (ns.map D.int) (jn:Int)) Q s=Q (.int ns[jn]) s:=fun Q s=>QhD (by rw[List.getElem?_map,List.getElem?_eq_getElem hjn];rfl)
  simp_arith [↓i3,List.length_map,cj,decide_true,if_true,↓g1,↓g2,↓ij,List.length_cons,List.length_nil,Nat.reduceAdd,ix3,sx3,↓u1,↓pw]
  by_cases cb:big<=ns[jn]
  ·rw[if_pos cb]
   simp_arith [↓g1,List.length_cons,List.length_nil,Nat.reduceAdd,ix1,sx1,↓u1]
   exact⟨⟨hk,hk2⟩,hk,h _ _ (Int.emod_nonneg _ (by ac_nf)) (Int.emod_lt_of_pos _ hk) (pt _ _ _ (by ac_nf) (by ac_nf)) (kp _)⟩
  ·rw[if_neg cb]
   refine Eq.mp ?_ (fin ns[jn] x (jn + 1) (by ac_nf))
   simp_arith [↓g1]
 ·simp_arith [↓i3,List.length_map,cj,decide_false,Bool.false_eq_true,if_false,↓g1,↓g2]
  by_cases cn:0 < (ns.length:Int)
  ·rw[if_pos cn]
   have hm0:=Int.emod_nonneg (c + 1) (show (ns.length:Int)≠0 by ac_nf)
   have hm1:=Int.emod_lt_of_pos (c + 1) cn
   obtain⟨mn,hmn⟩:∃ n:Nat,(c + 1) % (ns.length:Int)=n:=⟨((c + 1) % (ns.length:Int)).toNat,(Int.toNat_of_nonneg hm0).symm⟩
   have hml:mn < ns.length:=by ac_nf
   have ij:∀ (Q:D->Sto->Prop) s,wp (itemD (ns.map D.int) (mn:Int)) Q s=Q (.int ns[mn]) s:=fun Q s=>QhD (by rw[List.getElem?_map,List.getElem?_eq_getElem hml];rfl)
   simp_arith [↓g1,↓g2,List.length_map,hmn,↓ij]
   refine⟨by ac_nf,?_⟩
   refine Eq.mp ?_ (fin ns[mn] x j hj)
   simp_arith [↓g1]
  ·rw[if_neg cn]
   refine Eq.mp ?_ (fin 7 x j hj)
   simp_arith [↓g1]
end
open PySem (Str)
def IsPr (S:Nat) (d:D):Prop:=∃ a b:Int,d=.tup [.int a,.int b]/\0<=a/\a < S/\0<=b/\b < 4
def IsRow (S n:Nat) (d:D):Prop:=∃ ps,d=.tup ps/\ps.length=n/\∀ p∈ps,IsPr S p
def IsTab (d:D):Prop:=∃ (S n:Nat) (rows:List D),d=.tup rows/\rows.length=S/\1<=S/\S<=4/\1<=n/\n<=4/\∀ r∈rows,IsRow S n r
def tabD (S dn:Nat) (nx un:Nat->Nat->Nat):D:=.tup (upto S fun s=>.tup (upto dn fun d=>.tup [.int (nx s d:Nat),.int (un s d:Nat)]))
def TabOk (S dn:Nat) (nx un:Nat->Nat->Nat):Prop:=1<=S/\S<=4/\1<=dn/\dn<=4/\∀ s d,s < S->d < dn->nx s d < S/\un s d < 4
theorem QiV {t:D} (h:IsTab t):∃ S dn nx un,t=tabD S dn nx un/\TabOk S dn nx un:=by
 obtain⟨S,dn,rows,et,hl,hS1,hS2,hd1,hd2,hr⟩:=h
 have key:∀ s:Nat,∃ p:Nat->Nat × Nat,s < S->rows[s]?=some (.tup (upto dn fun d=>.tup [.int ((p d).1:Nat),.int ((p d).2:Nat)]))/\∀ d,d < dn->(p d).1 < S/\(p d).2 < 4:=by
  intro s
  by_cases hs:s < S
  ·have hlt:s < rows.length:=by ac_nf
   obtain⟨ds,e,hdl,hp⟩:=hr rows[s] (List.getElem_mem hlt)
   have k2:∀ d:Nat,∃ p:Nat × Nat,d < dn->ds[d]?=some (.tup [.int (p.1:Nat),.int (p.2:Nat)])/\p.1 < S/\p.2 < 4:=by
    intro d
    by_cases hd:d < dn
    ·have hdt:d < ds.length:=by ac_nf
     obtain⟨g,u,e2,g0,g1,u0,u9⟩:=hp ds[d] (List.getElem_mem hdt)
     refine⟨(g.toNat,u.toNat),fun _=>⟨?_,by show g.toNat < S;ac_nf,by show u.toNat < 4;ac_nf⟩⟩
     rw[List.getElem?_eq_getElem hdt,e2,Int.toNat_of_nonneg g0,Int.toNat_of_nonneg u0]
    ·exact⟨(0,0),fun h=>(hd h).elim⟩
   refine⟨fun d=>Classical.choose (k2 d),fun _=>⟨?_,fun d hd=>(Classical.choose_spec (k2 d) hd).2⟩⟩
   rw[List.getElem?_eq_getElem hlt,e]
   congr 2
   exact QhO hdl fun d hd=>(Classical.choose_spec (k2 d) hd).1
  ·exact⟨fun _=>(0,0),fun h=>(hs h).elim⟩
 refine⟨S,dn,fun s d=>(Classical.choose (key s) d).1,fun s d=>(Classical.choose (key s) d).2,?_,hS1,hS2,hd1,hd2,fun s d hs hd=>(Classical.choose_spec (key s) hs).2 d hd⟩
 rw[et]
 unfold tabD
 congr 1
 exact QhO hl fun s hs=>(Classical.choose_spec (key s) hs).1
section
variable {p q:Nat}{s s1 s2:Sto}{Q:D->Sto->Prop}
def PK (p q:Nat) (s s':Sto):Prop:=PotAt s' p q/\Kept p q s s'
theorem PK.refl (h:PotAt s p q):PK p q s s:=⟨h,Kept.refl⟩
theorem QiW {k:Int} (hp:PK p q s s1) (hk:0 < k) (hk2:k < 1073741824) (h:∀ r s',0<=r->r < k->PK p q s s'->Kept p q s1 s'->Q (.int r) s'):wp (ja [.ref p,.int k]) Q s1:=
 QiU hp.1 hk hk2 fun r s' r0 r1 hp' k'=>h r s' r0 r1 ⟨hp',hp.2.trans k'⟩ k'
theorem PK.snoc {o:MO} (h:PK p q s s1):PK p q s (s1++[o]):=⟨h.1.snoc,h.2.snoc⟩
theorem PK.put {n:Nat}{o:MO} (h:PK p q s s1) (hn:s.length<=n) (hp:n≠p) (hq:n≠q):PK p q s (s1.set n o):=⟨h.1.put hp hq,h.2.put hn⟩
end
open PySem (Str)
section
variable {p q:Nat}{s s1 s2:Sto}{Q:D->Sto->Prop}
theorem toN {r:Int} (h:0<=r):∃ n:Nat,r=n:=⟨r.toNat,(Int.toNat_of_nonneg h).symm⟩
theorem QiX {n:Nat} (h:n<=1000):(-(2 ^ 62)<=(n:Int)/\(n:Int) < 2 ^ 62):=by ac_nf
def is1 (n:Nat) (d:D):Prop:=∃ i:Int,1<=i/\i<=n/\d=.int i
theorem QiY {n:Nat}:∀ d∈rngD 1 n,is1 n d:=fun d hd=>by
 unfold rngD at hd
 obtain⟨i,hi,e⟩:=List.mem_map.mp hd
 have:=List.mem_range.mp hi
 exact⟨1 + (i:Int),by ac_nf,by ac_nf,e.symm⟩
theorem QiZ {lo:Int}{n:Nat}:(rngD lo n).length=n:=by simp[rngD]
theorem Qi0 (hp:PK p q s s1) (h:∀ t s',IsTab t->PK p q s s'->Kept p q s1 s'->Q t s'):wp (jm [.ref p]) Q s1:=by
 have l2:2<=lim:=Qhw (by ac_nf)
 (simp_arith [jm];simp_arith [jR])
 refine QiW hp (by ac_nf) (by ac_nf) fun r1 t1 a0 a1 h1 w1=>?_
 simp_arith []
 refine QiW h1 (by ac_nf) (by ac_nf) fun r2 t2 b0 b1 h2 w2=>?_
 simp_arith []
 refine QiW h2 (by ac_nf) (by ac_nf) fun r3 t3 c0 c1 h3 w3=>?_
 obtain⟨r1,rfl⟩:=toN a0
 obtain⟨r2,rfl⟩:=toN b0
 obtain⟨r3,rfl⟩:=toN c0
 have e1:(1 + (r1:Int))=((1 + r1:Nat):Int):=by ac_nf
 have e2:(1 + (r2:Int))=((1 + r2:Nat):Int):=by ac_nf
 have e3:(1 + (r3:Int))=((1 + r3:Nat):Int):=by ac_nf
 simp_arith [e1,e2,e3]
 have m1:1<=1 + r1/\1 + r1<=4:=by ac_nf
 have n1:1<=1 + r2/\1 + r2<=4:=by ac_nf
 have k1:1<=1 + r3/\1 + r3<=4:=by ac_nf
 generalize 1 + r1=m at m1
 generalize 1 + r2=n at n1
 generalize 1 + r3=k at k1
 have w123:=w1.trans (w2.trans w3)
 simp_arith [capt,Int.toNat_natCast,Qhv]
 refine⟨QiX (by ac_nf),Qhw (by ac_nf),?_⟩
 refine Qid (isI m) (IsRow m n) (fun s'=>PK p q s s'/\Kept p q s1 s') (fun _ _=>trivial) ⟨h3,w123⟩ Qie (fun d s' _ hZ0=>?_) (fun rows s' ho hP hZ0=>?_)
 ·obtain⟨hk,w⟩:=hZ0
  simp_arith [capt,Int.toNat_natCast,Qhv]
  refine⟨QiX (by ac_nf),Qhw (by ac_nf),?_⟩
  refine Qid (isI n) (IsPr m) (fun s'=>PK p q s s'/\Kept p q s1 s') (fun _ _=>trivial) ⟨hk,w⟩ Qie (fun d s' _ hZ0=>?_) (fun out s' ho hP hZ0=>?_)
  ·obtain⟨hk,w⟩:=hZ0
   simp_arith [l2]
   refine QiW hk (by ac_nf) (by ac_nf) fun a s2 a0 a1 hk2 w2=>?_
   simp_arith []
   refine QiW hk2 (by ac_nf) (by ac_nf) fun b s3 b0 b1 hk3 w3=>?_
   simp_arith [l2]
   exact⟨⟨a,b,rfl,a0,a1,b0,by ac_nf⟩,hk3,(w.trans w2).trans w3⟩
  ·obtain⟨hk,w⟩:=hZ0
   rw[Qhv]at ho
   simp_arith []
   exact⟨⟨out,rfl,ho,hP⟩,hk,w⟩
 ·obtain⟨hk,w⟩:=hZ0
  rw[Qhv]at ho
  simp_arith []
  exact h _ _ ⟨m,n,rows,rfl,ho,m1.1,by ac_nf,n1.1,by ac_nf,hP⟩ hk w
theorem Qi1 (hp:PK p q s s1) (h:∀ S dn nx un s',TabOk S dn nx un->PK p q s s'->Kept p q s1 s'->Q (tabD S dn nx un) s'):wp (jL [.ref p]) Q s1:=by
 have l2:2<=lim:=Qhw (by ac_nf)
 have l1:1<=lim:=Qhw (by ac_nf)
 have hI:∀ t s',IsTab t->PK p q s s'->Kept p q s1 s'->Q t s':=fun t s' ht hk w=>by
  obtain⟨S,dn,nx,un,e,ok⟩:=QiV ht
  rw[e];exact h S dn nx un s' ok hk w
 (simp_arith [jL];simp_arith [yf])
 refine QiW hp (by ac_nf) (by ac_nf) fun r1 t1 a0 a1 h1 w1=>?_
 simp_arith []
 refine QiW h1 (by ac_nf) (by ac_nf) fun r2 t2 b0 b1 h2 w2=>?_
 obtain⟨r1,rfl⟩:=toN a0
 have e2:(1 + (r1:Int))=((1 + r1:Nat):Int):=by ac_nf
 have n1:1<=1 + r1/\1 + r1<=3:=by ac_nf
 rw[e2]
 simp_arith []
 generalize 1 + r1=n at n1
 have w12:=w1.trans w2
 have hb:=QiX (n:=n) (by ac_nf)
 have ln:n<=lim:=Qhw (by ac_nf)
 have ln1:n + 1<=lim:=Qhw (by ac_nf)
 have en:((n:Int) + 1 - 1).toNat=n:=by ac_nf
 have em:((n:Int) + 1)=((n + 1:Nat):Int):=by ac_nf
 by_cases c0:r2=0
 ·subst c0
  simp_arith [decide_true,if_true,capt,en,QiZ]
  refine⟨⟨⟨by ac_nf,by ac_nf⟩,by ac_nf,by ac_nf⟩,ln,?_⟩
  refine Qid (is1 n) (IsPr (n + 1)) (fun s'=>t2=s') (fun _ _=>trivial) rfl QiY (fun d s' hZ0 es=>?_) (fun out s' ho hP es=>?_)
  ·obtain⟨i,i1,i2,e⟩:=hZ0
   subst e es
   simp_arith [l2]
   exact⟨i,i,rfl,by ac_nf,by ac_nf,by ac_nf,by ac_nf⟩
  subst es
  rw[QiZ]at ho
  simp_arith [l1,capt,en,QiZ]
  refine⟨⟨⟨by ac_nf,by ac_nf⟩,by ac_nf,by ac_nf⟩,ln,?_⟩
  refine Qid (is1 n) (IsRow (n + 1) n) (fun s'=>t2++[.lst [.tup out]]=s') (fun _ _=>trivial) rfl QiY (fun d s' hZ0 es=>?_) (fun rows s' ho2 hP2 es=>?_)
  ·obtain⟨i,i1,i2,e⟩:=hZ0
   subst e es
   simp_arith [capt,Int.toNat_natCast,Qhv]
   refine⟨hb,ln,?_⟩
   refine Qid (isI n) (IsPr (n + 1)) (fun s'=>t2++[MO.lst [.tup out]]=s') (fun _ _=>trivial) rfl Qie (fun d s' hZ0 es=>?_) (fun ps s' ho hP es=>?_)
   ·subst es
    simp_arith [l2]
    exact⟨i,i,rfl,by ac_nf,by ac_nf,by ac_nf,by ac_nf⟩
   ·subst es
    rw[Qhv]at ho
    simp_arith []
    exact⟨ps,rfl,ho,hP⟩
  subst es
  rw[QiZ]at ho2
  have ad:∀ Q:D->Sto->Prop,wp (addD (.ref t2.length) (.ref (t2++[MO.lst [.tup out]]).length)) Q (t2++[MO.lst [.tup out]]++[MO.lst rows])=([D.tup out].length + rows.length<=lim/\Q (.ref (t2++[MO.lst [.tup out]]++[MO.lst rows]).length) (t2++[MO.lst [.tup out]]++[MO.lst rows]++[.lst ([.tup out]++rows)])):=fun Q=>QhC (by simp) (by simp)
  have g:∀ Q:List D->Sto->Prop,wp (getL (t2++[MO.lst [D.tup out]]++[MO.lst rows]).length) Q (t2++[MO.lst [.tup out]]++[MO.lst rows]++[.lst ([.tup out]++rows)])=Q ([.tup out]++rows) (t2++[MO.lst [.tup out]]++[MO.lst rows]++[.lst ([.tup out]++rows)]):=fun Q=>Qhk (by simp)
  simp_arith [↓ad,↓g]
  refine⟨Qhw (by ac_nf),hI _ _ ⟨n + 1,n,_,rfl,by simp[ho2],by ac_nf,by ac_nf,n1.1,by ac_nf,fun r hr=>?_⟩ h2.snoc.snoc.snoc w12.snoc.snoc.snoc⟩
  rcases List.mem_cons.mp hr with e | hr
  ·exact⟨out,e,ho,hP⟩
  ·exact hP2 r hr
 by_cases c1:r2=1
 ·subst c1
  simp_arith [Int.reduceEq,decide_true,decide_false,Bool.false_eq_true,if_false,if_true,capt,Int.toNat_natCast,Qhv]
  refine⟨hb,ln,?_⟩
  refine Qid (isI n) (IsRow n (n + 1)) (fun s'=>PK p q s s'/\Kept p q s1 s') (fun _ _=>trivial) ⟨h2,w12⟩ Qie (fun d s' hZ0 hW=>?_) (fun rows s' ho hP hW=>?_)
  ·obtain⟨i,hi,e⟩:=hZ0
   obtain⟨hk,w⟩:=hW
   subst e
   simp_arith [l2,l1,capt,Int.toNat_natCast,Qhv]
   refine⟨hb,ln,?_⟩
   refine Qid (isI n) (IsPr n) (fun u=>s'++[MO.lst [.tup [.int i,.int i]]]=u) (fun _ _=>trivial) rfl Qie (fun d u hZ0 es=>?_) (fun ps u ho hP es=>?_)
   ·obtain⟨j,hj,e⟩:=hZ0
    subst e es
    simp_arith [l2]
    exact⟨j,0,rfl,by ac_nf,by ac_nf,by ac_nf,by ac_nf⟩
   ·subst es
    rw[Qhv]at ho
    have ad:∀ Q:D->Sto->Prop,wp (addD (.ref s'.length) (.ref (s'++[MO.lst [D.tup [.int i,.int i]]]).length)) Q (s'++[MO.lst [.tup [.int i,.int i]]]++[MO.lst ps])=([D.tup [.int i,.int i]].length + ps.length<=lim/\Q (.ref (s'++[MO.lst [D.tup [.int i,.int i]]]++[MO.lst ps]).length) (s'++[MO.lst [.tup [.int i,.int i]]]++[MO.lst ps]++[.lst ([.tup [.int i,.int i]]++ps)])):=fun Q=>QhC (by simp) (by simp)
    have g:∀ Q:List D->Sto->Prop,wp (getL (s'++[MO.lst [D.tup [.int i,.int i]]]++[MO.lst ps]).length) Q (s'++[MO.lst [.tup [.int i,.int i]]]++[MO.lst ps]++[.lst ([.tup [.int i,.int i]]++ps)])=Q ([.tup [.int i,.int i]]++ps) (s'++[MO.lst [.tup [.int i,.int i]]]++[MO.lst ps]++[.lst ([.tup [.int i,.int i]]++ps)]):=fun Q=>Qhk (by simp)
    simp_arith [↓ad,↓g]
    refine⟨Qhw (by ac_nf),⟨_,rfl,by simp[ho],fun x hx=>?_⟩,hk.snoc.snoc.snoc,w.snoc.snoc.snoc⟩
    rcases List.mem_cons.mp hx with e | hx
    ·exact⟨i,i,e,by ac_nf,by ac_nf,by ac_nf,by ac_nf⟩
    ·exact hP x hx
  ·obtain⟨hk,w⟩:=hW
   rw[Qhv]at ho
   simp_arith []
   exact hI _ _ ⟨n,n + 1,rows,rfl,ho,by ac_nf,by ac_nf,by ac_nf,by ac_nf,hP⟩ hk w
 by_cases c2:r2=2
 ·subst c2
  simp_arith [Int.reduceEq,decide_true,decide_false,Bool.false_eq_true,if_false,if_true,capt,em,Int.toNat_natCast,Qhv]
  refine⟨QiX (by ac_nf),ln1,?_⟩
  refine Qid (isI (n + 1)) (IsRow (n + 1) (n + 1)) (fun s'=>t2=s') (fun _ _=>trivial) rfl Qie (fun d s' hZ0 es=>?_) (fun rows s' ho hP es=>?_)
  ·obtain⟨i,hi,e⟩:=hZ0
   subst e es
   simp_arith [capt,em,Int.toNat_natCast,Qhv]
   refine⟨QiX (by ac_nf),ln1,?_⟩
   refine Qid (isI (n + 1)) (IsPr (n + 1)) (fun s'=>t2=s') (fun _ _=>trivial) rfl Qie (fun d s' hZ0 es=>?_) (fun ps s' ho hP es=>?_)
   ·obtain⟨j,hj,e⟩:=hZ0
    subst e es
    simp_arith [l2]
    exact⟨j,i,rfl,by ac_nf,by ac_nf,by ac_nf,by ac_nf⟩
   ·subst es
    rw[Qhv]at ho
    simp_arith []
    exact⟨ps,rfl,ho,hP⟩
  ·subst es
   rw[Qhv]at ho
   simp_arith []
   exact hI _ _ ⟨n + 1,n + 1,rows,rfl,ho,by ac_nf,by ac_nf,by ac_nf,by ac_nf,hP⟩ h2 w12
 by_cases c3:r2=3
 ·subst c3
  simp_arith [Int.reduceEq,decide_true,decide_false,Bool.false_eq_true,if_false,if_true,capt,em,Int.toNat_natCast,Qhv]
  refine⟨QiX (by ac_nf),ln1,?_⟩
  refine Qid (isI (n + 1)) (IsRow (n + 1) 1) (fun s'=>t2=s') (fun _ _=>trivial) rfl Qie (fun d s' hZ0 es=>?_) (fun rows s' ho hP es=>?_)
  ·obtain⟨i,hi,e⟩:=hZ0
   subst e es
   simp_arith [l2,l1]
   refine⟨by ac_nf,_,rfl,rfl,fun x hx=>?_⟩
   exact⟨_,_,List.mem_singleton.mp hx,Int.emod_nonneg _ (by ac_nf),Int.emod_lt_of_pos _ (by ac_nf),by ac_nf,by ac_nf⟩
  ·subst es
   rw[Qhv]at ho
   simp_arith []
   exact hI _ _ ⟨n + 1,1,rows,rfl,ho,by ac_nf,by ac_nf,by ac_nf,by ac_nf,hP⟩ h2 w12
 simp_arith [c0,c1,c2,c3,decide_false,Bool.false_eq_true,if_false]
 exact Qi0 h2 fun t s' ht hk w=>by simp_arith [];exact hI t s' ht hk (w12.trans w)
end
open PySem (Str)
structure Bd where
 S:Nat
 dn:Nat
 nx:Nat->Nat->Nat
 un:Nat->Nat->Nat
 st:Nat
inductive Ln where
 | settle (v:Nat)
 | act (b d:Nat) (gs:List Nat)
structure Hd where
 b0:Nat
 b1:Nat
 lines:List Ln
structure Hs where
 boards:List Bd
 hands:List Hd
def natD (n:Nat):D:=.int (n:Int)
def bdD (b:Bd):D:=.tup [tabD b.S b.dn b.nx b.un,natD b.st]
def lnD:Ln->D
 | .settle v=>.tup [.str "settle",natD v]
 | .act b d gs=>.tup [.str "do",natD b,natD d,.tup (gs.map natD)]
def hdD (h:Hd):D:=.tup [.tup [natD h.b0,natD h.b1],.tup (h.lines.map lnD)]
def hsD (h:Hs):D:=.tup [.tup (h.boards.map bdD),.tup (h.hands.map hdD)]
def BdOk (b:Bd):Prop:=TabOk b.S b.dn b.nx b.un/\b.st < b.S
def LnOk (bs:List Bd) (m:Nat):Ln->Prop
 | .settle v=>v < 2
 | .act b d gs=>∃ bd,bs[b]?=some bd/\d < bd.dn/\gs.length=1 + mx (bd.un · d) bd.S/\∀ g∈gs,g < m
def HdOk (bs:List Bd) (h:Hd):Prop:=h.b0 < h.lines.length/\h.b1 < h.lines.length/\h.lines.length<=12/\∀ l∈h.lines,LnOk bs h.lines.length l
def HsOk (h:Hs):Prop:=h.boards.length<=7/\(∀ b∈h.boards,BdOk b)/\2<=h.hands.length/\h.hands.length<=3/\∀ x∈h.hands,HdOk h.boards x
section
variable {p q:Nat}{s s1 s2:Sto}{Q:D->Sto->Prop}
theorem Qi2 {S n:Nat}{nx un:Nat->Nat->Nat}:wp (lenD (tabD S n nx un)) Q s=Q (.int S) s:=by unfold tabD;rw[x_lenT,QhM]
theorem Qi3 {S n:Nat}{nx un:Nat->Nat->Nat} (h:0 < S):wp (subsD (tabD S n nx un) (.int 0)) Q s=Q (.tup (upto n fun d=>.tup [.int (nx 0 d:Nat),.int (un 0 d:Nat)])) s:=by unfold tabD;rw[x_subsT,QhY h]
end
open PySem (Str)
section
variable {p q:Nat}{s s1 s2:Sto}{Q:D->Sto->Prop}
def LnsOk (bs:List Bd) (m:Nat) (d:D):Prop:=∃ l,d=lnD l/\LnOk bs m l
theorem Qi4 {bs:List Bd}{m:Nat}:∀ {ds:List D},(∀ d∈ds,LnsOk bs m d)->∃ ls:List Ln,ds=ls.map lnD/\∀ l∈ls,LnOk bs m l
 | [],_=>⟨[],rfl,fun l h=>absurd h (by simp)⟩
 | d::ds,h=>by
  obtain⟨l,e,hl⟩:=h d (by simp)
  obtain⟨ls,e2,h2⟩:=Qi4 (ds:=ds) fun x hx=>h x (by simp[hx])
  refine⟨l::ls,by rw[e,e2];rfl,fun x hx=>?_⟩
  rcases List.mem_cons.mp hx with hx | hx
  ·rw[hx];exact hl
  ·exact h2 x hx
theorem Qi5 {P:Nat->Prop}:∀ {ds:List D},(∀ d∈ds,∃ n:Nat,d=natD n/\P n)->∃ ns:List Nat,ds=ns.map natD/\∀ n∈ns,P n
 | [],_=>⟨[],rfl,fun l h=>absurd h (by simp)⟩
 | d::ds,h=>by
  obtain⟨l,e,hl⟩:=h d (by simp)
  obtain⟨ls,e2,h2⟩:=Qi5 (ds:=ds) fun x hx=>h x (by simp[hx])
  refine⟨l::ls,by rw[e,e2];rfl,fun x hx=>?_⟩
  rcases List.mem_cons.mp hx with hx | hx
  ·rw[hx];exact hl
  ·exact h2 x hx
def IsB (d:D):Prop:=∃ b,d=bdD b/\BdOk b
def IsH (bs:List Bd) (d:D):Prop:=∃ h,d=hdD h/\HdOk bs h/\h.lines.length<=8
theorem Qi6:∀ {ds:List D},(∀ d∈ds,IsB d)->∃ ls:List Bd,ds=ls.map bdD/\∀ l∈ls,BdOk l
 | [],_=>⟨[],rfl,fun l h=>absurd h (by simp)⟩
 | d::ds,h=>by
  obtain⟨l,e,hl⟩:=h d (by simp)
  obtain⟨ls,e2,h2⟩:=Qi6 (ds:=ds) fun x hx=>h x (by simp[hx])
  refine⟨l::ls,by rw[e,e2];rfl,fun x hx=>?_⟩
  rcases List.mem_cons.mp hx with hx | hx
  ·rw[hx];exact hl
  ·exact h2 x hx
theorem Qi7 {bs:List Bd}:∀ {ds:List D},(∀ d∈ds,IsH bs d)->∃ ls:List Hd,ds=ls.map hdD/\∀ l∈ls,HdOk bs l/\l.lines.length<=8
 | [],_=>⟨[],rfl,fun l h=>absurd h (by simp)⟩
 | d::ds,h=>by
  obtain⟨l,e,hl⟩:=h d (by simp)
  obtain⟨ls,e2,h2⟩:=Qi7 (ds:=ds) fun x hx=>h x (by simp[hx])
  refine⟨l::ls,by rw[e,e2];rfl,fun x hx=>?_⟩
  rcases List.mem_cons.mp hx with hx | hx
  ·rw[hx];exact hl
  ·exact h2 x hx
theorem Qi8 {bs : List Bd} {nb m : Nat} (hp : PK p q s s1) (hg : s1[nb]? = some (.lst (bs.map bdD))) (hnp : nb ≠ p) (hnq : nb ≠ q) (hb : ∀ b ∈ bs, BdOk b) (hbl : bs.length <= 7) (hm1 : 1 <= m) (hm2 : m <= 12)
  (h:∀ ln s',LnOk bs m ln->PK p q s s'->Kept p q s1 s'->Q (lnD ln) s'):wp (jO [.ref p,.ref nb,.int m]) Q s1:=by
 have l2:2<=lim:=Qhw (by ac_nf)
 have l4:4<=lim:=Qhw (by ac_nf)
 have g1:∀ Q,wp (getL nb) Q s1=Q (bs.map bdD) s1:=fun Q=>Qhk hg
 (simp_arith [jO];simp_arith [yj,↓g1,List.length_map])
 by_cases c0:(bs.length:Int)=0
 ·simp_arith [c0,l2,if_true,decide_true]
  refine QiW hp (by ac_nf) (by ac_nf) fun v s3 v0 v1 hk3 w3=>?_
  obtain⟨v,rfl⟩:=toN v0
  simp_arith [l2]
  exact h (.settle v) s3 (by show v < 2;ac_nf) hk3 w3
 simp_arith [c0,if_false,decide_false,Bool.false_eq_true]
 refine QiW hp (by ac_nf) (by ac_nf) fun r t a0 a1 h1 w1=>?_
 by_cases c1:r=0
 ·simp_arith [c1,l2,if_true,decide_true]
  refine QiW h1 (by ac_nf) (by ac_nf) fun v s3 v0 v1 hk3 w3=>?_
  obtain⟨v,rfl⟩:=toN v0
  simp_arith [l2]
  exact h (.settle v) s3 (by show v < 2;ac_nf) hk3 (w1.trans w3)
 have g2:∀ Q,wp (getL nb) Q t=Q (bs.map bdD) t:=fun Q=>Qhk (w1.same hnp hnq hg)
 simp_arith [c1,if_false,decide_false,Bool.false_eq_true,↓g2,List.length_map]
 refine QiW h1 (by ac_nf) (by ac_nf) fun bi s2 bi0 bi1 hk2 v2=>?_
 obtain⟨b,rfl⟩:=toN bi0
 have hb1:b < bs.length:=by ac_nf
 have hat:bs[b]?=some bs[b]:=List.getElem?_eq_getElem hb1
 obtain⟨ok,hst⟩:=hb bs[b] (List.getElem_mem hb1)
 generalize bs[b]=bd at hat ok hst
 have q2:∀ Q,wp (getL nb) Q s2=Q (bs.map bdD) s2:=fun Q=>Qhk ((w1.trans v2).same hnp hnq hg)
 have q3:∀ (Q:D->Sto->Prop) s,wp (itemD (bs.map bdD) (b:Int)) Q s=Q (.tup [tabD bd.S bd.dn bd.nx bd.un,natD bd.st]) s:=fun Q s=>QhD (by rw[List.getElem?_map,hat];rfl)
 have t0:∀ (Q:D->Sto->Prop) s,wp (subsD (tabD bd.S bd.dn bd.nx bd.un) (.int 0)) Q s=Q (.tup (upto bd.dn fun d=>.tup [.int (bd.nx 0 d:Nat),.int (bd.un 0 d:Nat)])) s:=fun Q s=>Qi3 ok.1
 simp_arith [↓q2,↓q3,↓t0,QhM]
 have dn1:=ok.2.2.1
 have dn2:=ok.2.2.2.1
 refine QiW hk2 (by ac_nf) (by ac_nf) fun dd s3 dd0 dd1 hk3 v3=>?_
 obtain⟨d,rfl⟩:=toN dd0
 have hd':d < bd.dn:=by ac_nf
 have hS:=ok.1
 have hS4:=ok.2.1
 have lS:bd.S<=lim:=Qhw (by ac_nf)
 have mu:∀ A s,wp (collect (gVar 0) tTrue (c2 subsD (c2 subsD (cVar 0) (cVar 1)) (cCon (.int 1))) anySt (upto bd.S fun s=>.tup (upto bd.dn fun d=>D.tup [.int (bd.nx s d:Nat),.int (bd.un s d:Nat)])) [none,some (.int d)]) A s=A (upto bd.S fun i=>.int (bd.un i d:Nat)) s:=fun A s=>
  Qh1 QhZ fun i hi Q=>by simp_arith [↓QhX hd']
 have mm:∀ (Q:D->Sto->Prop) s,wp (maxD (upto bd.S fun i=>.int (bd.un i d:Nat))) Q s=Q (.int (mx (bd.un · d) bd.S:Nat)) s:=fun Q s=>Qh6 (f:=(bd.un · d)) (by ac_nf)
 have hmx:mx (bd.un · d) bd.S<=3:=Qh5 fun i hi=>by have:=(ok.2.2.2.2 i d hi hd').2;ac_nf
 have em:((mx (bd.un · d) bd.S:Nat):Int) + 1=((1 + mx (bd.un · d) bd.S:Nat):Int):=by ac_nf
 have eu:tabD bd.S bd.dn bd.nx bd.un=.tup (upto bd.S fun s=>.tup (upto bd.dn fun d=>D.tup [.int (bd.nx s d:Nat),.int (bd.un s d:Nat)])):=rfl
 simp_arith [eu,capt,QhM,lS,↓mu,↓mm,em,Int.toNat_natCast,Qhv,l4]
 refine⟨QiX (by ac_nf),Qhw (by ac_nf),?_⟩
 refine Qid (isI (1 + mx (bd.un · d) bd.S)) (fun x=>∃ n:Nat,x=natD n/\n < m) (fun u=>PK p q s u/\Kept p q s1 u) (fun _ _=>trivial) ⟨hk3,(w1.trans v2).trans v3⟩ Qie (fun e u _ hW=>?_) (fun gs u ho hP hW=>?_)
 ·obtain⟨hk,w⟩:=hW
  simp_arith []
  refine QiW hk (by ac_nf) (by ac_nf) fun y u2 y0 y1 hk4 w4=>?_
  obtain⟨y,rfl⟩:=toN y0
  exact⟨⟨y,rfl,by ac_nf⟩,hk4,w.trans w4⟩
 ·obtain⟨hk,w⟩:=hW
  obtain⟨ns,en,hns⟩:=Qi5 hP
  rw[Qhv]at ho
  subst en
  rw[List.length_map]at ho
  simp_arith [l4]
  exact h (.act b d ns) u ⟨bd,hat,hd',ho,hns⟩ hk w
theorem Qi9 (hp:PK p q s s1) (h:∀ hs s',HsOk hs->hs.boards.length<=4->(∀ x∈hs.hands,x.lines.length<=8)->PK p q s s'->Kept p q s1 s'->Q (hsD hs) s'):wp (jx [.ref p,.int 4,.int 8]) Q s1:=by
 have l2:2<=lim:=Qhw (by ac_nf)
 have pl:=hp.1.lt
 have le:=hp.2.le
 (simp_arith [jx];simp_arith [yh,Nat.zero_le])
 refine QiW hp.snoc (by ac_nf) (by ac_nf) fun r t a0 a1 h1 w1=>?_
 obtain⟨r,rfl⟩:=toN a0
 simp_arith [Int.toNat_natCast]
 refine⟨QiX (by ac_nf),?_⟩
 have lt1:=w1.le
 simp at lt1
 refine Qhy (fun i l s'=>∃ (rows:List D) (y4 y5:Option D),l=[some (.ref p),some (.int 4),some (.int 8),some (.ref s1.length),y4,y5,none,none,none]/\s'[s1.length]?=some (.lst rows)/\rows.length=i/\(∀ r∈rows,IsB r)/\PK p q s s'/\Kept p q s1 s') (fun _ _ _ _=>trivial)
  ⟨[],none,none,rfl,w1.same (by ac_nf) (by ac_nf) Qia,rfl,fun r hr=>absurd hr (by simp),h1,Kept.refl.snoc.trans w1⟩ (fun i d l s' hd hZ0=>?_) (fun l s' hZ0=>?_)
 ·obtain⟨rows,y4,y5,el,g,hl,hr,hk,w⟩:=hZ0
  subst el
  have hi:=(List.getElem?_eq_some_iff.mp hd).1
  rw[Qhv]at hi
  simp_arith []
  refine Qi1 hk fun S dn nx un s2 ok h2 w2=>?_
  have lt:∀ (Q:D->Sto->Prop) s,wp (lenD (tabD S dn nx un)) Q s=Q (.int S) s:=fun Q s=>Qi2
  have o1:=ok.1
  have o2:=ok.2.1
  simp_arith [↓lt]
  refine QiW h2 (by ac_nf) (by ac_nf) fun st s3 b0 b1 h3 w3=>?_
  obtain⟨st,rfl⟩:=toN b0
  have g3:=(w2.trans w3).same (by ac_nf) (by ac_nf) g
  have q1:∀ Q,wp (getL s1.length) Q s3=Q rows s3:=fun Q=>Qhk g3
  have q2:∀ es Q,wp (putL s1.length es) Q s3=Q () (s3.set s1.length (.lst es)):=fun es Q=>Qhl g3
  simp_arith [l2,↓q1,↓q2]
  refine⟨Qhx (by ac_nf),_,_,_,rfl,List.getElem?_set_self (QiT g3),by simp[hl],fun z hz=>?_,h3.put (by ac_nf) (by ac_nf) (by ac_nf),((w.trans w2).trans w3).put (by ac_nf)⟩
  rcases List.mem_append.mp hz with hz | hz
  ·exact hr z hz
  ·exact⟨⟨S,dn,nx,un,st⟩,List.mem_singleton.mp hz,ok,by show st < S;ac_nf⟩
 ·obtain⟨rows,y4,y5,el,g,hl,hr,hk,w⟩:=hZ0
  subst el
  rw[Qhv]at hl
  obtain⟨bs,ebs,hbs⟩:=Qi6 hr
  subst ebs
  rw[List.length_map]at hl
  have lg:=QiT g
  simp_arith [Nat.zero_le]
  refine QiW hk.snoc (by ac_nf) (by ac_nf) fun m t2 b0 b1 h2 w2=>?_
  obtain⟨m,rfl⟩:=toN b0
  have em:((2:Int) + (m:Int)).toNat=2 + m:=by ac_nf
  have lt2:=w2.le
  simp at lt2
  simp_arith [em]
  refine⟨⟨by ac_nf,by ac_nf⟩,?_⟩
  refine Qhy (fun i l u=>∃ (rows:List D) (y4 y5 y7 y8:Option D),l=[some (.ref p),some (.int 4),some (.int 8),some (.ref s1.length),y4,y5,some (.ref s'.length),y7,y8]/\u[s1.length]?=some (.lst (bs.map bdD))/\u[s'.length]?=some (.lst rows)/\rows.length=i/\(∀ r∈rows,IsH bs r)/\PK p q s u/\Kept p q s1 u) (fun _ _ _ _=>trivial)
   ⟨[],y4,y5,none,none,rfl,w2.same (by ac_nf) (by ac_nf) (Qib g),w2.same (by ac_nf) (by ac_nf) Qia,rfl,fun r hr=>absurd hr (by simp),h2,w.snoc.trans w2⟩ (fun i d l u hd hZ0=>?_) (fun l u hZ0=>?_)
  ·obtain⟨rows,y4,y5,y7,y8,el,g1,g2,hl2,hr2,hk2,wu⟩:=hZ0
   subst el
   have hi:=(List.getElem?_eq_some_iff.mp hd).1
   rw[Qhv]at hi
   simp_arith []
   refine QiW hk2 (by ac_nf) (by ac_nf) fun c u1 c0 c1 h3 w3=>?_
   obtain⟨c,rfl⟩:=toN c0
   have ec:(1:Int) + (c:Int)=((1 + c:Nat):Int):=by ac_nf
   have c8:1<=1 + c/\1 + c<=8:=by ac_nf
   simp_arith []
   rw[ec]
   generalize 1 + c=cn at c8
   refine QiW h3 (by ac_nf) (by ac_nf) fun e0 u2 d0 d1 h4 w4=>?_
   simp_arith []
   refine QiW h4 (by ac_nf) (by ac_nf) fun e1 u3 f0 f1 h5 w5=>?_
   obtain⟨e0,rfl⟩:=toN d0
   obtain⟨e1,rfl⟩:=toN f0
   simp_arith [l2,capt,Int.toNat_natCast,Qhv]
   have W:=w3.trans (w4.trans w5)
   refine⟨QiX (by ac_nf),Qhw (by ac_nf),?_⟩
   refine Qid (isI cn) (LnsOk bs cn) (fun v=>v[s1.length]?=some (.lst (bs.map bdD))/\v[s'.length]?=some (.lst rows)/\PK p q s v/\Kept p q s1 v) (fun _ _=>trivial) ⟨W.same (by ac_nf) (by ac_nf) g1,W.same (by ac_nf) (by ac_nf) g2,h5,wu.trans W⟩ Qie (fun d v _ hW=>?_) (fun ls v hol hP hW=>?_)
   ·obtain⟨v1,v2,v3,v4⟩:=hW
    simp_arith []
    exact Qi8 v3 v1 (by ac_nf) (by ac_nf) hbs (by ac_nf) c8.1 (by ac_nf) fun ln v' hln hk' w'=>⟨⟨ln,rfl,hln⟩,w'.same (by ac_nf) (by ac_nf) v1,w'.same (by ac_nf) (by ac_nf) v2,hk',v4.trans w'⟩
   ·obtain⟨v1,v2,v3,v4⟩:=hW
    rw[Qhv]at hol
    obtain⟨lns,els,hls⟩:=Qi4 hP
    subst els
    rw[List.length_map]at hol
    have q1:∀ Q,wp (getL s'.length) Q v=Q rows v:=fun Q=>Qhk v2
    have q2:∀ es Q,wp (putL s'.length es) Q v=Q () (v.set s'.length (.lst es)):=fun es Q=>Qhl v2
    simp_arith [l2,↓q1,↓q2]
    refine⟨Qhx (by ac_nf),_,_,_,_,_,rfl,?_,List.getElem?_set_self (QiT v2),by simp[hl2],fun z hz=>?_,v3.put (by ac_nf) (by ac_nf) (by ac_nf),v4.put (by ac_nf)⟩
    ·rw[List.getElem?_set_ne (by ac_nf)];exact v1
    ·rcases List.mem_append.mp hz with hz | hz
     ·exact hr2 z hz
     ·exact⟨⟨e0,e1,lns⟩,List.mem_singleton.mp hz,⟨by show e0 < lns.length;ac_nf,by show e1 < lns.length;ac_nf,by show lns.length<=12;ac_nf,fun l hl=>by show LnOk bs lns.length l;rw[hol];exact hls l hl⟩,by show lns.length<=8;ac_nf⟩
  ·obtain⟨rows,y4,y5,y7,y8,el,g1,g2,hl2,hr2,hk2,wu⟩:=hZ0
   subst el
   rw[Qhv]at hl2
   obtain⟨hs,ehs,hhs⟩:=Qi7 hr2
   subst ehs
   rw[List.length_map]at hl2
   have q1:∀ Q,wp (getL s1.length) Q u=Q (bs.map bdD) u:=fun Q=>Qhk g1
   have q2:∀ Q,wp (getL s'.length) Q u=Q (hs.map hdD) u:=fun Q=>Qhk g2
   simp_arith [↓q1,↓q2,l2]
   exact h ⟨bs,hs⟩ u ⟨by show bs.length<=7;ac_nf,hbs,by show 2<=hs.length;ac_nf,by show hs.length<=3;ac_nf,fun x hx=>(hhs x hx).1⟩ (by show bs.length<=4;ac_nf) (fun x hx=>(hhs x hx).2) hk2 wu
end
open PySem (Str)
theorem spl:(" ":Str).length=1:=by nofun
theorem sll:(" / ":Str).length=3:=by nofun
theorem dig8:∀ {n:Nat},n < 8->Str.ofString (toString (n:Int))=dig n
 | 0,_=>by nofun
 | 1,_=>by nofun
 | 2,_=>by nofun
 | 3,_=>by nofun
 | 4,_=>by nofun
 | 5,_=>by nofun
 | 6,_=>by nofun
 | 7,_=>by nofun
 | n + 8,h=>by ac_nf
theorem Qja {n:Nat} (h:n < 8):PySem.intText? (dig n)=some (n:Int):=by
 rw[<- dig8 h]
 exact PySem.W.KIN.num_reads (by ac_nf) (by ac_nf)
def pairS (g u:Nat):Str:=⟨#[48 + g,46,48 + u]⟩
def rowS (dn:Nat) (p:Nat->Nat × Nat):Str:=PySem.Txt.join (" ":Str) (upto dn fun d=>pairS (p d).1 (p d).2)
def tabS (S dn:Nat) (p:Nat->Nat->Nat × Nat):Str:=PySem.Txt.join (" / ":Str) (upto S fun s=>rowS dn (p s))
def rowD (dn:Nat) (p:Nat->Nat × Nat):D:=.tup (upto dn fun d=>.tup [.int ((p d).1:Nat),.int ((p d).2:Nat)])
theorem Qjb:(".":Str)=⟨#[46]⟩:=by nofun
theorem Qjc:(" ":Str)=⟨#[32]⟩:=by nofun
theorem Qjd:(" / ":Str)=⟨#[32,47,32]⟩:=by nofun
theorem Qje {g u:Nat}:Str.empty++dig g++(".":Str)++dig u=pairS g u:=by
 rw[Qjb];exact Str.ext' (by simp[Str.cps_append,Str.empty,dig,pairS])
theorem Qjf {n:Nat} (h:n < 8):(n:Int).natAbs.log2 < 1920:=Nat.lt_of_le_of_lt (Nat.log2_le_self _) (by ac_nf)
theorem Qjg {n k:Nat}{f:Nat->Nat} (h:∀ i,i < n->f i<=k):(upto n f).sum<=n * k:=by
 induction n with
 | zero=>simp[upto]
 | succ n ih=>
  rw[QhN,List.sum_append,Nat.succ_mul]
  have:=ih fun i hi=>h i (by ac_nf)
  have:=h n (by ac_nf)
  simp
  ac_nf
theorem Qjh {dn:Nat}{p:Nat->Nat × Nat}:(rowS dn p).length<=dn * 4:=by
 unfold rowS
 show (PySem.Builtin.Str.glued _ _).length<=_
 rw[PySem.StrLaws.glued_eq_join]
 refine Nat.le_trans (PySem.StrLaws.join_length_le _ _) ?_
 rw[QhQ,QhM]
 have h1:(upto dn fun d=>(pairS (p d).1 (p d).2).length).sum<=dn * 3:=Qjg fun i hi=>Nat.le_refl 3
 have h2:((" ":Str)).length=1:=by nofun
 rw[h2]
 ac_nf
theorem Qji {S dn:Nat}{p:Nat->Nat->Nat × Nat}:(tabS S dn p).length<=S * (dn * 4 + 3):=by
 unfold tabS
 show (PySem.Builtin.Str.glued _ _).length<=_
 rw[PySem.StrLaws.glued_eq_join]
 refine Nat.le_trans (PySem.StrLaws.join_length_le _ _) ?_
 rw[QhQ,QhM]
 have h1:(upto S fun s=>(rowS dn (p s)).length).sum<=S * (dn * 4):=Qjg fun i hi=>Qjh
 have h2:((" / ":Str)).length=3:=by nofun
 rw[h2,Nat.mul_add]
 ac_nf
theorem Qjj {n:Nat}{Q:D->Sto->Prop}{s:Sto} (h:n < 8):wp (strD (.int (n:Nat))) Q s=Q (.str (dig n)) s:=by
 rw[Qil,dig8 h]
 exact propext ⟨fun h=>h.2,fun q=>⟨Qjf h,q⟩⟩
theorem dotl:(".":Str).length=1:=by nofun
theorem Qjk {dn:Nat}{p:Nat->Nat × Nat}{Q:D->Sto->Prop}{s:Sto} (hd:dn<=4) (hp:∀ d,d < dn->(p d).1 < 4/\(p d).2 < 4) (h:∀ o,Q (.str (rowS dn p)) (s++[o])):wp (jG [rowD dn p]) Q s:=by
 unfold rowD
 (simp_arith [jG];simp_arith [ya,↓Qig,QhM])
 refine⟨Qhw (by ac_nf),?_⟩
 rw[show ∀ l,capt 2 [] l=[none,none] from fun _=>rfl,Qh2 (caps:=[]) (f:=fun d=>.str (pairS (p d).1 (p d).2)) trivial fun d hd' Q=>?_]
 ·have g1:∀ (ds:List D) Q,wp (getL s.length) Q (s++[MO.lst ds])=Q ds (s++[MO.lst ds]):=fun ds Q=>Qhk (by simp)
  simp_arith [↓g1,Qis,QhQ,QhM]
  have h1:(upto dn fun d=>(pairS (p d).1 (p d).2).length).sum<=dn * 3:=Qjg fun i hi=>Nat.le_refl 3
  have h2:((" ":Str)).length=1:=by nofun
  exact⟨by rw[h2];ac_nf,h _⟩
 ·obtain⟨h1,h2⟩:=hp d hd'
  have e1:∀ Q s,wp (strD (.int ((p d).1:Nat))) Q s=Q (.str (dig (p d).1)) s:=fun Q s=>Qjj (by ac_nf)
  have e2:∀ Q s,wp (strD (.int ((p d).2:Nat))) Q s=Q (.str (dig (p d).2)) s:=fun Q s=>Qjj (by ac_nf)
  simp_arith [↓Qih,↓Qij,↓Qii,↓e1,↓e2,Qje]
  have l1:(Str.empty++dig (p d).1).length<=lim:=Qhw (by rw[Str.length_append];exact Nat.le_of_ble_eq_true rfl)
  have l2:(Str.empty++dig (p d).1++(".":Str)).length<=lim:=Qhw (by rw[Str.length_append,dotl];exact Nat.le_of_ble_eq_true rfl)
  have l3:(pairS (p d).1 (p d).2).length<=lim:=Qhw (Nat.le_of_ble_eq_true rfl)
  exact propext ⟨fun h=>h.2.2.2.2,fun h=>⟨l1,l2,l3,l3,h⟩⟩
theorem Qjl {S dn:Nat}{p:Nat->Nat->Nat × Nat}{Q:D->Sto->Prop}{s:Sto} (hS:S<=4) (hd:dn<=4) (hp:∀ i d,i < S->d < dn->(p i d).1 < 4/\(p i d).2 < 4) (h:∀ s',Ext s s'->Q (.str (tabS S dn p)) s'):wp (jF [.tup (upto S fun i=>rowD dn (p i))]) Q s:=by
 (simp_arith [jF];simp_arith [yc,↓Qig,QhM])
 refine⟨Qhw (by ac_nf),?_⟩
 refine Qh0 (caps:=[]) (fun i out s'=>out=upto i (fun i=>D.str (rowS dn (p i)))/\Ext s s') (fun _ _ _ _=>trivial) ⟨rfl,Ext.refl _⟩ (fun i out s' hi ⟨a1,a2⟩=>?_) (fun out s' ⟨a1,a2⟩=>?_)
 ·simp_arith []
  refine Qjk hd (fun d hd'=>hp i d hi hd') fun o=>⟨?_,a2.snoc _⟩
  rw[a1,QhN]
 ·have g1:∀ (ds:List D) Q,wp (getL s'.length) Q (s'++[MO.lst ds])=Q ds (s'++[MO.lst ds]):=fun ds Q=>Qhk (by simp)
  subst a1
  simp_arith [↓g1,Qis,QhQ,QhM]
  have h1:(upto S fun s=>(rowS dn (p s)).length).sum<=S * 16:=Qjg fun i hi=>by have:=Qjh (dn:=dn) (p:=p i);ac_nf
  have h2:((" / ":Str)).length=3:=by nofun
  exact⟨by rw[h2];ac_nf,h _ (a2.snoc _)⟩
theorem Qjm:Mrk (".":Str) 46 0:=by
 rw[Qjb]
 exact⟨by decide,rfl,(fun j h=>by
  cases j with
  | zero=>rfl
  | succ j=>cases h),by nofun⟩
theorem Qjn:Mrk (" ":Str) 32 0:=by
 rw[Qjc]
 exact⟨by decide,rfl,(fun j h=>by
  cases j with
  | zero=>rfl
  | succ j=>cases h),by nofun⟩
theorem Qjo:Mrk (" / ":Str) 47 1:=by
 rw[Qjd]
 exact⟨by decide,rfl,(fun j h=>by
  match j,h with
  | 1,_=>rfl
  | 0,h=>cases h
  | 2,h=>cases h
  | j + 3,h=>cases h),by nofun⟩
theorem Qjp {g u:Nat} (hg:g < 4) (hu:u < 4):PySem.Txt.split (pairS g u) (".":Str)=[dig g,dig u]:=by
 have e:pairS g u=PySem.Txt.join (".":Str) [dig g,dig u]:=by
  rw[Qjb]
  exact Str.ext' (by simp[pairS,dig,PySem.Txt.join,PySem.Builtin.Str.glued])
 rw[e]
 refine Qgz Qjm (by simp) fun p hp=>?_
 rcases List.mem_cons.mp hp with h | h
 ·subst h;simp[dig];ac_nf
 ·rw[List.mem_singleton]at h;subst h;simp[dig];ac_nf
theorem Qjq {α:Type}{n:Nat}{f:Nat->α} (h:1<=n):upto n f≠[]:=fun e=>by
 have:=congrArg List.length e
 rw[QhM,List.length_nil]at this
 ac_nf
theorem Qjr {α:Type}{n:Nat}{f:Nat->α}{x:α} (h:x∈upto n f):∃ i,i < n/\x=f i:=by
 obtain⟨i,hi⟩:=List.getElem?_of_mem h
 exact⟨i,QhL hi⟩
theorem Qjs {dn:Nat}{p:Nat->Nat × Nat} (h1:1<=dn) (hp:∀ d,d < dn->(p d).1 < 4/\(p d).2 < 4):PySem.Txt.split (rowS dn p) (" ":Str)=upto dn fun d=>pairS (p d).1 (p d).2:=by
 refine Qgz Qjn (Qjq h1) fun q hq=>?_
 obtain⟨i,hi,e⟩:=Qjr hq
 obtain⟨a,b⟩:=hp i hi
 subst e
 simp[pairS]
 ac_nf
theorem mem_join {y:Str}{c:Nat}:∀ {ps:List Str},c∈(Str.join y ps).cps.toList->c∈y.cps.toList\/∃ p∈ps,c∈p.cps.toList
 | [],h=>by cases h
 | [p],h=>.inr ⟨p,by simp,h⟩
 | p::q::r,h=>by
  have h:c∈(p++y++Str.join y (q::r)).cps.toList:=h
  rw[Str.cps_append,Str.cps_append,Array.toList_append,Array.toList_append,List.mem_append,List.mem_append]at h
  rcases h with (h | h) | h
  ·exact .inr ⟨p,by simp,h⟩
  ·exact .inl h
  ·rcases mem_join h with h | ⟨z,hz,h⟩
   ·exact .inl h
   ·exact .inr ⟨z,List.mem_cons_of_mem _ hz,h⟩
theorem Qjt {dn c:Nat}{p:Nat->Nat × Nat} (h:c∈(rowS dn p).cps.toList) (hp:∀ d,d < dn->(p d).1 < 4/\(p d).2 < 4):c≠47:=by
 unfold rowS at h
 have h:c∈(PySem.Builtin.Str.glued _ _).cps.toList:=h
 rw[PySem.StrLaws.glued_eq_join]at h
 rcases mem_join h with h | ⟨z,hz,h⟩
 ·rw[Qjc]at h
  simp at h
  ac_nf
 ·obtain⟨i,hi,e⟩:=Qjr hz
  obtain⟨a,b⟩:=hp i hi
  subst e
  simp[pairS]at h
  ac_nf
theorem Qju {S dn:Nat}{p:Nat->Nat->Nat × Nat} (h1:1<=S) (hp:∀ i d,i < S->d < dn->(p i d).1 < 4/\(p i d).2 < 4):PySem.Txt.split (tabS S dn p) (" / ":Str)=upto S fun i=>rowS dn (p i):=by
 refine Qgz Qjo (Qjq h1) fun q hq hm=>?_
 obtain⟨i,hi,e⟩:=Qjr hq
 subst e
 exact Qjt hm (fun d hd=>hp i d hi hd) rfl
theorem Qjv:("0123456789":Str)=⟨#[48,49,50,51,52,53,54,55,56,57]⟩:=by nofun
theorem Qjw {n:Nat} (h:n < 8):(!(PySem.Builtin.Str.occurrences ("0123456789":Str) ⟨#[48 + n]⟩ 0 ("0123456789":Str).length 1).isEmpty)=true:=by
 rw[PySem.StrLaws.found_one,Qjv]
 apply decide_eq_true
 simp
 ac_nf
theorem Qjx {n:Nat}{Q:D->Sto->Prop}{s:Sto} (h:n < 8):wp (jc [.str (dig n)]) Q s=Q (.int (n:Nat)) s:=by
 have l1:(dig n).length<=lim:=Qhw (Nat.le_of_ble_eq_true rfl)
 have l2:((dig n).length:Int)=1:=rfl
 have l3:(dig n).cps.all (· < 128)=true:=by simp[dig];ac_nf
 have l4:signs (dig n)=upto 1 fun _=>.str ⟨#[48 + n]⟩:=rfl
 have c1:∀ Q s,wp (collect (gVar 0) tTrue (c2 inTD (cVar 0) (cCon (.str "0123456789"))) anySt (upto 1 fun _=>.str ⟨#[48 + n]⟩) [none]) Q s=Q (upto 1 fun i=>.bl (bP True)) s:=fun Q s=>Qh1 trivial fun i hi Q=>by
  simp_arith [↓Qin,Qjw h]
  rw[QhH (b:=true) (p:=True) (by simp)]
 have c0:∀ l,capt 1 [] l=[none]:=fun _=>rfl
 have s0:∀ Q s,wp (subsD (.str (dig n)) (.int 0)) Q s=Q (.str ⟨#[48 + n]⟩) s:=fun Q s=>by
  rw[show dig n=⟨[48 + n].toArray⟩ from rfl,Qir]
  exact propext ⟨fun h=>h.2,fun h=>⟨Qhw (Nat.le_of_ble_eq_true rfl),h⟩⟩
 have i0:∀ Q s,wp (intTD (.str (dig n))) Q s=Q (.int (n:Nat)) s:=fun Q s=>Qim (Qja h) (Nat.le_of_ble_eq_true rfl)
 apply QhB
 (simp_arith [jc];simp_arith [j1,↓Qip,l1,l2,l3,l4,c0,QhM,↓c1,↓QhT,↓s0,↓i0,↓Qik])
 rw[QhF (fun _ _=>trivial),decide_true,andB_t,if_neg (by decide)]
 refine⟨Qhw (by decide),?_⟩
 rw[if_neg (by decide)]
 split<;>trivial
theorem Qjy {g u:Nat}{Q:D->Sto->Prop}{s:Sto} (hg:g < 4) (hu:u < 4) (h:∀ s',Ext s s'->Q (.tup [.int (g:Nat),.int (u:Nat)]) s'):wp (jK [.str (pairS g u)]) Q s:=by
 have l1:(pairS g u).length=3:=rfl
 have l2:(".":Str).length=1:=dotl
 have c0:∀ l,capt 1 [] l=[none]:=fun _=>rfl
 have e0:[dig g,dig u].map D.str=upto 2 fun i=>.str (dig (if i=0 then g else u)):=rfl
 have g1:∀ (ds:List D) Q,wp (getL s.length) Q (s++[MO.lst ds])=Q ds (s++[MO.lst ds]):=fun ds Q=>Qhk (by simp)
 (simp_arith [jK];simp_arith [ye,↓Qif,Qjp hg hu,e0,↓g1,c0,QhM,l1,l2])
 have cw:∀ Q,wp (collect (gVar 0) tTrue (cCall jc (cCons (cVar 0) cNil)) (sameL s.length (upto 2 fun i=>.str (dig (if i=0 then g else u)))) (upto 2 fun i=>.str (dig (if i=0 then g else u))) [none]) Q (s++[MO.lst (upto 2 fun i=>.str (dig (if i=0 then g else u)))])=Q (upto 2 fun i=>.int ((if i=0 then g else u:Nat):Nat)) (s++[MO.lst (upto 2 fun i=>.str (dig (if i=0 then g else u)))]):=fun Q=>Qh1 (by show _=_;simp) fun i hi Q=>by
  have hn:(if i=0 then g else u) < 4:=by split<;>ac_nf
  have r:∀ Q s,wp (jc [.str (dig (if i=0 then g else u))]) Q s=Q (.int ((if i=0 then g else u:Nat):Nat)) s:=fun Q s=>Qjx (by ac_nf)
  simp_arith [↓r]
 refine⟨⟨rfl,Qhw (by decide),Qhw (by decide)⟩,Qhw (by decide),?_⟩
 rw[cw]
 have e1:(upto 2 fun i=>D.int ((if i=0 then g else u:Nat):Nat))=[.int (g:Nat),.int (u:Nat)]:=rfl
 rw[e1]
 have i1:∀ Q s,wp (inL .non [.int (g:Nat),.int (u:Nat)]) Q s=Q (.bl false) s:=fun Q s=>by
  unfold inL
  rw[wp_chk,wp_ret]
  exact propext ⟨fun h=>h.2,fun h=>⟨⟨rfl,rfl⟩,h⟩⟩
 simp_arith [↓i1]
 rw[if_neg (by decide)]
 exact h _ (Ext.snoc (Ext.refl _) _)
theorem Qjz {dn:Nat}{p:Nat->Nat × Nat}{Q:D->Sto->Prop}{s:Sto} (hd1:1<=dn) (hd:dn<=4) (hp:∀ d,d < dn->(p d).1 < 4/\(p d).2 < 4) (h:∀ s',Ext s s'->Q (rowD dn p) s'):wp (jz [.str (rowS dn p)]) Q s:=by
 have rl:=Qjh (dn:=dn) (p:=p)
 have c0:∀ l,capt 1 [] l=[none]:=fun _=>rfl
 have g1:∀ (ds:List D) Q,wp (getL s.length) Q (s++[MO.lst ds])=Q ds (s++[MO.lst ds]):=fun ds Q=>Qhk (by simp)
 have l2:(" ":Str).length=1:=spl
 (simp_arith [jz];simp_arith [yb,↓Qif,Qjs hd1 hp,QhQ,↓g1,c0,QhM,l2])
 refine⟨⟨rfl,Qhw (by ac_nf),Qhw (by ac_nf)⟩,Qhw (by ac_nf),?_⟩
 have g2:(s++[MO.lst (upto dn fun i=>.str (pairS (p i).1 (p i).2))])[s.length]?=some (.lst (upto dn fun i=>.str (pairS (p i).1 (p i).2))):=by simp
 have e2:Ext s (s++[MO.lst (upto dn fun i=>.str (pairS (p i).1 (p i).2))]):=Ext.snoc (Ext.refl _) _
 generalize s++[MO.lst (upto dn fun i=>.str (pairS (p i).1 (p i).2))]=s1 at *
 refine Qh0 (caps:=[]) (fun i out s'=>out=upto i (fun i=>D.tup [.int ((p i).1:Nat),.int ((p i).2:Nat)])/\Ext s1 s') (fun _ _ s' w=>w.2.at_ g2) ⟨rfl,Ext.refl _⟩ (fun i out s' hi w=>?_) (fun out s' w=>?_)
 ·obtain⟨a1,a2⟩:=w
  obtain⟨h1,h2⟩:=hp i hi
  simp_arith []
  refine Qjy h1 h2 fun s2 x2=>⟨?_,a2.trans x2⟩
  rw[a1,QhN]
 ·obtain⟨a1,a2⟩:=w
  subst a1
  simp_arith []
  exact h _ (e2.trans a2)
theorem QjA {dn:Nat}{p:Nat->Nat × Nat}{Q:D->Sto->Prop}{s:Sto}:wp (lenD (rowD dn p)) Q s=Q (.int (dn:Nat)) s:=by
 unfold rowD
 simp_arith [QhM]
theorem QjB {S dn:Nat}{p:Nat->Nat->Nat × Nat}{i:Nat}{Q:D->Sto->Prop}{s:Sto} (hS1:1<=S) (hd:dn<=4) (hi:i < S) (hp:∀ d,d < dn->(p i d).1 < S):wp (jh [.tup (upto S fun i=>rowD dn (p i)),rowD dn (p i)]) Q s=Q (.bl true) s:=by
 have i0:∀ Q s,wp (itemD (upto S fun i=>rowD dn (p i)) 0) Q s=Q (rowD dn (p 0)) s:=fun Q s=>QhY (by ac_nf)
 apply QhB
 (simp_arith [jh];simp_arith [jY,↓i0,↓QjA])
 rw[if_neg (by simp)]
 have er:rowD dn (p i)=.tup (upto dn fun d=>.tup [.int ((p i d).1:Nat),.int ((p i d).2:Nat)]):=rfl
 generalize rowD dn (p i)=r at *
 subst er
 simp_arith [QhM]
 refine⟨Qhw (by ac_nf),?_⟩
 rw[show ∀ t u,capt 2 [0] [some t,some u]=[none,none,some t] from fun _ _=>rfl]
 rw[Qh2 (f:=fun d=>.bl (bP True)) trivial fun d hd' Q=>?_]
 ·simp_arith [↓QhT]
  rw[QhF (fun _ _=>trivial)]
 ·have h1:=hp d hd'
  simp_arith [QhM]
  rw[decide_eq_true (by ac_nf),andB_t,decide_eq_true (by ac_nf),andB_t,decide_eq_true (by ac_nf),QhF trivial]
theorem QjC {S dn:Nat}{p:Nat->Nat->Nat × Nat}{Q:D->Sto->Prop}{s:Sto} (hS1:1<=S) (hS:S<=4) (hd1:1<=dn) (hd:dn<=4) (hp:∀ i d,i < S->d < dn->(p i d).1 < S):wp (ji [.tup (upto S fun i=>rowD dn (p i))]) Q s=Q (.bl true) s:=by
 have i0:∀ Q s,wp (itemD (upto S fun i=>rowD dn (p i)) 0) Q s=Q (rowD dn (p 0)) s:=fun Q s=>QhY (by ac_nf)
 have c0:∀ t,capt 1 [0] [some t]=[none,some t]:=fun _=>rfl
 apply QhB
 (simp_arith [ji];simp_arith [jX,↓i0,↓QjA,QhM,c0])
 rw[if_neg (by ac_nf)]
 rw[if_neg (by ac_nf)]
 refine⟨Qhw (by ac_nf),?_⟩
 rw[Qh1 (f:=fun d=>.bl (bP True)) trivial fun i hi Q=>?_]
 ·simp_arith [↓QhT]
  rw[QhF (fun _ _=>trivial)]
 ·have w:∀ Q s,wp (jh [.tup (upto S fun i=>rowD dn (p i)),rowD dn (p i)]) Q s=Q (.bl true) s:=fun Q s=>QjB hS1 hd hi (fun d hd'=>hp i d hi hd')
  simp_arith [↓w]
  rw[QhF trivial]
theorem QjD {S dn:Nat}{p:Nat->Nat->Nat × Nat}{Q:D->Sto->Prop}{s:Sto} (hS1:1<=S) (hS:S<=4) (hd1:1<=dn) (hd:dn<=4) (hp:∀ i d,i < S->d < dn->(p i d).1 < S/\(p i d).2 < 4) (h:∀ s',Ext s s'->Q (.tup (upto S fun i=>rowD dn (p i))) s'):wp (jH [.str (tabS S dn p)]) Q s:=by
 have hp4:∀ i d,i < S->d < dn->(p i d).1 < 4/\(p i d).2 < 4:=fun i d hi hd'=>by have:=hp i d hi hd';ac_nf
 have tl:=Qji (S:=S) (dn:=dn) (p:=p)
 have t2:S * (dn * 4 + 3)<=4 * 19:=Nat.mul_le_mul hS (by ac_nf)
 have c0:∀ l,capt 1 [] l=[none]:=fun _=>rfl
 have g1:∀ (ds:List D) Q,wp (getL s.length) Q (s++[MO.lst ds])=Q ds (s++[MO.lst ds]):=fun ds Q=>Qhk (by simp)
 have l2:(" / ":Str).length=3:=sll
 (simp_arith [jH];simp_arith [j3,↓Qif,Qju hS1 hp4,QhQ,↓g1,c0,QhM,l2])
 refine⟨⟨rfl,Qhw (by ac_nf),Qhw (by ac_nf)⟩,Qhw (by ac_nf),?_⟩
 have g2:(s++[MO.lst (upto S fun i=>.str (rowS dn (p i)))])[s.length]?=some (.lst (upto S fun i=>.str (rowS dn (p i)))):=by simp
 have e2:Ext s (s++[MO.lst (upto S fun i=>.str (rowS dn (p i)))]):=Ext.snoc (Ext.refl _) _
 generalize s++[MO.lst (upto S fun i=>.str (rowS dn (p i)))]=s1 at *
 refine Qh0 (caps:=[]) (fun i out s'=>out=upto i (fun i=>rowD dn (p i))/\Ext s1 s') (fun _ _ s' w=>w.2.at_ g2) ⟨rfl,Ext.refl _⟩ (fun i out s' hi w=>?_) (fun out s' w=>?_)
 ·obtain⟨a1,a2⟩:=w
  simp_arith []
  refine Qjz hd1 hd (fun d hd'=>hp4 i d hi hd') fun s2 x2=>⟨?_,a2.trans x2⟩
  rw[a1,QhN]
 ·obtain⟨a1,a2⟩:=w
  subst a1
  have w:∀ Q s,wp (ji [.tup (upto S fun i=>rowD dn (p i))]) Q s=Q (.bl true) s:=fun Q s=>QjC hS1 hS hd1 hd (fun i d hi hd'=>(hp i d hi hd').1)
  simp_arith [↓w]
  exact h _ (e2.trans a2)
open PySem (Str)
def tabT (b:Bd):Str:=tabS b.S b.dn fun s d=>(b.nx s d,b.un s d)
def numsT (ns:List Nat):Str:=PySem.Txt.join (" ":Str) (ns.map dig)
def bdRow (b:Bd):Str:=("board ":Str)++tabT b++(" at ":Str)++dig b.st
def hdRow (h:Hd):Str:=("hand ":Str)++numsT [h.b0,h.b1]
def lnRow:Ln->Str
 | .settle v=>("settle ":Str)++numsT [v]
 | .act b d gs=>("do ":Str)++numsT [b,d]++(" : ":Str)++numsT gs
def hdRows (h:Hd):List Str:=hdRow h::h.lines.map lnRow
def rowsT (h:Hs):List Str:=h.boards.map bdRow++(h.hands.map hdRows).flatten
def textT (h:Hs):Str:=PySem.Txt.join ("\n":Str) (rowsT h)
def Lt8 (l:Ln):Prop:=match l with
 | .settle v=>v < 8
 | .act b d gs=>b < 8/\d < 8/\gs.length<=4/\∀ g∈gs,g < 8
section
variable {p q:Nat}{s s1 s2:Sto}{Q:D->Sto->Prop}
theorem QjE {α:Type}{xs:List α}{f:α->D}:(upto xs.length fun i=>match xs[i]? with | some x=>f x | none=>.non)=xs.map f:=by
 apply List.ext_getElem?
 intro i
 by_cases h:i < xs.length
 ·rw[QhK h,List.getElem?_map,List.getElem?_eq_getElem h];rfl
 ·rw[List.getElem?_eq_none (by rw[QhM];ac_nf),List.getElem?_eq_none (by rw[List.length_map];ac_nf)]
theorem QjF {α : Type} {e : CE} {same : Sto -> Prop} {xs : List α} {g f : α -> D} {caps : Loc} {Q : List D -> Sto -> Prop} (hs : same s) (h : ∀ x ∈ xs, ∀ Q, wp (e (some (g x) :: caps)) Q s = Q (f x) s) :
  wp (collect (gVar 0) tTrue e same (xs.map g) (none::caps)) Q s=Q (xs.map f) s:=by
 rw[QhV (f:=fun i=>match xs[i]? with | some x=>f x | none=>.non) hs fun i d hd Q=>?_]
 ·rw[List.length_map,QjE]
 ·rw[List.getElem?_map]at hd
  cases hx:xs[i]? with
  | none=>rw[hx]at hd;cases hd
  | some x=>rw[hx]at hd;cases hd;exact h x (List.mem_of_getElem? hx) Q
theorem QjG {α:Type}{f:α->Str}:∀ {xs:List α},strsOf (xs.map fun x=>.str (f x))=some (xs.map f)
 | []=>rfl
 | x::xs=>by
  show (strsOf (xs.map fun x=>.str (f x))).map (f x::·)=_
  rw[QjG];rfl
theorem QjH {α:Type}{f:α->Nat}{k:Nat}:∀ {xs:List α},(∀ x∈xs,f x<=k)->(xs.map f).sum<=xs.length * k
 | [],_=>by simp
 | x::xs,h=>by
  rw[List.map_cons,List.sum_cons,List.length_cons,Nat.succ_mul]
  have:=QjH (xs:=xs) fun y hy=>h y (List.mem_cons_of_mem _ hy)
  have:=h x List.mem_cons_self
  ac_nf
theorem QjI {y:Str}{k:Nat}{xs:List Str} (h:∀ x∈xs,x.length<=k):(PySem.Txt.join y xs).length<=xs.length * (k + y.length):=by
 show (PySem.Builtin.Str.glued _ _).length<=_
 rw[PySem.StrLaws.glued_eq_join]
 refine Nat.le_trans (PySem.StrLaws.join_length_le _ _) ?_
 have:=QjH (f:=fun x:Str=>x.length) h
 rw[Nat.mul_add]
 ac_nf
theorem QjJ {ns:List Nat}:(numsT ns).length<=ns.length * 2:=by
 unfold numsT
 have:=QjI (y:=(" ":Str)) (k:=1) (xs:=ns.map dig) fun x hx=>by
  obtain⟨n,_,rfl⟩:=List.mem_map.mp hx
  exact Nat.le_refl 1
 rw[List.length_map,spl]at this
 exact this
theorem QjK {ns:List Nat}{Q:List D->Sto->Prop} (h:∀ n∈ns,n < 8):wp (collect (gVar 0) tTrue (c1 strD (cVar 0)) anySt (ns.map natD) [none]) Q s=Q (ns.map fun n=>.str (dig n)) s:=QjF QhZ fun n hn Q=>by
 have e:∀ (Q:D->Sto->Prop) s,wp (strD (.int (n:Nat))) Q s=Q (.str (dig n)) s:=fun Q s=>Qjj (h n hn)
 simp_arith [natD,↓e]
theorem QjL {ns:List Nat} (h:∀ n∈ns,n < 8) (hl:ns.length<=100) (hQ:∀ s',Ext s s'->Q (.str (numsT ns)) s'):wp (je [.tup (ns.map natD)]) Q s:=by
 have d:∀ (Q:List D->Sto->Prop) s,wp (collect (gVar 0) tTrue (c1 strD (cVar 0)) anySt (ns.map natD) [none]) Q s=Q (ns.map fun n=>.str (dig n)) s:=fun Q s=>QjK h
 have l:ns.length<=lim:=Qhw (by ac_nf)
 have g:∀ (ds:List D) (Q:List D->Sto->Prop),wp (getL s.length) Q (s++[MO.lst ds])=Q ds (s++[MO.lst ds]):=fun ds Q=>Qhk (by simp)
 have sm:((ns.map dig).map fun x:Str=>x.length).sum<=ns.length * 1:=by
  rw[List.map_map];exact QjH fun x _=>Nat.le_refl 1
 (simp_arith [je];simp_arith [jU,↓Qig,capt,List.length_map,l,↓d,↓g,QjG,spl])
 exact⟨by ac_nf,hQ _ ((Ext.refl _).snoc _)⟩
theorem QjM:(("settle ":Str)).length=7:=by nofun
theorem do_l:(("do ":Str)).length=3:=by nofun
theorem QjN:((" : ":Str)).length=3:=by nofun
theorem QjO:(("hand ":Str)).length=5:=by nofun
theorem QjP:(("board ":Str)).length=6:=by nofun
theorem at_l:((" at ":Str)).length=4:=by nofun
theorem QjQ {n:Nat}:(dig n).length=1:=rfl
theorem nd_:¬ (Str.ofString "do"=Str.ofString "settle"):=by decide
theorem QjR {a : CE} {lo hi : CO} {l : Loc} : wp (cSliceW a lo hi l) Q s = wp (a l) (fun x s1 => wp (lo l) (fun i s2 => wp (hi l) (fun j s3 => match x with
  | .tup ds=>Q (.tup (cutD ds i j)) s3
  | _=>False) s2) s1) s:=by
 unfold cSliceW;rw[Qhj];congr 1;funext x s1;rw[Qhj];congr 1;funext i s2;rw[Qhj];congr 1;funext j s3;cases x<;>first | bv_omega
theorem QjS {a b:Nat}:numsT [a,b]=dig a++(" ":Str)++dig b:=rfl
theorem QjT {a b k:Nat} (ha:a < k) (hb:b < k):∀ n∈[a,b],n < k:=fun n hn=>by
 rcases List.mem_cons.mp hn with e | e
 ·rw[e];exact ha
 ·rw[List.mem_singleton.mp e];exact hb
theorem QjU {l:Ln} (h:Lt8 l) (hQ:∀ s',Ext s s'->Q (.str (lnRow l)) s'):wp (jJ [lnD l]) Q s:=by
 cases l with
 | settle v=>
  have c:cutD [D.str (Str.ofString "settle"),natD v] (some 1) none=[v].map natD:=rfl
  (simp_arith [jJ];simp_arith [jZ,lnD,↓QjR,c,decide_true,if_true])
  refine QjL (fun n hn=>by rw[List.mem_singleton.mp hn];exact h) (by show 1<=100;ac_nf) fun s' x=>?_
  simp_arith [↓Qio]
  exact⟨Qhw (by have:(numsT [v]).length<=2:=QjJ (ns:=[v]);rw[QjM];ac_nf),hQ s' x⟩
 | act b d gs=>
  obtain⟨h1,h2,h3,h4⟩:=h
  have c:cutD [D.str (Str.ofString "do"),natD b,natD d,.tup (gs.map natD)] (some 1) (some 3)=[b,d].map natD:=rfl
  (simp_arith [jJ];simp_arith [jZ,lnD,↓QjR,c,nd_,if_false])
  refine QjL (ns:=[b,d]) (QjT h1 h2) (by show 2<=100;ac_nf) fun s' x=>?_
  have n1:=QjJ (ns:=[b,d])
  have n2:=QjJ (ns:=gs)
  have n1:(numsT [b,d]).length<=4:=n1
  simp_arith [↓Qio]
  refine⟨Qhw (by rw[do_l];ac_nf),Qhw (by rw[PySem.Str.length_append,do_l,QjN];ac_nf),?_⟩
  refine QjL h4 (by ac_nf) fun s2 x2=>?_
  simp_arith [↓Qio]
  exact⟨Qhw (by rw[PySem.Str.length_append,PySem.Str.length_append,do_l,QjN];ac_nf),hQ s2 (x.trans x2)⟩
theorem QjV {l:Ln} (h:Lt8 l) (hQ:∀ s',Ext s s'->Q (.str (lnRow l)) s'):wp (jj [lnD l]) Q s:=by
 cases l with
 | settle v=>
  have e:∀ (Q:D->Sto->Prop) s,wp (strD (natD v)) Q s=Q (.str (dig v)) s:=fun Q s=>Qjj h
  (simp_arith [jj];simp_arith [jN,lnD,decide_true,if_true,↓e,↓Qio])
  exact⟨Qhw (by rw[QjM,QjQ];ac_nf),hQ s (Ext.refl _)⟩
 | act b d gs=>
  obtain⟨h1,h2,h3,h4⟩:=h
  have e1:∀ (Q:D->Sto->Prop) s,wp (strD (natD b)) Q s=Q (.str (dig b)) s:=fun Q s=>Qjj h1
  have e2:∀ (Q:D->Sto->Prop) s,wp (strD (natD d)) Q s=Q (.str (dig d)) s:=fun Q s=>Qjj h2
  have dd:∀ (Q:List D->Sto->Prop) s,wp (collect (gVar 0) tTrue (c1 strD (cVar 0)) anySt (gs.map natD) [none]) Q s=Q (gs.map fun n=>.str (dig n)) s:=fun Q s=>QjK h4
  have l:gs.length<=lim:=Qhw (by ac_nf)
  have g:∀ (ds:List D) (Q:List D->Sto->Prop),wp (getL s.length) Q (s++[MO.lst ds])=Q ds (s++[MO.lst ds]):=fun ds Q=>Qhk (by simp)
  have sm:((gs.map dig).map fun x:Str=>x.length).sum<=gs.length * 1:=by
   rw[List.map_map];exact QjH fun x _=>Nat.le_refl 1
  have n2:=QjJ (ns:=gs)
  (simp_arith [jj];simp_arith [jN,lnD,nd_,if_false,↓e1,↓e2,↓Qio,↓Qig,capt,List.length_map,l,↓dd,↓g,QjG,spl])
  simp only[PySem.Str.length_append,do_l,QjQ,spl,QjN]
  refine⟨Qhw (by ac_nf),Qhw (by ac_nf),Qhw (by ac_nf),Qhw (by ac_nf),by ac_nf,Qhw (by show _ + (numsT gs).length<=_;ac_nf),?_⟩
  have e:("do ":Str)++dig b++(" ":Str)++dig d++(" : ":Str)++PySem.Txt.join (" ":Str) (gs.map dig)=lnRow (.act b d gs):=by
   show _=("do ":Str)++(dig b++(" ":Str)++dig d)++(" : ":Str)++numsT gs
   simp only[PySem.Str.append_assoc]
   rfl
  rw[e]
  exact hQ _ ((Ext.refl _).snoc _)
theorem QjW {b:Bd}:tabD b.S b.dn b.nx b.un=.tup (upto b.S fun i=>rowD b.dn fun d=>(b.nx i d,b.un i d)):=rfl
theorem ok4 {b:Bd} (h:BdOk b):∀ i d,i < b.S->d < b.dn->(b.nx i d,b.un i d).1 < 4/\(b.nx i d,b.un i d).2 < 4:=fun i d hi hd=>by
 have:=h.1.2.2.2.2 i d hi hd
 have:=h.1.2.1
 exact⟨by show b.nx i d < 4;ac_nf,by show b.un i d < 4;ac_nf⟩
theorem QjX {b:Bd} (h:BdOk b):(tabT b).length<=76:=by
 have:=Qji (S:=b.S) (dn:=b.dn) (p:=fun s d=>(b.nx s d,b.un s d))
 have h2:b.S * (b.dn * 4 + 3)<=4 * 19:=Nat.mul_le_mul h.1.2.1 (by have:=h.1.2.2.2.1;ac_nf)
 exact Nat.le_trans this h2
theorem QjY {b:Bd} (h:BdOk b):b.st < 8:=by have:=h.1.2.1;have:=h.2;ac_nf
theorem QjZ {b:Bd} (h:BdOk b):(bdRow b).length<=90:=by
 unfold bdRow
 have:=QjX h
 simp only[PySem.Str.length_append,QjP,at_l,QjQ]
 ac_nf
theorem Qj0 {b:Bd} (h:BdOk b) (hQ:∀ s',Ext s s'->Q (.str (bdRow b)) s'):wp (jM [tabD b.S b.dn b.nx b.un,natD b.st]) Q s:=by
 have e:∀ (Q:D->Sto->Prop) s,wp (strD (natD b.st)) Q s=Q (.str (dig b.st)) s:=fun Q s=>Qjj (QjY h)
 have fs:∀ (x:Str) (Q:D->Sto->Prop) s,wp (fmtS (.str x)) Q s=(x.length<=lim/\Q (.str x) s):=fun x Q s=>by unfold fmtS;rw[wp_chk,wp_ret]
 have tl:=QjX h
 (simp_arith [jM];simp_arith [yi])
 rw[QjW]
 refine Qjl h.1.2.1 h.1.2.2.2.1 (ok4 h) fun s' x=>?_
 show wp _ _ _
 simp_arith [↓Qih,↓Qij,↓Qii,↓fs,↓e,PySem.Str.length_append,QjP,at_l,QjQ,PySem.Str.empty_append]
 have el:Str.empty.length=0:=rfl
 have tl':(tabS b.S b.dn fun i d=>(b.nx i d,b.un i d)).length<=76:=tl
 refine⟨Qhw (by ac_nf),Qhw (by ac_nf),Qhw (by ac_nf),Qhw (by ac_nf),Qhw (by ac_nf),Qhw (by ac_nf),?_⟩
 exact hQ s' x
end
open PySem (Str)
section
variable {p q:Nat}{s s1 s2:Sto}{Q:D->Sto->Prop}
theorem Qj1 {α : Type} {e : CE} {xs : List α} {g1 g2 f : α -> D} {caps : Loc} {A : List D -> Sto -> Prop} {same : Sto -> Prop} (hs : ∀ s', Ext s s' -> same s') (he : ∀ x ∈ xs, ∀ s', Ext s s' -> ∀ Q : D -> Sto -> Prop, (∀ s2, Ext s' s2 -> Q (f x) s2) -> wp (e (some (g1 x) :: some (g2 x) :: caps)) Q s') (h : ∀ s', Ext s s' -> A (xs.map f) s') :
  wp (collect (gTupD 2 (gsCons (gVar 0) (gsCons (gVar 1) gsNil))) tTrue e same (xs.map fun x=>.tup [g1 x,g2 x]) (none::none::caps)) A s:=by
 have chk:∀ {s':Sto}{R:Unit->Sto->Prop},Ext s s'->R () s'->wp (chkS same) R s':=fun x r=>by
  rw[wp_eq (show chkS same _=.ok () _ from if_pos (hs _ x))];exact r
 refine Qhr (Q:=A) (fun out ys l s'=>∃ i,ys=(xs.drop i).map (fun x=>.tup [g1 x,g2 x])/\i<=xs.length/\(∃ x y,l=x::y::caps)/\out=(xs.take i).map f/\Ext s s') (fun out l s' hZ0=>?_) (fun out d ys l s' hZ0=>?_) _ [] _ s ⟨0,by simp,Nat.zero_le _,⟨_,_,rfl⟩,rfl,Ext.refl _⟩
 ·obtain⟨i,e1,hi,_,e2,x⟩:=hZ0
  have:i=xs.length:=by
   have:=congrArg List.length e1
   simp at this;ac_nf
  subst this
  rw[e2,List.take_length]
  exact chk x (h s' x)
 ·obtain⟨i,e1,hi,⟨a,b,el⟩,e2,x⟩:=hZ0
  have hlt:i < xs.length:=by
   have:=congrArg List.length e1
   simp at this;ac_nf
  rw[List.drop_eq_getElem_cons hlt,List.map_cons]at e1
  obtain⟨e3,e4⟩:=List.cons.inj e1
  subst e3 el
  refine chk x ?_
  rw[x_gtup,x_gcons,x_gvar,x_gcons,x_gvar,x_gnil]
  refine⟨rfl,?_⟩
  rw[x_tTrue,if_pos rfl]
  refine he xs[i] (List.getElem_mem hlt) s' x _ fun s2 x2=>⟨i + 1,e4,hlt,⟨_,_,rfl⟩,?_,x.trans x2⟩
  rw[e2,List.take_succ,List.getElem?_eq_getElem hlt,List.map_append]
  rfl
theorem Qj2 {α : Type} {e : CE} {xs : List α} {g f : α -> D} {caps : Loc} {A : List D -> Sto -> Prop} {same : Sto -> Prop} (hs : ∀ s', Ext s s' -> same s') (he : ∀ x ∈ xs, ∀ s', Ext s s' -> ∀ Q : D -> Sto -> Prop, (∀ s2, Ext s' s2 -> Q (f x) s2) -> wp (e (some (g x) :: caps)) Q s') (h : ∀ s', Ext s s' -> A (xs.map f) s') :
  wp (collect (gVar 0) tTrue e same (xs.map g) (none::caps)) A s:=by
 have chk:∀ {s':Sto}{R:Unit->Sto->Prop},Ext s s'->R () s'->wp (chkS same) R s':=fun x r=>by
  rw[wp_eq (show chkS same _=.ok () _ from if_pos (hs _ x))];exact r
 refine Qhr (Q:=A) (fun out ys l s'=>∃ i,ys=(xs.drop i).map g/\i<=xs.length/\(∃ x,l=x::caps)/\out=(xs.take i).map f/\Ext s s') (fun out l s' hZ0=>?_) (fun out d ys l s' hZ0=>?_) _ [] _ s ⟨0,by simp,Nat.zero_le _,⟨_,rfl⟩,rfl,Ext.refl _⟩
 ·obtain⟨i,e1,hi,_,e2,x⟩:=hZ0
  have:i=xs.length:=by
   have:=congrArg List.length e1
   simp at this;ac_nf
  subst this
  rw[e2,List.take_length]
  exact chk x (h s' x)
 ·obtain⟨i,e1,hi,⟨a,el⟩,e2,x⟩:=hZ0
  have hlt:i < xs.length:=by
   have:=congrArg List.length e1
   simp at this;ac_nf
  rw[List.drop_eq_getElem_cons hlt,List.map_cons]at e1
  obtain⟨e3,e4⟩:=List.cons.inj e1
  subst e3 el
  refine chk x ?_
  rw[x_gvar,x_tTrue,if_pos rfl]
  refine he xs[i] (List.getElem_mem hlt) s' x _ fun s2 x2=>⟨i + 1,e4,hlt,⟨_,rfl⟩,?_,x.trans x2⟩
  rw[e2,List.take_succ,List.getElem?_eq_getElem hlt,List.map_append]
  rfl
def rowsH (h:Hs) (i:Nat):List Str:=h.boards.map bdRow++((h.hands.take i).map hdRows).flatten
theorem Qj3 {h:Hs}{i:Nat}{x:Hd} (e:h.hands[i]?=some x):rowsH h (i + 1)=rowsH h i++[hdRow x]++x.lines.map lnRow:=by
 unfold rowsH
 rw[List.take_succ,e,List.map_append,List.flatten_append]
 simp[hdRows]
theorem Qj4 {h:Hs}:rowsH h h.hands.length=rowsT h:=by unfold rowsH rowsT;rw[List.take_length]
def H8 (h:Hs):Prop:=HsOk h/\∀ x∈h.hands,x.lines.length<=8
theorem lt8 {h:Hs} (ho:H8 h) {x:Hd} (hx:x∈h.hands) {l:Ln} (hl:l∈x.lines):Lt8 l:=by
 have z:=(ho.1.2.2.2.2 x hx).2.2.2 l hl
 have l8:=ho.2 x hx
 cases l with
 | settle v=>
  have:v < 2:=z
  show v < 8
  ac_nf
 | act b d gs=>
  obtain⟨bd,g1,g2,g3,g4⟩:=z
  have hb:=(List.getElem?_eq_some_iff.mp g1).1
  have hb7:=ho.1.1
  obtain⟨ok,_⟩:=ho.1.2.1 bd (List.mem_of_getElem? g1)
  have d4:=ok.2.2.2.1
  have hmx:mx (bd.un · d) bd.S<=3:=Qh5 fun i hi=>by have:=(ok.2.2.2.2 i d hi g2).2;ac_nf
  exact⟨by ac_nf,by ac_nf,by ac_nf,fun g hg=>by have:=g4 g hg;ac_nf⟩
theorem b8 {h:Hs} (ho:H8 h) {x:Hd} (hx:x∈h.hands):x.b0 < 8/\x.b1 < 8:=by
 obtain⟨d1,d2,_⟩:=ho.1.2.2.2.2 x hx
 have:=ho.2 x hx
 ac_nf
theorem ln_l {l:Ln} (h:Lt8 l):(lnRow l).length<=30:=by
 cases l with
 | settle v=>
  have:(numsT [v]).length<=2:=QjJ (ns:=[v])
  show (("settle ":Str)++numsT [v]).length<=30
  rw[PySem.Str.length_append,QjM];ac_nf
 | act b d gs=>
  have n1:(numsT [b,d]).length<=4:=QjJ (ns:=[b,d])
  have n2:=QjJ (ns:=gs)
  have:=h.2.2.1
  show (("do ":Str)++numsT [b,d]++(" : ":Str)++numsT gs).length<=30
  simp only[PySem.Str.length_append,do_l,QjN];ac_nf
theorem hd_l {x:Hd}:(hdRow x).length<=9:=by
 have n1:(numsT [x.b0,x.b1]).length<=4:=QjJ (ns:=[x.b0,x.b1])
 unfold hdRow
 rw[PySem.Str.length_append,QjO];ac_nf
theorem rowsT_mem {h:Hs}{r:Str} (hr:r∈rowsT h):(∃ b∈h.boards,r=bdRow b)\/∃ x∈h.hands,r=hdRow x\/∃ l∈x.lines,r=lnRow l:=by
 unfold rowsT at hr
 rcases List.mem_append.mp hr with z | z
 ·obtain⟨b,hb,e⟩:=List.mem_map.mp z
  exact .inl ⟨b,hb,e.symm⟩
 ·obtain⟨l,hl,hz⟩:=List.mem_flatten.mp z
  obtain⟨x,hx,rfl⟩:=List.mem_map.mp hl
  rcases List.mem_cons.mp hz with e | e
  ·exact .inr ⟨x,hx,.inl e⟩
  ·obtain⟨y,hy,e⟩:=List.mem_map.mp e
   exact .inr ⟨x,hx,.inr ⟨y,hy,e.symm⟩⟩
theorem Qj5 {h:Hs} (ho:H8 h):∀ r∈rowsT h,r.length<=90:=fun r hr=>by
 rcases rowsT_mem hr with ⟨b,hb,e⟩ | ⟨x,hx,e | ⟨l,hl,e⟩⟩
 ·rw[e];exact QjZ (ho.1.2.1 b hb)
 ·rw[e];exact Nat.le_trans hd_l (by ac_nf)
 ·rw[e];exact Nat.le_trans (ln_l (lt8 ho hx hl)) (by ac_nf)
theorem Qj6 {h:Hs} (ho:H8 h):∀ i,i<=h.hands.length->(rowsH h i).length<=7 + i * 9
 | 0,_=>by
  unfold rowsH
  have:=ho.1.1
  simp
  ac_nf
 | i + 1,hi=>by
  have e:h.hands[i]?=some h.hands[i]:=List.getElem?_eq_getElem (by ac_nf)
  rw[Qj3 e]
  have:=Qj6 ho i (by ac_nf)
  have:=ho.2 h.hands[i] (List.getElem_mem _)
  simp only[List.length_append,List.length_map,List.length_singleton]
  ac_nf
theorem Qj7 {h:Hs} (ho:H8 h):(rowsT h).length<=34:=by
 rw[<- Qj4]
 have:=Qj6 ho _ (Nat.le_refl _)
 have:=ho.1.2.2.2.1
 ac_nf
end
open PySem (Str)
section
variable {p q:Nat}{s s1 s2:Sto}{Q:D->Sto->Prop}
theorem Qj8 {a b : CE} {l : Loc} : wp (cExtend a b l) Q s = wp (a l) (fun x s1 => match x with
  | .ref n=>wp (b l) (fun y s2=>match y with
   | .ref m=>wp (getL n) (fun xs s3=>wp (getL m) (fun ys s4=>xs.length + ys.length<=lim/\wp (putL n (xs++ys)) (fun _ s5=>Q .non s5) s4) s3) s2
   | _=>False) s1
  | _=>False) s:=by
 unfold cExtend
 rw[Qhj];congr 1;funext x s1
 cases x with
 | ref n=>
  dsimp only
  rw[Qhj];congr 1;funext y s2
  cases y with
  | ref m=>
   dsimp only
   rw[Qhj];congr 1;funext xs s3
   rw[Qhj];congr 1;funext ys s4
   rw[wp_chk,Qhj]
   congr 2;funext u s5
   exact wp_ret
  | _=>exact wp_no rfl
 | _=>exact wp_no rfl
theorem Qj9 {h:Hs} (ho:H8 h) (hQ:∀ s',Q (.str (textT h)) s'):wp (jB [hsD h]) Q s:=by
 have nl:(("\n":Str)).length=1:=by nofun
 have lb:h.boards.length<=lim:=Qhw (by have:=ho.1.1;ac_nf)
 unfold hsD
 (simp_arith [jB];simp_arith [j9,capt,List.length_map,lb])
 refine Qj1 (g1:=fun b:Bd=>tabD b.S b.dn b.nx b.un) (g2:=fun b:Bd=>natD b.st) (f:=fun b:Bd=>.str (bdRow b)) (fun _ _=>trivial) (fun b hb s' x Q hq=>?_) fun t0 x0=>?_
 ·simp_arith []
  exact Qj0 (ho.1.2.1 b hb) hq
 simp_arith []
 refine Qhy (fun i l s'=>∃ y2 y3:Option D,l=[some (.tup [.tup (h.boards.map bdD),.tup (h.hands.map hdD)]),some (.ref t0.length),y2,y3]/\s'[t0.length]?=some (.lst ((rowsH h i).map D.str))) (fun _ _ _ _=>trivial) ⟨none,none,rfl,?_⟩ (fun i d l s' hd hZ0=>?_) (fun l s' hZ0=>?_)
 ·rw[Qia]
  unfold rowsH
  simp
 ·obtain⟨y2,y3,el,g⟩:=hZ0
  subst el
  rw[List.getElem?_map]at hd
  cases hx:h.hands[i]? with
  | none=>rw[hx]at hd;cases hd
  | some x=>
   rw[hx]at hd
   cases hd
   have hm:=List.mem_of_getElem? hx
   have hix:=(List.getElem?_eq_some_iff.mp hx).1
   have ln:=Qj6 ho i (by ac_nf)
   have h3:=ho.1.2.2.2.1
   have l8:=ho.2 x hm
   obtain⟨b0,b1⟩:=b8 ho hm
   have eb:D.tup [natD x.b0,natD x.b1]=.tup ([x.b0,x.b1].map natD):=rfl
   unfold hdD
   rw[eb]
   simp_arith []
   refine QjL (QjT b0 b1) (by show 2<=100;ac_nf) fun u xu=>?_
   have gu:=xu.at_ g
   have q1:∀ Q,wp (getL t0.length) Q u=Q ((rowsH h i).map D.str) u:=fun Q=>Qhk gu
   have q2:∀ es Q,wp (putL t0.length es) Q u=Q () (u.set t0.length (.lst es)):=fun es Q=>Qhl gu
   have n1:(numsT [x.b0,x.b1]).length<=4:=QjJ (ns:=[x.b0,x.b1])
   have lx:x.lines.length<=lim:=Qhw (by ac_nf)
   simp_arith [↓Qio,↓q1,↓q2,List.length_map,↓Qj8,capt,lx]
   refine⟨Qhw (by rw[QjO];ac_nf),Qhx (by ac_nf),?_⟩
   refine Qj2 (g:=lnD) (f:=fun l=>.str (lnRow l)) (fun _ _=>trivial) (fun l hl v xv Q hq=>?_) fun v xv=>?_
   ·simp_arith []
    exact QjU (lt8 ho hm hl) hq
   have gv:=xv.at_ (List.getElem?_set_self (QiT gu):(u.set t0.length (MO.lst ((rowsH h i).map D.str++[.str (("hand ":Str)++numsT [x.b0,x.b1])])))[t0.length]?=_)
   have lv:=QiT gv
   have q3:∀ (A:List D) Q,wp (getL t0.length) Q (v++[MO.lst A])=Q ((rowsH h i).map D.str++[.str (("hand ":Str)++numsT [x.b0,x.b1])]) (v++[MO.lst A]):=fun A Q=>Qhk (Qib gv)
   have q4:∀ (A:List D) Q,wp (getL v.length) Q (v++[MO.lst A])=Q A (v++[MO.lst A]):=fun A Q=>Qhk Qia
   have q5:∀ (A:List D) es Q,wp (putL t0.length es) Q (v++[MO.lst A])=Q () ((v++[MO.lst A]).set t0.length (.lst es)):=fun A es Q=>Qhl (Qib gv)
   simp_arith [↓q3,↓q4,↓q5]
   refine⟨Qhw (by simp;ac_nf),_,_,rfl,?_⟩
   rw[List.getElem?_set_self (by simp;ac_nf),Qj3 hx]
   simp[hdRow,List.map_map,Function.comp_def]
 ·obtain⟨y2,y3,el,g⟩:=hZ0
  subst el
  rw[List.length_map,Qj4]at g
  have q1:∀ Q,wp (getL t0.length) Q s'=Q ((rowsT h).map D.str) s':=fun Q=>Qhk g
  have es:strsOf ((rowsT h).map D.str)=some (rowsT h):=by
   have:=QjG (f:=fun x:Str=>x) (xs:=rowsT h)
   simpa using this
  have sm:=QjH (f:=fun x:Str=>x.length) (Qj5 ho)
  have rn:=Qj7 ho
  have:(rowsT h).length * 90<=34 * 90:=Nat.mul_le_mul_right _ rn
  simp_arith [↓Qig,↓q1,es,nl]
  exact⟨by ac_nf,hQ s'⟩
theorem Qka {h:Hs} (ho:H8 h) (hQ:∀ n s',s'[n]?=some (.lst ((rowsT h).map D.str))->Q (.ref n) s'):wp (jP [hsD h]) Q s:=by
 have l0:∀ n:Nat,n<=100->n<=lim:=fun n hn=>Qhw (by ac_nf)
 unfold hsD
 (simp_arith [jP];simp_arith [ym,Nat.zero_le])
 refine Qhy (fun i l s'=>∃ y2 y3 y4:Option D,l=[some (.tup [.tup (h.boards.map bdD),.tup (h.hands.map hdD)]),some (.ref s.length),y2,y3,y4,none,none]/\s'[s.length]?=some (.lst ((h.boards.take i).map fun b=>.str (bdRow b)))) (fun _ _ _ _=>trivial) ⟨none,none,none,rfl,Qia⟩ (fun i d l s' hd hZ0=>?_) (fun l s' hZ0=>?_)
 ·obtain⟨y2,y3,y4,el,g⟩:=hZ0
  subst el
  rw[List.getElem?_map]at hd
  cases hx:h.boards[i]? with
  | none=>rw[hx]at hd;cases hd
  | some b=>
   rw[hx]at hd
   cases hd
   have hm:=List.mem_of_getElem? hx
   have hix:=(List.getElem?_eq_some_iff.mp hx).1
   have hb:=ho.1.2.1 b hm
   have S4:=hb.1.2.1
   have d4:=hb.1.2.2.2.1
   have b7:=ho.1.1
   have st8:=QjY hb
   have e:∀ (Q:D->Sto->Prop) s,wp (strD (natD b.st)) Q s=Q (.str (dig b.st)) s:=fun Q s=>Qjj st8
   unfold bdD
   rw[QjW]
   simp_arith [capt,QhM]
   refine⟨l0 _ (by ac_nf),?_⟩
   refine Qh0 (caps:=[]) (fun i out u=>out=upto i (fun i=>D.str (rowS b.dn fun d=>(b.nx i d,b.un i d)))/\Ext s' u) (fun _ _ _ _=>trivial) ⟨rfl,Ext.refl _⟩ (fun i out u hi hW=>?_) (fun out u hW=>?_)
   ·obtain⟨a1,a2⟩:=hW
    unfold rowD
    simp_arith [↓Qig,QhM,capt]
    refine⟨l0 _ (by ac_nf),?_⟩
    rw[Qh2 (caps:=[]) (f:=fun d=>.str (pairS (b.nx i d) (b.un i d))) trivial fun d hd' Q=>?_]
    ·have g1:∀ (ds:List D) Q,wp (getL u.length) Q (u++[MO.lst ds])=Q ds (u++[MO.lst ds]):=fun ds Q=>Qhk (by simp)
     have h1:(upto b.dn fun d=>(pairS (b.nx i d) (b.un i d)).length).sum<=b.dn * 3:=Qjg fun i hi=>Nat.le_refl 3
     simp_arith [↓g1,Qis,QhQ,QhM,spl]
     exact⟨by ac_nf,by rw[a1,QhN];rfl,a2.snoc _⟩
    ·obtain⟨h1,h2⟩:=ok4 hb i d hi hd'
     have e1:∀ Q s,wp (strD (.int (b.nx i d:Nat))) Q s=Q (.str (dig (b.nx i d))) s:=fun Q s=>Qjj (by have:b.nx i d < 4:=h1;ac_nf)
     have e2:∀ Q s,wp (strD (.int (b.un i d:Nat))) Q s=Q (.str (dig (b.un i d))) s:=fun Q s=>Qjj (by have:b.un i d < 4:=h2;ac_nf)
     simp_arith [↓e1,↓e2,↓Qio,PySem.Str.length_append,QjQ,dotl]
     have ep:dig (b.nx i d)++(".":Str)++dig (b.un i d)=pairS (b.nx i d) (b.un i d):=by
      rw[<- Qje,PySem.Str.empty_append]
     rw[ep]
     exact propext ⟨fun h=>h.2.2,fun h=>⟨l0 _ (by ac_nf),l0 _ (by ac_nf),h⟩⟩
   ·obtain⟨a1,a2⟩:=hW
    subst a1
    have gu:=a2.at_ g
    have g1:∀ (ds:List D) Q,wp (getL u.length) Q (u++[MO.lst ds])=Q ds (u++[MO.lst ds]):=fun ds Q=>Qhk (by simp)
    have q1:∀ (A:List D) Q,wp (getL s.length) Q (u++[MO.lst A])=Q ((h.boards.take i).map fun b=>.str (bdRow b)) (u++[MO.lst A]):=fun A Q=>Qhk (Qib gu)
    have q2:∀ (A:List D) es Q,wp (putL s.length es) Q (u++[MO.lst A])=Q () ((u++[MO.lst A]).set s.length (.lst es)):=fun A es Q=>Qhl (Qib gu)
    have h1:(upto b.S fun s=>(rowS b.dn fun d=>(b.nx s d,b.un s d)).length).sum<=b.S * 16:=Qjg fun i hi=>by have:=Qjh (dn:=b.dn) (p:=fun d=>(b.nx i d,b.un i d));ac_nf
    have tl:(PySem.Txt.join (" / ":Str) (upto b.S fun s=>rowS b.dn fun d=>(b.nx s d,b.un s d))).length<=76:=QjX hb
    simp_arith [↓Qig,↓g1,↓q1,↓q2,Qis,QhQ,QhM,sll,↓Qio,↓e,PySem.Str.length_append,QjP,at_l,QjQ,List.length_map]
    refine⟨by ac_nf,l0 _ (by ac_nf),l0 _ (by ac_nf),l0 _ (by ac_nf),Qhx (by rw[List.length_take];ac_nf),_,_,_,rfl,?_⟩
    rw[List.getElem?_set_self (by have:=QiT gu;simp;ac_nf),List.take_succ,hx,List.map_append]
    rfl
 ·obtain⟨y2,y3,y4,el,g⟩:=hZ0
  subst el
  rw[List.length_map,List.take_length]at g
  simp_arith []
  refine Qhy (fun i l s'=>∃ (n:Nat) (y2 y3 y4 y5 y6:Option D),l=[some (.tup [.tup (h.boards.map bdD),.tup (h.hands.map hdD)]),some (.ref n),y2,y3,y4,y5,y6]/\s'[n]?=some (.lst ((rowsH h i).map D.str))) (fun _ _ _ _=>trivial) ⟨s.length,y2,y3,y4,none,none,rfl,?_⟩ (fun i d l s' hd hZ0=>?_) (fun l s' hZ0=>?_)
  ·rw[g];unfold rowsH;simp
  ·obtain⟨n,y2,y3,y4,y5,y6,el,g⟩:=hZ0
   subst el
   rw[List.getElem?_map]at hd
   cases hx:h.hands[i]? with
   | none=>rw[hx]at hd;cases hd
   | some x=>
    rw[hx]at hd
    cases hd
    have hm:=List.mem_of_getElem? hx
    have hix:=(List.getElem?_eq_some_iff.mp hx).1
    have ln:=Qj6 ho i (by ac_nf)
    have h3:=ho.1.2.2.2.1
    have l8:=ho.2 x hm
    obtain⟨b0,b1⟩:=b8 ho hm
    have e1:∀ (Q:D->Sto->Prop) s,wp (strD (natD x.b0)) Q s=Q (.str (dig x.b0)) s:=fun Q s=>Qjj b0
    have e2:∀ (Q:D->Sto->Prop) s,wp (strD (natD x.b1)) Q s=Q (.str (dig x.b1)) s:=fun Q s=>Qjj b1
    have q1:∀ Q,wp (getL n) Q s'=Q ((rowsH h i).map D.str) s':=fun Q=>Qhk g
    have q2:∀ es Q,wp (putL n es) Q s'=Q () (s'.set n (.lst es)):=fun es Q=>Qhl g
    unfold hdD
    simp_arith [↓e1,↓e2,↓Qio,↓q1,↓q2,List.length_map,PySem.Str.length_append,QjO,QjQ,spl,capt]
    refine⟨l0 _ (by ac_nf),l0 _ (by ac_nf),l0 _ (by ac_nf),Qhx (by ac_nf),l0 _ (by ac_nf),?_⟩
    refine Qj2 (g:=lnD) (f:=fun l=>.str (lnRow l)) (fun _ _=>trivial) (fun l hl v xv Q hq=>?_) fun v xv=>?_
    ·simp_arith []
     exact QjV (lt8 ho hm hl) hq
    have gv:=xv.at_ (List.getElem?_set_self (QiT g):(s'.set n (MO.lst ((rowsH h i).map D.str++[.str (("hand ":Str)++dig x.b0++(" ":Str)++dig x.b1)])))[n]?=_)
    have ad:∀ (A:List D) (Q:D->Sto->Prop),wp (addD (.ref n) (.ref v.length)) Q (v++[MO.lst A])=(((rowsH h i).map D.str++[D.str (("hand ":Str)++dig x.b0++(" ":Str)++dig x.b1)]).length + A.length<=lim/\Q (.ref (v++[MO.lst A]).length) (v++[MO.lst A]++[MO.lst (((rowsH h i).map D.str++[D.str (("hand ":Str)++dig x.b0++(" ":Str)++dig x.b1)])++A)])):=fun A Q=>QhC (Qib gv) Qia
    simp_arith [↓ad]
    refine⟨Qhw (by simp;ac_nf),_,_,_,_,_,_,rfl,?_⟩
    rw[Qia,Qj3 hx]
    have eh:("hand ":Str)++dig x.b0++(" ":Str)++dig x.b1=hdRow x:=by
     unfold hdRow;rw[QjS];simp only[PySem.Str.append_assoc]
    rw[eh]
    simp[List.map_map,Function.comp_def]
  ·obtain⟨n,y2,y3,y4,y5,y6,el,g⟩:=hZ0
   subst el
   rw[List.length_map,Qj4]at g
   simp_arith []
   exact hQ n s' g
end
open PySem (Str)
open PySem.StrLaws PySem.Builtin.Str
theorem Qkb {x y:Str} (h:x.cps.toList=y.cps.toList):x=y:=PySem.Str.ext' (Array.toList_inj.mp h)
theorem Qkc {x y:Str}:(x++y).cps.toList=x.cps.toList++y.cps.toList:=by rw[PySem.Str.cps_append,Array.toList_append]
theorem sub0 {a b:Str}:strSub (a++b) 0 a.length=a:=Qkb (by
 rw[strSub_toList,Qkc,List.drop_zero,Nat.sub_zero,<- Qgw,List.take_left])
theorem sub1 {a b:Str}:strSub (a++b) a.length (a++b).length=b:=Qkb (by
 rw[strSub_toList,Qkc,<- Qgw a,List.drop_left,PySem.Str.length_append,<- Qgw a,Nat.add_sub_cancel_left,<- Qgw b,List.take_length])
theorem Qkd {a y b:Str}:At (a++y++b) y (a++y++b).length a.length:=by
 refine⟨by simp only[PySem.Str.length_append];ac_nf,?_⟩
 rw[subAt_eq,beq_iff_eq,Qkc,Qkc,List.append_assoc,<- Qgw a,List.drop_left,<- Qgw y,List.take_left]
theorem Qke {a y b:Str} (no:∀ k,k < a.length->¬ At (a++y++b) y (a++y++b).length k):PySem.Txt.partition (a++y++b) y=(a,y,b):=by
 unfold PySem.Txt.partition
 rcases occ_head (a++y++b) y 1 (Nat.le_refl _) with ⟨_,h⟩ | ⟨i,r,e,h1,h2⟩
 ·exact absurd Qkd (h _)
 ·have ei : i = a.length := by
    rcases Nat.lt_trichotomy i a.length with z | z | z
    ·exact absurd h1 (no i z)
    ·exact z
    ·exact absurd Qkd (h2 _ z)
  rw[e,ei]
  show (strSub (a++y++b) 0 a.length,y,strSub (a++y++b) (a.length + y.length) (a++y++b).length)=(a,y,b)
  have e1:strSub (a++y++b) 0 a.length=a:=by rw[PySem.Str.append_assoc];exact sub0
  have e2:strSub (a++y++b) (a.length + y.length) (a++y++b).length=b:=by rw[<- PySem.Str.length_append];exact sub1
  rw[e1,e2]
theorem Qkf {a y b:Str} (no:∀ k,a.length < k->¬ At (a++y++b) y (a++y++b).length k):PySem.Txt.rpartition (a++y++b) y=(a,y,b):=by
 unfold PySem.Txt.rpartition
 rcases last_spec (a++y++b) y with ⟨_,h⟩ | ⟨i,e,h1,h2⟩
 ·exact absurd Qkd (h _)
 ·have ei : i = a.length := by
    rcases Nat.lt_trichotomy i a.length with z | z | z
    ·exact absurd Qkd (h2 _ z)
    ·exact z
    ·exact absurd h1 (no i z)
  rw[e,ei]
  show (strSub (a++y++b) 0 a.length,y,strSub (a++y++b) (a.length + y.length) (a++y++b).length)=(a,y,b)
  have e1:strSub (a++y++b) 0 a.length=a:=by rw[PySem.Str.append_assoc];exact sub0
  have e2:strSub (a++y++b) (a.length + y.length) (a++y++b).length=b:=by rw[<- PySem.Str.length_append];exact sub1
  rw[e1,e2]
theorem At.first {x y:Str}{k c:Nat}{r:List Nat} (h:At x y x.length k) (hy:y.cps.toList=c::r):x.cps.toList[k]?=some c:=by
 have e:=h.2
 rw[subAt_eq,beq_iff_eq]at e
 have l:0 < y.length:=by rw[<- Qgw,hy];simp
 have e2:((x.cps.toList.drop k).take y.length)[0]?=some c:=by rw[e,hy];rfl
 rw[List.getElem?_take_of_lt l,List.getElem?_drop,Nat.add_zero]at e2
 exact e2
theorem Qkg:("board ":Str)=("board":Str)++(" ":Str):=by nofun
theorem Qkh:("board":Str).cps.toList=[98,111,97,114,100]:=by nofun
theorem atL:(" at ":Str).cps.toList=[32,97,116,32]:=by nofun
theorem spL:(" ":Str).cps.toList=[32]:=by nofun
theorem Qki {b:Bd}:PySem.Txt.rpartition (bdRow b) (" at ":Str)=(("board ":Str)++tabT b,(" at ":Str),dig b.st):=by
 refine Qkf fun k hk hA=>?_
 have h1:=hA.1
 simp only[PySem.Str.length_append,at_l,QjQ]at h1 hk
 have ek:k=(("board ":Str)++tabT b).length + 1:=by simp only[PySem.Str.length_append];ac_nf
 have f:=At.first hA atL
 rw[Qkc,Qkc,ek,<- Qgw,List.append_assoc,List.getElem?_append_right (by ac_nf),atL]at f
 have:(((("board ":Str)++tabT b).cps.toList.length + 1) - (("board ":Str)++tabT b).cps.toList.length)=1:=by ac_nf
 rw[this]at f
 exact absurd (show some 97=some 32 from f) (by decide)
theorem Qkj {b:Bd}:PySem.Txt.partition (("board ":Str)++tabT b) (" ":Str)=(("board":Str),(" ":Str),tabT b):=by
 rw[Qkg]
 refine Qke fun k hk hA=>?_
 have f:=At.first hA spL
 have hk5:k < 5:=by rw[<- Qgw,Qkh]at hk;exact hk
 rw[Qkc,Qkc,List.append_assoc,Qkh,List.getElem?_append_left (by simpa using hk5)]at f
 have:∀ k,k < 5->([98,111,97,114,100]:List Nat)[k]?≠some 32:=by decide
 exact this k hk5 f
theorem Qkk {b:Bd}:PySem.Txt.startswith (bdRow b) ("board ":Str)=true:=by
 unfold PySem.Txt.startswith bdRow
 rw[Bool.and_eq_true]
 refine⟨decide_eq_true (by simp only[PySem.Str.length_append];ac_nf),?_⟩
 rw[subAt_eq,beq_iff_eq,Qkc,Qkc,Qkc,List.drop_zero,List.append_assoc,List.append_assoc,<- Qgw,List.take_left]
theorem Qkl:("hand ":Str).cps.toList=[104,97,110,100,32]:=by nofun
theorem Qkm {h:Hd}:PySem.Txt.startswith (hdRow h) ("board ":Str)=false:=by
 unfold PySem.Txt.startswith hdRow
 rw[Bool.and_eq_false_iff]
 refine .inr ?_
 rw[subAt_eq,Qkc,Qkl,List.drop_zero]
 have e:("board ":Str).cps.toList=[98,111,97,114,100,32]:=by nofun
 rw[e,QjP]
 rfl
def No (c:Nat) (x:Str):Prop:=c∉x.cps.toList
theorem No.app {c:Nat}{x y:Str} (h:No c x) (k:No c y):No c (x++y):=fun z=>by
 rw[Qkc]at z
 rcases List.mem_append.mp z with z | z
 ·exact h z
 ·exact k z
theorem No.join {c:Nat}{y:Str}{xs:List Str} (hy:No c y) (h:∀ x∈xs,No c x):No c (PySem.Txt.join y xs):=fun z=>by
 have z:c∈(PySem.Builtin.Str.glued y xs).cps.toList:=z
 rw[PySem.StrLaws.glued_eq_join]at z
 rcases mem_join z with z | ⟨x,hx,z⟩
 ·exact hy z
 ·exact h x hx z
theorem No.dig {c n:Nat} (h:c < 48):No c (dig n):=fun z=>by
 have:c=48 + n:=by simpa [MM.dig] using z
 ac_nf
theorem Qkn {c:Nat}{x:Str} (h:x.cps.toList.contains c=false):No c x:=fun z=>by
 rw[List.contains_iff_mem.mpr z]at h;cases h
theorem No.nums {c:Nat} (h:c < 32) (ns:List Nat):No c (numsT ns):=No.join (fun z=>by rw[spL]at z;simp at z;ac_nf) fun x hx=>by
 obtain⟨n,_,rfl⟩:=List.mem_map.mp hx
 exact No.dig (by ac_nf)
theorem No.tab {b:Bd}:No 10 (tabT b):=by
 unfold tabT tabS
 refine No.join (Qkn (by nofun)) fun x hx=>?_
 obtain⟨i,_,rfl⟩:=Qjr hx
 refine No.join (Qkn (by nofun)) fun y hy=>?_
 obtain⟨j,_,rfl⟩:=Qjr hy
 intro z
 simp[pairS]at z
 ac_nf
theorem Qko {h:Hs}:∀ r∈rowsT h,No 10 r:=fun r hr=>by
 rcases rowsT_mem hr with ⟨b,hb,e⟩ | ⟨x,hx,e | ⟨l,hl,e⟩⟩
 ·rw[e];exact (((Qkn (by nofun)).app No.tab).app (Qkn (by nofun))).app (No.dig (by ac_nf))
 ·rw[e];exact (Qkn (by nofun)).app (No.nums (by ac_nf) _)
 ·rw[e]
  cases l with
  | settle v=>exact (Qkn (by nofun)).app (No.nums (by ac_nf) _)
  | act b d gs=>exact (((Qkn (by nofun)).app (No.nums (by ac_nf) _)).app (Qkn (by nofun))).app (No.nums (by ac_nf) _)
theorem Qkp:("\n":Str)=⟨#[10]⟩:=by nofun
theorem Qkq:Mrk ("\n":Str) 10 0:=by
 rw[Qkp]
 exact⟨by decide,rfl,(fun j h=>by
  cases j with
  | zero=>rfl
  | succ j=>cases h),by nofun⟩
theorem Qkr {h:Hs} (ho:H8 h):rowsT h≠[]:=fun e=>by
 have h2:=ho.1.2.2.1
 unfold rowsT at e
 have e2:=(List.append_eq_nil_iff.mp e).2
 cases hh:h.hands with
 | nil=>rw[hh]at h2;simp at h2
 | cons x xs=>rw[hh]at e2;cases e2
theorem Qks {h:Hs} (ho:H8 h):PySem.Txt.split (textT h) ("\n":Str)=rowsT h:=Qgz Qkq (Qkr ho) Qko
end My
namespace My
open MM
open PySem (Str)
theorem Qkt {y x:Str}:∀ {xs:List Str},xs≠[]->PySem.Txt.join y (x::xs)=x++y++PySem.Txt.join y xs
 | [],h=>absurd rfl h
 | z::xs,_=>by
  show PySem.Builtin.Str.glued y (x::z::xs)=x++y++PySem.Builtin.Str.glued y (z::xs)
  rw[PySem.StrLaws.glued_eq_join,PySem.StrLaws.glued_eq_join]
  rfl
def hdW (h:Hd):List Str:=("hand":Str)::[h.b0,h.b1].map dig
def lnW:Ln->List Str
 | .settle v=>("settle":Str)::[v].map dig
 | .act b d gs=>("do":Str)::dig b::dig d::(":":Str)::gs.map dig
theorem Qku:("hand ":Str)=("hand":Str)++(" ":Str):=by nofun
theorem Qkv:("settle ":Str)=("settle":Str)++(" ":Str):=by nofun
theorem Qkw:("do ":Str)=("do":Str)++(" ":Str):=by nofun
theorem Qkx:(" : ":Str)=(" ":Str)++(":":Str)++(" ":Str):=by nofun
theorem Qky {h:Hd}:hdRow h=PySem.Txt.join (" ":Str) (hdW h):=by
 unfold hdRow hdW
 rw[Qkt (by simp),Qku]
 rfl
theorem Qkz {l:Ln} (h:∀ b d gs,l=.act b d gs->gs≠[]):lnRow l=PySem.Txt.join (" ":Str) (lnW l):=by
 cases l with
 | settle v=>
  show ("settle ":Str)++numsT [v]=PySem.Txt.join (" ":Str) (("settle":Str)::[v].map dig)
  rw[Qkt (by simp),Qkv]
  rfl
 | act b d gs=>
  have hg:=h b d gs rfl
  show ("do ":Str)++numsT [b,d]++(" : ":Str)++numsT gs=PySem.Txt.join (" ":Str) (("do":Str)::dig b::dig d::(":":Str)::gs.map dig)
  rw[Qkt (by simp),Qkt (by simp),Qkt (by simp),Qkt (by simpa using hg),Qkw,Qkx,QjS]
  unfold numsT
  simp only[PySem.Str.append_assoc]
theorem QkA {n:Nat}:No 32 (dig n):=No.dig (by ac_nf)
theorem QkB {h:Hd}:PySem.Txt.split (hdRow h) (" ":Str)=hdW h:=by
 rw[Qky]
 refine Qgz Qjn (by unfold hdW;simp) fun x hx=>?_
 unfold hdW at hx
 rcases List.mem_cons.mp hx with e | e
 ·rw[e];exact Qkn (by nofun)
 ·obtain⟨n,_,rfl⟩:=List.mem_map.mp e
  exact QkA
theorem QkC {l:Ln} (h:∀ b d gs,l=.act b d gs->gs≠[]):PySem.Txt.split (lnRow l) (" ":Str)=lnW l:=by
 rw[Qkz h]
 refine Qgz Qjn (by cases l<;>simp[lnW]) fun x hx=>?_
 cases l with
 | settle v=>
  rcases List.mem_cons.mp hx with e | e
  ·rw[e];exact Qkn (by nofun)
  ·obtain⟨n,_,rfl⟩:=List.mem_map.mp e
   exact QkA
 | act b d gs=>
  rcases List.mem_cons.mp hx with e | e
  ·rw[e];exact Qkn (by nofun)
  rcases List.mem_cons.mp e with e | e
  ·rw[e];exact QkA
  rcases List.mem_cons.mp e with e | e
  ·rw[e];exact QkA
  rcases List.mem_cons.mp e with e | e
  ·rw[e];exact Qkn (by nofun)
  ·obtain⟨n,_,rfl⟩:=List.mem_map.mp e
   exact QkA
section
variable {p q:Nat}{s s1 s2:Sto}{Q:D->Sto->Prop}
theorem QkD:∀ {ns:List Nat},((ns.map natD).all flatD)=true/\((ns.map natD).any fun d=>eqFl d .non)=false
 | []=>⟨rfl,rfl⟩
 | n::ns=>by
  obtain⟨a,b⟩:=QkD (ns:=ns)
  rw[List.map_cons,List.all_cons,List.any_cons,a,b]
  exact⟨rfl,rfl⟩
theorem QkE {ns:List Nat}{a:Int}{n:Nat} (h:∀ x∈ns,x < 8) (hl:ns.length<=100) (hg:s[n]?=some (.lst (ns.map fun x=>D.str (dig x)))):wp (jb [.int a,.ref n]) Q s=Q (.tup (ns.map natD)) s:=by
 have l:ns.length<=lim:=Qhw (by ac_nf)
 have g:∀ Q,wp (getL n) Q s=Q (ns.map fun x=>D.str (dig x)) s:=fun Q=>Qhk hg
 have c:∀ Q,wp (collect (gVar 0) tTrue (cCall jc (cCons (cVar 0) cNil)) (sameL n (ns.map fun x=>D.str (dig x))) (ns.map fun x=>D.str (dig x)) [none]) Q s=Q (ns.map natD) s:=fun Q=>QjF hg fun x hx Q=>by
  have r:∀ (Q:D->Sto->Prop) s,wp (jc [.str (dig x)]) Q s=Q (.int (x:Nat)) s:=fun Q s=>Qjx (h x hx)
  simp_arith [↓r]
  rfl
 have i1:∀ (Q:D->Sto->Prop) s,wp (inL .non (ns.map natD)) Q s=Q (.bl false) s:=fun Q s=>by
  unfold inL
  rw[wp_chk,wp_ret,QkD.1,QkD.2]
  exact propext ⟨fun h=>h.2,fun h=>⟨⟨rfl,rfl⟩,h⟩⟩
 apply QhB
 (simp_arith [jb];simp_arith [jW,↓g,capt,List.length_map,l,↓c,↓i1])
theorem QkF {ds:List D}{i:Nat} (h:i<=ds.length):cutD ds (some (i:Int)) none=ds.drop i:=by
 unfold cutD sIx
 have:(if (i:Int) < 0 then ((i:Int) + (ds.length:Int)).toNat else min (i:Int).toNat ds.length)=i:=by rw[if_neg (by ac_nf)];ac_nf
 simp only[this]
 exact List.take_of_length_le (by rw[List.length_drop];exact Nat.le_refl _)
theorem QkG {b:Bd}{a:Int} (h:BdOk b) (hQ:∀ s',Ext s s'->Q (bdD b) s'):wp (jC [.int a,.str (bdRow b)]) Q s:=by
 have l1:1<=lim:=Qhw (by ac_nf)
 have l2:2<=lim:=Qhw (by ac_nf)
 have rl:=QjZ h
 have tl:=QjX h
 have pr : ∀ (f : Str -> Str -> Str × Str × Str) (a b : CE) (l : Loc) (Q : D -> Sto -> Prop) s, wp (cPart f a b l) Q s = wp (a l) (fun x s1 => match x with
   | .str x=>wp (b l) (fun y s2=>match y with
    | .str y=>((y.length == 0)=false/\x.length<=lim)/\Q (tri (f x y)) s2
    | _=>False) s1
   | _=>False) s:=fun f a b l Q s=>by
  unfold cPart;rw[Qhj];congr 1;funext x s1
  cases x with
  | str x=>
   dsimp only
   rw[Qhj];congr 1;funext y s2
   cases y with
   | str y=>dsimp only;rw[wp_chk,wp_ret]
   | _=>exact wp_no rfl
  | _=>exact wp_no rfl
 have e1:tri (PySem.Txt.rpartition (bdRow b) (" at ":Str))=.tup [.str (("board ":Str)++tabT b),.str " at ",.str (dig b.st)]:=by rw[Qki];rfl
 have e2:tri (PySem.Txt.partition (("board ":Str)++tabT b) (" ":Str))=.tup [.str "board",.str " ",.str (tabT b)]:=by rw[Qkj];rfl
 have i2:∀ (a b c:D) (Q:D->Sto->Prop) s,wp (itemD [a,b,c] 2) Q s=Q c s:=fun a b c Q s=>QhD (i:=2) rfl
 have bl:(("board ":Str)++tabT b).length<=lim:=Qhw (by rw[PySem.Str.length_append,QjP];ac_nf)
 have rl':(bdRow b).length<=lim:=Qhw (by ac_nf)
 (simp_arith [jC];simp_arith [j6,↓pr,e1,e2,↓i2])
 refine⟨⟨by nofun,rl'⟩,⟨by nofun,bl⟩,?_⟩
 refine QjD (S:=b.S) (dn:=b.dn) (p:=fun s d=>(b.nx s d,b.un s d)) h.1.1 h.1.2.1 h.1.2.2.1 h.1.2.2.2.1 (fun i d hi hd=>h.1.2.2.2.2 i d hi hd) fun s' x=>?_
 have g:(s'++[MO.lst [.str (dig b.st)]])[s'.length]?=some (.lst ([b.st].map fun x=>D.str (dig x))):=Qia
 have r:∀ (Q:D->Sto->Prop),wp (jb [.int a,.ref s'.length]) Q (s'++[MO.lst [.str (dig b.st)]])=Q (.tup ([b.st].map natD)) (s'++[MO.lst [.str (dig b.st)]]):=fun Q=>QkE (fun x hx=>by rw[List.mem_singleton.mp hx];exact QjY h) (by show 1<=100;ac_nf) g
 simp_arith [e1,e2,↓i2,l1,l2,↓r]
 exact hQ _ (x.snoc _)
theorem QkH {h:Hs}{n:Nat} (ho:H8 h) (hg:s[n]?=some (.lst ((rowsT h).map D.str))) (hQ:∀ s',s'[n]?=some (.lst ((rowsT h).map D.str))->Q (.tup (h.boards.map bdD)) s'):wp (jr [.ref n]) Q s:=by
 have xl : ∀ (a : CE) (l : Loc) (I : Wk -> Sto -> Prop) s, wp (iEnumL a l) I s = wp (a l) (fun x s' => match x with
   | .ref n=>wp (getL n) (fun ds s2=>I ⟨(rngD 0 ds.length).zipWith (fun i d=>.tup [i,d]) ds,sameL n ds⟩ s2) s'
   | _=>False) s:=fun a l I s=>by
  unfold iEnumL;rw[Qhj];congr 1;funext x s1
  cases x with
  | ref n=>dsimp only;rw[Qhj];exact wp_cg fun _ _=>wp_ret
  | _=>exact wp_no rfl
 have g:∀ (A:List D) Q,wp (getL n) Q (s++[MO.lst A])=Q ((rowsT h).map D.str) (s++[MO.lst A]):=fun A Q=>Qhk (Qib hg)
 have lg:=QiT hg
 have xs : ∀ (a b : CE) (l : Loc) (Q : D -> Sto -> Prop) s, wp (cStarts a b l) Q s = wp (a l) (fun x s1 => match x with
   | .str x=>wp (b l) (fun y s2=>match y with
    | .str y=>Q (.bl (PySem.Txt.startswith x y)) s2
    | _=>False) s1
   | _=>False) s:=fun a b l Q s=>by
  unfold cStarts;rw[Qhj];congr 1;funext x s1
  cases x with
  | str x=>
   dsimp only
   rw[Qhj];congr 1;funext y s2
   cases y with
   | str y=>exact wp_eq rfl
   | _=>exact wp_no rfl
  | _=>exact wp_no rfl
 have b7:=ho.1.1
 have lr:h.boards.length < (rowsT h).length:=by
  have h2:=ho.1.2.2.1
  unfold rowsT
  rw[List.length_append,List.length_map]
  cases hh:h.hands with
  | nil=>rw[hh]at h2;simp at h2
  | cons x xs=>simp[hdRows]
 (simp_arith [jr];simp_arith [j2,Nat.zero_le,↓xl,↓g])
 refine Qhy (fun i l s'=>i<=h.boards.length/\∃ y2 y3:Option D,l=[some (.ref n),some (.ref s.length),y2,y3]/\s'[n]?=some (.lst ((rowsT h).map D.str))/\s'[s.length]?=some (.lst ((h.boards.take i).map bdD))) (fun _ _ _ z=>z.2.choose_spec.choose_spec.2.1) ⟨Nat.zero_le _,none,none,rfl,Qib hg,Qia⟩ (fun i d l s' hd hZ0=>?_) (fun l s' hZ0=>?_)
 ·obtain⟨hi,y2,y3,el,ga,gb⟩:=hZ0
  subst el
  obtain⟨r,hr,ed⟩:=Qhz hd
  subst ed
  rw[List.getElem?_map]at hr
  by_cases hib:i < h.boards.length
  ·have eb : (rowsT h)[i]? = some (bdRow h.boards[i]) := by
     unfold rowsT
     rw[List.getElem?_append_left (by rw[List.length_map];exact hib),List.getElem?_map,List.getElem?_eq_getElem hib];rfl
   rw[eb]at hr
   cases hr
   simp_arith [↓xs,Qkk]
   refine QkG (ho.1.2.1 _ (List.getElem_mem hib)) fun u xu=>?_
   have gu:=xu.at_ gb
   have q1:∀ Q,wp (getL s.length) Q u=Q ((h.boards.take i).map bdD) u:=fun Q=>Qhk gu
   have q2:∀ es Q,wp (putL s.length es) Q u=Q () (u.set s.length (.lst es)):=fun es Q=>Qhl gu
   simp_arith [↓q1,↓q2]
   refine⟨Qhx (by rw[List.length_map,List.length_take];ac_nf),hib,_,_,rfl,?_,?_⟩
   ·rw[List.getElem?_set_ne (by ac_nf)];exact xu.at_ ga
   ·rw[List.getElem?_set_self (QiT gu),List.take_succ,List.getElem?_eq_getElem hib,List.map_append];rfl
  ·have ei:i=h.boards.length:=by ac_nf
   subst ei
   cases hh:h.hands with
   | nil=>have:=ho.1.2.2.1;rw[hh]at this;simp at this
   | cons x xs'=>
    have eb:(rowsT h)[h.boards.length]?=some (hdRow x):=by
     unfold rowsT
     rw[List.getElem?_append_right (by rw[List.length_map];exact Nat.le_refl _),List.length_map,Nat.sub_self,hh]
     rfl
    rw[eb]at hr
    cases hr
    have q1:∀ Q,wp (getL s.length) Q s'=Q (h.boards.map bdD) s':=fun Q=>by rw[List.take_length]at gb;exact Qhk gb
    simp_arith [↓xs,Qkm,↓q1]
    exact hQ s' ga
 ·obtain⟨hi,_⟩:=hZ0
  exfalso
  simp[rngD]at hi
  ac_nf
end
open PySem (Str)
section
variable {p q:Nat}{s s1 s2:Sto}{Q:D->Sto->Prop}
theorem QkI {l:Ln}{a:Int}{n:Nat} (h:Lt8 l) (hne:∀ b d gs,l=.act b d gs->gs≠[]) (hg:s[n]?=some (.lst ((lnW l).map D.str))) (hQ:∀ s',Ext s s'->Q (lnD l) s'):wp (jy [.int a,.ref n]) Q s:=by
 have l1:1<=lim:=Qhw (by ac_nf)
 have l2:2<=lim:=Qhw (by ac_nf)
 have g:∀ Q,wp (getL n) Q s=Q ((lnW l).map D.str) s:=fun Q=>Qhk hg
 have lg:=QiT hg
 cases l with
 | settle v=>
  have hv:v < 8:=h
  have ew:(lnW (.settle v)).map D.str=[.str "settle",.str (dig v)]:=rfl
  have cu:cutD [D.str "settle",D.str (dig v)] (some 1) none=[v].map fun x=>D.str (dig x):=rfl
  have ga:(s++[MO.lst ([v].map fun x=>D.str (dig x))])[s.length]?=some (.lst ([v].map fun x=>D.str (dig x))):=Qia
  have r:∀ (Q:D->Sto->Prop),wp (jb [.int a,.ref s.length]) Q (s++[MO.lst ([v].map fun x=>D.str (dig x))])=Q (.tup ([v].map natD)) (s++[MO.lst ([v].map fun x=>D.str (dig x))]):=fun Q=>QkE (fun x hx=>by rw[List.mem_singleton.mp hx];exact hv) (by show 1<=100;ac_nf) ga
  rw[ew]at g
  (simp_arith [jy];simp_arith [jT,↓g,cu,l1])
  refine (QkE (ns:=[v]) (fun x hx=>by rw[List.mem_singleton.mp hx];exact hv) (by show 1<=100;ac_nf) Qia).mpr ?_
  simp_arith []
  exact⟨Qhw (by show 1 + 1<=1000;ac_nf),hQ _ ((Ext.refl _).snoc _)⟩
 | act b d gs=>
  obtain⟨h1,h2,h3,h4⟩:=h
  have hgs:=hne b d gs rfl
  have ew:(lnW (.act b d gs)).map D.str=.str "do"::.str (dig b)::.str (dig d)::.str ":"::gs.map fun x=>D.str (dig x):=by
   show _::_::_::_::(gs.map dig).map D.str=_
   rw[List.map_map];rfl
  have i0:∀ (Q:D->Sto->Prop) s,wp (itemD (.str "do"::.str (dig b)::.str (dig d)::.str ":"::gs.map fun x=>D.str (dig x)) 0) Q s=Q (.str "do") s:=fun Q s=>QhD (i:=0) rfl
  have i3:∀ (Q:D->Sto->Prop) s,wp (itemD (.str "do"::.str (dig b)::.str (dig d)::.str ":"::gs.map fun x=>D.str (dig x)) 3) Q s=Q (.str ":") s:=fun Q s=>QhD (i:=3) rfl
  have c1:cutD (.str "do"::.str (dig b)::.str (dig d)::.str ":"::gs.map fun x=>D.str (dig x)) (some 1) (some 3)=[b,d].map fun x=>D.str (dig x):=by
   unfold cutD sIx
   simp only[List.length_cons,List.length_map]
   rw[if_neg (by ac_nf),if_neg (by ac_nf)]
   have e1:min (Int.toNat 1) (gs.length + 1 + 1 + 1 + 1)=1:=by ac_nf
   have e3:min (Int.toNat 3) (gs.length + 1 + 1 + 1 + 1)=3:=by ac_nf
   rw[e1,e3]
   rfl
  have c4:cutD (.str "do"::.str (dig b)::.str (dig d)::.str ":"::gs.map fun x=>D.str (dig x)) (some 4) none=gs.map fun x=>D.str (dig x):=QkF (i:=4) (by simp only[List.length_cons];ac_nf)
  have lgs:((4:Int) < ((gs.map fun x=>D.str (dig x)).length + 1 + 1 + 1 + 1:Nat)):=by
   have:gs.length≠0:=fun z=>hgs (List.length_eq_zero_iff.mp z)
   rw[List.length_map];ac_nf
  rw[ew]at g
  have ga:(s++[MO.lst ([b,d].map fun x=>D.str (dig x))])[s.length]?=some (.lst ([b,d].map fun x=>D.str (dig x))):=Qia
  have r1:∀ (Q:D->Sto->Prop),wp (jb [.int a,.ref s.length]) Q (s++[MO.lst ([b,d].map fun x=>D.str (dig x))])=Q (.tup ([b,d].map natD)) (s++[MO.lst ([b,d].map fun x=>D.str (dig x))]):=fun Q=>QkE (QjT h1 h2) (by show 2<=100;ac_nf) ga
  have g':∀ (A:List D) Q,wp (getL n) Q (s++[MO.lst A])=Q (.str "do"::.str (dig b)::.str (dig d)::.str ":"::gs.map fun x=>D.str (dig x)) (s++[MO.lst A]):=fun A Q=>by rw[ew]at hg;exact Qhk (Qib hg)
  have gb:∀ A:List D,(s++[MO.lst A]++[MO.lst (gs.map fun x=>D.str (dig x))])[(s++[MO.lst A]).length]?=some (.lst (gs.map fun x=>D.str (dig x))):=fun A=>Qia
  have r2:∀ (A:List D) (Q:D->Sto->Prop),wp (jb [.int a,.ref (s++[MO.lst A]).length]) Q (s++[MO.lst A]++[MO.lst (gs.map fun x=>D.str (dig x))])=Q (.tup (gs.map natD)) (s++[MO.lst A]++[MO.lst (gs.map fun x=>D.str (dig x))]):=fun A Q=>QkE h4 (by ac_nf) (gb A)
  (simp_arith [jy];simp_arith [jT,↓g,↓i0,nd_,if_false,if_true,List.length_cons,lgs,decide_true,↓i3,c1,l1,↓g'])
  refine (QkE (ns:=[b,d]) (QjT h1 h2) (by show 2<=100;ac_nf) Qia).mpr ?_
  simp_arith [↓g',c4,l1]
  refine⟨Qhw (by show 1 + 2<=1000;ac_nf),?_⟩
  refine (QkE (ns:=gs) h4 (by ac_nf) Qia).mpr ?_
  simp_arith [l1]
  exact⟨Qhw (by show 3 + 1<=1000;ac_nf),hQ _ (((Ext.refl _).snoc _).snoc _)⟩
end
open PySem (Str)
def pre:List Hd->Nat->List Hd
 | [],_=>[]
 | _::_,0=>[]
 | x::xs,j + 1=>if j<=x.lines.length then [⟨x.b0,x.b1,x.lines.take j⟩] else x::pre xs (j - x.lines.length)
def rowsR (hs:List Hd):List Str:=(hs.map hdRows).flatten
theorem QkJ:∀ {hs:List Hd},pre hs 0=[]
 | []=>rfl
 | _::_=>rfl
theorem QkK {x:Hd}{xs:List Hd}{j:Nat} (h:x.lines.length<=j):pre (x::xs) (j + 1)=x::pre xs (j - x.lines.length):=by
 show (if j<=x.lines.length then _ else _)=_
 by_cases e:j<=x.lines.length
 ·have:j=x.lines.length:=by ac_nf
  subst this
  rw[if_pos e,Nat.sub_self,QkJ,List.take_length]
 ·rw[if_neg e]
theorem QkL {x:Hd}{xs:List Hd}{j:Nat} (h:j<=x.lines.length):pre (x::xs) (j + 1)=[⟨x.b0,x.b1,x.lines.take j⟩]:=by
 show (if j<=x.lines.length then _ else _)=_
 rw[if_pos h]
theorem QkM {x:Hd}{xs:List Hd}:rowsR (x::xs)=hdRow x::(x.lines.map lnRow++rowsR xs):=rfl
theorem pre_step : ∀ {hs : List Hd} {j : Nat} {r : Str}, (rowsR hs)[j]? = some r ->
  (∃ x∈hs,r=hdRow x/\pre hs (j + 1)=pre hs j++[⟨x.b0,x.b1,[]⟩])\/∃ x∈hs,∃ l∈x.lines,∃ c0 c,r=lnRow l/\pre hs j=c0++[c]/\pre hs (j + 1)=c0++[⟨c.b0,c.b1,c.lines++[l]⟩]
 | [],j,r,h=>by simp[rowsR]at h
 | x::xs,0,r,h=>by
  rw[QkM]at h
  cases h
  exact .inl ⟨x,List.mem_cons_self,rfl,by rw[QkL (Nat.zero_le _),QkJ];rfl⟩
 | x::xs,j + 1,r,h=>by
  rw[QkM,List.getElem?_cons_succ]at h
  by_cases hj:j < x.lines.length
  ·rw[List.getElem?_append_left (by rw[List.length_map];exact hj),List.getElem?_map,List.getElem?_eq_getElem hj]at h
   cases h
   refine .inr ⟨x,List.mem_cons_self,x.lines[j],List.getElem_mem hj,[],⟨x.b0,x.b1,x.lines.take j⟩,rfl,by rw[QkL (by ac_nf)];rfl,?_⟩
   rw[QkL (by ac_nf),List.take_succ,List.getElem?_eq_getElem hj]
   rfl
  ·rw[List.getElem?_append_right (by rw[List.length_map];ac_nf),List.length_map]at h
   have e1:pre (x::xs) (j + 1)=x::pre xs (j - x.lines.length):=QkK (by ac_nf)
   have e2:pre (x::xs) (j + 1 + 1)=x::pre xs (j - x.lines.length + 1):=by
    rw[QkK (by ac_nf)]
    congr 2
    ac_nf
   rcases pre_step h with ⟨y,hy,er,ep⟩ | ⟨y,hy,l,hl,c0,c,er,ea,eb⟩
   ·exact .inl ⟨y,List.mem_cons_of_mem _ hy,er,by rw[e1,e2,ep];rfl⟩
   ·exact .inr ⟨y,List.mem_cons_of_mem _ hy,l,hl,x::c0,c,er,by rw[e1,ea];rfl,by rw[e2,eb];rfl⟩
theorem QkN:∀ {hs:List Hd},pre hs (rowsR hs).length=hs
 | []=>rfl
 | x::xs=>by
  have e:(rowsR (x::xs)).length=x.lines.length + (rowsR xs).length + 1:=by
   rw[QkM,List.length_cons,List.length_append,List.length_map]
  rw[e,QkK (by ac_nf),Nat.add_sub_cancel_left,QkN]
def hdC (c:Hd × Nat):D:=.tup [.tup ([c.1.b0,c.1.b1].map natD),.ref c.2]
section
variable {p q:Nat}{s s1 s2:Sto}{Q:D->Sto->Prop}
structure HC (s:Sto) (hn n:Nat) (hs:List Hd) (cs:List (Hd × Nat)):Prop where
 fst:cs.map (·.1)=hs
 at_:s[hn]?=some (.lst (cs.map hdC))
 ls:∀ c∈cs,s[c.2]?=some (.lst (c.1.lines.map lnD))
 nd:(cs.map (·.2)).Nodup
 ne:∀ c∈cs,c.2≠hn/\c.2≠n
theorem HC.ext {hn n:Nat}{hs:List Hd}{cs:List (Hd × Nat)} (h:HC s hn n hs cs) (x:Ext s s1):HC s1 hn n hs cs:=⟨h.fst,x.at_ h.at_,fun c hc=>x.at_ (h.ls c hc),h.nd,h.ne⟩
theorem QkO {cs:List (Hd × Nat)}{c0:List Hd}{c:Hd} (e:cs.map (·.1)=c0++[c]):∃ (d0:List (Hd × Nat)) (k:Nat),cs=d0++[(c,k)]/\d0.map (·.1)=c0:=by
 have hne:cs≠[]:=fun z=>by rw[z]at e;simp at e
 refine⟨cs.dropLast,(cs.getLast hne).2,?_,?_⟩
 ·have h1:=List.dropLast_concat_getLast hne
  have h2:(cs.getLast hne).1=c:=by
   have:=congrArg List.getLast? e
   rw[List.getLast?_append,List.getLast?_map,List.getLast?_eq_getLast hne]at this
   simpa using this
  conv=>lhs;rw[<- h1]
  rw[<- h2]
 ·have:=congrArg List.dropLast e
  rw[List.dropLast_concat]at this
  rw[List.map_dropLast];exact this
end
open PySem (Str)
section
variable {p q:Nat}{s s1 s2:Sto}{Q:D->Sto->Prop}
theorem QkP {ds:List D}{d:D}:wp (itemD (ds++[d]) (-1)) Q s=Q d s:=by
 have e:ixN (ds++[d]).length (-1)=some ds.length:=by
  unfold ixN
  rw[List.length_append,List.length_singleton]
  first
   | (rw[if_neg (by ac_nf),if_pos (by ac_nf)];congr 1;ac_nf)
   | (simp;ac_nf)
 unfold itemD
 rw[e]
 dsimp only
 rw[List.getElem?_append_right (Nat.le_refl _),Nat.sub_self]
 exact wp_ret
theorem HC.push {hn n k:Nat}{hs:List Hd}{cs:List (Hd × Nat)}{y:Hd} (h:HC s hn n hs cs) (x:Ext s s1) (hy:y.lines=[]) (hk:s1[k]?=some (.lst [])) (k1:s.length<=k) (k3:n < s.length):HC (s1.set hn (.lst (cs.map hdC++[hdC (y,k)]))) hn n (hs++[y]) (cs++[(y,k)]):=by
 have lh:=QiT h.at_
 have lh1:=QiT (x.at_ h.at_)
 refine⟨by rw[List.map_append,h.fst];rfl,by rw[List.getElem?_set_self lh1,List.map_append];rfl,fun c hc=>?_,?_,fun c hc=>?_⟩
 ·rcases List.mem_append.mp hc with hc | hc
  ·rw[List.getElem?_set_ne (h.ne c hc).1.symm];exact x.at_ (h.ls c hc)
  ·rw[List.mem_singleton.mp hc]
   rw[List.getElem?_set_ne (by dsimp only;ac_nf)]
   dsimp only;rw[hy];exact hk
 ·rw[List.map_append]
  refine List.nodup_append.mpr ⟨h.nd,by simp,fun a ha b hb e=>?_⟩
  obtain⟨c,hc,rfl⟩:=List.mem_map.mp ha
  have:=QiT (h.ls c hc)
  simp at hb
  ac_nf
 ·rcases List.mem_append.mp hc with hc | hc
  ·exact h.ne c hc
  ·rw[List.mem_singleton.mp hc];dsimp only;ac_nf
theorem HC.line {hn n k:Nat}{c0:List Hd}{c:Hd}{l:Ln}{d0:List (Hd × Nat)} (h:HC s hn n (c0++[c]) (d0++[(c,k)])):HC (s.set k (.lst (c.lines.map lnD++[lnD l]))) hn n (c0++[⟨c.b0,c.b1,c.lines++[l]⟩]) (d0++[(⟨c.b0,c.b1,c.lines++[l]⟩,k)]):=by
 have mk:(c,k)∈d0++[(c,k)]:=by simp
 have hk:=QiT (h.ls _ mk)
 have hne:=h.ne _ mk
 have hnd:=h.nd
 rw[List.map_append]at hnd
 refine⟨?_,?_,fun e he=>?_,by rw[List.map_append];exact hnd,fun e he=>?_⟩
 ·have:=h.fst
  rw[List.map_append]at this ⊢
  have:=List.append_inj_left' this rfl
  rw[this];rfl
 ·rw[List.getElem?_set_ne hne.1,h.at_,List.map_append,List.map_append];rfl
 ·rcases List.mem_append.mp he with he | he
  ·have hd:=(List.nodup_append.mp hnd).2.2 e.2 (List.mem_map.mpr ⟨e,he,rfl⟩) k (by simp)
   rw[List.getElem?_set_ne (fun z=>hd z.symm)]
   exact h.ls e (List.mem_append_left _ he)
  ·rw[List.mem_singleton.mp he]
   rw[List.getElem?_set_self hk,List.map_append];rfl
 ·rcases List.mem_append.mp he with he | he
  ·exact h.ne e (List.mem_append_left _ he)
  ·rw[List.mem_singleton.mp he];exact hne
theorem QkQ:∀ (hs:List Hd) (j:Nat),(pre hs j).length<=hs.length
 | [],_=>Nat.le_refl _
 | _::_,0=>Nat.zero_le _
 | x::xs,j + 1=>by
  show (if j<=x.lines.length then _ else _:List Hd).length<=_
  by_cases e:j<=x.lines.length
  ·rw[if_pos e];simp
  ·rw[if_neg e]
   have:=QkQ xs (j - x.lines.length)
   simp only[List.length_cons]
   ac_nf
theorem QkR {m:Nat}:∀ (hs:List Hd) (j:Nat),(∀ x∈hs,x.lines.length<=m)->∀ c∈pre hs j,c.lines.length<=m
 | [],_,_,c,hc=>nomatch hc
 | _::_,0,_,c,hc=>nomatch hc
 | x::xs,j + 1,h,c,hc=>by
  have hx:=h x List.mem_cons_self
  by_cases e:j<=x.lines.length
  ·rw[QkL e]at hc
   rw[List.mem_singleton.mp hc]
   show (x.lines.take j).length<=m
   rw[List.length_take];ac_nf
  ·rw[QkK (by ac_nf)]at hc
   rcases List.mem_cons.mp hc with rfl | hc
   ·exact hx
   ·exact QkR xs _ (fun y hy=>h y (List.mem_cons_of_mem _ hy)) c hc
theorem sh_:¬ (Str.ofString "settle"=Str.ofString "hand"):=by decide
theorem dh_:¬ (Str.ofString "do"=Str.ofString "hand"):=by decide
theorem QkS:(((" ":Str)).length == 0)=false:=by nofun
theorem QkT {h:Hs}{n:Nat} (ho:H8 h) (hg:s[n]?=some (.lst ((rowsT h).map D.str))) (hQ:∀ s',Q (.tup (h.hands.map hdD)) s'):wp (jA [.ref n,.int (h.boards.length:Nat)]) Q s:=by
 have l1:1<=lim:=Qhw (by ac_nf)
 have l2:2<=lim:=Qhw (by ac_nf)
 have g:∀ (A:List D) Q,wp (getL n) Q (s++[MO.lst A])=Q ((rowsT h).map D.str) (s++[MO.lst A]):=fun A Q=>Qhk (Qib hg)
 have lg:=QiT hg
 have b7:=ho.1.1
 have rn:=Qj7 ho
 have eT:rowsT h=h.boards.map bdRow++rowsR h.hands:=rfl
 have eL:(rowsT h).length=h.boards.length + (rowsR h.hands).length:=by rw[eT,List.length_append,List.length_map]
 have en:(((rowsT h).length:Int) - (h.boards.length:Int)).toNat=(rowsR h.hands).length:=by ac_nf
 (simp_arith [jA];simp_arith [j7,Nat.zero_le,↓g,List.length_map])
 refine⟨⟨⟨by ac_nf,by ac_nf⟩,⟨by ac_nf,by ac_nf⟩⟩,?_⟩
 rw[en]
 refine Qhy (fun i l s'=>∃ (y3 y4:Option D) (cs:List (Hd × Nat)),l=[some (.ref n),some (.int (h.boards.length:Nat)),some (.ref s.length),y3,y4]/\s'[n]?=some (.lst ((rowsT h).map D.str))/\HC s' s.length n (pre h.hands i) cs) (fun _ _ _ _=>trivial) ⟨none,none,[],rfl,Qib hg,by rw[QkJ];rfl,Qia,(fun _ h=>nomatch h),List.nodup_nil,(fun _ h=>nomatch h)⟩ (fun i d l s' hd hZ0=>?_) (fun l s' hZ0=>?_)
 ·obtain⟨y3,y4,cs,el,ga,hc⟩:=hZ0
  subst el
  rw[Qh8]at hd
  have hi:i < (rowsR h.hands).length:=by
   have:=(List.getElem?_eq_some_iff.mp hd).1
   simpa [upto] using this
  have ed:d=.int ((h.boards.length + i:Nat):Int):=by
   unfold upto at hd
   rw[List.getElem?_map,List.getElem?_range hi]at hd
   cases hd
   rw[Int.natCast_add]
  subst ed
  have hr:=List.getElem?_eq_getElem hi
  generalize (rowsR h.hands)[i]=r at hr
  have hrT:(rowsT h)[h.boards.length + i]?=some r:=by
   rw[eT,List.getElem?_append_right (by rw[List.length_map];ac_nf),List.length_map,Nat.add_sub_cancel_left];exact hr
  have it:∀ (Q:D->Sto->Prop) s,wp (itemD ((rowsT h).map D.str) ((h.boards.length + i:Nat):Int)) Q s=Q (.str r) s:=fun Q s=>QhD (by rw[List.getElem?_map,hrT];rfl)
  have rl:=Qj5 ho r (List.mem_of_getElem? hrT)
  have ga':∀ Q,wp (getL n) Q s'=Q ((rowsT h).map D.str) s':=fun Q=>Qhk ga
  have ln':=QiT ga
  have lh':=QiT hc.at_
  rcases pre_step hr with ⟨x,hx,er,ep⟩ | ⟨x,hx,l,hl,c0,c,er,ea,eb⟩
  ·subst er
   obtain⟨b0,b1⟩:=b8 ho hx
   have ew:(hdW x).map D.str=[.str "hand",.str (dig x.b0),.str (dig x.b1)]:=rfl
   have wl:(hdW x).length<=lim:=Qhw (by show 3<=1000;ac_nf)
   have cu:cutD [D.str "hand",D.str (dig x.b0),D.str (dig x.b1)] (some 1) none=[x.b0,x.b1].map fun x=>D.str (dig x):=rfl
   have g1:∀ (A:List D) Q,wp (getL s'.length) Q (s'++[MO.lst A])=Q A (s'++[MO.lst A]):=fun A Q=>Qhk Qia
   simp_arith [↓ga',↓it,↓Qif,QkB,ew,QkS,wl,↓g1,cu,l2]
   refine⟨Qhw (by ac_nf),?_⟩
   refine (QkE (ns:=[x.b0,x.b1]) (QjT b0 b1) (by show 2<=100;ac_nf) Qia).mpr ?_
   generalize hu:(s'++[MO.lst [D.str "hand",D.str (dig x.b0),D.str (dig x.b1)]]++[MO.lst ([x.b0,x.b1].map fun x=>D.str (dig x))])=u
   have xu:Ext s' u:=by rw[<- hu];exact ((Ext.refl _).snoc _).snoc _
   have q1:∀ (A:List D) Q,wp (getL s.length) Q (u++[MO.lst A])=Q (cs.map hdC) (u++[MO.lst A]):=fun A Q=>Qhk (Qib (xu.at_ hc.at_))
   have q2:∀ (A:List D) es Q,wp (putL s.length es) Q (u++[MO.lst A])=Q () ((u++[MO.lst A]).set s.length (.lst es)):=fun A es Q=>Qhl (Qib (xu.at_ hc.at_))
   have lc:cs.length<=100:=by
    have:=congrArg List.length hc.fst
    rw[List.length_map]at this
    have:=QkQ h.hands i
    have:=ho.1.2.2.2.1
    ac_nf
   simp_arith [Nat.zero_le,l2,↓q1,↓q2,List.length_map]
   refine⟨Qhx (by ac_nf),_,_,cs++[(⟨x.b0,x.b1,[]⟩,u.length)],rfl,?_,?_⟩
   ·rw[List.getElem?_set_ne (by ac_nf)];exact Qib (xu.at_ ga)
   ·rw[ep]
    exact hc.push (y:=⟨x.b0,x.b1,[]⟩) (xu.snoc _) rfl Qia (by rw[<- hu];simp) ln'
  ·subst er
   rw[ea]at hc
   obtain⟨d0,k,ecs,e0⟩:=QkO hc.fst
   subst ecs
   have h8:=lt8 ho hx hl
   have hok:=(ho.1.2.2.2.2 x hx).2.2.2 l hl
   have hne:∀ b d gs,l=.act b d gs->gs≠[]:=fun b d gs e z=>by
    subst e;subst z
    obtain⟨bd,_,_,g3,_⟩:=hok
    simp at g3
    ac_nf
   have lc:(lnW l).length<=100:=by
    cases l with
    | settle v=>show 2<=100;ac_nf
    | act b d gs=>
     have:gs.length<=4:=h8.2.2.1
     show (gs.map dig).length + 1 + 1 + 1 + 1<=100
     rw[List.length_map];ac_nf
   have wl:(lnW l).length<=lim:=Qhw (by ac_nf)
   have g1:∀ (A:List D) Q,wp (getL s'.length) Q (s'++[MO.lst A])=Q A (s'++[MO.lst A]):=fun A Q=>Qhk Qia
   have fw:∃ (w:Str) (ws:List D),(lnW l).map D.str=.str w::ws/\¬ w=Str.ofString "hand":=by
    cases l with
    | settle v=>exact⟨_,_,rfl,sh_⟩
    | act b d gs=>exact⟨_,_,rfl,dh_⟩
   obtain⟨w,ws,e1,e2⟩:=fw
   have i0:∀ (Q:D->Sto->Prop) s,wp (itemD ((lnW l).map D.str) 0) Q s=Q (.str w) s:=fun Q s=>QhD (i:=0) (by rw[e1];rfl)
   have q1:∀ (A:List D) Q,wp (getL s.length) Q (s'++[MO.lst A])=Q (d0.map hdC++[hdC (c,k)]) (s'++[MO.lst A]):=fun A Q=>Qhk (Qib (by rw[hc.at_,List.map_append];rfl))
   have lp:decide ((0:Int) < ((d0.map hdC++[hdC (c,k)]).length:Nat))=true:=decide_eq_true (by rw[List.length_append,List.length_singleton];ac_nf)
   have il:∀ (Q:D->Sto->Prop) s,wp (itemD (d0.map hdC++[hdC (c,k)]) (-1)) Q s=Q (.tup [.tup ([c.b0,c.b1].map natD),.ref k]) s:=fun Q s=>QkP
   simp_arith [↓ga',↓it,↓Qif,QkC hne,QkS,wl,↓g1,↓i0,e2,if_false,↓q1,lp,↓il]
   refine⟨Qhw (by ac_nf),?_⟩
   refine QkI h8 hne Qia fun u xu=>?_
   have xs':Ext s' u:=((Ext.refl _).snoc _).trans xu
   have hcu:=hc.ext xs'
   have gk:=hcu.ls (c,k) (by simp)
   have q3:∀ Q,wp (getL k) Q u=Q (c.lines.map lnD) u:=fun Q=>Qhk gk
   have q4:∀ es Q,wp (putL k es) Q u=Q () (u.set k (.lst es)):=fun es Q=>Qhl gk
   have cl:c.lines.length<=8:=QkR h.hands i ho.2 c (by rw[ea];simp)
   simp_arith [↓q3,↓q4,List.length_map]
   refine⟨Qhx (by ac_nf),_,_,_,rfl,?_,by rw[eb];exact hcu.line⟩
   rw[List.getElem?_set_ne (hcu.ne (c,k) (by simp)).2]
   exact xs'.at_ ga
 ·obtain⟨y3,y4,cs,el,ga,hc⟩:=hZ0
  subst el
  rw[show (rngD (h.boards.length:Int) (rowsR h.hands).length).length=(rowsR h.hands).length by simp[rngD],QkN]at hc
  have q1:∀ Q,wp (getL s.length) Q s'=Q (cs.map hdC) s':=fun Q=>Qhk hc.at_
  have lc:cs.length<=lim:=Qhw (by
   have:=congrArg List.length hc.fst
   rw[List.length_map]at this
   have:=ho.1.2.2.2.1
   ac_nf)
  simp_arith [↓q1,capt,List.length_map,lc]
  refine Qj1 (g1:=fun c:Hd × Nat=>.tup ([c.1.b0,c.1.b1].map natD)) (g2:=fun c:Hd × Nat=>.ref c.2) (f:=fun c:Hd × Nat=>hdD c.1) (fun u x=>x.at_ hc.at_) (fun c hm u x Q hq=>?_) fun u x=>?_
  ·have q2:∀ Q,wp (getL c.2) Q u=Q (c.1.lines.map lnD) u:=fun Q=>Qhk (x.at_ (hc.ls c hm))
   simp_arith [↓q2,l2]
   exact hq _ (Ext.refl _)
  ·have e:cs.map (fun c=>hdD c.1)=h.hands.map hdD:=by rw[<- hc.fst,List.map_map];rfl
   simp_arith [e]
   exact hQ u
end
open PySem (Str)
theorem QkU:((("settle":Str)) == "settle")=true:=by nofun
theorem QkV:((("do":Str)) == "settle")=false:=by nofun
def IsBoard (d:D):Prop:=∃ (S dn:Nat) (nx un:Nat->Nat->Nat) (st:Nat),d=.tup [tabD S dn nx un,.int st]/\TabOk S dn nx un/\st < S
def IsGoals (m:Nat) (gs:List D):Prop:=∀ g∈gs,∃ k:Nat,g=.int k/\k < m
def IsLine (boards:List D) (m:Nat) (d:D):Prop:=(∃ v:Int,(v=0\/v=1)/\d=.tup [.str "settle",.int v]) \/
 ∃ (b dd S dn:Nat) (nx un:Nat->Nat->Nat) (st:Nat) (gs:List D),boards[b]?=some (.tup [tabD S dn nx un,.int st])/\dd < dn/\d=.tup [.str "do",.int b,.int dd,.tup gs]/\gs.length=1 + mx (un · dd) S/\IsGoals m gs
def IsHand (boards:List D) (d:D):Prop:=∃ (b0 b1:Nat) (lines:List D),d=.tup [.tup [.int b0,.int b1],.tup lines]/\b0 < lines.length/\b1 < lines.length/\lines.length<=12/\∀ l∈lines,IsLine boards lines.length l
def IsHouse (h:D):Prop:=∃ boards hands,h=.tup [.tup boards,.tup hands]/\boards.length<=7/\(∀ b∈boards,IsBoard b)/\2<=hands.length/\hands.length<=3/\∀ x∈hands,IsHand boards x
section
variable {S dn:Nat}{nx un:Nat->Nat->Nat}{Q:D->Sto->Prop}{s:Sto}
theorem QkW {j:Nat} (h:TabOk S dn nx un) (hj:j < dn):wp (jD [tabD S dn nx un,.int j]) Q s=Q (.int ((1 + mx (un · j) S:Nat):Int)) s:=by
 obtain⟨h1,h2,h3,h4,h5⟩:=h
 have w:∀ Q s,wp (collect (gVar 0) tTrue (c2 subsD (c2 subsD (cVar 0) (cVar 1)) (cCon (.int 1))) anySt (upto S fun s=>.tup (upto dn fun d=>D.tup [.int (nx s d:Nat),.int (un s d:Nat)])) [none,some (.int j)]) Q s=Q (upto S fun i=>.int (un i j:Nat)) s:=fun Q s=>Qh1 QhZ fun i hi Q=>by
  simp_arith [↓QhX hj]
 have hl:S<=lim:=Qhw (by ac_nf)
 have mw:∀ Q s,wp (maxD (upto S fun i=>.int (un i j:Nat))) Q s=Q (.int (mx (un · j) S:Nat)) s:=fun Q s=>Qh6 (f:=(un · j)) (by ac_nf)
 have ec:((1 + mx (un · j) S:Nat):Int)=1 + (mx (un · j) S:Nat):=by ac_nf
 rw[ec]
 (simp_arith [jD];simp_arith [yn,tabD,capt,QhM,↓w,↓mw,hl])
theorem QkX {i:Nat} (h:TabOk S dn nx un) (hi:i < S):wp (jh [tabD S dn nx un,.tup (upto dn fun d=>D.tup [.int (nx i d:Nat),.int (un i d:Nat)])]) Q s=Q (.bl true) s:=by
 obtain⟨h1,h2,h3,h4,h5⟩:=h
 have w:∀ Q s,wp (collect (gTupD 2 (gsCons (gVar 0) (gsCons (gVar 1) gsNil))) tTrue (cAnd (cChain leD ltD (cCon (.int 0)) (cVar 0) (c1 lenD (cVar 2))) (c2 geD (cVar 1) (cCon (.int 0)))) anySt (upto dn fun d=>D.tup [.int (nx i d:Nat),.int (un i d:Nat)]) [none,none,some (.tup (upto S fun s=>.tup (upto dn fun d=>D.tup [.int (nx s d:Nat),.int (un s d:Nat)])))]) Q s=Q (upto dn fun _=>.bl true) s:=fun Q s=>Qh2 QhZ fun d hd Q=>by
  have e1:decide ((0:Int)<=(nx i d:Nat))=true:=decide_eq_true (by ac_nf)
  have e2:decide (((nx i d:Nat):Int) < (S:Nat))=true:=decide_eq_true (by have:=(h5 i d hi hd).1;ac_nf)
  have e3:decide ((0:Int)<=(un i d:Nat))=true:=decide_eq_true (by ac_nf)
  simp_arith [QhM,e1,e2,e3]
 have hl:dn<=lim:=Qhw (by ac_nf)
 (simp_arith [jh];simp_arith [jY,tabD,capt,QhM,↓QhY (show 0 < S by ac_nf),beq_self_eq_true,↓w,↓Qh4,hl])
theorem QkY (h:TabOk S dn nx un):wp (ji [tabD S dn nx un]) Q s=Q (.bl true) s:=by
 have h0:=h
 obtain⟨h1,h2,h3,h4,h5⟩:=h
 have w:∀ Q s,wp (collect (gVar 0) tTrue (cCall jh (cCons (cVar 1) (cCons (cVar 0) cNil))) anySt (upto S fun s=>.tup (upto dn fun d=>D.tup [.int (nx s d:Nat),.int (un s d:Nat)])) [none,some (.tup (upto S fun s=>.tup (upto dn fun d=>D.tup [.int (nx s d:Nat),.int (un s d:Nat)])))]) Q s=Q (upto S fun _=>.bl true) s:=fun Q s=>Qh1 QhZ fun i hi Q=>by
  have q:∀ Q s,wp (jh [tabD S dn nx un,.tup (upto dn fun d=>D.tup [.int (nx i d:Nat),.int (un i d:Nat)])]) Q s=Q (.bl true) s:=fun Q s=>QkX h0 hi
  unfold tabD at q
  simp_arith [↓q]
 have hl:S<=lim:=Qhw (by ac_nf)
 have e1:(((S:Nat):Int) == 0)=false:=by simp;ac_nf
 have e2:(((dn:Nat):Int) == 0)=false:=by simp;ac_nf
 (simp_arith [ji];simp_arith [jX,tabD,capt,QhM,e1,e2,↓QhY (show 0 < S by ac_nf),↓w,↓Qh4,hl])
theorem QkZ {gs lines:List D} (h:IsGoals lines.length gs) (hl:gs.length<=100):wp (jk [.tup gs,.tup lines]) Q s=Q (.bl true) s:=by
 have w:∀ Q s,wp (collect (gVar 0) tTrue (cChain leD ltD (cCon (.int 0)) (cVar 0) (c1 lenD (cVar 1))) anySt gs [none,some (.tup lines)]) Q s=Q (upto gs.length fun _=>.bl true) s:=fun Q s=>QhV QhZ fun i d hd Q=>by
  obtain⟨k,e,hk⟩:=h d (List.mem_of_getElem? hd)
  subst e
  have e1:decide ((0:Int)<=(k:Nat))=true:=decide_eq_true (by ac_nf)
  have e2:decide (((k:Nat):Int) < (lines.length:Nat))=true:=decide_eq_true (by ac_nf)
  simp_arith [e1,e2]
 have hl:gs.length<=lim:=Qhw (by ac_nf)
 (simp_arith [jk];simp_arith [yg,capt,↓w,↓Qh4,hl])
end
def CountsAt (s:Sto) (n:Nat) (boards:List D):Prop:=∃ cs,s[n]?=some (.lst cs)/\cs.length=boards.length/\∀ (b S dn:Nat) (nx un:Nat->Nat->Nat) (st:Nat),boards[b]?=some (.tup [tabD S dn nx un,.int st])->∃ r,cs[b]?=some (.ref r)/\s[r]?=some (.lst (upto dn fun d=>.int ((1 + mx (un · d) S:Nat):Int)))
theorem Qk0 {S dn S' dn':Nat}{nx un nx' un':Nat->Nat->Nat} (h:tabD S dn nx un=tabD S' dn' nx' un'):S=S'/\(1<=S->dn=dn')/\∀ s d,s < S->d < dn->nx s d=nx' s d/\un s d=un' s d:=by
 unfold tabD at h
 have h1:=D.tup.inj h
 have e:S=S':=by have:=congrArg List.length h1;simpa [QhM] using this
 subst e
 have row:∀ s,s < S->(upto dn fun d=>D.tup [.int (nx s d:Nat),.int (un s d:Nat)])=(upto dn' fun d=>D.tup [.int (nx' s d:Nat),.int (un' s d:Nat)]):=by
  intro s hs
  have q:=congrArg (fun l=>l[s]?) h1
  simp only[QhK hs]at q
  exact D.tup.inj (Option.some.inj q)
 refine⟨rfl,fun hS=>by have:=congrArg List.length (row 0 (by ac_nf));simpa [QhM] using this,fun s d hs hd=>?_⟩
 have q:=row s hs
 have e:dn=dn':=by have:=congrArg List.length q;simpa [QhM] using this
 subst e
 have q2:=congrArg (fun l=>l[d]?) q
 simp only[QhK hd]at q2
 have q3:=D.tup.inj (Option.some.inj q2)
 simp at q3
 exact⟨by ac_nf,by ac_nf⟩
theorem Qk1 {f g:Nat->Nat}{n:Nat} (h:∀ i,i < n->f i=g i):mx f n=mx g n:=by
 induction n with
 | zero=>rfl
 | succ n ih=>unfold mx;rw[ih fun i hi=>h i (by ac_nf),h n (by ac_nf)]
section
variable {Q:D->Sto->Prop}{s:Sto}
theorem Qk2 {n:Nat}{boards lines:List D}{line:D} (hc:CountsAt s n boards) (hbd:∀ b∈boards,IsBoard b) (hbl:boards.length<=7) (h:IsLine boards lines.length line):wp (jI [.ref n,.tup lines,line]) Q s=Q (.bl true) s:=by
 rcases h with ⟨v,hv,e⟩ | ⟨b,dd,S,dn,nx,un,st,gs,hb,hd,e,hg,hgs⟩
 ·subst e
  have l2:2<=lim:=Qhw (by ac_nf)
  (simp_arith [jI];simp_arith [j8,QkU,l2,↓Qh3 hv])
 ·subst e
  obtain⟨cs,c1,c2,c3⟩:=hc
  obtain⟨r,hr,hr2⟩:=c3 b S dn nx un st hb
  obtain⟨S',dn',nx',un',st',e,ok,_⟩:=hbd _ (List.mem_of_getElem? hb)
  have hbl2:=(List.getElem?_eq_some_iff.mp hb).1
  have ei:=Qk0 (List.cons.inj (D.tup.inj e)).1
  obtain⟨o1,o2,o3,o4,o5⟩:=ok
  obtain⟨eS,ed,eu⟩:=ei
  subst eS
  have hd4:dn=dn':=ed o1
  subst hd4
  have hm:mx (un · dd) S<=3:=Qh5 fun i hi=>by have:=(o5 i dd hi hd).2;have:=(eu i dd hi hd).2;ac_nf
  have g1:∀ Q,wp (getL n) Q s=Q cs s:=fun Q=>Qhk c1
  have g2:∀ Q,wp (getL r) Q s=Q (upto dn fun d=>.int ((1 + mx (un · d) S:Nat):Int)) s:=fun Q=>Qhk hr2
  have i1:∀ Q,wp (itemD cs (b:Int)) Q s=Q (.ref r) s:=fun Q=>QhD hr
  have al:∀ Q s,wp (jk [.tup gs,.tup lines]) Q s=Q (.bl true) s:=fun Q s=>QkZ hgs (by ac_nf)
  have e1:decide ((0:Int)<=(b:Nat))=true:=decide_eq_true (by ac_nf)
  have e2:decide (((b:Nat):Int) < (cs.length:Nat))=true:=decide_eq_true (by ac_nf)
  have e3:decide ((0:Int)<=(dd:Nat))=true:=decide_eq_true (by ac_nf)
  have e4:decide (((dd:Nat):Int) < (dn:Nat))=true:=decide_eq_true (by ac_nf)
  have e5:((gs.length:Int) == ((1 + mx (un · dd) S:Nat):Int))=true:=by rw[hg];simp
  (simp_arith [jI];simp_arith [j8,QkV,↓g1,↓g2,↓i1,QhM,↓QhX hd,e1,e2,e3,e4,e5,↓al,Bool.false_eq_true,if_false])
end
section
variable {Q:D->Sto->Prop}{s:Sto}
theorem Qk3 {boards:List D} (hbd:∀ b∈boards,IsBoard b):wp (jg [.tup boards]) Q s=Q .non s:=by
 apply QhB
 (simp_arith [jg];simp_arith [jQ])
 refine Qhy (fun i l s'=>s'=s/\∃ x1 x2 x3,l=[some (.tup boards),x1,x2,x3]) (fun _ _ _ _=>trivial) ⟨rfl,_,_,_,rfl⟩ (fun i d l s' hd ⟨es,x1,x2,x3,el⟩=>?_) (fun l s' ⟨es,x1,x2,x3,el⟩=>?_)
 ·subst es
  subst el
  obtain⟨b,hb,ed⟩:=Qhz hd
  subst ed
  obtain⟨S,dn,nx,un,st,e,ok,hst⟩:=hbd b (List.mem_of_getElem? hb)
  subst e
  have q:∀ Q s,wp (ji [tabD S dn nx un]) Q s=Q (.bl true) s:=fun Q s=>QkY ok
  have w1:wp (lenD (tabD S dn nx un))=fun Q s=>Q (.int S) s:=by
   funext Q s;unfold tabD;rw[x_lenT,QhM]
  have e1:decide ((0:Int)<=(st:Nat))=true:=decide_eq_true (by ac_nf)
  have e2:decide (((st:Nat):Int) < (S:Nat))=true:=decide_eq_true (by ac_nf)
  simp_arith [↓q,↓w1,e1,e2,Bool.false_eq_true,if_false]
  exact⟨_,_,_,rfl⟩
 ·subst es
  simp_arith []
theorem Qk4 {S dn:Nat}{nx un:Nat->Nat->Nat} (h:TabOk S dn nx un):wp (jf [tabD S dn nx un]) Q s=Q (.ref s.length) (s++[.lst (upto dn fun d=>.int ((1 + mx (un · d) S:Nat):Int))]):=by
 have h0:=h
 obtain⟨h1,h2,h3,h4,h5⟩:=h
 have w:∀ Q s,wp (collect (gVar 0) tTrue (cCall jD (cCons (cVar 1) (cCons (cVar 0) cNil))) anySt (upto dn fun i=>.int i) [none,some (tabD S dn nx un)]) Q s=Q (upto dn fun d=>.int ((1 + mx (un · d) S:Nat):Int)) s:=fun Q s=>Qh1 QhZ fun j hj Q=>by
  have q:∀ Q s,wp (jD [tabD S dn nx un,.int j]) Q s=Q (.int ((1 + mx (un · j) S:Nat):Int)) s:=fun Q s=>QkW h0 hj
  simp_arith [↓q]
 have hl:dn<=lim:=Qhw (by ac_nf)
 have hb:(-(2 ^ 62)<=(dn:Int)/\(dn:Int) < 2 ^ 62):=by ac_nf
 have tb:wp (subsD (tabD S dn nx un) (.int 0))=fun Q s=>Q (D.tup (upto dn fun d=>D.tup [.int (nx 0 d:Nat),.int (un 0 d:Nat)])) s:=by
  funext Q s;unfold tabD;rw[x_subsT,QhY (by ac_nf)]
 (simp_arith [jf];simp_arith [jS,↓tb,capt,QhM,Int.toNat_natCast,QhR,↓w,hl,hb])
theorem Qk5 {boards : List D} {A : List D -> Sto -> Prop} (hbd : ∀ b ∈ boards, IsBoard b) (h : ∀ cs s', Ext s s' -> cs.length = boards.length -> (∀ (b S dn : Nat) (nx un : Nat -> Nat -> Nat) (st : Nat), boards[b]? = some (.tup [tabD S dn nx un, .int st]) -> ∃ r, cs[b]? = some (.ref r) /\ s'[r]? = some (.lst (upto dn fun d => .int ((1 + mx (un · d) S : Nat) : Int)))) -> A cs s') :
  wp (collect (gTupD 2 (gsCons (gVar 0) (gsCons (gVar 1) gsNil))) tTrue (cCall jf (cCons (cVar 0) cNil)) anySt boards [none,none]) A s:=by
 have chk:∀ {s:Sto}{R:Unit->Sto->Prop},R () s->wp (chkS anySt) R s:=fun r=>by rw[Qhm];exact r
 refine Qhr (Q:=A) (fun out xs l s'=>∃ i,xs=boards.drop i/\i<=boards.length/\(∃ x y,l=[x,y])/\out.length=i/\Ext s s'/\(∀ (b S dn:Nat) (nx un:Nat->Nat->Nat) (st:Nat),b < i->boards[b]?=some (.tup [tabD S dn nx un,.int st])->∃ r,out[b]?=some (.ref r)/\s'[r]?=some (.lst (upto dn fun d=>.int ((1 + mx (un · d) S:Nat):Int))))) (fun out l s' ⟨i,e1,hi,_,e2,ex,hh⟩=>?_) (fun out d xs l s' ⟨i,e1,hi,⟨x,y,el⟩,e2,ex,hh⟩=>?_) boards [] _ s ⟨0,by simp,Nat.zero_le _,⟨_,_,rfl⟩,rfl,Ext.refl _,fun b S dn nx un st hb=>by ac_nf⟩
 ·have : i = boards.length := by
    have:=congrArg List.length e1
    simp at this;ac_nf
  subst this
  exact chk (h out s' ex e2 fun b S dn nx un st hb=>hh b S dn nx un st (List.getElem?_eq_some_iff.mp hb).1 hb)
 ·have hlt : i < boards.length := by
    have:=congrArg List.length e1
    simp at this;ac_nf
  rw[List.drop_eq_getElem_cons hlt]at e1
  obtain⟨e3,e4⟩:=List.cons.inj e1
  obtain⟨S,dn,nx,un,st,e,ok,hst⟩:=hbd d (by rw[e3];exact List.getElem_mem hlt)
  have hd:boards[i]?=some (.tup [tabD S dn nx un,.int st]):=by rw[List.getElem?_eq_getElem hlt,<- e3,e]
  subst e
  subst el
  refine chk ?_
  have q:∀ Q s,wp (jf [tabD S dn nx un]) Q s=Q (.ref s.length) (s++[.lst (upto dn fun d=>.int ((1 + mx (un · d) S:Nat):Int))]):=fun Q s=>Qk4 ok
  simp_arith [↓q]
  refine⟨i + 1,e4,hlt,⟨_,_,rfl⟩,by simp[e2],ex.snoc _,fun b S' dn' nx' un' st' hb hb2=>?_⟩
  by_cases e:b=i
  ·subst e
   rw[hd]at hb2
   have e5:=List.cons.inj (D.tup.inj (Option.some.inj hb2))
   obtain⟨eS,ed,eu⟩:=Qk0 e5.1
   subst eS
   have:=ed ok.1
   subst this
   refine⟨s'.length,by rw[<- e2];simp,?_⟩
   rw[List.getElem?_append_right (Nat.le_refl _)]
   simp only[Nat.sub_self,List.getElem?_cons_zero]
   congr 2
   exact QhP fun d hd=>by rw[Qk1 fun i hi=>(eu i d hi hd).2]
  ·obtain⟨r,r1,r2⟩:=hh b S' dn' nx' un' st' (by ac_nf) hb2
   exact⟨r,by rw[List.getElem?_append_left (by ac_nf)];exact r1,(Ext.snoc (Ext.refl _) _).at_ r2⟩
theorem Qk6 {n:Nat}{boards:List D}{hand:D}{k:Int} (hc:CountsAt s n boards) (hbd:∀ b∈boards,IsBoard b) (hbl:boards.length<=7) (h:IsHand boards hand):wp (jl [.ref n,.int k,hand]) Q s=Q .non s:=by
 obtain⟨b0,b1,lines,e,h0,h1,hl,hls⟩:=h
 subst e
 apply QhB
 have al:∀ Q s,wp (jk [.tup [.int b0,.int b1],.tup lines]) Q s=Q (.bl true) s:=fun Q s=>QkZ (fun g hg=>by
  simp at hg
  rcases hg with e | e
  ·exact⟨b0,e,h0⟩
  ·exact⟨b1,e,h1⟩) (by simp)
 (simp_arith [jl];simp_arith [jV,↓al,Bool.false_eq_true,if_false])
 refine Qhy (fun i l s'=>s'=s/\∃ x4 x5,l=[some (.ref n),some (.int k),some (.tup [.tup [.int b0,.int b1],.tup lines]),some (.tup lines),x4,x5]) (fun _ _ _ _=>trivial) ⟨rfl,_,_,rfl⟩ (fun i d l s' hd ⟨es,x4,x5,el⟩=>?_) (fun l s' ⟨es,x4,x5,el⟩=>?_)
 ·subst es
  subst el
  obtain⟨line,hline,ed⟩:=Qhz hd
  subst ed
  have q:∀ Q,wp (jI [.ref n,.tup lines,line]) Q s'=Q (.bl true) s':=fun Q=>Qk2 hc hbd hbl (hls line (List.mem_of_getElem? hline))
  simp_arith [↓q,Bool.false_eq_true,if_false]
  exact⟨_,_,rfl⟩
 ·subst es
  simp_arith []
theorem Qk7 {h:D} (hh:IsHouse h) (hq:∀ s',Ext s s'->Q (.bl true) s'):wp (j5 [h]) Q s:=by
 obtain⟨boards,hands,e,hbl,hbd,hn1,hn2,hhs⟩:=hh
 subst e
 have q1:∀ Q s,wp (jg [.tup boards]) Q s=Q .non s:=fun Q s=>Qk3 hbd
 have e1:decide ((2:Int)<=(hands.length:Nat))=true:=decide_eq_true (by ac_nf)
 have e2:decide (((hands.length:Nat):Int)<=3)=true:=decide_eq_true (by ac_nf)
 have l1:boards.length<=lim:=Qhw (by ac_nf)
 (simp_arith [j5];simp_arith [yo,↓q1,e1,e2,Bool.false_eq_true,if_false,capt,l1])
 refine Qk5 hbd fun cs s1 x1 hl hcs=>?_
 have hc:CountsAt (s1++[.lst cs]) s1.length boards:=⟨cs,by simp,hl,fun b S dn nx un st hb=>let ⟨r,a,c⟩:=hcs b S dn nx un st hb;⟨r,a,(Ext.snoc (Ext.refl _) _).at_ c⟩⟩
 have x2:Ext s (s1++[.lst cs]):=x1.snoc _
 generalize s1++[MO.lst cs]=s2 at *
 simp_arith []
 refine Qhy (fun i l s'=>s'=s2/\∃ x4 x5,l=[some (.tup [.tup boards,.tup hands]),some (.tup boards),some (.tup hands),some (.ref s1.length),x4,x5]) (fun _ _ _ _=>trivial) ⟨rfl,_,_,rfl⟩ (fun i d l s' hd ⟨es,x4,x5,el⟩=>?_) (fun l s' ⟨es,x4,x5,el⟩=>?_)
 ·subst es
  subst el
  obtain⟨hand,hhand,ed⟩:=Qhz hd
  subst ed
  have q:∀ Q,wp (jl [.ref s1.length,.int i,hand]) Q s'=Q .non s':=fun Q=>Qk6 hc hbd hbl (hhs hand (List.mem_of_getElem? hhand))
  simp_arith [↓q]
  exact⟨_,_,rfl⟩
 ·subst es
  subst el
  simp_arith []
  exact hq _ x2
theorem Qk8 {h:Hs} (ho:HsOk h):IsHouse (hsD h):=by
 obtain⟨o1,o2,o3,o4,o5⟩:=ho
 refine⟨_,_,rfl,by simpa using o1,fun b hb=>?_,by simpa using o3,by simpa using o4,fun x hx=>?_⟩
 ·obtain⟨bd,hm,rfl⟩:=List.mem_map.mp hb
  exact⟨bd.S,bd.dn,bd.nx,bd.un,bd.st,rfl,(o2 bd hm).1,(o2 bd hm).2⟩
 ·obtain⟨hd,hm,rfl⟩:=List.mem_map.mp hx
  obtain⟨d1,d2,d3,d4⟩:=o5 hd hm
  refine⟨hd.b0,hd.b1,hd.lines.map lnD,rfl,by simpa using d1,by simpa using d2,by simpa using d3,fun l hl=>?_⟩
  obtain⟨ln,hn,rfl⟩:=List.mem_map.mp hl
  have z:=d4 ln hn
  rw[List.length_map]
  cases ln with
  | settle v=>
   have hv:v < 2:=z
   exact .inl ⟨v,by ac_nf,rfl⟩
  | act b d gs=>
   obtain⟨bd,g1,g2,g3,g4⟩:=z
   refine .inr ⟨b,d,bd.S,bd.dn,bd.nx,bd.un,bd.st,gs.map natD,by rw[List.getElem?_map,g1];rfl,g2,rfl,by rw[List.length_map];exact g3,fun g hg=>?_⟩
   obtain⟨k,hk,rfl⟩:=List.mem_map.mp hg
   exact⟨k,rfl,g4 k hk⟩
end
open PySem (Str)
def Pl:Nat->D->Prop
 | 0,_=>False
 | _ + 1,.int _=>True
 | _ + 1,.str _=>True
 | n + 1,.tup ds=>ds.length<=1000/\∀ d∈ds,Pl n d
 | _ + 1,_=>False
section
variable {s:Sto}{Q:D->Sto->Prop}
theorem Qk9 {a b : CE} {l : Loc} {I : Wk -> Sto -> Prop} : wp (iZipT a b l) I s = wp (a l) (fun x s1 => wp (b l) (fun y s2 => match x, y with
  | .tup xs,.tup ys=>I ⟨xs.zipWith (fun a b=>.tup [a,b]) ys,anySt⟩ s2
  | _,_=>False) s1) s:=by
 unfold iZipT;rw[Qhj];congr 1;funext x s1;rw[Qhj];congr 1;funext y s2
 cases x<;>cases y<;>first | bv_omega | exact wp_ret
theorem Qla:∀ {ds:List D},ds.zipWith (fun a b=>D.tup [a,b]) ds=ds.map fun d=>.tup [d,d]
 | []=>rfl
 | d::ds=>by rw[List.zipWith_cons_cons,Qla];rfl
theorem Qlb:∀ {ds:List D},(ds.map fun _=>D.bl true)=upto ds.length fun _=>.bl true:=by
 intro ds
 unfold upto
 rw[List.map_const',List.map_const',List.length_range]
theorem Qlc {x:Str}:wp (isInst ["tuple"] (.str x)) Q s=Q (.bl false) s:=wp_eq rfl
theorem Qld {i:Int}:wp (isInst ["tuple"] (.int i)) Q s=Q (.bl false) s:=wp_eq rfl
theorem Qle {i:Int}:wp (isInst ["str"] (.int i)) Q s=Q (.bl false) s:=wp_eq rfl
theorem Qlf {g:List D->M D}{n:Nat} (hg:∀ d,Pl n d->∀ (Q:D->Sto->Prop) s,(∀ s',Ext s s'->Q (.bl true) s')->wp (g [d,d]) Q s):∀ d,Pl (n + 1) d->∀ (Q:D->Sto->Prop) s,(∀ s',Ext s s'->Q (.bl true) s')->wp (runDef 2 (jd g) [d,d]) Q s
 | .int i,_,Q,s,h=>by
  simp_arith [jd,↓Qld,↓Qle]
  rw[beq_self_eq_true i]
  exact h s (Ext.refl _)
 | .str x,_,Q,s,h=>by
  simp_arith [jd,↓Qlc,↓Qiq]
  rw[beq_self_eq_true x]
  exact h s (Ext.refl _)
 | .tup ds,hd,Q,s,h=>by
  obtain⟨h1,h2⟩:=hd
  have l:ds.length<=lim:=Qhw (by ac_nf)
  simp_arith [jd,↓Qk9,Qla,List.length_map,l,capt]
  rw[if_neg (by rw[beq_self_eq_true];decide)]
  refine Qj1 (g1:=fun d=>d) (g2:=fun d=>d) (f:=fun _=>.bl true) (fun _ _=>trivial) (fun d hm u x Q hq=>?_) fun u x=>?_
  ·simp_arith []
   exact hg d (h2 d hm) Q u hq
  ·simp_arith [Qlb,↓Qh4]
   exact h u x
 | .bl _,hd,_,_,_=>hd.elim
 | .non,hd,_,_,_=>hd.elim
 | .ref _,hd,_,_,_=>hd.elim
theorem Qlg {d:D} (hd:Pl 8 d) (h:∀ s',Ext s s'->Q (.bl true) s'):wp (m_law_alike [d,d]) Q s:=by
 have a0:∀ d,Pl 0 d->∀ (Q:D->Sto->Prop) s,(∀ s',Ext s s'->Q (.bl true) s')->wp (j0 [d,d]) Q s:=fun d hd=>hd.elim
 have a1:∀ d,Pl 1 d->∀ (Q:D->Sto->Prop) s,(∀ s',Ext s s'->Q (.bl true) s')->wp (ju [d,d]) Q s:=by unfold ju;exact Qlf a0
 have a2:∀ d,Pl 2 d->∀ (Q:D->Sto->Prop) s,(∀ s',Ext s s'->Q (.bl true) s')->wp (js [d,d]) Q s:=by unfold js;exact Qlf a1
 have a3:∀ d,Pl 3 d->∀ (Q:D->Sto->Prop) s,(∀ s',Ext s s'->Q (.bl true) s')->wp (jo [d,d]) Q s:=by unfold jo;exact Qlf a2
 have a4:∀ d,Pl 4 d->∀ (Q:D->Sto->Prop) s,(∀ s',Ext s s'->Q (.bl true) s')->wp (jt [d,d]) Q s:=by unfold jt;exact Qlf a3
 have a5:∀ d,Pl 5 d->∀ (Q:D->Sto->Prop) s,(∀ s',Ext s s'->Q (.bl true) s')->wp (jq [d,d]) Q s:=by unfold jq;exact Qlf a4
 have a6:∀ d,Pl 6 d->∀ (Q:D->Sto->Prop) s,(∀ s',Ext s s'->Q (.bl true) s')->wp (jw [d,d]) Q s:=by unfold jw;exact Qlf a5
 have a7:∀ d,Pl 7 d->∀ (Q:D->Sto->Prop) s,(∀ s',Ext s s'->Q (.bl true) s')->wp (jp [d,d]) Q s:=by unfold jp;exact Qlf a6
 have a8:∀ d,Pl 8 d->∀ (Q:D->Sto->Prop) s,(∀ s',Ext s s'->Q (.bl true) s')->wp (jv [d,d]) Q s:=by unfold jv;exact Qlf a7
 exact a8 d hd Q s h
end
theorem Qlh {α:Type}{n:Nat}{xs:List α}{f:α->D} (hl:xs.length<=1000) (h:∀ x∈xs,Pl n (f x)):Pl (n + 1) (.tup (xs.map f)):=by
 refine⟨by rw[List.length_map];exact hl,fun d hd=>?_⟩
 obtain⟨x,hx,rfl⟩:=List.mem_map.mp hd
 exact h x hx
theorem Qli {m n:Nat}{f:Nat->D} (hl:n<=1000) (h:∀ i,i < n->Pl m (f i)):Pl (m + 1) (.tup (upto n f)):=by
 unfold upto
 refine Qlh (by rw[List.length_range];exact hl) fun i hi=>h i (List.mem_range.mp hi)
theorem Qlj {n:Nat}{a b:D} (ha:Pl n a) (hb:Pl n b):Pl (n + 1) (.tup [a,b]):=⟨by show 2<=1000;ac_nf,fun d hd=>by
 rcases List.mem_cons.mp hd with rfl | hd
 ·exact ha
 ·rw[List.mem_singleton.mp hd];exact hb⟩
theorem Qlk {h:Hs} (ho:H8 h):Pl 8 (hsD h):=by
 have b7:=ho.1.1
 have h3:=ho.1.2.2.2.1
 refine Qlj (Qlh (by ac_nf) fun b hb=>?_) (Qlh (by ac_nf) fun x hx=>?_)
 ·have hb:=ho.1.2.1 b hb
  have S4:=hb.1.2.1
  have d4:=hb.1.2.2.2.1
  refine Qlj (n:=5) ?_ trivial
  rw[QjW]
  exact Qli (m:=4) (by ac_nf) fun i hi=>Qli (m:=3) (by ac_nf) fun d hd=>Qlj (n:=2) trivial trivial
 ·have l8:=ho.2 x hx
  refine Qlj (n:=5) (Qlj (n:=4) trivial trivial) (Qlh (n:=4) (by ac_nf) fun l hl=>?_)
  have h8:=lt8 ho hx hl
  cases l with
  | settle v=>exact Qlj (n:=3) trivial trivial
  | act b d gs=>
   have g4:gs.length<=4:=h8.2.2.1
   refine⟨by show 4<=1000;ac_nf,fun e he=>?_⟩
   simp only[List.mem_cons,List.not_mem_nil,or_false]at he
   rcases he with rfl | rfl | rfl | rfl
   ·exact trivial
   ·exact trivial
   ·exact trivial
   ·exact Qlh (n:=2) (by ac_nf) fun _ _=>trivial
open PySem (Str)
section
variable {p q:Nat}{s s1 s2:Sto}{Q:D->Sto->Prop}
theorem Qll:(((("\n":Str)).length == 0)=false):=by nofun
theorem nl_l:(("\n":Str)).length=1:=by nofun
theorem Qlm {ds:List D}:wp (listD (.lit ds)) Q s=Q (.ref s.length) (s++[.lst ds]):=wp_eq rfl
theorem Qln {h:Hs} (ho:H8 h):(textT h).length<=4000:=by
 have a:(textT h).length<=(rowsT h).length * (90 + (("\n":Str)).length):=QjI (Qj5 ho)
 have b:=Qj7 ho
 rw[nl_l]at a
 have:(rowsT h).length * (90 + 1)<=34 * (90 + 1):=Nat.mul_le_mul_right _ b
 ac_nf
theorem Qlo {h:Hs} (ho:H8 h) (hQ:∀ s',Q (hsD h) s'):wp (jE [.str (textT h)]) Q s:=by
 have l2:2<=lim:=Qhw (by ac_nf)
 have tl:=Qln ho
 have rn:=Qj7 ho
 have l3:(rowsT h).length<=lim:=Qhw (by ac_nf)
 (simp_arith [jE];simp_arith [j4,↓Qif,Qks ho,Qll,l3])
 refine⟨Nat.le_trans (show (textT h).length + 2<=4002 by ac_nf) (by decide),?_⟩
 refine QkH ho Qia fun u gu=>?_
 simp_arith [List.length_map]
 refine QkT ho gu fun v=>?_
 simp_arith [l2]
 refine Qk7 (Qk8 ho.1) fun w xw=>?_
 simp_arith []
 exact hQ w
theorem Qlp {h:Hs} (ho:H8 h) {n:Nat} (g:s[n]?=some (.lst ((rowsT h).map D.str))):strsOf ((rowsT h).map D.str)=some (rowsT h)/\((rowsT h).map (·.length)).sum + (rowsT h).length * (("\n":Str)).length<=16777216:=by
 have es:strsOf ((rowsT h).map D.str)=some (rowsT h):=by
  have:=QjG (f:=fun x:Str=>x) (xs:=rowsT h)
  simpa using this
 have sm:=QjH (f:=fun x:Str=>x.length) (Qj5 ho)
 have rn:=Qj7 ho
 have:(rowsT h).length * 90<=34 * 90:=Nat.mul_le_mul_right _ rn
 exact⟨es,by rw[nl_l];ac_nf⟩
theorem Qlq (ns:List Int) (hn:ns.length<=63) (hQ:∀ s,Q (.bl true) s):wp (yd [.lit (ns.map D.int)]) Q s:=by
 have l4:4<=lim:=Qhw (by ac_nf)
 have l3:3<=lim:=Qhw (by ac_nf)
 (simp_arith [yd];simp_arith [yp,↓Qlm,l4])
 have hp:PotAt (s++[MO.lst (ns.map D.int)]++[MO.lst [.ref s.length,.int 0,.int 0,.int 0]]) (s++[MO.lst (ns.map D.int)]).length s.length:=⟨by simp,0,0,0,ns,Qia,Qib Qia,by ac_nf,by ac_nf,hn⟩
 refine Qi9 (PK.refl hp) fun h1 s1 o1 b1 e1 k1 w1=>?_
 simp_arith []
 refine Qi9 k1 fun h2 s2 o2 b2 e2 k2 w2=>?_
 simp_arith [l3]
 refine Qhy (fun i l s'=>∃ y4 y5 y6,l=[some (.lit (ns.map D.int)),some (.ref (s++[MO.lst (ns.map D.int)]).length),some (hsD h1),some (hsD h2),y4,y5,y6]) (fun _ _ _ _=>trivial) ⟨_,_,_,rfl⟩ (fun i d l s' hd hZ0=>?_) (fun l s' hZ0=>?_)
 ·obtain⟨y4,y5,y6,el⟩:=hZ0
  subst el
  have hm:∃ h,d=hsD h/\H8 h:=by
   have:=List.mem_of_getElem? hd
   simp only[List.mem_cons,List.not_mem_nil,or_false]at this
   rcases this with e | e | e
   ·exact⟨h1,e,o1,e1⟩
   ·exact⟨h2,e,o2,e2⟩
   ·exact⟨h1,e,o1,e1⟩
  obtain⟨h,ed,ho⟩:=hm
  subst ed
  simp_arith [↓Qig]
  refine Qka ho fun n u gu=>?_
  have q1:∀ Q,wp (getL n) Q u=Q ((rowsT h).map D.str) u:=fun Q=>Qhk gu
  obtain⟨a1,a2⟩:=Qlp ho gu
  simp_arith [↓q1,a1]
  refine⟨a2,?_⟩
  refine Qj9 ho fun v=>?_
  have et:PySem.Txt.join ("\n":Str) (rowsT h)=textT h:=rfl
  simp_arith [↓Qiq,et,beq_self_eq_true,Bool.not_true,Bool.false_eq_true,if_false]
  refine Qlo ho fun w=>?_
  simp_arith []
  refine Qlg (Qlk ho) fun x _=>?_
  simp_arith [Bool.not_true,Bool.false_eq_true,if_false]
  exact⟨_,_,_,rfl⟩
 ·obtain⟨y4,y5,y6,el⟩:=hZ0
  subst el
  simp_arith []
  exact hQ _
theorem law_true (ns:List Int) (hn:ns.length<=63):∃ st',yd [.lit (ns.map D.int)] []=.ok (.bl true) st':=Qh9 (Qlq ns hn fun _=>rfl)
end
open PySem PySem.Spec PyProof.Rows L2
theorem walk {l : PySem.W.OpenLaw} {q : Program} {loose : List Str} {XP : (Str -> Option Value) -> Heap -> Prop} {YP : World -> Heap -> Prop} {d : DefRec} {K : Params -> PySem.W.Frag} (hn : l.most = some 63) (hdf : d.params.defaults = []) (hnm : d.name = "law")
  (hY:∀ (w:World) (h:Heap),YP w h->(K w.params).In h) (F:∀ (w:World) (mg:Str->Option Value) (h:Heap),(K w.params).In h->h.Ns mainGlobals mg->Txt (K w.params) mg):
  PySem.W.WalkO q loose XP YP l.row.toRowW d [] (fun f vs=>PySem.call f vs):=by
 refine L2.walk_ofK (n:=63) (k:=10) (x:="_law_script") (CX:=CX0) (K:=K) (sp:=fun K=>spOf K 1 yd) hn (by decide) hdf ⟨rfl,by decide,by decide⟩ hY (fun w mg fa h kin ns hmg=>?_) (fun K H a ns hl hO hS=>QgO hO hS (law_true ns hl)) (fun _ _ _ _ z=>z)
 have T:=F w mg h kin ns
 obtain⟨a,fd,L,m⟩:=T.f33
 rw[hnm,m]at hmg
 cases hmg
 refine⟨fd,fun s u=>?_,fun base _ _=>yq L T⟩
 obtain⟨oc,od,kV,doc,pm,an,cdv,ct,osl,e,lk,hcd⟩:=L.ex
 rw[e]
 exact .of_eq rfl
end My
def PySem.W.Fast.tw734017028428782992:PySem.Program:=PySem.Challenge.pw_pactboards_k19_houses_written
theorem PySem.W.Fast.te734017028428782992:PySem.Challenge.pw_pactboards_k19_houses_written=PySem.W.Fast.tw734017028428782992:=rfl
namespace PySem.W.Fast
def tw12045690460244136501:=0
def tw3976127206517018694:=0
def tw5326279615863359056:=0
def tw8756564598081959965:=0
def tw15045115340698068051:=0
def tw14388895080441076724:=0
def tw14543400272595254886:=0
def tw11798189895640628858:=0
def tw2950233250100223891:=0
def tw9095940146029824856:=0
def tw8765831784876949408:=0
def tw17679741932120621000:=0
def tw11646012462653620057:=0
def tw9048076616944867564:=0
def tw16714156658391957297:=0
def tw15675216429639832628:=0
def tw9277285663237341356:=0
def tw6699940884423188630:=0
def tw15259316261857192890:=0
def tw16176041117468506268:=0
def tw4894878726195147935:=0
def tw8471322186494658031:=0
def tw17792504546012239094:=0
def tw6346193054740228258:=0
def tw6115356560840606539:=0
def tw14399985059913632695:=0
def tw18146257665203521385:=0
def tw1371511219256156842:=0
def tw17485989610718843923:=0
def tw15658865245240847597:=0
def tw6188277241237712070:=0
def tw7435507148432184457:=0
def tw16621399044829165069:=0
def tw10706674876899587694:=0
def tw6165595242941798615:=0
def tw17159923740674552178:=0
def tw17091454859242832389:=0
def tw16408254565341429799:=0
def tw4878994690264707735:=0
def tw6955102961610609335:=0
def tw14099241392231378312:=0
def tw6266522029939319317:=0
def tw15626501920997595563:=0
def tw17213884858993842004:=0
def tw1827609845929621120:=0
def tw676936252065436279:=0
def tw17457956996415738676:=0
def tw18340621082921928940:=0
def tw2114458994408231597:=0
def tw15861198465451082604:=0
def tw6536990103975338817:=0
def tw4138916552381860875:=0
def tw5231593627980576915:=0
def tw15525720215169099693:=0
def tw15419153270701018088:=0
def tw8311493518640722530:=0
def tw5350640003459147091:=0
def tw5142092184961831928:=0
def tw9725894100012103361:=0
def tw5671234082512708090:=0
def tw3973974450392546322:=0
def tw17304768257980336605:=0
def tw17061572451887611463:=0
def tw7225734845834004466:=0
def tw10045103989510197378:=0
def tw9846561401798665383:=0
def tw12633660176698721651:=0
def tw9267297077809820499:=0
def tw159332824690155028:=0
def tw14785889386491265609:=0
def tw8462930495450717070:=0
def tw10262747701102794691:=0
def tw6333115457911538931:=0
def tw18198020480669157422:=0
def tw300482525459899338:=0
def tw16344636860506949908:=0
def tw2851300240781575368:=0
def tw16507887815293794100:=0
def tw7246862041291918021:=0
def tw11984793292005377824:=0
def tw18184791675006184945:=0
def tw1500528527316569110:=0
def tw2573904475114048857:=0
def tw9114744470157136809:=0
def tw32058654909062789:=0
def tw1484218391846205921:=0
def tw11280448736287414707:=0
def tw5004425961225723240:=0
def tw15774260114833189770:=0
def tw1018777144213761432:=0
def tw17393685853085506833:=0
def tw6855602849411670001:=0
def tw6441597866083504777:=0
def tw10510763006171259633:=0
def tw5356057723598546923:=0
def tw14541418087314594809:=0
def tw9166417498938897416:=0
def tw14266243053022519717:=0
def tw6698966010493616649:=0
def tw8221727806689727662:=0
end PySem.W.Fast
open PySem PySem.W PyProof.Rows
set_option maxHeartbeats 0 in
theorem PySem.Challenge.cw_pactboards_k19_houses_written_holds : PySem.Challenge.rw_pactboards_k19_houses_written.Holds := by
 w_on;o_law;k_head;(case hw=>w_witness2)
 k_fill
 refine My.walk (l:=PySem.Challenge.rw_pactboards_k19_houses_written) rfl rfl rfl (fun w h Y=>PySem.W.kIn_of Y) ?F
 case F=>
  intro w mg h KX G
  refine' My.Txt.mk (MM.fnat KX G ?a0 ?l0 ?c0 ?k0) (MM.fnat KX G ?a1 ?l1 ?c1 ?k1) (MM.fnat KX G ?a2 ?l2 ?c2 ?k2) (MM.fnat KX G ?a3 ?l3 ?c3 ?k3) (MM.fnat KX G ?a4 ?l4 ?c4 ?k4) (MM.fnat KX G ?a5 ?l5 ?c5 ?k5) (MM.fnat KX G ?a6 ?l6 ?c6 ?k6) (MM.fnat KX G ?a7 ?l7 ?c7 ?k7) (MM.fnat KX G ?a8 ?l8 ?c8 ?k8) (MM.fnat KX G ?a9 ?l9 ?c9 ?k9) (MM.fnat KX G ?a10 ?l10 ?c10 ?k10) (MM.fnat KX G ?a11 ?l11 ?c11 ?k11) (MM.fnat KX G ?a12 ?l12 ?c12 ?k12) (MM.fnat KX G ?a13 ?l13 ?c13 ?k13) (MM.fnat KX G ?a14 ?l14 ?c14 ?k14) (MM.fnat KX G ?a15 ?l15 ?c15 ?k15) (MM.fnat KX G ?a16 ?l16 ?c16 ?k16) (MM.fnat KX G ?a17 ?l17 ?c17 ?k17) (MM.fnat KX G ?a18 ?l18 ?c18 ?k18) (MM.fnat KX G ?a19 ?l19 ?c19 ?k19) (MM.fnat KX G ?a20 ?l20 ?c20 ?k20) (MM.fnat KX G ?a21 ?l21 ?c21 ?k21) (MM.fnat KX G ?a22 ?l22 ?c22 ?k22) (MM.fnat KX G ?a23 ?l23 ?c23 ?k23) (MM.fnat KX G ?a24 ?l24 ?c24 ?k24) (MM.fnat KX G ?a25 ?l25 ?c25 ?k25) (MM.fnat KX G ?a26 ?l26 ?c26 ?k26) (MM.fnat KX G ?a27 ?l27 ?c27 ?k27) (MM.fnat KX G ?a28 ?l28 ?c28 ?k28) (MM.fnat KX G ?a29 ?l29 ?c29 ?k29) (MM.fnat KX G ?a30 ?l30 ?c30 ?k30) (MM.fnat KX G ?a31 ?l31 ?c31 ?k31) (MM.fnat KX G ?a32 ?l32 ?c32 ?k32) (MM.fnat KX G ?a33 ?l33 ?c33 ?k33) (MM.z_cons (PySem.W.mg_none_of KX G ?z0) (MM.z_cons (PySem.W.mg_none_of KX G ?z1) (MM.z_cons (PySem.W.mg_none_of KX G ?z2) (MM.z_cons (PySem.W.mg_none_of KX G ?z3) (MM.z_cons (PySem.W.mg_none_of KX G ?z4) (MM.z_cons (PySem.W.mg_none_of KX G ?z5) (MM.z_cons (PySem.W.mg_none_of KX G ?z6) (MM.z_cons (PySem.W.mg_none_of KX G ?z7) (MM.z_cons (PySem.W.mg_none_of KX G ?z8) (MM.z_cons (PySem.W.mg_none_of KX G ?z9) (MM.z_cons (PySem.W.mg_none_of KX G ?z10) (MM.z_cons (PySem.W.mg_none_of KX G ?z11) MM.z_nil)))))))))))) (MM.c_str (PySem.W.mg_of KX G ?y0) (MM.c_int (PySem.W.mg_of KX G ?y1) MM.c_nil))
  case a0 | l0 | c0 | k0 | a1 | l1 | c1 | k1 | a2 | l2 | c2 | k2 | a3 | l3 | c3 | k3 | a4 | l4 | c4 | k4 | a5 | l5 | c5 | k5 | a6 | l6 | c6 | k6 | a7 | l7 | c7 | k7 | a8 | l8 | c8 | k8 | a9 | l9 | c9 | k9 | a10 | l10 | c10 | k10 | a11 | l11 | c11 | k11 | a12 | l12 | c12 | k12 | a13 | l13 | c13 | k13 | a14 | l14 | c14 | k14 | a15 | l15 | c15 | k15 | a16 | l16 | c16 | k16 | a17 | l17 | c17 | k17 | a18 | l18 | c18 | k18 | a19 | l19 | c19 | k19 | a20 | l20 | c20 | k20 | a21 | l21 | c21 | k21 | a22 | l22 | c22 | k22 | a23 | l23 | c23 | k23 | a24 | l24 | c24 | k24 | a25 | l25 | c25 | k25 | a26 | l26 | c26 | k26 | a27 | l27 | c27 | k27 | a28 | l28 | c28 | k28 | a29 | l29 | c29 | k29 | a30 | l30 | c30 | k30 | a31 | l31 | c31 | k31 | a32 | l32 | c32 | k32 | a33 | l33 | c33 | k33 | z0 | z1 | z2 | z3 | z4 | z5 | z6 | z7 | z8 | z9 | z10 | z11 | y0 | y1=>k_is