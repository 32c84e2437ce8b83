import PyProof.Rows.All
import Wide.All
import OpenK.AllK
import Wide.FinOn
import Lean
import PyProof.EqAt
import PyProof.EqKinds
import PyProof.TupleCall
import PySem.Str
import PyProof.NeKinds
import PyProof.IsRules
import PyProof.Rows.StrRev
import KE.KSortTup
import PyProof.Rows.ZipGen
import KE.KRevIter
import KE.KDictList
import KE.KIntText
import PyProof.Rows.StrNews
import PyProof.Rows.StrJoin2
import PyProof.Rows.FStr
import PyProof.StrWalks
import PyProof.StrLawsTight
import KE.KSort
import PyProof.Rows.SetFrom
import KE.KDictSum
import PyProof.ExcInit
import PyProof.ExcClass3
import PyProof.ExcBaseAll.ValueError
import PyProof.ExcAttrAll.ValueError
import PyProof.ExcArgsOwn
import PySem.SetOps
import PyProof.TupleOfGen
import PyProof.MinMaxWalk
import PyProof.FactsAll.tuple_2
import KE.KMinBuiltin
import PyProof.Rows.CallKwBuiltin
import PyProof.DictUpdate
import KE.KDictOf
import PyProof.ListMulAny
import PySem.Challenge.RW_pactboards_k64_hands_and_boards_exchange
local macro_rules | `(tactic| nofun)=>`(tactic| decide +kernel)
local macro_rules | `(tactic| ac_nf)=>`(tactic| first | lia | omega)
set_option genSizeOf false
set_option Elab.async false
set_option linter.all false
set_option maxRecDepth 100000
set_option maxHeartbeats 4000000
noncomputable section
namespace L2
open PySem PySem.Spec PyProof.Rows
abbrev Key:=Sum Int Str
def keyIs:Key->Value->Bool
 | .inl k,v=>Value.isInt k v
 | .inr x,v=>Value.isStrOf x v
def keyH (w:World):Key->Int
 | .inl k=>hashInt k
 | .inr x=>hashStr w x
theorem keyIs_shape:∀ {k:Key}{v:Value},keyIs k v=true->(∃ i t,k=Sum.inl i/\v=Value.int i t)\/(∃ x t,k=Sum.inr x/\v=Value.str x t)
 | .inl i,v,h=>by
  obtain⟨t,e⟩:=Value.isInt_shape (k:=i) (v:=v) h
  exact .inl ⟨i,t,rfl,e⟩
 | .inr x,v,h=>by
  obtain⟨t,e⟩:=Value.isStrOf_shape (x:=x) (v:=v) h
  exact .inr ⟨x,t,rfl,e⟩
theorem Qaa (i:Int) (t:Tok):keyIs (.inl i) (.int i t)=true:=by simp[keyIs,Value.isInt]
theorem Qab (x:Str) (t:Tok):keyIs (.inr x) (.str x t)=true:=by simp[keyIs,Value.isStrOf]
theorem Qac (a b:Int):decide ((Sum.inl a:Key)=Sum.inl b)=(a == b):=by
 by_cases e:a=b
 ·subst e;simp
 ·have h:¬ (Sum.inl a:Key)=Sum.inl b:=fun q=>e (Sum.inl.inj q)
  rw[decide_eq_false h]
  exact (beq_eq_false_iff_ne.mpr e).symm
theorem Qad (a b:Str):decide ((Sum.inr a:Key)=Sum.inr b)=decide (a=b):=by
 by_cases e:a=b
 ·subst e;simp
 ·have h:¬ (Sum.inr a:Key)=Sum.inr b:=fun q=>e (Sum.inr.inj q)
  rw[decide_eq_false h,decide_eq_false e]
theorem Qae (a:Int) (b:Str):decide ((Sum.inl a:Key)=Sum.inr b)=false:=decide_eq_false (fun q=>nomatch q)
theorem Qaf (a:Str) (b:Int):decide ((Sum.inr a:Key)=Sum.inl b)=false:=decide_eq_false (fun q=>nomatch q)
def mixKind (prog:Program) (w:World):PySem.KeyKind prog w Key where
 is:=keyIs
 hash:=keyH w
 inj:=fun v a b ha hb=>by
  rcases keyIs_shape ha with ⟨i,t,rfl,rfl⟩ | ⟨x,t,rfl,rfl⟩
  ·rcases keyIs_shape hb with ⟨j,u,rfl,e⟩ | ⟨y,u,rfl,e⟩
   ·injection e with e1 _;rw[e1]
   ·exact nomatch e
  ·rcases keyIs_shape hb with ⟨j,u,rfl,e⟩ | ⟨y,u,rfl,e⟩
   ·exact nomatch e
   ·injection e with e1 _;rw[e1]
 byValue:=fun k v h=>by
  rcases keyIs_shape h with ⟨i,t,rfl,rfl⟩ | ⟨x,t,rfl,rfl⟩<;>rfl
 pyHash:=fun hv h=>by
  rcases keyIs_shape hv with ⟨i,t,rfl,rfl⟩ | ⟨x,t,rfl,rfl⟩
  ·exact wpAny_pyHash_int h
  ·exact wpAny_pyHash_str h
 eqBool:=fun hu hv h=>by
  rcases keyIs_shape hu with ⟨i,t,rfl,rfl⟩ | ⟨x,t,rfl,rfl⟩
  ·rcases keyIs_shape hv with ⟨j,u,rfl,rfl⟩ | ⟨y,u,rfl,rfl⟩
   ·rw[Qac]at h;exact wpAny_eqBool_int h
   ·rw[Qae]at h;exact SeqAt.EqAt.int_str i t y u _ _ _ _ h
  ·rcases keyIs_shape hv with ⟨j,u,rfl,rfl⟩ | ⟨y,u,rfl,rfl⟩
   ·rw[Qaf]at h;exact SeqAt.EqAt.str_int x t j u _ _ _ _ h
   ·rw[Qad]at h;exact wpAny_eqBool_str h
 «strs»:=fun k x t v h=>by
  rcases keyIs_shape h with ⟨i,u,rfl,e⟩ | ⟨y,u,rfl,e⟩
  ·exact nomatch e
  ·injection e with e1 _
   subst e1
   cases v<;>rfl
theorem Qag (prog:Program) (w:World) (i:Int) (t:Tok):(mixKind prog w).is (.inl i) (.int i t)=true:=Qaa i t
theorem Qah (prog:Program) (w:World) (x:Str) (t:Tok):(mixKind prog w).is (.inr x) (.str x t)=true:=Qab x t
inductive V where
 | non | bl (b:Bool) | int (i:Int) | str (x:Str) | byt (b:Array UInt8) | flt (b:UInt64) | ref (a:Addr) | ty (n:String)
 deriving DecidableEq
def RelV:V->Value->Prop
 | .non,u=>u=Value.none
 | .bl b,u=>u=Value.bool b
 | .int i,u=>∃ t,u=Value.int i t
 | .str x,u=>∃ t,u=Value.str x t
 | .byt b,u=>∃ t,u=Value.bytes b t
 | .flt b,u=>∃ t,u=Value.float b t
 | .ref a,u=>u=Value.ref a
 | .ty n,u=>u=Value.type n
abbrev Vals:List V->List Value->Prop:=Paired RelV
theorem Vals.length {xs:List V}{us:List Value} (r:Vals xs us):xs.length=us.length:=Paired.length r
theorem Vals.get:∀ {xs:List V}{us:List Value}{i:Nat}{x:V},Vals xs us->xs[i]?=some x->∃ u,us[i]?=some u/\RelV x u
 | _,_,_,_,.nil,e=>by simp at e
 | _,_,0,_,.cons r _,e=>by simp at e;subst e;exact⟨_,rfl,r⟩
 | _,_,i + 1,x,.cons _ t,e=>by
  obtain⟨u,h1,h2⟩:=Vals.get (i:=i) (x:=x) t (by simpa using e)
  exact⟨u,by simpa using h1,h2⟩
theorem Vals.set {x:V}{u:Value} (r:RelV x u):∀ {xs:List V}{us:List Value} (i:Nat),Vals xs us->Vals (xs.set i x) (us.set i u)
 | _,_,_,.nil=>.nil
 | _,_,0,.cons _ t=>.cons r t
 | _,_,i + 1,.cons q t=>.cons q (Vals.set r i t)
theorem Vals.append:∀ {xs ys:List V}{us ws:List Value},Vals xs us->Vals ys ws->Vals (xs++ys) (us++ws)
 | _,_,_,_,.nil,s=>s
 | _,_,_,_,.cons r t,s=>.cons r (Vals.append t s)
theorem Vals.take:∀ {xs:List V}{us:List Value} (n:Nat),Vals xs us->Vals (xs.take n) (us.take n)
 | _,_,0,_=>.nil
 | _,_,_ + 1,.nil=>.nil
 | _,_,n + 1,.cons r t=>.cons r (Vals.take n t)
theorem Vals.drop:∀ {xs:List V}{us:List Value} (n:Nat),Vals xs us->Vals (xs.drop n) (us.drop n)
 | _,_,0,r=>r
 | _,_,_ + 1,.nil=>.nil
 | _,_,n + 1,.cons _ t=>Vals.drop n t
def RelO:Option V->Option Value->Prop
 | some v,some u=>RelV v u
 | none,none=>True
 | _,_=>False
def KV {κ:Type}:List (κ × V)->List (κ × Value)->Prop:=Paired fun (p:κ × V) (q:κ × Value)=>p.1=q.1/\RelV p.2 q.2
def kV:Key->V
 | .inl i=>.int i
 | .inr x=>.str x
inductive HO where
 | lst (xs:List V)
 | tup (xs:List V)
 | dK (kvs:List (Key × V)) | dT (kvs:List (List Key × V))
 | set (S:Int->Bool) (n:Nat)
 | ins (C dx:Addr) (fs:List (Str × V))
 | own (x:Addr)
 | xd (fs:List (Str × V))
 | met (f x:Addr)
 | rng (lo hi:Int)
 | frz (o:Obj) (u:HO)
 | tbl (ps:Array Value)
 | ext (φ:Heap->Prop)
abbrev Hp:=Addr->Option HO
def upd (H:Hp) (a:Addr) (o:HO):Hp:=fun b=>if b=a then some o else H b
theorem Qai {H:Hp}{a:Addr}{o:HO}:upd H a o a=some o:=by unfold upd;rw[if_pos rfl]
theorem Qaj {H:Hp}{a b:Addr}{o:HO} (h:b≠a):upd H a o b=H b:=by unfold upd;rw[if_neg h]
theorem Qak {H:Hp}{a b:Addr}{o u:HO} (h:H a=some o) (h':H b=some u) (d:o≠u):a≠b:=by
 intro e;subst e;rw[h]at h';exact d (Option.some.inj h')
theorem Qal {H:Hp}{a b:Addr}{o:HO} (h:H a=some o) (h':H b=none):a≠b:=by
 intro e;subst e;rw[h]at h';cases h'
def IsTupD (h:Heap) (a:Addr) (its:Array Value):Prop:=∃ o,h.get? a=some o/\o.cls=.type "tuple"/\(∃ n,o.data=.seq its n)/\o.dict=none
theorem IsTupD.is {h:Heap}{a:Addr}{its:Array Value} (p:IsTupD h a its):IsTup h a its:=let ⟨o,e,c,d,_⟩:=p;⟨o,e,c,d⟩
theorem IsTupD.lt {h:Heap}{a:Addr}{its:Array Value} (p:IsTupD h a its):a < h.objs.size:=p.is.lt
theorem IsTupD.new (h:Heap) (its:Array Value):IsTupD (h.push { cls:=.type "tuple",data:=.seq its }) h.objs.size its:=⟨_,Heap.get?_push_size _ rfl,rfl,⟨_,rfl⟩,rfl⟩
section
variable (P:Program) (w:World)
def ObjOk (H:Hp) (h:Heap) (a:Addr):HO->Prop
 | .lst xs=>xs.length<=sizeLine/\∃ (its:List Value) (n:Nat),Vals xs its/\h.get? a=some { cls:=.type "list",data:=.seq its.toArray n }
 | .tup xs=>xs.length<=sizeLine/\∃ its:List Value,Vals xs its/\IsTupD h a its.toArray
 | .dK kvs=>kvs.length<=sizeLine/\(a == sysModules)=false/\∃ vs,KV kvs vs/\h.DictOf (mixKind P w) a vs
 | .dT kvs => kvs.length <= sizeLine /\ (a == sysModules) = false /\ ∃ xs : List (List Key × Addr × Value),
   Paired (fun (p:List Key × V) (q:List Key × Addr × Value)=>p.1=q.1/\H q.2.1=some (.tup (p.1.map kV))/\RelV p.2 q.2.2) kvs xs /\
   ∃ o es ep,h.get? a=some o/\o.ExactDict/\o.data=.dict es ep/\es.toList=xs.map (entryOfKey (tupleKind (mixKind P w)))/\(xs.map (·.1)).Nodup
 | .set S n=>h.SetOf (intKind P w) a S n
 | .ins C dx fs => H dx = some (.own a) /\ fs.length <= 1000 /\ dx ≠ a /\ h.get? a = some (PySem.W.instObj C dx) /\
   ∃ mA,h.Ns1 dx mA/\(∀ f,RelO (fs.lookup f) (mA f))/\PySem.Within mA (fs.map (·.1))
 | .own _=>∃ o,h.get? a=some o
 | .xd fs=>∃ mA,h.Ns1 a mA/\∀ f,RelO (fs.lookup f) (mA f)
 | .rng lo hi=>∃ t u v,h.get? a=some { cls:=.type "range",data:=.fields #[.int lo t,.int hi u,.int 1 v] }
 | .frz o u=>h.get? a=some o/\ObjOk H h a u
 | .tbl ps=>h.get? a=some { cls:=.none,data:=.fields ps }
 | .met f x=>h.get? a=some (PySem.W.methodObj (.ref f) (.ref x))
 | .ext φ=>φ h/\(∃ o,h.get? a=some o)/\∀ h1 h2:Heap,φ h1->(∀ o,h1.get? a=some o->h2.get? a=some o)->φ h2
def HOk (H:Hp) (h:Heap):Prop:=∀ a o,H a=some o->ObjOk P w H h a o
end
section
variable {P:Program}{w:World}{H H':Hp}{h h':Heap}{a:Addr}{o:HO}
theorem ObjOk.lt (x:ObjOk P w H h a o):a < h.objs.size:=by
 cases o with
 | lst xs=>obtain⟨_,_,_,_,e⟩:=x;exact Heap.lt_size e
 | tup xs=>obtain⟨_,_,_,p⟩:=x;exact p.lt
 | dK kvs=>obtain⟨_,_,_,_,o,_,_,e,_⟩:=x;exact Heap.lt_size e
 | dT kvs=>obtain⟨_,_,_,_,o,_,_,e,_⟩:=x;exact Heap.lt_size e
 | set S n=>obtain⟨o,_,_,_,e,_⟩:=x;exact Heap.lt_size e
 | ins C dx fs=>obtain⟨_,_,_,e,_⟩:=x;exact Heap.lt_size e
 | own y=>obtain⟨_,e⟩:=x;exact Heap.lt_size e
 | xd fs=>obtain⟨_,⟨_,_,_,e,_⟩,_⟩:=x;exact Heap.lt_size e
 | rng lo hi=>obtain⟨_,_,_,e⟩:=x;exact Heap.lt_size e
 | frz ob u=>obtain⟨e,_⟩:=x;exact Heap.lt_size e
 | tbl ps=>exact Heap.lt_size (show h.get? a=some _ from x)
 | met f y=>exact Heap.lt_size (show h.get? a=some _ from x)
 | ext φ=>obtain⟨_,⟨_,e⟩,_⟩:=x;exact Heap.lt_size e
theorem Paired.mapP {α β:Type}{F G:α->β->Prop}:∀ {l₁:List α}{l₂:List β},Paired F l₁ l₂->(∀ a b,F a b->G a b)->Paired G l₁ l₂
 | _,_,.nil,_=>.nil
 | _,_,.cons r t,f=>.cons (f _ _ r) (Paired.mapP t f)
theorem ObjOk.stay (x : ObjOk P w H h a o) (k : ∀ b u, (b = a \/ H b = some (.own a)) -> h.get? b = some u -> h'.get? b = some u)
  (ho:∀ b,H b=some (.own a)->H' b=some (.own a)) (ht:∀ b xs,H b=some (.tup xs)->H' b=some (.tup xs)):ObjOk P w H' h' a o:=by
 induction o with
 | lst xs=>obtain⟨z,its,n,r,e⟩:=x;exact⟨z,its,n,r,k _ _ (.inl rfl) e⟩
 | tup xs=>obtain⟨z,its,r,ob,e,c⟩:=x;exact⟨z,its,r,ob,k _ _ (.inl rfl) e,c⟩
 | dK kvs=>obtain⟨z,y,vs,r,ob,es,ep,e,c⟩:=x;exact⟨z,y,vs,r,ob,es,ep,k _ _ (.inl rfl) e,c⟩
 | dT kvs=>
  obtain⟨z,y,xs,r,ob,es,ep,e,c⟩:=x
  exact⟨z,y,xs,Paired.mapP r fun p q z=>⟨z.1,ht _ _ z.2.1,z.2.2⟩,ob,es,ep,k _ _ (.inl rfl) e,c⟩
 | set S n=>obtain⟨ob,es,ep,t,e,c⟩:=x;exact⟨ob,es,ep,t,k _ _ (.inl rfl) e,c⟩
 | ins C dx fs=>
  obtain⟨d,z,ne,e,mA,⟨od,es,ep,e2,c⟩,r⟩:=x
  exact⟨ho _ d,z,ne,k _ _ (.inl rfl) e,mA,⟨od,es,ep,k _ _ (.inr d) e2,c⟩,r⟩
 | own y=>obtain⟨ob,e⟩:=x;exact⟨ob,k _ _ (.inl rfl) e⟩
 | xd fs=>obtain⟨mA,⟨od,es,ep,e,c⟩,r⟩:=x;exact⟨mA,⟨od,es,ep,k _ _ (.inl rfl) e,c⟩,r⟩
 | rng lo hi=>obtain⟨t,u,v,e⟩:=x;exact⟨t,u,v,k _ _ (.inl rfl) e⟩
 | frz ob u ih=>obtain⟨e,q⟩:=x;exact⟨k _ _ (.inl rfl) e,ih q⟩
 | tbl ps=>
  have e:h.get? a=some { cls:=.none,data:=.fields ps }:=x
  show h'.get? a=some { cls:=.none,data:=.fields ps }
  exact k a _ (.inl rfl) e
 | met f y=>
  have e:h.get? a=some (PySem.W.methodObj (.ref f) (.ref y)):=x
  show h'.get? a=some (PySem.W.methodObj (.ref f) (.ref y))
  exact k a _ (.inl rfl) e
 | ext φ=>obtain⟨p,⟨o,e⟩,st⟩:=x;exact⟨st _ _ p fun o q=>k _ _ (.inl rfl) q,⟨o,k _ _ (.inl rfl) e⟩,st⟩
theorem HOk.lt (x:HOk P w H h) (e:H a=some o):a < h.objs.size:=(x a o e).lt
theorem HOk.fresh (x:HOk P w H h) (e:h.objs.size<=a):H a=none:=by
 cases q:H a with
 | none=>rfl
 | some u=>exact absurd (Nat.lt_of_lt_of_le (x.lt q) e) (Nat.lt_irrefl _)
theorem HOk.kept (x:HOk P w H h) (k:∀ b u,h.get? b=some u->h'.get? b=some u):HOk P w H h':=fun a o e=>
 (x a o e).stay (fun b u _ q=>k b u q) (fun _ q=>q) fun _ _ q=>q
theorem HOk.laid (x:HOk P w H h) (k:∀ b u,h.get? b=some u->h'.get? b=some u) (hp:h.objs.size<=a) (new:ObjOk P w (upd H a o) h' a o):HOk P w (upd H a o) h':=fun b u e=>by
 have hn:=x.fresh hp
 by_cases hb:b=a
 ·subst hb;rw[Qai]at e;cases e;exact new
 ·rw[Qaj hb]at e
  exact (x b u e).stay (fun c v _ q=>k c v q) (fun c q=>by rw[Qaj (Qal q hn)];exact q) fun c xs q=>by rw[Qaj (Qal q hn)];exact q
end
def Rd (H:Hp) (a:Addr) (u:HO):Prop:=H a=some u\/∃ o,H a=some (.frz o u)
theorem Rd.ok {P:Program}{w:World}{H:Hp}{h:Heap}{a:Addr}{u:HO} (r:Rd H a u) (x:HOk P w H h):ObjOk P w H h a u:=by
 rcases r with r | ⟨o,r⟩
 ·exact x a u r
 ·obtain⟨_,q⟩:=x a _ r
  exact q
def Mut:Option HO->Prop
 | some (.lst _)=>True
 | some (.dK _)=>True
 | some (.dT _)=>True
 | some (.set _ _)=>True
 | some (.ins _ _ _)=>True
 | some (.ext _)=>True
 | _=>False
section
variable {P:Program}{w:World}{H:Hp}{h h':Heap}{x e:Addr}{o':HO}
theorem HOk.write (ok : HOk P w H h) (mu : Mut (H x)) (he : e = x \/ H e = some (.own x)) (k : ∀ b u, b ≠ e -> h.get? b = some u -> h'.get? b = some u) (heo : ∃ u, h'.get? e = some u)
  (new:ObjOk P w (upd H x o') h' x o'):HOk P w (upd H x o') h':=fun b u q=>by
 have nown:∀ c y,H c=some (.own y)->c≠x:=fun c y r z=>by subst z;rw[r]at mu;exact mu
 have ntup:∀ c xs,H c=some (.tup xs)->c≠x:=fun c xs r z=>by subst z;rw[r]at mu;exact mu
 by_cases hb:b=x
 ·subst hb;rw[Qai]at q;cases q;exact new
 ·rw[Qaj hb]at q
  by_cases hbe:b=e
  ·have q' : H b = some (.own x) := by
     rcases he with z | z
     ·exact absurd (hbe.trans z) hb
     ·rw[hbe];exact z
   rw[q]at q';cases q'
   obtain⟨v,hv⟩:=heo
   exact⟨v,by rw[hbe];exact hv⟩
  ·refine (ok b u q).stay (fun c v hc r=>k c v ?_ r) (fun c r=>by rw[Qaj (nown c b r)];exact r) fun c xs r=>by rw[Qaj (ntup c xs r)];exact r
   rcases hc with rfl | hc
   ·exact hbe
   ·rintro rfl
    rcases he with z | z
    ·exact nown c b hc z
    ·rw[hc]at z;cases z;exact hb rfl
end
structure Un (fs ex:List Addr) (H H':Hp) (h h':Heap):Prop where
 keep:∀ b o,h.get? b=some o->H b=none->b∉fs->b∉ex->h'.get? b=some o
 slot:∀ b o,h.get? b=some o->H b=none->b∈fs->b∉ex->∃ sl,h'.get? b=some { o with slots:=sl }
 free:∀ b o,h.get? b=some o->H b=none->b∉ex->H' b=none
 there:∀ b o,h.get? b=some o->b∉ex->∃ o',h'.get? b=some o'
 tups:∀ b xs,H b=some (.tup xs)->H' b=some (.tup xs)
 frzs:∀ b o u,H b=some (.frz o u)->H' b=some (.frz o u)
 tbls:∀ b ps,H b=some (.tbl ps)->∃ more,H' b=some (.tbl (ps++more))
section
variable {fs fs' ex ex':List Addr}{H H1 H2:Hp}{h h1 h2 h':Heap}{a x e:Addr}{o:HO}
theorem Un.any (u:Un fs ex H H1 h h1) {b:Addr}{ob:Obj} (q:h.get? b=some ob) (n:H b=none) (hx:b∉ex):∃ sl,h1.get? b=some { ob with slots:=sl }:=by
 by_cases hb:b∈fs
 ·exact u.slot b ob q n hb hx
 ·exact⟨ob.slots,u.keep b ob q n hb hx⟩
theorem Un.kept (k:∀ b u,h.get? b=some u->h'.get? b=some u):Un fs ex H H h h':=
 ⟨fun b ob q _ _ _=>k b ob q,fun b ob q _ _ _=>⟨ob.slots,k b ob q⟩,fun _ _ _ n _=>n,fun b ob q _=>⟨ob,k b ob q⟩,fun _ _ q=>q,fun _ _ _ q=>q,fun _ ps q=>⟨#[],by rw[q];simp⟩⟩
theorem Un.refl:Un fs ex H H h h:=Un.kept fun _ _ q=>q
theorem Un.laid (k:∀ b u,h.get? b=some u->h'.get? b=some u) (hp:h.objs.size<=a) (hn:H a=none):Un fs ex H (upd H a o) h h' where
 keep:=fun b u q _ _ _=>k b u q
 slot:=fun b u q _ _ _=>⟨u.slots,k b u q⟩
 free:=fun b u q n _=>by rw[Qaj (Nat.ne_of_lt (Nat.lt_of_lt_of_le (Heap.lt_size q) hp))];exact n
 there:=fun b u q _=>⟨u,k b u q⟩
 tups:=fun b xs q=>by rw[Qaj (Qal q hn)];exact q
 frzs:=fun b u xs q=>by rw[Qaj (Qal q hn)];exact q
 tbls:=fun b ps q=>⟨#[],by rw[Qaj (Qal q hn),q];simp⟩
theorem Un.write (mu:Mut (H x)) (he:e=x\/H e=some (.own x)) (k:∀ b u,b≠e->h.get? b=some u->h'.get? b=some u) (heo:∃ u,h'.get? e=some u):Un fs ex H (upd H x o) h h':=by
 have hx:∀ b,H b=none->b≠x:=fun b n z=>by subst z;rw[n]at mu;exact mu
 have hb:∀ b,H b=none->b≠e:=fun b n z=>by
  subst z
  rcases he with r | r
  ·exact hx b n r
  ·rw[n]at r;cases r
 have hm:∀ b u,H b=some u->¬ Mut (some u)->b≠x:=fun b u q nm z=>by subst z;rw[q]at mu;exact nm mu
 refine⟨fun b u q n _ _=>k b u (hb b n) q,fun b u q n _ _=>⟨u.slots,k b u (hb b n) q⟩,fun b u q n _=>by rw[Qaj (hx b n)];exact n,fun b u q _=>?_,
  fun b xs q=>by rw[Qaj (hm b _ q fun z=>z)];exact q,fun b u xs q=>by rw[Qaj (hm b _ q fun z=>z)];exact q,fun b ps q=>⟨#[],by rw[Qaj (hm b _ q fun z=>z),q];simp⟩⟩
 by_cases hbe:b=e
 ·subst hbe;exact heo
 ·exact⟨u,k b u hbe q⟩
end
def trk (h:Heap) (H:Hp):List Addr:=(List.range h.objs.size).filter fun a=>(H a).isSome
def hidT (h:Heap) (H:Hp):Heap:=PySem.W.hideAll h (trk h H)
theorem Qam (h:Heap) (H:Hp):(hidT h H).objs.size=h.objs.size:=PySem.W.hideAll_size _ _
theorem Qan {h:Heap}{H:Hp}{b:Addr}{o:Obj} (e:h.get? b=some o) (n:H b=none):(hidT h H).get? b=some o:=
 PySem.W.hideAll_get _ e fun hm=>by
  have q:(H b).isSome=true:=(List.mem_filter.mp hm).2
  rw[n]at q;simp at q
theorem Qao {h:Heap}{H:Hp}{b:Addr}{o:Obj} (e:(hidT h H).get? b=some o):h.get? b=some o/\H b=none:=by
 have e':h.get? b=some o:=PySem.W.of_hideAll (trk h H) e
 refine⟨e',?_⟩
 cases q:H b with
 | none=>rfl
 | some x=>
  have hm:b∈trk h H:=List.mem_filter.mpr ⟨List.mem_range.mpr (Heap.lt_size e'),by simp[q]⟩
  have z:(hidT h H).get? b=none:=PySem.W.hideAll_none (trk h H) hm
  rw[z]at e;cases e
def allNews (g h:Heap) (L:Addr):List (Addr × Obj):=(List.range h.objs.size).filterMap fun a=>if a=L\/(g.get? a).isSome=true then none else (h.get? a).map fun o=>(a,o)
def rest (g h:Heap) (L d:Addr):List (Addr × Obj):=(allNews g h L).filter fun p=>decide (p.1≠d)
structure Mod (K:PySem.W.Frag) (mg:Str->Option Value) (base:Heap):Prop where
 kin:K.In base
 glob:base.Ns mainGlobals mg
 blt:∃ mb,base.Ns builtinsNs mb/\∀ x:Str,x≠"__name__"->mb x=bootBuiltins x
 nolimit:base.NoLimit
structure Cx where
 prog:Program
 w:World
 K:PySem.W.Frag
 mg:Str->Option Value
 base:Heap
 A:Around
 N:List Str
 s₀:Shared
 H₀:Hp
 env:Env
 outer:List Env
 stack:List Env
 ex:List Addr
 fn:Str->Bool
 calm:Bool
 pn:List (Addr × Obj)
 xe:Value->Shared->Prop
def frs (l:List Env):List Addr:=l.filterMap (·.frame)
abbrev Cx.fs (X:Cx):List Addr:=frs X.outer
def Vis (sc:Scope) (x:Str):Prop:=sc.names.lookup x=some .local\/sc.names.lookup x=some .cell\/sc.names.lookup x=some .free
def Loc (sc:Scope) (x:Str):Prop:=sc.names.lookup x=some .local\/sc.names.lookup x=some .cell
def Look (env:Env) (h:Heap) (m:Str->Option Value) (x:Str) (u:Value):Prop:=
 (env.kindOf x=some .local/\m x=some u)\/((env.kindOf x=some .cell\/env.kindOf x=some .free)/\∃ c,env.cells.lookup x=some c/\h.IsCell c (some u))
structure Cx.Ok (X:Cx):Prop where
 mod:Mod X.K X.mg X.base
 kind:X.env.scope.kind=.function
 glob:X.env.globals=mainGlobals
 blt:X.env.builtins=builtinsNs
 above:X.s₀.heap.objs.size<=X.env.locals
 inj:∀ x y c,X.env.cells.lookup x=some c->X.env.cells.lookup y=some c->x=y
 has:∀ x,(X.env.kindOf x=some .cell\/X.env.kindOf x=some .free)->∃ c,X.env.cells.lookup x=some c
 cab:∀ x c,X.fn x=true->X.env.cells.lookup x=some c->X.s₀.heap.objs.size<=c
 hd:X.calm=true->X.A.handled=none
 frames:X.A.frames=some X.stack
 stk:X.stack=X.outer\/(X.stack=X.env::X.outer/\X.env.frame=some X.env.locals)
 exf:∀ b∈X.ex,b≠X.env.locals/\∀ x c,X.env.cells.lookup x=some c->c≠b
 bs:∀ b o,X.base.get? b=some o->X.s₀.heap.get? b=some o/\X.H₀ b=none
 bsz:X.base.objs.size<=X.s₀.heap.objs.size
 noex:∀ b o,X.base.get? b=some o->b∉X.ex
 exfs:∀ b∈X.ex,b∉X.fs
 funs:X.s₀.heap.FunFrames X.base X.outer
 frf:∀ b∈X.fs,X.H₀ b=none
structure Inv (X:Cx) (pins:List (Addr × Obj)) (σ:List (Option V)) (H:Hp) (s:Shared):Prop where
 ok:X.Ok
 os:s.os=X.s₀.os
 bare:AllBare s.gens
 base:Un X.fs X.ex X.H₀ H X.s₀.heap s.heap
 loc:∃ m,s.heap.Ns X.env.locals m/\∀ (i:Nat) (x:Str) (v:V),X.N[i]?=some x->σ[i]?=some (some v)->Vis X.env.scope x->∃ u,RelV v u/\Look X.env s.heap m x u
 cell:∀ x c,X.env.cells.lookup x=some c->∃ v,s.heap.IsCell c v
 free:H X.env.locals=none
 freeC:∀ x c,X.env.cells.lookup x=some c->H c=none
 pin:∀ p∈X.pn++pins,s.heap.get? p.1=some p.2/\H p.1=none/\p.1≠X.env.locals/\p.1∉X.fs/\∀ v,p.2.data≠.cell v
 hok:HOk X.prog X.w H s.heap
 len:σ.length=X.N.length
section
variable {X:Cx}{pins:List (Addr × Obj)}{σ:List (Option V)}{H H':Hp}{s:Shared}{h':Heap}
theorem Cx.Ok.nofr (ok:X.Ok) {b:Addr}{o:Obj} (e:X.base.get? b=some o):b∉X.fs:=fun hb=>by
 have:=(ok.funs.mem hb).1
 rw[e]at this;cases this
theorem Inv.bs (I:Inv X pins σ H s):∀ b o,X.base.get? b=some o->s.heap.get? b=some o/\H b=none:=fun b o e=>
 ⟨I.base.keep b o (I.ok.bs b o e).1 (I.ok.bs b o e).2 (I.ok.nofr e) (I.ok.noex b o e),I.base.free b o (I.ok.bs b o e).1 (I.ok.bs b o e).2 (I.ok.noex b o e)⟩
theorem Inv.bk (I:Inv X pins σ H s):∀ b o,X.base.get? b=some o->s.heap.get? b=some o:=fun b o e=>(I.bs b o e).1
theorem Inv.mod (I:Inv X pins σ H s):Mod X.K X.mg X.base:=I.ok.mod
theorem Inv.kIn (I:Inv X pins σ H s):X.K.In s.heap:=I.ok.mod.kin.keeps I.bk
theorem Inv.lt (I:Inv X pins σ H s):X.env.locals < s.heap.objs.size:=let ⟨_,hn,_⟩:=I.loc;hn.lt
theorem Inv.sz (I:Inv X pins σ H s):X.s₀.heap.objs.size<=s.heap.objs.size:=Nat.le_trans I.ok.above (Nat.le_of_lt I.lt)
theorem Inv.nofs (I:Inv X pins σ H s) {a:Addr} (h:s.heap.objs.size<=a):a∉X.fs:=fun hb=>by
 obtain⟨_,o,ho,_⟩:=I.ok.funs.mem hb
 exact absurd (Nat.lt_of_lt_of_le (Heap.lt_size ho) (Nat.le_trans I.sz h)) (Nat.lt_irrefl _)
theorem Inv.cne (I:Inv X pins σ H s):∀ x c,X.env.cells.lookup x=some c->c≠X.env.locals:=fun x c e z=>by
 obtain⟨v,o,ho,hd⟩:=I.cell x c e
 obtain⟨m,⟨o',es,ep,ho',hd',_⟩,_⟩:=I.loc
 rw[z,ho']at ho;cases ho;rw[hd']at hd;cases hd
theorem Inv.funs (I:Inv X pins σ H s):s.heap.FunFrames X.base X.outer:=by
 have all:∀ (l:List Env),(∀ b∈frs l,b∈X.fs)->X.s₀.heap.FunFrames X.base l->s.heap.FunFrames X.base l:=by
  intro l
  induction l with
  | nil=>intro _ _;trivial
  | cons env r ih=>
   intro hs hl
   obtain⟨hk,⟨L,o,hf,hn,ho,hd⟩,hr⟩:=hl
   have hL:L∈X.fs:=hs L (by unfold frs;rw[List.filterMap_cons,hf];exact List.mem_cons_self)
   obtain⟨sl,e⟩:=I.base.slot L o ho (I.ok.frf L hL) hL fun z=>I.ok.exfs L z hL
   exact⟨hk,⟨L,_,hf,hn,e,hd⟩,ih (fun b hb=>hs b (by unfold frs;rw[List.filterMap_cons,hf];exact List.mem_cons_of_mem _ hb)) hr⟩
 exact all X.outer (fun _ hb=>hb) I.ok.funs
theorem Inv.stack (I:Inv X pins σ H s):s.heap.FunFrames X.base X.stack:=by
 rcases I.ok.stk with e | ⟨e,hf⟩
 ·rw[e];exact I.funs
 ·rw[e]
  obtain⟨m,hn,_⟩:=I.loc
  refine .cons (by rw[I.ok.kind];decide) hf hn ?_ I.funs
  exact Heap.get?_none_of_le (Nat.le_trans I.ok.bsz I.ok.above)
theorem Inv.stkSub (I:Inv X pins σ H s):∀ b∈frs X.stack,b∈X.env.locals::X.fs:=fun b hb=>by
 rcases I.ok.stk with e | ⟨e,hf⟩
 ·rw[e]at hb;exact List.mem_cons_of_mem _ hb
 ·rw[e]at hb
  unfold frs at hb
  rw[List.filterMap_cons,hf]at hb
  exact hb
theorem Inv.stkFree (I:Inv X pins σ H s):∀ b∈frs X.stack,H b=none:=fun b hb=>by
 rcases List.mem_cons.mp (I.stkSub b hb) with e | hb
 ·rw[e];exact I.free
 ·obtain⟨_,o,ho,_⟩:=I.ok.funs.mem hb
  exact I.base.free b o ho (I.ok.frf b hb) fun z=>I.ok.exfs b z hb
theorem Inv.step {g' : Array GenState} {t' : Nat} {d' : Drawn} {ch : List Addr} (I : Inv X pins σ H s)
  (hch:∀ b∈ch,(b∈X.ex\/X.s₀.heap.objs.size<=b)/\b≠X.env.locals/\(∀ x c,X.env.cells.lookup x=some c->c≠b)/\∀ p∈X.pn++pins,p.1≠b)
  (keep:∀ b o,b≠X.env.locals->b∉X.fs->b∉ch->s.heap.get? b=some o->H b=none->h'.get? b=some o)
  (slot:∀ b o,b≠X.env.locals->b∈X.fs->b∉ch->s.heap.get? b=some o->H b=none->∃ sl,h'.get? b=some { o with slots:=sl }) (free:∀ b o,b∉ch->s.heap.get? b=some o->H b=none->H' b=none)
  (there:∀ b o,b∉ch->s.heap.get? b=some o->∃ o',h'.get? b=some o')
  (tups:∀ b xs,H b=some (.tup xs)->H' b=some (.tup xs)) (frzs:∀ b o u,H b=some (.frz o u)->H' b=some (.frz o u)) (tbls:∀ b ps,H b=some (.tbl ps)->∃ more,H' b=some (.tbl (ps++more)))
  (ns:∀ m,s.heap.Ns X.env.locals m->h'.Ns X.env.locals m) (hok:HOk X.prog X.w H' h') (hg:AllBare g'):
  Inv X pins σ H' { s with heap:=h',gens:=g',drawn:=d',toks:=t' }:=by
 have neL:∀ b o,X.s₀.heap.get? b=some o->b≠X.env.locals:=fun b o e=>Nat.ne_of_lt (Nat.lt_of_lt_of_le (Heap.lt_size e) I.ok.above)
 have neC:∀ b o,X.s₀.heap.get? b=some o->b∉X.ex->b∉ch:=fun b o e hx hb=>by
  rcases (hch b hb).1 with z | z
  ·exact hx z
  ·exact absurd (Nat.lt_of_lt_of_le (Heap.lt_size e) z) (Nat.lt_irrefl _)
 have cellK:∀ x c,X.env.cells.lookup x=some c->∀ v,s.heap.IsCell c v->h'.IsCell c v:=fun x c e v pq1=>by
  obtain⟨o,ho,hd⟩:=pq1
  have nch:c∉ch:=fun z=>(hch c z).2.2.1 x c e rfl
  by_cases hc:c∈X.fs
  ·obtain⟨sl,q⟩:=slot c o (I.cne x c e) hc nch ho (I.freeC x c e)
   exact⟨_,q,hd⟩
  ·exact⟨o,keep c o (I.cne x c e) hc nch ho (I.freeC x c e),hd⟩
 refine⟨I.ok,I.os,hg,⟨fun b o e n hb hx=>?_,fun b o e n hb hx=>?_,fun b o e n hx=>?_,fun b o e hx=>?_,fun b xs e=>tups b xs (I.base.tups b xs e),fun b o xs e=>frzs b o xs (I.base.frzs b o xs e),fun b ps e=>?_⟩,?_,fun x c e=>?_,?_,fun x c e=>?_,fun p hp=>?_,hok,I.len⟩
 ·exact keep b o (neL b o e) hb (neC b o e hx) (I.base.keep b o e n hb hx) (I.base.free b o e n hx)
 ·obtain⟨sl,e1⟩:=I.base.slot b o e n hb hx
  obtain⟨sl',e2⟩:=slot b _ (neL b o e) hb (neC b o e hx) e1 (I.base.free b o e n hx)
  exact⟨sl',e2⟩
 ·obtain⟨o',e1⟩:=I.base.there b o e hx
  exact free b o' (neC b o e hx) e1 (I.base.free b o e n hx)
 ·obtain⟨o',e1⟩:=I.base.there b o e hx
  exact there b o' (neC b o e hx) e1
 ·obtain⟨m1,e1⟩:=I.base.tbls b ps e
  obtain⟨m2,e2⟩:=tbls b _ e1
  exact⟨m1++m2,by rw[e2,Array.append_assoc]⟩
 ·obtain⟨m,hn,hl⟩:=I.loc
  refine⟨m,ns m hn,fun i x v e1 e2 e3=>?_⟩
  obtain⟨u,r,l⟩:=hl i x v e1 e2 e3
  refine⟨u,r,?_⟩
  rcases l with l | ⟨k,c,e,z⟩
  ·exact .inl l
  ·exact .inr ⟨k,c,e,cellK x c e _ z⟩
 ·obtain⟨v,z⟩:=I.cell x c e
  exact⟨v,cellK x c e v z⟩
 ·obtain⟨m,⟨o,_,_,ho,_⟩,_⟩:=I.loc
  exact free _ o (fun z=>(hch _ z).2.1 rfl) ho I.free
 ·obtain⟨v,o,ho,hd⟩:=I.cell x c e
  exact free c o (fun z=>(hch c z).2.2.1 x c e rfl) ho (I.freeC x c e)
 ·obtain⟨e,n,ne,nf,d⟩:=I.pin p hp
  have nch:p.1∉ch:=fun z=>(hch p.1 z).2.2.2 p hp rfl
  exact⟨keep p.1 p.2 ne nf nch e n,free p.1 p.2 nch e n,ne,nf,d⟩
theorem Inv.un {t':Nat} (I:Inv X pins σ H s) (u:Un X.fs [] H H' s.heap h') (hok:HOk X.prog X.w H' h'):Inv X pins σ H' { s with heap:=h',toks:=t' }:=by
 obtain⟨m,⟨o,es,ep,ho,r⟩,_⟩:=id I.loc
 obtain⟨sl,hL⟩:=u.any ho I.free (by simp)
 exact I.step (g':=s.gens) (d':=s.drawn) (ch:=[]) (fun _ z=>nomatch z) (fun b o _ hb _ e n=>u.keep b o e n hb (by simp)) (fun b o _ hb _ e n=>u.slot b o e n hb (by simp)) (fun b o _ e n=>u.free b o e n (by simp)) (fun b o _ e=>u.there b o e (by simp)) u.tups u.frzs u.tbls (fun m' hm=>by
  obtain⟨o',es',ep',ho',r'⟩:=hm
  rw[ho]at ho';cases ho'
  exact⟨_,es',ep',hL,r'⟩) hok I.bare
theorem Inv.call {g' : Array GenState} {t' : Nat} {d' : Drawn} {ch : List Addr} (I : Inv X pins σ H s) (u : Un (frs X.stack) ch H H' s.heap h') (hok : HOk X.prog X.w H' h') (hg : AllBare g')
  (hch:∀ b∈ch,(b∈X.ex\/X.s₀.heap.objs.size<=b)/\b≠X.env.locals/\(∀ x c,X.env.cells.lookup x=some c->c≠b)/\∀ p∈X.pn++pins,p.1≠b):
  Inv X pins σ H' { s with heap:=h',gens:=g',drawn:=d',toks:=t' }:=by
 obtain⟨m,⟨o,es,ep,ho,r⟩,_⟩:=id I.loc
 obtain⟨sl,hL⟩:=u.any ho I.free fun z=>(hch _ z).2.1 rfl
 exact I.step (ch:=ch) hch (fun b o hL hb hc e n=>u.keep b o e n (fun z=>(List.mem_cons.mp (I.stkSub b z)).elim hL hb) hc) (fun b o _ _ hc e n=>u.any e n hc) (fun b o hc e n=>u.free b o e n hc) (fun b o hc e=>u.there b o e hc) u.tups u.frzs u.tbls (fun m' hm=>by
  obtain⟨o',es',ep',ho',r'⟩:=hm
  rw[ho]at ho';cases ho'
  exact⟨_,es',ep',hL,r'⟩) hok hg
theorem Inv.turned {t' : Nat} {it : Addr} (I : Inv X pins σ H s) (k : ∀ b o, b ≠ it -> s.heap.get? b = some o -> h'.get? b = some o) (hn : H it = none) (hL : it ≠ X.env.locals)
  (h1:it∈X.ex\/X.s₀.heap.objs.size<=it) (h2:∀ x c,X.env.cells.lookup x=some c->c≠it) (h3:∀ p∈X.pn++pins,p.1≠it):Inv X pins σ H { s with heap:=h',toks:=t' }:=by
 have nit:∀ b u,H b=some u->b≠it:=fun b u e z=>by rw[z,hn]at e;cases e
 refine I.step (g':=s.gens) (d':=s.drawn) (ch:=[it]) (fun b hb=>?_) (fun b o _ _ hc e _=>k b o (fun z=>hc (by simp[z])) e) (fun b o _ _ hc e _=>⟨o.slots,k b o (fun z=>hc (by simp[z])) e⟩) (fun _ _ _ _ n=>n)
  (fun b o hc e=>⟨o,k b o (fun z=>hc (by simp[z])) e⟩) (fun _ _ e=>e) (fun _ _ _ e=>e) (fun b ps e=>⟨#[],by rw[e];simp⟩) (fun m hm=>?_) (fun b u e=>?_) I.bare
 ·have e:b=it:=by simpa using hb
  subst e
  exact⟨h1,hL,h2,h3⟩
 ·obtain⟨o,es,ep,ho,r⟩:=hm
  exact⟨o,es,ep,k _ o (Ne.symm hL) ho,r⟩
 ·refine (I.hok b u e).stay (fun c v hc q=>k c v ?_ q) (fun _ q=>q) fun _ _ q=>q
  rcases hc with z | z
  ·rw[z];exact nit b u e
  ·exact nit c _ z
theorem Inv.tok (I:Inv X pins σ H s) (t:Nat):Inv X pins σ H { s with toks:=t }:=I.un (h':=s.heap) (t':=t) Un.refl I.hok
theorem Inv.kept {t':Nat} (I:Inv X pins σ H s) (k:∀ b u,s.heap.get? b=some u->h'.get? b=some u):Inv X pins σ H { s with heap:=h',toks:=t' }:=I.un (Un.kept k) (I.hok.kept k)
theorem Inv.laid {a : Addr} {o : HO} {t' : Nat} (I : Inv X pins σ H s) (k : ∀ b u, s.heap.get? b = some u -> h'.get? b = some u) (hp : s.heap.objs.size <= a) (new : ObjOk X.prog X.w (upd H a o) h' a o) :
  Inv X pins σ (upd H a o) { s with heap:=h',toks:=t' }:=I.un (Un.laid k hp (I.hok.fresh hp)) (I.hok.laid k hp new)
theorem Inv.write {x e : Addr} {o : HO} {t' : Nat} (I : Inv X pins σ H s) (mu : Mut (H x)) (he : e = x \/ H e = some (.own x)) (k : ∀ b u, b ≠ e -> s.heap.get? b = some u -> h'.get? b = some u) (heo : ∃ u, h'.get? e = some u)
  (new:ObjOk X.prog X.w (upd H x o) h' x o):Inv X pins σ (upd H x o) { s with heap:=h',toks:=t' }:=I.un (Un.write mu he k heo) (I.hok.write mu he k heo new)
theorem Inv.pins_of {pins':List (Addr × Obj)} (I:Inv X pins σ H s) (h:∀ p∈pins',s.heap.get? p.1=some p.2/\H p.1=none/\p.1≠X.env.locals/\p.1∉X.fs/\∀ v,p.2.data≠.cell v):Inv X pins' σ H s:=
 ⟨I.ok,I.os,I.bare,I.base,I.loc,I.cell,I.free,I.freeC,fun p hp=>(List.mem_append.mp hp).elim (fun z=>I.pin p (List.mem_append_left _ z)) (h p),I.hok,I.len⟩
theorem Qap {N:List Str} (hN:N.Nodup) {i j:Nat}{x:Str} (a:N[i]?=some x) (b:N[j]?=some x):i=j:=by
 obtain⟨h1,e1⟩:=List.getElem?_eq_some_iff.mp a
 obtain⟨h2,e2⟩:=List.getElem?_eq_some_iff.mp b
 exact (List.getElem_inj hN).mp (e1.trans e2.symm)
theorem Qaq {M : Model} {A : Around} {E : Value -> Shared -> Prop} {i : Nat} {x : Str} {v : V} {u : Value} {Q : Unit -> Shared -> Prop} (I : Inv X pins σ H s) (hN : X.N.Nodup) (hi : X.N[i]? = some x) (hx : Loc X.env.scope x) (r : RelV v u)
  (h:∀ s',Inv X pins (σ.set i (some v)) H s'->(∃ a,Heap.SameBut a s.heap s'.heap/\(a=X.env.locals\/X.env.cells.lookup x=some a))->Q () s') (hf:X.fn x=true\/X.env.scope.names.lookup x=some .local:=by first | exact .inl rfl | exact .inr rfl | assumption):wpAny M A (storeName X.env x u) Q E s:=by
 obtain⟨m,hn,hl⟩:=id I.loc
 have hcls:(X.env.scope.kind == .class || (X.env.scope.kind == .module && X.env.locals != X.env.globals))=false:=by rw[I.ok.kind];rfl
 have hiσ:i < σ.length:=by rw[I.len];exact (List.getElem?_eq_some_iff.mp hi).1
 have cne:=I.cne
 have tracked:∀ {a:Addr}{h':Heap},(∃ o,s.heap.get? a=some o/\H a=none)->Heap.SameBut a s.heap h'->HOk X.prog X.w H h':=fun {a h'} ha hs b ob e=>by
  obtain⟨_,_,hfree⟩:=ha
  refine (I.hok b ob e).stay (fun c w' hc q=>(hs.2 c ?_).trans q) (fun _ q=>q) fun _ _ q=>q
  rintro rfl
  rcases hc with rfl | hc
  ·rw[hfree]at e;cases e
  ·rw[hfree]at hc;cases hc
 rcases hx with hk | hk
 ·refine wpAny_storeName_local hk hn (fun h' hn' hs=>?_) hcls
  obtain⟨oL,_,_,hoL,_⟩:=id hn
  refine h _ ⟨I.ok,I.os,I.bare,⟨fun b o e n hb hx=>?_,fun b o e n hb hx=>?_,I.base.free,fun b o e hx=>?_,I.base.tups,I.base.frzs,I.base.tbls⟩,⟨_,hn',fun j y v' e1 e2 e3=>?_⟩,fun y c e=>?_,I.free,I.freeC,fun p hp=>?_,tracked ⟨oL,hoL,I.free⟩ hs,by simpa using I.len⟩ ⟨_,hs,.inl rfl⟩
  ·exact (hs.2 b (Nat.ne_of_lt (Nat.lt_of_lt_of_le (Heap.lt_size e) I.ok.above))).trans (I.base.keep b o e n hb hx)
  ·obtain⟨sl,e1⟩:=I.base.slot b o e n hb hx
   exact⟨sl,(hs.2 b (Nat.ne_of_lt (Nat.lt_of_lt_of_le (Heap.lt_size e) I.ok.above))).trans e1⟩
  ·obtain⟨o',e1⟩:=I.base.there b o e hx
   exact⟨o',(hs.2 b (Nat.ne_of_lt (Nat.lt_of_lt_of_le (Heap.lt_size e) I.ok.above))).trans e1⟩
  ·by_cases hj:j=i
   ·subst hj
    rw[hi]at e1;cases e1
    rw[List.getElem?_set_self hiσ]at e2
    cases e2
    exact⟨u,r,.inl ⟨hk,by simp⟩⟩
   ·rw[List.getElem?_set_ne (Ne.symm hj)]at e2
    obtain⟨u',r',q⟩:=hl j y v' e1 e2 e3
    refine⟨u',r',?_⟩
    rcases q with ⟨k,e⟩ | ⟨k,c,e,z⟩
    ·refine .inl ⟨k,?_⟩
     have:y≠x:=fun e=>hj (Qap hN e1 (e ▸ hi))
     simp[this,e]
    ·exact .inr ⟨k,c,e,z.sameBut hs (cne y c e)⟩
  ·obtain⟨w',z⟩:=I.cell y c e
   exact⟨w',z.sameBut hs (cne y c e)⟩
  ·obtain⟨e,n,ne,nf,d⟩:=I.pin p hp
   exact⟨(hs.2 p.1 ne).trans e,n,ne,nf,d⟩
 ·have hfn : X.fn x = true := by
    rcases hf with z | z
    ·exact z
    ·rw[z]at hk;cases hk
  obtain⟨c,hc⟩:=I.ok.has x (.inl hk)
  obtain⟨w',z⟩:=I.cell x c hc
  refine wpAny_storeName_cell I.ok.kind hk hc z (fun h' hc' hs=>?_)
  obtain⟨oc,hoc,hocd⟩:=id z
  refine h { s with heap:=h' } ⟨I.ok,I.os,I.bare,⟨fun b o e n hb hx=>?_,fun b o e n hb hx=>?_,I.base.free,fun b o e hx=>?_,I.base.tups,I.base.frzs,I.base.tbls⟩,⟨m,hn.sameBut hs (Ne.symm (cne x c hc)),fun j y v' e1 e2 e3=>?_⟩,fun y c' e=>?_,I.free,I.freeC,fun p hp=>?_,tracked ⟨oc,hoc,I.freeC x c hc⟩ hs,by simpa using I.len⟩ ⟨c,hs,.inr hc⟩
  ·exact (hs.2 b (Nat.ne_of_lt (Nat.lt_of_lt_of_le (Heap.lt_size e) (I.ok.cab x c hfn hc)))).trans (I.base.keep b o e n hb hx)
  ·obtain⟨sl,e1⟩:=I.base.slot b o e n hb hx
   exact⟨sl,(hs.2 b (Nat.ne_of_lt (Nat.lt_of_lt_of_le (Heap.lt_size e) (I.ok.cab x c hfn hc)))).trans e1⟩
  ·obtain⟨o',e1⟩:=I.base.there b o e hx
   exact⟨o',(hs.2 b (Nat.ne_of_lt (Nat.lt_of_lt_of_le (Heap.lt_size e) (I.ok.cab x c hfn hc)))).trans e1⟩
  ·by_cases hj:j=i
   ·subst hj
    rw[hi]at e1;cases e1
    rw[List.getElem?_set_self hiσ]at e2
    cases e2
    exact⟨u,r,.inr ⟨.inl hk,c,hc,hc'⟩⟩
   ·rw[List.getElem?_set_ne (Ne.symm hj)]at e2
    obtain⟨u',r',q⟩:=hl j y v' e1 e2 e3
    refine⟨u',r',?_⟩
    rcases q with q | ⟨k,c',e,z'⟩
    ·exact .inl q
    ·refine .inr ⟨k,c',e,z'.sameBut hs ?_⟩
     rintro rfl
     exact hj (Qap hN e1 (I.ok.inj _ _ _ e hc ▸ hi))
  ·by_cases hcc:c'=c
   ·subst hcc;exact⟨_,hc'⟩
   ·obtain⟨w2,z2⟩:=I.cell y c' e
    exact⟨w2,z2.sameBut hs hcc⟩
  ·obtain⟨e,n,ne,nf,d⟩:=I.pin p hp
   refine⟨(hs.2 p.1 ?_).trans e,n,ne,nf,d⟩
   intro q
   rw[q,hoc]at e
   have q':oc=p.2:=Option.some.inj e
   exact d w' (by rw[<- q'];exact hocd)
theorem Qar {M : Model} {A : Around} {E : Value -> Shared -> Prop} {i : Nat} {x : Str} {v : V} {u : Value} {Q : Unit -> Shared -> Prop} (I : Inv X pins σ H s) (hN : X.N.Nodup) (hi : X.N[i]? = some x) (hx : Loc X.env.scope x) (r : RelV v u)
  (h:∀ s',Inv X pins (σ.set i (some v)) H s'->Q () s') (hf:X.fn x=true\/X.env.scope.names.lookup x=some .local:=by first | exact .inl rfl | exact .inr rfl | assumption):wpAny M A (storeName X.env x u) Q E s:=
 Qaq I hN hi hx r (fun s' I' _=>h s' I') hf
theorem Inv.call' {s' : Shared} {ch : List Addr} (I : Inv X pins σ H s) (ho : s'.os = s.os) (u : Un (frs X.stack) ch H H' s.heap s'.heap) (hok : HOk X.prog X.w H' s'.heap) (hg : AllBare s'.gens)
  (hch:∀ b∈ch,(b∈X.ex\/X.s₀.heap.objs.size<=b)/\b≠X.env.locals/\(∀ x c,X.env.cells.lookup x=some c->c≠b)/\∀ p∈X.pn++pins,p.1≠b):Inv X pins σ H' s':=by
 obtain⟨h',g',d',t',o'⟩:=s'
 have e:o'=s.os:=ho
 subst e
 exact I.call (g':=g') (t':=t') (d':=d') u hok hg hch
end
abbrev XK:=Value->Option Addr->Hp->Prop
abbrev St:=List (Option V)
abbrev VK:=V->Hp->Prop
abbrev TE:=St->Hp->VK->Prop
abbrev TT:=St->Hp->(Bool->Hp->Prop)->Prop
abbrev TA:=St->Hp->(List V->Hp->Prop)->Prop
structure Ends where
 nx:St->Hp->Prop
 rt:VK
 bk:St->Hp->Prop:=fun _ _=>False
 ct:St->Hp->Prop:=fun _ _=>False
abbrev TS:=Ends->St->Hp->Prop
def EP (X:Cx) (pins:List (Addr × Obj)) (σ:St) (Q:VK) (u:Value) (s':Shared):Prop:=∃ v H',Inv X pins σ H' s'/\RelV v u/\Q v H'
def TP (X:Cx) (pins:List (Addr × Obj)) (σ:St) (Q:Bool->Hp->Prop) (b:Bool) (s':Shared):Prop:=∃ H',Inv X pins σ H' s'/\Q b H'
def AP (X:Cx) (pins:List (Addr × Obj)) (σ:St) (Q:List V->Hp->Prop) (us:List Value) (s':Shared):Prop:=∃ vs H',Inv X pins σ H' s'/\Vals vs us/\Q vs H'
def SP (X:Cx) (pins:List (Addr × Obj)) (D:Ends) (f:Flow) (s':Shared):Prop:=
 match f with
 | .next=>∃ σ' H',Inv X pins σ' H' s'/\D.nx σ' H'
 | .brk=>∃ σ' H',Inv X pins σ' H' s'/\D.bk σ' H'
 | .cont=>∃ σ' H',Inv X pins σ' H' s'/\D.ct σ' H'
 | .ret u=>∃ v σ' H',Inv X pins σ' H' s'/\RelV v u/\D.rt v H'
def PE (X:Cx) (e:Expr) (t:TE):Prop:=
 ∀ (pins:List (Addr × Obj)) (s:Shared) (σ:St) (H:Hp) (Q:VK),Inv X pins σ H s->t σ H Q->wpAny (model X.prog X.w) X.A (eval e X.env) (EP X pins σ Q) X.xe s
def PT (X:Cx) (e:Expr) (t:TT):Prop:=
 ∀ (pins:List (Addr × Obj)) (s:Shared) (σ:St) (H:Hp) (Q:Bool->Hp->Prop),Inv X pins σ H s->t σ H Q->wpAny (model X.prog X.w) X.A (isTrue e X.env (eval e X.env)) (TP X pins σ Q) X.xe s
def PW (X:Cx) (e:Expr) (t:TT):Prop:=
 ∀ (whole:Sem Value) (pins:List (Addr × Obj)) (s:Shared) (σ:St) (H:Hp) (Q:Bool->Hp->Prop),Inv X pins σ H s->t σ H Q->wpAny (model X.prog X.w) X.A (isTrue e X.env whole) (TP X pins σ Q) X.xe s
theorem PW.pt {X:Cx}{e:Expr}{t:TT} (h:PW X e t):PT X e t:=h _
def PA (X:Cx) (es:List Expr) (t:TA):Prop:=
 ∀ (pos:Pos) (pins:List (Addr × Obj)) (s:Shared) (σ:St) (H:Hp) (Q:List V->Hp->Prop),Inv X pins σ H s->t σ H Q->wpAny (model X.prog X.w) X.A (spliced (backTo pos (starEach es X.env))) (AP X pins σ Q) X.xe s
def PS (X:Cx) (st:Stmt) (t:TS):Prop:=
 ∀ (pins:List (Addr × Obj)) (s:Shared) (σ:St) (H:Hp) (D:Ends),Inv X pins σ H s->t D σ H->wpAny (model X.prog X.w) X.A (exec st X.env) (SP X pins D) X.xe s
def PSs (X:Cx) (st:List Stmt) (t:TS):Prop:=
 ∀ (pins:List (Addr × Obj)) (s:Shared) (σ:St) (H:Hp) (D:Ends),Inv X pins σ H s->t D σ H->wpAny (model X.prog X.w) X.A (execs st X.env) (SP X pins D) X.xe s
theorem thn {α:Type}{t:Sem α}{Q Q':α->Shared->Prop}{M:Model}{A:Around}{E:Value->Shared->Prop}{s:Shared} (h:wpAny M A t Q E s) (hQ:∀ a s,Q a s->Q' a s):wpAny M A t Q' E s:=wpAny_mono h hQ fun _ _ x=>x
section
variable {X:Cx}
def tVar (i:Nat):TE:=fun σ H Q=>∃ v,σ[i]?=some (some v)/\Q v H
def tC (v:V):TE:=fun _ H Q=>Q v H
theorem Qas {i:Nat}{x:Str}{pos:Pos} (hN:X.N[i]?=some x) (hv:Vis X.env.scope x) (hd:(x == ("__debug__":Str))=false:=by decide) (hcd:(x == ("__classdict__":Str))=false:=by decide):PE X (.Name x pos) (tVar i):=by
 intro pins s σ H Q I h
 obtain⟨v,e,h⟩:=h
 obtain⟨m,hn,hl⟩:=I.loc
 obtain⟨u,r,l⟩:=hl i x v hN e hv
 have fin:EP X pins σ Q u s:=⟨v,H,I,r,h⟩
 rcases l with ⟨hk,hm⟩ | ⟨hk,c,hc,hcell⟩
 ·exact wpAny_Name (wpAny_loadName_local I.ok.kind hk hn hm fin) hd
 ·rcases hk with hk | hk
  ·exact wpAny_Name (wpAny_loadName_cell I.ok.kind hk hc hcell fin) hd
  ·exact wpAny_Name (wpAny_loadName_free I.ok.kind hk hc hcell fin hcd) hd
theorem Qat {i j pos}:PE X (.Constant (.int i) j pos) (tC (.int i)):=fun _ _ _ H _ I h=>wpAny_Constant_int ⟨.int i,H,I.tok _,⟨_,rfl⟩,h⟩
theorem Qau {b j pos}:PE X (.Constant (.bool b) j pos) (tC (.bl b)):=fun _ _ _ H _ I h=>Constant_bool ⟨.bl b,H,I,rfl,h⟩
theorem Qav {x j pos}:PE X (.Constant (.str x) j pos) (tC (.str x)):=fun _ _ _ H _ I h=>Calls.Constant_str ⟨.str x,H,I.tok _,⟨_,rfl⟩,h⟩
def Gl (X:Cx) (x:Str):Prop:=X.env.kindOf x=some .globalImplicit
theorem Qaw {E : Value -> Shared -> Prop} {pins : List (Addr × Obj)} {s : Shared} {σ : St} {H : Hp} {x : Str} {u : Value} {pos : Pos} {Q : Value -> Shared -> Prop} (I : Inv X pins σ H s) (hg : Gl X x) (hm : X.mg x = some u) (h : Q u s)
  (hd:(x == ("__debug__":Str))=false:=by decide):wpAny (model X.prog X.w) X.A (eval (.Name x pos) X.env) Q E s:=
 Calls.Name_function_global I.ok.kind hg (Calls.loadGlobal_global (by rw[I.ok.glob];exact I.mod.glob.keeps I.bk) hm h) hd
theorem Qax {E : Value -> Shared -> Prop} {pins : List (Addr × Obj)} {s : Shared} {σ : St} {H : Hp} {x : Str} {u : Value} {pos : Pos} {Q : Value -> Shared -> Prop} (I : Inv X pins σ H s) (hg : Gl X x) (hm : X.mg x = none) (hv : bootBuiltins x = some u) (h : Q u s)
  (hn:x≠"__name__":=by decide) (hd:(x == ("__debug__":Str))=false:=by decide):wpAny (model X.prog X.w) X.A (eval (.Name x pos) X.env) Q E s:=by
 obtain⟨mb,h1,h2⟩:=I.mod.blt
 exact Calls.Name_function_global I.ok.kind hg (Calls.loadGlobal_builtin (by rw[I.ok.glob];exact I.mod.glob.keeps I.bk) hm (by rw[I.ok.blt];exact h1.keeps I.bk) ((h2 x hn).trans hv) h) hd
variable {a b:Expr}{ta tb:TE}{pos:Pos}
variable {tA tB':TT}{rest:List Expr}
def tAnd (t u:TT):TT:=fun σ H Q=>t σ H fun c H1=>if c=true then u σ H1 Q else Q false H1
def tOr (t u:TT):TT:=fun σ H Q=>t σ H fun c H1=>if c=true then Q true H1 else u σ H1 Q
def tNot (t:TT):TT:=fun σ H Q=>t σ H fun c H1=>Q (!c) H1
theorem Qay (ha:PT X a tA):PW X (.BoolOp .And [a] pos) tA:=by
 intro wh pins s σ H Q I h
 refine isTrue_and (thn (ha pins s σ H Q I h) fun c s1 e=>?_)
 cases c with
 | true=>exact isTrue_and_nil e
 | false=>exact e
theorem Qaz (ha:PT X a tA):PW X (.BoolOp .Or [a] pos) tA:=by
 intro wh pins s σ H Q I h
 refine isTrue_or (thn (ha pins s σ H Q I h) fun c s1 e=>?_)
 cases c with
 | false=>exact isTrue_or_nil e
 | true=>exact e
theorem QaA (ha:PT X a tA) (hb:PW X (.BoolOp .And (b::rest) pos) tB'):PW X (.BoolOp .And (a::b::rest) pos) (tAnd tA tB'):=by
 intro wh pins s σ H Q I h
 refine isTrue_and (thn (ha pins s σ H _ I h) fun c s1 pq2=>?_)
 obtain⟨H1,I1,q1⟩:=pq2
 cases c with
 | true=>exact hb wh pins s1 σ H1 Q I1 q1
 | false=>exact⟨H1,I1,q1⟩
theorem QaB (ha:PT X a tA) (hb:PW X (.BoolOp .Or (b::rest) pos) tB'):PW X (.BoolOp .Or (a::b::rest) pos) (tOr tA tB'):=by
 intro wh pins s σ H Q I h
 refine isTrue_or (thn (ha pins s σ H _ I h) fun c s1 pq3=>?_)
 obtain⟨H1,I1,q1⟩:=pq3
 cases c with
 | true=>exact⟨H1,I1,q1⟩
 | false=>exact hb wh pins s1 σ H1 Q I1 q1
theorem QaC (ha:PT X a tA):PT X (.UnaryOp .Not a pos) (tNot tA):=by
 intro pins s σ H Q I h
 exact isTrue_not (ha pins s σ H (fun c H1=>Q (!c) H1) I h)
def tAndV (ta tb:TE):TE:=fun σ H Q=>ta σ H fun x H1=>∃ c,x=.bl c/\if c=true then tb σ H1 Q else Q (.bl false) H1
theorem QaD {op}{t:TE} (h:PE X a t):PE X (.BoolOp op [a] pos) t:=fun pins s σ H Q I hw=>BoolOp_one (h pins s σ H Q I hw)
theorem QaE (ha:PE X a ta) (hb:PE X (.BoolOp .And (b::rest) pos) tb):PE X (.BoolOp .And (a::b::rest) pos) (tAndV ta tb):=by
 intro pins s σ H Q I h
 refine BoolOp_and (thn (ha pins s σ H _ I h) fun v s1 pq4=>?_)
 obtain⟨x,H1,I1,r1,q1⟩:=pq4
 obtain⟨c,rfl,q1⟩:=q1
 cases r1
 refine wpAny_truthy_bool ?_
 cases c with
 | true=>exact hb pins s1 σ H1 Q I1 q1
 | false=>exact⟨.bl false,H1,I1,rfl,q1⟩
def tIf (t:TT) (ta tb:TE):TE:=fun σ H Q=>t σ H fun c H1=>if c=true then ta σ H1 Q else tb σ H1 Q
theorem QaF {c:Expr} (hc:PT X c tA) (ha:PE X a ta) (hb:PE X b tb):PE X (.IfExp c a b pos) (tIf tA ta tb):=by
 intro pins s σ H Q I h
 refine wpAny_IfExp (thn (hc pins s σ H _ I h) fun d s1 pq5=>?_)
 obtain⟨H1,I1,q1⟩:=pq5
 cases d with
 | true=>exact ha pins s1 σ H1 Q I1 q1
 | false=>exact hb pins s1 σ H1 Q I1 q1
end
def SqL (K:PySem.W.Frag) (H:Hp) (a:Addr) (xs:List V):Prop:=
 Rd H a (.lst xs) \/
  ∃ (o:Obj) (its:Array Value) (n:Nat),K.lookup a=some o/\o.cls=.type "list"/\o.dict=none/\o.data=.seq its n/\its.size<=sizeLine/\Vals xs its.toList
def SqT (K:PySem.W.Frag) (H:Hp) (a:Addr) (xs:List V):Prop:=
 Rd H a (.tup xs) \/
  ∃ (o:Obj) (its:Array Value) (n:Nat),K.lookup a=some o/\o.cls=.type "tuple"/\o.dict=none/\o.data=.seq its n/\its.size<=sizeLine/\Vals xs its.toList
def absV:Value->Option V
 | .none=>some .non
 | .bool b=>some (.bl b)
 | .int i _=>some (.int i)
 | .str x _=>some (.str x)
 | .bytes b _=>some (.byt b)
 | .float b _=>some (.flt b)
 | .ref a=>some (.ref a)
 | .type n=>some (.ty n)
 | _=>none
theorem RelV.abs {x:V}{u:Value} (r:RelV x u):absV u=some x:=by
 cases x with
 | non=>cases r;rfl
 | bl _=>cases r;rfl
 | int _=>obtain⟨t,rfl⟩:=r;rfl
 | str _=>obtain⟨t,rfl⟩:=r;rfl
 | byt _=>obtain⟨t,rfl⟩:=r;rfl
 | flt _=>obtain⟨t,rfl⟩:=r;rfl
 | ref _=>cases r;rfl
 | ty _=>cases r;rfl
theorem RelV.inj {x y:V}{u:Value} (r:RelV x u) (q:RelV y u):x=y:=Option.some.inj (r.abs.symm.trans q.abs)
theorem Vals.inj:∀ {xs ys:List V}{us:List Value},Vals xs us->Vals ys us->xs=ys
 | _,_,_,.nil,.nil=>rfl
 | _,_,_,.cons r t,.cons r' t'=>by rw[r.inj r',Vals.inj t t']
section
variable {X:Cx}{pins:List (Addr × Obj)}{σ:St}{H:Hp}{s:Shared}{a:Addr}{xs ys:List V}
theorem SqL.of {K:PySem.W.Frag} (h:H a=some (.lst xs)):SqL K H a xs:=.inl (.inl h)
theorem SqT.of {K:PySem.W.Frag} (h:H a=some (.tup xs)):SqT K H a xs:=.inl (.inl h)
theorem Inv.list (I:Inv X pins σ H s) (h:SqL X.K H a xs):∃ its:List Value,Vals xs its/\PlainL s.heap a its.toArray/\xs.length<=sizeLine:=by
 rcases h with h | ⟨o,its,n,hk,hc,hd,hs,hz,r⟩
 ·obtain⟨z,its,n,r,e⟩:=h.ok I.hok
  exact⟨its,r,⟨_,n,e,rfl,rfl,rfl⟩,z⟩
 ·refine⟨its.toList,r,⟨o,n,I.kIn a o hk,hc,hd,by simpa using hs⟩,?_⟩
  have e:=r.length
  simp only[Array.length_toList]at e
  ac_nf
theorem Inv.tupleD (I:Inv X pins σ H s) (h:SqT X.K H a xs):∃ its:List Value,Vals xs its/\IsTupD s.heap a its.toArray/\xs.length<=sizeLine:=by
 rcases h with h | ⟨o,its,n,hk,hc,hd,hs,hz,r⟩
 ·obtain⟨z,its,r,p⟩:=h.ok I.hok
  exact⟨its,r,p,z⟩
 ·refine⟨its.toList,r,⟨o,I.kIn a o hk,hc,⟨n,by simpa using hs⟩,hd⟩,?_⟩
  have e:=r.length
  simp only[Array.length_toList]at e
  ac_nf
theorem Inv.tuple (I:Inv X pins σ H s) (h:SqT X.K H a xs):∃ its:List Value,Vals xs its/\IsTup s.heap a its.toArray/\xs.length<=sizeLine:=let ⟨its,r,p,z⟩:=I.tupleD h;⟨its,r,p.is,z⟩
theorem Inv.list_inj (I:Inv X pins σ H s) (h:SqL X.K H a xs) (h':SqL X.K H a ys):xs=ys:=by
 obtain⟨its,r,⟨o,n,e,_,_,d⟩,_⟩:=I.list h
 obtain⟨its',r',⟨o',n',e',_,_,d'⟩,_⟩:=I.list h'
 rw[e]at e';cases e'
 rw[d]at d'
 injection d' with d1 _
 have:its=its':=by simpa using congrArg Array.toList d1
 subst this
 exact r.inj r'
theorem Inv.tuple_inj (I:Inv X pins σ H s) (h:SqT X.K H a xs) (h':SqT X.K H a ys):xs=ys:=by
 obtain⟨its,r,⟨o,e,_,n,d⟩,_⟩:=I.tuple h
 obtain⟨its',r',⟨o',e',_,n',d'⟩,_⟩:=I.tuple h'
 rw[e]at e';cases e'
 rw[d]at d'
 injection d' with d1 _
 have:its=its':=by simpa using congrArg Array.toList d1
 subst this
 exact r.inj r'
end
abbrev Cx.wish (X:Cx) (E:Value->Shared->Prop):Cx:={ X with xe:=E }
abbrev Cx.nox (X:Cx):Cx:=X.wish fun _ _=>False
theorem Cx.Ok.wish {X:Cx} (ok:X.Ok) (E:Value->Shared->Prop):(X.wish E).Ok:=
 ⟨ok.mod,ok.kind,ok.glob,ok.blt,ok.above,ok.inj,ok.has,ok.cab,ok.hd,ok.frames,ok.stk,ok.exf,ok.bs,ok.bsz,ok.noex,ok.exfs,ok.funs,ok.frf⟩
theorem Cx.Ok.unwish {X:Cx}{E:Value->Shared->Prop} (ok:(X.wish E).Ok):X.Ok:=
 ⟨ok.mod,ok.kind,ok.glob,ok.blt,ok.above,ok.inj,ok.has,ok.cab,ok.hd,ok.frames,ok.stk,ok.exf,ok.bs,ok.bsz,ok.noex,ok.exfs,ok.funs,ok.frf⟩
section
variable {X:Cx}{pins:List (Addr × Obj)}{σ:St}{H:Hp}{s:Shared}{E:Value->Shared->Prop}
theorem Inv.wish (I:Inv X pins σ H s) (E:Value->Shared->Prop):Inv (X.wish E) pins σ H s:=⟨I.ok.wish E,I.os,I.bare,I.base,I.loc,I.cell,I.free,I.freeC,I.pin,I.hok,I.len⟩
theorem Inv.unwish (I:Inv (X.wish E) pins σ H s):Inv X pins σ H s:=⟨I.ok.unwish,I.os,I.bare,I.base,I.loc,I.cell,I.free,I.freeC,I.pin,I.hok,I.len⟩
theorem SP.unwish {D:Ends}{f:Flow}{s':Shared} (h:SP (X.wish E) pins D f s'):SP X pins D f s':=by
 cases f with
 | next=>obtain⟨σ',H',I,q⟩:=h;exact⟨σ',H',I.unwish,q⟩
 | brk=>obtain⟨σ',H',I,q⟩:=h;exact⟨σ',H',I.unwish,q⟩
 | cont=>obtain⟨σ',H',I,q⟩:=h;exact⟨σ',H',I.unwish,q⟩
 | ret u=>obtain⟨v,σ',H',I,r,q⟩:=h;exact⟨v,σ',H',I.unwish,r,q⟩
theorem PSs.nox {st:List Stmt}{t:TS} (h:PSs X.nox st t):PSs X st t:=fun pins s σ H D I hw=>
 wpAny_mono (h pins s σ H D (I.wish _) hw) (fun _ _ q=>q.unwish) fun _ _ z=>False.elim z
end
section
variable {X:Cx}{st:Stmt}{rest:List Stmt}{t u:TS}{e:Expr}{te:TE}{pos:Pos}
def tNext:TS:=fun D σ H=>D.nx σ H
def tSeq (t u:TS):TS:=fun D σ H=>t { D with nx:=u D } σ H
theorem QaG:PSs X [] tNext:=fun _ _ σ H _ I h=>wpAny_execs_nil ⟨σ,H,I,h⟩
theorem QaH (h1:PS X st t) (h2:PSs X rest u):PSs X (st::rest) (tSeq t u):=by
 intro pins s σ H D I h
 refine wpAny_execs_cons (thn (h1 pins s σ H { D with nx:=u D } I h) fun f s1 q=>?_)
 cases f with
 | next=>
  obtain⟨σ',H',I',q⟩:=q
  exact h2 pins s1 σ' H' D I' q
 | ret v=>exact q
 | brk=>exact q
 | cont=>exact q
theorem Inv.quiet {pins:List (Addr × Obj)}{σ:St}{H:Hp}{s:Shared} (I:Inv X pins σ H s):interactive X.env=false:=by simp[interactive,I.ok.kind]
def tDrop (te:TE):TS:=fun D σ H=>te σ H fun _ H1=>D.nx σ H1
theorem QaI (he:PE X e te) (hs:swapsWith e none pos.line X.env=pure false:=by rfl):PS X (.Expr e pos) (tDrop te):=by
 intro pins s σ H D I h
 exact wpAny_Expr_any (thn (he pins s σ H _ I h) fun v s1 pq8=>by obtain⟨x,H1,I1,r1,q1⟩:=pq8;exact⟨σ,H1,I1,q1⟩) I.quiet hs
def tRet (te:TE):TS:=fun D σ H=>te σ H D.rt
theorem QaJ (he:PE X e te):PS X (.Return (some e) pos) (tRet te):=by
 intro pins s σ H D I h
 exact wpAny_Return_some (thn (he pins s σ H _ I h) fun v s1 pq9=>by obtain⟨x,H1,I1,r1,q1⟩:=pq9;exact⟨x,σ,H1,I1,r1,q1⟩)
def tIfS (c:TT) (t u:TS):TS:=fun D σ H=>c σ H fun b H1=>if b=true then t D σ H1 else u D σ H1
theorem QaK {c:Expr}{a b:List Stmt}{tc:TT} (hc:PT X c tc) (ha:PSs X a t) (hb:PSs X b u):PS X (.If c a b pos) (tIfS tc t u):=by
 intro pins s σ H D I h
 refine wpAny_If (thn (hc pins s σ H _ I h) fun d s1 pq10=>?_)
 obtain⟨H1,I1,q1⟩:=pq10
 cases d with
 | true=>exact ha pins s1 σ H1 D I1 q1
 | false=>exact hb pins s1 σ H1 D I1 q1
def tNever:TS:=fun _ _ _=>False
theorem QaL:PS X st tNever:=fun _ _ _ _ _ _ h=>h.elim
end
abbrev TG:=V->St->Hp->(St->Hp->Prop)->Prop
abbrev TGs:=List V->St->Hp->(St->Hp->Prop)->Prop
def PG (X:Cx) (target:Expr) (t:TG):Prop:=
 ∀ (pins:List (Addr × Obj)) (s:Shared) (σ:St) (H:Hp) (v:V) (u:Value) (Q:St->Hp->Prop),Inv X pins σ H s->RelV v u->t v σ H Q ->
  wpAny (model X.prog X.w) X.A (assign target X.env u) (fun _ s'=>∃ σ' H',Inv X pins σ' H' s'/\Q σ' H') X.xe s
def PGs (X:Cx) (ts:List Expr) (t:TGs):Prop:=
 ∀ (pins:List (Addr × Obj)) (s:Shared) (σ:St) (H:Hp) (vs:List V) (us:List Value) (Q:St->Hp->Prop),Inv X pins σ H s->Vals vs us->t vs σ H Q ->
  wpAny (model X.prog X.w) X.A (assignInOrder ((assignEach ts X.env).map (·.2)) us) (fun _ s'=>∃ σ' H',Inv X pins σ' H' s'/\Q σ' H') X.xe s
abbrev TSet:=V->V->V->Hp->(Hp->Prop)->Prop
def PSet (X:Cx) (t:TSet):Prop:=
 ∀ (pins:List (Addr × Obj)) (s:Shared) (σ:St) (H:Hp) (o i v:V) (ov iv u:Value) (Q:Hp->Prop),Inv X pins σ H s->RelV o ov->RelV i iv->RelV v u->t o i v H Q ->
  wpAny (model X.prog X.w) X.A (setItem ov iv u) (fun _ s'=>∃ H',Inv X pins σ H' s'/\Q H') X.xe s
section
variable {X:Cx}{pos:Pos}
def gName (i:Nat):TG:=fun v σ H Q=>Q (σ.set i (some v)) H
theorem QaM {i:Nat}{x:Str} (hN:X.N.Nodup) (hi:X.N[i]?=some x) (hx:Loc X.env.scope x) (hf:X.fn x=true\/X.env.scope.names.lookup x=some .local:=by first | exact .inl rfl | exact .inr rfl | assumption):PG X (.Name x pos) (gName i):=by
 intro pins s σ H v u Q I r h
 exact wpAny_assign_Name (Qar I hN hi hx r (fun s' I'=>⟨_,H,I',h⟩) hf)
def gNil:TGs:=fun vs σ H Q=>vs=[]/\Q σ H
def gCons (t:TG) (u:TGs):TGs:=fun vs σ H Q=>∃ v r,vs=v::r/\t v σ H fun σ' H'=>u r σ' H' Q
theorem QaN:PGs X [] gNil:=by
 intro pins s σ H vs us Q I r h
 obtain⟨e,h⟩:=h
 subst e
 cases r
 exact assignInOrder_nil ⟨σ,H,I,h⟩
theorem QaO {e : Expr} {es : List Expr} {t : TG} {u : TGs} (h1 : PG X e t) (h2 : PGs X es u)
  (hs:(assignEach (e::es) X.env).map (·.2)=assign e X.env::(assignEach es X.env).map (·.2):=by rfl):PGs X (e::es) (gCons t u):=by
 intro pins s σ H vs us Q I r h
 obtain⟨v,vr,e1,h⟩:=h
 subst e1
 cases r with
 | cons r rr=>
  rw[hs]
  refine assignInOrder_cons (thn (h1 pins s σ H _ _ _ I r h) fun _ s1 pq11=>?_)
  obtain⟨σ1,H1,I1,q1⟩:=pq11
  exact h2 pins s1 σ1 H1 _ _ Q I1 rr q1
def gTup (K:PySem.W.Frag) (n:Nat) (t:TGs):TG:=fun v σ H Q=>∃ a xs,v=.ref a/\SqT K H a xs/\xs.length=n/\t xs σ H Q
theorem QaP {es : List Expr} {k : Nat} {t : TGs} {n : Nat} (hc : X.calm = true) (h : PGs X es t)
  (hn:(assignEach es X.env).length=n:=by rfl) (hst:(assignEach es X.env).findIdx? (·.1)=none:=by rfl):PG X (.Tuple es k pos) (gTup X.K n t):=by
 intro pins s σ H v u Q I r hw
 obtain⟨a,xs,e1,hq,hl,hw⟩:=hw
 subst e1
 cases r
 obtain⟨its,rv,ht,hz⟩:=I.tuple hq
 refine assign_Tuple_tuple (I.ok.hd hc) ht (by simp[hn,<- hl,rv.length]) hst fun h' hx=>?_
 have I1:Inv X pins σ H { s with heap:=h' }:=I.kept (t':=s.toks) fun b o e=>hx b o (Nat.ne_of_lt (Heap.lt_size e)) e
 exact h pins _ σ H xs _ Q I1 (by simpa using rv) hw
def gSub (to ti:TE) (t:TSet):TG:=fun v σ H Q=>to σ H fun o H1=>ti σ H1 fun i H2=>t o i v H2 fun H3=>Q σ H3
theorem QaQ {o i : Expr} {to ti : TE} {t : TSet} (ho : PE X o to) (hi : PE X i ti) (hs : PSet X t)
  (ha:∀ v,assign (.Subscript o i pos) X.env v=(do
   let ov <- holding [v] (eval o X.env)
   let iv <- holding [v,ov] (eval i X.env)
   standAt pos
   holding [v,ov,iv] (setItem ov iv v)
   release [v,ov,iv] []):=by intro _;rfl):PG X (.Subscript o i pos) (gSub to ti t):=by
 intro pins s σ H v u Q I r h
 rw[ha]
 refine wpAny_bind (wpAny_holding (thn (ho pins s σ H _ I h) fun ov s1 pq12=>?_))
 obtain⟨x,H1,I1,r1,q1⟩:=pq12
 refine wpAny_bind (wpAny_holding (thn (hi pins s1 σ H1 _ I1 q1) fun iv s2 pq13=>?_))
 obtain⟨y,H2,I2,r2,q2⟩:=pq13
 refine wpAny_bind (wpAny_standAt (wpAny_bind (wpAny_holding (thn (hs pins s2 σ H2 x y v ov iv u _ I2 r1 r2 r q2) fun _ s3 pq14=>?_))))
 obtain⟨H3,I3,q3⟩:=pq14
 exact wpAny_release ⟨σ,H3,I3,q3⟩
def tAsg (te:TE) (g:TG):TS:=fun D σ H=>te σ H fun x H1=>g x σ H1 D.nx
theorem QaR {tg e : Expr} {te : TE} {g : TG} (he : PE X e te) (hg : PG X tg g) (hs : swapsWithSole [tg] e pos.line X.env = pure false := by rfl) (hw : swappedStores [tg] e X.env = pure none := by rfl)
  (h1:(assignEach [tg] X.env).map (·.2)=[assign tg X.env]:=by rfl):PS X (.Assign [tg] e pos) (tAsg te g):=by
 intro pins s σ H D I h
 refine wpAny_Assign_stores (thn (he pins s σ H _ I h) fun v s1 ⟨x,H1,I1,r1,q1⟩=>?_) hs hw
 rw[h1]
 exact thn (hg pins s1 σ H1 x v _ I1 r1 q1) fun _ s2 q=>q
theorem QaS {i : Nat} {x : Str} {e : Expr} {te : TE} {pos' : Pos} (hN : X.N.Nodup) (hi : X.N[i]? = some x) (hx : Loc X.env.scope x) (he : PE X e te) (hs : swapsWith e (some (.Name x pos')) pos.line X.env = pure false := by rfl) (hf : X.fn x = true \/ X.env.scope.names.lookup x = some .local := by first | exact .inl rfl | exact .inr rfl | assumption) :
  PS X (.Assign [.Name x pos'] e pos) (tAsg te (gName i)):=by
 intro pins s σ H D I h
 refine wpAny_Assign_Name (thn (he pins s σ H _ I h) fun v s1 ⟨y,H1,I1,r1,q1⟩=>?_) hs
 exact Qar I1 hN hi hx r1 (fun s2 I2=>⟨_,H1,I2,q1⟩) hf
end
section
variable {X:Cx}{pos:Pos}
def tWhile (c:TT) (tb:TS):TS:=fun D σ H=>∃ W:Nat->St->Hp->Prop,(∃ m,W m σ H)/\∀ m σ H,W m σ H ->
 c σ H fun b H1=>if b=true then ∃ N:St->Hp->Prop,(∀ σ' H',N σ' H'->∃ m',m' < m/\W m' σ' H')/\tb { D with nx:=N,ct:=N,bk:=D.nx } σ H1 else D.nx σ H1
theorem QaT {c:Expr}{body:List Stmt}{tc:TT}{tb:TS} (hp:PassesOwn (model X.prog X.w) X.A X.env X.xe) (hc:PT X c tc) (hb:PSs X body tb):PS X (.While c body [] pos) (tWhile tc tb):=by
 intro pins s σ H D I h
 obtain⟨W,⟨m0,w0⟩,turn⟩:=h
 refine wpAny_While (codeAny_whileLoop (fun n s'=>∃ σ' H',Inv X pins σ' H' s'/\W n σ' H') ?_ m0 ⟨σ,H,I,w0⟩)
 rintro n s1 ⟨σ1,H1,I1,w1⟩
 refine wpAny_passesOwn hp (thn (hc pins s1 σ1 H1 _ I1 (turn n σ1 H1 w1)) fun b s2 pq17=>?_)
 obtain⟨H2,I2,q2⟩:=pq17
 cases b with
 | true=>
  obtain⟨N,hN,q2⟩:=q2
  rw[if_pos rfl]
  refine wpAny_passesOwn hp (thn (hb pins s2 σ1 H2 _ I2 q2) fun f s3 q3=>?_)
  cases f with
  | next=>
   obtain⟨σ3,H3,I3,n3⟩:=q3
   obtain⟨m',hm,w3⟩:=hN σ3 H3 n3
   exact⟨m',hm,σ3,H3,I3,w3⟩
  | cont=>
   obtain⟨σ3,H3,I3,n3⟩:=q3
   obtain⟨m',hm,w3⟩:=hN σ3 H3 n3
   exact⟨m',hm,σ3,H3,I3,w3⟩
  | brk=>exact q3
  | ret v=>exact q3
 | false=>
  rw[if_neg Bool.false_ne_true]
  exact wpAny_execs_nil ⟨σ1,H2,I2,q2⟩
end
structure It where
 go:Nat->Hp->Prop
 yld:Nat->Hp->V->Hp->Prop
 stop:Nat->Hp->Prop
def FpOk (X:Cx) (pins:List (Addr × Obj)) (H:Hp) (b:Addr):Prop:=
 H b=none/\b≠X.env.locals/\b∉X.fs/\(b∈X.ex\/X.s₀.heap.objs.size<=b)/\(∀ x c,X.env.cells.lookup x=some c->c≠b)/\∀ p∈X.pn++pins,p.1≠b
theorem Inv.fpOk {X:Cx}{pins:List (Addr × Obj)}{σ:St}{H H':Hp}{s:Shared}{b:Addr} (I:Inv X pins σ H s) (hb:s.heap.objs.size<=b) (hn:H' b=none):FpOk X pins H' b:=by
 refine⟨hn,Nat.ne_of_gt (Nat.lt_of_lt_of_le I.lt hb),I.nofs hb,.inr (Nat.le_trans I.sz hb),fun x c e z=>?_,fun p hp z=>?_⟩
 ·obtain⟨v,q⟩:=I.cell x c e
  exact absurd (Nat.lt_of_lt_of_le q.lt (by rw[z];exact hb)) (Nat.lt_irrefl _)
 ·exact absurd (Nat.lt_of_lt_of_le (Heap.lt_size (I.pin p hp).1) (by rw[z];exact hb)) (Nat.lt_irrefl _)
structure Turn (P:Program) (w:World) (K:PySem.W.Frag) (tg:Expr) (J:It) (fp:List Addr) (it:Addr) (tn:Nat->Heap->Prop):Prop where
 mem:it∈fp
 obj:∀ i h,tn i h->∀ b∈fp,∃ o,h.get? b=some o/\∀ v,o.data≠.cell v
 keep:∀ i h h',tn i h->(∀ b∈fp,∀ o,h.get? b=some o->h'.get? b=some o)->tn i h'
 item:∀ (X:Cx),X.prog=P->X.w=w->X.K=K->X.calm=true->∀ (i:Nat) (pins:List (Addr × Obj)) (s:Shared) (σ:St) (H:Hp) (E:Value->Shared->Prop),Inv X pins σ H s->(∀ b∈fp,FpOk X pins H b)->tn i s.heap->J.go i H ->
  wpAny (model P w) X.A (pyNext (.ref it)) (fun r s1=>∃ u,r=some u /\
   wpAny (model P w) X.A (letOwnedTupleGo tg (.ref it) u) (fun _ s2=>∃ x H',Inv X pins σ H' s2/\RelV x u/\J.yld i H x H'/\tn (i + 1) s2.heap/\∀ b∈fp,H' b=none) E s1) E s
 done:∀ (X:Cx),X.prog=P->X.w=w->X.K=K->X.calm=true->∀ (i:Nat) (pins:List (Addr × Obj)) (s:Shared) (σ:St) (H:Hp) (E:Value->Shared->Prop),Inv X pins σ H s->(∀ b∈fp,FpOk X pins H b)->tn i s.heap->J.stop i H ->
  wpAny (model P w) X.A (pyNext (.ref it)) (fun r s1=>r=none/\Inv X pins σ H s1) E s
 self:∀ (A:Around) (i:Nat) (s:Shared) (Q:Value->Shared->Prop) (E:Value->Shared->Prop),tn i s.heap->Q (.ref it) s->wpAny (model P w) A (pyIter (.ref it)) Q E s
abbrev TI:=St->Hp->(It->Hp->Prop)->Prop
def PIE (X:Cx) (pins:List (Addr × Obj)) (σ:St) (tg:Expr) (R:It->Hp->Prop) (itv:Value) (s2:Shared):Prop:=
 ∃ (it:Addr) (fp:List Addr) (tn:Nat->Heap->Prop) (J:It) (H':Hp),itv=.ref it/\Inv X pins σ H' s2/\Turn X.prog X.w X.K tg J fp it tn/\tn 0 s2.heap/\(∀ b∈fp,FpOk X pins H' b)/\R J H'
def PI (X:Cx) (tg iter:Expr) (wi:TI):Prop:=
 ∀ (pins:List (Addr × Obj)) (s:Shared) (σ:St) (H:Hp) (R:It->Hp->Prop),Inv X pins σ H s->wi σ H R ->
  wpAny (model X.prog X.w) X.A (eval iter X.env) (fun v s1=>wpAny (model X.prog X.w) X.A (pyIter v) (PIE X pins σ tg R) X.xe s1) X.xe s
theorem QaU {M : Model} {A : Around} {E : Value -> Shared -> Prop} {s : Shared} {tg : Expr} {it : Addr} {u : Value} {o : Obj} {n : String} {vs : Array Value} {Q : Unit -> Shared -> Prop} (ho : s.heap.get? it = some o) (hc : o.cls = .type n) (hd : o.data = .fields vs)
  (hn:["enumerate","zip","dict_itemiterator","dict_reverseitemiterator","odict_iterator","itertools.zip_longest","itertools.pairwise"].contains n=false) (hQ:Q () s):wpAny M A (letOwnedTupleGo tg (.ref it) u) Q E s:=by
 unfold letOwnedTupleGo
 cases tg<;>first
  | exact wpAny_pure hQ
  | (cases u <;> first
    | exact wpAny_pure hQ
    | (refine wpAny_bind (wpAny_load ho ?_)
       rw[hc,hd]
       show wpAny M A (if (["enumerate","zip","dict_itemiterator","dict_reverseitemiterator","odict_iterator","itertools.zip_longest","itertools.pairwise"].contains n && vs[0]? == some (rawInt _))=true then _ else _) Q E s
       rw[if_neg (by intro h;rw[hn,Bool.false_and]at h;cases h)]
       exact wpAny_pure hQ))
def Itl (K:PySem.W.Frag) (a:Addr):It:=
 ⟨fun i H=>∃ xs x,SqL K H a xs/\xs[i]?=some x,fun i H x H'=>H'=H/\∀ xs,SqL K H a xs->xs[i]?=some x,fun i H=>∃ xs,SqL K H a xs/\xs.length<=i⟩
def Itt (K:PySem.W.Frag) (a:Addr):It:=
 ⟨fun i H=>∃ xs x,SqT K H a xs/\xs[i]?=some x,fun i H x H'=>H'=H/\∀ xs,SqT K H a xs->xs[i]?=some x,fun i H=>∃ xs,SqT K H a xs/\xs.length<=i⟩
def Itr (lo:Int) (n:Nat):It:=⟨fun i _=>i < n,fun i H x H'=>H'=H/\x=.int (lo + i),fun i _=>n<=i⟩
theorem QaV {P:Program}{w:World}{K:PySem.W.Frag}{tg:Expr} (a it:Addr):Turn P w K tg (Itl K a) [it] it (fun i h=>h.IsListIter it a i) where
 mem:=by simp
 obj:=fun i h st b hb=>by
  have e:b=it:=by simpa using hb
  subst e
  obtain⟨o,e,c,d⟩:=st
  exact⟨o,e,fun v z=>by rw[d]at z;cases z⟩
 keep:=fun i h h' st k=>st.at fun o e=>k it (by simp) o e
 item:=by
  intro X hP hw hK hc i pins s σ H E I hf st hg
  subst hP hw hK
  obtain⟨xs,x,hq,hx⟩:=hg
  obtain⟨its,rv,p,hz⟩:=I.list hq
  obtain⟨u,hu,ru⟩:=rv.get hx
  obtain⟨f0,f1,f2,f3,f4,f5⟩:=hf it (by simp)
  refine wpAny_pyNext_list_item st p.isList (x:=u) (by simpa using hu) fun h' st' sb=>?_
  have I1:Inv X pins σ H { s with heap:=h' }:=I.turned (t':=s.toks) (fun b o hb e=>(sb.2 b hb).trans e) f0 f1 f3 f4 f5
  obtain⟨o,e,c,d⟩:=id st'
  exact⟨u,rfl,QaU (s:={ s with heap:=h' }) e c d (by decide) ⟨x,H,I1,ru,⟨rfl,fun ys hy=>by rw[I.list_inj hy hq];exact hx⟩,st',fun b hb=>(hf b hb).1⟩⟩
 done:=by
  intro X hP hw hK hc i pins s σ H E I hf st hg
  subst hP hw hK
  obtain⟨xs,hq,hx⟩:=hg
  obtain⟨its,rv,p,hz⟩:=I.list hq
  obtain⟨f0,f1,f2,f3,f4,f5⟩:=hf it (by simp)
  have hl:=rv.length
  exact wpAny_pyNext_list_end (I.ok.hd hc) st p.isList (by simp;ac_nf) fun h' eb=>⟨rfl,I.turned (t':=s.toks) (fun b o hb e=>eb b o hb e) f0 f1 f3 f4 f5⟩
 self:=fun _ _ _ _ _ st h=>wpAny_pyIter_listiter st h
theorem QaW {P:Program}{w:World}{K:PySem.W.Frag}{tg:Expr} (a it:Addr):Turn P w K tg (Itt K a) [it] it (fun i h=>h.IsTupleIter it a i) where
 mem:=by simp
 obj:=fun i h st b hb=>by
  have e:b=it:=by simpa using hb
  subst e
  obtain⟨o,e,c,d⟩:=st
  exact⟨o,e,fun v z=>by rw[d]at z;cases z⟩
 keep:=fun i h h' st k=>st.at fun o e=>k it (by simp) o e
 item:=by
  intro X hP hw hK hc i pins s σ H E I hf st hg
  subst hP hw hK
  obtain⟨xs,x,hq,hx⟩:=hg
  obtain⟨its,rv,p,hz⟩:=I.tuple hq
  obtain⟨u,hu,ru⟩:=rv.get hx
  obtain⟨f0,f1,f2,f3,f4,f5⟩:=hf it (by simp)
  refine wpAny_pyNext_tuple_item st (show s.heap.IsTuple a its.toArray from p) (x:=u) (by simpa using hu) fun h' st' sb=>?_
  have I1:Inv X pins σ H { s with heap:=h' }:=I.turned (t':=s.toks) (fun b o hb e=>(sb.2 b hb).trans e) f0 f1 f3 f4 f5
  obtain⟨o,e,c,d⟩:=id st'
  exact⟨u,rfl,QaU (s:={ s with heap:=h' }) e c d (by decide) ⟨x,H,I1,ru,⟨rfl,fun ys hy=>by rw[I.tuple_inj hy hq];exact hx⟩,st',fun b hb=>(hf b hb).1⟩⟩
 done:=by
  intro X hP hw hK hc i pins s σ H E I hf st hg
  subst hP hw hK
  obtain⟨xs,hq,hx⟩:=hg
  obtain⟨its,rv,p,hz⟩:=I.tuple hq
  obtain⟨f0,f1,f2,f3,f4,f5⟩:=hf it (by simp)
  have hl:=rv.length
  exact wpAny_pyNext_tuple_end (I.ok.hd hc) st (show s.heap.IsTuple a its.toArray from p) (by simp;ac_nf) fun h' eb=>⟨rfl,I.turned (t':=s.toks) (fun b o hb e=>eb b o hb e) f0 f1 f3 f4 f5⟩
 self:=fun _ _ _ _ _ st h=>wpAny_pyIter_tupleiter st h
theorem QaX {P:Program}{w:World}{K:PySem.W.Frag}{tg:Expr} (it:Addr) (lo:Int) (n:Nat):Turn P w K tg (Itr lo n) [it] it (fun i h=>IsRangeIter h it (lo + (i:Nat) * 1) ((n:Int) - (i:Nat)) 1) where
 mem:=by simp
 obj:=fun i h st b hb=>by
  have e:b=it:=by simpa using hb
  subst e
  exact⟨_,st,fun v z=>by
   have z':Data.fields _=Data.cell v:=z
   cases z'⟩
 keep:=fun i h h' st k=>k it (by simp) _ st
 item:=by
  intro X hP hw hK hc i pins s σ H E I hf st hg
  subst hP hw hK
  obtain⟨f0,f1,f2,f3,f4,f5⟩:=hf it (by simp)
  have W:=Walks.range (prog:=X.prog) (w:=X.w) (I.ok.hd hc) it lo 1 n
  refine W.item i s _ _ hg st fun v h' tk hv st' kk=>?_
  obtain⟨t,rfl⟩:=hv
  have I1:Inv X pins σ H { s with heap:=h',toks:=tk }:=I.turned (fun b o hb e=>kk b o (by simpa using hb) e) f0 f1 f3 f4 f5
  refine⟨_,rfl,QaU (s:={ s with heap:=h',toks:=tk }) (n:="range_iterator") st' rfl rfl (by decide) ⟨.int (lo + i),H,I1,⟨t,?_⟩,⟨rfl,rfl⟩,st',fun b hb=>(hf b hb).1⟩⟩
  rw[Int.mul_one]
 done:=by
  intro X hP hw hK hc i pins s σ H E I hf st hg
  subst hP hw hK
  obtain⟨f0,f1,f2,f3,f4,f5⟩:=hf it (by simp)
  exact wpAny_pyNext_range_end (I.ok.hd hc) st (by have:n<=i:=hg;ac_nf) fun h' eb=>⟨rfl,I.turned (t':=s.toks) (fun b o hb e=>eb b o hb e) f0 f1 f3 f4 f5⟩
 self:=fun _ _ _ _ _ st h=>wpAny_pyIter_rangeiter st h
section
variable {X:Cx}{tg:Expr}
def iList (K:PySem.W.Frag) (tl:TE):TI:=fun σ H R=>tl σ H fun x H1=>∃ a,x=.ref a/\(∃ xs,SqL K H1 a xs)/\R (Itl K a) H1
theorem QaY {l:Expr}{tl:TE} (hl:PE X l tl):PI X tg l (iList X.K tl):=by
 intro pins s σ H R I h
 refine thn (hl pins s σ H _ I h) fun v s1 pq18=>?_
 obtain⟨x,H1,I1,r1,q1⟩:=pq18
 obtain⟨a,e,⟨xs,hq⟩,q⟩:=q1
 subst e
 cases r1
 obtain⟨its,rv,p,hz⟩:=I1.list hq
 refine wpAny_pyIter_list p.isList ?_
 refine⟨s1.heap.objs.size,[s1.heap.objs.size],_,_,H1,rfl,I1.kept (t':=s1.toks) fun b o e=>Heap.get?_push_of_some _ e,QaV a _,⟨_,Heap.get?_push_size _ rfl,rfl,rfl⟩,fun b hb=>?_,q⟩
 have e:b=s1.heap.objs.size:=by simpa using hb
 subst e
 exact I1.fpOk (Nat.le_refl _) (I1.hok.fresh (Nat.le_refl _))
theorem QaZ {pins : List (Addr × Obj)} {σ : St} {H : Hp} {s : Shared} {R : It -> Hp -> Prop} {E : Value -> Shared -> Prop} {lo hi : Int} {t u v : Tok} {tk : Nat} (I : Inv X pins σ H s) (h1 : -(2 ^ 62) <= lo) (h2 : lo < 2 ^ 62) (h3 : -(2 ^ 62) <= hi) (h4 : hi < 2 ^ 62)
  (q:R (Itr lo (hi - lo).toNat) H):wpAny (model X.prog X.w) X.A (pyIter (.ref s.heap.objs.size)) (PIE X pins σ tg R) E { s with heap:=s.heap.push { cls:=.type "range",data:=.fields #[.int lo t,.int hi u,.int 1 v] },toks:=tk }:=by
 refine wpAny_pyIter_range (IsRange.new ..) (small_one h1 h2 h3 h4) ?_
 have I1:Inv X pins σ H { s with heap:=s.heap.push { cls:=.type "range",data:=.fields #[.int lo t,.int hi u,.int 1 v] },toks:=tk }:=I.kept fun b o e=>Heap.get?_push_of_some _ e
 refine⟨(s.heap.push { cls:=.type "range",data:=.fields #[.int lo t,.int hi u,.int 1 v] }).objs.size,[(s.heap.push { cls:=.type "range",data:=.fields #[.int lo t,.int hi u,.int 1 v] }).objs.size],_,_,H,rfl,
  I1.kept (t':=tk) fun b o e=>Heap.get?_push_of_some _ e,QaX _ lo (hi - lo).toNat,?_,fun b hb=>?_,q⟩
 ·have e1:lo + ((0:Nat):Int) * 1=lo:=by simp
  have e2:(((hi - lo).toNat:Nat):Int) - ((0:Nat):Int)=Builtin.Range.rangeSize lo hi 1:=by rw[rangeSize_one];split<;>ac_nf
  show IsRangeIter _ _ (lo + ((0:Nat):Int) * 1) ((((hi - lo).toNat:Nat):Int) - ((0:Nat):Int)) 1
  rw[e1,e2]
  exact Heap.get?_push_size _ rfl
 ·have e:b=(s.heap.push { cls:=.type "range",data:=.fields #[.int lo t,.int hi u,.int 1 v] }).objs.size:=by simpa using hb
  subst e
  exact I1.fpOk (Nat.le_refl _) (I1.hok.fresh (Nat.le_refl _))
def iRng1 (ta:TA):TI:=fun σ H R=>ta σ H fun vs H1=>∃ j:Int,vs=[.int j] /\ -(2 ^ 62)<=j/\j < 2 ^ 62/\R (Itr 0 j.toNat) H1
theorem Qa0 {a:Expr}{ta:TA}{p pos:Pos} (hg:Gl X "range") (hm:X.mg "range"=none) (ha:PA X [a] ta) (hs:starEach [a] X.env=[(false,eval a X.env)]:=by rfl):PI X tg (.Call (.Name "range" p) [a] [] pos) (iRng1 ta):=by
 intro pins s σ H R I h
 refine Call_ (Qax I hg hm boot_range (PyProof.Rows.callWith_type1 (thn (ha pos pins s σ H _ I h) fun us s1 ⟨vs,H1,I1,r1,q1⟩=>?_) hs rfl))
 obtain⟨j,e,q1,q2,q⟩:=q1
 subst e
 cases r1 with
 | cons r rr=>
  cases rr
  obtain⟨t,rfl⟩:=r
  exact call_range_1 (QaZ I1 (by ac_nf) (by ac_nf) q1 q2 (by simpa using q))
def tFor (wi:TI) (g:TG) (tb:TS):TS:=fun D σ H=>wi σ H fun J H1=>∃ W:Nat->Nat->St->Hp->Prop,(∃ m,W 0 m σ H1)/\∀ i m σ H,W i m σ H ->
 (J.stop i H/\D.nx σ H)\/(J.go i H/\∃ N:St->Hp->Prop,(∀ σ' H',N σ' H'->∃ m',m' < m/\W (i + 1) m' σ' H')/\∀ x H',J.yld i H x H'->g x σ H' fun σ2 H2=>tb { D with nx:=N,ct:=N,bk:=D.nx } σ2 H2)
def pinsAt (fp:List Addr) (h:Heap):List (Addr × Obj):=fp.filterMap fun b=>(h.get? b).map fun o=>(b,o)
theorem Qa1 {fp:List Addr}{h:Heap}{b:Addr}{o:Obj} (hb:b∈fp) (e:h.get? b=some o):(b,o)∈pinsAt fp h:=List.mem_filterMap.mpr ⟨b,hb,by rw[e];rfl⟩
theorem Qa2 {fp:List Addr}{h:Heap}{p:Addr × Obj} (hp:p∈pinsAt fp h):p.1∈fp/\h.get? p.1=some p.2:=by
 obtain⟨b,hb,e⟩:=List.mem_filterMap.mp hp
 cases q:h.get? b with
 | none=>rw[q]at e;cases e
 | some o=>
  rw[q]at e
  have e':(b,o)=p:=Option.some.inj e
  subst e'
  exact⟨hb,q⟩
theorem Inv.pinned {pins:List (Addr × Obj)}{σ:St}{H:Hp}{s:Shared}{fp:List Addr} (I:Inv X pins σ H s) (hf:∀ b∈fp,FpOk X pins H b) (ho:∀ b∈fp,∃ o,s.heap.get? b=some o/\∀ v,o.data≠.cell v):Inv X (pins++pinsAt fp s.heap) σ H s:=
 I.pins_of fun p hp=>(List.mem_append.mp hp).elim (fun z=>I.pin p (List.mem_append_right _ z)) fun z=>by
  obtain⟨hb,e⟩:=Qa2 z
  obtain⟨f0,f1,f2,_⟩:=hf p.1 hb
  obtain⟨o,e',d⟩:=ho p.1 hb
  rw[e]at e';cases e'
  exact⟨e,f0,f1,f2,d⟩
theorem Inv.unpinned {pins pl:List (Addr × Obj)}{σ:St}{H:Hp}{s:Shared} (I:Inv X (pins++pl) σ H s):Inv X pins σ H s:=I.pins_of fun p hp=>I.pin p (List.mem_append_right _ (List.mem_append_left _ hp))
theorem Qa3 {iter : Expr} {body : List Stmt} {wi : TI} {g : TG} {tb : TS} {pos : Pos} (hp : PassesOwn (model X.prog X.w) X.A X.env X.xe) (hc : X.calm = true) (hi : PI X tg iter wi) (hg : PG X tg g) (hb : PSs X body tb)
  (hs:∀ x,foldedSetIterable iter X.env x=pure x:=by intro _;rfl):PS X (.For tg iter body [] pos) (tFor wi g tb):=by
 intro pins s σ H D I h
 refine wpAny_For (thn (hi pins s σ H _ I h) fun v s1 h1=>thn h1 fun itv s2 h2=>?_) hs
 obtain⟨it,fp,tn,J,H2,e,I2,T,st2,f2,W,⟨m0,w0⟩,turn⟩:=h2
 subst e
 have stat:∀ {H':Hp},(∀ b∈fp,H' b=none)->∀ b∈fp,FpOk X pins H' b:=fun hn b hb=>⟨hn b hb,(f2 b hb).2⟩
 refine codeAny_forLoop_any (fun n s'=>∃ i σ' H',Inv X pins σ' H' s'/\tn i s'.heap/\(∀ b∈fp,H' b=none)/\W i n σ' H') ?_ m0 ⟨0,σ,H2,I2,st2,fun b hb=>(f2 b hb).1,w0⟩
 rintro n s3 ⟨i,σ3,H3,I3,st3,fr3,w3⟩
 rcases turn i n σ3 H3 w3 with ⟨stop,qn⟩ | ⟨go,N,hN,step⟩
 ·refine wpAny_passesOwn hp (thn (T.done X rfl rfl rfl hc i pins s3 σ3 H3 X.xe I3 (stat fr3) st3 stop) fun r s4 pq20=>?_)
  obtain⟨hr,I4⟩:=pq20
  subst hr
  exact wpAny_execs_nil ⟨σ3,H3,I4,qn⟩
 ·refine wpAny_passesOwn hp (thn (T.item X rfl rfl rfl hc i pins s3 σ3 H3 X.xe I3 (stat fr3) st3 go) fun r s4 pq21=>?_)
  obtain⟨u,hr,h4⟩:=pq21
  subst hr
  refine wpAny_passesOwn hp (thn h4 fun _ s5 pq22=>?_)
  obtain⟨x,H5,I5,r5,y5,st5,fr5⟩:=pq22
  have I5':=I5.pinned (stat fr5) (T.obj _ _ st5)
  refine wpAny_passesOwn hp (thn (hg _ s5 σ3 H5 x u _ I5' r5 (step x H5 y5)) fun _ s6 pq23=>?_)
  obtain⟨σ6,H6,I6,q6⟩:=pq23
  refine wpAny_passesOwn hp (thn (hb _ s6 σ6 H6 _ I6 q6) fun f s7 q7=>?_)
  have again:∀ {σ7:St}{H7:Hp},Inv X (pins++pinsAt fp s5.heap) σ7 H7 s7->N σ7 H7->∃ m,m < n/\∃ i σ' H',Inv X pins σ' H' s7/\tn i s7.heap/\(∀ b∈fp,H' b=none)/\W i m σ' H':=fun {σ7 H7} I7 n7=>by
   obtain⟨m',hm,w7⟩:=hN σ7 H7 n7
   refine⟨m',hm,i + 1,σ7,H7,I7.unpinned,T.keep _ _ _ st5 fun b hb o e=>(I7.pin (b,o) (List.mem_append_right _ (List.mem_append_right _ (Qa1 hb e)))).1,fun b hb=>?_,w7⟩
   obtain⟨o,e,d⟩:=T.obj _ _ st5 b hb
   exact (I7.pin (b,o) (List.mem_append_right _ (List.mem_append_right _ (Qa1 hb e)))).2.1
  cases f with
  | next=>obtain⟨σ7,H7,I7,n7⟩:=q7;exact again I7 n7
  | cont=>obtain⟨σ7,H7,I7,n7⟩:=q7;exact again I7 n7
  | brk=>obtain⟨σ7,H7,I7,q7⟩:=q7;exact⟨σ7,H7,I7.unpinned,q7⟩
  | ret v=>obtain⟨x7,σ7,H7,I7,r7,q7⟩:=q7;exact⟨x7,σ7,H7,I7.unpinned,r7,q7⟩
end
abbrev R2:=V->V->Hp->VK->Prop
def OpR (X:Cx) (f:Value->Value->Sem Value) (r:R2):Prop:=
 ∀ (pins:List (Addr × Obj)) (s:Shared) (σ:St) (H:Hp) (x y:V) (v u:Value) (Q:VK),Inv X pins σ H s->RelV x v->RelV y u->r x y H Q ->
  wpAny (model X.prog X.w) X.A (f v u) (EP X pins σ Q) X.xe s
def CallR (X:Cx) (f:Value) (r:List V->Hp->VK->Prop):Prop:=
 ∀ (pins:List (Addr × Obj)) (s:Shared) (σ:St) (H:Hp) (xs:List V) (us:List Value) (Q:VK),Inv X pins σ H s->Vals xs us->r xs H Q ->
  wpAny (model X.prog X.w) X.A (call f us) (EP X pins σ Q) X.xe s
def TruR (X:Cx) (r:V->Hp->(Bool->Hp->Prop)->Prop):Prop:=
 ∀ (pins:List (Addr × Obj)) (s:Shared) (σ:St) (H:Hp) (x:V) (v:Value) (Q:Bool->Hp->Prop),Inv X pins σ H s->RelV x v->r x H Q ->
  wpAny (model X.prog X.w) X.A (truthy v) (TP X pins σ Q) X.xe s
def tOp (r:R2) (ta tb:TE):TE:=fun σ H Q=>ta σ H fun x H1=>tb σ H1 fun y H2=>r x y H2 Q
def rI (C:Int->Int->Prop) (g:Int->Int->V):R2:=fun x y H Q=>∃ i j,x=.int i/\y=.int j/\C i j/\Q (g i j) H
def rI0 (g:Int->Int->V):R2:=fun x y H Q=>∃ i j,x=.int i/\y=.int j/\Q (g i j) H
section
variable {X:Cx}{a b c:Expr}{ta tb tc:TE}{pos:Pos}
theorem binT (ha : PE X a ta) (hb : PE X b tb) {pins : List (Addr × Obj)} {s : Shared} {σ : St} {H : Hp} {R : V -> V -> Hp -> Prop} (I : Inv X pins σ H s)
  (h:ta σ H fun x H1=>tb σ H1 fun y H2=>R x y H2) {Q:Value->Shared->Prop}{f:Value->Value->Sem Value}
  (hf:∀ v u s2 x y H2,Inv X pins σ H2 s2->RelV x v->RelV y u->R x y H2->wpAny (model X.prog X.w) X.A (f v u) Q X.xe s2):
  wpAny (model X.prog X.w) X.A (eval a X.env) (fun v s₁=>wpAny (model X.prog X.w) X.A (eval b X.env) (fun u s₂=>wpAny (model X.prog X.w) X.A (f v u) Q X.xe s₂) X.xe s₁) X.xe s:=by
 refine thn (ha pins s σ H _ I h) fun v s1 pq24=>?_
 obtain⟨x,H1,I1,r1,q1⟩:=pq24
 refine thn (hb pins s1 σ H1 _ I1 q1) fun u s2 pq25=>?_
 obtain⟨y,H2,I2,r2,q2⟩:=pq25
 exact hf v u s2 x y H2 I2 r1 r2 q2
theorem Qa4 {op:Operator}{r:R2} (ho:OpR X (binaryOp op) r) (ha:PE X a ta) (hb:PE X b tb):PE X (.BinOp a op b pos) (tOp r ta tb):=by
 intro pins s σ H Q I h
 exact wpAny_BinOp (binT ha hb I h fun v u s2 x y H2 I2 rx ry q=>ho pins s2 σ H2 x y v u Q I2 rx ry q)
theorem opI {f : Value -> Value -> Sem Value} {C : Int -> Int -> Prop} {g : Int -> Int -> Int}
  (rule:∀ (i j:Int) (t u:Tok) (s:Shared) (Q:Value->Shared->Prop) (E:Value->Shared->Prop),C i j->Q (.int (g i j) s.toks) { s with toks:=s.toks + 1 }->wpAny (model X.prog X.w) X.A (f (.int i t) (.int j u)) Q E s):
  OpR X f (rI C fun i j=>.int (g i j)):=by
 intro pins s σ H x y v u Q I rx ry h
 obtain⟨i,j,rfl,rfl,hc,q⟩:=h
 obtain⟨t,rfl⟩:=rx
 obtain⟨t',rfl⟩:=ry
 exact rule i j t t' s _ _ hc ⟨.int (g i j),H,I.tok _,⟨_,rfl⟩,q⟩
theorem opI0 {f : Value -> Value -> Sem Value} {g : Int -> Int -> Int}
  (rule:∀ (i j:Int) (t u:Tok) (s:Shared) (Q:Value->Shared->Prop) (E:Value->Shared->Prop),Q (.int (g i j) s.toks) { s with toks:=s.toks + 1 }->wpAny (model X.prog X.w) X.A (f (.int i t) (.int j u)) Q E s):
  OpR X f (rI0 fun i j=>.int (g i j)):=by
 intro pins s σ H x y v u Q I rx ry h
 obtain⟨i,j,rfl,rfl,q⟩:=h
 obtain⟨t,rfl⟩:=rx
 obtain⟨t',rfl⟩:=ry
 exact rule i j t t' s _ _ ⟨.int (g i j),H,I.tok _,⟨_,rfl⟩,q⟩
theorem opB0 {f : Value -> Value -> Sem Value} {g : Int -> Int -> Bool}
  (rule:∀ (i j:Int) (t u:Tok) (s:Shared) (Q:Value->Shared->Prop) (E:Value->Shared->Prop),Q (.bool (g i j)) s->wpAny (model X.prog X.w) X.A (f (.int i t) (.int j u)) Q E s):
  OpR X f (rI0 fun i j=>.bl (g i j)):=by
 intro pins s σ H x y v u Q I rx ry h
 obtain⟨i,j,rfl,rfl,q⟩:=h
 obtain⟨t,rfl⟩:=rx
 obtain⟨t',rfl⟩:=ry
 exact rule i j t t' s _ _ ⟨.bl (g i j),H,I,rfl,q⟩
def CDiv (i j:Int):Prop:=0 < j/\j < 1073741824
def CPow (i j:Int):Prop:=0<=j/\j<=1000000/\i.natAbs < 2 ^ 64
def CMul (i j:Int):Prop:=(-(2 ^ 64) < i/\i < 2 ^ 64)\/(-(2 ^ 64) < j/\j < 2 ^ 64)
theorem CMul.ok {i j:Int} (h:CMul i j):IntMulOk i j:=by
 rcases h with ⟨h1,h2⟩ | ⟨h1,h2⟩
 ·exact .of_left (intBits_le_64 h1 h2)
 ·exact .of_right (intBits_le_64 h1 h2)
theorem Qa5:OpR X (binaryOp .Add) (rI0 fun i j=>.int (i + j)):=opI0 fun _ _ _ _ _ _ _ q=>add_int q
theorem Qa6:OpR X (binaryOp .Sub) (rI0 fun i j=>.int (i - j)):=opI0 fun _ _ _ _ _ _ _ q=>sub_int q
theorem Qa7:OpR X (binaryOp .Mult) (rI CMul fun i j=>.int (i * j)):=opI fun _ _ _ _ _ _ _ hc q=>mul_int q hc.ok
theorem Qa8:OpR X (binaryOp .FloorDiv) (rI CDiv fun i j=>.int (i / j)):=opI fun i j _ _ _ _ _ hc q=>by
 have h1:(0:Int) < j:=hc.1
 have h2:j < 1073741824:=hc.2
 exact floordiv_int (by ac_nf) (by rw[Int.fdiv_eq_ediv_of_nonneg i (by ac_nf)];exact q) (.inl (PyProof.noPylong_small (by ac_nf)))
theorem Qa9:OpR X (binaryOp .Mod) (rI (fun _ j=>0 < j) fun i j=>.int (i % j)):=opI fun i j _ _ _ _ _ hc q=>by
 have h1:(0:Int) < j:=hc
 exact mod_int' (by ac_nf) (by rw[Int.fmod_eq_emod_of_nonneg i (by ac_nf)];exact q)
theorem Qba:OpR X (binaryOp .Pow) (rI CPow fun i j=>.int (i ^ j.toNat)):=opI fun _ _ _ _ _ _ _ hc q=>pow_int_small hc.1 hc.2.1 hc.2.2 q
end
section
variable {X:Cx}{a b c:Expr}{ta tb tc:TE}{pos:Pos}
theorem Qbb {pins:List (Addr × Obj)}{σ:St}{H:Hp}{s:Shared}{Q:VK}{k k':Bool} (I:Inv X pins σ H s) (q:Q (.bl k) H) (e:k=k'):EP X pins σ Q (.bool k') s:=by
 subst e
 exact⟨.bl k,H,I,rfl,q⟩
theorem Qbc:OpR X (compareOp .Lt) (rI0 fun i j=>.bl (decide (i < j))):=opB0 fun _ _ _ _ _ _ _ q=>lt_int q
theorem Qbd:OpR X (compareOp .LtE) (rI0 fun i j=>.bl (decide (i<=j))):=opB0 fun _ _ _ _ _ _ _ q=>le_int q
theorem Qbe:OpR X (compareOp .Gt) (rI0 fun i j=>.bl (decide (j < i))):=opB0 fun _ _ _ _ _ _ _ q=>gt_int q
theorem Qbf:OpR X (compareOp .GtE) (rI0 fun i j=>.bl (decide (j<=i))):=opB0 fun _ _ _ _ _ _ _ q=>ge_int q
theorem Qbg:OpR X (compareOp .IsNot) (fun x y H Q=>y=.non/\Q (.bl (!decide (x=.non))) H):=by
 intro pins s σ H x y v u Q I rx ry h
 obtain⟨rfl,q⟩:=h
 cases ry
 refine isnot_none_gen (Qbb I q ?_)
 cases x<;>first
  | (cases rx;rfl)
  | (obtain⟨t,rfl⟩:=rx;rfl)
theorem Qbh (b:Expr) {op:CmpOp} (h:op≠.In:=by decide) (h2:op≠.NotIn:=by decide):behindInMarks op b=false:=by
 have e1:(op == CmpOp.In)=false:=by cases op<;>first | rfl | exact absurd rfl h
 have e2:(op == CmpOp.NotIn)=false:=by cases op<;>first | rfl | exact absurd rfl h2
 cases b<;>simp[behindInMarks,e1,e2]
theorem Qbi {op:CmpOp}{r:R2} (ho:OpR X (compareOp op) r) (ha:PE X a ta) (hb:PE X b tb) (hm:behindInMarks op b=false):PE X (.Compare a [op] [b] pos) (tOp r ta tb):=by
 intro pins s σ H Q I h
 exact wpAny_Compare1 (binT ha hb I h fun v u s2 x y H2 I2 rx ry q=>ho pins s2 σ H2 x y v u Q I2 rx ry q) hm
def tTest (t:TE):TT:=fun σ H Q=>t σ H fun x H'=>∃ k,x=.bl k/\Q k H'
theorem Qbj {op:CmpOp}{r:R2} (ho:OpR X (compareOp op) r) (ha:PE X a ta) (hb:PE X b tb) (hm:behindInMarks op b=false):PT X (.Compare a [op] [b] pos) (tTest (tOp r ta tb)):=by
 intro pins s σ H Q I h
 refine wpAny_isTrue_Compare1 (thn (ha pins s σ H _ I h) fun v s1 ⟨x,H1,I1,r1,q1⟩=>thn (hb pins s1 σ H1 _ I1 q1) fun u s2 ⟨y,H2,I2,r2,q2⟩=>
  thn (ho pins s2 σ H2 x y v u _ I2 r1 r2 q2) fun c s3 ⟨z,H3,I3,r3,k,e,q3⟩=>?_) hm
 subst e
 cases r3
 exact wpAny_truthy_bool ⟨H3,I3,q3⟩
def tChain (r r':R2) (ta tb tc:TE):TE:=fun σ H Q=>ta σ H fun x H1=>tb σ H1 fun y H2=>r x y H2 fun z H3=>∃ k,z=.bl k /\
 (if k=true then tc σ H3 fun w' H4=>r' y w' H4 Q else Q (.bl false) H3)
theorem Qbk {op op' : CmpOp} {r r' : R2} (ho : OpR X (compareOp op) r) (ho' : OpR X (compareOp op') r') (ha : PE X a ta) (hb : PE X b tb) (hc : PE X c tc)
  (hm:lastMarks [op,op'] [b,c]=false:=by with_unfolding_all rfl):PE X (.Compare a [op,op'] [b,c] pos) (tChain r r' ta tb tc):=by
 intro pins s σ H Q I h
 refine Compare_chain (thn (ha pins s σ H _ I h) fun v s1 ⟨x,H1,I1,r1,q1⟩=>chain_link (thn (hb pins s1 σ H1 _ I1 q1) fun u s2 ⟨y,H2,I2,r2,q2⟩=>
  thn (ho pins s2 σ H2 x y v u _ I2 r1 r2 q2) fun d s3 ⟨z,H3,I3,r3,k,e,q3⟩=>?_)) hm
 subst e
 cases r3
 refine wpAny_truthy_bool ?_
 cases k with
 | false=>exact ite_ff ⟨.bl false,H3,I3,rfl,q3⟩
 | true=>exact ite_tt (chain_last (thn (hc pins s3 σ H3 _ I3 q3) fun w' s4 ⟨z',H4,I4,r4,q4⟩=>ho' pins s4 σ H4 y z' u w' Q I4 r2 r4 q4))
theorem Qbl {op op' : CmpOp} {r r' : R2} (ho : OpR X (compareOp op) r) (ho' : OpR X (compareOp op') r') (ha : PE X a ta) (hb : PE X b tb) (hc : PE X c tc)
  (hm:lastMarks [op,op'] [b,c]=false:=by with_unfolding_all rfl):PT X (.Compare a [op,op'] [b,c] pos) (tTest (tChain r r' ta tb tc)):=by
 intro pins s σ H Q I h
 refine isTrue_chain (thn (ha pins s σ H _ I h) fun v s1 ⟨x,H1,I1,r1,q1⟩=>test_link (thn (hb pins s1 σ H1 _ I1 q1) fun u s2 ⟨y,H2,I2,r2,q2⟩=>
  thn (ho pins s2 σ H2 x y v u _ I2 r1 r2 q2) fun d s3 ⟨z,H3,I3,r3,k,e,q3⟩=>?_)) hm
 subst e
 cases r3
 refine wpAny_truthy_bool ?_
 cases k with
 | false=>
  obtain⟨k',e',q'⟩:=q3
  cases e'
  exact ite_ff ⟨H3,I3,q'⟩
 | true=>
  refine ite_tt (test_last (thn (hc pins s3 σ H3 _ I3 q3) fun w' s4 ⟨z',H4,I4,r4,q4⟩=>thn (ho' pins s4 σ H4 y z' u w' _ I4 r2 r4 q4) fun d' s5 ⟨z2,H5,I5,r5,k2,e2,q5⟩=>?_))
  subst e2
  cases r5
  exact wpAny_truthy_bool ⟨H5,I5,q5⟩
def TruV (K:PySem.W.Frag) (x:V) (H:Hp) (k:Bool):Prop:=
 match x with
 | .non=>k=false
 | .bl b=>k=b
 | .int i=>k=(i != 0)
 | .str y=>y.length<=sizeLine/\k=((y.length:Int) != 0)
 | .byt y=>y.size<=sizeLine/\k=((y.size:Int) != 0)
 | .ref p=>(∃ xs,SqL K H p xs/\k = !xs.isEmpty)\/(∃ xs,SqT K H p xs/\k = !xs.isEmpty)\/∃ kvs,H p=some (.dK kvs)/\k = !kvs.isEmpty
 | _=>False
theorem Qbm {κ:Type}{kvs:List (κ × V)}{vs:List (κ × Value)} (r:KV kvs vs):(!vs.isEmpty) = !kvs.isEmpty:=by
 cases r<;>rfl
theorem Qbn {xs:List V}{its:List Value} (r:Vals xs its):(!its.toArray.isEmpty) = !xs.isEmpty:=by
 cases r<;>simp
theorem Qbo:(sizeLine:Nat) < 2 ^ 63:=by rw[sizeLine_eq];decide
theorem Qbp:TruR X (fun x H Q=>∃ k,TruV X.K x H k/\Q k H):=by
 intro pins s σ H x v Q I rx h
 obtain⟨k,e,q⟩:=h
 have hl:=Qbo
 have hs:sizeLine=16777216:=sizeLine_eq
 cases x with
 | non=>
  cases rx
  have e':k=false:=e
  subst e'
  exact truthy_none ⟨H,I,q⟩
 | bl b=>
  cases rx
  have e':k=b:=e
  subst e'
  exact wpAny_truthy_bool ⟨H,I,q⟩
 | int i=>
  obtain⟨t,rfl⟩:=rx
  have e':k=(i != 0):=e
  subst e'
  exact PySem.P.truthy_int ⟨H,I,q⟩
 | str y=>
  obtain⟨t,rfl⟩:=rx
  obtain⟨hy,e'⟩:y.length<=sizeLine/\k=((y.length:Int) != 0):=e
  subst e'
  exact PySem.P.truthy_str (by ac_nf) ⟨H,I.tok _,q⟩
 | byt y=>
  obtain⟨t,rfl⟩:=rx
  obtain⟨hy,e'⟩:y.size<=sizeLine/\k=((y.size:Int) != 0):=e
  subst e'
  exact PySem.W.truthy_bytes (by ac_nf) ⟨H,I.tok _,q⟩
 | ref p=>
  cases rx
  have e':(∃ xs,SqL X.K H p xs/\k = !xs.isEmpty)\/(∃ xs,SqT X.K H p xs/\k = !xs.isEmpty)\/∃ kvs,H p=some (.dK kvs)/\k = !kvs.isEmpty:=e
  rcases e' with ⟨xs,hx,e'⟩ | ⟨xs,hx,e'⟩ | ⟨kvs,hx,e'⟩
  ·subst e'
   obtain⟨its,r,pl,hz⟩:=I.list hx
   have hlen:=r.length
   exact wpAny_truthy_list pl.isList (by simp only[List.size_toArray];ac_nf) ⟨H,I.tok _,by rw[Qbn r];exact q⟩
  ·subst e'
   obtain⟨its,r,pl,hz⟩:=I.tuple hx
   have hlen:=r.length
   exact truthy_tuple pl (by simp only[List.size_toArray];ac_nf) ⟨H,I.tok _,by rw[Qbn r];exact q⟩
  ·subst e'
   obtain⟨hz,hS,vs,r,m⟩:kvs.length<=sizeLine/\(p == sysModules)=false/\∃ vs,KV kvs vs/\s.heap.DictOf (mixKind X.prog X.w) p vs:=I.hok p _ hx
   have hlen:kvs.length=vs.length:=Paired.length r
   exact wpAny_truthy_dict hS m (by ac_nf) ⟨H,I.tok _,by rw[Qbm r];exact q⟩
 | _=>exact (show False from e).elim
theorem Qbq (ha : PE X a ta) (he : ∀ whole, isTrue a X.env whole = (do let v <- whole; standAt a.pos; holding [v] (truthy v))) :
  PT X a (fun σ H Q=>ta σ H fun x H'=>∃ k,TruV X.K x H' k/\Q k H'):=by
 intro pins s σ H Q I h
 exact isTrue_plain (thn (ha pins s σ H _ I h) fun v s1 pq26=>by obtain⟨x,H1,I1,r1,q1⟩:=pq26;exact Qbp pins s1 σ H1 x v Q I1 r1 q1) (he _)
theorem Qbr:OpR X (binaryOp .Add) (fun x y H Q=>∃ i j,x=.str i/\y=.str j/\i.length + j.length<=sizeLine/\Q (.str (i++j)) H):=by
 intro pins s σ H x y v u Q I rx ry h
 obtain⟨i,j,rfl,rfl,hz,q⟩:=h
 obtain⟨t,rfl⟩:=rx
 obtain⟨t',rfl⟩:=ry
 exact add_str (fun t' tk=>⟨.str (i++j),H,I.tok _,⟨_,rfl⟩,q⟩) hz
theorem Qbs {x:V}{us:List Value} (r:Vals [x] us):∃ u,us=[u]/\RelV x u:=by
 cases r with
 | cons r1 r2=>cases r2;exact⟨_,rfl,r1⟩
theorem Qbt {x y:V}{us:List Value} (r:Vals [x,y] us):∃ u w',us=[u,w']/\RelV x u/\RelV y w':=by
 cases r with
 | cons r1 r2=>
  cases r2 with
  | cons r3 r4=>cases r4;exact⟨_,_,rfl,r1,r3⟩
theorem Qbu (hc:X.calm=true):CallR X (.builtin "max") (fun xs H Q=>∃ i j,xs=[.int i,.int j]/\Q (.int (if j > i then j else i)) H):=by
 intro pins s σ H xs us Q I r h
 obtain⟨i,j,rfl,q⟩:=h
 obtain⟨u,w',rfl,⟨t,rfl⟩,⟨t',rfl⟩⟩:=Qbt r
 refine max_two_ints (I.ok.hd hc) fun h' tk k=>⟨_,H,I.kept k,?_,q⟩
 by_cases hj:j > i
 ·rw[if_pos hj,if_pos hj];exact⟨_,rfl⟩
 ·rw[if_neg hj,if_neg hj];exact⟨_,rfl⟩
theorem Qbv:CallR X (.type "int") (fun xs H Q=>(∃ i,xs=[.int i]/\Q (.int i) H)\/∃ k,xs=[.bl k]/\Q (.int (if k then 1 else 0)) H):=by
 intro pins s σ H xs us Q I r h
 rcases h with ⟨i,rfl,q⟩ | ⟨k,rfl,q⟩
 ·obtain⟨u,rfl,t,rfl⟩:=Qbs r
  exact call_int_int ⟨.int i,H,I,⟨_,rfl⟩,q⟩
 ·obtain⟨u,rfl,r1⟩:=Qbs r
  cases r1
  exact call_int_bool ⟨.int (if k then 1 else 0),H,I.tok _,⟨_,rfl⟩,q⟩
end
theorem RelO.some_of {v:V}{o:Option Value} (r:RelO (some v) o):∃ u,o=some u/\RelV v u:=by
 cases o with
 | none=>exact (show False from r).elim
 | some u=>exact⟨u,rfl,r⟩
section
variable {X:Cx}{o e value:Expr}{f:Str}{pos pos' tpos:Pos}{ta tv:TE}
def rSub:V->V->Hp->VK->Prop:=fun x y H Q=>∃ i j,x=.int i/\y=.int j/\Q (.int (i - j)) H
end
structure Room (k:Nat) (A:Around):Prop where
 hd:A.handled=none
 dp:A.depth + 3 * k + 5 < recursionLimit
 un:A.units + 16 * k + 200 < cLine
theorem Room.mono {j k:Nat}{A:Around} (r:Room k A) (h:j<=k):Room j A:=⟨r.hd,by have:=r.dp;ac_nf,by have:=r.un;ac_nf⟩
theorem Room.deeper {k:Nat}{A:Around} (r:Room (k + 1) A) (env:Env):Room k (A.deeper env):=
 ⟨r.hd,by have:=r.dp;show A.depth + 1 + 3 * k + 5 < _;ac_nf,by have:=r.un;show A.units + 3 + 16 * k + 200 < _;ac_nf⟩
theorem Room.depth {k:Nat}{A:Around} (r:Room k A):A.depth < recursionLimit:=by have:=r.dp;ac_nf
theorem Room.units {k:Nat}{A:Around} (r:Room k A):A.units + 64 < cLine:=by have:=r.un;ac_nf
def tNil:TA:=fun _ H Q=>Q [] H
def tCons (ta:TE) (tr:TA):TA:=fun σ H Q=>ta σ H fun x H1=>tr σ H1 fun xs H2=>Q (x::xs) H2
section
variable {X:Cx}{e:Expr}{es:List Expr}{te:TE}{t:TA}{pos:Pos}
theorem Qbz:PA X [] tNil:=fun _ _ _ _ H Q I h=>Calls.spliced_nil ⟨[],H,I,.nil,h⟩
theorem QbA (ha:PE X e te) (hr:PA X es t) (hs:starEach (e::es) X.env=(false,eval e X.env)::starEach es X.env:=by rfl):PA X (e::es) (tCons te t):=by
 intro pos pins s σ H Q I h
 rw[hs]
 show wpAny _ _ (spliced ((false,eval e X.env)::backTo pos (starEach es X.env))) _ _ s
 refine Calls.spliced_cons (thn (ha pins s σ H _ I h) fun u s1 pq27=>?_)
 obtain⟨x,H1,I1,r1,q1⟩:=pq27
 exact thn (hr pos pins s1 σ H1 _ I1 q1) fun us s2 pq28=>by obtain⟨xs,H2,I2,r2,q2⟩:=pq28;exact⟨x::xs,H2,I2,.cons r1 r2,q2⟩
def tTup (t:TA):TE:=fun σ H Q=>t σ H fun xs H1=>xs.length<=sizeLine/\∀ p,H1 p=none->Q (.ref p) (upd H1 p (.tup xs))
def tLst (t:TA):TE:=fun σ H Q=>t σ H fun xs H1=>xs.length<=sizeLine/\∀ p,H1 p=none->Q (.ref p) (upd H1 p (.lst xs))
theorem QbB {x1} (h:PA X es t):PE X (.Tuple es x1 pos) (tTup t):=by
 intro pins s σ H Q I hq
 refine wpAny_Tuple_spliced (thn (h pos pins s σ H _ I hq) fun us s1 ⟨xs,H1,I1,r,z,q⟩=>⟨by rw[<- r.length];exact z,?_⟩)
 have hf:H1 s1.heap.objs.size=none:=I1.hok.fresh (Nat.le_refl _)
 refine⟨.ref s1.heap.objs.size,upd H1 s1.heap.objs.size (.tup xs),I1.laid (t':=s1.toks) (fun b u e=>Heap.get?_push_of_some _ e) (Nat.le_refl _) ?_,rfl,q _ hf⟩
 exact⟨z,us,r,⟨_,Heap.get?_push_size _ rfl,rfl,⟨_,rfl⟩,rfl⟩⟩
theorem QbC (h:PA X es t):PE X (.List es pos) (tLst t):=by
 intro pins s σ H Q I hq
 refine wpAny_List_spliced (thn (h pos pins s σ H _ I hq) fun us s1 ⟨xs,H1,I1,r,z,q⟩=>⟨by rw[<- r.length];exact z,?_⟩)
 have hf:H1 s1.heap.objs.size=none:=I1.hok.fresh (Nat.le_refl _)
 refine⟨.ref s1.heap.objs.size,upd H1 s1.heap.objs.size (.lst xs),I1.laid (t':=s1.toks) (fun b u e=>Heap.get?_push_of_some _ e) (Nat.le_refl _) ?_,rfl,q _ hf⟩
 exact⟨z,us,0,r,Heap.get?_push_size _ rfl⟩
end
abbrev Sp:=List V->Hp->VK->XK->Prop
abbrev CXT:=List Env->Hp->Shared->XK->Value->Shared->Prop
structure Env0 (P:Program) (w:World) (K:PySem.W.Frag) (mg:Str->Option Value) (base:Heap) (A:Around) (outer:List Env) (s:Shared) (H:Hp):Prop where
 frames:A.frames=some outer
 mod:Mod K mg base
 bs:∀ b o,base.get? b=some o->s.heap.get? b=some o/\H b=none
 bsz:base.objs.size<=s.heap.objs.size
 funs:s.heap.FunFrames base outer
 frf:∀ b∈frs outer,H b=none
 hok:HOk P w H s.heap
 bare:AllBare s.gens
def CE (outer:List Env) (P:Program) (w:World) (H:Hp) (s:Shared) (Q:VK) (u:Value) (s':Shared):Prop:=
 ∃ v H',s'.os=s.os/\AllBare s'.gens/\Un (frs outer) [] H H' s.heap s'.heap/\HOk P w H' s'.heap/\RelV v u/\Q v H'
def CR (CX:CXT) (outer:List Env) (P:Program) (w:World) (H:Hp) (s:Shared) (Q:VK) (E:XK) (r:Result) (s':Shared):Prop:=
 match r with
 | .ok (.ret u)=>CE outer P w H s Q u s'
 | .ok _=>False
 | .error e=>CX outer H s E e s'
structure FnOk (P:Program) (w:World) (K:PySem.W.Frag) (mg:Str->Option Value) (base:Heap) (CX:CXT) (k:Nat) (f:Addr) (fd:FuncData) (ps:List Str) (sp:Sp):Prop where
 len:∀ vs H Q E,sp vs H Q E->vs.length=ps.length
 run:∀ (A:Around) (outer:List Env) (s:Shared) (H:Hp) (args:Args) (us:List Value) (vs:List V) (Q:VK) (E:XK),Room k A->Env0 P w K mg base A outer s H->BindsTo s fd args (ps.zip us)->Vals vs us->sp vs H Q E ->
  codeAny (model P w) A (.call (.ref f) args) (CR CX outer P w H s Q E) s
section
variable {X:Cx}{pins:List (Addr × Obj)}{σ:St}{H:Hp}{s s':Shared}
theorem Inv.env0 (I:Inv X pins σ H s):Env0 X.prog X.w X.K X.mg X.base X.A X.stack s H:=
 ⟨I.ok.frames,I.ok.mod,I.bs,Nat.le_trans I.ok.bsz I.sz,I.stack,I.stkFree,I.hok,I.bare⟩
theorem Inv.after {Q:VK}{u:Value} (I:Inv X pins σ H s) (h:CE X.stack X.prog X.w H s Q u s'):EP X pins σ Q u s':=by
 obtain⟨v,H',os,bare,un,hok,r,q⟩:=h
 obtain⟨hh,g,d,t,os'⟩:=s'
 obtain rfl:os'=s.os:=os
 exact⟨v,H',I.call (h':=hh) (g':=g) (d':=d) (t':=t) (ch:=[]) un hok bare (fun b z=>absurd z (by simp)),r,q⟩
end
def tCall (sp:Sp) (dvs:List V) (E:XK) (t:TA):TE:=fun σ H Q=>t σ H fun vs H1=>sp (vs++dvs) H1 Q E
def Binds (K:PySem.W.Frag) (fd:FuncData) (ps:List Str) (ds:List Value):Prop:=
 ∀ (s:Shared) (us:List Value),K.In s.heap->(us++ds).length=ps.length->BindsTo s fd ⟨us,[]⟩ (ps.zip (us++ds))
theorem Binds.all {K:PySem.W.Frag}{fd:FuncData}{ps:List Str} (h:∀ us:List Value,us.length=ps.length->bindArgs fd ⟨us,[]⟩=pure (ps.zip us)):Binds K fd ps []:=fun s us _ hl=>by
 rw[List.append_nil]at hl ⊢
 exact .of_eq (h us hl)
def Passes (CX:CXT) (X:Cx) (E:XK):Prop:=∀ (pins:List (Addr × Obj)) (σ:St) (H:Hp) (s:Shared) (e:Value) (s':Shared),Inv X pins σ H s->CX X.stack H s E e s'->X.xe e s'
section
variable {X:Cx}{CX:CXT}{k:Nat}{f C:Addr}{fd:FuncData}{ps:List Str}{sp:Sp}{dvs:List V}{ds:List Value}{E:XK}{x m:Str}{p pos apos:Pos}{e o:Expr}{es:List Expr}{ta:TE}{t:TA}
theorem QbD {pins : List (Addr × Obj)} {σ : St} {H : Hp} {s : Shared} {Q : VK} {us : List Value} {vs : List V} (F : FnOk X.prog X.w X.K X.mg X.base CX k f fd ps sp) (hr : Room k X.A) (hb : Binds X.K fd ps ds) (hd : Vals dvs ds) (hx : Passes CX X E)
  (I:Inv X pins σ H s) (r:Vals vs us) (h:sp (vs++dvs) H Q E):wpAny (model X.prog X.w) X.A (call (.ref f) us) (EP X pins σ Q) X.xe s:=by
 have r2:Vals (vs++dvs) (us++ds):=r.append hd
 have hl:(us++ds).length=ps.length:=by rw[<- r2.length];exact F.len _ _ _ _ h
 refine wpAny_call (codeAny_mono (F.run X.A X.stack s H ⟨us,[]⟩ (us++ds) (vs++dvs) Q E hr I.env0 (hb s us I.kIn hl) r2 h) fun r s' hq=>?_)
 cases r with
 | error e=>exact hx pins σ H s e s' I hq
 | ok fl=>
  cases fl with
  | ret u=>exact I.after hq
  | next=>exact False.elim hq
  | brk=>exact False.elim hq
  | cont=>exact False.elim hq
theorem QbE (F : FnOk X.prog X.w X.K X.mg X.base CX k f fd ps sp) (hr : Room k X.A) (hg : Gl X x) (hm : X.mg x = some (.ref f)) (hk : PySem.W.keepIn X.K (.ref f) = true) (hb : Binds X.K fd ps ds) (hd : Vals dvs ds) (hx : Passes CX X E)
  (ha:PA X (e::es) t) (hdb:(x == ("__debug__":Str))=false:=by decide) (he:starEach (e::es) X.env=(false,eval e X.env)::starEach es X.env:=by rfl) (hpl:(backTo pos (starEach es X.env)).any (·.1)=false:=by rfl):
  PE X (.Call (.Name x p) (e::es) [] pos) (tCall sp dvs E t):=by
 intro pins s σ H Q I h
 refine wpAny_Call_Name_kw (Qaw I hg hm ?_ hdb)
 refine PySem.W.callWith_K (h₀:=X.base) I.ok.mod.kin hk (thn (ha pos pins s σ H _ I h) fun us s1 ⟨vs,H1,I1,r,q⟩=>⟨I1.kIn,?_⟩) he hpl
 exact QbD F hr hb hd hx I1 r q
end
def PK (X:Cx) (kws:List Keyword) (t:TA):Prop:=
 ∀ (pos:Pos) (pins:List (Addr × Obj)) (s:Shared) (σ:St) (H:Hp) (Q:List V->Hp->Prop),Inv X pins σ H s->t σ H Q->wpAny (model X.prog X.w) X.A (evalAll ((backToKw pos (keywordEach kws X.env)).map (·.2))) (AP X pins σ Q) X.xe s
section
variable {X:Cx}{CX:CXT}{k:Nat}{f C:Addr}{fd:FuncData}{ps ks:List Str}{sp:Sp}{E:XK}{x m:Str}{p pos apos kpos:Pos}{e o:Expr}{es:List Expr}{kws:List Keyword}{te ta:TE}{t tk:TA}{nm:Option Str}
variable {g:List Value->List Value->List Value}{gV:List V->List V->List V}
end
structure FnScope (N P:List Str) (sc:Scope):Prop where
 kind:sc.kind=.function
 co:sc.isCoroutine=false
 gen:sc.isGenerator=false
 nd:N.Nodup
 pre:N.take P.length=P
 par:∀ x∈P,sc.names.lookup x=some .local\/sc.names.lookup x=some .cell
 nofree:∀ y∈sc.names,y.2≠.free
theorem QbF {kindOf:Str->Option NameKind}{x:Str}:∀ {binds:List (Str × Value)}{m:Str->Option Value},(∀ v,(x,v)∉binds)->bindL kindOf binds m x=m x
 | [],_,_=>rfl
 | (n,v)::r,m,h=>by
  unfold bindL
  rw[QbF fun w hw=>h w (List.mem_cons_of_mem _ hw)]
  split
  ·have:x≠n:=by rintro rfl;exact h v List.mem_cons_self
   simp[this]
  ·rfl
theorem QbG {kindOf:Str->Option NameKind}{x:Str}:∀ {binds:List (Str × Value)}{m:Str->Option Value},(∀ v,(x,v)∉binds)->bindC kindOf binds m x=m x
 | [],_,_=>rfl
 | (n,v)::r,m,h=>by
  unfold bindC
  rw[QbG fun w hw=>h w (List.mem_cons_of_mem _ hw)]
  split
  ·rfl
  ·have:x≠n:=by rintro rfl;exact h v List.mem_cons_self
   simp[this]
theorem QbH {kindOf : Str -> Option NameKind} {x : Str} {v : Value} : ∀ {P : List Str} {vs : List Value} {i : Nat} {m : Str -> Option Value}, P.Nodup -> P[i]? = some x -> vs[i]? = some v -> kindOf x = some .local ->
  bindL kindOf (P.zip vs) m x=some v
 | [],_,_,_,_,h,_,_=>by simp at h
 | _::_,[],_,_,_,_,h,_=>by simp at h
 | p::P,w::vs,0,m,nd,h1,h2,hk=>by
  simp at h1 h2;subst h1;subst h2
  show bindL kindOf ((p,w)::P.zip vs) m p=_
  unfold bindL
  rw[QbF fun v hv=>(List.nodup_cons.mp nd).1 (List.of_mem_zip hv).1,if_pos hk]
  simp
 | p::P,w::vs,i + 1,m,nd,h1,h2,hk=>by
  show bindL kindOf ((p,w)::P.zip vs) m x=_
  unfold bindL
  exact QbH (i:=i) (List.nodup_cons.mp nd).2 (by simpa using h1) (by simpa using h2) hk
theorem QbI {kindOf : Str -> Option NameKind} {x : Str} {v : Value} : ∀ {P : List Str} {vs : List Value} {i : Nat} {m : Str -> Option Value}, P.Nodup -> P[i]? = some x -> vs[i]? = some v -> kindOf x ≠ some .local ->
  bindC kindOf (P.zip vs) m x=some v
 | [],_,_,_,_,h,_,_=>by simp at h
 | _::_,[],_,_,_,_,h,_=>by simp at h
 | p::P,w::vs,0,m,nd,h1,h2,hk=>by
  simp at h1 h2;subst h1;subst h2
  show bindC kindOf ((p,w)::P.zip vs) m p=_
  unfold bindC
  rw[QbG fun v hv=>(List.nodup_cons.mp nd).1 (List.of_mem_zip hv).1,if_neg hk]
  simp
 | p::P,w::vs,i + 1,m,nd,h1,h2,hk=>by
  show bindC kindOf ((p,w)::P.zip vs) m x=_
  unfold bindC
  exact QbI (i:=i) (List.nodup_cons.mp nd).2 (by simpa using h1) (by simpa using h2) hk
def start (N:List Str) (vs:List V):St:=vs.map some++List.replicate (N.length - vs.length) none
def cxOf (CX:CXT) (P:Program) (w:World) (K:PySem.W.Frag) (mg:Str->Option Value) (base:Heap) (N:List Str) (qual:Str) (scope:Scope) (f:Addr) (cd:Value) (A:Around) (outer:List Env) (s:Shared) (H:Hp) (E:XK):Cx where
 prog:=P
 w:=w
 K:=K
 mg:=mg
 base:=base
 A:=A.deeper (envOfC qual scope s.heap.objs.size f cd)
 N:=N
 s₀:=s
 H₀:=H
 env:=envOfC qual scope s.heap.objs.size f cd
 outer:=outer
 stack:=envOfC qual scope s.heap.objs.size f cd::outer
 ex:=[]
 calm:=true
 fn:=fun _=>true
 pn:=[]
 xe:=fun e s'=>wpAny (model P w) (A.deeper (envOfC qual scope s.heap.objs.size f cd)) (leaving (envOfC qual scope s.heap.objs.size f cd) e) (fun _ s''=>CX outer H s E e s'') (fun e' s''=>CX outer H s E e' s'') s'
theorem QbJ {sc:Scope}{n:Nat}{x:Str} (h:sc.names.lookup x=some .cell):∃ c,(cellsFrom n sc.names []).lookup x=some c:=by
 have q:=PySem.W.cellsFrom_some sc.names n [] (.inl h)
 exact Option.isSome_iff_exists.mp q
theorem QbK {CX : CXT} {P : Program} {w : World} {K : PySem.W.Frag} {mg : Str -> Option Value} {base : Heap} {N ps : List Str} {qual : Str} {scope : Scope} {f : Addr} {cd : Value} {A : Around} {outer : List Env} {s s1 : Shared} {H : Hp} {E : XK} {us : List Value} {vs : List V}
  (S:FnScope N ps scope) (hd:A.handled=none) (e0:Env0 P w K mg base A outer s H) (hl:vs.length=ps.length) (r:Vals vs us)
  (x:InCallC s s.heap.objs.size (bindL (envOfC qual scope s.heap.objs.size f cd).kindOf (ps.zip us) fun _=>none) (cellsFrom (s.heap.objs.size + 1) scope.names []) (bindC (envOfC qual scope s.heap.objs.size f cd).kindOf (ps.zip us) fun _=>none) s1):
  Inv (cxOf CX P w K mg base N qual scope f cd A outer s H E) [] (start N vs) H s1:=by
 have hpl:ps.length<=N.length:=by have:=congrArg List.length S.pre;rw[List.length_take]at this;ac_nf
 obtain⟨h1,tk,rfl,hk⟩:=x.done
 have noA:∀ b:Addr,b∉(cxOf CX P w K mg base N qual scope f cd A outer s H E).ex:=fun b z=>absurd (show b∈([]:List Addr) from z) (by simp)
 refine⟨⟨e0.mod,S.kind,rfl,rfl,Nat.le_refl _,fun y z c h1 h2=>?_,fun y hy=>?_,fun y c _ h=>?_,fun _=>hd,Around.frames_deeper e0.frames,.inr ⟨rfl,rfl⟩,fun b z=>absurd z (noA b),e0.bs,e0.bsz,fun b _ _=>noA b,fun b z=>absurd z (noA b),e0.funs,e0.frf⟩,
  rfl,e0.bare,Un.kept hk,⟨_,x.toInCall.ns,fun i y v h1 h2 h3=>?_⟩,fun y c h=>⟨_,x.cell y c h⟩,e0.hok.fresh (Nat.le_refl _),fun y c h=>?_,fun p hp=>absurd (show p∈([]:List (Addr × Obj)) from hp) (by simp),e0.hok.kept hk,?_⟩
 ·exact name_of_addr x.apart (PySem.mem_of_lookup h1) (PySem.mem_of_lookup h2)
 ·have hy:scope.names.lookup y=some .cell\/scope.names.lookup y=some .free:=hy
  rcases hy with hy | hy
  ·exact QbJ hy
  ·exact absurd rfl (S.nofree _ (PySem.mem_of_lookup hy))
 ·exact Nat.le_of_lt (x.above y c (PySem.mem_of_lookup h))
 ·have hi : i < vs.length := by
    unfold start at h2
    by_cases hi:i < vs.length
    ·exact hi
    ·rw[List.getElem?_append_right (by simpa using hi)]at h2
     rw[List.getElem?_replicate]at h2
     split at h2<;>cases h2
  have ha:vs[i]?=some v:=by
   unfold start at h2
   rw[List.getElem?_append_left (by simpa using hi),List.getElem?_map]at h2
   cases e:vs[i]? with
   | none=>rw[e]at h2;cases h2
   | some a=>rw[e]at h2;cases h2;rfl
  obtain⟨u,hu,rv⟩:=r.get ha
  have hp:ps[i]?=some y:=by
   rw[<- S.pre,List.getElem?_take_of_lt (by ac_nf)];exact h1
  have ndP:ps.Nodup:=by rw[<- S.pre];exact S.nd.sublist (List.take_sublist _ _)
  refine⟨u,rv,?_⟩
  rcases S.par y (List.mem_of_getElem? hp) with k | k
  ·exact .inl ⟨k,QbH ndP hp hu k⟩
  ·obtain⟨c,e⟩:=QbJ (n:=s.heap.objs.size + 1) k
   refine .inr ⟨.inl k,c,e,?_⟩
   have q:=x.cell y c e
   rw[QbI ndP hp hu (by show scope.names.lookup y≠_;rw[k];decide)]at q
   exact q
 ·exact e0.hok.fresh (Nat.le_of_lt (x.above y c (PySem.mem_of_lookup h)))
 ·unfold start
  show _=N.length
  rw[List.length_append,List.length_map,List.length_replicate]
  ac_nf
theorem QbL {CX : CXT} {P : Program} {w : World} {K : PySem.W.Frag} {mg : Str -> Option Value} {base : Heap} {k : Nat} {f : Addr} {name qual : Str} {params : Arguments} {body : List Stmt} {scope : Scope} {dV kV doc pm cdv ct oc : Value} {an od : Option Addr}
  {osl:Array (Option Value)}{N ps:List Str}{sp:Sp} (lk:K.lookup f=some ⟨oc,od,.func (PySem.W.fnOf name qual params body scope dV kV doc pm an cdv ct),osl⟩) (hcd:PySem.W.codeIn K cdv qual=true) (S:FnScope N ps scope)
  (len:∀ vs H Q E,sp vs H Q E->vs.length=ps.length)
  (hbody:∀ (A:Around) (outer:List Env) (s:Shared) (H:Hp) (vs:List V) (Q:VK) (E:XK),Room k (A.deeper (envOfC qual scope s.heap.objs.size f cdv))->sp vs H Q E ->
   ∃ t,PSs (cxOf CX P w K mg base N qual scope f cdv A outer s H E) body t/\t { nx:=fun _ H'=>Q .non H',rt:=Q } (start N vs) H):
  FnOk P w K mg base CX (k + 1) f (PySem.W.fnOf name qual params body scope dV kV doc pm an cdv ct) ps sp:=by
 refine⟨len,fun A outer s H args us vs Q E hr e0 hb r hsp=>?_⟩
 have hl:=len _ _ _ _ hsp
 have KX:K.In s.heap:=e0.mod.kin.keeps fun b o e=>(e0.bs b o e).1
 have lim:s.heap.NoLimit:=e0.mod.nolimit.keeps fun b o e=>(e0.bs b o e).1
 have hkind:∀ y∈ps.zip us,scope.names.lookup y.1=some .local\/(scope.names.lookup y.1=some .cell/\((cellsFrom (s.heap.objs.size + 1) scope.names []).lookup y.1).isSome=true):=fun pq32 hy=>by
  obtain⟨n,v⟩:=pq32
  rcases S.par n (List.of_mem_zip hy).1 with q | q
  ·exact .inl q
  ·exact .inr ⟨q,PySem.W.cellsFrom_some _ _ _ (.inl q)⟩
 refine codeAny_call_function hr.depth (KX _ _ lk) rfl S.co S.gen rfl (PySem.W.codeRec_of KX hcd) (hb _ _ _ _ ?_)
 refine wpAny_newFunctionEnv_cells S.kind hkind fun env he s1 x=>?_
 subst he
 refine⟨lim.keeps x.toInCall.keep,codeAny_func ?_⟩
 obtain⟨t,ht,hq⟩:=hbody A outer s H vs Q E (hr.deeper _) hsp
 have I:Inv (cxOf CX P w K mg base N qual scope f cdv A outer s H E) [] (start N vs) H s1:=QbK S hr.hd e0 hl r x
 refine wpAny_mono (ht [] s1 (start N vs) H _ I hq) (fun fl s' hs=>?_) fun e s' hs=>hs
 have fin:∀ {σ':St}{H':Hp}{v:V}{u:Value},Inv (cxOf CX P w K mg base N qual scope f cdv A outer s H E) [] σ' H' s'->RelV v u->Q v H'->CE outer P w H s Q u s':=
  fun {σ' H' v u} J rv q=>⟨v,H',J.os,J.bare,J.base,J.hok,rv,q⟩
 cases fl with
 | ret u=>
  obtain⟨v,σ',H',J,rv,q⟩:=hs
  exact fin J rv q
 | next=>
  obtain⟨σ',H',J,q⟩:=hs
  exact fin (v:=V.non) (u:=Value.none) J rfl q
 | brk=>
  obtain⟨_,_,_,q⟩:=hs
  exact False.elim q
 | cont=>
  obtain⟨_,_,_,q⟩:=hs
  exact False.elim q
section
variable {X:Cx}{x:Str}{p pos:Pos}{e:Expr}{es:List Expr}{t:TA}{id T:String}{r:List V->Hp->VK->Prop}
def tCB (r:List V->Hp->VK->Prop) (t:TA):TE:=fun σ H Q=>t σ H fun vs H1=>r vs H1 Q
theorem QbM (hc : CallR X (.builtin id) r) (hg : Gl X x) (hm : X.mg x = none) (hv : bootBuiltins x = some (.builtin id)) (ha : PA X (e :: es) t) (hn : x ≠ "__name__" := by decide) (hdb : (x == ("__debug__" : Str)) = false := by decide)
  (he:starEach (e::es) X.env=(false,eval e X.env)::starEach es X.env:=by rfl) (hpl:(backTo pos (starEach es X.env)).any (·.1)=false:=by rfl):PE X (.Call (.Name x p) (e::es) [] pos) (tCB r t):=by
 intro pins s σ H Q I h
 refine wpAny_Call_Name_kw (Qax I hg hm hv ?_ hn hdb)
 exact PyProof.Rows.callWith_builtin1 (thn (ha pos pins s σ H _ I h) fun us s1 pq33=>by obtain⟨vs,H1,I1,r1,q1⟩:=pq33;exact hc pins s1 σ H1 vs us Q I1 r1 q1) he hpl
theorem QbN (hc : CallR X (.type T) r) (hg : Gl X x) (hm : X.mg x = none) (hv : bootBuiltins x = some (.type T)) (ha : PA X (e :: es) t) (hn : x ≠ "__name__" := by decide) (hdb : (x == ("__debug__" : Str)) = false := by decide)
  (he:starEach (e::es) X.env=(false,eval e X.env)::starEach es X.env:=by rfl) (hpl:(backTo pos (starEach es X.env)).any (·.1)=false:=by rfl):PE X (.Call (.Name x p) (e::es) [] pos) (tCB r t):=by
 intro pins s σ H Q I h
 refine wpAny_Call_Name_kw (Qax I hg hm hv ?_ hn hdb)
 exact PyProof.Rows.callWith_type1 (thn (ha pos pins s σ H _ I h) fun us s1 pq34=>by obtain⟨vs,H1,I1,r1,q1⟩:=pq34;exact hc pins s1 σ H1 vs us Q I1 r1 q1) he hpl
end
end L2
namespace HT
open PySem PyProof.Rows
section
open PySem.SeqAt
open PySem.AutoSeq1 (wpAny_loadPart')
open PySem.MeetsSeq PySem.MeetsSeq2 PySem.MeetsSeq3
end
section
variable {prog:Program}{w:World}{A:Around}{E:Value->Shared->Prop}{s:Shared}
theorem cat_tup {t b : Addr} {vs ws : List Value} {Q : Value -> Shared -> Prop} (ht : IsTup s.heap t vs.toArray) (hb : IsTup s.heap b ws.toArray) (hv : vs ≠ [])
  (h1:ws=[]->Q (.ref t) s) (h2:ws≠[]->Q (.ref s.heap.objs.size) { s with heap:=s.heap.push { cls:=.type "tuple",data:=.seq (vs++ws).toArray } })
  (hsz:vs.length + ws.length<=sizeLine):wpAny (model prog w) A (binaryOp .Add (.ref t) (.ref b)) Q E s:=by
 obtain⟨⟨cls,dd,data,sl⟩,ho,hc,n,hd⟩:=id ht
 obtain⟨⟨cls2,dd2,data2,sl2⟩,ho2,hc2,n2,hd2⟩:=id hb
 simp only at hc hd hc2 hd2
 subst hc hd hc2 hd2
 have e:vs.toArray++ws.toArray=(vs++ws).toArray:=by simp
 by_cases hw:ws=[]
 ·exact concat_meets ⟨_, ho, rfl⟩ ⟨_, ho2, rfl⟩ noFill_tuple_add seq_tuple_add PySem.F.slot_tuple_add PySem.F.entry_tuple_add (PySem.F.args_tuple_add_2 _ _)
    (tuple_addW1 t b vs.toArray ws.toArray n n2 dd dd2 sl sl2 (by simpa using hv) (by simp[hw])) ⟨ho,ho2,h1 hw⟩
 ·refine concat_meets ⟨_, ho, rfl⟩ ⟨_, ho2, rfl⟩ noFill_tuple_add seq_tuple_add PySem.F.slot_tuple_add PySem.F.entry_tuple_add (PySem.F.args_tuple_add_2 _ _)
    (tuple_addW2 t b vs.toArray ws.toArray n n2 dd dd2 sl sl2 (by simpa using hv) (by simpa using hw) (by rw[List.size_toArray,List.size_toArray];exact hsz)) ⟨ho,ho2,?_⟩
  rw[e]
  exact h2 hw
def sIx (n d:Nat):Option Int->Nat
 | none=>d
 | some v=>if v < 0 then (v + (n:Int)).toNat else min v.toNat n
theorem QbO (n d:Nat) (hd:d<=n) (o:Option Int):sIx n d o<=n:=by
 cases o with
 | none=>exact hd
 | some v=>
  show (if v < 0 then (v + (n:Int)).toNat else min v.toNat n)<=n
  by_cases hv:v < 0
  ·rw[if_pos hv];ac_nf
  ·rw[if_neg hv];exact Nat.min_le_right _ _
theorem QbP (v:Int) (n d:Nat):(if v < 0 then max (v + (n:Int)) 0 else min v (n:Int))=((sIx n d (some v):Nat):Int):=by
 show (if v < 0 then max (v + (n:Int)) 0 else min v (n:Int))=(((if v < 0 then (v + (n:Int)).toNat else min v.toNat n):Nat):Int)
 by_cases hv:v < 0
 ·simp only[if_pos hv];ac_nf
 ·simp only[if_neg hv];ac_nf
theorem QbQ (lo hi:Option Int) (n:Nat):Builtin.Slice.sliceAdjust lo hi 1 (n:Int)=(((sIx n 0 lo:Nat):Int),((sIx n n hi:Nat):Int)):=by
 have h1:¬ ((1:Int) < 0):=by ac_nf
 unfold Builtin.Slice.sliceAdjust
 simp only[h1,if_false]
 refine Prod.ext ?_ ?_
 ·cases lo with
  | none=>rfl
  | some v=>exact QbP v n 0
 ·cases hi with
  | none=>rfl
  | some v=>exact QbP v n n
theorem QbR (i j:Nat):Builtin.Slice.slicePlaces (i:Int) (j:Int) 1=j - i:=by
 unfold Builtin.Slice.slicePlaces
 have h1:(1:Int) > 0:=by ac_nf
 simp only[h1,if_true,Int.ediv_one]
 split<;>ac_nf
theorem QbS {v:Value}{o:Option Int}{Q:Option Int->Shared->Prop} (p:IsPart v o) (h:Q o s):wpAny (model prog w) A (Builtin.Slice.slicePartIndex v) Q E s:=by
 cases p with
 | none=>exact slicePart_none h
 | int i t=>exact slicePart_int h
theorem QbT {sl : Addr} {vl vu : Value} {lo hi : Option Int} {n : Nat} {Q : Int × Int × Nat -> Shared -> Prop} (hs : s.heap.IsSliceOf sl vl vu .none) (pl : IsPart vl lo) (pu : IsPart vu hi)
  (h:Q (((sIx n 0 lo:Nat):Int),1,sIx n n hi - sIx n 0 lo) s):wpAny (model prog w) A (Builtin.Slice.sliceApplied (.ref sl) (pure (n:Int))) Q E s:=by
 obtain⟨os,hos,hcs,hds⟩:=id hs
 unfold Builtin.Slice.sliceApplied Builtin.Slice.sliceFields
 refine wpAny_bind (wpAny_bind (wpAny_field hos hds (x:=vl) rfl (wpAny_bind (wpAny_field hos hds (x:=vu) rfl (wpAny_bind (wpAny_field hos hds (x:=.none) rfl (wpAny_pure ?_)))))))
 refine wpAny_bind (slicePart_none ?_)
 show wpAny _ _ (if ((1:Int) == 0)=true then _ else _) _ _ s
 rw[if_neg (by decide)]
 refine wpAny_bind (QbS pl (wpAny_bind (QbS pu (wpAny_bind (wpAny_pure ?_)))))
 show wpAny _ _ (match Builtin.Slice.sliceAdjust lo hi 1 (n:Int) with | (lo,hi)=>pure (lo,(1:Int),Builtin.Slice.slicePlaces lo hi 1)) _ _ s
 rw[QbQ lo hi n]
 show wpAny _ _ (pure (((sIx n 0 lo:Nat):Int),(1:Int),Builtin.Slice.slicePlaces ((sIx n 0 lo:Nat):Int) ((sIx n n hi:Nat):Int) 1)) _ _ s
 rw[QbR]
 exact wpAny_pure h
theorem QbU (xs:Array Value) (i k:Nat):((List.range k).filterMap fun (m:Nat)=>xs[((i:Int) + (m:Int) * 1).toNat]?).toArray=((xs.toList.drop i).take k).toArray:=by
 have e:(fun (m:Nat)=>xs[((i:Int) + (m:Int) * 1).toNat]?)=fun m=>xs[i + m]?:=by
  funext m
  have:((i:Int) + (m:Int) * 1).toNat=i + m:=by ac_nf
  rw[this]
 rw[e]
 have:=pick_run xs i k
 rw[List.filterMap_map]at this
 have e2:((fun x=>xs[x]?) ∘ fun x=>i + x)=fun m=>xs[i + m]?:=rfl
 rw[e2]at this
 rw[this]
theorem getItem_tuple_cut {t sl : Addr} {items : Array Value} {vl vu : Value} {lo hi : Option Int} {Q : Value -> Shared -> Prop} (ht : IsTup s.heap t items) (hs : s.heap.IsSliceOf sl vl vu .none) (pl : IsPart vl lo) (pu : IsPart vu hi)
  (hw:¬ (sIx items.size 0 lo=0/\sIx items.size items.size hi=items.size))
  (h:Q (.ref s.heap.objs.size) { s with heap:=s.heap.push { cls:=.type "tuple",data:=.seq ((items.toList.drop (sIx items.size 0 lo)).take (sIx items.size items.size hi - sIx items.size 0 lo)).toArray } })
  (hsz:items.size<=sizeLine):wpAny (model prog w) A (getItem (.ref t) (.ref sl)) Q E s:=by
 have htake:sizeOk (.seq ((items.toList.drop (sIx items.size 0 lo)).take (sIx items.size items.size hi - sIx items.size 0 lo)).toArray):=by
  show ((items.toList.drop (sIx items.size 0 lo)).take (sIx items.size items.size hi - sIx items.size 0 lo)).toArray.size<=sizeLine
  rw[List.size_toArray,List.length_take,List.length_drop,Array.length_toList]
  ac_nf
 have hj:sIx items.size items.size hi<=items.size:=QbO _ _ (Nat.le_refl _) hi
 obtain⟨os,hos,hcs,hds⟩:=id hs
 have hTs:s.TypeIs (.ref sl) "slice":=⟨os,hos,hcs⟩
 unfold getItem
 try with_reducible refine wpAny_holding ?_
 first | refine wpAny_bind (wpAny_pure ?_) | skip
 refine wpAny_bind (wpAny_sequenceKey ht.typeIs (by decide) ?_)
 refine wpAny_bind (wpAny_callSpecial?_slot (name:=Str.ofString "__getitem__") ht.typeIs PyProof.Rows.slot_tuple_getitem
  (wpAny_call_entry PyProof.Rows.slot_tuple_getitem ht.typeIs entry_tuple_getitem ?_ (args_tuple_getitem _ _)))
 show wpAny _ _ (Builtin.Tuple.tupleItemsOf (.ref t) >>= _) _ _ s
 refine wpAny_bind (tupleItemsOf_ ht ?_)
 refine wpAny_bind (wpAny_typeOf hTs ?_)
 rw[if_pos (by decide)]
 refine wpAny_bind (QbT hs pl pu ?_)
 have hno:¬ ((((sIx items.size 0 lo:Nat):Int) == 0 && (1:Int) == 1 && (sIx items.size items.size hi - sIx items.size 0 lo) == items.size)=true):=by
  intro q
  rw[Bool.and_eq_true,Bool.and_eq_true]at q
  have q1:((sIx items.size 0 lo:Nat):Int)=0:=eq_of_beq q.1.1
  have q2:sIx items.size items.size hi - sIx items.size 0 lo=items.size:=eq_of_beq q.2
  exact hw ⟨by ac_nf,by ac_nf⟩
 show wpAny _ _ (if (((sIx items.size 0 lo:Nat):Int) == 0 && (1:Int) == 1 && (sIx items.size items.size hi - sIx items.size 0 lo) == items.size)=true then _ else _) _ _ s
 rw[if_neg hno,QbU]
 first
  | exact wpAny_bind (m:=Builtin.Tuple.tupleExact _) (wpAny_newObj_type (wpAny_pure ⟨_,rfl,wpAny_pure h⟩) htake)
  | exact wpAny_bind (m:=Builtin.Tuple.tupleExact _) (wpAny_newObj_type (wpAny_bind (wpAny_pure (wpAny_pure ⟨_,rfl,wpAny_pure h⟩))) htake)
  | exact wpAny_bind (wpAny_bind (m:=Builtin.Tuple.tupleExact _) (wpAny_newObj_type (wpAny_pure (wpAny_pure ⟨_,rfl,wpAny_pure h⟩)) htake))
  | exact wpAny_bind (wpAny_bind (m:=Builtin.Tuple.tupleExact _) (wpAny_newObj_type (wpAny_pure ⟨_,rfl,wpAny_pure h⟩) htake))
end
end HT
namespace L2
open PySem PySem.Spec PyProof.Rows
abbrev TO:=St->Hp->(Option Int->Hp->Prop)->Prop
def PO (X:Cx) (e:Option Expr) (t:TO):Prop:=
 ∀ (pins:List (Addr × Obj)) (s:Shared) (σ:St) (H:Hp) (Q:Option Int->Hp->Prop),Inv X pins σ H s->t σ H Q ->
  wpAny (model X.prog X.w) X.A (evalPart e X.env) (fun u s'=>∃ o H',Inv X pins σ H' s'/\IsPart u o/\Q o H') X.xe s
def tNoPart:TO:=fun _ H Q=>Q none H
def tPart (t:TE):TO:=fun σ H Q=>t σ H fun x H1=>∃ i,x=.int i/\Q (some i) H1
theorem QbV {ns:List Int}:∀ {us:List Value},Vals (ns.map V.int) us->IntsAre us ns:=by
 induction ns with
 | nil=>intro us r;rw[List.map_nil]at r;cases r;exact .nil
 | cons n ns ih=>
  intro us r
  rw[List.map_cons]at r
  cases r with
  | cons r1 r2=>
   obtain⟨t,e⟩:=r1
   subst e
   exact .cons n t (ih r2)
section
variable {X:Cx}{e:Expr}{te:TE}{lo hi:Option Expr}{tl th:TO}{pos p2:Pos}
theorem QbW:PO X none tNoPart:=by
 intro pins s σ H Q I h
 rw[evalPart_none]
 exact wpAny_pure ⟨none,H,I,.none,h⟩
theorem QbX (h:PE X e te):PO X (some e) (tPart te):=by
 intro pins s σ H Q I hw
 rw[evalPart_some]
 refine thn (h pins s σ H _ I hw) fun u s1 pq35=>?_
 obtain⟨x,H1,I1,r1,q1⟩:=pq35
 obtain⟨i,rfl,q⟩:=q1
 obtain⟨t,rfl⟩:=r1
 exact⟨some i,H1,I1,.int i t,q⟩
def SlR (X:Cx) (r:V->Option Int->Option Int->Hp->VK->Prop):Prop:=
 ∀ (pins:List (Addr × Obj)) (s:Shared) (σ:St) (H:Hp) (x:V) (v vl vu:Value) (lo hi:Option Int) (sl:Addr) (Q:VK),Inv X pins σ H s->RelV x v->s.heap.IsSliceOf sl vl vu .none->IsPart vl lo->IsPart vu hi->r x lo hi H Q ->
  ∃ T id,typeLookup (.type T) "__getitem__"=pure (some (.builtin id))/\s.TypeIs v T/\wpAny (model X.prog X.w) X.A (getItem v (.ref sl)) (EP X pins σ Q) X.xe s
def tSl (r:V->Option Int->Option Int->Hp->VK->Prop) (te:TE) (tl th:TO):TE:=fun σ H Q=>te σ H fun x H1=>tl σ H1 fun l H2=>th σ H2 fun u H3=>r x l u H3 Q
theorem QbY {r:V->Option Int->Option Int->Hp->VK->Prop} (hr:SlR X r) (he:PE X e te) (hl:PO X lo tl) (hu:PO X hi th):PE X (.Subscript e (.Slice lo hi none p2) pos) (tSl r te tl th):=by
 intro pins s σ H Q I h
 refine Subscript_ (thn (he pins s σ H _ I h) fun v s1 pq36=>?_)
 obtain⟨x,H1,I1,r1,q1⟩:=pq36
 refine wpAny_Slice (thn (hl pins s1 σ H1 _ I1 q1) fun vl s2 ⟨l,H2,I2,pl,q2⟩=>thn (hu pins s2 σ H2 _ I2 q2) fun vu s3 pq38=>?_)
 obtain⟨u,H3,I3,pu,q3⟩:=pq38
 rw[evalPart_none]
 refine wpAny_pure ?_
 have I4:Inv X pins σ H3 { s3 with heap:=s3.heap.push { cls:=.type "slice",data:=.fields #[vl,vu,.none] } }:=I3.kept (t':=s3.toks) fun b ob q=>Heap.get?_push_of_some _ q
 obtain⟨T,id,hT,ht,hg⟩:=hr pins { s3 with heap:=s3.heap.push { cls:=.type "slice",data:=.fields #[vl,vu,.none] } } σ H3 x v vl vu l u s3.heap.objs.size Q I4 r1 (Heap.IsSliceOf.new ..) pl pu q3
 show wpAny (model X.prog X.w) X.A (subscriptTail e (.Slice lo hi none p2) v (.ref s3.heap.objs.size)) (EP X pins σ Q) X.xe { s3 with heap:=s3.heap.push { cls:=.type "slice",data:=.fields #[vl,vu,.none] } }
 exact tail_any (ops:=[.ref s3.heap.objs.size,v]) ht hT hg (by with_unfolding_all rfl)
def cutV (xs:List V) (lo hi:Option Int):List V:=(xs.drop (HT.sIx xs.length 0 lo)).take (HT.sIx xs.length xs.length hi - HT.sIx xs.length 0 lo)
theorem QbZ (xs:List V) (lo hi:Option Int):(cutV xs lo hi).length<=xs.length:=by
 unfold cutV
 rw[List.length_take,List.length_drop]
 ac_nf
def rSlT (K:PySem.W.Frag):V->Option Int->Option Int->Hp->VK->Prop:=fun x lo hi H Q=>∃ a xs,x=.ref a/\SqT K H a xs /\
 ¬ (HT.sIx xs.length 0 lo=0/\HT.sIx xs.length xs.length hi=xs.length)/\∀ p,H p=none->Q (.ref p) (upd H p (.tup (cutV xs lo hi)))
theorem Qb0:SlR X (rSlT X.K):=by
 intro pins s σ H x v vl vu lo hi sl Q I rx hs pl pu h
 obtain⟨a,xs,rfl,hx,hw,q⟩:=h
 cases rx
 obtain⟨its,r,ht,hz⟩:=I.tuple hx
 have hlen:its.toArray.size=xs.length:=by rw[List.size_toArray];exact r.length.symm
 refine⟨"tuple",_,PyProof.Rows.slot_tuple_getitem.lookup,ht.typeIs,?_⟩
 refine HT.getItem_tuple_cut ht hs pl pu (by rw[hlen];exact hw) ?_ (by rw[hlen];exact hz)
 rw[hlen]
 refine⟨.ref s.heap.objs.size,_,I.laid (t':=s.toks) (o:=.tup (cutV xs lo hi)) (fun b ob q=>Heap.get?_push_of_some _ q) (Nat.le_refl _) ?_,rfl,q _ (I.hok.fresh (Nat.le_refl _))⟩
 exact⟨Nat.le_trans (QbZ xs lo hi) hz,_,(r.drop (HT.sIx xs.length 0 lo)).take (HT.sIx xs.length xs.length hi - HT.sIx xs.length 0 lo),IsTupD.new _ _⟩
def rCatT (K:PySem.W.Frag):R2:=fun x y H Q=>∃ a b xs ys,x=.ref a/\y=.ref b/\SqT K H a xs/\SqT K H b ys/\xs≠[]/\xs.length + ys.length<=sizeLine /\
 (ys=[]->Q (.ref a) H)/\(ys≠[]->∀ p,H p=none->Q (.ref p) (upd H p (.tup (xs++ys))))
theorem Vals.nil_iff {xs:List V}{us:List Value} (r:Vals xs us):us=[]↔xs=[]:=by
 cases r with
 | nil=>simp
 | cons _ _=>simp
theorem Qb1:OpR X (binaryOp .Add) (rCatT X.K):=by
 intro pins s σ H x y v u Q I rx ry h
 obtain⟨a,b,xs,ys,rfl,rfl,ha,hb,hx,hz,q1,q2⟩:=h
 cases rx
 cases ry
 obtain⟨its,r1,p1,_⟩:=I.tuple ha
 obtain⟨its2,r2,p2,_⟩:=I.tuple hb
 refine HT.cat_tup p1 p2 (fun z=>hx (r1.nil_iff.mp z)) (fun z=>⟨.ref a,H,I,rfl,q1 (r2.nil_iff.mp z)⟩) (fun z=>?_) (by rw[<- r1.length,<- r2.length];exact hz)
 refine⟨.ref s.heap.objs.size,_,I.laid (t':=s.toks) (o:=.tup (xs++ys)) (fun b ob q=>Heap.get?_push_of_some _ q) (Nat.le_refl _) ?_,rfl,q2 (fun w=>z (r2.nil_iff.mpr w)) _ (I.hok.fresh (Nat.le_refl _))⟩
 exact⟨by rw[List.length_append];exact hz,_,r1.append r2,IsTupD.new _ _⟩
end
def ixN (n:Nat) (i:Int):Option Nat:=if 0<=i then (if i < n then some i.toNat else none) else if -(n:Int)<=i then some (i + n).toNat else none
def atI {α:Type} (xs:List α) (i:Int):Option α:=(ixN xs.length i).bind fun j=>xs[j]?
theorem Qb2 {n:Nat}{i:Int}{j:Nat} (h:ixN n i=some j):seqIndex? i n=some j/\j < n /\ -(n:Int)<=i/\i < n:=by
 unfold ixN at h
 by_cases h0:0<=i
 ·rw[if_pos h0]at h
  by_cases h1:i < n
  ·rw[if_pos h1]at h
   have e:i.toNat=j:=Option.some.inj h
   exact⟨by rw[seqIndex_of h0 h1,e],by ac_nf,by ac_nf,h1⟩
  ·rw[if_neg h1]at h;cases h
 ·rw[if_neg h0]at h
  by_cases h1 : -(n:Int)<=i
  ·rw[if_pos h1]at h
   have e:(i + n).toNat=j:=Option.some.inj h
   exact⟨by rw[seqIndex_neg (by ac_nf) h1,e],by ac_nf,h1,by ac_nf⟩
  ·rw[if_neg h1]at h;cases h
theorem Qb3 {α:Type}{xs:List α}{i:Int}{v:α} (h:atI xs i=some v):∃ j,seqIndex? i xs.length=some j/\xs[j]?=some v/\j < xs.length /\ -(xs.length:Int)<=i/\i < xs.length:=by
 unfold atI at h
 cases e:ixN xs.length i with
 | none=>rw[e]at h;cases h
 | some j=>
  rw[e]at h
  obtain⟨h1,h2,h3,h4⟩:=Qb2 e
  exact⟨j,h1,h,h2,h3,h4⟩
def PlainIx (b:Expr):Prop:=∀ o i,subscripted b false o i=operate [o,i] (getItem o i)
def IxR (X:Cx) (r:R2):Prop:=
 ∀ (value slice:Expr) (pins:List (Addr × Obj)) (s:Shared) (σ:St) (H:Hp) (x y:V) (v u:Value) (Q:VK),Inv X pins σ H s->RelV x v->RelV y u->r x y H Q ->
  subscripted slice false v u=operate [v,u] (getItem v u)->wpAny (model X.prog X.w) X.A (subscriptTail value slice v u) (EP X pins σ Q) X.xe s
def MtR (X:Cx) (id:String) (r:V->List V->Hp->VK->Prop):Prop:=
 ∀ (pins:List (Addr × Obj)) (s:Shared) (σ:St) (H:Hp) (x:V) (xs:List V) (v:Value) (us:List Value) (Q:VK),Inv X pins σ H s->RelV x v->Vals xs us->r x xs H Q ->
  wpAny (model X.prog X.w) X.A (call (.builtin id) (v::us)) (EP X pins σ Q) X.xe s
section
variable {X:Cx}{a b:Expr}{ta tb:TE}{pos:Pos}
theorem IxR.or {r r':R2} (h:IxR X r) (h':IxR X r'):IxR X (fun x y H Q=>r x y H Q\/r' x y H Q):=by
 intro value slice pins s σ H x y v u Q I rx ry q hs
 rcases q with q | q
 ·exact h value slice pins s σ H x y v u Q I rx ry q hs
 ·exact h' value slice pins s σ H x y v u Q I rx ry q hs
theorem Qb4 {r:R2} (hr:IxR X r) (ha:PE X a ta) (hb:PE X b tb) (hs:PlainIx b):PE X (.Subscript a b pos) (tOp r ta tb):=by
 intro pins s σ H Q I h
 exact Subscript_ (binT ha hb I h fun v u s2 x y H2 I2 rx ry q=>hr a b pins s2 σ H2 x y v u Q I2 rx ry q (hs _ _))
def rIxL (K:PySem.W.Frag):R2:=fun x y H Q=>∃ p xs i v,x=.ref p/\y=.int i/\SqL K H p xs/\atI xs i=some v/\Q v H
def rIxT (K:PySem.W.Frag):R2:=fun x y H Q=>∃ p xs i v,x=.ref p/\y=.int i/\SqT K H p xs/\atI xs i=some v/\Q v H
def rIxS:R2:=fun x y H Q=>∃ z i c,x=.str z/\y=.int i/\z.length<=sizeLine/\atI z.cps.toList i=some c/\Q (.str ⟨#[c]⟩) H
theorem Qb5:IxR X (rIxL X.K):=by
 intro value slice pins s σ H x y v u Q I rx ry h hs
 obtain⟨p,xs,i,z,rfl,rfl,hq,he,q⟩:=h
 cases rx
 obtain⟨t,rfl⟩:=ry
 obtain⟨its,r,pl,hz⟩:=I.list hq
 obtain⟨j,h1,h2,h3,h4,h5⟩:=Qb3 he
 obtain⟨w,ew,rw'⟩:=r.get h2
 have hl:=r.length
 have hn:=Qbo
 have fin:EP X pins σ Q w s:=⟨z,H,I,rw',q⟩
 by_cases h0:0<=i
 ·have hj : i.toNat = j := by
    rw[seqIndex_of h0 h5]at h1
    exact Option.some.inj h1
  exact item_listR pl.isList h0 (by ac_nf) (by rw[hj];simpa using ew) fin hs
 ·have hj : (i + (its.toArray.size : Int)).toNat = j := by
    rw[seqIndex_neg (by ac_nf) h4]at h1
    rw[List.size_toArray,<- hl]
    exact Option.some.inj h1
  exact subscriptTail_builtinR (x:=w) pl.isList.typeIs slot_list_getitem.lookup
   (wpAny_getItem_list_neg (Q:=fun r s'=>r=w/\EP X pins σ Q r s') pl.isList (by ac_nf) (by rw[List.size_toArray]<;>ac_nf) (by ac_nf) (by rw[hj];simpa using ew) ⟨rfl,fin⟩) hs
theorem Qb6:IxR X (rIxT X.K):=by
 intro value slice pins s σ H x y v u Q I rx ry h hs
 obtain⟨p,xs,i,z,rfl,rfl,hq,he,q⟩:=h
 cases rx
 obtain⟨t,rfl⟩:=ry
 obtain⟨its,r,pl,hz⟩:=I.tuple hq
 obtain⟨j,h1,h2,h3,h4,h5⟩:=Qb3 he
 obtain⟨w,ew,rw'⟩:=r.get h2
 have hl:=r.length
 have hn:=Qbo
 have fin:EP X pins σ Q w s:=⟨z,H,I,rw',q⟩
 exact subscriptTail_builtinR (x:=w) pl.typeIs slot_tuple_getitem.lookup
  (getItem_tuple (j:=j) (Q:=fun r s'=>r=w/\EP X pins σ Q r s') pl (by ac_nf) (by ac_nf) (by rw[List.size_toArray,<- hl];exact h1) (by simpa using ew) ⟨rfl,fin⟩) hs
theorem Qb7:IxR X rIxS:=by
 intro value slice pins s σ H x y v u Q I rx ry h hs
 obtain⟨z,i,c,rfl,rfl,hz,he,q⟩:=h
 obtain⟨t,rfl⟩:=rx
 obtain⟨t',rfl⟩:=ry
 obtain⟨j,h1,h2,h3,h4,h5⟩:=Qb3 he
 have hl:z.cps.toList.length=z.length:=by simp[Str.length]
 rw[hl]at h1 h4 h5
 have hn:=Qbo
 exact tail_any (typeIs_str s z t) slot_str_getitem.lookup (getItem_str (c:=c) (by
  have e1:decide (i < -(2 ^ 63:Int))=false:=decide_eq_false (by ac_nf)
  have e2:decide (i ≥ 2 ^ 63)=false:=decide_eq_false (by ac_nf)
  rw[e1,e2,Bool.or_false]) (by rw[h1];simpa using h2) ⟨.str ⟨#[c]⟩,H,I.tok _,⟨_,rfl⟩,q⟩) hs
def rIx (K:PySem.W.Frag):R2:=fun x y H Q=>rIxL K x y H Q\/rIxT K x y H Q\/rIxS x y H Q
theorem Qb8:IxR X (rIx X.K):=Qb5.or (Qb6.or Qb7)
theorem Qb9 (its:List Value) (n j:Nat) (u:Value):Obj.mapSeq (·.setIfInBounds j u) { cls:=.type "list",data:=.seq its.toArray n }={ cls:=.type "list",data:=.seq (its.set j u).toArray n }:=by
 simp[Obj.mapSeq]
theorem Inv.lst {pins : List (Addr × Obj)} {σ : St} {H : Hp} {s : Shared} {p : Addr} {xs : List V} (I : Inv X pins σ H s) (h : H p = some (.lst xs)) :
  ∃ (its:List Value) (n:Nat),Vals xs its/\s.heap.get? p=some { cls:=.type "list",data:=.seq its.toArray n }/\xs.length<=sizeLine:=by
 obtain⟨z,its,n,r,e⟩:=I.hok p _ h
 exact⟨its,n,r,e,z⟩
theorem Inv.lstUpd {pins : List (Addr × Obj)} {σ : St} {H : Hp} {s : Shared} {p : Addr} {xs ys : List V} {its its' : List Value} {n n' : Nat} {f : Obj -> Obj} (I : Inv X pins σ H s) (h : H p = some (.lst xs))
  (ho:s.heap.get? p=some { cls:=.type "list",data:=.seq its.toArray n }) (hf:f { cls:=.type "list",data:=.seq its.toArray n }={ cls:=.type "list",data:=.seq its'.toArray n' }) (r:Vals ys its') (hz:ys.length<=sizeLine) (t:Nat):
  Inv X pins σ (upd H p (.lst ys)) { s with heap:=s.heap.update p f,toks:=t }:=by
 have e:(s.heap.update p f).get? p=some { cls:=.type "list",data:=.seq its'.toArray n' }:=by
  rw[Heap.get?_update_self f ho (by rw[hf]<;>rfl),hf]
 refine I.write (x:=p) (e:=p) (by rw[h];trivial) (.inl rfl) (fun b u hb q=>(Heap.get?_update_other _ _ (Ne.symm hb)).trans q) ⟨_,e⟩ ?_
 exact⟨hz,its',n',r,e⟩
def rSetL:V->V->V->Hp->(Hp->Prop)->Prop:=fun o i v H Q=>∃ p xs k j,o=.ref p/\i=.int k/\H p=some (.lst xs)/\ixN xs.length k=some j/\Q (upd H p (.lst (xs.set j v)))
theorem Qca:PSet X rSetL:=by
 intro pins s σ H o i v ov iv u Q I ro ri rv h
 obtain⟨p,xs,k,j,rfl,rfl,hp,hj,q⟩:=h
 cases ro
 obtain⟨t,rfl⟩:=ri
 obtain⟨its,n,r,ho,hz⟩:=I.lst hp
 obtain⟨h1,h2,h3,h4⟩:=Qb2 hj
 have hl:=r.length
 have hn:=Qbo
 have I':Inv X pins σ (upd H p (.lst (xs.set j v))) { s with heap:=s.heap.update p (Obj.mapSeq (·.setIfInBounds j u)) }:=
  I.lstUpd hp ho (Qb9 its n j u) (r.set rv j) (by rw[List.length_set];exact hz) s.toks
 by_cases h0:0<=k
 ·have hk : k.toNat = j := by
    rw[seqIndex_of h0 h4]at h1
    exact Option.some.inj h1
  exact PySem.W.ki_setAt ho h0 (by ac_nf) (by rw[List.size_toArray,<- hl];exact h4) (by rw[hk];exact⟨_,I',q⟩)
 ·have hk : (k + (its.toArray.size : Int)).toNat = j := by
    rw[seqIndex_neg (by ac_nf) h3]at h1
    rw[List.size_toArray,<- hl]
    exact Option.some.inj h1
  exact PySem.W.ki_setBack ho (by ac_nf) (by rw[List.size_toArray,<- hl];exact h3) (by ac_nf) (by rw[hk];exact⟨_,I',q⟩)
theorem Qcb (lo hi:Option Int) (n:Nat):(sliceBounds lo hi none n).1=((HT.sIx n 0 lo:Nat):Int)/\(sliceBounds lo hi none n).2.1=((HT.sIx n n hi:Nat):Int)/\(sliceBounds lo hi none n).2.2=1:=by
 refine⟨?_,?_,rfl⟩
 ·cases lo with
  | none=>simp[sliceBounds,HT.sIx]
  | some i=>
   simp only[sliceBounds,HT.sIx,Option.getD_none,show (1:Int) > 0 by decide,if_true]
   by_cases h:i < 0
   ·simp only[h,if_true]<;>ac_nf
   ·simp only[h,if_false]<;>ac_nf
 ·cases hi with
  | none=>simp[sliceBounds,HT.sIx]
  | some i=>
   simp only[sliceBounds,HT.sIx,Option.getD_none,show (1:Int) > 0 by decide,if_true]
   by_cases h:i < 0
   ·simp only[h,if_true]<;>ac_nf
   ·simp only[h,if_false]<;>ac_nf
theorem Qcc (its:List Value) (lo hi:Option Int):slicePick its.toArray lo hi none=((its.drop (HT.sIx its.length 0 lo)).take (HT.sIx its.length its.length hi - HT.sIx its.length 0 lo)).toArray:=by
 obtain⟨h1,h2,h3⟩:=Qcb lo hi its.toArray.size
 unfold slicePick
 rw[h1,h2,h3]
 simp only[sliceRange_one,pick_run,List.size_toArray]<;>rfl
def rSlL (K:PySem.W.Frag):V->Option Int->Option Int->Hp->VK->Prop:=fun x lo hi H Q=>∃ a xs,x=.ref a/\SqL K H a xs/\∀ p,H p=none->Q (.ref p) (upd H p (.lst (cutV xs lo hi)))
theorem Qcd:SlR X (rSlL X.K):=by
 intro pins s σ H x v vl vu lo hi sl Q I rx hs pl pu h
 obtain⟨a,xs,rfl,hx,q⟩:=h
 cases rx
 obtain⟨its,r,ht,hz⟩:=I.list hx
 have hlen:=r.length
 refine⟨"list",_,slot_list_getitem.lookup,ht.isList.typeIs,?_⟩
 refine wpAny_getItem_list_slice ht.isList hs pl pu .none (by simp) ?_ (by rw[List.size_toArray]<;>ac_nf)
 rw[Qcc,<- hlen]
 refine⟨.ref s.heap.objs.size,_,I.laid (t':=s.toks) (o:=.lst (cutV xs lo hi)) (fun b ob q=>Heap.get?_push_of_some _ q) (Nat.le_refl _) ?_,rfl,q _ (I.hok.fresh (Nat.le_refl _))⟩
 exact⟨Nat.le_trans (QbZ xs lo hi) hz,_,0,(r.drop (HT.sIx xs.length 0 lo)).take (HT.sIx xs.length xs.length hi - HT.sIx xs.length 0 lo),Heap.get?_push_size _ rfl⟩
def flatV:V->Bool
 | .non=>true
 | .bl _=>true
 | .int _=>true
 | .str _=>true
 | _=>false
def eqV:V->V->Bool
 | .non,.non=>true
 | .bl a,.bl b=>a == b
 | .bl a,.int b=>(if a then 1 else 0) == b
 | .int a,.bl b=>a == (if b then 1 else 0)
 | .int a,.int b=>a == b
 | .str a,.str b=>a == b
 | _,_=>false
theorem Qce {A:Around}{s:Shared}{y x:V}{u v:Value} (ry:RelV y u) (rx:RelV x v) (fy:flatV y=true) (fx:flatV x=true):SeqAt.EqAt A s u v (eqV y x):=by
 cases y with
 | non=>
  cases ry
  cases x with
  | non=>cases rx;exact SeqAt.EqAt.same _
  | bl b=>cases rx;exact SeqAt.EqAt.none_bool b
  | int b=>obtain⟨t,rfl⟩:=rx;exact SeqAt.EqAt.none_int b t
  | str b=>obtain⟨t,rfl⟩:=rx;exact SeqAt.EqAt.none_str b t
  | _=>exact absurd (show false=true from fx) Bool.false_ne_true
 | bl a=>
  cases ry
  cases x with
  | non=>cases rx;exact SeqAt.EqAt.bool_none a
  | bl b=>cases rx;exact SeqAt.EqAt.bool_bool a b
  | int b=>obtain⟨t,rfl⟩:=rx;exact SeqAt.EqAt.bool_int a b t
  | str b=>obtain⟨t,rfl⟩:=rx;exact SeqAt.EqAt.bool_str a b t
  | _=>exact absurd (show false=true from fx) Bool.false_ne_true
 | int a=>
  obtain⟨t',rfl⟩:=ry
  cases x with
  | non=>cases rx;exact SeqAt.EqAt.int_none a t'
  | bl b=>cases rx;exact SeqAt.EqAt.int_bool a t' b
  | int b=>obtain⟨t,rfl⟩:=rx;exact SeqAt.EqAt.int_int a t' b t
  | str b=>obtain⟨t,rfl⟩:=rx;exact SeqAt.EqAt.int_str a t' b t
  | _=>exact absurd (show false=true from fx) Bool.false_ne_true
 | str a=>
  obtain⟨t',rfl⟩:=ry
  cases x with
  | non=>cases rx;exact SeqAt.EqAt.str_none a t'
  | bl b=>cases rx;exact SeqAt.EqAt.str_bool a t' b
  | int b=>obtain⟨t,rfl⟩:=rx;exact SeqAt.EqAt.str_int a t' b t
  | str b=>obtain⟨t,rfl⟩:=rx;exact SeqAt.EqAt.str_str a t' b t
  | _=>exact absurd (show false=true from fx) Bool.false_ne_true
 | _=>exact absurd (show false=true from fy) Bool.false_ne_true
def eqU (x:V) (u:Value):Bool:=match u with
 | .none=>eqV .non x
 | .bool b=>eqV (.bl b) x
 | .int i _=>eqV (.int i) x
 | .str z _=>eqV (.str z) x
 | _=>false
theorem Qcf {x y:V}{u:Value} (r:RelV y u) (f:flatV y=true):eqU x u=eqV y x:=by
 cases y with
 | non=>cases r;rfl
 | bl b=>cases r;rfl
 | int i=>obtain⟨t,rfl⟩:=r;rfl
 | str z=>obtain⟨t,rfl⟩:=r;rfl
 | _=>exact absurd (show false=true from f) Bool.false_ne_true
theorem Qcg {x:V}:∀ {xs:List V}{us:List Value},Vals xs us->xs.all flatV=true->us.any (eqU x)=xs.any fun y=>eqV y x
 | _,_,.nil,_=>rfl
 | y::xs,u::us,.cons r t,f=>by
  rw[List.all_cons,Bool.and_eq_true]at f
  rw[List.any_cons,List.any_cons,Qcf r f.1,Qcg t f.2]
theorem Qch {A:Around}{s:Shared}{x:V}{v:Value} (rx:RelV x v) (fx:flatV x=true):∀ {xs:List V}{us:List Value},Vals xs us->xs.all flatV=true->∀ u∈us,SeqAt.EqAt A s u v (eqU x u)
 | _,_,.nil,_=>fun u hu=>by cases hu
 | y::xs,u::us,.cons r t,f=>fun u' hu=>by
  rw[List.all_cons,Bool.and_eq_true]at f
  rcases List.mem_cons.mp hu with rfl | hu
  ·rw[Qcf r f.1];exact Qce r rx f.1 fx
  ·exact Qch rx fx t f.2 u' hu
def inV (x:V) (xs:List V):Bool:=xs.any fun y=>eqV y x
def rIn (K:PySem.W.Frag) (neg:Bool):R2:=fun x y H Q=>∃ p xs,y=.ref p/\(SqL K H p xs\/SqT K H p xs)/\flatV x=true/\xs.all flatV=true/\Q (.bl (if neg then !inV x xs else inV x xs)) H
theorem Qci:OpR X (compareOp .In) (rIn X.K false):=by
 intro pins s σ H x y v u Q I rx ry h
 obtain⟨p,xs,rfl,hq,fx,fs,q⟩:=h
 cases ry
 rcases hq with hq | hq
 ·obtain⟨its,r,pl,hz⟩:=I.list hq
  refine SeqAt.in_listAt (eqU x) pl.isList (fun w hw=>Qch rx fx r fs w (by simpa using hw)) ⟨.bl _,H,I,rfl,?_⟩
  rw[show its.toArray.any (eqU x)=its.any (eqU x) by simp,Qcg r fs]
  exact q
 ·obtain⟨its,r,pl,hz⟩:=I.tuple hq
  refine SeqAt.in_tupleAt (eqU x) pl (fun w hw=>Qch rx fx r fs w (by simpa using hw)) ⟨.bl _,H,I,rfl,?_⟩
  rw[show its.toArray.any (eqU x)=its.any (eqU x) by simp,Qcg r fs]
  exact q
theorem Qcj:CallR X (.builtin "len") (fun xs H Q=>∃ p ys,xs=[.ref p]/\(SqL X.K H p ys\/SqT X.K H p ys)/\Q (.int ys.length) H):=by
 intro pins s σ H xs us Q I r h
 obtain⟨p,ys,rfl,hq,q⟩:=h
 obtain⟨u,rfl,rx⟩:=Qbs r
 cases rx
 have hn:=Qbo
 rcases hq with hq | hq
 ·obtain⟨its,r',pl,hz⟩:=I.list hq
  have hlen:=r'.length
  exact Calls.call_len_list pl.isList (by simp only[List.size_toArray]<;>ac_nf) ⟨.int ys.length,H,I.tok _,⟨s.toks + 1,by rw[List.size_toArray,hlen]⟩,q⟩
 ·obtain⟨its,r',pl,hz⟩:=I.tuple hq
  have hlen:=r'.length
  exact len_tuple pl (by simp only[List.size_toArray]<;>ac_nf) ⟨.int ys.length,H,I.tok _,⟨s.toks + 1,by rw[List.size_toArray,hlen]⟩,q⟩
theorem Qck:CallR X (.builtin "len") (fun xs H Q=>∃ z,xs=[.str z]/\z.length<=sizeLine/\Q (.int z.length) H):=by
 intro pins s σ H xs us Q I r h
 obtain⟨z,rfl,hz,q⟩:=h
 obtain⟨u,rfl,t,rfl⟩:=Qbs r
 have hn:=Qbo
 exact len_str (by ac_nf) ⟨.int z.length,H,I.tok _,⟨_,rfl⟩,q⟩
theorem CallR.or {f:Value}{r r':List V->Hp->VK->Prop} (h:CallR X f r) (h':CallR X f r'):CallR X f (fun xs H Q=>r xs H Q\/r' xs H Q):=by
 intro pins s σ H xs us Q I rs q
 rcases q with q | q
 ·exact h pins s σ H xs us Q I rs q
 ·exact h' pins s σ H xs us Q I rs q
theorem Qcl:CallR X (.type "list") (fun xs H Q=>∃ p ys,xs=[.ref p]/\(SqL X.K H p ys\/SqT X.K H p ys)/\∀ l,H l=none->Q (.ref l) (upd H l (.lst ys))):=by
 intro pins s σ H xs us Q I r h
 obtain⟨p,ys,rfl,hq,q⟩:=h
 obtain⟨u,rfl,rx⟩:=Qbs r
 cases rx
 have fin : ∀ (its : List Value), Vals ys its -> ys.length <= sizeLine -> ∀ (h' : Heap) (c' : Nat), (∀ b o', s.heap.get? b = some o' -> h'.get? b = some o') ->
   h'.get? s.heap.objs.size=some { cls:=.type "list",dict:=none,data:=.seq its.toArray c',slots:=#[] }->EP X pins σ Q (.ref s.heap.objs.size) { s with heap:=h' }:=fun its r' hz h' c' kp e=>
  ⟨.ref s.heap.objs.size,_,I.laid (t':=s.toks) kp (Nat.le_refl _) (show ObjOk X.prog X.w _ h' _ (.lst ys) from ⟨hz,its,c',r',e⟩),rfl,q _ (I.hok.fresh (Nat.le_refl _))⟩
 rcases hq with hq | hq
 ·obtain⟨its,r',pl,hz⟩:=I.list hq
  have hlen:=r'.length
  obtain⟨o,ho,hc,n,hd⟩:=pl.isList
  exact call_list_seq p (.inl rfl) ho hc hd (fun h' c' kp e=>fin its r' hz h' c' kp e) (by simp only[List.size_toArray]<;>ac_nf)
 ·obtain⟨its,r',pl,hz⟩:=I.tuple hq
  have hlen:=r'.length
  obtain⟨o,ho,hc,n,hd⟩:=pl
  exact call_list_seq p (.inr rfl) ho hc hd (fun h' c' kp e=>fin its r' hz h' c' kp e) (by simp only[List.size_toArray]<;>ac_nf)
theorem Qcm:CallR X (.type "tuple") (fun xs H Q=>∃ p ys,xs=[.ref p]/\((SqL X.K H p ys/\∀ l,H l=none->Q (.ref l) (upd H l (.tup ys)))\/(SqT X.K H p ys/\Q (.ref p) H))):=by
 intro pins s σ H xs us Q I r h
 obtain⟨p,ys,rfl,h⟩:=h
 obtain⟨u,rfl,rx⟩:=Qbs r
 cases rx
 rcases h with ⟨hq,q⟩ | ⟨hq,q⟩
 ·obtain⟨its,r',pl,hz⟩:=I.list hq
  have hlen:=r'.length
  refine call_tuple_list pl.isList (fun h' kp=>?_) (by simp only[List.size_toArray]<;>ac_nf)
  have I1:Inv X pins σ H { s with heap:=h' }:=I.kept (t':=s.toks) kp
  have I2:Inv X pins σ (upd H h'.objs.size (.tup ys)) { s with heap:=h'.push { cls:=.type "tuple",data:=.seq its.toArray } }:=
   I1.laid (t':=s.toks) (fun b o e=>Heap.get?_push_of_some _ e) (Nat.le_refl _) (show ObjOk X.prog X.w _ _ _ (.tup ys) from ⟨hz,its,r',IsTupD.new _ _⟩)
  exact⟨.ref h'.objs.size,_,I2,rfl,q _ (I1.hok.fresh (Nat.le_refl _))⟩
 ·obtain⟨its,r',pl,hz⟩:=I.tuple hq
  exact call_tuple_same pl ⟨.ref p,H,I,rfl,q⟩
def tyV (K:PySem.W.Frag) (T:String) (x:V) (H:Hp):Prop:=match x with
 | .str _=>T="str"
 | .int _=>T="int"
 | .ref p => (T = "list" /\ ∃ xs, SqL K H p xs) \/ (T = "tuple" /\ ∃ o, K.lookup p = some o /\ o.cls = .type "tuple" /\ o.dict = none) \/
   (T="dict"/\((∃ kvs,H p=some (.dK kvs))\/∃ kvs,H p=some (.dT kvs)))\/(T="set"/\∃ S n,H p=some (.set S n))
 | _=>False
theorem Qcn {pins : List (Addr × Obj)} {σ : St} {H : Hp} {s : Shared} {T : String} {x : V} {v : Value} (I : Inv X pins σ H s) (r : RelV x v) (ty : tyV X.K T x H) :
  s.TypeIs v T/\∀ a,v=.ref a->∃ ob,s.heap.get? a=some ob/\ob.dict=none:=by
 cases x with
 | str z=>
  obtain⟨t,rfl⟩:=r
  cases (show T="str" from ty)
  exact⟨typeIs_str s z t,fun _ e=>nomatch e⟩
 | int i=>
  obtain⟨t,rfl⟩:=r
  cases (show T="int" from ty)
  exact⟨typeIs_int s i t,fun _ e=>nomatch e⟩
 | ref p=>
  cases r
  rcases ty with ⟨rfl,xs,hq⟩ | ⟨rfl,o,hk,hc,hd⟩ | ⟨rfl,hk⟩ | ⟨rfl,S,n,hk⟩
  ·obtain⟨its,_,pl,_⟩:=I.list hq
   refine⟨pl.isList.typeIs,fun a e=>?_⟩
   cases e
   obtain⟨o,n,e,c,hd,_⟩:=pl
   exact⟨o,e,hd⟩
  ·refine⟨⟨o,I.kIn p o hk,hc⟩,fun a e=>?_⟩
   cases e
   exact⟨o,I.kIn _ o hk,hd⟩
  ·have z : ∃ o, s.heap.get? p = some o /\ o.ExactDict := by
     rcases hk with ⟨kvs,hk⟩ | ⟨kvs,hk⟩
     ·obtain⟨_,_,_,_,o,_,_,e,ex,_⟩:=I.hok p _ hk
      exact⟨o,e,ex⟩
     ·obtain⟨_,_,_,_,o,_,_,e,ex,_⟩:=I.hok p _ hk
      exact⟨o,e,ex⟩
   obtain⟨o,e,ex⟩:=z
   refine⟨⟨o,e,ex.1⟩,fun a e2=>?_⟩
   cases e2
   exact⟨o,e,ex.2.1⟩
  ·obtain⟨o,_,_,_,e,ex,_⟩:=I.hok p _ hk
   refine⟨⟨o,e,ex.1⟩,fun a e2=>?_⟩
   cases e2
   exact⟨o,e,ex.2.1⟩
 | _=>exact False.elim ty
def tBM0 (K:PySem.W.Frag) (T:String) (r:V->List V->Hp->VK->Prop) (to:TE):TE:=fun σ H Q=>to σ H fun x H1=>tyV K T x H1/\r x [] H1 Q
def tBM (K:PySem.W.Frag) (T:String) (r:V->List V->Hp->VK->Prop) (to:TE) (t:TA):TE:=fun σ H Q=>to σ H fun x H1=>tyV K T x H1/\t σ H1 fun xs H2=>r x xs H2 Q
variable {o e:Expr}{es:List Expr}{to:TE}{t:TA}{name:Str}{apos cpos:Pos}{T id:String}{r:V->List V->Hp->VK->Prop}
theorem Qco (pa : PlainAttrs T) (slot : Slot T name id) (hty : typeOf (.builtin id) = pure (.type "method_descriptor")) (hm : MtR X id r) (ho : PE X o to)
  (hbase:attributeBase o name X.env (eval o X.env)=eval o X.env:=by rfl) (hline:(apos.endLine == cpos.line)=true:=by rfl):PE X (.Call (.Attribute o name apos) [] [] cpos) (tBM0 X.K T r to):=by
 intro pins s σ H Q I h
 refine wpAny_Call_method0_late hbase hline (thn (ho pins s σ H _ I h) fun v s1 pq39=>?_)
 obtain⟨x,H1,I1,r1,ty,q1⟩:=pq39
 obtain⟨h1,h2⟩:=Qcn I1 r1 ty
 exact⟨T,id,pa,slot,hty,h1,h2,Calls.callWith_builtin rfl (PySem.evalArgs_none (hm pins s1 σ H1 x [] v [] Q I1 r1 .nil q1))⟩
theorem Qcp (pa : PlainAttrs T) (slot : Slot T name id) (hty : typeOf (.builtin id) = pure (.type "method_descriptor")) (hm : MtR X id r) (ho : PE X o to) (ha : PA X (e :: es) t)
  (hbase:attributeBase o name X.env (eval o X.env)=eval o X.env:=by rfl)
  (hfew:((backTo cpos (starEach (e::es) X.env)).all (fun x => !x.1) && (backToKw cpos (keywordEach [] X.env)).all (fun x=>x.1.isSome)
   && decide ((e::es).length + ([]:List Keyword).length + (if ([]:List Keyword).isEmpty then 0 else 1) < 30))=true:=by rfl)
  (hline:(apos.endLine == cpos.line)=true:=by rfl) (hs:starEach (e::es) X.env=(false,eval e X.env)::starEach es X.env:=by rfl) (hplain:(backTo cpos (starEach es X.env)).any (·.1)=false:=by rfl):
  PE X (.Call (.Attribute o name apos) (e::es) [] cpos) (tBM X.K T r to t):=by
 intro pins s σ H Q I h
 refine wpAny_Call_method_late hbase hfew hline rfl (thn (ho pins s σ H _ I h) fun v s1 pq40=>?_)
 obtain⟨x,H1,I1,r1,ty,q1⟩:=pq40
 obtain⟨h1,h2⟩:=Qcn I1 r1 ty
 refine⟨T,id,pa,slot,hty,h1,h2,?_⟩
 have hA:=ha cpos pins s1 σ H1 _ I1 q1
 rw[hs]at hA ⊢
 refine Calls.callWith_builtin (by show (false || (backTo cpos (starEach es X.env)).any (·.1))=false;rw[hplain]<;>rfl) (Calls.evalArgs_plain ?_)
 exact thn hA fun us s2 pq41=>by obtain⟨vs,H2,I2,r2,q2⟩:=pq41;exact hm pins s2 σ H2 x vs v us Q I2 r1 r2 q2
end
def MtM (X:Cx) (id:String) (r:V->List V->Hp->VK->Prop):Prop:=
 ∀ (pins:List (Addr × Obj)) (s:Shared) (σ:St) (H:Hp) (x:V) (xs:List V) (v:Value) (us:List Value) (Q:VK),Inv X pins σ H s->RelV x v->Vals xs us->r x xs H Q ->
  wpAny (model X.prog X.w) X.A (call (.builtin id) (v::us)) (EP X pins σ Q) X.xe s
theorem Vals.one {x:V}{us:List Value} (h:Vals [x] us):∃ u,us=[u]/\RelV x u:=by
 cases h with
 | cons r h=>cases h;exact⟨_,rfl,r⟩
theorem Vals.zero:∀ {us:List Value},Vals [] us->us=[]
 | _,.nil=>rfl
theorem Vals.dropLast {xs:List V}{us:List Value} (h:Vals xs us):Vals xs.dropLast us.dropLast:=by
 induction h with
 | nil=>exact .nil
 | cons r t ih=>
  cases t with
  | nil=>exact .nil
  | cons q t'=>exact .cons r ih
theorem Vals.eraseIdx:∀ {xs:List V}{us:List Value} (i:Nat),Vals xs us->Vals (xs.eraseIdx i) (us.eraseIdx i)
 | _,_,_,.nil=>.nil
 | _,_,0,.cons _ t=>t
 | _,_,i + 1,.cons r t=>.cons r (Vals.eraseIdx i t)
theorem Vals.reverse {xs:List V}{us:List Value} (h:Vals xs us):Vals xs.reverse us.reverse:=by
 induction h with
 | nil=>exact .nil
 | cons r t ih=>rw[List.reverse_cons,List.reverse_cons];exact Vals.append ih (.cons r .nil)
theorem Vals.rep {xs:List V}{us:List Value} (h:Vals xs us):∀ k:Nat,Vals (List.replicate k xs).flatten (List.replicate k us).flatten
 | 0=>.nil
 | k + 1=>by
  rw[List.replicate_succ,List.replicate_succ,List.flatten_cons,List.flatten_cons]
  exact Vals.append h (Vals.rep h k)
theorem Qcq {α:Type} (l:List α):l.eraseIdx (l.length - 1)=l.dropLast:=by
 induction l with
 | nil=>rfl
 | cons a r ih=>
  cases r with
  | nil=>rfl
  | cons b r=>
   have e:(a::b::r).length - 1=((b::r).length - 1) + 1:=by
    have h1:(a::b::r).length=r.length + 2:=rfl
    have h2:(b::r).length=r.length + 1:=rfl
    ac_nf
   rw[e,List.eraseIdx_cons_succ,ih]
   all_goals rfl
theorem Qcr {α:Type}:∀ (l:List α) (i:Nat),(l.eraseIdx i).length<=l.length
 | [],_=>Nat.le_refl _
 | _::_,0=>Nat.le_succ _
 | _::r,i + 1=>Nat.succ_le_succ (Qcr r i)
theorem Qcs (its : List Value) : ∀ (k : Nat) (acc : List Value),
  List.foldl (fun x1 x2=>x1++x2) acc.toArray (List.replicate k its.toArray)=(acc++(List.replicate k its).flatten).toArray
 | 0,acc=>by simp
 | k + 1,acc=>by
  have e:acc.toArray++its.toArray=(acc++its).toArray:=by simp
  have e2:(acc++its)++(List.replicate k its).flatten=acc++(List.replicate (k + 1) its).flatten:=by
   rw[List.replicate_succ,List.flatten_cons,List.append_assoc]
  rw[<- e2,<- Qcs its k (acc++its),<- e,List.replicate_succ,List.foldl_cons]
section
variable {X:Cx}{pins:List (Addr × Obj)}{σ:St}{H:Hp}{s:Shared}{l b:Addr}{xs ys zs:List V}
theorem Inv.lset {its its' : List Value} {n : Nat} {f : Array Value -> Array Value} {t' : Nat} (I : Inv X pins σ H s) (hH : H l = some (.lst xs))
  (e:s.heap.get? l=some { cls:=.type "list",data:=.seq its.toArray n }) (hf:f its.toArray=its'.toArray) (hv:Vals ys its') (hz:ys.length<=sizeLine):
  Inv X pins σ (upd H l (.lst ys)) { s with heap:=s.heap.update l (Obj.mapSeq f),toks:=t' }:=by
 have q:=PySem.IsL.update e f
 rw[hf]at q
 refine I.write (x:=l) (e:=l) (by rw[hH];exact trivial) (.inl rfl) (fun b' u hb hu=>(Heap.get?_update_other s.heap (Obj.mapSeq f) (Ne.symm hb)).trans hu) ⟨_,q⟩ ?_
 exact⟨hz,its',_,hv,q⟩
theorem Inv.lnew {its : List Value} {t' : Nat} (I : Inv X pins σ H s) (hv : Vals ys its) (hz : ys.length <= sizeLine) :
  Inv X pins σ (upd H s.heap.objs.size (.lst ys)) { s with heap:=s.heap.push { cls:=.type "list",data:=.seq its.toArray },toks:=t' }:=
 I.laid (fun _ _ q=>Heap.get?_push_of_some _ q) (Nat.le_refl _) ⟨hz,its,0,hv,Heap.get?_push_size _ rfl⟩
theorem Inv.fresh (I:Inv X pins σ H s):H s.heap.objs.size=none:=I.hok.fresh (Nat.le_refl _)
theorem Inv.lstM (I:Inv X pins σ H s) (hH:H l=some (.lst xs)):xs.length<=sizeLine/\∃ (its:List Value) (n:Nat),Vals xs its/\xs.length=its.length/\s.heap.get? l=some { cls:=.type "list",data:=.seq its.toArray n }:=by
 obtain⟨z,its,n,r,e⟩:=I.hok l _ hH
 exact⟨z,its,n,r,r.length,e⟩
theorem Qct {n:Nat} (h:n<=sizeLine):Builtin.List.listTooLong n=false:=by
 unfold Builtin.List.listTooLong
 exact decide_eq_false (by ac_nf)
end
section
variable {X:Cx}
def rAppend:V->List V->Hp->VK->Prop:=fun x vs H Q=>∃ l xs y,x=.ref l/\vs=[y]/\H l=some (.lst xs)/\xs.length < sizeLine/\Q .non (upd H l (.lst (xs++[y])))
theorem Qcu:MtM X "list.append" rAppend:=by
 intro pins s σ H x vs v us Q I rx rv h
 obtain⟨l,xs,y,rfl,rfl,hH,hz,q⟩:=h
 cases rx
 obtain⟨u,rfl,ru⟩:=rv.one
 obtain⟨z,its,n,r,hl,e⟩:=I.lstM hH
 refine call_meets F.slot_list_append ⟨_,e,rfl⟩ F.entry_list_append (F.args_list_append_2 _ _) (PySem.list_append l its.toArray n u (by rw[List.size_toArray];ac_nf)) ⟨e,?_⟩
 refine⟨.non,_,I.lset (its':=its++[u]) hH e (by simp) (r.append (.cons ru .nil)) ?_,rfl,q⟩
 rw[List.length_append,List.length_singleton]
 ac_nf
def rPop:V->List V->Hp->VK->Prop:=fun x vs H Q=>∃ l xs y,x=.ref l/\vs=[]/\H l=some (.lst xs)/\xs[xs.length - 1]?=some y/\Q y (upd H l (.lst xs.dropLast))
theorem Qcv:MtM X "list.pop" rPop:=by
 intro pins s σ H x vs v us Q I rx rv h
 obtain⟨l,xs,y,rfl,rfl,hH,hy,q⟩:=h
 cases rx
 have hus:=rv.zero
 subst hus
 obtain⟨z,its,n,r,hl,e⟩:=I.lstM hH
 obtain⟨u,hu,ru⟩:=r.get hy
 have hy':its.toArray[its.toArray.size - 1]?=some u:=by
  show its.toArray[its.length - 1]?=some u
  rw[<- Array.getElem?_toList,<- hl]
  exact hu
 refine call_meets F.slot_list_pop ⟨_,e,rfl⟩ F.entry_list_pop (F.args_list_pop_1 _) (MeetsSeq.list_pop_last l its.toArray n u hy' (by rw[List.size_toArray];ac_nf)) ⟨e,?_⟩
 refine⟨y,_,I.lset (its':=its.dropLast) hH e ?_ r.dropLast ?_,ru,q⟩
 ·show its.toArray.eraseIdxIfInBounds (its.toArray.size - 1)=its.dropLast.toArray
  rw[List.size_toArray,List.eraseIdxIfInBounds_toArray,Qcq]
 ·rw[List.length_dropLast]
  ac_nf
def rPopAt:V->List V->Hp->VK->Prop:=fun x vs H Q=>∃ l xs i k y,x=.ref l/\vs=[.int i]/\H l=some (.lst xs) /\ -(2 ^ 63)<=i/\i < 2 ^ 63/\seqIndex? i xs.length=some k/\xs[k]?=some y/\Q y (upd H l (.lst (xs.eraseIdx k)))
theorem Qcw:MtM X "list.pop" rPopAt:=by
 intro pins s σ H x vs v us Q I rx rv h
 obtain⟨l,xs,i,k,y,rfl,rfl,hH,h1,h2,hk,hy,q⟩:=h
 cases rx
 obtain⟨u,rfl,ru⟩:=rv.one
 obtain⟨t,rfl⟩:=ru
 obtain⟨z,its,n,r,hl,e⟩:=I.lstM hH
 obtain⟨w,hw,rw'⟩:=r.get hy
 refine call_meets F.slot_list_pop ⟨_,e,rfl⟩ F.entry_list_pop (F.args_list_pop_2 _ _)
  (MeetsSeq.list_pop_at l its.toArray n i t k w (fitsIndex_both h1 h2) (by rw[List.size_toArray,<- hl];exact hk) (by rw[<- Array.getElem?_toList];exact hw) (by rw[List.size_toArray];ac_nf)) ⟨e,?_⟩
 refine⟨y,_,I.lset (its':=its.eraseIdx k) hH e ?_ (r.eraseIdx k) ?_,rw',q⟩
 ·show its.toArray.eraseIdxIfInBounds k=(its.eraseIdx k).toArray
  rw[List.eraseIdxIfInBounds_toArray]
 ·have:=Qcr xs k
  ac_nf
def rCat:R2:=fun x y H Q=>∃ l b xs zs,x=.ref l/\y=.ref b/\H l=some (.lst xs)/\H b=some (.lst zs)/\xs.length + zs.length<=sizeLine/\∀ p,H p=none->Q (.ref p) (upd H p (.lst (xs++zs)))
theorem Qcx:OpR X (binaryOp .Add) rCat:=by
 intro pins s σ H x y v u Q I rx ry h
 obtain⟨l,b,xs,zs,rfl,rfl,hH,hB,hz,q⟩:=h
 cases rx
 cases ry
 obtain⟨z,its,n,r,hl,e⟩:=I.lstM hH
 obtain⟨z2,its2,n2,r2,hl2,e2⟩:=I.lstM hB
 refine PySem.P.add_list e e2 ?_ (by rw[List.size_toArray,List.size_toArray];ac_nf)
 have ea:its.toArray++its2.toArray=(its++its2).toArray:=by simp
 rw[ea]
 exact⟨.ref _,_,I.lnew (t':=s.toks) (r.append r2) (by rw[List.length_append];ac_nf),rfl,q _ I.fresh⟩
def rRep:R2:=fun x y H Q=>∃ l k xs,x=.ref l/\y=.int k/\H l=some (.lst xs) /\ -(2 ^ 63)<=k/\k < 2 ^ 63/\xs.length * k.toNat<=sizeLine /\
 ∀ p,H p=none->Q (.ref p) (upd H p (.lst (List.replicate k.toNat xs).flatten))
theorem Qcy {α:Type} (xs:List α) (k:Nat):(List.replicate k xs).flatten.length=k * xs.length:=by
 induction k with
 | zero=>simp
 | succ k ih=>rw[List.replicate_succ,List.flatten_cons,List.length_append,ih,Nat.succ_mul,Nat.add_comm]
theorem Qcz:OpR X (binaryOp .Mult) rRep:=by
 intro pins s σ H x y v u Q I rx ry h
 obtain⟨l,k,xs,rfl,rfl,hH,h1,h2,hz,q⟩:=h
 cases rx
 obtain⟨t,rfl⟩:=ry
 obtain⟨z,its,n,r,hl,e⟩:=I.lstM hH
 have hlen:its.toArray.size * k.toNat<=sizeLine:=by rw[List.size_toArray,<- hl];exact hz
 have hcap:¬ its.toArray.size * k.toNat > (2 ^ 63 - 1) / 8:=by
  have:(sizeLine:Nat)<=(2 ^ 63 - 1) / 8:=by decide
  ac_nf
 have hfit:¬ (!Builtin.List.listFitsIndex k)=true:=by
  rw[fitsIndex_both h1 h2]
  exact Bool.false_ne_true
 have hlong:¬ Builtin.List.listTooLong (its.toArray.size * k.toNat)=true:=by
  rw[Qct hlen]
  exact Bool.false_ne_true
 have hnew:List.foldl (fun x1 x2=>x1++x2) #[] (List.replicate (if its.toArray.isEmpty=true then 0 else k.toNat) its.toArray)=(List.replicate k.toNat its).flatten.toArray:=by
  have f0:∀ m:Nat,List.foldl (fun x1 x2=>x1++x2) #[] (List.replicate m its.toArray)=(List.replicate m its).flatten.toArray:=fun m=>by
   have:=Qcs its m []
   rw[List.nil_append]at this
   exact this
  rw[f0]
  cases its with
  | nil=>simp
  | cons a r'=>rw[if_neg (by simp)]
 refine wpAny_binaryOp_repeat_ref (T:="list") (U:="int") (by decide) ⟨_,e,rfl⟩ (fun s'=>typeIs_int s' k t) noFill_list_mul F.fills_int_mul F.slot_int_rmul repeat_list F.slot_int_index.lookup
  (call_meets F.slot_int_rmul (typeIs_int s k t) F.entry_int_rmul (F.args_int_rmul_2 _ _) (int___rmul___int_list k t l its.toArray n)
   ⟨e,rfl,⟨_,e,rfl⟩,call_meets F.slot_list_mul ⟨_,e,rfl⟩ F.entry_list_mul (F.args_list_mul_2 _ _) (AutoListH.list___mul___list_int_3 l its.toArray n k t hfit hcap hlong) ⟨e,?_⟩⟩)
 rw[hnew]
 exact⟨.ref _,_,I.lnew (t':=s.toks) (r.rep k.toNat) (by rw[Qcy,Nat.mul_comm];exact hz),rfl,q _ I.fresh⟩
end
section
variable {prog:Program}{w:World}{A:Around}{E:Value->Shared->Prop}{s:Shared}
theorem QcA {a c n:Nat} (hac:a<=c) (hc:c<=n):sliceBounds (some (a:Int)) (some (c:Int)) none n=((a:Int),(c:Int),1):=by
 simp only[sliceBounds,Option.getD_none]
 have h1:¬ ((a:Int) < 0):=by ac_nf
 have h2:¬ ((c:Int) < 0):=by ac_nf
 simp only[h1,h2,if_false,show (1:Int) > 0 by decide,if_true]
 congr 1
 ·ac_nf
 ·congr 1;ac_nf
end
end L2
namespace Att
open PySem PySem.W PySem.Calls PyProof.Rows
theorem QcC {P:Params}{h:Heap}:∀ (ns:List Int) (vs:List Value),WellAll P h vs (ns.map WData.int)->IntsAre vs ns:=by
 intro ns
 induction ns with
 | nil=>
  intro vs w
  rw[List.map_nil]at w
  cases w
  exact .nil
 | cons n ns ih=>
  intro vs w
  rw[List.map_cons]at w
  cases w with
  | cons a b=>
   cases a
   exact .cons _ _ (ih _ b)
theorem QcD {l : OpenLaw} {n : Nat} (hn : l.most = some n) {P : Params} {h : Heap} {args : List WData} {vals : List Value}
  (hpre:l.row.toRowW.claim.pre args=true) (hwl:WellAll P h vals args):
  ∃ a vs ns,vals=[Value.ref a]/\args=[WData.list (ns.map WData.int)]/\h.get? a=some { cls:=.type "list",data:=.seq vs.toArray }/\IntsAre vs ns/\ns.length<=n:=by
 have hsh:WShape.hasAll [] args [.list .int]=true:=(pre_splitW hpre).1
 have hc:l.pre.holds [] { args:=args }=true:=(pre_splitW hpre).2
 obtain⟨d,r,rfl,h1,h2⟩:=hasAllW_cons hsh
 obtain rfl:=hasAllW_nil h2
 obtain⟨xs,rfl,h3⟩:=hasW_list h1
 obtain⟨ns,rfl⟩:=items_int h3
 have hlen:ns.length<=n:=by
  unfold OpenLaw.pre at hc
  have h4:(WTm.not (.lt (.lit (.int (n:Int))) (.len (.arg 0)))).holds [] { args:=[.list (ns.map .int)] }=true:=by
   have h4:=(holds_andW hc).1
   rw[hn]at h4
   exact h4
  have h5:=condW_of h4 (w_not (w_lt w_lit (w_len_list (w_arg rfl))))
  rw[List.length_map]at h5
  refine Nat.le_of_not_lt fun q=>?_
  have q':(n:Int) < ((ns.length:Nat):Int):=by ac_nf
  first
   | (rw[decide_eq_true q']at h5;exact absurd h5 (by decide))
   | (simp at h5;ac_nf)
 cases hwl with
 | cons w1 w2=>
  cases w2
  cases w1 with
  | list ho hall=>exact⟨_,_,ns,rfl,rfl,ho,QcC ns _ hall,hlen⟩
theorem QcE (l:OpenLaw) (args:List WData):l.row.toRowW.claim.post args (.bool true) args=true:=
 postW_of (r:=l.row.toRowW) (X:=(true == true))
  (show WShape.has [] (.bool true) .bool=true by first | rfl | decide | simp[WShape.has,WShape.arms,WShape.armsAll])
  (show (WTm.eq .res (.lit (.bool true))).value [] { args:=args,res:=some (.bool true),after:=args }=some (.bool (true == true)) from w_eq_bool (w_res rfl) w_lit) rfl
theorem attach_call {l : OpenLaw} {n : Nat} {q : Program} {loose : List Str} {XP : (Str -> Option Value) -> Heap -> Prop} {YP : World -> Heap -> Prop} {d : DefRec}
  (hn:l.most=some n) (hdf:d.params.defaults=[])
  (call:∀ (w:World) (s₀ s₁:Shared) (mg mb:Str->Option Value) (fa:Addr) (o:Obj) (pm cd doc:Value) (a:Addr) (vs:List Value) (ns:List Int),
   Ground q loose [] XP w s₀ mg mb s₁.heap->YP w s₁.heap ->
   s₁.heap.get? fa=some o->o.data=.func (docDef d.name d.params d.body d.scope pm cd doc)->s₁.heap.CodeRec cd d.name->mg d.name=some (.ref fa) ->
   s₁.heap.get? a=some { cls:=.type "list",data:=.seq vs.toArray }->IntsAre vs ns->ns.length<=n->s₁.gens=#[] ->
   codeAny (model l.prog w) callerA (.call (.ref fa) ⟨[.ref a],[]⟩) (fun r s'=>r=.ok (.ret (.bool true))/\OldK s₁.heap s'.heap/\s'.os=s₁.os/\AllBare s'.gens) s₁):
  WalkO q loose XP YP l.row.toRowW d [] (fun f vs=>PySem.call f vs):=by
 intro w s₀ s₁ mg mb G Y fa o pm cd doc dV kV ho hd hcd hD hmg hg args vals as hpre hlay hrd hwl hlo
 obtain rfl:dV=.none:=Dflts.none hD hdf
 obtain rfl:kV=.none:=Dflts.noKw hD
 obtain⟨a,vs,ns,rfl,rfl,hobj,hints,hlen⟩:=QcD hn hpre hwl
 refine enter_call (codeAny_mono (call w s₀ s₁ mg mb fa o pm cd doc a vs ns G Y ho (fd_plain hd) hcd hmg hobj hints hlen hg) fun r s' hq=>?_)
 obtain⟨rfl,h2,h3,h4⟩:=hq
 exact⟨.inl ⟨.bool true,.bool true,[],rfl,fun _=>rfl,.bool true,QcE l _,fun _=>⟨List.Pairwise.nil,fun _ hm=>(nomatch hm)⟩⟩,h2,h3,h4⟩
end Att
namespace L2
open PySem PySem.Spec PyProof.Rows
theorem QcF:∀ {vs:List Value}{ns:List Int},IntsAre vs ns->Vals (ns.map V.int) vs
 | _,_,.nil=>.nil
 | _,_,.cons n t h=>.cons ⟨t,rfl⟩ (QcF h)
def Only (H:Hp):Prop:=∀ b,H b=none\/∃ o xs,H b=some (.frz o (.lst xs))
theorem QcG {P : Program} {w : World} {K : PySem.W.Frag} {mg mb : Str -> Option Value} {CX : CXT} {k : Nat} {fa a : Addr} {fd : FuncData} {x : Str} {sp : Sp} {s₁ : Shared} {vs : List Value} {ns : List Int}
  (KX:K.In s₁.heap) (hns:s₁.heap.Ns mainGlobals mg) (hb:s₁.heap.Ns builtinsNs mb) (hbb:∀ x:Str,x≠"__name__"->mb x=bootBuiltins x) (hlim:s₁.heap.NoLimit) (hg:s₁.gens=#[])
  (ha:s₁.heap.get? a=some { cls:=.type "list",data:=.seq vs.toArray }) (hi:IntsAre vs ns) (hl:ns.length<=sizeLine) (hr:Room k callerA)
  (F:∀ base:Heap,K.In base->base.Ns mainGlobals mg->FnOk P w K mg base CX k fa fd [x] sp) (hbind:∀ (s:Shared) (u:Value),BindsTo s fd ⟨[u],[]⟩ [(x,u)])
  (hsp:∀ H:Hp,Only H->SqL K H a (ns.map V.int)->sp [.ref a] H (fun v _=>v=.bl true) fun _ _ _=>False)
  (hCX:∀ H e s',CX [] H s₁ (fun _ _ _=>False) e s'->False):
  codeAny (model P w) callerA (.call (.ref fa) ⟨[.ref a],[]⟩) (fun r s'=>r=.ok (.ret (.bool true))/\OldK s₁.heap s'.heap/\s'.os=s₁.os/\AllBare s'.gens) s₁:=by
 have rv:=QcF hi
 have lenV:=hi.length
 have core : ∀ H : Hp, Only H -> SqL K H a (ns.map V.int) -> HOk P w H s₁.heap -> (∀ b, H b ≠ none -> b = a) -> (H a ≠ none -> K.lookup a = none) ->
   codeAny (model P w) callerA (.call (.ref fa) ⟨[.ref a],[]⟩) (fun r s'=>r=.ok (.ret (.bool true))/\OldK s₁.heap s'.heap/\s'.os=s₁.os/\AllBare s'.gens) s₁:=by
  intro H hO hS hok hA hK
  have base_of:∀ {b:Addr}{o:Obj},s₁.heap.get? b=some o->H b=none->(hidT s₁.heap H).get? b=some o:=fun e n=>Qan e n
  have noA:∀ {b:Addr}{o:Obj}{es:Array DictEntry}{ep:Nat},s₁.heap.get? b=some o->o.data=.dict es ep->H b=none:=fun {b o es ep} e d=>by
   cases q:H b with
   | none=>rfl
   | some u=>
    have e':b=a:=hA b (by rw[q];simp)
    subst e'
    rw[ha]at e;cases e
    have d':Data.seq vs.toArray _=Data.dict es ep:=d
    cases d'
  have nsK:∀ {b:Addr}{m:Str->Option Value},s₁.heap.Ns b m->(hidT s₁.heap H).Ns b m:=fun {b m} pq42=>by obtain⟨o,es,ep,e,d,r⟩:=pq42;exact⟨o,es,ep,base_of e (noA e d),d,r⟩
  have hKb:K.In (hidT s₁.heap H):=fun b o e=>base_of (KX b o e) (by
   cases q:H b with
   | none=>rfl
   | some u=>
    have e':b=a:=hA b (by rw[q];simp)
    subst e'
    rw[hK (by rw[q];simp)]at e;cases e)
  have hM:Mod K mg (hidT s₁.heap H):=⟨hKb,nsK hns,⟨mb,nsK hb,hbb⟩,let ⟨mc,h1,h2⟩:=hlim;⟨mc,nsK h1,h2⟩⟩
  have e0:Env0 P w K mg (hidT s₁.heap H) callerA [] s₁ H:=⟨rfl,hM,fun b o e=>Qao e,Nat.le_of_eq (Qam _ _),trivial,fun b hb=>absurd (show b∈([]:List Addr) from hb) (by simp),hok,.of_eq hg⟩
  refine codeAny_mono ((F _ hKb (nsK hns)).run callerA [] s₁ H ⟨[.ref a],[]⟩ [.ref a] [.ref a] _ _ hr e0 (hbind s₁ (.ref a)) (.cons rfl .nil) (hsp H hO hS)) fun r s' h=>?_
  cases r with
  | error e=>exact (hCX H e s' h).elim
  | ok fl=>
   cases fl with
   | next=>exact False.elim h
   | brk=>exact False.elim h
   | cont=>exact False.elim h
   | ret u=>
    obtain⟨v,H',os,bare,un,hok',r',q⟩:=h
    have q':v=.bl true:=q
    subst q'
    obtain rfl:u=Value.bool true:=r'
    refine⟨rfl,OldK.of_keep fun b o e=>?_,os,bare⟩
    cases q:H b with
    | none=>exact un.keep b o e q (by intro z;exact absurd (show b∈([]:List Addr) from z) (by simp)) (by simp)
    | some u=>
     rcases hO b with z | ⟨ob,xs,z⟩
     ·rw[q]at z;cases z
     ·have z2:=un.frzs b ob _ z
      obtain⟨e1,_⟩:=hok b _ z
      obtain⟨e2,_⟩:=hok' b _ z2
      rw[e]at e1;cases e1
      exact e2
 cases hk:K.lookup a with
 | some o=>
  have e:=KX a o hk
  rw[ha]at e
  cases e
  refine core (fun _=>none) (fun _=>.inl rfl) (.inr ⟨_,vs.toArray,_,hk,rfl,rfl,rfl,by rw[List.size_toArray,lenV];exact hl,by simpa using rv⟩) (fun b u z=>by have z':(none:Option HO)=some u:=z;cases z') (fun b z=>absurd rfl z) fun z=>absurd rfl z
 | none=>
  refine core (fun b=>if b=a then some (.frz { cls:=.type "list",data:=.seq vs.toArray } (.lst (ns.map V.int))) else none) (fun b=>?_) (.inl (.inr ⟨{ cls:=.type "list",data:=.seq vs.toArray },if_pos rfl⟩)) (fun b u z=>?_) (fun b z=>?_) fun _=>hk
  ·by_cases hb:b=a
   ·exact .inr ⟨_,_,if_pos hb⟩
   ·exact .inl (if_neg hb)
  ·by_cases hb:b=a
   ·have z':=(if_pos hb).symm.trans z
    cases z'
    subst hb
    exact⟨ha,by rw[List.length_map];exact hl,vs,_,rv,ha⟩
   ·have z':=(if_neg hb).symm.trans z
    cases z'
  ·by_cases hb:b=a
   ·exact hb
   ·exact absurd (if_neg hb) z
theorem walk_of {l : PySem.W.OpenLaw} {n k : Nat} {q : Program} {loose : List Str} {XP : (Str -> Option Value) -> Heap -> Prop} {YP : World -> Heap -> Prop} {d : DefRec} {K : Params -> PySem.W.Frag} {CX : World -> CXT} {sp : World -> Sp} {x : Str}
  (hn:l.most=some n) (hn2:n<=sizeLine) (hdf:d.params.defaults=[]) (hr:Room k callerA)
  (hY:∀ (w:World) (h:Heap),YP w h->(K w.params).In h)
  (F:∀ (w:World) (mg:Str->Option Value) (fa:Addr) (h:Heap),(K w.params).In h->h.Ns mainGlobals mg->mg d.name=some (.ref fa) ->
   ∃ fd:FuncData,(∀ (s:Shared) (u:Value),BindsTo s fd ⟨[u],[]⟩ [(x,u)]) /\
    ∀ base:Heap,(K w.params).In base->base.Ns mainGlobals mg->FnOk l.prog w (K w.params) mg base (CX w) k fa fd [x] (sp w))
  (hsp:∀ (w:World) (H:Hp) (a:Addr) (ns:List Int),ns.length<=n->Only H->SqL (K w.params) H a (ns.map V.int)->sp w [.ref a] H (fun v _=>v=.bl true) fun _ _ _=>False)
  (hCX:∀ (w:World) (H:Hp) (s:Shared) (e:Value) (s':Shared),CX w [] H s (fun _ _ _=>False) e s'->False):
  PySem.W.WalkO q loose XP YP l.row.toRowW d [] (fun f vs=>PySem.call f vs):=by
 refine Att.attach_call hn hdf fun w s₀ s₁ mg mb fa o pm cd doc a vs ns G Y ho hd hcd hmg hobj hints hlen hg=>?_
 have KX:=hY w _ Y
 obtain⟨fd,hb,hF⟩:=F w mg fa _ KX G.T.g hmg
 exact QcG KX G.T.g G.T.b G.T.builtins G.T.nolimit hg hobj hints (Nat.le_trans hlen hn2) hr hF hb (fun H hO hS=>hsp w H a ns hlen hO hS) fun H e s'=>hCX w H s₁ e s'
theorem walk_ofK {l : PySem.W.OpenLaw} {n k : Nat} {q : Program} {loose : List Str} {XP : (Str -> Option Value) -> Heap -> Prop} {YP : World -> Heap -> Prop} {d : DefRec} {K : Params -> PySem.W.Frag} {CX : CXT} {sp : PySem.W.Frag -> Sp} {x : Str}
  (hn:l.most=some n) (hn2:n<=sizeLine) (hdf:d.params.defaults=[]) (hr:Room k callerA)
  (hY:∀ (w:World) (h:Heap),YP w h->(K w.params).In h)
  (F:∀ (w:World) (mg:Str->Option Value) (fa:Addr) (h:Heap),(K w.params).In h->h.Ns mainGlobals mg->mg d.name=some (.ref fa) ->
   ∃ fd:FuncData,(∀ (s:Shared) (u:Value),BindsTo s fd ⟨[u],[]⟩ [(x,u)]) /\
    ∀ base:Heap,(K w.params).In base->base.Ns mainGlobals mg->FnOk l.prog w (K w.params) mg base CX k fa fd [x] (sp (K w.params)))
  (hsp:∀ (K:PySem.W.Frag) (H:Hp) (a:Addr) (ns:List Int),ns.length<=n->Only H->SqL K H a (ns.map V.int)->sp K [.ref a] H (fun v _=>v=.bl true) fun _ _ _=>False)
  (hCX:∀ (H:Hp) (s:Shared) (e:Value) (s':Shared),CX [] H s (fun _ _ _=>False) e s'->False):
  PySem.W.WalkO q loose XP YP l.row.toRowW d [] (fun f vs=>PySem.call f vs):=
 walk_of (K:=K) (CX:=fun _=>CX) (sp:=fun w=>sp (K w.params)) hn hn2 hdf hr hY F (fun w H a ns h1 h2 h3=>hsp (K w.params) H a ns h1 h2 h3) fun _ H s e s'=>hCX H s e s'
def defArgs (s:Stmt):Arguments:=match s with
 | .FunctionDef _ a _ _ _ _ _ _ _ _=>a
 | _=>{ posonlyargs:=[],args:=[],vararg:=none,kwonlyargs:=[],kw_defaults:=[],kwarg:=none,defaults:=[] }
def defBody (s:Stmt):List Stmt:=match s with
 | .FunctionDef _ _ b _ _ _ _ _ _ _=>b
 | _=>[]
def defScope (s:Stmt):Scope:=match s with
 | .FunctionDef _ _ _ _ _ _ sc _ _ _=>sc
 | _=>{ kind:=.function,names:=[],isGenerator:=false,isCoroutine:=false }
abbrev CX0:CXT:=fun _ _ _ _ _ _=>False
abbrev E0:XK:=fun _ _ _=>False
theorem QcH {X:Cx}:Passes CX0 X E0:=fun _ _ _ _ _ _ _ h=>h.elim
structure Fun (K:PySem.W.Frag) (x qual:Str) (st:Stmt) (f:Addr) (fd:FuncData):Prop where
 ex:∃ (oc:Value) (od:Option Addr) (kV doc pm:Value) (an:Option Addr) (cdv ct:Value) (osl:Array (Option Value)),
  fd=PySem.W.fnOf x qual (defArgs st) (defBody st) (defScope st) .none kV doc pm an cdv ct/\K.lookup f=some ⟨oc,od,.func fd,osl⟩/\PySem.W.codeIn K cdv qual=true
 kp:PySem.W.keepIn K (.ref f)=true
section
variable {P:Program}{w:World}{K:PySem.W.Frag}{mg:Str->Option Value}{base:Heap}
theorem Fun.ok {x qual : Str} {st : Stmt} {f : Addr} {fd : FuncData} {N ps : List Str} {k : Nat} {sp : Sp} (F : Fun K x qual st f fd) (S : FnScope N ps (defScope st)) (len : ∀ vs H Q E, sp vs H Q E -> vs.length = ps.length)
  (hbody:∀ (cdv:Value) (A:Around) (outer:List Env) (s:Shared) (H:Hp) (vs:List V) (Q:VK) (E:XK),Room k (A.deeper (envOfC qual (defScope st) s.heap.objs.size f cdv))->sp vs H Q E ->
   ∃ t,PSs (cxOf CX0 P w K mg base N qual (defScope st) f cdv A outer s H E).nox (defBody st) t/\t { nx:=fun _ H'=>Q .non H',rt:=Q } (start N vs) H):FnOk P w K mg base CX0 (k + 1) f fd ps sp:=by
 obtain⟨oc,od,kV,doc,pm,an,cdv,ct,osl,rfl,lk,hcd⟩:=F.ex
 refine QbL lk hcd S len fun A outer s H vs Q E hr hsp=>?_
 obtain⟨t,h,q⟩:=hbody cdv A outer s H vs Q E hr hsp
 exact⟨t,h.nox,q⟩
theorem Fun.binds {x qual : Str} {st : Stmt} {f : Addr} {fd : FuncData} {ps : List Str} (F : Fun K x qual st f fd)
  (h:∀ (kV doc pm:Value) (an:Option Addr) (cdv ct:Value) (us:List Value),us.length=ps.length->bindArgs (PySem.W.fnOf x qual (defArgs st) (defBody st) (defScope st) .none kV doc pm an cdv ct) ⟨us,[]⟩=pure (ps.zip us)):Binds K fd ps []:=by
 obtain⟨oc,od,kV,doc,pm,an,cdv,ct,osl,rfl,lk,hcd⟩:=F.ex
 exact .all (h kV doc pm an cdv ct)
theorem QcI {x qual : Str} {st : Stmt} {f : Addr} {oc : Value} {od an : Option Addr} {osl : Array (Option Value)} {kV doc pm cdv ct : Value} (l : K.lookup f = some ⟨oc, od, .func (PySem.W.fnOf x qual (defArgs st) (defBody st) (defScope st) .none kV doc pm an cdv ct), osl⟩)
  (c:PySem.W.codeIn K cdv qual=true) (k:PySem.W.keepIn K (.ref f)=true):Fun K x qual st f (PySem.W.fnOf x qual (defArgs st) (defBody st) (defScope st) .none kV doc pm an cdv ct):=⟨⟨oc,od,kV,doc,pm,an,cdv,ct,osl,rfl,l,c⟩,k⟩
end
section
variable {κ:Type} [DecidableEq κ]
def valV (kvs:List (κ × V)) (k:κ):Option V:=(kvs.find? fun kv=>decide (kv.1=k)).map (·.2)
def putK (kvs:List (κ × V)) (k:κ) (v:V):List (κ × V):=
 if (kvs.any fun kv=>decide (kv.1=k))=true then kvs.map (fun kv=>if kv.1=k then (kv.1,v) else kv) else kvs++[(k,v)]
theorem QcJ {p:κ × V}{r:List (κ × V)}{k:κ} (e:p.1=k):valV (p::r) k=some p.2:=by simp[valV,List.find?_cons,e]
theorem QcK {p:κ × V}{r:List (κ × V)}{k:κ} (e:¬ p.1=k):valV (p::r) k=valV r k:=by simp[valV,List.find?_cons,e]
theorem QcL (k:κ):∀ kvs:List (κ × V),(kvs.any fun kv=>decide (kv.1=k))=(valV kvs k).isSome
 | []=>rfl
 | p::r=>by
  rw[List.any_cons]
  by_cases e:p.1=k
  ·simp only[QcJ e,decide_eq_true e,Bool.true_or,Option.isSome_some]
  ·rw[QcK e,decide_eq_false e,Bool.false_or];exact QcL k r
theorem QcM (kvs:List (κ × V)) (k:κ) (v:V):(putK kvs k v).length<=kvs.length + 1:=by
 unfold putK
 split
 ·rw[List.length_map];ac_nf
 ·rw[List.length_append,List.length_cons,List.length_nil];ac_nf
theorem RelO.isSome_eq {o:Option V}{u:Option Value} (r:RelO o u):o.isSome=u.isSome:=by
 cases o with
 | none=>cases u with
  | none=>rfl
  | some _=>exact (show False from r).elim
 | some _=>cases u with
  | none=>exact (show False from r).elim
  | some _=>rfl
theorem KV.val {kvs:List (κ × V)}{vs:List (κ × Value)} (r:KV kvs vs) (k:κ):RelO (valV kvs k) (valueAt vs k):=by
 unfold KV at r
 induction r with
 | nil=>exact True.intro
 | @cons p q ps qs h t ih=>
  obtain⟨h1,h2⟩:=h
  by_cases e:p.1=k
  ·have e':q.1=k:=h1.symm.trans e
   have b:valueAt (q::qs) k=some q.2:=by simp[valueAt,List.find?_cons,e']
   rw[QcJ e,b];exact h2
  ·have e':¬ q.1=k:=fun z=>e (h1.trans z)
   have b:valueAt (q::qs) k=valueAt qs k:=by simp[valueAt,List.find?_cons,e']
   rw[QcK e,b];exact ih
theorem KV.any {kvs:List (κ × V)}{vs:List (κ × Value)} (r:KV kvs vs) (k:κ):(kvs.any fun kv=>decide (kv.1=k))=vs.any fun kv=>decide (kv.1=k):=by
 unfold KV at r
 induction r with
 | nil=>rfl
 | cons h t ih=>rw[List.any_cons,List.any_cons,ih,h.1]
theorem KV.repl {kvs : List (κ × V)} {vs : List (κ × Value)} (r : KV kvs vs) (k : κ) {y : V} {u : Value} (ry : RelV y u) :
  KV (kvs.map fun kv=>if kv.1=k then (kv.1,y) else kv) (vs.map fun kv=>if kv.1=k then (kv.1,u) else kv):=by
 unfold KV at r ⊢
 induction r with
 | nil=>exact .nil
 | @cons p q ps qs h t ih=>
  rw[List.map_cons,List.map_cons]
  refine .cons ?_ ih
  obtain⟨h1,h2⟩:=h
  by_cases e:p.1=k
  ·rw[if_pos e,if_pos (h1.symm.trans e)];exact⟨h1,ry⟩
  ·rw[if_neg e,if_neg (fun z=>e (h1.trans z))];exact⟨h1,h2⟩
theorem KV.put {kvs:List (κ × V)}{vs:List (κ × Value)} (r:KV kvs vs) (k:κ) {y:V}{u:Value} (ry:RelV y u):KV (putK kvs k y) (stored vs k u):=by
 unfold putK stored
 rw[r.any k]
 by_cases e:(vs.any fun kv=>decide (kv.1=k))=true
 ·rw[if_pos e,if_pos e];exact r.repl k ry
 ·rw[if_neg e,if_neg e];exact Paired.snoc r ⟨rfl,ry⟩
theorem KV.length {kvs:List (κ × V)}{vs:List (κ × Value)} (r:KV kvs vs):kvs.length=vs.length:=Paired.length r
end
theorem QcN {P:Program}{w:World}{k:Key}{u:Value} (r:RelV (kV k) u):(mixKind P w).is k u=true:=by
 cases k with
 | inl i=>obtain⟨t,e⟩:=(show ∃ t,u=Value.int i t from r);subst e;exact Qag P w i t
 | inr x=>obtain⟨t,e⟩:=(show ∃ t,u=Value.str x t from r);subst e;exact Qah P w x t
theorem QcO {P:Program}{w:World}:∀ {ks:List Key}{us:List Value},Vals (ks.map kV) us->ItemsAre (mixKind P w) ks us
 | [],_,r=>by rw[List.map_nil]at r;cases r;exact .nil
 | k::ks,_,r=>by
  rw[List.map_cons]at r
  cases r with
  | cons h t=>exact .cons (QcN h) (QcO t)
abbrev KT (H:Hp):List (List Key × V)->List (List Key × Addr × Value)->Prop:=Paired fun p q=>p.1=q.1/\H q.2.1=some (.tup (p.1.map kV))/\RelV p.2 q.2.2
theorem KT.val {H:Hp}{kvs:List (List Key × V)}{xs:List (List Key × Addr × Value)} (r:KT H kvs xs) (k:List Key):RelO (valV kvs k) ((atKey xs k).map (·.2)):=by
 induction r with
 | nil=>exact True.intro
 | @cons p q ps qs h t ih=>
  obtain⟨h1,_,h2⟩:=h
  by_cases e:p.1=k
  ·have e':q.1=k:=h1.symm.trans e
   have b:atKey (q::qs) k=some q.2:=by simp[atKey,List.find?_cons,e']
   rw[QcJ e,b];exact h2
  ·have e':¬ q.1=k:=fun z=>e (h1.trans z)
   have b:atKey (q::qs) k=atKey qs k:=by simp[atKey,List.find?_cons,e']
   rw[QcK e,b];exact ih
theorem KT.repl {H : Hp} {kvs : List (List Key × V)} {xs : List (List Key × Addr × Value)} (r : KT H kvs xs) (k : List Key) {y : V} {u : Value} (ry : RelV y u) :
  KT H (kvs.map fun kv=>if kv.1=k then (kv.1,y) else kv) (xs.map (putAt k u)):=by
 induction r with
 | nil=>exact .nil
 | @cons p q ps qs h t ih=>
  rw[List.map_cons,List.map_cons]
  refine .cons ?_ ih
  obtain⟨h1,h2,h3⟩:=h
  unfold putAt
  by_cases e:p.1=k
  ·rw[if_pos e,if_pos (h1.symm.trans e)];exact⟨h1,h2,ry⟩
  ·rw[if_neg e,if_neg (fun z=>e (h1.trans z))];exact⟨h1,h2,h3⟩
theorem KT.put {H : Hp} {kvs : List (List Key × V)} {xs : List (List Key × Addr × Value)} (r : KT H kvs xs) (k : List Key) {b : Addr} {y : V} {u : Value} (hb : H b = some (.tup (k.map kV))) (ry : RelV y u) :
  KT H (putK kvs k y) (storedH xs k b u):=by
 have e:(kvs.any fun kv=>decide (kv.1=k))=(atKey xs k).isSome:=by
  rw[QcL,(r.val k).isSome_eq,Option.isSome_map]
 unfold putK storedH
 rw[e]
 by_cases q:(atKey xs k).isSome=true
 ·rw[if_pos q,if_pos q];exact r.repl k ry
 ·rw[if_neg q,if_neg q];exact Paired.snoc r ⟨rfl,hb,ry⟩
theorem KT.keeps {H H':Hp}{kvs:List (List Key × V)}{xs:List (List Key × Addr × Value)} (r:KT H kvs xs) (ht:∀ b ys,H b=some (.tup ys)->H' b=some (.tup ys)):KT H' kvs xs:=
 Paired.mapP r fun _ _ z=>⟨z.1,ht _ _ z.2.1,z.2.2⟩
section
variable {P:Program}{w:World}{H:Hp}{h:Heap}{a:Addr}
theorem QcP {u:HO} (ok:HOk P w H h) (e:Rd H a u):ObjOk P w H h a u:=e.ok ok
theorem QcQ {kvs:List (Key × V)} (ok:HOk P w H h) (e:Rd H a (.dK kvs)):kvs.length<=sizeLine/\(a == sysModules)=false/\∃ vs,KV kvs vs/\h.DictOf (mixKind P w) a vs:=
 show ObjOk P w H h a (.dK kvs) from QcP ok e
theorem QcR {kvs:List (Key × V)} (ok:HOk P w H h) (e:H a=some (.dK kvs)):kvs.length<=sizeLine/\(a == sysModules)=false/\∃ vs,KV kvs vs/\h.DictOf (mixKind P w) a vs:=QcQ ok (.inl e)
theorem QcS {ks:List Key} (ok:HOk P w H h) (e:H a=some (.tup (ks.map kV))):(tupleKind (mixKind P w)).is h ks a:=by
 obtain⟨_,its,r,o,h1,h2,⟨n,h3⟩,_⟩:=(show ObjOk P w H h a (.tup (ks.map kV)) from ok a _ e)
 exact⟨o,its.toArray,n,h1,h2,h3,by simpa using QcO r⟩
theorem QcT {kvs : List (List Key × V)} (ok : HOk P w H h) (e : Rd H a (.dT kvs)) : kvs.length <= sizeLine /\ (a == sysModules) = false /\
  ∃ xs,KT H kvs xs/\h.DictOfH (tupleKind (mixKind P w)) a xs:=by
 obtain⟨z,y,xs,r,o,es,ep,h1,h2,h3,h4,h5⟩:=(show ObjOk P w H h a (.dT kvs) from QcP ok e)
 refine⟨z,y,xs,r,o,es,ep,h1,h2,h3,h4,fun x hx=>?_,h5⟩
 have all:∀ {l:List (List Key × V)}{m:List (List Key × Addr × Value)},KT H l m->∀ x∈m,(tupleKind (mixKind P w)).is h x.1 x.2.1:=by
  intro l m q
  induction q with
  | nil=>intro x hx;exact nomatch hx
  | @cons p q ps qs hq t ih=>
   intro x hx
   rcases List.mem_cons.mp hx with e | hx
   ·subst e
    exact QcS ok (by rw[<- hq.1];exact hq.2.1)
   ·exact ih x hx
 exact all r x hx
theorem QcU {kvs : List (List Key × V)} (ok : HOk P w H h) (e : H a = some (.dT kvs)) : kvs.length <= sizeLine /\ (a == sysModules) = false /\
  ∃ xs,KT H kvs xs/\h.DictOfH (tupleKind (mixKind P w)) a xs:=QcT ok (.inl e)
end
def DGet (H:Hp) (a:Addr) (y:V) (r:Option V):Prop:=
 (∃ kvs k,Rd H a (.dK kvs)/\y=kV k/\r=valV kvs k)\/∃ kvs k b,Rd H a (.dT kvs)/\y=.ref b/\H b=some (.tup (k.map kV))/\r=valV kvs k
def DPut (H:Hp) (a:Addr) (y v:V) (H':Hp):Prop:=
 (∃ kvs k,H a=some (.dK kvs)/\y=kV k/\kvs.length < sizeLine/\H'=upd H a (.dK (putK kvs k v))) \/
 ∃ kvs k b,H a=some (.dT kvs)/\y=.ref b/\H b=some (.tup (k.map kV))/\kvs.length < sizeLine/\H'=upd H a (.dT (putK kvs k v))
theorem DGet.k {H:Hp}{a:Addr}{kvs:List (Key × V)}{k:Key} (e:H a=some (.dK kvs)):DGet H a (kV k) (valV kvs k):=.inl ⟨kvs,k,.inl e,rfl,rfl⟩
theorem DPut.k {H:Hp}{a:Addr}{kvs:List (Key × V)}{k:Key}{v:V} (e:H a=some (.dK kvs)) (hl:kvs.length < sizeLine):DPut H a (kV k) v (upd H a (.dK (putK kvs k v))):=.inl ⟨kvs,k,e,rfl,hl,rfl⟩
section
variable {X:Cx}{pins:List (Addr × Obj)}{σ:St}{H:Hp}{s:Shared}{a:Addr}{y v:V}{u r:Value}{o:Option V}{A:Around}{E:Value->Shared->Prop}
theorem Inv.big (I:Inv X pins σ H s):sysModules < s.heap.objs.size:=by
 have h:mainGlobals < s.heap.objs.size:=(I.mod.glob.keeps I.bk).lt
 exact Nat.lt_trans (by decide) h
theorem QcV {Q : Value -> Shared -> Prop} (hu : A.units + 1 < cLine) (I : Inv X pins σ H s) (g : DGet H a y (some v)) (ry : RelV y u) (h : ∀ w' s', Inv X pins σ H s' -> RelV v w' -> Q w' s') :
  wpAny (model X.prog X.w) A (getItem (.ref a) u) Q E s:=by
 rcases g with ⟨kvs,k,e,ey,l⟩ | ⟨kvs,k,b,e,ey,eb,l⟩
 ·subst ey
  obtain⟨z,hd,vs,rel,dd⟩:=QcQ I.hok e
  obtain⟨w',hw,rw'⟩:=RelO.some_of (v:=v) (o:=valueAt vs k) (by rw[l];exact rel.val k)
  exact wpAny_getItem_of (QcN ry) dd.mapOf hw (h w' _ (I.tok _) rw')
 ·subst ey
  cases (show u=Value.ref b from ry)
  obtain⟨z,hd,xs,rel,dd⟩:=QcT I.hok e
  obtain⟨w',hw,rw'⟩:=RelO.some_of (v:=v) (o:=(atKey xs k).map (·.2)) (by rw[l];exact rel.val k)
  obtain⟨p,hp,hp2⟩:=Option.map_eq_some_iff.mp hw
  refine wpAny_getItem_heap (tupleKind_room_in1 hu) (QcS I.hok eb) dd hp ?_
  rw[hp2]
  exact h w' _ (I.tok _) rw'
theorem d_in {Q : Value -> Shared -> Prop} (hu : A.units + 1 < cLine) (I : Inv X pins σ H s) (g : DGet H a y o) (ry : RelV y u) (h : ∀ s', Inv X pins σ H s' -> Q (.bool o.isSome) s') :
  wpAny (model X.prog X.w) A (compareOp .In u (.ref a)) Q E s:=by
 rcases g with ⟨kvs,k,e,ey,l⟩ | ⟨kvs,k,b,e,ey,eb,l⟩
 ·subst ey
  obtain⟨z,hd,vs,rel,dd⟩:=QcQ I.hok e
  refine wpAny_in_of (QcN ry) hd dd.mapOf ?_
  rw[<- (rel.val k).isSome_eq,<- l]
  exact h _ (I.tok _)
 ·subst ey
  cases (show u=Value.ref b from ry)
  obtain⟨z,hd,xs,rel,dd⟩:=QcT I.hok e
  refine wpAny_in_heap (tupleKind_room_in1 hu) (QcS I.hok eb) hd dd ?_
  have q:=(rel.val k).isSome_eq
  rw[Option.isSome_map]at q
  rw[<- q,<- l]
  exact h _ (I.tok _)
theorem QcW {h' : Heap} {t' : Nat} {ob : HO} (I : Inv X pins σ H s) (mu : Mut (H a)) (hs : Heap.SameBut a s.heap h') (he : ∃ q, h'.get? a = some q) (new : ObjOk X.prog X.w (upd H a ob) h' a ob) :
  Inv X pins σ (upd H a ob) { s with heap:=h',toks:=t' }:=
 I.write (x:=a) (e:=a) mu (.inl rfl) (fun b q hb z=>(hs.2 b hb).trans z) he new
theorem QcX {P : Program} {w : World} {H' : Hp} {h' : Heap} {kvs : List (Key × V)} {vs : List (Key × Value)} (z : kvs.length <= sizeLine) (hd : (a == sysModules) = false) (rel : KV kvs vs) (dd : h'.DictOf (mixKind P w) a vs) :
  ObjOk P w H' h' a (.dK kvs):=⟨z,hd,vs,rel,dd⟩
theorem QcY {H' : Hp} {Q : Unit -> Shared -> Prop} (hu : A.units + 1 < cLine) (I : Inv X pins σ H s) (g : DPut H a y v H') (ry : RelV y u) (rv : RelV v r) (h : ∀ s', Inv X pins σ H' s' -> Q () s') :
  wpAny (model X.prog X.w) A (setItem (.ref a) u r) Q E s:=by
 rcases g with ⟨kvs,k,e,ey,l,eH⟩ | ⟨kvs,k,b,e,ey,eb,l,eH⟩
 ·subst ey eH
  obtain⟨z,hd,vs,rel,dd⟩:=QcR I.hok e
  have hz:vs.length<=sizeLine:=by rw[<- rel.length];exact z
  have hl:(putK kvs k v).length<=sizeLine:=by have:=QcM kvs k v;ac_nf
  refine wpAny_setItem_pairs (hsz:=hz) (QcN ry) dd fun h' dd' hs=>h _ ?_
  have he:∃ q,h'.get? a=some q:=let ⟨q,_,_,hq,_⟩:=dd';⟨q,hq⟩
  exact QcW I (by rw[e];exact True.intro) hs he (QcX hl hd (rel.put k rv) dd')
 ·subst ey eH
  cases (show u=Value.ref b from ry)
  obtain⟨z,hd,xs,rel,dd⟩:=QcU I.hok e
  have hz:xs.length<=sizeLine:=by rw[<- Paired.length rel];exact z
  have hl:(putK kvs k v).length<=sizeLine:=by have:=QcM kvs k v;ac_nf
  refine wpAny_setItem_heap (hsz:=hz) (tupleKind_room_in1 hu) (QcS I.hok eb) dd fun h' dd' hs=>h _ ?_
  obtain⟨q,es,ep,hq,h2,h3,h4,_,h5⟩:=dd'
  refine QcW I (by rw[e];exact True.intro) hs ⟨q,hq⟩ ⟨hl,hd,_,(rel.put k eb rv).keeps fun c ys ec=>?_,q,es,ep,hq,h2,h3,h4,h5⟩
  rw[Qaj (Qak ec e (fun z=>nomatch z))]
  exact ec
end
section
variable {X:Cx}{pins:List (Addr × Obj)}{σ:St}{H:Hp}{s:Shared}{a:Addr}{kvs:List (Key × V)}{k:Key}{u:Value}{A:Around}{E:Value->Shared->Prop}
theorem QcZ {Q:Value->Shared->Prop} (I:Inv X pins σ H s) (e:Rd H a (.dK kvs)) (h:∀ t s',Inv X pins σ H s'->Q (.int kvs.length t) s'):wpAny (model X.prog X.w) A (call (.builtin "len") [.ref a]) Q E s:=by
 obtain⟨z,hd,vs,rel,dd⟩:=QcQ I.hok e
 refine call_len_dict hd dd (by rw[<- rel.length];rw[sizeLine_eq]at z;ac_nf) ?_
 rw[<- rel.length]
 exact h _ _ (I.tok _)
end
theorem Qc0 {P:Program}{w:World}{H:Hp} (h:Heap) (hb:sysModules < h.objs.size):ObjOk P w H (h.push { cls:=.type "dict",data:=.dict #[] }) h.objs.size (.dK []):=
 ⟨Nat.zero_le _,beq_eq_false_iff_ne.mpr (Ne.symm (Nat.ne_of_lt hb)),[],.nil,Heap.DictOf.new h⟩
def tPairs:List (TE × TE)->St->Hp->(List (V × V)->Hp->Prop)->Prop
 | [],_,H,Q=>Q [] H
 | (tk,tv)::r,σ,H,Q=>tk σ H fun x H1=>tv σ H1 fun y H2=>tPairs r σ H2 fun ps H3=>Q ((x,y)::ps) H3
abbrev VV:List (V × V)->List (Value × Value)->Prop:=Paired fun p q=>RelV p.1 q.1/\RelV p.2 q.2
def PPs (X:Cx) (pos:Pos) (keys:List (Option Expr)) (values:List Expr) (trs:List (TE × TE)):Prop:=
 ∀ (pins:List (Addr × Obj)) (s:Shared) (σ:St) (H:Hp) (Q:List (V × V)->Hp->Prop),Inv X pins σ H s->tPairs trs σ H Q ->
  wpAny (model X.prog X.w) X.A (evalPairs (pairTrees keys values X.env pos)) (fun vs s'=>∃ ps H',Inv X pins σ H' s'/\VV ps vs/\Q ps H') X.xe s
theorem Qc1 {X:Cx}{pos:Pos}:PPs X pos [] [] []:=fun pins s σ H Q I h=>pairTrees_nil_walk ⟨[],H,I,.nil,h⟩
theorem Qc2 {X : Cx} {pos : Pos} {k v : Expr} {ks : List (Option Expr)} {vs : List Expr} {tk tv : TE} {trs : List (TE × TE)} (hk : PE X k tk) (hv : PE X v tv) (hr : PPs X pos ks vs trs) :
  PPs X pos (some k::ks) (v::vs) ((tk,tv)::trs):=fun pins s σ H Q I h=>
 pairTrees_cons_walk (thn (hk pins s σ H _ I h) fun u s1 ⟨x,H1,I1,rx,q1⟩=>thn (hv pins s1 σ H1 _ I1 q1) fun w2 s2 ⟨y,H2,I2,ry,q2⟩=>
  thn (hr pins s2 σ H2 _ I2 q2) fun ws s3 ⟨ps,H3,I3,rel,q3⟩=>⟨(x,y)::ps,H3,I3,.cons ⟨rx,ry⟩ rel,q3⟩)
def mergeK (kvs more:List (Key × V)):List (Key × V):=more.foldl (fun acc kv=>putK acc kv.1 kv.2) kvs
theorem KV.merge:∀ {more:List (Key × V)}{rs:List (Key × Value)}{kvs:List (Key × V)}{vs:List (Key × Value)},KV more rs->KV kvs vs->KV (mergeK kvs more) (merged vs rs):=by
 intro more rs kvs vs r
 unfold KV at r
 induction r generalizing kvs vs with
 | nil=>intro q;exact q
 | @cons p q ps qs h t ih=>
  intro r0
  have e:KV (putK kvs p.1 p.2) (stored vs q.1 q.2):=by
   have:=r0.put p.1 h.2
   rw[<- h.1];exact this
  exact ih e
theorem Qc3:∀ (more kvs:List (Key × V)),(mergeK kvs more).length<=kvs.length + more.length
 | [],kvs=>by show kvs.length<=kvs.length + 0;ac_nf
 | p::r,kvs=>by
  have h1:=Qc3 r (putK kvs p.1 p.2)
  have h2:=QcM kvs p.1 p.2
  show (mergeK (putK kvs p.1 p.2) r).length<=_
  rw[List.length_cons];ac_nf
theorem Qc4 {P:Program}{w:World}:∀ {kvs:List (Key × V)}{ws:List (Value × Value)},VV (kvs.map fun kv=>(kV kv.1,kv.2)) ws->∃ rs,Carries (mixKind P w) ws rs/\KV kvs rs
 | [],_,r=>by rw[List.map_nil]at r;cases r;exact⟨[],True.intro,.nil⟩
 | p::kvs,_,r=>by
  rw[List.map_cons]at r
  cases r with
  | @cons a b as bs h t=>
   obtain⟨rs,c,q⟩:=Qc4 (P:=P) (w:=w) t
   obtain⟨b1,b2⟩:=b
   exact⟨(p.1,b2)::rs,⟨QcN h.1,rfl,c⟩,.cons ⟨rfl,h.2⟩ q⟩
def tDisp (trs:List (TE × TE)):TE:=fun σ H Q=>∀ p,H p=none->tPairs trs σ (upd H p (.dK [])) fun ps H2=>H2 p=some (.dK [])/\∃ kvs:List (Key × V),ps=kvs.map (fun kv=>(kV kv.1,kv.2))/\kvs.length<=15/\Q (.ref p) (upd H2 p (.dK (mergeK [] kvs)))
theorem Qc5 {X : Cx} {pos : Pos} {keys : List (Option Expr)} {values : List Expr} {trs : List (TE × TE)} (h : PPs X pos keys values trs) (hall : keys.all (·.isSome) = true) (hl : keys.length = values.length) (h0 : keys ≠ [])
  (h15:keys.length<=15):PE X (.Dict keys values pos) (tDisp trs):=by
 intro pins s σ H Q I q
 have hn:=I.hok.fresh (Nat.le_refl s.heap.objs.size)
 have I1:=I.laid (a:=s.heap.objs.size) (o:=.dK []) (h':=s.heap.push { cls:=.type "dict",data:=.dict #[] }) (t':=s.toks) (fun _ _ q=>Heap.get?_push_of_some _ q) (Nat.le_refl _) (Qc0 s.heap I.big)
 refine wpAny_Dict_walk (knd:=mixKind X.prog X.w) hall hl h0 h15 (thn (h pins _ σ _ _ I1 (q _ hn)) fun ws s2 pq43=>?_)
 obtain⟨ps,H2,I2,rel,e,kvs,ep,lk,q2⟩:=pq43
 subst ep
 obtain⟨rs,c,rk⟩:=Qc4 (P:=X.prog) (w:=X.w) rel
 obtain⟨z,hd,vs0,r0,dd⟩:=QcR I2.hok e
 cases r0
 refine⟨rs,c,dd,fun h' dd' hs=>⟨.ref s.heap.objs.size,_,?_,rfl,q2⟩⟩
 have hz:(mergeK [] kvs).length<=sizeLine:=by
  have h1:=Qc3 kvs []
  rw[List.length_nil]at h1
  rw[sizeLine_eq];ac_nf
 have he:∃ q,h'.get? s.heap.objs.size=some q:=let ⟨q,_,_,hq,_⟩:=dd';⟨q,hq⟩
 exact QcW I2 (by rw[e];exact True.intro) hs he (QcX hz hd (rk.merge .nil) dd')
end L2
namespace MM
open PySem PySem.Spec PyProof.Rows L2
abbrev KI:=Int ⊕ List Int
section
variable {prog:Program}{w:World}
variable (prog w) in
inductive TIt (h:Heap):KI->Value->Prop
 | one (i:Int) (t:Tok):TIt h (.inl i) (.int i t)
 | row {k:List Int}{b:Addr}:IsTupleKey (intKind prog w) h k b->TIt h (.inr k) (.ref b)
variable (prog w) in
inductive TIts (h:Heap):List KI->List Value->Prop
 | nil:TIts h [] []
 | cons {k:KI}{v:Value}{ks:List KI}{vs:List Value}:TIt prog w h k v->TIts h ks vs->TIts h (k::ks) (v::vs)
variable (prog w) in
def IsNestKey (h:Heap) (ks:List KI) (a:Addr):Prop:=∃ o items n,h.get? a=some o/\o.cls=.type "tuple"/\o.data=.seq items n/\TIts prog w h ks items.toList
theorem TIt.inj {h:Heap}{x y:KI}{v:Value} (a:TIt prog w h x v) (b:TIt prog w h y v):x=y:=by
 cases a with
 | one i t=>cases b;rfl
 | row a=>cases b with
  | row b=>rw[a.inj b]
theorem TIts.inj {h:Heap}{x y:List KI}{vs:List Value} (a:TIts prog w h x vs) (b:TIts prog w h y vs):x=y:=by
 induction a generalizing y with
 | nil=>cases b;rfl
 | cons a t ih=>cases b with
  | cons b u=>rw[a.inj b,ih u]
theorem IsNestKey.typeIs {s:Shared}{ks:List KI}{a:Addr} (x:IsNestKey prog w s.heap ks a):s.TypeIs (.ref a) "tuple":=let ⟨o,_,_,ho,hc,_⟩:=x;⟨o,ho,hc⟩
theorem IsNestKey.inj {h:Heap}{a:Addr}{x y:List KI} (hx:IsNestKey prog w h x a) (hy:IsNestKey prog w h y a):x=y:=by
 obtain⟨o,items,n,ho,_,hd,hi⟩:=hx
 obtain⟨o',items',n',ho',_,hd',hi'⟩:=hy
 cases ho.symm.trans ho'
 rw[hd]at hd'
 injection hd' with h1 _
 subst h1
 exact hi.inj hi'
theorem TIt.keeps {h h':Heap}{d:Addr}{o:Obj}{es ep} (ho:h.get? d=some o) (hd:o.data=.dict es ep) (hs:Heap.SameBut d h h'):∀ {x:KI}{v:Value},TIt prog w h x v->TIt prog w h' x v
 | _,_,.one i t=>.one i t
 | _,_,.row a=>.row (a.keeps ho hd hs)
theorem TIts.keeps {h h':Heap}{d:Addr}{o:Obj}{es ep} (ho:h.get? d=some o) (hd:o.data=.dict es ep) (hs:Heap.SameBut d h h'):∀ {x:List KI}{vs:List Value},TIts prog w h x vs->TIts prog w h' x vs
 | _,_,.nil=>.nil
 | _,_,.cons a t=>.cons (a.keeps ho hd hs) (TIts.keeps ho hd hs t)
theorem IsNestKey.keeps {h h' : Heap} {ks : List KI} {a d : Addr} {o : Obj} {es ep} (x : IsNestKey prog w h ks a) (ho : h.get? d = some o) (hd : o.data = .dict es ep) (hs : Heap.SameBut d h h') :
  IsNestKey prog w h' ks a:=by
 obtain⟨o',items,n,ho',hc,hd',hi⟩:=x
 have hne:a≠d:=by
  rintro rfl
  obtain rfl:o'=o:=Option.some.inj (ho'.symm.trans ho)
  rw[hd]at hd';exact nomatch hd'
 exact⟨o',items,n,(hs.2 a hne).trans ho',hc,hd',hi.keeps ho hd hs⟩
def itH:KI->Int
 | .inl i=>hashInt i
 | .inr r=>reduceHash (Builtin.Tuple.tupleHashOf (r.map hashInt))
def nestHash (ks:List KI):Int:=reduceHash (Builtin.Tuple.tupleHashOf (ks.map itH))
def itN:KI->Nat
 | .inl _=>1
 | .inr r=>r.length + 1
def nestDraws:List KI->Nat
 | []=>0
 | k::ks=>itN k + nestDraws ks
variable {A:Around}{E:Value->Shared->Prop}{s:Shared}
theorem Qc6 (k:KI):∀ (l:List KI),nestDraws (l++[k])=nestDraws l + itN k
 | []=>by simp[nestDraws]
 | x::l=>by simp[nestDraws,Qc6 k l];ac_nf
theorem Qc7 {k:KI}{v:Value}{Q:Int->Shared->Prop} (hu:A.units < cLine) (hk:TIt prog w s.heap k v) (h:Q (itH k) { s with toks:=s.toks + itN k }):wpAny (model prog w) A (pyHash v) Q E s:=by
 cases hk with
 | one i t=>exact wpAny_pyHash_int h
 | row hk=>exact wpAny_pyHash_tuple (knd:=intKind prog w) hu hk h
theorem Qc8 {x y:KI}{u v:Value}{Q:Bool->Shared->Prop} (hu:A.units < cLine) (hx:TIt prog w s.heap x u) (hy:TIt prog w s.heap y v) (h:Q (decide (x=y)) s):wpAny (model prog w) A (eqBool u v) Q E s:=by
 cases hx with
 | one i t=>
  cases hy with
  | one j t'=>
   refine wpAny_eqBool_int ?_
   have e:(i == j)=decide ((Sum.inl i:KI)=Sum.inl j):=by
    by_cases z:i=j
    ·subst z;simp
    ·have z2:¬ ((Sum.inl i:KI)=Sum.inl j):=fun q=>z (by injection q)
     rw[decide_eq_false z2];exact beq_eq_false_iff_ne.mpr z
   first | (rw[e];exact h) | (simpa [e] using h)
  | row h2=>
   obtain⟨o,items,n,ho,hc,hd,_⟩:=h2
   rw[decide_eq_false (by simp)]at h
   exact SeqAt.EqAt.int_tuple i t ⟨o,ho,hc,n,hd⟩ hu prog w E Q h
 | row h1=>
  cases hy with
  | one j t'=>
   obtain⟨o,items,n,ho,hc,hd,_⟩:=h1
   rw[decide_eq_false (by simp)]at h
   exact SeqAt.EqAt.tuple_int j t' ⟨o,ho,hc,n,hd⟩ hu prog w E Q h
  | @row k2 b h2=>
   refine wpAny_eqBool_tuple (knd:=intKind prog w) hu h1 h2 ?_
   simpa using h
theorem Qc9 {ks : List KI} {a : Addr} {Q : Int -> Shared -> Prop} (hu : A.units + 1 < cLine) (hk : IsNestKey prog w s.heap ks a) (h : Q (nestHash ks) { s with toks := s.toks + (nestDraws ks + 1) }) :
  wpAny (model prog w) A (pyHash (.ref a)) Q E s:=by
 have hT:=hk.typeIs
 obtain⟨o,items,n,ho,_,hd,hi⟩:=hk
 unfold pyHash
 first | unfold pyHashByItsType | skip
 first | refine wpAny_bind (wpAny_cRoomFor_or (.inr (by ac_nf)) ?_) | skip
 refine wpAny_bind (wpAny_specialOf hT F.slot_tuple_hash.lookup ?_)
 show wpAny _ _ (if (some (Value.builtin "tuple.__hash__") == some Value.none)=true then _ else _) Q E s
 rw[if_neg (by rw[beq_builtin_none];exact Bool.false_ne_true)]
 refine wpAny_bind (wpAny_specialOf hT F.slot_tuple_hash.lookup ?_)
 show wpAny _ _ (callSpecialIfBoundUnlessNone? (.ref a) "__hash__" _ >>= _) Q E s
 refine wpAny_bind (wpAny_callSpecialIfBoundUnlessNone?_slot hT F.slot_tuple_hash (wpAny_call_entry F.slot_tuple_hash hT F.entry_tuple_hash ?_ (F.args_tuple_hash_1 _)))
 show wpAny _ _ (Builtin.Tuple.tupleItemsOf (.ref a) >>= _) _ _ s
 refine wpAny_bind (wpAny_tupleItemsOf ho hd ?_)
 refine wpAny_bind ?_
 rw[<- Array.forIn_toList]
 refine wpAny_forIn_list _
  (fun rest (b:Array Int) s'=>∃ done left,ks=done++left/\TIts prog w s.heap left rest/\b.toList=done.map (itH)/\s'={ s with toks:=s.toks + nestDraws done })
  _ ?_ ?_ _ _ ⟨[],ks,rfl,hi,rfl,rfl⟩
 ·rintro x rest b s' ⟨done,left,rfl,hl,hb,rfl⟩
  cases hl with
  | @cons k b' ks' _ h1 hl'=>
   refine wpAny_bind (Qc7 (k:=k) hu h1 ?_)
   first
    | exact wpAny_pure ⟨done++[k],ks',by simp,hl',by simp[hb],by simp[Qc6,Nat.add_assoc]⟩
    | exact wpAny_bind (wpAny_pure (wpAny_pure ⟨done++[k],ks',by simp,hl',by simp[hb],by simp[Qc6,Nat.add_assoc]⟩))
 ·rintro b s' ⟨done,left,rfl,hl,hb,rfl⟩
  cases hl
  rw[List.append_nil]at h
  show wpAny _ _ (retInt (Builtin.Tuple.tupleHashOf b.toList)) _ _ _
  rw[hb]
  refine wpAny_ret_mkInt ?_
  show wpAny _ _ (if (decide (-(2:Int) ^ 63<=Builtin.Tuple.tupleHashOf (done.map (itH))) && decide (Builtin.Tuple.tupleHashOf (done.map (itH)) < 2 ^ 63))=true then _ else _) Q E _
  unfold nestHash reduceHash at h
  by_cases hr:(decide (-(2:Int) ^ 63<=Builtin.Tuple.tupleHashOf (done.map (itH))) && decide (Builtin.Tuple.tupleHashOf (done.map (itH)) < 2 ^ 63))=true
  ·rw[if_pos hr]
   rw[if_pos hr]at h
   exact wpAny_pure (by simpa [Nat.add_assoc] using h)
  ·rw[if_neg hr]
   rw[if_neg hr]at h
   exact wpAny_bind (wpAny_rule (wpAny_pure (by simpa [Nat.add_assoc] using h)))
theorem Qda {x y : List KI} {a b : Addr} {P : Fin -> Shared -> Prop} (hu : A.units < cLine) (hx : IsNestKey prog w s.heap x a) (hy : IsNestKey prog w s.heap y b) (h : P (.done (.ret (.bool (decide (x = y))))) s) :
  wpAny (model prog w) A (Builtin.«tuple.__eq__» ⟨[.ref a,.ref b],[]⟩) P E s:=by
 have hTb:=hy.typeIs
 obtain⟨oa,xs,na,hoa,_,hda,hia⟩:=hx
 obtain⟨ob,ys,nb,hob,_,hdb,hib⟩:=hy
 show wpAny _ _ (isInstance (.ref b) (.type "tuple") >>= _) _ _ s
 refine wpAny_bind (wpAny_isInstance hTb isSubtype_tuple_tuple ?_)
 simp only[Bool.not_true,Bool.false_eq_true,if_false]
 refine wpAny_bind (wpAny_tupleItemsOf hoa hda ?_)
 refine wpAny_bind (wpAny_tupleItemsOf hob hdb ?_)
 refine wpAny_bind ?_
 refine wpAny_forIn_list _
  (fun rest r s'=>r.1=none/\s'=s/\∃ x' y' xs' ys',rest=List.zip xs' ys'/\TIts prog w s.heap x' xs'/\TIts prog w s.heap y' ys'/\decide (x'=y')=decide (x=y)/\(xs'.length == ys'.length)=(xs.size == ys.size))
  _ ?_ ?_ _ _ ⟨rfl,rfl,x,y,xs.toList,ys.toList,rfl,hia,hib,rfl,by simp⟩
 ·rintro ⟨u,v⟩ rest r s' ⟨hr,rfl,x',y',xs',ys',hz,hx',hy',hdec,hlen⟩
  cases hx' with
  | nil=>simp at hz
  | @cons k1 u' x'' xs'' h1 hx''=>
   cases hy' with
   | nil=>simp at hz
   | @cons k2 v' y'' ys'' h2 hy''=>
    simp only[List.zip_cons_cons,List.cons.injEq,Prod.mk.injEq]at hz
    obtain⟨⟨rfl,rfl⟩,rfl⟩:=hz
    refine wpAny_bind (Qc8 (x:=k1) (y:=k2) hu h1 h2 ?_)
    by_cases hk:k1=k2
    ·subst hk
     rw[decide_eq_true rfl]
     simp only[Bool.not_true,Bool.false_eq_true,if_false]
     refine wpAny_pure ⟨rfl,rfl,x'',y'',xs'',ys'',rfl,hx'',hy'',?_,by simpa using hlen⟩
     rw[<- hdec]
     by_cases hxy:x''=y''
     ·simp[hxy]
     ·simp[hxy]
    ·rw[decide_eq_false hk]
     simp only[Bool.not_false,if_true]
     have hf:decide (x=y)=false:=by rw[<- hdec];simp[hk]
     rw[hf]at h
     exact wpAny_bind (wpAny_pure (wpAny_pure (wpAny_pure h)))
 ·rintro ⟨r1,r2⟩ s' ⟨hr,rfl,x',y',xs',ys',hz,hx',hy',hdec,hlen⟩
  simp only at hr
  subst hr
  refine wpAny_pure ?_
  have hfin:(xs.size == ys.size)=decide (x=y):=by
   rw[<- hdec,<- hlen]
   cases hx' with
   | nil=>
    cases hy' with
    | nil=>simp
    | cons _ _=>simp
   | cons _ _=>
    cases hy' with
    | nil=>simp
    | cons _ _=>simp at hz
  show P (.done (.ret (.bool (xs.size == ys.size)))) s'
  rw[hfin];exact h
theorem Qdb {x y : List KI} {a b : Addr} {Q : Bool -> Shared -> Prop} (hu : A.units + 1 < cLine) (hx : IsNestKey prog w s.heap x a) (hy : IsNestKey prog w s.heap y b) (h : Q (decide (x = y)) s) :
  wpAny (model prog w) A (eqBool (.ref a) (.ref b)) Q E s:=by
 unfold eqBool
 try with_reducible refine wpAny_holding ?_
 show wpAny _ _ (if (Value.ref a == Value.ref b)=true then _ else _) Q E s
 by_cases hab:(Value.ref a == Value.ref b)=true
 ·rw[if_pos hab]
  have e:a=b:=by have:=eq_of_beq hab;injection this
  subst e
  obtain rfl:=hx.inj hy
  exact wpAny_bind (wpAny_rule (wpAny_pure (by simpa using h)))
 ·rw[if_neg hab]
  exact wpAny_bind (wpAny_richCompare_same_room (op:=.Eq) hx.typeIs hy.typeIs F.slot_tuple_eq
   (wpAny_call_entry F.slot_tuple_eq hx.typeIs F.entry_tuple_eq (Qda (by exact hu) hx hy ⟨_,rfl,(fun e=>nomatch e),wpAny_truthy_bool h⟩) (F.args_tuple_eq_2 _ _)) (by ac_nf))
theorem Qdc {n:Nat}{ks:List Int}{a:Addr}{Q:Bool->Shared->Prop} (hk:IsTupleKey (intKind prog w) s.heap ks a) (h:Q true s):wpAny (model prog w) A (eqIsQuiet (n + 1) (.ref a)) Q E s:=by
 have hT:=hk.typeIs
 obtain⟨o,items,n,ho,_,hd,hi⟩:=hk
 unfold eqIsQuiet
 refine wpAny_bind (wpAny_specialOf hT F.slot_tuple_eq.lookup ?_)
 show wpAny _ _ (isInstance (.ref a) (.type "tuple") >>= _) _ _ s
 refine wpAny_bind (wpAny_isInstance hT isSubtype_tuple_tuple ?_)
 simp only[Bool.not_true,Bool.false_eq_true,if_false]
 refine wpAny_bind (wpAny_seqItems ho hd ?_)
 refine wpAny_bind ?_
 show wpAny _ _ (forIn items _ _) _ _ s
 rw[<- Array.forIn_toList]
 refine wpAny_forIn_list _ (fun rest r s'=>r.1=none/\s'=s/\∀ v∈rest,carriedByValue v=true) _ ?_ ?_ _ _ ⟨rfl,rfl,hi.byValue⟩
 ·rintro v rest r s' ⟨hr,rfl,hall⟩
  rw[eqIsQuiet_byValue _ (hall v List.mem_cons_self)]
  refine wpAny_bind (wpAny_pure ?_)
  simp only[Bool.not_true,Bool.false_eq_true,if_false]
  exact wpAny_pure ⟨rfl,rfl,fun u hu'=>hall u (List.mem_cons_of_mem _ hu')⟩
 ·rintro ⟨r1,r2⟩ s' ⟨hr,rfl,_⟩
  simp only at hr
  subst hr
  exact wpAny_pure h
theorem Qdd {n:Nat}{k:KI}{v:Value}{Q:Bool->Shared->Prop} (hk:TIt prog w s.heap k v) (h:Q true s):wpAny (model prog w) A (eqIsQuiet (n + 1) v) Q E s:=by
 cases hk with
 | one i t=>rw[eqIsQuiet_byValue _ (show carriedByValue (Value.int i t)=true from rfl)];exact wpAny_pure h
 | row hk=>exact Qdc hk h
theorem Qde {ks:List KI}{a:Addr}{Q:Bool->Shared->Prop} (hk:IsNestKey prog w s.heap ks a) (h:Q true s):wpAny (model prog w) A (eqIsQuiet 8 (.ref a)) Q E s:=by
 have hT:=hk.typeIs
 obtain⟨o,items,n,ho,_,hd,hi⟩:=hk
 unfold eqIsQuiet
 refine wpAny_bind (wpAny_specialOf hT F.slot_tuple_eq.lookup ?_)
 show wpAny _ _ (isInstance (.ref a) (.type "tuple") >>= _) _ _ s
 refine wpAny_bind (wpAny_isInstance hT isSubtype_tuple_tuple ?_)
 simp only[Bool.not_true,Bool.false_eq_true,if_false]
 refine wpAny_bind (wpAny_seqItems ho hd ?_)
 refine wpAny_bind ?_
 show wpAny _ _ (forIn items _ _) _ _ s
 rw[<- Array.forIn_toList]
 refine wpAny_forIn_list _ (fun rest r s'=>r.1=none/\s'=s/\∃ left,TIts prog w s.heap left rest) _ ?_ ?_ _ _ ⟨rfl,rfl,ks,hi⟩
 ·rintro v rest r s' ⟨hr,rfl,left,hall⟩
  cases hall with
  | cons h1 hl=>
   refine wpAny_bind (Qdd (n:=6) h1 ?_)
   simp only[Bool.not_true,Bool.false_eq_true,if_false]
   exact wpAny_pure ⟨rfl,rfl,_,hl⟩
 ·rintro ⟨r1,r2⟩ s' ⟨hr,rfl,_⟩
  simp only at hr
  subst hr
  exact wpAny_pure h
end
def nestKind (prog:Program) (w:World):HeapKind prog w (List KI) where
 is:=IsNestKey prog w
 hash:=nestHash
 draws:=fun ks=>nestDraws ks + 1
 room:=fun A=>A.units + 1 < cLine
 inj:=fun hx hy=>hx.inj hy
 keeps:=fun x ho hd hs=>x.keeps ho hd hs
 pyHash:=fun hu hk h=>Qc9 hu hk h
 eqBool:=fun hu hx hy h=>Qdb hu hx hy h
 quiet:=fun hk h=>Qde hk h
end MM
namespace MM
open PySem PyProof.Rows
def EpAt (h:Heap) (d:Addr) (n:Nat):Prop:=∃ o es,h.get? d=some o/\o.data=.dict es n
section
variable {prog:Program}{w:World}{K:Type} [DecidableEq K] {knd:HeapKind prog w K}{A:Around}{E:Value->Shared->Prop}{s:Shared}{d a:Addr}{k:K}{xs:List (K × Addr × Value)}
theorem Qdf {v : Value} {Q : Unit -> Shared -> Prop} (hu : knd.room A) (hkey : knd.is s.heap k a) (hm : s.heap.DictOfH knd d xs) (hp : EpAt s.heap d xs.length) (hsz : xs.length <= sizeLine)
  (h:∀ h',h'.DictOfH knd d (storedH xs k a v)->EpAt h' d (storedH xs k a v).length->Heap.SameBut d s.heap h'->Q () { s with heap:=h',toks:=s.toks + knd.draws k }):
  wpAny (model prog w) A (dictSet d (.ref a) v) Q E s:=by
 obtain⟨o,es,ep,ho,hc,hd,he,his,hn⟩:=id hm
 obtain⟨o',es',ho',hd'⟩:=hp
 rw[ho]at ho';cases ho'
 rw[hd]at hd';cases hd'
 unfold dictSet
 refine wpAny_holding (wpAny_bind (knd.pyHash hu hkey ?_))
 unfold dictSetHashed
 refine wpAny_holding (wpAny_bind (wpAny_dictFind_heap (s:={ s with toks:=s.toks + knd.draws k }) hu hkey ho hd he his hn (fun hno=>?_) fun j p hj=>?_))
 ·have hnot:k∉xs.map (·.1):=not_mem_keys_of_get hno
  have e0:=atKey_none_of_get hno
  have e1:=storedH_new (a:=a) (v:=v) e0
  have e2:=size_of_entries he
  refine wpAny_bind (wpAny_rule (wpAny_updateDictKeys (hz:=by ac_nf) (s:={ s with toks:=s.toks + knd.draws k }) ho hd
   (h _ ⟨_,_,_,Heap.get?_update_self _ ho (Obj.isFreed_of_dict (Obj.data_mapDictKeys hd _)),hc.mapDictKeys _,Obj.data_mapDictKeys hd _,?_,?_,?_⟩ ?_ (Heap.SameBut.update ..))))
  ·rw[e1];simp[he,entryOfKey]
  ·rw[e1]
   intro x hx
   rcases List.mem_append.mp hx with hx | hx
   ·exact knd.keeps (his x hx) ho hd (Heap.SameBut.update ..)
   ·cases List.mem_singleton.mp hx
    exact knd.keeps hkey ho hd (Heap.SameBut.update ..)
  ·rw[e1,List.map_append,List.nodup_append]
   refine⟨hn,by simp,fun x hx y hy=>?_⟩
   cases List.mem_singleton.mp hy
   exact fun e=>hnot ((show x=k from e) ▸ hx)
  ·rw[e1,List.length_append];exact⟨_,_,Heap.get?_update_self _ ho (Obj.isFreed_of_dict (Obj.data_mapDictKeys hd _)),Obj.data_mapDictKeys hd _⟩
 ·have e0:=atKey_of_get hn hj
  have e1:=storedH_old e0 a v
  have ej:j < es.size:=by
   rw[size_of_entries he];exact (List.getElem?_eq_some_iff.mp hj).1
  have hes:(es.modify j fun e=>{ hash:=e.hash,key:=e.key,val:=v }).toList=(xs.map (putAt k v)).map (entryOfKey knd):=by
   apply List.ext_getElem?
   intro i
   rw[Array.getElem?_toList,Array.getElem?_modify,List.getElem?_map,List.getElem?_map]
   have ei:es[i]?=(xs[i]?).map (entryOfKey knd):=by rw[<- Array.getElem?_toList,he,List.getElem?_map]
   rw[ei]
   by_cases z:j=i
   ·subst z
    rw[if_pos rfl,hj]
    simp[putAt,entryOfKey]
   ·rw[if_neg z]
    cases hx:xs[i]? with
    | none=>rfl
    | some x=>
     have nk:x.1≠k:=fun q=>by
      have a1:(xs.map (·.1))[i]?=some k:=by rw[List.getElem?_map,hx,<- q];rfl
      have a2:(xs.map (·.1))[j]?=some k:=by rw[List.getElem?_map,hj];rfl
      exact z ((List.getElem?_inj (by rw[List.length_map];exact (List.getElem?_eq_some_iff.mp hj).1) hn).mp (a2.trans a1.symm))
     simp[putAt,nk]
  refine wpAny_bind (wpAny_rule (wpAny_bind (wpAny_updateDict (s:={ s with toks:=s.toks + knd.draws k }) ho hd (wpAny_point
   (h _ ⟨_,_,_,Heap.get?_update_self _ ho (Obj.isFreed_of_dict (Obj.data_mapDict hd _)),hc.mapDict _,Obj.data_mapDict hd _,?_,?_,?_⟩ ?_ (Heap.SameBut.update ..))))))
  ·rw[e1];exact hes
  ·rw[e1]
   intro x hx
   obtain⟨y,hy,e⟩:=List.mem_map.mp hx
   have q:=knd.keeps (his y hy) ho hd (Heap.SameBut.update s.heap d (Obj.mapDict fun x=>x.modify j fun e=>{ hash:=e.hash,key:=e.key,val:=v }))
   rw[<- e]
   unfold putAt
   split
   ·exact q
   ·exact q
  ·rw[e1,List.map_map]
   have:(xs.map ((fun x=>x.1) ∘ putAt k v))=xs.map (·.1):=List.map_congr_left fun x _=>by
    show (putAt k v x).1=x.1
    unfold putAt
    split<;>rfl
   rw[this];exact hn
  ·rw[e1,List.length_map];exact⟨_,_,Heap.get?_update_self _ ho (Obj.isFreed_of_dict (Obj.data_mapDict hd _)),Obj.data_mapDict hd _⟩
theorem Qdg {v : Value} {Q : Unit -> Shared -> Prop} (hu : knd.room A.in1) (hkey : knd.is s.heap k a) (hm : s.heap.DictOfH knd d xs) (hp : EpAt s.heap d xs.length) (hsz : xs.length <= sizeLine)
  (h:∀ h',h'.DictOfH knd d (storedH xs k a v)->EpAt h' d (storedH xs k a v).length->Heap.SameBut d s.heap h'->Q () { s with heap:=h',toks:=s.toks + knd.draws k }):
  wpAny (model prog w) A (setItem (.ref d) (.ref a) v) Q E s:=by
 have T:=hm.typeIs
 unfold setItem
 refine wpAny_holding (wpAny_bind (wpAny_sequenceKey T (by decide) (wpAny_bind (wpAny_callSpecial?_slot T F.slot_dict_setitem (wpAny_call_entry F.slot_dict_setitem T F.entry_dict_setitem ?_ (F.args_dict_setitem_3 _ _ _))))))
 unfold Builtin.«dict.__setitem__»
 refine wpAny_bind (wpAny_notOrdered_dict T ?_)
 rw[if_neg (by simp)]
 show wpAny _ _ (dictSet d (.ref a) v >>= _) _ _ s
 refine wpAny_bind (Qdf hu hkey hm hp hsz fun h' a1 a2 a3=>wpAny_pure ⟨_,rfl,wpAny_pure (h h' a1 a2 a3)⟩)
end
end MM
namespace MM
open PySem
inductive D where
 | non | bl (b:Bool) | int (i:Int) | str (x:Str) | tup (ds:List D) | lit (ds:List D) | ref (n:Nat) | dic (n:Nat) | exn (x:Str) (ds:List D)
inductive MO where
 | lst (ds:List D) | dct (b:Bool) (kvs:List (D × D))
abbrev Sto:=List MO
abbrev Exn:=D
inductive Rs (α:Type) where
 | ok (a:α) (s:Sto) | exc (x:Exn) (s:Sto) | bad
def M (α:Type):=Sto->Rs α
section
variable {α β:Type}
def ret (a:α):M α:=fun s=>.ok a s
def bnd (m:M α) (f:α->M β):M β:=fun s=>match m s with
 | .ok a s'=>f a s'
 | .exc x s'=>.exc x s'
 | .bad=>.bad
def bad:M α:=fun _=>.bad
@[irreducible] def chk (c:Prop) [Decidable c] (m:M α):M α:=if c then m else bad
end
abbrev Loc:=List (Option D)
abbrev CE:=Loc->M D
abbrev CT:=Loc->M Bool
abbrev CA:=Loc->M (List D)
inductive Flw where
 | next (l:Loc) | ret (d:D) | brk (l:Loc) | cnt (l:Loc)
abbrev CS:=Loc->M Flw
def lim:Nat:=2 ^ 24
def alloc (o:MO):M D:=fun s=>.ok (.ref s.length) (s++[o])
def getL (n:Nat):M (List D):=fun s=>match s[n]? with
 | some (.lst ds)=>.ok ds s
 | _=>.bad
def putL (n:Nat) (ds:List D):M Unit:=fun s=>match s[n]? with
 | some (.lst _)=>.ok () (s.set n (.lst ds))
 | _=>.bad
def getDc (n:Nat):M (Bool × List (D × D)):=fun s=>match s[n]? with
 | some (.dct b kvs)=>.ok (b,kvs) s
 | _=>.bad
def putDc (n:Nat) (b:Bool) (kvs:List (D × D)):M Unit:=fun s=>match s[n]? with
 | some (.dct c _)=>if b=c then .ok () (s.set n (.dct b kvs)) else .bad
 | _=>.bad
mutual
def eqK:D->D->Bool
 | .int i,.int j=>decide (i=j)
 | .str x,.str y=>decide (x=y)
 | .tup xs,.tup ys=>eqKs xs ys
 | _,_=>false
def eqKs:List D->List D->Bool
 | [],[]=>true
 | x::xs,y::ys=>eqK x y && eqKs xs ys
 | _,_=>false
end
def intsK:List D->Option (List Int)
 | []=>some []
 | .int i::ds=>(intsK ds).map (i::·)
 | _=>none
def rowsK:List D->Option (List (Int ⊕ List Int))
 | []=>some []
 | .tup xs::ds=>match intsK xs,rowsK ds with
  | some r,some rs=>some (.inr r::rs)
  | _,_=>none
 | .int i::ds=>(rowsK ds).map (.inl i::·)
 | _=>none
def stK:D->Option (List (Int ⊕ List Int))
 | .tup ds=>rowsK ds
 | _=>none
def kOk:Bool->D->Bool
 | false,.int _=>true
 | false,.str _=>true
 | true,d=>(stK d).isSome
 | _,_=>false
def lkK (kvs:List (D × D)) (k:D):Option D:=(kvs.find? fun p=>eqK p.1 k).map (·.2)
def ptK (kvs:List (D × D)) (k v:D):List (D × D):=if (kvs.any fun p=>eqK p.1 k)=true then kvs.map fun p=>if eqK p.1 k=true then (p.1,v) else p else kvs++[(k,v)]
def mgK (kvs more:List (D × D)):List (D × D):=more.foldl (fun acc p=>ptK acc p.1 p.2) kvs
def itemK (n:Nat) (k:D):M D:=bnd (getDc n) fun p=>chk (kOk p.1 k=true) (match lkK p.2 k with
 | some d=>ret d
 | none=>bad)
def storeK (n:Nat) (k v:D):M Unit:=bnd (getDc n) fun p=>chk (kOk p.1 k=true/\p.2.length < lim) (putDc n p.1 (ptK p.2 k v))
def hasK (n:Nat) (k:D):M Bool:=bnd (getDc n) fun p=>chk (kOk p.1 k=true) (ret (lkK p.2 k).isSome)
def seqOf:D->M (List D)
 | .tup ds=>ret ds
 | .lit ds=>ret ds
 | .ref n=>getL n
 | _=>bad
def ixN (n:Nat) (i:Int):Option Nat:=if 0<=i then (if i < n then some i.toNat else none) else (if -(n:Int)<=i then some (i + n).toNat else none)
def addD:D->D->M D
 | .int i,.int j=>ret (.int (i + j))
 | .str x,.str y=>chk (x.length + y.length<=lim) (ret (.str (x++y)))
 | .tup x,.tup y=>chk (x.length + y.length<=lim) (ret (.tup (x++y)))
 | .ref a,.ref b=>bnd (getL a) fun x=>bnd (getL b) fun y=>chk (x.length + y.length<=lim) (alloc (.lst (x++y)))
 | _,_=>bad
def subD:D->D->M D
 | .int i,.int j=>ret (.int (i - j))
 | _,_=>bad
def mulOk (i j:Int):Prop:=(-(2 ^ 64) < i/\i < 2 ^ 64)\/(-(2 ^ 64) < j/\j < 2 ^ 64)
instance (i j:Int):Decidable (mulOk i j):=by unfold mulOk;infer_instance
def mulD:D->D->M D
 | .int i,.int j=>chk (mulOk i j) (ret (.int (i * j)))
 | _,_=>bad
def fdivD:D->D->M D
 | .int i,.int j=>chk (0 < j/\j < 1073741824) (ret (.int (i / j)))
 | _,_=>bad
def modD:D->D->M D
 | .int i,.int j=>chk (0 < j) (ret (.int (i % j)))
 | _,_=>bad
def powD:D->D->M D
 | .int i,.int j=>chk (0<=j/\j<=1000000/\i.natAbs < 2 ^ 64) (ret (.int (i ^ j.toNat)))
 | _,_=>bad
def negD:D->M D
 | .int i=>ret (.int (-i))
 | _=>bad
def cmpI (p:Int->Int->Bool):D->D->M D
 | .int i,.int j=>ret (.bl (p i j))
 | _,_=>bad
def ltD:=cmpI fun i j=>decide (i < j)
def leD:=cmpI fun i j=>decide (i<=j)
def gtD:=cmpI fun i j=>decide (j < i)
def geD:=cmpI fun i j=>decide (j<=i)
def allF (f:D->D->Option Bool):List D->List D->Option Bool
 | [],[]=>some true
 | x::xs,y::ys=>match f x y with
  | some true=>allF f xs ys
  | some false=>(allF f xs ys).map fun _=>false
  | none=>none
 | _::_,[]=>some false
 | [],_::_=>some false
def eqS (g:List D->List D->Option Bool):D->D->Option Bool
 | .non,.non=>some true
 | .non,.bl _=>some false
 | .non,.int _=>some false
 | .non,.str _=>some false
 | .non,.tup _=>some false
 | .bl _,.non=>some false
 | .bl a,.bl b=>some (a == b)
 | .bl a,.int b=>some ((if a then 1 else 0) == b)
 | .bl _,.str _=>some false
 | .bl _,.tup _=>some false
 | .int _,.non=>some false
 | .int a,.bl b=>some (a == (if b then 1 else 0))
 | .int a,.int b=>some (a == b)
 | .int _,.str _=>some false
 | .int _,.tup _=>some false
 | .str _,.non=>some false
 | .str _,.bl _=>some false
 | .str _,.int _=>some false
 | .str a,.str b=>some (a == b)
 | .str _,.tup _=>some false
 | .tup _,.non=>some false
 | .tup _,.bl _=>some false
 | .tup _,.int _=>some false
 | .tup _,.str _=>some false
 | .tup xs,.tup ys=>g xs ys
 | _,_=>none
def eqF:Nat->D->D->Option Bool
 | 0,d,e=>eqS (fun _ _=>none) d e
 | n + 1,d,e=>eqS (allF (eqF n)) d e
def eqB (d e:D):M Bool:=match d,e with
 | .ref a,.ref b=>bnd (getL a) fun x=>bnd (getL b) fun y=>match (if x.length=y.length then allF (eqF 50) x y else some false) with
  | some r=>ret r
  | none=>bad
 | .ref a,.non=>bnd (getL a) fun _=>ret false
 | .non,.ref a=>bnd (getL a) fun _=>ret false
 | d,e=>match eqF 50 d e with
  | some r=>ret r
  | none=>bad
def eqD (d e:D):M D:=bnd (eqB d e) fun b=>ret (.bl b)
def neD (d e:D):M D:=bnd (eqB d e) fun b=>ret (.bl !b)
def isND:D->M D
 | .non=>ret (.bl true)
 | _=>ret (.bl false)
def notND:D->M D
 | .non=>ret (.bl false)
 | _=>ret (.bl true)
def itemD (ds:List D) (i:Int):M D:=match ixN ds.length i with
 | some k=>match ds[k]? with
  | some d=>ret d
  | none=>bad
 | none=>bad
def subsD:D->D->M D
 | .tup ds,.int i=>itemD ds i
 | .lit ds,.int i=>itemD ds i
 | .ref n,.int i=>bnd (getL n) fun ds=>itemD ds i
 | .dic n,k=>itemK n k
 | .str x,.int i=>chk (x.length<=lim) (match ixN x.length i with
  | some k=>match x.cps.toList[k]? with
   | some c=>ret (.str ⟨#[c]⟩)
   | none=>bad
  | none=>bad)
 | _,_=>bad
def truD:D->M Bool
 | .non=>ret false
 | .bl b=>ret b
 | .int i=>ret (i != 0)
 | .str x=>chk (x.length<=lim) (ret ((x.length:Int) != 0))
 | .tup ds=>ret (!ds.isEmpty)
 | .lit ds=>ret (!ds.isEmpty)
 | .ref n=>bnd (getL n) fun ds=>ret (!ds.isEmpty)
 | .dic _=>bad
 | .exn _ _=>bad
def cVar (i:Nat):CE:=fun l=>match l[i]? with
 | some (some d)=>ret d
 | _=>bad
def cCon (d:D):CE:=fun _=>ret d
def c1 (g:D->M D) (a:CE):CE:=fun l=>bnd (a l) g
def c2 (g:D->D->M D) (a b:CE):CE:=fun l=>bnd (a l) fun x=>bnd (b l) fun y=>g x y
def cNil:CA:=fun _=>ret []
def cCons (a:CE) (r:CA):CA:=fun l=>bnd (a l) fun x=>bnd (r l) fun xs=>ret (x::xs)
def cTup (a:CA):CE:=fun l=>bnd (a l) fun xs=>chk (xs.length<=lim) (ret (.tup xs))
def cChain (f g:D->D->M D) (a b c:CE):CE:=fun l=>bnd (a l) fun x=>bnd (b l) fun y=>bnd (f x y) fun z=>match z with
 | .bl true=>bnd (c l) fun w=>g y w
 | .bl false=>ret (.bl false)
 | _=>bad
def cAnd (a b:CE):CE:=fun l=>bnd (a l) fun x=>match x with
 | .bl true=>b l
 | .bl false=>ret (.bl false)
 | _=>bad
def cNot (a:CE):CE:=fun l=>bnd (a l) fun x=>match x with
 | .bl b=>ret (.bl !b)
 | _=>bad
def cIfE (t:CT) (a b:CE):CE:=fun l=>bnd (t l) fun c=>if c=true then a l else b l
def cCall (g:List D->M D) (a:CA):CE:=fun l=>bnd (a l) g
def tVal (a:CE):CT:=fun l=>bnd (a l) truD
def tCmpB (a:CE):CT:=fun l=>bnd (a l) fun x=>match x with
 | .bl b=>ret b
 | _=>bad
def tAndB (a b:CT):CT:=fun l=>bnd (a l) fun c=>if c=true then b l else ret false
def tOrB (a b:CT):CT:=fun l=>bnd (a l) fun c=>if c=true then ret true else b l
def tNotB (a:CT):CT:=fun l=>bnd (a l) fun c=>ret !c
structure Wk where
 ds:List D
 same:Sto->Prop
abbrev CI:=Loc->M Wk
open Classical in
def chkS (p:Sto->Prop):M Unit:=fun s=>if p s then .ok () s else .bad
def anySt:Sto->Prop:=fun _=>True
def sameL (n:Nat) (ds:List D):Sto->Prop:=fun s=>s[n]?=some (.lst ds)
def iSeq (a:CE):CI:=fun l=>bnd (a l) fun x=>match x with
 | .tup ds=>ret ⟨ds,anySt⟩
 | .lit ds=>ret ⟨ds,anySt⟩
 | .ref n=>bnd (getL n) fun ds=>ret ⟨ds,sameL n ds⟩
 | _=>bad
def rngD (lo:Int) (n:Nat):List D:=(List.range n).map fun k=>.int (lo + (k:Nat))
def iRng1 (a:CE):CI:=fun l=>bnd (a l) fun x=>match x with
 | .int j=>chk (-(2 ^ 62)<=j/\j < 2 ^ 62) (ret ⟨rngD 0 j.toNat,anySt⟩)
 | _=>bad
def iTmp (a:CA):CI:=fun l=>bnd (a l) fun ds=>ret ⟨ds,anySt⟩
def iEnum (a:CE):CI:=fun l=>bnd (a l) fun x=>match x with
 | .tup ds=>ret ⟨(rngD 0 ds.length).zipWith (fun i d=>.tup [i,d]) ds,anySt⟩
 | _=>bad
abbrev CG:=D->Loc->M Loc
def gVar (i:Nat):CG:=fun d l=>ret (l.set i (some d))
def gsNil:List D->Loc->M Loc
 | [],l=>ret l
 | _,_=>bad
def gsCons (g:CG) (r:List D->Loc->M Loc):List D->Loc->M Loc
 | d::ds,l=>bnd (g d l) fun l'=>r ds l'
 | _,_=>bad
def gTupD (n:Nat) (r:List D->Loc->M Loc):CG:=fun d l=>match d with
 | .tup ds=>chk (ds.length=n) (r ds l)
 | _=>bad
def capt (n:Nat) (caps:List Nat) (l:Loc):Loc:=List.replicate n none++caps.map fun i=>(l[i]?).join
def collect (g:CG) (t:CT) (e:CE) (same:Sto->Prop):List D->Loc->M (List D)
 | [],_=>bnd (chkS same) fun _=>ret []
 | d::ds,l=>bnd (chkS same) fun _=>bnd (g d l) fun l'=>bnd (t l') fun b=>if b=true then bnd (e l') fun x=>bnd (collect g t e same ds l') fun xs=>ret (x::xs) else collect g t e same ds l'
def aComp (n:Nat) (caps:List Nat) (i:CI) (g:CG) (t:CT) (e:CE):CA:=fun l=>bnd (i l) fun w=>chk (w.ds.length<=lim) (collect g t e w.same w.ds (capt n caps l))
def sIx (n d:Nat):Option Int->Nat
 | none=>d
 | some v=>if v < 0 then (v + (n:Int)).toNat else min v.toNat n
def cutD (xs:List D) (lo hi:Option Int):List D:=(xs.drop (sIx xs.length 0 lo)).take (sIx xs.length xs.length hi - sIx xs.length 0 lo)
abbrev CO:=Loc->M (Option Int)
def oNone:CO:=fun _=>ret none
def oSome (a:CE):CO:=fun l=>bnd (a l) fun x=>match x with
 | .int i=>ret (some i)
 | _=>bad
def aSlice (a:CE) (lo hi:CO):CA:=fun l=>bnd (a l) fun x=>bnd (lo l) fun i=>bnd (hi l) fun j=>match x with
 | .lit ds=>ret (cutD ds i j)
 | .ref n=>bnd (getL n) fun ds=>ret (cutD ds i j)
 | _=>bad
def tTrue:CT:=fun _=>ret true
def cKeep (a:CA):CE:=fun l=>bnd (a l) fun ds=>alloc (.lst ds)
def aDisp (a:CA):CA:=fun l=>bnd (a l) fun xs=>chk (xs.length<=lim) (ret xs)
def cTmpSub (a:CA) (b:CE):CE:=fun l=>bnd (a l) fun ds=>bnd (b l) fun i=>match i with
 | .int k=>itemD ds k
 | _=>bad
def cTmp (g:List D->M D) (a:CA):CE:=fun l=>bnd (a l) g
def sNext:CS:=fun l=>ret (.next l)
def sSeq (a b:CS):CS:=fun l=>bnd (a l) fun f=>match f with
 | .next l'=>b l'
 | f=>ret f
def sAsg (g:CG) (a:CE):CS:=fun l=>bnd (a l) fun d=>bnd (g d l) fun l'=>ret (.next l')
def sRet (a:CE):CS:=fun l=>bnd (a l) fun d=>ret (.ret d)
def sExp (a:CE):CS:=fun l=>bnd (a l) fun _=>ret (.next l)
def sIf (t:CT) (a b:CS):CS:=fun l=>bnd (t l) fun c=>if c=true then a l else b l
def sBad:CS:=fun _=>bad
def forD (g:CG) (b:CS) (same:Sto->Prop):List D->CS
 | [],l=>bnd (chkS same) fun _=>ret (.next l)
 | d::ds,l=>bnd (chkS same) fun _=>bnd (g d l) fun l'=>bnd (b l') fun f=>match f with
  | .next l2=>forD g b same ds l2
  | .cnt l2=>forD g b same ds l2
  | .brk l2=>ret (.next l2)
  | .ret d=>ret (.ret d)
def sFor (i:CI) (g:CG) (b:CS):CS:=fun l=>bnd (i l) fun w=>forD g b w.same w.ds l
def flwD:Flw->M D
 | .ret d=>ret d
 | .next _=>ret .non
 | _=>bad
def runDef (n:Nat) (body:CS) (ds:List D):M D:=bnd (body (ds.map some++List.replicate (n - ds.length) none)) flwD
def setItemD (o i v:D):M Unit:=match o,i with
 | .ref n,.int k=>bnd (getL n) fun ds=>match ixN ds.length k with
  | some j=>putL n (ds.set j v)
  | none=>bad
 | .dic n,k=>storeK n k v
 | _,_=>bad
def gSubD (o i:CE):CG:=fun v l=>bnd (o l) fun y=>bnd (i l) fun z=>bnd (setItemD y z v) fun _=>ret l
def lenD:D->M D
 | .tup ds=>ret (.int ds.length)
 | .lit ds=>ret (.int ds.length)
 | .ref n=>bnd (getL n) fun ds=>ret (.int ds.length)
 | .str x=>chk (x.length<=lim) (ret (.int x.length))
 | .dic n=>bnd (getDc n) fun p=>ret (.int p.2.length)
 | _=>bad
def appendL (n:Nat) (v:D):M D:=bnd (getL n) fun ds=>chk (ds.length < lim) (bnd (putL n (ds++[v])) fun _=>ret .non)
def cAppend (a b:CE):CE:=fun l=>bnd (a l) fun x=>match x with
 | .ref n=>bnd (b l) fun v=>appendL n v
 | _=>bad
def intD:D->M D
 | .int i=>ret (.int i)
 | .bl b=>ret (.int (if b then 1 else 0))
 | _=>bad
def tupleD:D->M D
 | .tup ds=>ret (.tup ds)
 | .lit ds=>ret (.tup ds)
 | .ref n=>bnd (getL n) fun ds=>ret (.tup ds)
 | _=>bad
def numsL:List D->Option (List Int)
 | []=>some []
 | .int i::ds=>(numsL ds).map (i::·)
 | _=>none
def boolsL:List D->Option (List Bool)
 | []=>some []
 | .bl b::ds=>(boolsL ds).map (b::·)
 | _=>none
def maxD (ds:List D):M D:=match numsL ds with
 | some (n::ns)=>ret (.int (ns.foldl max n))
 | _=>bad
def allD (ds:List D):M D:=match boolsL ds with
 | some bs=>ret (.bl (bs.all id))
 | _=>bad
def tupL (ds:List D):M D:=ret (.tup ds)
def isD:D->D->M D
 | .bl a,.bl b=>ret (.bl (a == b))
 | x,.non=>isND x
 | _,_=>bad
def isntD:D->D->M D
 | .bl a,.bl b=>ret (.bl !(a == b))
 | x,.non=>notND x
 | _,_=>bad
def flatD:D->Bool
 | .non=>true
 | .bl _=>true
 | .int _=>true
 | .str _=>true
 | _=>false
def eqFl:D->D->Bool
 | .non,.non=>true
 | .bl a,.bl b=>a == b
 | .bl a,.int b=>(if a then 1 else 0) == b
 | .int a,.bl b=>a == (if b then 1 else 0)
 | .int a,.int b=>a == b
 | .str a,.str b=>a == b
 | _,_=>false
def inL (x:D) (ds:List D):M D:=chk (flatD x=true/\ds.all flatD=true) (ret (.bl (ds.any fun d=>eqFl d x)))
def inD (x y:D):M D:=match y with
 | .dic n=>bnd (hasK n x) fun b=>ret (.bl b)
 | y=>bnd (seqOf y) (inL x)
def allocK (b:Bool) (kvs:List (D × D)):M D:=fun s=>.ok (.dic s.length) (s++[.dct b kvs])
def cDisp (ks:List D) (vs:CA):CE:=fun l=>bnd (vs l) fun xs=>chk (ks.length=xs.length) (allocK false (mgK [] (ks.zip xs)))
def aTimes (a:CA) (b:CE):CA:=fun l=>bnd (a l) fun xs=>bnd (b l) fun k=>match k with
 | .int k=>chk ((-(2 ^ 63)<=k/\k < 2 ^ 63)/\xs.length * k.toNat<=lim) (ret (List.replicate k.toNat xs).flatten)
 | _=>bad
def aRev (a:CA):CA:=fun l=>bnd (a l) fun ds=>ret ds.reverse
def max2D:D->D->M D
 | .int i,.int j=>ret (.int (max i j))
 | _,_=>bad
def listD (d:D):M D:=bnd (seqOf d) fun ds=>alloc (.lst ds)
def cPop (a:CE):CE:=fun l=>bnd (a l) fun x=>match x with
 | .ref n=>bnd (getL n) fun ds=>match ds.getLast? with
  | some d=>bnd (putL n ds.dropLast) fun _=>ret d
  | none=>bad
 | _=>bad
def whileN (t:CT) (b:CS):Nat->CS
 | 0=>fun _=>bad
 | n + 1 => fun l => bnd (t l) fun c => if c = true then bnd (b l) fun f => match f with
   | .next l2=>whileN t b n l2
   | .cnt l2=>whileN t b n l2
   | .brk l2=>ret (.next l2)
   | .ret d=>ret (.ret d) else ret (.next l)
open Classical in
def sWhile (t:CT) (b:CS):CS:=fun l s=>if h:∃ n,(∀ r,whileN t b n l s=r->r≠.bad) then whileN t b (choose h) l s else .bad
end MM
namespace MM
open PySem PySem.Spec PyProof.Rows L2
abbrev St:=L2.St
def FzL (K:PySem.W.Frag) (H:Hp) (a:Addr) (xs:List V):Prop:=
 (∃ o,H a=some (.frz o (.lst xs))) \/
  ∃ (o:Obj) (its:Array Value) (n:Nat),K.lookup a=some o/\o.cls=.type "list"/\o.dict=none/\o.data=.seq its n/\its.size<=sizeLine/\Vals xs its.toList
theorem FzL.seq {K:PySem.W.Frag}{H:Hp}{a:Addr}{xs:List V} (h:FzL K H a xs):SqL K H a xs:=by
 rcases h with ⟨o,h⟩ | h
 ·exact .inl (.inr ⟨o,h⟩)
 ·exact .inr h
def kO:HO->Nat
 | .lst _=>0
 | .dK _=>1
 | .ext _=>2
 | _=>3
abbrev NK:=List KI
def nH (k:NK):Int:=nestHash k
def nEnt (x:NK × Addr × Value):DictEntry:=⟨nH x.1,.ref x.2.1,x.2.2⟩
def NOk (a:Addr) (es:List (NK × Addr × V)) (h:Heap):Prop:=es.length<=sizeLine/\(a == sysModules)=false/\∃ xs:List (NK × Addr × Value),Paired (fun (p:NK × Addr × V) (q:NK × Addr × Value)=>p.1=q.1/\p.2.1=q.2.1/\RelV p.2.2 q.2.2) es xs /\
 ∃ o es' ep,h.get? a=some o/\o.ExactDict/\o.data=.dict es' ep/\es'.toList=xs.map nEnt/\(xs.map (·.1)).Nodup/\ep=xs.length
def nstO (a:Addr) (es:List (NK × Addr × V)):HO:=.ext (NOk a es)
def rowD (r:List Int):D:=.tup (r.map .int)
def itD:KI->D
 | .inl i=>.int i
 | .inr r=>rowD r
def stD (k:NK):D:=.tup (k.map itD)
def keyD:Key->D
 | .inl i=>.int i
 | .inr x=>.str x
mutual
inductive Rep (K:PySem.W.Frag) (ρ:List Addr) (H:Hp):V->D->Prop
 | non:Rep K ρ H .non .non
 | bl (b:Bool):Rep K ρ H (.bl b) (.bl b)
 | int (i:Int):Rep K ρ H (.int i) (.int i)
 | str (x:Str):Rep K ρ H (.str x) (.str x)
 | tup {a:Addr}{vs:List V}{ds:List D} (h:SqT K H a vs) (r:Reps K ρ H vs ds):Rep K ρ H (.ref a) (.tup ds)
 | lit {a:Addr}{vs:List V}{ds:List D} (h:FzL K H a vs) (r:Reps K ρ H vs ds):Rep K ρ H (.ref a) (.lit ds)
 | ref {a:Addr}{n:Nat} (k:∃ o,H a=some o/\kO o=0) (h:ρ[n]?=some a):Rep K ρ H (.ref a) (.ref n)
 | dic {a:Addr}{n:Nat} (k:∃ o,H a=some o/\(kO o=1\/kO o=2)) (h:ρ[n]?=some a):Rep K ρ H (.ref a) (.dic n)
 | exn0 {a C:Addr}{x:Str} (g:PySem.W.nsIn K mainGlobals x=some (some (.ref C))) (h:∃ o,H a=some (.frz o (.own a))/\o.cls=.ref C):Rep K ρ H (.ref a) (.exn x [])
 | exn {a C dx:Addr}{x f:Str}{v:V}{d:D} (g:PySem.W.nsIn K mainGlobals x=some (some (.ref C))) (h:∃ o,H a=some (.frz o (.own a))/\o.cls=.ref C/\o.dict=some dx/\∃ vs,o.data=.fields vs) (h2:H dx=some (.xd [(f,v)])) (r:Rep K ρ H v d):Rep K ρ H (.ref a) (.exn x [.str f,d])
inductive Reps (K:PySem.W.Frag) (ρ:List Addr) (H:Hp):List V->List D->Prop
 | nil:Reps K ρ H [] []
 | cons {v:V}{d:D}{vs:List V}{ds:List D} (r:Rep K ρ H v d) (t:Reps K ρ H vs ds):Reps K ρ H (v::vs) (d::ds)
end
def ObR (K:PySem.W.Frag) (ρ:List Addr) (H:Hp) (a:Addr):MO->Prop
 | .lst ds=>∃ vs,H a=some (.lst vs)/\Reps K ρ H vs ds
 | .dct false kvs=>∃ es,H a=some (.dK es)/\Paired (fun (p:Key × V) (q:D × D)=>keyD p.1=q.1/\Rep K ρ H p.2 q.2) es kvs
 | .dct true kvs=>∃ es,H a=some (nstO a es)/\Paired (fun (p:NK × Addr × V) (q:D × D)=>stD p.1=q.1/\Rep K ρ H (.ref p.2.1) q.1/\Rep K ρ H p.2.2 q.2) es kvs
structure SR (K:PySem.W.Frag) (ρ:List Addr) (H:Hp) (st:Sto):Prop where
 len:ρ.length=st.length
 nd:ρ.Nodup
 ob:∀ (n:Nat) (a:Addr) (o:MO),ρ[n]?=some a->st[n]?=some o->ObR K ρ H a o
def LR (K:PySem.W.Frag) (ρ:List Addr) (H:Hp) (σ:St) (l:Loc):Prop:=
 σ.length=l.length/\∀ (i:Nat) (d:D),l[i]?=some (some d)->∃ v,σ[i]?=some (some v)/\Rep K ρ H v d
structure Ex (ρ:List Addr) (H:Hp) (ρ':List Addr) (H':Hp):Prop where
 pre:∃ τ,ρ'=ρ++τ/\∀ a∈τ,H a=none
 fix:∀ a o,kO o=3->H a=some o->H' a=some o
 oth:∀ a o,a∉ρ->H a=some o->H' a=some o
 knd:∀ a o,H a=some o->∃ o',H' a=some o'/\kO o'=kO o
structure Up (ρ:List Addr) (H:Hp) (ρ':List Addr) (H':Hp):Prop where
 pre:∃ τ,ρ'=ρ++τ
 fix:∀ a o,kO o=3->H a=some o->H' a=some o
 knd:∀ a o,H a=some o->∃ o',H' a=some o'/\kO o'=kO o
section
variable {K:PySem.W.Frag}{ρ ρ1 ρ2:List Addr}{H H1 H2:Hp}{st st1:Sto}{v:V}{d:D}{vs:List V}{ds:List D}{a:Addr}
theorem Ex.lst (x:Ex ρ H ρ1 H1) (a:Addr) (xs:List V) (na:a∉ρ) (h:H a=some (.lst xs)):H1 a=some (.lst xs):=x.oth a _ na h
theorem Ex.trk (x:Ex ρ H ρ1 H1) (a:Addr) (o:HO) (h:H a=some o):H1 a≠none:=by
 obtain⟨o',e,_⟩:=x.knd a o h
 rw[e];exact fun z=>nomatch z
theorem Ex.up (x:Ex ρ H ρ1 H1):Up ρ H ρ1 H1:=⟨let ⟨τ,e,_⟩:=x.pre;⟨τ,e⟩,x.fix,x.knd⟩
theorem Up.grow {τ:List Addr}:Up ρ H (ρ++τ) H:=⟨⟨τ,rfl⟩,fun _ _ _ e=>e,fun _ o e=>⟨o,e,rfl⟩⟩
theorem Ex.refl:Ex ρ H ρ H:=⟨⟨[],by simp,by simp⟩,fun _ _ _ e=>e,fun _ _ _ e=>e,fun _ o e=>⟨o,e,rfl⟩⟩
theorem Ex.trans (x:Ex ρ H ρ1 H1) (y:Ex ρ1 H1 ρ2 H2):Ex ρ H ρ2 H2:=by
 obtain⟨τ1,rfl,f1⟩:=x.pre
 obtain⟨τ2,rfl,f2⟩:=y.pre
 refine⟨⟨τ1++τ2,by simp,fun a ha=>?_⟩,fun a o no e=>y.fix a o no (x.fix a o no e),fun a o na e=>?_,fun a o e=>?_⟩
 ·rcases List.mem_append.mp ha with ha | ha
  ·exact f1 a ha
  ·cases q:H a with
   | none=>rfl
   | some o=>exact absurd (f2 a ha) (x.trk a o q)
 ·refine y.oth a o (fun z=>?_) (x.oth a o na e)
  rcases List.mem_append.mp z with z | z
  ·exact na z
  ·rw[f1 a z]at e;cases e
 ·obtain⟨o1,e1,k1⟩:=x.knd a o e
  obtain⟨o2,e2,k2⟩:=y.knd a o1 e1
  exact⟨o2,e2,k2.trans k1⟩
theorem Ex.new {o:HO} (h:H a=none):Ex ρ H ρ (upd H a o):=
 ⟨⟨[],by simp,by simp⟩,fun b u _ e=>by rw[Qaj (Qal e h)];exact e,fun b u _ e=>by rw[Qaj (Qal e h)];exact e,
  fun b u e=>⟨u,by rw[Qaj (Qal e h)];exact e,rfl⟩⟩
theorem Ex.newO {o:HO} (h:H a=none):Ex ρ H (ρ++[a]) (upd H a o):=
 ⟨⟨[a],rfl,fun b hb=>by rw[List.mem_singleton]at hb;rw[hb];exact h⟩,(Ex.new (ρ:=ρ) h).fix,(Ex.new (ρ:=ρ) h).oth,(Ex.new (ρ:=ρ) h).knd⟩
theorem Ex.newL {vs:List V} (h:H a=none):Ex ρ H (ρ++[a]) (upd H a (.lst vs)):=Ex.newO h
theorem SqT.mono (x:Up ρ H ρ1 H1) (h:SqT K H a vs):SqT K H1 a vs:=by
 rcases h with h | h
 ·rcases h with h | ⟨o,h⟩
  ·exact .inl (.inl (x.fix a _ rfl h))
  ·exact .inl (.inr ⟨o,x.fix a _ rfl h⟩)
 ·exact .inr h
theorem FzL.mono (x:Up ρ H ρ1 H1) (h:FzL K H a vs):FzL K H1 a vs:=by
 rcases h with ⟨o,h⟩ | h
 ·exact .inl ⟨o,x.fix a _ rfl h⟩
 ·exact .inr h
theorem Qdh {α:Type}{l τ:List α}{n:Nat}{a:α} (h:l[n]?=some a):(l++τ)[n]?=some a:=by
 rw[List.getElem?_append_left (List.getElem?_eq_some_iff.mp h).1];exact h
mutual
theorem Rep.up (x:Up ρ H ρ1 H1):∀ {v:V}{d:D},Rep K ρ H v d->Rep K ρ1 H1 v d
 | _,_,.non=>.non
 | _,_,.bl b=>.bl b
 | _,_,.int i=>.int i
 | _,_,.str y=>.str y
 | _,_,.tup h r=>.tup (SqT.mono x h) (Reps.up x r)
 | _,_,.lit h r=>.lit (FzL.mono x h) (Reps.up x r)
 | _,_,.ref ⟨o,ho,hk⟩ h=>by
  obtain⟨τ,e⟩:=x.pre
  obtain⟨o',ho',hk'⟩:=x.knd _ o ho
  exact .ref ⟨o',ho',hk'.trans hk⟩ (by rw[e];exact Qdh h)
 | _,_,.dic ⟨o,ho,hk⟩ h=>by
  obtain⟨τ,e⟩:=x.pre
  obtain⟨o',ho',hk'⟩:=x.knd _ o ho
  exact .dic ⟨o',ho',by rw[hk'];exact hk⟩ (by rw[e];exact Qdh h)
 | _,_,.exn0 g ⟨o,ho,hc⟩=>.exn0 g ⟨o,x.fix _ _ rfl ho,hc⟩
 | _,_,.exn g ⟨o,ho,hc⟩ h2 r=>.exn g ⟨o,x.fix _ _ rfl ho,hc⟩ (x.fix _ _ rfl h2) (Rep.up x r)
theorem Reps.up (x:Up ρ H ρ1 H1):∀ {vs:List V}{ds:List D},Reps K ρ H vs ds->Reps K ρ1 H1 vs ds
 | _,_,.nil=>.nil
 | _,_,.cons r t=>.cons (Rep.up x r) (Reps.up x t)
end
theorem Rep.mono (r:Rep K ρ H v d) (x:Ex ρ H ρ1 H1):Rep K ρ1 H1 v d:=r.up x.up
theorem Reps.mono (r:Reps K ρ H vs ds) (x:Ex ρ H ρ1 H1):Reps K ρ1 H1 vs ds:=r.up x.up
theorem Reps.length:∀ {vs:List V}{ds:List D},Reps K ρ H vs ds->vs.length=ds.length
 | _,_,.nil=>rfl
 | _,_,.cons _ t=>by simp[Reps.length t]
theorem Reps.get:∀ {vs:List V}{ds:List D}{i:Nat}{d:D},Reps K ρ H vs ds->ds[i]?=some d->∃ v,vs[i]?=some v/\Rep K ρ H v d
 | _,_,_,_,.nil,e=>by simp at e
 | _,_,0,_,.cons r _,e=>by simp at e;subst e;exact⟨_,rfl,r⟩
 | _,_,i + 1,_,.cons _ t,e=>by
  obtain⟨v,h1,h2⟩:=Reps.get (i:=i) t (by simpa using e)
  exact⟨v,by simpa using h1,h2⟩
theorem Reps.app:∀ {vs ws:List V}{ds es:List D},Reps K ρ H vs ds->Reps K ρ H ws es->Reps K ρ H (vs++ws) (ds++es)
 | _,_,_,_,.nil,s=>s
 | _,_,_,_,.cons r t,s=>.cons r (Reps.app t s)
theorem Reps.set:∀ {vs:List V}{ds:List D}{v:V}{d:D} (i:Nat),Reps K ρ H vs ds->Rep K ρ H v d->Reps K ρ H (vs.set i v) (ds.set i d)
 | _,_,_,_,_,.nil,_=>.nil
 | _,_,_,_,0,.cons _ t,r=>.cons r t
 | _,_,_,_,i + 1,.cons q t,r=>.cons q (Reps.set i t r)
theorem Reps.take:∀ {vs:List V}{ds:List D} (n:Nat),Reps K ρ H vs ds->Reps K ρ H (vs.take n) (ds.take n)
 | _,_,0,_=>.nil
 | _,_,_ + 1,.nil=>.nil
 | _,_,n + 1,.cons r t=>.cons r (Reps.take n t)
theorem Reps.drop:∀ {vs:List V}{ds:List D} (n:Nat),Reps K ρ H vs ds->Reps K ρ H (vs.drop n) (ds.drop n)
 | _,_,0,r=>r
 | _,_,_ + 1,.nil=>.nil
 | _,_,n + 1,.cons _ t=>Reps.drop n t
theorem LR.mono {σ:St}{l:Loc} (x:Ex ρ H ρ1 H1) (h:LR K ρ H σ l):LR K ρ1 H1 σ l:=
 ⟨h.1,fun i d e=>let ⟨v,e1,r⟩:=h.2 i d e;⟨v,e1,r.mono x⟩⟩
theorem SR.at (s:SR K ρ H st) {n:Nat}{o:MO} (e:st[n]?=some o):∃ a,ρ[n]?=some a/\ObR K ρ H a o:=by
 have hl:n < ρ.length:=by rw[s.len];exact (List.getElem?_eq_some_iff.mp e).1
 have q:ρ[n]?=some ρ[n]:=List.getElem?_eq_getElem hl
 exact⟨_,q,s.ob n _ o q e⟩
theorem SR.seq (s:SR K ρ H st) {n:Nat} (e:st[n]?=some (.lst ds)):∃ a vs,ρ[n]?=some a/\H a=some (.lst vs)/\Reps K ρ H vs ds:=by
 obtain⟨a,h,vs,q,r⟩:=s.at e
 exact⟨a,vs,h,q,r⟩
theorem ObR.ex {o:MO} (h:ObR K ρ H a o):∃ u,H a=some u:=by
 cases o with
 | lst ds=>obtain⟨vs,q,_⟩:=h;exact⟨_,q⟩
 | dct b kvs=>cases b<;>(obtain⟨vs,q,_⟩:=h;exact⟨_,q⟩)
theorem SR.fresh (s:SR K ρ H st) (h:H a=none):a∉ρ:=fun z=>by
 obtain⟨n,hn⟩:=List.getElem?_of_mem z
 have hl:n < st.length:=by rw[<- s.len];exact (List.getElem?_eq_some_iff.mp hn).1
 obtain⟨u,q⟩:=ObR.ex (s.ob n a _ hn (List.getElem?_eq_getElem hl))
 rw[h]at q;cases q
theorem Qdi {n:Nat}{xs:List D}{s':Sto} (h:getL n st=.ok xs s'):s'=st/\st[n]?=some (.lst xs):=by
 unfold getL at h
 cases e:st[n]? with
 | none=>rw[e]at h;cases h
 | some o=>
  rw[e]at h
  cases o with
  | lst ds=>cases h;exact⟨rfl,rfl⟩
  | dct _ _=>cases h
theorem Paired.mapS {α β:Type}{F G:α->β->Prop}:∀ {l₁:List α}{l₂:List β},Paired F l₁ l₂->(∀ a b,F a b->G a b)->Paired G l₁ l₂
 | _,_,.nil,_=>.nil
 | _,_,.cons r t,f=>.cons (f _ _ r) (Paired.mapS t f)
theorem ObR.mono {o:MO} (x:Up ρ H ρ1 H1) (h:ObR K ρ H a o) (hk:∀ u,H a=some u->H1 a=some u):ObR K ρ1 H1 a o:=by
 cases o with
 | lst ds=>
  obtain⟨vs,q,r⟩:=h
  exact⟨vs,hk _ q,r.up x⟩
 | dct b kvs=>
  cases b with
  | false=>
   obtain⟨es,q,r⟩:=h
   exact⟨es,hk _ q,Paired.mapS r fun p q z=>⟨z.1,z.2.up x⟩⟩
  | true=>
   obtain⟨es,q,r⟩:=h
   exact⟨es,hk _ q,Paired.mapS r fun p q z=>⟨z.1,z.2.1.up x,z.2.2.up x⟩⟩
theorem SR.new {o:HO} (s:SR K ρ H st) (h:H a=none):SR K ρ (upd H a o) st:=
 ⟨s.len,s.nd,fun n b ob e1 e2=>ObR.mono (o:=ob) (Ex.new (ρ:=ρ) h).up (s.ob n b ob e1 e2) fun vs q=>by rw[Qaj (Qal q h)];exact q⟩
theorem SR.keepO {o':MO} (s:SR K ρ H st) (na:a∉ρ) (r:ObR K ρ H a o'):SR K (ρ++[a]) H (st++[o']):=by
 have hl:=s.len
 have old:∀ (n:Nat) (b:Addr),(ρ++[a])[n]?=some b->(n < ρ.length/\ρ[n]?=some b)\/(n=ρ.length/\b=a):=fun n b e=>by
  by_cases hn:n < ρ.length
  ·rw[List.getElem?_append_left hn]at e;exact .inl ⟨hn,e⟩
  ·rw[List.getElem?_append_right (by ac_nf)]at e
   have hz:n - ρ.length=0:=by
    cases q:n - ρ.length with
    | zero=>rfl
    | succ k=>rw[q]at e;simp at e
   rw[hz]at e
   simp at e
   exact .inr ⟨by ac_nf,e.symm⟩
 refine⟨by simp[hl],List.nodup_append.mpr ⟨s.nd,by simp,fun x hx y hy=>?_⟩,fun n b o e1 e2=>?_⟩
 ·rw[List.mem_singleton]at hy
  subst hy
  exact fun z=>na (z ▸ hx)
 ·rcases old n b e1 with ⟨hn,f1⟩ | ⟨hn,f1⟩
  ·rw[List.getElem?_append_left (by ac_nf)]at e2
   exact ObR.mono (o:=o) Up.grow (s.ob n b o f1 e2) fun _ q=>q
  ·subst f1
   have:o=o':=by
    rw[hn,hl,List.getElem?_append_right (Nat.le_refl _)]at e2
    simp at e2;exact e2.symm
   subst this
   exact ObR.mono (o:=o) Up.grow r fun _ q=>q
theorem SR.keep (s:SR K ρ H st) (h:H a=some (.lst vs)) (na:a∉ρ) (r:Reps K ρ H vs ds):SR K (ρ++[a]) H (st++[.lst ds]):=s.keepO na ⟨vs,h,r⟩
theorem SR.putO (s : SR K ρ H st) {n : Nat} {o' : MO} {u u' : HO} (hl : n < st.length) (ha : ρ[n]? = some a) (hu : H a = some u) (k3 : kO u ≠ 3) (hk : kO u' = kO u) (r : ObR K ρ (upd H a u') a o') :
  SR K ρ (upd H a u') (st.set n o')/\Ex ρ H ρ (upd H a u'):=by
 have x:Ex ρ H ρ (upd H a u'):=by
  refine⟨⟨[],by simp,by simp⟩,fun b o no q=>?_,fun b xs nb q=>?_,fun b o q=>?_⟩
  ·have:b≠a:=fun z=>by subst z;rw[hu]at q;cases q;exact k3 no
   rw[Qaj this];exact q
  ·have:b≠a:=fun z=>by subst z;exact nb (List.mem_of_getElem? ha)
   rw[Qaj this];exact q
  ·by_cases z:b=a
   ·subst z;rw[hu]at q;cases q;exact⟨u',Qai,hk⟩
   ·exact⟨o,by rw[Qaj z];exact q,rfl⟩
 refine⟨⟨by simp[s.len],s.nd,fun m b o e1 e2=>?_⟩,x⟩
 by_cases z:m=n
 ·subst z
  rw[ha]at e1;cases e1
  rw[List.getElem?_set_self hl]at e2;cases e2
  exact r
 ·rw[List.getElem?_set_ne (Ne.symm z)]at e2
  refine ObR.mono (o:=o) x.up (s.ob m b o e1 e2) fun us q=>?_
  have:b≠a:=fun w=>by
   subst w
   exact z ((List.getElem?_inj (List.getElem?_eq_some_iff.mp e1).1 s.nd).mp (e1.trans ha.symm))
  rw[Qaj this];exact q
theorem SR.put (s : SR K ρ H st) {n : Nat} {ws : List V} (hl : n < st.length) (ha : ρ[n]? = some a) (hw : H a = some (.lst ws)) (r : Reps K ρ H vs ds) :
  SR K ρ (upd H a (.lst vs)) (st.set n (.lst ds))/\Ex ρ H ρ (upd H a (.lst vs)):=by
 have u:Up ρ H ρ (upd H a (.lst vs)):=by
  refine⟨⟨[],by simp⟩,fun b o no q=>?_,fun b o q=>?_⟩
  ·have:b≠a:=fun z=>by subst z;rw[hw]at q;cases q;exact nomatch no
   rw[Qaj this];exact q
  ·by_cases z:b=a
   ·subst z;rw[hw]at q;cases q;exact⟨_,Qai,rfl⟩
   ·exact⟨o,by rw[Qaj z];exact q,rfl⟩
 exact s.putO hl ha hw (by show (0:Nat)≠3;decide) rfl ⟨vs,Qai,r.up u⟩
theorem Qdj (k:∃ o,H a=some o/\kO o=0):∃ vs,H a=some (.lst vs):=by
 obtain⟨o,e,hk⟩:=k
 cases o with
 | lst vs=>exact⟨vs,e⟩
 | _=>exact nomatch hk
def Post {α:Type} (K:PySem.W.Frag) (ρ:List Addr) (H:Hp) (r:Rs α) (R:α->Sto->List Addr->Hp->Prop):Prop:=match r with
 | .ok a st=>∀ ρ' H',Ex ρ H ρ' H'->SR K ρ' H' st->R a st ρ' H'
 | _=>False
theorem Post.left {α:Type}{r:Rs α}{R:α->Sto->List Addr->Hp->Prop} (x:Ex ρ H ρ1 H1) (h:Post K ρ H r R):Post K ρ1 H1 r R:=by
 cases r with
 | ok a st=>exact fun ρ' H' y s=>h ρ' H' (x.trans y) s
 | exc _ _=>exact h
 | bad=>exact h
theorem Post.imp {α:Type}{r:Rs α}{R R':α->Sto->List Addr->Hp->Prop} (h:Post K ρ H r R) (f:∀ a st ρ' H',Ex ρ H ρ' H'->SR K ρ' H' st->R a st ρ' H'->R' a st ρ' H'):Post K ρ H r R':=by
 cases r with
 | ok a st=>exact fun ρ' H' y s=>f a st ρ' H' y s (h ρ' H' y s)
 | exc _ _=>exact h
 | bad=>exact h
theorem Post.bnd {α β:Type}{m:M α}{f:α->M β}{R:β->Sto->List Addr->Hp->Prop} (h:Post K ρ H (bnd m f st) R):Post K ρ H (m st) fun a st' ρ' H'=>Post K ρ' H' (f a st') R:=by
 unfold MM.bnd at h
 cases e:m st with
 | ok a s'=>
  rw[e]at h
  exact fun ρ' H' y s=>h.left y
 | exc _ _=>rw[e]at h;exact h
 | bad=>rw[e]at h;exact h
theorem Post.ret {α:Type}{a:α}{R:α->Sto->List Addr->Hp->Prop} (h:Post K ρ H (MM.ret a st) R) (s:SR K ρ H st):R a st ρ H:=h ρ H Ex.refl s
theorem Post.chk {α:Type}{c:Prop} [Decidable c] {m:M α}{R:α->Sto->List Addr->Hp->Prop} (h:Post K ρ H (MM.chk c m st) R):c/\Post K ρ H (m st) R:=by
 unfold MM.chk at h
 by_cases hc:c
 ·rw[if_pos hc]at h;exact⟨hc,h⟩
 ·rw[if_neg hc]at h;exact h.elim
theorem Post.getL {n:Nat}{R:List D->Sto->List Addr->Hp->Prop} (h:Post K ρ H (MM.getL n st) R) (s:SR K ρ H st):∃ xs,st[n]?=some (.lst xs)/\R xs st ρ H:=by
 cases e:MM.getL n st with
 | ok xs s'=>
  obtain⟨rfl,q⟩:=Qdi e
  rw[e]at h
  exact⟨xs,q,h ρ H Ex.refl s⟩
 | exc _ _=>rw[e]at h;exact h.elim
 | bad=>rw[e]at h;exact h.elim
def tOf (K:PySem.W.Frag) (f:CE):TE:=fun σ H Q=>∃ ρ l st,LR K ρ H σ l/\SR K ρ H st/\Post K ρ H (f l st) fun d _ ρ' H'=>∀ v,Rep K ρ' H' v d->Q v H'
def ttOf (K:PySem.W.Frag) (f:CT):TT:=fun σ H Q=>∃ ρ l st,LR K ρ H σ l/\SR K ρ H st/\Post K ρ H (f l st) fun b _ _ H'=>Q b H'
def taOf (K:PySem.W.Frag) (f:CA):TA:=fun σ H Q=>∃ ρ l st,LR K ρ H σ l/\SR K ρ H st/\Post K ρ H (f l st) fun ds _ ρ' H'=>∀ vs,Reps K ρ' H' vs ds->Q vs H'
def tlOf (K:PySem.W.Frag) (f:CA):TE:=fun σ H Q=>∃ ρ l st,LR K ρ H σ l/\SR K ρ H st/\Post K ρ H (f l st) fun ds _ ρ' H'=>∀ a vs,H a=none->a∉ρ'->H' a=some (.lst vs)->Reps K ρ' H' vs ds->Q (.ref a) H'
def tsOf (K:PySem.W.Frag) (c:CS):TS:=fun G σ H=>∃ ρ l st,LR K ρ H σ l/\SR K ρ H st/\Post K ρ H (c l st) fun f _ ρ' H'=>match f with
 | .next l'=>∀ σ',LR K ρ' H' σ' l'->G.nx σ' H'
 | .ret d=>∀ v,Rep K ρ' H' v d->G.rt v H'
 | .brk l'=>∀ σ',LR K ρ' H' σ' l'->G.bk σ' H'
 | .cnt l'=>∀ σ',LR K ρ' H' σ' l'->G.ct σ' H'
def tgOf (K:PySem.W.Frag) (g:CG):TG:=fun v σ H Q=>∃ ρ l st d,LR K ρ H σ l/\SR K ρ H st/\Rep K ρ H v d/\Post K ρ H (g d l st) fun l' _ ρ' H'=>∀ σ',LR K ρ' H' σ' l'->Q σ' H'
def tgsOf (K:PySem.W.Frag) (g:List D->Loc->M Loc):TGs:=fun vs σ H Q=>∃ ρ l st ds,LR K ρ H σ l/\SR K ρ H st/\Reps K ρ H vs ds/\Post K ρ H (g ds l st) fun l' _ ρ' H'=>∀ σ',LR K ρ' H' σ' l'->Q σ' H'
def rOf (K:PySem.W.Frag) (g:D->D->M D):R2:=fun x y H Q=>∃ ρ st d e,SR K ρ H st/\Rep K ρ H x d/\Rep K ρ H y e/\Post K ρ H (g d e st) fun r _ ρ' H'=>∀ v,Rep K ρ' H' v r->Q v H'
def uOf (K:PySem.W.Frag) (g:D->M D):V->Hp->VK->Prop:=fun x H Q=>∃ ρ st d,SR K ρ H st/\Rep K ρ H x d/\Post K ρ H (g d st) fun r _ ρ' H'=>∀ v,Rep K ρ' H' v r->Q v H'
def kOf (K:PySem.W.Frag) (g:List D->M D):List V->Hp->VK->Prop:=fun xs H Q=>∃ ρ st ds,SR K ρ H st/\Reps K ρ H xs ds/\Post K ρ H (g ds st) fun r _ ρ' H'=>∀ v,Rep K ρ' H' v r->Q v H'
def spOf (K:PySem.W.Frag) (n:Nat) (g:List D->M D):Sp:=fun vs H Q _=>vs.length=n/\kOf K g vs H Q
end
section
variable {X:Cx}{a b c:Expr}{pos:Pos}
abbrev SE (X:Cx) (e:Expr) (f:CE):Prop:=PE X e (tOf X.K f)
abbrev SL (X:Cx) (e:Expr) (f:CA):Prop:=PE X e (tlOf X.K f)
abbrev ST (X:Cx) (e:Expr) (f:CT):Prop:=PT X e (ttOf X.K f)
abbrev SA (X:Cx) (es:List Expr) (f:CA):Prop:=PA X es (taOf X.K f)
abbrev SS (X:Cx) (s:Stmt) (f:CS):Prop:=PS X s (tsOf X.K f)
abbrev SSs (X:Cx) (s:List Stmt) (f:CS):Prop:=PSs X s (tsOf X.K f)
theorem _root_.L2.PE.of {e:Expr}{t t':TE} (h:PE X e t) (f:∀ σ H Q,t' σ H Q->t σ H Q):PE X e t':=fun pins s σ H Q I q=>h pins s σ H Q I (f σ H Q q)
theorem _root_.L2.PT.of {e:Expr}{t t':TT} (h:PT X e t) (f:∀ σ H Q,t' σ H Q->t σ H Q):PT X e t':=fun pins s σ H Q I q=>h pins s σ H Q I (f σ H Q q)
theorem _root_.L2.PA.of {e:List Expr}{t t':TA} (h:PA X e t) (f:∀ σ H Q,t' σ H Q->t σ H Q):PA X e t':=fun pos pins s σ H Q I q=>h pos pins s σ H Q I (f σ H Q q)
theorem _root_.L2.PS.of {e:Stmt}{t t':TS} (h:PS X e t) (f:∀ D σ H,t' D σ H->t D σ H):PS X e t':=fun pins s σ H D I q=>h pins s σ H D I (f D σ H q)
theorem _root_.L2.PSs.of {e:List Stmt}{t t':TS} (h:PSs X e t) (f:∀ D σ H,t' D σ H->t D σ H):PSs X e t':=fun pins s σ H D I q=>h pins s σ H D I (f D σ H q)
theorem _root_.L2.PG.of {e:Expr}{t t':TG} (h:PG X e t) (f:∀ v σ H Q,t' v σ H Q->t v σ H Q):PG X e t':=fun pins s σ H v u Q I r q=>h pins s σ H v u Q I r (f v σ H Q q)
theorem _root_.L2.PGs.of {e:List Expr}{t t':TGs} (h:PGs X e t) (f:∀ v σ H Q,t' v σ H Q->t v σ H Q):PGs X e t':=fun pins s σ H v u Q I r q=>h pins s σ H v u Q I r (f v σ H Q q)
theorem _root_.L2.OpR.of {f:Value->Value->Sem Value}{r r':R2} (h:OpR X f r) (g:∀ x y H Q,r' x y H Q->r x y H Q):OpR X f r':=fun pins s σ H x y v u Q I rx ry q=>h pins s σ H x y v u Q I rx ry (g x y H Q q)
theorem _root_.L2.CallR.of {f:Value}{r r':List V->Hp->VK->Prop} (h:CallR X f r) (g:∀ x H Q,r' x H Q->r x H Q):CallR X f r':=fun pins s σ H x u Q I rx q=>h pins s σ H x u Q I rx (g x H Q q)
variable {fa fb fc:CE}
theorem Qdk (i:Nat) {x:Str} (h:PE X (.Name x pos) (tVar i)):SE X (.Name x pos) (cVar i):=h.of fun σ H Q pq44=>by
 obtain⟨ρ,l,st,lr,sr,p⟩:=pq44
 unfold cVar at p
 cases e:l[i]? with
 | none=>rw[e]at p;exact p.elim
 | some o=>
  rw[e]at p
  cases o with
  | none=>exact p.elim
  | some d=>
   obtain⟨v,e1,r⟩:=lr.2 i d e
   exact⟨v,e1,p.ret sr v r⟩
theorem Qdl {i:Int}{j:Nat}:SE X (.Constant (.int i) j pos) (cCon (.int i)):=(Qat (i:=i) (j:=j) (pos:=pos)).of fun σ H Q pq45=>by obtain⟨ρ,l,st,lr,sr,p⟩:=pq45;exact p.ret sr _ (.int i)
theorem Qdm {i:Bool}{j:Nat}:SE X (.Constant (.bool i) j pos) (cCon (.bl i)):=(Qau (b:=i) (j:=j) (pos:=pos)).of fun σ H Q pq46=>by obtain⟨ρ,l,st,lr,sr,p⟩:=pq46;exact p.ret sr _ (.bl i)
theorem Qdn {i:Str}{j:Nat}:SE X (.Constant (.str i) j pos) (cCon (.str i)):=(Qav (x:=i) (j:=j) (pos:=pos)).of fun σ H Q pq47=>by obtain⟨ρ,l,st,lr,sr,p⟩:=pq47;exact p.ret sr _ (.str i)
theorem Qdo {g:D->D->M D}{r:R2} (hr:∀ x y H Q,rOf X.K g x y H Q->r x y H Q):∀ σ H Q,tOf X.K (c2 g fa fb) σ H Q->tOp r (tOf X.K fa) (tOf X.K fb) σ H Q:=fun σ H Q pq48=>
 by obtain⟨ρ,l,st,lr,sr,p⟩:=pq48;exact⟨ρ,l,st,lr,sr,p.bnd.imp fun d st1 ρ1 H1 x1 s1 p1 v rv=>⟨ρ1,l,st1,lr.mono x1,s1,p1.bnd.imp fun e st2 ρ2 H2 x2 s2 p2 u ru=>hr _ _ _ _ ⟨ρ2,st2,d,e,s2,rv.mono x2,ru,p2⟩⟩⟩
theorem Qdp {op:Operator}{g:D->D->M D} (ho:OpR X (binaryOp op) (rOf X.K g)) (ha:SE X a fa) (hb:SE X b fb):SE X (.BinOp a op b pos) (c2 g fa fb):=
 (Qa4 ho ha hb).of (Qdo fun _ _ _ _ h=>h)
theorem Qdq {op:CmpOp}{g:D->D->M D} (ho:OpR X (compareOp op) (rOf X.K g)) (ha:SE X a fa) (hb:SE X b fb) (hm:behindInMarks op b=false):SE X (.Compare a [op] [b] pos) (c2 g fa fb):=
 (Qbi ho ha hb hm).of (Qdo fun _ _ _ _ h=>h)
end
theorem _root_.Exists.el {α β γ:Type}{A B C:α->β->γ->Prop}{G:Prop} (h:∃ a b c,A a b c/\B a b c/\C a b c) (k:∀ a b c,A a b c->B a b c->C a b c->G):G:=by
 obtain⟨ρ,l,st,a,b,c⟩:=h;exact k ρ l st a b c
theorem tOf.el {K:PySem.W.Frag}{f:CE}{σ:St}{H:Hp}{Q:VK}{C:Prop} (h:tOf K f σ H Q) (k:∀ ρ l st,LR K ρ H σ l->SR K ρ H st->Post K ρ H (f l st) (fun d _ ρ' H'=>∀ v,Rep K ρ' H' v d->Q v H')->C):C:=by
 obtain⟨ρ,l,st,a,b,c⟩:=h;exact k ρ l st a b c
theorem ttOf.el {K:PySem.W.Frag}{f:CT}{σ:St}{H:Hp}{Q:Bool->Hp->Prop}{C:Prop} (h:ttOf K f σ H Q) (k:∀ ρ l st,LR K ρ H σ l->SR K ρ H st->Post K ρ H (f l st) (fun b _ _ H'=>Q b H')->C):C:=by
 obtain⟨ρ,l,st,a,b,c⟩:=h;exact k ρ l st a b c
theorem tsOf.el {K:PySem.W.Frag}{c:CS}{σ:St}{H:Hp}{G:Ends}{C:Prop} (h:tsOf K c G σ H) (k:∀ ρ l st,LR K ρ H σ l->SR K ρ H st->Post K ρ H (c l st) (fun f _ ρ' H'=>match f with
 | .next l'=>∀ σ',LR K ρ' H' σ' l'->G.nx σ' H'
 | .ret d=>∀ v,Rep K ρ' H' v d->G.rt v H'
 | .brk l'=>∀ σ',LR K ρ' H' σ' l'->G.bk σ' H'
 | .cnt l'=>∀ σ',LR K ρ' H' σ' l'->G.ct σ' H')->C):C:=by
 obtain⟨ρ,l,st,a,b,c⟩:=h;exact k ρ l st a b c
end MM
namespace MM
open PySem PySem.Spec PyProof.Rows L2
theorem Qdr:∀ (a b:List Int),eqKs (a.map .int) (b.map .int)=decide (a=b)
 | [],[]=>by simp[eqKs]
 | [],_::_=>by simp[eqKs]
 | _::_,[]=>by simp[eqKs]
 | x::xs,y::ys=>by
  rw[List.map_cons,List.map_cons]
  show (eqK (.int x) (.int y) && eqKs _ _)=_
  rw[Qdr xs ys]
  show (decide (x=y) && _)=_
  simp[Bool.decide_and]
theorem Qds:∀ (a b:KI),eqK (itD a) (itD b)=decide (a=b)
 | .inl i,.inl j=>by
  show decide (i=j)=_
  by_cases z:i=j
  ·subst z;simp
  ·rw[decide_eq_false z,decide_eq_false (fun q=>z (by injection q))]
 | .inl i,.inr r=>by rw[decide_eq_false (by simp)];rfl
 | .inr r,.inl i=>by rw[decide_eq_false (by simp)];rfl
 | .inr r,.inr q=>by
  show eqKs (r.map .int) (q.map .int)=_
  rw[Qdr]
  by_cases z:r=q
  ·subst z;simp
  ·rw[decide_eq_false z,decide_eq_false (fun q=>z (by injection q))]
theorem Qdt:∀ (a b:List KI),eqKs (a.map itD) (b.map itD)=decide (a=b)
 | [],[]=>by simp[eqKs]
 | [],_::_=>by simp[eqKs]
 | _::_,[]=>by simp[eqKs]
 | x::xs,y::ys=>by
  rw[List.map_cons,List.map_cons]
  show (eqK (itD x) (itD y) && eqKs _ _)=_
  rw[Qdt xs ys,Qds]
  simp[Bool.decide_and]
theorem Qdu (a b:NK):eqK (stD a) (stD b)=decide (a=b):=Qdt a b
theorem Qdv (a b:Key):eqK (keyD a) (keyD b)=decide (a=b):=by
 cases a<;>cases b<;>simp[keyD,eqK]
theorem Qdw:∀ {ds:List D}{r:List Int},intsK ds=some r->ds=r.map .int
 | [],r,h=>by simp[intsK]at h;subst h;rfl
 | d::ds,r,h=>by
  cases d with
  | int i=>
   unfold intsK at h
   cases e:intsK ds with
   | none=>rw[e]at h;cases h
   | some q=>
    rw[e]at h
    cases h
    rw[List.map_cons,Qdw e]
  | _=>cases h
theorem Qdx:∀ {ds:List D}{r:NK},rowsK ds=some r->ds=r.map itD
 | [],r,h=>by simp[rowsK]at h;subst h;rfl
 | d::ds,r,h=>by
  cases d with
  | tup xs=>
   unfold rowsK at h
   cases e:intsK xs with
   | none=>rw[e]at h;cases h
   | some q=>
    cases e2:rowsK ds with
    | none=>rw[e,e2]at h;cases h
    | some q2=>
     rw[e,e2]at h
     cases h
     rw[List.map_cons,<- Qdx e2]
     show _=D.tup (q.map .int)::ds
     rw[<- Qdw e]
  | int i=>
   unfold rowsK at h
   cases e2:rowsK ds with
   | none=>rw[e2]at h;cases h
   | some q2=>
    rw[e2]at h
    cases h
    rw[List.map_cons,<- Qdx e2];rfl
  | _=>cases h
theorem Qdy {d:D}{r:NK} (h:stK d=some r):d=stD r:=by
 cases d with
 | tup ds=>show D.tup ds=D.tup _;rw[Qdx h]
 | _=>cases h
theorem Qdz {d:D} (h:kOk true d=true):∃ k,d=stD k:=by
 cases e:stK d with
 | none=>
  have:kOk true d=(stK d).isSome:=by cases d<;>rfl
  rw[this,e]at h;cases h
 | some k=>exact⟨k,Qdy e⟩
theorem QdA {d:D} (h:kOk false d=true):∃ k,d=keyD k:=by
 cases d with
 | int i=>exact⟨.inl i,rfl⟩
 | str x=>exact⟨.inr x,rfl⟩
 | _=>cases h
section
variable {X:Cx}{K:PySem.W.Frag}{ρ:List Addr}{H:Hp}{st:Sto}{pins:List (Addr × Obj)}{σ:St}{s:Shared}{a b:Addr}
theorem QdB {k:Key}{v:V} (r:Rep K ρ H v (keyD k)):v=kV k:=by
 cases k with
 | inl i=>cases r;rfl
 | inr x=>cases r;rfl
abbrev KR (K:PySem.W.Frag) (ρ:List Addr) (H:Hp):List (Key × V)->List (D × D)->Prop:=Paired fun (p:Key × V) (q:D × D)=>keyD p.1=q.1/\Rep K ρ H p.2 q.2
def RO (K:PySem.W.Frag) (ρ:List Addr) (H:Hp):Option V->Option D->Prop
 | some v,some d=>Rep K ρ H v d
 | none,none=>True
 | _,_=>False
theorem RO.some_of {o:Option V}{d:D} (h:RO K ρ H o (some d)):∃ v,o=some v/\Rep K ρ H v d:=by
 cases o with
 | none=>exact h.elim
 | some v=>exact⟨v,rfl,h⟩
theorem RO.isSome_eq {o:Option V}{d:Option D} (h:RO K ρ H o d):o.isSome=d.isSome:=by
 cases o<;>cases d<;>first | rfl | exact h.elim
theorem KR.val {es:List (Key × V)}{kvs:List (D × D)} (r:KR K ρ H es kvs) (k:Key):RO K ρ H (valV es k) (lkK kvs (keyD k)):=by
 induction r with
 | nil=>exact True.intro
 | @cons p q ps qs h t ih=>
  obtain⟨h1,h2⟩:=h
  unfold lkK
  rw[List.find?_cons,<- h1,Qdv]
  by_cases e:p.1=k
  ·rw[QcJ e,decide_eq_true e];exact h2
  ·rw[QcK e,decide_eq_false e];exact ih
theorem KR.any {es:List (Key × V)}{kvs:List (D × D)} (r:KR K ρ H es kvs) (k:Key):(es.any fun kv=>decide (kv.1=k))=kvs.any fun p=>eqK p.1 (keyD k):=by
 induction r with
 | nil=>rfl
 | @cons p q ps qs h t ih=>rw[List.any_cons,List.any_cons,ih,<- h.1,Qdv]
theorem KR.put {es:List (Key × V)}{kvs:List (D × D)} (r:KR K ρ H es kvs) (k:Key) {v:V}{d:D} (rv:Rep K ρ H v d):KR K ρ H (L2.putK es k v) (ptK kvs (keyD k) d):=by
 unfold L2.putK ptK
 rw[r.any k]
 by_cases e:(kvs.any fun p=>eqK p.1 (keyD k))=true
 ·rw[if_pos e,if_pos e]
  clear e
  induction r with
  | nil=>exact .nil
  | @cons p q ps qs h t ih=>
   rw[List.map_cons,List.map_cons]
   refine .cons ?_ ih
   rw[<- h.1,Qdv]
   by_cases e:p.1=k
   ·rw[if_pos e,if_pos (decide_eq_true e)];exact⟨rfl,rv⟩
   ·rw[if_neg e,if_neg (by rw[decide_eq_false e];exact Bool.false_ne_true)];exact h
 ·rw[if_neg e,if_neg e]
  exact Paired.snoc r ⟨rfl,rv⟩
theorem KR.up {ρ1:List Addr}{H1:Hp} (x:Up ρ H ρ1 H1) {es:List (Key × V)}{kvs:List (D × D)} (r:KR K ρ H es kvs):KR K ρ1 H1 es kvs:=Paired.mapS r fun _ _ z=>⟨z.1,z.2.up x⟩
theorem KR.length {es:List (Key × V)}{kvs:List (D × D)} (r:KR K ρ H es kvs):es.length=kvs.length:=Paired.length r
abbrev NR (K:PySem.W.Frag) (ρ:List Addr) (H:Hp):List (NK × Addr × V)->List (D × D)->Prop:=Paired fun (p:NK × Addr × V) (q:D × D)=>stD p.1=q.1/\Rep K ρ H (.ref p.2.1) q.1/\Rep K ρ H p.2.2 q.2
abbrev NX:List (NK × Addr × V)->List (NK × Addr × Value)->Prop:=Paired fun (p:NK × Addr × V) (q:NK × Addr × Value)=>p.1=q.1/\p.2.1=q.2.1/\RelV p.2.2 q.2.2
abbrev nkd (X:Cx):HeapKind X.prog X.w NK:=nestKind X.prog X.w
theorem QdC {P:Program}{w:World}:∀ {r:List Int}{vs:List V}{us:List Value},Reps K ρ H vs (r.map .int)->Vals vs us->ItemsAre (intKind P w) r us
 | [],_,_,h,g=>by cases h;cases g;exact .nil
 | i::r,_,_,h,g=>by
  cases h with
  | cons h1 ht=>
   cases h1
   cases g with
   | cons g1 gt=>
    obtain⟨t,e⟩:=g1
    subst e
    exact .cons (by show Value.isInt i (Value.int i t)=true;simp[Value.isInt]) (QdC ht gt)
theorem QdD {r:List Int}{v:V}{u:Value} (I:Inv X pins σ H s) (h:Rep X.K ρ H v (rowD r)) (g:RelV v u):∃ b,u=.ref b/\IsTupleKey (intKind X.prog X.w) s.heap r b:=by
 cases h with
 | @tup b vs ds h q=>
  have e:u=Value.ref b:=g
  subst e
  obtain⟨its,rv,⟨o,h1,h2,n,h3⟩,_⟩:=I.tuple h
  exact⟨b,rfl,o,its.toArray,n,h1,h2,h3,by simpa using QdC q rv⟩
theorem QdE (I:Inv X pins σ H s):∀ {k:NK}{vs:List V}{us:List Value},Reps X.K ρ H vs (k.map itD)->Vals vs us->TIts X.prog X.w s.heap k us
 | [],_,_,h,g=>by cases h;cases g;exact .nil
 | r::k,_,_,h,g=>by
  cases h with
  | cons h1 ht=>
   cases g with
   | cons g1 gt=>
    refine .cons ?_ (QdE I ht gt)
    cases r with
    | inl i=>
     cases (show Rep X.K ρ H _ (.int i) from h1)
     obtain⟨t,e⟩:=g1
     subst e
     exact .one i t
    | inr r=>
     obtain⟨b,e,hb⟩:=QdD I h1 g1
     subst e
     exact .row hb
theorem QdF {k:NK}{v:V}{u:Value} (I:Inv X pins σ H s) (h:Rep X.K ρ H v (stD k)) (g:RelV v u):∃ b,v=.ref b/\u=.ref b/\(nkd X).is s.heap k b:=by
 cases h with
 | @tup b vs ds h q=>
  have e:u=Value.ref b:=g
  subst e
  obtain⟨its,rv,⟨o,h1,h2,n,h3⟩,_⟩:=I.tuple h
  exact⟨b,rfl,rfl,o,its.toArray,n,h1,h2,h3,by simpa using QdE I q rv⟩
theorem QdG {es : List (NK × Addr × V)} {kvs : List (D × D)} (I : Inv X pins σ H s) (e : H a = some (nstO a es)) (r : NR X.K ρ H es kvs) :
  es.length<=sizeLine/\(a == sysModules)=false/\∃ xs,NX es xs/\s.heap.DictOfH (nkd X) a xs/\EpAt s.heap a xs.length:=by
 obtain⟨⟨z,y,xs,rx,o,es',ep,h1,h2,h3,h4,h5,h6⟩,w1,w2⟩:=(show ObjOk X.prog X.w H s.heap a (nstO a es) from I.hok a _ e)
 subst h6
 refine⟨z,y,xs,rx,⟨o,es',_,h1,h2,h3,h4,?_,h5⟩,⟨o,es',h1,h3⟩⟩
 clear h1 h2 h3 h4 h5 e z y w1 w2
 induction rx generalizing kvs with
 | nil=>intro x hx;exact nomatch hx
 | @cons p q ps qs h t ih=>
  cases r with
  | cons g gt=>
   intro x hx
   rcases List.mem_cons.mp hx with e | hx
   ·subst e
    obtain⟨b,e1,_,hb⟩:=QdF I (by rw[g.1];exact g.2.1) (show RelV (.ref p.2.1) (.ref p.2.1) from rfl)
    cases e1
    rw[<- h.1,<- h.2.1]
    exact hb
   ·exact ih gt x hx
theorem QdH {H' : Hp} {h' : Heap} {P : Program} {w : World} {es : List (NK × Addr × V)} {xs : List (NK × Addr × Value)} (z : es.length <= sizeLine) (y : (a == sysModules) = false) (r : NX es xs) (dd : h'.DictOfH (nestKind P w) a xs) (de : EpAt h' a xs.length) :
  ObjOk P w H' h' a (nstO a es):=by
 obtain⟨o,es',ep,h1,h2,h3,h4,_,h5⟩:=dd
 obtain⟨o2,es2,g1,g3⟩:=de
 rw[h1]at g1;cases g1
 rw[h3]at g3;cases g3
 refine⟨⟨z,y,xs,r,o,es',_,h1,h2,h3,h4,h5,rfl⟩,⟨o,h1⟩,?_⟩
 rintro g1 g2 ⟨z,y,xs,r,o,es',ep,h1,h2⟩ k
 exact⟨z,y,xs,r,o,es',ep,k o h1,h2⟩
def valN (es:List (NK × Addr × V)) (k:NK):Option V:=(es.find? fun p=>decide (p.1=k)).map (·.2.2)
def putN (es:List (NK × Addr × V)) (k:NK) (b:Addr) (v:V):List (NK × Addr × V):=if (es.any fun p=>decide (p.1=k))=true then es.map (fun p=>if p.1=k then (p.1,p.2.1,v) else p) else es++[(k,b,v)]
theorem NR.val {es:List (NK × Addr × V)}{kvs:List (D × D)} (r:NR K ρ H es kvs) (k:NK):RO K ρ H (valN es k) (lkK kvs (stD k)):=by
 induction r with
 | nil=>exact True.intro
 | @cons p q ps qs h t ih=>
  obtain⟨h1,_,h2⟩:=h
  unfold lkK valN
  rw[List.find?_cons,List.find?_cons,<- h1,Qdu]
  by_cases e:p.1=k
  ·rw[decide_eq_true e];exact h2
  ·rw[decide_eq_false e];exact ih
theorem NX.val {es:List (NK × Addr × V)}{xs:List (NK × Addr × Value)} (r:NX es xs) (k:NK):RelO (valN es k) ((atKey xs k).map (·.2)):=by
 induction r with
 | nil=>exact True.intro
 | @cons p q ps qs h t ih=>
  obtain⟨h1,_,h2⟩:=h
  unfold atKey valN
  rw[List.find?_cons,List.find?_cons,<- h1]
  by_cases e:p.1=k
  ·rw[decide_eq_true e];exact h2
  ·rw[decide_eq_false e];exact ih
theorem NX.put {es:List (NK × Addr × V)}{xs:List (NK × Addr × Value)} (r:NX es xs) (k:NK) (b:Addr) {v:V}{u:Value} (rv:RelV v u):NX (putN es k b v) (storedH xs k b u):=by
 have e:(es.any fun p=>decide (p.1=k))=(atKey xs k).isSome:=by
  clear rv
  induction r with
  | nil=>rfl
  | @cons p q ps qs h t ih=>
   rw[List.any_cons,ih]
   unfold atKey
   rw[List.find?_cons,<- h.1]
   by_cases e:p.1=k
   ·rw[decide_eq_true e];rfl
   ·rw[decide_eq_false e];rfl
 unfold putN storedH
 rw[e]
 by_cases q:(atKey xs k).isSome=true
 ·rw[if_pos q,if_pos q]
  clear q e
  induction r with
  | nil=>exact .nil
  | @cons p q ps qs h t ih=>
   rw[List.map_cons,List.map_cons]
   refine .cons ?_ ih
   unfold putAt
   by_cases e:p.1=k
   ·rw[if_pos e,if_pos (h.1.symm.trans e)];exact⟨h.1,h.2.1,rv⟩
   ·rw[if_neg e,if_neg (fun z=>e (h.1.trans z))];exact h
 ·rw[if_neg q,if_neg q];exact Paired.snoc r ⟨rfl,rfl,rv⟩
theorem NR.put {es:List (NK × Addr × V)}{kvs:List (D × D)} (r:NR K ρ H es kvs) (k:NK) (b:Addr) {v:V}{d:D} (rk:Rep K ρ H (.ref b) (stD k)) (rv:Rep K ρ H v d):NR K ρ H (putN es k b v) (ptK kvs (stD k) d):=by
 have e:(es.any fun p=>decide (p.1=k))=kvs.any fun p=>eqK p.1 (stD k):=by
  clear rk rv
  induction r with
  | nil=>rfl
  | @cons p q ps qs h t ih=>rw[List.any_cons,List.any_cons,ih,<- h.1,Qdu]
 unfold putN ptK
 rw[e]
 clear e
 by_cases e:(kvs.any fun p=>eqK p.1 (stD k))=true
 ·rw[if_pos e,if_pos e]
  clear e
  induction r with
  | nil=>exact .nil
  | @cons p q ps qs h t ih=>
   rw[List.map_cons,List.map_cons]
   refine .cons ?_ ih
   by_cases e:p.1=k
   ·have z:eqK q.1 (stD k)=true:=by rw[<- h.1,Qdu];exact decide_eq_true e
    rw[if_pos e,if_pos z];exact⟨h.1,h.2.1,rv⟩
   ·have z:¬ eqK q.1 (stD k)=true:=by rw[<- h.1,Qdu,decide_eq_false e];exact Bool.false_ne_true
    rw[if_neg e,if_neg z];exact h
 ·rw[if_neg e,if_neg e]
  exact Paired.snoc r ⟨rfl,rk,rv⟩
theorem NR.up {ρ1:List Addr}{H1:Hp} (x:Up ρ H ρ1 H1) {es:List (NK × Addr × V)}{kvs:List (D × D)} (r:NR K ρ H es kvs):NR K ρ1 H1 es kvs:=Paired.mapS r fun _ _ z=>⟨z.1,z.2.1.up x,z.2.2.up x⟩
theorem NR.length {es:List (NK × Addr × V)}{kvs:List (D × D)} (r:NR K ρ H es kvs):es.length=kvs.length:=Paired.length r
theorem QdI (es:List (NK × Addr × V)) (k:NK) (b:Addr) (v:V):(putN es k b v).length<=es.length + 1:=by
 unfold putN
 split
 ·rw[List.length_map];ac_nf
 ·rw[List.length_append,List.length_cons,List.length_nil];ac_nf
theorem QdJ {n:Nat}{p:Bool × List (D × D)}{s':Sto} (h:getDc n st=.ok p s'):s'=st/\st[n]?=some (.dct p.1 p.2):=by
 unfold getDc at h
 cases e:st[n]? with
 | none=>rw[e]at h;cases h
 | some o=>
  rw[e]at h
  cases o with
  | lst ds=>cases h
  | dct b kvs=>cases h;exact⟨rfl,rfl⟩
theorem Post.getDc {n:Nat}{R:Bool × List (D × D)->Sto->List Addr->Hp->Prop} (h:Post K ρ H (MM.getDc n st) R) (s:SR K ρ H st):∃ b kvs,st[n]?=some (.dct b kvs)/\R (b,kvs) st ρ H:=by
 cases e:MM.getDc n st with
 | ok xs s'=>
  obtain⟨rfl,q⟩:=QdJ e
  rw[e]at h
  exact⟨xs.1,xs.2,q,h ρ H Ex.refl s⟩
 | exc _ _=>rw[e]at h;exact h.elim
 | bad=>rw[e]at h;exact h.elim
theorem QdK {b : Bool} {kvs : List (D × D)} {k d : D} {y : V} {u : Value} {Q : Value -> Shared -> Prop} {E : Value -> Shared -> Prop} {A : Around} (hu : A.units + 2 < cLine) (I : Inv X pins σ H s) (g : ObR X.K ρ H a (.dct b kvs)) (rk : Rep X.K ρ H y k) (hk : kOk b k = true) (hl : lkK kvs k = some d) (ry : RelV y u)
  (h:∀ v w' s',Inv X pins σ H s'->Rep X.K ρ H v d->RelV v w'->Q w' s'):wpAny (model X.prog X.w) A (getItem (.ref a) u) Q E s:=by
 cases b with
 | false=>
  obtain⟨es,e,r⟩:=g
  obtain⟨k,rfl⟩:=QdA hk
  cases QdB rk
  have q:=KR.val r k
  rw[hl]at q
  obtain⟨v,e1,rv⟩:=q.some_of
  exact QcV (by ac_nf) I (by have:=DGet.k (k:=k) e;rw[e1]at this;exact this) ry fun w' s' I' rw'=>h v w' s' I' rv rw'
 | true=>
  obtain⟨es,e,r⟩:=g
  obtain⟨k,rfl⟩:=Qdz hk
  have q:=NR.val r k
  rw[hl]at q
  obtain⟨v,e1,rv⟩:=q.some_of
  obtain⟨_,hd,xs,rx,dd,de⟩:=QdG I e r
  obtain⟨c,e2,e3,hc⟩:=QdF I rk ry
  subst e3
  obtain⟨w',hw,rw'⟩:=RelO.some_of (v:=v) (o:=(atKey xs k).map (·.2)) (by rw[<- e1];exact NX.val rx k)
  obtain⟨p,hp,hp2⟩:=Option.map_eq_some_iff.mp hw
  refine wpAny_getItem_heap (knd:=nkd X) (show A.in1.units + 1 < cLine from hu) hc dd hp ?_
  rw[hp2]
  exact h v w' _ (I.tok _) rv rw'
theorem QdL {b : Bool} {kvs : List (D × D)} {k : D} {y : V} {u : Value} {Q : Value -> Shared -> Prop} {E : Value -> Shared -> Prop} {A : Around} (hu : A.units + 2 < cLine) (I : Inv X pins σ H s) (g : ObR X.K ρ H a (.dct b kvs)) (rk : Rep X.K ρ H y k) (hk : kOk b k = true) (ry : RelV y u)
  (h:∀ s',Inv X pins σ H s'->Q (.bool (lkK kvs k).isSome) s'):wpAny (model X.prog X.w) A (compareOp .In u (.ref a)) Q E s:=by
 cases b with
 | false=>
  obtain⟨es,e,r⟩:=g
  obtain⟨k,rfl⟩:=QdA hk
  cases QdB rk
  rw[<- (KR.val r k).isSome_eq]at h
  exact d_in (by ac_nf) I (DGet.k (k:=k) e) ry h
 | true=>
  obtain⟨es,e,r⟩:=g
  obtain⟨k,rfl⟩:=Qdz hk
  rw[<- (NR.val r k).isSome_eq]at h
  obtain⟨_,hd,xs,rx,dd,de⟩:=QdG I e r
  obtain⟨c,e2,e3,hc⟩:=QdF I rk ry
  subst e3
  refine wpAny_in_heap (knd:=nkd X) (show A.in1.units + 1 < cLine from hu) hc hd dd ?_
  have q:=(NX.val rx k).isSome_eq
  rw[Option.isSome_map]at q
  rw[<- q]
  exact h _ (I.tok _)
theorem QdM {n : Nat} {b : Bool} {kvs : List (D × D)} {k d : D} {y v : V} {u r' : Value} {Q : Unit -> Shared -> Prop} {E : Value -> Shared -> Prop} {A : Around} (hu : A.units + 2 < cLine) (I : Inv X pins σ H s) (sr : SR X.K ρ H st) (ha : ρ[n]? = some a) (hn : st[n]? = some (.dct b kvs))
  (rk:Rep X.K ρ H y k) (hk:kOk b k=true) (hl:kvs.length < sizeLine) (rv:Rep X.K ρ H v d) (ry:RelV y u) (rr:RelV v r')
  (h:∀ H' s',Inv X pins σ H' s'->SR X.K ρ H' (st.set n (.dct b (ptK kvs k d)))->Ex ρ H ρ H'->Q () s'):wpAny (model X.prog X.w) A (setItem (.ref a) u r') Q E s:=by
 have hlt:=(List.getElem?_eq_some_iff.mp hn).1
 have g:=sr.ob n a _ ha hn
 cases b with
 | false=>
  obtain⟨es,e,r⟩:=g
  obtain⟨k,rfl⟩:=QdA hk
  cases QdB rk
  have w:=sr.putO (o':=.dct false (ptK kvs (keyD k) d)) (u':=.dK (L2.putK es k v)) hlt ha e (by show (1:Nat)≠3;decide) rfl ⟨_,Qai,(KR.put r k rv).up ?_⟩
  ·exact QcY (by ac_nf) I (DPut.k (k:=k) e (by rw[KR.length r];exact hl)) ry rr fun s' I'=>h _ s' I' w.1 w.2
  ·refine⟨⟨[],by simp⟩,fun c o no q=>?_,fun c o q=>?_⟩
   ·rw[Qaj fun z=>by subst z;rw[e]at q;cases q;exact nomatch no];exact q
   ·by_cases z:c=a
    ·subst z;rw[e]at q;cases q;exact⟨_,Qai,rfl⟩
    ·exact⟨o,by rw[Qaj z];exact q,rfl⟩
 | true=>
  obtain⟨es,e,r⟩:=g
  obtain⟨k,rfl⟩:=Qdz hk
  obtain⟨_,hd,xs,rx,dd,de⟩:=QdG I e r
  obtain⟨c,e2,e3,hc⟩:=QdF I rk ry
  subst e2 e3
  have w:=sr.putO (o':=.dct true (ptK kvs (stD k) d)) (u':=nstO a (putN es k c v)) hlt ha e (by show (2:Nat)≠3;decide) rfl ⟨_,Qai,(NR.put r k c rk rv).up ?_⟩
  ·have hz : xs.length <= sizeLine := by
     rw[<- Paired.length rx,NR.length r];ac_nf
   refine Qdg (knd:=nkd X) (show A.in1.units + 1 < cLine from hu) hc dd de hz fun h' dd' de' hs=>h _ _ ?_ w.1 w.2
   have he:∃ q,h'.get? a=some q:=let ⟨q,_,_,hq,_⟩:=dd';⟨q,hq⟩
   refine QcW I (by rw[e];exact True.intro) hs he (QdH ?_ hd (NX.put rx k c rr) dd' de')
   have:=QdI es k c v
   rw[NR.length r]at this
   ac_nf
  ·refine⟨⟨[],by simp⟩,fun c o no q=>?_,fun c o q=>?_⟩
   ·rw[Qaj fun z=>by subst z;rw[e]at q;cases q;exact nomatch no];exact q
   ·by_cases z:c=a
    ·subst z;rw[e]at q;cases q;exact⟨_,Qai,rfl⟩
    ·exact⟨o,by rw[Qaj z];exact q,rfl⟩
end
abbrev NoE:Value->Shared->Prop:=fun _ _=>False
def tests (ifs:List Expr) (env:Env):Sem Bool:=forIn ifs true fun c r=>if r=true then do let ok <- isTrue c env (eval c env);pure (ForInStep.yield ok) else pure (ForInStep.yield r)
section
variable {prog:Program}{w:World}{A:Around}{R:Result->Shared->Prop}{s:Shared}
theorem QdN {elt target iter : Expr} {ifs : List Expr} {scope : Scope} {pos : Pos} {it acc : Value} {env : Env} (I : Nat -> Shared -> Prop)
  (turn:∀ n s,I n s->wpAny (model prog w) A (pyNext it) (fun r s₁=>match r with
   | none=>R (.ok .next) s₁
   | some v => wpAny (model prog w) A (letOwnedTupleGo target it v) (fun _ s₁' => wpAny (model prog w) A (assign target env v) (fun _ s₂ =>
     wpAny (model prog w) A (tests ifs env) (fun ok s₃=>
      if ok=true then wpAny (model prog w) A (eval elt env) (fun x s₄=>
       wpAny (model prog w) A (call (.builtin "list.append") [acc,x]) (fun _ s₅=>∃ m,m < n/\I m s₅) NoE s₄) NoE s₃
      else ∃ m,m < n/\I m s₃) NoE s₂) NoE s₁') NoE s₁) NoE s)
  (n:Nat) (h:I n s):codeAny (model prog w) A (.compLoop (.ListComp elt [⟨target,iter,ifs,0⟩] scope pos) 0 it acc env) R s:=by
 refine codeAny_loop rfl I (fun n s hI=>?_) n h
 show wpAny _ A ((compTurn (.ListComp elt [⟨target,iter,ifs,0⟩] scope pos) 0 it acc env).onRaise (fun x=>do noteFrame x env;theTreesLotGoes x)) _ _ s
 refine wpAny_noted ?_
 rw[compTurn_list]
 refine wpAny_bind (wpAny_standAt (wpAny_bind (wpAny_mono (turn n s hI) (fun r s₁ h₁=>?_) fun _ _ h'=>h'.elim)))
 cases r with
 | none=>exact wpAny_pure h₁
 | some v=>
  refine wpAny_bind (wpAny_mono h₁ (fun _ s₁' h₁'=>?_) fun _ _ h'=>h'.elim)
  refine wpAny_bind (wpAny_mono h₁' (fun _ s₂ h₂=>wpAny_bind (wpAny_mono h₂ (fun ok s₃ h₃=>?_) fun _ _ h'=>h'.elim)) fun _ _ h'=>h'.elim)
  cases ok with
  | false=>exact wpAny_pure ⟨rfl,h₃⟩
  | true=>
   exact wpAny_bind (wpAny_bind (wpAny_mono h₃ (fun x s₄ h₄=>wpAny_bind (wpAny_mono h₄ (fun _ s₅ h₅=>wpAny_pure (wpAny_pure ⟨rfl,h₅⟩)) fun _ _ h'=>h'.elim)) fun _ _ h'=>h'.elim))
end
def clOf:List (Str × NameKind)->List (Str × Addr)->List (Str × Addr)->List (Str × Addr)
 | [],_,acc=>acc
 | (n,k)::r,cells,acc=>clOf r cells (if k == .free then (match cells.lookup n with | some c=>(n,c)::acc | none=>acc) else acc)
theorem QdO {env : Env} : ∀ (names : List (Str × NameKind)) (acc : List (Str × Addr)), (∀ x, (x, NameKind.free) ∈ names -> ∃ c, env.cells.lookup x = some c) ->
  (forIn names acc fun (x:Str × NameKind) r=>if (x.2 == NameKind.free)=true then (do let a <- cellOf env x.1;pure (ForInStep.yield ((x.1,a)::r)):Sem _) else pure (ForInStep.yield r))=(pure (clOf names env.cells acc):Sem _)
 | [],acc,_=>rfl
 | (n,k)::r,acc,h=>by
  rw[List.forIn_cons]
  by_cases hk:(k == NameKind.free)=true
  ·have e:k=.free:=by simpa using hk
   subst e
   obtain⟨c,hc⟩:=h n List.mem_cons_self
   have q:cellOf env n=pure c:=by unfold cellOf;rw[hc]
   simp only[beq_self_eq_true,if_true,q]
   unfold clOf
   simp only[beq_self_eq_true,if_true,hc]
   exact QdO r ((n,c)::acc) fun x hx=>h x (List.mem_cons_of_mem _ hx)
  ·simp only[hk,if_false]
   unfold clOf
   simp only[hk,if_false]
   exact QdO r acc fun x hx=>h x (List.mem_cons_of_mem _ hx)
theorem QdP {scope:Scope}{env:Env} (h:∀ x,(x,NameKind.free)∈scope.names->∃ c,env.cells.lookup x=some c):closureFor scope env=pure (clOf scope.names env.cells []):=by
 have q:=QdO (env:=env) scope.names [] h
 simp only[closureFor]
 exact congrArg (fun m=>m >>= fun cs=>pure cs) q
theorem QdQ {α:Type}{x y:Str}{v:α}{r:List (Str × α)} (h:x≠y):List.lookup x ((y,v)::r)=r.lookup x:=by
 rw[List.lookup_cons]
 have:(x == y)=false:=beq_eq_false_iff_ne.mpr h
 rw[this]
theorem lookup_cons_self {α:Type}{x:Str}{v:α}{r:List (Str × α)}:List.lookup x ((x,v)::r)=some v:=by
 rw[List.lookup_cons,beq_self_eq_true]
theorem clOf_of {cells:List (Str × Addr)}{x:Str}{c:Addr}:∀ (names:List (Str × NameKind)) (acc:List (Str × Addr)),(clOf names cells acc).lookup x=some c->cells.lookup x=some c\/acc.lookup x=some c
 | [],acc,h=>.inr h
 | (n,k)::r,acc,h=>by
  unfold clOf at h
  rcases clOf_of r _ h with q | q
  ·exact .inl q
  ·split at q
   ·split at q
    ·rename_i c' hc
     by_cases hx:x=n
     ·subst hx
      rw[lookup_cons_self]at q
      cases q
      exact .inl hc
     ·rw[QdQ hx]at q;exact .inr q
    ·exact .inr q
   ·exact .inr q
theorem QdR {cells:List (Str × Addr)}{x:Str}{c:Addr} (hc:cells.lookup x=some c):∀ (names:List (Str × NameKind)) (acc:List (Str × Addr)),((x,NameKind.free)∈names\/acc.lookup x=some c)->(∀ d,acc.lookup x=some d->d=c)->(clOf names cells acc).lookup x=some c
 | [],acc,h,_=>by
  rcases h with h | h
  ·cases h
  ·exact h
 | (n,k)::r,acc,h,ha=>by
  unfold clOf
  by_cases hx:x=n
  ·subst hx
   by_cases hk:(k == NameKind.free)=true
   ·rw[if_pos hk,hc]
    exact QdR hc r _ (.inr lookup_cons_self) fun d hd=>by rw[lookup_cons_self]at hd;cases hd;rfl
   ·rw[if_neg hk]
    refine QdR hc r _ ?_ ha
    rcases h with h | h
    ·rcases List.mem_cons.mp h with e | e
     ·cases e;exact absurd rfl hk
     ·exact .inl e
    ·exact .inr h
  ·have step : ∀ acc', acc'.lookup x = acc.lookup x -> (clOf r cells acc').lookup x = some c := fun acc' e => by
     refine QdR hc r acc' ?_ (by rw[e];exact ha)
     rcases h with h | h
     ·rcases List.mem_cons.mp h with z | z
      ·cases z;exact absurd rfl hx
      ·exact .inl z
     ·exact .inr (by rw[e];exact h)
   refine step _ ?_
   split
   ·split
    ·exact QdQ hx
    ·rfl
   ·rfl
theorem cellsFrom_of {x:Str}{c:Addr}:∀ (names:List (Str × NameKind)) (n:Nat) (acc:List (Str × Addr)),(cellsFrom n names acc).lookup x=some c->n<=c\/acc.lookup x=some c
 | [],_,_,h=>.inr h
 | (y,k)::r,n,acc,h=>by
  unfold cellsFrom at h
  split at h
  ·rcases cellsFrom_of r (n + 1) _ h with q | q
   ·exact .inl (by ac_nf)
   ·by_cases hx:x=y
    ·subst hx;rw[lookup_cons_self]at q;cases q;exact .inl (Nat.le_refl _)
    ·rw[QdQ hx]at q;exact .inr q
  ·exact cellsFrom_of r n acc h
theorem QdS : ∀ (names : List (Str × NameKind)) (n : Nat) (acc : List (Str × Addr)), (∀ x y c, acc.lookup x = some c -> acc.lookup y = some c -> x = y) -> (∀ x c, acc.lookup x = some c -> c < n) ->
  ∀ x y c,(cellsFrom n names acc).lookup x=some c->(cellsFrom n names acc).lookup y=some c->x=y
 | [],_,_,hi,_=>hi
 | (z,k)::r,n,acc,hi,hb=>by
  unfold cellsFrom
  split
  ·refine QdS r (n + 1) _ (fun x y c h1 h2=>?_) (fun x c h=>?_)
   ·by_cases hx:x=z
    ·subst hx
     rw[lookup_cons_self]at h1;cases h1
     by_cases hy:y=x
     ·exact hy.symm
     ·rw[QdQ hy]at h2
      exact absurd (hb y _ h2) (Nat.lt_irrefl _)
    ·rw[QdQ hx]at h1
     by_cases hy:y=z
     ·subst hy
      rw[lookup_cons_self]at h2;cases h2
      exact absurd (hb x _ h1) (Nat.lt_irrefl _)
     ·rw[QdQ hy]at h2;exact hi x y c h1 h2
   ·by_cases hx:x=z
    ·subst hx;rw[lookup_cons_self]at h;cases h;exact Nat.lt_succ_self _
    ·rw[QdQ hx]at h;exact Nat.lt_succ_of_lt (hb x c h)
  ·exact QdS r n acc hi hb
theorem cellsFrom_cell {x:Str}{c:Addr}:∀ (names:List (Str × NameKind)) (h:Heap) (acc:List (Str × Addr)),(cellsFrom h.objs.size names acc).lookup x=some c->acc.lookup x=some c\/((pushCells h names).IsCell c none/\h.objs.size<=c)
 | [],_,_,q=>.inl q
 | (y,k)::r,h,acc,q=>by
  unfold cellsFrom at q
  unfold pushCells
  split at q
  ·rename_i hk
   rw[if_pos hk]
   rw[<- Heap.size_push h { cls:=.type "cell",data:=.cell none }]at q
   rcases cellsFrom_cell r _ _ q with z | z
   ·by_cases hx:x=y
    ·subst hx;rw[lookup_cons_self]at z;cases z
     refine .inr ⟨?_,Nat.le_refl _⟩
     refine⟨{ cls:=.type "cell",data:=.cell none },pushCells_keeps r _ _ _ (Heap.get?_push_size _ rfl),rfl⟩
    ·rw[QdQ hx]at z;exact .inl z
   ·refine .inr ⟨z.1,?_⟩
    have:=z.2
    rw[Heap.size_push]at this
    ac_nf
  ·rename_i hk
   rw[if_neg hk]
   exact cellsFrom_cell r h acc q
theorem QdT {x:Str}:∀ (names:List (Str × NameKind)) (n:Nat) (acc:List (Str × Addr)),(x,NameKind.cell)∉names->(cellsFrom n names acc).lookup x=acc.lookup x
 | [],_,_,_=>rfl
 | (y,k)::r,n,acc,h=>by
  unfold cellsFrom
  split
  ·rename_i hk
   have e:k=.cell:=by simpa using hk
   subst e
   have hx:x≠y:=fun z=>h (by rw[z];exact List.mem_cons_self)
   rw[QdT r (n + 1) _ fun z=>h (List.mem_cons_of_mem _ z),QdQ hx]
  ·exact QdT r n acc fun z=>h (List.mem_cons_of_mem _ z)
theorem QdU {α β:Type} (f:Str->α->β) (x:Str):∀ (l:List (Str × α)),(l.map fun p=>(p.1,f p.1 p.2)).lookup x=(l.lookup x).map (f x)
 | []=>rfl
 | (y,v)::r=>by
  by_cases hx:x=y
  ·subst hx
   rw[List.map_cons,lookup_cons_self,lookup_cons_self];rfl
  ·rw[List.map_cons,QdQ hx,QdQ hx];exact QdU f x r
theorem QdV (scope : Scope) (env : Env) (x : Str) :
  (relabel scope env).names.lookup x=(scope.names.lookup x).map fun k=>if (k == NameKind.free && env.scope.kind == .function && env.kindOf x == some .cell)=true then .cell else k:=by
 have e:(relabel scope env).names=scope.names.map fun p=>(p.1,(fun (n:Str) k=>if (k == NameKind.free && env.scope.kind == .function && env.kindOf n == some .cell)=true then NameKind.cell else k) p.1 p.2):=by
  show scope.names.map _=_
  congr 1
  funext p
  obtain⟨n,k⟩:=p
  dsimp only
  split<;>rfl
 rw[e]
 exact QdU (fun (n:Str) k=>if (k == NameKind.free && env.scope.kind == .function && env.kindOf n == some .cell)=true then NameKind.cell else k) x scope.names
theorem QdW {M : Model} {A : Around} {E : Value -> Shared -> Prop} {s : Shared} {scope : Scope} {globals : Addr} {cl : List (Str × Addr)} {qual : Str} {env : Env} {Q : Env -> Shared -> Prop}
  (h:Q { scope:=scope,locals:=s.heap.objs.size,globals:=globals,cells:=cellsFrom (s.heap.objs.size + 1) scope.names cl,qual:=qual,func:=none,code:=env.code,frame:=env.frame,builtins:=env.builtins }
   { s with heap:=pushCells (s.heap.push { cls:=.type "dict",data:=.dict #[] }) scope.names }):wpAny M A (newFunctionEnv scope globals cl [] qual none .none (some env)) Q E s:=by
 simp only[newFunctionEnv,Option.isSome_some,if_true]
 refine wpAny_bind (wpAny_alloc ?_)
 refine wpAny_bind (wpAny_layCells _ (fun name kind cells=>by cases hkc:kind == NameKind.cell<;>simp[hkc]) _ _ _ _ ?_)
 rw[show ({ s with heap:=s.heap.push { cls:=.type "dict",data:=.dict #[] } }:Shared).heap.objs.size=s.heap.objs.size + 1 from Heap.size_push ..]
 exact wpAny_bind (wpAny_pure (wpAny_pure h))
def cxC (X:Cx) (N:List Str) (scope:Scope) (fp:List Addr) (s:Shared) (H:Hp):Cx where
 prog:=X.prog
 w:=X.w
 K:=X.K
 mg:=X.mg
 base:=X.base
 A:=X.A
 N:=N
 s₀:=s
 H₀:=H
 env:=compEnvC scope (cellsFrom (s.heap.objs.size + 1) scope.names (clOf scope.names X.env.cells [])) s.heap.objs.size X.env
 outer:=X.stack
 stack:=X.stack
 ex:=fp
 fn:=fun x=>decide (scope.names.lookup x=some .local\/scope.names.lookup x=some .cell)
 calm:=X.calm
 pn:=[]
 xe:=NoE
structure CompScope (X:Cx) (scope:Scope):Prop where
 kind:scope.kind=.function
 names:∀ x∈scope.names,x.2=.local->scope.names.lookup x.1=some .local
 free:∀ x,(x,NameKind.free)∈scope.names->X.env.kindOf x=some .cell\/X.env.kindOf x=some .free
 once:∀ x,(x,NameKind.free)∈scope.names->(x,NameKind.cell)∉scope.names
 own:∀ x,(x,NameKind.free)∈scope.names->scope.names.lookup x≠some .local
def capV (n:Nat) (ix:List Nat) (σ:St):St:=List.replicate n none++ix.map fun i=>(σ[i]?).join
structure CompNames (X:Cx) (scope:Scope) (N:List Str) (n:Nat) (ix:List Nat):Prop where
 len:N.length=n + ix.length
 cap:∀ (j i:Nat) (x:Str),ix[j]?=some i->N[n + j]?=some x->X.N[i]?=some x/\scope.names.lookup x=some .free
theorem clOf_mem {cells:List (Str × Addr)}{x:Str}{c:Addr}:∀ (names:List (Str × NameKind)) (acc:List (Str × Addr)),(clOf names cells acc).lookup x=some c->(x,NameKind.free)∈names\/acc.lookup x=some c
 | [],acc,h=>.inr h
 | (n,k)::r,acc,h=>by
  unfold clOf at h
  rcases clOf_mem r _ h with q | q
  ·exact .inl (List.mem_cons_of_mem _ q)
  ·split at q
   ·rename_i hk
    have e:k=.free:=by simpa using hk
    subst e
    split at q
    ·by_cases hx:x=n
     ·subst hx;exact .inl List.mem_cons_self
     ·rw[QdQ hx]at q;exact .inr q
    ·exact .inr q
   ·exact .inr q
theorem QdX {X:Cx}{scope:Scope}{cells:List (Str × Addr)}{x:Str}{c:Addr} (h:(clOf scope.names cells []).lookup x=some c) (hf:scope.names.lookup x=some .local\/scope.names.lookup x=some .cell) (S:CompScope X scope):False:=by
 rcases clOf_mem _ _ h with q | q
 ·rcases hf with z | z
  ·exact S.own x q z
  ·exact S.once x q (PySem.mem_of_lookup z)
 ·cases q
section
variable {X:Cx}{pins:List (Addr × Obj)}{σ:St}{H:Hp}{s:Shared}{scope:Scope}{N:List Str}{fp:List Addr}
theorem QdY (I:Inv X pins σ H s) {x:Str}{c:Addr} (h:(clOf scope.names X.env.cells []).lookup x=some c):X.env.cells.lookup x=some c/\c < s.heap.objs.size/\(∃ v,s.heap.IsCell c v)/\H c=none:=by
 rcases clOf_of _ _ h with q | q
 ·obtain⟨v,z⟩:=I.cell x c q
  exact⟨q,z.lt,⟨v,z⟩,I.freeC x c q⟩
 ·cases q
theorem QdZ (I:Inv X pins σ H s) (S:CompScope X scope) (hfp:∀ b∈fp,FpOk X pins H b) (hlt:∀ b∈fp,b < s.heap.objs.size):(cxC X N scope fp s H).Ok:=by
 have inj:∀ x y c,(cellsFrom (s.heap.objs.size + 1) scope.names (clOf scope.names X.env.cells [])).lookup x=some c->(cellsFrom (s.heap.objs.size + 1) scope.names (clOf scope.names X.env.cells [])).lookup y=some c->x=y:=
  QdS scope.names _ _ (fun x y c h1 h2=>I.ok.inj x y c (QdY I h1).1 (QdY I h2).1) fun x c h=>Nat.lt_succ_of_lt (QdY I h).2.1
 refine⟨I.ok.mod,S.kind,I.ok.glob,I.ok.blt,Nat.le_refl _,inj,fun x hx=>?_,fun x c hf hc=>?_,I.ok.hd,I.ok.frames,.inl rfl,fun b hb=>?_,I.bs,Nat.le_trans I.ok.bsz I.sz,fun b o e hb=>?_,fun b hb z=>?_,I.stack,I.stkFree⟩
 ·have hx':(relabel scope X.env).names.lookup x=some .cell\/(relabel scope X.env).names.lookup x=some .free:=hx
  rw[QdV]at hx'
  cases e:scope.names.lookup x with
  | none=>rw[e]at hx';rcases hx' with z | z<;>cases z
  | some k=>
   refine Option.isSome_iff_exists.mp (PySem.W.cellsFrom_some scope.names _ _ ?_)
   cases k with
   | cell=>exact .inl e
   | free=>
    have hm:=PySem.mem_of_lookup e
    obtain⟨c,hc⟩:=I.ok.has x (S.free x hm)
    exact .inr (by rw[QdR hc scope.names [] (.inl hm) fun d hd=>by cases hd];rfl)
   | _=>
    rw[e]at hx'
    rcases hx' with z | z<;>(simp at z)
 ·have hc':(cellsFrom (s.heap.objs.size + 1) scope.names (clOf scope.names X.env.cells [])).lookup x=some c:=hc
  rcases cellsFrom_of _ _ _ hc' with q | q
  ·exact Nat.le_of_succ_le q
  ·exfalso
   have hf':scope.names.lookup x=some .local\/scope.names.lookup x=some .cell:=of_decide_eq_true hf
   exact QdX q hf' S
 ·obtain⟨f0,f1,f2,f3,f4,f5⟩:=hfp b hb
  refine⟨Nat.ne_of_lt (hlt b hb),fun x c hc z=>?_⟩
  have hc':(cellsFrom (s.heap.objs.size + 1) scope.names (clOf scope.names X.env.cells [])).lookup x=some c:=hc
  rcases cellsFrom_of _ _ _ hc' with q | q
  ·rw[z]at q
   exact absurd (Nat.lt_of_lt_of_le (Nat.lt_succ_of_lt (hlt b hb)) q) (Nat.lt_irrefl _)
  ·exact f4 x c (QdY I q).1 z
 ·obtain⟨f0,f1,f2,f3,f4,f5⟩:=hfp b hb
  rcases f3 with z | z
  ·exact I.ok.noex b o e z
  ·exact absurd (Nat.lt_of_lt_of_le (Nat.lt_of_lt_of_le (Heap.lt_size e) I.ok.bsz) z) (Nat.lt_irrefl _)
 ·obtain⟨f0,f1,f2,f3,f4,f5⟩:=hfp b hb
  rcases List.mem_cons.mp (I.stkSub b z) with q | q
  ·exact f1 q
  ·exact f2 q
abbrev heapC (h:Heap) (scope:Scope):Heap:=pushCells (h.push { cls:=.type "dict",data:=.dict #[] }) scope.names
theorem Qd0 (h:Heap) (scope:Scope):∀ b o,h.get? b=some o->(heapC h scope).get? b=some o:=fun b o e=>pushCells_keeps _ _ b o (Heap.get?_push_of_some _ e)
theorem Qd1 {n : Nat} {ix : List Nat} (I : Inv X pins σ H s) (S : CompScope X scope) (T : CompNames X scope N n ix) (hfp : ∀ b ∈ fp, FpOk X pins H b) (hlt : ∀ b ∈ fp, b < s.heap.objs.size) :
  Inv (cxC X N scope fp s H) [] (capV n ix σ) H { s with heap:=heapC s.heap scope }:=by
 have kp:=Qd0 s.heap scope
 have hns:(heapC s.heap scope).Ns s.heap.objs.size fun _=>none:=(Heap.Ns.new s.heap (.type "dict")).keeps (pushCells_keeps _ _)
 have cells : ∀ x c, (cellsFrom (s.heap.objs.size + 1) scope.names (clOf scope.names X.env.cells [])).lookup x = some c ->
   (∃ v,(heapC s.heap scope).IsCell c v)/\H c=none:=fun x c h=>by
  have h':(cellsFrom (s.heap.push { cls:=.type "dict",data:=.dict #[] }).objs.size scope.names (clOf scope.names X.env.cells [])).lookup x=some c:=by rw[Heap.size_push];exact h
  rcases cellsFrom_cell _ _ _ h' with q | ⟨q,z⟩
  ·obtain⟨_,_,⟨v,hv⟩,hn⟩:=QdY I q
   exact⟨⟨v,hv.keeps kp⟩,hn⟩
  ·refine⟨⟨none,q⟩,I.hok.fresh ?_⟩
   rw[Heap.size_push]at z
   ac_nf
 refine⟨QdZ I S hfp hlt,rfl,I.bare,Un.kept kp,⟨_,hns,fun i x v h1 h2 h3=>?_⟩,fun x c h=>(cells x c h).1,I.hok.fresh (Nat.le_refl _),fun x c h=>(cells x c h).2,fun p hp=>absurd (show p∈([]:List (Addr × Obj)) from hp) (by simp),I.hok.kept kp,?_⟩
 ·have h1':N[i]?=some x:=h1
  have h2':(List.replicate n none++ix.map fun i=>(σ[i]?).join)[i]?=some (some v):=h2
  have hi:n<=i:=Nat.le_of_not_lt fun z=>by
   rw[List.getElem?_append_left (by simpa using z),List.getElem?_replicate]at h2'
   split at h2'<;>cases h2'
  rw[List.getElem?_append_right (by simpa using hi),List.length_replicate,List.getElem?_map]at h2'
  cases e:ix[i - n]? with
  | none=>rw[e]at h2';cases h2'
  | some k=>
   rw[e]at h2'
   have hj:(σ[k]?).join=some v:=Option.some.inj h2'
   have hk:σ[k]?=some (some v):=by
    cases q:σ[k]? with
    | none=>rw[q]at hj;cases hj
    | some o=>rw[q]at hj;exact congrArg some hj
   obtain⟨hN,hfr⟩:=T.cap (i - n) k x e (by rw[show n + (i - n)=i by ac_nf];exact h1')
   have hm:=PySem.mem_of_lookup hfr
   have kx:=S.free x hm
   obtain⟨m,hn,hl⟩:=I.loc
   obtain⟨u,ru,lk⟩:=hl k x v hN hk (by
    rcases kx with z | z
    ·exact .inr (.inl z)
    ·exact .inr (.inr z))
   have lk2:∃ c,X.env.cells.lookup x=some c/\s.heap.IsCell c (some u):=by
    rcases lk with ⟨z,_⟩ | ⟨_,c,hc,q⟩
    ·rcases kx with y | y<;>(rw[y]at z;cases z)
    ·exact⟨c,hc,q⟩
   obtain⟨c,hc,q⟩:=lk2
   refine⟨u,ru,.inr ⟨?_,c,?_,q.keeps kp⟩⟩
   ·show (relabel scope X.env).names.lookup x=some .cell\/(relabel scope X.env).names.lookup x=some .free
    rw[QdV,hfr,Option.map_some]
    by_cases hq:(NameKind.free == NameKind.free && X.env.scope.kind == .function && X.env.kindOf x == some .cell)=true
    ·rw[if_pos hq];exact .inl rfl
    ·rw[if_neg hq];exact .inr rfl
   ·show (cellsFrom (s.heap.objs.size + 1) scope.names (clOf scope.names X.env.cells [])).lookup x=some c
    rw[QdT _ _ _ (S.once x hm)]
    exact QdR hc scope.names [] (.inl hm) fun d hd=>by cases hd
 ·show (List.replicate n none++ix.map fun i=>(σ[i]?).join).length=N.length
  rw[List.length_append,List.length_replicate,List.length_map,T.len]
def tComp (wi:TI) (n:Nat) (ix:List Nat) (g:TG) (tt:TT) (te:TE):TE:=fun σ H Q=>wi σ H fun J H1=>∀ l,H1 l=none->∃ W:Nat->Nat->St->Hp->Prop,(∃ m,W 0 m (capV n ix σ) (upd H1 l (.lst []))) /\
 ∀ i m σ' H',W i m σ' H'->(J.stop i H'/\Q (.ref l) H')\/(J.go i H'/\∀ x H2,J.yld i H' x H2->g x σ' H2 fun σ2 H3=>tt σ2 H3 fun b H4=>
  if b=true then te σ2 H4 fun v H5=>∃ ys,H5 l=some (.lst ys)/\ys.length < sizeLine/\∃ m',m' < m/\W (i + 1) m' σ2 (upd H5 l (.lst (ys++[v]))) else ∃ m',m' < m/\W (i + 1) m' σ2 H4)
def PIfs (X:Cx) (ifs:List Expr) (tt:TT):Prop:=
 ∀ (pins:List (Addr × Obj)) (s:Shared) (σ:St) (H:Hp) (Q:Bool->Hp->Prop),Inv X pins σ H s->tt σ H Q->wpAny (model X.prog X.w) X.A (tests ifs X.env) (TP X pins σ Q) X.xe s
theorem Qd2:PIfs X [] (fun _ H Q=>Q true H):=fun pins s σ H Q I h=>wpAny_tests_nil ⟨H,I,h⟩
theorem Qd3 {c:Expr}{tt:TT} (h:PT X c tt):PIfs X [c] tt:=fun pins s σ H Q I q=>wpAny_tests_one (h pins s σ H Q I q)
structure CFree (X:Cx) (pins:List (Addr × Obj)) (C:Addr) (H:Hp) (s:Shared):Prop where
 ns:∃ m,s.heap.Ns C m
 free:H C=none
 loc:C≠X.env.locals
 cell:∀ x c,X.env.cells.lookup x=some c->c≠C
 sz:X.s₀.heap.objs.size<=C
 pin:∀ p∈X.pn++pins,p.1≠C
theorem CFree.go {C:Addr}{h':Heap} (c:CFree X pins C H s) (I:Inv X pins σ H s) (hs:Heap.SameBut C s.heap h'):Inv X pins σ H { s with heap:=h' }:=
 I.turned (t':=s.toks) (fun b o hb e=>(hs.2 b hb).trans e) c.free c.loc (.inr c.sz) c.cell c.pin
theorem Qd4 {elt target iter : Expr} {ifs : List Expr} {pos : Pos} {n : Nat} {ix : List Nat} {wi : TI} {g : TG} {tt : TT} {te : TE} {use : Option (Value -> Sem Unit)} {Q : Value -> Shared -> Prop} {QH : VK}
  (hc:X.calm=true) (S:CompScope X scope) (T:CompNames X scope N n ix) (hi:PI X target iter wi)
  (blk:∀ (fp:List Addr) (s:Shared) (H:Hp),PG (cxC X N scope fp s H) target g/\PIfs (cxC X N scope fp s H) ifs tt/\PE (cxC X N scope fp s H) elt te)
  (hs:∀ x,foldedSetIterable iter X.env x=pure x) (I:Inv X pins σ H s) (h:tComp wi n ix g tt te σ H QH)
  (fin:∀ (l C:Addr) (H':Hp) (s':Shared),Inv X pins σ H' s'->QH (.ref l) H'->CFree X pins C H' s'->compPost (model X.prog X.w) X.A X.xe use Q (.ref l) C (.ok .next) s'):
  wpAny (model X.prog X.w) X.A (comprehension (.ListComp elt [⟨target,iter,ifs,0⟩] scope pos) scope X.env (firstIterPos [⟨target,iter,ifs,0⟩] pos) (newList []) false (eval iter X.env) use) Q X.xe s:=by
 have hclos:closureFor scope X.env=pure (clOf scope.names X.env.cells []):=QdP fun x hx=>I.ok.has x (S.free x hx)
 refine wpAny_comprehension_free rfl hs hclos S.kind S.names ?_
 refine thn (hi pins s σ H _ I h) fun v s1 h1=>thn h1 fun itv s2 h2=>?_
 obtain⟨it,fp,tn,J,H2,rfl,I2,TT,st2,f2,rest⟩:=h2
 refine wpAny_newObj_type (hd:=by size_fits) ?_
 have hf2:H2 s2.heap.objs.size=none:=I2.hok.fresh (Nat.le_refl _)
 obtain⟨W,⟨m0,w0⟩,turn⟩:=rest _ hf2
 have fl:∀ b∈fp,b < s2.heap.objs.size:=fun b hb=>by
  obtain⟨o,e,_⟩:=TT.obj _ _ st2 b hb
  exact Heap.lt_size e
 have f3:∀ b∈fp,FpOk X pins (upd H2 s2.heap.objs.size (.lst [])) b:=fun b hb=>by
  obtain⟨f0,fr⟩:=f2 b hb
  refine⟨?_,fr⟩
  rw[Qaj (Nat.ne_of_lt (fl b hb))]
  exact f0
 have I3:Inv X pins σ (upd H2 s2.heap.objs.size (.lst [])) { s2 with heap:=s2.heap.push { cls:=.type "list",dict:=none,data:=.seq ([]:List Value).toArray } }:=
  I2.laid (t':=s2.toks) (fun b o e=>Heap.get?_push_of_some _ e) (Nat.le_refl _) ⟨Nat.zero_le _,[],0,.nil,Heap.get?_push_size _ rfl⟩
 have tn3:tn 0 (s2.heap.push { cls:=.type "list",dict:=none,data:=.seq ([]:List Value).toArray }):=TT.keep _ _ _ st2 fun b hb o e=>Heap.get?_push_of_some _ e
 have fl3:∀ b∈fp,b < (s2.heap.push { cls:=.type "list",dict:=none,data:=.seq ([]:List Value).toArray }).objs.size:=fun b hb=>by
  rw[Heap.size_push];exact Nat.lt_succ_of_lt (fl b hb)
 generalize s2.heap.objs.size=l at *
 generalize hs3:({ s2 with heap:=s2.heap.push { cls:=.type "list",dict:=none,data:=.seq ([]:List Value).toArray } }:Shared)=s3 at *
 have e3:s2.heap.push { cls:=.type "list",dict:=none,data:=.seq ([]:List Value).toArray }=s3.heap:=by rw[<- hs3]
 rw[e3]at tn3 fl3
 generalize upd H2 l (.lst [])=H3 at *
 refine QdW ?_
 have I4:=Qd1 (N:=N) (n:=n) (ix:=ix) I3 S T f3 fl3
 obtain⟨bg,bt,be⟩:=blk fp s3 H3
 have tn4:tn 0 (heapC s3.heap scope):=TT.keep _ _ _ tn3 fun b hb o e=>Qd0 _ _ _ _ e
 have fr4:∀ b∈fp,H3 b=none:=fun b hb=>(f3 b hb).1
 show codeAny (model X.prog X.w) X.A (.compStart (.ListComp elt [⟨target,iter,ifs,0⟩] scope pos) 0 (.ref it) (.ref l) (cxC X N scope fp s3 H3).env) (compPost (model X.prog X.w) X.A X.xe use Q (.ref l) s3.heap.objs.size) { s3 with heap:=heapC s3.heap scope }
 have fpx:∀ {σ':St}{H':Hp}{s':Shared},Inv (cxC X N scope fp s3 H3) [] σ' H' s'->(∀ b∈fp,H' b=none)->∀ b∈fp,FpOk (cxC X N scope fp s3 H3) [] H' b:=fun I' hn b hb=>by
  have q:=I'.ok.exf b hb
  exact⟨hn b hb,q.1,I'.ok.exfs b hb,.inl hb,q.2,fun p hp=>absurd (show p∈([]:List (Addr × Obj)) from hp) (by simp)⟩
 have hc':(cxC X N scope fp s3 H3).calm=true:=hc
 have loop:codeAny (model X.prog X.w) X.A (.compLoop (.ListComp elt [⟨target,iter,ifs,0⟩] scope pos) 0 (.ref it) (.ref l) (cxC X N scope fp s3 H3).env) (compPost (model X.prog X.w) X.A X.xe use Q (.ref l) s3.heap.objs.size) { s3 with heap:=heapC s3.heap scope }:=by
  refine QdN (fun k s'=>∃ i σ' H',Inv (cxC X N scope fp s3 H3) [] σ' H' s'/\tn i s'.heap/\(∀ b∈fp,H' b=none)/\W i k σ' H') ?_ m0 ⟨0,_,H3,I4,tn4,fr4,w0⟩
  rintro k s5 ⟨i,σ5,H5,I5,tn5,fr5,w5⟩
  rcases turn i k σ5 H5 w5 with ⟨stop,q⟩ | ⟨go,step⟩
  ·refine thn (TT.done (cxC X N scope fp s3 H3) rfl rfl rfl hc' i [] s5 σ5 H5 NoE I5 (fpx I5 fr5) tn5 stop) fun r s6 pq49=>?_
   obtain⟨hr,I6⟩:=pq49
   subst hr
   have J6:Inv X pins σ H5 s6:=I3.call' I6.os I6.base I6.hok I6.bare fun b hb=>by
    obtain⟨g0,g1,g2,g3,g4,g5⟩:=f3 b hb
    exact⟨g3,g1,g4,g5⟩
   obtain⟨m,hn,_⟩:=I6.loc
   refine fin l s3.heap.objs.size H5 s6 J6 q ⟨⟨m,hn⟩,I6.free,Nat.ne_of_gt I3.lt,fun x c e=>?_,I3.sz,fun p hp=>?_⟩
   ·obtain⟨v,z⟩:=I3.cell x c e
    exact Nat.ne_of_lt z.lt
   ·exact Nat.ne_of_lt (Heap.lt_size (I3.pin p hp).1)
  ·refine thn (TT.item (cxC X N scope fp s3 H3) rfl rfl rfl hc' i [] s5 σ5 H5 NoE I5 (fpx I5 fr5) tn5 go) fun r s6 pq50=>?_
   obtain⟨u,hr,h6⟩:=pq50
   subst hr
   refine thn h6 fun _ s7 pq51=>?_
   obtain⟨x,H7,I7,r7,y7,tn7,fr7⟩:=pq51
   have I7':=I7.pinned (fpx I7 fr7) (TT.obj _ _ tn7)
   refine thn (bg _ s7 σ5 H7 x u _ I7' r7 (step x H7 y7)) fun _ s8 pq52=>?_
   obtain⟨σ8,H8,I8,q8⟩:=pq52
   refine thn (bt _ s8 σ8 H8 _ I8 q8) fun ok s9 pq53=>?_
   obtain⟨H9,I9,q9⟩:=pq53
   have again : ∀ {s' : Shared} {H' : Hp}, Inv (cxC X N scope fp s3 H3) ([] ++ pinsAt fp s7.heap) σ8 H' s' -> (∃ m', m' < k /\ W (i + 1) m' σ8 H') ->
     ∃ m,m < k/\∃ i σ' H',Inv (cxC X N scope fp s3 H3) [] σ' H' s'/\tn i s'.heap/\(∀ b∈fp,H' b=none)/\W i m σ' H':=fun {s' H'} I' pq54=>by
    obtain⟨m',hm,w'⟩:=pq54
    refine⟨m',hm,i + 1,σ8,H',I'.unpinned,TT.keep _ _ _ tn7 fun b hb o e=>(I'.pin (b,o) (List.mem_append_right _ (List.mem_append_right _ (Qa1 hb e)))).1,fun b hb=>?_,w'⟩
    obtain⟨o,e,d⟩:=TT.obj _ _ tn7 b hb
    exact (I'.pin (b,o) (List.mem_append_right _ (List.mem_append_right _ (Qa1 hb e)))).2.1
   cases ok with
   | false=>exact again I9 q9
   | true=>
    refine thn (be _ s9 σ8 H9 _ I9 q9) fun xv s10 pq55=>?_
    obtain⟨v,H10,I10,r10,ys,hy,hz,q10⟩:=pq55
    refine thn (Qcu (X:=cxC X N scope fp s3 H3) _ s10 σ8 H10 (.ref l) [v] (.ref l) [xv] (fun _ H'=>H'=upd H10 l (.lst (ys++[v]))) I10 rfl (.cons r10 .nil) ⟨l,ys,v,rfl,rfl,hy,hz,rfl⟩) fun _ s11 pq56=>?_
    obtain⟨_,H11,I11,_,e⟩:=pq56
    subst e
    exact again I11 q10
 exact codeAny_compStart_list loop (TT.self _ 0 _ _ _ tn4 loop)
theorem Qd5 {elt target iter : Expr} {ifs : List Expr} {pos : Pos} {n : Nat} {ix : List Nat} {wi : TI} {g : TG} {tt : TT} {te : TE}
  (hc:X.calm=true) (S:CompScope X scope) (T:CompNames X scope N n ix) (hi:PI X target iter wi)
  (blk:∀ (fp:List Addr) (s:Shared) (H:Hp),PG (cxC X N scope fp s H) target g/\PIfs (cxC X N scope fp s H) ifs tt/\PE (cxC X N scope fp s H) elt te)
  (hs:∀ x,foldedSetIterable iter X.env x=pure x:=by intro _;rfl):PE X (.ListComp elt [⟨target,iter,ifs,0⟩] scope pos) (tComp wi n ix g tt te):=by
 intro pins s σ H Q I h
 rw[eval_ListComp]
 refine Qd4 (use:=none) hc S T hi blk hs I h fun l C H' s' I' q c=>?_
 obtain⟨m,hn⟩:=c.ns
 exact⟨m,hn,fun h' hs'=>⟨.ref l,H',c.go I' hs',rfl,q⟩⟩
theorem Qd6 {elt target iter : Expr} {ifs : List Expr} {pos pos' spos : Pos} {n i : Nat} {ix : List Nat} {wi : TI} {g : TG} {tt : TT} {te : TE} {x : Str}
  (hN:X.N.Nodup) (hi':X.N[i]?=some x) (hx:L2.Loc X.env.scope x) (hf:X.fn x=true\/X.env.scope.names.lookup x=some .local)
  (hc:X.calm=true) (S:CompScope X scope) (T:CompNames X scope N n ix) (hi:PI X target iter wi)
  (blk:∀ (fp:List Addr) (s:Shared) (H:Hp),PG (cxC X N scope fp s H) target g/\PIfs (cxC X N scope fp s H) ifs tt/\PE (cxC X N scope fp s H) elt te)
  (hsw:swapsWith (.ListComp elt [⟨target,iter,ifs,0⟩] scope pos) (some (.Name x pos')) spos.line X.env=pure true)
  (hs:∀ x,foldedSetIterable iter X.env x=pure x:=by intro _;rfl):PS X (.Assign [.Name x pos'] (.ListComp elt [⟨target,iter,ifs,0⟩] scope pos) spos) (tAsg (tComp wi n ix g tt te) (gName i)):=by
 intro pins s σ H D I h
 rw[exec_Assign_Name_used _ _ _ _ hsw]
 refine wpAny_bind (wpAny_standAt (wpAny_bind ?_))
 show wpAny _ _ (comprehension (.ListComp elt [⟨target,iter,ifs,0⟩] scope pos) scope X.env _ (newList []) false (eval iter X.env) (some (assign (.Name x pos') X.env)) >>= fun _=>pure ()) _ _ s
 refine wpAny_bind (wpAny_mono (Qd4 (use:=some (assign (.Name x pos') X.env)) (Q:=fun _ s'=>SP X pins D .next s') hc S T hi blk hs I h fun l C H' s' I' q c=>?_) (fun _ s' hq=>wpAny_pure (wpAny_pure hq)) fun _ _ e=>e)
 obtain⟨m,hn⟩:=c.ns
 refine wpAny_assign_Name (Qaq I' hN hi' hx (v:=.ref l) rfl (fun s2 I2 ⟨b,hb,hb2⟩=>?_) hf)
 have hbC:b≠C:=by
  rcases hb2 with z | z
  ·rw[z];exact c.loc.symm
  ·exact c.cell x b z
 refine⟨m,hn.sameBut hb hbC.symm,fun h' hs'=>⟨_,H',?_,q⟩⟩
 exact CFree.go ⟨⟨m,hn.sameBut hb hbC.symm⟩,c.free,c.loc,c.cell,c.sz,c.pin⟩ I2 hs'
end
section
variable {X:Cx}{a b c e:Expr}{es:List Expr}{pos:Pos}{fa fb fc:CE}{ca cb:CA}{K:PySem.W.Frag}{ρ:List Addr}{H:Hp}{st:Sto}
theorem Qd7 {K : PySem.W.Frag} {g : D -> D -> M D} {x y : V} {H : Hp} {Q : VK} (hg : ∀ d e, (∃ i j, d = D.int i /\ e = D.int j) \/ g d e = bad) (h : rOf K g x y H Q) :
  ∃ (i j:Int) (ρ:List Addr) (st:Sto),x=.int i/\y=.int j/\SR K ρ H st/\Post K ρ H (g (.int i) (.int j) st) (fun r _ ρ' H'=>∀ v,Rep K ρ' H' v r->Q v H'):=by
 obtain⟨ρ,st,d,e,sr,rx,ry,p⟩:=h
 rcases hg d e with ⟨i,j,e1,e2⟩ | hb
 ·subst e1 e2;cases rx;cases ry;exact⟨_,_,ρ,st,rfl,rfl,sr,p⟩
 ·rw[hb]at p;exact p.elim
theorem Qd8:OpR X (binaryOp .Sub) (rOf X.K subD):=Qa6.of fun x y H Q h=>by
 obtain⟨i,j,ρ,st,rfl,rfl,sr,p⟩:=Qd7 (by intro d e;cases d<;>cases e<;>first | exact .inl ⟨_,_,rfl,rfl⟩ | exact .inr rfl) h
 exact⟨_,_,rfl,rfl,p.ret sr _ (.int _)⟩
theorem Qd9:OpR X (binaryOp .Mult) (rOf X.K mulD):=Qa7.of fun x y H Q h=>by
 obtain⟨i,j,ρ,st,rfl,rfl,sr,p⟩:=Qd7 (by intro d e;cases d<;>cases e<;>first | exact .inl ⟨_,_,rfl,rfl⟩ | exact .inr rfl) h
 exact⟨_,_,rfl,rfl,p.chk.1,p.chk.2.ret sr _ (.int _)⟩
theorem Qea:OpR X (binaryOp .FloorDiv) (rOf X.K fdivD):=Qa8.of fun x y H Q h=>by
 obtain⟨i,j,ρ,st,rfl,rfl,sr,p⟩:=Qd7 (by intro d e;cases d<;>cases e<;>first | exact .inl ⟨_,_,rfl,rfl⟩ | exact .inr rfl) h
 exact⟨_,_,rfl,rfl,p.chk.1,p.chk.2.ret sr _ (.int _)⟩
theorem Qeb:OpR X (binaryOp .Mod) (rOf X.K modD):=Qa9.of fun x y H Q h=>by
 obtain⟨i,j,ρ,st,rfl,rfl,sr,p⟩:=Qd7 (by intro d e;cases d<;>cases e<;>first | exact .inl ⟨_,_,rfl,rfl⟩ | exact .inr rfl) h
 exact⟨_,_,rfl,rfl,p.chk.1,p.chk.2.ret sr _ (.int _)⟩
theorem Qec:OpR X (binaryOp .Pow) (rOf X.K powD):=Qba.of fun x y H Q h=>by
 obtain⟨i,j,ρ,st,rfl,rfl,sr,p⟩:=Qd7 (by intro d e;cases d<;>cases e<;>first | exact .inl ⟨_,_,rfl,rfl⟩ | exact .inr rfl) h
 exact⟨_,_,rfl,rfl,p.chk.1,p.chk.2.ret sr _ (.int _)⟩
theorem Qed:OpR X (compareOp .Lt) (rOf X.K ltD):=Qbc.of fun x y H Q h=>by
 obtain⟨i,j,ρ,st,rfl,rfl,sr,p⟩:=Qd7 (by intro d e;cases d<;>cases e<;>first | exact .inl ⟨_,_,rfl,rfl⟩ | exact .inr rfl) h
 exact⟨_,_,rfl,rfl,p.ret sr _ (.bl _)⟩
theorem Qee:OpR X (compareOp .LtE) (rOf X.K leD):=Qbd.of fun x y H Q h=>by
 obtain⟨i,j,ρ,st,rfl,rfl,sr,p⟩:=Qd7 (by intro d e;cases d<;>cases e<;>first | exact .inl ⟨_,_,rfl,rfl⟩ | exact .inr rfl) h
 exact⟨_,_,rfl,rfl,p.ret sr _ (.bl _)⟩
theorem Qef:OpR X (compareOp .Gt) (rOf X.K gtD):=Qbe.of fun x y H Q h=>by
 obtain⟨i,j,ρ,st,rfl,rfl,sr,p⟩:=Qd7 (by intro d e;cases d<;>cases e<;>first | exact .inl ⟨_,_,rfl,rfl⟩ | exact .inr rfl) h
 exact⟨_,_,rfl,rfl,p.ret sr _ (.bl _)⟩
theorem Qeg:OpR X (compareOp .GtE) (rOf X.K geD):=Qbf.of fun x y H Q h=>by
 obtain⟨i,j,ρ,st,rfl,rfl,sr,p⟩:=Qd7 (by intro d e;cases d<;>cases e<;>first | exact .inl ⟨_,_,rfl,rfl⟩ | exact .inr rfl) h
 exact⟨_,_,rfl,rfl,p.ret sr _ (.bl _)⟩
theorem Qeh:SA X [] cNil:=Qbz.of fun σ H Q h_=>h_.el fun ρ l st lr sr p=>p.ret sr [] .nil
theorem Qei (ha:SE X e fa) (hr:SA X es ca) (hs:starEach (e::es) X.env=(false,eval e X.env)::starEach es X.env:=by rfl):SA X (e::es) (cCons fa ca):=
 (QbA ha hr hs).of fun σ H Q h_=>h_.el fun ρ l st lr sr p=>⟨ρ,l,st,lr,sr,p.bnd.imp fun d st1 ρ1 H1 x1 s1 p1 v rv=>⟨ρ1,l,st1,lr.mono x1,s1,p1.bnd.imp fun ds st2 ρ2 H2 x2 s2 p2 vs rvs=>p2.ret s2 _ (.cons (rv.mono x2) rvs)⟩⟩
theorem Qej {k:Nat} (h:SA X es ca):SE X (.Tuple es k pos) (cTup ca):=(QbB h).of fun σ H Q h_=>h_.el fun ρ l st lr sr p=>⟨ρ,l,st,lr,sr,p.bnd.imp fun ds st1 ρ1 H1 x1 s1 p1 vs rvs=>by
 obtain⟨hl,p2⟩:=p1.chk
 refine⟨by rw[rvs.length];exact hl,fun q hq=>?_⟩
 exact p2 ρ1 _ (Ex.new hq) (s1.new hq) _ (.tup (SqT.of Qai) (rvs.mono (Ex.new hq)))⟩
theorem Qek (h:SA X es ca):SL X (.List es pos) (aDisp ca):=(QbC h).of fun σ H Q h_=>h_.el fun ρ l st lr sr p=>⟨ρ,l,st,lr,sr,p.bnd.imp fun ds st1 ρ1 H1 x1 s1 p1 vs rvs=>by
 obtain⟨hl,p2⟩:=p1.chk
 refine⟨by rw[rvs.length];exact hl,fun q hq=>?_⟩
 have hn:H q=none:=by
  cases z:H q with
  | none=>rfl
  | some o=>exact absurd hq (x1.trk q o z)
 exact p2 ρ1 _ (Ex.new hq) (s1.new hq) q vs hn (s1.fresh hq) Qai (rvs.mono (Ex.new hq))⟩
theorem Post.bnd0 {α β:Type}{m:M α}{f:α->M β}{R:β->Sto->List Addr->Hp->Prop} (h:Post K ρ H (MM.bnd m f st) R):Post K ρ H (m st) fun a st' _ _=>Post K ρ H (f a st') R:=by
 unfold MM.bnd at h
 cases e:m st with
 | ok a s'=>
  rw[e]at h
  exact fun ρ' H' y s=>h
 | exc _ _=>rw[e]at h;exact h
 | bad=>rw[e]at h;exact h
theorem Qel (h:SL X e ca):SE X e (cKeep ca):=h.of fun σ H Q h_=>h_.el fun ρ l st lr sr p=>⟨ρ,l,st,lr,sr,p.bnd0.imp fun ds st1 ρ1 H1 x1 s1 p1 a vs ha na hv rvs=>by
 have x:Ex ρ H (ρ1++[a]) H1:=by
  obtain⟨τ,e,f⟩:=x1.pre
  refine⟨⟨τ++[a],by rw[e,List.append_assoc],fun b hb=>?_⟩,x1.fix,x1.oth,x1.knd⟩
  rcases List.mem_append.mp hb with hb | hb
  ·exact f b hb
  ·rw[List.mem_singleton]at hb;rw[hb];exact ha
 refine p1 (ρ1++[a]) H1 x (s1.keep hv na rvs) _ (.ref ⟨_,hv,rfl⟩ ?_)
 rw[<- s1.len];simp⟩
theorem _root_.L2.IxR.of {r r':R2} (h:IxR X r) (g:∀ x y H Q,r' x y H Q->r x y H Q):IxR X r':=fun value slice pins s σ H x y v u Q I rx ry q hs=>h value slice pins s σ H x y v u Q I rx ry (g x y H Q q) hs
theorem Post.item {ds:List D}{i:Int}{R:D->Sto->List Addr->Hp->Prop} (h:Post K ρ H (itemD ds i st) R) (s:SR K ρ H st):∃ k d,L2.ixN ds.length i=some k/\ds[k]?=some d/\R d st ρ H:=by
 unfold itemD at h
 cases e:MM.ixN ds.length i with
 | none=>rw[e]at h;exact h.elim
 | some k=>
  rw[e]at h
  cases e2:ds[k]? with
  | none=>dsimp only at h;rw[e2]at h;exact h.elim
  | some d=>dsimp only at h;rw[e2]at h;exact⟨k,d,e,e2,h.ret s⟩
theorem Qem {vs:List V}{ds:List D}{i:Int}{k:Nat}{d:D} (r:Reps K ρ H vs ds) (h1:L2.ixN ds.length i=some k) (h2:ds[k]?=some d):∃ v,atI vs i=some v/\Rep K ρ H v d:=by
 obtain⟨v,e,rv⟩:=r.get h2
 refine⟨v,?_,rv⟩
 unfold atI
 rw[r.length,h1]
 exact e
theorem Post.itemK {n:Nat}{k:D}{R:D->Sto->List Addr->Hp->Prop} (h:Post K ρ H (MM.itemK n k st) R) (s:SR K ρ H st):∃ b kvs d,st[n]?=some (.dct b kvs)/\kOk b k=true/\lkK kvs k=some d/\R d st ρ H:=by
 obtain⟨b,kvs,e,p1⟩:=Post.getDc (Post.bnd h) s
 obtain⟨hk,p2⟩:=Post.chk p1
 cases e2:lkK kvs k with
 | none=>dsimp only at p2;rw[e2]at p2;exact p2.elim
 | some d=>dsimp only at p2;rw[e2]at p2;exact⟨b,kvs,d,e,hk,e2,p2.ret s⟩
theorem ObR.dictIs {X:Cx}{pins:List (Addr × Obj)}{σ:St}{s:Shared}{a:Addr}{b:Bool}{kvs:List (D × D)} (I:Inv X pins σ H s) (g:ObR X.K ρ H a (.dct b kvs)):s.TypeIs (.ref a) "dict":=by
 cases b with
 | false=>
  obtain⟨es,e,r⟩:=g
  obtain⟨_,_,vs,_,dd⟩:=QcR I.hok e
  exact dd.typeIs
 | true=>
  obtain⟨es,e,r⟩:=g
  obtain⟨_,_,xs,_,dd,_⟩:=QdG I e r
  exact dd.typeIs
theorem Qen (hu:X.A.units + 60 < cLine):IxR X (fun x y H Q=>∃ (ρ:List Addr) (st:Sto) (n:Nat) (a:Addr) (b:Bool) (kvs:List (D × D)) (k d:D),x=.ref a/\SR X.K ρ H st/\ρ[n]?=some a/\st[n]?=some (.dct b kvs)/\Rep X.K ρ H y k/\kOk b k=true/\lkK kvs k=some d/\∀ v,Rep X.K ρ H v d->Q v H):=by
 intro value slice pins s σ H x y v u Q I rx ry pq112 hs;obtain⟨ρ,st,n,a,b,kvs,k,d,ex,sr,ha,hn,rk,hk,hl,q⟩:=pq112
 subst ex
 cases rx
 have g:=sr.ob n a _ ha hn
 exact tail_any (ObR.dictIs I g) PySem.F.slot_dict_getitem.lookup (QdK (by ac_nf) I g rk hk hl ry fun v w' s' I' rv rw'=>⟨v,H,I',rw',q v rv⟩) hs
theorem Qeo {x y:V}{d e:D}{Q:VK} (sr:SR K ρ H st) (rx:Rep K ρ H x d) (ry:Rep K ρ H y e) (hd:∀ n,d≠.dic n) (p:Post K ρ H (subsD d e st) fun r _ ρ' H'=>∀ v,Rep K ρ' H' v r->Q v H'):rIx K x y H Q:=by
 cases ry with
 | int i=>
  cases rx with
  | dic _ _=>exact absurd rfl (hd _)
  | tup h r=>
   obtain⟨k,d,h1,h2,q⟩:=Post.item p sr
   obtain⟨v,h3,rv⟩:=Qem r h1 h2
   exact .inr (.inl ⟨_,_,i,v,rfl,rfl,h,h3,q v rv⟩)
  | lit h r=>
   obtain⟨k,d,h1,h2,q⟩:=Post.item p sr
   obtain⟨v,h3,rv⟩:=Qem r h1 h2
   exact .inl ⟨_,_,i,v,rfl,rfl,h.seq,h3,q v rv⟩
  | ref _ h=>
   obtain⟨xs,e,p1⟩:=Post.getL (Post.bnd p) sr
   obtain⟨a,vs,ha,hv,r⟩:=sr.seq e
   rw[h]at ha;cases ha
   obtain⟨k,d,h1,h2,q⟩:=Post.item p1 sr
   obtain⟨v,h3,rv⟩:=Qem r h1 h2
   exact .inl ⟨_,_,i,v,rfl,rfl,SqL.of hv,h3,q v rv⟩
  | str z=>
   obtain⟨hz,p1⟩:=Post.chk p
   cases e:MM.ixN z.length i with
   | none=>rw[e]at p1;exact p1.elim
   | some k=>
    rw[e]at p1
    cases e2:z.cps.toList[k]? with
    | none=>dsimp only at p1;rw[e2]at p1;exact p1.elim
    | some c=>
     dsimp only at p1
     rw[e2]at p1
     refine .inr (.inr ⟨z,i,c,rfl,rfl,hz,?_,p1.ret sr _ (.str _)⟩)
     unfold atI
     rw[show z.cps.toList.length=z.length by simp[Str.length]]
     show (L2.ixN z.length i).bind _=_
     rw[show L2.ixN z.length i=some k from e]
     exact e2
  | _=>exact p.elim
 | _=>cases rx<;>first | exact absurd rfl (hd _) | exact p.elim
theorem ixd (hu:X.A.units + 60 < cLine):IxR X (rOf X.K subsD):=(Qb8.or (Qen hu)).of fun x y H Q pq58=>by
 obtain⟨ρ,st,d,e,sr,rx,ry,p⟩:=pq58
 by_cases hd:∃ n,d=.dic n
 ·obtain⟨n,rfl⟩:=hd
  cases rx with
  | @dic a n _ h=>
   have p':Post X.K ρ H (itemK n e st) fun r _ ρ' H'=>∀ (v:V),Rep X.K ρ' H' v r->Q v H':=by cases ry<;>exact p
   obtain⟨b,kvs,d,e1,hk,hl,q⟩:=Post.itemK p' sr
   exact .inr ⟨ρ,st,n,a,b,kvs,e,d,rfl,sr,h,e1,ry,hk,hl,q⟩
 ·exact .inl (Qeo sr rx ry (fun n z=>hd ⟨n,z⟩) p)
theorem Qep (hu:X.A.units + 60 < cLine) (ha:SE X a fa) (hb:SE X b fb) (hs:PlainIx b):SE X (.Subscript a b pos) (c2 subsD fa fb):=(Qb4 (ixd hu) ha hb hs).of (Qdo fun _ _ _ _ h=>h)
theorem Qeq (ha:SL X a ca) (hb:SE X b fb) (hs:PlainIx b):SE X (.Subscript a b pos) (cTmpSub ca fb):=(Qb4 Qb5 ha hb hs).of fun σ H Q h_=>h_.el fun ρ l st lr sr p=>
 ⟨ρ,l,st,lr,sr,p.bnd.imp fun ds st1 ρ1 H1 x1 s1 p1 a vs ha na hv rvs=>⟨ρ1,l,st1,lr.mono x1,s1,p1.bnd.imp fun e st2 ρ2 H2 x2 s2 p2 u ru=>by
  cases ru with
  | int i=>
   obtain⟨k,d,h1,h2,q⟩:=Post.item p2 s2
   obtain⟨v,h3,rv⟩:=Qem (rvs.mono x2) h1 h2
   exact⟨a,vs,i,v,rfl,rfl,SqL.of (x2.lst a vs na hv),h3,q v rv⟩
  | _=>exact p2.elim⟩⟩
theorem Qer {CX : CXT} {k n : Nat} {f : Addr} {fd : FuncData} {ps : List Str} {g : List D -> M D} {x : Str} {p : Pos} (F : FnOk X.prog X.w X.K X.mg X.base CX k f fd ps (spOf X.K n g)) (hr : Room k X.A) (hg : Gl X x) (hm : X.mg x = some (.ref f))
  (hk:PySem.W.keepIn X.K (.ref f)=true) (hb:Binds X.K fd ps []) (hx:Passes CX X E0) (ha:SA X (e::es) ca) (hn:∀ l st ds st',ca l st=.ok ds st'->ds.length=n) (hdb:(x == ("__debug__":Str))=false:=by decide)
  (he:starEach (e::es) X.env=(false,eval e X.env)::starEach es X.env:=by rfl) (hpl:(backTo pos (starEach es X.env)).any (·.1)=false:=by rfl):SE X (.Call (.Name x p) (e::es) [] pos) (cCall g ca):=
 (QbE F hr hg hm hk hb .nil hx ha hdb he hpl).of fun σ H Q h_=>h_.el fun ρ l st lr sr p=>⟨ρ,l,st,lr,sr,by
  have q:=Post.bnd p
  cases ec:ca l st with
  | bad=>rw[ec]at q;exact q
  | exc _ _=>rw[ec]at q;exact q
  | ok ds st1=>
   rw[ec]at q
   intro ρ1 H1 x1 s1 vs rvs
   refine⟨by rw[List.append_nil,rvs.length];exact hn l st ds st1 ec,ρ1,st1,ds,s1,by rw[List.append_nil];exact rvs,q ρ1 H1 x1 s1⟩⟩
variable {ta tb:CT}
theorem Qes {d:D}{v:V}{R:Bool->Sto->List Addr->Hp->Prop} (p:Post K ρ H (truD d st) R) (sr:SR K ρ H st) (rv:Rep K ρ H v d):∃ k,TruV K v H k/\R k st ρ H:=by
 cases rv with
 | non=>exact⟨false,rfl,p.ret sr⟩
 | bl b=>exact⟨b,rfl,p.ret sr⟩
 | int i=>exact⟨_,rfl,p.ret sr⟩
 | str x=>exact⟨_,⟨(Post.chk p).1,rfl⟩,(Post.chk p).2.ret sr⟩
 | @tup a vs ds h r=>
  refine⟨!vs.isEmpty,.inr (.inl ⟨vs,h,rfl⟩),?_⟩
  have:vs.isEmpty=ds.isEmpty:=by
   have:=r.length
   cases vs<;>cases ds<;>simp_all
  rw[this];exact p.ret sr
 | @lit a vs ds h r=>
  refine⟨!vs.isEmpty,.inl ⟨vs,h.seq,rfl⟩,?_⟩
  have:vs.isEmpty=ds.isEmpty:=by
   have:=r.length
   cases vs<;>cases ds<;>simp_all
  rw[this];exact p.ret sr
 | ref _ h=>
  obtain⟨ds,e,p1⟩:=Post.getL (Post.bnd p) sr
  obtain⟨a,vs,ha,hv,r⟩:=sr.seq e
  rw[h]at ha;cases ha
  refine⟨!vs.isEmpty,.inl ⟨vs,SqL.of hv,rfl⟩,?_⟩
  have:vs.isEmpty=ds.isEmpty:=by
   have:=r.length
   cases vs<;>cases ds<;>simp_all
  rw[this];exact p1.ret sr
 | dic _ _=>exact p.elim
 | exn0 _ _=>exact p.elim
 | exn _ _ _ _=>exact p.elim
theorem Qet (ha:SE X a fa) (he:∀ whole,isTrue a X.env whole=(do let v <- whole;standAt a.pos;holding [v] (truthy v)):=by intro _;rfl):ST X a (tVal fa):=
 (Qbq ha he).of fun σ H Q h_=>h_.el fun ρ l st lr sr p=>⟨ρ,l,st,lr,sr,p.bnd.imp fun d st1 ρ1 H1 x1 s1 p1 v rv=>Qes p1 s1 rv⟩
theorem Qeu {op:CmpOp}{g:D->D->M D} (ho:OpR X (compareOp op) (rOf X.K g)) (ha:SE X a fa) (hb:SE X b fb) (hm:behindInMarks op b=false):ST X (.Compare a [op] [b] pos) (tCmpB (c2 g fa fb)):=
 (Qbj ho ha hb hm).of fun σ H Q h_=>h_.el fun ρ l st lr sr p=>Qdo (X:=X) (fun _ _ _ _ h=>h) _ _ _ ⟨ρ,l,st,lr,sr,p.bnd.imp fun d st1 ρ1 H1 x1 s1 p1 v rv=>by
  cases rv with
  | bl k=>exact⟨k,rfl,p1.ret s1⟩
  | _=>exact p1.elim⟩
theorem Qev (ha:ST X a ta):PW X (.BoolOp .And [a] pos) (ttOf X.K ta):=Qay ha
theorem Qew (ha:ST X a ta):PW X (.BoolOp .Or [a] pos) (ttOf X.K ta):=Qaz ha
theorem _root_.L2.PW.of {e:Expr}{t t':TT} (h:PW X e t) (f:∀ σ H Q,t' σ H Q->t σ H Q):PW X e t':=fun whole pins s σ H Q I q=>h whole pins s σ H Q I (f σ H Q q)
theorem Qex {rest:List Expr} (ha:ST X a ta) (hb:PW X (.BoolOp .And (b::rest) pos) (ttOf X.K tb)):PW X (.BoolOp .And (a::b::rest) pos) (ttOf X.K (tAndB ta tb)):=
 (QaA ha hb).of fun σ H Q h_=>h_.el fun ρ l st lr sr p=>⟨ρ,l,st,lr,sr,p.bnd.imp fun c st1 ρ1 H1 x1 s1 p1=>by
  cases c with
  | true=>exact⟨ρ1,l,st1,lr.mono x1,s1,p1⟩
  | false=>exact p1.ret s1⟩
theorem Qey {rest:List Expr} (ha:ST X a ta) (hb:PW X (.BoolOp .Or (b::rest) pos) (ttOf X.K tb)):PW X (.BoolOp .Or (a::b::rest) pos) (ttOf X.K (tOrB ta tb)):=
 (QaB ha hb).of fun σ H Q h_=>h_.el fun ρ l st lr sr p=>⟨ρ,l,st,lr,sr,p.bnd.imp fun c st1 ρ1 H1 x1 s1 p1=>by
  cases c with
  | true=>exact p1.ret s1
  | false=>exact⟨ρ1,l,st1,lr.mono x1,s1,p1⟩⟩
theorem Qez (ha:ST X a ta):ST X (.UnaryOp .Not a pos) (tNotB ta):=(QaC ha).of fun σ H Q h_=>h_.el fun ρ l st lr sr p=>⟨ρ,l,st,lr,sr,p.bnd.imp fun c st1 ρ1 H1 x1 s1 p1=>p1.ret s1⟩
theorem QeA {op:BoolOp} (h:SE X a fa):SE X (.BoolOp op [a] pos) fa:=QaD h
theorem QeB {rest:List Expr} (ha:SE X a fa) (hb:SE X (.BoolOp .And (b::rest) pos) fb):SE X (.BoolOp .And (a::b::rest) pos) (cAnd fa fb):=
 (QaE ha hb).of fun σ H Q h_=>h_.el fun ρ l st lr sr p=>⟨ρ,l,st,lr,sr,p.bnd.imp fun d st1 ρ1 H1 x1 s1 p1 v rv=>by
  cases rv with
  | bl c=>
   refine⟨c,rfl,?_⟩
   cases c with
   | true=>exact⟨ρ1,l,st1,lr.mono x1,s1,p1⟩
   | false=>exact p1.ret s1 _ (.bl false)
  | _=>exact p1.elim⟩
theorem QeC (hc : ST X c ta) (ha : SE X a fa) (hb : SE X b fb) : SE X (.IfExp c a b pos) (cIfE ta fa fb) := (QaF hc ha hb).of fun σ H Q h_ => h_.el fun ρ l st lr sr p => ⟨ρ, l, st, lr, sr, p.bnd.imp fun k st1 ρ1 H1 x1 s1 p1 => by
  cases k with
  | true=>exact⟨ρ1,l,st1,lr.mono x1,s1,p1⟩
  | false=>exact⟨ρ1,l,st1,lr.mono x1,s1,p1⟩⟩
theorem QeD {f g:D->D->M D}:∀ σ H Q,tOf X.K (cChain f g fa fb fc) σ H Q->tChain (rOf X.K f) (rOf X.K g) (tOf X.K fa) (tOf X.K fb) (tOf X.K fc) σ H Q:=fun σ H Q h_=>h_.el fun ρ l st lr sr p=>
 ⟨ρ,l,st,lr,sr,p.bnd.imp fun d st1 ρ1 H1 x1 s1 p1 v rv=>⟨ρ1,l,st1,lr.mono x1,s1,p1.bnd.imp fun e st2 ρ2 H2 x2 s2 p2 u ru=>⟨ρ2,st2,d,e,s2,rv.mono x2,ru,p2.bnd.imp fun z st3 ρ3 H3 x3 s3 p3 w rw'=>by
  cases rw' with
  | bl k=>
   refine⟨k,rfl,?_⟩
   cases k with
   | true=>exact⟨ρ3,l,st3,(lr.mono x1).mono (x2.trans x3),s3,p3.bnd.imp fun t st4 ρ4 H4 x4 s4 p4 q rq=>⟨ρ4,st4,e,t,s4,(ru.mono x3).mono x4,rq,p4⟩⟩
   | false=>exact p3.ret s3 _ (.bl false)
  | _=>exact p3.elim⟩⟩⟩
theorem QeE {op op' : CmpOp} {f g : D -> D -> M D} (ho : OpR X (compareOp op) (rOf X.K f)) (ho' : OpR X (compareOp op') (rOf X.K g)) (ha : SE X a fa) (hb : SE X b fb) (hc : SE X c fc)
  (hm:lastMarks [op,op'] [b,c]=false:=by with_unfolding_all rfl):SE X (.Compare a [op,op'] [b,c] pos) (cChain f g fa fb fc):=(Qbk ho ho' ha hb hc hm).of QeD
theorem QeF {op op' : CmpOp} {f g : D -> D -> M D} (ho : OpR X (compareOp op) (rOf X.K f)) (ho' : OpR X (compareOp op') (rOf X.K g)) (ha : SE X a fa) (hb : SE X b fb) (hc : SE X c fc)
  (hm:lastMarks [op,op'] [b,c]=false:=by with_unfolding_all rfl):ST X (.Compare a [op,op'] [b,c] pos) (tCmpB (cChain f g fa fb fc)):=
 (Qbl ho ho' ha hb hc hm).of fun σ H Q h_=>h_.el fun ρ l st lr sr p=>QeD _ _ _ ⟨ρ,l,st,lr,sr,p.bnd.imp fun d st1 ρ1 H1 x1 s1 p1 v rv=>by
  cases rv with
  | bl k=>exact⟨k,rfl,p1.ret s1⟩
  | _=>exact p1.elim⟩
end
theorem LR.set {K:PySem.W.Frag}{ρ:List Addr}{H:Hp}{σ:St}{l:Loc}{v:V}{d:D} (h:LR K ρ H σ l) (i:Nat) (r:Rep K ρ H v d):LR K ρ H (σ.set i (some v)) (l.set i (some d)):=by
 refine⟨by simp[h.1],fun j e q=>?_⟩
 by_cases z:i=j
 ·subst z
  by_cases hl:i < l.length
  ·rw[List.getElem?_set_self hl]at q
   cases q
   exact⟨v,by rw[List.getElem?_set_self (by rw[h.1];exact hl)],r⟩
  ·rw[List.getElem?_eq_none (by simp;ac_nf)]at q;cases q
 ·rw[List.getElem?_set_ne z]at q
  obtain⟨w,e1,r1⟩:=h.2 j e q
  exact⟨w,by rw[List.getElem?_set_ne z];exact e1,r1⟩
theorem LR.start {K:PySem.W.Frag}{ρ:List Addr}{H:Hp}{N:List Str}{vs:List V}{ds:List D} (r:Reps K ρ H vs ds):LR K ρ H (L2.start N vs) (ds.map some++List.replicate (N.length - ds.length) none):=by
 have hl:=r.length
 unfold L2.start
 refine⟨by simp[hl],fun i d e=>?_⟩
 by_cases hi:i < ds.length
 ·rw[List.getElem?_append_left (by simpa using hi),List.getElem?_map]at e
  cases q:ds[i]? with
  | none=>rw[q]at e;cases e
  | some d'=>
   rw[q]at e
   have e':d'=d:=Option.some.inj (Option.some.inj e)
   subst e'
   obtain⟨v,hv,rv⟩:=r.get q
   refine⟨v,?_,rv⟩
   rw[List.getElem?_append_left (by simp;ac_nf),List.getElem?_map,hv];rfl
 ·rw[List.getElem?_append_right (by simpa using hi),List.getElem?_replicate]at e
  split at e<;>cases e
section
variable {X:Cx}{a b c e tg:Expr}{es:List Expr}{s:Stmt}{ss:List Stmt}{pos:Pos}{fa fb fc:CE}{ca cb:CA}{ta tb:CT}{cs cr:CS}{K:PySem.W.Frag}{ρ:List Addr}{H:Hp}{st:Sto}
abbrev SG (X:Cx) (e:Expr) (g:CG):Prop:=PG X e (tgOf X.K g)
abbrev SGs (X:Cx) (e:List Expr) (g:List D->Loc->M Loc):Prop:=PGs X e (tgsOf X.K g)
theorem QeG {i:Nat}{x:Str} (h:PG X (.Name x pos) (gName i)):SG X (.Name x pos) (gVar i):=h.of fun v σ H Q pq59=>by obtain⟨ρ,l,st,d,lr,sr,rv,p⟩:=pq59;exact p.ret sr _ (lr.set i rv)
theorem QeH:SGs X [] gsNil:=QaN.of fun vs σ H Q pq60=>by
 obtain⟨ρ,l,st,ds,lr,sr,rvs,p⟩:=pq60
 cases rvs with
 | nil=>exact⟨rfl,p.ret sr σ lr⟩
 | cons _ _=>exact p.elim
theorem QeI {g:CG}{r:List D->Loc->M Loc} (h1:SG X e g) (h2:SGs X es r) (hs:(assignEach (e::es) X.env).map (·.2)=assign e X.env::(assignEach es X.env).map (·.2):=by rfl):SGs X (e::es) (gsCons g r):=
 (QaO h1 h2 hs).of fun vs σ H Q pq61=>by
  obtain⟨ρ,l,st,ds,lr,sr,rvs,p⟩:=pq61
  cases rvs with
  | nil=>exact p.elim
  | cons rv rt=>exact⟨_,_,rfl,ρ,l,st,_,lr,sr,rv,(Post.bnd p).imp fun l1 st1 ρ1 H1 x1 s1 p1 σ1 lr1=>⟨ρ1,l1,st1,_,lr1,s1,rt.mono x1,p1⟩⟩
theorem QeJ {k n:Nat}{r:List D->Loc->M Loc} (hc:X.calm=true) (h:SGs X es r) (hn:(assignEach es X.env).length=n:=by rfl) (hst:(assignEach es X.env).findIdx? (·.1)=none:=by rfl):SG X (.Tuple es k pos) (gTupD n r):=
 (QaP hc h hn hst).of fun v σ H Q pq62=>by
  obtain⟨ρ,l,st,d,lr,sr,rv,p⟩:=pq62
  cases rv with
  | tup h r=>exact⟨_,_,rfl,h,by rw[r.length];exact (Post.chk p).1,ρ,l,st,_,lr,sr,r,(Post.chk p).2⟩
  | _=>exact p.elim
theorem QeK:SSs X [] sNext:=QaG.of fun G σ H h_=>h_.el fun ρ l st lr sr p=>p.ret sr σ lr
theorem QeL (h1:SS X s cs) (h2:SSs X ss cr):SSs X (s::ss) (sSeq cs cr):=(QaH h1 h2).of fun G σ H h_=>h_.el fun ρ l st lr sr p=>⟨ρ,l,st,lr,sr,p.bnd.imp fun f st1 ρ1 H1 x1 s1 p1=>by
 cases f with
 | next l'=>exact fun σ' lr'=>⟨ρ1,l',st1,lr',s1,p1⟩
 | ret d=>exact p1.ret s1
 | brk l'=>exact p1.ret s1
 | cnt l'=>exact p1.ret s1⟩
theorem QeM:SS X s sBad:=QaL.of fun G σ H h_=>h_.el fun ρ l st lr sr p=>p.elim
theorem QeN (h:SE X e fa):SS X (.Return (some e) pos) (sRet fa):=(QaJ h).of fun G σ H h_=>h_.el fun ρ l st lr sr p=>⟨ρ,l,st,lr,sr,p.bnd.imp fun d st1 ρ1 H1 x1 s1 p1 v rv=>p1.ret s1 v rv⟩
theorem QeO (h:SE X e fa) (hs:swapsWith e none pos.line X.env=pure false:=by rfl):SS X (.Expr e pos) (sExp fa):=(QaI h hs).of fun G σ H h_=>h_.el fun ρ l st lr sr p=>
 ⟨ρ,l,st,lr,sr,p.bnd.imp fun d st1 ρ1 H1 x1 s1 p1 v rv=>p1.ret s1 σ (lr.mono x1)⟩
theorem QeP (hc:ST X c ta) (ha:SSs X ss cs) {sr:List Stmt} (hb:SSs X sr cr):SS X (.If c ss sr pos) (sIf ta cs cr):=(QaK hc ha hb).of fun G σ H h_=>h_.el fun ρ l st lr sr p=>
 ⟨ρ,l,st,lr,sr,p.bnd.imp fun k st1 ρ1 H1 x1 s1 p1=>by
  cases k with
  | true=>exact⟨ρ1,l,st1,lr.mono x1,s1,p1⟩
  | false=>exact⟨ρ1,l,st1,lr.mono x1,s1,p1⟩⟩
theorem QeQ {g:CG}{te:TE}{tg:TG} (he:∀ σ H Q,tOf X.K fa σ H Q->te σ H Q) (hg:∀ v σ H Q,tgOf X.K g v σ H Q->tg v σ H Q):∀ G σ H,tsOf X.K (sAsg g fa) G σ H->tAsg te tg G σ H:=fun G σ H h_=>h_.el fun ρ l st lr sr p=>
 he _ _ _ ⟨ρ,l,st,lr,sr,p.bnd.imp fun d st1 ρ1 H1 x1 s1 p1 v rv=>hg _ _ _ _ ⟨ρ1,l,st1,d,lr.mono x1,s1,rv,p1.bnd.imp fun l2 st2 ρ2 H2 x2 s2 p2 σ2 lr2=>p2.ret s2 σ2 lr2⟩⟩
theorem QeR {i:Nat}:∀ v σ H Q,tgOf X.K (gVar i) v σ H Q->gName i v σ H Q:=fun v σ H Q pq63=>by obtain⟨ρ,l,st,d,lr,sr,rv,p⟩:=pq63;exact p.ret sr _ (lr.set i rv)
theorem QeS {i : Nat} {x : Str} {pos' : Pos} (hN : X.N.Nodup) (hi : X.N[i]? = some x) (hx : L2.Loc X.env.scope x) (he : SE X e fa) (hs : swapsWith e (some (.Name x pos')) pos.line X.env = pure false := by rfl)
  (hf:X.fn x=true\/X.env.scope.names.lookup x=some .local:=by first | exact .inl rfl | exact .inr rfl | assumption):SS X (.Assign [.Name x pos'] e pos) (sAsg (gVar i) fa):=
 (QaS hN hi hx he hs hf).of (QeQ (fun _ _ _ h=>h) QeR)
theorem QeT {g : CG} (he : SE X e fa) (hg : SG X tg g) (hs : swapsWithSole [tg] e pos.line X.env = pure false := by rfl) (hw : swappedStores [tg] e X.env = pure none := by rfl)
  (h1:(assignEach [tg] X.env).map (·.2)=[assign tg X.env]:=by rfl):SS X (.Assign [tg] e pos) (sAsg g fa):=(QaR he hg hs hw h1).of (QeQ (fun _ _ _ h=>h) fun _ _ _ _ h=>h)
theorem Post.storeK {n:Nat}{k v:D}{R:Unit->Sto->List Addr->Hp->Prop} (h:Post K ρ H (MM.storeK n k v st) R) (s:SR K ρ H st):∃ b kvs,st[n]?=some (.dct b kvs)/\kOk b k=true/\kvs.length < lim/\Post K ρ H (.ok () (st.set n (.dct b (ptK kvs k v)))) R:=by
 obtain⟨b,kvs,e,p1⟩:=Post.getDc (Post.bnd h) s
 obtain⟨⟨hk,hl⟩,p2⟩:=Post.chk p1
 refine⟨b,kvs,e,hk,hl,?_⟩
 unfold putDc at p2
 rw[e]at p2
 simpa using p2
def rSetD (X:Cx):V->V->V->Hp->(Hp->Prop)->Prop:=fun o i v H Q=>∃ (ρ:List Addr) (st:Sto) (n:Nat) (a:Addr) (b:Bool) (kvs:List (D × D)) (k d:D),o=.ref a/\SR X.K ρ H st/\ρ[n]?=some a/\st[n]?=some (.dct b kvs)/\Rep X.K ρ H i k/\kOk b k=true/\kvs.length < sizeLine/\Rep X.K ρ H v d /\
 ∀ H',SR X.K ρ H' (st.set n (.dct b (ptK kvs k d)))->Ex ρ H ρ H'->Q H'
theorem QeU (hu:X.A.units + 60 < cLine):PSet X (rSetD X):=by
 intro pins s σ H o i v ov iv u Q I ro ri rv pq113;obtain⟨ρ,st,n,a,b,kvs,k,d,eo,sr,ha,hn,rk,hk,hl,rd,q⟩:=pq113
 subst eo
 cases ro
 exact QdM (by ac_nf) I sr ha hn rk hk hl rd ri rv fun H' s' I' s3 x3=>⟨H',I',q H' s3 x3⟩
theorem _root_.L2.PSet.or {t t':TSet} (h:PSet X t) (h':PSet X t'):PSet X (fun o i v H Q=>t o i v H Q\/t' o i v H Q):=by
 intro pins s σ H o i v ov iv u Q I ro ri rv q
 rcases q with q | q
 ·exact h pins s σ H o i v ov iv u Q I ro ri rv q
 ·exact h' pins s σ H o i v ov iv u Q I ro ri rv q
theorem QeV {to ti : CE} {o i : Expr} (hu : X.A.units + 60 < cLine) (ho : SE X o to) (hi : SE X i ti)
  (ha:∀ v,assign (.Subscript o i pos) X.env v=(do
   let ov <- holding [v] (eval o X.env)
   let iv <- holding [v,ov] (eval i X.env)
   standAt pos
   holding [v,ov,iv] (setItem ov iv v)
   release [v,ov,iv] []):=by intro _;rfl):SG X (.Subscript o i pos) (gSubD to ti):=
 (QaQ ho hi (Qca.or (QeU hu)) ha).of fun v σ H Q pq64=>by obtain⟨ρ,l,st,d,lr,sr,rv,p⟩:=pq64;exact⟨ρ,l,st,lr,sr,p.bnd.imp fun y st1 ρ1 H1 x1 s1 p1 u ru=>⟨ρ1,l,st1,lr.mono x1,s1,p1.bnd.imp fun z st2 ρ2 H2 x2 s2 p2 w rw'=>by
  have ru2:=ru.mono x2
  have rd:Rep X.K ρ2 H2 v d:=(rv.mono x1).mono x2
  cases ru2 with
  | ref _ h=>
   cases rw' with
   | int k=>
    obtain⟨ds,e,p3⟩:=Post.getL (Post.bnd (Post.bnd p2)) s2
    obtain⟨a,vs,ha,hv,r⟩:=s2.seq e
    rw[h]at ha;cases ha
    cases e2:MM.ixN ds.length k with
    | none=>rw[e2]at p3;exact p3.elim
    | some j=>
     rw[e2]at p3
     have hl:=(List.getElem?_eq_some_iff.mp e).1
     obtain⟨s3,x3⟩:=s2.put hl h hv (r.set j rd)
     refine .inl ⟨_,vs,k,j,rfl,rfl,hv,by rw[r.length];exact e2,?_⟩
     have p4:Post X.K ρ2 H2 (putL _ (ds.set j d) st2) _:=p3
     unfold putL at p4
     rw[e]at p4
     exact (p4 ρ2 _ x3 s3).ret s3 σ (((lr.mono x1).mono x2).mono x3)
   | _=>exact (Post.bnd p2).elim
  | @dic a n _ h=>
   have p':Post X.K ρ2 H2 (storeK n z d st2) fun a st' ρ' H'=>Post X.K ρ' H' (MM.ret l st') fun l' _ ρ' H'=>∀ σ',LR X.K ρ' H' σ' l'->Q σ' H':=by cases rw'<;>exact Post.bnd p2
   obtain⟨b,kvs,e1,hk,hl,q⟩:=Post.storeK p' s2
   exact .inr ⟨ρ2,st2,n,a,b,kvs,z,d,rfl,s2,h,e1,rw',hk,hl,rd,fun H3 s3 x3=>(q ρ2 H3 x3 s3).ret s3 σ (((lr.mono x1).mono x2).mono x3)⟩
  | _=>exact (Post.bnd p2).elim⟩⟩
theorem QeW {P : Program} {w : World} {K : PySem.W.Frag} {mg : Str -> Option Value} {base : Heap} {x qual : Str} {sd : Stmt} {f : Addr} {fd : FuncData} {N ps : List Str} {k : Nat} {body : CS} (F : Fun K x qual sd f fd) (S : FnScope N ps (defScope sd))
  (hbody:∀ (cdv:Value) (A:Around) (outer:List Env) (s:Shared) (H:Hp) (E:XK),Room k (A.deeper (envOfC qual (defScope sd) s.heap.objs.size f cdv))->SSs (cxOf CX0 P w K mg base N qual (defScope sd) f cdv A outer s H E).nox (defBody sd) body):
  FnOk P w K mg base CX0 (k + 1) f fd ps (spOf K ps.length (runDef N.length body)):=by
 refine F.ok S (fun vs H Q E h=>h.1) (fun cdv A outer s H vs Q E hr h=>⟨_,hbody cdv A outer s H E hr,?_⟩)
 obtain⟨hl,ρ,st,ds,sr,rvs,p⟩:=h
 refine⟨ρ,_,st,LR.start rvs,sr,?_⟩
 unfold runDef at p
 exact p.bnd.imp fun f st1 ρ1 H1 x1 s1 p1=>by
  cases f with
  | next l=>exact fun σ' _=>p1.ret s1 _ .non
  | ret d=>exact fun v rv=>p1.ret s1 v rv
  | brk l=>exact p1.elim
  | cnt l=>exact p1.elim
def ItR (K:PySem.W.Frag) (ρ0:List Addr) (H0:Hp) (w:Wk) (J:It):Prop:=∀ ρ H st,Ex ρ0 H0 ρ H->SR K ρ H st->w.same st->J.stop w.ds.length H/\∀ (i:Nat) (d:D),w.ds[i]?=some d->J.go i H/\∀ x H',J.yld i H x H'->Ex ρ H ρ H'/\SR K ρ H' st/\Rep K ρ H' x d
def tiOf (K:PySem.W.Frag) (f:CI):TI:=fun σ H R=>∃ ρ l st,LR K ρ H σ l/\SR K ρ H st/\Post K ρ H (f l st) fun w _ ρ' H'=>∀ J,ItR K ρ' H' w J->R J H'
abbrev SI (X:Cx) (tg e:Expr) (f:CI):Prop:=PI X tg e (tiOf X.K f)
theorem _root_.L2.PI.of {tg e:Expr}{t t':TI} (h:PI X tg e t) (f:∀ σ H R,t' σ H R->t σ H R):PI X tg e t':=fun pins s σ H R I q=>h pins s σ H R I (f σ H R q)
theorem QeX {ρ0:List Addr}{H0:Hp}{ds:List D}{p:Sto->Prop}{a:Addr} (h:∀ ρ H st,Ex ρ0 H0 ρ H->SR K ρ H st->p st->∃ vs,SqL K H a vs/\Reps K ρ H vs ds):ItR K ρ0 H0 ⟨ds,p⟩ (Itl K a):=fun ρ H st x s q=>by
 obtain⟨vs,hv,r⟩:=h ρ H st x s q
 refine⟨⟨vs,hv,by rw[r.length];exact Nat.le_refl _⟩,fun i d e=>?_⟩
 obtain⟨v,e1,rv⟩:=r.get e
 refine⟨⟨vs,v,hv,e1⟩,fun y H' pq65=>?_⟩
 obtain⟨e2,e3⟩:=pq65
 subst e2
 have:=e3 vs hv
 rw[e1]at this;cases this
 exact⟨Ex.refl,s,rv⟩
theorem QeY {ρ0:List Addr}{H0:Hp}{ds:List D}{p:Sto->Prop}{a:Addr} (h:∀ ρ H st,Ex ρ0 H0 ρ H->SR K ρ H st->p st->∃ vs,SqT K H a vs/\Reps K ρ H vs ds):ItR K ρ0 H0 ⟨ds,p⟩ (Itt K a):=fun ρ H st x s q=>by
 obtain⟨vs,hv,r⟩:=h ρ H st x s q
 refine⟨⟨vs,hv,by rw[r.length];exact Nat.le_refl _⟩,fun i d e=>?_⟩
 obtain⟨v,e1,rv⟩:=r.get e
 refine⟨⟨vs,v,hv,e1⟩,fun y H' pq66=>?_⟩
 obtain⟨e2,e3⟩:=pq66
 subst e2
 have:=e3 vs hv
 rw[e1]at this;cases this
 exact⟨Ex.refl,s,rv⟩
theorem QeZ {ρ0:List Addr}{H0:Hp}{lo:Int}{n:Nat}:ItR K ρ0 H0 ⟨rngD lo n,anySt⟩ (Itr lo n):=fun ρ H st x s _=>by
 refine⟨by show n<=(rngD lo n).length;unfold rngD;simp,fun i d e=>?_⟩
 have hi:i < n:=by
  have:=(List.getElem?_eq_some_iff.mp e).1
  simpa [rngD] using this
 refine⟨hi,fun y H' pq67=>?_⟩
 obtain⟨e2,e3⟩:=pq67
 subst e2 e3
 have:d=.int (lo + (i:Nat)):=by
  unfold rngD at e
  rw[List.getElem?_map,List.getElem?_range hi]at e
  exact (Option.some.inj e).symm
 subst this
 exact⟨Ex.refl,s,.int _⟩
theorem Qe0 {l:Expr}{tl:TE} (hl:PE X l tl):PI X tg l (fun σ H R=>tl σ H fun x H1=>∃ a,x=.ref a/\((∃ xs,SqL X.K H1 a xs)/\R (Itl X.K a) H1\/(∃ xs,SqT X.K H1 a xs)/\R (Itt X.K a) H1)):=by
 intro pins s σ H R I h
 refine thn (hl pins s σ H _ I h) fun v s1 pq68=>?_
 obtain⟨x,H1,I1,r1,a,e,q⟩:=pq68
 subst e
 cases r1
 rcases q with ⟨⟨xs,hq⟩,q⟩ | ⟨⟨xs,hq⟩,q⟩
 ·obtain⟨its,rv,p,hz⟩:=I1.list hq
  refine wpAny_pyIter_list p.isList ?_
  refine⟨s1.heap.objs.size,[s1.heap.objs.size],_,_,H1,rfl,I1.kept (t':=s1.toks) fun b o e=>Heap.get?_push_of_some _ e,QaV a _,⟨_,Heap.get?_push_size _ rfl,rfl,rfl⟩,fun b hb=>?_,q⟩
  have e:b=s1.heap.objs.size:=by simpa using hb
  subst e
  exact I1.fpOk (Nat.le_refl _) (I1.hok.fresh (Nat.le_refl _))
 ·obtain⟨its,rv,p,hz⟩:=I1.tuple hq
  refine wpAny_pyIter_tuple (show s1.heap.IsTuple a its.toArray from p) ?_
  refine⟨s1.heap.objs.size,[s1.heap.objs.size],_,_,H1,rfl,I1.kept (t':=s1.toks) fun b o e=>Heap.get?_push_of_some _ e,QaW a _,⟨_,Heap.get?_push_size _ rfl,rfl,rfl⟩,fun b hb=>?_,q⟩
  have e:b=s1.heap.objs.size:=by simpa using hb
  subst e
  exact I1.fpOk (Nat.le_refl _) (I1.hok.fresh (Nat.le_refl _))
theorem Qe1 (h:SE X e fa):SI X tg e (iSeq fa):=(Qe0 h).of fun σ H R h_=>h_.el fun ρ l st lr sr p=>⟨ρ,l,st,lr,sr,p.bnd.imp fun d st1 ρ1 H1 x1 s1 p1 v rv=>by
 cases rv with
 | @tup a vs ds h r=>exact⟨a,rfl,.inr ⟨⟨vs,h⟩,p1.ret s1 _ (QeY fun ρ H st x s _=>⟨vs,SqT.mono x.up h,r.mono x⟩)⟩⟩
 | @lit a vs ds h r=>exact⟨a,rfl,.inl ⟨⟨vs,h.seq⟩,p1.ret s1 _ (QeX fun ρ H st x s _=>⟨vs,(FzL.mono x.up h).seq,r.mono x⟩)⟩⟩
 | @ref a n _ h=>
  obtain⟨ds,e,p2⟩:=Post.getL (Post.bnd p1) s1
  obtain⟨a',vs,ha,hv,r⟩:=s1.seq e
  rw[h]at ha;cases ha
  refine⟨a,rfl,.inl ⟨⟨vs,SqL.of hv⟩,p2.ret s1 _ (QeX fun ρ H st x s q=>?_)⟩⟩
  obtain⟨a2,ws,ha2,hw,rw'⟩:=s.seq q
  obtain⟨τ,eτ,_⟩:=x.pre
  rw[eτ,Qdh h]at ha2;cases ha2
  exact⟨ws,SqL.of hw,rw'⟩
 | _=>exact p1.elim⟩
theorem Qe2 (h:SL X e ca):SI X tg e (iTmp ca):=(QaY h).of fun σ H R h_=>h_.el fun ρ l st lr sr p=>⟨ρ,l,st,lr,sr,p.bnd.imp fun ds st1 ρ1 H1 x1 s1 p1 a vs ha na hv rvs=>
 ⟨a,rfl,⟨vs,SqL.of hv⟩,p1.ret s1 _ (QeX fun ρ H st x s _=>⟨vs,SqL.of (x.lst a vs na hv),rvs.mono x⟩)⟩⟩
theorem Qe3 {p:Pos} (hg:Gl X "range") (hm:X.mg "range"=none) (h:SE X a fa) (hs:starEach [a] X.env=[(false,eval a X.env)]:=by rfl):SI X tg (.Call (.Name "range" p) [a] [] pos) (MM.iRng1 fa):=
 (Qa0 (tg:=tg) (p:=p) (pos:=pos) hg hm (Qei h Qeh hs) hs).of fun σ H R h_=>h_.el fun ρ l st lr sr p=>⟨ρ,l,st,lr,sr,by
  have q:=Post.bnd p
  unfold cCons
  show Post X.K ρ H (bnd (fa l) _ st) _
  unfold MM.bnd
  cases e:fa l st with
  | bad=>rw[e]at q;exact q
  | exc _ _=>rw[e]at q;exact q
  | ok d st1=>
   rw[e]at q
   show ∀ ρ' H',Ex ρ H ρ' H'->SR X.K ρ' H' st1->_
   intro ρ1 H1 x1 s1 vs rvs
   have p1:=q ρ1 H1 x1 s1
   cases rvs with
   | cons rv rt=>
    cases rt
    cases rv with
    | int j=>
     obtain⟨⟨h1,h2⟩,p2⟩:=Post.chk p1
     exact⟨j,rfl,h1,h2,p2.ret s1 _ QeZ⟩
    | _=>exact p1.elim⟩
theorem Post.chkS {p:Sto->Prop}{R:Unit->Sto->List Addr->Hp->Prop} (h:Post K ρ H (MM.chkS p st) R) (s:SR K ρ H st):p st/\R () st ρ H:=by
 unfold MM.chkS at h
 by_cases hp:p st
 ·rw[if_pos hp]at h;exact⟨hp,h ρ H Ex.refl s⟩
 ·rw[if_neg hp]at h;exact h.elim
theorem Qe4 {iter : Expr} {body : List Stmt} {ci : CI} {g : CG} {cb : CS} (hp : PassesOwn (model X.prog X.w) X.A X.env X.xe) (hc : X.calm = true) (hi : SI X tg iter ci) (hg : SG X tg g) (hb : SSs X body cb)
  (hs:∀ x,foldedSetIterable iter X.env x=pure x:=by intro _;rfl):SS X (.For tg iter body [] pos) (sFor ci g cb):=(Qa3 hp hc hi hg hb hs).of fun G σ H h_=>h_.el fun ρ l st lr sr p=>
 ⟨ρ,l,st,lr,sr,p.bnd.imp fun w st1 ρ1 H1 x1 s1 p1 J hJ=>by
  refine⟨fun i m σ' H'=>m=w.ds.length - i/\i<=w.ds.length/\∃ ρ' l' st',Ex ρ1 H1 ρ' H'/\LR X.K ρ' H' σ' l'/\SR X.K ρ' H' st'/\Post X.K ρ' H' (forD g cb w.same (w.ds.drop i) l' st') fun f _ ρ' H'=>match f with
   | .next l'=>∀ σ',LR X.K ρ' H' σ' l'->G.nx σ' H'
   | .ret d=>∀ v,Rep X.K ρ' H' v d->G.rt v H'
   | .brk l'=>∀ σ',LR X.K ρ' H' σ' l'->G.bk σ' H'
   | .cnt l'=>∀ σ',LR X.K ρ' H' σ' l'->G.ct σ' H',⟨w.ds.length,by simp,Nat.zero_le _,ρ1,l,st1,Ex.refl,lr.mono x1,s1,p1⟩,?_⟩
  rintro i m σ2 H2 ⟨rfl,hi,ρ2,l2,st2,x2,lr2,s2,p2⟩
  by_cases hlt:i < w.ds.length
  ·have ed:w.ds.drop i=w.ds[i]::w.ds.drop (i + 1):=List.drop_eq_getElem_cons hlt
   rw[ed]at p2
   unfold forD at p2
   obtain⟨sm,p3⟩:=Post.chkS (Post.bnd p2) s2
   obtain⟨_,go⟩:=hJ ρ2 H2 st2 x2 s2 sm
   obtain⟨g1,g2⟩:=go i w.ds[i] (List.getElem?_eq_getElem hlt)
   refine .inr ⟨g1,fun σ3 H3=>∃ ρ3 l3 st3,Ex ρ1 H1 ρ3 H3/\LR X.K ρ3 H3 σ3 l3/\SR X.K ρ3 H3 st3/\Post X.K ρ3 H3 (forD g cb w.same (w.ds.drop (i + 1)) l3 st3) fun f _ ρ' H'=>match f with
    | .next l'=>∀ σ',LR X.K ρ' H' σ' l'->G.nx σ' H'
    | .ret d=>∀ v,Rep X.K ρ' H' v d->G.rt v H'
    | .brk l'=>∀ σ',LR X.K ρ' H' σ' l'->G.bk σ' H'
    | .cnt l'=>∀ σ',LR X.K ρ' H' σ' l'->G.ct σ' H',fun σ3 H3 q=>⟨_,by ac_nf,rfl,hlt,q⟩,fun y H3 hy=>?_⟩
   obtain⟨x3,s3,rv⟩:=g2 y H3 hy
   refine⟨ρ2,l2,st2,_,lr2.mono x3,s3,rv,(Post.left x3 (Post.bnd p3)).imp fun l4 st4 ρ4 H4 x4 s4 p4 σ4 lr4=>⟨ρ4,l4,st4,lr4,s4,(Post.bnd p4).imp fun f st5 ρ5 H5 x5 s5 p5=>?_⟩⟩
   have x5':Ex ρ1 H1 ρ5 H5:=(x2.trans x3).trans (x4.trans x5)
   cases f with
   | next l5=>exact fun σ5 lr5=>⟨ρ5,l5,st5,x5',lr5,s5,p5⟩
   | cnt l5=>exact fun σ5 lr5=>⟨ρ5,l5,st5,x5',lr5,s5,p5⟩
   | brk l5=>exact fun σ5 lr5=>p5.ret s5 σ5 lr5
   | ret d=>exact fun v rv=>p5.ret s5 v rv
  ·have e:i=w.ds.length:=by ac_nf
   subst e
   rw[List.drop_length]at p2
   unfold forD at p2
   obtain⟨sm,p3⟩:=Post.chkS (Post.bnd p2) s2
   obtain⟨g1,_⟩:=hJ ρ2 H2 st2 x2 s2 sm
   exact .inl ⟨g1,p3.ret s2 σ2 lr2⟩⟩
end
section
variable {X:Cx}{a b c e tg:Expr}{es:List Expr}{pos:Pos}{fa fb fc:CE}{ca cb:CA}{ta tb:CT}{K:PySem.W.Frag}{ρ:List Addr}{H:Hp}{st:Sto}{x:Str}{p:Pos}{id T:String}
theorem Qe5 {n:Nat}{ix:List Nat}{σ:St}{l:Loc} (h:LR K ρ H σ l):LR K ρ H (capV n ix σ) (capt n ix l):=by
 unfold capV capt
 refine⟨by simp,fun i d e=>?_⟩
 have hi:n<=i:=Nat.le_of_not_lt fun z=>by
  rw[List.getElem?_append_left (by simpa using z),List.getElem?_replicate]at e
  split at e<;>cases e
 rw[List.getElem?_append_right (by simpa using hi),List.length_replicate,List.getElem?_map]at e
 cases q:ix[i - n]? with
 | none=>rw[q]at e;cases e
 | some k=>
  rw[q]at e
  have hj:(l[k]?).join=some d:=Option.some.inj e
  have hk:l[k]?=some (some d):=by
   cases z:l[k]? with
   | none=>rw[z]at hj;cases hj
   | some o=>rw[z]at hj;exact congrArg some hj
  obtain⟨v,hv,rv⟩:=h.2 k d hk
  refine⟨v,?_,rv⟩
  rw[List.getElem?_append_right (by simpa using hi),List.length_replicate,List.getElem?_map,q]
  show some ((σ[k]?).join)=some (some v)
  rw[hv];rfl
abbrev SIfs (X:Cx) (ifs:List Expr) (t:CT):Prop:=PIfs X ifs (ttOf X.K t)
theorem Qe6:SIfs X [] tTrue:=fun pins s σ H Q I h_=>h_.el fun ρ l st lr sr p=>Qd2 pins s σ H Q I (p.ret sr)
theorem Qe7 (h:ST X c ta):SIfs X [c] ta:=Qd3 h
theorem Ex.own {ρ':List Addr}{H':Hp}{q:Addr}{ws:List V} (x:Ex ρ H ρ' H') (h:H q=none):Ex ρ H ρ' (upd H' q (.lst ws)):=by
 have ne:∀ b o,H b=some o->b≠q:=fun b o e z=>by rw[z,h]at e;cases e
 exact⟨x.pre,fun b o no e=>by rw[Qaj (ne b o e)];exact x.fix b o no e,fun b xs nb e=>by rw[Qaj (ne b _ e)];exact x.oth b xs nb e,fun b o e=>by rw[Qaj (ne b o e)];exact x.knd b o e⟩
theorem Up.own {ρ':List Addr}{H':Hp}{q:Addr}{vs ws:List V} (h:H' q=some (.lst vs)):Up ρ' H' ρ' (upd H' q (.lst ws)):=
 ⟨⟨[],by simp⟩,fun b o no e=>by rw[Qaj fun z=>by subst z;rw[h]at e;cases e;exact nomatch no];exact e,
  fun b o e=>by
   by_cases z:b=q
   ·subst z;rw[h]at e;cases e;exact⟨_,Qai,rfl⟩
   ·exact⟨o,by rw[Qaj z];exact e,rfl⟩⟩
theorem LR.up {ρ':List Addr}{H':Hp}{σ:St}{l:Loc} (x:Up ρ H ρ' H') (h:LR K ρ H σ l):LR K ρ' H' σ l:=⟨h.1,fun i d e=>let ⟨v,e1,r⟩:=h.2 i d e;⟨v,e1,r.up x⟩⟩
theorem SR.own {q:Addr}{vs ws:List V} (s:SR K ρ H st) (h:H q=some (.lst vs)) (nq:q∉ρ):SR K ρ (upd H q (.lst ws)) st:=
 ⟨s.len,s.nd,fun n b o e1 e2=>ObR.mono (o:=o) (Up.own h) (s.ob n b o e1 e2) fun us e=>by rw[Qaj (fun (z:b=q)=>nq (by rw[<- z];exact List.mem_of_getElem? e1))];exact e⟩
theorem Qe8 {ci:CI}{g:CG}{n:Nat}{ix:List Nat}:∀ σ H Q,tlOf K (aComp n ix ci g ta fa) σ H Q->tComp (tiOf K ci) n ix (tgOf K g) (ttOf K ta) (tOf K fa) σ H Q:=fun σ H Q h_=>h_.el fun ρ l st lr sr p=>
 ⟨ρ,l,st,lr,sr,p.bnd0.imp fun w st1 ρ1 H1 x1 s1 p1 J hJ q hq=>by
  obtain⟨hz,p2⟩:=Post.chk p1
  have hn:H q=none:=by
   cases z:H q with
   | none=>rfl
   | some o=>exact absurd hq (x1.trk q o z)
  refine⟨fun i m σ' H'=>m=w.ds.length - i/\i<=w.ds.length/\∃ ρ' l' st' done vs,Ex ρ H ρ' H'/\Ex ρ1 H1 ρ' H'/\LR K ρ' H' σ' l'/\SR K ρ' H' st'/\q∉ρ'/\H' q=some (.lst vs)/\Reps K ρ' H' vs done/\done.length<=i /\
   Post K ρ H (collect g ta fa w.same (w.ds.drop i) l' st') (fun rest st2 ρ2 H2=>∀ a ws,H a=none->a∉ρ2->H2 a=some (.lst ws)->Reps K ρ2 H2 ws (done++rest)->Q (.ref a) H2),
   ⟨w.ds.length,by simp,Nat.zero_le _,ρ1,capt n ix l,st1,[],[],x1.trans (Ex.new hq),Ex.new hq,Qe5 ((lr.mono x1).mono (Ex.new hq)),s1.new hq,s1.fresh hq,Qai,.nil,Nat.zero_le _,p2⟩,?_⟩
  rintro i m σ2 H2 ⟨rfl,hi,ρ2,l2,st2,done,vs,x2,y2,lr2,s2,nq,hv,rvs,hd,p3⟩
  by_cases hlt:i < w.ds.length
  ·have ed:w.ds.drop i=w.ds[i]::w.ds.drop (i + 1):=List.drop_eq_getElem_cons hlt
   rw[ed]at p3
   unfold collect at p3
   obtain⟨sm,p4⟩:=Post.chkS (p3.bnd0.left x2) s2
   obtain⟨_,go⟩:=hJ ρ2 H2 st2 y2 s2 sm
   obtain⟨g1,g2⟩:=go i w.ds[i] (List.getElem?_eq_getElem hlt)
   refine .inr ⟨g1,fun y H3 hy=>?_⟩
   obtain⟨x3,s3,rv⟩:=g2 y H3 hy
   refine⟨ρ2,l2,st2,_,lr2.mono x3,s3,rv,(p4.bnd0.left (x2.trans x3)).imp fun l4 st4 ρ4 H4 x4 s4 p5 σ4 lr4=>⟨ρ4,l4,st4,lr4,s4,(p5.bnd0.left (x2.trans (x3.trans x4))).imp fun b st5 ρ5 H5 x5 s5 p6=>?_⟩⟩
   have y5:Ex ρ2 H2 ρ5 H5:=x3.trans (x4.trans x5)
   have out:∀ {ρ':List Addr}{H':Hp},Ex ρ2 H2 ρ' H'->q∉ρ':=fun z hm=>by
    obtain⟨τ,e,f⟩:=z.pre
    rw[e]at hm
    rcases List.mem_append.mp hm with hm | hm
    ·exact nq hm
    ·rw[f q hm]at hv;cases hv
   cases b with
   | false=>exact⟨_,by ac_nf,rfl,hlt,ρ5,l4,st5,done,vs,x2.trans y5,y2.trans y5,lr4.mono x5,s5,out y5,y5.lst q vs nq hv,rvs.mono y5,Nat.le_succ_of_le hd,p6⟩
   | true=>
    refine⟨ρ5,l4,st5,lr4.mono x5,s5,(p6.bnd0.left (x2.trans y5)).imp fun d st6 ρ6 H6 x6 s6 p7 v rv6=>?_⟩
    have y6:Ex ρ2 H2 ρ6 H6:=y5.trans x6
    have hv6:=y6.lst q vs nq hv
    have u6:Up ρ6 H6 ρ6 (upd H6 q (.lst (vs++[v]))):=Up.own hv6
    refine⟨vs,hv6,?_,_,by ac_nf,rfl,hlt,ρ6,l4,st6,done++[d],vs++[v],(x2.trans y6).own hn,(y2.trans y6).own hq,LR.up u6 ((lr4.mono x5).mono x6),s6.own hv6 (out y6),out y6,Qai,
     Reps.app ((rvs.mono y6).up u6) (.cons (rv6.up u6) .nil),by simp;ac_nf,?_⟩
    ·have e1:=rvs.length
     have e2:w.ds.length<=sizeLine:=hz
     ac_nf
    ·refine p7.bnd0.imp fun rest st8 ρ8 H8 x8 s8 p8 a ws ha na hw rws=>?_
     exact p8 ρ8 H8 x8 s8 a ws ha na hw (by rw[List.append_cons];exact rws)
  ·have e:i=w.ds.length:=by ac_nf
   subst e
   rw[List.drop_length]at p3
   unfold collect at p3
   obtain⟨sm,p4⟩:=Post.chkS (p3.bnd0.left x2) s2
   obtain⟨g1,_⟩:=hJ ρ2 H2 st2 y2 s2 sm
   refine .inl ⟨g1,p4 ρ2 H2 x2 s2 q vs hn nq hv (by rw[List.append_nil];exact rvs)⟩⟩
theorem Qe9 {scope : Scope} {N : List Str} {ifs : List Expr} {n : Nat} {ix : List Nat} {ci : CI} {g : CG} (hc : X.calm = true) (S : CompScope X scope) (T : CompNames X scope N n ix) (hi : SI X tg b ci)
  (blk:∀ (fp:List Addr) (s:Shared) (H:Hp),SG (cxC X N scope fp s H) tg g/\SIfs (cxC X N scope fp s H) ifs ta/\SE (cxC X N scope fp s H) e fa)
  (hs:∀ x,foldedSetIterable b X.env x=pure x:=by intro _;rfl):SL X (.ListComp e [⟨tg,b,ifs,0⟩] scope pos) (aComp n ix ci g ta fa):=(Qd5 hc S T hi blk hs).of Qe8
theorem Qfa {scope : Scope} {N : List Str} {ifs : List Expr} {n i : Nat} {ix : List Nat} {ci : CI} {g : CG} {y : Str} {pos' spos : Pos}
  (hN:X.N.Nodup) (hi':X.N[i]?=some y) (hy:L2.Loc X.env.scope y) (hf:X.fn y=true\/X.env.scope.names.lookup y=some .local)
  (hc:X.calm=true) (S:CompScope X scope) (T:CompNames X scope N n ix) (hi:SI X tg b ci)
  (blk:∀ (fp:List Addr) (s:Shared) (H:Hp),SG (cxC X N scope fp s H) tg g/\SIfs (cxC X N scope fp s H) ifs ta/\SE (cxC X N scope fp s H) e fa)
  (hsw:swapsWith (.ListComp e [⟨tg,b,ifs,0⟩] scope pos) (some (.Name y pos')) spos.line X.env=pure true)
  (hs:∀ x,foldedSetIterable b X.env x=pure x:=by intro _;rfl):SS X (.Assign [.Name y pos'] (.ListComp e [⟨tg,b,ifs,0⟩] scope pos) spos) (sAsg (gVar i) (cKeep (aComp n ix ci g ta fa))):=
 (Qd6 hN hi' hy hf hc S T hi blk hsw hs).of (QeQ (fun σ H Q h_=>h_.el fun ρ l st lr sr p=>Qe8 _ _ _ ⟨ρ,l,st,lr,sr,p.bnd0.imp fun ds st1 ρ1 H1 x1 s1 p1 a vs ha na hv rvs=>by
  have x:Ex ρ H (ρ1++[a]) H1:=by
   obtain⟨τ,e,f⟩:=x1.pre
   refine⟨⟨τ++[a],by rw[e,List.append_assoc],fun b hb=>?_⟩,x1.fix,x1.oth,x1.knd⟩
   rcases List.mem_append.mp hb with hb | hb
   ·exact f b hb
   ·rw[List.mem_singleton]at hb;rw[hb];exact ha
  refine p1 (ρ1++[a]) H1 x (s1.keep hv na rvs) _ (.ref ⟨_,hv,rfl⟩ ?_)
  rw[<- s1.len];simp⟩) QeR)
theorem Qfb {g : D -> M D} (hc : CallR X (.builtin id) (fun xs H Q => ∃ v, xs = [v] /\ uOf X.K g v H Q)) (hg : Gl X x) (hm : X.mg x = none) (hv : bootBuiltins x = some (.builtin id)) (ha : SE X e fa) (hn : x ≠ "__name__" := by decide) (hdb : (x == ("__debug__" : Str)) = false := by decide)
  (he:starEach [e] X.env=[(false,eval e X.env)]:=by rfl):SE X (.Call (.Name x p) [e] [] pos) (c1 g fa):=
 (QbM hc hg hm hv (QbA ha Qbz he) hn hdb he rfl).of fun σ H Q h_=>h_.el fun ρ l st lr sr p=>⟨ρ,l,st,lr,sr,p.bnd.imp fun d st1 ρ1 H1 x1 s1 p1 v rv=>⟨v,rfl,ρ1,st1,d,s1,rv,p1⟩⟩
theorem Qfc {g : D -> M D} (hc : CallR X (.type T) (fun xs H Q => ∃ v, xs = [v] /\ uOf X.K g v H Q)) (hg : Gl X x) (hm : X.mg x = none) (hv : bootBuiltins x = some (.type T)) (ha : SE X e fa) (hn : x ≠ "__name__" := by decide) (hdb : (x == ("__debug__" : Str)) = false := by decide)
  (he:starEach [e] X.env=[(false,eval e X.env)]:=by rfl):SE X (.Call (.Name x p) [e] [] pos) (c1 g fa):=
 (QbN hc hg hm hv (QbA ha Qbz he) hn hdb he rfl).of fun σ H Q h_=>h_.el fun ρ l st lr sr p=>⟨ρ,l,st,lr,sr,p.bnd.imp fun d st1 ρ1 H1 x1 s1 p1 v rv=>⟨v,rfl,ρ1,st1,d,s1,rv,p1⟩⟩
def lOf (K:PySem.W.Frag) (g:List D->M D):List V->Hp->VK->Prop:=fun xs H Q=>∃ a vs ρ st ds,xs=[.ref a]/\SqL K H a vs/\SR K ρ H st/\Reps K ρ H vs ds/\Post K ρ H (g ds st) fun r _ ρ' H'=>∀ v,Rep K ρ' H' v r->Q v H'
theorem Qfd {g : List D -> M D} (hc : CallR X (.builtin id) (lOf X.K g)) (hg : Gl X x) (hm : X.mg x = none) (hv : bootBuiltins x = some (.builtin id)) (ha : SL X e ca) (hn : x ≠ "__name__" := by decide) (hdb : (x == ("__debug__" : Str)) = false := by decide)
  (he:starEach [e] X.env=[(false,eval e X.env)]:=by rfl):SE X (.Call (.Name x p) [e] [] pos) (cTmp g ca):=
 (QbM hc hg hm hv (QbA ha Qbz he) hn hdb he rfl).of fun σ H Q h_=>h_.el fun ρ l st lr sr p=>⟨ρ,l,st,lr,sr,p.bnd.imp fun ds st1 ρ1 H1 x1 s1 p1 a vs ha na hv rvs=>⟨a,vs,ρ1,st1,ds,rfl,SqL.of hv,s1,rvs,p1⟩⟩
theorem Qfe {g : List D -> M D} (hc : CallR X (.type T) (lOf X.K g)) (hg : Gl X x) (hm : X.mg x = none) (hv : bootBuiltins x = some (.type T)) (ha : SL X e ca) (hn : x ≠ "__name__" := by decide) (hdb : (x == ("__debug__" : Str)) = false := by decide)
  (he:starEach [e] X.env=[(false,eval e X.env)]:=by rfl):SE X (.Call (.Name x p) [e] [] pos) (cTmp g ca):=
 (QbN hc hg hm hv (QbA ha Qbz he) hn hdb he rfl).of fun σ H Q h_=>h_.el fun ρ l st lr sr p=>⟨ρ,l,st,lr,sr,p.bnd.imp fun ds st1 ρ1 H1 x1 s1 p1 a vs ha na hv rvs=>⟨a,vs,ρ1,st1,ds,rfl,SqL.of hv,s1,rvs,p1⟩⟩
theorem Qff {prog : Program} {w : World} {A : Around} {E : Value -> Shared -> Prop} {s : Shared} {K : Type} [DecidableEq K] {knd : HeapKind prog w K} {d : Addr} {xs : List (K × Addr × Value)} {Q : Value -> Shared -> Prop} (hd : (d == sysModules) = false) (hm : s.heap.DictOfH knd d xs) (hfit : (xs.length : Int) < 2 ^ 63)
  (h:Q (.int xs.length (s.toks + 1)) { s with toks:=s.toks + 1 + 1 }):wpAny (model prog w) A (call (.builtin "len") [.ref d]) Q E s:=by
 refine Calls.call_function_entry kind_len plain_len entry_len (args_len1 _) ?_
 unfold Builtin.«len»
 have meet:MeetsIn prog w (Builtin.«dict.__len__» ⟨[.ref d],[]⟩) (fun _ R s=>∃ xs,s.heap.DictOfH knd d xs/\R (.ok (.ret (.int xs.length s.toks))) { s with toks:=s.toks + 1 }):=.of_wp fun A R s pq69=>by
  obtain⟨xs,hm,h⟩:=pq69
  obtain⟨o,es,ep,ho,hc,hdat,he,_,hn⟩:=hm
  show wpAny _ _ (dictSize d >>= _) _ _ s
  unfold dictSize
  refine wpAny_bind (wpAny_bind (wpAny_dictEntries ho hdat (wpAny_pure ?_)))
  show wpAny _ _ (Builtin.Dict.pendingCount d >>= _) _ _ s
  refine wpAny_bind (wpAny_pendingCount_other hd ?_)
  refine wpAny_ret_mkInt ?_
  rw[Nat.add_zero,size_of_entries he];exact h
 refine wpAny_bind (m:=oneArg "len" _) (wpAny_pure ?_)
 refine wpAny_bind (m:=callSpecial? (.ref d) (Str.ofString "__len__")) (wpAny_callSpecial?_slot (name:=Str.ofString "__len__") hm.typeIs F.slot_dict_len
  (call_meetsIn F.slot_dict_len hm.typeIs F.entry_dict_len (F.args_dict_len_1 _) meet ⟨xs,hm,?_⟩))
 show wpAny _ _ _ _ _ { s with toks:=s.toks + 1 }
 refine wpAny_bind (wpAny_holding (wpAny_pure ?_))
 refine wpAny_bind (wpAny_letGo ?_)
 show wpAny _ _ (if ((xs.length:Nat):Int) < 0 then _ else _) _ _ _
 rw[if_neg (by ac_nf)]
 show wpAny _ _ (if ((xs.length:Nat):Int) ≥ 2 ^ 63 then _ else _) _ _ _
 rw[if_neg (by ac_nf)]
 exact wpAny_bind (wpAny_mkInt (wpAny_pure ⟨_,rfl,h⟩))
theorem Qfg:CallR X (.builtin "len") (fun xs H Q=>∃ (ρ:List Addr) (st:Sto) (n:Nat) (a:Addr) (b:Bool) (kvs:List (D × D)),xs=[.ref a]/\SR X.K ρ H st/\ρ[n]?=some a/\st[n]?=some (.dct b kvs)/\Q (.int kvs.length) H):=by
 intro pins s σ H xs us Q I r pq114;obtain⟨ρ,st,n,a,b,kvs,e,sr,ha,hn,q⟩:=pq114
 subst e
 obtain⟨u,rfl,ru⟩:=Qbs r
 cases ru
 have g:=sr.ob n a _ ha hn
 cases b with
 | false=>
  obtain⟨es,e,r⟩:=g
  rw[<- KR.length r]at q
  exact QcZ I (.inl e) fun t s' I'=>⟨.int es.length,H,I',⟨t,rfl⟩,q⟩
 | true=>
  obtain⟨es,e,r⟩:=g
  obtain⟨z,hd,xs,rx,dd,_⟩:=QdG I e r
  rw[<- NR.length r,Paired.length rx]at q
  have hz:xs.length<=sizeLine:=by rw[<- Paired.length rx];exact z
  exact Qff hd dd (by rw[sizeLine_eq]at hz;ac_nf) ⟨.int xs.length,H,I.tok _,⟨_,rfl⟩,q⟩
theorem Qfh:CallR X (.builtin "len") (fun xs H Q=>∃ v,xs=[v]/\uOf X.K lenD v H Q):=((Qcj.or Qck).or Qfg).of fun xs H Q pq70=>by
 obtain⟨v,e,ρ,st,d,sr,rv,p⟩:=pq70
 cases rv with
 | @tup a vs ds h r=>exact .inl (.inl ⟨a,vs,e,.inr h,by rw[r.length];exact p.ret sr _ (.int _)⟩)
 | @lit a vs ds h r=>exact .inl (.inl ⟨a,vs,e,.inl h.seq,by rw[r.length];exact p.ret sr _ (.int _)⟩)
 | @ref a n _ h=>
  obtain⟨ds,e2,p1⟩:=Post.getL (Post.bnd p) sr
  obtain⟨a',vs,ha,hv,r⟩:=sr.seq e2
  rw[h]at ha;cases ha
  exact .inl (.inl ⟨a,vs,e,.inl (SqL.of hv),by rw[r.length];exact p1.ret sr _ (.int _)⟩)
 | str z=>exact .inl (.inr ⟨z,e,(Post.chk p).1,(Post.chk p).2.ret sr _ (.int _)⟩)
 | @dic a n _ h=>
  obtain⟨b,kvs,e2,p1⟩:=Post.getDc (Post.bnd p) sr
  exact .inr ⟨ρ,st,n,a,b,kvs,e,sr,h,e2,p1.ret sr _ (.int _)⟩
 | _=>exact p.elim
theorem Qfi:CallR X (.type "int") (fun xs H Q=>∃ v,xs=[v]/\uOf X.K intD v H Q):=Qbv.of fun xs H Q pq71=>by
 obtain⟨v,e,ρ,st,d,sr,rv,p⟩:=pq71
 cases rv with
 | int i=>exact .inl ⟨i,e,p.ret sr _ (.int _)⟩
 | bl k=>exact .inr ⟨k,e,p.ret sr _ (.int _)⟩
 | _=>exact p.elim
theorem Qfj:CallR X (.type "tuple") (fun xs H Q=>∃ v,xs=[v]/\uOf X.K tupleD v H Q):=Qcm.of fun xs H Q pq72=>by
 obtain⟨v,e,ρ,st,d,sr,rv,p⟩:=pq72
 cases rv with
 | @tup a vs ds h r=>exact⟨a,vs,e,.inr ⟨h,p.ret sr _ (.tup h r)⟩⟩
 | @lit a vs ds h r=>exact⟨a,vs,e,.inl ⟨h.seq,fun l hl=>p ρ _ (Ex.new hl) (sr.new hl) _ (.tup (SqT.of Qai) (r.mono (Ex.new hl)))⟩⟩
 | @ref a n _ h=>
  obtain⟨ds,e2,p1⟩:=Post.getL (Post.bnd p) sr
  obtain⟨a',vs,ha,hv,r⟩:=sr.seq e2
  rw[h]at ha;cases ha
  exact⟨a,vs,e,.inl ⟨SqL.of hv,fun l hl=>p1 ρ _ (Ex.new hl) (sr.new hl) _ (.tup (SqT.of Qai) (r.mono (Ex.new hl)))⟩⟩
 | _=>exact p.elim
theorem Qfk:CallR X (.type "tuple") (lOf X.K tupL):=Qcm.of fun xs H Q pq73=>
 by obtain⟨a,vs,ρ,st,ds,e,hv,sr,r,p⟩:=pq73;exact⟨a,vs,e,.inl ⟨hv,fun l hl=>p ρ _ (Ex.new hl) (sr.new hl) _ (.tup (SqT.of Qai) (r.mono (Ex.new hl)))⟩⟩
end
section
variable {X:Cx}{a b c e tg:Expr}{es:List Expr}{pos:Pos}{fa fb fc:CE}{ca cb:CA}{ta tb:CT}{K:PySem.W.Frag}{ρ:List Addr}{H:Hp}{st:Sto}{x:Str}{p:Pos}{T:String}
theorem Qfl {ds:List D}{ns:List Int}{vs:List V} (h:numsL ds=some ns) (g:Reps K ρ H vs ds):vs=ns.map V.int:=by
 induction ds generalizing ns vs with
 | nil=>cases g;cases h;rfl
 | cons d ds ih=>
  cases g with
  | cons r t=>
   cases r with
   | int i=>
    unfold numsL at h
    cases q:numsL ds with
    | none=>rw[q]at h;cases h
    | some ms=>
     rw[q]at h
     have h':i::ms=_:=Option.some.inj h
     subst h'
     rw[ih q t];rfl
   | _=>cases h
theorem Qfm:∀ {ds:List D}{ns:List Bool}{vs:List V},boolsL ds=some ns->Reps K ρ H vs ds->vs=ns.map V.bl
 | [],_,_,h,.nil=>by cases h;rfl
 | .bl i::ds,_,_,h,.cons r t=>by
  unfold boolsL at h
  cases q:boolsL ds with
  | none=>rw[q]at h;cases h
  | some ms=>
   rw[q]at h
   have h':i::ms=_:=Option.some.inj h
   subst h'
   cases r
   rw[Qfm q t];rfl
 | .non::_,_,_,h,_=>by cases h
 | .int _::_,_,_,h,_=>by cases h
 | .str _::_,_,_,h,_=>by cases h
 | .tup _::_,_,_,h,_=>by cases h
 | .lit _::_,_,_,h,_=>by cases h
 | .ref _::_,_,_,h,_=>by cases h
theorem Qfn:∀ {bs:List Bool}{us:List Value},Vals (bs.map V.bl) us->us=bs.map Value.bool
 | [],_,.nil=>rfl
 | _::_,_,.cons r t=>by cases r;rw[Qfn t];rfl
theorem Qfo (hc:X.calm=true):CallR X (.builtin "all") (fun xs H Q=>∃ (l:Addr) (bs:List Bool),xs=[.ref l]/\SqL X.K H l (bs.map V.bl)/\Q (.bl (bs.all id)) H):=by
 intro pins s σ H xs us Q I r h
 obtain⟨l,bs,rfl,hq,q⟩:=h
 obtain⟨u,rfl,rx⟩:=Qbs r
 cases rx
 obtain⟨its,rv,pl,hz⟩:=I.list hq
 have ei:=Qfn rv
 subst ei
 refine call_all_walk (wpAny_pyIter_list pl.isList ?_)
 have hlt:l < s.heap.objs.size:=by
  obtain⟨o,ho,_⟩:=pl.isList
  exact Heap.lt_size ho
 refine⟨s.heap.objs.size,_,_,_,_,_,fun i=>(bs[i]?).getD true,rfl,Walks.list (A:=X.A.in1) (I.ok.hd hc) s.heap.objs.size l (Nat.ne_of_lt hlt) (bs.map Value.bool).toArray,⟨⟨_,Heap.get?_push_size _ rfl,rfl,rfl⟩,?_⟩,?_,fun h' tk hk=>?_⟩
 ·obtain⟨o,ho,hr⟩:=pl.isList
  exact⟨o,Heap.get?_push_of_some _ ho,hr⟩
 ·intro i v s' Q' E' hv hQ
  have hv':(bs.map Value.bool)[i]?=some v:=by simpa using hv
  rw[List.getElem?_map]at hv'
  dsimp only at hQ
  cases e:bs[i]? with
  | none=>rw[e]at hv';cases hv'
  | some k=>
   rw[e]at hv' hQ
   have:v=Value.bool k:=(Option.some.inj hv').symm
   subst this
   exact wpAny_truthy_bool hQ
 ·have e : (List.range (bs.map Value.bool).toArray.size).all (fun i => (bs[i]?).getD true) = bs.all id := by
    have hs:(bs.map Value.bool).toArray.size=bs.length:=by simp
    rw[hs,Bool.eq_iff_iff,List.all_eq_true,List.all_eq_true]
    constructor
    ·intro hh k hk
     obtain⟨i,hi⟩:=List.getElem?_of_mem hk
     have:=hh i (List.mem_range.mpr (List.getElem?_eq_some_iff.mp hi).1)
     rw[hi]at this;exact this
    ·intro hh i hi
     have hl:=List.mem_range.mp hi
     rw[List.getElem?_eq_getElem hl]
     exact hh _ (List.getElem_mem hl)
  rw[e]
  exact⟨.bl _,H,I.kept (t':=tk) fun b o hb=>hk b o (by simp;exact Nat.ne_of_lt (Heap.lt_size hb)) (Heap.get?_push_of_some _ hb),rfl,q⟩
theorem Qfp:∀ (ns:List Int) (n:Int),ns.foldl max n∈n::ns/\∀ a∈n::ns,a<=ns.foldl max n
 | [],n=>⟨by simp,by simp⟩
 | m::ns,n=>by
  obtain⟨h1,h2⟩:=Qfp ns (max n m)
  rw[List.foldl_cons]
  refine⟨?_,fun a ha=>?_⟩
  ·rcases List.mem_cons.mp h1 with e | e
   ·rw[e]
    by_cases hm:n<=m
    ·rw[Int.max_eq_right hm];simp
    ·rw[Int.max_eq_left (by ac_nf)];simp
   ·exact List.mem_cons_of_mem _ (List.mem_cons_of_mem _ e)
  ·have hx:=h2 (max n m) List.mem_cons_self
   rcases List.mem_cons.mp ha with e | e
   ·subst e;exact Int.le_trans (Int.le_max_left ..) hx
   ·rcases List.mem_cons.mp e with e | e
    ·subst e;exact Int.le_trans (Int.le_max_right ..) hx
    ·exact h2 a (List.mem_cons_of_mem _ e)
theorem Qfq {vs:List Value}{ns:List Int} (hi:IntsAre vs ns):∃ xs,vs.toArray=intItems xs/\ns=xs.toList.map (·.1):=by
 obtain⟨xs,e⟩:=hi.allInts.items
 exact⟨xs,e,by rw[<- hi.numsOf,<- nums_intItems,<- e]⟩
theorem Qfr (hc:X.calm=true):CallR X (.builtin "max") (fun xs H Q=>∃ (l:Addr) (n:Int) (ns:List Int),xs=[.ref l]/\SqL X.K H l ((n::ns).map V.int)/\Q (.int (ns.foldl max n)) H):=by
 intro pins s σ H xs us Q I r h
 obtain⟨l,n,ns,rfl,hq,q⟩:=h
 obtain⟨u,rfl,rx⟩:=Qbs r
 cases rx
 obtain⟨its,rv,pl,hz⟩:=I.list hq
 obtain⟨ys,e,en⟩:=Qfq (QbV rv)
 have hl:=pl.isList
 rw[e]at hl
 have hsz:ys.size=ns.length + 1:=by have:=congrArg List.length en;simpa using this.symm
 refine max_intList (I.ok.hd hc) hl (by ac_nf) fun v h' tk hv hk=>?_
 obtain⟨t,rfl⟩:=intItems_at hv
 obtain⟨b1,b2⟩:=argBest_gt (numAt ys) (ys.size - 1)
 obtain⟨f1,f2⟩:=Qfp ns n
 generalize argBest (fun i j=>decide (numAt ys i > numAt ys j)) (ys.size - 1)=k at b1 b2 ⊢
 have hin:numAt ys k∈n::ns:=by
  rw[en,numAt_eq]
  exact getD_mem (by rw[<- en];simp;ac_nf)
 have hge:ns.foldl max n<=numAt ys k:=by
  rw[en]at f1
  obtain⟨j,hj,ej⟩:=mem_getD f1
  rw[<- ej,<- numAt_eq]
  exact b2 j (by rw[<- en]at hj;simp at hj;ac_nf)
 have hM:numAt ys k=ns.foldl max n:=Int.le_antisymm (f2 _ hin) hge
 rw[hM]
 exact⟨.int _,H,I.kept (t':=tk) hk,⟨t,rfl⟩,q⟩
theorem Qfs (hc:X.calm=true):CallR X (.builtin "all") (lOf X.K allD):=(Qfo hc).of fun xs H Q pq74=>by
 obtain⟨a,vs,ρ,st,ds,e,hv,sr,r,p⟩:=pq74
 unfold allD at p
 cases q:boolsL ds with
 | none=>rw[q]at p;exact p.elim
 | some bs=>
  rw[q]at p
  have:=Qfm q r
  subst this
  exact⟨a,bs,e,hv,p.ret sr _ (.bl _)⟩
theorem Qft (hc:X.calm=true):CallR X (.builtin "max") (lOf X.K maxD):=(Qfr hc).of fun xs H Q pq75=>by
 obtain⟨a,vs,ρ,st,ds,e,hv,sr,r,p⟩:=pq75
 unfold maxD at p
 cases q:numsL ds with
 | none=>rw[q]at p;exact p.elim
 | some ns=>
  rw[q]at p
  have:=Qfl q r
  subst this
  cases ns with
  | nil=>exact p.elim
  | cons n ns=>exact⟨a,n,ns,e,hv,p.ret sr _ (.int _)⟩
end
section
variable {X:Cx}{K:PySem.W.Frag}{ρ:List Addr}{H:Hp}{st:Sto}{pins:List (Addr × Obj)}{σ:St}{s:Shared}
theorem Qfu {f:D->D->Option Bool}:∀ {xs ys:List D}{r:Bool},allF f xs ys=some r->∀ (j:Nat) (x y:D),xs[j]?=some x->ys[j]?=some y->∃ k,f x y=some k
 | [],_,_,_,j,x,y,h,_=>by cases j<;>cases h
 | _::_,[],_,_,j,x,y,_,h=>by cases j<;>cases h
 | a::xs,b::ys,r,h,j,x,y,hx,hy=>by
  unfold allF at h
  cases e:f a b with
  | none=>rw[e]at h;cases h
  | some k=>
   cases j with
   | zero=>cases hx;cases hy;exact⟨k,e⟩
   | succ j=>
    rw[e]at h
    have hx':xs[j]?=some x:=hx
    have hy':ys[j]?=some y:=hy
    cases k with
    | true=>exact Qfu h j x y hx' hy'
    | false=>
     cases e2:allF f xs ys with
     | none=>rw[e2]at h;cases h
     | some r'=>exact Qfu e2 j x y hx' hy'
def itE (f:D->D->Option Bool) (xs ys:List D) (j:Nat):Bool:=match xs[j]?,ys[j]? with
 | some x,some y=>(f x y).getD false
 | _,_=>true
theorem Qfv {f:D->D->Option Bool}:∀ {xs ys:List D}{r:Bool},allF f xs ys=some r->r=((List.range (min xs.length ys.length)).all (itE f xs ys) && xs.length == ys.length)
 | [],[],_,h=>by cases h;rfl
 | _::_,[],_,h=>by cases h;simp
 | [],_::_,_,h=>by cases h;simp
 | a::xs,b::ys,r,h=>by
  have step:(List.range (min (a::xs).length (b::ys).length)).all (itE f (a::xs) (b::ys))=((f a b).getD false && (List.range (min xs.length ys.length)).all (itE f xs ys)):=by
   have e:min (a::xs).length (b::ys).length=min xs.length ys.length + 1:=by simp only[List.length_cons];ac_nf
   rw[e,List.range_succ_eq_map,List.all_cons,List.all_map]
   rfl
  rw[step]
  unfold allF at h
  cases e:f a b with
  | none=>rw[e]at h;cases h
  | some k=>
   rw[e]at h
   cases k with
   | true=>
    have:=Qfv h
    simp only[Option.getD_some,Bool.true_and,List.length_cons]
    rw[this]
    congr 1
    rw[Bool.eq_iff_iff];simp
   | false=>
    simp only[Option.getD_some,Bool.false_and]
    cases e2:allF f xs ys with
    | none=>rw[e2]at h;cases h
    | some r'=>rw[e2]at h;cases h;rfl
theorem Vals.at {vs:List V}{us:List Value}{j:Nat}{u:Value} (r:Vals vs us) (h:us[j]?=some u):∃ v,vs[j]?=some v/\RelV v u:=by
 have hl:=r.length
 have hj:j < vs.length:=by rw[hl];exact (List.getElem?_eq_some_iff.mp h).1
 obtain⟨u',e,ru⟩:=r.get (List.getElem?_eq_getElem hj)
 rw[h]at e;cases e
 exact⟨_,List.getElem?_eq_getElem hj,ru⟩
theorem Reps.at {vs:List V}{ds:List D}{j:Nat}{v:V} (r:Reps K ρ H vs ds) (h:vs[j]?=some v):∃ d,ds[j]?=some d/\Rep K ρ H v d:=by
 have hl:=r.length
 have hj:j < ds.length:=by rw[<- hl];exact (List.getElem?_eq_some_iff.mp h).1
 obtain⟨v',e,rv⟩:=r.get (List.getElem?_eq_getElem hj)
 rw[h]at e;cases e
 exact⟨_,List.getElem?_eq_getElem hj,rv⟩
theorem Qfw {g:List D->List D->Option Bool}{v:V}{d e:D}{r:Bool} (I:Inv X pins σ H s) (hg:∀ xs ys vs k,Reps X.K ρ H vs xs->Reps X.K ρ H vs ys->g xs ys=some k->k=true) (h:eqS g d e=some r) (r1:Rep X.K ρ H v d) (r2:Rep X.K ρ H v e):r=true:=by
 cases r1 with
 | non=>cases r2;cases h;rfl
 | bl b=>cases r2;cases h;simp
 | int b=>cases r2;cases h;simp
 | str b=>cases r2;cases h;simp
 | tup h1 q1=>
  cases r2 with
  | tup h2 q2=>
   have:=I.tuple_inj h1 h2
   subst this
   exact hg _ _ _ _ q1 q2 h
  | _=>cases h
 | lit _ _=>cases r2<;>cases h
 | ref _ _=>cases r2<;>cases h
 | dic _ _=>cases r2<;>cases h
 | exn0 _ _=>cases r2<;>cases h
 | exn _ _ _ _=>cases r2<;>cases h
theorem Qfx {f:D->D->Option Bool} (hf:∀ v d e k,Rep K ρ H v d->Rep K ρ H v e->f d e=some k->k=true) {xs ys:List D}{vs:List V}{k:Bool} (h1:Reps K ρ H vs xs) (h2:Reps K ρ H vs ys) (h:allF f xs ys=some k):k=true:=by
 induction xs generalizing ys vs k with
 | nil=>cases h1;cases h2;cases h;rfl
 | cons x xs ih=>
  cases h1 with
  | cons a b=>cases h2 with
   | cons c d=>
    unfold allF at h
    cases e:f _ _ with
    | none=>rw[e]at h;cases h
    | some k=>
     rw[e]at h
     have:=hf _ _ _ _ a c e
     subst this
     exact ih b d h
theorem Qfy (I:Inv X pins σ H s):∀ (n:Nat) {v:V}{d e:D}{r:Bool},eqF n d e=some r->Rep X.K ρ H v d->Rep X.K ρ H v e->r=true
 | 0,_,_,_,_,h,r1,r2=>Qfw I (fun _ _ _ _ _ _ z=>by cases z) h r1 r2
 | n + 1,_,_,_,_,h,r1,r2=>Qfw I (fun xs ys vs k q1 q2 z=>Qfx (fun v d e k a b c=>Qfy I n c a b) q1 q2 z) h r1 r2
open SeqAt in
theorem Qfz {g : List D -> List D -> Option Bool} {A : Around} {v w : V} {u1 u2 : Value} {d e : D} {r : Bool} (I : Inv X pins σ H s) (hu : A.units < cLine)
  (hg:∀ xs ys k,g xs ys=some k->∀ vs ws its its2,Reps X.K ρ H vs xs->Reps X.K ρ H ws ys->Vals vs its->Vals ws its2 ->
   ∃ e:Nat->Bool,k=((List.range (min its.length its2.length)).all e && its.length == its2.length)/\∀ (j:Nat) x y,its[j]?=some x->its2[j]?=some y->EqAt A.in1 s x y (e j))
  (hs:∀ xs ys vs k,Reps X.K ρ H vs xs->Reps X.K ρ H vs ys->g xs ys=some k->k=true)
  (h:eqS g d e=some r) (r1:Rep X.K ρ H v d) (r2:Rep X.K ρ H w e) (v1:RelV v u1) (v2:RelV w u2):RcAt A s u1 u2 r/\RcNeAt A s u1 u2 (!r)/\EqAt A s u1 u2 r:=by
 cases r1 with
 | lit _ _=>cases r2<;>cases h
 | ref _ _=>cases r2<;>cases h
 | dic _ _=>cases r2<;>cases h
 | exn0 _ _=>cases r2<;>cases h
 | exn _ _ _ _=>cases r2<;>cases h
 | non=>
  cases (show u1=Value.none from v1)
  cases r2 with
  | non=>cases (show u2=Value.none from v2);cases h;exact⟨.none_none,.none_none,.same _⟩
  | bl b=>cases (show u2=Value.bool b from v2);cases h;exact⟨.none_bool b,.none_bool b,.none_bool b⟩
  | int b=>obtain⟨t,rfl⟩:=(show ∃ t,u2=Value.int b t from v2);cases h;exact⟨.none_int b t,.none_int b t,.none_int b t⟩
  | str b=>obtain⟨t,rfl⟩:=(show ∃ t,u2=Value.str b t from v2);cases h;exact⟨.none_str b t,.none_str b t,.none_str b t⟩
  | tup h2 q2=>cases (show u2=Value.ref _ from v2);cases h;obtain⟨_,_,p,_⟩:=I.tuple h2;exact⟨.none_tuple p hu,.none_tuple p hu,.none_tuple p hu⟩
  | _=>cases h
 | bl a=>
  cases (show u1=Value.bool a from v1)
  cases r2 with
  | non=>cases (show u2=Value.none from v2);cases h;exact⟨.bool_none a,.bool_none a,.bool_none a⟩
  | bl b=>cases (show u2=Value.bool b from v2);cases h;exact⟨.bool_bool a b,.bool_bool a b,.bool_bool a b⟩
  | int b=>obtain⟨t,rfl⟩:=(show ∃ t,u2=Value.int b t from v2);cases h;exact⟨.bool_int a b t,.bool_int a b t,.bool_int a b t⟩
  | str b=>obtain⟨t,rfl⟩:=(show ∃ t,u2=Value.str b t from v2);cases h;exact⟨.bool_str a b t,.bool_str a b t,.bool_str a b t⟩
  | tup h2 q2=>cases (show u2=Value.ref _ from v2);cases h;obtain⟨_,_,p,_⟩:=I.tuple h2;exact⟨.bool_tuple a p hu,.bool_tuple a p hu,.bool_tuple a p hu⟩
  | _=>cases h
 | int a=>
  obtain⟨t1,rfl⟩:=(show ∃ t,u1=Value.int a t from v1)
  cases r2 with
  | non=>cases (show u2=Value.none from v2);cases h;exact⟨.int_none a t1,.int_none a t1,.int_none a t1⟩
  | bl b=>cases (show u2=Value.bool b from v2);cases h;exact⟨.int_bool a t1 b,.int_bool a t1 b,.int_bool a t1 b⟩
  | int b=>obtain⟨t,rfl⟩:=(show ∃ t,u2=Value.int b t from v2);cases h;exact⟨.int_int a t1 b t,.int_int a t1 b t,.int_int a t1 b t⟩
  | str b=>obtain⟨t,rfl⟩:=(show ∃ t,u2=Value.str b t from v2);cases h;exact⟨.int_str a t1 b t,.int_str a t1 b t,.int_str a t1 b t⟩
  | tup h2 q2=>cases (show u2=Value.ref _ from v2);cases h;obtain⟨_,_,p,_⟩:=I.tuple h2;exact⟨.int_tuple a t1 p hu,.int_tuple a t1 p hu,.int_tuple a t1 p hu⟩
  | _=>cases h
 | str a=>
  obtain⟨t1,rfl⟩:=(show ∃ t,u1=Value.str a t from v1)
  cases r2 with
  | non=>cases (show u2=Value.none from v2);cases h;exact⟨.str_none a t1,.str_none a t1,.str_none a t1⟩
  | bl b=>cases (show u2=Value.bool b from v2);cases h;exact⟨.str_bool a t1 b,.str_bool a t1 b,.str_bool a t1 b⟩
  | int b=>obtain⟨t,rfl⟩:=(show ∃ t,u2=Value.int b t from v2);cases h;exact⟨.str_int a t1 b t,.str_int a t1 b t,.str_int a t1 b t⟩
  | str b=>obtain⟨t,rfl⟩:=(show ∃ t,u2=Value.str b t from v2);cases h;exact⟨.str_str a t1 b t,.str_str a t1 b t,.str_str a t1 b t⟩
  | tup h2 q2=>cases (show u2=Value.ref _ from v2);cases h;obtain⟨_,_,p,_⟩:=I.tuple h2;exact⟨.str_tuple a t1 p hu,.str_tuple a t1 p hu,.str_tuple a t1 p hu⟩
  | _=>cases h
 | @tup l1 vs xs h1 q1=>
  cases (show u1=Value.ref _ from v1)
  obtain⟨its,rv,p,_⟩:=I.tuple h1
  cases r2 with
  | non=>cases (show u2=Value.none from v2);cases h;exact⟨.tuple_none p hu,.tuple_none p hu,.tuple_none p hu⟩
  | bl b=>cases (show u2=Value.bool b from v2);cases h;exact⟨.tuple_bool b p hu,.tuple_bool b p hu,.tuple_bool b p hu⟩
  | int b=>obtain⟨t,rfl⟩:=(show ∃ t,u2=Value.int b t from v2);cases h;exact⟨.tuple_int b t p hu,.tuple_int b t p hu,.tuple_int b t p hu⟩
  | str b=>obtain⟨t,rfl⟩:=(show ∃ t,u2=Value.str b t from v2);cases h;exact⟨.tuple_str b t p hu,.tuple_str b t p hu,.tuple_str b t p hu⟩
  | @tup l2 ws ys h2 q2=>
   cases (show u2=Value.ref _ from v2)
   obtain⟨its2,rw',p2,_⟩:=I.tuple h2
   obtain⟨ef,ek,he⟩:=hg xs ys r h vs ws its its2 q1 q2 rv rw'
   have hit:∀ j (a1:j < its.toArray.size) (a2:j < its2.toArray.size),EqAt A.in1 s its.toArray[j] its2.toArray[j] (ef j):=fun j a1 a2=>
    he j _ _ (by rw[List.getElem_toArray];exact List.getElem?_eq_getElem (by simpa using a1)) (by rw[List.getElem_toArray];exact List.getElem?_eq_getElem (by simpa using a2))
   have k1:=RcAt.tuples (A:=A) (s:=s) p p2 hu hit
   have k2:=RcNeAt.tuples (A:=A) (s:=s) p p2 hu hit
   simp only[List.size_toArray]at k1 k2
   rw[<- ek]at k1 k2
   refine⟨k1,k2,?_⟩
   by_cases hl:l1=l2
   ·subst hl
    have:=I.tuple_inj h1 h2
    subst this
    rw[hs xs ys vs r q1 q2 h]
    exact .same _
   ·exact .of_refs hl k1
  | _=>cases h
open SeqAt in
theorem QfA {n : Nat} {A : Around} (I : Inv X pins σ H s)
  (ih:∀ {v w:V}{u1 u2:Value}{d e:D}{r:Bool},eqF n d e=some r->Rep X.K ρ H v d->Rep X.K ρ H w e->RelV v u1->RelV w u2->EqAt A s u1 u2 r)
  {xs ys:List D}{k:Bool} (h:allF (eqF n) xs ys=some k) {vs ws:List V}{its its2:List Value} (q1:Reps X.K ρ H vs xs) (q2:Reps X.K ρ H ws ys) (rv:Vals vs its) (rw':Vals ws its2):
  ∃ e:Nat->Bool,k=((List.range (min its.length its2.length)).all e && its.length == its2.length)/\∀ (j:Nat) x y,its[j]?=some x->its2[j]?=some y->EqAt A s x y (e j):=by
 refine⟨itE (eqF n) xs ys,?_,fun j x y hx hy=>?_⟩
 ·have l1:=rv.length
  have l2:=rw'.length
  have l3:=q1.length
  have l4:=q2.length
  rw[<- l1,<- l2,l3,l4]
  exact Qfv h
 ·obtain⟨v,hv,ru⟩:=Vals.at rv hx
  obtain⟨w,hw,rw2⟩:=Vals.at rw' hy
  obtain⟨d,hd,rd⟩:=Reps.at q1 hv
  obtain⟨e,he,re⟩:=Reps.at q2 hw
  obtain⟨r,hr⟩:=Qfu h j d e hd he
  have:itE (eqF n) xs ys j=r:=by unfold itE;rw[hd,he];dsimp only;rw[hr];rfl
  rw[this]
  exact ih hr rd re ru rw2
open SeqAt in
theorem QfB (I:Inv X pins σ H s):∀ (n:Nat) {A:Around}{v w:V}{u1 u2:Value}{d e:D}{r:Bool},A.units + n < cLine->eqF n d e=some r->Rep X.K ρ H v d->Rep X.K ρ H w e->RelV v u1->RelV w u2->RcAt A s u1 u2 r/\RcNeAt A s u1 u2 (!r)/\EqAt A s u1 u2 r
 | 0,_,_,_,_,_,_,_,_,hu,h,r1,r2,v1,v2=>Qfz I hu (fun _ _ _ z=>by cases z) (fun _ _ _ _ _ _ z=>by cases z) h r1 r2 v1 v2
 | n + 1, A, _, _, _, _, _, _, _, hu, h, r1, r2, v1, v2 => Qfz I (by ac_nf)
   (fun xs ys k z vs ws its its2 q1 q2 rv rw'=>QfA I (fun h r1 r2 v1 v2=>(QfB I n (A:=A.in1) (by show A.units + 1 + n < cLine;ac_nf) h r1 r2 v1 v2).2.2) z q1 q2 rv rw')
   (fun xs ys vs k q1 q2 z=>Qfx (fun v d e k a b c=>Qfy I n c a b) q1 q2 z) h r1 r2 v1 v2
end
section
variable {X:Cx}{K:PySem.W.Frag}{ρ:List Addr}{H:Hp}{st:Sto}{pins:List (Addr × Obj)}{σ:St}{s:Shared}
open SeqAt in
theorem QfC (hu : X.A.units + 60 < cLine) (I : Inv X pins σ H s) (sr : SR X.K ρ H st) {d e : D} {x y : V} {v u : Value} {R : Bool -> Sto -> List Addr -> Hp -> Prop} (r1 : Rep X.K ρ H x d) (r2 : Rep X.K ρ H y e) (rx : RelV x v) (ry : RelV y u)
  (p:Post X.K ρ H (eqB d e st) R):∃ r,R r st ρ H/\RcAt X.A s v u r/\RcNeAt X.A s v u (!r):=by
 have hu':X.A.units < cLine:=by ac_nf
 have gen:Post X.K ρ H ((match eqF 50 d e with | some r=>ret r | none=>bad:M Bool) st) R->∃ r,R r st ρ H/\RcAt X.A s v u r/\RcNeAt X.A s v u (!r):=fun q=>by
  cases h:eqF 50 d e with
  | none=>rw[h]at q;exact q.elim
  | some r=>
   rw[h]at q
   obtain⟨k1,k2,_⟩:=QfB I 50 (A:=X.A) (by ac_nf) h r1 r2 rx ry
   exact⟨r,q.ret sr,k1,k2⟩
 cases r1 with
 | non=>
  cases r2 with
  | @ref a n _ h=>
   obtain⟨ds,e2,p1⟩:=Post.getL (Post.bnd p) sr
   obtain⟨a',vs,ha,hv,r⟩:=sr.seq e2
   rw[h]at ha;cases ha
   cases (show v=Value.none from rx)
   cases (show u=Value.ref a from ry)
   obtain⟨_,_,pl,_⟩:=I.list (SqL.of hv)
   exact⟨false,p1.ret sr,.none_list pl.isList hu',.none_list pl.isList hu'⟩
  | _=>exact gen p
 | @ref a n _ h=>
  cases r2 with
  | non=>
   obtain⟨ds,e2,p1⟩:=Post.getL (Post.bnd p) sr
   obtain⟨a',vs,ha,hv,r⟩:=sr.seq e2
   rw[h]at ha;cases ha
   cases (show u=Value.none from ry)
   cases (show v=Value.ref a from rx)
   obtain⟨_,_,pl,_⟩:=I.list (SqL.of hv)
   exact⟨false,p1.ret sr,.list_none pl.isList hu',.list_none pl.isList hu'⟩
  | @ref b m _ h'=>
   obtain⟨xs,e2,p1⟩:=Post.getL (Post.bnd p) sr
   obtain⟨ys,e3,p2⟩:=Post.getL (Post.bnd p1) sr
   obtain⟨a',vs,ha,hv,q1⟩:=sr.seq e2
   obtain⟨b',ws,hb,hw,q2⟩:=sr.seq e3
   rw[h]at ha;cases ha
   rw[h']at hb;cases hb
   cases (show v=Value.ref a from rx)
   cases (show u=Value.ref b from ry)
   obtain⟨its,rv,pl,_⟩:=I.list (SqL.of hv)
   obtain⟨its2,rw',pl2,_⟩:=I.list (SqL.of hw)
   have l1:=rv.length
   have l2:=rw'.length
   have l3:=q1.length
   have l4:=q2.length
   by_cases hl:xs.length=ys.length
   ·rw[if_pos hl]at p2
    cases h2:allF (eqF 50) xs ys with
    | none=>rw[h2]at p2;exact p2.elim
    | some r=>
     rw[h2]at p2
     obtain⟨ef,ek,he⟩:=QfA (A:=X.A.in1) I (fun h r1 r2 v1 v2=>(QfB I 50 (A:=X.A.in1) (by show X.A.units + 1 + 50 < cLine;ac_nf) h r1 r2 v1 v2).2.2) h2 q1 q2 rv rw'
     have hsz:its.toArray.size=its2.toArray.size:=by rw[List.size_toArray,List.size_toArray];ac_nf
     have hit:∀ j (a1:j < its.toArray.size) (a2:j < its2.toArray.size),EqAt X.A.in1 s its.toArray[j] its2.toArray[j] (ef j):=fun j a1 a2=>
      he j _ _ (by rw[List.getElem_toArray];exact List.getElem?_eq_getElem (by simpa using a1)) (by rw[List.getElem_toArray];exact List.getElem?_eq_getElem (by simpa using a2))
     have ek2:(List.range its.toArray.size).all ef=r:=by
      rw[ek,List.size_toArray]
      have:its.length=its2.length:=by ac_nf
      rw[this];simp
     have k1:=RcAt.lists (A:=X.A) (s:=s) pl.isList pl2.isList hsz hu' hit
     have k2:=RcNeAt.lists (A:=X.A) (s:=s) pl.isList pl2.isList hsz hu' hit
     rw[ek2]at k1 k2
     exact⟨r,p2.ret sr,k1,k2⟩
   ·rw[if_neg hl]at p2
    have hne:(its.toArray.size != its2.toArray.size)=true:=by
     rw[List.size_toArray,List.size_toArray]
     simp
     ac_nf
    exact⟨false,p2.ret sr,.lists_lengths pl.isList pl2.isList hne hu',.lists_lengths pl.isList pl2.isList hne hu'⟩
  | _=>exact gen p
 | _=>cases r2<;>exact gen p
theorem QfD (hu:X.A.units + 60 < cLine):OpR X (compareOp .Eq) (rOf X.K eqD):=by
 intro pins s σ H x y v u Q I rx ry pq115;obtain⟨ρ,st,d,e,sr,r1,r2,p⟩:=pq115
 obtain⟨r,q,k1,_⟩:=QfC hu I sr r1 r2 rx ry p.bnd
 exact k1 _ _ _ _ ⟨.bl r,H,I,rfl,q.ret sr _ (.bl _)⟩
theorem QfE (hu:X.A.units + 60 < cLine):OpR X (compareOp .NotEq) (rOf X.K neD):=by
 intro pins s σ H x y v u Q I rx ry pq116;obtain⟨ρ,st,d,e,sr,r1,r2,p⟩:=pq116
 obtain⟨r,q,_,k2⟩:=QfC hu I sr r1 r2 rx ry p.bnd
 exact k2 _ _ _ _ ⟨.bl (!r),H,I,rfl,q.ret sr _ (.bl _)⟩
end
section
variable {X:Cx}{a b c e o tg:Expr}{es:List Expr}{pos apos cpos:Pos}{fa fb fc:CE}{ca cb:CA}{ta tb:CT}{K:PySem.W.Frag}{ρ:List Addr}{H:Hp}{st:Sto}{x:Str}{p:Pos}{T:String}
theorem QfF (ho : SE X o fa) (ha : SE X e fb) (hbase : attributeBase o "append" X.env (eval o X.env) = eval o X.env := by rfl)
  (hfew:((backTo cpos (starEach [e] X.env)).all (fun x => !x.1) && (backToKw cpos (keywordEach [] X.env)).all (fun x=>x.1.isSome)
   && decide ([e].length + ([]:List Keyword).length + (if ([]:List Keyword).isEmpty then 0 else 1) < 30))=true:=by rfl)
  (hline:(apos.endLine == cpos.line)=true:=by rfl) (hs:starEach [e] X.env=(false,eval e X.env)::starEach [] X.env:=by rfl) (hplain:(backTo cpos (starEach [] X.env)).any (·.1)=false:=by rfl):
  SE X (.Call (.Attribute o "append" apos) [e] [] cpos) (cAppend fa fb):=
 (Qcp PySem.F.plainAttrs_list PySem.F.slot_list_append PySem.F.type_list_append Qcu ho (QbA ha Qbz hs) hbase hfew hline hs hplain).of fun σ H Q h_=>h_.el fun ρ l st lr sr p=>⟨ρ,l,st,lr,sr,p.bnd.imp fun d st1 ρ1 H1 x1 s1 p1 v rv=>by
  cases rv with
  | @ref a n kk h=>
   have hl:n < st1.length:=by rw[<- s1.len];exact (List.getElem?_eq_some_iff.mp h).1
   obtain⟨vs0,hv0⟩:=Qdj kk
   refine⟨.inl ⟨rfl,vs0,SqL.of hv0⟩,ρ1,l,st1,lr.mono x1,s1,(Post.bnd p1).imp fun y st2 ρ2 H2 x2 s2 p2 w rw'=>?_⟩
   have h2:ρ2[n]?=some a:=by
    obtain⟨τ,e,_⟩:=x2.pre
    rw[e];exact Qdh h
   obtain⟨ds,e2,p3⟩:=Post.getL (Post.bnd p2) s2
   obtain⟨a',vs,ha,hv,r⟩:=s2.seq e2
   rw[h2]at ha;cases ha
   obtain⟨hz,p4⟩:=Post.chk p3
   obtain⟨s3,x3⟩:=s2.put (List.getElem?_eq_some_iff.mp e2).1 h2 hv (Reps.app r (.cons rw' .nil))
   have p5:=Post.bnd p4
   unfold putL at p5
   rw[e2]at p5
   exact⟨a,vs,w,rfl,rfl,hv,by rw[r.length];exact hz,(p5 ρ2 _ x3 s3).ret s3 _ .non⟩
  | _=>exact p1.elim⟩
theorem QfG:OpR X (binaryOp .Add) (rOf X.K addD):=by
 intro pins s σ H x y v u Q I rx ry pq117;obtain⟨ρ,st,d,e,sr,r1,r2,p⟩:=pq117
 cases r1 with
 | int i=>
  cases r2 with
  | int j=>exact Qa5 pins s σ H _ _ v u Q I rx ry ⟨i,j,rfl,rfl,p.ret sr _ (.int _)⟩
  | _=>exact p.elim
 | str i=>
  cases r2 with
  | str j=>exact Qbr pins s σ H _ _ v u Q I rx ry ⟨i,j,rfl,rfl,(Post.chk p).1,(Post.chk p).2.ret sr _ (.str _)⟩
  | _=>exact p.elim
 | ref _ h=>
  cases r2 with
  | ref _ h'=>
   obtain⟨xs,e2,p1⟩:=Post.getL (Post.bnd p) sr
   obtain⟨ys,e3,p2⟩:=Post.getL (Post.bnd p1) sr
   obtain⟨a',vs,ha,hv,q1⟩:=sr.seq e2
   obtain⟨b',ws,hb,hw,q2⟩:=sr.seq e3
   rw[h]at ha;cases ha
   rw[h']at hb;cases hb
   obtain⟨hz,p3⟩:=Post.chk p2
   refine Qcx pins s σ H _ _ v u Q I rx ry ⟨_,_,vs,ws,rfl,rfl,hv,hw,by rw[q1.length,q2.length];exact hz,fun q hq=>?_⟩
   have nq:=sr.fresh hq
   have x1:Ex ρ H (ρ++[q]) (upd H q (.lst (vs++ws))):=Ex.newL hq
   refine p3 _ _ x1 ((sr.new hq).keep Qai nq ((Reps.app q1 q2).mono (Ex.new hq))) _ (.ref ⟨_,Qai,rfl⟩ ?_)
   rw[<- sr.len];simp
  | _=>exact p.elim
 | tup h1 q1=>
  cases r2 with
  | tup h2 q2=>
   obtain⟨hz,p2⟩:=Post.chk p
   rename_i a1 vs xs b1 ws ys
   by_cases hx:vs=[]
   ·subst hx
    cases q1
    obtain⟨its,v1,ht,_⟩:=I.tuple h1
    obtain⟨its2,v2,hb,_⟩:=I.tuple h2
    cases v1
    have ev:v=Value.ref a1:=rx
    have eu:u=Value.ref b1:=ry
    subst ev eu
    obtain⟨⟨cls,dd,data,sl⟩,ho,hc,n,hd⟩:=ht
    obtain⟨⟨cls2,dd2,data2,sl2⟩,ho2,hc2,n2,hd2⟩:=hb
    simp only at hc hd hc2 hd2
    subst hc hd hc2 hd2
    refine concat_meets (E:=X.xe) ⟨_,ho,rfl⟩ ⟨_,ho2,rfl⟩ noFill_tuple_add seq_tuple_add PySem.F.slot_tuple_add PySem.F.entry_tuple_add (PySem.F.args_tuple_add_2 _ _) (tuple_addW0 a1 b1 _ _ n n2 dd dd2 sl sl2 (by simp)) ⟨ho,ho2,?_⟩
    exact⟨.ref b1,H,I,rfl,p2.ret sr _ (.tup h2 q2)⟩
   ·refine Qb1 pins s σ H _ _ v u Q I rx ry ⟨_,_,vs,ws,rfl,rfl,h1,h2,hx,by rw[q1.length,q2.length];exact hz,fun he=>?_,fun _ q hq=>?_⟩
    ·subst he
     cases q2
     rw[List.append_nil]at p2
     exact p2.ret sr _ (.tup h1 q1)
    ·exact p2 _ _ (Ex.new hq) (sr.new hq) _ (.tup (SqT.of Qai) ((Reps.app q1 q2).mono (Ex.new hq)))
  | _=>exact p.elim
 | _=>cases r2<;>exact p.elim
def toOf (K:PySem.W.Frag) (f:CO):TO:=fun σ H Q=>∃ ρ l st,LR K ρ H σ l/\SR K ρ H st/\Post K ρ H (f l st) fun o _ _ H'=>Q o H'
abbrev SO (X:Cx) (e:Option Expr) (f:CO):Prop:=PO X e (toOf X.K f)
theorem QfH:SO X none oNone:=fun pins s σ H Q I h_=>h_.el fun ρ l st lr sr p=>QbW pins s σ H Q I (p.ret sr)
theorem QfI (h:SE X e fa):SO X (some e) (oSome fa):=fun pins s σ H Q I h_=>h_.el fun ρ l st lr sr p=>QbX h pins s σ H Q I ⟨ρ,l,st,lr,sr,p.bnd.imp fun d st1 ρ1 H1 x1 s1 p1 v rv=>by
 cases rv with
 | int i=>exact⟨i,rfl,p1.ret s1⟩
 | _=>exact p1.elim⟩
theorem Reps.cut {vs:List V}{ds:List D} (r:Reps K ρ H vs ds) (lo hi:Option Int):Reps K ρ H (cutV vs lo hi) (cutD ds lo hi):=by
 unfold cutV cutD
 have e:∀ n d o,HT.sIx n d o=MM.sIx n d o:=fun n d o=>by cases o<;>rfl
 rw[e,e,r.length]
 exact (r.drop _).take _
theorem QfJ {lo hi:Option Expr}{fl fh:CO}{p2:Pos} (h:SE X e fa) (hl:SO X lo fl) (hh:SO X hi fh):SL X (.Subscript e (.Slice lo hi none p2) pos) (aSlice fa fl fh):=
 (QbY Qcd h hl hh).of fun σ H Q h_=>h_.el fun ρ l st lr sr p=>⟨ρ,l,st,lr,sr,p.bnd0.imp fun d st1 ρ1 H1 x1 s1 p1 v rv=>⟨ρ1,l,st1,lr.mono x1,s1,(p1.bnd0.left x1).imp fun i st2 ρ2 H2 x2 s2 p2=>⟨ρ2,l,st2,(lr.mono x1).mono x2,s2,(p2.bnd0.left (x1.trans x2)).imp fun j st3 ρ3 H3 x3 s3 p3=>by
  have rv3:=(rv.mono x2).mono x3
  have x03:=x1.trans (x2.trans x3)
  have fin:∀ {a:Addr}{vs:List V}{ds:List D},SqL X.K H3 a vs->Reps X.K ρ3 H3 vs ds->Post X.K ρ H (ret (cutD ds i j) st3) (fun ds _ ρ' H'=>∀ a vs,H a=none->a∉ρ'->H' a=some (.lst vs)->Reps X.K ρ' H' vs ds->Q (.ref a) H')->rSlL X.K (.ref a) i j H3 Q:=fun {a vs ds} hs r q=>
   ⟨a,vs,rfl,hs,fun q1 hq1=>by
    have hn:H q1=none:=by
     cases z:H q1 with
     | none=>rfl
     | some o=>exact absurd hq1 (x03.trk q1 o z)
    exact q ρ3 _ (x03.trans (Ex.new hq1)) (s3.new hq1) q1 _ hn (s3.fresh hq1) Qai ((Reps.cut r i j).mono (Ex.new hq1))⟩
  cases rv3 with
  | lit h r=>exact fin h.seq r p3
  | ref _ h=>
   obtain⟨ds,e2,p4⟩:=Post.getL (p3.bnd0.left x03) s3
   obtain⟨a',vs,ha,hv,r⟩:=s3.seq e2
   rw[h]at ha;cases ha
   exact fin (SqL.of hv) r p4
  | _=>exact p3.elim⟩⟩⟩
end
open PySem.AutoSeq1 (wpAny_loadPart')
theorem QfK (l : Addr) (items : Array Value) (n : Nat) (dct : Option Addr) (sl : Array (Option Value)) :
  Meets (Builtin.«enumerate.__new__» ⟨[.type "enumerate",.ref l],[]⟩) (fun _ R s=>s.heap.get? l=some { cls:=.type "tuple",dict:=dct,data:=.seq items n,slots:=sl } /\
   R (.ok (.ret (.ref (s.heap.push { cls:=.type "tuple_iterator",data:=.fields #[.ref l,.int 0 0] }).objs.size)))
    { s with heap:=(s.heap.push { cls:=.type "tuple_iterator",data:=.fields #[.ref l,.int 0 0] }).push { cls:=.type "enumerate",data:=.fields #[.none,.bool false,.ref s.heap.objs.size,rawInt 0,.none,.none] } }):=
 .of_wp fun prog w A R s h=>by
  obtain⟨hp,g,d,tk,os⟩:=s;obtain⟨hl,h⟩:=h;have hsub:=sub_enumerate
  have hT:Heap.IsTuple (Shared.heap ⟨hp,g,d,tk,os⟩) l items:=⟨_,hl,rfl,n,rfl⟩
  wp_walk using wpAny_loadPart' hl;refine wpAny_stack_any fun st=>wpAny_pure ?_;split
  ·rename_i c _ _ _ _ _;cases (c == Value.type "enumerate")<;>(wp_walk using wpAny_loadPart' hl,wpAny_pyIter_tuple hT;exact⟨_,rfl,h⟩)
  ·wp_walk using wpAny_loadPart' hl,wpAny_pyIter_tuple hT;exact⟨_,rfl,h⟩
section
variable {prog:Program}{w:World}{A:Around}{E:Value->Shared->Prop}{s:Shared}
theorem QfL {l : Addr} {items : Array Value} {Q : Value -> Shared -> Prop} (hL : s.heap.IsTuple l items)
  (h:∀ h',IsEnum h' (s.heap.objs.size + 1) s.heap.objs.size 0 .none->h'.IsTupleIter s.heap.objs.size l 0->h'.objs.size=s.heap.objs.size + 2->(∀ b o,s.heap.get? b=some o->h'.get? b=some o)->Q (.ref (s.heap.objs.size + 1)) { s with heap:=h' }):
  wpAny (model prog w) A (call (.type "enumerate") [.ref l]) Q E s:=by
 obtain⟨⟨c,dct,dt,sl⟩,hl,hc,n,hd⟩:=hL
 replace hc:c=.type "tuple":=hc
 replace hd:dt=.seq items n:=hd
 subst hc hd
 refine callType_new F.called_enumerate (by decide) (F.typeCall_enumerate_1 _) (F.newCall_enumerate_1 _) (fun obj=>F.args_object_init_2 obj _) F.entry_enumerate_new (QfK l items n dct sl) ⟨hl,?_⟩
 have hz:(s.heap.push { cls:=.type "tuple_iterator",data:=.fields #[.ref l,.int 0 0] }).objs.size=s.heap.objs.size + 1:=Heap.size_push ..
 show _/\_;rw[hz]
 have he:IsEnum ((s.heap.push { cls:=.type "tuple_iterator",data:=.fields #[.ref l,.int 0 0] }).push { cls:=.type "enumerate",data:=.fields #[.none,.bool false,.ref s.heap.objs.size,rawInt 0,.none,.none] }) (s.heap.objs.size + 1) s.heap.objs.size 0 .none:=by
  have q:=Heap.get?_push_size (s.heap.push { cls:=.type "tuple_iterator",data:=.fields #[.ref l,.int 0 0] }) (o:={ cls:=.type "enumerate",data:=.fields #[.none,.bool false,.ref s.heap.objs.size,rawInt 0,.none,.none] }) rfl
  rw[hz]at q;exact q
 exact⟨⟨_,he,rfl⟩,h _ he ⟨_,Heap.get?_push_of_some _ (Heap.get?_push_size _ rfl),rfl,rfl⟩ (by rw[Heap.size_push,hz]) fun b o x=>Heap.get?_push_of_some _ (Heap.get?_push_of_some _ x)⟩
theorem QfM {it l : Addr} {i : Nat} {items} {x : Value} {Q : Value -> Shared -> Prop} (hit : s.heap.IsTupleIter it l i) (hl : s.heap.IsTuple l items) (hx : items[i]? = some x)
  (hQ:∀ h',h'.IsTupleIter it l (i + 1)->Heap.SameBut it s.heap h'->Q x { s with heap:=h' }):wpAny (model prog w) A (Builtin.SmallTypes.nextOf (.ref it)) Q E s:=by
 obtain⟨o,ho,hc,hd⟩:=id hit;obtain⟨ol,hol,_,nl,hdl⟩:=hl
 unfold Builtin.SmallTypes.nextOf
 refine wpAny_bind (wpAny_callSpecial?_slot (name:=Str.ofString "__next__") hit.typeIs F.slot_tuple_iterator_next (wpAny_call_entry F.slot_tuple_iterator_next hit.typeIs F.entry_tuple_iterator_next ?_ (F.args_tuple_iterator_next_1 _)))
 show wpAny _ _ (field (.ref it) 0 >>= _) _ _ s;refine wpAny_bind (wpAny_field ho hd (x:=.ref l) rfl ?_)
 show wpAny _ _ (if (Value.ref l == Value.none)=true then _ else _) _ _ s;rw[if_neg (show ¬ ((Value.ref l == Value.none)=true) from Bool.false_ne_true)]
 show wpAny _ _ (field (.ref it) 1 >>= _) _ _ s;refine wpAny_bind (wpAny_field ho hd (x:=.int i 0) rfl ?_)
 show wpAny _ _ (seqItems? (.ref l) >>= _) _ _ s;refine wpAny_bind (wpAny_seqItems hol hdl ?_);simp only[Int.toNat_natCast,hx]
 refine wpAny_bind (wpAny_setField ho hd (by simp) (wpAny_pure ⟨x,rfl,wpAny_pure (hQ _ ⟨_,Heap.get?_update_self _ ho (Obj.isFreed_of_fields (Obj.data_mapFields hd _)),(Obj.cls_mapFields ..).trans hc,?_⟩ (Heap.SameBut.update ..))⟩))
 rw[Obj.data_mapFields hd];simp[rawInt]
theorem QfN {it l : Addr} {i : Nat} {items} {Q : Value -> Shared -> Prop} (hh : A.handled = none) (hit : s.heap.IsTupleIter it l i) (hl : s.heap.IsTuple l items) (hx : items[i]? = none)
  (hE:∀ h' e,Heap.ExtBut it s.heap h'->(∃ o,h'.get? e=some o/\o.cls=.type "StopIteration")->E (.ref e) { s with heap:=h' }):wpAny (model prog w) A (Builtin.SmallTypes.nextOf (.ref it)) Q E s:=by
 obtain⟨o,ho,hc,hd⟩:=id hit;obtain⟨ol,hol,_,nl,hdl⟩:=hl
 unfold Builtin.SmallTypes.nextOf
 refine wpAny_bind (wpAny_callSpecial?_slot (name:=Str.ofString "__next__") hit.typeIs F.slot_tuple_iterator_next (wpAny_call_entry F.slot_tuple_iterator_next hit.typeIs F.entry_tuple_iterator_next ?_ (F.args_tuple_iterator_next_1 _)))
 show wpAny _ _ (field (.ref it) 0 >>= _) _ _ s;refine wpAny_bind (wpAny_field ho hd (x:=.ref l) rfl ?_)
 show wpAny _ _ (if (Value.ref l == Value.none)=true then _ else _) _ _ s;rw[if_neg (show ¬ ((Value.ref l == Value.none)=true) from Bool.false_ne_true)]
 show wpAny _ _ (field (.ref it) 1 >>= _) _ _ s;refine wpAny_bind (wpAny_field ho hd (x:=.int i 0) rfl ?_)
 show wpAny _ _ (seqItems? (.ref l) >>= _) _ _ s;refine wpAny_bind (wpAny_seqItems hol hdl ?_);simp only[Int.toNat_natCast,hx]
 refine wpAny_bind (wpAny_rule (wpAny_bind (wpAny_setField ho hd (by simp) ?_)));show wpAny _ _ (newExc (.type "StopIteration") [] >>= _) _ _ _
 refine wpAny_bind ?_;simp only[newExc,newTuple];refine wpAny_bind (wpAny_newObj_type ?_ (by size_fits))
 refine wpAny_bind (m:=firstArgMember _ _) (wpAny_of_eq (a:=Value.none) (by first | rfl | (simp only[firstArgMember];rfl)) (wpAny_newObj_type ?_ (by size_fits)))
 simp only[raiseNew];refine wpAny_bind (wpAny_handled ?_);first | rw[show A.in1.handled=none from hh] | rw[hh]
 exact wpAny_bind (wpAny_pure (wpAny_throw (hE _ _ (((Heap.SameBut.update ..).extBut.push _).push _) ⟨_,Heap.get?_push_size _ rfl,rfl⟩)))
end
theorem QfO {prog : Program} {w : World} {A : Around} (hh : A.handled = none) (it l : Addr) (hne : l ≠ it) (items : Array Value) :
  Draws prog w A it [it,l] items.size (fun i v=>items[i]?=some v) (fun i h=>h.IsTupleIter it l i/\h.IsTuple l items) where
 live:=fun _ _ st=>let ⟨o,ho,_⟩:=st.1;⟨o,ho⟩
 frame:=fun _ _ _ st hk=>⟨let ⟨o,e,r⟩:=st.1;⟨o,hk it (by simp) o e,r⟩,let ⟨o,e,r⟩:=st.2;⟨o,hk l (by simp) o e,r⟩⟩
 item:=fun i s Q E hi st hQ=>QfM st.1 st.2 (x:=items[i]) (by simp[hi]) fun h' hit' hs'=>hQ _ h' s.toks (by simp[hi]) ⟨hit',st.2.extBut hs'.extBut hne⟩ hs'
 done:=fun s Q E st hE=>QfN hh st.1 st.2 (by simp) hE
def Ite (K:PySem.W.Frag) (a:Addr):It:=
 ⟨fun i H=>∃ xs x,SqT K H a xs/\xs[i]?=some x,fun i H x H'=>∃ T v,x=.ref T/\H T=none/\(∀ xs,SqT K H a xs->xs[i]?=some v)/\H'=upd H T (.tup [.int i,v]),fun i H=>∃ xs,SqT K H a xs/\xs.length<=i⟩
section
variable {X:Cx}{tg:Expr}{es:List Expr}{pos:Pos}{fa:CE}{K:PySem.W.Frag}{ρ:List Addr}{H:Hp}{st:Sto}
theorem QfP {P:Program}{w:World}{k:Nat} (a e it:Addr) (hei:e≠it):Turn P w K (.Tuple es k pos) (Ite K a) [e,it] e (fun i h=>(∃ old,IsEnum h e it i old)/\h.IsTupleIter it a i) where
 mem:=by simp
 obj:=fun i h pq76 b hb=>by
  obtain⟨⟨old,he⟩,hit⟩:=pq76
  rcases List.mem_cons.mp hb with z | z
  ·subst z;exact⟨_,he,fun v q=>by cases q⟩
  ·have z':b=it:=by simpa using z
   subst z'
   obtain⟨o,e,c,d⟩:=hit
   exact⟨o,e,fun v q=>by rw[d]at q;cases q⟩
 keep:=fun i h h' pq77 kp=>by obtain⟨⟨old,he⟩,hit⟩:=pq77;exact⟨⟨old,kp e (by simp) _ he⟩,let ⟨o,x,r⟩:=hit;⟨o,kp it (by simp) o x,r⟩⟩
 item:=by
  intro X hP hw hK hc i pins s σ H E I hf pq118 hg;obtain⟨⟨old,he⟩,hit⟩:=pq118
  subst hP hw hK
  obtain⟨xs,x,hq,hx⟩:=hg
  obtain⟨its,rv,p,hz⟩:=I.tuple hq
  obtain⟨u,hu,ru⟩:=rv.get hx
  have hlt:i < its.toArray.size:=by rw[List.size_toArray];exact (List.getElem?_eq_some_iff.mp hu).1
  obtain⟨f0,f1,f2,f3,f4,f5⟩:=hf e (by simp)
  obtain⟨g0,g1,g2,g3,g4,g5⟩:=hf it (by simp)
  have hai:a≠it:=fun z=>by
   obtain⟨o,e1,c,_⟩:=hit
   obtain⟨o',e2,c',_⟩:=p
   rw[z,e1]at e2;cases e2;rw[c]at c';exact absurd (Value.type.inj c') (by decide)
  have hae:a≠e:=fun z=>by
   obtain⟨o',e2,c',_⟩:=p
   rw[z,he]at e2;cases e2;exact absurd (Value.type.inj c') (by decide)
  have D:=QfO (prog:=X.prog) (w:=X.w) (A:=X.A.in1) (I.ok.hd hc) it a hai its.toArray
  refine wpAny_pyNext_enum_itemD D he ⟨hit,p⟩ hlt hei (by simp;exact⟨hei,hae.symm⟩) fun y h' tk hP ho hst hT hsz hk=>?_
  have ey:y=u:=by
   have:its.toArray[i]?=some u:=by simpa using hu
   rw[this]at hP;cases hP;rfl
  subst ey
  refine⟨_,rfl,wpAny_letOwnedTupleGo_enum ho fun h2 he2 hs2=>?_⟩
  have helt:e < s.heap.objs.size:=Heap.lt_size he
  have hTn:H s.heap.objs.size=none:=I.hok.fresh (Nat.le_refl _)
  have keep:∀ b o,b≠e->b≠it->s.heap.get? b=some o->h2.get? b=some o:=fun b o hb1 hb2 e1=>(hs2.2 b hb1).trans (hk b o hb1 hb2 e1)
  have hT2:h2.get? s.heap.objs.size=some { cls:=.type "tuple",data:=.seq #[.int i tk,y] }:=(hs2.2 _ (Nat.ne_of_gt helt)).trans hT
  have I2:Inv X pins σ (upd H s.heap.objs.size (.tup [.int i,x])) { s with heap:=h2,toks:=tk + 1 }:=by
   have ne:∀ b o,H b=some o->b≠e/\b≠it:=fun b o q=>⟨fun z=>(by rw[z,f0]at q;cases q),fun z=>(by rw[z,g0]at q;cases q)⟩
   refine I.step (g':=s.gens) (d':=s.drawn) (ch:=[e,it]) (fun b hb=>?_) (fun b o _ _ hc' e1 _=>keep b o (fun z=>hc' (by simp[z])) (fun z=>hc' (by simp[z])) e1)
    (fun b o _ _ hc' e1 _=>⟨o.slots,keep b o (fun z=>hc' (by simp[z])) (fun z=>hc' (by simp[z])) e1⟩) (fun b o hc' e1 n1=>by rw[Qaj (Nat.ne_of_lt (Heap.lt_size e1))];exact n1) (fun b o hc' e1=>⟨o,keep b o (fun z=>hc' (by simp[z])) (fun z=>hc' (by simp[z])) e1⟩)
    (fun b ys q=>by rw[Qaj (Qal q hTn)];exact q) (fun b o ys q=>by rw[Qaj (Qal q hTn)];exact q) (fun b ps q=>⟨#[],by rw[Qaj (Qal q hTn),q];simp⟩) (fun m hm=>?_) ?_ I.bare
   ·rcases List.mem_cons.mp hb with z | z
    ·subst z;exact⟨f3,f1,f4,f5⟩
    ·have z':b=it:=by simpa using z
     subst z';exact⟨g3,g1,g4,g5⟩
   ·obtain⟨o,es',ep,e1,r⟩:=hm
    exact⟨o,es',ep,keep _ o f1.symm g1.symm e1,r⟩
   ·intro b o q
    by_cases hb:b=s.heap.objs.size
    ·subst hb
     rw[Qai]at q;cases q
     exact⟨by show 2<=sizeLine;decide,[.int i tk,y],.cons ⟨tk,rfl⟩ (.cons ru .nil),⟨_,hT2,rfl,⟨_,rfl⟩,rfl⟩⟩
    ·rw[Qaj hb]at q
     have:=ne b o q
     refine (I.hok b o q).stay (fun c v hc' r=>keep c v ?_ ?_ r) (fun c q'=>by rw[Qaj (Qal q' hTn)];exact q') fun c ys q'=>by rw[Qaj (Qal q' hTn)];exact q'
     ·rcases hc' with z | z
      ·rw[z];exact this.1
      ·exact (ne c _ z).1
     ·rcases hc' with z | z
      ·rw[z];exact this.2
      ·exact (ne c _ z).2
  refine⟨.ref s.heap.objs.size,_,I2,rfl,⟨_,x,rfl,hTn,fun ys hy=>by rw[I.tuple_inj hy hq];exact hx,rfl⟩,⟨⟨y,by simpa using he2⟩,let ⟨o,x1,r⟩:=hst.1;⟨o,(hs2.2 it hei.symm).trans x1,r⟩⟩,fun b hb=>?_⟩
  rw[Qaj]
  ·exact (hf b hb).1
  ·intro z
   have:b < s.heap.objs.size:=by
    rcases List.mem_cons.mp hb with q | q
    ·rw[q];exact helt
    ·have q':b=it:=by simpa using q
     rw[q'];obtain⟨o,x1,_⟩:=hit;exact Heap.lt_size x1
   exact absurd this (by rw[z];exact Nat.lt_irrefl _)
 done:=by
  intro X hP hw hK hc i pins s σ H E I hf pq119 hg;obtain⟨⟨old,he⟩,hit⟩:=pq119
  subst hP hw hK
  obtain⟨xs,hq,hx⟩:=hg
  obtain⟨its,rv,p,hz⟩:=I.tuple hq
  obtain⟨g0,g1,g2,g3,g4,g5⟩:=hf it (by simp)
  have hl:=rv.length
  have hT:s.TypeIs (.ref e) "enumerate":=⟨_,he,rfl⟩
  unfold pyNext
  refine wpAny_bind (wpAny_attempt (wpAny_callSpecial?_slot (name:=Str.ofString "__next__") hT F.slot_enumerate_next (wpAny_call_entry F.slot_enumerate_next hT F.entry_enumerate_next ?_ (F.args_enumerate_next_1 _))))
  show wpAny _ _ (field (.ref e) 2 >>= _) _ _ _;refine wpAny_bind (wpAny_field he rfl (x:=.ref it) rfl ?_)
  refine wpAny_bind (QfN (A:=X.A.in1) (I.ok.hd hc) hit p (by simp;ac_nf) fun h' x he' pq78=>?_)
  obtain⟨o,ho,hc'⟩:=pq78
  exact wpAny_bind (wpAny_isInstance (T:="StopIteration") (b:=true) ⟨o,ho,hc'⟩ isSubtype_stop (wpAny_pure ⟨rfl,I.turned (t':=s.toks) (fun b o hb e=>he' b o hb e) g0 g1 g3 g4 g5⟩))
 self:=fun _ _ _ _ _ pq79 h=>by obtain⟨⟨old,he⟩,_⟩:=pq79;exact wpAny_pyIter_enum he h
theorem QfQ {b : Expr} {p tpos : Pos} {k : Nat} (hg : Gl X "enumerate") (hm : X.mg "enumerate" = none) (h : SE X b fa) (hs : starEach [b] X.env = [(false, eval b X.env)] := by rfl) :
  SI X (.Tuple es k tpos) (.Call (.Name "enumerate" p) [b] [] pos) (iEnum fa):=by
 intro pins s σ H R I pq120;obtain⟨ρ,l,st,lr,sr,q⟩:=pq120
 refine Call_ (Qax I hg hm boot_enumerate (PyProof.Rows.callWith_type1 (thn (Qei h Qeh hs pos pins s σ H (fun vs H1=>∃ a xs,vs=[.ref a]/\SqT X.K H1 a xs/\R (Ite X.K a) H1) I ⟨ρ,l,st,lr,sr,?_⟩) fun us s1 ⟨vs,H1,I1,r1,q1⟩=>?_) hs rfl))
 ·have q':=Post.bnd q
  show Post X.K ρ H (MM.bnd (fa l) _ st) _
  unfold MM.bnd
  cases e:fa l st with
  | bad=>rw[e]at q';exact q'
  | exc _ _=>rw[e]at q';exact q'
  | ok d st1=>
   rw[e]at q'
   show ∀ ρ' H',Ex ρ H ρ' H'->SR X.K ρ' H' st1->_
   intro ρ1 H1 x1 s1 vs rvs
   have p1:=q' ρ1 H1 x1 s1
   cases rvs with
   | cons rv rt=>
    cases rt
    cases rv with
    | @tup a ws ds ht r=>
     refine⟨a,ws,rfl,ht,p1.ret s1 _ ?_⟩
     intro ρ2 H2 st2 x2 s2 _
     have hl:=r.length
     have ht2:SqT X.K H2 a ws:=SqT.mono x2.up ht
     have len:((rngD 0 ds.length).zipWith (fun i d=>D.tup [i,d]) ds).length=ds.length:=by simp[rngD]
     refine⟨⟨ws,ht2,by rw[len,hl];exact Nat.le_refl _⟩,fun i d e1=>?_⟩
     have hi:i < ds.length:=by rw[<- len];exact (List.getElem?_eq_some_iff.mp e1).1
     have ed:d=.tup [.int i,ds[i]]:=by
      rw[List.getElem?_zipWith,rngD,List.getElem?_map,List.getElem?_range hi,List.getElem?_eq_getElem hi]at e1
      have:=Option.some.inj e1
      rw[<- this];simp
     subst ed
     obtain⟨v,hv,rv⟩:=(r.mono x2).get (List.getElem?_eq_getElem hi)
     refine⟨⟨ws,v,ht2,hv⟩,fun y H3 pq81=>?_⟩
     obtain⟨T,w,ey,hn,hw,eH⟩:=pq81
     subst ey eH
     have ew:=hw ws ht2
     rw[hv]at ew;cases ew
     have x3:Ex ρ2 H2 ρ2 (upd H2 T (.tup [.int i,v])):=Ex.new hn
     exact⟨x3,s2.new hn,.tup (SqT.of Qai) (.cons (.int _) (.cons (rv.mono x3) .nil))⟩
    | _=>exact p1.elim
 ·obtain⟨a,xs,e,hq,hR⟩:=q1
  subst e
  obtain⟨u,rfl,ru⟩:=Qbs r1
  cases ru
  obtain⟨its,rv,p1,hz⟩:=I1.tuple hq
  refine QfL p1 fun h' he hit hsz kp=>wpAny_pyIter_enum he ?_
  have I2:Inv X pins σ H1 { s1 with heap:=h' }:=I1.kept (t':=s1.toks) kp
  refine⟨s1.heap.objs.size + 1,[s1.heap.objs.size + 1,s1.heap.objs.size],_,Ite X.K a,H1,rfl,I2,QfP a (s1.heap.objs.size + 1) s1.heap.objs.size (Nat.succ_ne_self _),⟨⟨_,he⟩,hit⟩,fun b hb=>?_,hR⟩
  have hle:s1.heap.objs.size<=b:=by
   rcases List.mem_cons.mp hb with z | z
   ·rw[z];exact Nat.le_succ _
   ·have z':b=s1.heap.objs.size:=by simpa using z
    rw[z'];exact Nat.le_refl _
  exact I1.fpOk hle (I1.hok.fresh hle)
end
section
variable {X:Cx}{K:PySem.W.Frag}{ρ:List Addr}{H:Hp}{st:Sto}
theorem QfR:OpR X (compareOp .IsNot) (rOf X.K isntD):=by
 intro pins s σ H x y v u Q I rx ry pq121;obtain⟨ρ,st,d,e,sr,r1,r2,p⟩:=pq121
 cases r2 with
 | non=>
  refine Qbg pins s σ H x .non v u Q I rx ry ⟨rfl,?_⟩
  cases r1 with
  | non=>exact p.ret sr _ (.bl false)
  | bl b=>exact p.ret sr _ (.bl true)
  | int b=>exact p.ret sr _ (.bl true)
  | str b=>exact p.ret sr _ (.bl true)
  | tup h r=>exact p.ret sr _ (.bl true)
  | lit h r=>exact p.ret sr _ (.bl true)
  | ref _ h=>exact p.ret sr _ (.bl true)
  | dic _ h=>exact p.ret sr _ (.bl true)
  | exn0 _ h=>exact p.ret sr _ (.bl true)
  | exn _ h _ _=>exact p.ret sr _ (.bl true)
 | bl b=>
  cases r1 with
  | bl a=>
   cases (show v=Value.bool a from rx)
   cases (show u=Value.bool b from ry)
   refine wpAny_isNot_plain rfl ⟨.bl (!(a == b)),H,I,?_,p.ret sr _ (.bl _)⟩
   cases a<;>cases b<;>rfl
  | _=>exact p.elim
 | _=>cases r1<;>exact p.elim
theorem QfS {v:V}{d:D} (r:Rep K ρ H v d) (h:flatD d=true):flatV v=true:=by
 cases r<;>first | rfl | cases h
theorem QfT:∀ {vs:List V}{ds:List D},Reps K ρ H vs ds->ds.all flatD=true->vs.all flatV=true
 | _,_,.nil,_=>rfl
 | _,_,.cons r t,h=>by
  rw[List.all_cons,Bool.and_eq_true]at h
  rw[List.all_cons,Bool.and_eq_true]
  exact⟨QfS r h.1,QfT t h.2⟩
theorem QfU {v w:V}{d e:D} (r:Rep K ρ H v d) (q:Rep K ρ H w e) (h:flatD d=true) (h':flatD e=true):eqV v w=eqFl d e:=by
 cases r<;>first | (cases q<;>first | rfl | cases h') | cases h
theorem QfV {w:V}{e:D} (q:Rep K ρ H w e) (h':flatD e=true):∀ {vs:List V}{ds:List D},Reps K ρ H vs ds->ds.all flatD=true->inV w vs=ds.any fun d=>eqFl d e
 | _,_,.nil,_=>rfl
 | _,_,.cons r t,h=>by
  rw[List.all_cons,Bool.and_eq_true]at h
  have:=QfV q h' t h.2
  unfold inV at this ⊢
  rw[List.any_cons,List.any_cons,this,QfU r q h.1 h']
theorem Post.hasK {n:Nat}{k:D}{R:Bool->Sto->List Addr->Hp->Prop} (h:Post K ρ H (MM.hasK n k st) R) (s:SR K ρ H st):∃ b kvs,st[n]?=some (.dct b kvs)/\kOk b k=true/\R (lkK kvs k).isSome st ρ H:=by
 obtain⟨b,kvs,e,p1⟩:=Post.getDc (Post.bnd h) s
 obtain⟨hk,p2⟩:=Post.chk p1
 exact⟨b,kvs,e,hk,p2.ret s⟩
theorem _root_.L2.OpR.orO {f:Value->Value->Sem Value}{r r':R2} (h:OpR X f r) (h':OpR X f r'):OpR X f (fun x y H Q=>r x y H Q\/r' x y H Q):=by
 intro pins s σ H x y v u Q I rx ry q
 rcases q with q | q
 ·exact h pins s σ H x y v u Q I rx ry q
 ·exact h' pins s σ H x y v u Q I rx ry q
theorem QfW (hu:X.A.units + 60 < cLine):OpR X (compareOp .In) (fun x y H Q=>∃ (ρ:List Addr) (st:Sto) (n:Nat) (a:Addr) (b:Bool) (kvs:List (D × D)) (k:D),y=.ref a/\SR X.K ρ H st/\ρ[n]?=some a/\st[n]?=some (.dct b kvs)/\Rep X.K ρ H x k/\kOk b k=true/\Q (.bl (lkK kvs k).isSome) H):=by
 intro pins s σ H x y v u Q I rx ry pq122;obtain⟨ρ,st,n,a,b,kvs,k,e,sr,ha,hn,rk,hk,q⟩:=pq122
 subst e
 cases ry
 exact QdL (by ac_nf) I (sr.ob n a _ ha hn) rk hk rx fun s' I'=>⟨.bl _,H,I',rfl,q⟩
theorem QfX (hu:X.A.units + 60 < cLine):OpR X (compareOp .In) (rOf X.K inD):=(Qci.orO (QfW hu)).of fun x y H Q pq82=>by
 obtain⟨ρ,st,d,e,sr,r1,r2,p⟩:=pq82
 have fin:∀ {a:Addr}{vs:List V}{ds:List D} (hq:SqL X.K H a vs\/SqT X.K H a vs) (r:Reps X.K ρ H vs ds) (p1:Post X.K ρ H (inL d ds st) fun r _ ρ' H'=>∀ v,Rep X.K ρ' H' v r->Q v H'),rIn X.K false x (.ref a) H Q:=fun hq r p1=>by
  obtain⟨⟨h1,h2⟩,p2⟩:=Post.chk p1
  refine⟨_,_,rfl,hq,QfS r1 h1,QfT r h2,?_⟩
  rw[if_neg (by simp),QfV r1 h1 r h2]
  exact p2.ret sr _ (.bl _)
 cases r2 with
 | tup h r=>exact .inl (fin (.inr h) r ((Post.bnd p).ret sr))
 | lit h r=>exact .inl (fin (.inl h.seq) r ((Post.bnd p).ret sr))
 | ref _ h=>
  obtain⟨ds,e2,p1⟩:=Post.getL (Post.bnd p) sr
  obtain⟨a',vs,ha,hv,r⟩:=sr.seq e2
  rw[h]at ha;cases ha
  exact .inl (fin (.inl (SqL.of hv)) r p1)
 | @dic a n _ h=>
  obtain⟨b,kvs,e1,hk,q⟩:=Post.hasK (Post.bnd p) sr
  exact .inr ⟨ρ,st,n,a,b,kvs,d,rfl,sr,h,e1,r1,hk,(q.ret sr) _ (.bl _)⟩
 | _=>exact (show False from p).elim
end
section
variable {X:Cx}{a b c e o tg:Expr}{es:List Expr}{pos apos cpos:Pos}{fa fb fc:CE}{ca cb:CA}{ta tb:CT}{K:PySem.W.Frag}{ρ:List Addr}{H:Hp}{st:Sto}{x:Str}{p:Pos}{T id:String}{body:List Stmt}{cs:CS}
theorem QfY:CallR X (.type "list") (fun xs H Q=>∃ v,xs=[v]/\uOf X.K listD v H Q):=Qcl.of fun xs H Q pq83=>by
 obtain⟨v,e,ρ,st,d,sr,rv,p⟩:=pq83
 have fin:∀ {ds:List D}{vs:List V}{l:Addr} (r:Reps X.K ρ H vs ds) (hl:H l=none) (p1:Post X.K ρ H (alloc (.lst ds) st) fun r _ ρ' H'=>∀ v,Rep X.K ρ' H' v r->Q v H'),Q (.ref l) (upd H l (.lst vs)):=fun {ds vs l} r hl p1=>by
  have nl:=sr.fresh hl
  have s2:SR X.K (ρ++[l]) (upd H l (.lst vs)) (st++[.lst ds]):=(sr.new hl).keep Qai nl (r.mono (Ex.new hl))
  refine p1 _ _ (Ex.newL hl) s2 _ (.ref ⟨_,Qai,rfl⟩ ?_)
  rw[<- sr.len];simp
 cases rv with
 | @tup a vs ds h r=>exact⟨a,vs,e,.inr h,fun l hl=>fin r hl ((Post.bnd p).ret sr)⟩
 | @lit a vs ds h r=>exact⟨a,vs,e,.inl h.seq,fun l hl=>fin r hl ((Post.bnd p).ret sr)⟩
 | @ref a n _ h=>
  obtain⟨ds,e2,p1⟩:=Post.getL (Post.bnd p) sr
  obtain⟨a',vs,ha,hv,r⟩:=sr.seq e2
  rw[h]at ha;cases ha
  exact⟨a,vs,e,.inl (SqL.of hv),fun l hl=>fin r hl p1⟩
 | _=>exact (Post.bnd p).elim
theorem QfZ {g : D -> D -> M D} (hc : CallR X (.builtin id) (fun xs H Q => ∃ v w, xs = [v, w] /\ rOf X.K g v w H Q)) (hg : Gl X x) (hm : X.mg x = none) (hv : bootBuiltins x = some (.builtin id)) (ha : SE X a fa) (hb : SE X b fb) (hn : x ≠ "__name__" := by decide) (hdb : (x == ("__debug__" : Str)) = false := by decide)
  (he1:starEach [a,b] X.env=(false,eval a X.env)::starEach [b] X.env:=by rfl) (he2:starEach [b] X.env=(false,eval b X.env)::starEach [] X.env:=by rfl) (hpl:(backTo pos (starEach [b] X.env)).any (fun x=>x.fst)=false:=by rfl):SE X (.Call (.Name x p) [a,b] [] pos) (c2 g fa fb):=
 (QbM hc hg hm hv (QbA ha (QbA hb Qbz he2) he1) hn hdb he1 hpl).of fun σ H Q h_=>h_.el fun ρ l st lr sr p=>⟨ρ,l,st,lr,sr,p.bnd.imp fun d st1 ρ1 H1 x1 s1 p1 v rv=>⟨ρ1,l,st1,lr.mono x1,s1,p1.bnd.imp fun e st2 ρ2 H2 x2 s2 p2 w rw'=>⟨v,w,rfl,ρ2,st2,d,e,s2,rv.mono x2,rw',p2⟩⟩⟩
theorem Qf0 (hc:X.calm=true):CallR X (.builtin "max") (fun xs H Q=>∃ v w,xs=[v,w]/\rOf X.K max2D v w H Q):=(Qbu hc).of fun xs H Q pq84=>by
 obtain⟨v,w,e,ρ,st,d1,d2,sr,r1,r2,p⟩:=pq84
 cases r1 with
 | int i=>
  cases r2 with
  | int j=>
   refine⟨i,j,e,?_⟩
   have:(if j > i then j else i)=max i j:=by ac_nf
   rw[this];exact p.ret sr _ (.int _)
  | _=>exact p.elim
 | _=>exact p.elim
theorem Qf1 (ho:SE X o fa) (hbase:attributeBase o "pop" X.env (eval o X.env)=eval o X.env:=by rfl) (hline:(apos.endLine == cpos.line)=true:=by rfl):SE X (.Call (.Attribute o "pop" apos) [] [] cpos) (cPop fa):=
 (Qco PySem.F.plainAttrs_list PySem.F.slot_list_pop PySem.F.type_list_pop Qcv ho hbase hline).of fun σ H Q h_=>h_.el fun ρ l st lr sr p=>⟨ρ,l,st,lr,sr,p.bnd.imp fun d st1 ρ1 H1 x1 s1 p1 v rv=>by
  cases rv with
  | @ref a n _ h=>
   obtain⟨ds,e2,p2⟩:=Post.getL (Post.bnd p1) s1
   obtain⟨a',vs,ha,hv,r⟩:=s1.seq e2
   rw[h]at ha;cases ha
   cases e3:ds.getLast? with
   | none=>rw[e3]at p2;exact p2.elim
   | some d=>
    rw[e3]at p2
    have hl:=(List.getElem?_eq_some_iff.mp e2).1
    have e4:ds[ds.length - 1]?=some d:=by rw[<- List.getLast?_eq_getElem?];exact e3
    obtain⟨y,hy,ry⟩:=r.get e4
    have rd:Reps X.K ρ1 H1 vs.dropLast ds.dropLast:=by
     rw[List.dropLast_eq_take,List.dropLast_eq_take,r.length];exact r.take _
    obtain⟨s3,x3⟩:=s1.put hl h hv rd
    refine⟨.inl ⟨rfl,vs,SqL.of hv⟩,a,vs,y,rfl,rfl,hv,by rw[r.length];exact hy,?_⟩
    have p5:=Post.bnd p2
    unfold putL at p5
    rw[e2]at p5
    exact (p5 ρ1 _ x3 s3).ret s3 _ (ry.mono x3)
  | _=>exact p1.elim⟩
theorem Reps.rev:∀ {vs:List V}{ds:List D},Reps K ρ H vs ds->Reps K ρ H vs.reverse ds.reverse
 | _,_,.nil=>.nil
 | _,_,.cons r t=>by
  rw[List.reverse_cons,List.reverse_cons];exact Reps.app (Reps.rev t) (.cons r .nil)
theorem Qf2 (hp:PassesOwn (model X.prog X.w) X.A X.env X.xe) (hc:ST X c ta) (hb:SSs X body cs):SS X (.While c body [] pos) (sWhile ta cs):=(QaT hp hc hb).of fun G σ H h_=>h_.el fun ρ l st lr sr p=>by
 unfold sWhile at p
 by_cases h:∃ n,∀ r,whileN ta cs n l st=r->r≠.bad
 ·rw[dif_pos h]at p
  generalize Classical.choose h=n at p
  refine⟨fun m σ H=>∃ ρ l st,LR X.K ρ H σ l/\SR X.K ρ H st/\Post X.K ρ H (whileN ta cs m l st) fun f _ ρ' H'=>match f with
   | .next l'=>∀ σ',LR X.K ρ' H' σ' l'->G.nx σ' H'
   | .ret d=>∀ v,Rep X.K ρ' H' v d->G.rt v H'
   | .brk l'=>∀ σ',LR X.K ρ' H' σ' l'->G.bk σ' H'
   | .cnt l'=>∀ σ',LR X.K ρ' H' σ' l'->G.ct σ' H',⟨n,ρ,l,st,lr,sr,p⟩,?_⟩
  intro m σ1 H1 pq123;obtain⟨ρ1,l1,st1,lr1,sr1,p1⟩:=pq123
  cases m with
  | zero=>exact p1.elim
  | succ m=>
   refine⟨ρ1,l1,st1,lr1,sr1,(Post.bnd p1).imp fun k st2 ρ2 H2 x2 s2 p2=>?_⟩
   cases k with
   | false=>exact p2.ret s2 _ (lr1.mono x2)
   | true=>
    refine⟨fun σ' H'=>∃ ρ l st,LR X.K ρ H' σ' l/\SR X.K ρ H' st/\Post X.K ρ H' (whileN ta cs m l st) _,fun σ' H' q=>⟨m,Nat.lt_succ_self m,q⟩,ρ2,l1,st2,lr1.mono x2,s2,(Post.bnd p2).imp fun f st3 ρ3 H3 x3 s3 p3=>?_⟩
    cases f with
    | next l'=>exact fun σ' lr'=>⟨ρ3,l',st3,lr',s3,p3⟩
    | ret d=>exact p3.ret s3
    | brk l'=>exact p3.ret s3
    | cnt l'=>exact fun σ' lr'=>⟨ρ3,l',st3,lr',s3,p3⟩
 ·rw[dif_neg h]at p;exact p.elim
end
section
variable {X:Cx}{K:PySem.W.Frag}{ρ:List Addr}{H:Hp}{st:Sto}
theorem Reps.pick:∀ {vs:List V}{ds:List D} (i:Nat),Reps K ρ H vs ds->Rep K ρ H (vs.getD i .non) (ds.getD i .non)
 | _,_,_,.nil=>by simp;exact .non
 | _,_,0,.cons r t=>by simpa using r
 | _,_,i + 1,.cons r t=>by simpa using Reps.pick i t
theorem Reps.picks {vs:List V}{ds:List D} (r:Reps K ρ H vs ds):∀ (p:List Nat),Reps K ρ H (p.map fun i=>vs.getD i .non) (p.map fun i=>ds.getD i .non)
 | []=>.nil
 | i::p=>.cons (Reps.pick i r) (Reps.picks r p)
end
section
variable {X:Cx}{tg:Expr}{es:List Expr}{pos:Pos}{fa fb:CE}{K:PySem.W.Frag}{ρ:List Addr}{H:Hp}{st:Sto}
theorem atI {h h':Heap}{it l:Addr}{k:Nat} (x:h.IsTupleIter it l k) (e:∀ o,h.get? it=some o->h'.get? it=some o):h'.IsTupleIter it l k:=let ⟨o,e1,r⟩:=x;⟨o,e o e1,r⟩
end
end MM
namespace PySem.F
theorem nolen_lri:typeLookup (.type "list_reverseiterator") "__len__"=pure none:=by rw[typeLookup_type,builtinLookup_eq_fast];kernel_rfl
theorem hint_lri:typeLookup (.type "list_reverseiterator") "__length_hint__"=pure (some (.builtin "list_reverseiterator.__length_hint__")):=by rw[typeLookup_type,builtinLookup_eq_fast];kernel_rfl
end PySem.F
namespace MM
open PySem PySem.Spec PyProof.Rows L2
section
variable {prog:Program}{w:World}{A:Around}{E:Value->Shared->Prop}{s:Shared}{r:Addr}
theorem Qf3 {Q:Bool->Shared->Prop} (hT:s.TypeIs (.ref r) "list_reverseiterator") (h:Q false s):wpAny (model prog w) A (Builtin.List.listLengthHint (.ref r)) Q E s:=by
 unfold Builtin.List.listLengthHint
 refine wpAny_bind (wpAny_specialOf hT PySem.F.nolen_lri ?_)
 show wpAny _ A (specialOf (Value.ref r) (Str.ofString "__length_hint__") >>= _) _ _ _
 refine wpAny_bind (wpAny_specialOf hT PySem.F.hint_lri ?_)
 generalize hid:("list_reverseiterator.__length_hint__":String)=id0
 wp_delta
 rw[show splitId id0=some ("list_reverseiterator","__length_hint__") from by subst hid;decide +kernel]
 subst hid
 refine wpAny_bind (wpAny_isInstance (b:=true) hT (by rw[isSubtype_type];kernel_rfl) ?_)
 exact wpAny_pure h
theorem Qf4 {R : Result -> Shared -> Prop} {I l : Addr} {items : Array Value} (hh : A.handled = none) (hit : s.heap.IsRevIter I l ((items.size : Int) - 1)) (hl : s.heap.IsList l items) (hne : l ≠ I) (S : Addr) (hSI : S ≠ I) (hSl : S ≠ l) (res : Value) (c₀ : Nat) (hS : s.heap.get? S = some { cls := .type "list", data := .seq #[] c₀ })
  (hR:∀ h' tk acc' c',(∀ b o,b≠S->b≠I->s.heap.get? b=some o->h'.get? b=some o)->h'.get? S=some { cls:=.type "list",dict:=none,data:=.seq acc' c',slots:=#[] }->ItemsOf (fun i v=>items[items.size - 1 - i]?=some v) acc' items.size->R (.ok (.ret res)) { s with heap:=h',toks:=tk }) (hn:items.size<=sizeLine):
  wpAny (model prog w) A.in1 (Builtin.List.listExtendWith (.ref S) (.ref I) res)
   (fun fin s'=>match fin with | .done f=>R (.ok f) s' | .again c'=>c'.quiet=true/\codeAny (model prog w) A c' R s') (fun e s'=>R (.error e) s') s:=by
 have W:=Walks.listRev (prog:=prog) (w:=w) (A:=A.in1) hh I l hne items
 have hSf:S∉[I,l]:=by simp only[List.mem_cons,List.not_mem_nil,or_false,not_or];exact⟨hSI,hSl⟩
 have st0:0<=items.size/\s.heap.IsRevIter I l ((items.size:Int) - 1 - ((0:Nat):Int))/\s.heap.IsList l items:=⟨Nat.zero_le _,by rw[show (items.size:Int) - 1 - ((0:Nat):Int)=(items.size:Int) - 1 by ac_nf];exact hit,hl⟩
 unfold Builtin.List.listExtendWith
 refine wpAny_bind (wpAny_typeOf hit.typeIs ?_)
 have h1:Builtin.List.listSameRef (.ref S) (.ref I)=false:=by simp[Builtin.List.listSameRef,hSI]
 rw[if_neg (by rw[h1];decide)]
 refine wpAny_bind (wpAny_pyIter_revIter hit ?_)
 refine wpAny_bind (wpAny_holding (Qf3 hit.typeIs ?_))
 rw[if_neg (by decide)]
 refine wpAny_pure ⟨plainId_quiet PySem.F.plain_extend_loop _,codeAny_extend_loopS W.toS hn S hSf res items.size 0 _ #[] c₀ rfl (Nat.zero_le _) st0 hS (ItemsOf.nil _) fun s' acc' c' hm hS' hacc=>?_⟩
 rw[Moved.eq_with hm]
 refine hR s'.heap s'.toks acc' c' (fun b o hb hbI e=>hm.heap b o (fun hmem=>?_) e) hS' hacc
 rcases List.mem_cons.mp hmem with e' | hmem
 ·exact hb e'
 ·exact hbI (List.mem_singleton.mp hmem)
theorem Qf5 {Q : Value -> Shared -> Prop} {I l : Addr} {items : Array Value} (hh : A.handled = none) (hit : s.heap.IsRevIter I l ((items.size : Int) - 1)) (hl : s.heap.IsList l items) (hne : l ≠ I) (hn : items.size <= sizeLine)
  (hQ:∀ h' tk acc' c',(∀ b o,b≠I->s.heap.get? b=some o->h'.get? b=some o)->h'.get? s.heap.objs.size=some { cls:=.type "list",dict:=none,data:=.seq acc' c',slots:=#[] }->ItemsOf (fun i v=>items[items.size - 1 - i]?=some v) acc' items.size->Q (.ref s.heap.objs.size) { s with heap:=h',toks:=tk }):
  wpAny (model prog w) A (call (.type "list") [.ref I]) Q E s:=by
 refine callType_codes (Q₁:=fun obj s₁=>obj=.ref s.heap.objs.size/\s₁={ s with heap:=s.heap.push { cls:=.type "list",data:=.seq #[] } }) PySem.F.called_list (PySem.F.typeCall_list_1 _) PySem.F.entry_list_init
  (code_list_new _ ⟨rfl,rfl⟩) fun obj s₁ h₁=>?_
 obtain⟨rfl,rfl⟩:=h₁
 have hS:(s.heap.push { cls:=.type "list",data:=.seq #[] }).get? s.heap.objs.size=some { cls:=.type "list",data:=.seq #[] }:=Heap.get?_push_size _ rfl
 have hI:I < s.heap.objs.size:=let ⟨_,e,_⟩:=hit;Heap.lt_size e
 have hL:l < s.heap.objs.size:=let ⟨_,e,_⟩:=hl;Heap.lt_size e
 have hit1:(s.heap.push { cls:=.type "list",data:=.seq #[] }).IsRevIter I l ((items.size:Int) - 1):=let ⟨o,e,x⟩:=hit;⟨o,Heap.get?_push_of_some _ e,x⟩
 have hl1:(s.heap.push { cls:=.type "list",data:=.seq #[] }).IsList l items:=let ⟨o,e,x⟩:=hl;⟨o,Heap.get?_push_of_some _ e,x⟩
 refine⟨⟨_,hS,rfl⟩,PySem.F.args_list_init_2 _ _,?_⟩
 show wpAny _ A.in1.in1 (do let old <- Builtin.List.listItems (.ref s.heap.objs.size);Builtin.List.listUpdate (.ref s.heap.objs.size) (fun _=>#[]);letGo old.toList.reverse;Builtin.List.listExtendWith (.ref s.heap.objs.size) (.ref I) .none) _ _ _
 refine wpAny_bind ?_
 unfold Builtin.List.listItems
 refine wpAny_bind (wpAny_seqItems hS rfl (wpAny_pure ?_))
 show wpAny _ _ (updateSeq s.heap.objs.size (fun _=>#[]) >>= fun _=>letGo (#[]:Array Value).toList.reverse >>= fun _=>Builtin.List.listExtendWith (.ref s.heap.objs.size) (.ref I) .none) _ _ _
 refine wpAny_bind (wpAny_updateSeq hS rfl ?_)
 have hS₂:=Heap.get?_update_self (Obj.mapSeq (fun _=>(#[]:Array Value))) hS rfl
 have oth:∀ b o,b≠s.heap.objs.size->(s.heap.push { cls:=.type "list",data:=.seq #[] }).get? b=some o->((s.heap.push { cls:=.type "list",data:=.seq #[] }).update s.heap.objs.size (Obj.mapSeq (fun _=>(#[]:Array Value)))).get? b=some o:=
  fun b o hb e=>(Heap.get?_update_other _ _ (Ne.symm hb)).trans e
 refine wpAny_bind (wpAny_letGo ?_)
 refine Qf4 (A:=A.in1) hh (let ⟨o,e,x⟩:=hit1;⟨o,oth _ _ (Nat.ne_of_lt hI) e,x⟩) (let ⟨o,e,x⟩:=hl1;⟨o,oth _ _ (Nat.ne_of_lt hL) e,x⟩) hne s.heap.objs.size (Nat.ne_of_gt hI) (Nat.ne_of_gt hL) .none _ hS₂ (fun h' tk acc' c' hk hS' hacc=>?_) hn
 exact⟨rfl,hQ h' tk acc' c' (fun b o hbI e=>hk b o (Nat.ne_of_lt (Heap.lt_size e)) hbI (oth b o (Nat.ne_of_lt (Heap.lt_size e)) (Heap.get?_push_of_some _ e))) hS' hacc⟩
end
theorem Qf6 {vs:List Value}{acc:Array Value} (h:ItemsOf (fun i v=>vs.toArray[vs.toArray.size - 1 - i]?=some v) acc vs.toArray.size):acc=vs.reverse.toArray:=by
 apply Array.ext'
 apply List.ext_getElem?
 intro i
 have hs:acc.size=vs.length:=by have:=h.1;simpa using this
 by_cases hi:i < vs.length
 ·have e1:acc[i]?=some (acc[i]'(by ac_nf)):=Array.getElem?_eq_getElem (by ac_nf)
  have e2:=h.2 i _ e1
  rw[Array.getElem?_toList,e1]
  simp only[List.getElem?_toArray,List.size_toArray]at e2
  rw[List.getElem?_reverse hi]
  exact e2.symm
 ·rw[List.getElem?_eq_none (by simp;ac_nf),List.getElem?_eq_none (by simp;ac_nf)]
theorem Vals.reverse:∀ {xs:List V}{us:List Value},Vals xs us->Vals xs.reverse us.reverse
 | _,_,.nil=>.nil
 | _,_,.cons r t=>by
  rw[List.reverse_cons,List.reverse_cons];exact L2.Vals.append (Vals.reverse t) (.cons r .nil)
section
variable {X:Cx}{a b c e o tg:Expr}{es:List Expr}{pos pos' apos cpos p p':Pos}{fa fb fc:CE}{ca cb:CA}{K:PySem.W.Frag}{ρ:List Addr}{H:Hp}{st:Sto}{te:TE}
theorem Qf7 (hc : X.calm = true) (hg : Gl X "list") (hm : X.mg "list" = none) (hv : bootBuiltins "list" = some (.type "list")) (hg2 : Gl X "reversed") (hm2 : X.mg "reversed" = none) (hv2 : bootBuiltins "reversed" = some (.type "reversed")) (ha : PE X e te)
  (he:starEach [e] X.env=[(false,eval e X.env)]:=by rfl) (he2:starEach [.Call (.Name "reversed" p') [e] [] pos'] X.env=[(false,eval (.Call (.Name "reversed" p') [e] [] pos') X.env)]:=by rfl):
  PE X (.Call (.Name "list" p) [.Call (.Name "reversed" p') [e] [] pos'] [] pos) (fun σ H Q=>te σ H fun x H1=>∃ a xs,x=.ref a/\SqL X.K H1 a xs/\∀ q,H1 q=none->Q (.ref q) (upd H1 q (.lst xs.reverse))):=by
 intro pins s σ H Q I h
 refine wpAny_Call_Name_kw (Qax I hg hm hv ?_ (by decide) (by decide))
 refine PyProof.Rows.callWith_type1 ?_ he2 rfl
 rw[he2]
 show wpAny _ _ (spliced [(false,eval (.Call (.Name "reversed" p') [e] [] pos') X.env)]) _ _ s
 refine Calls.spliced_cons ?_
 refine wpAny_Call_Name_kw (Qax I hg2 hm2 hv2 ?_ (by decide) (by decide))
 refine PyProof.Rows.callWith_type1 ?_ he rfl
 rw[he]
 show wpAny _ _ (spliced [(false,eval e X.env)]) _ _ s
 refine Calls.spliced_cons (thn (ha pins s σ H _ I h) fun u s1 ⟨x,H1,I1,r1,a,xs,ex,hx,q⟩=>Calls.spliced_nil ?_)
 subst ex
 cases r1
 obtain⟨its,rv,pl,hz⟩:=I1.list hx
 have hlen:=rv.length
 refine call_reversed_list pl.isList (Calls.spliced_nil ?_)
 have hlt:a < s1.heap.objs.size:=let ⟨_,e,_⟩:=pl.isList;Heap.lt_size e
 refine Qf5 (l:=a) (items:=its.toArray) (I1.ok.hd hc) ⟨_,Heap.get?_push_size _ rfl,rfl,rfl⟩ (let ⟨o,e,x⟩:=pl.isList;⟨o,Heap.get?_push_of_some _ e,x⟩) (Nat.ne_of_lt hlt) (by simp only[List.size_toArray];ac_nf) fun h' tk acc c hk hS hacc=>?_
 rw[Qf6 hacc]at hS
 have kp:∀ b u,s1.heap.get? b=some u->h'.get? b=some u:=fun b u e=>hk b u (Nat.ne_of_lt (Heap.lt_size e)) (Heap.get?_push_of_some _ e)
 have hp:s1.heap.objs.size<=(s1.heap.push (revObj a ((its.toArray.size:Int) - 1))).objs.size:=by simp[Heap.push]
 refine⟨.ref _,_,I1.laid (t':=tk) (o:=.lst xs.reverse) kp hp ?_,rfl,q _ (I1.hok.fresh hp)⟩
 exact⟨by rw[List.length_reverse];exact hz,its.reverse,c,rv.reverse,hS⟩
theorem Qf8 (hc : X.calm = true) (hg : Gl X "list") (hm : X.mg "list" = none) (hv : bootBuiltins "list" = some (.type "list")) (hg2 : Gl X "reversed") (hm2 : X.mg "reversed" = none) (hv2 : bootBuiltins "reversed" = some (.type "reversed")) (ha : SL X e ca)
  (he:starEach [e] X.env=[(false,eval e X.env)]:=by rfl) (he2:starEach [.Call (.Name "reversed" p') [e] [] pos'] X.env=[(false,eval (.Call (.Name "reversed" p') [e] [] pos') X.env)]:=by rfl):
  SL X (.Call (.Name "list" p) [.Call (.Name "reversed" p') [e] [] pos'] [] pos) (aRev ca):=
 (Qf7 hc hg hm hv hg2 hm2 hv2 ha he he2).of fun σ H Q h_=>h_.el fun ρ l st lr sr p=>⟨ρ,l,st,lr,sr,p.bnd0.imp fun ds st1 ρ1 H1 x1 s1 p1 a vs ha na hv rvs=>by
  refine⟨a,vs,rfl,SqL.of hv,fun q hq=>?_⟩
  have hn:H q=none:=by
   cases z:H q with
   | none=>rfl
   | some o=>exact absurd hq (x1.trk q o z)
  exact p1 ρ1 _ (x1.trans (Ex.new hq)) (s1.new hq) q _ hn (s1.fresh hq) Qai ((Reps.rev rvs).mono (Ex.new hq))⟩
theorem Reps.rep {vs:List V}{ds:List D} (h:Reps K ρ H vs ds):∀ k:Nat,Reps K ρ H (List.replicate k vs).flatten (List.replicate k ds).flatten
 | 0=>.nil
 | k + 1=>by
  rw[List.replicate_succ,List.replicate_succ,List.flatten_cons,List.flatten_cons]
  exact Reps.app h (Reps.rep h k)
theorem Qf9 (ha:SL X a ca) (hb:SE X b fb):SL X (.BinOp a .Mult b pos) (aTimes ca fb):=
 (Qa4 Qcz ha hb).of fun σ H Q h_=>h_.el fun ρ l st lr sr p=>⟨ρ,l,st,lr,sr,p.bnd0.imp fun ds st1 ρ1 H1 x1 s1 p1 a vs ha na hv rvs=>⟨ρ1,l,st1,lr.mono x1,s1,((p1.bnd0.left x1)).imp fun e st2 ρ2 H2 x2 s2 p2 u ru=>by
  cases ru with
  | int k=>
   obtain⟨⟨⟨h1,h2⟩,h3⟩,p3⟩:=Post.chk p2
   refine⟨a,k,vs,rfl,rfl,x2.lst a vs na hv,h1,h2,by rw[rvs.length];exact h3,fun q hq=>?_⟩
   have x02:=x1.trans x2
   have hn:H q=none:=by
    cases z:H q with
    | none=>rfl
    | some o=>exact absurd hq (x02.trk q o z)
   exact p3 ρ2 _ (x02.trans (Ex.new hq)) (s2.new hq) q _ hn (s2.fresh hq) Qai ((Reps.rep (rvs.mono x2) k.toNat).mono (Ex.new hq))
  | _=>exact p2.elim⟩⟩
def SDs (X:Cx) (pos:Pos) (keys:List (Option Expr)) (values:List Expr) (ks:List Key) (ca:CA):Prop:=∃ trs,PPs X pos keys values trs /\
 ∀ σ H (Q:List (V × V)->Hp->Prop),(∃ ρ l st,LR X.K ρ H σ l/\SR X.K ρ H st/\Post X.K ρ H (ca l st) fun ds _ ρ' H'=>ks.length=ds.length/\∀ vs,Reps X.K ρ' H' vs ds->Q ((ks.zip vs).map fun kv=>(kV kv.1,kv.2)) H')->tPairs trs σ H Q
theorem Qga:SDs X pos [] [] [] cNil:=⟨[],Qc1,fun σ H Q h_=>h_.el fun ρ l st lr sr p=>(p.ret sr).2 [] .nil⟩
theorem Qgb {x : Str} {j : Nat} {v : Expr} {ks : List (Option Expr)} {vs : List Expr} {kk : List Key} (hv : SE X v fa) (hr : SDs X pos ks vs kk ca) :
  SDs X pos (some (.Constant (.str x) j cpos)::ks) (v::vs) (.inr x::kk) (cCons fa ca):=by
 obtain⟨trs,h1,h2⟩:=hr
 refine⟨_,Qc2 Qav hv h1,fun σ H Q h_=>h_.el fun ρ l st lr sr p=>?_⟩
 refine⟨ρ,l,st,lr,sr,p.bnd.imp fun d st1 ρ1 H1 x1 s1 p1 v rv=>h2 _ _ _ ⟨ρ1,l,st1,lr.mono x1,s1,p1.bnd.imp fun ds st2 ρ2 H2 x2 s2 p2=>?_⟩⟩
 obtain⟨hl,q⟩:=p2.ret s2
 refine⟨by simpa using hl,fun vs rvs=>?_⟩
 exact q (v::vs) (.cons (rv.mono x2) rvs)
theorem KR.zip:∀ {ks:List Key}{vs:List V}{ds:List D},Reps K ρ H vs ds->KR K ρ H (ks.zip vs) ((ks.map keyD).zip ds)
 | [],_,_,_=>.nil
 | k::ks,_,_,.nil=>.nil
 | k::ks,_,_,.cons r t=>.cons ⟨rfl,r⟩ (KR.zip t)
theorem KR.merge:∀ {more:List (Key × V)}{rs:List (D × D)}{es:List (Key × V)}{kvs:List (D × D)},KR K ρ H more rs->KR K ρ H es kvs->KR K ρ H (mergeK es more) (mgK kvs rs)
 | _,_,_,_,.nil,q=>q
 | _,_,es,kvs,.cons (a:=p) (b:=q) (l₁:=ps) (l₂:=qs) h t,r=>by
  have z:=KR.put r p.1 h.2
  rw[h.1]at z
  show KR K ρ H (mergeK (L2.putK es p.1 p.2) ps) (mgK (ptK kvs q.1 q.2) qs)
  exact KR.merge (more:=ps) (rs:=qs) t z
theorem Qgc {keys : List (Option Expr)} {values : List Expr} {ks : List Key} (h : SDs X pos keys values ks ca) (hall : keys.all (·.isSome) = true := by rfl) (hl : keys.length = values.length := by rfl) (h0 : keys ≠ [] := by simp) (h15 : keys.length <= 15 := by decide) (hk : ks.length <= 15 := by decide) :
  SE X (.Dict keys values pos) (cDisp (ks.map keyD) ca):=by
 obtain⟨trs,h1,h2⟩:=h
 refine (Qc5 h1 hall hl h0 h15).of fun σ H Q ⟨ρ,l,st,lr,sr,p⟩ q hq=>h2 _ _ _ ?_
 have hn:=sr.fresh hq
 refine⟨ρ,l,st,lr.mono (Ex.new hq),sr.new hq,(p.bnd0.left (Ex.new hq)).imp fun ds st1 ρ1 H1 x1 s1 p1=>?_⟩
 obtain⟨hlen,p2⟩:=Post.chk p1
 rw[List.length_map]at hlen
 have hq1:H1 q=some (.dK []):=x1.oth q _ hn Qai
 refine⟨hlen,fun vs rvs=>⟨hq1,ks.zip vs,rfl,by simp;ac_nf,?_⟩⟩
 have ne:∀ b o,H b=some o->b≠q:=fun b o e z=>by rw[z,hq]at e;cases e
 have nq1:q∉ρ1:=by
  obtain⟨τ,e,f⟩:=x1.pre
  rw[e]
  intro z
  rcases List.mem_append.mp z with z | z
  ·exact hn z
  ·have:=f q z;rw[Qai]at this;cases this
 have up:Up ρ1 H1 ρ1 (upd H1 q (.dK (mergeK [] (ks.zip vs)))):=by
  refine⟨⟨[],by simp⟩,fun c o no w=>?_,fun c o w=>?_⟩
  ·rw[Qaj fun z=>by subst z;rw[hq1]at w;cases w;exact nomatch no];exact w
  ·by_cases z:c=q
   ·subst z;rw[hq1]at w;cases w;exact⟨_,Qai,rfl⟩
   ·exact⟨o,by rw[Qaj z];exact w,rfl⟩
 have s2:SR X.K ρ1 (upd H1 q (.dK (mergeK [] (ks.zip vs)))) st1:=⟨s1.len,s1.nd,fun n b o e1 e2=>ObR.mono (o:=o) up (s1.ob n b o e1 e2) fun u w=>by
  rw[Qaj (fun (z:b=q)=>nq1 (by rw[<- z];exact List.mem_of_getElem? e1))];exact w⟩
 have x2:Ex ρ H (ρ1++[q]) (upd H1 q (.dK (mergeK [] (ks.zip vs)))):=by
  obtain⟨τ,e,f⟩:=x1.pre
  refine⟨⟨τ++[q],by rw[e,List.append_assoc],fun b hb=>?_⟩,fun b o no e=>?_,fun b o nb e=>?_,fun b o e=>?_⟩
  ·rcases List.mem_append.mp hb with hb | hb
   ·have z:=f b hb
    by_cases w:b=q
    ·subst w;exact hq
    ·rw[Qaj w]at z;exact z
   ·rw[List.mem_singleton]at hb;rw[hb];exact hq
  ·rw[Qaj (ne b o e)];exact x1.fix b o no (by rw[Qaj (ne b o e)];exact e)
  ·rw[Qaj (ne b o e)];exact x1.oth b o nb (by rw[Qaj (ne b o e)];exact e)
  ·obtain⟨o',e',k'⟩:=x1.knd b o (by rw[Qaj (ne b o e)];exact e)
   exact⟨o',by rw[Qaj (ne b o e)];exact e',k'⟩
 have p3:∀ ρ' H',Ex ρ H ρ' H'->SR X.K ρ' H' (st1++[.dct false (mgK [] ((ks.map keyD).zip ds))])->∀ v,Rep X.K ρ' H' v (.dic st1.length)->Q v H':=p2
 refine p3 _ _ x2 (s2.keepO nq1 ⟨_,Qai,KR.merge (KR.zip (rvs.up up)) .nil⟩) _ (.dic ⟨_,Qai,.inl rfl⟩ ?_)
 rw[<- s1.len];simp
end
mutual
theorem Qgd:∀ {a b c:D},eqK a b=true->eqK b c=true->eqK a c=true
 | .int i,b,c,h1,h2=>by
  obtain⟨j,rfl⟩:∃ j,b=.int j:=by cases b<;>simp[eqK]at h1 ⊢
  obtain⟨k,rfl⟩:∃ j,c=.int j:=by cases c<;>simp[eqK]at h2 ⊢
  simp[eqK]at h1 h2 ⊢;ac_nf
 | .str i,b,c,h1,h2=>by
  obtain⟨j,rfl⟩:∃ j,b=.str j:=by cases b<;>simp[eqK]at h1 ⊢
  obtain⟨k,rfl⟩:∃ j,c=.str j:=by cases c<;>simp[eqK]at h2 ⊢
  simp[eqK]at h1 h2 ⊢;rw[h1,h2]
 | .tup xs,b,c,h1,h2=>by
  obtain⟨ys,rfl⟩:∃ j,b=.tup j:=by cases b<;>simp[eqK]at h1 ⊢
  obtain⟨zs,rfl⟩:∃ j,c=.tup j:=by cases c<;>simp[eqK]at h2 ⊢
  rw[eqK]at h1 h2 ⊢
  exact eqKs_trans h1 h2
 | .non,_,_,h1,_=>by simp[eqK]at h1
 | .bl _,_,_,h1,_=>by simp[eqK]at h1
 | .lit _,_,_,h1,_=>by simp[eqK]at h1
 | .ref _,_,_,h1,_=>by simp[eqK]at h1
 | .dic _,_,_,h1,_=>by simp[eqK]at h1
theorem eqKs_trans:∀ {a b c:List D},eqKs a b=true->eqKs b c=true->eqKs a c=true
 | [],b,c,h1,h2=>by
  cases b with
  | nil=>exact h2
  | cons _ _=>simp[eqKs]at h1
 | x::xs,b,c,h1,h2=>by
  cases b with
  | nil=>simp[eqKs]at h1
  | cons y ys=>
   cases c with
   | nil=>simp[eqKs]at h2
   | cons z zs=>
    rw[eqKs,Bool.and_eq_true]at h1 h2 ⊢
    exact⟨Qgd h1.1 h2.1,eqKs_trans h1.2 h2.2⟩
end
end MM
namespace MM
open PySem PyProof.Rows L2
section
open PySem.Builtin.Str
variable {prog:Program}{w:World}{A:Around}{E:Value->Shared->Prop}{s:Shared}
end
abbrev CF:=Str->Loc->M D
end MM
namespace MM
def sv (m:Nat):List Nat:=(List.range 4).filter fun i=>m.testBit i
open PySem PySem.W PyProof.Rows L2
def tb (led:Bool) (m:Nat):SetTable:=⟨7,(sv m).toArray,#[],0,led,0,true⟩
end MM
namespace MM
open PySem PySem.Spec PyProof.Rows L2
structure NameOk (x:Str):Prop where
 d:(x == ("__debug__":Str))=false
 c:(x == ("__classdict__":Str))=false
 n:x≠"__name__"
theorem nok {x:Str} (h:((x == ("__debug__":Str)) || (x == ("__classdict__":Str)) || decide (x=("__name__":Str)))=false):NameOk x:=by
 rw[Bool.or_eq_false_iff,Bool.or_eq_false_iff]at h
 exact⟨h.1.1,h.1.2,of_decide_eq_false h.2⟩
structure Sc (X:Cx) (sc:Scope):Prop where
 vis:∀ x k,sc.names.lookup x=some k->(k=.local\/k=.cell\/k=.free)->Vis X.env.scope x
 cel:∀ x,(sc.names.lookup x=some .cell\/sc.names.lookup x=some .free)->(X.env.kindOf x=some .cell\/X.env.kindOf x=some .free)
 glo:∀ x,sc.names.lookup x=some .globalImplicit->Gl X x
 loc:∀ x k,sc.names.lookup x=some k->(k=.local\/k=.cell)->L2.Loc X.env.scope x/\(X.fn x=true\/X.env.scope.names.lookup x=some .local)
 calm:X.calm=true
theorem Qge {P : Program} {w : World} {K : PySem.W.Frag} {mg : Str -> Option Value} {base : Heap} {N : List Str} {qual : Str} {sc : Scope} {f : Addr} {cdv : Value} {A : Around} {outer : List Env} {s : Shared} {H : Hp} {E : XK} :
  Sc (cxOf CX0 P w K mg base N qual sc f cdv A outer s H E).nox sc where
 vis:=fun x k h hk=>by
  rcases hk with z | z | z<;>subst z
  ·exact .inl h
  ·exact .inr (.inl h)
  ·exact .inr (.inr h)
 cel:=fun x h=>h
 glo:=fun x h=>h
 loc:=fun x k h hk=>⟨by rcases hk with z | z<;>subst z;exact .inl h;exact .inr h,.inl rfl⟩
 calm:=rfl
theorem Qgf {X:Cx}{N:List Str}{scope:Scope}{fp:List Addr}{s:Shared}{H:Hp} (hc:X.calm=true):Sc (cxC X N scope fp s H) scope where
 vis:=fun x k h hk=>by
  show (relabel scope X.env).names.lookup x=_\/(relabel scope X.env).names.lookup x=_\/(relabel scope X.env).names.lookup x=_
  rw[QdV,h,Option.map_some]
  rcases hk with z | z | z<;>subst z
  ·exact .inl rfl
  ·exact .inr (.inl rfl)
  ·by_cases hq:(NameKind.free == NameKind.free && X.env.scope.kind == .function && X.env.kindOf x == some .cell)=true
   ·rw[if_pos hq];exact .inr (.inl rfl)
   ·rw[if_neg hq];exact .inr (.inr rfl)
 cel:=fun x h=>by
  show (relabel scope X.env).names.lookup x=_\/(relabel scope X.env).names.lookup x=_
  rcases h with h | h<;>rw[QdV,h,Option.map_some]
  ·exact .inl rfl
  ·by_cases hq:(NameKind.free == NameKind.free && X.env.scope.kind == .function && X.env.kindOf x == some .cell)=true
   ·rw[if_pos hq];exact .inl rfl
   ·rw[if_neg hq];exact .inr rfl
 glo:=fun x h=>by
  show (relabel scope X.env).names.lookup x=_
  rw[QdV,h,Option.map_some];rfl
 loc:=fun x k h hk=>by
  refine⟨?_,.inl ?_⟩
  ·show (relabel scope X.env).names.lookup x=_\/(relabel scope X.env).names.lookup x=_
   rw[QdV,h,Option.map_some]
   rcases hk with z | z<;>subst z
   ·exact .inl rfl
   ·exact .inr rfl
  ·show decide (scope.names.lookup x=some .local\/scope.names.lookup x=some .cell)=true
   rw[h]
   rcases hk with z | z<;>subst z<;>decide
 calm:=hc
def compChk (sc scope:Scope):Bool:=
 (scope.kind == .function) && scope.names.all (fun p=>p.2 != .local || scope.names.lookup p.1 == some .local) &&
 scope.names.all (fun p=>p.2 != .free || ((sc.names.lookup p.1 == some .cell || sc.names.lookup p.1 == some .free) && !scope.names.contains (p.1,.cell) && scope.names.lookup p.1 != some .local))
theorem Qgg {X:Cx}{sc scope:Scope} (S:Sc X sc) (h:compChk sc scope=true):CompScope X scope:=by
 unfold compChk at h
 rw[Bool.and_eq_true,Bool.and_eq_true]at h
 obtain⟨⟨h1,h2⟩,h3⟩:=h
 rw[List.all_eq_true]at h2 h3
 have fr:∀ x,(x,NameKind.free)∈scope.names->(sc.names.lookup x=some .cell\/sc.names.lookup x=some .free)/\(x,NameKind.cell)∉scope.names/\scope.names.lookup x≠some .local:=fun x hx=>by
  have q:=h3 _ hx
  simp only[bne_self_eq_false,Bool.false_or,Bool.and_eq_true,Bool.or_eq_true,beq_iff_eq,Bool.not_eq_true',bne_iff_ne,ne_eq]at q
  obtain⟨⟨q1,q2⟩,q3⟩:=q
  refine⟨q1,fun z=>?_,q3⟩
  have:scope.names.contains (x,NameKind.cell)=true:=List.contains_iff_mem.mpr z
  rw[this]at q2;cases q2
 refine⟨by simpa using h1,fun p hp hl=>?_,fun x hx=>S.cel x (fr x hx).1,fun x hx=>(fr x hx).2.1,fun x hx=>(fr x hx).2.2⟩
 have q:=h2 p hp
 rw[hl]at q
 simpa using q
def namesChk (N0:List Str) (scope:Scope) (N:List Str) (n:Nat) (ix:List Nat):Bool:=
 N.length == n + ix.length && (List.range ix.length).all fun j=>match ix[j]?,N[n + j]? with
  | some i,some x=>N0[i]? == some x && scope.names.lookup x == some .free
  | _,_=>false
theorem Qgh {X:Cx}{N0:List Str}{scope:Scope}{N:List Str}{n:Nat}{ix:List Nat} (hX:X.N=N0) (h:namesChk N0 scope N n ix=true):CompNames X scope N n ix:=by
 unfold namesChk at h
 rw[Bool.and_eq_true,List.all_eq_true]at h
 refine⟨by simpa using h.1,fun j i x hj hx=>?_⟩
 have q:=h.2 j (List.mem_range.mpr (List.getElem?_eq_some_iff.mp hj).1)
 rw[hj,hx]at q
 simp only[Bool.and_eq_true,beq_iff_eq]at q
 rw[hX]
 exact q
section
variable {X:Cx}{sc:Scope}{a b c e o tg:Expr}{es:List Expr}{pos p:Pos}{fa fb fc:CE}{ca cb:CA}{x:Str}{T id:String}
theorem Qgi (S:Sc X sc) (i:Nat) (hN:X.N[i]?=some x) {k:NameKind} (h:sc.names.lookup x=some k) (n:NameOk x) (hk:k=.local\/k=.cell\/k=.free:=by decide):SE X (.Name x pos) (cVar i):=Qdk i (Qas hN (S.vis x k h hk) n.d n.c)
theorem Qgj (S:Sc X sc) (i:Nat) (nd:X.N.Nodup) (hN:X.N[i]?=some x) {k:NameKind} (h:sc.names.lookup x=some k) (hk:k=.local\/k=.cell:=by decide):SG X (.Name x pos) (gVar i):=
 QeG (QaM nd hN (S.loc x k h hk).1 (S.loc x k h hk).2)
theorem Qgk (S : Sc X sc) (i : Nat) (nd : X.N.Nodup) (hN : X.N[i]? = some x) {k : NameKind} (h : sc.names.lookup x = some k) {pos' : Pos} (he : SE X e fa) (hk : k = .local \/ k = .cell := by decide) (hs : swapsWith e (some (.Name x pos')) pos.line X.env = pure false := by rfl) :
  SS X (.Assign [.Name x pos'] e pos) (sAsg (gVar i) fa):=QeS nd hN (S.loc x k h hk).1 he hs (S.loc x k h hk).2
theorem Qgl {n:Nat} (h:∀ l st ds st',ca l st=.ok ds st'->ds.length=n):∀ l st ds st',cCons fa ca l st=.ok ds st'->ds.length=n + 1:=fun l st ds st' e=>by
 unfold cCons bnd at e
 cases q:fa l st with
 | ok d s1=>
  rw[q]at e
  dsimp only at e
  cases q2:ca l s1 with
  | ok es s2=>
   rw[q2]at e
   have:=h l s1 es s2 q2
   cases e
   simp[this]
  | exc _ _=>rw[q2]at e;cases e
  | bad=>rw[q2]at e;cases e
 | exc _ _=>rw[q]at e;cases e
 | bad=>rw[q]at e;cases e
theorem Qgm:∀ l st ds st',cNil l st=.ok ds st'->ds.length=0:=fun l st ds st' e=>by cases e;rfl
def KwBinds (K:PySem.W.Frag) (fd:FuncData) (ps:List Str):Prop:=∀ (s:Shared) (ws:List Value),ws.length=ps.length->BindsTo s fd ⟨[],ps.zip ws⟩ (ps.zip ws)
theorem Qgn {k n : Nat} {f : Addr} {fd : FuncData} {ps : List Str} {g : List D -> M D} (S : Sc X sc) (h : sc.names.lookup x = some .globalImplicit) (F : FnOk X.prog X.w X.K X.mg X.base CX0 k f fd ps (spOf X.K n g)) (hr : Room k X.A) (hm : X.mg x = some (.ref f))
  (hk:PySem.W.keepIn X.K (.ref f)=true) (hb:Binds X.K fd ps []) (nk:NameOk x) (ha:SA X (e::es) ca) (hn:∀ l st ds st',ca l st=.ok ds st'->ds.length=n)
  (he:starEach (e::es) X.env=(false,eval e X.env)::starEach es X.env:=by rfl) (hpl:(backTo pos (starEach es X.env)).any (·.1)=false:=by rfl):SE X (.Call (.Name x p) (e::es) [] pos) (cCall g ca):=
 Qer F hr (S.glo x h) hm hk hb QcH ha hn nk.d he hpl
end
theorem Qgo {k:Nat}{X:Cx} (h:Room k X.A):X.A.units + 60 < cLine:=by have:=h.units;ac_nf
theorem Qgp {P : Program} {w : World} {K : PySem.W.Frag} {mg : Str -> Option Value} {base : Heap} {x qual : Str} {sd : Stmt} {f : Addr} {fd : FuncData} {N ps : List Str} {k n m : Nat} {body : CS} (F : Fun K x qual sd f fd) (S : FnScope N ps (defScope sd)) (hn : ps.length = n) (hm : N.length = m)
  (hbody:∀ (cdv:Value) (A:Around) (outer:List Env) (s:Shared) (H:Hp) (E:XK),Room k (A.deeper (envOfC qual (defScope sd) s.heap.objs.size f cdv))->SSs (cxOf CX0 P w K mg base N qual (defScope sd) f cdv A outer s H E).nox (defBody sd) body):
  FnOk P w K mg base CX0 (k + 1) f fd ps (spOf K n (runDef m body)):=by
 subst hn hm
 exact QeW F S hbody
theorem Qgq {K:PySem.W.Frag}{ρ:List Addr}{H:Hp}:∀ (ns:List Int),Reps K ρ H (ns.map V.int) (ns.map D.int)
 | []=>.nil
 | n::ns=>.cons (.int n) (Qgq ns)
theorem Qgr {K : PySem.W.Frag} {H : Hp} {a : Addr} {ns : List Int} {g : List D -> M D} (hO : Only H) (hS : SqL K H a (ns.map V.int)) (h : ∃ st', g [.lit (ns.map D.int)] [] = .ok (.bl true) st') :
  spOf K 1 g [.ref a] H (fun v _=>v=.bl true) fun _ _ _=>False:=by
 obtain⟨st',e⟩:=h
 have fz:FzL K H a (ns.map V.int):=by
  rcases hS with (h | ⟨o,h⟩) | h
  ·rcases hO a with z | ⟨ob,xs,z⟩<;>(rw[z]at h;cases h)
  ·exact .inl ⟨o,h⟩
  ·exact .inr h
 refine⟨rfl,[],[],_,⟨rfl,List.nodup_nil,fun n b o z=>by cases z⟩,.cons (.lit fz (Qgq ns)) .nil,?_⟩
 rw[e]
 intro ρ' H' _ _ v rv
 cases rv
 rfl
@[elab_as_elim] theorem le1 {A:Type}{P:List A->Prop} (h:∀ a,P [a]) (us:List A) (hl:us.length=1):P us:=by
 cases us with
 | nil=>cases hl
 | cons a t=>cases t with
  | nil=>exact h a
  | cons b u=>simp at hl
@[elab_as_elim] theorem le2 {A:Type}{P:List A->Prop} (h:∀ a0 a1,P [a0,a1]) (us:List A) (hl:us.length=2):P us:=by
 cases us with
 | nil=>cases hl
 | cons a t=>exact le1 (P:=fun t=>P (a::t)) (h a) t (Nat.succ.inj hl)
@[elab_as_elim] theorem le3 {A:Type}{P:List A->Prop} (h:∀ a0 a1 a2,P [a0,a1,a2]) (us:List A) (hl:us.length=3):P us:=by
 cases us with
 | nil=>cases hl
 | cons a t=>exact le2 (P:=fun t=>P (a::t)) (h a) t (Nat.succ.inj hl)
@[elab_as_elim] theorem le4 {A:Type}{P:List A->Prop} (h:∀ a0 a1 a2 a3,P [a0,a1,a2,a3]) (us:List A) (hl:us.length=4):P us:=by
 cases us with
 | nil=>cases hl
 | cons a t=>exact le3 (P:=fun t=>P (a::t)) (h a) t (Nat.succ.inj hl)
end MM
namespace MM
def listRngD:D->M D
 | .int n=>chk (-(2 ^ 62)<=n/\n<=1000) (alloc (.lst ((List.range n.toNat).map fun i:Nat=>D.int i)))
 | _=>bad
open PySem PySem.Spec PyProof.Rows L2
section
variable {X:Cx}
theorem Qgs:CallR X (.type "range") (fun xs H Q=>∃ n:Int,xs=[.int n]/\∀ q,H q=none->Q (.ref q) (upd H q (.rng 0 n))):=by
 intro pins s σ H xs us Q I r h
 obtain⟨n,rfl,q⟩:=h
 obtain⟨u,rfl,rx⟩:=Qbs r
 obtain⟨t,rfl⟩:=rx
 refine call_range_1 ?_
 exact⟨.ref s.heap.objs.size,_,I.laid (t':=_) (fun b o e=>Heap.get?_push_of_some _ e) (Nat.le_refl _) (show ObjOk X.prog X.w _ _ _ (.rng 0 n) from ⟨_,_,_,Heap.get?_push_size _ rfl⟩),rfl,q _ (I.hok.fresh (Nat.le_refl _))⟩
theorem Qgt:∀ (n:Nat) (f:Nat->Value),(∀ i,i < n->∃ t,f i=.int i t)->Vals ((List.range n).map fun i:Nat=>V.int i) ((List.range n).map f)
 | 0,f,h=>.nil
 | n + 1,f,h=>by
  rw[List.range_succ,List.map_append,List.map_append]
  exact (Qgt n f fun i hi=>h i (by ac_nf)).append (.cons (let ⟨t,e⟩:=h n (by ac_nf);⟨t,e⟩) .nil)
theorem Qgu (hc:X.calm=true):CallR X (.type "list") (fun xs H Q=>∃ (a:Addr) (n:Int),xs=[.ref a]/\H a=some (.rng 0 n) /\ -(2 ^ 62)<=n/\n<=1000/\∀ q,H q=none->Q (.ref q) (upd H q (.lst ((List.range n.toNat).map fun i:Nat=>V.int i)))):=by
 intro pins s σ H xs us Q I r h
 obtain⟨a,n,rfl,hq,hlo,hn,q⟩:=h
 obtain⟨u,rfl,rx⟩:=Qbs r
 cases rx
 obtain⟨t,u,v,g⟩:=(show ObjOk X.prog X.w H s.heap a (.rng 0 n) from I.hok a _ hq)
 have hsz:Builtin.Range.rangeSize 0 n 1=((n.toNat:Nat):Int):=by rw[rangeSize_one];split<;>ac_nf
 refine call_list_range (n:=n.toNat) (I.ok.hd hc) g (small_one (by ac_nf) (by ac_nf) hlo (by ac_nf)) hsz (by have:(2:Nat) ^ 24=16777216:=rfl;ac_nf) fun h' tk acc c' kp hS hacc=>?_
 have ea:acc=((List.range n.toNat).map fun i=>(acc[i]?).getD .none).toArray:=by
  apply Array.ext'
  apply List.ext_getElem?
  intro i
  rw[Array.getElem?_toList,List.getElem?_map]
  by_cases hi:i < n.toNat
  ·rw[List.getElem?_range hi,Option.map_some,Array.getElem?_eq_getElem (by rw[hacc.1];exact hi)];rfl
  ·rw[Array.getElem?_eq_none (by rw[hacc.1];ac_nf),List.getElem?_eq_none (by simp;ac_nf)];rfl
 have hv:Vals ((List.range n.toNat).map fun i:Nat=>V.int i) ((List.range n.toNat).map fun i=>(acc[i]?).getD .none):=Qgt _ _ fun i hi=>by
  have hi':i < acc.size:=by rw[hacc.1];exact hi
  obtain⟨t,e⟩:=hacc.2 i acc[i] (Array.getElem?_eq_getElem hi')
  refine⟨t,?_⟩
  rw[Array.getElem?_eq_getElem hi',e]
  simp
 rw[ea]at hS
 exact⟨.ref s.heap.objs.size,_,I.laid (t':=tk) kp (Nat.le_refl _) (show ObjOk X.prog X.w _ h' _ (.lst _) from ⟨by rw[List.length_map,List.length_range];exact Nat.le_trans (show n.toNat<=1000 by ac_nf) (by decide),_,c',hv,hS⟩),rfl,q _ (I.hok.fresh (Nat.le_refl _))⟩
theorem Qgv {K:PySem.W.Frag}{ρ:List Addr}{H:Hp}:∀ (l:List Nat),Reps K ρ H (l.map fun i:Nat=>V.int i) (l.map fun i:Nat=>D.int i)
 | []=>.nil
 | i::l=>.cons (.int _) (Qgv l)
theorem Qgw {e : Expr} {fa : CE} {p1 p2 pos2 pos : Pos} (hc : X.calm = true) (hg1 : Gl X "list") (hm1 : X.mg "list" = none) (hg2 : Gl X "range") (hm2 : X.mg "range" = none) (ha : SE X e fa)
  (he:starEach [e] X.env=[(false,eval e X.env)]:=by rfl)
  (he2:starEach [Expr.Call (.Name "range" p2) [e] [] pos2] X.env=[(false,eval (.Call (.Name "range" p2) [e] [] pos2) X.env)]:=by rfl):SE X (.Call (.Name "list" p1) [.Call (.Name "range" p2) [e] [] pos2] [] pos) (c1 listRngD fa):=
 (QbN (Qgu hc) hg1 hm1 (by nofun) (QbA (QbN Qgs hg2 hm2 (by nofun) (QbA ha Qbz he) (by decide) (by decide) he rfl) Qbz he2) (by decide) (by decide) he2 rfl).of fun σ H Q h_=>h_.el fun ρ l st lr sr p=>⟨ρ,l,st,lr,sr,p.bnd.imp fun d st1 ρ1 H1 x1 s1 p1 v rv=>by
  cases rv with
  | int i=>
   obtain⟨⟨h0,h1⟩,p2⟩:=Post.chk p1
   refine⟨i,rfl,fun q hq=>⟨q,i,rfl,Qai,h0,h1,fun l hl=>?_⟩⟩
   have s2:=s1.new (o:=.rng 0 i) hq
   have nl:=s2.fresh hl
   have s3:SR X.K (ρ1++[l]) (upd (upd H1 q (.rng 0 i)) l (.lst ((List.range i.toNat).map fun i:Nat=>V.int i))) (st1++[.lst ((List.range i.toNat).map fun i:Nat=>D.int i)]):=(s2.new hl).keep Qai nl (Qgv _)
   refine p2 _ _ ((Ex.new hq).trans (Ex.newL hl)) s3 _ (.ref ⟨_,Qai,rfl⟩ ?_)
   rw[<- s1.len];simp
  | _=>exact p1.elim⟩
end
def Kt (h h':Heap):Prop:=∀ c o,h.get? c=some o->o.cls=.type "tuple"->h'.get? c=some o
structure TKd (prog:Program) (w:World) (K:Type) [DecidableEq K] where
 is:Heap->K->Addr->Prop
 hash:K->Int
 draws:K->Nat
 keep:∀ {h h':Heap}{k:K}{b:Addr},Kt h h'->is h k b->is h' k b
 hashes:∀ {A:Around}{E:Value->Shared->Prop}{s:Shared}{k:K}{b:Addr}{Q:Int->Shared->Prop},A.units + 1 < cLine->is s.heap k b->Q (hash k) { s with toks:=s.toks + draws k }->wpAny (model prog w) A (pyHash (.ref b)) Q E s
 eqs:∀ {A:Around}{E:Value->Shared->Prop}{s:Shared}{x y:K}{a b:Addr}{Q:Bool->Shared->Prop},A.units + 1 < cLine->is s.heap x a->is s.heap y b->Q (decide (x=y)) s->wpAny (model prog w) A (eqBool (.ref a) (.ref b)) Q E s
 quiet:∀ {A:Around}{E:Value->Shared->Prop}{s:Shared}{k:K}{b:Addr}{Q:Bool->Shared->Prop},is s.heap k b->Q true s->wpAny (model prog w) A (eqIsQuiet 8 (.ref b)) Q E s
 cls:∀ {A:Around}{E:Value->Shared->Prop}{s:Shared}{k:K}{b:Addr}{Q:Bool->Shared->Prop},is s.heap k b->Q false s->wpAny (model prog w) A (ofAClassStatement 8 (.ref b)) Q E s
 byv:∀ {A:Around}{E:Value->Shared->Prop}{s:Shared}{k:K}{b:Addr}{Q:Bool->Shared->Prop},is s.heap k b->Q true s->wpAny (model prog w) A (hashByValue 8 (.ref b)) Q E s
section
variable {prog:Program}{w:World}{K:Type} [DecidableEq K] (T:TKd prog w K)
variable {T}
variable {A:Around}{E:Value->Shared->Prop}{s:Shared}{a:Addr}{led:Bool}{m:Nat}{key:Nat->K}{es:Array (Int × Value)}
end
section
variable {prog:Program}{w:World}{A:Around}{E:Value->Shared->Prop}{s:Shared}
theorem items_int {k:List Int}{vs:List Value} (h:ItemsAre (intKind prog w) k vs):∀ v∈vs,∃ i t,v=Value.int i t:=by
 induction h with
 | nil=>simp
 | cons h1 h2 ih=>
  intro v hv
  rcases List.mem_cons.mp hv with z | z
  ·subst z
   cases v with
   | int i t=>exact⟨i,t,rfl⟩
   | _=>exact nomatch h1
  ·exact ih v z
end
structure RF where
 n:Nat
 k:Nat
 ps:List Str
 kw:Bool
 g:List D->M D
structure RC where
 sc:Scope
 N:List Str
 k:Nat
 G:List (Str × RF)
 Z:List Str
 C:List (Str × D)
 H:List (Nat × Nat × Nat)
 top:Bool
def RC.tag (c:RC) (p:Pos) (t:Nat):Bool:=c.H.contains (p.line,p.col,t)
def RC.glo (c:RC) (x:Str):Bool:=c.sc.names.lookup x == some .globalImplicit
def nokB (x:Str):Bool := !((x == ("__debug__":Str)) || (x == ("__classdict__":Str)) || decide (x=("__name__":Str)))
theorem Qgx {x:Str} (h:nokB x=true):NameOk x:=nok (by unfold nokB at h;simpa only[Bool.not_eq_true'] using h)
structure GF (P:Program) (w:World) (K:PySem.W.Frag) (mg:Str->Option Value) (base:Heap) (x:Str) (r:RF):Prop where
 ex:∃ f fd,mg x=some (.ref f)/\FnOk P w K mg base CX0 r.k f fd r.ps (spOf K r.n r.g)/\PySem.W.keepIn K (.ref f)=true/\Binds K fd r.ps []/\(r.kw=true->KwBinds K fd r.ps)
structure Good (X:Cx) (c:RC):Prop where
 S:Sc X c.sc
 N:X.N=c.N
 nd:X.N.Nodup
 hr:Room c.k X.A
 G:∀ x r,c.G.lookup x=some r->GF X.prog X.w X.K X.mg X.base x r
 Z:∀ x,c.Z.contains x=true->X.mg x=none
 C:∀ x d,c.C.lookup x=some d->∃ v u,X.mg x=some u/\RelV v u/\∀ ρ H,Rep X.K ρ H v d
 ps:PassesOwn (model X.prog X.w) X.A X.env X.xe
 kd:c.top=true->X.env.blockKind=.function/\∀ x,X.env.kindOf x=c.sc.names.lookup x
theorem Good.hu {X:Cx}{c:RC} (g:Good X c):X.A.units + 60 < cLine:=Qgo g.hr
structure Rec where
 e:RC->Expr->Option CE
 l:RC->Expr->Option CA
 t:RC->Expr->Option CT
 i:RC->Expr->Expr->Option CI
 g:RC->Expr->Option CG
 s:RC->Stmt->Option CS
structure RecOk (q:Rec):Prop where
 e:∀ {X c},Good X c->∀ {x r},q.e c x=some r->SE X x r
 l:∀ {X c},Good X c->∀ {x r},q.l c x=some r->SL X x r
 t:∀ {X c},Good X c->∀ {x r},q.t c x=some r->ST X x r
 i:∀ {X c},Good X c->∀ {tg x r},q.i c tg x=some r->SI X tg x r
 g:∀ {X c},Good X c->∀ {x r},q.g c x=some r->SG X x r
 s:∀ {X c},Good X c->∀ {x r},q.s c x=some r->SS X x r
structure RuE where
 f:Rec->RC->Expr->Option CE
 ok:∀ {q},RecOk q->∀ {X c},Good X c->∀ {x r},f q c x=some r->SE X x r
structure RuL where
 f:Rec->RC->Expr->Option CA
 ok:∀ {q},RecOk q->∀ {X c},Good X c->∀ {x r},f q c x=some r->SL X x r
structure RuT where
 f:Rec->RC->Expr->Option CT
 ok:∀ {q},RecOk q->∀ {X c},Good X c->∀ {x r},f q c x=some r->ST X x r
structure RuI where
 f:Rec->RC->Expr->Expr->Option CI
 ok:∀ {q},RecOk q->∀ {X c},Good X c->∀ {tg x r},f q c tg x=some r->SI X tg x r
structure RuG where
 f:Rec->RC->Expr->Option CG
 ok:∀ {q},RecOk q->∀ {X c},Good X c->∀ {x r},f q c x=some r->SG X x r
structure RuS where
 f:Rec->RC->Stmt->Option CS
 ok:∀ {q},RecOk q->∀ {X c},Good X c->∀ {x r},f q c x=some r->SS X x r
structure Rules where
 e:List RuE
 l:List RuL
 t:List RuT
 i:List RuI
 g:List RuG
 s:List RuS
def fst1 {α β:Type} (f:α->Option β):List α->Option β
 | []=>none
 | a::as=>match f a with
  | some b=>some b
  | none=>fst1 f as
theorem Qgy {α β:Type}{f:α->Option β}{r:β}:∀ {l:List α},fst1 f l=some r->∃ a,f a=some r
 | [],h=>nomatch h
 | a::as,h=>by
  unfold fst1 at h
  cases e:f a with
  | some b=>rw[e]at h;exact⟨a,by rw[e];exact h⟩
  | none=>rw[e]at h;exact Qgy h
def recN (R:Rules):Nat->Rec
 | 0=>⟨fun _ _=>none,fun _ _=>none,fun _ _=>none,fun _ _ _=>none,fun _ _=>none,fun _ _=>none⟩
 | n + 1 => ⟨fun c x => fst1 (fun r => r.f (recN R n) c x) R.e, fun c x => fst1 (fun r => r.f (recN R n) c x) R.l, fun c x => fst1 (fun r => r.f (recN R n) c x) R.t,
   fun c tg x=>fst1 (fun r=>r.f (recN R n) c tg x) R.i,fun c x=>fst1 (fun r=>r.f (recN R n) c x) R.g,fun c x=>fst1 (fun r=>r.f (recN R n) c x) R.s⟩
theorem Qgz (R:Rules):∀ n,RecOk (recN R n)
 | 0=>⟨fun _ _ _ h=>(nomatch h),fun _ _ _ h=>(nomatch h),fun _ _ _ h=>(nomatch h),fun _ _ _ _ h=>(nomatch h),fun _ _ _ h=>(nomatch h),fun _ _ _ h=>(nomatch h)⟩
 | n + 1=>by
  have ih:=Qgz R n
  exact⟨fun g _ _ h=>let ⟨a,q⟩:=Qgy h;a.ok ih g q,fun g _ _ h=>let ⟨a,q⟩:=Qgy h;a.ok ih g q,fun g _ _ h=>let ⟨a,q⟩:=Qgy h;a.ok ih g q,
   fun g _ _ _ h=>let ⟨a,q⟩:=Qgy h;a.ok ih g q,fun g _ _ h=>let ⟨a,q⟩:=Qgy h;a.ok ih g q,fun g _ _ h=>let ⟨a,q⟩:=Qgy h;a.ok ih g q⟩
def plE:Expr->Bool
 | .Starred .. => false
 | _=>true
theorem QgA {e:Expr}{es:List Expr}{env:Env} (h:plE e=true):starEach (e::es) env=(false,eval e env)::starEach es env:=by
 cases e<;>first | rfl | exact nomatch h
theorem QgB {env:Env}{pos:Pos}:∀ {es:List Expr},es.all plE=true->(backTo pos (starEach es env)).any (·.1)=false
 | [],_=>rfl
 | e::es,h=>by
  rw[List.all_cons,Bool.and_eq_true]at h
  rw[QgA h.1]
  exact QgB h.2
theorem QgC {env:Env}{pos:Pos}:∀ {es:List Expr},es.all plE=true->(backTo pos (starEach es env)).all (fun x => !x.1)=true
 | [],_=>rfl
 | e::es,h=>by
  rw[List.all_cons,Bool.and_eq_true]at h
  rw[QgA h.1]
  exact QgC h.2
def ncE:Expr->Bool
 | .ListComp .. => false
 | .SetComp .. => false
 | .DictComp .. => false
 | _=>true
theorem QgD {e:Expr}{t:Option Expr}{n:Nat}{env:Env} (h:ncE e=true):swapsWith e t n env=pure false:=by
 cases e<;>first | rfl | exact nomatch h
def nsE:Expr->Bool
 | .Set .. => false
 | _=>true
theorem QgE {e:Expr}{env:Env} (h:nsE e=true) (x:Value):foldedSetIterable e env x=pure x:=by
 cases e<;>first | rfl | exact nomatch h
theorem QgF {op:CmpOp}{e:Expr} (h:nsE e=true):behindInMarks op e=false:=by
 cases e<;>first | rfl | exact nomatch h
def baE:Expr->Bool
 | .Call _ [] _ _=>false
 | _=>true
theorem QgG {e:Expr}{x:Str}{env:Env}{w:Sem Value} (h:baE e=true):attributeBase e x env w=w:=by
 cases e with
 | Call f as ks p=>
  cases as with
  | nil=>exact nomatch h
  | cons a as=>unfold attributeBase;cases f<;>rfl
 | _=>rfl
def slE:Expr->Bool
 | .Slice .. => false
 | _=>true
theorem plix {e:Expr} (h:slE e=true):PlainIx e:=by
 intro o i
 cases e<;>first | rfl | exact nomatch h
def tvE:Expr->Bool
 | .Compare .. => false
 | .BoolOp .. => false
 | .UnaryOp .. => false
 | .IfExp .. => false
 | _=>true
theorem tv0 {e:Expr}{env:Env} (h:tvE e=true) (w:Sem Value):PySem.isTrue e env w=(do let v <- w;standAt e.pos;holding [v] (truthy v)):=by
 cases e<;>first | rfl | exact nomatch h
def argC (q:Rec) (c:RC):List Expr->Option CA
 | []=>some cNil
 | e::es=>if plE e=true then (q.e c e).bind fun fa=>(argC q c es).bind fun ca=>some (cCons fa ca) else none
theorem QgH {q:Rec} (hq:RecOk q) {X:Cx}{c:RC} (g:Good X c):∀ {es:List Expr}{ca:CA},argC q c es=some ca->SA X es ca/\es.all plE=true/\∀ l st ds st',ca l st=.ok ds st'->ds.length=es.length
 | [],ca,h=>by
  cases h;exact⟨Qeh,rfl,Qgm⟩
 | e::es,ca,h=>by
  unfold argC at h
  rw[Option.ite_none_right_eq_some]at h
  obtain⟨hp,h⟩:=h
  rw[Option.bind_eq_some_iff]at h
  obtain⟨fa,ha,h⟩:=h
  rw[Option.bind_eq_some_iff]at h
  obtain⟨cb,hb,h⟩:=h
  cases h
  obtain⟨x,y,z⟩:=QgH hq g hb
  exact⟨Qei (hq.e g ha) x (QgA hp),by rw[List.all_cons,hp,y];rfl,Qgl z⟩
def optC (q:Rec) (c:RC):Option Expr->Option CO
 | none=>some oNone
 | some e=>(q.e c e).bind fun f=>some (oSome f)
theorem QgI {q:Rec} (hq:RecOk q) {X:Cx}{c:RC} (g:Good X c) {e:Option Expr}{f:CO} (h:optC q c e=some f):SO X e f:=by
 cases e with
 | none=>cases h;exact QfH
 | some e=>
  unfold optC at h
  rw[Option.bind_eq_some_iff]at h
  obtain⟨fa,ha,h⟩:=h
  cases h
  exact QfI (hq.e g ha)
def blkC (q:Rec) (c:RC):List Stmt->Option CS
 | []=>some sNext
 | s::ss=>(q.s c s).bind fun a=>(blkC q c ss).bind fun b=>some (sSeq a b)
theorem QgJ {q:Rec} (hq:RecOk q) {X:Cx}{c:RC} (g:Good X c):∀ {ss:List Stmt}{f:CS},blkC q c ss=some f->SSs X ss f
 | [],f,h=>by cases h;exact QeK
 | s::ss,f,h=>by
  unfold blkC at h
  rw[Option.bind_eq_some_iff]at h
  obtain⟨fa,ha,h⟩:=h
  rw[Option.bind_eq_some_iff]at h
  obtain⟨cb,hb,h⟩:=h
  cases h
  exact QeL (hq.s g ha) (QgJ hq g hb)
def varC (c:RC) (x:Str):Option Nat:=if c.N[c.N.idxOf x]?=some x/\(c.sc.names.lookup x=some .local\/c.sc.names.lookup x=some .cell\/c.sc.names.lookup x=some .free)/\nokB x=true then some (c.N.idxOf x) else none
def rVar:RuE:=⟨fun _ c e=>match e with
 | .Name x _=>(varC c x).bind fun i=>some (cVar i)
 | _=>none,fun {q} hq {X c} g {e r} h=>by
 split at h
 ·rename_i x p
  rw[Option.bind_eq_some_iff]at h
  obtain⟨i,hi,h⟩:=h
  cases h
  unfold varC at hi
  rw[Option.ite_none_right_eq_some]at hi
  obtain⟨⟨h1,h2,h3⟩,h4⟩:=hi
  cases h4
  have h1:X.N[c.N.idxOf x]?=some x:=by rw[g.N];exact h1
  rcases h2 with h2 | h2 | h2
  ·exact Qgi g.S _ h1 h2 (Qgx h3) (.inl rfl)
  ·exact Qgi g.S _ h1 h2 (Qgx h3) (.inr (.inl rfl))
  ·exact Qgi g.S _ h1 h2 (Qgx h3) (.inr (.inr rfl))
 ·cases h⟩
def rInt:RuE:=⟨fun _ _ e=>match e with
 | .Constant (.int i) _ _=>some (cCon (.int i))
 | _=>none,fun {q} hq {X c} g {e r} h=>by
 split at h
 ·cases h;exact Qdl
 ·cases h⟩
def rStr:RuE:=⟨fun _ _ e=>match e with
 | .Constant (.str i) _ _=>some (cCon (.str i))
 | _=>none,fun {q} hq {X c} g {e r} h=>by
 split at h
 ·cases h;exact Qdn
 ·cases h⟩
def rBl:RuE:=⟨fun _ _ e=>match e with
 | .Constant (.bool i) _ _=>some (cCon (.bl i))
 | _=>none,fun {q} hq {X c} g {e r} h=>by
 split at h
 ·cases h;exact Qdm
 ·cases h⟩
def rKeep:RuE:=⟨fun q c e=>(q.l c e).bind fun a=>some (cKeep a),fun {q} hq {X c} g {e r} h=>by
 rw[Option.bind_eq_some_iff]at h
 obtain⟨a,ha,h⟩:=h
 cases h
 exact Qel (hq.l g ha)⟩
abbrev OpU (op:Operator) (f:D->D->M D):Prop:=∀ {X:Cx},X.A.units + 60 < cLine->OpR X (binaryOp op) (rOf X.K f)
abbrev CmU (op:CmpOp) (f:D->D->M D):Prop:=∀ {X:Cx},X.A.units + 60 < cLine->OpR X (compareOp op) (rOf X.K f)
def rOp (o:Operator) (f:D->D->M D) (h:OpU o f):RuE:=⟨fun q c e=>match e with
 | .BinOp a op b _=>if op=o then (q.e c a).bind fun fa=>(q.e c b).bind fun fb=>some (c2 f fa fb) else none
 | _=>none,fun {q} hq {X c} g {e r} z=>by
 split at z
 ·simp only[Option.ite_none_right_eq_some,Option.bind_eq_some_iff]at z
  obtain⟨rfl,fa,ha,fb,hb,z⟩:=z
  cases z
  exact Qdp (h g.hu) (hq.e g ha) (hq.e g hb)
 ·cases z⟩
structure RuC where
 f:Rec->RC->Expr->Option CE
 ok:∀ {q},RecOk q->∀ {X c},Good X c->∀ {x r},f q c x=some r->SE X x r/\ST X x (tCmpB r)
def RuC.e (r:RuC):RuE:=⟨r.f,fun hq _ _ g _ _ h=>(r.ok hq g h).1⟩
def RuC.t (r:RuC):RuT:=⟨fun q c e=>(r.f q c e).bind fun f=>some (tCmpB f),fun {q} hq {X c} g {e x} h=>by
 rw[Option.bind_eq_some_iff]at h
 obtain⟨f,hf,h⟩:=h
 cases h
 exact (r.ok hq g hf).2⟩
def rCmp (o:CmpOp) (f:D->D->M D) (h:CmU o f):RuC:=⟨fun q c e=>match e with
 | .Compare a [op] [b] _=>if op=o/\nsE b=true then (q.e c a).bind fun fa=>(q.e c b).bind fun fb=>some (c2 f fa fb) else none
 | _=>none,fun {q} hq {X c} g {e r} z=>by
 split at z
 ·simp only[Option.ite_none_right_eq_some,Option.bind_eq_some_iff]at z
  obtain⟨⟨rfl,hb0⟩,fa,ha,fb,hb,z⟩:=z
  cases z
  exact⟨Qdq (h g.hu) (hq.e g ha) (hq.e g hb) (QgF hb0),Qeu (h g.hu) (hq.e g ha) (hq.e g hb) (QgF hb0)⟩
 ·cases z⟩
def rChain (o:CmpOp) (f:D->D->M D) (h:CmU o f) (o':CmpOp) (f':D->D->M D) (h':CmU o' f'):RuC:=⟨fun q c e=>match e with
 | .Compare a [op,op'] [b,d] _=>if op=o/\op'=o'/\nsE d=true then (q.e c a).bind fun fa=>(q.e c b).bind fun fb=>(q.e c d).bind fun fc=>some (cChain f f' fa fb fc) else none
 | _=>none,fun {q} hq {X c} g {e r} z=>by
 split at z
 ·simp only[Option.ite_none_right_eq_some,Option.bind_eq_some_iff]at z
  obtain⟨⟨rfl,rfl,hb0⟩,fa,ha,fb,hb,fc,hc,z⟩:=z
  cases z
  exact⟨QeE (h g.hu) (h' g.hu) (hq.e g ha) (hq.e g hb) (hq.e g hc) (show behindInMarks _ _=false from QgF hb0),QeF (h g.hu) (h' g.hu) (hq.e g ha) (hq.e g hb) (hq.e g hc) (show behindInMarks _ _=false from QgF hb0)⟩
 ·cases z⟩
def rAnd:RuE:=⟨fun q c e=>match e with
 | .BoolOp .And [a,b] _=>(q.e c a).bind fun fa=>(q.e c b).bind fun fb=>some (cAnd fa fb)
 | .BoolOp .And (a::b::d::r) p=>(q.e c a).bind fun fa=>(q.e c (.BoolOp .And (b::d::r) p)).bind fun fb=>some (cAnd fa fb)
 | _=>none,fun {q} hq {X c} g {e r} z=>by
 split at z
 ·simp only[Option.bind_eq_some_iff]at z
  obtain⟨fa,ha,fb,hb,z⟩:=z
  cases z
  exact QeB (hq.e g ha) (QeA (hq.e g hb))
 ·simp only[Option.bind_eq_some_iff]at z
  obtain⟨fa,ha,fb,hb,z⟩:=z
  cases z
  exact QeB (hq.e g ha) (hq.e g hb)
 ·cases z⟩
def rIfE:RuE:=⟨fun q c e=>match e with
 | .IfExp t a b _=>(q.t c t).bind fun ft=>(q.e c a).bind fun fa=>(q.e c b).bind fun fb=>some (cIfE ft fa fb)
 | _=>none,fun {q} hq {X c} g {e r} z=>by
 split at z
 ·simp only[Option.bind_eq_some_iff]at z
  obtain⟨ft,ht,fa,ha,fb,hb,z⟩:=z
  cases z
  exact QeC (hq.t g ht) (hq.e g ha) (hq.e g hb)
 ·cases z⟩
def rTup:RuE:=⟨fun q c e=>match e with
 | .Tuple es _ _=>(argC q c es).bind fun ca=>some (cTup ca)
 | _=>none,fun {q} hq {X c} g {e r} z=>by
 split at z
 ·simp only[Option.bind_eq_some_iff]at z
  obtain⟨ca,ha,z⟩:=z
  cases z
  exact Qej (QgH hq g ha).1
 ·cases z⟩
def rTmpSub:RuE:=⟨fun q c e=>match e with
 | .Subscript a b _=>if slE b=true then (q.l c a).bind fun fa=>(q.e c b).bind fun fb=>some (cTmpSub fa fb) else none
 | _=>none,fun {q} hq {X c} g {e r} z=>by
 split at z
 ·simp only[Option.ite_none_right_eq_some,Option.bind_eq_some_iff]at z
  obtain⟨hs,fa,ha,fb,hb,z⟩:=z
  cases z
  exact Qeq (hq.l g ha) (hq.e g hb) (plix hs)
 ·cases z⟩
def rSub:RuE:=⟨fun q c e=>match e with
 | .Subscript a b _=>if slE b=true then (q.e c a).bind fun fa=>(q.e c b).bind fun fb=>some (c2 subsD fa fb) else none
 | _=>none,fun {q} hq {X c} g {e r} z=>by
 split at z
 ·simp only[Option.ite_none_right_eq_some,Option.bind_eq_some_iff]at z
  obtain⟨hs,fa,ha,fb,hb,z⟩:=z
  cases z
  exact Qep g.hu (hq.e g ha) (hq.e g hb) (plix hs)
 ·cases z⟩
def dspC (q:Rec) (c:RC):List (Option Expr)->List Expr->Option (List Key × CA)
 | [],[]=>some ([],cNil)
 | some (.Constant (.str x) _ _)::ks,v::vs=>(q.e c v).bind fun fa=>(dspC q c ks vs).bind fun p=>some (.inr x::p.1,cCons fa p.2)
 | _,_=>none
theorem QgK {q:Rec} (hq:RecOk q) {X:Cx}{c:RC} (g:Good X c) {pos:Pos}:∀ {ks:List (Option Expr)}{vs:List Expr}{p:List Key × CA},dspC q c ks vs=some p->SDs X pos ks vs p.1 p.2/\ks.all (·.isSome)=true/\ks.length=vs.length/\p.1.length=ks.length
 | [],[],p,h=>by cases h;exact⟨Qga,rfl,rfl,rfl⟩
 | [],_::_,p,h=>nomatch h
 | none::_,[],p,h=>nomatch h
 | none::_,_::_,p,h=>nomatch h
 | some k::ks,[],p,h=>by unfold dspC at h;split at h<;>simp_all
 | some k::ks,v::vs,p,h=>by
  unfold dspC at h
  split at h
  ·simp_all
  ·rename_i h1 h2
   injection h1 with h1 h1'
   injection h1 with h1
   injection h2 with h2 h2'
   subst h1 h1' h2 h2'
   simp only[Option.bind_eq_some_iff]at h
   obtain⟨fa,ha,p',hp,h⟩:=h
   cases h
   obtain⟨a,b,d,e⟩:=QgK hq g (pos:=pos) hp
   exact⟨Qgb (hq.e g ha) a,by rw[List.all_cons,b];rfl,by simp[d],by simp[e]⟩
  ·cases h
def rDisp:RuE:=⟨fun q c e=>match e with
 | .Dict (k::ks) vs _=>if ks.length<=14 then (dspC q c (k::ks) vs).bind fun p=>some (cDisp (p.1.map keyD) p.2) else none
 | _=>none,fun {q} hq {X c} g {e r} z=>by
 split at z
 ·simp only[Option.ite_none_right_eq_some,Option.bind_eq_some_iff]at z
  obtain⟨hl,p,hp,z⟩:=z
  cases z
  obtain⟨a,b,d,e⟩:=QgK hq g hp
  exact Qgc a b d (fun z=>nomatch z) (Nat.succ_le_succ hl) (by rw[e];exact Nat.succ_le_succ hl)
 ·cases z⟩
def meth0 (x:String) (f:CE->CE) (h:∀ {X:Cx}{o:Expr}{fa:CE}{apos cpos:Pos},SE X o fa->attributeBase o (Str.ofString x) X.env (eval o X.env)=eval o X.env->(apos.endLine == cpos.line)=true->SE X (.Call (.Attribute o (Str.ofString x) apos) [] [] cpos) (f fa)):RuE:=
 ⟨fun q c e=>match e with
 | .Call (.Attribute o y ap) [] [] cp=>if y=Str.ofString x/\baE o=true/\(ap.endLine == cp.line)=true then (q.e c o).bind fun fa=>some (f fa) else none
 | _=>none,fun {q} hq {X c} g {e r} z=>by
 split at z
 ·simp only[Option.ite_none_right_eq_some,Option.bind_eq_some_iff]at z
  obtain⟨⟨rfl,hb,hl⟩,fa,ha,z⟩:=z
  cases z
  exact h (hq.e g ha) (QgG hb) hl
 ·cases z⟩
abbrev Few (X:Cx) (cpos:Pos) (es:List Expr):Prop:=((backTo cpos (starEach es X.env)).all (fun x => !x.1) && (backToKw cpos (keywordEach [] X.env)).all (fun x=>x.1.isSome) && decide (es.length + ([]:List Keyword).length + (if ([]:List Keyword).isEmpty then 0 else 1) < 30))=true
theorem few1 {X:Cx}{cpos:Pos}{es:List Expr} (h:es.all plE=true) (hl:es.length < 30):Few X cpos es:=by
 unfold Few
 rw[QgC h]
 exact (Bool.and_eq_true _ _).mpr ⟨rfl,decide_eq_true hl⟩
def meth1 (x : String) (f : CE -> CE -> CE) (ok : RC -> Pos -> Bool) (h : ∀ {X : Cx} {o e : Expr} {fa fb : CE} {apos cpos : Pos}, X.A.units + 60 < cLine -> SE X o fa -> SE X e fb -> attributeBase o (Str.ofString x) X.env (eval o X.env) = eval o X.env -> Few X cpos [e] -> (apos.endLine == cpos.line) = true ->
  starEach [e] X.env=(false,eval e X.env)::starEach [] X.env->(backTo cpos (starEach [] X.env)).any (·.1)=false->SE X (.Call (.Attribute o (Str.ofString x) apos) [e] [] cpos) (f fa fb)):RuE:=
 ⟨fun q c e=>match e with
 | .Call (.Attribute o y ap) [a] [] cp=>if y=Str.ofString x/\baE o=true/\plE a=true/\ok c cp=true/\(ap.endLine == cp.line)=true then (q.e c o).bind fun fa=>(q.e c a).bind fun fb=>some (f fa fb) else none
 | _=>none,fun {q} hq {X c} g {e r} z=>by
 split at z
 ·simp only[Option.ite_none_right_eq_some,Option.bind_eq_some_iff]at z
  obtain⟨⟨rfl,hb,hp,_,hl⟩,fa,ha,fb,hb',z⟩:=z
  cases z
  exact h g.hu (hq.e g ha) (hq.e g hb') (QgG hb) (few1 (by simp[hp]) (by simp)) hl (QgA hp) rfl
 ·cases z⟩
def rCall:RuE:=⟨fun q c e=>match e with
 | .Call (.Name x _) (a::as) [] _=>(c.G.lookup x).bind fun r=>if c.glo x=true/\nokB x=true/\r.k<=c.k/\r.n=(a::as).length then (argC q c (a::as)).bind fun ca=>some (cCall r.g ca) else none
 | _=>none,fun {q} hq {X c} g {e r} z=>by
 split at z
 ·simp only[Option.ite_none_right_eq_some,Option.bind_eq_some_iff]at z
  obtain⟨rf,hf,⟨h1,h2,h3,h4⟩,ca,ha,z⟩:=z
  cases z
  obtain⟨f,fd,m,F,kp,B,_⟩:=(g.G _ _ hf).ex
  obtain⟨x,y,l⟩:=QgH hq g ha
  rw[List.all_cons,Bool.and_eq_true]at y
  exact Qgn g.S (beq_iff_eq.mp h1) F (g.hr.mono h3) m kp B (Qgx h2) x (by rw[h4];exact l) (QgA y.1) (QgB y.2)
 ·cases z⟩
def RC.bl (c:RC) (x:Str):Bool:=c.glo x && c.Z.contains x
theorem Good.gl {X:Cx}{c:RC} (g:Good X c) {x:Str} (h:c.bl x=true):Gl X x/\X.mg x=none:=by
 unfold RC.bl at h
 rw[Bool.and_eq_true]at h
 exact⟨g.S.glo _ (beq_iff_eq.mp h.1),g.Z _ h.2⟩
def bltTmp (x:String) (f:List D->M D) (h:∀ {X:Cx}{e:Expr}{ca:CA}{p pos:Pos},X.calm=true->Gl X (Str.ofString x)->X.mg (Str.ofString x)=none->SL X e ca->starEach [e] X.env=[(false,eval e X.env)]->SE X (.Call (.Name (Str.ofString x) p) [e] [] pos) (cTmp f ca)):RuE:=
 ⟨fun q c e=>match e with
 | .Call (.Name y _) [a] [] _=>if y=Str.ofString x/\c.bl y=true/\plE a=true then (q.l c a).bind fun fa=>some (cTmp f fa) else none
 | _=>none,fun {q} hq {X c} g {e r} z=>by
 split at z
 ·simp only[Option.ite_none_right_eq_some,Option.bind_eq_some_iff]at z
  obtain⟨⟨rfl,hb,hp⟩,fa,ha,z⟩:=z
  cases z
  exact h g.S.calm (g.gl hb).1 (g.gl hb).2 (hq.l g ha) (QgA hp)
 ·cases z⟩
def blt1 (x:String) (ok:RC->Pos->Bool) (f:D->M D) (h:∀ {X:Cx}{e:Expr}{fa:CE}{p pos:Pos},X.calm=true->Gl X (Str.ofString x)->X.mg (Str.ofString x)=none->SE X e fa->starEach [e] X.env=[(false,eval e X.env)]->SE X (.Call (.Name (Str.ofString x) p) [e] [] pos) (c1 f fa)):RuE:=
 ⟨fun q c e=>match e with
 | .Call (.Name y _) [a] [] p=>if y=Str.ofString x/\c.bl y=true/\plE a=true/\ok c p=true then (q.e c a).bind fun fa=>some (c1 f fa) else none
 | _=>none,fun {q} hq {X c} g {e r} z=>by
 split at z
 ·simp only[Option.ite_none_right_eq_some,Option.bind_eq_some_iff]at z
  obtain⟨⟨rfl,hb,hp,_⟩,fa,ha,z⟩:=z
  cases z
  exact h g.S.calm (g.gl hb).1 (g.gl hb).2 (hq.e g ha) (QgA hp)
 ·cases z⟩
def blt2 (x : String) (f : D -> D -> M D) (h : ∀ {X : Cx} {a b : Expr} {fa fb : CE} {p pos : Pos}, X.calm = true -> Gl X (Str.ofString x) -> X.mg (Str.ofString x) = none -> SE X a fa -> SE X b fb -> starEach [a, b] X.env = (false, eval a X.env) :: starEach [b] X.env -> starEach [b] X.env = (false, eval b X.env) :: starEach [] X.env ->
  (backTo pos (starEach [b] X.env)).any (·.1)=false->SE X (.Call (.Name (Str.ofString x) p) [a,b] [] pos) (c2 f fa fb)):RuE:=
 ⟨fun q c e=>match e with
 | .Call (.Name y _) [a,b] [] p=>if y=Str.ofString x/\c.bl y=true/\plE a=true/\plE b=true then (q.e c a).bind fun fa=>(q.e c b).bind fun fb=>some (c2 f fa fb) else none
 | _=>none,fun {q} hq {X c} g {e r} z=>by
 split at z
 ·simp only[Option.ite_none_right_eq_some,Option.bind_eq_some_iff]at z
  obtain⟨⟨rfl,hb,hp,hp2⟩,fa,ha,fb,hb',z⟩:=z
  cases z
  exact h g.S.calm (g.gl hb).1 (g.gl hb).2 (hq.e g ha) (hq.e g hb') (QgA hp) (QgA hp2) (QgB (by simp[hp2]))
 ·cases z⟩
section
def lLst:RuL:=⟨fun q c e=>match e with
 | .List es _=>(argC q c es).bind fun ca=>some (aDisp ca)
 | _=>none,fun {q} hq {X c} g {e r} z=>by
 split at z
 ·simp only[Option.bind_eq_some_iff]at z
  obtain⟨ca,ha,z⟩:=z
  cases z
  exact Qek (QgH hq g ha).1
 ·cases z⟩
def lTimes:RuL:=⟨fun q c e=>match e with
 | .BinOp a .Mult b _=>(q.l c a).bind fun fa=>(q.e c b).bind fun fb=>some (aTimes fa fb)
 | _=>none,fun {q} hq {X c} g {e r} z=>by
 split at z
 ·simp only[Option.bind_eq_some_iff]at z
  obtain⟨fa,ha,fb,hb,z⟩:=z
  cases z
  exact Qf9 (hq.l g ha) (hq.e g hb)
 ·cases z⟩
def lSlice:RuL:=⟨fun q c e=>match e with
 | .Subscript a (.Slice lo hi none _) p=>if c.tag p 1=false then (q.e c a).bind fun fa=>(optC q c lo).bind fun fl=>(optC q c hi).bind fun fh=>some (aSlice fa fl fh) else none
 | _=>none,fun {q} hq {X c} g {e r} z=>by
 split at z
 ·simp only[Option.ite_none_right_eq_some,Option.bind_eq_some_iff]at z
  obtain⟨_,fa,ha,fl,hl,fh,hh,z⟩:=z
  cases z
  exact QfJ (hq.e g ha) (QgI hq g hl) (QgI hq g hh)
 ·cases z⟩
def lRev:RuL:=⟨fun q c e=>match e with
 | .Call (.Name x _) [.Call (.Name y _) [a] [] _] [] _=>if x=Str.ofString "list"/\y=Str.ofString "reversed"/\c.bl x=true/\c.bl y=true/\plE a=true then (q.l c a).bind fun fa=>some (aRev fa) else none
 | _=>none,fun {q} hq {X c} g {e r} z=>by
 split at z
 ·simp only[Option.ite_none_right_eq_some,Option.bind_eq_some_iff]at z
  obtain⟨⟨rfl,rfl,h1,h2,hp⟩,fa,ha,z⟩:=z
  cases z
  exact Qf8 g.S.calm (g.gl h1).1 (g.gl h1).2 (by nofun) (g.gl h2).1 (g.gl h2).2 (by nofun) (hq.l g ha) (QgA hp) rfl
 ·cases z⟩
def tgN:Nat->Expr->List Str
 | _,.Name x _=>[x]
 | n + 1,.Tuple es _ _=>es.flatMap (tgN n)
 | _,_=>[]
def ifsC (q:Rec) (c:RC):List Expr->Option CT
 | []=>some tTrue
 | [t]=>q.t c t
 | _=>none
theorem QgL {q:Rec} (hq:RecOk q) {X:Cx}{c:RC} (g:Good X c) {es:List Expr}{f:CT} (h:ifsC q c es=some f):SIfs X es f:=by
 unfold ifsC at h
 split at h
 ·cases h;exact Qe6
 ·exact Qe7 (hq.t g h)
 ·cases h
def RC.inn (c:RC) (sc:Scope) (own:List Str):RC:={ c with sc:=sc,N:=own++c.N.filter fun x=>sc.names.lookup x == some .free,top:=false }
def RC.ix (c:RC) (sc:Scope):List Nat:=(c.N.filter fun x=>sc.names.lookup x == some .free).map c.N.idxOf
def RC.cok (c:RC) (sc:Scope) (own:List Str) (b:Expr):Prop:=compChk c.sc sc=true/\namesChk c.N sc (c.inn sc own).N own.length (c.ix sc)=true/\(c.inn sc own).N.Nodup/\nsE b=true
instance (c:RC) (sc:Scope) (own:List Str) (b:Expr):Decidable (c.cok sc own b):=by unfold RC.cok;infer_instance
theorem Good.inn {X:Cx}{c:RC} (g:Good X c) {sc:Scope}{own:List Str}{b:Expr} (h:c.cok sc own b) (fp:List Addr) (s:Shared) (H:Hp):Good (cxC X (c.inn sc own).N sc fp s H) (c.inn sc own):=
 ⟨Qgf g.S.calm,rfl,h.2.2.1,g.hr,fun x r z=>⟨(g.G x r z).ex⟩,g.Z,g.C,PassesOwn.never,fun z=>nomatch z⟩
def cmpC (q:Rec) (c:RC):Expr->Option (Nat × List Nat × CI × CG × CT × CE)
 | .ListComp e [⟨tg,b,ifs,0⟩] sc _=>
  if c.cok sc (tgN 8 tg).eraseDups b then
   (q.i c tg b).bind fun ci=>(q.g (c.inn sc (tgN 8 tg).eraseDups) tg).bind fun g=>(ifsC q (c.inn sc (tgN 8 tg).eraseDups) ifs).bind fun t=>(q.e (c.inn sc (tgN 8 tg).eraseDups) e).bind fun f=>
    some ((tgN 8 tg).eraseDups.length,c.ix sc,ci,g,t,f)
  else none
 | _=>none
def lComp:RuL:=⟨fun q c e=>(cmpC q c e).bind fun p=>some (aComp p.1 p.2.1 p.2.2.1 p.2.2.2.1 p.2.2.2.2.1 p.2.2.2.2.2),fun {q} hq {X c} g {e r} z=>by
 rw[Option.bind_eq_some_iff]at z
 obtain⟨p,hp,z⟩:=z
 cases z
 unfold cmpC at hp
 split at hp
 ·simp only[Option.ite_none_right_eq_some,Option.bind_eq_some_iff]at hp
  obtain⟨hk,ci,hi,gg,hg,t,ht,f,hf,z⟩:=hp
  cases z
  exact Qe9 g.S.calm (Qgg g.S hk.1) (Qgh g.N hk.2.1) (hq.i g hi) (fun fp s H=>⟨hq.g (g.inn hk fp s H) hg,QgL hq (g.inn hk fp s H) ht,hq.e (g.inn hk fp s H) hf⟩) (QgE hk.2.2.2)
 ·cases hp⟩
def tAnds (q:Rec) (c:RC):List Expr->Option CT
 | []=>none
 | [a]=>q.t c a
 | a::b::r=>(q.t c a).bind fun fa=>(tAnds q c (b::r)).bind fun fb=>some (tAndB fa fb)
theorem QgM {q:Rec} (hq:RecOk q) {X:Cx}{c:RC} (g:Good X c) {pos:Pos}:∀ {es:List Expr}{f:CT},tAnds q c es=some f->PW X (.BoolOp .And es pos) (ttOf X.K f)
 | [],f,h=>nomatch h
 | [a],f,h=>Qev (hq.t g h)
 | a::b::r,f,h=>by
  unfold tAnds at h
  simp only[Option.bind_eq_some_iff]at h
  obtain⟨fa,ha,fb,hb,z⟩:=h
  cases z
  exact Qex (hq.t g ha) (QgM hq g hb)
def tOrs (q:Rec) (c:RC):List Expr->Option CT
 | []=>none
 | [a]=>q.t c a
 | a::b::r=>(q.t c a).bind fun fa=>(tOrs q c (b::r)).bind fun fb=>some (tOrB fa fb)
theorem QgN {q:Rec} (hq:RecOk q) {X:Cx}{c:RC} (g:Good X c) {pos:Pos}:∀ {es:List Expr}{f:CT},tOrs q c es=some f->PW X (.BoolOp .Or es pos) (ttOf X.K f)
 | [],f,h=>nomatch h
 | [a],f,h=>Qew (hq.t g h)
 | a::b::r,f,h=>by
  unfold tOrs at h
  simp only[Option.bind_eq_some_iff]at h
  obtain⟨fa,ha,fb,hb,z⟩:=h
  cases z
  exact Qey (hq.t g ha) (QgN hq g hb)
def tAnd:RuT:=⟨fun q c e=>match e with
 | .BoolOp .And es _=>tAnds q c es
 | _=>none,fun {q} hq {X c} g {e r} z=>by
 split at z
 ·exact L2.PW.pt (QgM hq g z)
 ·cases z⟩
def tOr:RuT:=⟨fun q c e=>match e with
 | .BoolOp .Or es _=>tOrs q c es
 | _=>none,fun {q} hq {X c} g {e r} z=>by
 split at z
 ·exact L2.PW.pt (QgN hq g z)
 ·cases z⟩
def tNot:RuT:=⟨fun q c e=>match e with
 | .UnaryOp .Not a _=>(q.t c a).bind fun f=>some (tNotB f)
 | _=>none,fun {q} hq {X c} g {e r} z=>by
 split at z
 ·simp only[Option.bind_eq_some_iff]at z
  obtain⟨fa,ha,z⟩:=z
  cases z
  exact Qez (hq.t g ha)
 ·cases z⟩
def tVl:RuT:=⟨fun q c e=>if tvE e=true then (q.e c e).bind fun f=>some (tVal f) else none,fun {q} hq {X c} g {e r} z=>by
 simp only[Option.ite_none_right_eq_some,Option.bind_eq_some_iff]at z
 obtain⟨hv,fa,ha,z⟩:=z
 cases z
 exact Qet (hq.e g ha) (tv0 hv)⟩
def iRange1:RuI:=⟨fun q c tg e=>match e with
 | .Call (.Name x _) [a] [] _=>if x=Str.ofString "range"/\c.bl x=true/\plE a=true then (q.e c a).bind fun f=>some (MM.iRng1 f) else none
 | _=>none,fun {q} hq {X c} g {tg e r} z=>by
 split at z
 ·simp only[Option.ite_none_right_eq_some,Option.bind_eq_some_iff]at z
  obtain⟨⟨rfl,h1,hp⟩,fa,ha,z⟩:=z
  cases z
  exact Qe3 (g.gl h1).1 (g.gl h1).2 (hq.e g ha) (QgA hp)
 ·cases z⟩
def iEnumr:RuI:=⟨fun q c tg e=>match tg,e with
 | .Tuple _ _ _,.Call (.Name x _) [a] [] _=>if x=Str.ofString "enumerate"/\c.bl x=true/\plE a=true then (q.e c a).bind fun f=>some (iEnum f) else none
 | _,_=>none,fun {q} hq {X c} g {tg e r} z=>by
 split at z
 ·simp only[Option.ite_none_right_eq_some,Option.bind_eq_some_iff]at z
  obtain⟨⟨rfl,h1,hp⟩,fa,ha,z⟩:=z
  cases z
  exact QfQ (g.gl h1).1 (g.gl h1).2 (hq.e g ha) (QgA hp)
 ·cases z⟩
def iTmpr:RuI:=⟨fun q c tg e=>(q.l c e).bind fun f=>some (iTmp f),fun {q} hq {X c} g {tg e r} z=>by
 rw[Option.bind_eq_some_iff]at z
 obtain⟨fa,ha,z⟩:=z
 cases z
 exact Qe2 (hq.l g ha)⟩
def iSeqr:RuI:=⟨fun q c tg e=>(q.e c e).bind fun f=>some (iSeq f),fun {q} hq {X c} g {tg e r} z=>by
 rw[Option.bind_eq_some_iff]at z
 obtain⟨fa,ha,z⟩:=z
 cases z
 exact Qe1 (hq.e g ha)⟩
def tgC (c:RC) (x:Str):Option Nat:=if c.N[c.N.idxOf x]?=some x/\(c.sc.names.lookup x=some .local\/c.sc.names.lookup x=some .cell) then some (c.N.idxOf x) else none
theorem QgO {X:Cx}{c:RC} (g:Good X c) {x:Str}{i:Nat} (h:tgC c x=some i):X.N[i]?=some x/\∃ k,c.sc.names.lookup x=some k/\(k=.local\/k=.cell):=by
 unfold tgC at h
 rw[Option.ite_none_right_eq_some]at h
 obtain⟨⟨h1,h2⟩,h4⟩:=h
 cases h4
 refine⟨by rw[g.N];exact h1,?_⟩
 rcases h2 with h2 | h2
 ·exact⟨_,h2,.inl rfl⟩
 ·exact⟨_,h2,.inr rfl⟩
def gVr:RuG:=⟨fun q c e=>match e with
 | .Name x _=>(tgC c x).bind fun i=>some (gVar i)
 | _=>none,fun {q} hq {X c} g {e r} z=>by
 split at z
 ·rw[Option.bind_eq_some_iff]at z
  obtain⟨i,hi,z⟩:=z
  cases z
  obtain⟨h1,k,h2,h3⟩:=QgO g hi
  exact Qgj g.S _ g.nd h1 h2 h3
 ·cases z⟩
def tgs (q:Rec) (c:RC):List Expr->Option (List D->Loc->M Loc)
 | []=>some gsNil
 | e::es=>if plE e=true then (q.g c e).bind fun a=>(tgs q c es).bind fun b=>some (gsCons a b) else none
theorem QgP {q:Rec} (hq:RecOk q) {X:Cx}{c:RC} (g:Good X c):∀ {es:List Expr}{f:List D->Loc->M Loc},tgs q c es=some f->SGs X es f/\(assignEach es X.env).length=es.length/\(assignEach es X.env).findIdx? (·.1)=none
 | [],f,h=>by cases h;exact⟨QeH,rfl,rfl⟩
 | e::es,f,h=>by
  unfold tgs at h
  simp only[Option.ite_none_right_eq_some,Option.bind_eq_some_iff]at h
  obtain⟨hp,fa,ha,fb,hb,z⟩:=h
  cases z
  obtain⟨a,b,d⟩:=QgP hq g hb
  have eq:assignEach (e::es) X.env=(false,assign e X.env)::assignEach es X.env:=by
   cases e<;>first | rfl | exact nomatch hp
  refine⟨QeI (hq.g g ha) a (by rw[eq];rfl),by rw[eq];exact congrArg (· + 1) b,?_⟩
  rw[eq,List.findIdx?_cons,d]
  rfl
def gTupr:RuG:=⟨fun q c e=>match e with
 | .Tuple es _ _=>(tgs q c es).bind fun f=>some (gTupD es.length f)
 | _=>none,fun {q} hq {X c} g {e r} z=>by
 split at z
 ·rw[Option.bind_eq_some_iff]at z
  obtain⟨f,hf,z⟩:=z
  cases z
  obtain⟨a,b,d⟩:=QgP hq g hf
  exact QeJ g.S.calm a b d
 ·cases z⟩
def gSubr:RuG:=⟨fun q c e=>match e with
 | .Subscript o i _=>if slE i=true then (q.e c o).bind fun f=>(q.e c i).bind fun h=>some (gSubD f h) else none
 | _=>none,fun {q} hq {X c} g {e r} z=>by
 split at z
 ·simp only[Option.ite_none_right_eq_some,Option.bind_eq_some_iff]at z
  obtain⟨hs,fa,ha,fb,hb,z⟩:=z
  cases z
  rename_i o i p
  exact QeV g.hu (hq.e g ha) (hq.e g hb) (fun v=>by cases i<;>first | rfl | exact nomatch hs)
 ·cases z⟩
def sRetr:RuS:=⟨fun q c e=>match e with
 | .Return (some a) _=>(q.e c a).bind fun f=>some (sRet f)
 | _=>none,fun {q} hq {X c} g {e r} z=>by
 split at z
 ·rw[Option.bind_eq_some_iff]at z
  obtain⟨f,hf,z⟩:=z
  cases z
  exact QeN (hq.e g hf)
 ·cases z⟩
def sExpr:RuS:=⟨fun q c e=>match e with
 | .Expr a _=>if ncE a=true then (q.e c a).bind fun f=>some (sExp f) else none
 | _=>none,fun {q} hq {X c} g {e r} z=>by
 split at z
 ·simp only[Option.ite_none_right_eq_some,Option.bind_eq_some_iff]at z
  obtain⟨hn,f,hf,z⟩:=z
  cases z
  exact QeO (hq.e g hf) (QgD hn)
 ·cases z⟩
def sRaiser:RuS:=⟨fun q c e=>match e with
 | .Raise .. => some sBad
 | _=>none,fun {q} hq {X c} g {e r} z=>by
 split at z
 ·cases z;exact QeM
 ·cases z⟩
def sIfr:RuS:=⟨fun q c e=>match e with
 | .If t a b _=>(q.t c t).bind fun ft=>(blkC q c a).bind fun fa=>(blkC q c b).bind fun fb=>some (sIf ft fa fb)
 | _=>none,fun {q} hq {X c} g {e r} z=>by
 split at z
 ·simp only[Option.bind_eq_some_iff]at z
  obtain⟨ft,ht,fa,ha,fb,hb,z⟩:=z
  cases z
  exact QeP (hq.t g ht) (QgJ hq g ha) (QgJ hq g hb)
 ·cases z⟩
def sWhiler:RuS:=⟨fun q c e=>match e with
 | .While t a [] _=>(q.t c t).bind fun ft=>(blkC q c a).bind fun fa=>some (sWhile ft fa)
 | _=>none,fun {q} hq {X c} g {e r} z=>by
 split at z
 ·simp only[Option.bind_eq_some_iff]at z
  obtain⟨ft,ht,fa,ha,z⟩:=z
  cases z
  exact Qf2 g.ps (hq.t g ht) (QgJ hq g ha)
 ·cases z⟩
def sForr:RuS:=⟨fun q c e=>match e with
 | .For tg it a [] _=>if nsE it=true then (q.i c tg it).bind fun fi=>(q.g c tg).bind fun fg=>(blkC q c a).bind fun fa=>some (sFor fi fg fa) else none
 | _=>none,fun {q} hq {X c} g {e r} z=>by
 split at z
 ·simp only[Option.ite_none_right_eq_some,Option.bind_eq_some_iff]at z
  obtain⟨hn,fi,hi,fg,hg,fa,ha,z⟩:=z
  cases z
  exact Qe4 g.ps g.S.calm (hq.i g hi) (hq.g g hg) (QgJ hq g ha) (QgE hn)
 ·cases z⟩
def sNmr:RuS:=⟨fun q c e=>match e with
 | .Assign [.Name x _] a _=>if ncE a=true\/(c.top=true/\c.sc.names.lookup x=some .cell) then (tgC c x).bind fun i=>(q.e c a).bind fun f=>some (sAsg (gVar i) f) else none
 | _=>none,fun {q} hq {X c} g {e r} z=>by
 split at z
 ·simp only[Option.ite_none_right_eq_some,Option.bind_eq_some_iff]at z
  obtain⟨hn,i,hi,f,hf,z⟩:=z
  cases z
  obtain⟨h1,k,h2,h3⟩:=QgO g hi
  refine Qgk g.S _ g.nd h1 h2 (hq.e g hf) h3 ?_
  rcases hn with hn | ⟨ht,hc⟩
  ·exact QgD hn
  ·rename_i x p a s
   have e:(X.env.kindOf x == some NameKind.local)=false:=by rw[(g.kd ht).2 x,hc];rfl
   cases a<;>first | rfl | (unfold swapsWith;simp only[e,Bool.and_false,Bool.false_and])
 ·cases z⟩
theorem QgQ {X : Cx} {c : RC} (g : Good X c) {e : Expr} {gs : List Comprehension} {sc : Scope} {p p' : Pos} {y : Str} {n : Nat} (ht : c.top = true) (hl : c.sc.names.lookup y = some .local) (hp : (p'.line == p.line) = true) (ha : (sc.names.any fun z => z.1 == y && (z.2 == .local || z.2 == .cell)) = false) :
  swapsWith (.ListComp e gs sc p) (some (.Name y p')) n X.env=pure true:=by
 have e1:(X.env.kindOf y == some NameKind.local)=true:=by rw[(g.kd ht).2 y,hl];rfl
 have e2:(X.env.blockKind == ScopeKind.function)=true:=by rw[(g.kd ht).1];rfl
 show (pure (X.env.blockKind == ScopeKind.function && X.env.kindOf y == some NameKind.local && p'.line == p.line && !(sc.names.any fun z=>z.1 == y && (z.2 == .local || z.2 == .cell))):Sem Bool)=pure true
 rw[e1,e2,hp,ha]
 rfl
def sCompr:RuS:=⟨fun q c s=>match s with
 | .Assign [.Name y p'] (.ListComp e gs sc p) _ => if c.top = true /\ c.sc.names.lookup y = some .local /\ (p'.line == p.line) = true /\ (sc.names.any fun z => z.1 == y && (z.2 == .local || z.2 == .cell)) = false then
   (tgC c y).bind fun i=>(cmpC q c (.ListComp e gs sc p)).bind fun r=>some (sAsg (gVar i) (cKeep (aComp r.1 r.2.1 r.2.2.1 r.2.2.2.1 r.2.2.2.2.1 r.2.2.2.2.2))) else none
 | _=>none,fun {q} hq {X c} g {s r} z=>by
 split at z
 ·simp only[Option.ite_none_right_eq_some,Option.bind_eq_some_iff]at z
  obtain⟨⟨ht,hl,hp,ha⟩,i,hi,w,hw,z⟩:=z
  cases z
  obtain⟨h1,k,h2,h3⟩:=QgO g hi
  unfold cmpC at hw
  split at hw
  ·rename_i he
   cases he
   simp only[Option.ite_none_right_eq_some,Option.bind_eq_some_iff]at hw
   obtain⟨hk,ci,hi',gg,hg,t,ht',f,hf,z⟩:=hw
   cases z
   refine Qfa g.nd h1 (g.S.loc _ _ h2 h3).1 (g.S.loc _ _ h2 h3).2 g.S.calm (Qgg g.S hk.1) (Qgh g.N hk.2.1) (hq.i g hi') (fun fp s H=>⟨hq.g (g.inn hk fp s H) hg,QgL hq (g.inn hk fp s H) ht',hq.e (g.inn hk fp s H) hf⟩) ?_ (QgE hk.2.2.2)
   exact QgQ g ht hl hp ha
  ·cases hw
 ·cases z⟩
def sSubr:RuS:=⟨fun q c s=>match s with
 | .Assign [.Subscript o i p] a _=>(q.e c a).bind fun f=>(q.g c (.Subscript o i p)).bind fun h=>some (sAsg h f)
 | _=>none,fun {q} hq {X c} g {s r} z=>by
 split at z
 ·simp only[Option.bind_eq_some_iff]at z
  obtain⟨f,hf,h,hh,z⟩:=z
  cases z
  rename_i o i p a s
  exact QeT (hq.e g hf) (hq.g g hh) (by cases a<;>rfl) (by cases a<;>rfl) rfl
 ·cases z⟩
def ntE:Expr->Bool
 | .Tuple _ _ _=>false
 | _=>true
def sTupr:RuS:=⟨fun q c s=>match s with
 | .Assign [.Tuple es k p] a _=>if ntE a=true then (q.e c a).bind fun f=>(q.g c (.Tuple es k p)).bind fun h=>some (sAsg h f) else none
 | _=>none,fun {q} hq {X c} g {s r} z=>by
 split at z
 ·simp only[Option.ite_none_right_eq_some,Option.bind_eq_some_iff]at z
  obtain⟨hn,f,hf,h,hh,z⟩:=z
  cases z
  rename_i o i p a s
  exact QeT (hq.e g hf) (hq.g g hh) (by cases a<;>rfl) (by cases a<;>first | rfl | exact nomatch hn) rfl
 ·cases z⟩
section
variable {P:Program}{w:World}{K:PySem.W.Frag}{mg:Str->Option Value}{base:Heap}
variable (P w K mg base) in
def EnvOk (l:List (Str × RF)):Prop:=∀ x r,l.lookup x=some r->GF P w K mg base x r
theorem QgR:EnvOk P w K mg base []:=fun _ _ h=>nomatch h
theorem QgS {l : List (Str × RF)} {x : Str} {r : RF} {f : Addr} {fd : FuncData} (m : mg x = some (.ref f)) (F : FnOk P w K mg base CX0 r.k f fd r.ps (spOf K r.n r.g)) (kp : PySem.W.keepIn K (.ref f) = true) (b : Binds K fd r.ps []) (kb : r.kw = true -> KwBinds K fd r.ps) (h : EnvOk P w K mg base l) :
  EnvOk P w K mg base ((x,r)::l):=fun y s z=>by
 by_cases e:y=x
 ·subst e
  rw[List.lookup_cons_self]at z
  cases z
  exact⟨f,fd,m,F,kp,b,kb⟩
 ·rw[QdQ e]at z
  exact h y s z
theorem QgT (R : Rules) (j : Nat) {x qual : Str} {sd : Stmt} {f : Addr} {fd : FuncData} {N ps : List Str} {k n m : Nat} {body : CS} {G : List (Str × RF)} {Z : List Str} {C : List (Str × D)} {H : List (Nat × Nat × Nat)} (F : Fun K x qual sd f fd) (S : FnScope N ps (defScope sd)) (hn : ps.length = n) (hm : N.length = m)
  (hG:EnvOk P w K mg base G) (hZ:∀ x,Z.contains x=true->mg x=none) (hC:∀ x d,C.lookup x=some d->∃ v u,mg x=some u/\RelV v u/\∀ ρ H,Rep K ρ H v d)
  (hb:blkC (recN R j) ⟨defScope sd,N,k,G,Z,C,H,true⟩ (defBody sd)=some body):FnOk P w K mg base CX0 (k + 1) f fd ps (spOf K n (runDef m body)):=
 Qgp F S hn hm fun cdv A outer s Hp E hr=>QgJ (c:=⟨defScope sd,N,k,G,Z,C,H,true⟩) (Qgz R j) ⟨Qge,rfl,S.nd,hr,hG,hZ,hC,PassesOwn.never,fun _=>⟨by show (if (defScope sd).kind.isAnnotationScope=true then _ else (defScope sd).kind)=_;rw[S.kind];rfl,fun _=>rfl⟩⟩ hb
end
end
section
variable {K:PySem.W.Frag}{mg:Str->Option Value}
def ZOk (mg:Str->Option Value) (Z:List Str):Prop:=∀ x,Z.contains x=true->mg x=none
theorem z_nil:ZOk mg []:=fun _ h=>nomatch h
theorem z_cons {a:Str}{l:List Str} (h:mg a=none) (t:ZOk mg l):ZOk mg (a::l):=fun x z=>by
 rw[List.contains_cons,Bool.or_eq_true]at z
 rcases z with z | z
 ·rw[beq_iff_eq.mp z];exact h
 ·exact t x z
def COk (K:PySem.W.Frag) (mg:Str->Option Value) (C:List (Str × D)):Prop:=∀ x d,C.lookup x=some d->∃ v u,mg x=some u/\RelV v u/\∀ ρ H,Rep K ρ H v d
theorem c_nil:COk K mg []:=fun _ _ h=>nomatch h
end
section
theorem QgU {x:Str} (h:nokB x=true):x≠"__name__":=(Qgx h).n
def bMaxT:RuE:=bltTmp "max" maxD fun c g m a s=>Qfd (Qft c) g m (by nofun) a (QgU (by nofun)) (by nofun) s
def bAllT:RuE:=bltTmp "all" allD fun c g m a s=>Qfd (Qfs c) g m (by nofun) a (QgU (by nofun)) (by nofun) s
def bTupT:RuE:=bltTmp "tuple" tupL fun _ g m a s=>Qfe Qfk g m (by nofun) a (QgU (by nofun)) (by nofun) s
abbrev noTag:RC->Pos->Bool:=fun _ _=>true
def bLen:RuE:=blt1 "len" noTag lenD fun _ g m a s=>Qfb Qfh g m (by nofun) a (QgU (by nofun)) (by nofun) s
def bInt:RuE:=blt1 "int" noTag intD fun _ g m a s=>Qfc Qfi g m (by nofun) a (QgU (by nofun)) (by nofun) s
def bTuple:RuE:=blt1 "tuple" noTag tupleD fun _ g m a s=>Qfc Qfj g m (by nofun) a (QgU (by nofun)) (by nofun) s
def bList:RuE:=blt1 "list" noTag listD fun _ g m a s=>Qfc QfY g m (by nofun) a (QgU (by nofun)) (by nofun) s
def bMax2:RuE:=blt2 "max" max2D fun c g m a b s1 s2 s3=>QfZ (Qf0 c) g m (by nofun) a b (QgU (by nofun)) (by nofun) s1 s2 s3
def mAppend:RuE:=meth1 "append" cAppend noTag fun _ o a b f l s p=>QfF o a b f l s p
def mPop:RuE:=meth0 "pop" cPop fun o b l=>Qf1 o b l
end
section
def rListRng:RuE:=⟨fun q c e=>match e with
 | .Call (.Name x _) [.Call (.Name y _) [a] [] _] [] _=>if x=Str.ofString "list"/\y=Str.ofString "range"/\c.bl x=true/\c.bl y=true/\plE a=true then (q.e c a).bind fun fa=>some (c1 listRngD fa) else none
 | _=>none,fun {q} hq {X c} g {e r} z=>by
 split at z
 ·simp only[Option.ite_none_right_eq_some,Option.bind_eq_some_iff]at z
  obtain⟨⟨rfl,rfl,h1,h2,hp⟩,fa,ha,z⟩:=z
  cases z
  exact Qgw g.S.calm (g.gl h1).1 (g.gl h1).2 (g.gl h2).1 (g.gl h2).2 (hq.e g ha) (QgA hp) rfl
 ·cases z⟩
end
section
variable {P:Program}{w:World}{K:PySem.W.Frag}{mg:Str->Option Value}{base:Heap}
def FnAt (K:PySem.W.Frag) (mg:Str->Option Value) (x:Str) (sd:Stmt):Prop:=∃ a fd,Fun K x x sd a fd/\mg x=some (.ref a)
theorem fnat {h : Heap} {x : Str} {sd : Stmt} {f : Addr} {od an : Option Addr} {sl : Array (Option Value)} {oc kV dc pm cd ct : Value} (X : K.In h) (G : h.Ns mainGlobals mg) (a : PySem.W.nsIn K mainGlobals x = some (some (.ref f)))
  (l:K.lookup f=some ⟨oc,od,.func (PySem.W.fnOf x x (defArgs sd) (defBody sd) (defScope sd) .none kV dc pm an cd ct),sl⟩) (c:PySem.W.codeIn K cd x=true) (k:PySem.W.keepIn K (.ref f)=true):FnAt K mg x sd:=
 ⟨f,_,QcI (st:=sd) l c k,PySem.W.mg_of X G a⟩
def fscB (N P:List Str) (sc:Scope):Bool:=(sc.kind == .function) && (sc.isCoroutine == false) && (sc.isGenerator == false) && decide N.Nodup && (N.take P.length == P) && (P.all fun x=>sc.names.lookup x == some .local || sc.names.lookup x == some .cell) && (sc.names.all fun y=>y.2 != .free)
theorem QgV {N P:List Str}{sc:Scope} (h:fscB N P sc=true):FnScope N P sc:=by
 unfold fscB at h
 simp only[Bool.and_eq_true,beq_iff_eq,decide_eq_true_eq,List.all_eq_true,Bool.or_eq_true,bne_iff_ne,ne_eq]at h
 obtain⟨⟨⟨⟨⟨⟨h1,h2⟩,h3⟩,h4⟩,h5⟩,h6⟩,h7⟩:=h
 exact⟨h1,h2,h3,h4,h5,h6,h7⟩
theorem QgW (R : Rules) {r : List Str} {x : Str} {sd : Stmt} {f : Addr} {fd : FuncData} {ps : List Str} {k n m : Nat} {body : CS} {G : List (Str × RF)} {Z : List Str} {C : List (Str × D)} {H : List (Nat × Nat × Nat)} (F : Fun K x x sd f fd) (S : fscB (ps ++ r) ps (defScope sd) = true)
  (hb:blkC (recN R 40) ⟨defScope sd,ps++r,k,G,Z,C,H,true⟩ (defBody sd)=some body) (hG:EnvOk P w K mg base G) (hZ:ZOk mg Z) (hC:COk K mg C) (hn:ps.length=n) (hm:(ps++r).length=m):FnOk P w K mg base CX0 (k + 1) f fd ps (spOf K n (runDef m body)):=
 QgT R 40 F (QgV S) hn hm hG hZ hC hb
theorem QgX (R : Rules) {r : List Str} {x : Str} {sd : Stmt} {ps : List Str} {k n m : Nat} {kw : Bool} {body : CS} {G : List (Str × RF)} {Z : List Str} {C : List (Str × D)} {H : List (Nat × Nat × Nat)} (F : FnAt K mg x sd) (S : fscB (ps ++ r) ps (defScope sd) = true)
  (b:∀ (kV doc pm:Value) (an:Option Addr) (cdv ct:Value) (us:List Value),us.length=ps.length->bindArgs (PySem.W.fnOf x x (defArgs sd) (defBody sd) (defScope sd) .none kV doc pm an cdv ct) { pos:=us }=pure (ps.zip us))
  (kb:kw=true->∀ (kV doc pm:Value) (an:Option Addr) (cdv ct:Value) (s:Shared) (ws:List Value),ws.length=ps.length->BindsTo s (PySem.W.fnOf x x (defArgs sd) (defBody sd) (defScope sd) .none kV doc pm an cdv ct) ⟨[],ps.zip ws⟩ (ps.zip ws))
  (hb:blkC (recN R 40) ⟨defScope sd,ps++r,k,G,Z,C,H,true⟩ (defBody sd)=some body) (hG:EnvOk P w K mg base G) (hZ:ZOk mg Z) (hC:COk K mg C) (hn:ps.length=n:=by rfl) (hm:(ps++r).length=m:=by rfl):EnvOk P w K mg base ((x,⟨n,k + 1,ps,kw,runDef m body⟩)::G):=by
 obtain⟨f,fd,F,hm'⟩:=F
 refine QgS hm' (QgW R F S hb hG hZ hC hn hm) F.kp (F.binds b) (fun z=>?_) hG
 obtain⟨oc,od,kV,doc,pm,an,cdv,ct,osl,e,lk,hcd⟩:=F.ex
 intro s ws hl
 rw[e]
 exact kb z kV doc pm an cdv ct s ws hl
end
end MM
namespace PySem.SeqAt
open AutoSeq1 (wpAny_loadPart')
open MeetsSeq MeetsSeq2 MeetsSeq3 SeqRoads2
end PySem.SeqAt
namespace MM
open PySem PySem.Spec PyProof.Rows L2 PySem.SeqAt
section
variable {A:Around}{s:Shared}
def IsPr (h:Heap) (v:Value) (p:Int × List Int):Prop:=∃ a t b xs,v=.ref a/\h.IsTuple a #[.int p.1 t,.ref b]/\h.IsTuple b xs/\IntsAre xs.toList p.2
end
end MM
namespace MM
open PySem PySem.Spec PyProof.Rows L2
section
def sTupCell:RuS:=⟨fun q c s=>match s with
 | .Assign [.Tuple [.Name x p1,.Name y p2] k p] (.Tuple vs k2 p3) _=>if c.top=true/\c.sc.names.lookup x=some .cell/\c.sc.names.lookup y=some .cell then (q.e c (.Tuple vs k2 p3)).bind fun f=>(q.g c (.Tuple [.Name x p1,.Name y p2] k p)).bind fun h=>some (sAsg h f) else none
 | _=>none,fun {q} hq {X c} g {s r} z=>by
 split at z
 ·simp only[Option.ite_none_right_eq_some,Option.bind_eq_some_iff]at z
  obtain⟨⟨ht,hx,hy⟩,f,hf,h,hh,z⟩:=z
  cases z
  rename_i x p1 y p2 k p vs k2 p3 s
  have e1:(X.env.kindOf x == some NameKind.local)=false:=by rw[(g.kd ht).2 x,hx];rfl
  have e2:(X.env.kindOf y == some NameKind.local)=false:=by rw[(g.kd ht).2 y,hy];rfl
  refine QeT (hq.e g hf) (hq.g g hh) rfl ?_ rfl
  unfold swappedStores
  simp only[e1,e2,List.filterMap,Bool.false_and,Bool.false_eq_true,if_false]
  simp only[pure_bind,List.length_nil,List.length_cons]
  split
  ·rfl
  ·split
   ·rfl
   ·rfl
 ·cases z⟩
end
end MM
namespace MM
open PySem
abbrev At {α:Type} (_:α->Sto->Prop):Type:=Sto
inductive wp {α:Type} (m:M α) (Q:α->Sto->Prop) (s:At Q):Prop
 | intro (a:α) (s':Sto) (h:m s=.ok a s') (q:Q a s'):wp m Q s
theorem QgZ {α:Type}{m:M α}{Q:α->Sto->Prop}{s:Sto}:wp m Q s=(match m s with
 | .ok a s'=>Q a s'
 | _=>False):=by
 apply propext
 constructor
 ·rintro ⟨a,s',h,q⟩;rw[h];exact q
 ·intro h
  cases e:m s with
  | ok a s'=>rw[e]at h;exact⟨a,s',e,h⟩
  | exc _ _=>rw[e]at h;exact h.elim
  | bad=>rw[e]at h;exact h.elim
section
variable {α β:Type}{Q:α->Sto->Prop}{s:Sto}
theorem wp_eq {m:M α}{a:α}{s':Sto} (h:m s=.ok a s'):wp m Q s=Q a s':=by rw[QgZ,h]
theorem wp_no {m:M α} (h:m s=.bad):wp m Q s=False:=by rw[QgZ,h]
theorem wp_cg {m:M β}{Q Q':β->Sto->Prop}{s:Sto} (h:∀ a s',Q a s'=Q' a s'):wp m Q s=wp m Q' s:=by
 rw[show Q=Q' from funext fun a=>funext fun t=>h a t]
theorem wp_ret {a:α}:wp (ret a) Q s=Q a s:=wp_eq rfl
theorem wp_bad:wp (bad:M α) Q s=False:=wp_no rfl
theorem Qg0 {m:M β}{f:β->M α}:wp (bnd m f) Q s=wp m (fun a s'=>wp (f a) Q s') s:=by
 simp only[QgZ]
 unfold bnd
 cases m s<;>rfl
theorem wp_chk {c:Prop} [Decidable c] {m:M α}:wp (chk c m) Q s=(c/\wp m Q s):=by
 unfold chk
 by_cases h:c
 ·simp[h]
 ·simp[h,wp_bad]
theorem wp_alloc {o:MO}{Q:D->Sto->Prop}:wp (alloc o) Q s=Q (.ref s.length) (s++[o]):=wp_eq rfl
theorem Qg1 {n:Nat}{ds:List D}{Q:List D->Sto->Prop} (h:s[n]?=some (.lst ds)):wp (getL n) Q s=Q ds s:=by
 rw[QgZ];unfold getL;rw[h]
theorem Qg2 {n:Nat}{ds es:List D}{Q:Unit->Sto->Prop} (h:s[n]?=some (.lst ds)):wp (putL n es) Q s=Q () (s.set n (.lst es)):=by
 rw[QgZ];unfold putL;rw[h]
theorem Qg3 {Q:Unit->Sto->Prop}:wp (chkS anySt) Q s=Q () s:=by
 rw[QgZ];unfold chkS anySt;simp
theorem Qg4 {m:M α}{Q':α->Sto->Prop} (h:wp m Q s) (f:∀ a s',Q a s'->Q' a s'):wp m Q' s:=by
 simp only[QgZ]at *
 cases e:m s with
 | ok a s'=>rw[e]at h;exact f a s' h
 | exc _ _=>rw[e]at h;exact h
 | bad=>rw[e]at h;exact h
theorem Qg5 {c:Prop} [Decidable c] {m n:M α}:wp (if c then m else n) Q s=if c then wp m Q s else wp n Q s:=by split<;>rfl
end
theorem Qg6 {ds:List D}{i:Int}{d:D} (h0:0<=i) (h:ds[i.toNat]?=some d):itemD ds i=ret d:=by
 have hl:i.toNat < ds.length:=(List.getElem?_eq_some_iff.mp h).1
 unfold itemD MM.ixN
 rw[if_pos h0,if_pos (by ac_nf)]
 dsimp only
 rw[h]
theorem wp_run {n:Nat}{b:CS}{ds:List D}{Q:D->Sto->Prop}{s:Sto}:wp (runDef n b ds) Q s=wp (b (ds.map some++List.replicate (n - ds.length) none)) (fun f s'=>wp (flwD f) Q s') s:=by
 unfold runDef;rw[Qg0]
theorem Qg7 {g : CG} {b : CS} {same : Sto -> Prop} {Q : Flw -> Sto -> Prop} (W : List D -> Loc -> Sto -> Prop)
  (hend:∀ l s,W [] l s->wp (chkS same) (fun _ s'=>Q (.next l) s') s)
  (hstep:∀ d ds l s,W (d::ds) l s->wp (chkS same) (fun _ s1=>wp (g d l) (fun l1 s2=>wp (b l1) (fun f s3=>match f with
   | .next l2=>W ds l2 s3
   | .cnt l2=>W ds l2 s3
   | .brk l2=>Q (.next l2) s3
   | .ret d=>Q (.ret d) s3) s2) s1) s):∀ ds l s,W ds l s->wp (forD g b same ds l) Q s:=by
 intro ds
 induction ds with
 | nil=>
  intro l s h
  unfold forD
  rw[Qg0]
  exact Qg4 (hend l s h) fun _ s' q=>by rw[wp_ret];exact q
 | cons d ds ih=>
  intro l s h
  unfold forD
  rw[Qg0]
  refine Qg4 (hstep d ds l s h) fun _ s1 q=>?_
  rw[Qg0]
  refine Qg4 q fun l1 s2 q=>?_
  rw[Qg0]
  refine Qg4 q fun f s3 q=>?_
  cases f with
  | next l2=>exact ih l2 s3 q
  | cnt l2=>exact ih l2 s3 q
  | brk l2=>show wp (ret _) _ _;rw[wp_ret];exact q
  | ret d=>show wp (ret _) _ _;rw[wp_ret];exact q
theorem Qg8 {g : CG} {t : CT} {e : CE} {same : Sto -> Prop} {Q : List D -> Sto -> Prop} (W : List D -> List D -> Loc -> Sto -> Prop)
  (hend:∀ out l s,W out [] l s->wp (chkS same) (fun _ s'=>Q out s') s)
  (hstep:∀ out d ds l s,W out (d::ds) l s->wp (chkS same) (fun _ s1=>wp (g d l) (fun l1 s2=>wp (t l1) (fun b s3=>if b=true then wp (e l1) (fun x s4=>W (out++[x]) ds l1 s4) s3 else W out ds l1 s3) s2) s1) s):
  ∀ ds out l s,W out ds l s->wp (collect g t e same ds l) (fun xs s'=>Q (out++xs) s') s:=by
 intro ds
 induction ds with
 | nil=>
  intro out l s h
  unfold collect
  rw[Qg0]
  exact Qg4 (hend out l s h) fun _ s' q=>by rw[wp_ret,List.append_nil];exact q
 | cons d ds ih=>
  intro out l s h
  unfold collect
  rw[Qg0]
  refine Qg4 (hstep out d ds l s h) fun _ s1 q=>?_
  rw[Qg0]
  refine Qg4 q fun l1 s2 q=>?_
  rw[Qg0]
  refine Qg4 q fun b s3 q=>?_
  cases b with
  | false=>exact ih out l1 s3 q
  | true=>
   show wp (bnd (e l1) _) _ s3
   rw[Qg0]
   refine Qg4 q fun x s4 q=>?_
   rw[Qg0]
   refine Qg4 (ih (out++[x]) l1 s4 q) fun xs s5 q=>?_
   rw[wp_ret]
   rw[List.append_assoc]at q
   exact q
theorem Qg9 {n i:Nat} (h:i < n):(rngD 0 n)[i]?=some (.int i):=by
 unfold rngD
 rw[List.getElem?_map,List.getElem?_range h];simp
theorem Qha {n i:Nat}{d:D} (h:(rngD 0 n)[i]?=some d):i < n/\d=.int i:=by
 have hi:i < n:=by
  have:=(List.getElem?_eq_some_iff.mp h).1
  simpa [rngD] using this
 rw[Qg9 hi]at h;cases h
 exact⟨hi,rfl⟩
theorem Qhb (n:Nat):(rngD 0 n).length=n:=by simp[rngD]
theorem Qhc {n:Nat} (h:n<=1000):n<=lim:=Nat.le_trans h (by decide)
theorem Qhd {n:Nat} (h:n<=1000):n < lim:=Nat.lt_of_le_of_lt h (by decide)
theorem Qhe {g : CG} {b : CS} {same : Sto -> Prop} {xs : List D} {l : Loc} {s : Sto} {Q : Flw -> Sto -> Prop} (W : Nat -> Loc -> Sto -> Prop) (hs : ∀ i l s, W i l s -> same s) (h0 : W 0 l s)
  (hstep:∀ (i:Nat) d l s,xs[i]?=some d->W i l s->wp (g d l) (fun l1 s2=>wp (b l1) (fun f s3=>match f with
   | .next l2=>W (i + 1) l2 s3
   | .cnt l2=>W (i + 1) l2 s3
   | .brk l2=>Q (.next l2) s3
   | .ret d=>Q (.ret d) s3) s2) s) (hend:∀ l s,W xs.length l s->Q (.next l) s):wp (forD g b same xs l) Q s:=by
 have chk:∀ {s:Sto}{R:Unit->Sto->Prop},same s->R () s->wp (chkS same) R s:=fun h r=>by rw[QgZ];unfold chkS;rw[if_pos h];exact r
 refine Qg7 (fun ds l s=>∃ i,ds=xs.drop i/\i<=xs.length/\W i l s) (fun l s ⟨i,e1,hi,w⟩=>?_) (fun d ds l s ⟨i,e1,hi,w⟩=>?_) xs l s ⟨0,by simp,Nat.zero_le _,h0⟩
 ·have : i = xs.length := by
    have:=congrArg List.length e1
    simp at this;ac_nf
  subst this
  exact chk (hs _ _ _ w) (hend l s w)
 ·have hlt : i < xs.length := by
    have:=congrArg List.length e1
    simp at this;ac_nf
  rw[List.drop_eq_getElem_cons hlt]at e1
  obtain⟨e2,e3⟩:=List.cons.inj e1
  refine chk (hs _ _ _ w) ?_
  refine Qg4 (hstep i d l s (by rw[e2];exact List.getElem?_eq_getElem hlt) w) fun l1 s2 q=>Qg4 q fun f s3 q=>?_
  cases f with
  | next l2=>exact⟨i + 1,e3,hlt,q⟩
  | cnt l2=>exact⟨i + 1,e3,hlt,q⟩
  | brk l2=>exact q
  | ret d=>exact q
end MM
local macro_rules | `(tactic| bv_omega)=>`(tactic| first | rfl | exact MM.wp_eq rfl | exact MM.wp_no rfl)
local macro_rules | `(tactic| ac_rfl)=>`(tactic| first | rfl | simp only[MM.wp_ret,MM.wp_alloc,MM.wp_bad] | (refine MM.wp_cg fun _ _=>?_;simp only[MM.wp_ret,MM.wp_alloc,MM.wp_bad]))
namespace MM
open PySem
theorem nr {α:Sort u}{a b:α} (h:a=b):a=b:=h
section
variable {Q:D->Sto->Prop}{R:Flw->Sto->Prop}{T:Bool->Sto->Prop}{A:List D->Sto->Prop}{G:Loc->Sto->Prop}{I:Wk->Sto->Prop}{s:Sto}{l:Loc}
theorem x_seq {a b : CS} : wp (sSeq a b l) R s = wp (a l) (fun f s' => match f with
  | .next l'=>wp (b l') R s'
  | .ret d=>R (.ret d) s'
  | .brk l'=>R (.brk l') s'
  | .cnt l'=>R (.cnt l') s') s:=by
 unfold sSeq;rw[Qg0];congr 1;funext f s';cases f<;>first | bv_omega
theorem x_next:wp (sNext l) R s=R (.next l) s:=wp_eq rfl
theorem x_asg {g:CG}{a:CE}:wp (sAsg g a l) R s=wp (a l) (fun d s'=>wp (g d l) (fun l' s''=>R (.next l') s'') s') s:=by
 unfold sAsg;rw[Qg0];congr 1;funext d s';rw[Qg0];ac_rfl
theorem x_ret {a:CE}:wp (sRet a l) R s=wp (a l) (fun d s'=>R (.ret d) s') s:=by
 unfold sRet;rw[Qg0];ac_rfl
theorem x_exp {a:CE}:wp (sExp a l) R s=wp (a l) (fun d s'=>R (.next l) s') s:=by
 unfold sExp;rw[Qg0];ac_rfl
theorem x_if {t:CT}{a b:CS}:wp (sIf t a b l) R s=wp (t l) (fun c s'=>if c=true then wp (a l) R s' else wp (b l) R s') s:=by
 unfold sIf;rw[Qg0];congr 1;funext c s';rw[Qg5]
theorem x_cmp {a : CE} : wp (tCmpB a l) T s = wp (a l) (fun x s' => match x with
  | .bl b=>T b s'
  | _=>False) s:=by
 unfold tCmpB;rw[Qg0];congr 1;funext x s';cases x<;>first | bv_omega
theorem x_val {a:CE}:wp (tVal a l) T s=wp (a l) (fun x s'=>wp (truD x) T s') s:=by unfold tVal;rw[Qg0]
theorem x_not {a:CT}:wp (tNotB a l) T s=wp (a l) (fun x s'=>T (!x) s') s:=by unfold tNotB;rw[Qg0];ac_rfl
theorem x_and {a b:CT}:wp (tAndB a b l) T s=wp (a l) (fun c s'=>if c=true then wp (b l) T s' else T false s') s:=by
 unfold tAndB;rw[Qg0];congr 1;funext c s';rw[Qg5];ac_rfl
theorem x_or {a b:CT}:wp (tOrB a b l) T s=wp (a l) (fun c s'=>if c=true then T true s' else wp (b l) T s') s:=by
 unfold tOrB;rw[Qg0];congr 1;funext c s';rw[Qg5];ac_rfl
theorem x_gvar {i:Nat}{d:D}:wp (gVar i d l) G s=G (l.set i (some d)) s:=wp_eq rfl
theorem x_g0 {d:D}{b:Option D}{r:Loc}{Q:Loc->Sto->Prop}:wp (gVar 0 d (b::r)) Q s=Q (some d::r) s:=x_gvar
theorem x_g1 {a0:Option D}{d:D}{b:Option D}{r:Loc}{Q:Loc->Sto->Prop}:wp (gVar 1 d (a0::b::r)) Q s=Q (a0::some d::r) s:=x_gvar
theorem x_g2 {a0 a1:Option D}{d:D}{b:Option D}{r:Loc}{Q:Loc->Sto->Prop}:wp (gVar 2 d (a0::a1::b::r)) Q s=Q (a0::a1::some d::r) s:=x_gvar
theorem x_g3 {a0 a1 a2:Option D}{d:D}{b:Option D}{r:Loc}{Q:Loc->Sto->Prop}:wp (gVar 3 d (a0::a1::a2::b::r)) Q s=Q (a0::a1::a2::some d::r) s:=x_gvar
theorem x_g4 {a0 a1 a2 a3:Option D}{d:D}{b:Option D}{r:Loc}{Q:Loc->Sto->Prop}:wp (gVar 4 d (a0::a1::a2::a3::b::r)) Q s=Q (a0::a1::a2::a3::some d::r) s:=x_gvar
theorem x_g5 {a0 a1 a2 a3 a4:Option D}{d:D}{b:Option D}{r:Loc}{Q:Loc->Sto->Prop}:wp (gVar 5 d (a0::a1::a2::a3::a4::b::r)) Q s=Q (a0::a1::a2::a3::a4::some d::r) s:=x_gvar
theorem x_g6 {a0 a1 a2 a3 a4 a5:Option D}{d:D}{b:Option D}{r:Loc}{Q:Loc->Sto->Prop}:wp (gVar 6 d (a0::a1::a2::a3::a4::a5::b::r)) Q s=Q (a0::a1::a2::a3::a4::a5::some d::r) s:=x_gvar
theorem x_g7 {a0 a1 a2 a3 a4 a5 a6:Option D}{d:D}{b:Option D}{r:Loc}{Q:Loc->Sto->Prop}:wp (gVar 7 d (a0::a1::a2::a3::a4::a5::a6::b::r)) Q s=Q (a0::a1::a2::a3::a4::a5::a6::some d::r) s:=x_gvar
theorem x_g8 {a0 a1 a2 a3 a4 a5 a6 a7:Option D}{d:D}{b:Option D}{r:Loc}{Q:Loc->Sto->Prop}:wp (gVar 8 d (a0::a1::a2::a3::a4::a5::a6::a7::b::r)) Q s=Q (a0::a1::a2::a3::a4::a5::a6::a7::some d::r) s:=x_gvar
theorem x_g9 {a0 a1 a2 a3 a4 a5 a6 a7 a8:Option D}{d:D}{b:Option D}{r:Loc}{Q:Loc->Sto->Prop}:wp (gVar 9 d (a0::a1::a2::a3::a4::a5::a6::a7::a8::b::r)) Q s=Q (a0::a1::a2::a3::a4::a5::a6::a7::a8::some d::r) s:=x_gvar
theorem x_g10 {a0 a1 a2 a3 a4 a5 a6 a7 a8 a9:Option D}{d:D}{b:Option D}{r:Loc}{Q:Loc->Sto->Prop}:wp (gVar 10 d (a0::a1::a2::a3::a4::a5::a6::a7::a8::a9::b::r)) Q s=Q (a0::a1::a2::a3::a4::a5::a6::a7::a8::a9::some d::r) s:=x_gvar
theorem x_gsub {o i:CE}{d:D}:wp (gSubD o i d l) G s=wp (o l) (fun y s1=>wp (i l) (fun z s2=>wp (setItemD y z d) (fun _ s3=>G l s3) s2) s1) s:=by
 unfold gSubD;rw[Qg0];congr 1;funext y s1;rw[Qg0];congr 1;funext z s2;rw[Qg0];ac_rfl
theorem x_var {i : Nat} : wp (cVar i l) Q s = match l[i]? with
  | some (some d)=>Q d s
  | _=>False:=by
 unfold cVar;rcases l[i]? with _ | _ | d<;>first | bv_omega
theorem x_v0 {d:D}{r:Loc}:wp (cVar 0 (some d::r)) Q s=Q d s:=x_var
theorem x_v1 {a0:Option D}{d:D}{r:Loc}:wp (cVar 1 (a0::some d::r)) Q s=Q d s:=x_var
theorem x_v2 {a0 a1:Option D}{d:D}{r:Loc}:wp (cVar 2 (a0::a1::some d::r)) Q s=Q d s:=x_var
theorem x_v3 {a0 a1 a2:Option D}{d:D}{r:Loc}:wp (cVar 3 (a0::a1::a2::some d::r)) Q s=Q d s:=x_var
theorem x_v4 {a0 a1 a2 a3:Option D}{d:D}{r:Loc}:wp (cVar 4 (a0::a1::a2::a3::some d::r)) Q s=Q d s:=x_var
theorem x_v5 {a0 a1 a2 a3 a4:Option D}{d:D}{r:Loc}:wp (cVar 5 (a0::a1::a2::a3::a4::some d::r)) Q s=Q d s:=x_var
theorem x_v6 {a0 a1 a2 a3 a4 a5:Option D}{d:D}{r:Loc}:wp (cVar 6 (a0::a1::a2::a3::a4::a5::some d::r)) Q s=Q d s:=x_var
theorem x_v7 {a0 a1 a2 a3 a4 a5 a6:Option D}{d:D}{r:Loc}:wp (cVar 7 (a0::a1::a2::a3::a4::a5::a6::some d::r)) Q s=Q d s:=x_var
theorem x_v8 {a0 a1 a2 a3 a4 a5 a6 a7:Option D}{d:D}{r:Loc}:wp (cVar 8 (a0::a1::a2::a3::a4::a5::a6::a7::some d::r)) Q s=Q d s:=x_var
theorem x_v9 {a0 a1 a2 a3 a4 a5 a6 a7 a8:Option D}{d:D}{r:Loc}:wp (cVar 9 (a0::a1::a2::a3::a4::a5::a6::a7::a8::some d::r)) Q s=Q d s:=x_var
theorem x_v10 {a0 a1 a2 a3 a4 a5 a6 a7 a8 a9:Option D}{d:D}{r:Loc}:wp (cVar 10 (a0::a1::a2::a3::a4::a5::a6::a7::a8::a9::some d::r)) Q s=Q d s:=x_var
theorem x_con {d:D}:wp (cCon d l) Q s=Q d s:=wp_eq rfl
theorem x_c1 {g:D->M D}{a:CE}:wp (c1 g a l) Q s=wp (a l) (fun x s'=>wp (g x) Q s') s:=by unfold c1;rw[Qg0]
theorem x_c2 {g:D->D->M D}{a b:CE}:wp (c2 g a b l) Q s=wp (a l) (fun x s'=>wp (b l) (fun y s''=>wp (g x y) Q s'') s') s:=by
 unfold c2;rw[Qg0];congr 1;funext x s';rw[Qg0]
theorem x_call {g:List D->M D}{a:CA}:wp (cCall g a l) Q s=wp (a l) (fun x s'=>wp (g x) Q s') s:=by unfold cCall;rw[Qg0]
theorem x_nil:wp (cNil l) A s=A [] s:=wp_eq rfl
theorem x_cons {a:CE}{r:CA}:wp (cCons a r l) A s=wp (a l) (fun x s'=>wp (r l) (fun xs s''=>A (x::xs) s'') s') s:=by
 unfold cCons;rw[Qg0];congr 1;funext x s';rw[Qg0];ac_rfl
theorem x_tup {a:CA}:wp (cTup a l) Q s=wp (a l) (fun xs s'=>xs.length<=lim/\Q (.tup xs) s') s:=by
 unfold cTup;rw[Qg0];congr 1;funext x s';rw[wp_chk];ac_rfl
theorem x_disp {a:CA}:wp (aDisp a l) A s=wp (a l) (fun xs s'=>xs.length<=lim/\A xs s') s:=by
 unfold aDisp;rw[Qg0];congr 1;funext x s';rw[wp_chk];ac_rfl
theorem x_keep {a:CA}:wp (cKeep a l) Q s=wp (a l) (fun xs s'=>Q (.ref s'.length) (s'++[.lst xs])) s:=by
 unfold cKeep;rw[Qg0];ac_rfl
theorem x_tmp {g:List D->M D}{a:CA}:wp (cTmp g a l) Q s=wp (a l) (fun x s'=>wp (g x) Q s') s:=by unfold cTmp;rw[Qg0]
theorem x_comp {n:Nat}{caps:List Nat}{i:CI}{g:CG}{t:CT}{e:CE}:wp (aComp n caps i g t e l) A s=wp (i l) (fun w s'=>w.ds.length<=lim/\wp (collect g t e w.same w.ds (capt n caps l)) A s') s:=by
 unfold aComp;rw[Qg0];congr 1;funext x s';rw[wp_chk]
theorem x_for {i:CI}{g:CG}{b:CS}:wp (sFor i g b l) R s=wp (i l) (fun w s'=>wp (forD g b w.same w.ds l) R s') s:=by
 unfold sFor;rw[Qg0]
theorem x_rng {a : CE} : wp (MM.iRng1 a l) I s = wp (a l) (fun x s' => match x with
  | .int j=>(-(2 ^ 62)<=j/\j < 2 ^ 62)/\I ⟨rngD 0 j.toNat,anySt⟩ s'
  | _=>False) s:=by
 unfold MM.iRng1;rw[Qg0];congr 1;funext x s';cases x<;>first | bv_omega | (dsimp only;rw[wp_chk];ac_rfl)
theorem x_iseq {a : CE} : wp (iSeq a l) I s = wp (a l) (fun x s' => match x with
  | .tup ds=>I ⟨ds,anySt⟩ s'
  | .lit ds=>I ⟨ds,anySt⟩ s'
  | .ref n=>wp (getL n) (fun ds s''=>I ⟨ds,sameL n ds⟩ s'') s'
  | _=>False) s:=by
 unfold iSeq;rw[Qg0];congr 1;funext x s';cases x<;>first | bv_omega | (dsimp only;rw[Qg0];ac_rfl)
theorem x_add {i j:Int}:wp (addD (.int i) (.int j)) Q s=Q (.int (i + j)) s:=wp_eq rfl
theorem x_sub {i j:Int}:wp (subD (.int i) (.int j)) Q s=Q (.int (i - j)) s:=wp_eq rfl
theorem x_mul {i j:Int}:wp (mulD (.int i) (.int j)) Q s=(mulOk i j/\Q (.int (i * j)) s):=by unfold mulD;rw[wp_chk];ac_rfl
theorem x_div {i j:Int}:wp (fdivD (.int i) (.int j)) Q s=((0 < j/\j < 1073741824)/\Q (.int (i / j)) s):=by unfold fdivD;rw[wp_chk];ac_rfl
theorem x_mod {i j:Int}:wp (modD (.int i) (.int j)) Q s=(0 < j/\Q (.int (i % j)) s):=by unfold modD;rw[wp_chk];ac_rfl
theorem x_lt {i j:Int}:wp (ltD (.int i) (.int j)) Q s=Q (.bl (decide (i < j))) s:=wp_eq rfl
theorem x_le {i j:Int}:wp (leD (.int i) (.int j)) Q s=Q (.bl (decide (i<=j))) s:=wp_eq rfl
theorem x_gt {i j:Int}:wp (gtD (.int i) (.int j)) Q s=Q (.bl (decide (j < i))) s:=wp_eq rfl
theorem x_ge {i j:Int}:wp (geD (.int i) (.int j)) Q s=Q (.bl (decide (j<=i))) s:=wp_eq rfl
theorem x_eq {i j:Int}:wp (eqD (.int i) (.int j)) Q s=Q (.bl (i == j)) s:=wp_eq rfl
theorem x_ne {i j:Int}:wp (neD (.int i) (.int j)) Q s=Q (.bl !(i == j)) s:=wp_eq rfl
theorem x_subsT {ds:List D}{i:Int}:wp (subsD (.tup ds) (.int i)) Q s=wp (itemD ds i) Q s:=nr rfl
theorem x_subsR {n:Nat}{i:Int}:wp (subsD (.ref n) (.int i)) Q s=wp (getL n) (fun ds s'=>wp (itemD ds i) Q s') s:=by
 unfold subsD;rw[Qg0]
theorem x_lenT {ds:List D}:wp (lenD (.tup ds)) Q s=Q (.int ds.length) s:=wp_eq rfl
theorem x_lenR {n:Nat}:wp (lenD (.ref n)) Q s=wp (getL n) (fun ds s'=>Q (.int ds.length) s') s:=by unfold lenD;rw[Qg0];ac_rfl
theorem x_intB {b:Bool}:wp (intD (.bl b)) Q s=Q (.int (if b then 1 else 0)) s:=wp_eq rfl
theorem x_setR {n : Nat} {i : Int} {v : D} {U : Unit -> Sto -> Prop} : wp (setItemD (.ref n) (.int i) v) U s = wp (getL n) (fun ds s' => wp (match MM.ixN ds.length i with
  | some j=>putL n (ds.set j v)
  | none=>bad) U s') s:=by
 unfold setItemD;rw[Qg0]<;>congr 1
theorem x_retF {d:D}:wp (flwD (.ret d)) Q s=Q d s:=wp_eq rfl
theorem x_nextF:wp (flwD (.next l)) Q s=Q .non s:=wp_eq rfl
end
theorem x_slice {a : CE} {lo hi : CO} {A : List D -> Sto -> Prop} {s : Sto} {l : Loc} : wp (aSlice a lo hi l) A s = wp (a l) (fun x s1 => wp (lo l) (fun i s2 => wp (hi l) (fun j s3 => match x with
  | .lit ds=>A (cutD ds i j) s3
  | .ref n=>wp (getL n) (fun ds s4=>A (cutD ds i j) s4) s3
  | _=>False) s2) s1) s:=by
 unfold aSlice;rw[Qg0];congr 1;funext x s1;rw[Qg0];congr 1;funext i s2;rw[Qg0];congr 1;funext j s3;cases x<;>first | bv_omega | (dsimp only;rw[Qg0];ac_rfl)
theorem x_none {A:Option Int->Sto->Prop}{s:Sto}{l:Loc}:wp (oNone l) A s=A none s:=wp_eq rfl
theorem x_some {a : CE} {A : Option Int -> Sto -> Prop} {s : Sto} {l : Loc} : wp (oSome a l) A s = wp (a l) (fun x s1 => match x with
  | .int i=>A (some i) s1
  | _=>False) s:=by
 unfold oSome;rw[Qg0];congr 1;funext x s1;cases x<;>first | bv_omega
theorem x_enum {a : CE} {I : Wk -> Sto -> Prop} {s : Sto} {l : Loc} : wp (iEnum a l) I s = wp (a l) (fun x s' => match x with
  | .tup ds=>I ⟨(rngD 0 ds.length).zipWith (fun i d=>.tup [i,d]) ds,anySt⟩ s'
  | _=>False) s:=by
 unfold iEnum;rw[Qg0];congr 1;funext x s';cases x<;>first | bv_omega
theorem x_gtup {n:Nat}{r:List D->Loc->M Loc}{ds:List D}{G:Loc->Sto->Prop}{s:Sto}{l:Loc}:wp (gTupD n r (.tup ds) l) G s=(ds.length=n/\wp (r ds l) G s):=by
 unfold gTupD;rw[wp_chk]
theorem x_gcons {g:CG}{r:List D->Loc->M Loc}{d:D}{ds:List D}{G:Loc->Sto->Prop}{s:Sto}{l:Loc}:wp (gsCons g r (d::ds) l) G s=wp (g d l) (fun l' s'=>wp (r ds l') G s') s:=by
 unfold gsCons;rw[Qg0]
theorem x_gnil {G:Loc->Sto->Prop}{s:Sto}{l:Loc}:wp (gsNil [] l) G s=G l s:=wp_eq rfl
theorem Qhf {ds:List D}{i:Nat}{d:D} (h:((rngD 0 ds.length).zipWith (fun i d=>D.tup [i,d]) ds)[i]?=some d):∃ x,ds[i]?=some x/\d=.tup [.int i,x]:=by
 rw[List.getElem?_zipWith]at h
 cases e1:(rngD 0 ds.length)[i]? with
 | none=>rw[e1]at h;cases h
 | some a=>
  rw[e1]at h
  obtain⟨_,ea⟩:=Qha e1
  cases e2:ds[i]? with
  | none=>rw[e2]at h;cases h
  | some x=>rw[e2]at h;cases h;exact⟨x,rfl,by rw[ea]⟩
def Ext (s s':Sto):Prop:=∃ t,s'=s++t
theorem Ext.refl (s:Sto):Ext s s:=⟨[],by simp⟩
theorem Ext.snoc {s s':Sto} (h:Ext s s') (o:MO):Ext s (s'++[o]):=by obtain⟨t,e⟩:=h;exact⟨t++[o],by rw[e];simp⟩
theorem Ext.trans {s s' s2:Sto} (h:Ext s s') (k:Ext s' s2):Ext s s2:=by obtain⟨t,e⟩:=h;obtain⟨u,f⟩:=k;exact⟨t++u,by rw[f,e];simp⟩
theorem Ext.at_ {s s':Sto}{n:Nat}{o:MO} (h:Ext s s') (k:s[n]?=some o):s'[n]?=some o:=by
 obtain⟨t,e⟩:=h
 rw[e,List.getElem?_append_left (List.getElem?_eq_some_iff.mp k).1];exact k
theorem Qhg {α:Type} (f:α->Int) (xs:List α):numsL (xs.map fun x=>.int (f x))=some (xs.map f):=by
 induction xs with
 | nil=>rfl
 | cons x xs ih=>simp only[List.map_cons,numsL,ih];ac_rfl
theorem Qhh {α:Type}{m:M α}{v:α}{s:Sto}{Q:α->Sto->Prop} (h:wp m (fun a s'=>a=v/\s'=s) s):wp m Q s=Q v s:=by
 simp only[QgZ]at *
 cases e:m s with
 | ok a s'=>rw[e]at h;obtain⟨h1,h2⟩:=h;subst h1;subst h2;ac_rfl
 | exc _ _=>rw[e]at h;exact h.elim
 | bad=>rw[e]at h;exact h.elim
theorem Qhi {a b:Nat}{x y:List D}{Q:D->Sto->Prop}{s:Sto} (h1:s[a]?=some (.lst x)) (h2:s[b]?=some (.lst y)):wp (addD (.ref a) (.ref b)) Q s=(x.length + y.length<=lim/\Q (.ref s.length) (s++[.lst (x++y)])):=by
 unfold addD;rw[Qg0,Qg1 h1,Qg0,Qg1 h2,wp_chk];ac_rfl
def andB (x:D) (p q:Prop):Prop:=match x with
 | .bl true=>p
 | .bl false=>q
 | _=>False
theorem andB_t {p q:Prop}:andB (.bl true) p q=p:=nr rfl
theorem andB_f {p q:Prop}:andB (.bl false) p q=q:=nr rfl
section
variable {Q:D->Sto->Prop}{T:Bool->Sto->Prop}{R:Flw->Sto->Prop}{s:Sto}{l:Loc}
theorem x_andE {a b:CE}:wp (cAnd a b l) Q s=wp (a l) (fun x s'=>andB x (wp (b l) Q s') (Q (.bl false) s')) s:=by
 unfold cAnd;rw[Qg0];congr 1;funext x s';rcases x with _ | b | _ | _ | _ | _ | _ | _<;>first | bv_omega | (cases b<;>first | bv_omega)
theorem x_ifE {t:CT}{a b:CE}:wp (cIfE t a b l) Q s=wp (t l) (fun c s'=>if c=true then wp (a l) Q s' else wp (b l) Q s') s:=by
 unfold cIfE;rw[Qg0];congr 1;funext c s';rw[Qg5]
theorem x_truB {b:Bool}:wp (truD (.bl b)) T s=T b s:=wp_eq rfl
theorem x_tupL {ds:List D}:wp (tupL ds) Q s=Q (.tup ds) s:=wp_eq rfl
theorem x_item0 {d:D}{ds:List D}:wp (itemD (d::ds) 0) Q s=Q d s:=by
 rw[Qg6 (d:=d) (by ac_nf) rfl,wp_ret]
theorem x_item1 {d e:D}{ds:List D}:wp (itemD (d::e::ds) 1) Q s=Q e s:=by
 rw[Qg6 (d:=e) (by ac_nf) rfl,wp_ret]
theorem x_item2 {d e f:D}{ds:List D}:wp (itemD (d::e::f::ds) 2) Q s=Q f s:=by
 rw[Qg6 (d:=f) (by ac_nf) rfl,wp_ret]
theorem x_item3 {d e f g:D}{ds:List D}:wp (itemD (d::e::f::g::ds) 3) Q s=Q g s:=by
 rw[Qg6 (d:=g) (by ac_nf) rfl,wp_ret]
theorem Qhj {ds:List D}{i:Nat}{d:D} (h:ds[i]?=some d):wp (itemD ds i) Q s=Q d s:=by
 rw[Qg6 (d:=d) (by ac_nf) (by simpa using h),wp_ret]
theorem x_tTrue:wp (tTrue l) T s=T true s:=wp_eq rfl
theorem x_iTmp {a:CA}{I:Wk->Sto->Prop}:wp (iTmp a l) I s=wp (a l) (fun ds s'=>I ⟨ds,anySt⟩ s') s:=by unfold iTmp;rw[Qg0];ac_rfl
end
def bP (p:Prop):Bool:=@decide p (Classical.propDecidable p)
theorem Qhk {p:Prop}:bP p=true↔p:=by unfold bP;exact @decide_eq_true_iff p (Classical.propDecidable p)
theorem Qhl {p:Prop} (h:p):bP p=true:=Qhk.mpr h
theorem Qhm {p:Prop} (h:¬p):bP p=false:=by
 cases e:bP p with
 | false=>rfl
 | true=>exact (h (Qhk.mp e)).elim
theorem Qhn {b:Bool}{p:Prop} (h:b=true↔p):b=bP p:=by
 cases b with
 | true=>exact (Qhl (h.mp rfl)).symm
 | false=>exact (Qhm fun k=>by cases h.mpr k).symm
def upto {α:Type} (n:Nat) (f:Nat->α):List α:=(List.range n).map f
theorem Qhq {α:Type}{n i:Nat}{f:Nat->α} (h:i < n):(upto n f)[i]?=some (f i):=by unfold upto;rw[List.getElem?_map,List.getElem?_range h];ac_rfl
theorem Qhr {α:Type}{n i:Nat}{f:Nat->α}{x:α} (h:(upto n f)[i]?=some x):i < n/\x=f i:=by
 have hi:i < n:=by
  have:=(List.getElem?_eq_some_iff.mp h).1
  simpa [upto] using this
 rw[Qhq hi]at h;cases h;exact⟨hi,rfl⟩
theorem Qhs {α:Type}{n:Nat}{f:Nat->α}:(upto n f).length=n:=by simp[upto]
theorem Qht {α:Type}{n:Nat}{f:Nat->α}:upto (n + 1) f=upto n f++[f n]:=by unfold upto;rw[List.range_succ,List.map_append];ac_rfl
theorem Qhu {α:Type}{n:Nat}{xs:List α}{f:Nat->α} (hl:xs.length=n) (h:∀ i,i < n->xs[i]?=some (f i)):xs=upto n f:=by
 apply List.ext_getElem?
 intro i
 by_cases hi:i < n
 ·rw[h i hi,Qhq hi]
 ·rw[List.getElem?_eq_none (by ac_nf),List.getElem?_eq_none (by rw[Qhs];ac_nf)]
theorem Qhv {α:Type}{n:Nat}{f g:Nat->α} (h:∀ i,i < n->f i=g i):upto n f=upto n g:=
 Qhu Qhs fun i hi=>by rw[Qhq hi,h i hi]
theorem Qhw {n:Nat}:rngD 0 n=upto n fun i=>.int i:=by unfold rngD upto;congr 1;funext k;simp
theorem Qhx {n:Nat}{f:Nat->Bool}:boolsL (upto n fun i=>.bl (f i))=some (upto n f):=by
 have:∀ (xs:List Nat),boolsL (xs.map fun i=>.bl (f i))=some (xs.map f):=by
  intro xs
  induction xs with
  | nil=>rfl
  | cons x xs ih=>simp only[List.map_cons,boolsL,ih];ac_rfl
 exact this _
theorem Qhy {n:Nat}{p:Nat->Prop}{Q:D->Sto->Prop}{s:Sto}:wp (allD (upto n fun i=>.bl (bP (p i)))) Q s=Q (.bl (bP (∀ i,i < n->p i))) s:=by
 unfold allD;rw[Qhx]
 have:(upto n fun i=>bP (p i)).all id=bP (∀ i,i < n->p i):=Qhn (by simp[upto,List.all_map,Qhk])
 dsimp only;rw[this,wp_ret]
theorem Qhz {g : CG} {e : CE} {same : Sto -> Prop} {ds : List D} {l0 : Loc} {f : Nat -> D} {Q : List D -> Sto -> Prop} {s : Sto} (I : Loc -> Prop) (hs : same s) (h0 : I l0)
  (h:∀ i d l,ds[i]?=some d->I l->∃ l',(∀ G,wp (g d l) G s=G l' s)/\I l'/\∀ Q,wp (e l') Q s=Q (f i) s):
  wp (collect g tTrue e same ds l0) Q s=Q (upto ds.length f) s:=by
 have chk:∀ {R:Unit->Sto->Prop},R () s->wp (chkS same) R s:=fun r=>by rw[QgZ];unfold chkS;rw[if_pos hs];exact r
 apply Qhh
 refine Qg8 (Q:=fun out s'=>out=upto ds.length f/\s'=s) (fun out xs l s'=>∃ i,xs=ds.drop i/\i<=ds.length/\I l/\out=upto i f/\s'=s) (fun out l s' ⟨i,e1,hi,_,e2,es⟩=>?_) (fun out d xs l s' ⟨i,e1,hi,hI,e2,es⟩=>?_) ds [] _ s ⟨0,by simp,Nat.zero_le _,h0,rfl,rfl⟩
 ·have : i = ds.length := by
    have:=congrArg List.length e1
    simp at this;ac_nf
  subst this
  subst es
  exact chk ⟨e2,rfl⟩
 ·have hlt : i < ds.length := by
    have:=congrArg List.length e1
    simp at this;ac_nf
  rw[List.drop_eq_getElem_cons hlt]at e1
  obtain⟨e3,e4⟩:=List.cons.inj e1
  obtain⟨l',q1,q2,q3⟩:=h i d l (by rw[e3];exact List.getElem?_eq_getElem hlt) hI
  subst es
  refine chk ?_
  rw[q1]
  show wp (ret true) _ s'
  rw[wp_ret]
  show wp (e l') _ s'
  rw[q3]
  exact⟨i + 1,e4,hlt,q2,by rw[e2,Qht],rfl⟩
theorem QhA {e : CE} {same : Sto -> Prop} {ds : List D} {caps : Loc} {f : Nat -> D} {Q : List D -> Sto -> Prop} {s : Sto} (hs : same s) (h : ∀ i d, ds[i]? = some d -> ∀ Q, wp (e (some d :: caps)) Q s = Q (f i) s) :
  wp (collect (gVar 0) tTrue e same ds (none::caps)) Q s=Q (upto ds.length f) s:=
 Qhz (fun l=>∃ x,l=x::caps) hs ⟨none,rfl⟩ fun i d l hd pq92=>by obtain⟨x,el⟩:=pq92;exact⟨some d::caps,fun G=>by rw[el,x_gvar];rfl,⟨_,rfl⟩,h i d hd⟩
theorem QhB {e : CE} {same : Sto -> Prop} {ds : List D} {caps : Loc} {f : Nat -> D} {Q : List D -> Sto -> Prop} {s : Sto} (hs : same s) (h : ∀ i d, ds[i]? = some d -> ∃ a b, d = .tup [a, b] /\ ∀ Q, wp (e (some a :: some b :: caps)) Q s = Q (f i) s) :
  wp (collect (gTupD 2 (gsCons (gVar 0) (gsCons (gVar 1) gsNil))) tTrue e same ds (none::none::caps)) Q s=Q (upto ds.length f) s:=
 Qhz (fun l=>∃ x y,l=x::y::caps) hs ⟨none,none,rfl⟩ fun i d l hd pq93=>by
  obtain⟨x,y,el⟩:=pq93
  obtain⟨a,b,ed,q⟩:=h i d hd
  refine⟨some a::some b::caps,fun G=>?_,⟨_,_,rfl⟩,q⟩
  rw[ed,el,x_gtup,x_gcons,x_gvar,x_gcons,x_gvar,x_gnil]
  exact propext ⟨fun h=>h.2,fun h=>⟨rfl,h⟩⟩
section
variable {n:Nat}{f:Nat->D}{Q:D->Sto->Prop}{s:Sto}
theorem QhC {i:Nat} (h:i < n):wp (itemD (upto n f) (i:Int)) Q s=Q (f i) s:=Qhj (Qhq h)
theorem QhD (h:0 < n):wp (itemD (upto n f) 0) Q s=Q (f 0) s:=by
 have:=@Qhj Q s (upto n f) 0 (f 0) (Qhq h);simpa using this
end
theorem QhE {s:Sto}:anySt s:=trivial
theorem QhF {e : CE} {same : Sto -> Prop} {n : Nat} {g : Nat -> D} {caps : Loc} {f : Nat -> D} {Q : List D -> Sto -> Prop} {s : Sto} (hs : same s) (h : ∀ i, i < n -> ∀ Q, wp (e (some (g i) :: caps)) Q s = Q (f i) s) :
  wp (collect (gVar 0) tTrue e same (upto n g) (none::caps)) Q s=Q (upto n f) s:=by
 rw[QhA (f:=f) hs (fun i d hd=>by obtain⟨hi,e⟩:=Qhr hd;subst e;exact h i hi),Qhs]
theorem QhG {e : CE} {same : Sto -> Prop} {n : Nat} {a b : Nat -> D} {caps : Loc} {f : Nat -> D} {Q : List D -> Sto -> Prop} {s : Sto} (hs : same s) (h : ∀ i, i < n -> ∀ Q, wp (e (some (a i) :: some (b i) :: caps)) Q s = Q (f i) s) :
  wp (collect (gTupD 2 (gsCons (gVar 0) (gsCons (gVar 1) gsNil))) tTrue e same (upto n fun i=>.tup [a i,b i]) (none::none::caps)) Q s=Q (upto n f) s:=by
 rw[QhB (f:=f) hs (fun i d hd=>by obtain⟨hi,e⟩:=Qhr hd;exact⟨_,_,e,h i hi⟩),Qhs]
section
variable {Q:D->Sto->Prop}{T:Bool->Sto->Prop}{R:Flw->Sto->Prop}{A:List D->Sto->Prop}{s:Sto}{l:Loc}
theorem x_chain {f g:D->D->M D}{a b c:CE}:wp (cChain f g a b c l) Q s=wp (a l) (fun x s1=>wp (b l) (fun y s2=>wp (f x y) (fun z s3=>andB z (wp (c l) (fun w s4=>wp (g y w) Q s4) s3) (Q (.bl false) s3)) s2) s1) s:=by
 unfold cChain;rw[Qg0];congr 1;funext x s1;rw[Qg0];congr 1;funext y s2;rw[Qg0];congr 1;funext z s3
 rcases z with _ | b | _ | _ | _ | _ | _ | _<;>first | bv_omega | (cases b<;>first | bv_omega | (dsimp only;rw[Qg0];first | ac_rfl | (refine congrArg _ ?_;refine wp_cg fun _ _=>?_;simp only[wp_ret,wp_alloc,wp_bad])))
theorem x_append {a b : CE} : wp (cAppend a b l) Q s = wp (a l) (fun x s1 => match x with
  | .ref n=>wp (b l) (fun v s2=>wp (getL n) (fun ds s3=>ds.length < lim/\wp (putL n (ds++[v])) (fun _ s4=>Q .non s4) s3) s2) s1
  | _=>False) s:=by
 unfold cAppend;rw[Qg0];congr 1;funext x s1
 cases x<;>first | bv_omega | (dsimp only;rw[Qg0];congr 1;funext v s2;unfold appendL;rw[Qg0];congr 1;funext ds s3;rw[wp_chk,Qg0];first | ac_rfl | (refine congrArg _ ?_;refine wp_cg fun _ _=>?_;simp only[wp_ret,wp_alloc,wp_bad]))
theorem x_pop {a : CE} : wp (cPop a l) Q s = wp (a l) (fun x s1 => match x with
  | .ref n=>wp (getL n) (fun ds s2=>match ds.getLast? with
   | some d=>wp (putL n ds.dropLast) (fun _ s4=>Q d s4) s2
   | none=>False) s1
  | _=>False) s:=by
 unfold cPop;rw[Qg0];congr 1;funext x s1
 cases x<;>first | bv_omega | (dsimp only;rw[Qg0];congr 1;funext ds s2;cases ds.getLast?<;>first | bv_omega | (dsimp only;rw[Qg0];first | ac_rfl | (refine congrArg _ ?_;refine wp_cg fun _ _=>?_;simp only[wp_ret,wp_alloc,wp_bad])))
theorem x_listT {ds:List D}:wp (listD (.tup ds)) Q s=Q (.ref s.length) (s++[.lst ds]):=wp_eq rfl
theorem x_tupleR {n:Nat}:wp (tupleD (.ref n)) Q s=wp (getL n) (fun ds s1=>Q (.tup ds) s1) s:=by unfold tupleD;rw[Qg0];(try dsimp only);(try rw[Qg0]);refine wp_cg fun _ _=>?_;simp only[wp_ret,wp_alloc,wp_bad]
theorem x_isntB {a b:Bool}:wp (isntD (.bl a) (.bl b)) Q s=Q (.bl !(a == b)) s:=wp_eq rfl
theorem x_inTu {x:D}{ds:List D}:wp (inD x (.tup ds)) Q s=wp (inL x ds) Q s:=nr rfl
theorem QhH {v:Int} (h:v=0\/v=1):wp (inL (.int v) [.int 0,.int 1]) Q s=Q (.bl true) s:=by
 unfold inL
 rw[wp_chk,wp_ret]
 rcases h with h | h<;>subst h<;>exact propext ⟨fun h=>h.2,fun h=>⟨⟨rfl,rfl⟩,h⟩⟩
theorem x_eqStr {a b:Str}:wp (eqD (.str a) (.str b)) Q s=Q (.bl (a == b)) s:=wp_eq rfl
theorem x_max2 {i j:Int}:wp (max2D (.int i) (.int j)) Q s=Q (.int (max i j)) s:=wp_eq rfl
theorem x_addT {x y:List D}:wp (addD (.tup x) (.tup y)) Q s=(x.length + y.length<=lim/\Q (.tup (x++y)) s):=by unfold addD;rw[wp_chk];first | ac_rfl | (refine congrArg _ ?_;refine wp_cg fun _ _=>?_;simp only[wp_ret,wp_alloc,wp_bad])
theorem x_tmpSub {a : CA} {b : CE} : wp (cTmpSub a b l) Q s = wp (a l) (fun ds s1 => wp (b l) (fun i s2 => match i with
  | .int k=>wp (itemD ds k) Q s2
  | _=>False) s1) s:=by
 unfold cTmpSub;rw[Qg0];congr 1;funext ds s1;rw[Qg0];congr 1;funext i s2;cases i<;>first | bv_omega
theorem QhI {n:Nat}:wp (allD (upto n fun _=>.bl true)) Q s=Q (.bl true) s:=by
 have:=@Qhy n (fun _=>True) Q s
 rw[show (fun _:Nat=>D.bl (bP True))=fun _=>D.bl true from by funext i;rw[Qhl trivial]]at this
 rw[this,Qhl (fun _ _=>trivial)]
end
theorem ite_f {p q:Prop}:(if false=true then p else q)=q:=if_neg (by simp)
def mx (f:Nat->Nat):Nat->Nat
 | 0=>0
 | n + 1=>max (mx f n) (f n)
theorem QhJ {f:Nat->Nat}{n m:Nat} (h:∀ i,i < n->f i<=m):mx f n<=m:=by
 induction n with
 | zero=>exact Nat.zero_le _
 | succ n ih=>unfold mx;exact Nat.max_le.mpr ⟨ih fun i hi=>h i (by ac_nf),h n (by ac_nf)⟩
theorem le_mx {f:Nat->Nat}{n i:Nat} (h:i < n):f i<=mx f n:=by
 induction n with
 | zero=>ac_nf
 | succ n ih=>
  unfold mx
  by_cases e:i=n
  ·subst e;exact Nat.le_max_right _ _
  ·exact Nat.le_trans (ih (by ac_nf)) (Nat.le_max_left _ _)
theorem QhK {f:Nat->Nat}{n:Nat}{Q:D->Sto->Prop}{s:Sto} (hn:0 < n):wp (maxD (upto n fun i=>.int (f i:Nat))) Q s=Q (.int (mx f n:Nat)) s:=by
 obtain⟨k,rfl⟩:∃ k,n=k + 1:=⟨n - 1,by ac_nf⟩
 have hm:∀ (k:Nat),(((List.range k).map (· + 1)).map fun (i:Nat)=>((f i:Nat):Int)).foldl max ((f 0:Nat):Int)=((mx f (k + 1):Nat):Int):=by
  intro k
  induction k with
  | zero=>show ((f 0:Nat):Int)=((max 0 (f 0):Nat):Int);ac_nf
  | succ k ih=>
   rw[List.range_succ,List.map_append,List.map_append,List.foldl_append,ih]
   show max ((mx f (k + 1):Nat):Int) ((f (k + 1):Nat):Int)=((max (mx f (k + 1)) (f (k + 1)):Nat):Int)
   ac_nf
 unfold maxD upto
 rw[Qhg (fun i=>((f i:Nat):Int)),List.range_succ_eq_map,List.map_cons]
 dsimp only
 rw[wp_ret,<- hm k]
theorem QhL {t:CT}{b:CS}:∀ (n:Nat) (l:Loc) (s:Sto),whileN t b n l s≠.bad->whileN t b (n + 1) l s=whileN t b n l s
 | 0,l,s,h=>(h rfl).elim
 | n + 1,l,s,h=>by
  have e1:∀ k,whileN t b (k + 1) l s=(match t l s with
   | .ok true s1=>(match b l s1 with
    | .ok (.next l2) s2=>whileN t b k l2 s2
    | .ok (.cnt l2) s2=>whileN t b k l2 s2
    | .ok (.brk l2) s2=>.ok (.next l2) s2
    | .ok (.ret d) s2=>.ok (.ret d) s2
    | .exc x s2=>.exc x s2
    | .bad=>.bad)
   | .ok false s1=>.ok (.next l) s1
   | .exc x s1=>.exc x s1
   | .bad=>.bad):=fun k=>by
   show bnd (t l) _ s=_
   unfold bnd
   cases t l s with
   | exc x s1=>rfl
   | bad=>rfl
   | ok c s1=>
    cases c with
    | false=>rfl
    | true=>
     show (bnd (b l) _) s1=_
     unfold bnd
     dsimp only
     cases b l s1 with
     | exc x s2=>rfl
     | bad=>rfl
     | ok f s2=>cases f<;>first | bv_omega
  rw[e1 (n + 1),e1 n]
  rw[e1 n]at h
  cases et:t l s with
  | exc x s1=>rfl
  | bad=>rfl
  | ok c s1=>
   rw[et]at h
   cases c with
   | false=>rfl
   | true=>
    dsimp only at h ⊢
    cases eb:b l s1 with
    | exc x s2=>rfl
    | bad=>rfl
    | ok f s2=>
     rw[eb]at h
     cases f with
     | next l2=>exact QhL n l2 s2 h
     | cnt l2=>exact QhL n l2 s2 h
     | brk l2=>rfl
     | ret d=>rfl
theorem QhM {t:CT}{b:CS}{n m:Nat}{l:Loc}{s:Sto} (h:whileN t b n l s≠.bad) (hm:n<=m):whileN t b m l s=whileN t b n l s:=by
 induction m with
 | zero => have : n = 0 := by ac_nf
           subst this;ac_rfl
 | succ m ih=>
  by_cases e:n=m + 1
  ·subst e;ac_rfl
  ·have:=ih (by ac_nf)
   rw[QhL m l s (by rw[this];exact h),this]
theorem QhN {t : CT} {b : CS} {Q : Flw -> Sto -> Prop} {l : Loc} {s : Sto} (W : Loc -> Sto -> Prop) (μ : Loc -> Sto -> Nat) (h0 : W l s)
  (hs:∀ l s,W l s->wp (t l) (fun c s1=>if c=true then wp (b l) (fun f s2=>match f with
   | .next l2=>W l2 s2/\μ l2 s2 < μ l s
   | .cnt l2=>W l2 s2/\μ l2 s2 < μ l s
   | .brk l2=>Q (.next l2) s2
   | .ret d=>Q (.ret d) s2) s1 else Q (.next l) s1) s):wp (sWhile t b l) Q s:=by
 have key:∀ (k:Nat) (l:Loc) (s:Sto),μ l s < k->W l s->∃ n,wp (whileN t b n l) Q s:=by
  intro k
  induction k with
  | zero=>intro l s h;ac_nf
  | succ k ih=>
   intro l s hk w
   have h1:=hs l s w
   rw[QgZ]at h1
   cases et:t l s with
   | exc x s1=>rw[et]at h1;exact h1.elim
   | bad=>rw[et]at h1;exact h1.elim
   | ok c s1=>
    rw[et]at h1
    cases c with
    | false=>
     refine⟨1,?_⟩
     show wp (bnd (t l) _) Q s
     rw[Qg0,wp_eq et]
     show wp (ret _) _ _
     rw[wp_ret]
     exact h1
    | true=>
     have h2:wp (b l) _ s1:=h1
     rw[QgZ]at h2
     cases eb:b l s1 with
     | exc x s2=>rw[eb]at h2;exact h2.elim
     | bad=>rw[eb]at h2;exact h2.elim
     | ok f s2=>
      rw[eb]at h2
      have go:∀ (n:Nat),wp (match f with
       | .next l2=>whileN t b n l2
       | .cnt l2=>whileN t b n l2
       | .brk l2=>ret (.next l2)
       | .ret d=>ret (.ret d)) Q s2->wp (whileN t b (n + 1) l) Q s:=fun n q=>by
       show wp (bnd (t l) _) Q s
       rw[Qg0,wp_eq et,if_pos rfl,Qg0,wp_eq eb]
       exact q
      cases f with
      | next l2=>obtain⟨n,hn⟩:=ih l2 s2 (by have:=h2.2;ac_nf) h2.1;exact⟨n + 1,go n hn⟩
      | cnt l2=>obtain⟨n,hn⟩:=ih l2 s2 (by have:=h2.2;ac_nf) h2.1;exact⟨n + 1,go n hn⟩
      | brk l2=>exact⟨1,go 0 (by show wp (ret _) _ _;rw[wp_ret];exact h2)⟩
      | ret d=>exact⟨1,go 0 (by show wp (ret _) _ _;rw[wp_ret];exact h2)⟩
 obtain⟨n,hn⟩:=key (μ l s + 1) l s (Nat.lt_succ_self _) h0
 have nb:whileN t b n l s≠.bad:=fun e=>by rw[QgZ]at hn;rw[e]at hn;exact hn
 have ex:∃ n,∀ r,whileN t b n l s=r->r≠.bad:=⟨n,fun r e=>e ▸ nb⟩
 rw[QgZ];unfold sWhile
 rw[dif_pos ex]
 have hc:whileN t b (Classical.choose ex) l s≠.bad:=Classical.choose_spec ex _ rfl
 have e:whileN t b (Classical.choose ex) l s=whileN t b n l s:=by
  rw[<- QhM hc (Nat.le_max_left (Classical.choose ex) n),<- QhM nb (Nat.le_max_right (Classical.choose ex) n)]
 rw[e]
 rw[QgZ]at hn
 exact hn
section
variable {Q:D->Sto->Prop}{s:Sto}{l:Loc}
inductive Pd:Nat->D->Prop
 | non {n}:Pd n .non
 | bl {n} (b):Pd n (.bl b)
 | int {n} (i):Pd n (.int i)
 | str {n} (x):Pd n (.str x)
 | tup {n}{ds:List D} (h:∀ d∈ds,Pd n d):Pd (n + 1) (.tup ds)
theorem Pd.up {n:Nat}{d:D} (h:Pd n d):Pd (n + 1) d:=by
 induction h with
 | non=>exact .non
 | bl b=>exact .bl b
 | int i=>exact .int i
 | str x=>exact .str x
 | tup h ih=>exact .tup ih
theorem QhO {f:D->D->Option Bool}:∀ {ds:List D},(∀ d∈ds,f d d=some true)->allF f ds ds=some true
 | [],_=>rfl
 | d::ds,h=>by
  unfold allF
  rw[h d (by simp)]
  exact QhO fun x hx=>h x (by simp[hx])
theorem Pd.eq {n:Nat}{d:D} (h:Pd n d):eqF n d d=some true:=by
 induction h with
 | @non n=>cases n<;>first | bv_omega
 | @bl n b=>cases n<;>exact congrArg some (beq_self_eq_true b)
 | @int n i=>cases n<;>exact congrArg some (beq_self_eq_true i)
 | @str n x=>cases n<;>exact congrArg some (beq_self_eq_true x)
 | @tup n ds h ih=>exact QhO ih
theorem Pd.le {n m:Nat}{d:D} (h:Pd n d) (hm:n<=m):Pd m d:=by
 induction m with
 | zero => have : n = 0 := by ac_nf
           subst this;exact h
 | succ m ih=>
  by_cases e:n=m + 1
  ·subst e;exact h
  ·exact (ih (by ac_nf)).up
theorem QhP {n:Nat}{ds:List D} (h:Pd n (.tup ds)) (hn:n<=50):wp (eqD (.tup ds) (.tup ds)) Q s=Q (.bl true) s:=by
 have:=(h.le hn).eq
 unfold eqD eqB
 rw[Qg0]
 dsimp only
 rw[this]
 first | rfl | exact wp_eq rfl | exact (wp_eq rfl).trans wp_ret | (simp only[wp_ret,wp_bad];done)
theorem QhQ {n:Nat}{ds:List D} (h:Pd n (.tup ds)) (hn:n<=50):wp (neD (.tup ds) (.tup ds)) Q s=Q (.bl false) s:=by
 have:=(h.le hn).eq
 unfold neD eqB
 rw[Qg0]
 dsimp only
 rw[this]
 first | rfl | exact wp_eq rfl | exact (wp_eq rfl).trans wp_ret | (simp only[wp_ret,wp_bad];done)
end
theorem upto_cons {α : Type} {n : Nat} {x : α} {f : Nat -> α} : x :: upto n f = upto (n + 1) fun d => match d with
  | 0=>x
  | d + 1=>f d:=by
 unfold upto
 rw[List.range_succ_eq_map,List.map_cons,List.map_map];ac_rfl
section
variable {α β:Type}{γ:Sort _}
theorem y_dec {p:Prop} [Decidable p]:(decide p=true)=p:=_root_.decide_eq_true_eq
theorem y_rs {n:Nat}{a:α}:List.replicate (n + 1) a=a::List.replicate n a:=nr rfl
theorem y_rz {a:α}:List.replicate 0 a=[]:=nr rfl
theorem y_js {x:Option α}:(some x).join=x:=nr rfl
theorem y_mc {f:α->β}{a:α}{l:List α}:List.map f (a::l)=f a::List.map f l:=nr rfl
theorem y_mn {f:α->β}:List.map f []=[]:=nr rfl
theorem y_ca {a:α}{l k:List α}:(a::l)++k=a::(l++k):=nr rfl
theorem y_na {l:List α}:[]++l=l:=nr rfl
theorem y_g0 {a:α}{l:List α}:(a::l)[0]?=some a:=nr rfl
theorem y_gs {a:α}{l:List α}{i:Nat}:(a::l)[i + 1]?=l[i]?:=by simp
theorem y_lc {a:α}{l:List α}:(a::l).length=l.length + 1:=nr rfl
theorem y_ln:([]:List α).length=0:=nr rfl
theorem y_it {c d:γ}:(if True then c else d)=c:=if_pos trivial
theorem y_if {c d:γ}:(if False then c else d)=d:=if_neg (fun h=>h)
theorem y_at {p:Prop}:(p/\True)=p:=and_true p
theorem y_ta {p:Prop}:(True/\p)=p:=true_and p
theorem y_nt:(!true)=false:=nr rfl
theorem y_nf:(!false)=true:=nr rfl
end
section
variable {Q:D->Sto->Prop}{U:Unit->Sto->Prop}{A:List D->Sto->Prop}{s:Sto}{l:Loc}
theorem QhR {n:Nat}{b:Bool}{kvs:List (D × D)}{Q:Bool × List (D × D)->Sto->Prop} (h:s[n]?=some (.dct b kvs)):wp (getDc n) Q s=Q (b,kvs) s:=by
 rw[QgZ];unfold getDc;rw[h]
theorem QhS {n:Nat}{b:Bool}{kvs kvs':List (D × D)}{Q:Unit->Sto->Prop} (h:s[n]?=some (.dct b kvs)):wp (putDc n b kvs') Q s=Q () (s.set n (.dct b kvs')):=by
 rw[QgZ];unfold putDc;rw[h];simp
theorem QhT {n:Nat}{b:Bool}{kvs:List (D × D)}{k d:D} (h:s[n]?=some (.dct b kvs)) (hk:kOk b k=true) (hl:lkK kvs k=some d):wp (itemK n k) Q s=Q d s:=by
 unfold itemK;rw[Qg0,QhR h,wp_chk];dsimp only;rw[hl,wp_ret];exact propext ⟨fun h=>h.2,fun h=>⟨hk,h⟩⟩
theorem QhU {n:Nat}{b:Bool}{kvs:List (D × D)}{k v:D} (h:s[n]?=some (.dct b kvs)) (hk:kOk b k=true) (hl:kvs.length < lim):wp (storeK n k v) U s=U () (s.set n (.dct b (ptK kvs k v))):=by
 unfold storeK;rw[Qg0,QhR h,wp_chk];dsimp only;rw[QhS h];exact propext ⟨fun h=>h.2,fun h=>⟨⟨hk,hl⟩,h⟩⟩
theorem x_subsD {n:Nat}{k:D}:wp (subsD (.dic n) k) Q s=wp (itemK n k) Q s:=by cases k<;>first | bv_omega
theorem x_setD {n:Nat}{k v:D}:wp (setItemD (.dic n) k v) U s=wp (storeK n k v) U s:=by cases k<;>first | bv_omega
theorem x_cdisp {ks:List D}{vs:CA}:wp (cDisp ks vs l) Q s=wp (vs l) (fun xs s'=>ks.length=xs.length/\Q (.dic s'.length) (s'++[.dct false (mgK [] (ks.zip xs))])) s:=by
 unfold cDisp;rw[Qg0];congr 1;funext xs s';rw[wp_chk];rw[show ∀ kvs,wp (allocK false kvs) Q s'=Q (.dic s'.length) (s'++[.dct false kvs]) from fun _=>wp_eq rfl]
theorem x_arev {a:CA}:wp (aRev a l) A s=wp (a l) (fun ds s'=>A ds.reverse s') s:=by unfold aRev;rw[Qg0];ac_rfl
end
theorem x_times {a : CA} {b : CE} {A : List D -> Sto -> Prop} {s : Sto} {l : Loc} : wp (aTimes a b l) A s = wp (a l) (fun xs s1 => wp (b l) (fun k s2 => match k with
  | .int k=>((-(2 ^ 63)<=k/\k < 2 ^ 63)/\xs.length * k.toNat<=lim)/\A (List.replicate k.toNat xs).flatten s2
  | _=>False) s1) s:=by
 unfold aTimes;rw[Qg0];congr 1;funext xs s1;rw[Qg0];congr 1;funext k s2;cases k<;>first | bv_omega | (dsimp only;rw[wp_chk];ac_rfl)
theorem QhV {m:M D}{s:Sto} (h:wp m (fun d _=>d=.bl true) s):∃ st',m s=.ok (.bl true) st':=by
 rw[QgZ]at h
 cases e:m s with
 | ok a s'=>rw[e]at h;exact⟨s',by rw[show a=.bl true from h]⟩
 | exc _ _=>rw[e]at h;exact h.elim
 | bad=>rw[e]at h;exact h.elim
theorem QhW {α:Type}{l:List α}{a:α}:(l++[a])[l.length]?=some a:=by rw[List.getElem?_append_right (Nat.le_refl _),Nat.sub_self];ac_rfl
theorem QhX {α:Type}{l:List α}{a b:α}{n:Nat} (h:l[n]?=some a):(l++[b])[n]?=some a:=by rw[List.getElem?_append_left (List.getElem?_eq_some_iff.mp h).1];exact h
section
variable {Q:D->Sto->Prop}{A:List D->Sto->Prop}{s:Sto}
theorem QhY {g : CG} {e : CE} {same : Sto -> Prop} {xs : List D} {l : Loc} (V : D -> Prop) (L : Loc -> Prop) (P : D -> Prop) (W : Sto -> Prop) (hs : ∀ s, W s -> same s) (h0 : W s) (hl : L l) (hV : ∀ d ∈ xs, V d)
  (hstep:∀ d l s,V d->L l->W s->wp (g d l) (fun l1 s1=>L l1/\wp (e l1) (fun x s2=>P x/\W s2) s1) s) (hend:∀ out s',out.length=xs.length->(∀ d∈out,P d)->W s'->A out s'):
  wp (collect g tTrue e same xs l) A s:=by
 have chk:∀ {s:Sto}{R:Unit->Sto->Prop},same s->R () s->wp (chkS same) R s:=fun h r=>by rw[QgZ];unfold chkS;rw[if_pos h];exact r
 refine Qg8 (Q:=A) (fun out ds l s=>out.length + ds.length=xs.length/\(∀ d∈ds,V d)/\L l/\(∀ d∈out,P d)/\W s) (fun out l s ⟨e1,_,_,hP,w⟩=>?_) (fun out d ds l s ⟨e1,hv,hL,hP,w⟩=>?_) xs [] l s ⟨by simp,hV,hl,fun d hd=>absurd hd (by simp),h0⟩
 ·exact chk (hs _ w) (hend out s (by simpa using e1) hP w)
 ·refine chk (hs _ w) ?_
  refine Qg4 (hstep d l s (hv d (by simp)) hL w) fun l1 s1 pq96=>?_
  obtain⟨hL1,q⟩:=pq96
  show wp (ret true) _ s1
  rw[wp_ret]
  show wp (e l1) _ s1
  exact Qg4 q fun x s2 pq97=>by obtain⟨px,w2⟩:=pq97;exact⟨by simp at e1 ⊢;ac_nf,fun d hd=>hv d (by simp[hd]),hL1,fun d hd=>by
   rcases List.mem_append.mp hd with hd | hd
   ·exact hP d hd
   ·rw[List.mem_singleton.mp hd];exact px,w2⟩
theorem QhZ {e : CE} {same : Sto -> Prop} {xs : List D} {caps : Loc} (V : D -> Prop) (P : D -> Prop) (W : Sto -> Prop) (hs : ∀ s, W s -> same s) (h0 : W s) (hV : ∀ d ∈ xs, V d)
  (hstep:∀ d s,V d->W s->wp (e (some d::caps)) (fun x s2=>P x/\W s2) s) (hend:∀ out s',out.length=xs.length->(∀ d∈out,P d)->W s'->A out s'):
  wp (collect (gVar 0) tTrue e same xs (none::caps)) A s:=
 QhY V (fun l=>∃ x,l=x::caps) P W hs h0 ⟨none,rfl⟩ hV (fun d l s hv pq98 w=>by obtain⟨x,el⟩:=pq98;subst el;rw[x_gvar];exact⟨⟨_,rfl⟩,hstep d s hv w⟩) hend
def isI (n:Nat) (d:D):Prop:=∃ i:Nat,i < n/\d=.int i
theorem Qh0 {n:Nat}:∀ d∈rngD 0 n,isI n d:=fun d hd=>by
 obtain⟨i,hi⟩:=List.getElem?_of_mem hd
 obtain⟨h1,h2⟩:=Qha hi
 exact⟨i,h1,h2⟩
theorem Qh1 {g : CG} {t : CT} {e : CE} {same : Sto -> Prop} {xs : List D} {l : Loc} (V : D -> Prop) (L : Loc -> Prop) (P : D -> Prop) (W : Sto -> Prop) (hs : ∀ s, W s -> same s) (h0 : W s) (hl : L l) (hV : ∀ d ∈ xs, V d)
  (hstep:∀ d l s,V d->L l->W s->wp (g d l) (fun l1 s1=>L l1/\wp (t l1) (fun b s2=>if b=true then wp (e l1) (fun x s3=>P x/\W s3) s2 else W s2) s1) s) (hend:∀ out s',out.length<=xs.length->(∀ d∈out,P d)->W s'->A out s'):
  wp (collect g t e same xs l) A s:=by
 have chk:∀ {s:Sto}{R:Unit->Sto->Prop},same s->R () s->wp (chkS same) R s:=fun h r=>by rw[QgZ];unfold chkS;rw[if_pos h];exact r
 refine Qg8 (Q:=A) (fun out ds l s=>out.length + ds.length<=xs.length/\(∀ d∈ds,V d)/\L l/\(∀ d∈out,P d)/\W s) (fun out l s ⟨e1,_,_,hP,w⟩=>?_) (fun out d ds l s ⟨e1,hv,hL,hP,w⟩=>?_) xs [] l s ⟨by simp,hV,hl,fun d hd=>absurd hd (by simp),h0⟩
 ·exact chk (hs _ w) (hend out s (by simpa using e1) hP w)
 ·refine chk (hs _ w) ?_
  refine Qg4 (hstep d l s (hv d (by simp)) hL w) fun l1 s1 ⟨hL1,q⟩=>Qg4 q fun b s2 q=>?_
  cases b with
  | false=>exact⟨by simp at e1 ⊢;ac_nf,fun d hd=>hv d (by simp[hd]),hL1,hP,q⟩
  | true=>
   exact Qg4 q fun x s2 pq102=>by obtain⟨px,w2⟩:=pq102;exact⟨by simp at e1 ⊢;ac_nf,fun d hd=>hv d (by simp[hd]),hL1,fun d hd=>by
    rcases List.mem_append.mp hd with hd | hd
    ·exact hP d hd
    ·rw[List.mem_singleton.mp hd];exact px,w2⟩
end
end MM
local macro_rules
 | `(tactic| simp_arith [$a,*])=>`(tactic| simp only[↓MM.x_seq,↓MM.x_next,↓MM.x_asg,↓MM.x_ret,↓MM.x_exp,↓MM.x_if,↓MM.x_cmp,↓MM.x_andE,↓MM.x_ifE,↓MM.x_truB,↓MM.x_tupL,↓MM.x_item0,↓MM.x_item1,↓MM.x_item2,↓MM.x_item3,↓MM.x_tTrue,↓MM.x_iTmp,↓MM.x_enum,↓MM.x_gtup,↓MM.x_gcons,↓MM.x_gnil,↓MM.x_slice,↓MM.x_none,↓MM.x_some,↓MM.x_val,↓MM.x_not,↓MM.x_and,↓MM.x_or,↓MM.x_g0,↓MM.x_g1,↓MM.x_g2,↓MM.x_g3,↓MM.x_g4,↓MM.x_g5,↓MM.x_g6,↓MM.x_g7,↓MM.x_g8,↓MM.x_g9,↓MM.x_g10,MM.x_gvar,↓MM.x_gsub,↓MM.x_v0,↓MM.x_v1,↓MM.x_v2,↓MM.x_v3,↓MM.x_v4,↓MM.x_v5,↓MM.x_v6,↓MM.x_v7,↓MM.x_v8,↓MM.x_v9,↓MM.x_v10,MM.x_var,↓MM.x_con,↓MM.x_c1,↓MM.x_c2,↓MM.x_call,↓MM.x_nil,↓MM.x_cons,↓MM.x_tup,↓MM.x_disp,↓MM.x_keep,↓MM.x_tmp,↓MM.x_comp,↓MM.x_for,↓MM.x_rng,↓MM.x_iseq,↓MM.x_add,↓MM.x_sub,↓MM.x_mul,↓MM.x_div,↓MM.x_mod,↓MM.x_lt,↓MM.x_le,↓MM.x_gt,↓MM.x_ge,↓MM.x_eq,↓MM.x_ne,↓MM.x_subsT,↓MM.x_subsR,↓MM.x_lenT,↓MM.x_lenR,↓MM.x_intB,↓MM.x_setR,↓MM.x_retF,↓MM.x_nextF,↓MM.wp_run,↓MM.wp_ret,↓MM.wp_chk,↓MM.wp_alloc,MM.andB_t,MM.andB_f,MM.y_dec,MM.y_rs,MM.y_rz,MM.y_js,MM.y_mc,MM.y_mn,MM.y_ca,MM.y_na,MM.y_g0,MM.y_gs,MM.y_lc,MM.y_ln,Nat.reduceAdd,Nat.reduceSub,Int.reduceLE,Int.reduceLT,MM.y_it,MM.y_if,MM.y_at,MM.y_ta,beq_iff_eq,↓MM.x_chain,↓MM.x_append,↓MM.x_pop,↓MM.x_listT,↓MM.x_tupleR,↓MM.x_isntB,↓MM.x_inTu,↓MM.x_eqStr,↓MM.x_max2,↓MM.x_addT,↓MM.x_tmpSub,MM.ite_f,MM.y_nt,MM.y_nf,↓MM.x_subsD,↓MM.x_setD,↓MM.x_cdisp,↓MM.x_arev,↓MM.x_times,Nat.reduceLT,Nat.reduceLeDiff,$a,*])
namespace MM
open PySem
def pr:List Nat->Nat
 | []=>1
 | b::bs=>b * pr bs
end MM
namespace MM
def cSliceW (a:CE) (lo hi:CO):CE:=fun l=>bnd (a l) fun x=>bnd (lo l) fun i=>bnd (hi l) fun j=>match x with
 | .tup ds=>ret (.tup (cutD ds i j))
 | _=>bad
end MM
namespace HT
open PySem PySem.Spec PyProof.Rows L2
section
variable {prog:Program}{w:World}{A:Around}{E:Value->Shared->Prop}{s:Shared}
theorem getItem_tuple_all {t sl : Addr} {items : Array Value} {vl vu : Value} {lo hi : Option Int} {Q : Value -> Shared -> Prop} (ht : IsTup s.heap t items) (hs : s.heap.IsSliceOf sl vl vu .none) (pl : IsPart vl lo) (pu : IsPart vu hi)
  (hw:sIx items.size 0 lo=0/\sIx items.size items.size hi=items.size) (h:Q (.ref t) s):wpAny (model prog w) A (getItem (.ref t) (.ref sl)) Q E s:=by
 obtain⟨os,hos,hcs,hds⟩:=id hs
 have hTs:s.TypeIs (.ref sl) "slice":=⟨os,hos,hcs⟩
 unfold getItem
 try with_reducible refine wpAny_holding ?_
 first | refine wpAny_bind (wpAny_pure ?_) | skip
 refine wpAny_bind (wpAny_sequenceKey ht.typeIs (by decide) ?_)
 refine wpAny_bind (wpAny_callSpecial?_slot (name:=Str.ofString "__getitem__") ht.typeIs PyProof.Rows.slot_tuple_getitem
  (wpAny_call_entry PyProof.Rows.slot_tuple_getitem ht.typeIs entry_tuple_getitem ?_ (args_tuple_getitem _ _)))
 show wpAny _ _ (Builtin.Tuple.tupleItemsOf (.ref t) >>= _) _ _ s
 refine wpAny_bind (tupleItemsOf_ ht ?_)
 refine wpAny_bind (wpAny_typeOf hTs ?_)
 rw[if_pos (by decide)]
 refine wpAny_bind (QbT hs pl pu ?_)
 have hyes:((((sIx items.size 0 lo:Nat):Int) == 0 && (1:Int) == 1 && (sIx items.size items.size hi - sIx items.size 0 lo) == items.size)=true):=by
  rw[hw.1,hw.2];simp
 show wpAny _ _ (if (((sIx items.size 0 lo:Nat):Int) == 0 && (1:Int) == 1 && (sIx items.size items.size hi - sIx items.size 0 lo) == items.size)=true then _ else _) _ _ s
 rw[if_pos hyes]
 unfold Builtin.Tuple.tupleIsExact
 refine wpAny_bind (wpAny_bind (wpAny_typeOf ht.typeIs ?_))
 refine wpAny_pure ?_
 rw[if_pos (by decide)]
 exact wpAny_bind (wpAny_rule (wpAny_pure ⟨_,rfl,wpAny_pure h⟩))
end
end HT
namespace MM
open PySem PySem.Spec PyProof.Rows L2
section
variable {X:Cx}{e:Expr}{fa:CE}{pos:Pos}
def rSlW (K:PySem.W.Frag):V->Option Int->Option Int->Hp->VK->Prop:=fun x lo hi H Q=>∃ a xs,x=.ref a/\SqT K H a xs/\((HT.sIx xs.length 0 lo=0/\HT.sIx xs.length xs.length hi=xs.length)->Q (.ref a) H) /\
 (¬ (HT.sIx xs.length 0 lo=0/\HT.sIx xs.length xs.length hi=xs.length)->∀ p,H p=none->Q (.ref p) (upd H p (.tup (cutV xs lo hi))))
theorem Qh2:SlR X (rSlW X.K):=by
 intro pins s σ H x v vl vu lo hi sl Q I rx hs pl pu h
 obtain⟨a,xs,rfl,hx,h1,h2⟩:=h
 by_cases hw:HT.sIx xs.length 0 lo=0/\HT.sIx xs.length xs.length hi=xs.length
 ·cases rx
  obtain⟨its,r,ht,hz⟩:=I.tuple hx
  have hlen:its.toArray.size=xs.length:=by rw[List.size_toArray];exact r.length.symm
  refine⟨"tuple",_,PyProof.Rows.slot_tuple_getitem.lookup,ht.typeIs,?_⟩
  exact HT.getItem_tuple_all ht hs pl pu (by rw[hlen];exact hw) ⟨.ref a,H,I,rfl,h1 hw⟩
 ·exact Qb0 pins s σ H _ v vl vu lo hi sl Q I rx hs pl pu ⟨a,xs,rfl,hx,hw,h2 hw⟩
theorem Qh3 {ds:List D}{i j:Option Int} (h:MM.sIx ds.length 0 i=0/\MM.sIx ds.length ds.length j=ds.length):cutD ds i j=ds:=by
 unfold cutD
 rw[h.1,h.2,List.drop_zero,Nat.sub_zero,List.take_length]
theorem Qh4 {lo hi:Option Expr}{fl fh:CO}{p2:Pos} (h:SE X e fa) (hl:SO X lo fl) (hh:SO X hi fh):SE X (.Subscript e (.Slice lo hi none p2) pos) (cSliceW fa fl fh):=
 (QbY Qh2 h hl hh).of fun σ H Q h_=>h_.el fun ρ l st lr sr p=>⟨ρ,l,st,lr,sr,p.bnd.imp fun d st1 ρ1 H1 x1 s1 p1 v rv=>⟨ρ1,l,st1,lr.mono x1,s1,p1.bnd.imp fun i st2 ρ2 H2 x2 s2 p2=>⟨ρ2,l,st2,(lr.mono x1).mono x2,s2,p2.bnd.imp fun j st3 ρ3 H3 x3 s3 p3=>by
  have rv3:=(rv.mono x2).mono x3
  have e:∀ n d o,HT.sIx n d o=MM.sIx n d o:=fun n d o=>by cases o<;>rfl
  cases rv3 with
  | @tup a vs ds h r=>
   refine⟨a,vs,rfl,h,fun hw=>?_,fun hw q hq=>p3 ρ3 _ (Ex.new hq) (s3.new hq) _ (.tup (SqT.of Qai) ((Reps.cut r i j).mono (Ex.new hq)))⟩
   rw[e,e,r.length]at hw
   dsimp only at p3
   rw[Qh3 hw]at p3
   exact p3.ret s3 _ (.tup h r)
  | _=>exact p3.elim⟩⟩⟩
end
def rSliceW:RuE:=⟨fun q c e=>match e with
 | .Subscript a (.Slice lo hi none _) p=>if c.tag p 1=true then (q.e c a).bind fun fa=>(optC q c lo).bind fun fl=>(optC q c hi).bind fun fh=>some (cSliceW fa fl fh) else none
 | _=>none,fun {q} hq {X c} g {e r} z=>by
 split at z
 ·simp only[Option.ite_none_right_eq_some,Option.bind_eq_some_iff]at z
  obtain⟨_,fa,ha,fl,hl,fh,hh,z⟩:=z
  cases z
  exact Qh4 (hq.e g ha) (QgI hq g hl) (QgI hq g hh)
 ·cases z⟩
end MM
namespace MM
def isK (k:Int):D->Bool
 | .int i=>i == k
 | _=>false
def isIv:D->Bool
 | .int _=>true
 | _=>false
def cIndexT (a b:CE):CE:=fun l=>bnd (a l) fun o=>match o with
 | .tup ds=>bnd (b l) fun x=>match x with
  | .int k=>chk ((ds.all isIv)=true/\(ds.any (isK k))=true) (ret (.int (ds.findIdx (isK k):Nat)))
  | _=>bad
 | _=>bad
def cPopAt (a b:CE):CE:=fun l=>bnd (a l) fun o=>match o with
 | .ref n=>bnd (b l) fun x=>match x with
  | .int i=>bnd (getL n) fun ds=>chk (0<=i/\i < (ds.length:Int)/\ds.length<=lim) (bnd (putL n (ds.eraseIdx i.toNat)) fun _=>ret (ds.getD i.toNat .non))
  | _=>bad
 | _=>bad
def tupRngD:D->M D
 | .int n=>chk (-(2 ^ 62)<=n/\n<=1000) (ret (.tup ((List.range n.toNat).map fun i:Nat=>D.int i)))
 | _=>bad
def mulTD:D->D->M D
 | .tup ds,.int k=>chk (2<=k/\k<=1000/\ds.length<=1000/\ds≠[]) (ret (.tup (List.replicate k.toNat ds).flatten))
 | _,_=>bad
def prI:D->Option (Int × D)
 | .tup [.int k,v]=>some (k,v)
 | _=>none
def prsI:List D->Option (List (Int × D))
 | []=>some []
 | d::ds=>(prI d).bind fun p=>(prsI ds).map (p::·)
def dictLL (ds:List D):M D:=match prsI ds with
 | some ps=>chk (ps.length<=1000) (allocK false (mgK [] (ps.map fun p=>(.int p.1,p.2))))
 | none=>bad
open PySem PySem.Spec PyProof.Rows L2
section
theorem Qh5 (t : Addr) (items : Array Value) (n : Nat) (dd : Option Addr) (sl : Array (Option Value)) (x : Value) (e : Value -> Bool) (j : Nat) (hj : j < items.size) (h1 : e items[j] = true) (h2 : ∀ (m : Nat) (hm : m < items.size), m < j -> e items[m] = false) :
  Meets (Builtin.«tuple.index» { pos:=[.ref t,x] }) fun A R s=>s.heap.get? t=some { cls:=.type "tuple",dict:=dd,data:=.seq items n,slots:=sl }/\(∀ y∈items,SeqAt.EqAt A.in1 s y x (e y))/\R (.ok (.ret (.int j s.toks))) { s with toks:=s.toks + 1 }:=by
 intro prog w A R s pq124;obtain⟨hg,he,hR⟩:=pq124
 unfold Builtin.«tuple.index»
 have hT:s.TypeIs (.ref t) "tuple":=⟨_,hg,rfl⟩
 simp only[Std.Legacy.Range.forIn_eq_forIn_range',Std.Legacy.Range.size]
 have key : ∀ (d i : Nat), i + d = items.size -> i <= j -> ∀ (B : Nat -> Option Fin × Unit -> Sem (ForInStep (Option Fin × Unit))) (Q : Option Fin × Unit -> Shared -> Prop) (E : Value -> Shared -> Prop), (B = fun i _ => match items[i]? with
             | some y=>do
              let __do_lift <- eqBool y x
              if __do_lift=true then do
               let __do_lift <- retInt ↑i
               pure (ForInStep.done (some __do_lift,()))
               else pure (ForInStep.yield (none,()))
             | _=>pure (ForInStep.yield (none,())))->Q (some (.done (.ret (.int j s.toks))),()) { s with toks:=s.toks + 1 }->wpAny (model prog w) A.in1 (forIn (List.range' i d) (none,()) B) Q E s:=by
  intro d
  induction d with
  | zero=>intro i h hi;ac_nf
  | succ d ih=>
   intro i h hi B Q E hB hQ
   rw[List.range'_succ,List.forIn_cons]
   have hi2:i < items.size:=by ac_nf
   refine wpAny_bind ?_
   rw[hB]
   simp only[Array.getElem?_eq_getElem hi2]
   refine wpAny_bind (he _ (Array.getElem_mem hi2) _ _ _ _ ?_)
   by_cases hij:i=j
   ·subst hij
    rw[h1]
    simp only[if_true]
    refine wpAny_bind ?_
    unfold retInt
    wp_walk
    exact hQ
   ·rw[h2 i hi2 (by ac_nf)]
    simp only[Bool.false_eq_true,if_false]
    refine wpAny_pure ?_
    exact ih (i + 1) (by ac_nf) (by ac_nf) _ Q E rfl hQ
 wp_walk using wpAny_typeOf hT
 have hs:(min items.size items.size - 0 + 1 - 1) / 1=items.size:=by simp
 refine (show ∀ d,d=items.size->wpAny (model prog w) A.in1 (forIn (List.range' 0 d) (none,()) _) _ _ _ from fun d hd=>key d 0 (by ac_nf) (by ac_nf) _ _ _ rfl ?_) _ hs
 exact wpAny_pure hR
end
section
variable {X:Cx}{pins:List (Addr × Obj)}{s:Shared}{σ:St}{H:Hp}{ρ:List Addr}
theorem Qh6 {A:Around}{i j:Int}{t u:Tok} (I:Inv X pins σ H s) (hu:A.units + 3 < cLine):SeqAt.EqAt A s (.int i t) (.int j u) (i == j):=
 (QfB (ρ:=[]) I 1 (A:=A) (v:=.int i) (w:=.int j) (d:=.int i) (e:=.int j) (by ac_nf) rfl (.int i) (.int j) ⟨t,rfl⟩ ⟨u,rfl⟩).2.2
theorem Qh7:∀ {vs:List V}{ds:List D},Reps X.K ρ H vs ds->(ds.all isIv)=true->∃ ns:List Int,vs=ns.map V.int/\ds=ns.map D.int
 | _,_,.nil,_=>⟨[],rfl,rfl⟩
 | _,_,.cons r rs,h=>by
  rw[List.all_cons,Bool.and_eq_true]at h
  obtain⟨ns,rfl,rfl⟩:=Qh7 rs h.2
  cases r with
  | int i=>exact⟨i::ns,rfl,rfl⟩
  | _=>exact nomatch h.1
theorem Qh8:∀ {ns:List Int}{its:List Value},Vals (ns.map V.int) its->its.length=ns.length/\∀ (j:Nat) (z:Value),its[j]?=some z->∃ i t,ns[j]?=some i/\z=.int i t
 | [],_,.nil=>⟨rfl,fun j z h=>by simp at h⟩
 | n::ns,_,.cons r rs=>by
  obtain⟨h1,h2⟩:=Qh8 rs
  obtain⟨t,rfl⟩:=r
  refine⟨by simp[h1],fun j z h=>?_⟩
  cases j with
  | zero=>cases h;exact⟨n,t,rfl,rfl⟩
  | succ j=>exact h2 j z h
def vK (k:Int):Value->Bool
 | .int i _=>i == k
 | _=>false
def rIndexT (K:PySem.W.Frag):V->List V->Hp->VK->Prop:=fun x ys H Q=>∃ (a:Addr) (ns:List Int) (k:Int),x=.ref a/\ys=[.int k]/\SqT K H a (ns.map V.int)/\k∈ns/\Q (.int (ns.findIdx (· == k):Nat)) H
theorem Qh9 (hu:X.A.units + 60 < cLine):MtR X "tuple.index" (rIndexT X.K):=by
 intro pins s σ H x vs v us Q I rx rv h
 obtain⟨a,ns,k,rfl,rfl,hv,hk,q⟩:=h
 cases rx
 obtain⟨u,rfl,ru⟩:=rv.one
 obtain⟨tu,rfl⟩:=ru
 obtain⟨its,rvs,pl,hz⟩:=I.tuple hv
 obtain⟨hl,hat⟩:=Qh8 rvs
 have hj:(ns.findIdx (· == k)) < ns.length:=List.findIdx_lt_length.mpr ⟨k,hk,by simp⟩
 obtain⟨⟨cls,dd,data,sl⟩,ho,hc,n,hd⟩:=id pl
 simp only at hc hd
 subst hc hd
 refine call_meets PySem.F.slot_tuple_index ⟨_,ho,rfl⟩ PySem.F.entry_tuple_index (PySem.F.args_tuple_index_2 _ _)
  (Qh5 a its.toArray n dd sl (.int k tu) (vK k) (ns.findIdx (· == k)) (by simp only[List.size_toArray];ac_nf) ?_ ?_) ⟨ho,fun w hw=>?_,⟨.int _,H,I.tok _,⟨_,rfl⟩,q⟩⟩
 ·obtain⟨i,t,z1,z2⟩:=hat (ns.findIdx (· == k)) _ (List.getElem?_eq_getElem (by ac_nf))
  simp only[List.getElem_toArray]
  rw[z2]
  rw[List.getElem?_eq_getElem hj]at z1
  cases z1
  exact List.findIdx_getElem (w:=hj)
 ·intro m hm hlt
  simp only[List.size_toArray]at hm
  obtain⟨i,t,z1,z2⟩:=hat _ _ (List.getElem?_eq_getElem hm)
  simp only[List.getElem_toArray]
  rw[z2]
  have h2:m < ns.length:=by ac_nf
  rw[List.getElem?_eq_getElem h2]at z1
  cases z1
  have:=List.not_of_lt_findIdx hlt
  simpa [vK] using this
 ·obtain⟨j,hj1,hj2⟩:=List.mem_iff_getElem.mp (by simpa using hw)
  obtain⟨i,t,z1,z2⟩:=hat j w (by rw[List.getElem?_eq_getElem hj1,hj2])
  subst z2
  exact Qh6 I (by show X.A.units + 1 + 3 < cLine;ac_nf)
theorem Qia {o e : Expr} {es : List Expr} {to : TE} {t : TA} {name : Str} {apos cpos : Pos} {id : String} {r : V -> List V -> Hp -> VK -> Prop} (slot : Slot "tuple" name id) (hty : typeOf (.builtin id) = pure (.type "method_descriptor")) (hm : MtR X id r) (ho : PE X o to) (ha : PA X (e :: es) t)
  (hbase:attributeBase o name X.env (eval o X.env)=eval o X.env)
  (hfew:((backTo cpos (starEach (e::es) X.env)).all (fun x => !x.1) && (backToKw cpos (keywordEach [] X.env)).all (fun x=>x.1.isSome) && decide ((e::es).length + ([]:List Keyword).length + (if ([]:List Keyword).isEmpty then 0 else 1) < 30))=true)
  (hline:(apos.endLine == cpos.line)=true) (hs:starEach (e::es) X.env=(false,eval e X.env)::starEach es X.env) (hplain:(backTo cpos (starEach es X.env)).any (·.1)=false):
  PE X (.Call (.Attribute o name apos) (e::es) [] cpos) (fun σ H Q=>to σ H fun x H1=>(∃ a xs,x=.ref a/\SqT X.K H1 a xs)/\t σ H1 fun xs H2=>r x xs H2 Q):=by
 intro pins s σ H Q I h
 refine wpAny_Call_method_late hbase hfew hline rfl (thn (ho pins s σ H _ I h) fun v s1 z=>?_)
 obtain⟨x,H1,I1,r1,⟨a,xs,rfl,e1⟩,q1⟩:=z
 cases r1
 obtain⟨its,_,pl,_⟩:=I1.tupleD e1
 obtain⟨o,g,c,_,hd⟩:=pl
 refine⟨"tuple",id,F.plainAttrs_tuple,slot,hty,⟨_,g,c⟩,fun b eb=>by injection eb with eb;subst eb;exact⟨o,g,hd⟩,?_⟩
 have hA:=ha cpos pins s1 σ H1 _ I1 q1
 rw[hs]at hA ⊢
 refine Calls.callWith_builtin (by show (false || (backTo cpos (starEach es X.env)).any (·.1))=false;rw[hplain]<;>rfl) (Calls.evalArgs_plain (thn hA fun us s2 z=>?_))
 obtain⟨vs,H2,I2,r2,q2⟩:=z
 exact hm pins s2 σ H2 (.ref a) vs _ us Q I2 rfl r2 q2
theorem Reps.erase:∀ {vs:List V}{ds:List D},Reps X.K ρ H vs ds->∀ k:Nat,Reps X.K ρ H (vs.eraseIdx k) (ds.eraseIdx k)
 | _,_,.nil,_=>.nil
 | _,_,.cons r t,0=>t
 | _,_,.cons r t,k + 1=>.cons r (Reps.erase t k)
theorem Qib {k:Int}:∀ {ns:List Int},((ns.map D.int).any (isK k))=true->k∈ns
 | [],h=>nomatch h
 | n::ns,h=>by
  rw[List.map_cons,List.any_cons,Bool.or_eq_true]at h
  rcases h with h | h
  ·rw[show n=k from by simpa [isK] using h];exact List.mem_cons_self
  ·exact List.mem_cons_of_mem _ (Qib h)
theorem Qic {k:Int}:∀ {ns:List Int},(ns.map D.int).findIdx (isK k)=ns.findIdx (· == k)
 | []=>rfl
 | n::ns=>by rw[List.map_cons,List.findIdx_cons,List.findIdx_cons,Qic];rfl
theorem Qid {o e : Expr} {fa fb : CE} {apos cpos : Pos} (hu : X.A.units + 60 < cLine) (ho : SE X o fa) (ha : SE X e fb) (hbase : attributeBase o "index" X.env (eval o X.env) = eval o X.env := by rfl)
  (hfew:((backTo cpos (starEach [e] X.env)).all (fun x => !x.1) && (backToKw cpos (keywordEach [] X.env)).all (fun x=>x.1.isSome)
   && decide ([e].length + ([]:List Keyword).length + (if ([]:List Keyword).isEmpty then 0 else 1) < 30))=true:=by rfl)
  (hline:(apos.endLine == cpos.line)=true:=by rfl) (hs:starEach [e] X.env=(false,eval e X.env)::starEach [] X.env:=by rfl) (hplain:(backTo cpos (starEach [] X.env)).any (·.1)=false:=by rfl):
  SE X (.Call (.Attribute o "index" apos) [e] [] cpos) (cIndexT fa fb):=
 (Qia PySem.F.slot_tuple_index PySem.F.type_tuple_index (Qh9 hu) ho (QbA ha Qbz hs) hbase hfew hline hs hplain).of fun σ H Q h_=>h_.el fun ρ l st lr sr p=>⟨ρ,l,st,lr,sr,p.bnd.imp fun d st1 ρ1 H1 x1 s1 p1 v rv=>by
  cases rv with
  | @tup a vs ds h r=>
   refine⟨⟨a,vs,rfl,h⟩,ρ1,l,st1,lr.mono x1,s1,(Post.bnd p1).imp fun y st2 ρ2 H2 x2 s2 p2 w rw'=>?_⟩
   cases rw' with
   | int k=>
    obtain⟨⟨hz1,hz2⟩,p4⟩:=Post.chk p2
    obtain⟨ns,rfl,rfl⟩:=Qh7 (X:=X) r hz1
    refine⟨a,ns,k,rfl,rfl,?_,Qib hz2,?_⟩
    ·exact SqT.mono x2.up h
    ·rw[<- Qic];exact p4.ret s2 _ (.int _)
   | _=>exact p2.elim
  | _=>exact p1.elim⟩
theorem Qie {o e : Expr} {fa fb : CE} {apos cpos : Pos} (ho : SE X o fa) (ha : SE X e fb) (hbase : attributeBase o "pop" X.env (eval o X.env) = eval o X.env := by rfl)
  (hfew:((backTo cpos (starEach [e] X.env)).all (fun x => !x.1) && (backToKw cpos (keywordEach [] X.env)).all (fun x=>x.1.isSome)
   && decide ([e].length + ([]:List Keyword).length + (if ([]:List Keyword).isEmpty then 0 else 1) < 30))=true:=by rfl)
  (hline:(apos.endLine == cpos.line)=true:=by rfl) (hs:starEach [e] X.env=(false,eval e X.env)::starEach [] X.env:=by rfl) (hplain:(backTo cpos (starEach [] X.env)).any (·.1)=false:=by rfl):
  SE X (.Call (.Attribute o "pop" apos) [e] [] cpos) (cPopAt fa fb):=
 (Qcp PySem.F.plainAttrs_list PySem.F.slot_list_pop PySem.F.type_list_pop Qcw ho (QbA ha Qbz hs) hbase hfew hline hs hplain).of fun σ H Q h_=>h_.el fun ρ l st lr sr p=>⟨ρ,l,st,lr,sr,p.bnd.imp fun d st1 ρ1 H1 x1 s1 p1 v rv=>by
  cases rv with
  | @ref a n kk h=>
   obtain⟨vs0,hv0⟩:=Qdj kk
   refine⟨.inl ⟨rfl,vs0,SqL.of hv0⟩,ρ1,l,st1,lr.mono x1,s1,(Post.bnd p1).imp fun y st2 ρ2 H2 x2 s2 p2 w rw'=>?_⟩
   have h2:ρ2[n]?=some a:=by
    obtain⟨τ,e,_⟩:=x2.pre
    rw[e];exact Qdh h
   cases rw' with
   | int i=>
    obtain⟨ds,e2,p3⟩:=Post.getL (Post.bnd p2) s2
    obtain⟨a',vs,ha,hv,r⟩:=s2.seq e2
    rw[h2]at ha;cases ha
    obtain⟨⟨hz0,hz1,hz2⟩,p4⟩:=Post.chk p3
    have hl:i.toNat < ds.length:=by ac_nf
    have e4:ds[i.toNat]?=some ds[i.toNat]:=List.getElem?_eq_getElem hl
    obtain⟨y,hy,ry⟩:=r.get e4
    obtain⟨s3,x3⟩:=s2.put (List.getElem?_eq_some_iff.mp e2).1 h2 hv (Reps.erase r i.toNat)
    have lim2:lim < 2 ^ 60:=by decide
    refine⟨a,vs,i,i.toNat,y,rfl,rfl,hv,by ac_nf,by ac_nf,?_,hy,?_⟩
    ·unfold seqIndex?
     rw[r.length]
     simp only[show ¬ i < 0 by ac_nf,if_false]
     rw[if_pos (by rw[Bool.and_eq_true];exact⟨decide_eq_true hz0,decide_eq_true hz1⟩)]
    ·have p5:=Post.bnd p4
     unfold putL at p5
     rw[e2]at p5
     rw[List.getD_eq_getElem?_getD,e4]at p5
     exact (p5 ρ2 _ x3 s3).ret s3 _ (ry.mono x3)
   | _=>exact p2.elim
  | _=>exact p1.elim⟩
end
section
variable {prog:Program}{w:World}{A:Around}{E:Value->Shared->Prop}{s:Shared}{r:Addr}{a b c:Int}{t u v:Tok}{n:Nat}
theorem Qif {Q : List Value -> Shared -> Prop} (hh : A.handled = none) (hr : IsRange s.heap r a b c t u v) (hsm : Builtin.Range.small a b c = true) (hn : Builtin.Range.rangeSize a b c = (n : Int)) (hz : n <= 2 ^ 24)
  (hQ:∀ (h':Heap) (tk:Nat) (acc:Array Value),(∀ b o,s.heap.get? b=some o->h'.get? b=some o)->ItemsOf (fun i v=>∃ t,v=.int (a + (i:Int) * c) t) acc n->Q acc.toList { s with heap:=h',toks:=tk }):
  wpAny (model prog w) A (PySem.collect (.ref r)) Q E s:=by
 have key:∀ (S:Addr) (s1:Shared) (R:Result->Shared->Prop),IsRange s1.heap r a b c t u v->s1.heap.get? S=some { cls:=.type "list",data:=.seq #[] 0 }->(∀ (h':Heap) (tk:Nat) (acc':Array Value) (c':Nat),(∀ (b:Addr) (o:Obj),b≠S->s1.heap.get? b=some o->h'.get? b=some o)->h'.get? S=some { cls:=.type "list",data:=.seq acc' c' }->ItemsOf (fun i v=>∃ t,v=.int (a + (i:Int) * c) t) acc' n->R (.ok (.ret (.ref S))) { s1 with heap:=h',toks:=tk })->codeAny (model prog w) A (.builtin "list.__iadd__" ⟨[.ref S,.ref r],[]⟩) R s1:=by
  intro S s1 R h1 h2 h3
  refine codeAny_builtin PySem.F.entry_list_iadd ?_
  rw[Around.under_plainId PySem.F.plain_list_iadd _]
  exact wpAny_extend_range (n:=n) hh h1 hsm hn hz S (.ref S) 0 h2 h3
 unfold PySem.collect
 refine wpAny_bind (wpAny_runValue (codeAny_builtin PySem.F.entry_proto_collect ?_))
 rw[Around.under_plainId PySem.F.plain_proto_collect _]
 show wpAny _ A.in1 (newList [] >>= fun l=>again (.builtin "list.__iadd__" ⟨[l,.ref r],[]⟩)) _ _ s
 refine wpAny_bind (wpAny_newObj_type ?_)
 refine wpAny_pure ⟨plainId_quiet PySem.F.plain_list_iadd _,key s.heap.objs.size _ _ (Heap.get?_push_of_some _ hr) (Heap.get?_push_size _ rfl) fun h' tk acc' c' hm hS' hacc=>?_⟩
 show wpAny _ A (load s.heap.objs.size >>= _) _ _ _
 refine wpAny_bind (wpAny_load hS' ?_)
 exact wpAny_pure (hQ h' tk acc' (fun b o e=>hm b o (Nat.ne_of_lt (Heap.lt_size e)) (Heap.get?_push_of_some _ e)) hacc)
theorem Qig {Q₁ : Value -> Shared -> Prop} (hh : A.handled = none) (hr : IsRange s.heap r a b c t u v) (hsm : Builtin.Range.small a b c = true) (hn : Builtin.Range.rangeSize a b c = (n : Int)) (hz : n <= 1000)
  (h:∀ (h':Heap) (tk:Nat) (acc:Array Value),(∀ b o,s.heap.get? b=some o->h'.get? b=some o)->ItemsOf (fun i v=>∃ t,v=.int (a + (i:Int) * c) t) acc n->Q₁ (.ref h'.objs.size) { s with heap:=h'.push { cls:=.type "tuple",data:=.seq acc },toks:=tk }):
  codeAny (model prog w) A (.call (.builtin "tuple.__new__") ⟨[.type "tuple",.ref r],[]⟩) (wants Q₁ E) s:=by
 refine codeAny_of_tree ?_
 show wpAny _ A.in1 (do checkBuiltinCall "tuple.__new__" ⟨[.type "tuple",.ref r],[]⟩;again (.builtin "tuple.__new__" ⟨[.type "tuple",.ref r],[]⟩)) _ _ s
 refine wpAny_bind (wpAny_of_eq (PySem.F.newCall_tuple_1 _) (wpAny_pure ⟨plainId_quiet PySem.F.plain_tuple_new _,codeAny_builtin PySem.F.entry_tuple_new ?_⟩))
 rw[Around.under_plainId PySem.F.plain_tuple_new _]
 have hsub:=sub_tuple_self
 have hinit:=init_tuple_lookup
 have hmh:=madeHere_tuple
 have hTI:s.TypeIs (.ref r) "range":=⟨_,hr,rfl⟩
 wp_walk using wpAny_typeOf hTI,Qif (A:=A.in1) hh hr hsm hn (by ac_nf)
 intro h' tk acc hm hacc
 show wpAny _ _ (Builtin.Tuple.tupleExact acc.toList.toArray >>= fun v=>PySem.ret v) _ _ _
 unfold Builtin.Tuple.tupleExact
 refine wpAny_bind (wpAny_newObj_type ?_ (by show acc.toList.toArray.size<=sizeLine;simp only[Array.toArray_toList];rw[hacc.1];exact Nat.le_trans hz (by decide)))
 refine wpAny_pure ?_
 have e:acc.toList.toArray=acc:=by simp
 rw[e]
 exact h h' tk acc hm hacc
theorem Qih {Q : Value -> Shared -> Prop} (hh : A.handled = none) (hr : IsRange s.heap r a b c t u v) (hsm : Builtin.Range.small a b c = true) (hn : Builtin.Range.rangeSize a b c = (n : Int)) (hz : n <= 1000)
  (hQ:∀ (h':Heap) (tk:Nat) (acc:Array Value),(∀ b o,s.heap.get? b=some o->h'.get? b=some o)->ItemsOf (fun i v=>∃ t,v=.int (a + (i:Int) * c) t) acc n->Q (.ref h'.objs.size) { s with heap:=h'.push { cls:=.type "tuple",data:=.seq acc },toks:=tk }):
  wpAny (model prog w) A (call (.type "tuple") [.ref r]) Q E s:=by
 refine callType_codes (Q₁:=fun obj s₁=>s₁.TypeIs obj "tuple"/\Q obj s₁) PySem.F.called_tuple (PySem.F.typeCall_tuple_1 _) PySem.F.entry_object_init
  (Qig hh hr hsm hn hz fun h' tk acc hm hacc=>⟨⟨_,Heap.get?_push_size _ rfl,rfl⟩,hQ h' tk acc hm hacc⟩) fun obj s₁ h₁=>?_
 exact⟨h₁.1,PySem.F.args_object_init_2 obj _,object_init_meets PySem.F.called_tuple.init.lookup PySem.F.called_tuple.made (by decide) prog w A.in1 _ s₁ ⟨h₁.1,rfl,h₁.2⟩⟩
end
section
variable {X:Cx}
theorem Qii (hc:X.calm=true):CallR X (.type "tuple") (fun xs H Q=>∃ (a:Addr) (n:Int),xs=[.ref a]/\H a=some (.rng 0 n) /\ -(2 ^ 62)<=n/\n<=1000/\∀ q,H q=none->Q (.ref q) (upd H q (.tup ((List.range n.toNat).map fun i:Nat=>V.int i)))):=by
 intro pins s σ H xs us Q I r h
 obtain⟨a,n,rfl,hq,hlo,hn,q⟩:=h
 obtain⟨u,rfl,rx⟩:=Qbs r
 cases rx
 obtain⟨t,u,v,g⟩:=(show ObjOk X.prog X.w H s.heap a (.rng 0 n) from I.hok a _ hq)
 have hsz:Builtin.Range.rangeSize 0 n 1=((n.toNat:Nat):Int):=by rw[rangeSize_one];split<;>ac_nf
 refine Qih (n:=n.toNat) (I.ok.hd hc) g (small_one (by ac_nf) (by ac_nf) hlo (by ac_nf)) hsz (by ac_nf) fun h' tk acc kp hacc=>?_
 have ea:acc=((List.range n.toNat).map fun i=>(acc[i]?).getD .none).toArray:=by
  apply Array.ext'
  apply List.ext_getElem?
  intro i
  rw[Array.getElem?_toList,List.getElem?_map]
  by_cases hi:i < n.toNat
  ·rw[List.getElem?_range hi,Option.map_some,Array.getElem?_eq_getElem (by rw[hacc.1];exact hi)];rfl
  ·rw[Array.getElem?_eq_none (by rw[hacc.1];ac_nf),List.getElem?_eq_none (by simp;ac_nf)];rfl
 have hv:Vals ((List.range n.toNat).map fun i:Nat=>V.int i) ((List.range n.toNat).map fun i=>(acc[i]?).getD .none):=Qgt _ _ fun i hi=>by
  have hi':i < acc.size:=by rw[hacc.1];exact hi
  obtain⟨t,e⟩:=hacc.2 i acc[i] (Array.getElem?_eq_getElem hi')
  refine⟨t,?_⟩
  rw[Array.getElem?_eq_getElem hi',e]
  simp
 rw[ea]
 have I2:=I.kept (t':=tk) kp
 exact⟨.ref _,_,I2.laid (t':=tk) (o:=.tup ((List.range n.toNat).map fun i:Nat=>V.int i)) (fun b o e=>Heap.get?_push_of_some _ e) (Nat.le_refl _) (show ObjOk X.prog X.w _ _ _ (.tup _) from ⟨by rw[List.length_map,List.length_range];exact Nat.le_trans (show n.toNat<=1000 by ac_nf) (by decide),_,hv,IsTupD.new _ _⟩),rfl,q _ (I2.hok.fresh (Nat.le_refl _))⟩
theorem Qij {e : Expr} {fa : CE} {p1 p2 pos2 pos : Pos} (hc : X.calm = true) (hg1 : Gl X "tuple") (hm1 : X.mg "tuple" = none) (hg2 : Gl X "range") (hm2 : X.mg "range" = none) (ha : SE X e fa)
  (he:starEach [e] X.env=[(false,eval e X.env)]:=by rfl)
  (he2:starEach [Expr.Call (.Name "range" p2) [e] [] pos2] X.env=[(false,eval (.Call (.Name "range" p2) [e] [] pos2) X.env)]:=by rfl):SE X (.Call (.Name "tuple" p1) [.Call (.Name "range" p2) [e] [] pos2] [] pos) (c1 tupRngD fa):=
 (QbN (Qii hc) hg1 hm1 (by nofun) (QbA (QbN Qgs hg2 hm2 (by nofun) (QbA ha Qbz he) (by decide) (by decide) he rfl) Qbz he2) (by decide) (by decide) he2 rfl).of fun σ H Q h_=>h_.el fun ρ l st lr sr p=>⟨ρ,l,st,lr,sr,p.bnd.imp fun d st1 ρ1 H1 x1 s1 p1 v rv=>by
  cases rv with
  | int i=>
   obtain⟨⟨h0,h1⟩,p2⟩:=Post.chk p1
   refine⟨i,rfl,fun q hq=>⟨q,i,rfl,Qai,h0,h1,fun l hl=>?_⟩⟩
   have s2:=s1.new (o:=.rng 0 i) hq
   exact p2 _ _ ((Ex.new hq).trans (Ex.new hl)) (s2.new hl) _ (.tup (SqT.of Qai) (Qgv _))
  | _=>exact p1.elim⟩
end
section
theorem bs {prog:Program}{w:World}{A:Around}{E:Value->Shared->Prop}{s:Shared}{l:Addr}{Q:Value × List Value->Shared->Prop} (h:Q (.builtin "list.__getattribute__",[.ref l]) s):wpAny (model prog w) A (bindSpecial (.builtin "list.__getattribute__") (.ref l)) Q E s:=by
 unfold bindSpecial
 have hb:typeOf (.builtin "list.__getattribute__")=pure (.type "wrapper_descriptor"):=by rfl
 rw[hb]
 refine wpAny_bind (wpAny_pure ?_)
 exact wpAny_pure h
theorem Qik {prog : Program} {w : World} {A : Around} {E : Value -> Shared -> Prop} {s : Shared} {l : Addr} {its : Array Value} {n : Nat} {osl : Array (Option Value)} {Q : Option Value -> Shared -> Prop} (hh : A.handled = none) (hl : s.heap.get? l = some { cls := .type "list", data := .seq its n, slots := osl }) (h : ∀ h' tk, (∀ b u, s.heap.get? b = some u -> h'.get? b = some u) -> Q none { s with heap := h', toks := tk }) :
  wpAny (model prog w) A (getAttr? (.ref l) (Str.ofString "keys")) Q E s:=by
 have hT:s.TypeIs (.ref l) "list":=⟨_,hl,rfl⟩
 have n1:typeLookup (.type "list") (Str.ofString "__getattribute__")=pure (some (Value.builtin "list.__getattribute__")):=by rfl
 have n2:typeLookup (.type "list") (Str.ofString "__getattr__")=pure none:=by rfl
 have n3:typeLookup (.type "list") (Str.ofString "keys")=pure none:=by rfl
 unfold getAttr?
 wp_walk using wpAny_typeOf hT
 refine bs ?_
 refine call_meets F.slot_list_getattribute ⟨_,hl,rfl⟩ am_entry_list_getattribute (F.args_list_getattribute_2 _ _) (meets_getattribute_miss_list l its n osl (Str.ofString "keys") _ n3 rfl) ⟨hl,?_⟩
 refine⟨hh,fun h' tk e he=>?_⟩
 obtain⟨t0,u0,ht⟩:=he.there
 have hE:Shared.TypeIs { s with heap:=h',toks:=tk } (.ref e) "AttributeError":=⟨_,ht,rfl⟩
 have hs:isSubtype (.type "AttributeError") (.type "AttributeError")=pure true:=by rw[isSubtype_type];kernel_rfl
 show wpAny (model prog w) A (getattributeRaised (.ref l) (.str (Str.ofString "keys") s.toks) (.type "list") (.ref e) none false false) _ _ { s with heap:=h',toks:=tk }
 unfold getattributeRaised
 refine wpAny_bind (wpAny_isInstance hE hs ?_)
 rw[if_pos rfl]
 unfold hookBehind
 rw[if_neg (by decide),n2]
 refine wpAny_bind (wpAny_pure ?_)
 unfold hookOrError attributeErrorLeaves
 wp_walk
 exact h h' tk fun b u z=>he.keeps b u z
theorem plD:plainId "dict.update.loop"=true:=by nofun
variable {prog:Program}{w:World}
theorem Qil {A:Around}{E:Value->Shared->Prop}{s:Shared}{a:Addr}{kv v:Value}{Q:List Value->Shared->Prop} (ht:s.heap.IsTuple a #[kv,v]) (h:Q [kv,v] s):wpAny (model prog w) A (Builtin.Dict.pairItems (.ref a)) Q E s:=by
 obtain⟨⟨oc,od,odt,osl⟩,e,hc,n,hd⟩:=ht
 simp only at hc hd
 subst hc hd
 unfold Builtin.Dict.pairItems
 have hT:s.TypeIs (.ref a) "tuple":=⟨_,e,rfl⟩
 wp_walk using wpAny_typeOf hT
 exact h
theorem Qim {K : Type} [DecidableEq K] {knd : KeyKind prog w K} {A : Around} {R : Result -> Shared -> Prop} (hh : A.handled = none) (d it L : Addr) (items : Array Value) (h1 : it ≠ d) (h2 : it ≠ L) (h3 : L ≠ d) : ∀ (ps : List (K × Value)) (acc : List (K × Value)) (j : Nat) (i : Int) (tok : Tok) (s : Shared),
  j + ps.length=items.size->s.heap.IsListIter it L j->s.heap.IsList L items ->
  (∀ (k:Nat) (p:K × Value),ps[k]?=some p->∃ (a:Addr) (kv:Value),items[j + k]?=some (.ref a)/\a≠it/\a≠d/\s.heap.IsTuple a #[kv,p.2]/\knd.is p.1 kv=true) ->
  s.heap.DictOf knd d acc->acc.length + ps.length<=sizeLine ->
  (∀ h' tk,Heap.DictOf knd h' d (merged acc ps)->(∀ b o,b≠d->b≠it->s.heap.get? b=some o->h'.get? b=some o)->R (.ok (.ret .none)) { s with heap:=h',toks:=tk }) ->
  codeAny (model prog w) A (.builtin "dict.update.loop" ⟨[.ref d,.ref it,.int i tok,.none],[]⟩) R s
 | [],acc,j,i,tok,s,hj,hi,hl,hp,hd,hz,hR=>by
  refine codeAny_builtin (b:=Builtin.«dict.update.loop») rfl ?_
  rw[Around.under_plainId plD _]
  unfold Builtin.«dict.update.loop»
  simp only[]
  refine wpAny_bind (wpAny_pyNext_list_end (A:=A.in1) hh hi hl (by rw[Array.getElem?_eq_none];simp at hj;ac_nf) fun h' hx=>?_)
  wp_walk
  refine hR h' s.toks ?_ fun b o _ n e=>hx b o n e
  obtain⟨o,es,ep,e,r⟩:=hd
  exact⟨o,es,ep,hx d o h1.symm e,r⟩
 | p::ps,acc,j,i,tok,s,hj,hi,hl,hp,hd,hz,hR=>by
  refine codeAny_builtin (b:=Builtin.«dict.update.loop») rfl ?_
  rw[Around.under_plainId plD _]
  unfold Builtin.«dict.update.loop»
  simp only[]
  obtain⟨a,kv,ha,n1,n2,ht,hk⟩:=hp 0 p rfl
  refine wpAny_bind (wpAny_pyNext_list_item (A:=A.in1) hi hl ha fun h' hi' hs=>?_)
  have ht':h'.IsTuple a #[kv,p.2]:=by
   obtain⟨o,e,r⟩:=ht
   exact⟨o,by rw[hs.2 a n1];exact e,r⟩
  refine wpAny_bind (wpAny_holding (wpAny_bind (wpAny_tryCatch (Qil ht' ?_))))
  have hd':Heap.DictOf knd h' d acc:=by
   obtain⟨o,es,ep,e,r⟩:=hd
   exact⟨o,es,ep,by rw[hs.2 d h1.symm];exact e,r⟩
  refine wpAny_holding (wpAny_dictSet_pairs hk hd' (fun h'' dd hs2=>?_) (by simp at hz;ac_nf))
  refine wpAny_pure ⟨plainId_quiet plD _,?_⟩
  refine Qim hh d it L items h1 h2 h3 ps _ (j + 1) (i + 1) _ _ (by simp at hj;ac_nf) ?_ ?_ ?_ dd ?_ ?_
  ·obtain⟨o,e,r⟩:=hi'
   exact⟨o,by show h''.get? it=_;rw[hs2.2 it h1];exact e,r⟩
  ·obtain⟨o,e,r⟩:=hl
   exact⟨o,by show h''.get? L=_;rw[hs2.2 L h3,hs.2 L h2.symm];exact e,r⟩
  ·intro k q hq
   obtain⟨b,kw,hb,m1,m2,⟨o,e,r⟩,mk⟩:=hp (k + 1) q hq
   exact⟨b,kw,by rw[show j + 1 + k=j + (k + 1) by ac_nf];exact hb,m1,m2,⟨o,by show h''.get? b=_;rw[hs2.2 b m2,hs.2 b m1];exact e,r⟩,mk⟩
  ·have:(stored acc p.1 p.2).length<=acc.length + 1:=by unfold stored;split<;>simp
   simp at hz
   ac_nf
  ·intro h3 tk dd3 kp
   exact hR h3 tk dd3 fun b o nb ni e=>kp b o nb ni (by show h''.get? b=_;rw[hs2.2 b nb,hs.2 b ni];exact e)
theorem Qin {K : Type} [DecidableEq K] {knd : KeyKind prog w K} {A : Around} {E : Value -> Shared -> Prop} {s : Shared} {Q : Value -> Shared -> Prop} (hh : A.handled = none) (L : Addr) (items : Array Value) (n : Nat) (osl : Array (Option Value)) (ps : List (K × Value)) (hl : s.heap.get? L = some { cls := .type "list", data := .seq items n, slots := osl }) (hj : ps.length = items.size)
  (hp:∀ (k:Nat) (p:K × Value),ps[k]?=some p->∃ (a:Addr) (kv:Value),items[k]?=some (.ref a)/\s.heap.IsTuple a #[kv,p.2]/\knd.is p.1 kv=true) (hz:ps.length<=sizeLine)
  (hQ:∀ h' tk,Heap.DictOf knd h' s.heap.objs.size (merged [] ps)->(∀ b o,s.heap.get? b=some o->h'.get? b=some o)->Q (.ref s.heap.objs.size) { s with heap:=h',toks:=tk }):
  wpAny (model prog w) A (call (.type "dict") [.ref L]) Q E s:=by
 have hL:L < s.heap.objs.size:=Heap.lt_size hl
 refine callType_codes (Q₁:=fun obj s₁=>obj=.ref s.heap.objs.size/\s₁={ s with heap:=s.heap.push { cls:=.type "dict",data:=.dict #[] } }) F.kt_called_dict rfl F.entry_dict_init (kt_code_dict_new _ ⟨rfl,rfl⟩) fun obj s₁ h₁=>?_
 obtain⟨rfl,rfl⟩:=h₁
 refine⟨⟨_,Heap.get?_push_size _ rfl,rfl⟩,F.args_dict_init_2 _ _,?_⟩
 have hl1:(s.heap.push { cls:=.type "dict",data:=.dict #[] }).get? L=some { cls:=.type "list",data:=.seq items n,slots:=osl }:=Heap.get?_push_of_some _ hl
 have hT:Shared.TypeIs { s with heap:=s.heap.push { cls:=.type "dict",data:=.dict #[] } } (.ref L) "list":=⟨_,hl1,rfl⟩
 unfold Builtin.«dict.__init__»
 wp_walk using wpAny_typeOf hT,Qik (A:=A.in1.in1) hh hl1
 intro h' tk kp
 have kp':∀ b o,s.heap.get? b=some o->h'.get? b=some o:=fun b o e=>kp b o (Heap.get?_push_of_some _ e)
 have ld:s.heap.objs.size < h'.objs.size:=Heap.lt_size (kp s.heap.objs.size _ (Heap.get?_push_size _ rfl))
 simp only[Option.isNone_none,if_true]
 refine wpAny_bind (wpAny_rule ?_)
 refine wpAny_bind (wpAny_pyIter_list ⟨_,kp' _ _ hl,rfl,n,rfl⟩ ?_)
 refine wpAny_pure ⟨plainId_quiet plD _,?_⟩
 refine Qim (knd:=knd) (A:=A.in1) hh s.heap.objs.size h'.objs.size L items (Nat.ne_of_gt ld) (Nat.ne_of_gt (Heap.lt_size (kp' _ _ hl))) (Nat.ne_of_lt hL) ps [] 0 0 _ _ (by rw[Nat.zero_add];exact hj) ?_ ?_ ?_ ?_ (by simpa using hz) ?_
 ·exact⟨_,Heap.get?_push_size _ rfl,rfl,rfl⟩
 ·exact⟨_,Heap.get?_push_of_some _ (kp' _ _ hl),rfl,n,rfl⟩
 ·intro k p hk
  obtain⟨a,kv,e,⟨o,e2,r⟩,hi⟩:=hp k p hk
  have la:=Heap.lt_size e2
  exact⟨a,kv,by rw[Nat.zero_add];exact e,Nat.ne_of_lt (Nat.lt_trans la ld),Nat.ne_of_lt la,⟨o,Heap.get?_push_of_some _ (kp' _ _ e2),r⟩,hi⟩
 ·exact⟨_,#[],0,Heap.get?_push_of_some _ (kp s.heap.objs.size _ (Heap.get?_push_size _ rfl)),⟨rfl,rfl,by simp⟩,rfl,fun e he=>by simp at he,.nil,by simp⟩
 ·intro h3 t3 dd kp3
  refine⟨rfl,hQ h3 t3 dd fun b o e=>kp3 b o (Nat.ne_of_lt (Heap.lt_size e)) (Nat.ne_of_lt (Nat.lt_trans (Heap.lt_size e) ld)) (Heap.get?_push_of_some _ (kp' _ _ e))⟩
end
section
variable {X:Cx}{pins:List (Addr × Obj)}{s:Shared}{σ:St}{H:Hp}{ρ:List Addr}
theorem Qio {v:V}{d:D}{p:Int × D} (r:Rep X.K ρ H v d) (h:prI d=some p):∃ (a:Addr) (w:V),v=.ref a/\SqT X.K H a [.int p.1,w]/\Rep X.K ρ H w p.2:=by
 obtain⟨k,e,rfl,rfl⟩:∃ k e,d=.tup [.int k,e]/\p=(k,e):=by
  unfold prI at h
  split at h
  ·cases h;exact⟨_,_,rfl,rfl⟩
  ·cases h
 cases r with
 | @tup a ws es hq rq=>
  cases rq with
  | cons r1 rq=>
   cases rq with
   | cons r2 rq=>
    cases rq
    cases r1
    exact⟨a,_,rfl,hq,r2⟩
theorem Qip {k:Int}{w:V}{us:List Value} (r:Vals [.int k,w] us):∃ x y,us=[x,y]/\RelV (.int k) x/\RelV w y:=by
 cases r with
 | cons r1 r=>
  cases r with
  | cons r2 r=>cases r;exact⟨_,_,rfl,r1,r2⟩
theorem Qiq (I : Inv X pins σ H s) : ∀ {ds : List D} {vs : List V} {ps : List (Int × D)} {its : List Value}, Reps X.K ρ H vs ds -> prsI ds = some ps -> Vals vs its ->
  ∃ (qs:List (Key × V)) (rs:List (Key × Value)),KR X.K ρ H qs (ps.map fun p=>(.int p.1,p.2))/\KV qs rs/\rs.length=its.length/\qs.length=ps.length/\∀ (i:Nat) (p:Key × Value),rs[i]?=some p->∃ (a:Addr) (kv:Value),its[i]?=some (.ref a)/\s.heap.IsTuple a #[kv,p.2]/\(mixKind X.prog X.w).is p.1 kv=true:=by
 intro ds
 induction ds with
 | nil=>
  intro vs ps its r h v
  cases r
  cases v
  cases h
  exact⟨[],[],.nil,.nil,rfl,rfl,fun i p z=>by simp at z⟩
 | cons d ds ih=>
  intro vs ps its r h v
  cases r with
  | cons r t=>
   cases v with
   | cons rv tv=>
    unfold prsI at h
    rw[Option.bind_eq_some_iff]at h
    obtain⟨p,hp,h⟩:=h
    rw[Option.map_eq_some_iff]at h
    obtain⟨ps,hps,rfl⟩:=h
    obtain⟨qs,rs,k1,k2,k3,k4,k5⟩:=ih t hps tv
    obtain⟨a,w,rfl,hq,r2⟩:=Qio r hp
    cases rv
    obtain⟨us,ru,pt,_⟩:=I.tuple hq
    obtain⟨x,y,rfl,ru1,ru3⟩:=Qip ru
    refine⟨(.inl p.1,w)::qs,(.inl p.1,y)::rs,.cons ⟨rfl,r2⟩ k1,.cons ⟨rfl,ru3⟩ k2,by simp[k3],by simp[k4],fun i p z=>?_⟩
    cases i with
    | zero=>cases z;exact⟨a,x,rfl,pt,QcN (k:=.inl _) ru1⟩
    | succ i=>exact k5 i p z
theorem Qir (hc:X.calm=true):CallR X (.type "dict") (lOf X.K dictLL):=by
 intro pins s σ H xs us Q I r h
 obtain⟨a,vs,ρ,st,ds,rfl,hv,sr,rs,p⟩:=h
 obtain⟨u,rfl,rx⟩:=Qbs r
 cases rx
 obtain⟨its,rv,⟨⟨oc,od,odt,osl⟩,n,g,c1,c2,c3⟩,hz⟩:=I.list hv
 simp only at c1 c2 c3
 subst c1 c2 c3
 unfold dictLL at p
 cases hps:prsI ds with
 | none=>rw[hps]at p;exact p.elim
 | some ps=>
  rw[hps]at p
  obtain⟨hk,p2⟩:=Post.chk p
  obtain⟨qs,rr,k1,k2,k3,k4,k5⟩:=Qiq I rs hps rv
  have lz:rr.length<=sizeLine:=by rw[<- KV.length k2,k4];exact Nat.le_trans hk (by decide)
  refine Qin (knd:=mixKind X.prog X.w) (I.ok.hd hc) a its.toArray n osl rr g (by simpa using k3) (fun k p z=>by simpa using k5 k p z) lz fun h' tk dd kp=>?_
  have hn:=I.hok.fresh (Nat.le_refl s.heap.objs.size)
  have lm:(mergeK [] qs).length<=sizeLine:=by
   have h1:=Qc3 qs []
   rw[List.length_nil]at h1
   rw[sizeLine_eq];ac_nf
  refine⟨.ref s.heap.objs.size,_,I.laid (t':=tk) (o:=.dK (mergeK [] qs)) kp (Nat.le_refl _) (QcX lm (beq_eq_false_iff_ne.mpr (Ne.symm (Nat.ne_of_lt I.big))) (k2.merge .nil) dd),rfl,?_⟩
  have p3:∀ ρ' H',Ex ρ H ρ' H'->SR X.K ρ' H' (st++[.dct false (mgK [] (ps.map fun p=>(.int p.1,p.2)))])->∀ v,Rep X.K ρ' H' v (.dic st.length)->Q v H':=p2
  refine p3 (ρ++[s.heap.objs.size]) _ (Ex.newO hn) ((sr.new hn).keepO (sr.fresh hn) ⟨_,Qai,KR.merge (k1.up (Ex.new hn).up) .nil⟩) _ (.dic ⟨_,Qai,.inl rfl⟩ ?_)
  rw[<- sr.len];simp
end
theorem Qis:fillsNumberSlot (.type "tuple") "mul"=pure false:=PySem.fillsNumberSlot_seq F.slot_tuple_mul.lookup (by decide) F.slot_tuple_rmul.lookup (by decide)
theorem rp_t:seqRepeat? (.type "tuple")=pure (some (.builtin "tuple.__mul__")):=by
 unfold seqRepeat?
 have e1:seqSlot? (.type "tuple") (Str.ofString "__mul__")=pure (some (.builtin "tuple.__mul__")):=PySem.seqSlot_of F.slot_tuple_mul.lookup (by decide)
 have e2:seqSlot? (.type "tuple") (Str.ofString "__rmul__")=pure (some (.builtin "tuple.__rmul__")):=PySem.seqSlot_of F.slot_tuple_rmul.lookup (by decide)
 rw[e1,e2]
 rfl
theorem rm_t (a:Int) (t:Tok) (l:Addr) (its:Array Value) (n:Nat) (dd:Option Addr) (sl:Array (Option Value)):Meets (Builtin.«int.__rmul__» { pos:=[.int a t,.ref l] }) fun _ R s=>s.heap.get? l=some { cls:=.type "tuple",dict:=dd,data:=.seq its n,slots:=sl }/\R (.ok (.ret .notImplemented)) s:=by
 intro prog w A R s pq125;obtain⟨hl,h⟩:=pq125
 unfold Builtin.«int.__rmul__»
 have hT:s.TypeIs (.ref l) "tuple":=⟨_,hl,rfl⟩
 wp_walk using wpAny_typeOf hT
 exact h
theorem tm_t (l:Addr) (its:Array Value) (n:Nat) (dd:Option Addr) (sl:Array (Option Value)) (k:Int) (t:Tok) (h2:2<=k) (hk:k<=1000) (h0:its.isEmpty=false) (hz:its.size<=1000) (hs:(List.foldl (fun x1 x2=>x1++x2) #[] (List.replicate k.toNat its)).size<=sizeLine):Meets (Builtin.«tuple.__mul__» { pos:=[.ref l,.int k t] }) fun _ R s=>s.heap.get? l=some { cls:=.type "tuple",dict:=dd,data:=.seq its n,slots:=sl }/\R (.ok (.ret (.ref s.heap.objs.size))) { s with heap:=s.heap.push { cls:=.type "tuple",data:=.seq (List.foldl (fun x1 x2=>x1++x2) #[] (List.replicate k.toNat its)) } }:=by
 intro prog w A R s pq126;obtain⟨hl,h⟩:=pq126
 unfold Builtin.«tuple.__mul__»
 have hT:s.TypeIs (.ref l) "tuple":=⟨_,hl,rfl⟩
 have z1:(its.size:Int) * k<=1000 * 1000:=Int.mul_le_mul (by ac_nf) hk (by ac_nf) (by ac_nf)
 have i1:(decide (k < -2 ^ 63) || decide (k ≥ 2 ^ 63))=false:=by
  rw[Bool.or_eq_false_iff];exact⟨decide_eq_false (by ac_nf),decide_eq_false (by ac_nf)⟩
 have i2:(its.isEmpty || k == 1)=false:=by
  rw[h0,Bool.false_or];exact beq_eq_false_iff_ne.mpr (by ac_nf)
 have i3:(decide (k<=0) || its.isEmpty)=false:=by
  rw[h0,Bool.or_false];exact decide_eq_false (by ac_nf)
 have i5:Builtin.Tuple.tupleTooMany (its.size * k)=false:=by
  unfold Builtin.Tuple.tupleTooMany
  have:(1000000:Int)<=(sizeLine:Int):=by decide
  exact decide_eq_false (by ac_nf)
 wp_walk using wpAny_typeOf hT
 rw[if_neg (by rw[i1];exact Bool.false_ne_true)]
 wp_walk using wpAny_typeOf hT
 rw[if_neg (by rw[i2];exact Bool.false_ne_true)]
 wp_walk using wpAny_typeOf hT
 rw[if_neg (by rw[i3];exact Bool.false_ne_true)]
 wp_walk using wpAny_typeOf hT
 rw[if_neg (by ac_nf)]
 wp_walk using wpAny_typeOf hT
 exact h
section
variable {X:Cx}
theorem Qit:OpR X (binaryOp .Mult) (rOf X.K mulTD):=by
 intro pins s σ H x y v u Q I rx ry pq127;obtain⟨ρ,st,d,e,sr,r1,r2,p⟩:=pq127
 cases r1 with
 | @tup a vs ds hq rq=>
  cases r2 with
  | int k=>
   obtain⟨⟨h2,hk,hz,hne⟩,p2⟩:=Post.chk p
   cases rx
   obtain⟨t,rfl⟩:=ry
   obtain⟨its,rv,pl,_⟩:=I.tuple hq
   obtain⟨⟨cls,dd,data,sl⟩,ho,hc,n,hd⟩:=pl
   simp only at hc hd
   subst hc hd
   have hl:its.length=ds.length:=by rw[<- rv.length,rq.length]
   have hnew:List.foldl (fun x1 x2=>x1++x2) #[] (List.replicate k.toNat its.toArray)=(List.replicate k.toNat its).flatten.toArray:=by
    have:=Qcs its k.toNat []
    rw[List.nil_append]at this
    exact this
   have hlen:(List.replicate k.toNat its).flatten.length<=sizeLine:=by
    have e1:(List.replicate k.toNat its).flatten.length=k.toNat * its.length:=Qcy its k.toNat
    have e2:k.toNat * its.length<=1000 * 1000:=Nat.mul_le_mul (by ac_nf) (by ac_nf)
    rw[e1]
    exact Nat.le_trans e2 (by decide)
   have hT:s.TypeIs (.ref a) "tuple":=⟨_,ho,rfl⟩
   refine wpAny_binaryOp_repeat_ref (T:="tuple") (U:="int") (by decide) hT (fun s'=>typeIs_int s' k t) Qis F.fills_int_mul F.slot_int_rmul rp_t F.slot_int_index.lookup
    (call_meets F.slot_int_rmul (typeIs_int s k t) F.entry_int_rmul (F.args_int_rmul_2 _ _) (rm_t k t a its.toArray n dd sl)
     ⟨ho,rfl,hT,call_meets F.slot_tuple_mul hT F.entry_tuple_mul (F.args_tuple_mul_2 _ _) (tm_t a its.toArray n dd sl k t h2 hk ?_ (by rw[List.size_toArray];ac_nf) (by rw[hnew];exact hlen)) ⟨ho,?_⟩⟩)
   ·cases its with
    | nil=>exact absurd (List.length_eq_zero_iff.mp (hl.symm.trans rfl)) hne
    | cons=>rfl
   ·rw[hnew]
    have hn:=I.hok.fresh (Nat.le_refl s.heap.objs.size)
    refine⟨.ref s.heap.objs.size,_,I.laid (t':=s.toks) (o:=.tup (List.replicate k.toNat vs).flatten) (fun b o e=>Heap.get?_push_of_some _ e) (Nat.le_refl _) ⟨?_,(List.replicate k.toNat its).flatten,L2.Vals.rep rv k.toNat,IsTupD.new _ _⟩,rfl,?_⟩
    ·have e1:(List.replicate k.toNat vs).flatten.length=(List.replicate k.toNat its).flatten.length:=(L2.Vals.rep rv k.toNat).length
     rw[e1];exact hlen
    ·exact p2 _ _ (Ex.new hn) (sr.new hn) _ (.tup (SqT.of Qai) ((Reps.rep rq k.toNat).mono (Ex.new hn)))
  | _=>exact (show False from p).elim
 | _=>exact (show False from p).elim
end
section
def mIndexT:RuE:=meth1 "index" cIndexT (fun c p=>c.tag p 13) fun u o a b f l s p=>Qid u o a b f l s p
def mPopAt:RuE:=meth1 "pop" cPopAt noTag fun _ o a b f l s p=>Qie o a b f l s p
def bDictL:RuE:=bltTmp "dict" dictLL fun c g m a s=>Qfe (Qir c) g m (by nofun) a (QgU (by nofun)) (by nofun) s
def rTupRng:RuE:=⟨fun q c e=>match e with
 | .Call (.Name x _) [.Call (.Name y _) [a] [] _] [] _=>if x=Str.ofString "tuple"/\y=Str.ofString "range"/\c.bl x=true/\c.bl y=true/\plE a=true then (q.e c a).bind fun fa=>some (c1 tupRngD fa) else none
 | _=>none,fun {q} hq {X c} g {e r} z=>by
 split at z
 ·simp only[Option.ite_none_right_eq_some,Option.bind_eq_some_iff]at z
  obtain⟨⟨rfl,rfl,h1,h2,hp⟩,fa,ha,z⟩:=z
  cases z
  exact Qij g.S.calm (g.gl h1).1 (g.gl h1).2 (g.gl h2).1 (g.gl h2).2 (hq.e g ha) (QgA hp) rfl
 ·cases z⟩
def rMulT:RuE:=⟨fun q c e=>match e with
 | .BinOp a op b p=>if op=.Mult/\c.tag p 14=true then (q.e c a).bind fun fa=>(q.e c b).bind fun fb=>some (c2 mulTD fa fb) else none
 | _=>none,fun {q} hq {X c} g {e r} z=>by
 split at z
 ·simp only[Option.ite_none_right_eq_some,Option.bind_eq_some_iff]at z
  obtain⟨⟨rfl,_⟩,fa,ha,fb,hb,z⟩:=z
  cases z
  exact Qdp Qit (hq.e g ha) (hq.e g hb)
 ·cases z⟩
def sTupCell3:RuS:=⟨fun q c s=>match s with
 | .Assign [.Tuple [.Name x p1,.Name y p2,.Name w p4] k p] (.Tuple vs k2 p3) _=>if c.top=true/\c.sc.names.lookup x=some .cell/\c.sc.names.lookup y=some .cell/\c.sc.names.lookup w=some .cell then (q.e c (.Tuple vs k2 p3)).bind fun f=>(q.g c (.Tuple [.Name x p1,.Name y p2,.Name w p4] k p)).bind fun h=>some (sAsg h f) else none
 | _=>none,fun {q} hq {X c} g {s r} z=>by
 split at z
 ·simp only[Option.ite_none_right_eq_some,Option.bind_eq_some_iff]at z
  obtain⟨⟨ht,hx,hy,hw⟩,f,hf,h,hh,z⟩:=z
  cases z
  rename_i x p1 y p2 w p4 k p vs k2 p3 s
  have e1:(X.env.kindOf x == some NameKind.local)=false:=by rw[(g.kd ht).2 x,hx];rfl
  have e2:(X.env.kindOf y == some NameKind.local)=false:=by rw[(g.kd ht).2 y,hy];rfl
  have e3:(X.env.kindOf w == some NameKind.local)=false:=by rw[(g.kd ht).2 w,hw];rfl
  refine QeT (hq.e g hf) (hq.g g hh) rfl ?_ rfl
  unfold swappedStores
  simp only[e1,e2,e3,List.filterMap,Bool.false_and,Bool.false_eq_true,if_false]
  simp only[pure_bind,List.length_nil,List.length_cons]
  split
  ·rfl
  ·split
   ·rfl
   ·rfl
 ·cases z⟩
end
end MM
namespace My
open PySem MM
def j9 : CS :=
  (sSeq (sRet (c2 addD (cCon (.int 1)) (cTmp maxD (aComp 1 [1] (iSeq (cVar 0)) (gVar 0) tTrue (c2 subsD (c2 subsD (cVar 0) (cVar 1)) (cCon (.int 1)))))))
  sNext)
@[irreducible] def jw:List D->M D:=runDef 2 j9
def j7 : CS :=
  (sSeq (sIf (tCmpB (c2 neD (c1 lenD (cVar 1)) (c1 lenD (c2 subsD (cVar 0) (cCon (.int 0))))))
   (sSeq (sRet (cCon (.bl false)))
   sNext)
   sNext)
  (sSeq (sRet (cTmp allD (aComp 2 [0] (iSeq (cVar 1)) (gTupD 2 (gsCons (gVar 0) (gsCons (gVar 1) gsNil))) tTrue (cAnd (cChain leD ltD (cCon (.int 0)) (cVar 0) (c1 lenD (cVar 2))) (c2 geD (cVar 1) (cCon (.int 0)))))))
  sNext))
@[irreducible] def jr:List D->M D:=runDef 2 j7
def jL : CS :=
  (sSeq (sRet (cKeep (aComp 1 [0] (MM.iRng1 (c1 lenD (c2 subsD (cVar 0) (cCon (.int 0))))) (gVar 0) tTrue (cCall jw (cCons (cVar 1) (cCons (cVar 0) cNil))))))
  sNext)
@[irreducible] def jg:List D->M D:=runDef 1 jL
def jZ : CS :=
  (sSeq (sRet (cTmp allD (aComp 1 [1] (iSeq (cVar 0)) (gVar 0) tTrue (cChain leD ltD (cCon (.int 0)) (cVar 0) (c1 lenD (cVar 1))))))
  sNext)
@[irreducible] def jl:List D->M D:=runDef 2 jZ
def jT : CS :=
  (sSeq (sIf (tCmpB (c2 eqD (c2 subsD (cVar 2) (cCon (.int 0))) (cCon (.str "settle"))))
   (sSeq (sRet (c2 inD (c2 subsD (cVar 2) (cCon (.int 1))) (cTup (cCons (cCon (.int 0)) (cCons (cCon (.int 1)) cNil)))))
   sNext)
   sNext)
  (sSeq (sAsg (gVar 3) (c2 subsD (cVar 2) (cCon (.int 1))))
  (sSeq (sAsg (gVar 4) (c2 subsD (cVar 2) (cCon (.int 2))))
  (sSeq (sAsg (gVar 5) (c2 subsD (cVar 2) (cCon (.int 3))))
  (sSeq (sIf (tOrB (tNotB (tCmpB (cChain leD ltD (cCon (.int 0)) (cVar 3) (c1 lenD (cVar 0))))) (tNotB (tCmpB (cChain leD ltD (cCon (.int 0)) (cVar 4) (c1 lenD (c2 subsD (cVar 0) (cVar 3)))))))
   (sSeq (sRet (cCon (.bl false)))
   sNext)
   sNext)
  (sSeq (sRet (cAnd (c2 eqD (c1 lenD (cVar 5)) (c2 subsD (c2 subsD (cVar 0) (cVar 3)) (cVar 4))) (cCall jl (cCons (cVar 5) (cCons (cVar 1) cNil)))))
  sNext))))))
@[irreducible] def jv:List D->M D:=runDef 6 jT
def jH : CS :=
  (sSeq (sRet (cTup (cCons (c2 subsD (cVar 0) (cCon (.int 0))) (cCons (cTmp tupL (aComp 1 [0] (iSeq (cVar 1)) (gVar 0) tTrue (c2 subsD (c2 subsD (cVar 1) (cCon (.int 1))) (cVar 0)))) cNil))))
  sNext)
@[irreducible] def jb:List D->M D:=runDef 2 jH
def jW : CS :=
  (sSeq (sRet (cTmp dictLL (aComp 2 [] (iEnum (cVar 0)) (gTupD 2 (gsCons (gVar 0) (gsCons (gVar 1) gsNil))) tTrue (cTup (cCons (cVar 1) (cCons (cVar 0) cNil))))))
  sNext)
@[irreducible] def jt:List D->M D:=runDef 1 jW
def j8 : CS :=
  (sSeq (sRet (cIfE (tCmpB (c2 eqD (c2 subsD (cVar 0) (cCon (.int 0))) (cCon (.str "settle")))) (cVar 0) (cTup (cCons (cCon (.str "do")) (cCons (c2 subsD (cVar 1) (c2 subsD (cVar 0) (cCon (.int 1)))) (cCons (c2 subsD (cVar 0) (cCon (.int 2))) (cCons (c2 subsD (cVar 0) (cCon (.int 3))) cNil)))))))
  sNext)
@[irreducible] def jx:List D->M D:=runDef 2 j8
def j2 : CS :=
  (sSeq (sAsg (gVar 2) (cKeep (aComp 1 [] (iTmp (aSlice (cVar 0) (oSome (cVar 1)) (oSome (cCon (.int 63))))) (gVar 0) tTrue (c2 max2D (cVar 0) (c2 subD (cCon (.int 0)) (cVar 0))))))
  (sSeq (sAsg (gVar 3) (c2 addD (cCon (.int 7919)) (cVar 1)))
  (sSeq (sFor (iSeq (cVar 2)) (gVar 4)
   (sSeq (sAsg (gVar 3) (c2 modD (c2 addD (c2 mulD (cVar 3) (cCon (.int 69621))) (c2 modD (cVar 4) (cCon (.int 2147483629)))) (cCon (.int 2147483647))))
   sNext))
  (sSeq (sRet (cDisp [.str "seed",.str "number",.str "left"] (cCons (cVar 3) (cCons (cCon (.int 0)) (cCons (cKeep (aRev (aComp 1 [] (iSeq (cVar 2)) (gVar 0) (tCmpB (c2 geD (cVar 0) (c2 powD (cCon (.int 10)) (cCon (.int 18))))) (cVar 0)))) cNil)))))
  sNext))))
@[irreducible] def jD:List D->M D:=runDef 5 j2
def j3 : CS :=
  (sSeq (sWhile (tAndB (tCmpB (c2 eqD (c2 subsD (cVar 0) (cCon (.str "number"))) (cCon (.int 0)))) (tCmpB (c2 gtD (c1 lenD (c2 subsD (cVar 0) (cCon (.str "left")))) (cCon (.int 0)))))
   (sSeq (sAsg (gSubD (cVar 0) (cCon (.str "number"))) (cPop (c2 subsD (cVar 0) (cCon (.str "left")))))
   sNext))
  (sSeq (sAsg (gVar 2) (c2 subsD (cVar 0) (cCon (.str "number"))))
  (sSeq (sIf (tCmpB (c2 gtD (cVar 2) (cCon (.int 0))))
   (sSeq (sAsg (gSubD (cVar 0) (cCon (.str "number"))) (c2 fdivD (cVar 2) (cVar 1)))
   (sSeq (sRet (c2 modD (cVar 2) (cVar 1)))
   sNext))
   sNext)
  (sSeq (sAsg (gVar 3) (c2 modD (c2 addD (c2 mulD (c2 subsD (cVar 0) (cCon (.str "seed"))) (cCon (.int 48271))) (cCon (.int 7919))) (cCon (.int 2147483647))))
  (sSeq (sAsg (gSubD (cVar 0) (cCon (.str "seed"))) (c2 modD (c2 addD (c2 mulD (cVar 3) (cCon (.int 40692))) (cCon (.int 104729))) (cCon (.int 2147483399))))
  (sSeq (sAsg (gVar 4) (c2 modD (c2 mulD (c2 subsD (cVar 0) (cCon (.str "seed"))) (c2 subsD (cVar 0) (cCon (.str "seed")))) (cCon (.int 2147483563))))
  (sSeq (sRet (c2 modD (c2 addD (c2 mulD (c2 modD (c2 mulD (cVar 3) (cVar 3)) (cCon (.int 2147483629))) (cCon (.int 2147483563))) (cVar 4)) (cVar 1)))
  sNext)))))))
@[irreducible] def ja:List D->M D:=runDef 5 j3
def jY : CS :=
  (sSeq (sRet (cTmp tupL (aComp 1 [0] (MM.iRng1 (cVar 0)) (gVar 0) tTrue (c2 addD (cTup (cCons (cTup (cCons (cVar 0) (cCons (cVar 0) cNil))) cNil)) (cTmp tupL (aComp 1 [] (MM.iRng1 (cVar 1)) (gVar 0) tTrue (cTup (cCons (cVar 0) (cCons (cCon (.int 0)) cNil)))))))))
  sNext)
@[irreducible] def je:List D->M D:=runDef 1 jY
def jX : CS :=
  (sSeq (sAsg (gVar 1) (cCall ja (cCons (cVar 0) (cCons (cCon (.int 7)) cNil))))
  (sSeq (sAsg (gVar 2) (c2 addD (cCon (.int 2)) (cCall ja (cCons (cVar 0) (cCons (cCon (.int 2)) cNil)))))
  (sSeq (sIf (tCmpB (c2 ltD (cVar 1) (cCon (.int 2))))
   (sSeq (sRet (cCall je (cCons (cVar 2) cNil)))
   sNext)
   sNext)
  (sSeq (sIf (tCmpB (c2 eqD (cVar 1) (cCon (.int 2))))
   (sSeq (sRet (cTmp tupL (aComp 1 [2] (MM.iRng1 (cVar 2)) (gVar 0) tTrue (cTmp tupL (aComp 1 [0] (MM.iRng1 (cVar 1)) (gVar 0) tTrue (cTup (cCons (cVar 0) (cCons (cVar 1) cNil))))))))
   sNext)
   sNext)
  (sSeq (sIf (tCmpB (c2 eqD (cVar 1) (cCon (.int 3))))
   (sSeq (sRet (cTmp tupL (aComp 1 [2] (MM.iRng1 (cVar 2)) (gVar 0) tTrue (cTup (cCons (cTup (cCons (c2 modD (c2 addD (cVar 0) (cCon (.int 1))) (cVar 1)) (cCons (cVar 0) cNil))) cNil)))))
   sNext)
   sNext)
  (sSeq (sIf (tCmpB (c2 eqD (cVar 1) (cCon (.int 4))))
   (sSeq (sRet (cTup (cCons (cTup (cCons (cTup (cCons (cCon (.int 1)) (cCons (cCon (.int 1)) cNil))) (cCons (cTup (cCons (cCon (.int 2)) (cCons (cCon (.int 2)) cNil))) cNil))) (cCons (cTup (cCons (cTup (cCons (cCon (.int 1)) (cCons (cCon (.int 1)) cNil))) (cCons (cTup (cCons (cCon (.int 1)) (cCons (cCon (.int 1)) cNil))) cNil))) (cCons (cTup (cCons (cTup (cCons (cCon (.int 2)) (cCons (cCon (.int 2)) cNil))) (cCons (cTup (cCons (cCon (.int 2)) (cCons (cCon (.int 2)) cNil))) cNil))) cNil)))))
   sNext)
   sNext)
  (sSeq (sAsg (gVar 2) (c2 addD (cCon (.int 1)) (cCall ja (cCons (cVar 0) (cCons (cCon (.int 3)) cNil)))))
  (sSeq (sAsg (gVar 3) (c2 addD (cCon (.int 1)) (cCall ja (cCons (cVar 0) (cCons (cCon (.int 3)) cNil)))))
  (sSeq (sAsg (gVar 4) (cKeep (aDisp cNil)))
  (sSeq (sFor (MM.iRng1 (cVar 2)) (gVar 5)
   (sSeq (sExp (cAppend (cVar 4) (cTmp tupL (aComp 1 [0,2] (MM.iRng1 (cVar 3)) (gVar 0) tTrue (cTup (cCons (cCall ja (cCons (cVar 1) (cCons (cVar 2) cNil))) (cCons (cCall ja (cCons (cVar 1) (cCons (cCon (.int 3)) cNil))) cNil)))))))
   sNext))
  (sSeq (sRet (c1 tupleD (cVar 4)))
  sNext)))))))))))
@[irreducible] def ju:List D->M D:=runDef 6 jX
def jR : CS :=
  (sSeq (sRet (c2 addD (cCon (.int 1)) (cTmp maxD (aComp 1 [1] (iSeq (cVar 0)) (gVar 0) tTrue (c2 subsD (c2 subsD (cVar 0) (cVar 1)) (cCon (.int 1)))))))
  sNext)
@[irreducible] def jh:List D->M D:=runDef 2 jR
def j5 : CS :=
  (sSeq (sAsg (gVar 3) (cKeep (aDisp cNil)))
  (sSeq (sFor (MM.iRng1 (c2 subD (cVar 2) (cCon (.int 2)))) (gVar 4)
   (sSeq (sAsg (gVar 5) (cCall ja (cCons (cVar 0) (cCons (c1 lenD (cVar 1)) cNil))))
   (sSeq (sAsg (gVar 6) (cCall ja (cCons (cVar 0) (cCons (c1 lenD (c2 subsD (c2 subsD (c2 subsD (cVar 1) (cVar 5)) (cCon (.int 0))) (cCon (.int 0)))) cNil))))
   (sSeq (sAsg (gVar 7) (cKeep (aDisp cNil)))
   (sSeq (sFor (MM.iRng1 (cCall jh (cCons (c2 subsD (c2 subsD (cVar 1) (cVar 5)) (cCon (.int 0))) (cCons (cVar 6) cNil)))) (gVar 8)
    (sSeq (sAsg (gVar 9) (c2 addD (c2 addD (cVar 4) (cCon (.int 1))) (cCall ja (cCons (cVar 0) (cCons (c2 subD (c2 subD (cVar 2) (cCon (.int 1))) (cVar 4)) cNil)))))
    (sSeq (sExp (cAppend (cVar 7) (cTmpSub (aDisp (cCons (cVar 9) (cCons (cCall ja (cCons (cVar 0) (cCons (cVar 2) cNil))) cNil))) (c1 intD (c2 eqD (cCall ja (cCons (cVar 0) (cCons (cCon (.int 5)) cNil))) (cCon (.int 0)))))))
    sNext)))
   (sSeq (sExp (cAppend (cVar 3) (cTup (cCons (cCon (.str "do")) (cCons (cVar 5) (cCons (cVar 6) (cCons (c1 tupleD (cVar 7)) cNil)))))))
   sNext))))))
  (sSeq (sAsg (gVar 3) (c2 addD (cVar 3) (cKeep (aDisp (cCons (cTup (cCons (cCon (.str "settle")) (cCons (cCon (.int 0)) cNil))) (cCons (cTup (cCons (cCon (.str "settle")) (cCons (cCon (.int 1)) cNil))) cNil))))))
  (sSeq (sRet (cTup (cCons (cTup (cCons (cCall ja (cCons (cVar 0) (cCons (cVar 2) cNil))) (cCons (cCall ja (cCons (cVar 0) (cCons (cVar 2) cNil))) cNil))) (cCons (c1 tupleD (cVar 3)) cNil))))
  sNext))))
@[irreducible] def jC:List D->M D:=runDef 10 j5
def jM : CS :=
  (sSeq (sAsg (gVar 1) (c2 addD (cCon (.int 2)) (c1 intD (c2 eqD (cCall ja (cCons (cVar 0) (cCons (cCon (.int 4)) cNil))) (cCon (.int 0))))))
  (sSeq (sAsg (gVar 2) (cTmpSub (aDisp (cCons (c2 addD (cCon (.int 1)) (cCall ja (cCons (cVar 0) (cCons (cCon (.int 2)) cNil)))) (cCons (cCon (.int 1)) cNil))) (c2 subD (cVar 1) (cCon (.int 2)))))
  (sSeq (sAsg (gVar 3) (cKeep (aComp 1 [0] (MM.iRng1 (cVar 2)) (gVar 0) tTrue (cCall ju (cCons (cVar 1) cNil)))))
  (sSeq (sAsg (gVar 4) (cTmp tupL (aComp 1 [0] (iSeq (cVar 3)) (gVar 0) tTrue (cTup (cCons (cVar 0) (cCons (cCall ja (cCons (cVar 1) (cCons (c1 lenD (cVar 0)) cNil))) cNil))))))
  (sSeq (sAsg (gVar 5) (cTmpSub (aDisp (cCons (cCon (.int 2)) (cCons (cCon (.int 1)) cNil))) (c2 subD (cVar 1) (cCon (.int 2)))))
  (sSeq (sRet (cTup (cCons (cVar 4) (cCons (cTmp tupL (aComp 1 [0,4,5] (MM.iRng1 (cVar 1)) (gVar 0) tTrue (cCall jC (cCons (cVar 1) (cCons (cVar 2) (cCons (c2 addD (cCon (.int 2)) (cCall ja (cCons (cVar 1) (cCons (c2 addD (cVar 3) (cCon (.int 1))) cNil)))) cNil)))))) cNil))))
  sNext))))))
@[irreducible] def jo:List D->M D:=runDef 6 jM
def jK : CS :=
  (sSeq (sAsg (gVar 4) (cKeep (aDisp cNil)))
  (sSeq (sFor (MM.iRng1 (cCon (.int 2))) (gVar 5)
   (sSeq (sAsg (gVar 6) (cKeep (aTimes (aDisp (cCons (cCon (.int 4)) cNil)) (cCall jh (cCons (cVar 1) (cCons (cVar 3) cNil))))))
   (sSeq (sAsg (gSubD (cVar 6) (c2 subsD (c2 subsD (c2 subsD (cVar 1) (cVar 2)) (cVar 3)) (cCon (.int 1)))) (c2 addD (cCon (.int 5)) (cVar 5)))
   (sSeq (sAsg (gVar 4) (c2 addD (cVar 4) (cKeep (aDisp (cCons (cTup (cCons (cCon (.str "do")) (cCons (cVar 0) (cCons (c2 addD (cCon (.int 1)) (cVar 5)) (cCons (cTup (cCons (c2 addD (c2 mulD (cCon (.int 2)) (cVar 5)) (cCon (.int 1))) cNil)) cNil))))) (cCons (cTup (cCons (cCon (.str "do")) (cCons (cCon (.int 2)) (cCons (cVar 3) (cCons (c1 tupleD (cVar 6)) cNil))))) cNil))))))
   sNext))))
  (sSeq (sRet (cTup (cCons (cTup (cCons (cCon (.int 0)) (cCons (cCon (.int 2)) cNil))) (cCons (c2 addD (c1 tupleD (cVar 4)) (cTup (cCons (cTup (cCons (cCon (.str "do")) (cCons (c2 subD (cCon (.int 1)) (cVar 0)) (cCons (cCon (.int 0)) (cCons (cTup (cCons (cCon (.int 5)) (cCons (cCon (.int 6)) cNil))) cNil))))) (cCons (cTup (cCons (cCon (.str "settle")) (cCons (cCon (.int 0)) cNil))) (cCons (cTup (cCons (cCon (.str "settle")) (cCons (cCon (.int 1)) cNil))) cNil))))) cNil))))
  sNext)))
@[irreducible] def jj:List D->M D:=runDef 7 jK
def j6 : CS :=
  (sSeq (sAsg (gTupD 3 (gsCons (gVar 1) (gsCons (gVar 2) (gsCons (gVar 3) gsNil)))) (cTup (cCons (cTup (cCons (cTup (cCons (cTup (cCons (cCon (.int 1)) (cCons (cCon (.int 0)) cNil))) cNil)) (cCons (cTup (cCons (cTup (cCons (cCon (.int 1)) (cCons (cCon (.int 1)) cNil))) cNil)) cNil))) (cCons (cCon (.int 0)) (cCons (cCon (.int 0)) cNil)))))
  (sSeq (sAsg (gVar 4) (cCall ja (cCons (cVar 0) (cCons (cCon (.int 3)) cNil))))
  (sSeq (sIf (tCmpB (c2 eqD (cVar 4) (cCon (.int 0))))
   (sSeq (sAsg (gTupD 2 (gsCons (gVar 1) (gsCons (gVar 3) gsNil))) (cTup (cCons (cTmp tupL (aComp 1 [] (MM.iRng1 (cCon (.int 2))) (gVar 0) tTrue (cTmp tupL (aComp 1 [0] (MM.iRng1 (cCon (.int 2))) (gVar 0) tTrue (cTup (cCons (cVar 0) (cCons (cVar 1) cNil))))))) (cCons (cCon (.int 1)) cNil))))
   sNext)
   sNext)
  (sSeq (sIf (tCmpB (c2 eqD (cVar 4) (cCon (.int 1))))
   (sSeq (sAsg (gVar 1) (cTup (cCons (cTup (cCons (cTup (cCons (cCon (.int 1)) (cCons (cCon (.int 0)) cNil))) cNil)) (cCons (cTup (cCons (cTup (cCons (cCon (.int 2)) (cCons (cCon (.int 1)) cNil))) cNil)) (cCons (cTup (cCons (cTup (cCons (cCon (.int 0)) (cCons (cCon (.int 2)) cNil))) cNil)) cNil)))))
   sNext)
   sNext)
  (sSeq (sAsg (gVar 5) (cTup (cCons (cTup (cCons (cCall je (cCons (cCon (.int 2)) cNil)) (cCons (cCon (.int 0)) cNil))) (cCons (cTup (cCons (cCall je (cCons (cCon (.int 2)) cNil)) (cCons (cCon (.int 0)) cNil))) (cCons (cTup (cCons (cVar 1) (cCons (cVar 2) cNil))) cNil)))))
  (sSeq (sRet (cTup (cCons (cVar 5) (cCons (cTmp tupL (aComp 1 [1,2,3] (MM.iRng1 (cCon (.int 2))) (gVar 0) tTrue (cCall jj (cCons (cVar 0) (cCons (cVar 1) (cCons (cVar 2) (cCons (cVar 3) cNil))))))) cNil))))
  sNext))))))
@[irreducible] def jB:List D->M D:=runDef 6 j6
def jI : CS :=
  (sSeq (sAsg (gVar 1) (cTup (cCons (cTup (cCons (cTup (cCons (cCon (.int 1)) (cCons (cCon (.int 1)) cNil))) (cCons (cTup (cCons (cCon (.int 2)) (cCons (cCon (.int 2)) cNil))) cNil))) (cCons (cTup (cCons (cTup (cCons (cCon (.int 1)) (cCons (cCon (.int 1)) cNil))) (cCons (cTup (cCons (cCon (.int 1)) (cCons (cCon (.int 1)) cNil))) cNil))) (cCons (cTup (cCons (cTup (cCons (cCon (.int 2)) (cCons (cCon (.int 2)) cNil))) (cCons (cTup (cCons (cCon (.int 2)) (cCons (cCon (.int 2)) cNil))) cNil))) cNil)))))
  (sSeq (sAsg (gVar 2) (cTup (cCons (cTup (cCons (cCon (.str "do")) (cCons (cCon (.int 0)) (cCons (cCon (.int 0)) (cCons (cTup (cCons (cCon (.int 2)) (cCons (cCon (.int 2)) (cCons (cCon (.int 3)) cNil)))) cNil))))) (cCons (cTup (cCons (cCon (.str "do")) (cCons (cCon (.int 0)) (cCons (cCon (.int 1)) (cCons (cTup (cCons (cCon (.int 2)) (cCons (cCon (.int 2)) (cCons (cCon (.int 3)) cNil)))) cNil))))) (cCons (cTup (cCons (cCon (.str "settle")) (cCons (cCon (.int 0)) cNil))) (cCons (cTup (cCons (cCon (.str "settle")) (cCons (cCon (.int 1)) cNil))) cNil))))))
  (sSeq (sRet (cTup (cCons (cTup (cCons (cTup (cCons (cVar 1) (cCons (cCon (.int 0)) cNil))) cNil)) (cCons (c2 mulTD (cTup (cCons (cTup (cCons (cTup (cCons (cCon (.int 0)) (cCons (cCon (.int 1)) cNil))) (cCons (cVar 2) cNil))) cNil)) (c2 addD (cCon (.int 2)) (cCall ja (cCons (cVar 0) (cCons (cCon (.int 2)) cNil))))) cNil))))
  sNext)))
@[irreducible] def jn:List D->M D:=runDef 3 jI
def jQ : CS :=
  (sSeq (sAsg (gVar 1) (cTup (cCons (cTup (cCons (cCon (.int 0)) (cCons (cCon (.int 1)) cNil))) (cCons (cTup (cCons (cTup (cCons (cCon (.str "do")) (cCons (cCon (.int 0)) (cCons (cCon (.int 2)) (cCons (cTup (cCons (cCon (.int 2)) cNil)) cNil))))) (cCons (cTup (cCons (cCon (.str "do")) (cCons (cCon (.int 0)) (cCons (cCon (.int 3)) (cCons (cTup (cCons (cCon (.int 3)) cNil)) cNil))))) (cCons (cTup (cCons (cCon (.str "settle")) (cCons (cCon (.int 0)) cNil))) (cCons (cTup (cCons (cCon (.str "settle")) (cCons (cCon (.int 1)) cNil))) cNil))))) cNil))))
  (sSeq (sAsg (gVar 2) (cTup (cCons (cTup (cCons (cCon (.int 0)) (cCons (cCon (.int 0)) cNil))) (cCons (cTup (cCons (cTup (cCons (cCon (.str "do")) (cCons (cCon (.int 0)) (cCons (cCon (.int 0)) (cCons (cTup (cCons (cCon (.int 0)) (cCons (cCon (.int 1)) (cCons (cCon (.int 2)) cNil)))) cNil))))) (cCons (cTup (cCons (cCon (.str "settle")) (cCons (cCon (.int 0)) cNil))) (cCons (cTup (cCons (cCon (.str "settle")) (cCons (cCon (.int 1)) cNil))) cNil)))) cNil))))
  (sSeq (sAsg (gVar 3) (cTmpSub (aDisp (cCons (cTup (cCons (cVar 1) (cCons (cVar 2) cNil))) (cCons (cTup (cCons (cVar 2) (cCons (cVar 1) cNil))) (cCons (cTup (cCons (cVar 1) (cCons (cVar 2) (cCons (cVar 2) cNil)))) cNil)))) (cCall ja (cCons (cVar 0) (cCons (cCon (.int 3)) cNil)))))
  (sSeq (sRet (cTup (cCons (cTup (cCons (cTup (cCons (cCall je (cCons (cCon (.int 3)) cNil)) (cCons (cCon (.int 0)) cNil))) cNil)) (cCons (cVar 3) cNil))))
  sNext))))
@[irreducible] def js:List D->M D:=runDef 4 jQ
def jO : CS :=
  (sSeq (sAsg (gVar 1) (cKeep (aDisp cNil)))
  (sSeq (sFor (MM.iRng1 (cCon (.int 2))) (gVar 2)
   (sSeq (sAsg (gVar 3) (cTmpSub (aDisp (cCons (cTup (cCons (cCon (.int 2)) (cCons (cCon (.int 3)) cNil))) (cCons (cTup (cCons (cCon (.int 1)) (cCons (cCon (.int 0)) cNil))) cNil))) (cCall ja (cCons (cVar 0) (cCons (cCon (.int 2)) cNil)))))
   (sSeq (sAsg (gVar 4) (cKeep (aDisp (cCons (cTup (cCons (cCon (.str "do")) (cCons (cVar 2) (cCons (cCon (.int 2)) (cCons (cTup (cCons (cCon (.int 2)) cNil)) cNil))))) (cCons (cTup (cCons (cCon (.str "do")) (cCons (cVar 2) (cCons (cCon (.int 3)) (cCons (cTup (cCons (cCon (.int 3)) cNil)) cNil))))) (cCons (cTup (cCons (cCon (.str "do")) (cCons (c2 subD (cCon (.int 1)) (cVar 2)) (cCons (cCon (.int 0)) (cCons (cTup (cCons (cCon (.int 4)) (cCons (cCon (.int 4)) (cCons (c2 subsD (cVar 3) (cCon (.int 0))) cNil)))) cNil))))) cNil))))))
   (sSeq (sAsg (gVar 4) (c2 addD (cVar 4) (cKeep (aDisp (cCons (cTup (cCons (cCon (.str "do")) (cCons (c2 subD (cCon (.int 1)) (cVar 2)) (cCons (cCon (.int 0)) (cCons (cTup (cCons (cCon (.int 5)) (cCons (c2 subsD (cVar 3) (cCon (.int 1))) (cCons (cCon (.int 5)) cNil)))) cNil))))) (cCons (cTup (cCons (cCon (.str "settle")) (cCons (cCon (.int 0)) cNil))) (cCons (cTup (cCons (cCon (.str "settle")) (cCons (cCon (.int 1)) cNil))) cNil)))))))
   (sSeq (sExp (cAppend (cVar 1) (cTup (cCons (cTup (cCons (cCon (.int 0)) (cCons (cCon (.int 1)) cNil))) (cCons (c1 tupleD (cVar 4)) cNil)))))
   sNext)))))
  (sSeq (sRet (cTup (cCons (cTup (cCons (cTup (cCons (cCall je (cCons (cCon (.int 3)) cNil)) (cCons (cCon (.int 0)) cNil))) (cCons (cTup (cCons (cCall je (cCons (cCon (.int 3)) cNil)) (cCons (cCon (.int 0)) cNil))) cNil))) (cCons (c1 tupleD (cVar 1)) cNil))))
  sNext)))
@[irreducible] def jq:List D->M D:=runDef 5 jO
def jS : CS :=
  (sSeq (sAsg (gVar 2) (cCall ja (cCons (cVar 0) (cCons (c1 lenD (c2 subsD (cVar 1) (cCon (.int 1)))) cNil))))
  (sSeq (sAsg (gTupD 2 (gsCons (gVar 3) (gsCons (gVar 4) gsNil))) (c2 subsD (c2 subsD (cVar 1) (cCon (.int 1))) (cVar 2)))
  (sSeq (sAsg (gVar 5) (cCall ja (cCons (cVar 0) (cCons (c1 lenD (cVar 4)) cNil))))
  (sSeq (sAsg (gVar 6) (c2 subsD (cVar 4) (cVar 5)))
  (sSeq (sIf (tCmpB (c2 eqD (c2 subsD (cVar 6) (cCon (.int 0))) (cCon (.str "settle"))))
   (sSeq (sAsg (gVar 6) (cTup (cCons (cCon (.str "settle")) (cCons (c2 subD (cCon (.int 1)) (c2 subsD (cVar 6) (cCon (.int 1)))) cNil))))
   sNext)
   (sSeq (sAsg (gVar 7) (c1 listD (c2 subsD (cVar 6) (cCon (.int 3)))))
   (sSeq (sAsg (gSubD (cVar 7) (cCall ja (cCons (cVar 0) (cCons (c1 lenD (cVar 7)) cNil)))) (cCall ja (cCons (cVar 0) (cCons (c1 lenD (cVar 4)) cNil))))
   (sSeq (sAsg (gVar 6) (c2 addD (cSliceW (cVar 6) oNone (oSome (cCon (.int 3)))) (cTup (cCons (c1 tupleD (cVar 7)) cNil))))
   sNext))))
  (sSeq (sAsg (gVar 8) (cTup (cCons (cVar 3) (cCons (c2 addD (c2 addD (cSliceW (cVar 4) oNone (oSome (cVar 5))) (cTup (cCons (cVar 6) cNil))) (cSliceW (cVar 4) (oSome (c2 addD (cVar 5) (cCon (.int 1)))) oNone)) cNil))))
  (sSeq (sRet (cTup (cCons (c2 subsD (cVar 1) (cCon (.int 0))) (cCons (c2 addD (c2 addD (cSliceW (c2 subsD (cVar 1) (cCon (.int 1))) oNone (oSome (cVar 2))) (cTup (cCons (cVar 8) cNil))) (cSliceW (c2 subsD (cVar 1) (cCon (.int 1))) (oSome (c2 addD (cVar 2) (cCon (.int 1)))) oNone)) cNil))))
  sNext)))))))
@[irreducible] def jp:List D->M D:=runDef 9 jS
def jV : CS :=
  (sSeq (sAsg (gVar 1) (cCall ja (cCons (cVar 0) (cCons (cCon (.int 6)) cNil))))
  (sSeq (sIf (tCmpB (c2 ltD (cVar 1) (cCon (.int 2))))
   (sSeq (sRet (cCall jo (cCons (cVar 0) cNil)))
   sNext)
   sNext)
  (sSeq (sIf (tCmpB (c2 eqD (cVar 1) (cCon (.int 2))))
   (sSeq (sAsg (gVar 2) (cCall jB (cCons (cVar 0) cNil)))
   sNext)
   (sSeq (sIf (tCmpB (c2 eqD (cVar 1) (cCon (.int 3))))
    (sSeq (sAsg (gVar 2) (cCall jn (cCons (cVar 0) cNil)))
    sNext)
    (sSeq (sIf (tCmpB (c2 eqD (cVar 1) (cCon (.int 4))))
     (sSeq (sAsg (gVar 2) (cCall js (cCons (cVar 0) cNil)))
     sNext)
     (sSeq (sAsg (gVar 2) (cCall jq (cCons (cVar 0) cNil)))
     sNext))
    sNext))
   sNext))
  (sSeq (sFor (MM.iRng1 (c2 max2D (cCon (.int 0)) (c2 subD (cCall ja (cCons (cVar 0) (cCons (cCon (.int 4)) cNil))) (cCon (.int 1))))) (gVar 3)
   (sSeq (sAsg (gVar 2) (cCall jp (cCons (cVar 0) (cCons (cVar 2) cNil))))
   sNext))
  (sSeq (sRet (cVar 2))
  sNext)))))
@[irreducible] def jA:List D->M D:=runDef 4 jV
def j1 : CS :=
  (sSeq (sAsg (gVar 2) (c1 listRngD (cVar 1)))
  (sSeq (sAsg (gVar 3) (cKeep (aDisp cNil)))
  (sSeq (sWhile (tCmpB (c2 gtD (c1 lenD (cVar 2)) (cCon (.int 0))))
   (sSeq (sExp (cAppend (cVar 3) (cPopAt (cVar 2) (cCall ja (cCons (cVar 0) (cCons (c1 lenD (cVar 2)) cNil))))))
   sNext))
  (sSeq (sRet (c1 tupleD (cVar 3)))
  sNext))))
@[irreducible] def jk:List D->M D:=runDef 4 j1
def jF : CS :=
  (sSeq (sRet (cTup (cCons (c2 subsD (cVar 0) (cCon (.int 0))) (cCons (cTmp tupL (aComp 1 [0] (iSeq (cVar 1)) (gVar 0) tTrue (c2 subsD (c2 subsD (cVar 1) (cCon (.int 1))) (cVar 0)))) cNil))))
  sNext)
@[irreducible] def jf:List D->M D:=runDef 2 jF
def jE : CS :=
  (sSeq (sAsg (gVar 2) (cKeep (aDisp cNil)))
  (sSeq (sFor (iSeq (c2 subsD (cVar 0) (cCon (.int 1)))) (gTupD 2 (gsCons (gVar 3) (gsCons (gVar 4) gsNil)))
   (sSeq (sAsg (gVar 5) (cKeep (aDisp cNil)))
   (sSeq (sFor (iSeq (cVar 4)) (gVar 6)
    (sSeq (sIf (tCmpB (c2 eqD (c2 subsD (cVar 6) (cCon (.int 0))) (cCon (.str "do"))))
     (sSeq (sAsg (gVar 6) (cTup (cCons (cCon (.str "do")) (cCons (cIndexT (cVar 1) (c2 subsD (cVar 6) (cCon (.int 1)))) (cCons (c2 subsD (cVar 6) (cCon (.int 2))) (cCons (c2 subsD (cVar 6) (cCon (.int 3))) cNil))))))
     sNext)
     sNext)
    (sSeq (sExp (cAppend (cVar 5) (cVar 6)))
    sNext)))
   (sSeq (sExp (cAppend (cVar 2) (cTup (cCons (cVar 3) (cCons (c1 tupleD (cVar 5)) cNil)))))
   sNext))))
  (sSeq (sRet (cTup (cCons (cTmp tupL (aComp 1 [0] (iSeq (cVar 1)) (gVar 0) tTrue (c2 subsD (c2 subsD (cVar 1) (cCon (.int 0))) (cVar 0)))) (cCons (c1 tupleD (cVar 2)) cNil))))
  sNext)))
@[irreducible] def jd:List D->M D:=runDef 7 jE
def j0 : CS :=
  (sSeq (sAsg (gVar 2) (c2 subsD (cVar 1) (cCon (.int 0))))
  (sSeq (sWhile (tAndB (tCmpB (c2 ltD (c1 lenD (cVar 2)) (cCon (.int 4)))) (tCmpB (c2 gtD (cCall ja (cCons (cVar 0) (cCons (cCon (.int 3)) cNil))) (cCon (.int 0)))))
   (sSeq (sAsg (gVar 3) (cCall ju (cCons (cVar 0) cNil)))
   (sSeq (sAsg (gVar 2) (c2 addD (cVar 2) (cTup (cCons (cTup (cCons (cVar 3) (cCons (cCall ja (cCons (cVar 0) (cCons (c1 lenD (cVar 3)) cNil))) cNil))) cNil))))
   sNext)))
  (sSeq (sRet (cTup (cCons (cVar 2) (cCons (c2 subsD (cVar 1) (cCon (.int 1))) cNil))))
  sNext)))
@[irreducible] def jz:List D->M D:=runDef 4 j0
def j4 : CS :=
  (sSeq (sIf (tOrB (tCmpB (c2 eqD (c1 lenD (cVar 0)) (cCon (.int 0)))) (tCmpB (c2 eqD (c1 lenD (c2 subsD (cVar 0) (cCon (.int 0)))) (cCon (.int 0)))))
   (sSeq (sRet (cCon (.bl false)))
   sNext)
   sNext)
  (sSeq (sRet (cTmp allD (aComp 1 [0] (iSeq (cVar 0)) (gVar 0) tTrue (cCall jr (cCons (cVar 1) (cCons (cVar 0) cNil))))))
  sNext))
@[irreducible] def jy:List D->M D:=runDef 1 j4
def jJ : CS :=
  (sSeq (sFor (iEnum (cVar 0)) (gTupD 2 (gsCons (gVar 1) (gsCons (gVar 2) gsNil)))
   (sSeq (sAsg (gVar 3) (c2 subsD (cVar 2) (cCon (.int 0))))
   (sSeq (sIf (tOrB (tNotB (tVal (cCall jy (cCons (cVar 3) cNil)))) (tNotB (tCmpB (cChain leD ltD (cCon (.int 0)) (c2 subsD (cVar 2) (cCon (.int 1))) (c1 lenD (cVar 3))))))
    (sSeq sBad
    sNext)
    sNext)
   sNext)))
  sNext)
@[irreducible] def ji:List D->M D:=runDef 4 jJ
def jN : CS :=
  (sSeq (sAsg (gVar 3) (c2 subsD (cVar 2) (cCon (.int 1))))
  (sSeq (sIf (tNotB (tVal (cCall jl (cCons (c2 subsD (cVar 2) (cCon (.int 0))) (cCons (cVar 3) cNil)))))
   (sSeq sBad
   sNext)
   sNext)
  (sSeq (sFor (iEnum (cVar 3)) (gTupD 2 (gsCons (gVar 4) (gsCons (gVar 5) gsNil)))
   (sSeq (sIf (tNotB (tVal (cCall jv (cCons (cVar 0) (cCons (cVar 3) (cCons (cVar 5) cNil))))))
    (sSeq sBad
    sNext)
    sNext)
   sNext))
  sNext)))
@[irreducible] def jm:List D->M D:=runDef 6 jN
def jG : CS :=
  (sSeq (sAsg (gVar 2) (cCall jt (cCons (cVar 1) cNil)))
  (sSeq (sAsg (gVar 3) (cKeep (aComp 2 [2] (iSeq (c2 subsD (cVar 0) (cCon (.int 1)))) (gTupD 2 (gsCons (gVar 0) (gsCons (gVar 1) gsNil))) tTrue (cTup (cCons (cVar 0) (cCons (cTmp tupL (aComp 1 [2] (iSeq (cVar 1)) (gVar 0) tTrue (cCall jx (cCons (cVar 0) (cCons (cVar 1) cNil))))) cNil))))))
  (sSeq (sRet (cTup (cCons (cTmp tupL (aComp 1 [0] (iSeq (cVar 1)) (gVar 0) tTrue (c2 subsD (c2 subsD (cVar 1) (cCon (.int 0))) (cVar 0)))) (cCons (c1 tupleD (cVar 3)) cNil))))
  sNext)))
@[irreducible] def jc:List D->M D:=runDef 4 jG
def ya : CS :=
  (sSeq (sAsg (gVar 1) (c2 subsD (cVar 0) (cCon (.int 0))))
  (sSeq (sAsg (gVar 2) (c2 subsD (cVar 0) (cCon (.int 1))))
  (sSeq (sExp (cCall ji (cCons (cVar 1) cNil)))
  (sSeq (sIf (tNotB (tCmpB (cChain leD leD (cCon (.int 2)) (c1 lenD (cVar 2)) (cCon (.int 3)))))
   (sSeq sBad
   sNext)
   sNext)
  (sSeq (sAsg (gVar 3) (cKeep (aComp 2 [] (iSeq (cVar 1)) (gTupD 2 (gsCons (gVar 0) (gsCons (gVar 1) gsNil))) tTrue (cCall jg (cCons (cVar 0) cNil)))))
  (sSeq (sFor (iEnum (cVar 2)) (gTupD 2 (gsCons (gVar 4) (gsCons (gVar 5) gsNil)))
   (sSeq (sExp (cCall jm (cCons (cVar 3) (cCons (cVar 4) (cCons (cVar 5) cNil)))))
   sNext))
  (sSeq (sRet (cCon (.bl true)))
  sNext)))))))
@[irreducible] def jP:List D->M D:=runDef 6 ya
def yb : CS :=
  (sSeq (sAsg (gVar 1) (cCall jD (cCons (cVar 0) (cCons (cCon (.int 0)) cNil))))
  (sSeq (sAsg (gVar 2) (cCall jA (cCons (cVar 1) cNil)))
  (sSeq (sIf (tCmpB (c2 eqD (cCall ja (cCons (cVar 1) (cCons (cCon (.int 2)) cNil))) (cCon (.int 0))))
   (sSeq (sAsg (gVar 2) (cCall jz (cCons (cVar 1) (cCons (cVar 2) cNil))))
   sNext)
   sNext)
  (sSeq (sAsg (gVar 3) (cCall jk (cCons (cVar 1) (cCons (c1 lenD (c2 subsD (cVar 2) (cCon (.int 1)))) cNil))))
  (sSeq (sAsg (gVar 4) (cCall jk (cCons (cVar 1) (cCons (c1 lenD (c2 subsD (cVar 2) (cCon (.int 0)))) cNil))))
  (sSeq (sAsg (gVar 5) (cCall jf (cCons (cVar 2) (cCons (cVar 3) cNil))))
  (sSeq (sAsg (gVar 6) (cCall jd (cCons (cVar 2) (cCons (cVar 4) cNil))))
  (sSeq (sIf (tOrB (tCmpB (c2 neD (cCall jb (cCons (cVar 2) (cCons (cVar 3) cNil))) (cVar 5))) (tCmpB (c2 neD (cCall jc (cCons (cVar 2) (cCons (cVar 4) cNil))) (cVar 6))))
   (sSeq (sRet (cCon (.bl false)))
   sNext)
   sNext)
  (sSeq (sAsg (gVar 7) (cCall jd (cCons (cVar 5) (cCons (cVar 4) cNil))))
  (sSeq (sIf (tOrB (tCmpB (c2 neD (cCall jc (cCons (cVar 5) (cCons (cVar 4) cNil))) (cVar 7))) (tOrB (tCmpB (c2 neD (cCall jb (cCons (cVar 6) (cCons (cVar 3) cNil))) (cVar 7))) (tCmpB (c2 isntD (cCall jP (cCons (cVar 7) cNil)) (cCon (.bl true))))))
   (sSeq (sRet (cCon (.bl false)))
   sNext)
   sNext)
  (sSeq (sAsg (gVar 8) (cTmp tupL (aComp 1 [3] (MM.iRng1 (c1 lenD (cVar 3))) (gVar 0) tTrue (cIndexT (cVar 1) (cVar 0)))))
  (sSeq (sAsg (gVar 9) (cTmp tupL (aComp 1 [4] (MM.iRng1 (c1 lenD (cVar 4))) (gVar 0) tTrue (cIndexT (cVar 1) (cVar 0)))))
  (sSeq (sIf (tOrB (tCmpB (c2 neD (cCall jb (cCons (cVar 5) (cCons (cVar 8) cNil))) (cVar 2))) (tCmpB (c2 neD (cCall jc (cCons (cVar 6) (cCons (cVar 9) cNil))) (cVar 2))))
   (sSeq (sRet (cCon (.bl false)))
   sNext)
   sNext)
  (sSeq (sAsg (gVar 10) (c1 tupRngD (c1 lenD (c2 subsD (cVar 2) (cCon (.int 1))))))
  (sSeq (sRet (cAnd (c2 eqD (cCall jb (cCons (cVar 2) (cCons (cVar 10) cNil))) (cVar 2)) (c2 eqD (cCall jc (cCons (cVar 2) (cCons (c1 tupRngD (c1 lenD (c2 subsD (cVar 2) (cCon (.int 0))))) cNil))) (cVar 2))))
  sNext)))))))))))))))
@[irreducible] def jU:List D->M D:=runDef 11 yb
open PySem.Spec PyProof.Rows L2
def top (i:Nat):Stmt:=PySem.Challenge.pw_pactboards_k64_hands_and_boards_exchange.main.body.getD i (.Pass ⟨0,0,0,0⟩)
set_option genInjectivity false in
structure Txt (K:PySem.W.Frag) (mg:Str->Option Value):Prop where
 f0:FnAt K mg "answers" (top 4)
 f1:FnAt K mg "is_state" (top 6)
 f2:FnAt K mg "answer_counts" (top 10)
 f3:FnAt K mg "are_lines" (top 12)
 f4:FnAt K mg "is_line" (top 13)
 f5:FnAt K mg "hands_exchanged" (top 15)
 f6:FnAt K mg "places_of" (top 17)
 f7:FnAt K mg "moved" (top 18)
 f8:FnAt K mg "_law_deal" (top 20)
 f9:FnAt K mg "_law_draw" (top 21)
 f10:FnAt K mg "_law_plain" (top 22)
 f11:FnAt K mg "_law_table" (top 23)
 f12:FnAt K mg "_law_answers" (top 24)
 f13:FnAt K mg "_law_hand" (top 25)
 f14:FnAt K mg "_law_any_house" (top 26)
 f15:FnAt K mg "_law_pact_hand" (top 27)
 f16:FnAt K mg "_law_pact" (top 28)
 f17:FnAt K mg "_law_first_pact" (top 29)
 f18:FnAt K mg "_law_waiting" (top 30)
 f19:FnAt K mg "_law_yielding" (top 31)
 f20:FnAt K mg "_law_marred" (top 32)
 f21:FnAt K mg "_law_house" (top 33)
 f22:FnAt K mg "_law_order" (top 34)
 f23:FnAt K mg "_law_hands_turned" (top 35)
 f24:FnAt K mg "_law_boards_turned" (top 36)
 f25:FnAt K mg "_law_wider" (top 38)
 f26:FnAt K mg "is_table" (top 5)
 f27:FnAt K mg "look_at_boards" (top 9)
 f28:FnAt K mg "look_at_hand" (top 11)
 f29:FnAt K mg "boards_exchanged" (top 16)
 f30:FnAt K mg "look" (top 8)
 f31:FnAt K mg "law" (top 39)
 z:ZOk mg ["all","dict","enumerate","int","len","list","max","range","reversed","tuple"]
 c:COk K mg []
section
variable {P:Program}{w:World}{K:PySem.W.Frag}{mg:Str->Option Value}{base:Heap}
def cm0:RuC:=rCmp .Lt ltD (fun _=>Qed)
def cm1:RuC:=rCmp .LtE leD (fun _=>Qee)
def cm2:RuC:=rCmp .Gt gtD (fun _=>Qef)
def cm3:RuC:=rCmp .GtE geD (fun _=>Qeg)
def cm4:RuC:=rCmp .Eq eqD (fun h=>QfD h)
def cm5:RuC:=rCmp .NotEq neD (fun h=>QfE h)
def cm6:RuC:=rCmp .IsNot isntD (fun _=>QfR)
def cm7:RuC:=rCmp .In inD (fun h=>QfX h)
def cm8:RuC:=rChain .LtE leD (fun _=>Qee) .LtE leD (fun _=>Qee)
def cm9:RuC:=rChain .LtE leD (fun _=>Qee) .Lt ltD (fun _=>Qed)
def RR:Rules:=⟨[rVar,rInt,rStr,rBl,rCall,rTmpSub,rSub,rTup,rListRng,bMaxT,bAllT,bTupT,rTupRng,bDictL,rMulT,mIndexT,mPopAt,bLen,bInt,bTuple,bList,bMax2,mAppend,mPop,rSliceW,rKeep,rOp .Add addD (fun _=>QfG),rOp .Sub subD (fun _=>Qd8),rOp .Mult mulD (fun _=>Qd9),rOp .FloorDiv fdivD (fun _=>Qea),rOp .Mod modD (fun _=>Qeb),rOp .Pow powD (fun _=>Qec),cm0.e,cm1.e,cm2.e,cm3.e,cm4.e,cm5.e,cm6.e,cm7.e,cm8.e,cm9.e,rAnd,rIfE,rDisp],[lLst,lComp,lTimes,lSlice,lRev],[cm0.t,cm1.t,cm2.t,cm3.t,cm4.t,cm5.t,cm6.t,cm7.t,cm8.t,cm9.t,tAnd,tOr,tNot,tVl],[iRange1,iEnumr,iTmpr,iSeqr],[gVr,gTupr,gSubr],[sNmr,sRetr,sIfr,sExpr,sForr,sWhiler,sCompr,sRaiser,sSubr,sTupr,sTupCell,sTupCell3]⟩
abbrev hh:List (Nat × Nat × Nat):=[(143,37,14),(167,20,1),(168,35,1),(168,73,1),(169,32,1),(169,82,1),(199,35,13),(225,23,13),(226,24,13)]
def ge0:List (Str × RF):=[]
theorem gk0 (T:Txt K mg):EnvOk P w K mg base ge0:=QgR
def ge1:List (Str × RF):=("answers",⟨2,1,["table","deed"],false,jw⟩)::ge0
theorem gk1 (T:Txt K mg):EnvOk P w K mg base ge1:=by
 unfold ge1 jw
 exact QgX RR (r:=[]) (H:=hh) T.f0 (by nofun) (fun _ _ _ _ _ _=>le2 fun _ _=>rfl) (fun z=>nomatch z) (by kernel_rfl) (gk0 T) T.z T.c
def ge2:List (Str × RF):=("is_state",⟨2,1,["table","row"],false,jr⟩)::ge1
theorem gk2 (T:Txt K mg):EnvOk P w K mg base ge2:=by
 unfold ge2 jr
 exact QgX RR (r:=[]) (H:=hh) T.f1 (by nofun) (fun _ _ _ _ _ _=>le2 fun _ _=>rfl) (fun z=>nomatch z) (by kernel_rfl) (gk1 T) T.z T.c
def ge3:List (Str × RF):=("answer_counts",⟨1,2,["table"],false,jg⟩)::ge2
theorem gk3 (T:Txt K mg):EnvOk P w K mg base ge3:=by
 unfold ge3 jg
 exact QgX RR (r:=[]) (H:=hh) T.f2 (by nofun) (fun _ _ _ _ _ _=>le1 fun _=>rfl) (fun z=>nomatch z) (by kernel_rfl) (gk2 T) T.z T.c
def ge4:List (Str × RF):=("are_lines",⟨2,1,["goals","lines"],false,jl⟩)::ge3
theorem gk4 (T:Txt K mg):EnvOk P w K mg base ge4:=by
 unfold ge4 jl
 exact QgX RR (r:=[]) (H:=hh) T.f3 (by nofun) (fun _ _ _ _ _ _=>le2 fun _ _=>rfl) (fun z=>nomatch z) (by kernel_rfl) (gk3 T) T.z T.c
def ge5:List (Str × RF):=("is_line",⟨3,2,["counts","lines","line"],false,jv⟩)::ge4
theorem gk5 (T:Txt K mg):EnvOk P w K mg base ge5:=by
 unfold ge5 jv
 exact QgX RR (r:=["board","deed","goals"]) (H:=hh) T.f4 (by nofun) (fun _ _ _ _ _ _=>le3 fun _ _ _=>rfl) (fun z=>nomatch z) (by kernel_rfl) (gk4 T) T.z T.c
def ge6:List (Str × RF):=("hands_exchanged",⟨2,1,["house","order"],false,jb⟩)::ge5
theorem gk6 (T:Txt K mg):EnvOk P w K mg base ge6:=by
 unfold ge6 jb
 exact QgX RR (r:=[]) (H:=hh) T.f5 (by nofun) (fun _ _ _ _ _ _=>le2 fun _ _=>rfl) (fun z=>nomatch z) (by kernel_rfl) (gk5 T) T.z T.c
def ge7:List (Str × RF):=("places_of",⟨1,1,["numbers"],false,jt⟩)::ge6
theorem gk7 (T:Txt K mg):EnvOk P w K mg base ge7:=by
 unfold ge7 jt
 exact QgX RR (r:=[]) (H:=hh) T.f6 (by nofun) (fun _ _ _ _ _ _=>le1 fun _=>rfl) (fun z=>nomatch z) (by kernel_rfl) (gk6 T) T.z T.c
def ge8:List (Str × RF):=("moved",⟨2,1,["line","places"],false,jx⟩)::ge7
theorem gk8 (T:Txt K mg):EnvOk P w K mg base ge8:=by
 unfold ge8 jx
 exact QgX RR (r:=[]) (H:=hh) T.f7 (by nofun) (fun _ _ _ _ _ _=>le2 fun _ _=>rfl) (fun z=>nomatch z) (by kernel_rfl) (gk7 T) T.z T.c
def ge9:List (Str × RF):=("_law_deal",⟨2,1,["_law_script","_law_base"],false,jD⟩)::ge8
theorem gk9 (T:Txt K mg):EnvOk P w K mg base ge9:=by
 unfold ge9 jD
 exact QgX RR (r:=["_law_cells","_law_number","_law_cell"]) (H:=hh) T.f8 (by nofun) (fun _ _ _ _ _ _=>le2 fun _ _=>rfl) (fun z=>nomatch z) (by kernel_rfl) (gk8 T) T.z T.c
def ge10:List (Str × RF):=("_law_draw",⟨2,1,["_law_deal_here","_law_many"],false,ja⟩)::ge9
theorem gk10 (T:Txt K mg):EnvOk P w K mg base ge10:=by
 unfold ge10 ja
 exact QgX RR (r:=["_law_number","_law_one","_law_other"]) (H:=hh) T.f9 (by nofun) (fun _ _ _ _ _ _=>le2 fun _ _=>rfl) (fun z=>nomatch z) (by kernel_rfl) (gk9 T) T.z T.c
def ge11:List (Str × RF):=("_law_plain",⟨1,1,["_law_n"],false,je⟩)::ge10
theorem gk11 (T:Txt K mg):EnvOk P w K mg base ge11:=by
 unfold ge11 je
 exact QgX RR (r:=[]) (H:=hh) T.f10 (by nofun) (fun _ _ _ _ _ _=>le1 fun _=>rfl) (fun z=>nomatch z) (by kernel_rfl) (gk10 T) T.z T.c
def ge12:List (Str × RF):=("_law_table",⟨1,2,["_law_deal_here"],false,ju⟩)::ge11
theorem gk12 (T:Txt K mg):EnvOk P w K mg base ge12:=by
 unfold ge12 ju
 exact QgX RR (r:=["_law_way","_law_n","_law_many","_law_rows","_law_v"]) (H:=hh) T.f11 (by nofun) (fun _ _ _ _ _ _=>le1 fun _=>rfl) (fun z=>nomatch z) (by kernel_rfl) (gk11 T) T.z T.c
def ge13:List (Str × RF):=("_law_answers",⟨2,1,["_law_table_here","_law_deed"],false,jh⟩)::ge12
theorem gk13 (T:Txt K mg):EnvOk P w K mg base ge13:=by
 unfold ge13 jh
 exact QgX RR (r:=[]) (H:=hh) T.f12 (by nofun) (fun _ _ _ _ _ _=>le2 fun _ _=>rfl) (fun z=>nomatch z) (by kernel_rfl) (gk12 T) T.z T.c
def ge14:List (Str × RF):=("_law_hand",⟨3,2,["_law_deal_here","_law_boards","_law_many"],false,jC⟩)::ge13
theorem gk14 (T:Txt K mg):EnvOk P w K mg base ge14:=by
 unfold ge14 jC
 exact QgX RR (r:=["_law_lines","_law_k","_law_b","_law_d","_law_goals","_law_a","_law_later"]) (H:=hh) T.f13 (by nofun) (fun _ _ _ _ _ _=>le3 fun _ _ _=>rfl) (fun z=>nomatch z) (by kernel_rfl) (gk13 T) T.z T.c
def ge15:List (Str × RF):=("_law_any_house",⟨1,3,["_law_deal_here"],false,jo⟩)::ge14
theorem gk15 (T:Txt K mg):EnvOk P w K mg base ge15:=by
 unfold ge15 jo
 exact QgX RR (r:=["_law_hands","_law_many","_law_tables","_law_boards","_law_most"]) (H:=hh) T.f14 (by nofun) (fun _ _ _ _ _ _=>le1 fun _=>rfl) (fun z=>nomatch z) (by kernel_rfl) (gk14 T) T.z T.c
def ge16:List (Str × RF):=("_law_pact_hand",⟨4,2,["_law_k","_law_table_here","_law_state","_law_deed"],false,jj⟩)::ge15
theorem gk16 (T:Txt K mg):EnvOk P w K mg base ge16:=by
 unfold ge16 jj
 exact QgX RR (r:=["_law_lines","_law_v","_law_goals"]) (H:=hh) T.f15 (by nofun) (fun _ _ _ _ _ _=>le4 fun _ _ _ _=>rfl) (fun z=>nomatch z) (by kernel_rfl) (gk15 T) T.z T.c
def ge17:List (Str × RF):=("_law_pact",⟨1,3,["_law_deal_here"],false,jB⟩)::ge16
theorem gk17 (T:Txt K mg):EnvOk P w K mg base ge17:=by
 unfold ge17 jB
 exact QgX RR (r:=["_law_table_here","_law_state","_law_deed","_law_form","_law_boards"]) (H:=hh) T.f16 (by nofun) (fun _ _ _ _ _ _=>le1 fun _=>rfl) (fun z=>nomatch z) (by kernel_rfl) (gk16 T) T.z T.c
def ge18:List (Str × RF):=("_law_first_pact",⟨1,2,["_law_deal_here"],false,jn⟩)::ge17
theorem gk18 (T:Txt K mg):EnvOk P w K mg base ge18:=by
 unfold ge18 jn
 exact QgX RR (r:=["_law_table_here","_law_lines"]) (H:=hh) T.f17 (by nofun) (fun _ _ _ _ _ _=>le1 fun _=>rfl) (fun z=>nomatch z) (by kernel_rfl) (gk17 T) T.z T.c
def ge19:List (Str × RF):=("_law_waiting",⟨1,2,["_law_deal_here"],false,js⟩)::ge18
theorem gk19 (T:Txt K mg):EnvOk P w K mg base ge19:=by
 unfold ge19 js
 exact QgX RR (r:=["_law_one","_law_other","_law_hands"]) (H:=hh) T.f18 (by nofun) (fun _ _ _ _ _ _=>le1 fun _=>rfl) (fun z=>nomatch z) (by kernel_rfl) (gk18 T) T.z T.c
def ge20:List (Str × RF):=("_law_yielding",⟨1,2,["_law_deal_here"],false,jq⟩)::ge19
theorem gk20 (T:Txt K mg):EnvOk P w K mg base ge20:=by
 unfold ge20 jq
 exact QgX RR (r:=["_law_hands","_law_k","_law_goals","_law_lines"]) (H:=hh) T.f19 (by nofun) (fun _ _ _ _ _ _=>le1 fun _=>rfl) (fun z=>nomatch z) (by kernel_rfl) (gk19 T) T.z T.c
def ge21:List (Str × RF):=("_law_marred",⟨2,2,["_law_deal_here","_law_house_here"],false,jp⟩)::ge20
theorem gk21 (T:Txt K mg):EnvOk P w K mg base ge21:=by
 unfold ge21 jp
 exact QgX RR (r:=["_law_k","_law_begins","_law_lines","_law_at","_law_line","_law_goals","_law_hand_here"]) (H:=hh) T.f20 (by nofun) (fun _ _ _ _ _ _=>le2 fun _ _=>rfl) (fun z=>nomatch z) (by kernel_rfl) (gk20 T) T.z T.c
def ge22:List (Str × RF):=("_law_house",⟨1,4,["_law_deal_here"],false,jA⟩)::ge21
theorem gk22 (T:Txt K mg):EnvOk P w K mg base ge22:=by
 unfold ge22 jA
 exact QgX RR (r:=["_law_way","_law_house_here","_law_turn"]) (H:=hh) T.f21 (by nofun) (fun _ _ _ _ _ _=>le1 fun _=>rfl) (fun z=>nomatch z) (by kernel_rfl) (gk21 T) T.z T.c
def ge23:List (Str × RF):=("_law_order",⟨2,2,["_law_deal_here","_law_many"],false,jk⟩)::ge22
theorem gk23 (T:Txt K mg):EnvOk P w K mg base ge23:=by
 unfold ge23 jk
 exact QgX RR (r:=["_law_left","_law_found"]) (H:=hh) T.f22 (by nofun) (fun _ _ _ _ _ _=>le2 fun _ _=>rfl) (fun z=>nomatch z) (by kernel_rfl) (gk22 T) T.z T.c
def ge24:List (Str × RF):=("_law_hands_turned",⟨2,1,["_law_house_here","_law_order_here"],false,jf⟩)::ge23
theorem gk24 (T:Txt K mg):EnvOk P w K mg base ge24:=by
 unfold ge24 jf
 exact QgX RR (r:=[]) (H:=hh) T.f23 (by nofun) (fun _ _ _ _ _ _=>le2 fun _ _=>rfl) (fun z=>nomatch z) (by kernel_rfl) (gk23 T) T.z T.c
def ge25:List (Str × RF):=("_law_boards_turned",⟨2,1,["_law_house_here","_law_order_here"],false,jd⟩)::ge24
theorem gk25 (T:Txt K mg):EnvOk P w K mg base ge25:=by
 unfold ge25 jd
 exact QgX RR (r:=["_law_hands","_law_begins","_law_lines","_law_found","_law_line"]) (H:=hh) T.f24 (by nofun) (fun _ _ _ _ _ _=>le2 fun _ _=>rfl) (fun z=>nomatch z) (by kernel_rfl) (gk24 T) T.z T.c
def ge26:List (Str × RF):=("_law_wider",⟨2,3,["_law_deal_here","_law_house_here"],false,jz⟩)::ge25
theorem gk26 (T:Txt K mg):EnvOk P w K mg base ge26:=by
 unfold ge26 jz
 exact QgX RR (r:=["_law_boards","_law_table_here"]) (H:=hh) T.f25 (by nofun) (fun _ _ _ _ _ _=>le2 fun _ _=>rfl) (fun z=>nomatch z) (by kernel_rfl) (gk25 T) T.z T.c
def ge27:List (Str × RF):=("is_table",⟨1,2,["table"],false,jy⟩)::ge26
theorem gk27 (T:Txt K mg):EnvOk P w K mg base ge27:=by
 unfold ge27 jy
 exact QgX RR (r:=[]) (H:=hh) T.f26 (by nofun) (fun _ _ _ _ _ _=>le1 fun _=>rfl) (fun z=>nomatch z) (by kernel_rfl) (gk26 T) T.z T.c
def ge28:List (Str × RF):=("look_at_boards",⟨1,3,["boards"],false,ji⟩)::ge27
theorem gk28 (T:Txt K mg):EnvOk P w K mg base ge28:=by
 unfold ge28 ji
 exact QgX RR (r:=["k","board","table"]) (H:=hh) T.f27 (by nofun) (fun _ _ _ _ _ _=>le1 fun _=>rfl) (fun z=>nomatch z) (by kernel_rfl) (gk27 T) T.z T.c
def ge29:List (Str × RF):=("look_at_hand",⟨3,3,["counts","k","hand"],false,jm⟩)::ge28
theorem gk29 (T:Txt K mg):EnvOk P w K mg base ge29:=by
 unfold ge29 jm
 exact QgX RR (r:=["lines","number","line"]) (H:=hh) T.f28 (by nofun) (fun _ _ _ _ _ _=>le3 fun _ _ _=>rfl) (fun z=>nomatch z) (by kernel_rfl) (gk28 T) T.z T.c
def ge30:List (Str × RF):=("boards_exchanged",⟨2,2,["house","order"],false,jc⟩)::ge29
theorem gk30 (T:Txt K mg):EnvOk P w K mg base ge30:=by
 unfold ge30 jc
 exact QgX RR (r:=["places","hands"]) (H:=hh) T.f29 (by nofun) (fun _ _ _ _ _ _=>le2 fun _ _=>rfl) (fun z=>nomatch z) (by kernel_rfl) (gk29 T) T.z T.c
def ge31:List (Str × RF):=("look",⟨1,4,["house"],false,jP⟩)::ge30
theorem gk31 (T:Txt K mg):EnvOk P w K mg base ge31:=by
 unfold ge31 jP
 exact QgX RR (r:=["boards","hands","counts","k","hand"]) (H:=hh) T.f30 (by nofun) (fun _ _ _ _ _ _=>le1 fun _=>rfl) (fun z=>nomatch z) (by kernel_rfl) (gk30 T) T.z T.c
theorem yc {a:Addr}{fd:FuncData} (F:Fun K "law" "law" (top 39) a fd) (T:Txt K mg):FnOk P w K mg base CX0 5 a fd ["_law_script"] (spOf K 1 jU):=by
 unfold jU
 exact QgW RR (r:=["_law_deal_here","_law_house_here","_law_hands","_law_boards","_law_one","_law_other","_law_both","_law_back","_law_again","_law_same"]) (H:=hh) F (by nofun) (by kernel_rfl) (gk31 T) T.z T.c rfl rfl
end
end My
namespace My
open MM
open PySem (Str)
theorem Qiu {s:Sto}{n:Nat}{o:MO} (h:s[n]?=some o):n < s.length:=(List.getElem?_eq_some_iff.mp h).1
def dealK (x c:Int) (q:Nat):List (D × D):=[(.str "seed",.int x),(.str "number",.int c),(.str "left",.ref q)]
section
variable {x c y:Int}{q:Nat}
theorem Qiv:lkK (dealK x c q) (.str "seed")=some (.int x):=by simp[lkK,dealK,eqK]
theorem Qiw:lkK (dealK x c q) (.str "number")=some (.int c):=by
 have h:¬ (("seed":Str)="number"):=by decide
 simp[lkK,dealK,eqK,h]
theorem Qix:lkK (dealK x c q) (.str "left")=some (.ref q):=by
 have h:¬ (("seed":Str)="left"):=by decide
 have h2:¬ (("number":Str)="left"):=by decide
 simp[lkK,dealK,eqK,h,h2]
theorem Qiy:ptK (dealK x c q) (.str "seed") (.int y)=dealK y c q:=by
 have h:¬ (("number":Str)="seed"):=by decide
 have h2:¬ (("left":Str)="seed"):=by decide
 simp[ptK,dealK,eqK,h,h2]
theorem Qiz:ptK (dealK x c q) (.str "number") (.int y)=dealK x y q:=by
 have h:¬ (("seed":Str)="number"):=by decide
 have h2:¬ (("left":Str)="number"):=by decide
 simp[ptK,dealK,eqK,h,h2]
theorem QiA:mgK [] [(.str "seed",.int x),(.str "number",.int c),(.str "left",.ref q)]=dealK x c q:=by
 have h:¬ (("seed":Str)="number"):=by decide
 have h2:¬ (("seed":Str)="left"):=by decide
 have h3:¬ (("number":Str)="left"):=by decide
 simp[mgK,ptK,dealK,eqK,h,h2,h3]
theorem QiB:(dealK x c q).length < lim:=Qhd (by simp[dealK])
end
structure PotAt (s:Sto) (p q:Nat):Prop where
 ne:p≠q
 ex:∃ (x c:Int) (cs:List D),s[p]?=some (.dct false (dealK x c q))/\s[q]?=some (.lst cs)/\0<=x/\x < 2147483648/\∀ d∈cs,∃ i:Int,d=.int i
structure Kept (p q:Nat) (s s':Sto):Prop where
 le:s.length<=s'.length
 at_:∀ n,n < s.length->n≠p->n≠q->s'[n]?=s[n]?
section
variable {p q:Nat}{s s1 s2:Sto}{Q:D->Sto->Prop}
theorem Kept.refl:Kept p q s s:=⟨Nat.le_refl _,fun _ _ _ _=>rfl⟩
theorem Kept.trans (h:Kept p q s s1) (k:Kept p q s1 s2):Kept p q s s2:=⟨Nat.le_trans h.le k.le,fun n hn hp hq=>(k.at_ n (Nat.lt_of_lt_of_le hn h.le) hp hq).trans (h.at_ n hn hp hq)⟩
theorem Kept.same {n:Nat}{o:MO} (h:Kept p q s s1) (hp:n≠p) (hq:n≠q) (g:s[n]?=some o):s1[n]?=some o:=(h.at_ n (Qiu g) hp hq).trans g
theorem Kept.snoc {o:MO} (h:Kept p q s s1):Kept p q s (s1++[o]):=h.trans ⟨by simp,fun n hn _ _=>List.getElem?_append_left hn⟩
theorem Kept.put {n:Nat}{o:MO} (h:Kept p q s s1) (hn:s.length<=n):Kept p q s (s1.set n o):=
 ⟨by simp;exact h.le,fun m hm hp hq=>by rw[List.getElem?_set_ne (by ac_nf)];exact h.at_ m hm hp hq⟩
theorem PotAt.lt (h:PotAt s p q):p < s.length/\q < s.length:=by obtain⟨x,c,cs,a,b,_⟩:=h.ex;exact⟨Qiu a,Qiu b⟩
theorem PotAt.snoc {o:MO} (h:PotAt s p q):PotAt (s++[o]) p q:=by
 obtain⟨x,c,cs,a,b,r⟩:=h.ex
 exact⟨h.ne,x,c,cs,by rw[List.getElem?_append_left (Qiu a)];exact a,by rw[List.getElem?_append_left (Qiu b)];exact b,r⟩
theorem PotAt.put {n:Nat}{o:MO} (h:PotAt s p q) (hp:n≠p) (hq:n≠q):PotAt (s.set n o) p q:=by
 obtain⟨x,c,cs,a,b,r⟩:=h.ex
 exact⟨h.ne,x,c,cs,by rw[List.getElem?_set_ne hp];exact a,by rw[List.getElem?_set_ne hq];exact b,r⟩
theorem QiC {k:Int} (hp:PotAt s p q) (hk:0 < k) (hk2:k < 1073741824) (h:∀ r s',0<=r->r < k->PotAt s' p q->Kept p q s s'->Q (.int r) s'):wp (ja [.dic p,.int k]) Q s:=by
 obtain⟨x,c,cs,e1,e2,hx0,hx1,hcs⟩:=hp.ex
 have hne:=hp.ne
 (simp_arith [ja];simp_arith [j3])
 refine QhN (fun l s'=>l=[some (.dic p),some (.int k),none,none,none]/\∃ c cs,s'[p]?=some (.dct false (dealK x c q))/\s'[q]?=some (.lst cs)/\(∀ d∈cs,∃ i:Int,d=.int i)/\Kept p q s s')
  (fun l s'=>match s'[q]? with
   | some (.lst cs)=>cs.length
   | _=>0) ⟨rfl,c,cs,e1,e2,hcs,Kept.refl⟩ (fun l s' hZ0=>?_)
 obtain⟨el,c,cs,e1,e2,hcs,hk'⟩:=hZ0
 subst el
 have gs:∀ Q,wp (itemK p (.str "seed")) Q s'=Q (.int x) s':=fun Q=>QhT e1 rfl Qiv
 have gn:∀ Q,wp (itemK p (.str "number")) Q s'=Q (.int c) s':=fun Q=>QhT e1 rfl Qiw
 have gl:∀ Q,wp (itemK p (.str "left")) Q s'=Q (.ref q) s':=fun Q=>QhT e1 rfl Qix
 have g2:∀ Q,wp (getL q) Q s'=Q cs s':=fun Q=>Qg1 e2
 simp_arith [↓gn,↓gl,↓g2]
 by_cases hc:c=0/\0 < cs.length
 ·obtain⟨hc0,hcl⟩:=hc
  subst hc0
  rw[if_pos rfl,if_pos (by ac_nf)]
  obtain⟨d,hd⟩:∃ d,cs.getLast?=some d:=⟨_,List.getLast?_eq_some_getLast (by intro e;rw[e]at hcl;simp at hcl)⟩
  obtain⟨i,ei⟩:=hcs d (List.mem_of_getLast? hd)
  subst ei
  have q2:∀ es Q,wp (putL q es) Q s'=Q () (s'.set q (.lst es)):=fun es Q=>Qg2 e2
  have e3:(s'.set q (.lst cs.dropLast))[p]?=some (.dct false (dealK x 0 q)):=by rw[List.getElem?_set_ne (Ne.symm hne)];exact e1
  have e4:(s'.set q (.lst cs.dropLast))[q]?=some (.lst cs.dropLast):=List.getElem?_set_self (Qiu e2)
  have q3:∀ v Q,wp (storeK p (.str "number") v) Q (s'.set q (.lst cs.dropLast))=Q () ((s'.set q (.lst cs.dropLast)).set p (.dct false (ptK (dealK x 0 q) (.str "number") v))):=fun v Q=>QhU e3 rfl QiB
  simp_arith [↓gl,↓g2,hd,↓q2,↓q3,Qiz]
  have e5:((s'.set q (.lst cs.dropLast)).set p (.dct false (dealK x i q)))[p]?=some (.dct false (dealK x i q)):=List.getElem?_set_self (Qiu e3)
  have e6:((s'.set q (.lst cs.dropLast)).set p (.dct false (dealK x i q)))[q]?=some (.lst cs.dropLast):=by rw[List.getElem?_set_ne hne];exact e4
  refine⟨⟨i,cs.dropLast,e5,e6,fun d hd=>hcs d (List.dropLast_subset _ hd),⟨by simp;exact hk'.le,fun n hn hp' hq'=>?_⟩⟩,?_⟩
  ·rw[List.getElem?_set_ne (Ne.symm hp'),List.getElem?_set_ne (Ne.symm hq')];exact hk'.at_ n hn hp' hq'
  ·rw[e6,e2]
   simp only[List.length_dropLast];ac_nf
 ·have fin : ∀ (A B : Prop), (if c = 0 then (if 0 < (cs.length : Int) then A else B) else B) = B := fun A B => by
    by_cases h1:c=0
    ·rw[if_pos h1,if_neg (by ac_nf)]
    ·rw[if_neg h1]
  rw[fin]
  have q3:∀ v Q,wp (storeK p (.str "number") v) Q s'=Q () (s'.set p (.dct false (ptK (dealK x c q) (.str "number") v))):=fun v Q=>QhU e1 rfl QiB
  have q4:∀ v Q,wp (storeK p (.str "seed") v) Q s'=Q () (s'.set p (.dct false (ptK (dealK x c q) (.str "seed") v))):=fun v Q=>QhU e1 rfl QiB
  have kp:∀ o,Kept p q s (s'.set p o):=fun o=>⟨by simp;exact hk'.le,fun n hn hp' hq'=>by rw[List.getElem?_set_ne (Ne.symm hp')];exact hk'.at_ n hn hp' hq'⟩
  have pt:∀ (x' c':Int),0<=x'->x' < 2147483648->PotAt (s'.set p (.dct false (dealK x' c' q))) p q:=fun x' c' h0 h1=>⟨hne,x',c',cs,List.getElem?_set_self (Qiu e1),by rw[List.getElem?_set_ne hne];exact e2,h0,h1,hcs⟩
  have g5:∀ x' Q,wp (itemK p (.str "seed")) Q (s'.set p (.dct false (dealK x' c q)))=Q (.int x') (s'.set p (.dct false (dealK x' c q))):=fun x' Q=>QhT (List.getElem?_set_self (Qiu e1)) rfl Qiv
  have m2:∀ a b:Int,0<=b->b < 10000000000->mulOk a b:=fun a b h1 h2=>.inr ⟨by ac_nf,by ac_nf⟩
  by_cases h0:0 < c
  ·rw[if_pos h0]
   simp_arith [↓q3,Qiz]
   exact⟨⟨hk,hk2⟩,hk,h _ _ (Int.emod_nonneg _ (by ac_nf)) (Int.emod_lt_of_pos _ hk) (pt _ _ hx0 hx1) (kp _)⟩
  ·rw[if_neg h0]
   simp only[↓x_seq,↓x_asg,↓x_c2,↓x_var,↓x_con,↓x_subsD,↓gs,↓x_mul,↓x_add,↓x_mod,word_snoc]
   refine⟨m2 _ _ (by ac_nf) (by ac_nf),by ac_nf,?_⟩
   have one0:=Int.emod_nonneg (x * 48271 + 7919) (show (2147483647:Int)≠0 by ac_nf)
   have one1:=Int.emod_lt_of_pos (x * 48271 + 7919) (show (0:Int) < 2147483647 by ac_nf)
   generalize (x * 48271 + 7919) % 2147483647=one at one0 one1 ⊢
   have y0:=Int.emod_nonneg (one * 40692 + 104729) (show (2147483399:Int)≠0 by ac_nf)
   have y1:=Int.emod_lt_of_pos (one * 40692 + 104729) (show (0:Int) < 2147483399 by ac_nf)
   simp_arith [↓q4,Qiy,↓g5]
   refine⟨m2 _ _ (by ac_nf) (by ac_nf),?_⟩
   generalize (one * 40692 + 104729) % 2147483399=y at y0 y1 ⊢
   refine⟨m2 _ _ (by ac_nf) (by ac_nf),m2 _ _ (by ac_nf) (by ac_nf),m2 _ _ (by ac_nf) (by ac_nf),hk,h _ _ (Int.emod_nonneg _ (by ac_nf)) (Int.emod_lt_of_pos _ hk) (pt _ _ y0 (by ac_nf)) (kp _)⟩
theorem QiD {ns:List Int} (h:∀ p q s',PotAt s' p q->s.length<=p->s.length<=q->Kept p q s s'->Q (.dic p) s'):wp (jD [.lit (ns.map D.int),.int 0]) Q s:=by
 have l0:0<=lim:=Nat.zero_le _
 have m2:∀ a b:Int,0<=b->b < 10000000000->mulOk a b:=fun a b h1 h2=>.inr ⟨by ac_nf,by ac_nf⟩
 have pw:∀ Q s,wp (powD (.int 10) (.int 18)) Q s=Q (.int 1000000000000000000) s:=fun Q s=>by unfold powD;rw[wp_chk,wp_ret];exact propext ⟨fun h=>h.2,fun h=>⟨by decide,h⟩⟩
 generalize (1000000000000000000:Int)=big at pw
 (simp_arith [jD];simp_arith [j2,capt])
 have hcut:∀ d∈cutD (ns.map D.int) (some 0) (some 63),∃ i:Int,d=.int i:=fun d hd=>by
  unfold cutD at hd
  obtain⟨i,_,e⟩:=List.mem_map.mp (List.mem_of_mem_drop (List.mem_of_mem_take hd))
  exact⟨i,e.symm⟩
 have hlen:(cutD (ns.map D.int) (some 0) (some 63)).length<=63:=by
  unfold cutD sIx;simp;ac_nf
 generalize cutD (ns.map D.int) (some 0) (some 63)=cells at hcut hlen
 refine⟨Qhc (by ac_nf),?_⟩
 refine QhY (fun d=>∃ i:Int,d=.int i) (fun l=>l.length=1) (fun d=>∃ i:Int,d=.int i) (fun s'=>s=s') (fun _ _=>trivial) rfl rfl hcut (fun d l s' hZ0 hl es=>?_) fun out s' ho hP es=>?_
 ·obtain⟨i,ei⟩:=hZ0
  subst ei
  subst es
  match l,hl with
  | [x0],_=>simp_arith [];exact⟨_,rfl⟩
 ·subst es
  have g:∀ Q:List D->Sto->Prop,wp (getL s.length) Q (s++[.lst out])=Q out (s++[.lst out]):=fun Q=>Qg1 (by simp)
  simp_arith [↓g]
  skip
  refine Qhe (fun i l s'=>∃ x y4,l=[some (.lit (ns.map D.int)),some (.int 0),some (.ref s.length),some (.int x),y4]/\0<=x/\x < 2147483648/\s'=s++[.lst out]) (fun i l s' ⟨_,_,_,_,_,e⟩=>by subst e;show (s++[MO.lst out])[s.length]?=some (.lst out);simp) ⟨_,_,rfl,?_,?_,rfl⟩ (fun i d l s' hd hZ0=>?_) (fun l s' hZ0=>?_)
  ·ac_nf
  ·ac_nf
  ·obtain⟨x,y4,el,x0,x1,es⟩:=hZ0
   subst el es
   obtain⟨v,ev⟩:=hP d (List.mem_of_getElem? hd)
   subst ev
   simp_arith []
   exact⟨m2 _ _ (by ac_nf) (by ac_nf),_,_,rfl,Int.emod_nonneg _ (by ac_nf),Int.lt_trans (Int.emod_lt_of_pos _ (by ac_nf)) (by ac_nf)⟩
  ·obtain⟨x,y4,el,x0,x1,es⟩:=hZ0
   subst el es
   simp_arith [↓g,↓pw,capt]
   refine⟨Qhc (by ac_nf),?_⟩
   refine Qh1 (fun d=>∃ i:Int,d=.int i) (fun l=>l.length=1) (fun d=>∃ i:Int,d=.int i) (fun s'=>s++[.lst out]=s') (fun s' es=>by subst es;show (s++[MO.lst out])[s.length]?=some (.lst out);simp) rfl rfl hP (fun d l s' hZ0 hl es=>?_) fun o s' hol ho es=>?_
   ·obtain⟨v,ev⟩:=hZ0
    subst ev
    subst es
    match l,hl with
    | [z],_=>
     simp_arith [↓pw]
     by_cases hb:big<=v
     ·rw[if_pos hb];exact⟨_,rfl⟩
     ·rw[if_neg hb];trivial
   ·subst es
    simp_arith [List.zip_cons_cons,List.zip_nil_right,QiA]
    refine h _ _ _ ⟨by simp,x,0,o.reverse,QhW,QhX QhW,x0,x1,fun d hd=>ho d (List.mem_reverse.mp hd)⟩ (by simp<;>ac_nf) (by simp) ((Kept.refl.snoc).snoc.snoc)
end
open PySem (Str)
def IsPr (S:Nat) (d:D):Prop:=∃ a b:Int,d=.tup [.int a,.int b]/\0<=a/\a < S/\0<=b/\b < 4
def IsRow (S n:Nat) (d:D):Prop:=∃ ps,d=.tup ps/\ps.length=n/\∀ p∈ps,IsPr S p
def IsTab (d:D):Prop:=∃ (S n:Nat) (rows:List D),d=.tup rows/\rows.length=S/\1<=S/\S<=4/\1<=n/\n<=4/\∀ r∈rows,IsRow S n r
def tabD (S dn:Nat) (nx un:Nat->Nat->Nat):D:=.tup (upto S fun s=>.tup (upto dn fun d=>.tup [.int (nx s d:Nat),.int (un s d:Nat)]))
def TabOk (S dn:Nat) (nx un:Nat->Nat->Nat):Prop:=1<=S/\S<=4/\1<=dn/\dn<=4/\∀ s d,s < S->d < dn->nx s d < S/\un s d < 4
theorem QiE {t:D} (h:IsTab t):∃ S dn nx un,t=tabD S dn nx un/\TabOk S dn nx un:=by
 obtain⟨S,dn,rows,et,hl,hS1,hS2,hd1,hd2,hr⟩:=h
 have key:∀ s:Nat,∃ p:Nat->Nat × Nat,s < S->rows[s]?=some (.tup (upto dn fun d=>.tup [.int ((p d).1:Nat),.int ((p d).2:Nat)]))/\∀ d,d < dn->(p d).1 < S/\(p d).2 < 4:=by
  intro s
  by_cases hs:s < S
  ·have hlt:s < rows.length:=by ac_nf
   obtain⟨ds,e,hdl,hp⟩:=hr rows[s] (List.getElem_mem hlt)
   have k2:∀ d:Nat,∃ p:Nat × Nat,d < dn->ds[d]?=some (.tup [.int (p.1:Nat),.int (p.2:Nat)])/\p.1 < S/\p.2 < 4:=by
    intro d
    by_cases hd:d < dn
    ·have hdt:d < ds.length:=by ac_nf
     obtain⟨g,u,e2,g0,g1,u0,u9⟩:=hp ds[d] (List.getElem_mem hdt)
     refine⟨(g.toNat,u.toNat),fun _=>⟨?_,by show g.toNat < S;ac_nf,by show u.toNat < 4;ac_nf⟩⟩
     rw[List.getElem?_eq_getElem hdt,e2,Int.toNat_of_nonneg g0,Int.toNat_of_nonneg u0]
    ·exact⟨(0,0),fun h=>(hd h).elim⟩
   refine⟨fun d=>Classical.choose (k2 d),fun _=>⟨?_,fun d hd=>(Classical.choose_spec (k2 d) hd).2⟩⟩
   rw[List.getElem?_eq_getElem hlt,e]
   congr 2
   exact Qhu hdl fun d hd=>(Classical.choose_spec (k2 d) hd).1
  ·exact⟨fun _=>(0,0),fun h=>(hs h).elim⟩
 refine⟨S,dn,fun s d=>(Classical.choose (key s) d).1,fun s d=>(Classical.choose (key s) d).2,?_,hS1,hS2,hd1,hd2,fun s d hs hd=>(Classical.choose_spec (key s) hs).2 d hd⟩
 rw[et]
 unfold tabD
 congr 1
 exact Qhu hl fun s hs=>(Classical.choose_spec (key s) hs).1
section
variable {p q:Nat}{s s1 s2:Sto}{Q:D->Sto->Prop}
def PK (p q:Nat) (s s':Sto):Prop:=PotAt s' p q/\Kept p q s s'
theorem PK.refl (h:PotAt s p q):PK p q s s:=⟨h,Kept.refl⟩
theorem QiF {k:Int} (hp:PK p q s s1) (hk:0 < k) (hk2:k < 1073741824) (h:∀ r s',0<=r->r < k->PK p q s s'->Kept p q s1 s'->Q (.int r) s'):wp (ja [.dic p,.int k]) Q s1:=
 QiC hp.1 hk hk2 fun r s' r0 r1 hp' k'=>h r s' r0 r1 ⟨hp',hp.2.trans k'⟩ k'
theorem PK.snoc {o:MO} (h:PK p q s s1):PK p q s (s1++[o]):=⟨h.1.snoc,h.2.snoc⟩
theorem PK.put {n:Nat}{o:MO} (h:PK p q s s1) (hn:s.length<=n) (hp:n≠p) (hq:n≠q):PK p q s (s1.set n o):=⟨h.1.put hp hq,h.2.put hn⟩
theorem rngb {m:Int} (h0:0<=m) (h:m<=1000):(-(2 ^ 62)<=m/\m < 2 ^ 62):=by ac_nf
end
open PySem (Str)
section
variable {p q:Nat}{s s1 s2:Sto}{Q:D->Sto->Prop}
theorem toN {r:Int} (h:0<=r):∃ n:Nat,r=n:=⟨r.toNat,(Int.toNat_of_nonneg h).symm⟩
def pnx (s d:Nat):Nat:=if d=0 then s else d - 1
def pun (s d:Nat):Nat:=if d=0 then s else 0
theorem upto_cons {n:Nat}{f:Nat->D}:upto (n + 1) f=f 0::upto n fun i=>f (i + 1):=by
 unfold upto;rw[List.range_succ_eq_map,List.map_cons,List.map_map];rfl
theorem QiG {n:Nat} (h1:1<=n) (h3:n<=3):TabOk n (n + 1) pnx pun:=by
 refine⟨h1,by ac_nf,by ac_nf,by ac_nf,fun s d hs hd=>?_⟩
 unfold pnx pun
 split<;>ac_nf
theorem QiH {n:Nat} (h3:n<=3):wp (je [.int n]) Q s=Q (tabD n (n + 1) pnx pun) s:=by
 have l2:2<=lim:=Qhc (by ac_nf)
 have l1:1<=lim:=Qhc (by ac_nf)
 have ln:n<=lim:=Qhc (by ac_nf)
 have hb:(-(2 ^ 62)<=(n:Int)/\(n:Int) < 2 ^ 62):=by ac_nf
 have w1:∀ (Q:List D->Sto->Prop) s,wp (collect (gVar 0) tTrue (cTup (cCons (cVar 0) (cCons (cCon (.int 0)) cNil))) anySt (upto n fun i=>.int i) [none]) Q s=Q (upto n fun u=>.tup [.int u,.int 0]) s:=fun Q s=>QhF QhE fun j hj Q=>by simp_arith [l2]
 have lt:1 + n<=lim:=Qhc (by ac_nf)
 have e:∀ i:Nat,D.tup (.tup [.int i,.int i]::upto n fun u=>.tup [.int u,.int 0])=.tup (upto (n + 1) fun d=>.tup [.int (pnx i d:Nat),.int (pun i d:Nat)]):=fun i=>by
  rw[upto_cons];rfl
 have w2:∀ (Q:List D->Sto->Prop) s,wp (collect (gVar 0) tTrue (c2 addD (cTup (cCons (cTup (cCons (cVar 0) (cCons (cVar 0) cNil))) cNil)) (cTmp tupL (aComp 1 [] (MM.iRng1 (cVar 1)) (gVar 0) tTrue (cTup (cCons (cVar 0) (cCons (cCon (.int 0)) cNil)))))) anySt (upto n fun i=>.int i) [none,some (.int n)]) Q s=Q (upto n fun i=>.tup (upto (n + 1) fun d=>.tup [.int (pnx i d:Nat),.int (pun i d:Nat)])) s:=fun Q s=>QhF QhE fun j hj Q=>by
  simp_arith [capt,Int.toNat_natCast,Qhw,Qhs,hb,ln,↓w1,l2,l1,lt,e,List.length_cons,List.length_nil,Nat.zero_add]
 unfold tabD
 (simp_arith [je];simp_arith [jY,capt,Int.toNat_natCast,Qhw,Qhs,hb,ln,↓w2])
theorem QiI {n:Nat} (h:n<=1000):(-(2 ^ 62)<=(n:Int)/\(n:Int) < 2 ^ 62):=by ac_nf
theorem QiJ (hp:PK p q s s1) (h:∀ S dn nx un s',TabOk S dn nx un->PK p q s s'->Kept p q s1 s'->Q (tabD S dn nx un) s'):wp (ju [.dic p]) Q s1:=by
 have l2:2<=lim:=Qhc (by ac_nf)
 have l1:1<=lim:=Qhc (by ac_nf)
 have l3:3<=lim:=Qhc (by ac_nf)
 have hI:∀ t s',IsTab t->PK p q s s'->Kept p q s1 s'->Q t s':=fun t s' ht hk w=>by
  obtain⟨S,dn,nx,un,e,ok⟩:=QiE ht
  rw[e];exact h S dn nx un s' ok hk w
 (simp_arith [ju];simp_arith [jX])
 refine QiF hp (by ac_nf) (by ac_nf) fun r1 t1 a0 a1 h1 w1=>?_
 simp_arith []
 refine QiF h1 (by ac_nf) (by ac_nf) fun r2 t2 b0 b1 h2 w2=>?_
 obtain⟨r2,rfl⟩:=toN b0
 have e2:(2 + (r2:Int))=((2 + r2:Nat):Int):=by ac_nf
 have n1:2<=2 + r2/\2 + r2<=3:=by ac_nf
 simp_arith [e2]
 generalize 2 + r2=n at n1
 have w12:=w1.trans w2
 have pe:∀ (Q:D->Sto->Prop) s,wp (je [.int n]) Q s=Q (tabD n (n + 1) pnx pun) s:=fun Q s=>QiH n1.2
 have hb:=QiI (n:=n) (by ac_nf)
 have ln:n<=lim:=Qhc (by ac_nf)
 by_cases c1:r1 < 2
 ·simp_arith [c1,decide_true,if_true,↓pe]
  exact h _ _ _ _ _ (QiG (by ac_nf) n1.2) h2 w12
 by_cases c2:r1=2
 ·subst c2
  simp_arith [Int.reduceLT,decide_false,decide_true,Bool.false_eq_true,if_false,if_true,capt,Int.toNat_natCast,Qhb]
  refine⟨hb,ln,?_⟩
  refine QhZ (isI n) (IsRow n n) (fun s'=>t2=s') (fun _ _=>trivial) rfl Qh0 (fun d s' hZ0 es=>?_) (fun rows s' ho hP es=>?_)
  ·obtain⟨i,hi,e⟩:=hZ0
   subst e es
   simp_arith [capt,Int.toNat_natCast,Qhb]
   refine⟨hb,ln,?_⟩
   refine QhZ (isI n) (IsPr n) (fun s'=>t2=s') (fun _ _=>trivial) rfl Qh0 (fun d s' hZ0 es=>?_) (fun ps s' ho hP es=>?_)
   ·obtain⟨j,hj,e⟩:=hZ0
    subst e es
    simp_arith [l2]
    exact⟨j,i,rfl,by ac_nf,by ac_nf,by ac_nf,by ac_nf⟩
   ·subst es
    rw[Qhb]at ho
    simp_arith []
    exact⟨ps,rfl,ho,hP⟩
  ·subst es
   rw[Qhb]at ho
   simp_arith []
   exact hI _ _ ⟨n,n,rows,rfl,ho,by ac_nf,by ac_nf,by ac_nf,by ac_nf,hP⟩ h2 w12
 by_cases c3:r1=3
 ·subst c3
  simp_arith [Int.reduceLT,decide_false,decide_true,Bool.false_eq_true,if_false,if_true,capt,Int.toNat_natCast,Qhb]
  refine⟨hb,ln,?_⟩
  refine QhZ (isI n) (IsRow n 1) (fun s'=>t2=s') (fun _ _=>trivial) rfl Qh0 (fun d s' hZ0 es=>?_) (fun rows s' ho hP es=>?_)
  ·obtain⟨i,hi,e⟩:=hZ0
   subst e es
   simp_arith [l2,l1]
   refine⟨by ac_nf,_,rfl,rfl,fun x hx=>?_⟩
   exact⟨_,_,List.mem_singleton.mp hx,Int.emod_nonneg _ (by ac_nf),Int.emod_lt_of_pos _ (by ac_nf),by ac_nf,by ac_nf⟩
  ·subst es
   rw[Qhb]at ho
   simp_arith []
   exact hI _ _ ⟨n,1,rows,rfl,ho,by ac_nf,by ac_nf,by ac_nf,by ac_nf,hP⟩ h2 w12
 by_cases c4:r1=4
 ·subst c4
  simp_arith [Int.reduceLT,decide_false,decide_true,Bool.false_eq_true,if_false,if_true,l2,l3]
  refine hI _ _ ⟨3,2,_,rfl,rfl,by ac_nf,by ac_nf,by ac_nf,by ac_nf,fun r hr=>?_⟩ h2 w12
  have pr:∀ a b:Int,0<=a->a < 3->0<=b->b < 4->IsPr 3 (.tup [.int a,.int b]):=fun a b x1 x2 x3 x4=>⟨a,b,rfl,x1,x2,x3,x4⟩
  simp only[List.mem_cons,List.not_mem_nil,or_false]at hr
  rcases hr with e | e | e<;>subst e<;>refine⟨_,rfl,rfl,fun x hx=>?_⟩<;>simp only[List.mem_cons,List.not_mem_nil,or_false]at hx<;>rcases hx with e | e<;>subst e<;>exact pr _ _ (by decide) (by decide) (by decide) (by decide)
 simp_arith [c1,c2,c3,c4,decide_false,Bool.false_eq_true,if_false]
 refine QiF h2 (by ac_nf) (by ac_nf) fun r3 t3 d0 d1 h3 w3=>?_
 simp_arith []
 refine QiF h3 (by ac_nf) (by ac_nf) fun r4 t4 f0 f1 h4 w4=>?_
 obtain⟨r3,rfl⟩:=toN d0
 obtain⟨r4,rfl⟩:=toN f0
 have e3:(1 + (r3:Int))=((1 + r3:Nat):Int):=by ac_nf
 have e4:(1 + (r4:Int))=((1 + r4:Nat):Int):=by ac_nf
 simp_arith [e3,e4]
 have m1:1<=1 + r3/\1 + r3<=3:=by ac_nf
 have k1:1<=1 + r4/\1 + r4<=3:=by ac_nf
 generalize 1 + r3=m at m1
 generalize 1 + r4=k at k1
 simp_arith [Nat.zero_le,Int.toNat_natCast]
 refine⟨QiI (by ac_nf),?_⟩
 have pl:=h4.1.lt
 have w34:=w12.trans (w3.trans w4)
 have q3:=h4.2.le
 have q4:=hp.2.le
 have q5:=w34.le
 refine Qhe (fun i l s'=>∃ rows y5,l=[some (.dic p),some (.int r1),some (.int m),some (.int k),some (.ref t4.length),y5]/\s'[t4.length]?=some (.lst rows)/\rows.length=i/\(∀ r∈rows,IsRow m k r)/\PK p q s s'/\Kept p q s1 s') (fun _ _ _ _=>trivial) ⟨[],none,rfl,by simp,rfl,fun r hr=>absurd hr (by simp),h4.snoc,w34.snoc⟩ (fun i d l s' hd hZ0=>?_) (fun l s' hZ0=>?_)
 ·obtain⟨rows,y6,el,g,hl,hr,hk,w⟩:=hZ0
  subst el
  simp_arith [capt,Int.toNat_natCast,Qhb]
  refine⟨QiI (by ac_nf),Qhc (by ac_nf),?_⟩
  refine QhZ (isI k) (IsPr m) (fun s'=>s'[t4.length]?=some (.lst rows)/\PK p q s s'/\Kept p q s1 s') (fun _ _=>trivial) ⟨g,hk,w⟩ Qh0 (fun d s' _ hZ0=>?_) (fun out s' ho hP hZ0=>?_)
  ·obtain⟨g,hk,w⟩:=hZ0
   simp_arith [l2]
   refine QiF hk (by ac_nf) (by ac_nf) fun a s2 a0 a1 hk2 w2=>?_
   simp_arith []
   refine QiF hk2 (by ac_nf) (by ac_nf) fun b s3 b0 b1 hk3 w3=>?_
   simp_arith [l2]
   exact⟨⟨a,b,rfl,a0,a1,b0,by ac_nf⟩,w3.same (by ac_nf) (by ac_nf) (w2.same (by ac_nf) (by ac_nf) g),hk3,(w.trans w2).trans w3⟩
  ·obtain⟨g,hk,w⟩:=hZ0
   have g1:∀ Q,wp (getL t4.length) Q s'=Q rows s':=fun Q=>Qg1 g
   have g2:∀ es Q,wp (putL t4.length es) Q s'=Q () (s'.set t4.length (.lst es)):=fun es Q=>Qg2 g
   simp_arith [↓g1,↓g2]
   have hi:=(List.getElem?_eq_some_iff.mp hd).1
   rw[Qhb]at hi ho
   refine⟨Qhd (by ac_nf),_,_,rfl,List.getElem?_set_self (Qiu g),by simp[hl],fun r hr'=>?_,hk.put (by ac_nf) (by ac_nf) (by ac_nf),w.put (by ac_nf)⟩
   rcases List.mem_append.mp hr' with hr' | hr'
   ·exact hr r hr'
   ·exact⟨out,List.mem_singleton.mp hr',ho,hP⟩
 ·obtain⟨rows,y6,el,g,hl,hr,hk,w⟩:=hZ0
  subst el
  have g1:∀ Q,wp (getL t4.length) Q s'=Q rows s':=fun Q=>Qg1 g
  simp_arith [↓g1]
  rw[Qhb]at hl
  exact hI _ _ ⟨m,k,rows,rfl,hl,m1.1,by ac_nf,k1.1,by ac_nf,hr⟩ hk w
end
open PySem (Str)
structure Bd where
 S:Nat
 dn:Nat
 nx:Nat->Nat->Nat
 un:Nat->Nat->Nat
 st:Nat
inductive Ln where
 | settle (v:Nat)
 | act (b d:Nat) (gs:List Nat)
structure Hd where
 b0:Nat
 b1:Nat
 lines:List Ln
structure Hs where
 boards:List Bd
 hands:List Hd
def natD (n:Nat):D:=.int (n:Int)
def bdD (b:Bd):D:=.tup [tabD b.S b.dn b.nx b.un,natD b.st]
def lnD:Ln->D
 | .settle v=>.tup [.str "settle",natD v]
 | .act b d gs=>.tup [.str "do",natD b,natD d,.tup (gs.map natD)]
def hdD (h:Hd):D:=.tup [.tup [natD h.b0,natD h.b1],.tup (h.lines.map lnD)]
def hsD (h:Hs):D:=.tup [.tup (h.boards.map bdD),.tup (h.hands.map hdD)]
def BdOk (b:Bd):Prop:=TabOk b.S b.dn b.nx b.un/\b.st < b.S
def LnOk (bs:List Bd) (m:Nat):Ln->Prop
 | .settle v=>v < 2
 | .act b d gs=>∃ bd,bs[b]?=some bd/\d < bd.dn/\gs.length=1 + mx (bd.un · d) bd.S/\∀ g∈gs,g < m
def HdOk (bs:List Bd) (h:Hd):Prop:=h.b0 < h.lines.length/\h.b1 < h.lines.length/\h.lines.length<=12/\∀ l∈h.lines,LnOk bs h.lines.length l
def HsOk (h:Hs):Prop:=h.boards.length<=7/\(∀ b∈h.boards,BdOk b)/\2<=h.hands.length/\h.hands.length<=3/\∀ x∈h.hands,HdOk h.boards x
section
variable {p q:Nat}{s s1 s2:Sto}{Q:D->Sto->Prop}
theorem QiK {S n:Nat}{nx un:Nat->Nat->Nat}:wp (lenD (tabD S n nx un)) Q s=Q (.int S) s:=by unfold tabD;rw[x_lenT,Qhs]
theorem QiL {S n a:Nat}{nx un:Nat->Nat->Nat} (h:a < S):wp (subsD (tabD S n nx un) (.int a)) Q s=Q (.tup (upto n fun d=>.tup [.int (nx a d:Nat),.int (un a d:Nat)])) s:=by unfold tabD;rw[x_subsT,QhC h]
theorem QiM {S n:Nat}{nx un:Nat->Nat->Nat} (h:0 < S):wp (subsD (tabD S n nx un) (.int 0)) Q s=Q (.tup (upto n fun d=>.tup [.int (nx 0 d:Nat),.int (un 0 d:Nat)])) s:=by unfold tabD;rw[x_subsT,QhD h]
theorem QiN {S n d:Nat}{nx un:Nat->Nat->Nat} (ok:TabOk S n nx un) (hd:d < n):wp (jh [tabD S n nx un,.int d]) Q s=Q (.int ((1 + mx (un · d) S:Nat):Int)) s:=by
 have hS:=ok.1
 have hS4:=ok.2.1
 have l1:S<=lim:=Qhc (by ac_nf)
 have mu:∀ A s,wp (collect (gVar 0) tTrue (c2 subsD (c2 subsD (cVar 0) (cVar 1)) (cCon (.int 1))) anySt (upto S fun s=>.tup (upto n fun d=>D.tup [.int (nx s d:Nat),.int (un s d:Nat)])) [none,some (.int d)]) A s=A (upto S fun i=>.int (un i d:Nat)) s:=fun A s=>
  QhF QhE fun i hi Q=>by simp_arith [↓QhC hd]
 have m2:∀ (Q:D->Sto->Prop) s,wp (maxD (upto S fun i=>.int (un i d:Nat))) Q s=Q (.int (mx (un · d) S:Nat)) s:=fun Q s=>QhK (f:=(un · d)) (by ac_nf)
 have e:(1 + ((mx (un · d) S:Nat):Int))=((1 + mx (un · d) S:Nat):Int):=by ac_nf
 unfold tabD
 (simp_arith [jh];simp_arith [jR,capt,Qhs,l1,↓mu,↓m2,e])
end
open PySem (Str)
section
variable {p q:Nat}{s s1 s2:Sto}{Q:D->Sto->Prop}
def LnsOk (bs:List Bd) (m:Nat) (d:D):Prop:=∃ l,d=lnD l/\LnOk bs m l
theorem QiO {bs:List Bd}{m:Nat}:∀ {ds:List D},(∀ d∈ds,LnsOk bs m d)->∃ ls:List Ln,ds=ls.map lnD/\∀ l∈ls,LnOk bs m l
 | [],_=>⟨[],rfl,fun l h=>absurd h (by simp)⟩
 | d::ds,h=>by
  obtain⟨l,e,hl⟩:=h d (by simp)
  obtain⟨ls,e2,h2⟩:=QiO (ds:=ds) fun x hx=>h x (by simp[hx])
  refine⟨l::ls,by rw[e,e2];rfl,fun x hx=>?_⟩
  rcases List.mem_cons.mp hx with hx | hx
  ·rw[hx];exact hl
  ·exact h2 x hx
theorem QiP {P:Nat->Prop}:∀ {ds:List D},(∀ d∈ds,∃ n:Nat,d=natD n/\P n)->∃ ns:List Nat,ds=ns.map natD/\∀ n∈ns,P n
 | [],_=>⟨[],rfl,fun l h=>absurd h (by simp)⟩
 | d::ds,h=>by
  obtain⟨l,e,hl⟩:=h d (by simp)
  obtain⟨ls,e2,h2⟩:=QiP (ds:=ds) fun x hx=>h x (by simp[hx])
  refine⟨l::ls,by rw[e,e2];rfl,fun x hx=>?_⟩
  rcases List.mem_cons.mp hx with hx | hx
  ·rw[hx];exact hl
  ·exact h2 x hx
theorem QiQ {bs : List Bd} {m : Nat} (hp : PK p q s s1) (hb : ∀ b ∈ bs, BdOk b) (hb1 : 1 <= bs.length) (hbl : bs.length <= 7) (hm1 : 2 <= m) (hm2 : m <= 12)
  (h:∀ hd s',HdOk bs hd->PK p q s s'->Kept p q s1 s'->Q (hdD hd) s'):wp (jC [.dic p,.tup (bs.map bdD),.int m]) Q s1:=by
 have pl:=hp.1.lt
 have ls1:=hp.2.le
 have l2:2<=lim:=Qhc (by ac_nf)
 have l4:4<=lim:=Qhc (by ac_nf)
 have em:((m:Int) - 2).toNat=m - 2:=by ac_nf
 (simp_arith [jC];simp_arith [j5,Nat.zero_le,em])
 refine⟨⟨by ac_nf,by ac_nf⟩,?_⟩
 refine Qhe (fun i l s'=>∃ (rows:List D) (y4 y5 y6 y7 y8 y9:Option D),l=[some (.dic p),some (.tup (bs.map bdD)),some (.int m),some (.ref s1.length),y4,y5,y6,y7,y8,y9]/\s'[s1.length]?=some (.lst rows)/\rows.length=i/\(∀ r∈rows,LnsOk bs m r)/\PK p q s s'/\Kept p q s1 s') (fun _ _ _ _=>trivial)
  ⟨[],none,none,none,none,none,none,rfl,QhW,rfl,fun r hr=>absurd hr (by simp),hp.snoc,Kept.refl.snoc⟩ (fun i d l s' hd hZ0=>?_) (fun l s' hZ0=>?_)
 ·obtain⟨rows,y4,y5,y6,y7,y8,y9,el,g,hl,hr,hk,w⟩:=hZ0
  subst el
  obtain⟨hi,ed⟩:=Qha hd
  subst ed
  simp_arith [List.length_map]
  refine QiF hk (by ac_nf) (by ac_nf) fun bi s2 bi0 bi1 hk2 v2=>?_
  obtain⟨b,rfl⟩:=toN bi0
  have hb1:b < bs.length:=by ac_nf
  have hat:bs[b]?=some bs[b]:=List.getElem?_eq_getElem hb1
  obtain⟨ok,hst⟩:=hb bs[b] (List.getElem_mem hb1)
  generalize bs[b]=bd at hat ok hst
  have q3:∀ (Q:D->Sto->Prop) s,wp (itemD (bs.map bdD) (b:Int)) Q s=Q (.tup [tabD bd.S bd.dn bd.nx bd.un,natD bd.st]) s:=fun Q s=>Qhj (by rw[List.getElem?_map,hat];rfl)
  have t0:∀ (Q:D->Sto->Prop) s,wp (subsD (tabD bd.S bd.dn bd.nx bd.un) (.int 0)) Q s=Q (.tup (upto bd.dn fun d=>.tup [.int (bd.nx 0 d:Nat),.int (bd.un 0 d:Nat)])) s:=fun Q s=>QiM ok.1
  simp_arith [↓q3,↓t0,Qhs]
  have dn1:=ok.2.2.1
  have dn2:=ok.2.2.2.1
  refine QiF hk2 (by ac_nf) (by ac_nf) fun dd s3 dd0 dd1 hk3 v3=>?_
  obtain⟨d,rfl⟩:=toN dd0
  have hd':d < bd.dn:=by ac_nf
  have an:∀ (Q:D->Sto->Prop) s,wp (jh [tabD bd.S bd.dn bd.nx bd.un,.int d]) Q s=Q (.int ((1 + mx (bd.un · d) bd.S:Nat):Int)) s:=fun Q s=>QiN ok hd'
  have hmx:mx (bd.un · d) bd.S<=3:=QhJ fun i hi=>by have:=(ok.2.2.2.2 i d hi hd').2;ac_nf
  simp_arith [l4,Nat.zero_le,↓q3,↓an,Int.toNat_natCast]
  refine⟨rngb (by ac_nf) (by ac_nf),?_⟩
  have p3:=hk3.1.lt
  have v23:=w.trans (v2.trans v3)
  have lv:=v23.le
  have lg:=Qiu ((v2.trans v3).same (by ac_nf) (by ac_nf) g)
  refine Qhe (fun j l u=>∃ (gs:List D) (y8 y9:Option D),l=[some (.dic p),some (.tup (bs.map bdD)),some (.int m),some (.ref s1.length),some (.int i),some (.int b),some (.int d),some (.ref s3.length),y8,y9]/\u[s3.length]?=some (.lst gs)/\gs.length=j/\(∀ x∈gs,∃ n:Nat,x=natD n/\n < m)/\u[s1.length]?=some (.lst rows)/\PK p q s u/\Kept p q s1 u) (fun _ _ _ _=>trivial)
   ⟨[],y8,y9,rfl,QhW,rfl,fun x hx=>absurd hx (by simp),QhX ((v2.trans v3).same (by ac_nf) (by ac_nf) g),hk3.snoc,v23.snoc⟩ (fun j e l u hje hZ0=>?_) (fun l u hZ0=>?_)
  ·obtain⟨gs,y8,y9,el,ga,gl,gx,gr,hku,wu⟩:=hZ0
   subst el
   have hj:=(List.getElem?_eq_some_iff.mp hje).1
   rw[Qhb]at hj
   simp_arith []
   refine QiF hku (by ac_nf) (by ac_nf) fun x v x0 x1 hkv wv=>?_
   simp_arith []
   refine QiF hkv (by ac_nf) (by ac_nf) fun x' v' x0' x1' hkv' wv'=>?_
   simp_arith [l2]
   refine QiF hkv' (by ac_nf) (by ac_nf) fun x'' v'' x0'' x1'' hkv'' wv''=>?_
   have W:=wv.trans (wv'.trans wv'')
   have g5:=W.same (by ac_nf) (by ac_nf) ga
   have q5:∀ Q,wp (getL s3.length) Q v''=Q gs v'':=fun Q=>Qg1 g5
   have q6:∀ es Q,wp (putL s3.length es) Q v''=Q () (v''.set s3.length (.lst es)):=fun es Q=>Qg2 g5
   obtain⟨y,hy,hy2⟩:∃ y:Nat,(∀ (Q:D->Sto->Prop) s,wp (itemD [.int ((i:Int) + 1 + x),.int x'] (if x''=0 then 1 else 0)) Q s=Q (natD y) s)/\y < m:=by
    by_cases hz:x''=0
    ·rw[if_pos hz]
     exact⟨x'.toNat,fun Q s=>by rw[x_item1];unfold natD;rw[Int.toNat_of_nonneg x0'],by ac_nf⟩
    ·rw[if_neg hz]
     exact⟨i + 1 + x.toNat,fun Q s=>by rw[x_item0];unfold natD;congr 2;ac_nf,by ac_nf⟩
   simp_arith [l2,↓hy,↓q5,↓q6]
   refine⟨Qhd (by ac_nf),_,_,_,rfl,List.getElem?_set_self (Qiu g5),by simp[gl],fun z hz=>?_,?_,hkv''.put (by ac_nf) (by ac_nf) (by ac_nf),(wu.trans W).put (by ac_nf)⟩
   ·rcases List.mem_append.mp hz with hz | hz
    ·exact gx z hz
    ·exact⟨y,List.mem_singleton.mp hz,hy2⟩
   ·rw[List.getElem?_set_ne (by ac_nf)];exact W.same (by ac_nf) (by ac_nf) gr
  ·obtain⟨gs,y8,y9,el,ga,gl,gx,gr,hku,wu⟩:=hZ0
   subst el
   rw[Qhb]at gl
   have q5:∀ Q,wp (getL s3.length) Q u=Q gs u:=fun Q=>Qg1 ga
   have q7:∀ Q,wp (getL s1.length) Q u=Q rows u:=fun Q=>Qg1 gr
   have q8:∀ es Q,wp (putL s1.length es) Q u=Q () (u.set s1.length (.lst es)):=fun es Q=>Qg2 gr
   simp_arith [↓q5,l4,↓q7,↓q8]
   obtain⟨ns,en,hns⟩:=QiP gx
   refine⟨Qhd (by ac_nf),_,_,_,_,_,_,_,rfl,List.getElem?_set_self (Qiu gr),by simp[hl],fun z hz=>?_,hku.put (by ac_nf) (by ac_nf) (by ac_nf),wu.put (by ac_nf)⟩
   rcases List.mem_append.mp hz with hz | hz
   ·exact hr z hz
   ·refine⟨.act b d ns,by rw[List.mem_singleton.mp hz,en];rfl,bd,hat,hd',?_,hns⟩
    rw[en,List.length_map]at gl
    ac_nf
 ·obtain⟨rows,y4,y5,y6,y7,y8,y9,el,g,hl,hr,hk,w⟩:=hZ0
  subst el
  rw[Qhb]at hl
  have q1:∀ Q,wp (addD (.ref s1.length) (.ref s'.length)) Q (s'++[.lst [.tup [.str "settle",.int 0],.tup [.str "settle",.int 1]]])=(rows.length + 2<=lim/\Q (.ref (s'++[MO.lst [.tup [.str "settle",.int 0],.tup [.str "settle",.int 1]]]).length) (s'++[.lst [.tup [.str "settle",.int 0],.tup [.str "settle",.int 1]]]++[.lst (rows++[.tup [.str "settle",.int 0],.tup [.str "settle",.int 1]])])):=fun Q=>Qhi (QhX g) QhW
  have lw:=w.le
  have lg:=Qiu g
  simp_arith [l2,↓q1]
  refine⟨Qhc (by ac_nf),?_⟩
  refine QiF hk.snoc.snoc (by ac_nf) (by ac_nf) fun b0 u0 c0 c1 hu0 wu0=>?_
  simp_arith []
  refine QiF hu0 (by ac_nf) (by ac_nf) fun b1 u1 d0 d1 hu1 wu1=>?_
  have g2:=(wu0.trans wu1).same (by simp;ac_nf) (by simp;ac_nf) (QhW:(s'++[MO.lst [.tup [.str "settle",.int 0],.tup [.str "settle",.int 1]]]++[MO.lst (rows++[D.tup [.str "settle",.int 0],.tup [.str "settle",.int 1]])])[(s'++[MO.lst [.tup [.str "settle",.int 0],.tup [.str "settle",.int 1]]]).length]?=_)
  have q2:∀ Q,wp (getL (s'++[MO.lst [D.tup [.str "settle",.int 0],.tup [.str "settle",.int 1]]]).length) Q u1=Q (rows++[.tup [.str "settle",.int 0],.tup [.str "settle",.int 1]]) u1:=fun Q=>Qg1 g2
  simp_arith [↓q2,l2]
  obtain⟨b0,rfl⟩:=toN c0
  obtain⟨b1,rfl⟩:=toN d0
  obtain⟨ls,els,hls⟩:=QiO (ds:=rows++[.tup [.str "settle",.int 0],.tup [.str "settle",.int 1]]) (bs:=bs) (m:=m) fun d hd=>by
   rcases List.mem_append.mp hd with hd | hd
   ·exact hr d hd
   ·simp only[List.mem_cons,List.not_mem_nil,or_false]at hd
    rcases hd with e | e
    ·exact⟨.settle 0,e,by show 0 < 2;ac_nf⟩
    ·exact⟨.settle 1,e,by show 1 < 2;ac_nf⟩
  have hll:ls.length=m:=by
   have:=congrArg List.length els
   rw[List.length_map,List.length_append]at this
   simp at this
   ac_nf
  rw[els]
  exact h ⟨b0,b1,ls⟩ _ ⟨by show b0 < ls.length;ac_nf,by show b1 < ls.length;ac_nf,by show ls.length<=12;ac_nf,fun l hl=>by show LnOk bs ls.length l;rw[hll];exact hls l hl⟩ hu1 ((w.snoc.snoc.trans wu0).trans wu1)
end
open PySem (Str)
section
variable {p q:Nat}{s s1 s2:Sto}{Q:D->Sto->Prop}
def IsT (d:D):Prop:=∃ S dn nx un,d=tabD S dn nx un/\TabOk S dn nx un
def IsB (d:D):Prop:=∃ b,d=bdD b/\BdOk b
def IsH (bs:List Bd) (d:D):Prop:=∃ h,d=hdD h/\HdOk bs h
theorem QiR:∀ {ds:List D},(∀ d∈ds,IsB d)->∃ ls:List Bd,ds=ls.map bdD/\∀ l∈ls,BdOk l
 | [],_=>⟨[],rfl,fun l h=>absurd h (by simp)⟩
 | d::ds,h=>by
  obtain⟨l,e,hl⟩:=h d (by simp)
  obtain⟨ls,e2,h2⟩:=QiR (ds:=ds) fun x hx=>h x (by simp[hx])
  refine⟨l::ls,by rw[e,e2];rfl,fun x hx=>?_⟩
  rcases List.mem_cons.mp hx with hx | hx
  ·rw[hx];exact hl
  ·exact h2 x hx
theorem QiS {bs:List Bd}:∀ {ds:List D},(∀ d∈ds,IsH bs d)->∃ ls:List Hd,ds=ls.map hdD/\∀ l∈ls,HdOk bs l
 | [],_=>⟨[],rfl,fun l h=>absurd h (by simp)⟩
 | d::ds,h=>by
  obtain⟨l,e,hl⟩:=h d (by simp)
  obtain⟨ls,e2,h2⟩:=QiS (ds:=ds) fun x hx=>h x (by simp[hx])
  refine⟨l::ls,by rw[e,e2];rfl,fun x hx=>?_⟩
  rcases List.mem_cons.mp hx with hx | hx
  ·rw[hx];exact hl
  ·exact h2 x hx
theorem QiT (hp:PK p q s s1) (h:∀ hs s',HsOk hs->hs.boards.length<=3->PK p q s s'->Kept p q s1 s'->Q (hsD hs) s'):wp (jo [.dic p]) Q s1:=by
 have l2:2<=lim:=Qhc (by ac_nf)
 (simp_arith [jo];simp_arith [jM])
 refine QiF hp (by ac_nf) (by ac_nf) fun r1 t1 a0 a1 h1 w1=>?_
 simp_arith []
 obtain⟨hn,ehn,hn2⟩:∃ hn:Nat,(2 + (if (r1 == 0)=true then (1:Int) else 0))=(hn:Int)/\(hn=2\/hn=3):=by
  by_cases hz:(r1 == 0)=true
  ·exact⟨3,by rw[if_pos hz];rfl,.inr rfl⟩
  ·exact⟨2,by rw[if_neg hz];rfl,.inl rfl⟩
 rw[ehn]
 refine QiF h1 (by ac_nf) (by ac_nf) fun r2 t2 b0 b1 h2 w2=>?_
 simp_arith [l2]
 obtain⟨mn,hmn,hmn2⟩:∃ mn:Nat,(∀ (Q:D->Sto->Prop) s,wp (itemD [.int (1 + r2),.int 1] ((hn:Int) - 2)) Q s=Q (.int mn) s)/\1<=mn/\mn<=2:=by
  rcases hn2 with e | e<;>subst e
  ·exact⟨1 + r2.toNat,fun Q s=>by rw[show ((2:Nat):Int) - 2=0 from rfl,x_item0];congr 2;ac_nf,by ac_nf⟩
  ·exact⟨1,fun Q s=>by rw[show ((3:Nat):Int) - 2=1 from rfl,x_item1];rfl,by ac_nf⟩
 obtain⟨ms,hms,hms2⟩:∃ ms:Nat,(∀ (Q:D->Sto->Prop) s,wp (itemD [.int 2,.int 1] ((hn:Int) - 2)) Q s=Q (.int ms) s)/\1<=ms/\ms<=2:=by
  rcases hn2 with e | e<;>subst e
  ·exact⟨2,fun Q s=>by rw[show ((2:Nat):Int) - 2=0 from rfl,x_item0];rfl,by ac_nf⟩
  ·exact⟨1,fun Q s=>by rw[show ((3:Nat):Int) - 2=1 from rfl,x_item1];rfl,by ac_nf⟩
 simp_arith [↓hmn,capt,Int.toNat_natCast,Qhb]
 refine⟨QiI (by ac_nf),Qhc (by ac_nf),?_⟩
 have w12:=w1.trans w2
 refine QhZ (isI mn) IsT (fun s'=>PK p q s s'/\Kept p q s1 s') (fun _ _=>trivial) ⟨h2,w12⟩ Qh0 (fun d s' _ hZ0=>?_) (fun ts s3 ho hP hZ0=>?_)
 ·obtain⟨hk,w⟩:=hZ0
  simp_arith []
  refine QiJ hk fun S dn nx un s4 ok hk4 w4=>?_
  exact⟨⟨S,dn,nx,un,rfl,ok⟩,hk4,w.trans w4⟩
 obtain⟨h3,w3⟩:=hZ0
 rw[Qhb]at ho
 have g0:(s3++[MO.lst ts])[s3.length]?=some (.lst ts):=QhW
 have pl:=h3.1.lt
 have q0:∀ Q,wp (getL s3.length) Q (s3++[MO.lst ts])=Q ts (s3++[MO.lst ts]):=fun Q=>Qg1 g0
 simp_arith [↓q0,capt]
 refine⟨Qhc (by ac_nf),?_⟩
 refine QhZ IsT IsB (fun s'=>s'[s3.length]?=some (.lst ts)/\PK p q s s'/\Kept p q s1 s') (fun s' z=>z.1) ⟨g0,h3.snoc,w3.snoc⟩ hP (fun d s' hT hZ0=>?_) (fun bsD s4 ho2 hP2 hZ0=>?_)
 ·obtain⟨g,hk,w⟩:=hZ0
  obtain⟨S,dn,nx,un,e,ok⟩:=hT
  subst e
  have lt:∀ (Q:D->Sto->Prop) s,wp (lenD (tabD S dn nx un)) Q s=Q (.int S) s:=fun Q s=>QiK
  simp_arith [↓lt,l2]
  have o1:=ok.1
  have o2:=ok.2.1
  refine QiF hk (by ac_nf) (by ac_nf) fun st s5 c0 c1 hk5 w5=>?_
  obtain⟨st,rfl⟩:=toN c0
  simp_arith [l2]
  exact⟨⟨⟨S,dn,nx,un,st⟩,rfl,ok,by show st < S;ac_nf⟩,w5.same (by ac_nf) (by ac_nf) g,hk5,w.trans w5⟩
 obtain⟨_,h4,w4⟩:=hZ0
 obtain⟨bs,ebs,hbs⟩:=QiR hP2
 have lb:bs.length=mn:=by rw[<- ho,<- ho2,ebs,List.length_map]
 subst ebs
 simp_arith [l2,↓hms,capt,Int.toNat_natCast,Qhb]
 refine⟨QiI (by ac_nf),Qhc (by ac_nf),?_⟩
 refine QhZ (isI hn) (IsH bs) (fun s'=>PK p q s s'/\Kept p q s1 s') (fun _ _=>trivial) ⟨h4,w4⟩ Qh0 (fun d s' _ hZ0=>?_) (fun hsL s6 ho3 hP3 hZ0=>?_)
 ·obtain⟨hk,w⟩:=hZ0
  simp_arith []
  refine QiF hk (by ac_nf) (by ac_nf) fun m s7 c0 c1 hk7 w7=>?_
  obtain⟨m,rfl⟩:=toN c0
  simp_arith []
  rw[show (2:Int) + (m:Int)=((2 + m:Nat):Int) by ac_nf]
  refine QiQ hk7 hbs (by ac_nf) (by ac_nf) (by ac_nf) (by ac_nf) fun hd s8 hok hk8 w8=>?_
  exact⟨⟨hd,rfl,hok⟩,hk8,(w.trans w7).trans w8⟩
 obtain⟨h6,w6⟩:=hZ0
 rw[Qhb]at ho3
 obtain⟨hs,ehs,hhs⟩:=QiS hP3
 have lh:hs.length=hn:=by rw[<- ho3,ehs,List.length_map]
 subst ehs
 simp_arith [l2]
 exact h ⟨bs,hs⟩ _ ⟨by show bs.length<=7;ac_nf,hbs,by show 2<=hs.length;ac_nf,by show hs.length<=3;ac_nf,hhs⟩ (by show bs.length<=3;ac_nf) h6 w6
end
open PySem (Str)
section
variable {p q:Nat}{s s1 s2:Sto}{Q:D->Sto->Prop}
def cel (rows:List (List (Nat × Nat))) (s d:Nat):Nat × Nat:=(rows.getD s []).getD d (0,0)
def bdR (rows:List (List (Nat × Nat))) (st:Nat):Bd:=⟨rows.length,(rows.headD []).length,fun s d=>(cel rows s d).1,fun s d=>(cel rows s d).2,st⟩
def bdP (n:Nat):Bd:=⟨n,n + 1,pnx,pun,0⟩
theorem QiU {n:Nat} (h1:1<=n) (h3:n<=3):BdOk (bdP n):=⟨QiG h1 h3,h1⟩
theorem QiV {ds:List D}{k:Int}:wp (mulTD (.tup ds) (.int k)) Q s=((2<=k/\k<=1000/\ds.length<=1000/\ds≠[])/\Q (.tup (List.replicate k.toNat ds).flatten) s):=by
 unfold mulTD;rw[wp_chk,wp_ret]
theorem QiW (hp:PK p q s s1) (h:∀ hs s',HsOk hs->hs.boards.length<=3->PK p q s s'->Kept p q s1 s'->Q (hsD hs) s'):wp (jn [.dic p]) Q s1:=by
 have l2:2<=lim:=Qhc (by ac_nf)
 have l1:1<=lim:=Qhc (by ac_nf)
 have l3:3<=lim:=Qhc (by ac_nf)
 have l4:4<=lim:=Qhc (by ac_nf)
 (simp_arith [jn];simp_arith [jI,l1,l2,l3,l4])
 refine QiF hp (by ac_nf) (by ac_nf) fun r t a0 a1 h1 w1=>?_
 simp_arith [↓QiV,l2]
 refine⟨⟨by ac_nf,by ac_nf,fun z=>nomatch z⟩,?_⟩
 obtain⟨r,rfl⟩:=toN a0
 have er:(2 + (r:Int)).toNat=2 + r:=by ac_nf
 rw[er,show ∀ (x:D),(List.replicate (2 + r) [x]).flatten=List.replicate (2 + r) x from fun x=>by rw[List.flatten_replicate_singleton]]
 have hd:HdOk [bdR [[(1,1),(2,2)],[(1,1),(1,1)],[(2,2),(2,2)]] 0] ⟨0,1,[.act 0 0 [2,2,3],.act 0 1 [2,2,3],.settle 0,.settle 1]⟩:=by
  refine⟨by decide,by decide,by decide,fun l hl=>?_⟩
  simp only[List.mem_cons,List.not_mem_nil,or_false]at hl
  rcases hl with e | e | e | e<;>subst e
  ·exact⟨_,rfl,by decide,by decide,by decide⟩
  ·exact⟨_,rfl,by decide,by decide,by decide⟩
  ·exact (by decide:0 < 2)
  ·exact (by decide:1 < 2)
 have hb:BdOk (bdR [[(1,1),(2,2)],[(1,1),(1,1)],[(2,2),(2,2)]] 0):=⟨⟨by decide,by decide,by decide,by decide,by
  have:∀ s,s < 3->∀ d,d < 2->(cel [[(1,1),(2,2)],[(1,1),(1,1)],[(2,2),(2,2)]] s d).1 < 3/\(cel [[(1,1),(2,2)],[(1,1),(1,1)],[(2,2),(2,2)]] s d).2 < 4:=by decide
  exact fun s d hs hd=>this s hs d hd⟩,by decide⟩
 have z:=h ⟨[bdR [[(1,1),(2,2)],[(1,1),(1,1)],[(2,2),(2,2)]] 0],List.replicate (2 + r) ⟨0,1,[.act 0 0 [2,2,3],.act 0 1 [2,2,3],.settle 0,.settle 1]⟩⟩ t ⟨by show 1<=7;ac_nf,fun b hb'=>by rw[List.mem_singleton.mp hb'];exact hb,by simp,by simp;ac_nf,fun x hx=>by rw[List.eq_of_mem_replicate hx];exact hd⟩ (by show 1<=3;ac_nf) h1 w1
 unfold hsD at z
 rw[List.map_replicate]at z
 exact z
def hdW1:Hd:=⟨0,1,[.act 0 2 [2],.act 0 3 [3],.settle 0,.settle 1]⟩
def hdW2:Hd:=⟨0,0,[.act 0 0 [0,1,2],.settle 0,.settle 1]⟩
theorem QiX (hp:PK p q s s1) (h:∀ hs s',HsOk hs->hs.boards.length<=3->PK p q s s'->Kept p q s1 s'->Q (hsD hs) s'):wp (js [.dic p]) Q s1:=by
 have l2:2<=lim:=Qhc (by ac_nf)
 have l1:1<=lim:=Qhc (by ac_nf)
 have l3:3<=lim:=Qhc (by ac_nf)
 have l4:4<=lim:=Qhc (by ac_nf)
 have hw1:HdOk [bdP 3] hdW1:=by
  refine⟨by decide,by decide,by decide,fun l hl=>?_⟩
  unfold hdW1 at hl
  simp only[List.mem_cons,List.not_mem_nil,or_false]at hl
  rcases hl with e | e | e | e<;>subst e
  ·exact⟨_,rfl,by decide,by decide,by decide⟩
  ·exact⟨_,rfl,by decide,by decide,by decide⟩
  ·exact (by decide:0 < 2)
  ·exact (by decide:1 < 2)
 have hw2:HdOk [bdP 3] hdW2:=by
  refine⟨by decide,by decide,by decide,fun l hl=>?_⟩
  unfold hdW2 at hl
  simp only[List.mem_cons,List.not_mem_nil,or_false]at hl
  rcases hl with e | e | e<;>subst e
  ·exact⟨_,rfl,by decide,by decide,by decide⟩
  ·exact (by decide:0 < 2)
  ·exact (by decide:1 < 2)
 have pe:∀ (Q:D->Sto->Prop) s,wp (je [.int 3]) Q s=Q (tabD 3 4 pnx pun) s:=fun Q s=>QiH (n:=3) (by ac_nf)
 have ok:∀ hds:List Hd,2<=hds.length->hds.length<=3->(∀ x∈hds,x=hdW1\/x=hdW2)->HsOk ⟨[bdP 3],hds⟩:=fun hds z1 z2 z=>⟨by show 1<=7;ac_nf,fun b hb'=>by rw[List.mem_singleton.mp hb'];exact QiU (by ac_nf) (by ac_nf),z1,z2,fun x hx=>by
  rcases z x hx with e | e<;>rw[e]
  ·exact hw1
  ·exact hw2⟩
 (simp_arith [js];simp_arith [jQ,l1,l2,l3,l4])
 refine QiF hp (by ac_nf) (by ac_nf) fun r t a0 a1 h1 w1=>?_
 obtain⟨r,rfl⟩:=toN a0
 have hr:r=0\/r=1\/r=2:=by ac_nf
 rcases hr with e | e | e<;>subst e
 ·rw[show ((0:Nat):Int)=0 from rfl]
  simp_arith [↓pe,l1,l2]
  exact h ⟨[bdP 3],[hdW1,hdW2]⟩ t (ok _ (by decide) (by decide) (by simp)) (by decide) h1 w1
 ·rw[show ((1:Nat):Int)=1 from rfl]
  simp_arith [↓pe,l1,l2]
  exact h ⟨[bdP 3],[hdW2,hdW1]⟩ t (ok _ (by decide) (by decide) (by simp)) (by decide) h1 w1
 ·rw[show ((2:Nat):Int)=2 from rfl]
  simp_arith [↓pe,l1,l2]
  exact h ⟨[bdP 3],[hdW1,hdW2,hdW2]⟩ t (ok _ (by decide) (by decide) (by simp)) (by decide) h1 w1
def hdY (k g0 g1:Nat):Hd:=⟨0,1,[.act k 2 [2],.act k 3 [3],.act (1 - k) 0 [4,4,g0],.act (1 - k) 0 [5,g1,5],.settle 0,.settle 1]⟩
theorem QiY {k g0 g1:Nat} (hk:k < 2) (h0:g0 < 6) (h1:g1 < 6):HdOk [bdP 3,bdP 3] (hdY k g0 g1):=by
 have e:∀ j,j < 2->[bdP 3,bdP 3][j]?=some (bdP 3):=fun j hj=>by rcases (by ac_nf:j=0\/j=1) with z | z<;>subst z<;>rfl
 refine⟨by show 0 < 6;ac_nf,by show 1 < 6;ac_nf,by show 6<=12;ac_nf,fun l hl=>?_⟩
 unfold hdY at hl
 simp only[List.mem_cons,List.not_mem_nil,or_false]at hl
 rcases hl with z | z | z | z | z | z<;>subst z
 ·exact⟨_,e k hk,by decide,by decide,fun g hg=>by show g < 6;simp at hg;ac_nf⟩
 ·exact⟨_,e k hk,by decide,by decide,fun g hg=>by show g < 6;simp at hg;ac_nf⟩
 ·exact⟨_,e (1 - k) (by ac_nf),by decide,by show 3=1 + mx (pun · 0) 3;decide,fun g hg=>by show g < 6;simp at hg;ac_nf⟩
 ·exact⟨_,e (1 - k) (by ac_nf),by decide,by show 3=1 + mx (pun · 0) 3;decide,fun g hg=>by show g < 6;simp at hg;ac_nf⟩
 ·exact (by decide:0 < 2)
 ·exact (by decide:1 < 2)
theorem QiZ (hp:PK p q s s1) (h:∀ hs s',HsOk hs->hs.boards.length<=3->PK p q s s'->Kept p q s1 s'->Q (hsD hs) s'):wp (jq [.dic p]) Q s1:=by
 have l2:2<=lim:=Qhc (by ac_nf)
 have l1:1<=lim:=Qhc (by ac_nf)
 have l3:3<=lim:=Qhc (by ac_nf)
 have l4:4<=lim:=Qhc (by ac_nf)
 have pl:=hp.1.lt
 have ls1:=hp.2.le
 have pe:∀ (Q:D->Sto->Prop) s,wp (je [.int 3]) Q s=Q (tabD 3 4 pnx pun) s:=fun Q s=>QiH (n:=3) (by ac_nf)
 (simp_arith [jq];simp_arith [jO,Nat.zero_le])
 refine⟨⟨by decide,by decide⟩,?_⟩
 refine Qhe (fun i l s'=>∃ (rows:List D) (y2 y3 y4:Option D),l=[some (.dic p),some (.ref s1.length),y2,y3,y4]/\s'[s1.length]?=some (.lst rows)/\rows.length=i/\(∀ r∈rows,IsH [bdP 3,bdP 3] r)/\PK p q s s'/\Kept p q s1 s') (fun _ _ _ _=>trivial)
  ⟨[],none,none,none,rfl,QhW,rfl,fun r hr=>absurd hr (by simp),hp.snoc,Kept.refl.snoc⟩ (fun i d l s' hd hZ0=>?_) (fun l s' hZ0=>?_)
 ·obtain⟨rows,y2,y3,y4,el,g,hl,hr,hk,w⟩:=hZ0
  subst el
  obtain⟨hi,ed⟩:=Qha hd
  subst ed
  have hi2:i < 2:=hi
  simp_arith [l2]
  refine QiF hk (by ac_nf) (by ac_nf) fun r t a0 a1 h1 w1=>?_
  obtain⟨g0,g1,hg,b0,b1⟩:∃ g0 g1:Nat,(∀ (Q:D->Sto->Prop) s,wp (itemD [.tup [.int 2,.int 3],.tup [.int 1,.int 0]] r) Q s=Q (.tup [natD g0,natD g1]) s)/\g0 < 6/\g1 < 6:=by
   obtain⟨r,rfl⟩:=toN a0
   have hr:r=0\/r=1:=by ac_nf
   rcases hr with e | e<;>subst e
   ·exact⟨2,3,fun Q s=>by rw[show ((0:Nat):Int)=0 from rfl,x_item0];rfl,by ac_nf,by ac_nf⟩
   ·exact⟨1,0,fun Q s=>by rw[show ((1:Nat):Int)=1 from rfl,x_item1];rfl,by ac_nf,by ac_nf⟩
  have lt1:=w1.le
  have lg:=Qiu g
  have ei:(1:Int) - (i:Int)=((1 - i:Nat):Int):=by ac_nf
  simp_arith [↓hg,l1,l2,l3,l4,ei]
  have q1:∀ (A B:List D) (Q:D->Sto->Prop),wp (addD (.ref t.length) (.ref (t++[MO.lst A]).length)) Q (t++[MO.lst A]++[MO.lst B])=(A.length + B.length<=lim/\Q (.ref (t++[MO.lst A]++[MO.lst B]).length) (t++[MO.lst A]++[MO.lst B]++[.lst (A++B)])):=fun A B Q=>Qhi (by simp) (by simp)
  have q2:∀ (A B:List D) (C:List D) (Q:List D->Sto->Prop),wp (getL (t++[MO.lst A]++[MO.lst B]).length) Q (t++[MO.lst A]++[MO.lst B]++[.lst C])=Q C (t++[MO.lst A]++[MO.lst B]++[.lst C]):=fun A B C Q=>Qg1 (by simp)
  have gt:∀ A B C:List D,(t++[MO.lst A]++[MO.lst B]++[MO.lst C])[s1.length]?=some (.lst rows):=fun A B C=>QhX (QhX (QhX (w1.same (by ac_nf) (by ac_nf) g)))
  have q3:∀ (A B C:List D) (Q:List D->Sto->Prop),wp (getL s1.length) Q (t++[MO.lst A]++[MO.lst B]++[.lst C])=Q rows (t++[MO.lst A]++[MO.lst B]++[.lst C]):=fun A B C Q=>Qg1 (gt A B C)
  have q4:∀ (A B C:List D) es (Q:Unit->Sto->Prop),wp (putL s1.length es) Q (t++[MO.lst A]++[MO.lst B]++[.lst C])=Q () ((t++[MO.lst A]++[MO.lst B]++[MO.lst C]).set s1.length (MO.lst es)):=fun A B C es Q=>Qg2 (gt A B C)
  simp_arith [↓q1,↓q2,↓q3,↓q4,l1,l2,l3,l4,List.length_cons,List.length_nil]
  refine⟨Qhc (by ac_nf),Qhd (by ac_nf),_,_,_,_,rfl,List.getElem?_set_self (Qiu (gt _ _ _)),by simp[hl],fun z hz=>?_,h1.snoc.snoc.snoc.put (by ac_nf) (by ac_nf) (by ac_nf),(w.trans w1).snoc.snoc.snoc.put (by ac_nf)⟩
  rcases List.mem_append.mp hz with hz | hz
  ·exact hr z hz
  ·exact⟨hdY i g0 g1,List.mem_singleton.mp hz,QiY hi2 b0 b1⟩
 ·obtain⟨rows,y2,y3,y4,el,g,hl,hr,hk,w⟩:=hZ0
  subst el
  have q1:∀ Q,wp (getL s1.length) Q s'=Q rows s':=fun Q=>Qg1 g
  simp_arith [↓pe,↓q1,l1,l2]
  obtain⟨hs,ehs,hhs⟩:=QiS hr
  have lh:hs.length=2:=by rw[ehs,List.length_map,Qhb]at hl;exact hl
  subst ehs
  exact h ⟨[bdP 3,bdP 3],hs⟩ s' ⟨by show 2<=7;ac_nf,fun b hb'=>by
   have:b=bdP 3:=by simpa using hb'
   rw[this];exact QiU (by ac_nf) (by ac_nf),by show 2<=hs.length;ac_nf,by show hs.length<=3;ac_nf,hhs⟩ (by show 2<=3;ac_nf) hk w
end
open PySem (Str)
section
variable {p q:Nat}{s s1 s2:Sto}{Q:D->Sto->Prop}
theorem Qi0 {n j:Nat} (h:j < n):ixN n (j:Int)=some j:=by
 unfold ixN
 rw[if_pos (by ac_nf),if_pos (by ac_nf)];simp
theorem mem_set {α:Type}{x v:α}:∀ {l:List α}{i:Nat},x∈l.set i v->x∈l\/x=v
 | [],_,h=>absurd h (by simp)
 | a::l,0,h=>by
  rcases List.mem_cons.mp h with e | e
  ·exact .inr e
  ·exact .inl (List.mem_cons_of_mem _ e)
 | a::l,i + 1,h=>by
  rcases List.mem_cons.mp h with e | e
  ·exact .inl (by rw[e];exact List.mem_cons_self)
  ·rcases mem_set e with z | z
   ·exact .inl (List.mem_cons_of_mem _ z)
   ·exact .inr z
theorem le_mx:∀ {n:Nat}{f:Nat->Nat}{i:Nat},i < n->f i<=mx f n:=fun {n f i} h=>by
 induction n with
 | zero=>ac_nf
 | succ n ih=>
  unfold mx
  by_cases e:i=n
  ·subst e;ac_nf
  ·have:=ih (by ac_nf);ac_nf
theorem Qi1 {k st dd:Nat}{bd:Bd} (hk:k < 2) (hb:BdOk bd) (hs:bd.st=st) (hd:dd < bd.dn) (h:∀ x s',IsH [bdP 2,bdP 2,bd] x->Ext s s'->Q x s'):wp (jj [.int k,tabD bd.S bd.dn bd.nx bd.un,.int st,.int dd]) Q s:=by
 have l2:2<=lim:=Qhc (by ac_nf)
 have l1:1<=lim:=Qhc (by ac_nf)
 have l3:3<=lim:=Qhc (by ac_nf)
 have l4:4<=lim:=Qhc (by ac_nf)
 obtain⟨ok,hst⟩:=hb
 rw[hs]at hst
 have an:∀ (Q:D->Sto->Prop) s,wp (jh [tabD bd.S bd.dn bd.nx bd.un,.int dd]) Q s=Q (.int ((1 + mx (bd.un · dd) bd.S:Nat):Int)) s:=fun Q s=>QiN ok hd
 have hmx:mx (bd.un · dd) bd.S<=3:=QhJ fun i hi=>by have:=(ok.2.2.2.2 i dd hi hd).2;ac_nf
 have hun:bd.un st dd<=mx (bd.un · dd) bd.S:=le_mx (f:=(bd.un · dd)) hst
 have t0:∀ (Q:D->Sto->Prop) s,wp (subsD (tabD bd.S bd.dn bd.nx bd.un) (.int st)) Q s=Q (.tup (upto bd.dn fun d=>.tup [.int (bd.nx st d:Nat),.int (bd.un st d:Nat)])) s:=fun Q s=>QiL hst
 (simp_arith [jj];simp_arith [jK,Nat.zero_le])
 refine⟨⟨by decide,by decide⟩,?_⟩
 refine Qhe (fun i l s'=>∃ (n:Nat) (rows:List D) (y5 y6:Option D),l=[some (.int k),some (tabD bd.S bd.dn bd.nx bd.un),some (.int st),some (.int dd),some (.ref n),y5,y6]/\s'[n]?=some (.lst rows)/\rows.length=2 * i/\(∀ r∈rows,LnsOk [bdP 2,bdP 2,bd] 7 r)/\Ext s s') (fun _ _ _ _=>trivial)
  ⟨s.length,[],none,none,rfl,QhW,rfl,fun r hr=>absurd hr (by simp),(Ext.refl _).snoc _⟩ (fun i d l s' hd' hZ0=>?_) (fun l s' hZ0=>?_)
 ·obtain⟨n,rows,y5,y6,el,g,hl,hr,w⟩:=hZ0
  subst el
  obtain⟨hi,ed⟩:=Qha hd'
  subst ed
  have hi2:i < 2:=hi
  have lg:=Qiu g
  have u1:((1 + mx (bd.un · dd) bd.S:Nat):Int).toNat=1 + mx (bd.un · dd) bd.S:=by ac_nf
  simp_arith [l1,↓an,u1,List.length_cons,List.length_nil,Nat.zero_add,Nat.one_mul]
  refine⟨⟨⟨by ac_nf,by ac_nf⟩,Qhc (by ac_nf)⟩,?_⟩
  have er:(List.replicate (1 + mx (bd.un · dd) bd.S) [D.int 4]).flatten=List.replicate (1 + mx (bd.un · dd) bd.S) (.int 4):=by rw[List.flatten_replicate_singleton]
  rw[er]
  have ge:(s'++[MO.lst (List.replicate (1 + mx (bd.un · dd) bd.S) (D.int 4))])[s'.length]?=some (.lst (List.replicate (1 + mx (bd.un · dd) bd.S) (D.int 4))):=QhW
  have g1:∀ Q,wp (getL s'.length) Q (s'++[MO.lst (List.replicate (1 + mx (bd.un · dd) bd.S) (D.int 4))])=Q (List.replicate (1 + mx (bd.un · dd) bd.S) (D.int 4)) (s'++[MO.lst (List.replicate (1 + mx (bd.un · dd) bd.S) (D.int 4))]):=fun Q=>Qg1 ge
  have g2:∀ es Q,wp (putL s'.length es) Q (s'++[MO.lst (List.replicate (1 + mx (bd.un · dd) bd.S) (D.int 4))])=Q () ((s'++[MO.lst (List.replicate (1 + mx (bd.un · dd) bd.S) (D.int 4))]).set s'.length (.lst es)):=fun es Q=>Qg2 ge
  have iu:∀ (Q:D->Sto->Prop) s,wp (itemD (upto bd.dn fun d=>.tup [.int (bd.nx st d:Nat),.int (bd.un st d:Nat)]) (dd:Int)) Q s=Q (.tup [.int (bd.nx st dd:Nat),.int (bd.un st dd:Nat)]) s:=fun Q s=>QhC hd
  simp_arith [↓t0,↓iu,↓g1,↓g2]
  have ix:ixN (List.replicate (1 + mx (bd.un · dd) bd.S) (D.int 4)).length (bd.un st dd:Nat)=some (bd.un st dd):=by
   rw[List.length_replicate];exact Qi0 (by ac_nf)
  simp only[ix]
  rw[g2]
  generalize eG:(List.replicate (1 + mx (bd.un · dd) bd.S) (D.int 4)).set (bd.un st dd) (.int (5 + (i:Int)))=G
  have lG:G.length=1 + mx (bd.un · dd) bd.S:=by rw[<- eG];simp
  have hG:∀ x∈G,∃ n:Nat,x=natD n/\n < 7:=fun x hx=>by
   rw[<- eG]at hx
   rcases mem_set hx with z | z
   ·exact⟨4,List.eq_of_mem_replicate z,by ac_nf⟩
   ·exact⟨5 + i,z,by ac_nf⟩
  have eS:(s'++[MO.lst (List.replicate (1 + mx (bd.un · dd) bd.S) (D.int 4))]).set s'.length (.lst G)=s'++[.lst G]:=by
   rw[List.set_append,if_neg (by ac_nf)];simp
  rw[eS]
  have g3:∀ Q,wp (getL s'.length) Q (s'++[MO.lst G])=Q G (s'++[MO.lst G]):=fun Q=>Qg1 QhW
  have q1:∀ (B:List D) (Q:D->Sto->Prop),wp (addD (.ref n) (.ref (s'++[MO.lst G]).length)) Q (s'++[MO.lst G]++[MO.lst B])=(rows.length + B.length<=lim/\Q (.ref (s'++[MO.lst G]++[MO.lst B]).length) (s'++[MO.lst G]++[MO.lst B]++[.lst (rows++B)])):=fun B Q=>Qhi (QhX (QhX g)) (by simp)
  simp_arith [↓g3,↓q1,l1,l2,l4,List.length_cons,List.length_nil]
  obtain⟨ns,en,hns⟩:=QiP hG
  have ek:[bdP 2,bdP 2,bd][k]?=some (bdP 2):=by rcases (by ac_nf:k=0\/k=1) with z | z<;>subst z<;>rfl
  refine⟨by unfold mulOk;ac_nf,Qhc (by ac_nf),_,_,_,_,rfl,QhW,by simp[hl];ac_nf,fun r hr'=>?_,((w.snoc _).snoc _).snoc _⟩
  rcases List.mem_append.mp hr' with hr' | hr'
  ·exact hr r hr'
  ·simp only[List.mem_cons,List.not_mem_nil,or_false]at hr'
   rcases hr' with e | e
   ·refine⟨.act k (1 + i) [2 * i + 1],by rw[e];rfl,_,ek,by show 1 + i < 3;ac_nf,?_,fun g hg=>by simp at hg;ac_nf⟩
    rcases (by ac_nf:i=0\/i=1) with z | z<;>subst z<;>rfl
   ·refine⟨.act 2 dd ns,by rw[e,en];rfl,bd,rfl,hd,?_,hns⟩
    rw[en,List.length_map]at lG
    exact lG
 ·obtain⟨n,rows,y5,y6,el,g,hl,hr,w⟩:=hZ0
  subst el
  have q1:∀ Q,wp (getL n) Q s'=Q rows s':=fun Q=>Qg1 g
  rw[Qhb]at hl
  have hl4:rows.length=4:=hl
  have ek:(1:Int) - (k:Int)=((1 - k:Nat):Int):=by ac_nf
  simp_arith [↓q1,l1,l2,l3,l4,ek]
  refine⟨Qhc (by simp;ac_nf),?_⟩
  obtain⟨ls,els,hls⟩:=QiO (ds:=rows++[.tup [.str "do",natD (1 - k),.int 0,.tup [.int 5,.int 6]],.tup [.str "settle",.int 0],.tup [.str "settle",.int 1]]) (bs:=[bdP 2,bdP 2,bd]) (m:=7) fun d hd=>by
   rcases List.mem_append.mp hd with hd | hd
   ·exact hr d hd
   ·simp only[List.mem_cons,List.not_mem_nil,or_false]at hd
    rcases hd with e | e | e
    ·refine⟨.act (1 - k) 0 [5,6],e,bdP 2,?_,by decide,by decide,by decide⟩
     rcases (by ac_nf:k=0\/k=1) with z | z<;>subst z<;>rfl
    ·exact⟨.settle 0,e,by show 0 < 2;ac_nf⟩
    ·exact⟨.settle 1,e,by show 1 < 2;ac_nf⟩
  have hll:ls.length=7:=by
   have:=congrArg List.length els
   rw[List.length_map,List.length_append,hl4]at this
   exact this.symm
  refine h _ _ ⟨⟨0,2,ls⟩,?_,by show 0 < ls.length;ac_nf,by show 2 < ls.length;ac_nf,by show ls.length<=12;ac_nf,fun l hl=>by show LnOk _ ls.length l;rw[hll];exact hls l hl⟩ w
  unfold hdD
  rw[<- els]
  rfl
theorem Kept.ext {s1 s2:Sto} (h:Ext s1 s2):Kept p q s1 s2:=by
 obtain⟨t,e⟩:=h
 exact⟨by rw[e];simp,fun n hn _ _=>by rw[e,List.getElem?_append_left hn]⟩
theorem PotAt.ext {s1 s2:Sto} (h:Ext s1 s2) (k:PotAt s1 p q):PotAt s2 p q:=by
 obtain⟨x,c,cs,a,b,r⟩:=k.ex
 exact⟨k.ne,x,c,cs,h.at_ a,h.at_ b,r⟩
theorem PK.ext (h:PK p q s s1) (e:Ext s1 s2):PK p q s s2:=⟨h.1.ext e,h.2.trans (Kept.ext e)⟩
theorem Qi2 {dd : Nat} {bd : Bd} {A : List D -> Sto -> Prop} (hb : BdOk bd) (hs : bd.st = 0) (hd : dd < bd.dn) (h : ∀ (hs : List Hd) s', hs.length = 2 -> (∀ x ∈ hs, HdOk [bdP 2, bdP 2, bd] x) -> Ext s s' -> A (hs.map hdD) s') :
  wp (collect (gVar 0) tTrue (cCall jj (cCons (cVar 0) (cCons (cVar 1) (cCons (cVar 2) (cCons (cVar 3) cNil))))) anySt (rngD 0 2) [none,some (tabD bd.S bd.dn bd.nx bd.un),some (.int 0),some (.int dd)]) A s:=by
 refine QhZ (isI 2) (IsH [bdP 2,bdP 2,bd]) (fun s'=>Ext s s') (fun _ _=>trivial) (Ext.refl _) Qh0 (fun d s' hZ0 x=>?_) (fun out s' ho hP x=>?_)
 ·obtain⟨i,hi,e⟩:=hZ0
  subst e
  simp_arith []
  exact Qi1 (st:=0) hi hb hs hd fun y s2 hy x2=>⟨hy,x.trans x2⟩
 ·obtain⟨hs',e,hh⟩:=QiS hP
  subst e
  exact h hs' s' (by rw[Qhb,List.length_map]at ho;exact ho) hh x
theorem Qi3 (hp:PK p q s s1) (h:∀ hs s',HsOk hs->hs.boards.length<=3->PK p q s s'->Kept p q s1 s'->Q (hsD hs) s'):wp (jB [.dic p]) Q s1:=by
 have l2:2<=lim:=Qhc (by ac_nf)
 have l1:1<=lim:=Qhc (by ac_nf)
 have l3:3<=lim:=Qhc (by ac_nf)
 have pe:∀ (Q:D->Sto->Prop) s,wp (je [.int 2]) Q s=Q (tabD 2 3 pnx pun) s:=fun Q s=>QiH (n:=2) (by ac_nf)
 have fin:∀ (bd:Bd) (hs:List Hd) t t',BdOk bd->hs.length=2->(∀ x∈hs,HdOk [bdP 2,bdP 2,bd] x)->PK p q s t->Kept p q s1 t->Ext t t'->Q (hsD ⟨[bdP 2,bdP 2,bd],hs⟩) t':=fun bd hs t t' hb hl hh hk w x=>
  h _ _ ⟨by show 3<=7;ac_nf,fun b hb'=>by
   simp only[List.mem_cons,List.not_mem_nil,or_false]at hb'
   rcases hb' with e | e | e<;>rw[e]
   ·exact QiU (by ac_nf) (by ac_nf)
   ·exact QiU (by ac_nf) (by ac_nf)
   ·exact hb,by show 2<=hs.length;ac_nf,by show hs.length<=3;ac_nf,hh⟩ (by show 3<=3;ac_nf) (hk.ext x) (w.trans (Kept.ext x))
 have hr2:(-2 ^ 62<=(2:Int)/\(2:Int) < 2 ^ 62):=⟨by decide,by decide⟩
 have tn:Int.toNat 2=2:=rfl
 (simp_arith [jB];simp_arith [j6,l1,l2,l3])
 refine QiF hp (by ac_nf) (by ac_nf) fun r t a0 a1 h1 w1=>?_
 by_cases c0:r=0
 ·subst c0
  have hb:BdOk ⟨2,2,fun _ d=>d,fun s _=>s,0⟩:=⟨⟨by decide,by decide,by decide,by decide,fun s d hs hd=>⟨hd,Nat.lt_trans (show s < 2 from hs) (by decide)⟩⟩,by decide⟩
  have w1':∀ (j:Nat) (Q:List D->Sto->Prop) s,wp (collect (gVar 0) tTrue (cTup (cCons (cVar 0) (cCons (cVar 1) cNil))) anySt (upto 2 fun i=>.int i) [none,some (.int j)]) Q s=Q (upto 2 fun u=>.tup [.int u,.int j]) s:=fun j Q s=>QhF QhE fun i hi Q=>by simp_arith [l2]
  have w2':∀ (Q:List D->Sto->Prop) s,wp (collect (gVar 0) tTrue (cTmp tupL (aComp 1 [0] (MM.iRng1 (cCon (.int 2))) (gVar 0) tTrue (cTup (cCons (cVar 0) (cCons (cVar 1) cNil))))) anySt (upto 2 fun i=>.int i) [none]) Q s=Q (upto 2 fun v=>.tup (upto 2 fun u=>.tup [.int u,.int v])) s:=fun Q s=>QhF QhE fun i hi Q=>by
   simp_arith [capt,tn,Qhw,Qhs,hr2,l2,↓w1']
  simp_arith [capt,tn,Qhw,Qhs,hr2,l2,↓w2',↓pe,l1,l3,Int.reduceEq,decide_true,decide_false,if_true,Bool.false_eq_true,if_false]
  rw[<- Qhw]
  refine Qi2 (bd:=⟨2,2,fun _ d=>d,fun s _=>s,0⟩) (dd:=1) hb rfl (by decide) fun hs s' hl hh x=>?_
  simp_arith [l2]
  exact fin _ hs t s' hb hl hh h1 w1 x
 by_cases c1:r=1
 ·subst c1
  have hb:BdOk (bdR [[(1,0)],[(2,1)],[(0,2)]] 0):=⟨⟨by decide,by decide,by decide,by decide,by
   have:∀ s,s < 3->∀ d,d < 1->(cel [[(1,0)],[(2,1)],[(0,2)]] s d).1 < 3/\(cel [[(1,0)],[(2,1)],[(0,2)]] s d).2 < 4:=by decide
   exact fun s d hs hd=>this s hs d hd⟩,by decide⟩
  simp_arith [capt,tn,Qhb,hr2,l2,↓pe,l1,l3,Int.reduceEq,decide_true,decide_false,if_true,Bool.false_eq_true,if_false]
  refine Qi2 (bd:=bdR [[(1,0)],[(2,1)],[(0,2)]] 0) (dd:=0) hb rfl (by decide) fun hs s' hl hh x=>?_
  simp_arith [l2]
  exact fin _ hs t s' hb hl hh h1 w1 x
 ·have hb : BdOk (bdR [[(1, 0)], [(1, 1)]] 0) := ⟨⟨by decide, by decide, by decide, by decide, by
    have:∀ s,s < 2->∀ d,d < 1->(cel [[(1,0)],[(1,1)]] s d).1 < 2/\(cel [[(1,0)],[(1,1)]] s d).2 < 4:=by decide
    exact fun s d hs hd=>this s hs d hd⟩,by decide⟩
  simp_arith [capt,tn,Qhb,hr2,l2,↓pe,l1,l3,c0,c1,decide_true,decide_false,if_true,Bool.false_eq_true,if_false]
  refine Qi2 (bd:=bdR [[(1,0)],[(1,1)]] 0) (dd:=0) hb rfl (by decide) fun hs s' hl hh x=>?_
  simp_arith [l2]
  exact fin _ hs t s' hb hl hh h1 w1 x
end
open PySem (Str)
section
variable {p q:Nat}{s s1 s2:Sto}{Q:D->Sto->Prop}
theorem Qi4 {a : CE} {lo hi : CO} {l : Loc} : wp (cSliceW a lo hi l) Q s = wp (a l) (fun x s1 => wp (lo l) (fun i s2 => wp (hi l) (fun j s3 => match x with
  | .tup ds=>Q (.tup (cutD ds i j)) s3
  | _=>False) s2) s1) s:=by
 unfold cSliceW;rw[Qg0];congr 1;funext x s1;rw[Qg0];congr 1;funext i s2;rw[Qg0];congr 1;funext j s3;cases x<;>first | bv_omega
theorem cutA {xs:List D}{i:Nat} (hi:i < xs.length):cutD xs none (some (i:Int))=xs.take i:=by
 unfold cutD sIx;simp only[Int.toNat_natCast];rw[if_neg (by ac_nf),List.drop_zero];congr 1;ac_nf
theorem cutB {xs:List D}{i:Nat} (hi:i < xs.length):cutD xs (some ((i:Int) + 1)) none=xs.drop (i + 1):=by
 unfold cutD sIx
 have:(if (i:Int) + 1 < 0 then ((i:Int) + 1 + (xs.length:Int)).toNat else min ((i:Int) + 1).toNat xs.length)=i + 1:=by rw[if_neg (by ac_nf)];ac_nf
 simp only[this]
 exact List.take_of_length_le (by rw[List.length_drop];exact Nat.le_refl _)
theorem glue {α:Type}{xs:List α}{i:Nat}{v:α} (hi:i < xs.length):xs.take i++[v]++xs.drop (i + 1)=xs.set i v:=by
 rw[List.set_eq_take_append_cons_drop,if_pos hi];simp
theorem Qi5 {h:Hs} (hp:PK p q s s1) (ho:HsOk h) (hk:∀ hs s',HsOk hs->hs.boards=h.boards->PK p q s s'->Kept p q s1 s'->Q (hsD hs) s'):wp (jp [.dic p,hsD h]) Q s1:=by
 obtain⟨boards,hands⟩:=h
 obtain⟨o1,o2,o3,o4,o5⟩:=ho
 simp only at o1 o2 o3 o4 o5
 have l2:2<=lim:=Qhc (by ac_nf)
 have l1:1<=lim:=Qhc (by ac_nf)
 unfold hsD
 (simp_arith [jp];simp_arith [jS,List.length_map])
 refine QiF hp (by ac_nf) (by ac_nf) fun k t1 a0 a1 h1 w1=>?_
 obtain⟨k,rfl⟩:=toN a0
 have hk1:k < hands.length:=by ac_nf
 have hat:hands[k]?=some hands[k]:=List.getElem?_eq_getElem hk1
 have hdo:=o5 hands[k] (List.getElem_mem hk1)
 generalize hands[k]=hd at hat hdo
 obtain⟨b0,b1,lines⟩:=hd
 obtain⟨d1,d2,d3,d4⟩:=hdo
 simp only at d1 d2 d3 d4
 have q1:∀ (Q:D->Sto->Prop) s,wp (itemD (hands.map hdD) (k:Int)) Q s=Q (.tup [.tup [natD b0,natD b1],.tup (lines.map lnD)]) s:=fun Q s=>Qhj (by rw[List.getElem?_map,hat];rfl)
 simp_arith [↓q1,List.length_map]
 refine QiF h1 (by ac_nf) (by ac_nf) fun at' t2 e0 e1 h2 w2=>?_
 obtain⟨at',rfl⟩:=toN e0
 have ha1:at' < lines.length:=by ac_nf
 have hal:lines[at']?=some lines[at']:=List.getElem?_eq_getElem ha1
 have hlo:=d4 lines[at'] (List.getElem_mem ha1)
 generalize lines[at']=ln at hal hlo
 have q2:∀ (Q:D->Sto->Prop) s,wp (itemD (lines.map lnD) (at':Int)) Q s=Q (lnD ln) s:=fun Q s=>Qhj (by rw[List.getElem?_map,hal];rfl)
 have cA:∀ {α:Type} (F:α->D) (xs:List α) (i:Nat),i < xs.length->cutD (xs.map F) none (some (i:Int))=(xs.take i).map F:=fun F xs i hi=>by rw[cutA (by rw[List.length_map];exact hi),List.map_take]
 have cB:∀ {α:Type} (F:α->D) (xs:List α) (i:Nat),i < xs.length->cutD (xs.map F) (some ((i:Int) + 1)) none=(xs.drop (i + 1)).map F:=fun F xs i hi=>by rw[cutB (by rw[List.length_map];exact hi),List.map_drop]
 have fin:∀ (ln':Ln) (t:Sto),LnOk boards lines.length ln'->PK p q s t->Kept p q s1 t->Q (.tup [.tup (boards.map bdD),.tup ((hands.take k).map hdD++[.tup [.tup [natD b0,natD b1],.tup ((lines.take at').map lnD++[lnD ln']++(lines.drop (at' + 1)).map lnD)]]++(hands.drop (k + 1)).map hdD)]) t:=fun ln' t hl' hpk hw=>by
  have e1:(lines.take at').map lnD++[lnD ln']++(lines.drop (at' + 1)).map lnD=(lines.set at' ln').map lnD:=by
   rw[<- glue ha1];simp
  have e2:(hands.take k).map hdD++[hdD ⟨b0,b1,lines.set at' ln'⟩]++(hands.drop (k + 1)).map hdD=(hands.set k ⟨b0,b1,lines.set at' ln'⟩).map hdD:=by
   rw[<- glue hk1];simp
  have z:=hk ⟨boards,hands.set k ⟨b0,b1,lines.set at' ln'⟩⟩ t ⟨o1,o2,by simpa using o3,by simpa using o4,fun x hx=>by
   rcases mem_set hx with hx | hx
   ·exact o5 x hx
   ·rw[hx]
    refine⟨by simpa using d1,by simpa using d2,by simpa using d3,fun l hl=>?_⟩
    simp only[List.length_set]
    rcases mem_set hl with hl | hl
    ·exact d4 l hl
    ·rw[hl];exact hl'⟩ rfl hpk hw
  unfold hsD at z
  simp only at z
  rw[<- e2]at z
  unfold hdD at z ⊢
  rw[e1]
  exact z
 have ll:∀ {α:Type} (xs:List α) (F:α->D) (i:Nat),xs.length<=12->((xs.take i).map F).length + 1<=lim:=fun xs F i hx=>Qhc (by rw[List.length_map,List.length_take];ac_nf)
 have lr:∀ {α:Type} (xs:List α) (F:α->D) (v:D) (i:Nat),xs.length<=12->((xs.take i).map F++[v]).length + ((xs.drop (i + 1)).map F).length<=lim:=fun xs F v i hx=>Qhc (by simp only[List.length_append,List.length_map,List.length_take,List.length_drop,List.length_singleton];ac_nf)
 have w12:=w1.trans w2
 cases ln with
 | settle v=>
  have hv:v < 2:=hlo
  have ev:(1:Int) - ((v:Nat):Int)=((1 - v:Nat):Int):=by ac_nf
  simp_arith [↓q2,lnD,natD,ev,l1,l2,↓Qi4,cA _ _ _ ha1,cB _ _ _ ha1,cA _ _ _ hk1,cB _ _ _ hk1,decide_true,if_true]
  refine⟨ll lines lnD at' d3,lr lines lnD _ at' d3,ll hands hdD k (by ac_nf),lr hands hdD _ k (by ac_nf),?_⟩
  exact fin (.settle (1 - v)) t2 (by show 1 - v < 2;ac_nf) h2 w12
 | act b d gs=>
  obtain⟨bd,g1,g2,g3,g4⟩:=hlo
  obtain⟨ok,_⟩:=o2 bd (List.mem_of_getElem? g1)
  have hmx:mx (bd.un · d) bd.S<=3:=QhJ fun i hi=>by have:=(ok.2.2.2.2 i d hi g2).2;ac_nf
  have lg:gs.length<=4:=by ac_nf
  have lgs:gs.length<=lim:=Qhc (by ac_nf)
  have gl:∀ (Q:List D->Sto->Prop),wp (getL t2.length) Q (t2++[MO.lst (gs.map natD)])=Q (gs.map natD) (t2++[MO.lst (gs.map natD)]):=fun Q=>Qg1 QhW
  have nd:¬ (Str.ofString "do"=Str.ofString "settle"):=by decide
  simp_arith [↓q2,lnD,lgs,List.length_map,nd,if_false,↓gl]
  refine QiF h2.snoc (by ac_nf) (by ac_nf) fun v t3 u0 u1 h3 w3=>?_
  obtain⟨v,rfl⟩:=toN u0
  have pl:=h2.1.lt
  have g5:=w3.same (by ac_nf) (by ac_nf) (QhW:(t2++[MO.lst (gs.map natD)])[t2.length]?=_)
  have q3:∀ Q,wp (getL t2.length) Q t3=Q (gs.map natD) t3:=fun Q=>Qg1 g5
  simp_arith [↓q3,List.length_map]
  refine QiF h3 (by ac_nf) (by ac_nf) fun j t4 v0 v1 h4 w4=>?_
  obtain⟨j,rfl⟩:=toN v0
  have g6:=w4.same (by ac_nf) (by ac_nf) g5
  have q4:∀ Q,wp (getL t2.length) Q t4=Q (gs.map natD) t4:=fun Q=>Qg1 g6
  have q5:∀ es Q,wp (putL t2.length es) Q t4=Q () (t4.set t2.length (.lst es)):=fun es Q=>Qg2 g6
  have ix:ixN gs.length (j:Int)=some j:=Qi0 (by ac_nf)
  have em:(gs.map natD).set j (.int (v:Int))=(gs.set j v).map natD:=by rw[List.map_set];rfl
  have q6:∀ (es:List D) Q,wp (getL t2.length) Q (t4.set t2.length (.lst es))=Q es (t4.set t2.length (.lst es)):=fun es Q=>Qg1 (List.getElem?_set_self (Qiu g6))
  have c3:cutD [D.str (Str.ofString "do"),natD b,natD d,D.tup (gs.map natD)] none (some 3)=[D.str (Str.ofString "do"),natD b,natD d]:=rfl
  simp_arith [↓q4,List.length_map,ix,↓q5,↓q6,em,l1,↓Qi4,c3,List.length_cons,List.length_nil,cA _ _ _ ha1,cB _ _ _ ha1,cA _ _ _ hk1,cB _ _ _ hk1]
  refine⟨Qhc (by ac_nf),by simpa using ll lines lnD at' d3,by simpa using lr lines lnD (.tup [.str "do",natD b,natD d,.tup ((gs.set j v).map natD)]) at' d3,l2,by simpa using ll hands hdD k (by ac_nf),by simpa using lr hands hdD (.non) k (by ac_nf),l2,?_⟩
  refine fin (.act b d (gs.set j v)) _ ⟨bd,g1,g2,by rw[List.length_set];exact g3,fun g hg=>?_⟩ (h4.put (by have:=h2.2.le;ac_nf) (by ac_nf) (by ac_nf)) (((w12.snoc.trans w3).trans w4).put (by have:=w12.le;ac_nf))
  rcases mem_set hg with hg | hg
  ·exact g4 g hg
  ·rw[hg];ac_nf
theorem Qi6 (hp:PK p q s s1) (h:∀ hs s',HsOk hs->hs.boards.length<=3->PK p q s s'->Kept p q s1 s'->Q (hsD hs) s'):wp (jA [.dic p]) Q s1:=by
 (simp_arith [jA];simp_arith [jV])
 refine QiF hp (by ac_nf) (by ac_nf) fun r t a0 a1 h1 w1=>?_
 by_cases c1:r < 2
 ·simp_arith [c1,decide_true,if_true]
  exact QiT h1 fun hs s' ho hb hk w=>by simp_arith [];exact h hs s' ho hb hk (w1.trans w)
 have fin : ∀ (hs : Hs) (s2 : Sto), HsOk hs -> hs.boards.length <= 3 -> PK p q s s2 -> Kept p q s1 s2 -> wp (sSeq (sFor (MM.iRng1 (c2 max2D (cCon (.int 0)) (c2 subD (cCall ja (cCons (cVar 0) (cCons (cCon (.int 4)) cNil))) (cCon (.int 1))))) (gVar 3)
    (sSeq (sAsg (gVar 2) (cCall jp (cCons (cVar 0) (cCons (cVar 2) cNil))))
    sNext))
  (sSeq (sRet (cVar 2))
  sNext) [some (.dic p),some (.int r),some (hsD hs),none]) (fun f s'=>wp (flwD f) Q s') s2:=fun hs s2 ho hb hk w=>by
  simp_arith []
  refine QiF hk (by ac_nf) (by ac_nf) fun m s3 b0 b1 hk3 w3=>?_
  simp_arith []
  refine⟨⟨by ac_nf,by ac_nf⟩,?_⟩
  refine Qhe (fun i l s'=>∃ (hs':Hs) (y3:Option D),l=[some (.dic p),some (.int r),some (hsD hs'),y3]/\HsOk hs'/\hs'.boards.length<=3/\PK p q s s'/\Kept p q s1 s') (fun _ _ _ _=>trivial)
   ⟨hs,none,rfl,ho,hb,hk3,w.trans w3⟩ (fun i d l s' hd hZ0=>?_) (fun l s' hZ0=>?_)
  ·obtain⟨hs',y3,el,o',b',k',w'⟩:=hZ0
   subst el
   simp_arith []
   refine Qi5 k' o' fun h2 s4 o2 e2 k4 w4=>?_
   simp_arith []
   exact⟨h2,_,rfl,o2,by rw[e2];exact b',k4,w'.trans w4⟩
  ·obtain⟨hs',y3,el,o',b',k',w'⟩:=hZ0
   subst el
   simp_arith []
   exact h hs' s' o' b' k' w'
 by_cases c2:r=2
 ·subst c2
  simp_arith [Int.reduceLT,Int.reduceEq,decide_true,decide_false,if_true,Bool.false_eq_true,if_false]
  refine Qi3 h1 fun hs s' ho hb hk w=>?_
  refine Eq.mp ?_ (fin hs s' ho hb hk (w1.trans w))
  simp_arith []
 by_cases c3:r=3
 ·subst c3
  simp_arith [Int.reduceLT,Int.reduceEq,decide_true,decide_false,if_true,Bool.false_eq_true,if_false]
  refine QiW h1 fun hs s' ho hb hk w=>?_
  refine Eq.mp ?_ (fin hs s' ho hb hk (w1.trans w))
  simp_arith []
 by_cases c4:r=4
 ·subst c4
  simp_arith [Int.reduceLT,Int.reduceEq,decide_true,decide_false,if_true,Bool.false_eq_true,if_false]
  refine QiX h1 fun hs s' ho hb hk w=>?_
  refine Eq.mp ?_ (fin hs s' ho hb hk (w1.trans w))
  simp_arith []
 ·simp_arith [c1,c2,c3,c4,decide_false,Bool.false_eq_true,if_false]
  refine QiZ h1 fun hs s' ho hb hk w=>?_
  refine Eq.mp ?_ (fin hs s' ho hb hk (w1.trans w))
  simp_arith []
theorem Qi7 {bs:List Bd}{b:Bd}{m:Nat}{l:Ln} (h:LnOk bs m l):LnOk (bs++[b]) m l:=by
 cases l with
 | settle v=>exact h
 | act b' d gs=>
  obtain⟨bd,h1,r⟩:=h
  exact⟨bd,by rw[List.getElem?_append_left (List.getElem?_eq_some_iff.mp h1).1];exact h1,r⟩
theorem Qi8 {h:Hs} (hp:PK p q s s1) (ho:HsOk h) (hb:h.boards.length<=3) (hk:∀ hs s',HsOk hs->hs.boards.length<=4->PK p q s s'->Kept p q s1 s'->Q (hsD hs) s'):wp (jz [.dic p,hsD h]) Q s1:=by
 obtain⟨boards,hands⟩:=h
 have l2:2<=lim:=Qhc (by ac_nf)
 have l1:1<=lim:=Qhc (by ac_nf)
 unfold hsD
 (simp_arith [jz];simp_arith [j0])
 refine QhN (fun l s'=>∃ (bs:List Bd) (y3:Option D),l=[some (.dic p),some (.tup [.tup (boards.map bdD),.tup (hands.map hdD)]),some (.tup (bs.map bdD)),y3]/\HsOk ⟨bs,hands⟩/\bs.length<=4/\PK p q s s'/\Kept p q s1 s')
  (fun (l:Loc) (_:Sto)=>match l[2]? with
   | some (some (D.tup x))=>4 - x.length
   | _=>0) ⟨boards,none,rfl,ho,by show boards.length<=4;exact Nat.le_trans hb (by ac_nf),hp,Kept.refl⟩ fun l s' hZ0=>?_
 obtain⟨bs,y3,el,ho',hb',hk',w'⟩:=hZ0
 subst el
 by_cases c:((bs.length:Nat):Int) < 4
 ·simp_arith [List.length_map,c,decide_true,if_true]
  refine QiF hk' (by ac_nf) (by ac_nf) fun r t a0 a1 h1 w1=>?_
  by_cases cr:r > 0
  ·simp_arith [cr,decide_true,if_true]
   refine QiJ h1 fun S dn nx un s2 ok h2 w2=>?_
   have lt:∀ (Q:D->Sto->Prop) s,wp (lenD (tabD S dn nx un)) Q s=Q (.int S) s:=fun Q s=>QiK
   simp_arith [↓lt]
   have ok1:=ok.1
   have ok2:=ok.2.1
   refine QiF h2 (by ac_nf) (by ac_nf) fun st s3 b0 b1 h3 w3=>?_
   obtain⟨st,rfl⟩:=toN b0
   simp_arith [l2,l1,List.length_map,List.length_cons,List.length_nil]
   refine⟨Qhc (by ac_nf),⟨bs++[⟨S,dn,nx,un,st⟩],_,by rw[List.map_append];rfl,⟨?_,?_,ho'.2.2.1,ho'.2.2.2.1,?_⟩,by simp;ac_nf,h3,((w'.trans w1).trans w2).trans w3⟩,?_⟩
   ·show (bs++[_]).length<=7
    simp;ac_nf
   ·intro b hb2
    rcases List.mem_append.mp hb2 with z | z
    ·exact ho'.2.1 b z
    ·rw[List.mem_singleton.mp z];exact⟨ok,by show st < S;ac_nf⟩
   ·intro x hx
    obtain⟨d1,d2,d3,d4⟩:=ho'.2.2.2.2 x hx
    exact⟨d1,d2,d3,fun l hl=>Qi7 (d4 l hl)⟩
   ·simp only[List.length_append,List.length_map,List.length_cons,List.length_nil];ac_nf
  ·simp_arith [cr,decide_false,Bool.false_eq_true,if_false,l2]
   exact hk ⟨bs,hands⟩ _ ho' hb' h1 (w'.trans w1)
 ·simp_arith [List.length_map,c,decide_false,Bool.false_eq_true,if_false,l2]
  exact hk ⟨bs,hands⟩ _ ho' hb' hk' w'
end
open PySem (Str)
section
variable {p q:Nat}{s s1 s2:Sto}{Q:D->Sto->Prop}
theorem Qi9 {a b : CE} {l : Loc} : wp (cPopAt a b l) Q s = wp (a l) (fun o s1 => match o with
  | .ref n=>wp (b l) (fun x s2=>match x with
   | .int i=>wp (getL n) (fun ds s3=>(0<=i/\i < (ds.length:Int)/\ds.length<=lim)/\wp (putL n (ds.eraseIdx i.toNat)) (fun _ s4=>Q (ds.getD i.toNat .non) s4) s3) s2
   | _=>False) s1
  | _=>False) s:=by
 unfold cPopAt;rw[Qg0];congr 1;funext x s1
 cases x with
 | ref n=>
  dsimp only
  rw[Qg0];congr 1;funext x s2
  cases x with
  | int i=>
   dsimp only
   rw[Qg0];congr 1;funext ds s3
   rw[wp_chk,Qg0]
   congr 1
   exact wp_cg fun _ _=>wp_ret
  | _=>exact wp_no rfl
 | _=>exact wp_no rfl
theorem Qja {n:Nat} (hn:n<=1000):wp (listRngD (.int n)) Q s=Q (.ref s.length) (s++[.lst ((List.range n).map natD)]):=by
 unfold listRngD
 rw[wp_chk,wp_alloc,Int.toNat_natCast]
 exact propext ⟨fun h=>h.2,fun h=>⟨⟨by ac_nf,by ac_nf⟩,h⟩⟩
theorem Qjb {α β:Type}{f:α->β}:∀ {l:List α}{j:Nat},(l.map f).eraseIdx j=(l.eraseIdx j).map f
 | [],_=>rfl
 | a::l,0=>rfl
 | a::l,j + 1=>by show f a::(l.map f).eraseIdx j=f a::(l.eraseIdx j).map f;rw[Qjb]
theorem Qjc:∀ {l:List Nat}{j:Nat} (h:j < l.length),(l[j]::l.eraseIdx j).Perm l
 | a::l,0,_=>List.Perm.refl _
 | a::l,j + 1,h=>by
  have h':j < l.length:=by simpa using h
  exact (List.Perm.swap a l[j] (l.eraseIdx j)).trans ((Qjc h').cons a)
theorem Qjd {n:Nat} (hp:PK p q s s1) (hn:n<=7) (h:∀ (o:List Nat) s',o.Perm (List.range n)->PK p q s s'->Kept p q s1 s'->Q (.tup (o.map natD)) s'):wp (jk [.dic p,.int n]) Q s1:=by
 have rw0:∀ (Q:D->Sto->Prop) s,wp (listRngD (.int n)) Q s=Q (.ref s.length) (s++[.lst ((List.range n).map natD)]):=fun Q s=>Qja (by ac_nf)
 have pl:=hp.1.lt
 have le:=hp.2.le
 (simp_arith [jk];simp_arith [j1,↓rw0,Nat.zero_le])
 refine QhN (fun l s'=>l=[some (.dic p),some (.int n),some (.ref s1.length),some (.ref (s1++[MO.lst ((List.range n).map natD)]).length)]/\∃ lf fo:List Nat,s'[s1.length]?=some (.lst (lf.map natD))/\s'[(s1++[MO.lst ((List.range n).map natD)]).length]?=some (.lst (fo.map natD))/\(fo++lf).Perm (List.range n)/\PK p q s s'/\Kept p q s1 s')
  (fun (_:Loc) (s':Sto)=>match s'[s1.length]? with
   | some (MO.lst x)=>x.length
   | _=>0) ⟨rfl,List.range n,[],QhX QhW,QhW,List.Perm.refl _,hp.snoc.snoc,Kept.refl.snoc.snoc⟩ fun l s' hZ0=>?_
 obtain⟨el,lf,fo,g1,g2,hperm,hk,w⟩:=hZ0
 subst el
 have q1:∀ Q,wp (getL s1.length) Q s'=Q (lf.map natD) s':=fun Q=>Qg1 g1
 have hlen:fo.length + lf.length=n:=by have:=hperm.length_eq;simpa using this
 have ea:(s1++[MO.lst ((List.range n).map natD)]).length=s1.length + 1:=by simp
 by_cases c:(lf.length:Int) > 0
 ·simp_arith [↓q1,List.length_map,c,decide_true,if_true,↓Qi9]
  refine QiF hk (by ac_nf) (by ac_nf) fun j t a0 a1 h1 w1=>?_
  obtain⟨j,rfl⟩:=toN a0
  have hj:j < lf.length:=by ac_nf
  have g3:=w1.same (by ac_nf) (by ac_nf) g1
  have g4:=w1.same (by ac_nf) (by ac_nf) g2
  have q2:∀ Q,wp (getL s1.length) Q t=Q (lf.map natD) t:=fun Q=>Qg1 g3
  have q3:∀ es Q,wp (putL s1.length es) Q t=Q () (t.set s1.length (.lst es)):=fun es Q=>Qg2 g3
  have g5:∀ es,(t.set s1.length (MO.lst es))[(s1++[MO.lst ((List.range n).map natD)]).length]?=some (.lst (fo.map natD)):=fun es=>by rw[List.getElem?_set_ne (by ac_nf)];exact g4
  have q4:∀ es Q,wp (getL (s1++[MO.lst ((List.range n).map natD)]).length) Q (t.set s1.length (MO.lst es))=Q (fo.map natD) (t.set s1.length (MO.lst es)):=fun es Q=>Qg1 (g5 es)
  have q5:∀ es es2 Q,wp (putL (s1++[MO.lst ((List.range n).map natD)]).length es2) Q (t.set s1.length (MO.lst es))=Q () ((t.set s1.length (MO.lst es)).set (s1++[MO.lst ((List.range n).map natD)]).length (.lst es2)):=fun es es2 Q=>Qg2 (g5 es)
  have eE:(lf.map natD).eraseIdx j=(lf.eraseIdx j).map natD:=Qjb
  have eG:(lf.map natD).getD j .non=natD lf[j]:=by rw[List.getD_eq_getElem?_getD,List.getElem?_map,List.getElem?_eq_getElem hj];rfl
  simp_arith [↓q2,↓q3,↓q4,↓q5,List.length_map,Int.toNat_natCast,eE,eG]
  refine⟨⟨by ac_nf,by ac_nf,Qhc (by ac_nf)⟩,Qhd (by ac_nf),⟨lf.eraseIdx j,fo++[lf[j]],?_,?_,?_,(h1.put (by ac_nf) (by ac_nf) (by ac_nf)).put (by ac_nf) (by ac_nf) (by ac_nf),((w.trans w1).put (by ac_nf)).put (by ac_nf)⟩,?_⟩
  ·rw[List.getElem?_set_ne (by ac_nf)];exact List.getElem?_set_self (Qiu g3)
  ·rw[List.map_append];exact List.getElem?_set_self (Qiu (g5 _))
  ·rw[List.append_assoc]
   exact (List.Perm.append_left fo (Qjc hj)).trans hperm
  ·rw[List.getElem?_set_ne (by ac_nf),List.getElem?_set_self (Qiu g3),g1]
   simp only[List.length_map,List.length_eraseIdx]
   rw[if_pos hj];ac_nf
 ·have q2:∀ Q,wp (getL (s1++[MO.lst ((List.range n).map natD)]).length) Q s'=Q (fo.map natD) s':=fun Q=>Qg1 g2
  simp_arith [↓q1,List.length_map,c,decide_false,Bool.false_eq_true,if_false,↓q2]
  have:lf=[]:=List.length_eq_zero_iff.mp (by ac_nf)
  subst this
  rw[List.append_nil]at hperm
  exact h fo s' hperm hk w
end
open PySem (Str)
theorem Qje:((("settle":Str)) == "settle")=true:=by nofun
theorem Qjf:((("do":Str)) == "settle")=false:=by nofun
def IsBoard (d:D):Prop:=∃ (S dn:Nat) (nx un:Nat->Nat->Nat) (st:Nat),d=.tup [tabD S dn nx un,.int st]/\TabOk S dn nx un/\st < S
def IsGoals (m:Nat) (gs:List D):Prop:=∀ g∈gs,∃ k:Nat,g=.int k/\k < m
def IsLine (boards:List D) (m:Nat) (d:D):Prop:=(∃ v:Int,(v=0\/v=1)/\d=.tup [.str "settle",.int v]) \/
 ∃ (b dd S dn:Nat) (nx un:Nat->Nat->Nat) (st:Nat) (gs:List D),boards[b]?=some (.tup [tabD S dn nx un,.int st])/\dd < dn/\d=.tup [.str "do",.int b,.int dd,.tup gs]/\gs.length=1 + mx (un · dd) S/\IsGoals m gs
def IsHand (boards:List D) (d:D):Prop:=∃ (b0 b1:Nat) (lines:List D),d=.tup [.tup [.int b0,.int b1],.tup lines]/\b0 < lines.length/\b1 < lines.length/\lines.length<=12/\∀ l∈lines,IsLine boards lines.length l
def IsHouse (h:D):Prop:=∃ boards hands,h=.tup [.tup boards,.tup hands]/\boards.length<=7/\(∀ b∈boards,IsBoard b)/\2<=hands.length/\hands.length<=3/\∀ x∈hands,IsHand boards x
section
variable {S dn:Nat}{nx un:Nat->Nat->Nat}{Q:D->Sto->Prop}{s:Sto}
theorem Qjg {j:Nat} (h:TabOk S dn nx un) (hj:j < dn):wp (jw [tabD S dn nx un,.int j]) Q s=Q (.int ((1 + mx (un · j) S:Nat):Int)) s:=by
 obtain⟨h1,h2,h3,h4,h5⟩:=h
 have w:∀ Q s,wp (collect (gVar 0) tTrue (c2 subsD (c2 subsD (cVar 0) (cVar 1)) (cCon (.int 1))) anySt (upto S fun s=>.tup (upto dn fun d=>D.tup [.int (nx s d:Nat),.int (un s d:Nat)])) [none,some (.int j)]) Q s=Q (upto S fun i=>.int (un i j:Nat)) s:=fun Q s=>QhF QhE fun i hi Q=>by
  simp_arith [↓QhC hj]
 have hl:S<=lim:=Qhc (by ac_nf)
 have mw:∀ Q s,wp (maxD (upto S fun i=>.int (un i j:Nat))) Q s=Q (.int (mx (un · j) S:Nat)) s:=fun Q s=>QhK (f:=(un · j)) (by ac_nf)
 have ec:((1 + mx (un · j) S:Nat):Int)=1 + (mx (un · j) S:Nat):=by ac_nf
 rw[ec]
 (simp_arith [jw];simp_arith [j9,tabD,capt,Qhs,↓w,↓mw,hl])
theorem Qjh {i:Nat} (h:TabOk S dn nx un) (hi:i < S):wp (jr [tabD S dn nx un,.tup (upto dn fun d=>D.tup [.int (nx i d:Nat),.int (un i d:Nat)])]) Q s=Q (.bl true) s:=by
 obtain⟨h1,h2,h3,h4,h5⟩:=h
 have w:∀ Q s,wp (collect (gTupD 2 (gsCons (gVar 0) (gsCons (gVar 1) gsNil))) tTrue (cAnd (cChain leD ltD (cCon (.int 0)) (cVar 0) (c1 lenD (cVar 2))) (c2 geD (cVar 1) (cCon (.int 0)))) anySt (upto dn fun d=>D.tup [.int (nx i d:Nat),.int (un i d:Nat)]) [none,none,some (.tup (upto S fun s=>.tup (upto dn fun d=>D.tup [.int (nx s d:Nat),.int (un s d:Nat)])))]) Q s=Q (upto dn fun _=>.bl true) s:=fun Q s=>QhG QhE fun d hd Q=>by
  have e1:decide ((0:Int)<=(nx i d:Nat))=true:=decide_eq_true (by ac_nf)
  have e2:decide (((nx i d:Nat):Int) < (S:Nat))=true:=decide_eq_true (by have:=(h5 i d hi hd).1;ac_nf)
  have e3:decide ((0:Int)<=(un i d:Nat))=true:=decide_eq_true (by ac_nf)
  simp_arith [Qhs,e1,e2,e3]
 have hl:dn<=lim:=Qhc (by ac_nf)
 (simp_arith [jr];simp_arith [j7,tabD,capt,Qhs,↓QhD (show 0 < S by ac_nf),beq_self_eq_true,↓w,↓QhI,hl])
theorem Qji (h:TabOk S dn nx un):wp (jy [tabD S dn nx un]) Q s=Q (.bl true) s:=by
 have h0:=h
 obtain⟨h1,h2,h3,h4,h5⟩:=h
 have w:∀ Q s,wp (collect (gVar 0) tTrue (cCall jr (cCons (cVar 1) (cCons (cVar 0) cNil))) anySt (upto S fun s=>.tup (upto dn fun d=>D.tup [.int (nx s d:Nat),.int (un s d:Nat)])) [none,some (.tup (upto S fun s=>.tup (upto dn fun d=>D.tup [.int (nx s d:Nat),.int (un s d:Nat)])))]) Q s=Q (upto S fun _=>.bl true) s:=fun Q s=>QhF QhE fun i hi Q=>by
  have q:∀ Q s,wp (jr [tabD S dn nx un,.tup (upto dn fun d=>D.tup [.int (nx i d:Nat),.int (un i d:Nat)])]) Q s=Q (.bl true) s:=fun Q s=>Qjh h0 hi
  unfold tabD at q
  simp_arith [↓q]
 have hl:S<=lim:=Qhc (by ac_nf)
 have e1:(((S:Nat):Int) == 0)=false:=by simp;ac_nf
 have e2:(((dn:Nat):Int) == 0)=false:=by simp;ac_nf
 (simp_arith [jy];simp_arith [j4,tabD,capt,Qhs,e1,e2,↓QhD (show 0 < S by ac_nf),↓w,↓QhI,hl])
theorem Qjj {gs lines:List D} (h:IsGoals lines.length gs) (hl:gs.length<=100):wp (jl [.tup gs,.tup lines]) Q s=Q (.bl true) s:=by
 have w:∀ Q s,wp (collect (gVar 0) tTrue (cChain leD ltD (cCon (.int 0)) (cVar 0) (c1 lenD (cVar 1))) anySt gs [none,some (.tup lines)]) Q s=Q (upto gs.length fun _=>.bl true) s:=fun Q s=>QhA QhE fun i d hd Q=>by
  obtain⟨k,e,hk⟩:=h d (List.mem_of_getElem? hd)
  subst e
  have e1:decide ((0:Int)<=(k:Nat))=true:=decide_eq_true (by ac_nf)
  have e2:decide (((k:Nat):Int) < (lines.length:Nat))=true:=decide_eq_true (by ac_nf)
  simp_arith [e1,e2]
 have hl:gs.length<=lim:=Qhc (by ac_nf)
 (simp_arith [jl];simp_arith [jZ,capt,↓w,↓QhI,hl])
end
def CountsAt (s:Sto) (n:Nat) (boards:List D):Prop:=∃ cs,s[n]?=some (.lst cs)/\cs.length=boards.length/\∀ (b S dn:Nat) (nx un:Nat->Nat->Nat) (st:Nat),boards[b]?=some (.tup [tabD S dn nx un,.int st])->∃ r,cs[b]?=some (.ref r)/\s[r]?=some (.lst (upto dn fun d=>.int ((1 + mx (un · d) S:Nat):Int)))
theorem Qjk {S dn S' dn':Nat}{nx un nx' un':Nat->Nat->Nat} (h:tabD S dn nx un=tabD S' dn' nx' un'):S=S'/\(1<=S->dn=dn')/\∀ s d,s < S->d < dn->nx s d=nx' s d/\un s d=un' s d:=by
 unfold tabD at h
 have h1:=D.tup.inj h
 have e:S=S':=by have:=congrArg List.length h1;simpa [Qhs] using this
 subst e
 have row:∀ s,s < S->(upto dn fun d=>D.tup [.int (nx s d:Nat),.int (un s d:Nat)])=(upto dn' fun d=>D.tup [.int (nx' s d:Nat),.int (un' s d:Nat)]):=by
  intro s hs
  have q:=congrArg (fun l=>l[s]?) h1
  simp only[Qhq hs]at q
  exact D.tup.inj (Option.some.inj q)
 refine⟨rfl,fun hS=>by have:=congrArg List.length (row 0 (by ac_nf));simpa [Qhs] using this,fun s d hs hd=>?_⟩
 have q:=row s hs
 have e:dn=dn':=by have:=congrArg List.length q;simpa [Qhs] using this
 subst e
 have q2:=congrArg (fun l=>l[d]?) q
 simp only[Qhq hd]at q2
 have q3:=D.tup.inj (Option.some.inj q2)
 simp at q3
 exact⟨by ac_nf,by ac_nf⟩
theorem Qjl {f g:Nat->Nat}{n:Nat} (h:∀ i,i < n->f i=g i):mx f n=mx g n:=by
 induction n with
 | zero=>rfl
 | succ n ih=>unfold mx;rw[ih fun i hi=>h i (by ac_nf),h n (by ac_nf)]
section
variable {Q:D->Sto->Prop}{s:Sto}
theorem Qjm {n:Nat}{boards lines:List D}{line:D} (hc:CountsAt s n boards) (hbd:∀ b∈boards,IsBoard b) (hbl:boards.length<=7) (h:IsLine boards lines.length line):wp (jv [.ref n,.tup lines,line]) Q s=Q (.bl true) s:=by
 rcases h with ⟨v,hv,e⟩ | ⟨b,dd,S,dn,nx,un,st,gs,hb,hd,e,hg,hgs⟩
 ·subst e
  have l2:2<=lim:=Qhc (by ac_nf)
  (simp_arith [jv];simp_arith [jT,Qje,l2,↓QhH hv])
 ·subst e
  obtain⟨cs,c1,c2,c3⟩:=hc
  obtain⟨r,hr,hr2⟩:=c3 b S dn nx un st hb
  obtain⟨S',dn',nx',un',st',e,ok,_⟩:=hbd _ (List.mem_of_getElem? hb)
  have hbl2:=(List.getElem?_eq_some_iff.mp hb).1
  have ei:=Qjk (List.cons.inj (D.tup.inj e)).1
  obtain⟨o1,o2,o3,o4,o5⟩:=ok
  obtain⟨eS,ed,eu⟩:=ei
  subst eS
  have hd4:dn=dn':=ed o1
  subst hd4
  have hm:mx (un · dd) S<=3:=QhJ fun i hi=>by have:=(o5 i dd hi hd).2;have:=(eu i dd hi hd).2;ac_nf
  have g1:∀ Q,wp (getL n) Q s=Q cs s:=fun Q=>Qg1 c1
  have g2:∀ Q,wp (getL r) Q s=Q (upto dn fun d=>.int ((1 + mx (un · d) S:Nat):Int)) s:=fun Q=>Qg1 hr2
  have i1:∀ Q,wp (itemD cs (b:Int)) Q s=Q (.ref r) s:=fun Q=>Qhj hr
  have al:∀ Q s,wp (jl [.tup gs,.tup lines]) Q s=Q (.bl true) s:=fun Q s=>Qjj hgs (by ac_nf)
  have e1:decide ((0:Int)<=(b:Nat))=true:=decide_eq_true (by ac_nf)
  have e2:decide (((b:Nat):Int) < (cs.length:Nat))=true:=decide_eq_true (by ac_nf)
  have e3:decide ((0:Int)<=(dd:Nat))=true:=decide_eq_true (by ac_nf)
  have e4:decide (((dd:Nat):Int) < (dn:Nat))=true:=decide_eq_true (by ac_nf)
  have e5:((gs.length:Int) == ((1 + mx (un · dd) S:Nat):Int))=true:=by rw[hg];simp
  (simp_arith [jv];simp_arith [jT,Qjf,↓g1,↓g2,↓i1,Qhs,↓QhC hd,e1,e2,e3,e4,e5,↓al,Bool.false_eq_true,if_false])
end
section
variable {Q:D->Sto->Prop}{s:Sto}
theorem Qjn {boards:List D} (hbd:∀ b∈boards,IsBoard b):wp (ji [.tup boards]) Q s=Q .non s:=by
 apply Qhh
 (simp_arith [ji];simp_arith [jJ])
 refine Qhe (fun i l s'=>s'=s/\∃ x1 x2 x3,l=[some (.tup boards),x1,x2,x3]) (fun _ _ _ _=>trivial) ⟨rfl,_,_,_,rfl⟩ (fun i d l s' hd ⟨es,x1,x2,x3,el⟩=>?_) (fun l s' ⟨es,x1,x2,x3,el⟩=>?_)
 ·subst es
  subst el
  obtain⟨b,hb,ed⟩:=Qhf hd
  subst ed
  obtain⟨S,dn,nx,un,st,e,ok,hst⟩:=hbd b (List.mem_of_getElem? hb)
  subst e
  have q:∀ Q s,wp (jy [tabD S dn nx un]) Q s=Q (.bl true) s:=fun Q s=>Qji ok
  have w1:wp (lenD (tabD S dn nx un))=fun Q s=>Q (.int S) s:=by
   funext Q s;unfold tabD;rw[x_lenT,Qhs]
  have e1:decide ((0:Int)<=(st:Nat))=true:=decide_eq_true (by ac_nf)
  have e2:decide (((st:Nat):Int) < (S:Nat))=true:=decide_eq_true (by ac_nf)
  simp_arith [↓q,↓w1,e1,e2,Bool.false_eq_true,if_false]
  exact⟨_,_,_,rfl⟩
 ·subst es
  simp_arith []
theorem Qjo {S dn:Nat}{nx un:Nat->Nat->Nat} (h:TabOk S dn nx un):wp (jg [tabD S dn nx un]) Q s=Q (.ref s.length) (s++[.lst (upto dn fun d=>.int ((1 + mx (un · d) S:Nat):Int))]):=by
 have h0:=h
 obtain⟨h1,h2,h3,h4,h5⟩:=h
 have w:∀ Q s,wp (collect (gVar 0) tTrue (cCall jw (cCons (cVar 1) (cCons (cVar 0) cNil))) anySt (upto dn fun i=>.int i) [none,some (tabD S dn nx un)]) Q s=Q (upto dn fun d=>.int ((1 + mx (un · d) S:Nat):Int)) s:=fun Q s=>QhF QhE fun j hj Q=>by
  have q:∀ Q s,wp (jw [tabD S dn nx un,.int j]) Q s=Q (.int ((1 + mx (un · j) S:Nat):Int)) s:=fun Q s=>Qjg h0 hj
  simp_arith [↓q]
 have hl:dn<=lim:=Qhc (by ac_nf)
 have hb:(-(2 ^ 62)<=(dn:Int)/\(dn:Int) < 2 ^ 62):=by ac_nf
 have tb:wp (subsD (tabD S dn nx un) (.int 0))=fun Q s=>Q (D.tup (upto dn fun d=>D.tup [.int (nx 0 d:Nat),.int (un 0 d:Nat)])) s:=by
  funext Q s;unfold tabD;rw[x_subsT,QhD (by ac_nf)]
 (simp_arith [jg];simp_arith [jL,↓tb,capt,Qhs,Int.toNat_natCast,Qhw,↓w,hl,hb])
theorem Qjp {boards : List D} {A : List D -> Sto -> Prop} (hbd : ∀ b ∈ boards, IsBoard b) (h : ∀ cs s', Ext s s' -> cs.length = boards.length -> (∀ (b S dn : Nat) (nx un : Nat -> Nat -> Nat) (st : Nat), boards[b]? = some (.tup [tabD S dn nx un, .int st]) -> ∃ r, cs[b]? = some (.ref r) /\ s'[r]? = some (.lst (upto dn fun d => .int ((1 + mx (un · d) S : Nat) : Int)))) -> A cs s') :
  wp (collect (gTupD 2 (gsCons (gVar 0) (gsCons (gVar 1) gsNil))) tTrue (cCall jg (cCons (cVar 0) cNil)) anySt boards [none,none]) A s:=by
 have chk:∀ {s:Sto}{R:Unit->Sto->Prop},R () s->wp (chkS anySt) R s:=fun r=>by rw[Qg3];exact r
 refine Qg8 (Q:=A) (fun out xs l s'=>∃ i,xs=boards.drop i/\i<=boards.length/\(∃ x y,l=[x,y])/\out.length=i/\Ext s s'/\(∀ (b S dn:Nat) (nx un:Nat->Nat->Nat) (st:Nat),b < i->boards[b]?=some (.tup [tabD S dn nx un,.int st])->∃ r,out[b]?=some (.ref r)/\s'[r]?=some (.lst (upto dn fun d=>.int ((1 + mx (un · d) S:Nat):Int))))) (fun out l s' ⟨i,e1,hi,_,e2,ex,hh⟩=>?_) (fun out d xs l s' ⟨i,e1,hi,⟨x,y,el⟩,e2,ex,hh⟩=>?_) boards [] _ s ⟨0,by simp,Nat.zero_le _,⟨_,_,rfl⟩,rfl,Ext.refl _,fun b S dn nx un st hb=>by ac_nf⟩
 ·have : i = boards.length := by
    have:=congrArg List.length e1
    simp at this;ac_nf
  subst this
  exact chk (h out s' ex e2 fun b S dn nx un st hb=>hh b S dn nx un st (List.getElem?_eq_some_iff.mp hb).1 hb)
 ·have hlt : i < boards.length := by
    have:=congrArg List.length e1
    simp at this;ac_nf
  rw[List.drop_eq_getElem_cons hlt]at e1
  obtain⟨e3,e4⟩:=List.cons.inj e1
  obtain⟨S,dn,nx,un,st,e,ok,hst⟩:=hbd d (by rw[e3];exact List.getElem_mem hlt)
  have hd:boards[i]?=some (.tup [tabD S dn nx un,.int st]):=by rw[List.getElem?_eq_getElem hlt,<- e3,e]
  subst e
  subst el
  refine chk ?_
  have q:∀ Q s,wp (jg [tabD S dn nx un]) Q s=Q (.ref s.length) (s++[.lst (upto dn fun d=>.int ((1 + mx (un · d) S:Nat):Int))]):=fun Q s=>Qjo ok
  simp_arith [↓q]
  refine⟨i + 1,e4,hlt,⟨_,_,rfl⟩,by simp[e2],ex.snoc _,fun b S' dn' nx' un' st' hb hb2=>?_⟩
  by_cases e:b=i
  ·subst e
   rw[hd]at hb2
   have e5:=List.cons.inj (D.tup.inj (Option.some.inj hb2))
   obtain⟨eS,ed,eu⟩:=Qjk e5.1
   subst eS
   have:=ed ok.1
   subst this
   refine⟨s'.length,by rw[<- e2];simp,?_⟩
   rw[List.getElem?_append_right (Nat.le_refl _)]
   simp only[Nat.sub_self,List.getElem?_cons_zero]
   congr 2
   exact Qhv fun d hd=>by rw[Qjl fun i hi=>(eu i d hi hd).2]
  ·obtain⟨r,r1,r2⟩:=hh b S' dn' nx' un' st' (by ac_nf) hb2
   exact⟨r,by rw[List.getElem?_append_left (by ac_nf)];exact r1,(Ext.snoc (Ext.refl _) _).at_ r2⟩
theorem Qjq {n:Nat}{boards:List D}{hand:D}{k:Int} (hc:CountsAt s n boards) (hbd:∀ b∈boards,IsBoard b) (hbl:boards.length<=7) (h:IsHand boards hand):wp (jm [.ref n,.int k,hand]) Q s=Q .non s:=by
 obtain⟨b0,b1,lines,e,h0,h1,hl,hls⟩:=h
 subst e
 apply Qhh
 have al:∀ Q s,wp (jl [.tup [.int b0,.int b1],.tup lines]) Q s=Q (.bl true) s:=fun Q s=>Qjj (fun g hg=>by
  simp at hg
  rcases hg with e | e
  ·exact⟨b0,e,h0⟩
  ·exact⟨b1,e,h1⟩) (by simp)
 (simp_arith [jm];simp_arith [jN,↓al,Bool.false_eq_true,if_false])
 refine Qhe (fun i l s'=>s'=s/\∃ x4 x5,l=[some (.ref n),some (.int k),some (.tup [.tup [.int b0,.int b1],.tup lines]),some (.tup lines),x4,x5]) (fun _ _ _ _=>trivial) ⟨rfl,_,_,rfl⟩ (fun i d l s' hd ⟨es,x4,x5,el⟩=>?_) (fun l s' ⟨es,x4,x5,el⟩=>?_)
 ·subst es
  subst el
  obtain⟨line,hline,ed⟩:=Qhf hd
  subst ed
  have q:∀ Q,wp (jv [.ref n,.tup lines,line]) Q s'=Q (.bl true) s':=fun Q=>Qjm hc hbd hbl (hls line (List.mem_of_getElem? hline))
  simp_arith [↓q,Bool.false_eq_true,if_false]
  exact⟨_,_,rfl⟩
 ·subst es
  simp_arith []
theorem Qjr {h:D} (hh:IsHouse h) (hq:∀ s',Ext s s'->Q (.bl true) s'):wp (jP [h]) Q s:=by
 obtain⟨boards,hands,e,hbl,hbd,hn1,hn2,hhs⟩:=hh
 subst e
 have q1:∀ Q s,wp (ji [.tup boards]) Q s=Q .non s:=fun Q s=>Qjn hbd
 have e1:decide ((2:Int)<=(hands.length:Nat))=true:=decide_eq_true (by ac_nf)
 have e2:decide (((hands.length:Nat):Int)<=3)=true:=decide_eq_true (by ac_nf)
 have l1:boards.length<=lim:=Qhc (by ac_nf)
 (simp_arith [jP];simp_arith [ya,↓q1,e1,e2,Bool.false_eq_true,if_false,capt,l1])
 refine Qjp hbd fun cs s1 x1 hl hcs=>?_
 have hc:CountsAt (s1++[.lst cs]) s1.length boards:=⟨cs,by simp,hl,fun b S dn nx un st hb=>let ⟨r,a,c⟩:=hcs b S dn nx un st hb;⟨r,a,(Ext.snoc (Ext.refl _) _).at_ c⟩⟩
 have x2:Ext s (s1++[.lst cs]):=x1.snoc _
 generalize s1++[MO.lst cs]=s2 at *
 simp_arith []
 refine Qhe (fun i l s'=>s'=s2/\∃ x4 x5,l=[some (.tup [.tup boards,.tup hands]),some (.tup boards),some (.tup hands),some (.ref s1.length),x4,x5]) (fun _ _ _ _=>trivial) ⟨rfl,_,_,rfl⟩ (fun i d l s' hd ⟨es,x4,x5,el⟩=>?_) (fun l s' ⟨es,x4,x5,el⟩=>?_)
 ·subst es
  subst el
  obtain⟨hand,hhand,ed⟩:=Qhf hd
  subst ed
  have q:∀ Q,wp (jm [.ref s1.length,.int i,hand]) Q s'=Q .non s':=fun Q=>Qjq hc hbd hbl (hhs hand (List.mem_of_getElem? hhand))
  simp_arith [↓q]
  exact⟨_,_,rfl⟩
 ·subst es
  subst el
  simp_arith []
  exact hq _ x2
theorem Qjs {h:Hs} (ho:HsOk h):IsHouse (hsD h):=by
 obtain⟨o1,o2,o3,o4,o5⟩:=ho
 refine⟨_,_,rfl,by simpa using o1,fun b hb=>?_,by simpa using o3,by simpa using o4,fun x hx=>?_⟩
 ·obtain⟨bd,hm,rfl⟩:=List.mem_map.mp hb
  exact⟨bd.S,bd.dn,bd.nx,bd.un,bd.st,rfl,(o2 bd hm).1,(o2 bd hm).2⟩
 ·obtain⟨hd,hm,rfl⟩:=List.mem_map.mp hx
  obtain⟨d1,d2,d3,d4⟩:=o5 hd hm
  refine⟨hd.b0,hd.b1,hd.lines.map lnD,rfl,by simpa using d1,by simpa using d2,by simpa using d3,fun l hl=>?_⟩
  obtain⟨ln,hn,rfl⟩:=List.mem_map.mp hl
  have z:=d4 ln hn
  rw[List.length_map]
  cases ln with
  | settle v=>
   have hv:v < 2:=z
   exact .inl ⟨v,by ac_nf,rfl⟩
  | act b d gs=>
   obtain⟨bd,g1,g2,g3,g4⟩:=z
   refine .inr ⟨b,d,bd.S,bd.dn,bd.nx,bd.un,bd.st,gs.map natD,by rw[List.getElem?_map,g1];rfl,g2,rfl,by rw[List.length_map];exact g3,fun g hg=>?_⟩
   obtain⟨k,hk,rfl⟩:=List.mem_map.mp hg
   exact⟨k,rfl,g4 k hk⟩
end
open PySem (Str)
section
variable {p q:Nat}{s s1 s2:Sto}{Q:D->Sto->Prop}
theorem Qjt {α:Type}{xs:List α}{f:α->D}:(upto xs.length fun i=>match xs[i]? with | some x=>f x | none=>.non)=xs.map f:=by
 apply List.ext_getElem?
 intro i
 by_cases h:i < xs.length
 ·rw[Qhq h,List.getElem?_map,List.getElem?_eq_getElem h];rfl
 ·rw[List.getElem?_eq_none (by rw[Qhs];ac_nf),List.getElem?_eq_none (by rw[List.length_map];ac_nf)]
theorem Qju {α : Type} {e : CE} {same : Sto -> Prop} {xs : List α} {g f : α -> D} {caps : Loc} {Q : List D -> Sto -> Prop} (hs : same s) (h : ∀ x ∈ xs, ∀ Q, wp (e (some (g x) :: caps)) Q s = Q (f x) s) :
  wp (collect (gVar 0) tTrue e same (xs.map g) (none::caps)) Q s=Q (xs.map f) s:=by
 rw[QhA (f:=fun i=>match xs[i]? with | some x=>f x | none=>.non) hs fun i d hd Q=>?_]
 ·rw[List.length_map,Qjt]
 ·rw[List.getElem?_map]at hd
  cases hx:xs[i]? with
  | none=>rw[hx]at hd;cases hd
  | some x=>rw[hx]at hd;cases hd;exact h x (List.mem_of_getElem? hx) Q
theorem Qjv {α : Type} {e : CE} {same : Sto -> Prop} {xs : List α} {g1 g2 f : α -> D} {caps : Loc} {Q : List D -> Sto -> Prop} (hs : same s) (h : ∀ x ∈ xs, ∀ Q, wp (e (some (g1 x) :: some (g2 x) :: caps)) Q s = Q (f x) s) :
  wp (collect (gTupD 2 (gsCons (gVar 0) (gsCons (gVar 1) gsNil))) tTrue e same (xs.map fun x=>.tup [g1 x,g2 x]) (none::none::caps)) Q s=Q (xs.map f) s:=by
 rw[QhB (f:=fun i=>match xs[i]? with | some x=>f x | none=>.non) hs fun i d hd=>?_]
 ·rw[List.length_map,Qjt]
 ·rw[List.getElem?_map]at hd
  cases hx:xs[i]? with
  | none=>rw[hx]at hd;cases hd
  | some x=>rw[hx]at hd;cases hd;exact⟨_,_,rfl,fun Q=>h x (List.mem_of_getElem? hx) Q⟩
def pick {α:Type} (d0:α) (l:List α) (o:List Nat):List α:=o.map fun i=>l.getD i d0
def h0:Hd:=⟨0,0,[]⟩
def b0:Bd:=⟨0,0,fun _ _=>0,fun _ _=>0,0⟩
def mvL (o:List Nat):Ln->Ln
 | .settle v=>.settle v
 | .act b d gs=>.act (o.idxOf b) d gs
def mvH (o:List Nat) (h:Hd):Hd:=⟨h.b0,h.b1,h.lines.map (mvL o)⟩
def exH (h:Hs) (o:List Nat):Hs:=⟨h.boards,pick h0 h.hands o⟩
def exB (h:Hs) (o:List Nat):Hs:=⟨pick b0 h.boards o,h.hands.map (mvH o)⟩
theorem Qjw {α:Type}{d0:α}{l:List α}{i:Nat} (h:i < l.length):l[i]?=some (l.getD i d0):=by
 rw[List.getD_eq_getElem?_getD,List.getElem?_eq_getElem h];rfl
theorem Qjx {α : Type} {d0 : α} {F : α -> D} {l : List α} {o : List Nat} {Q : List D -> Sto -> Prop} {e : CE} {caps : Loc} (ho : ∀ x ∈ o, x < l.length) (he : ∀ (i : Nat) (Q : D -> Sto -> Prop), wp (e (some (.int i) :: caps)) Q s = wp (itemD (l.map F) i) Q s) :
  wp (collect (gVar 0) tTrue e anySt (o.map natD) (none::caps)) Q s=Q ((pick d0 l o).map F) s:=by
 unfold pick
 rw[List.map_map]
 refine Qju QhE fun x hx Q=>?_
 show wp (e (some (.int x)::caps)) Q s=_
 rw[he,Qhj (by rw[List.getElem?_map,Qjw (d0:=d0) (ho x hx)];rfl)]
 rfl
theorem Qjy {h:Hs}{o:List Nat} (ho:∀ x∈o,x < h.hands.length) (hl:o.length<=100):wp (jb [hsD h,.tup (o.map natD)]) Q s=Q (hsD (exH h o)) s:=by
 have l2:2<=lim:=Qhc (by ac_nf)
 have lo:o.length<=lim:=Qhc (by ac_nf)
 have w:∀ (Q:List D->Sto->Prop) s,wp (collect (gVar 0) tTrue (c2 subsD (c2 subsD (cVar 1) (cCon (.int 1))) (cVar 0)) anySt (o.map natD) [none,some (.tup [.tup (h.boards.map bdD),.tup (h.hands.map hdD)])]) Q s=Q ((pick h0 h.hands o).map hdD) s:=fun Q s=>Qjx ho fun i Q=>by simp_arith []
 unfold hsD
 (simp_arith [jb];simp_arith [jH,capt,List.length_map,lo,↓w,l2])
 rfl
theorem Qjz {h:Hs}{o:List Nat} (ho:∀ x∈o,x < h.hands.length) (hl:o.length<=100):wp (jf [hsD h,.tup (o.map natD)]) Q s=Q (hsD (exH h o)) s:=by
 have l2:2<=lim:=Qhc (by ac_nf)
 have lo:o.length<=lim:=Qhc (by ac_nf)
 have w:∀ (Q:List D->Sto->Prop) s,wp (collect (gVar 0) tTrue (c2 subsD (c2 subsD (cVar 1) (cCon (.int 1))) (cVar 0)) anySt (o.map natD) [none,some (.tup [.tup (h.boards.map bdD),.tup (h.hands.map hdD)])]) Q s=Q ((pick h0 h.hands o).map hdD) s:=fun Q s=>Qjx ho fun i Q=>by simp_arith []
 unfold hsD
 (simp_arith [jf];simp_arith [jF,capt,List.length_map,lo,↓w,l2])
 rfl
end
open PySem (Str)
section
variable {p q:Nat}{s s1 s2:Sto}{Q:D->Sto->Prop}
def plK:List Nat->Nat->List (D × D)
 | [],_=>[]
 | x::o,j=>(natD x,natD j)::plK o (j + 1)
theorem QjA {a b:Nat}:eqK (natD a) (natD b)=(a == b):=by
 show ((a:Int) == (b:Int))=(a == b)
 by_cases h:a=b
 ·subst h;simp
 ·rw[beq_eq_false_iff_ne.mpr h,beq_eq_false_iff_ne.mpr (by ac_nf)]
theorem QjB:∀ {o:List Nat}{j:Nat}{kvs:List (D × D)},o.Nodup->(∀ x∈o,(kvs.any fun p=>eqK p.1 (natD x))=false)->mgK kvs (plK o j)=kvs++plK o j
 | [],_,kvs,_,_=>by simp[plK,mgK]
 | x::o,j,kvs,h,hk=>by
  have h':=List.nodup_cons.mp h
  show mgK (ptK kvs (natD x) (natD j)) (plK o (j + 1))=kvs++(natD x,natD j)::plK o (j + 1)
  have e:ptK kvs (natD x) (natD j)=kvs++[(natD x,natD j)]:=by
   unfold ptK;rw[hk x List.mem_cons_self];rfl
  rw[e,QjB h'.2 fun y hy=>?_]
  ·rw[List.append_assoc];rfl
  ·rw[List.any_append,hk y (List.mem_cons_of_mem _ hy),Bool.false_or]
   show (eqK (natD x) (natD y) || false)=false
   rw[QjA,Bool.or_false]
   exact beq_eq_false_iff_ne.mpr fun e=>h'.1 (by rw[e];exact hy)
theorem QjC {x:Nat}:∀ {o:List Nat}{j:Nat},x∈o->lkK (plK o j) (natD x)=some (natD (j + o.idxOf x))
 | [],_,h=>absurd h (by simp)
 | y::o,j,h=>by
  unfold lkK plK
  rw[List.find?_cons,QjA,List.idxOf_cons]
  by_cases e:y=x
  ·subst e;simp
  ·rw[beq_eq_false_iff_ne.mpr e]
   have hx:x∈o:=by
    rcases List.mem_cons.mp h with z | z
    ·exact absurd z.symm e
    ·exact z
   have:=QjC (o:=o) (j:=j + 1) hx
   unfold lkK at this
   simp only[this,cond_false]
   congr 2
   ac_nf
theorem QjD:∀ (o:List Nat) (j:Nat),((o.zipIdx j).map fun x=>((x.1:Int),natD x.2)).map (fun p=>(D.int p.1,p.2))=plK o j
 | [],_=>rfl
 | x::o,j=>by
  show (natD x,natD j)::_=(natD x,natD j)::plK o (j + 1)
  rw[<- QjD o (j + 1)]
theorem QjE:∀ (l:List (Nat × Nat)),prsI (l.map fun x=>.tup [natD x.1,natD x.2])=some (l.map fun x=>((x.1:Int),natD x.2))
 | []=>rfl
 | x::l=>by
  show (some ((x.1:Int),natD x.2)).bind (fun p=>(prsI _).map (p::·))=_
  rw[QjE l];rfl
theorem QjF {o:List Nat} (hn:o.Nodup) (hl:o.length<=100):wp (jt [.tup (o.map natD)]) Q s=Q (.dic s.length) (s++[.dct false (plK o 0)]):=by
 have l2:2<=lim:=Qhc (by ac_nf)
 have lo:o.length<=lim:=Qhc (by ac_nf)
 have ez:(rngD 0 o.length).zipWith (fun i d=>D.tup [i,d]) (o.map natD)=o.zipIdx.map fun x=>.tup [natD x.2,natD x.1]:=by
  apply List.ext_getElem?
  intro i
  rw[List.getElem?_zipWith,List.getElem?_map,List.getElem?_map,List.getElem?_zipIdx]
  by_cases hi:i < o.length
  ·rw[Qhw,Qhq hi,List.getElem?_eq_getElem hi];simp[natD]
  ·rw[List.getElem?_eq_none (by ac_nf:o.length<=i)];simp
 have w:∀ (Q:List D->Sto->Prop) s,wp (collect (gTupD 2 (gsCons (gVar 0) (gsCons (gVar 1) gsNil))) tTrue (cTup (cCons (cVar 1) (cCons (cVar 0) cNil))) anySt (o.zipIdx.map fun x=>.tup [natD x.2,natD x.1]) [none,none]) Q s=Q (o.zipIdx.map fun x=>.tup [natD x.1,natD x.2]) s:=fun Q s=>Qjv QhE fun x hx Q=>by simp_arith [l2]
 have d:∀ (Q:D->Sto->Prop) s,wp (dictLL (o.zipIdx.map fun x=>.tup [natD x.1,natD x.2])) Q s=Q (.dic s.length) (s++[.dct false (plK o 0)]):=fun Q s=>by
  unfold dictLL
  rw[QjE]
  dsimp only
  rw[wp_chk,QjD,QjB hn fun _ _=>rfl,List.nil_append,show wp (allocK false (plK o 0)) Q s=Q (.dic s.length) (s++[.dct false (plK o 0)]) from wp_eq rfl]
  exact propext ⟨fun h=>h.2,fun h=>⟨by simp;ac_nf,h⟩⟩
 (simp_arith [jt];simp_arith [jW,capt,List.length_map,ez,List.length_zipIdx,lo,↓w,↓d])
theorem nd_:¬ (Str.ofString "do"=Str.ofString "settle"):=by decide
theorem QjG {o:List Nat}{l:Ln}{n:Nat} (hg:s[n]?=some (.dct false (plK o 0))) (hl:∀ b d gs,l=.act b d gs->b∈o):wp (jx [lnD l,.dic n]) Q s=Q (lnD (mvL o l)) s:=by
 have l4:4<=lim:=Qhc (by ac_nf)
 cases l with
 | settle v=>(simp_arith [jx];simp_arith [j8,lnD,decide_true,if_true,mvL])
 | act b d gs=>
  have k:∀ (Q:D->Sto->Prop),wp (itemK n (natD b)) Q s=Q (natD (o.idxOf b)) s:=fun Q=>by
   rw[QhT hg rfl (QjC (hl b d gs rfl)),Nat.zero_add]
  (simp_arith [jx];simp_arith [j8,lnD,nd_,if_false,↓k,l4,mvL])
def InB (h:Hs) (o:List Nat):Prop:=∀ x∈h.hands,∀ l∈x.lines,∀ b d gs,l=.act b d gs->b∈o
theorem QjH {h:Hs}{o:List Nat} (ho:∀ x∈o,x < h.boards.length) (hn:o.Nodup) (hl:o.length<=100) (hh:h.hands.length<=3) (hls:∀ x∈h.hands,x.lines.length<=12) (hi:InB h o) (hQ:∀ s',Ext s s'->Q (hsD (exB h o)) s'):wp (jc [hsD h,.tup (o.map natD)]) Q s:=by
 have l2:2<=lim:=Qhc (by ac_nf)
 have lo:o.length<=lim:=Qhc (by ac_nf)
 have lh:h.hands.length<=lim:=Qhc (by ac_nf)
 have pw:∀ (Q:D->Sto->Prop) s,wp (jt [.tup (o.map natD)]) Q s=Q (.dic s.length) (s++[.dct false (plK o 0)]):=fun Q s=>QjF hn hl
 have w:∀ (Q:List D->Sto->Prop) s,wp (collect (gVar 0) tTrue (c2 subsD (c2 subsD (cVar 1) (cCon (.int 0))) (cVar 0)) anySt (o.map natD) [none,some (.tup [.tup (h.boards.map bdD),.tup (h.hands.map hdD)])]) Q s=Q ((pick b0 h.boards o).map bdD) s:=fun Q s=>Qjx ho fun i Q=>by simp_arith []
 have w2:∀ (Q:List D->Sto->Prop),wp (collect (gTupD 2 (gsCons (gVar 0) (gsCons (gVar 1) gsNil))) tTrue (cTup (cCons (cVar 0) (cCons (cTmp tupL (aComp 1 [2] (iSeq (cVar 1)) (gVar 0) tTrue (cCall jx (cCons (cVar 0) (cCons (cVar 1) cNil))))) cNil))) anySt (h.hands.map hdD) [none,none,some (.dic s.length)]) Q (s++[MO.dct false (plK o 0)])=Q (h.hands.map fun x=>hdD (mvH o x)) (s++[.dct false (plK o 0)]):=fun Q=>by
  refine Qjv (g1:=fun x:Hd=>.tup [natD x.b0,natD x.b1]) (g2:=fun x:Hd=>.tup (x.lines.map lnD)) QhE fun x hx Q=>?_
  have lx:x.lines.length<=lim:=Qhc (by have:=hls x hx;ac_nf)
  have w3:∀ (Q:List D->Sto->Prop),wp (collect (gVar 0) tTrue (cCall jx (cCons (cVar 0) (cCons (cVar 1) cNil))) anySt (x.lines.map lnD) [none,some (.dic s.length)]) Q (s++[MO.dct false (plK o 0)])=Q (x.lines.map fun l=>lnD (mvL o l)) (s++[.dct false (plK o 0)]):=fun Q=>by
   refine Qju QhE fun l hl Q=>?_
   have m:∀ (Q:D->Sto->Prop),wp (jx [lnD l,.dic s.length]) Q (s++[MO.dct false (plK o 0)])=Q (lnD (mvL o l)) (s++[.dct false (plK o 0)]):=fun Q=>QjG QhW fun b d gs e=>hi x hx l hl b d gs e
   simp_arith [↓m]
  simp_arith [capt,List.length_map,lx,↓w3,l2]
  unfold hdD mvH
  rw[List.map_map]
  rfl
 have g:∀ (A:List D) (Q:List D->Sto->Prop),wp (getL (s++[MO.dct false (plK o 0)]).length) Q (s++[MO.dct false (plK o 0)]++[.lst A])=Q A (s++[MO.dct false (plK o 0)]++[.lst A]):=fun A Q=>Qg1 QhW
 unfold hsD
 (simp_arith [jc];simp_arith [jG,↓pw,capt,List.length_map,lh,↓w2,lo,↓w,↓g,l2])
 have z:=hQ (s++[.dct false (plK o 0)]++[.lst (h.hands.map fun x=>hdD (mvH o x))]) (((Ext.refl _).snoc _).snoc _)
 unfold hsD exB at z
 rw[List.map_map]at z
 exact z
theorem QjI {a b : CE} {l : Loc} : wp (cIndexT a b l) Q s = wp (a l) (fun o s1 => match o with
  | .tup ds=>wp (b l) (fun x s2=>match x with
   | .int k=>((ds.all isIv)=true/\(ds.any (isK k))=true)/\Q (.int (ds.findIdx (isK k):Nat)) s2
   | _=>False) s1
  | _=>False) s:=by
 unfold cIndexT;rw[Qg0];congr 1;funext x s1
 cases x with
 | tup n=>
  dsimp only
  rw[Qg0];congr 1;funext x s2
  cases x with
  | int i=>dsimp only;rw[wp_chk,wp_ret]
  | _=>exact wp_no rfl
 | _=>exact wp_no rfl
theorem QjJ:∀ {o:List Nat},((o.map natD).all isIv)=true
 | []=>rfl
 | x::o=>by rw[List.map_cons,List.all_cons,QjJ];rfl
theorem QjK {a b:Nat}:isK (b:Int) (natD a)=(a == b):=by
 show ((a:Int) == (b:Int))=(a == b)
 exact QjA
theorem QjL {b:Nat}:∀ {o:List Nat},b∈o->((o.map natD).any (isK (b:Int)))=true
 | [],h=>absurd h (by simp)
 | x::o,h=>by
  rw[List.map_cons,List.any_cons,QjK]
  rcases List.mem_cons.mp h with e | e
  ·subst e;simp
  ·rw[QjL e,Bool.or_true]
theorem QjM {b:Nat}:∀ {o:List Nat},(o.map natD).findIdx (isK (b:Int))=o.idxOf b
 | []=>rfl
 | x::o=>by
  rw[List.map_cons,List.findIdx_cons,QjK,List.idxOf_cons,QjM]
end
open PySem (Str)
section
variable {p q:Nat}{s s1 s2:Sto}{Q:D->Sto->Prop}
theorem sd_:¬ (Str.ofString "settle"=Str.ofString "do"):=by decide
theorem QjN {α β:Type}{f:α->β}{l:List α}{i:Nat}{x:α} (h:l[i]?=some x):(l.take i).map f++[f x]=(l.take (i + 1)).map f:=by
 rw[List.take_succ,h,List.map_append];rfl
theorem QjO {s':Sto} (w:Kept s.length s.length s s'):Ext s s':=by
 refine⟨s'.drop s.length,?_⟩
 apply List.ext_getElem?
 intro i
 by_cases hi:i < s.length
 ·rw[List.getElem?_append_left hi,w.at_ i hi (by ac_nf) (by ac_nf)]
 ·rw[List.getElem?_append_right (by ac_nf),List.getElem?_drop]
  congr 1
  ac_nf
theorem QjP {h:Hs}{o:List Nat} (ho:∀ x∈o,x < h.boards.length) (hl:o.length<=100) (hh:h.hands.length<=3) (hls:∀ x∈h.hands,x.lines.length<=12) (hi:InB h o) (hQ:∀ s',Ext s s'->Q (hsD (exB h o)) s'):wp (jd [hsD h,.tup (o.map natD)]) Q s:=by
 have l2:2<=lim:=Qhc (by ac_nf)
 have l4:4<=lim:=Qhc (by ac_nf)
 have lo:o.length<=lim:=Qhc (by ac_nf)
 have w:∀ (Q:List D->Sto->Prop) s,wp (collect (gVar 0) tTrue (c2 subsD (c2 subsD (cVar 1) (cCon (.int 0))) (cVar 0)) anySt (o.map natD) [none,some (.tup [.tup (h.boards.map bdD),.tup (h.hands.map hdD)])]) Q s=Q ((pick b0 h.boards o).map bdD) s:=fun Q s=>Qjx ho fun i Q=>by simp_arith []
 unfold hsD
 (simp_arith [jd];simp_arith [jE,Nat.zero_le])
 refine Qhe (fun i l s'=>∃ y3 y4 y5 y6:Option D,l=[some (.tup [.tup (h.boards.map bdD),.tup (h.hands.map hdD)]),some (.tup (o.map natD)),some (.ref s.length),y3,y4,y5,y6]/\s'[s.length]?=some (.lst ((h.hands.take i).map fun x=>hdD (mvH o x)))/\Kept s.length s.length s s') (fun _ _ _ _=>trivial)
  ⟨none,none,none,none,rfl,QhW,Kept.refl.snoc⟩ (fun i d l s' hd hZ0=>?_) (fun l s' hZ0=>?_)
 ·obtain⟨y3,y4,y5,y6,el,g,w0⟩:=hZ0
  subst el
  rw[List.getElem?_map]at hd
  cases hx:h.hands[i]? with
  | none=>rw[hx]at hd;cases hd
  | some x=>
   rw[hx]at hd
   cases hd
   have hm:=List.mem_of_getElem? hx
   have hix:=(List.getElem?_eq_some_iff.mp hx).1
   have lx:=hls x hm
   have lg:=Qiu g
   unfold hdD
   simp_arith [Nat.zero_le]
   refine Qhe (fun j l u=>∃ y6:Option D,l=[some (.tup [.tup (h.boards.map bdD),.tup (h.hands.map hdD)]),some (.tup (o.map natD)),some (.ref s.length),some (.tup [natD x.b0,natD x.b1]),some (.tup (x.lines.map lnD)),some (.ref s'.length),y6]/\u[s.length]?=some (.lst ((h.hands.take i).map fun x=>hdD (mvH o x)))/\u[s'.length]?=some (.lst ((x.lines.take j).map fun l=>lnD (mvL o l)))/\Kept s.length s.length s u) (fun _ _ _ _=>trivial)
    ⟨y6,rfl,QhX g,QhW,w0.snoc⟩ (fun j d l u hd hZ0=>?_) (fun l u hZ0=>?_)
   ·obtain⟨y6,el,ga,gb,wu⟩:=hZ0
    subst el
    rw[List.getElem?_map]at hd
    cases hy:x.lines[j]? with
    | none=>rw[hy]at hd;cases hd
    | some ln=>
     rw[hy]at hd
     cases hd
     have hjx:=(List.getElem?_eq_some_iff.mp hy).1
     have q1:∀ Q,wp (getL s'.length) Q u=Q ((x.lines.take j).map fun l=>lnD (mvL o l)) u:=fun Q=>Qg1 gb
     have q2:∀ es Q,wp (putL s'.length es) Q u=Q () (u.set s'.length (.lst es)):=fun es Q=>Qg2 gb
     have ll:((x.lines.take j).map fun l=>lnD (mvL o l)).length < lim:=Qhd (by rw[List.length_map,List.length_take];ac_nf)
     have nx:(u.set s'.length (MO.lst ((x.lines.take (j + 1)).map fun l=>lnD (mvL o l))))[s.length]?=some (.lst ((h.hands.take i).map fun x=>hdD (mvH o x))):=by rw[List.getElem?_set_ne (by ac_nf)];exact ga
     cases ln with
     | settle v=>
      have e:((x.lines.take j).map fun l=>lnD (mvL o l))++[.tup [.str "settle",natD v]]=(x.lines.take (j + 1)).map fun l=>lnD (mvL o l):=QjN (f:=fun l=>lnD (mvL o l)) hy
      have es:lnD (.settle v)=.tup [.str "settle",natD v]:=rfl
      simp_arith [es,sd_,if_false,↓q1,↓q2]
      refine⟨ll,_,rfl,?_,?_,wu.put (by ac_nf)⟩
      ·rw[e];exact nx
      ·rw[e];exact List.getElem?_set_self (Qiu gb)
     | act b d gs=>
      have hb:b∈o:=hi x hm _ (List.mem_of_getElem? hy) b d gs rfl
      have e:((x.lines.take j).map fun l=>lnD (mvL o l))++[.tup [.str "do",natD (o.idxOf b),natD d,.tup (gs.map natD)]]=(x.lines.take (j + 1)).map fun l=>lnD (mvL o l):=QjN (f:=fun l=>lnD (mvL o l)) hy
      have es:lnD (.act b d gs)=.tup [.str "do",.int b,natD d,.tup (gs.map natD)]:=rfl
      simp_arith [es,if_true,decide_true,↓QjI,QjM,↓q1,↓q2,l4]
      refine⟨⟨QjJ,QjL hb⟩,ll,_,rfl,?_,?_,wu.put (by ac_nf)⟩
      ·exact (congrArg (fun z=>(u.set s'.length (MO.lst z))[s.length]?) e).trans nx
      ·exact (congrArg (fun z=>(u.set s'.length (MO.lst z))[s'.length]?) e).trans (List.getElem?_set_self (Qiu gb))
   ·obtain⟨y6,el,ga,gb,wu⟩:=hZ0
    subst el
    rw[List.length_map,List.take_length]at gb
    have q1:∀ Q,wp (getL s'.length) Q u=Q (x.lines.map fun l=>lnD (mvL o l)) u:=fun Q=>Qg1 gb
    have q3:∀ Q,wp (getL s.length) Q u=Q ((h.hands.take i).map fun x=>hdD (mvH o x)) u:=fun Q=>Qg1 ga
    have q4:∀ es Q,wp (putL s.length es) Q u=Q () (u.set s.length (.lst es)):=fun es Q=>Qg2 ga
    simp_arith [↓q1,↓q3,↓q4,l2]
    have e:=QjN (f:=fun x=>hdD (mvH o x)) hx
    have e2:D.tup [.tup [natD x.b0,natD x.b1],.tup (x.lines.map fun l=>lnD (mvL o l))]=hdD (mvH o x):=by unfold hdD mvH;rw[List.map_map];rfl
    refine⟨Qhd (by rw[List.length_map,List.length_take];ac_nf),_,_,_,_,rfl,?_,wu.put (by ac_nf)⟩
    rw[e2,e]
    exact List.getElem?_set_self (Qiu ga)
 ·obtain⟨y3,y4,y5,y6,el,g,w0⟩:=hZ0
  subst el
  rw[List.length_map,List.take_length]at g
  have q1:∀ Q,wp (getL s.length) Q s'=Q (h.hands.map fun x=>hdD (mvH o x)) s':=fun Q=>Qg1 g
  simp_arith [capt,List.length_map,lo,↓w,↓q1,l2]
  have z:=hQ s' (QjO w0)
  unfold hsD exB at z
  rw[List.map_map]at z
  exact z
end
open PySem (Str)
section
variable {n:Nat}{o:List Nat}
theorem QjQ (h:o.Perm (List.range n)):o.Nodup:=h.nodup_iff.mpr List.nodup_range
theorem QjR {x:Nat} (h:o.Perm (List.range n)):x∈o↔x < n:=by rw[h.mem_iff,List.mem_range]
theorem QjS (h:o.Perm (List.range n)):o.length=n:=by rw[h.length_eq,List.length_range]
theorem QjT {x:Nat}:∀ {o:List Nat},x∈o->o[o.idxOf x]?=some x
 | [],h=>absurd h (by simp)
 | y::o,h=>by
  rw[List.idxOf_cons]
  by_cases e:y=x
  ·subst e;simp
  ·rw[beq_eq_false_iff_ne.mpr e]
   have hx:x∈o:=by
    rcases List.mem_cons.mp h with z | z
    ·exact absurd z.symm e
    ·exact z
   simp only[cond_false,List.getElem?_cons_succ]
   exact QjT hx
theorem QjU {x:Nat} (h:x∈o):o.idxOf x < o.length:=(List.getElem?_eq_some_iff.mp (QjT h)).1
theorem QjV {x:Nat}:∀ {o:List Nat}{i:Nat},o.Nodup->o[i]?=some x->o.idxOf x=i
 | [],_,_,h=>absurd h (by simp)
 | y::o,0,_,h=>by
  cases h
  rw[List.idxOf_cons];simp
 | y::o,i + 1,nd,h=>by
  have h':o[i]?=some x:=h
  have nd':=List.nodup_cons.mp nd
  rw[List.idxOf_cons,beq_eq_false_iff_ne.mpr (fun e=>nd'.1 (by rw[e];exact List.mem_of_getElem? h')),QjV nd'.2 h']
  rfl
def inv (o:List Nat) (n:Nat):List Nat:=(List.range n).map fun k=>o.idxOf k
theorem QjW {k:Nat} (hk:k < n):(inv o n)[k]?=some (o.idxOf k):=by
 unfold inv;rw[List.getElem?_map,List.getElem?_range hk];rfl
theorem QjX (h:o.Perm (List.range n)):(inv o n).Nodup:=by
 unfold inv
 refine List.pairwise_map.mpr (List.Pairwise.imp_of_mem (fun {i j} hi hj hne e=>?_) (List.nodup_range (n:=n)))
 have a:=QjT ((QjR h).mpr (List.mem_range.mp hi))
 rw[e,QjT ((QjR h).mpr (List.mem_range.mp hj))]at a
 exact hne (Option.some.inj a).symm
theorem QjY {b:Nat} (h:o.Perm (List.range n)) (hb:b < n):(inv o n).idxOf (o.idxOf b)=b:=QjV (QjX h) (QjW hb)
theorem QjZ (h:o.Perm (List.range n)):∀ x∈inv o n,x < n:=fun x hx=>by
 unfold inv at hx
 obtain⟨k,hk,rfl⟩:=List.mem_map.mp hx
 have:=QjU ((QjR h).mpr (List.mem_range.mp hk))
 rw[QjS h]at this
 exact this
theorem Qj0 {α:Type}{d0:α}{l:List α} (h:o.Perm (List.range l.length)):pick d0 (pick d0 l o) (inv o l.length)=l:=by
 apply List.ext_getElem?
 intro k
 unfold pick
 by_cases hk:k < l.length
 ·rw[List.getElem?_map,QjW hk]
  have a:=QjT ((QjR h).mpr hk)
  show some ((o.map fun i=>l.getD i d0).getD (o.idxOf k) d0)=l[k]?
  rw[List.getD_eq_getElem?_getD,List.getElem?_map,a]
  show some (l.getD k d0)=l[k]?
  rw[Qjw hk]
 ·rw[List.getElem?_eq_none (by unfold inv;simp;ac_nf),List.getElem?_eq_none (by ac_nf)]
theorem Qj1 {α:Type}{d0:α}{l:List α}:pick d0 l (List.range l.length)=l:=by
 apply List.ext_getElem?
 intro k
 unfold pick
 by_cases hk:k < l.length
 ·rw[List.getElem?_map,List.getElem?_range hk]
  show some (l.getD k d0)=l[k]?
  rw[Qjw hk]
 ·rw[List.getElem?_eq_none (by simp;ac_nf),List.getElem?_eq_none (by ac_nf)]
theorem Qj2 {b n:Nat} (h:b < n):(List.range n).idxOf b=b:=QjV List.nodup_range (List.getElem?_range h)
theorem Qj3 {α β:Type}{d0:α}{e0:β}{f:α->β}{l:List α} (h:∀ x∈o,x < l.length):pick e0 (l.map f) o=(pick d0 l o).map f:=by
 unfold pick
 rw[List.map_map]
 apply List.map_congr_left
 intro x hx
 show (l.map f).getD x e0=f (l.getD x d0)
 rw[List.getD_eq_getElem?_getD,List.getElem?_map,Qjw (d0:=d0) (h x hx)]
 rfl
theorem Qj4 {α:Type}{d0 x:α}{l:List α} (h:∀ x∈o,x < l.length) (hx:x∈pick d0 l o):x∈l:=by
 unfold pick at hx
 obtain⟨i,hi,rfl⟩:=List.mem_map.mp hx
 exact List.mem_of_getElem? (Qjw (h i hi))
theorem Qj5 {α:Type}{d0:α}{l:List α}{b:Nat} (hb:b∈o) (h:b < l.length):(pick d0 l o)[o.idxOf b]?=l[b]?:=by
 unfold pick
 rw[List.getElem?_map,QjT hb]
 show some (l.getD b d0)=_
 rw[Qjw h]
variable {h:Hs}{oh ob:List Nat}
theorem inB (ho:HsOk h) (hb:ob.Perm (List.range h.boards.length)):InB h ob:=fun x hx l hl b d gs e=>by
 have z:=(ho.2.2.2.2 x hx).2.2.2 l hl
 rw[e]at z
 obtain⟨bd,h1,_⟩:=z
 exact (QjR hb).mpr (List.getElem?_eq_some_iff.mp h1).1
theorem Qj6 (ho:HsOk h) (hh:oh.Perm (List.range h.hands.length)):HsOk (exH h oh):=by
 obtain⟨o1,o2,o3,o4,o5⟩:=ho
 have l:(pick h0 h.hands oh).length=h.hands.length:=by unfold pick;rw[List.length_map,QjS hh]
 exact⟨o1,o2,by show 2<=(pick h0 h.hands oh).length;ac_nf,by show (pick h0 h.hands oh).length<=3;ac_nf,fun x hx=>o5 x (Qj4 (fun y hy=>(QjR hh).mp hy) hx)⟩
theorem Qj7 (ho:HsOk h) (hb:ob.Perm (List.range h.boards.length)):HsOk (exB h ob):=by
 obtain⟨o1,o2,o3,o4,o5⟩:=ho
 have l:(pick b0 h.boards ob).length=h.boards.length:=by unfold pick;rw[List.length_map,QjS hb]
 refine⟨by show (pick b0 h.boards ob).length<=7;ac_nf,fun x hx=>o2 x (Qj4 (fun y hy=>(QjR hb).mp hy) hx),by show 2<=(h.hands.map (mvH ob)).length;rw[List.length_map];exact o3,by show (h.hands.map (mvH ob)).length<=3;rw[List.length_map];exact o4,fun x hx=>?_⟩
 obtain⟨y,hy,rfl⟩:=List.mem_map.mp hx
 obtain⟨d1,d2,d3,d4⟩:=o5 y hy
 refine⟨by show y.b0 < (y.lines.map _).length;rw[List.length_map];exact d1,by show y.b1 < (y.lines.map _).length;rw[List.length_map];exact d2,by show (y.lines.map _).length<=12;rw[List.length_map];exact d3,fun ln hl=>?_⟩
 have e:(mvH ob y).lines.length=y.lines.length:=by unfold mvH;simp
 rw[e]
 obtain⟨z,hz,rfl⟩:=List.mem_map.mp hl
 have q:=d4 z hz
 cases z with
 | settle v=>exact q
 | act b d gs=>
  obtain⟨bd,h1,r⟩:=q
  have lb:=(List.getElem?_eq_some_iff.mp h1).1
  exact⟨bd,by show (pick b0 h.boards ob)[ob.idxOf b]?=some bd;rw[Qj5 ((QjR hb).mpr lb) lb,h1],r⟩
theorem Qj8 (hh:oh.Perm (List.range h.hands.length)):exB (exH h oh) ob=exH (exB h ob) oh:=by
 show (⟨pick b0 h.boards ob,(pick h0 h.hands oh).map (mvH ob)⟩:Hs)=⟨pick b0 h.boards ob,pick h0 (h.hands.map (mvH ob)) oh⟩
 rw[Qj3 (d0:=h0) fun x hx=>(QjR hh).mp hx]
theorem Qj9 (hh:oh.Perm (List.range h.hands.length)):exH (exH h oh) (inv oh h.hands.length)=h:=by
 show (⟨h.boards,pick h0 (pick h0 h.hands oh) _⟩:Hs)=h
 rw[Qj0 hh]
theorem Qka {o1 o2:List Nat}{m:Nat} (hm:∀ b,b < m->o2.idxOf (o1.idxOf b)=b) {l:Ln} (hl:∀ b d gs,l=.act b d gs->b < m):mvL o2 (mvL o1 l)=l:=by
 cases l with
 | settle v=>rfl
 | act b d gs=>show Ln.act _ d gs=_;rw[hm b (hl b d gs rfl)]
theorem Qkb (ho:HsOk h):∀ x∈h.hands,∀ l∈x.lines,∀ b d gs,l=.act b d gs->b < h.boards.length:=fun x hx l hl b d gs e=>by
 have z:=(ho.2.2.2.2 x hx).2.2.2 l hl
 rw[e]at z
 obtain⟨bd,h1,_⟩:=z
 exact (List.getElem?_eq_some_iff.mp h1).1
theorem Qkc (ho:HsOk h) (hb:ob.Perm (List.range h.boards.length)):exB (exB h ob) (inv ob h.boards.length)=h:=by
 show (⟨pick b0 (pick b0 h.boards ob) _,(h.hands.map (mvH ob)).map (mvH (inv ob h.boards.length))⟩:Hs)=h
 rw[Qj0 hb,List.map_map]
 have:h.hands.map (mvH (inv ob h.boards.length) ∘ mvH ob)=h.hands:=by
  conv=>rhs;rw[<- List.map_id h.hands]
  apply List.map_congr_left
  intro x hx
  show (⟨x.b0,x.b1,(x.lines.map (mvL ob)).map (mvL (inv ob h.boards.length))⟩:Hd)=x
  rw[List.map_map]
  have:x.lines.map (mvL (inv ob h.boards.length) ∘ mvL ob)=x.lines:=by
   conv=>rhs;rw[<- List.map_id x.lines]
   apply List.map_congr_left
   intro l hl
   exact Qka (fun b hb'=>QjY hb hb') (Qkb ho x hx l hl)
  rw[this]
 rw[this]
theorem Qkd:exH h (List.range h.hands.length)=h:=by
 show (⟨h.boards,pick h0 h.hands _⟩:Hs)=h
 rw[Qj1]
theorem Qke (ho:HsOk h):exB h (List.range h.boards.length)=h:=by
 show (⟨pick b0 h.boards _,h.hands.map (mvH _)⟩:Hs)=h
 rw[Qj1]
 have:h.hands.map (mvH (List.range h.boards.length))=h.hands:=by
  conv=>rhs;rw[<- List.map_id h.hands]
  apply List.map_congr_left
  intro x hx
  show (⟨x.b0,x.b1,x.lines.map (mvL _)⟩:Hd)=x
  have:x.lines.map (mvL (List.range h.boards.length))=x.lines:=by
   conv=>rhs;rw[<- List.map_id x.lines]
   apply List.map_congr_left
   intro l hl
   cases l with
   | settle v=>rfl
   | act b d gs=>show Ln.act _ d gs=_;rw[Qj2 (Qkb ho x hx _ hl b d gs rfl)];rfl
  rw[this]
 rw[this]
end
open PySem (Str)
section
variable {p q:Nat}{s s1 s2:Sto}{Q:D->Sto->Prop}
theorem Qkf {n:Nat} (x:Nat):Pd n (natD x):=.int _
theorem Qkg {n:Nat}{xs:List Nat}:Pd (n + 1) (.tup (xs.map natD)):=.tup fun d hd=>by
 obtain⟨x,_,rfl⟩:=List.mem_map.mp hd
 exact Qkf x
theorem Qkh {b:Bd}:Pd 4 (bdD b):=.tup fun d hd=>by
 simp only[List.mem_cons,List.not_mem_nil,or_false]at hd
 rcases hd with e | e
 ·rw[e]
  refine .tup fun d hd=>?_
  obtain⟨i,_,rfl⟩:=List.mem_map.mp hd
  refine .tup fun d hd=>?_
  obtain⟨j,_,rfl⟩:=List.mem_map.mp hd
  refine .tup fun d hd=>?_
  simp only[List.mem_cons,List.not_mem_nil,or_false]at hd
  rcases hd with e | e<;>rw[e]<;>exact .int _
 ·rw[e];exact Qkf _
theorem Qki {l:Ln}:Pd 2 (lnD l):=by
 cases l with
 | settle v=>
  refine .tup fun d hd=>?_
  simp only[List.mem_cons,List.not_mem_nil,or_false]at hd
  rcases hd with e | e<;>rw[e]
  ·exact .str _
  ·exact Qkf _
 | act b d gs=>
  refine .tup fun d hd=>?_
  simp only[List.mem_cons,List.not_mem_nil,or_false]at hd
  rcases hd with e | e | e | e<;>rw[e]
  ·exact .str _
  ·exact Qkf _
  ·exact Qkf _
  ·exact Qkg
theorem Qkj {h:Hd}:Pd 4 (hdD h):=.tup fun d hd=>by
 simp only[List.mem_cons,List.not_mem_nil,or_false]at hd
 rcases hd with e | e<;>rw[e]
 ·refine .tup fun d hd=>?_
  simp only[List.mem_cons,List.not_mem_nil,or_false]at hd
  rcases hd with e | e<;>rw[e]<;>exact Qkf _
 ·refine .tup fun d hd=>?_
  obtain⟨l,_,rfl⟩:=List.mem_map.mp hd
  exact Qki
theorem Qkk {h:Hs}:Pd 6 (hsD h):=.tup fun d hd=>by
 simp only[List.mem_cons,List.not_mem_nil,or_false]at hd
 rcases hd with e | e<;>rw[e]
 ·refine .tup fun d hd=>?_
  obtain⟨l,_,rfl⟩:=List.mem_map.mp hd
  exact Qkh
 ·refine .tup fun d hd=>?_
  obtain⟨l,_,rfl⟩:=List.mem_map.mp hd
  exact Qkj
theorem Qkl {h:Hs}:wp (neD (hsD h) (hsD h)) Q s=Q (.bl false) s:=QhQ Qkk (by ac_nf)
theorem Qkm {h:Hs}:wp (eqD (hsD h) (hsD h)) Q s=Q (.bl true) s:=QhP Qkk (by ac_nf)
theorem Qkn {h:Hs}:wp (subsD (hsD h) (.int 1)) Q s=Q (.tup (h.hands.map hdD)) s:=by unfold hsD;rw[x_subsT,x_item1]
theorem Qko {h:Hs}:wp (subsD (hsD h) (.int 0)) Q s=Q (.tup (h.boards.map bdD)) s:=by unfold hsD;rw[x_subsT,x_item0]
theorem Qkp {n:Nat} (hn:n<=1000):wp (tupRngD (.int n)) Q s=Q (.tup ((List.range n).map natD)) s:=by
 unfold tupRngD
 rw[wp_chk,wp_ret,Int.toNat_natCast]
 exact propext ⟨fun h=>h.2,fun h=>⟨⟨by ac_nf,by ac_nf⟩,h⟩⟩
theorem Qkq {n:Nat}{o:List Nat}{Q:List D->Sto->Prop} (ho:o.Perm (List.range n)):wp (collect (gVar 0) tTrue (cIndexT (cVar 1) (cVar 0)) anySt (rngD 0 n) [none,some (.tup (o.map natD))]) Q s=Q ((inv o n).map natD) s:=by
 have e:rngD 0 n=(List.range n).map natD:=by rw[Qhw];rfl
 rw[e]
 unfold inv
 rw[List.map_map]
 refine Qju QhE fun x hx Q=>?_
 have hm:x∈o:=(QjR ho).mpr (List.mem_range.mp hx)
 simp_arith [↓QjI,natD]
 have a:((o.map natD).all isIv)=true:=QjJ
 have b:((o.map natD).any (isK (x:Int)))=true:=QjL hm
 have c:(o.map natD).findIdx (isK (x:Int))=o.idxOf x:=QjM
 exact propext ⟨fun h=>by rw[c]at h;exact h.2,fun h=>⟨⟨a,b⟩,by rw[c];exact h⟩⟩
theorem Qkr {h : Hs} (hp : PotAt s p q) (ho : HsOk h) (hb4 : h.boards.length <= 4) (x0 : D) (hQ : ∀ s, Q (.bl true) s) :
  wp ((sSeq (sAsg (gVar 3) (cCall jk (cCons (cVar 1) (cCons (c1 lenD (c2 subsD (cVar 2) (cCon (.int 1)))) cNil))))
  (sSeq (sAsg (gVar 4) (cCall jk (cCons (cVar 1) (cCons (c1 lenD (c2 subsD (cVar 2) (cCon (.int 0)))) cNil))))
  (sSeq (sAsg (gVar 5) (cCall jf (cCons (cVar 2) (cCons (cVar 3) cNil))))
  (sSeq (sAsg (gVar 6) (cCall jd (cCons (cVar 2) (cCons (cVar 4) cNil))))
  (sSeq (sIf (tOrB (tCmpB (c2 neD (cCall jb (cCons (cVar 2) (cCons (cVar 3) cNil))) (cVar 5))) (tCmpB (c2 neD (cCall jc (cCons (cVar 2) (cCons (cVar 4) cNil))) (cVar 6))))
   (sSeq (sRet (cCon (.bl false)))
   sNext)
   sNext)
  (sSeq (sAsg (gVar 7) (cCall jd (cCons (cVar 5) (cCons (cVar 4) cNil))))
  (sSeq (sIf (tOrB (tCmpB (c2 neD (cCall jc (cCons (cVar 5) (cCons (cVar 4) cNil))) (cVar 7))) (tOrB (tCmpB (c2 neD (cCall jb (cCons (cVar 6) (cCons (cVar 3) cNil))) (cVar 7))) (tCmpB (c2 isntD (cCall jP (cCons (cVar 7) cNil)) (cCon (.bl true))))))
   (sSeq (sRet (cCon (.bl false)))
   sNext)
   sNext)
  (sSeq (sAsg (gVar 8) (cTmp tupL (aComp 1 [3] (MM.iRng1 (c1 lenD (cVar 3))) (gVar 0) tTrue (cIndexT (cVar 1) (cVar 0)))))
  (sSeq (sAsg (gVar 9) (cTmp tupL (aComp 1 [4] (MM.iRng1 (c1 lenD (cVar 4))) (gVar 0) tTrue (cIndexT (cVar 1) (cVar 0)))))
  (sSeq (sIf (tOrB (tCmpB (c2 neD (cCall jb (cCons (cVar 5) (cCons (cVar 8) cNil))) (cVar 2))) (tCmpB (c2 neD (cCall jc (cCons (cVar 6) (cCons (cVar 9) cNil))) (cVar 2))))
   (sSeq (sRet (cCon (.bl false)))
   sNext)
   sNext)
  (sSeq (sAsg (gVar 10) (c1 tupRngD (c1 lenD (c2 subsD (cVar 2) (cCon (.int 1))))))
  (sSeq (sRet (cAnd (c2 eqD (cCall jb (cCons (cVar 2) (cCons (cVar 10) cNil))) (cVar 2)) (c2 eqD (cCall jc (cCons (cVar 2) (cCons (c1 tupRngD (c1 lenD (c2 subsD (cVar 2) (cCon (.int 0))))) cNil))) (cVar 2))))
  sNext)))))))))))) [some x0,some (.dic p),some (hsD h),none,none,none,none,none,none,none,none]) (fun f s'=>wp (flwD f) Q s') s:=by
 obtain⟨o1,o2,o3,o4,o5⟩:=id ho
 have h1:∀ (h:Hs) (Q:D->Sto->Prop) s,wp (subsD (hsD h) (.int 1)) Q s=Q (.tup (h.hands.map hdD)) s:=fun h Q s=>Qkn
 have h2:∀ (h:Hs) (Q:D->Sto->Prop) s,wp (subsD (hsD h) (.int 0)) Q s=Q (.tup (h.boards.map bdD)) s:=fun h Q s=>Qko
 simp_arith [↓h1,List.length_map]
 refine Qjd (PK.refl hp) (by ac_nf) fun oh t1 ph k1 w1=>?_
 simp_arith [↓h2,List.length_map]
 refine Qjd k1 (by ac_nf) fun ob t2 pb k2 w2=>?_
 have mh:∀ x∈oh,x < h.hands.length:=fun x hx=>(QjR ph).mp hx
 have mb:∀ x∈ob,x < h.boards.length:=fun x hx=>(QjR pb).mp hx
 have lh:=QjS ph
 have lb:=QjS pb
 have hls:∀ {g:Hs},HsOk g->∀ x∈g.hands,x.lines.length<=12:=fun hg x hx=>(hg.2.2.2.2 x hx).2.2.1
 have ok1:=Qj6 ho ph
 have ok2:=Qj7 ho pb
 have ok3:=Qj7 (h:=exH h oh) (ob:=ob) ok1 pb
 have lH1:(exH h oh).hands.length=h.hands.length:=by show (pick h0 h.hands oh).length=_;unfold pick;rw[List.length_map,lh]
 have lB2:(exB h ob).boards.length=h.boards.length:=by show (pick b0 h.boards ob).length=_;unfold pick;rw[List.length_map,lb]
 have lH2:(exB h ob).hands.length=h.hands.length:=by show (h.hands.map _).length=_;rw[List.length_map]
 have a1:∀ (Q:D->Sto->Prop) s,wp (jf [hsD h,.tup (oh.map natD)]) Q s=Q (hsD (exH h oh)) s:=fun Q s=>Qjz mh (by ac_nf)
 have a2:∀ (Q:D->Sto->Prop) s,wp (jb [hsD h,.tup (oh.map natD)]) Q s=Q (hsD (exH h oh)) s:=fun Q s=>Qjy mh (by ac_nf)
 have a3:∀ (Q:D->Sto->Prop) s,wp (jb [hsD (exB h ob),.tup (oh.map natD)]) Q s=Q (hsD (exB (exH h oh) ob)) s:=fun Q s=>by
  rw[Qjy (fun x hx=>by rw[lH2];exact mh x hx) (by ac_nf),Qj8 ph]
 have a4:∀ (Q:D->Sto->Prop) s,wp (jb [hsD (exH h oh),.tup ((inv oh h.hands.length).map natD)]) Q s=Q (hsD h) s:=fun Q s=>by
  rw[Qjy (fun x hx=>by rw[lH1];exact QjZ ph x hx) (by unfold inv;simp;ac_nf),Qj9 ph]
 have a5:∀ (Q:D->Sto->Prop) s,wp (jb [hsD h,.tup ((List.range h.hands.length).map natD)]) Q s=Q (hsD h) s:=fun Q s=>by
  rw[Qjy (fun x hx=>List.mem_range.mp hx) (by simp;ac_nf),Qkd]
 have n1:∀ (h:Hs) (Q:D->Sto->Prop) s,wp (neD (hsD h) (hsD h)) Q s=Q (.bl false) s:=fun h Q s=>Qkl
 have n2:∀ (h:Hs) (Q:D->Sto->Prop) s,wp (eqD (hsD h) (hsD h)) Q s=Q (.bl true) s:=fun h Q s=>Qkm
 simp_arith [↓a1]
 refine QjP mb (by ac_nf) o4 (hls ho) (inB ho pb) fun t3 x3=>?_
 simp_arith [↓a2,↓n1,Bool.false_eq_true,if_false]
 refine QjH mb (QjQ pb) (by ac_nf) o4 (hls ho) (inB ho pb) fun t4 x4=>?_
 simp_arith [↓n1,Bool.false_eq_true,if_false]
 refine QjP (h:=exH h oh) mb (by ac_nf) ok1.2.2.2.1 (hls ok1) (inB ok1 pb) fun t5 x5=>?_
 simp_arith []
 refine QjH (h:=exH h oh) mb (QjQ pb) (by ac_nf) ok1.2.2.2.1 (hls ok1) (inB ok1 pb) fun t6 x6=>?_
 simp_arith [↓n1,Bool.false_eq_true,if_false,↓a3]
 refine Qjr (Qjs ok3) fun t7 x7=>?_
 have ic1:∀ (Q:List D->Sto->Prop) s,wp (collect (gVar 0) tTrue (cIndexT (cVar 1) (cVar 0)) anySt (rngD 0 h.hands.length) [none,some (.tup (oh.map natD))]) Q s=Q ((inv oh h.hands.length).map natD) s:=fun Q s=>Qkq ph
 have ic2:∀ (Q:List D->Sto->Prop) s,wp (collect (gVar 0) tTrue (cIndexT (cVar 1) (cVar 0)) anySt (rngD 0 h.boards.length) [none,some (.tup (ob.map natD))]) Q s=Q ((inv ob h.boards.length).map natD) s:=fun Q s=>Qkq pb
 have lm1:h.hands.length<=lim:=Qhc (by ac_nf)
 have lm2:h.boards.length<=lim:=Qhc (by ac_nf)
 have r1:=QiI (n:=h.hands.length) (by ac_nf)
 have r2:=QiI (n:=h.boards.length) (by ac_nf)
 simp_arith [beq_self_eq_true,Bool.not_true,Bool.false_eq_true,if_false,capt,List.length_map,lh,lb,Int.toNat_natCast,Qhb,lm1,lm2,r1,r2,↓ic1,↓ic2,↓a4,↓n1]
 have bk:exB (exB h ob) (inv ob h.boards.length)=h:=Qkc ho pb
 refine QjH (h:=exB h ob) (fun x hx=>by rw[lB2];exact QjZ pb x hx) (QjX pb) (by unfold inv;simp;ac_nf) ok2.2.2.2.1 (hls ok2) ?_ fun t8 x8=>?_
 ·intro x hx l hl b d gs e
  have:=Qkb ok2 x hx l hl b d gs e
  rw[lB2]at this
  unfold inv
  rw[List.mem_map]
  have hob:ob[b]?=some ob[b]:=List.getElem?_eq_getElem (by ac_nf)
  exact⟨ob[b],List.mem_range.mpr (mb _ (List.getElem_mem _)),QjV (QjQ pb) hob⟩
 rw[bk]
 have tr1:∀ (Q:D->Sto->Prop) s,wp (tupRngD (.int h.hands.length)) Q s=Q (.tup ((List.range h.hands.length).map natD)) s:=fun Q s=>Qkp (by ac_nf)
 have tr2:∀ (Q:D->Sto->Prop) s,wp (tupRngD (.int h.boards.length)) Q s=Q (.tup ((List.range h.boards.length).map natD)) s:=fun Q s=>Qkp (by ac_nf)
 simp_arith [↓n1,Bool.false_eq_true,if_false,↓h1,↓h2,List.length_map,↓tr1,↓tr2,↓a5,↓n2]
 refine QjH (h:=h) (fun x hx=>List.mem_range.mp hx) List.nodup_range (by simp;ac_nf) o4 (hls ho) (inB ho (List.Perm.refl _)) fun t9 x9=>?_
 rw[Qke ho]
 simp_arith [↓n2]
 exact hQ _
theorem Qks (ns:List Int) (hn:ns.length<=63) (hQ:∀ s,Q (.bl true) s):wp (jU [.lit (ns.map D.int)]) Q s:=by
 (simp_arith [jU];simp_arith [yb])
 refine QiD fun p q s1 hp lp lq w1=>?_
 simp_arith []
 refine Qi6 (PK.refl hp) fun h s2 ho hb hk w2=>?_
 simp_arith []
 refine QiF hk (by ac_nf) (by ac_nf) fun r s3 a0 a1 hk3 w3=>?_
 by_cases c:r=0
 ·subst c
  simp_arith [decide_true,if_true]
  refine Qi8 hk3 ho hb fun g s4 hg hb4 hk4 w4=>?_
  refine Eq.mp ?_ (Qkr hk4.1 hg hb4 (.lit (ns.map D.int)) hQ)
  simp_arith []
 ·simp_arith [c,decide_false,Bool.false_eq_true,if_false]
  refine Eq.mp ?_ (Qkr hk3.1 ho (by ac_nf) (.lit (ns.map D.int)) hQ)
  simp_arith []
theorem law_true (ns:List Int) (hn:ns.length<=63):∃ st',jU [.lit (ns.map D.int)] []=.ok (.bl true) st':=QhV (Qks ns hn fun _=>rfl)
end
open PySem PySem.Spec PyProof.Rows L2
theorem walk {l : PySem.W.OpenLaw} {q : Program} {loose : List Str} {XP : (Str -> Option Value) -> Heap -> Prop} {YP : World -> Heap -> Prop} {d : DefRec} {K : Params -> PySem.W.Frag} (hn : l.most = some 63) (hdf : d.params.defaults = []) (hnm : d.name = "law")
  (hY:∀ (w:World) (h:Heap),YP w h->(K w.params).In h) (F:∀ (w:World) (mg:Str->Option Value) (h:Heap),(K w.params).In h->h.Ns mainGlobals mg->Txt (K w.params) mg):
  PySem.W.WalkO q loose XP YP l.row.toRowW d [] (fun f vs=>PySem.call f vs):=by
 refine L2.walk_ofK (n:=63) (k:=5) (x:="_law_script") (CX:=CX0) (K:=K) (sp:=fun K=>spOf K 1 jU) hn (by decide) hdf ⟨rfl,by decide,by decide⟩ hY (fun w mg fa h kin ns hmg=>?_) (fun K H a ns hl hO hS=>Qgr hO hS (law_true ns hl)) (fun _ _ _ _ z=>z)
 have T:=F w mg h kin ns
 obtain⟨a,fd,L,m⟩:=T.f31
 rw[hnm,m]at hmg
 cases hmg
 refine⟨fd,fun s u=>?_,fun base _ _=>yc L T⟩
 obtain⟨oc,od,kV,doc,pm,an,cdv,ct,osl,e,lk,hcd⟩:=L.ex
 rw[e]
 exact .of_eq rfl
end My
def PySem.W.Fast.tw962807653726293906:PySem.Program:=PySem.Challenge.pw_pactboards_k64_hands_and_boards_exchange
theorem PySem.W.Fast.te962807653726293906:PySem.Challenge.pw_pactboards_k64_hands_and_boards_exchange=PySem.W.Fast.tw962807653726293906:=rfl
namespace PySem.W.Fast
def tw16639731881520119628:=0
def tw12957334863851746650:=0
def tw6032849892189278001:=0
def tw1864923849190534894:=0
def tw3830999912068152477:=0
def tw4360394895635206446:=0
def tw17705285744992080821:=0
def tw2807275685790160144:=0
def tw7133562749149646328:=0
def tw4212729835318490088:=0
def tw9158094868132497229:=0
def tw13077701776361563996:=0
def tw2870553646373651564:=0
def tw42728836717299952:=0
def tw7457975726309974615:=0
def tw3372527656831439806:=0
def tw5118213658187712734:=0
def tw2701191922771385068:=0
def tw12307965762401720882:=0
def tw15023504796863776515:=0
def tw7545955698937095913:=0
def tw8406220113060048364:=0
def tw1665601104501129092:=0
def tw16553277803462703136:=0
def tw14070942828926223096:=0
def tw9832507526986520769:=0
def tw8324480122174442337:=0
def tw13114323013703396463:=0
def tw6421547713480262746:=0
def tw11891005581759718038:=0
def tw15410911178183481313:=0
def tw8237520898477894631:=0
def tw17312785161130155066:=0
def tw81527128555792640:=0
def tw14052165344769365439:=0
def tw9487405710126551848:=0
def tw4924888559786583494:=0
def tw16976000681770007984:=0
def tw10335952991779520122:=0
def tw16703322732205529412:=0
def tw11579092899499010962:=0
def tw12231522270722189598:=0
def tw9390932133326602910:=0
def tw13341376349175901051:=0
def tw6163218966960932263:=0
def tw15765440261004857729:=0
def tw11200758337978333633:=0
def tw16279499201706764265:=0
def tw12762787224242742166:=0
def tw14284899573249370439:=0
def tw15470950049266961890:=0
def tw6081879886369787687:=0
def tw14115098230831419987:=0
def tw14611315114434617837:=0
def tw1884389019985478095:=0
def tw3642008570685572225:=0
def tw16138445638944224280:=0
def tw12753507788476784924:=0
def tw12704705231495081432:=0
def tw4362436182097191153:=0
def tw9004559400553903424:=0
def tw16736110786315458982:=0
def tw7199722973193578439:=0
def tw17147845643881401447:=0
def tw2675117773093164898:=0
def tw15469189494774608121:=0
def tw5233947887304663107:=0
def tw16529002818631282137:=0
def tw6811297086337454285:=0
def tw15488244456594009816:=0
def tw9365913685834714395:=0
def tw6619880490440882384:=0
def tw13374371140000658225:=0
def tw11277844750362928865:=0
def tw3487346705177466074:=0
def tw15229317913178690530:=0
def tw9176363307227705640:=0
def tw6445298629291466683:=0
def tw15172731919614280608:=0
def tw16361752056382152481:=0
def tw17524019927822107076:=0
def tw4357599121276575314:=0
def tw608249777626830306:=0
def tw11330225035487669195:=0
def tw7660766092941335357:=0
def tw5817664851377454352:=0
def tw12907132170680742506:=0
def tw9770656699354546425:=0
def tw7806556914997979256:=0
def tw7742325384693375319:=0
def tw16037350941268952931:=0
def tw7426057589771382732:=0
def tw11152159700632133521:=0
def tw12351791586623161906:=0
def tw8309059539968174071:=0
def tw5903088576592155721:=0
def tw3088192725813404089:=0
def tw16187189117575815317:=0
def tw809345275845655324:=0
def tw5220565205092794765:=0
end PySem.W.Fast
open PySem PySem.W PyProof.Rows
set_option maxHeartbeats 0 in
theorem PySem.Challenge.cw_pactboards_k64_hands_and_boards_exchange_holds : PySem.Challenge.rw_pactboards_k64_hands_and_boards_exchange.Holds := by
 w_on;o_law;k_head;(case hw=>w_witness2)
 k_fill
 refine My.walk (l:=PySem.Challenge.rw_pactboards_k64_hands_and_boards_exchange) rfl rfl rfl (fun w h Y=>PySem.W.kIn_of Y) ?F
 case F=>
  intro w mg h KX G
  refine' My.Txt.mk (MM.fnat KX G ?a0 ?l0 ?c0 ?k0) (MM.fnat KX G ?a1 ?l1 ?c1 ?k1) (MM.fnat KX G ?a2 ?l2 ?c2 ?k2) (MM.fnat KX G ?a3 ?l3 ?c3 ?k3) (MM.fnat KX G ?a4 ?l4 ?c4 ?k4) (MM.fnat KX G ?a5 ?l5 ?c5 ?k5) (MM.fnat KX G ?a6 ?l6 ?c6 ?k6) (MM.fnat KX G ?a7 ?l7 ?c7 ?k7) (MM.fnat KX G ?a8 ?l8 ?c8 ?k8) (MM.fnat KX G ?a9 ?l9 ?c9 ?k9) (MM.fnat KX G ?a10 ?l10 ?c10 ?k10) (MM.fnat KX G ?a11 ?l11 ?c11 ?k11) (MM.fnat KX G ?a12 ?l12 ?c12 ?k12) (MM.fnat KX G ?a13 ?l13 ?c13 ?k13) (MM.fnat KX G ?a14 ?l14 ?c14 ?k14) (MM.fnat KX G ?a15 ?l15 ?c15 ?k15) (MM.fnat KX G ?a16 ?l16 ?c16 ?k16) (MM.fnat KX G ?a17 ?l17 ?c17 ?k17) (MM.fnat KX G ?a18 ?l18 ?c18 ?k18) (MM.fnat KX G ?a19 ?l19 ?c19 ?k19) (MM.fnat KX G ?a20 ?l20 ?c20 ?k20) (MM.fnat KX G ?a21 ?l21 ?c21 ?k21) (MM.fnat KX G ?a22 ?l22 ?c22 ?k22) (MM.fnat KX G ?a23 ?l23 ?c23 ?k23) (MM.fnat KX G ?a24 ?l24 ?c24 ?k24) (MM.fnat KX G ?a25 ?l25 ?c25 ?k25) (MM.fnat KX G ?a26 ?l26 ?c26 ?k26) (MM.fnat KX G ?a27 ?l27 ?c27 ?k27) (MM.fnat KX G ?a28 ?l28 ?c28 ?k28) (MM.fnat KX G ?a29 ?l29 ?c29 ?k29) (MM.fnat KX G ?a30 ?l30 ?c30 ?k30) (MM.fnat KX G ?a31 ?l31 ?c31 ?k31) (MM.z_cons (PySem.W.mg_none_of KX G ?z0) (MM.z_cons (PySem.W.mg_none_of KX G ?z1) (MM.z_cons (PySem.W.mg_none_of KX G ?z2) (MM.z_cons (PySem.W.mg_none_of KX G ?z3) (MM.z_cons (PySem.W.mg_none_of KX G ?z4) (MM.z_cons (PySem.W.mg_none_of KX G ?z5) (MM.z_cons (PySem.W.mg_none_of KX G ?z6) (MM.z_cons (PySem.W.mg_none_of KX G ?z7) (MM.z_cons (PySem.W.mg_none_of KX G ?z8) (MM.z_cons (PySem.W.mg_none_of KX G ?z9) MM.z_nil)))))))))) MM.c_nil
  case a0 | l0 | c0 | k0 | a1 | l1 | c1 | k1 | a2 | l2 | c2 | k2 | a3 | l3 | c3 | k3 | a4 | l4 | c4 | k4 | a5 | l5 | c5 | k5 | a6 | l6 | c6 | k6 | a7 | l7 | c7 | k7 | a8 | l8 | c8 | k8 | a9 | l9 | c9 | k9 | a10 | l10 | c10 | k10 | a11 | l11 | c11 | k11 | a12 | l12 | c12 | k12 | a13 | l13 | c13 | k13 | a14 | l14 | c14 | k14 | a15 | l15 | c15 | k15 | a16 | l16 | c16 | k16 | a17 | l17 | c17 | k17 | a18 | l18 | c18 | k18 | a19 | l19 | c19 | k19 | a20 | l20 | c20 | k20 | a21 | l21 | c21 | k21 | a22 | l22 | c22 | k22 | a23 | l23 | c23 | k23 | a24 | l24 | c24 | k24 | a25 | l25 | c25 | k25 | a26 | l26 | c26 | k26 | a27 | l27 | c27 | k27 | a28 | l28 | c28 | k28 | a29 | l29 | c29 | k29 | a30 | l30 | c30 | k30 | a31 | l31 | c31 | k31 | z0 | z1 | z2 | z3 | z4 | z5 | z6 | z7 | z8 | z9=>k_is