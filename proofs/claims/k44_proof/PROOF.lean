import PyProof.Rows.All
import Wide.All
import OpenK.AllK
import Wide.FinOn
import Lean
import PyProof.EqAt
import PyProof.EqKinds
import PyProof.TupleCall
import PySem.Str
import PyProof.NeKinds
import PyProof.IsRules
import PyProof.Rows.StrRev
import KE.KSortTup
import PyProof.Rows.ZipGen
import KE.KRevIter
import KE.KDictList
import KE.KIntText
import PyProof.Rows.StrNews
import PyProof.Rows.StrJoin2
import PyProof.Rows.FStr
import PyProof.StrWalks
import PyProof.StrLawsTight
import KE.KSort
import PyProof.Rows.SetFrom
import KE.KDictSum
import PyProof.ExcInit
import PyProof.ExcClass3
import PyProof.ExcBaseAll.ValueError
import PyProof.ExcAttrAll.ValueError
import PyProof.ExcArgsOwn
import PySem.SetOps
import PyProof.TupleOfGen
import PyProof.MinMaxWalk
import PyProof.FactsAll.tuple_2
import KE.KMinBuiltin
import PyProof.Rows.CallKwBuiltin
import PySem.Challenge.RW_pactboards_k44_twins
local macro_rules | `(tactic| nofun)=>`(tactic| decide +kernel)
local macro_rules | `(tactic| ac_nf)=>`(tactic| first | lia | omega)
set_option genSizeOf false
noncomputable section
set_option Elab.async false
set_option linter.all false
set_option maxRecDepth 100000
set_option maxHeartbeats 4000000
namespace L2
open PySem PySem.Spec PyProof.Rows
abbrev Key:=Sum Int Str
def keyIs:Key->Value->Bool
 | .inl k,v=>Value.isInt k v
 | .inr x,v=>Value.isStrOf x v
def keyH (w:World):Key->Int
 | .inl k=>hashInt k
 | .inr x=>hashStr w x
theorem keyIs_shape:∀ {k:Key}{v:Value},keyIs k v=true->(∃ i t,k=Sum.inl i/\v=Value.int i t)\/(∃ x t,k=Sum.inr x/\v=Value.str x t)
 | .inl i,v,h=>by
  obtain⟨t,e⟩:=Value.isInt_shape (k:=i) (v:=v) h
  exact .inl ⟨i,t,rfl,e⟩
 | .inr x,v,h=>by
  obtain⟨t,e⟩:=Value.isStrOf_shape (x:=x) (v:=v) h
  exact .inr ⟨x,t,rfl,e⟩
theorem Qaa (i:Int) (t:Tok):keyIs (.inl i) (.int i t)=true:=by simp[keyIs,Value.isInt]
theorem Qab (x:Str) (t:Tok):keyIs (.inr x) (.str x t)=true:=by simp[keyIs,Value.isStrOf]
theorem Qac (a b:Int):decide ((Sum.inl a:Key)=Sum.inl b)=(a == b):=by
 by_cases e:a=b
 ·subst e;simp
 ·have h:¬ (Sum.inl a:Key)=Sum.inl b:=fun q=>e (Sum.inl.inj q)
  rw[decide_eq_false h]
  exact (beq_eq_false_iff_ne.mpr e).symm
theorem Qad (a b:Str):decide ((Sum.inr a:Key)=Sum.inr b)=decide (a=b):=by
 by_cases e:a=b
 ·subst e;simp
 ·have h:¬ (Sum.inr a:Key)=Sum.inr b:=fun q=>e (Sum.inr.inj q)
  rw[decide_eq_false h,decide_eq_false e]
theorem Qae (a:Int) (b:Str):decide ((Sum.inl a:Key)=Sum.inr b)=false:=decide_eq_false (fun q=>nomatch q)
theorem Qaf (a:Str) (b:Int):decide ((Sum.inr a:Key)=Sum.inl b)=false:=decide_eq_false (fun q=>nomatch q)
def mixKind (prog:Program) (w:World):PySem.KeyKind prog w Key where
 is:=keyIs
 hash:=keyH w
 inj:=fun v a b ha hb=>by
  rcases keyIs_shape ha with ⟨i,t,rfl,rfl⟩ | ⟨x,t,rfl,rfl⟩
  ·rcases keyIs_shape hb with ⟨j,u,rfl,e⟩ | ⟨y,u,rfl,e⟩
   ·injection e with e1 _;rw[e1]
   ·exact nomatch e
  ·rcases keyIs_shape hb with ⟨j,u,rfl,e⟩ | ⟨y,u,rfl,e⟩
   ·exact nomatch e
   ·injection e with e1 _;rw[e1]
 byValue:=fun k v h=>by
  rcases keyIs_shape h with ⟨i,t,rfl,rfl⟩ | ⟨x,t,rfl,rfl⟩<;>rfl
 pyHash:=fun hv h=>by
  rcases keyIs_shape hv with ⟨i,t,rfl,rfl⟩ | ⟨x,t,rfl,rfl⟩
  ·exact wpAny_pyHash_int h
  ·exact wpAny_pyHash_str h
 eqBool:=fun hu hv h=>by
  rcases keyIs_shape hu with ⟨i,t,rfl,rfl⟩ | ⟨x,t,rfl,rfl⟩
  ·rcases keyIs_shape hv with ⟨j,u,rfl,rfl⟩ | ⟨y,u,rfl,rfl⟩
   ·rw[Qac]at h;exact wpAny_eqBool_int h
   ·rw[Qae]at h;exact SeqAt.EqAt.int_str i t y u _ _ _ _ h
  ·rcases keyIs_shape hv with ⟨j,u,rfl,rfl⟩ | ⟨y,u,rfl,rfl⟩
   ·rw[Qaf]at h;exact SeqAt.EqAt.str_int x t j u _ _ _ _ h
   ·rw[Qad]at h;exact wpAny_eqBool_str h
 «strs»:=fun k x t v h=>by
  rcases keyIs_shape h with ⟨i,u,rfl,e⟩ | ⟨y,u,rfl,e⟩
  ·exact nomatch e
  ·injection e with e1 _
   subst e1
   cases v<;>rfl
theorem Qag (prog:Program) (w:World) (i:Int) (t:Tok):(mixKind prog w).is (.inl i) (.int i t)=true:=Qaa i t
theorem Qah (prog:Program) (w:World) (x:Str) (t:Tok):(mixKind prog w).is (.inr x) (.str x t)=true:=Qab x t
inductive V where
 | non | bl (b:Bool) | int (i:Int) | str (x:Str) | byt (b:Array UInt8) | flt (b:UInt64) | ref (a:Addr) | ty (n:String)
 deriving DecidableEq
def RelV:V->Value->Prop
 | .non,u=>u=Value.none
 | .bl b,u=>u=Value.bool b
 | .int i,u=>∃ t,u=Value.int i t
 | .str x,u=>∃ t,u=Value.str x t
 | .byt b,u=>∃ t,u=Value.bytes b t
 | .flt b,u=>∃ t,u=Value.float b t
 | .ref a,u=>u=Value.ref a
 | .ty n,u=>u=Value.type n
abbrev Vals:List V->List Value->Prop:=Paired RelV
theorem Vals.length {xs:List V}{us:List Value} (r:Vals xs us):xs.length=us.length:=Paired.length r
theorem Vals.get:∀ {xs:List V}{us:List Value}{i:Nat}{x:V},Vals xs us->xs[i]?=some x->∃ u,us[i]?=some u/\RelV x u
 | _,_,_,_,.nil,e=>by simp at e
 | _,_,0,_,.cons r _,e=>by simp at e;subst e;exact⟨_,rfl,r⟩
 | _,_,i + 1,x,.cons _ t,e=>by
  obtain⟨u,h1,h2⟩:=Vals.get (i:=i) (x:=x) t (by simpa using e)
  exact⟨u,by simpa using h1,h2⟩
theorem Vals.set {x:V}{u:Value} (r:RelV x u):∀ {xs:List V}{us:List Value} (i:Nat),Vals xs us->Vals (xs.set i x) (us.set i u)
 | _,_,_,.nil=>.nil
 | _,_,0,.cons _ t=>.cons r t
 | _,_,i + 1,.cons q t=>.cons q (Vals.set r i t)
theorem Vals.append:∀ {xs ys:List V}{us ws:List Value},Vals xs us->Vals ys ws->Vals (xs++ys) (us++ws)
 | _,_,_,_,.nil,s=>s
 | _,_,_,_,.cons r t,s=>.cons r (Vals.append t s)
theorem Vals.take:∀ {xs:List V}{us:List Value} (n:Nat),Vals xs us->Vals (xs.take n) (us.take n)
 | _,_,0,_=>.nil
 | _,_,_ + 1,.nil=>.nil
 | _,_,n + 1,.cons r t=>.cons r (Vals.take n t)
theorem Vals.drop:∀ {xs:List V}{us:List Value} (n:Nat),Vals xs us->Vals (xs.drop n) (us.drop n)
 | _,_,0,r=>r
 | _,_,_ + 1,.nil=>.nil
 | _,_,n + 1,.cons _ t=>Vals.drop n t
def RelO:Option V->Option Value->Prop
 | some v,some u=>RelV v u
 | none,none=>True
 | _,_=>False
def KV {κ:Type}:List (κ × V)->List (κ × Value)->Prop:=Paired fun (p:κ × V) (q:κ × Value)=>p.1=q.1/\RelV p.2 q.2
def kV:Key->V
 | .inl i=>.int i
 | .inr x=>.str x
inductive HO where
 | lst (xs:List V)
 | tup (xs:List V)
 | dK (kvs:List (Key × V)) | dT (kvs:List (List Key × V))
 | set (S:Int->Bool) (n:Nat)
 | ins (C dx:Addr) (fs:List (Str × V))
 | own (x:Addr)
 | xd (fs:List (Str × V))
 | met (f x:Addr)
 | rng (lo hi:Int)
 | frz (o:Obj) (u:HO)
 | tbl (ps:Array Value)
 | ext (φ:Heap->Prop)
abbrev Hp:=Addr->Option HO
def upd (H:Hp) (a:Addr) (o:HO):Hp:=fun b=>if b=a then some o else H b
theorem Qai {H:Hp}{a:Addr}{o:HO}:upd H a o a=some o:=by unfold upd;rw[if_pos rfl]
theorem Qaj {H:Hp}{a b:Addr}{o:HO} (h:b≠a):upd H a o b=H b:=by unfold upd;rw[if_neg h]
theorem Qak {H:Hp}{a b:Addr}{o u:HO} (h:H a=some o) (h':H b=some u) (d:o≠u):a≠b:=by
 intro e;subst e;rw[h]at h';exact d (Option.some.inj h')
theorem Qal {H:Hp}{a b:Addr}{o:HO} (h:H a=some o) (h':H b=none):a≠b:=by
 intro e;subst e;rw[h]at h';cases h'
section
variable (P:Program) (w:World)
def ObjOk (H:Hp) (h:Heap) (a:Addr):HO->Prop
 | .lst xs=>xs.length<=sizeLine/\∃ (its:List Value) (n:Nat),Vals xs its/\h.get? a=some { cls:=.type "list",data:=.seq its.toArray n }
 | .tup xs=>xs.length<=sizeLine/\∃ its:List Value,Vals xs its/\IsTup h a its.toArray
 | .dK kvs=>kvs.length<=sizeLine/\(a == sysModules)=false/\∃ vs,KV kvs vs/\h.DictOf (mixKind P w) a vs
 | .dT kvs => kvs.length <= sizeLine /\ (a == sysModules) = false /\ ∃ xs : List (List Key × Addr × Value),
   Paired (fun (p:List Key × V) (q:List Key × Addr × Value)=>p.1=q.1/\H q.2.1=some (.tup (p.1.map kV))/\RelV p.2 q.2.2) kvs xs /\
   ∃ o es ep,h.get? a=some o/\o.ExactDict/\o.data=.dict es ep/\es.toList=xs.map (entryOfKey (tupleKind (mixKind P w)))/\(xs.map (·.1)).Nodup
 | .set S n=>h.SetOf (intKind P w) a S n
 | .ins C dx fs => H dx = some (.own a) /\ fs.length <= 1000 /\ dx ≠ a /\ h.get? a = some (PySem.W.instObj C dx) /\
   ∃ mA,h.Ns1 dx mA/\(∀ f,RelO (fs.lookup f) (mA f))/\PySem.Within mA (fs.map (·.1))
 | .own _=>∃ o,h.get? a=some o
 | .xd fs=>∃ mA,h.Ns1 a mA/\∀ f,RelO (fs.lookup f) (mA f)
 | .rng lo hi=>∃ t u v,h.get? a=some { cls:=.type "range",data:=.fields #[.int lo t,.int hi u,.int 1 v] }
 | .frz o u=>h.get? a=some o/\ObjOk H h a u
 | .tbl ps=>h.get? a=some { cls:=.none,data:=.fields ps }
 | .met f x=>h.get? a=some (PySem.W.methodObj (.ref f) (.ref x))
 | .ext φ=>φ h/\(∃ o,h.get? a=some o)/\∀ h1 h2:Heap,φ h1->(∀ o,h1.get? a=some o->h2.get? a=some o)->φ h2
def HOk (H:Hp) (h:Heap):Prop:=∀ a o,H a=some o->ObjOk P w H h a o
end
section
variable {P:Program}{w:World}{H H':Hp}{h h':Heap}{a:Addr}{o:HO}
theorem ObjOk.lt (x:ObjOk P w H h a o):a < h.objs.size:=by
 cases o with
 | lst xs=>obtain⟨_,_,_,_,e⟩:=x;exact Heap.lt_size e
 | tup xs=>obtain⟨_,_,_,p⟩:=x;exact p.lt
 | dK kvs=>obtain⟨_,_,_,_,o,_,_,e,_⟩:=x;exact Heap.lt_size e
 | dT kvs=>obtain⟨_,_,_,_,o,_,_,e,_⟩:=x;exact Heap.lt_size e
 | set S n=>obtain⟨o,_,_,_,e,_⟩:=x;exact Heap.lt_size e
 | ins C dx fs=>obtain⟨_,_,_,e,_⟩:=x;exact Heap.lt_size e
 | own y=>obtain⟨_,e⟩:=x;exact Heap.lt_size e
 | xd fs=>obtain⟨_,⟨_,_,_,e,_⟩,_⟩:=x;exact Heap.lt_size e
 | rng lo hi=>obtain⟨_,_,_,e⟩:=x;exact Heap.lt_size e
 | frz ob u=>obtain⟨e,_⟩:=x;exact Heap.lt_size e
 | tbl ps=>exact Heap.lt_size (show h.get? a=some _ from x)
 | met f y=>exact Heap.lt_size (show h.get? a=some _ from x)
 | ext φ=>obtain⟨_,⟨_,e⟩,_⟩:=x;exact Heap.lt_size e
theorem Paired.mapP {α β:Type}{F G:α->β->Prop}:∀ {l₁:List α}{l₂:List β},Paired F l₁ l₂->(∀ a b,F a b->G a b)->Paired G l₁ l₂
 | _,_,.nil,_=>.nil
 | _,_,.cons r t,f=>.cons (f _ _ r) (Paired.mapP t f)
theorem ObjOk.stay (x : ObjOk P w H h a o) (k : ∀ b u, (b = a \/ H b = some (.own a)) -> h.get? b = some u -> h'.get? b = some u)
  (ho:∀ b,H b=some (.own a)->H' b=some (.own a)) (ht:∀ b xs,H b=some (.tup xs)->H' b=some (.tup xs)):ObjOk P w H' h' a o:=by
 induction o with
 | lst xs=>obtain⟨z,its,n,r,e⟩:=x;exact⟨z,its,n,r,k _ _ (.inl rfl) e⟩
 | tup xs=>obtain⟨z,its,r,ob,e,c⟩:=x;exact⟨z,its,r,ob,k _ _ (.inl rfl) e,c⟩
 | dK kvs=>obtain⟨z,y,vs,r,ob,es,ep,e,c⟩:=x;exact⟨z,y,vs,r,ob,es,ep,k _ _ (.inl rfl) e,c⟩
 | dT kvs=>
  obtain⟨z,y,xs,r,ob,es,ep,e,c⟩:=x
  exact⟨z,y,xs,Paired.mapP r fun p q z=>⟨z.1,ht _ _ z.2.1,z.2.2⟩,ob,es,ep,k _ _ (.inl rfl) e,c⟩
 | set S n=>obtain⟨ob,es,ep,t,e,c⟩:=x;exact⟨ob,es,ep,t,k _ _ (.inl rfl) e,c⟩
 | ins C dx fs=>
  obtain⟨d,z,ne,e,mA,⟨od,es,ep,e2,c⟩,r⟩:=x
  exact⟨ho _ d,z,ne,k _ _ (.inl rfl) e,mA,⟨od,es,ep,k _ _ (.inr d) e2,c⟩,r⟩
 | own y=>obtain⟨ob,e⟩:=x;exact⟨ob,k _ _ (.inl rfl) e⟩
 | xd fs=>obtain⟨mA,⟨od,es,ep,e,c⟩,r⟩:=x;exact⟨mA,⟨od,es,ep,k _ _ (.inl rfl) e,c⟩,r⟩
 | rng lo hi=>obtain⟨t,u,v,e⟩:=x;exact⟨t,u,v,k _ _ (.inl rfl) e⟩
 | frz ob u ih=>obtain⟨e,q⟩:=x;exact⟨k _ _ (.inl rfl) e,ih q⟩
 | tbl ps=>
  have e:h.get? a=some { cls:=.none,data:=.fields ps }:=x
  show h'.get? a=some { cls:=.none,data:=.fields ps }
  exact k a _ (.inl rfl) e
 | met f y=>
  have e:h.get? a=some (PySem.W.methodObj (.ref f) (.ref y)):=x
  show h'.get? a=some (PySem.W.methodObj (.ref f) (.ref y))
  exact k a _ (.inl rfl) e
 | ext φ=>obtain⟨p,⟨o,e⟩,st⟩:=x;exact⟨st _ _ p fun o q=>k _ _ (.inl rfl) q,⟨o,k _ _ (.inl rfl) e⟩,st⟩
theorem HOk.lt (x:HOk P w H h) (e:H a=some o):a < h.objs.size:=(x a o e).lt
theorem HOk.fresh (x:HOk P w H h) (e:h.objs.size<=a):H a=none:=by
 cases q:H a with
 | none=>rfl
 | some u=>exact absurd (Nat.lt_of_lt_of_le (x.lt q) e) (Nat.lt_irrefl _)
theorem HOk.kept (x:HOk P w H h) (k:∀ b u,h.get? b=some u->h'.get? b=some u):HOk P w H h':=fun a o e=>
 (x a o e).stay (fun b u _ q=>k b u q) (fun _ q=>q) fun _ _ q=>q
theorem HOk.laid (x:HOk P w H h) (k:∀ b u,h.get? b=some u->h'.get? b=some u) (hp:h.objs.size<=a) (new:ObjOk P w (upd H a o) h' a o):HOk P w (upd H a o) h':=fun b u e=>by
 have hn:=x.fresh hp
 by_cases hb:b=a
 ·subst hb;rw[Qai]at e;cases e;exact new
 ·rw[Qaj hb]at e
  exact (x b u e).stay (fun c v _ q=>k c v q) (fun c q=>by rw[Qaj (Qal q hn)];exact q) fun c xs q=>by rw[Qaj (Qal q hn)];exact q
end
def Rd (H:Hp) (a:Addr) (u:HO):Prop:=H a=some u\/∃ o,H a=some (.frz o u)
theorem Rd.ok {P:Program}{w:World}{H:Hp}{h:Heap}{a:Addr}{u:HO} (r:Rd H a u) (x:HOk P w H h):ObjOk P w H h a u:=by
 rcases r with r | ⟨o,r⟩
 ·exact x a u r
 ·obtain⟨_,q⟩:=x a _ r
  exact q
def Mut:Option HO->Prop
 | some (.lst _)=>True
 | some (.dK _)=>True
 | some (.dT _)=>True
 | some (.set _ _)=>True
 | some (.ins _ _ _)=>True
 | some (.ext _)=>True
 | _=>False
section
variable {P:Program}{w:World}{H:Hp}{h h':Heap}{x e:Addr}{o':HO}
theorem HOk.write (ok : HOk P w H h) (mu : Mut (H x)) (he : e = x \/ H e = some (.own x)) (k : ∀ b u, b ≠ e -> h.get? b = some u -> h'.get? b = some u) (heo : ∃ u, h'.get? e = some u)
  (new:ObjOk P w (upd H x o') h' x o'):HOk P w (upd H x o') h':=fun b u q=>by
 have nown:∀ c y,H c=some (.own y)->c≠x:=fun c y r z=>by subst z;rw[r]at mu;exact mu
 have ntup:∀ c xs,H c=some (.tup xs)->c≠x:=fun c xs r z=>by subst z;rw[r]at mu;exact mu
 by_cases hb:b=x
 ·subst hb;rw[Qai]at q;cases q;exact new
 ·rw[Qaj hb]at q
  by_cases hbe:b=e
  ·have q' : H b = some (.own x) := by
     rcases he with z | z
     ·exact absurd (hbe.trans z) hb
     ·rw[hbe];exact z
   rw[q]at q';cases q'
   obtain⟨v,hv⟩:=heo
   exact⟨v,by rw[hbe];exact hv⟩
  ·refine (ok b u q).stay (fun c v hc r=>k c v ?_ r) (fun c r=>by rw[Qaj (nown c b r)];exact r) fun c xs r=>by rw[Qaj (ntup c xs r)];exact r
   rcases hc with rfl | hc
   ·exact hbe
   ·rintro rfl
    rcases he with z | z
    ·exact nown c b hc z
    ·rw[hc]at z;cases z;exact hb rfl
end
structure Un (fs ex:List Addr) (H H':Hp) (h h':Heap):Prop where
 keep:∀ b o,h.get? b=some o->H b=none->b∉fs->b∉ex->h'.get? b=some o
 slot:∀ b o,h.get? b=some o->H b=none->b∈fs->b∉ex->∃ sl,h'.get? b=some { o with slots:=sl }
 free:∀ b o,h.get? b=some o->H b=none->b∉ex->H' b=none
 there:∀ b o,h.get? b=some o->b∉ex->∃ o',h'.get? b=some o'
 tups:∀ b xs,H b=some (.tup xs)->H' b=some (.tup xs)
 frzs:∀ b o u,H b=some (.frz o u)->H' b=some (.frz o u)
 tbls:∀ b ps,H b=some (.tbl ps)->∃ more,H' b=some (.tbl (ps++more))
section
variable {fs fs' ex ex':List Addr}{H H1 H2:Hp}{h h1 h2 h':Heap}{a x e:Addr}{o:HO}
theorem Un.any (u:Un fs ex H H1 h h1) {b:Addr}{ob:Obj} (q:h.get? b=some ob) (n:H b=none) (hx:b∉ex):∃ sl,h1.get? b=some { ob with slots:=sl }:=by
 by_cases hb:b∈fs
 ·exact u.slot b ob q n hb hx
 ·exact⟨ob.slots,u.keep b ob q n hb hx⟩
theorem Un.kept (k:∀ b u,h.get? b=some u->h'.get? b=some u):Un fs ex H H h h':=
 ⟨fun b ob q _ _ _=>k b ob q,fun b ob q _ _ _=>⟨ob.slots,k b ob q⟩,fun _ _ _ n _=>n,fun b ob q _=>⟨ob,k b ob q⟩,fun _ _ q=>q,fun _ _ _ q=>q,fun _ ps q=>⟨#[],by rw[q];simp⟩⟩
theorem Un.refl:Un fs ex H H h h:=Un.kept fun _ _ q=>q
theorem Un.laid (k:∀ b u,h.get? b=some u->h'.get? b=some u) (hp:h.objs.size<=a) (hn:H a=none):Un fs ex H (upd H a o) h h' where
 keep:=fun b u q _ _ _=>k b u q
 slot:=fun b u q _ _ _=>⟨u.slots,k b u q⟩
 free:=fun b u q n _=>by rw[Qaj (Nat.ne_of_lt (Nat.lt_of_lt_of_le (Heap.lt_size q) hp))];exact n
 there:=fun b u q _=>⟨u,k b u q⟩
 tups:=fun b xs q=>by rw[Qaj (Qal q hn)];exact q
 frzs:=fun b u xs q=>by rw[Qaj (Qal q hn)];exact q
 tbls:=fun b ps q=>⟨#[],by rw[Qaj (Qal q hn),q];simp⟩
theorem Un.write (mu:Mut (H x)) (he:e=x\/H e=some (.own x)) (k:∀ b u,b≠e->h.get? b=some u->h'.get? b=some u) (heo:∃ u,h'.get? e=some u):Un fs ex H (upd H x o) h h':=by
 have hx:∀ b,H b=none->b≠x:=fun b n z=>by subst z;rw[n]at mu;exact mu
 have hb:∀ b,H b=none->b≠e:=fun b n z=>by
  subst z
  rcases he with r | r
  ·exact hx b n r
  ·rw[n]at r;cases r
 have hm:∀ b u,H b=some u->¬ Mut (some u)->b≠x:=fun b u q nm z=>by subst z;rw[q]at mu;exact nm mu
 refine⟨fun b u q n _ _=>k b u (hb b n) q,fun b u q n _ _=>⟨u.slots,k b u (hb b n) q⟩,fun b u q n _=>by rw[Qaj (hx b n)];exact n,fun b u q _=>?_,
  fun b xs q=>by rw[Qaj (hm b _ q fun z=>z)];exact q,fun b u xs q=>by rw[Qaj (hm b _ q fun z=>z)];exact q,fun b ps q=>⟨#[],by rw[Qaj (hm b _ q fun z=>z),q];simp⟩⟩
 by_cases hbe:b=e
 ·subst hbe;exact heo
 ·exact⟨u,k b u hbe q⟩
end
def trk (h:Heap) (H:Hp):List Addr:=(List.range h.objs.size).filter fun a=>(H a).isSome
def hidT (h:Heap) (H:Hp):Heap:=PySem.W.hideAll h (trk h H)
theorem Qam (h:Heap) (H:Hp):(hidT h H).objs.size=h.objs.size:=PySem.W.hideAll_size _ _
theorem Qan {h:Heap}{H:Hp}{b:Addr}{o:Obj} (e:h.get? b=some o) (n:H b=none):(hidT h H).get? b=some o:=
 PySem.W.hideAll_get _ e fun hm=>by
  have q:(H b).isSome=true:=(List.mem_filter.mp hm).2
  rw[n]at q;simp at q
theorem Qao {h:Heap}{H:Hp}{b:Addr}{o:Obj} (e:(hidT h H).get? b=some o):h.get? b=some o/\H b=none:=by
 have e':h.get? b=some o:=PySem.W.of_hideAll (trk h H) e
 refine⟨e',?_⟩
 cases q:H b with
 | none=>rfl
 | some x=>
  have hm:b∈trk h H:=List.mem_filter.mpr ⟨List.mem_range.mpr (Heap.lt_size e'),by simp[q]⟩
  have z:(hidT h H).get? b=none:=PySem.W.hideAll_none (trk h H) hm
  rw[z]at e;cases e
def allNews (g h:Heap) (L:Addr):List (Addr × Obj):=(List.range h.objs.size).filterMap fun a=>if a=L\/(g.get? a).isSome=true then none else (h.get? a).map fun o=>(a,o)
theorem Qap {g h:Heap}{L a:Addr}{o:Obj} (h1:a≠L) (h2:g.get? a=none) (h3:h.get? a=some o):(a,o)∈allNews g h L:=
 List.mem_filterMap.mpr ⟨a,List.mem_range.mpr (Heap.lt_size h3),by simp[h1,h2,h3]⟩
theorem Qaq {g h:Heap}{L:Addr}{p:Addr × Obj} (hp:p∈allNews g h L):p.1≠L/\g.get? p.1=none/\h.get? p.1=some p.2:=by
 obtain⟨b,_,e⟩:=List.mem_filterMap.mp hp
 split at e
 ·cases e
 ·rename_i hn
  cases q:h.get? b with
  | none=>rw[q]at e;simp at e
  | some u=>
   rw[q]at e
   simp only[Option.map_some,Option.some.injEq]at e
   subst e
   refine⟨fun z=>hn (.inl z),?_,q⟩
   show g.get? b=none
   cases r:g.get? b with
   | none=>rfl
   | some v=>exact (hn (.inr (by simp[r]))).elim
def rest (g h:Heap) (L d:Addr):List (Addr × Obj):=(allNews g h L).filter fun p=>decide (p.1≠d)
theorem Qar {g h:Heap}{L:Addr}:News g L h (allNews g h L):=fun p hp=>let ⟨a,b,c⟩:=Qaq hp;⟨c,a,b⟩
structure Mod (K:PySem.W.Frag) (mg:Str->Option Value) (base:Heap):Prop where
 kin:K.In base
 glob:base.Ns mainGlobals mg
 blt:∃ mb,base.Ns builtinsNs mb/\∀ x:Str,x≠"__name__"->mb x=bootBuiltins x
 nolimit:base.NoLimit
structure Cx where
 prog:Program
 w:World
 K:PySem.W.Frag
 mg:Str->Option Value
 base:Heap
 A:Around
 N:List Str
 s₀:Shared
 H₀:Hp
 env:Env
 outer:List Env
 stack:List Env
 ex:List Addr
 fn:Str->Bool
 calm:Bool
 pn:List (Addr × Obj)
 xe:Value->Shared->Prop
def frs (l:List Env):List Addr:=l.filterMap (·.frame)
abbrev Cx.fs (X:Cx):List Addr:=frs X.outer
def Vis (sc:Scope) (x:Str):Prop:=sc.names.lookup x=some .local\/sc.names.lookup x=some .cell\/sc.names.lookup x=some .free
def Loc (sc:Scope) (x:Str):Prop:=sc.names.lookup x=some .local\/sc.names.lookup x=some .cell
def Look (env:Env) (h:Heap) (m:Str->Option Value) (x:Str) (u:Value):Prop:=
 (env.kindOf x=some .local/\m x=some u)\/((env.kindOf x=some .cell\/env.kindOf x=some .free)/\∃ c,env.cells.lookup x=some c/\h.IsCell c (some u))
structure Cx.Ok (X:Cx):Prop where
 mod:Mod X.K X.mg X.base
 kind:X.env.scope.kind=.function
 glob:X.env.globals=mainGlobals
 blt:X.env.builtins=builtinsNs
 above:X.s₀.heap.objs.size<=X.env.locals
 inj:∀ x y c,X.env.cells.lookup x=some c->X.env.cells.lookup y=some c->x=y
 has:∀ x,(X.env.kindOf x=some .cell\/X.env.kindOf x=some .free)->∃ c,X.env.cells.lookup x=some c
 cab:∀ x c,X.fn x=true->X.env.cells.lookup x=some c->X.s₀.heap.objs.size<=c
 hd:X.calm=true->X.A.handled=none
 frames:X.A.frames=some X.stack
 stk:X.stack=X.outer\/(X.stack=X.env::X.outer/\X.env.frame=some X.env.locals)
 exf:∀ b∈X.ex,b≠X.env.locals/\∀ x c,X.env.cells.lookup x=some c->c≠b
 bs:∀ b o,X.base.get? b=some o->X.s₀.heap.get? b=some o/\X.H₀ b=none
 bsz:X.base.objs.size<=X.s₀.heap.objs.size
 noex:∀ b o,X.base.get? b=some o->b∉X.ex
 exfs:∀ b∈X.ex,b∉X.fs
 funs:X.s₀.heap.FunFrames X.base X.outer
 frf:∀ b∈X.fs,X.H₀ b=none
structure Inv (X:Cx) (pins:List (Addr × Obj)) (σ:List (Option V)) (H:Hp) (s:Shared):Prop where
 ok:X.Ok
 os:s.os=X.s₀.os
 bare:AllBare s.gens
 base:Un X.fs X.ex X.H₀ H X.s₀.heap s.heap
 loc:∃ m,s.heap.Ns X.env.locals m/\∀ (i:Nat) (x:Str) (v:V),X.N[i]?=some x->σ[i]?=some (some v)->Vis X.env.scope x->∃ u,RelV v u/\Look X.env s.heap m x u
 cell:∀ x c,X.env.cells.lookup x=some c->∃ v,s.heap.IsCell c v
 free:H X.env.locals=none
 freeC:∀ x c,X.env.cells.lookup x=some c->H c=none
 pin:∀ p∈X.pn++pins,s.heap.get? p.1=some p.2/\H p.1=none/\p.1≠X.env.locals/\p.1∉X.fs/\∀ v,p.2.data≠.cell v
 hok:HOk X.prog X.w H s.heap
 len:σ.length=X.N.length
section
variable {X:Cx}{pins:List (Addr × Obj)}{σ:List (Option V)}{H H':Hp}{s:Shared}{h':Heap}
theorem Cx.Ok.nofr (ok:X.Ok) {b:Addr}{o:Obj} (e:X.base.get? b=some o):b∉X.fs:=fun hb=>by
 have:=(ok.funs.mem hb).1
 rw[e]at this;cases this
theorem Inv.bs (I:Inv X pins σ H s):∀ b o,X.base.get? b=some o->s.heap.get? b=some o/\H b=none:=fun b o e=>
 ⟨I.base.keep b o (I.ok.bs b o e).1 (I.ok.bs b o e).2 (I.ok.nofr e) (I.ok.noex b o e),I.base.free b o (I.ok.bs b o e).1 (I.ok.bs b o e).2 (I.ok.noex b o e)⟩
theorem Inv.bk (I:Inv X pins σ H s):∀ b o,X.base.get? b=some o->s.heap.get? b=some o:=fun b o e=>(I.bs b o e).1
theorem Inv.mod (I:Inv X pins σ H s):Mod X.K X.mg X.base:=I.ok.mod
theorem Inv.kIn (I:Inv X pins σ H s):X.K.In s.heap:=I.ok.mod.kin.keeps I.bk
theorem Inv.fr (I:Inv X pins σ H s):∃ m,Fr X.base X.env.locals s.heap m:=
 let ⟨m,hn,_⟩:=I.loc
 ⟨m,hn,I.bk,Nat.le_trans I.ok.bsz I.ok.above⟩
theorem Inv.lt (I:Inv X pins σ H s):X.env.locals < s.heap.objs.size:=let ⟨_,hn,_⟩:=I.loc;hn.lt
theorem Inv.sz (I:Inv X pins σ H s):X.s₀.heap.objs.size<=s.heap.objs.size:=Nat.le_trans I.ok.above (Nat.le_of_lt I.lt)
theorem Inv.nofs (I:Inv X pins σ H s) {a:Addr} (h:s.heap.objs.size<=a):a∉X.fs:=fun hb=>by
 obtain⟨_,o,ho,_⟩:=I.ok.funs.mem hb
 exact absurd (Nat.lt_of_lt_of_le (Heap.lt_size ho) (Nat.le_trans I.sz h)) (Nat.lt_irrefl _)
theorem Inv.cne (I:Inv X pins σ H s):∀ x c,X.env.cells.lookup x=some c->c≠X.env.locals:=fun x c e z=>by
 obtain⟨v,o,ho,hd⟩:=I.cell x c e
 obtain⟨m,⟨o',es,ep,ho',hd',_⟩,_⟩:=I.loc
 rw[z,ho']at ho;cases ho;rw[hd']at hd;cases hd
theorem Inv.funs (I:Inv X pins σ H s):s.heap.FunFrames X.base X.outer:=by
 have all:∀ (l:List Env),(∀ b∈frs l,b∈X.fs)->X.s₀.heap.FunFrames X.base l->s.heap.FunFrames X.base l:=by
  intro l
  induction l with
  | nil=>intro _ _;trivial
  | cons env r ih=>
   intro hs hl
   obtain⟨hk,⟨L,o,hf,hn,ho,hd⟩,hr⟩:=hl
   have hL:L∈X.fs:=hs L (by unfold frs;rw[List.filterMap_cons,hf];exact List.mem_cons_self)
   obtain⟨sl,e⟩:=I.base.slot L o ho (I.ok.frf L hL) hL fun z=>I.ok.exfs L z hL
   exact⟨hk,⟨L,_,hf,hn,e,hd⟩,ih (fun b hb=>hs b (by unfold frs;rw[List.filterMap_cons,hf];exact List.mem_cons_of_mem _ hb)) hr⟩
 exact all X.outer (fun _ hb=>hb) I.ok.funs
theorem Inv.stack (I:Inv X pins σ H s):s.heap.FunFrames X.base X.stack:=by
 rcases I.ok.stk with e | ⟨e,hf⟩
 ·rw[e];exact I.funs
 ·rw[e]
  obtain⟨m,hn,_⟩:=I.loc
  refine .cons (by rw[I.ok.kind];decide) hf hn ?_ I.funs
  exact Heap.get?_none_of_le (Nat.le_trans I.ok.bsz I.ok.above)
theorem Inv.stkSub (I:Inv X pins σ H s):∀ b∈frs X.stack,b∈X.env.locals::X.fs:=fun b hb=>by
 rcases I.ok.stk with e | ⟨e,hf⟩
 ·rw[e]at hb;exact List.mem_cons_of_mem _ hb
 ·rw[e]at hb
  unfold frs at hb
  rw[List.filterMap_cons,hf]at hb
  exact hb
theorem Inv.stkFree (I:Inv X pins σ H s):∀ b∈frs X.stack,H b=none:=fun b hb=>by
 rcases List.mem_cons.mp (I.stkSub b hb) with e | hb
 ·rw[e];exact I.free
 ·obtain⟨_,o,ho,_⟩:=I.ok.funs.mem hb
  exact I.base.free b o ho (I.ok.frf b hb) fun z=>I.ok.exfs b z hb
theorem Inv.step {g' : Array GenState} {t' : Nat} {d' : Drawn} {ch : List Addr} (I : Inv X pins σ H s)
  (hch:∀ b∈ch,(b∈X.ex\/X.s₀.heap.objs.size<=b)/\b≠X.env.locals/\(∀ x c,X.env.cells.lookup x=some c->c≠b)/\∀ p∈X.pn++pins,p.1≠b)
  (keep:∀ b o,b≠X.env.locals->b∉X.fs->b∉ch->s.heap.get? b=some o->H b=none->h'.get? b=some o)
  (slot:∀ b o,b≠X.env.locals->b∈X.fs->b∉ch->s.heap.get? b=some o->H b=none->∃ sl,h'.get? b=some { o with slots:=sl }) (free:∀ b o,b∉ch->s.heap.get? b=some o->H b=none->H' b=none)
  (there:∀ b o,b∉ch->s.heap.get? b=some o->∃ o',h'.get? b=some o')
  (tups:∀ b xs,H b=some (.tup xs)->H' b=some (.tup xs)) (frzs:∀ b o u,H b=some (.frz o u)->H' b=some (.frz o u)) (tbls:∀ b ps,H b=some (.tbl ps)->∃ more,H' b=some (.tbl (ps++more)))
  (ns:∀ m,s.heap.Ns X.env.locals m->h'.Ns X.env.locals m) (hok:HOk X.prog X.w H' h') (hg:AllBare g'):
  Inv X pins σ H' { s with heap:=h',gens:=g',drawn:=d',toks:=t' }:=by
 have neL:∀ b o,X.s₀.heap.get? b=some o->b≠X.env.locals:=fun b o e=>Nat.ne_of_lt (Nat.lt_of_lt_of_le (Heap.lt_size e) I.ok.above)
 have neC:∀ b o,X.s₀.heap.get? b=some o->b∉X.ex->b∉ch:=fun b o e hx hb=>by
  rcases (hch b hb).1 with z | z
  ·exact hx z
  ·exact absurd (Nat.lt_of_lt_of_le (Heap.lt_size e) z) (Nat.lt_irrefl _)
 have cellK:∀ x c,X.env.cells.lookup x=some c->∀ v,s.heap.IsCell c v->h'.IsCell c v:=fun x c e v pq1=>by
  obtain⟨o,ho,hd⟩:=pq1
  have nch:c∉ch:=fun z=>(hch c z).2.2.1 x c e rfl
  by_cases hc:c∈X.fs
  ·obtain⟨sl,q⟩:=slot c o (I.cne x c e) hc nch ho (I.freeC x c e)
   exact⟨_,q,hd⟩
  ·exact⟨o,keep c o (I.cne x c e) hc nch ho (I.freeC x c e),hd⟩
 refine⟨I.ok,I.os,hg,⟨fun b o e n hb hx=>?_,fun b o e n hb hx=>?_,fun b o e n hx=>?_,fun b o e hx=>?_,fun b xs e=>tups b xs (I.base.tups b xs e),fun b o xs e=>frzs b o xs (I.base.frzs b o xs e),fun b ps e=>?_⟩,?_,fun x c e=>?_,?_,fun x c e=>?_,fun p hp=>?_,hok,I.len⟩
 ·exact keep b o (neL b o e) hb (neC b o e hx) (I.base.keep b o e n hb hx) (I.base.free b o e n hx)
 ·obtain⟨sl,e1⟩:=I.base.slot b o e n hb hx
  obtain⟨sl',e2⟩:=slot b _ (neL b o e) hb (neC b o e hx) e1 (I.base.free b o e n hx)
  exact⟨sl',e2⟩
 ·obtain⟨o',e1⟩:=I.base.there b o e hx
  exact free b o' (neC b o e hx) e1 (I.base.free b o e n hx)
 ·obtain⟨o',e1⟩:=I.base.there b o e hx
  exact there b o' (neC b o e hx) e1
 ·obtain⟨m1,e1⟩:=I.base.tbls b ps e
  obtain⟨m2,e2⟩:=tbls b _ e1
  exact⟨m1++m2,by rw[e2,Array.append_assoc]⟩
 ·obtain⟨m,hn,hl⟩:=I.loc
  refine⟨m,ns m hn,fun i x v e1 e2 e3=>?_⟩
  obtain⟨u,r,l⟩:=hl i x v e1 e2 e3
  refine⟨u,r,?_⟩
  rcases l with l | ⟨k,c,e,z⟩
  ·exact .inl l
  ·exact .inr ⟨k,c,e,cellK x c e _ z⟩
 ·obtain⟨v,z⟩:=I.cell x c e
  exact⟨v,cellK x c e v z⟩
 ·obtain⟨m,⟨o,_,_,ho,_⟩,_⟩:=I.loc
  exact free _ o (fun z=>(hch _ z).2.1 rfl) ho I.free
 ·obtain⟨v,o,ho,hd⟩:=I.cell x c e
  exact free c o (fun z=>(hch c z).2.2.1 x c e rfl) ho (I.freeC x c e)
 ·obtain⟨e,n,ne,nf,d⟩:=I.pin p hp
  have nch:p.1∉ch:=fun z=>(hch p.1 z).2.2.2 p hp rfl
  exact⟨keep p.1 p.2 ne nf nch e n,free p.1 p.2 nch e n,ne,nf,d⟩
theorem Inv.un {t':Nat} (I:Inv X pins σ H s) (u:Un X.fs [] H H' s.heap h') (hok:HOk X.prog X.w H' h'):Inv X pins σ H' { s with heap:=h',toks:=t' }:=by
 obtain⟨m,⟨o,es,ep,ho,r⟩,_⟩:=id I.loc
 obtain⟨sl,hL⟩:=u.any ho I.free (by simp)
 exact I.step (g':=s.gens) (d':=s.drawn) (ch:=[]) (fun _ z=>nomatch z) (fun b o _ hb _ e n=>u.keep b o e n hb (by simp)) (fun b o _ hb _ e n=>u.slot b o e n hb (by simp)) (fun b o _ e n=>u.free b o e n (by simp)) (fun b o _ e=>u.there b o e (by simp)) u.tups u.frzs u.tbls (fun m' hm=>by
  obtain⟨o',es',ep',ho',r'⟩:=hm
  rw[ho]at ho';cases ho'
  exact⟨_,es',ep',hL,r'⟩) hok I.bare
theorem Inv.call {g' : Array GenState} {t' : Nat} {d' : Drawn} {ch : List Addr} (I : Inv X pins σ H s) (u : Un (frs X.stack) ch H H' s.heap h') (hok : HOk X.prog X.w H' h') (hg : AllBare g')
  (hch:∀ b∈ch,(b∈X.ex\/X.s₀.heap.objs.size<=b)/\b≠X.env.locals/\(∀ x c,X.env.cells.lookup x=some c->c≠b)/\∀ p∈X.pn++pins,p.1≠b):
  Inv X pins σ H' { s with heap:=h',gens:=g',drawn:=d',toks:=t' }:=by
 obtain⟨m,⟨o,es,ep,ho,r⟩,_⟩:=id I.loc
 obtain⟨sl,hL⟩:=u.any ho I.free fun z=>(hch _ z).2.1 rfl
 exact I.step (ch:=ch) hch (fun b o hL hb hc e n=>u.keep b o e n (fun z=>(List.mem_cons.mp (I.stkSub b z)).elim hL hb) hc) (fun b o _ _ hc e n=>u.any e n hc) (fun b o hc e n=>u.free b o e n hc) (fun b o hc e=>u.there b o e hc) u.tups u.frzs u.tbls (fun m' hm=>by
  obtain⟨o',es',ep',ho',r'⟩:=hm
  rw[ho]at ho';cases ho'
  exact⟨_,es',ep',hL,r'⟩) hok hg
theorem Inv.turned {t' : Nat} {it : Addr} (I : Inv X pins σ H s) (k : ∀ b o, b ≠ it -> s.heap.get? b = some o -> h'.get? b = some o) (hn : H it = none) (hL : it ≠ X.env.locals)
  (h1:it∈X.ex\/X.s₀.heap.objs.size<=it) (h2:∀ x c,X.env.cells.lookup x=some c->c≠it) (h3:∀ p∈X.pn++pins,p.1≠it):Inv X pins σ H { s with heap:=h',toks:=t' }:=by
 have nit:∀ b u,H b=some u->b≠it:=fun b u e z=>by rw[z,hn]at e;cases e
 refine I.step (g':=s.gens) (d':=s.drawn) (ch:=[it]) (fun b hb=>?_) (fun b o _ _ hc e _=>k b o (fun z=>hc (by simp[z])) e) (fun b o _ _ hc e _=>⟨o.slots,k b o (fun z=>hc (by simp[z])) e⟩) (fun _ _ _ _ n=>n)
  (fun b o hc e=>⟨o,k b o (fun z=>hc (by simp[z])) e⟩) (fun _ _ e=>e) (fun _ _ _ e=>e) (fun b ps e=>⟨#[],by rw[e];simp⟩) (fun m hm=>?_) (fun b u e=>?_) I.bare
 ·have e:b=it:=by simpa using hb
  subst e
  exact⟨h1,hL,h2,h3⟩
 ·obtain⟨o,es,ep,ho,r⟩:=hm
  exact⟨o,es,ep,k _ o (Ne.symm hL) ho,r⟩
 ·refine (I.hok b u e).stay (fun c v hc q=>k c v ?_ q) (fun _ q=>q) fun _ _ q=>q
  rcases hc with z | z
  ·rw[z];exact nit b u e
  ·exact nit c _ z
theorem Inv.tok (I:Inv X pins σ H s) (t:Nat):Inv X pins σ H { s with toks:=t }:=I.un (h':=s.heap) (t':=t) Un.refl I.hok
theorem Inv.kept {t':Nat} (I:Inv X pins σ H s) (k:∀ b u,s.heap.get? b=some u->h'.get? b=some u):Inv X pins σ H { s with heap:=h',toks:=t' }:=I.un (Un.kept k) (I.hok.kept k)
theorem Inv.laid {a : Addr} {o : HO} {t' : Nat} (I : Inv X pins σ H s) (k : ∀ b u, s.heap.get? b = some u -> h'.get? b = some u) (hp : s.heap.objs.size <= a) (new : ObjOk X.prog X.w (upd H a o) h' a o) :
  Inv X pins σ (upd H a o) { s with heap:=h',toks:=t' }:=I.un (Un.laid k hp (I.hok.fresh hp)) (I.hok.laid k hp new)
theorem Inv.write {x e : Addr} {o : HO} {t' : Nat} (I : Inv X pins σ H s) (mu : Mut (H x)) (he : e = x \/ H e = some (.own x)) (k : ∀ b u, b ≠ e -> s.heap.get? b = some u -> h'.get? b = some u) (heo : ∃ u, h'.get? e = some u)
  (new:ObjOk X.prog X.w (upd H x o) h' x o):Inv X pins σ (upd H x o) { s with heap:=h',toks:=t' }:=I.un (Un.write mu he k heo) (I.hok.write mu he k heo new)
theorem Inv.pins_of {pins':List (Addr × Obj)} (I:Inv X pins σ H s) (h:∀ p∈pins',s.heap.get? p.1=some p.2/\H p.1=none/\p.1≠X.env.locals/\p.1∉X.fs/\∀ v,p.2.data≠.cell v):Inv X pins' σ H s:=
 ⟨I.ok,I.os,I.bare,I.base,I.loc,I.cell,I.free,I.freeC,fun p hp=>(List.mem_append.mp hp).elim (fun z=>I.pin p (List.mem_append_left _ z)) (h p),I.hok,I.len⟩
theorem Qas {N:List Str} (hN:N.Nodup) {i j:Nat}{x:Str} (a:N[i]?=some x) (b:N[j]?=some x):i=j:=by
 obtain⟨h1,e1⟩:=List.getElem?_eq_some_iff.mp a
 obtain⟨h2,e2⟩:=List.getElem?_eq_some_iff.mp b
 exact (List.getElem_inj hN).mp (e1.trans e2.symm)
theorem Qat {M : Model} {A : Around} {E : Value -> Shared -> Prop} {i : Nat} {x : Str} {v : V} {u : Value} {Q : Unit -> Shared -> Prop} (I : Inv X pins σ H s) (hN : X.N.Nodup) (hi : X.N[i]? = some x) (hx : Loc X.env.scope x) (r : RelV v u)
  (h:∀ s',Inv X pins (σ.set i (some v)) H s'->(∃ a,Heap.SameBut a s.heap s'.heap/\(a=X.env.locals\/X.env.cells.lookup x=some a))->Q () s') (hf:X.fn x=true\/X.env.scope.names.lookup x=some .local:=by first | exact .inl rfl | exact .inr rfl | assumption):wpAny M A (storeName X.env x u) Q E s:=by
 obtain⟨m,hn,hl⟩:=id I.loc
 have hcls:(X.env.scope.kind == .class || (X.env.scope.kind == .module && X.env.locals != X.env.globals))=false:=by rw[I.ok.kind];rfl
 have hiσ:i < σ.length:=by rw[I.len];exact (List.getElem?_eq_some_iff.mp hi).1
 have cne:=I.cne
 have tracked:∀ {a:Addr}{h':Heap},(∃ o,s.heap.get? a=some o/\H a=none)->Heap.SameBut a s.heap h'->HOk X.prog X.w H h':=fun {a h'} ha hs b ob e=>by
  obtain⟨_,_,hfree⟩:=ha
  refine (I.hok b ob e).stay (fun c w' hc q=>(hs.2 c ?_).trans q) (fun _ q=>q) fun _ _ q=>q
  rintro rfl
  rcases hc with rfl | hc
  ·rw[hfree]at e;cases e
  ·rw[hfree]at hc;cases hc
 rcases hx with hk | hk
 ·refine wpAny_storeName_local hk hn (fun h' hn' hs=>?_) hcls
  obtain⟨oL,_,_,hoL,_⟩:=id hn
  refine h _ ⟨I.ok,I.os,I.bare,⟨fun b o e n hb hx=>?_,fun b o e n hb hx=>?_,I.base.free,fun b o e hx=>?_,I.base.tups,I.base.frzs,I.base.tbls⟩,⟨_,hn',fun j y v' e1 e2 e3=>?_⟩,fun y c e=>?_,I.free,I.freeC,fun p hp=>?_,tracked ⟨oL,hoL,I.free⟩ hs,by simpa using I.len⟩ ⟨_,hs,.inl rfl⟩
  ·exact (hs.2 b (Nat.ne_of_lt (Nat.lt_of_lt_of_le (Heap.lt_size e) I.ok.above))).trans (I.base.keep b o e n hb hx)
  ·obtain⟨sl,e1⟩:=I.base.slot b o e n hb hx
   exact⟨sl,(hs.2 b (Nat.ne_of_lt (Nat.lt_of_lt_of_le (Heap.lt_size e) I.ok.above))).trans e1⟩
  ·obtain⟨o',e1⟩:=I.base.there b o e hx
   exact⟨o',(hs.2 b (Nat.ne_of_lt (Nat.lt_of_lt_of_le (Heap.lt_size e) I.ok.above))).trans e1⟩
  ·by_cases hj:j=i
   ·subst hj
    rw[hi]at e1;cases e1
    rw[List.getElem?_set_self hiσ]at e2
    cases e2
    exact⟨u,r,.inl ⟨hk,by simp⟩⟩
   ·rw[List.getElem?_set_ne (Ne.symm hj)]at e2
    obtain⟨u',r',q⟩:=hl j y v' e1 e2 e3
    refine⟨u',r',?_⟩
    rcases q with ⟨k,e⟩ | ⟨k,c,e,z⟩
    ·refine .inl ⟨k,?_⟩
     have:y≠x:=fun e=>hj (Qas hN e1 (e ▸ hi))
     simp[this,e]
    ·exact .inr ⟨k,c,e,z.sameBut hs (cne y c e)⟩
  ·obtain⟨w',z⟩:=I.cell y c e
   exact⟨w',z.sameBut hs (cne y c e)⟩
  ·obtain⟨e,n,ne,nf,d⟩:=I.pin p hp
   exact⟨(hs.2 p.1 ne).trans e,n,ne,nf,d⟩
 ·have hfn : X.fn x = true := by
    rcases hf with z | z
    ·exact z
    ·rw[z]at hk;cases hk
  obtain⟨c,hc⟩:=I.ok.has x (.inl hk)
  obtain⟨w',z⟩:=I.cell x c hc
  refine wpAny_storeName_cell I.ok.kind hk hc z (fun h' hc' hs=>?_)
  obtain⟨oc,hoc,hocd⟩:=id z
  refine h { s with heap:=h' } ⟨I.ok,I.os,I.bare,⟨fun b o e n hb hx=>?_,fun b o e n hb hx=>?_,I.base.free,fun b o e hx=>?_,I.base.tups,I.base.frzs,I.base.tbls⟩,⟨m,hn.sameBut hs (Ne.symm (cne x c hc)),fun j y v' e1 e2 e3=>?_⟩,fun y c' e=>?_,I.free,I.freeC,fun p hp=>?_,tracked ⟨oc,hoc,I.freeC x c hc⟩ hs,by simpa using I.len⟩ ⟨c,hs,.inr hc⟩
  ·exact (hs.2 b (Nat.ne_of_lt (Nat.lt_of_lt_of_le (Heap.lt_size e) (I.ok.cab x c hfn hc)))).trans (I.base.keep b o e n hb hx)
  ·obtain⟨sl,e1⟩:=I.base.slot b o e n hb hx
   exact⟨sl,(hs.2 b (Nat.ne_of_lt (Nat.lt_of_lt_of_le (Heap.lt_size e) (I.ok.cab x c hfn hc)))).trans e1⟩
  ·obtain⟨o',e1⟩:=I.base.there b o e hx
   exact⟨o',(hs.2 b (Nat.ne_of_lt (Nat.lt_of_lt_of_le (Heap.lt_size e) (I.ok.cab x c hfn hc)))).trans e1⟩
  ·by_cases hj:j=i
   ·subst hj
    rw[hi]at e1;cases e1
    rw[List.getElem?_set_self hiσ]at e2
    cases e2
    exact⟨u,r,.inr ⟨.inl hk,c,hc,hc'⟩⟩
   ·rw[List.getElem?_set_ne (Ne.symm hj)]at e2
    obtain⟨u',r',q⟩:=hl j y v' e1 e2 e3
    refine⟨u',r',?_⟩
    rcases q with q | ⟨k,c',e,z'⟩
    ·exact .inl q
    ·refine .inr ⟨k,c',e,z'.sameBut hs ?_⟩
     rintro rfl
     exact hj (Qas hN e1 (I.ok.inj _ _ _ e hc ▸ hi))
  ·by_cases hcc:c'=c
   ·subst hcc;exact⟨_,hc'⟩
   ·obtain⟨w2,z2⟩:=I.cell y c' e
    exact⟨w2,z2.sameBut hs hcc⟩
  ·obtain⟨e,n,ne,nf,d⟩:=I.pin p hp
   refine⟨(hs.2 p.1 ?_).trans e,n,ne,nf,d⟩
   intro q
   rw[q,hoc]at e
   have q':oc=p.2:=Option.some.inj e
   exact d w' (by rw[<- q'];exact hocd)
theorem Qau {M : Model} {A : Around} {E : Value -> Shared -> Prop} {i : Nat} {x : Str} {v : V} {u : Value} {Q : Unit -> Shared -> Prop} (I : Inv X pins σ H s) (hN : X.N.Nodup) (hi : X.N[i]? = some x) (hx : Loc X.env.scope x) (r : RelV v u)
  (h:∀ s',Inv X pins (σ.set i (some v)) H s'->Q () s') (hf:X.fn x=true\/X.env.scope.names.lookup x=some .local:=by first | exact .inl rfl | exact .inr rfl | assumption):wpAny M A (storeName X.env x u) Q E s:=
 Qat I hN hi hx r (fun s' I' _=>h s' I') hf
theorem Inv.call' {s' : Shared} {ch : List Addr} (I : Inv X pins σ H s) (ho : s'.os = s.os) (u : Un (frs X.stack) ch H H' s.heap s'.heap) (hok : HOk X.prog X.w H' s'.heap) (hg : AllBare s'.gens)
  (hch:∀ b∈ch,(b∈X.ex\/X.s₀.heap.objs.size<=b)/\b≠X.env.locals/\(∀ x c,X.env.cells.lookup x=some c->c≠b)/\∀ p∈X.pn++pins,p.1≠b):Inv X pins σ H' s':=by
 obtain⟨h',g',d',t',o'⟩:=s'
 have e:o'=s.os:=ho
 subst e
 exact I.call (g':=g') (t':=t') (d':=d') u hok hg hch
end
abbrev XK:=Value->Option Addr->Hp->Prop
abbrev St:=List (Option V)
abbrev VK:=V->Hp->Prop
abbrev TE:=St->Hp->VK->Prop
abbrev TT:=St->Hp->(Bool->Hp->Prop)->Prop
abbrev TA:=St->Hp->(List V->Hp->Prop)->Prop
structure Ends where
 nx:St->Hp->Prop
 rt:VK
 bk:St->Hp->Prop:=fun _ _=>False
 ct:St->Hp->Prop:=fun _ _=>False
abbrev TS:=Ends->St->Hp->Prop
def EP (X:Cx) (pins:List (Addr × Obj)) (σ:St) (Q:VK) (u:Value) (s':Shared):Prop:=∃ v H',Inv X pins σ H' s'/\RelV v u/\Q v H'
def TP (X:Cx) (pins:List (Addr × Obj)) (σ:St) (Q:Bool->Hp->Prop) (b:Bool) (s':Shared):Prop:=∃ H',Inv X pins σ H' s'/\Q b H'
def AP (X:Cx) (pins:List (Addr × Obj)) (σ:St) (Q:List V->Hp->Prop) (us:List Value) (s':Shared):Prop:=∃ vs H',Inv X pins σ H' s'/\Vals vs us/\Q vs H'
def SP (X:Cx) (pins:List (Addr × Obj)) (D:Ends) (f:Flow) (s':Shared):Prop:=
 match f with
 | .next=>∃ σ' H',Inv X pins σ' H' s'/\D.nx σ' H'
 | .brk=>∃ σ' H',Inv X pins σ' H' s'/\D.bk σ' H'
 | .cont=>∃ σ' H',Inv X pins σ' H' s'/\D.ct σ' H'
 | .ret u=>∃ v σ' H',Inv X pins σ' H' s'/\RelV v u/\D.rt v H'
def PE (X:Cx) (e:Expr) (t:TE):Prop:=
 ∀ (pins:List (Addr × Obj)) (s:Shared) (σ:St) (H:Hp) (Q:VK),Inv X pins σ H s->t σ H Q->wpAny (model X.prog X.w) X.A (eval e X.env) (EP X pins σ Q) X.xe s
def PT (X:Cx) (e:Expr) (t:TT):Prop:=
 ∀ (pins:List (Addr × Obj)) (s:Shared) (σ:St) (H:Hp) (Q:Bool->Hp->Prop),Inv X pins σ H s->t σ H Q->wpAny (model X.prog X.w) X.A (isTrue e X.env (eval e X.env)) (TP X pins σ Q) X.xe s
def PW (X:Cx) (e:Expr) (t:TT):Prop:=
 ∀ (whole:Sem Value) (pins:List (Addr × Obj)) (s:Shared) (σ:St) (H:Hp) (Q:Bool->Hp->Prop),Inv X pins σ H s->t σ H Q->wpAny (model X.prog X.w) X.A (isTrue e X.env whole) (TP X pins σ Q) X.xe s
theorem PW.pt {X:Cx}{e:Expr}{t:TT} (h:PW X e t):PT X e t:=h _
def PA (X:Cx) (es:List Expr) (t:TA):Prop:=
 ∀ (pos:Pos) (pins:List (Addr × Obj)) (s:Shared) (σ:St) (H:Hp) (Q:List V->Hp->Prop),Inv X pins σ H s->t σ H Q->wpAny (model X.prog X.w) X.A (spliced (backTo pos (starEach es X.env))) (AP X pins σ Q) X.xe s
def PS (X:Cx) (st:Stmt) (t:TS):Prop:=
 ∀ (pins:List (Addr × Obj)) (s:Shared) (σ:St) (H:Hp) (D:Ends),Inv X pins σ H s->t D σ H->wpAny (model X.prog X.w) X.A (exec st X.env) (SP X pins D) X.xe s
def PSs (X:Cx) (st:List Stmt) (t:TS):Prop:=
 ∀ (pins:List (Addr × Obj)) (s:Shared) (σ:St) (H:Hp) (D:Ends),Inv X pins σ H s->t D σ H->wpAny (model X.prog X.w) X.A (execs st X.env) (SP X pins D) X.xe s
theorem thn {α:Type}{t:Sem α}{Q Q':α->Shared->Prop}{M:Model}{A:Around}{E:Value->Shared->Prop}{s:Shared} (h:wpAny M A t Q E s) (hQ:∀ a s,Q a s->Q' a s):wpAny M A t Q' E s:=wpAny_mono h hQ fun _ _ x=>x
section
variable {X:Cx}
def tVar (i:Nat):TE:=fun σ H Q=>∃ v,σ[i]?=some (some v)/\Q v H
def tC (v:V):TE:=fun _ H Q=>Q v H
theorem Qav {i:Nat}{x:Str}{pos:Pos} (hN:X.N[i]?=some x) (hv:Vis X.env.scope x) (hd:(x == ("__debug__":Str))=false:=by decide) (hcd:(x == ("__classdict__":Str))=false:=by decide):PE X (.Name x pos) (tVar i):=by
 intro pins s σ H Q I h
 obtain⟨v,e,h⟩:=h
 obtain⟨m,hn,hl⟩:=I.loc
 obtain⟨u,r,l⟩:=hl i x v hN e hv
 have fin:EP X pins σ Q u s:=⟨v,H,I,r,h⟩
 rcases l with ⟨hk,hm⟩ | ⟨hk,c,hc,hcell⟩
 ·exact wpAny_Name (wpAny_loadName_local I.ok.kind hk hn hm fin) hd
 ·rcases hk with hk | hk
  ·exact wpAny_Name (wpAny_loadName_cell I.ok.kind hk hc hcell fin) hd
  ·exact wpAny_Name (wpAny_loadName_free I.ok.kind hk hc hcell fin hcd) hd
theorem Qaw {i j pos}:PE X (.Constant (.int i) j pos) (tC (.int i)):=fun _ _ _ H _ I h=>wpAny_Constant_int ⟨.int i,H,I.tok _,⟨_,rfl⟩,h⟩
theorem Qax {b j pos}:PE X (.Constant (.bool b) j pos) (tC (.bl b)):=fun _ _ _ H _ I h=>Constant_bool ⟨.bl b,H,I,rfl,h⟩
theorem Qay {x j pos}:PE X (.Constant (.str x) j pos) (tC (.str x)):=fun _ _ _ H _ I h=>Calls.Constant_str ⟨.str x,H,I.tok _,⟨_,rfl⟩,h⟩
def Gl (X:Cx) (x:Str):Prop:=X.env.kindOf x=some .globalImplicit
theorem Qaz {E : Value -> Shared -> Prop} {pins : List (Addr × Obj)} {s : Shared} {σ : St} {H : Hp} {x : Str} {u : Value} {pos : Pos} {Q : Value -> Shared -> Prop} (I : Inv X pins σ H s) (hg : Gl X x) (hm : X.mg x = some u) (h : Q u s)
  (hd:(x == ("__debug__":Str))=false:=by decide):wpAny (model X.prog X.w) X.A (eval (.Name x pos) X.env) Q E s:=
 Calls.Name_function_global I.ok.kind hg (Calls.loadGlobal_global (by rw[I.ok.glob];exact I.mod.glob.keeps I.bk) hm h) hd
theorem QaA {E : Value -> Shared -> Prop} {pins : List (Addr × Obj)} {s : Shared} {σ : St} {H : Hp} {x : Str} {u : Value} {pos : Pos} {Q : Value -> Shared -> Prop} (I : Inv X pins σ H s) (hg : Gl X x) (hm : X.mg x = none) (hv : bootBuiltins x = some u) (h : Q u s)
  (hn:x≠"__name__":=by decide) (hd:(x == ("__debug__":Str))=false:=by decide):wpAny (model X.prog X.w) X.A (eval (.Name x pos) X.env) Q E s:=by
 obtain⟨mb,h1,h2⟩:=I.mod.blt
 exact Calls.Name_function_global I.ok.kind hg (Calls.loadGlobal_builtin (by rw[I.ok.glob];exact I.mod.glob.keeps I.bk) hm (by rw[I.ok.blt];exact h1.keeps I.bk) ((h2 x hn).trans hv) h) hd
theorem QaB {x:Str}{v:V}{u:Value}{pos:Pos} (hg:Gl X x) (hm:X.mg x=none) (hv:bootBuiltins x=some u) (r:RelV v u) (hn:x≠"__name__":=by decide) (hd:(x == ("__debug__":Str))=false:=by decide):PE X (.Name x pos) (tC v):=
 fun _ _ _ H _ I h=>QaA I hg hm hv ⟨v,H,I,r,h⟩ hn hd
variable {a b:Expr}{ta tb:TE}{pos:Pos}
variable {tA tB':TT}{rest:List Expr}
def tAnd (t u:TT):TT:=fun σ H Q=>t σ H fun c H1=>if c=true then u σ H1 Q else Q false H1
def tOr (t u:TT):TT:=fun σ H Q=>t σ H fun c H1=>if c=true then Q true H1 else u σ H1 Q
def tNot (t:TT):TT:=fun σ H Q=>t σ H fun c H1=>Q (!c) H1
theorem QaC (ha:PT X a tA):PW X (.BoolOp .And [a] pos) tA:=by
 intro wh pins s σ H Q I h
 refine isTrue_and (thn (ha pins s σ H Q I h) fun c s1 e=>?_)
 cases c with
 | true=>exact isTrue_and_nil e
 | false=>exact e
theorem QaD (ha:PT X a tA):PW X (.BoolOp .Or [a] pos) tA:=by
 intro wh pins s σ H Q I h
 refine isTrue_or (thn (ha pins s σ H Q I h) fun c s1 e=>?_)
 cases c with
 | false=>exact isTrue_or_nil e
 | true=>exact e
theorem QaE (ha:PT X a tA) (hb:PW X (.BoolOp .And (b::rest) pos) tB'):PW X (.BoolOp .And (a::b::rest) pos) (tAnd tA tB'):=by
 intro wh pins s σ H Q I h
 refine isTrue_and (thn (ha pins s σ H _ I h) fun c s1 pq2=>?_)
 obtain⟨H1,I1,q1⟩:=pq2
 cases c with
 | true=>exact hb wh pins s1 σ H1 Q I1 q1
 | false=>exact⟨H1,I1,q1⟩
theorem QaF (ha:PT X a tA) (hb:PW X (.BoolOp .Or (b::rest) pos) tB'):PW X (.BoolOp .Or (a::b::rest) pos) (tOr tA tB'):=by
 intro wh pins s σ H Q I h
 refine isTrue_or (thn (ha pins s σ H _ I h) fun c s1 pq3=>?_)
 obtain⟨H1,I1,q1⟩:=pq3
 cases c with
 | true=>exact⟨H1,I1,q1⟩
 | false=>exact hb wh pins s1 σ H1 Q I1 q1
theorem QaG (ha:PT X a tA):PT X (.UnaryOp .Not a pos) (tNot tA):=by
 intro pins s σ H Q I h
 exact isTrue_not (ha pins s σ H (fun c H1=>Q (!c) H1) I h)
def tAndV (ta tb:TE):TE:=fun σ H Q=>ta σ H fun x H1=>∃ c,x=.bl c/\if c=true then tb σ H1 Q else Q (.bl false) H1
theorem QaH {op}{t:TE} (h:PE X a t):PE X (.BoolOp op [a] pos) t:=fun pins s σ H Q I hw=>BoolOp_one (h pins s σ H Q I hw)
theorem QaI (ha:PE X a ta) (hb:PE X (.BoolOp .And (b::rest) pos) tb):PE X (.BoolOp .And (a::b::rest) pos) (tAndV ta tb):=by
 intro pins s σ H Q I h
 refine BoolOp_and (thn (ha pins s σ H _ I h) fun v s1 pq4=>?_)
 obtain⟨x,H1,I1,r1,q1⟩:=pq4
 obtain⟨c,rfl,q1⟩:=q1
 cases r1
 refine wpAny_truthy_bool ?_
 cases c with
 | true=>exact hb pins s1 σ H1 Q I1 q1
 | false=>exact⟨.bl false,H1,I1,rfl,q1⟩
end
def SqL (K:PySem.W.Frag) (H:Hp) (a:Addr) (xs:List V):Prop:=
 Rd H a (.lst xs) \/
  ∃ (o:Obj) (its:Array Value) (n:Nat),K.lookup a=some o/\o.cls=.type "list"/\o.dict=none/\o.data=.seq its n/\its.size<=sizeLine/\Vals xs its.toList
def SqT (K:PySem.W.Frag) (H:Hp) (a:Addr) (xs:List V):Prop:=
 Rd H a (.tup xs) \/
  ∃ (o:Obj) (its:Array Value) (n:Nat),K.lookup a=some o/\o.cls=.type "tuple"/\o.data=.seq its n/\its.size<=sizeLine/\Vals xs its.toList
def absV:Value->Option V
 | .none=>some .non
 | .bool b=>some (.bl b)
 | .int i _=>some (.int i)
 | .str x _=>some (.str x)
 | .bytes b _=>some (.byt b)
 | .float b _=>some (.flt b)
 | .ref a=>some (.ref a)
 | .type n=>some (.ty n)
 | _=>none
theorem RelV.abs {x:V}{u:Value} (r:RelV x u):absV u=some x:=by
 cases x with
 | non=>cases r;rfl
 | bl _=>cases r;rfl
 | int _=>obtain⟨t,rfl⟩:=r;rfl
 | str _=>obtain⟨t,rfl⟩:=r;rfl
 | byt _=>obtain⟨t,rfl⟩:=r;rfl
 | flt _=>obtain⟨t,rfl⟩:=r;rfl
 | ref _=>cases r;rfl
 | ty _=>cases r;rfl
theorem RelV.inj {x y:V}{u:Value} (r:RelV x u) (q:RelV y u):x=y:=Option.some.inj (r.abs.symm.trans q.abs)
theorem Vals.inj:∀ {xs ys:List V}{us:List Value},Vals xs us->Vals ys us->xs=ys
 | _,_,_,.nil,.nil=>rfl
 | _,_,_,.cons r t,.cons r' t'=>by rw[r.inj r',Vals.inj t t']
section
variable {X:Cx}{pins:List (Addr × Obj)}{σ:St}{H:Hp}{s:Shared}{a:Addr}{xs ys:List V}
theorem SqL.of {K:PySem.W.Frag} (h:H a=some (.lst xs)):SqL K H a xs:=.inl (.inl h)
theorem SqT.of {K:PySem.W.Frag} (h:H a=some (.tup xs)):SqT K H a xs:=.inl (.inl h)
theorem Inv.list (I:Inv X pins σ H s) (h:SqL X.K H a xs):∃ its:List Value,Vals xs its/\PlainL s.heap a its.toArray/\xs.length<=sizeLine:=by
 rcases h with h | ⟨o,its,n,hk,hc,hd,hs,hz,r⟩
 ·obtain⟨z,its,n,r,e⟩:=h.ok I.hok
  exact⟨its,r,⟨_,n,e,rfl,rfl,rfl⟩,z⟩
 ·refine⟨its.toList,r,⟨o,n,I.kIn a o hk,hc,hd,by simpa using hs⟩,?_⟩
  have e:=r.length
  simp only[Array.length_toList]at e
  ac_nf
theorem Inv.tuple (I:Inv X pins σ H s) (h:SqT X.K H a xs):∃ its:List Value,Vals xs its/\IsTup s.heap a its.toArray/\xs.length<=sizeLine:=by
 rcases h with h | ⟨o,its,n,hk,hc,hs,hz,r⟩
 ·obtain⟨z,its,r,p⟩:=h.ok I.hok
  exact⟨its,r,p,z⟩
 ·refine⟨its.toList,r,⟨o,I.kIn a o hk,hc,n,by simpa using hs⟩,?_⟩
  have e:=r.length
  simp only[Array.length_toList]at e
  ac_nf
theorem Inv.list_inj (I:Inv X pins σ H s) (h:SqL X.K H a xs) (h':SqL X.K H a ys):xs=ys:=by
 obtain⟨its,r,⟨o,n,e,_,_,d⟩,_⟩:=I.list h
 obtain⟨its',r',⟨o',n',e',_,_,d'⟩,_⟩:=I.list h'
 rw[e]at e';cases e'
 rw[d]at d'
 injection d' with d1 _
 have:its=its':=by simpa using congrArg Array.toList d1
 subst this
 exact r.inj r'
theorem Inv.tuple_inj (I:Inv X pins σ H s) (h:SqT X.K H a xs) (h':SqT X.K H a ys):xs=ys:=by
 obtain⟨its,r,⟨o,e,_,n,d⟩,_⟩:=I.tuple h
 obtain⟨its',r',⟨o',e',_,n',d'⟩,_⟩:=I.tuple h'
 rw[e]at e';cases e'
 rw[d]at d'
 injection d' with d1 _
 have:its=its':=by simpa using congrArg Array.toList d1
 subst this
 exact r.inj r'
end
abbrev Cx.wish (X:Cx) (E:Value->Shared->Prop):Cx:={ X with xe:=E }
abbrev Cx.nox (X:Cx):Cx:=X.wish fun _ _=>False
theorem Cx.Ok.wish {X:Cx} (ok:X.Ok) (E:Value->Shared->Prop):(X.wish E).Ok:=
 ⟨ok.mod,ok.kind,ok.glob,ok.blt,ok.above,ok.inj,ok.has,ok.cab,ok.hd,ok.frames,ok.stk,ok.exf,ok.bs,ok.bsz,ok.noex,ok.exfs,ok.funs,ok.frf⟩
theorem Cx.Ok.unwish {X:Cx}{E:Value->Shared->Prop} (ok:(X.wish E).Ok):X.Ok:=
 ⟨ok.mod,ok.kind,ok.glob,ok.blt,ok.above,ok.inj,ok.has,ok.cab,ok.hd,ok.frames,ok.stk,ok.exf,ok.bs,ok.bsz,ok.noex,ok.exfs,ok.funs,ok.frf⟩
section
variable {X:Cx}{pins:List (Addr × Obj)}{σ:St}{H:Hp}{s:Shared}{E:Value->Shared->Prop}
theorem Inv.wish (I:Inv X pins σ H s) (E:Value->Shared->Prop):Inv (X.wish E) pins σ H s:=⟨I.ok.wish E,I.os,I.bare,I.base,I.loc,I.cell,I.free,I.freeC,I.pin,I.hok,I.len⟩
theorem Inv.unwish (I:Inv (X.wish E) pins σ H s):Inv X pins σ H s:=⟨I.ok.unwish,I.os,I.bare,I.base,I.loc,I.cell,I.free,I.freeC,I.pin,I.hok,I.len⟩
theorem SP.unwish {D:Ends}{f:Flow}{s':Shared} (h:SP (X.wish E) pins D f s'):SP X pins D f s':=by
 cases f with
 | next=>obtain⟨σ',H',I,q⟩:=h;exact⟨σ',H',I.unwish,q⟩
 | brk=>obtain⟨σ',H',I,q⟩:=h;exact⟨σ',H',I.unwish,q⟩
 | cont=>obtain⟨σ',H',I,q⟩:=h;exact⟨σ',H',I.unwish,q⟩
 | ret u=>obtain⟨v,σ',H',I,r,q⟩:=h;exact⟨v,σ',H',I.unwish,r,q⟩
theorem PSs.nox {st:List Stmt}{t:TS} (h:PSs X.nox st t):PSs X st t:=fun pins s σ H D I hw=>
 wpAny_mono (h pins s σ H D (I.wish _) hw) (fun _ _ q=>q.unwish) fun _ _ z=>False.elim z
end
section
variable {X:Cx}{st:Stmt}{rest:List Stmt}{t u:TS}{e:Expr}{te:TE}{pos:Pos}
def tNext:TS:=fun D σ H=>D.nx σ H
def tSeq (t u:TS):TS:=fun D σ H=>t { D with nx:=u D } σ H
theorem QaJ:PSs X [] tNext:=fun _ _ σ H _ I h=>wpAny_execs_nil ⟨σ,H,I,h⟩
theorem QaK (h1:PS X st t) (h2:PSs X rest u):PSs X (st::rest) (tSeq t u):=by
 intro pins s σ H D I h
 refine wpAny_execs_cons (thn (h1 pins s σ H { D with nx:=u D } I h) fun f s1 q=>?_)
 cases f with
 | next=>
  obtain⟨σ',H',I',q⟩:=q
  exact h2 pins s1 σ' H' D I' q
 | ret v=>exact q
 | brk=>exact q
 | cont=>exact q
theorem Inv.quiet {pins:List (Addr × Obj)}{σ:St}{H:Hp}{s:Shared} (I:Inv X pins σ H s):interactive X.env=false:=by simp[interactive,I.ok.kind]
def tDrop (te:TE):TS:=fun D σ H=>te σ H fun _ H1=>D.nx σ H1
theorem QaL (he:PE X e te) (hs:swapsWith e none pos.line X.env=pure false:=by rfl):PS X (.Expr e pos) (tDrop te):=by
 intro pins s σ H D I h
 exact wpAny_Expr_any (thn (he pins s σ H _ I h) fun v s1 pq7=>by obtain⟨x,H1,I1,r1,q1⟩:=pq7;exact⟨σ,H1,I1,q1⟩) I.quiet hs
def tRet (te:TE):TS:=fun D σ H=>te σ H D.rt
theorem QaM (he:PE X e te):PS X (.Return (some e) pos) (tRet te):=by
 intro pins s σ H D I h
 exact wpAny_Return_some (thn (he pins s σ H _ I h) fun v s1 pq8=>by obtain⟨x,H1,I1,r1,q1⟩:=pq8;exact⟨x,σ,H1,I1,r1,q1⟩)
def tIfS (c:TT) (t u:TS):TS:=fun D σ H=>c σ H fun b H1=>if b=true then t D σ H1 else u D σ H1
theorem QaN {c:Expr}{a b:List Stmt}{tc:TT} (hc:PT X c tc) (ha:PSs X a t) (hb:PSs X b u):PS X (.If c a b pos) (tIfS tc t u):=by
 intro pins s σ H D I h
 refine wpAny_If (thn (hc pins s σ H _ I h) fun d s1 pq9=>?_)
 obtain⟨H1,I1,q1⟩:=pq9
 cases d with
 | true=>exact ha pins s1 σ H1 D I1 q1
 | false=>exact hb pins s1 σ H1 D I1 q1
end
abbrev TG:=V->St->Hp->(St->Hp->Prop)->Prop
abbrev TGs:=List V->St->Hp->(St->Hp->Prop)->Prop
def PG (X:Cx) (target:Expr) (t:TG):Prop:=
 ∀ (pins:List (Addr × Obj)) (s:Shared) (σ:St) (H:Hp) (v:V) (u:Value) (Q:St->Hp->Prop),Inv X pins σ H s->RelV v u->t v σ H Q ->
  wpAny (model X.prog X.w) X.A (assign target X.env u) (fun _ s'=>∃ σ' H',Inv X pins σ' H' s'/\Q σ' H') X.xe s
def PGs (X:Cx) (ts:List Expr) (t:TGs):Prop:=
 ∀ (pins:List (Addr × Obj)) (s:Shared) (σ:St) (H:Hp) (vs:List V) (us:List Value) (Q:St->Hp->Prop),Inv X pins σ H s->Vals vs us->t vs σ H Q ->
  wpAny (model X.prog X.w) X.A (assignInOrder ((assignEach ts X.env).map (·.2)) us) (fun _ s'=>∃ σ' H',Inv X pins σ' H' s'/\Q σ' H') X.xe s
abbrev TSet:=V->V->V->Hp->(Hp->Prop)->Prop
def PSet (X:Cx) (t:TSet):Prop:=
 ∀ (pins:List (Addr × Obj)) (s:Shared) (σ:St) (H:Hp) (o i v:V) (ov iv u:Value) (Q:Hp->Prop),Inv X pins σ H s->RelV o ov->RelV i iv->RelV v u->t o i v H Q ->
  wpAny (model X.prog X.w) X.A (setItem ov iv u) (fun _ s'=>∃ H',Inv X pins σ H' s'/\Q H') X.xe s
section
variable {X:Cx}{pos:Pos}
def gName (i:Nat):TG:=fun v σ H Q=>Q (σ.set i (some v)) H
theorem QaO {i:Nat}{x:Str} (hN:X.N.Nodup) (hi:X.N[i]?=some x) (hx:Loc X.env.scope x) (hf:X.fn x=true\/X.env.scope.names.lookup x=some .local:=by first | exact .inl rfl | exact .inr rfl | assumption):PG X (.Name x pos) (gName i):=by
 intro pins s σ H v u Q I r h
 exact wpAny_assign_Name (Qau I hN hi hx r (fun s' I'=>⟨_,H,I',h⟩) hf)
def gNil:TGs:=fun vs σ H Q=>vs=[]/\Q σ H
def gCons (t:TG) (u:TGs):TGs:=fun vs σ H Q=>∃ v r,vs=v::r/\t v σ H fun σ' H'=>u r σ' H' Q
theorem QaP:PGs X [] gNil:=by
 intro pins s σ H vs us Q I r h
 obtain⟨e,h⟩:=h
 subst e
 cases r
 exact assignInOrder_nil ⟨σ,H,I,h⟩
theorem QaQ {e : Expr} {es : List Expr} {t : TG} {u : TGs} (h1 : PG X e t) (h2 : PGs X es u)
  (hs:(assignEach (e::es) X.env).map (·.2)=assign e X.env::(assignEach es X.env).map (·.2):=by rfl):PGs X (e::es) (gCons t u):=by
 intro pins s σ H vs us Q I r h
 obtain⟨v,vr,e1,h⟩:=h
 subst e1
 cases r with
 | cons r rr=>
  rw[hs]
  refine assignInOrder_cons (thn (h1 pins s σ H _ _ _ I r h) fun _ s1 pq10=>?_)
  obtain⟨σ1,H1,I1,q1⟩:=pq10
  exact h2 pins s1 σ1 H1 _ _ Q I1 rr q1
def gTup (K:PySem.W.Frag) (n:Nat) (t:TGs):TG:=fun v σ H Q=>∃ a xs,v=.ref a/\SqT K H a xs/\xs.length=n/\t xs σ H Q
theorem QaR {es : List Expr} {k : Nat} {t : TGs} {n : Nat} (hc : X.calm = true) (h : PGs X es t)
  (hn:(assignEach es X.env).length=n:=by rfl) (hst:(assignEach es X.env).findIdx? (·.1)=none:=by rfl):PG X (.Tuple es k pos) (gTup X.K n t):=by
 intro pins s σ H v u Q I r hw
 obtain⟨a,xs,e1,hq,hl,hw⟩:=hw
 subst e1
 cases r
 obtain⟨its,rv,ht,hz⟩:=I.tuple hq
 refine assign_Tuple_tuple (I.ok.hd hc) ht (by simp[hn,<- hl,rv.length]) hst fun h' hx=>?_
 have I1:Inv X pins σ H { s with heap:=h' }:=I.kept (t':=s.toks) fun b o e=>hx b o (Nat.ne_of_lt (Heap.lt_size e)) e
 exact h pins _ σ H xs _ Q I1 (by simpa using rv) hw
def gSub (to ti:TE) (t:TSet):TG:=fun v σ H Q=>to σ H fun o H1=>ti σ H1 fun i H2=>t o i v H2 fun H3=>Q σ H3
theorem QaS {o i : Expr} {to ti : TE} {t : TSet} (ho : PE X o to) (hi : PE X i ti) (hs : PSet X t)
  (ha:∀ v,assign (.Subscript o i pos) X.env v=(do
   let ov <- holding [v] (eval o X.env)
   let iv <- holding [v,ov] (eval i X.env)
   standAt pos
   holding [v,ov,iv] (setItem ov iv v)
   release [v,ov,iv] []):=by intro _;rfl):PG X (.Subscript o i pos) (gSub to ti t):=by
 intro pins s σ H v u Q I r h
 rw[ha]
 refine wpAny_bind (wpAny_holding (thn (ho pins s σ H _ I h) fun ov s1 pq11=>?_))
 obtain⟨x,H1,I1,r1,q1⟩:=pq11
 refine wpAny_bind (wpAny_holding (thn (hi pins s1 σ H1 _ I1 q1) fun iv s2 pq12=>?_))
 obtain⟨y,H2,I2,r2,q2⟩:=pq12
 refine wpAny_bind (wpAny_standAt (wpAny_bind (wpAny_holding (thn (hs pins s2 σ H2 x y v ov iv u _ I2 r1 r2 r q2) fun _ s3 pq13=>?_))))
 obtain⟨H3,I3,q3⟩:=pq13
 exact wpAny_release ⟨σ,H3,I3,q3⟩
def tAsg (te:TE) (g:TG):TS:=fun D σ H=>te σ H fun x H1=>g x σ H1 D.nx
theorem QaT {tg e : Expr} {te : TE} {g : TG} (he : PE X e te) (hg : PG X tg g) (hs : swapsWithSole [tg] e pos.line X.env = pure false := by rfl) (hw : swappedStores [tg] e X.env = pure none := by rfl)
  (h1:(assignEach [tg] X.env).map (·.2)=[assign tg X.env]:=by rfl):PS X (.Assign [tg] e pos) (tAsg te g):=by
 intro pins s σ H D I h
 refine wpAny_Assign_stores (thn (he pins s σ H _ I h) fun v s1 ⟨x,H1,I1,r1,q1⟩=>?_) hs hw
 rw[h1]
 exact thn (hg pins s1 σ H1 x v _ I1 r1 q1) fun _ s2 q=>q
theorem QaU {i : Nat} {x : Str} {e : Expr} {te : TE} {pos' : Pos} (hN : X.N.Nodup) (hi : X.N[i]? = some x) (hx : Loc X.env.scope x) (he : PE X e te) (hs : swapsWith e (some (.Name x pos')) pos.line X.env = pure false := by rfl) (hf : X.fn x = true \/ X.env.scope.names.lookup x = some .local := by first | exact .inl rfl | exact .inr rfl | assumption) :
  PS X (.Assign [.Name x pos'] e pos) (tAsg te (gName i)):=by
 intro pins s σ H D I h
 refine wpAny_Assign_Name (thn (he pins s σ H _ I h) fun v s1 ⟨y,H1,I1,r1,q1⟩=>?_) hs
 exact Qau I1 hN hi hx r1 (fun s2 I2=>⟨_,H1,I2,q1⟩) hf
end
section
variable {X:Cx}{pos:Pos}
def tWhile (c:TT) (tb:TS):TS:=fun D σ H=>∃ W:Nat->St->Hp->Prop,(∃ m,W m σ H)/\∀ m σ H,W m σ H ->
 c σ H fun b H1=>if b=true then ∃ N:St->Hp->Prop,(∀ σ' H',N σ' H'->∃ m',m' < m/\W m' σ' H')/\tb { D with nx:=N,ct:=N,bk:=D.nx } σ H1 else D.nx σ H1
theorem QaV {c:Expr}{body:List Stmt}{tc:TT}{tb:TS} (hp:PassesOwn (model X.prog X.w) X.A X.env X.xe) (hc:PT X c tc) (hb:PSs X body tb):PS X (.While c body [] pos) (tWhile tc tb):=by
 intro pins s σ H D I h
 obtain⟨W,⟨m0,w0⟩,turn⟩:=h
 refine wpAny_While (codeAny_whileLoop (fun n s'=>∃ σ' H',Inv X pins σ' H' s'/\W n σ' H') ?_ m0 ⟨σ,H,I,w0⟩)
 rintro n s1 ⟨σ1,H1,I1,w1⟩
 refine wpAny_passesOwn hp (thn (hc pins s1 σ1 H1 _ I1 (turn n σ1 H1 w1)) fun b s2 pq16=>?_)
 obtain⟨H2,I2,q2⟩:=pq16
 cases b with
 | true=>
  obtain⟨N,hN,q2⟩:=q2
  rw[if_pos rfl]
  refine wpAny_passesOwn hp (thn (hb pins s2 σ1 H2 _ I2 q2) fun f s3 q3=>?_)
  cases f with
  | next=>
   obtain⟨σ3,H3,I3,n3⟩:=q3
   obtain⟨m',hm,w3⟩:=hN σ3 H3 n3
   exact⟨m',hm,σ3,H3,I3,w3⟩
  | cont=>
   obtain⟨σ3,H3,I3,n3⟩:=q3
   obtain⟨m',hm,w3⟩:=hN σ3 H3 n3
   exact⟨m',hm,σ3,H3,I3,w3⟩
  | brk=>exact q3
  | ret v=>exact q3
 | false=>
  rw[if_neg Bool.false_ne_true]
  exact wpAny_execs_nil ⟨σ1,H2,I2,q2⟩
end
structure It where
 go:Nat->Hp->Prop
 yld:Nat->Hp->V->Hp->Prop
 stop:Nat->Hp->Prop
def FpOk (X:Cx) (pins:List (Addr × Obj)) (H:Hp) (b:Addr):Prop:=
 H b=none/\b≠X.env.locals/\b∉X.fs/\(b∈X.ex\/X.s₀.heap.objs.size<=b)/\(∀ x c,X.env.cells.lookup x=some c->c≠b)/\∀ p∈X.pn++pins,p.1≠b
theorem Inv.fpOk {X:Cx}{pins:List (Addr × Obj)}{σ:St}{H H':Hp}{s:Shared}{b:Addr} (I:Inv X pins σ H s) (hb:s.heap.objs.size<=b) (hn:H' b=none):FpOk X pins H' b:=by
 refine⟨hn,Nat.ne_of_gt (Nat.lt_of_lt_of_le I.lt hb),I.nofs hb,.inr (Nat.le_trans I.sz hb),fun x c e z=>?_,fun p hp z=>?_⟩
 ·obtain⟨v,q⟩:=I.cell x c e
  exact absurd (Nat.lt_of_lt_of_le q.lt (by rw[z];exact hb)) (Nat.lt_irrefl _)
 ·exact absurd (Nat.lt_of_lt_of_le (Heap.lt_size (I.pin p hp).1) (by rw[z];exact hb)) (Nat.lt_irrefl _)
structure Turn (P:Program) (w:World) (K:PySem.W.Frag) (tg:Expr) (J:It) (fp:List Addr) (it:Addr) (tn:Nat->Heap->Prop):Prop where
 mem:it∈fp
 obj:∀ i h,tn i h->∀ b∈fp,∃ o,h.get? b=some o/\∀ v,o.data≠.cell v
 keep:∀ i h h',tn i h->(∀ b∈fp,∀ o,h.get? b=some o->h'.get? b=some o)->tn i h'
 item:∀ (X:Cx),X.prog=P->X.w=w->X.K=K->X.calm=true->∀ (i:Nat) (pins:List (Addr × Obj)) (s:Shared) (σ:St) (H:Hp) (E:Value->Shared->Prop),Inv X pins σ H s->(∀ b∈fp,FpOk X pins H b)->tn i s.heap->J.go i H ->
  wpAny (model P w) X.A (pyNext (.ref it)) (fun r s1=>∃ u,r=some u /\
   wpAny (model P w) X.A (letOwnedTupleGo tg (.ref it) u) (fun _ s2=>∃ x H',Inv X pins σ H' s2/\RelV x u/\J.yld i H x H'/\tn (i + 1) s2.heap/\∀ b∈fp,H' b=none) E s1) E s
 done:∀ (X:Cx),X.prog=P->X.w=w->X.K=K->X.calm=true->∀ (i:Nat) (pins:List (Addr × Obj)) (s:Shared) (σ:St) (H:Hp) (E:Value->Shared->Prop),Inv X pins σ H s->(∀ b∈fp,FpOk X pins H b)->tn i s.heap->J.stop i H ->
  wpAny (model P w) X.A (pyNext (.ref it)) (fun r s1=>r=none/\Inv X pins σ H s1) E s
 self:∀ (A:Around) (i:Nat) (s:Shared) (Q:Value->Shared->Prop) (E:Value->Shared->Prop),tn i s.heap->Q (.ref it) s->wpAny (model P w) A (pyIter (.ref it)) Q E s
abbrev TI:=St->Hp->(It->Hp->Prop)->Prop
def PIE (X:Cx) (pins:List (Addr × Obj)) (σ:St) (tg:Expr) (R:It->Hp->Prop) (itv:Value) (s2:Shared):Prop:=
 ∃ (it:Addr) (fp:List Addr) (tn:Nat->Heap->Prop) (J:It) (H':Hp),itv=.ref it/\Inv X pins σ H' s2/\Turn X.prog X.w X.K tg J fp it tn/\tn 0 s2.heap/\(∀ b∈fp,FpOk X pins H' b)/\R J H'
def PI (X:Cx) (tg iter:Expr) (wi:TI):Prop:=
 ∀ (pins:List (Addr × Obj)) (s:Shared) (σ:St) (H:Hp) (R:It->Hp->Prop),Inv X pins σ H s->wi σ H R ->
  wpAny (model X.prog X.w) X.A (eval iter X.env) (fun v s1=>wpAny (model X.prog X.w) X.A (pyIter v) (PIE X pins σ tg R) X.xe s1) X.xe s
theorem QaW {M : Model} {A : Around} {E : Value -> Shared -> Prop} {s : Shared} {tg : Expr} {it : Addr} {u : Value} {o : Obj} {n : String} {vs : Array Value} {Q : Unit -> Shared -> Prop} (ho : s.heap.get? it = some o) (hc : o.cls = .type n) (hd : o.data = .fields vs)
  (hn:["enumerate","zip","dict_itemiterator","dict_reverseitemiterator","odict_iterator","itertools.zip_longest","itertools.pairwise"].contains n=false) (hQ:Q () s):wpAny M A (letOwnedTupleGo tg (.ref it) u) Q E s:=by
 unfold letOwnedTupleGo
 cases tg<;>first
  | exact wpAny_pure hQ
  | (cases u <;> first
    | exact wpAny_pure hQ
    | (refine wpAny_bind (wpAny_load ho ?_)
       rw[hc,hd]
       show wpAny M A (if (["enumerate","zip","dict_itemiterator","dict_reverseitemiterator","odict_iterator","itertools.zip_longest","itertools.pairwise"].contains n && vs[0]? == some (rawInt _))=true then _ else _) Q E s
       rw[if_neg (by intro h;rw[hn,Bool.false_and]at h;cases h)]
       exact wpAny_pure hQ))
def Itl (K:PySem.W.Frag) (a:Addr):It:=
 ⟨fun i H=>∃ xs x,SqL K H a xs/\xs[i]?=some x,fun i H x H'=>H'=H/\∀ xs,SqL K H a xs->xs[i]?=some x,fun i H=>∃ xs,SqL K H a xs/\xs.length<=i⟩
def Itt (K:PySem.W.Frag) (a:Addr):It:=
 ⟨fun i H=>∃ xs x,SqT K H a xs/\xs[i]?=some x,fun i H x H'=>H'=H/\∀ xs,SqT K H a xs->xs[i]?=some x,fun i H=>∃ xs,SqT K H a xs/\xs.length<=i⟩
def Itr (lo:Int) (n:Nat):It:=⟨fun i _=>i < n,fun i H x H'=>H'=H/\x=.int (lo + i),fun i _=>n<=i⟩
theorem QaX {P:Program}{w:World}{K:PySem.W.Frag}{tg:Expr} (a it:Addr):Turn P w K tg (Itl K a) [it] it (fun i h=>h.IsListIter it a i) where
 mem:=by simp
 obj:=fun i h st b hb=>by
  have e:b=it:=by simpa using hb
  subst e
  obtain⟨o,e,c,d⟩:=st
  exact⟨o,e,fun v z=>by rw[d]at z;cases z⟩
 keep:=fun i h h' st k=>st.at fun o e=>k it (by simp) o e
 item:=by
  intro X hP hw hK hc i pins s σ H E I hf st hg
  subst hP hw hK
  obtain⟨xs,x,hq,hx⟩:=hg
  obtain⟨its,rv,p,hz⟩:=I.list hq
  obtain⟨u,hu,ru⟩:=rv.get hx
  obtain⟨f0,f1,f2,f3,f4,f5⟩:=hf it (by simp)
  refine wpAny_pyNext_list_item st p.isList (x:=u) (by simpa using hu) fun h' st' sb=>?_
  have I1:Inv X pins σ H { s with heap:=h' }:=I.turned (t':=s.toks) (fun b o hb e=>(sb.2 b hb).trans e) f0 f1 f3 f4 f5
  obtain⟨o,e,c,d⟩:=id st'
  exact⟨u,rfl,QaW (s:={ s with heap:=h' }) e c d (by decide) ⟨x,H,I1,ru,⟨rfl,fun ys hy=>by rw[I.list_inj hy hq];exact hx⟩,st',fun b hb=>(hf b hb).1⟩⟩
 done:=by
  intro X hP hw hK hc i pins s σ H E I hf st hg
  subst hP hw hK
  obtain⟨xs,hq,hx⟩:=hg
  obtain⟨its,rv,p,hz⟩:=I.list hq
  obtain⟨f0,f1,f2,f3,f4,f5⟩:=hf it (by simp)
  have hl:=rv.length
  exact wpAny_pyNext_list_end (I.ok.hd hc) st p.isList (by simp;ac_nf) fun h' eb=>⟨rfl,I.turned (t':=s.toks) (fun b o hb e=>eb b o hb e) f0 f1 f3 f4 f5⟩
 self:=fun _ _ _ _ _ st h=>wpAny_pyIter_listiter st h
theorem QaY {P:Program}{w:World}{K:PySem.W.Frag}{tg:Expr} (a it:Addr):Turn P w K tg (Itt K a) [it] it (fun i h=>h.IsTupleIter it a i) where
 mem:=by simp
 obj:=fun i h st b hb=>by
  have e:b=it:=by simpa using hb
  subst e
  obtain⟨o,e,c,d⟩:=st
  exact⟨o,e,fun v z=>by rw[d]at z;cases z⟩
 keep:=fun i h h' st k=>st.at fun o e=>k it (by simp) o e
 item:=by
  intro X hP hw hK hc i pins s σ H E I hf st hg
  subst hP hw hK
  obtain⟨xs,x,hq,hx⟩:=hg
  obtain⟨its,rv,p,hz⟩:=I.tuple hq
  obtain⟨u,hu,ru⟩:=rv.get hx
  obtain⟨f0,f1,f2,f3,f4,f5⟩:=hf it (by simp)
  refine wpAny_pyNext_tuple_item st (show s.heap.IsTuple a its.toArray from p) (x:=u) (by simpa using hu) fun h' st' sb=>?_
  have I1:Inv X pins σ H { s with heap:=h' }:=I.turned (t':=s.toks) (fun b o hb e=>(sb.2 b hb).trans e) f0 f1 f3 f4 f5
  obtain⟨o,e,c,d⟩:=id st'
  exact⟨u,rfl,QaW (s:={ s with heap:=h' }) e c d (by decide) ⟨x,H,I1,ru,⟨rfl,fun ys hy=>by rw[I.tuple_inj hy hq];exact hx⟩,st',fun b hb=>(hf b hb).1⟩⟩
 done:=by
  intro X hP hw hK hc i pins s σ H E I hf st hg
  subst hP hw hK
  obtain⟨xs,hq,hx⟩:=hg
  obtain⟨its,rv,p,hz⟩:=I.tuple hq
  obtain⟨f0,f1,f2,f3,f4,f5⟩:=hf it (by simp)
  have hl:=rv.length
  exact wpAny_pyNext_tuple_end (I.ok.hd hc) st (show s.heap.IsTuple a its.toArray from p) (by simp;ac_nf) fun h' eb=>⟨rfl,I.turned (t':=s.toks) (fun b o hb e=>eb b o hb e) f0 f1 f3 f4 f5⟩
 self:=fun _ _ _ _ _ st h=>wpAny_pyIter_tupleiter st h
theorem QaZ {P:Program}{w:World}{K:PySem.W.Frag}{tg:Expr} (it:Addr) (lo:Int) (n:Nat):Turn P w K tg (Itr lo n) [it] it (fun i h=>IsRangeIter h it (lo + (i:Nat) * 1) ((n:Int) - (i:Nat)) 1) where
 mem:=by simp
 obj:=fun i h st b hb=>by
  have e:b=it:=by simpa using hb
  subst e
  exact⟨_,st,fun v z=>by
   have z':Data.fields _=Data.cell v:=z
   cases z'⟩
 keep:=fun i h h' st k=>k it (by simp) _ st
 item:=by
  intro X hP hw hK hc i pins s σ H E I hf st hg
  subst hP hw hK
  obtain⟨f0,f1,f2,f3,f4,f5⟩:=hf it (by simp)
  have W:=Walks.range (prog:=X.prog) (w:=X.w) (I.ok.hd hc) it lo 1 n
  refine W.item i s _ _ hg st fun v h' tk hv st' kk=>?_
  obtain⟨t,rfl⟩:=hv
  have I1:Inv X pins σ H { s with heap:=h',toks:=tk }:=I.turned (fun b o hb e=>kk b o (by simpa using hb) e) f0 f1 f3 f4 f5
  refine⟨_,rfl,QaW (s:={ s with heap:=h',toks:=tk }) (n:="range_iterator") st' rfl rfl (by decide) ⟨.int (lo + i),H,I1,⟨t,?_⟩,⟨rfl,rfl⟩,st',fun b hb=>(hf b hb).1⟩⟩
  rw[Int.mul_one]
 done:=by
  intro X hP hw hK hc i pins s σ H E I hf st hg
  subst hP hw hK
  obtain⟨f0,f1,f2,f3,f4,f5⟩:=hf it (by simp)
  exact wpAny_pyNext_range_end (I.ok.hd hc) st (by have:n<=i:=hg;ac_nf) fun h' eb=>⟨rfl,I.turned (t':=s.toks) (fun b o hb e=>eb b o hb e) f0 f1 f3 f4 f5⟩
 self:=fun _ _ _ _ _ st h=>wpAny_pyIter_rangeiter st h
section
variable {X:Cx}{tg:Expr}
def iList (K:PySem.W.Frag) (tl:TE):TI:=fun σ H R=>tl σ H fun x H1=>∃ a,x=.ref a/\(∃ xs,SqL K H1 a xs)/\R (Itl K a) H1
theorem Qa0 {l:Expr}{tl:TE} (hl:PE X l tl):PI X tg l (iList X.K tl):=by
 intro pins s σ H R I h
 refine thn (hl pins s σ H _ I h) fun v s1 pq17=>?_
 obtain⟨x,H1,I1,r1,q1⟩:=pq17
 obtain⟨a,e,⟨xs,hq⟩,q⟩:=q1
 subst e
 cases r1
 obtain⟨its,rv,p,hz⟩:=I1.list hq
 refine wpAny_pyIter_list p.isList ?_
 refine⟨s1.heap.objs.size,[s1.heap.objs.size],_,_,H1,rfl,I1.kept (t':=s1.toks) fun b o e=>Heap.get?_push_of_some _ e,QaX a _,⟨_,Heap.get?_push_size _ rfl,rfl,rfl⟩,fun b hb=>?_,q⟩
 have e:b=s1.heap.objs.size:=by simpa using hb
 subst e
 exact I1.fpOk (Nat.le_refl _) (I1.hok.fresh (Nat.le_refl _))
theorem Qa1 {pins : List (Addr × Obj)} {σ : St} {H : Hp} {s : Shared} {R : It -> Hp -> Prop} {E : Value -> Shared -> Prop} {lo hi : Int} {t u v : Tok} {tk : Nat} (I : Inv X pins σ H s) (h1 : -(2 ^ 62) <= lo) (h2 : lo < 2 ^ 62) (h3 : -(2 ^ 62) <= hi) (h4 : hi < 2 ^ 62)
  (q:R (Itr lo (hi - lo).toNat) H):wpAny (model X.prog X.w) X.A (pyIter (.ref s.heap.objs.size)) (PIE X pins σ tg R) E { s with heap:=s.heap.push { cls:=.type "range",data:=.fields #[.int lo t,.int hi u,.int 1 v] },toks:=tk }:=by
 refine wpAny_pyIter_range (IsRange.new ..) (small_one h1 h2 h3 h4) ?_
 have I1:Inv X pins σ H { s with heap:=s.heap.push { cls:=.type "range",data:=.fields #[.int lo t,.int hi u,.int 1 v] },toks:=tk }:=I.kept fun b o e=>Heap.get?_push_of_some _ e
 refine⟨(s.heap.push { cls:=.type "range",data:=.fields #[.int lo t,.int hi u,.int 1 v] }).objs.size,[(s.heap.push { cls:=.type "range",data:=.fields #[.int lo t,.int hi u,.int 1 v] }).objs.size],_,_,H,rfl,
  I1.kept (t':=tk) fun b o e=>Heap.get?_push_of_some _ e,QaZ _ lo (hi - lo).toNat,?_,fun b hb=>?_,q⟩
 ·have e1:lo + ((0:Nat):Int) * 1=lo:=by simp
  have e2:(((hi - lo).toNat:Nat):Int) - ((0:Nat):Int)=Builtin.Range.rangeSize lo hi 1:=by rw[rangeSize_one];split<;>ac_nf
  show IsRangeIter _ _ (lo + ((0:Nat):Int) * 1) ((((hi - lo).toNat:Nat):Int) - ((0:Nat):Int)) 1
  rw[e1,e2]
  exact Heap.get?_push_size _ rfl
 ·have e:b=(s.heap.push { cls:=.type "range",data:=.fields #[.int lo t,.int hi u,.int 1 v] }).objs.size:=by simpa using hb
  subst e
  exact I1.fpOk (Nat.le_refl _) (I1.hok.fresh (Nat.le_refl _))
def iRng1 (ta:TA):TI:=fun σ H R=>ta σ H fun vs H1=>∃ j:Int,vs=[.int j] /\ -(2 ^ 62)<=j/\j < 2 ^ 62/\R (Itr 0 j.toNat) H1
def iRng2 (ta:TA):TI:=fun σ H R=>ta σ H fun vs H1=>∃ i j:Int,vs=[.int i,.int j]/\(-(2 ^ 62)<=i/\i < 2 ^ 62 /\ -(2 ^ 62)<=j/\j < 2 ^ 62)/\R (Itr i (j - i).toNat) H1
theorem Qa2 {a:Expr}{ta:TA}{p pos:Pos} (hg:Gl X "range") (hm:X.mg "range"=none) (ha:PA X [a] ta) (hs:starEach [a] X.env=[(false,eval a X.env)]:=by rfl):PI X tg (.Call (.Name "range" p) [a] [] pos) (iRng1 ta):=by
 intro pins s σ H R I h
 refine Call_ (QaA I hg hm boot_range (PyProof.Rows.callWith_type1 (thn (ha pos pins s σ H _ I h) fun us s1 ⟨vs,H1,I1,r1,q1⟩=>?_) hs rfl))
 obtain⟨j,e,q1,q2,q⟩:=q1
 subst e
 cases r1 with
 | cons r rr=>
  cases rr
  obtain⟨t,rfl⟩:=r
  exact call_range_1 (Qa1 I1 (by ac_nf) (by ac_nf) q1 q2 (by simpa using q))
theorem Qa3 {a b : Expr} {ta : TA} {p pos : Pos} (hg : Gl X "range") (hm : X.mg "range" = none) (ha : PA X [a, b] ta) (hs : starEach [a, b] X.env = [(false, eval a X.env), (false, eval b X.env)] := by rfl) (hs2 : starEach [b] X.env = [(false, eval b X.env)] := by rfl) :
  PI X tg (.Call (.Name "range" p) [a,b] [] pos) (iRng2 ta):=by
 intro pins s σ H R I h
 refine Call_ (QaA I hg hm boot_range (PyProof.Rows.callWith_type1 (thn (ha pos pins s σ H _ I h) fun us s1 ⟨vs,H1,I1,r1,q1⟩=>?_) (by rw[hs,hs2]) (by rw[hs2];rfl)))
 obtain⟨i,j,e,⟨q1,q2,q3,q4⟩,q⟩:=q1
 subst e
 cases r1 with
 | cons r rr=>
  cases rr with
  | cons r' rr=>
   cases rr
   obtain⟨t,rfl⟩:=r
   obtain⟨t',rfl⟩:=r'
   exact call_range_2 (Qa1 I1 q1 q2 q3 q4 q)
def tFor (wi:TI) (g:TG) (tb:TS):TS:=fun D σ H=>wi σ H fun J H1=>∃ W:Nat->Nat->St->Hp->Prop,(∃ m,W 0 m σ H1)/\∀ i m σ H,W i m σ H ->
 (J.stop i H/\D.nx σ H)\/(J.go i H/\∃ N:St->Hp->Prop,(∀ σ' H',N σ' H'->∃ m',m' < m/\W (i + 1) m' σ' H')/\∀ x H',J.yld i H x H'->g x σ H' fun σ2 H2=>tb { D with nx:=N,ct:=N,bk:=D.nx } σ2 H2)
def pinsAt (fp:List Addr) (h:Heap):List (Addr × Obj):=fp.filterMap fun b=>(h.get? b).map fun o=>(b,o)
theorem Qa4 {fp:List Addr}{h:Heap}{b:Addr}{o:Obj} (hb:b∈fp) (e:h.get? b=some o):(b,o)∈pinsAt fp h:=List.mem_filterMap.mpr ⟨b,hb,by rw[e];rfl⟩
theorem Qa5 {fp:List Addr}{h:Heap}{p:Addr × Obj} (hp:p∈pinsAt fp h):p.1∈fp/\h.get? p.1=some p.2:=by
 obtain⟨b,hb,e⟩:=List.mem_filterMap.mp hp
 cases q:h.get? b with
 | none=>rw[q]at e;cases e
 | some o=>
  rw[q]at e
  have e':(b,o)=p:=Option.some.inj e
  subst e'
  exact⟨hb,q⟩
theorem Inv.pinned {pins:List (Addr × Obj)}{σ:St}{H:Hp}{s:Shared}{fp:List Addr} (I:Inv X pins σ H s) (hf:∀ b∈fp,FpOk X pins H b) (ho:∀ b∈fp,∃ o,s.heap.get? b=some o/\∀ v,o.data≠.cell v):Inv X (pins++pinsAt fp s.heap) σ H s:=
 I.pins_of fun p hp=>(List.mem_append.mp hp).elim (fun z=>I.pin p (List.mem_append_right _ z)) fun z=>by
  obtain⟨hb,e⟩:=Qa5 z
  obtain⟨f0,f1,f2,_⟩:=hf p.1 hb
  obtain⟨o,e',d⟩:=ho p.1 hb
  rw[e]at e';cases e'
  exact⟨e,f0,f1,f2,d⟩
theorem Inv.unpinned {pins pl:List (Addr × Obj)}{σ:St}{H:Hp}{s:Shared} (I:Inv X (pins++pl) σ H s):Inv X pins σ H s:=I.pins_of fun p hp=>I.pin p (List.mem_append_right _ (List.mem_append_left _ hp))
theorem Qa6 {iter : Expr} {body : List Stmt} {wi : TI} {g : TG} {tb : TS} {pos : Pos} (hp : PassesOwn (model X.prog X.w) X.A X.env X.xe) (hc : X.calm = true) (hi : PI X tg iter wi) (hg : PG X tg g) (hb : PSs X body tb)
  (hs:∀ x,foldedSetIterable iter X.env x=pure x:=by intro _;rfl):PS X (.For tg iter body [] pos) (tFor wi g tb):=by
 intro pins s σ H D I h
 refine wpAny_For (thn (hi pins s σ H _ I h) fun v s1 h1=>thn h1 fun itv s2 h2=>?_) hs
 obtain⟨it,fp,tn,J,H2,e,I2,T,st2,f2,W,⟨m0,w0⟩,turn⟩:=h2
 subst e
 have stat:∀ {H':Hp},(∀ b∈fp,H' b=none)->∀ b∈fp,FpOk X pins H' b:=fun hn b hb=>⟨hn b hb,(f2 b hb).2⟩
 refine codeAny_forLoop_any (fun n s'=>∃ i σ' H',Inv X pins σ' H' s'/\tn i s'.heap/\(∀ b∈fp,H' b=none)/\W i n σ' H') ?_ m0 ⟨0,σ,H2,I2,st2,fun b hb=>(f2 b hb).1,w0⟩
 rintro n s3 ⟨i,σ3,H3,I3,st3,fr3,w3⟩
 rcases turn i n σ3 H3 w3 with ⟨stop,qn⟩ | ⟨go,N,hN,step⟩
 ·refine wpAny_passesOwn hp (thn (T.done X rfl rfl rfl hc i pins s3 σ3 H3 X.xe I3 (stat fr3) st3 stop) fun r s4 pq20=>?_)
  obtain⟨hr,I4⟩:=pq20
  subst hr
  exact wpAny_execs_nil ⟨σ3,H3,I4,qn⟩
 ·refine wpAny_passesOwn hp (thn (T.item X rfl rfl rfl hc i pins s3 σ3 H3 X.xe I3 (stat fr3) st3 go) fun r s4 pq21=>?_)
  obtain⟨u,hr,h4⟩:=pq21
  subst hr
  refine wpAny_passesOwn hp (thn h4 fun _ s5 pq22=>?_)
  obtain⟨x,H5,I5,r5,y5,st5,fr5⟩:=pq22
  have I5':=I5.pinned (stat fr5) (T.obj _ _ st5)
  refine wpAny_passesOwn hp (thn (hg _ s5 σ3 H5 x u _ I5' r5 (step x H5 y5)) fun _ s6 pq23=>?_)
  obtain⟨σ6,H6,I6,q6⟩:=pq23
  refine wpAny_passesOwn hp (thn (hb _ s6 σ6 H6 _ I6 q6) fun f s7 q7=>?_)
  have again:∀ {σ7:St}{H7:Hp},Inv X (pins++pinsAt fp s5.heap) σ7 H7 s7->N σ7 H7->∃ m,m < n/\∃ i σ' H',Inv X pins σ' H' s7/\tn i s7.heap/\(∀ b∈fp,H' b=none)/\W i m σ' H':=fun {σ7 H7} I7 n7=>by
   obtain⟨m',hm,w7⟩:=hN σ7 H7 n7
   refine⟨m',hm,i + 1,σ7,H7,I7.unpinned,T.keep _ _ _ st5 fun b hb o e=>(I7.pin (b,o) (List.mem_append_right _ (List.mem_append_right _ (Qa4 hb e)))).1,fun b hb=>?_,w7⟩
   obtain⟨o,e,d⟩:=T.obj _ _ st5 b hb
   exact (I7.pin (b,o) (List.mem_append_right _ (List.mem_append_right _ (Qa4 hb e)))).2.1
  cases f with
  | next=>obtain⟨σ7,H7,I7,n7⟩:=q7;exact again I7 n7
  | cont=>obtain⟨σ7,H7,I7,n7⟩:=q7;exact again I7 n7
  | brk=>obtain⟨σ7,H7,I7,q7⟩:=q7;exact⟨σ7,H7,I7.unpinned,q7⟩
  | ret v=>obtain⟨x7,σ7,H7,I7,r7,q7⟩:=q7;exact⟨x7,σ7,H7,I7.unpinned,r7,q7⟩
end
abbrev R2:=V->V->Hp->VK->Prop
def OpR (X:Cx) (f:Value->Value->Sem Value) (r:R2):Prop:=
 ∀ (pins:List (Addr × Obj)) (s:Shared) (σ:St) (H:Hp) (x y:V) (v u:Value) (Q:VK),Inv X pins σ H s->RelV x v->RelV y u->r x y H Q ->
  wpAny (model X.prog X.w) X.A (f v u) (EP X pins σ Q) X.xe s
def UnR (X:Cx) (f:Value->Sem Value) (r:V->Hp->VK->Prop):Prop:=
 ∀ (pins:List (Addr × Obj)) (s:Shared) (σ:St) (H:Hp) (x:V) (v:Value) (Q:VK),Inv X pins σ H s->RelV x v->r x H Q ->
  wpAny (model X.prog X.w) X.A (f v) (EP X pins σ Q) X.xe s
def CallR (X:Cx) (f:Value) (r:List V->Hp->VK->Prop):Prop:=
 ∀ (pins:List (Addr × Obj)) (s:Shared) (σ:St) (H:Hp) (xs:List V) (us:List Value) (Q:VK),Inv X pins σ H s->Vals xs us->r xs H Q ->
  wpAny (model X.prog X.w) X.A (call f us) (EP X pins σ Q) X.xe s
def TruR (X:Cx) (r:V->Hp->(Bool->Hp->Prop)->Prop):Prop:=
 ∀ (pins:List (Addr × Obj)) (s:Shared) (σ:St) (H:Hp) (x:V) (v:Value) (Q:Bool->Hp->Prop),Inv X pins σ H s->RelV x v->r x H Q ->
  wpAny (model X.prog X.w) X.A (truthy v) (TP X pins σ Q) X.xe s
def tOp (r:R2) (ta tb:TE):TE:=fun σ H Q=>ta σ H fun x H1=>tb σ H1 fun y H2=>r x y H2 Q
def tUn (r:V->Hp->VK->Prop) (ta:TE):TE:=fun σ H Q=>ta σ H fun x H1=>r x H1 Q
def rI (C:Int->Int->Prop) (g:Int->Int->V):R2:=fun x y H Q=>∃ i j,x=.int i/\y=.int j/\C i j/\Q (g i j) H
def rI0 (g:Int->Int->V):R2:=fun x y H Q=>∃ i j,x=.int i/\y=.int j/\Q (g i j) H
def rU (g:Int->V):V->Hp->VK->Prop:=fun x H Q=>∃ i,x=.int i/\Q (g i) H
section
variable {X:Cx}{a b c:Expr}{ta tb tc:TE}{pos:Pos}
theorem binT (ha : PE X a ta) (hb : PE X b tb) {pins : List (Addr × Obj)} {s : Shared} {σ : St} {H : Hp} {R : V -> V -> Hp -> Prop} (I : Inv X pins σ H s)
  (h:ta σ H fun x H1=>tb σ H1 fun y H2=>R x y H2) {Q:Value->Shared->Prop}{f:Value->Value->Sem Value}
  (hf:∀ v u s2 x y H2,Inv X pins σ H2 s2->RelV x v->RelV y u->R x y H2->wpAny (model X.prog X.w) X.A (f v u) Q X.xe s2):
  wpAny (model X.prog X.w) X.A (eval a X.env) (fun v s₁=>wpAny (model X.prog X.w) X.A (eval b X.env) (fun u s₂=>wpAny (model X.prog X.w) X.A (f v u) Q X.xe s₂) X.xe s₁) X.xe s:=by
 refine thn (ha pins s σ H _ I h) fun v s1 pq24=>?_
 obtain⟨x,H1,I1,r1,q1⟩:=pq24
 refine thn (hb pins s1 σ H1 _ I1 q1) fun u s2 pq25=>?_
 obtain⟨y,H2,I2,r2,q2⟩:=pq25
 exact hf v u s2 x y H2 I2 r1 r2 q2
theorem Qa7 {op:Operator}{r:R2} (ho:OpR X (binaryOp op) r) (ha:PE X a ta) (hb:PE X b tb):PE X (.BinOp a op b pos) (tOp r ta tb):=by
 intro pins s σ H Q I h
 exact wpAny_BinOp (binT ha hb I h fun v u s2 x y H2 I2 rx ry q=>ho pins s2 σ H2 x y v u Q I2 rx ry q)
theorem Qa8 {op:UnaryOp}{r:V->Hp->VK->Prop} (ho:UnR X (unaryOp op) r) (ha:PE X a ta):PE X (.UnaryOp op a pos) (tUn r ta):=by
 intro pins s σ H Q I h
 exact UnaryOp_ (thn (ha pins s σ H _ I h) fun v s1 pq26=>by obtain⟨x,H1,I1,r1,q1⟩:=pq26;exact ho pins s1 σ H1 x v Q I1 r1 q1)
theorem opI {f : Value -> Value -> Sem Value} {C : Int -> Int -> Prop} {g : Int -> Int -> Int}
  (rule:∀ (i j:Int) (t u:Tok) (s:Shared) (Q:Value->Shared->Prop) (E:Value->Shared->Prop),C i j->Q (.int (g i j) s.toks) { s with toks:=s.toks + 1 }->wpAny (model X.prog X.w) X.A (f (.int i t) (.int j u)) Q E s):
  OpR X f (rI C fun i j=>.int (g i j)):=by
 intro pins s σ H x y v u Q I rx ry h
 obtain⟨i,j,rfl,rfl,hc,q⟩:=h
 obtain⟨t,rfl⟩:=rx
 obtain⟨t',rfl⟩:=ry
 exact rule i j t t' s _ _ hc ⟨.int (g i j),H,I.tok _,⟨_,rfl⟩,q⟩
theorem opI0 {f : Value -> Value -> Sem Value} {g : Int -> Int -> Int}
  (rule:∀ (i j:Int) (t u:Tok) (s:Shared) (Q:Value->Shared->Prop) (E:Value->Shared->Prop),Q (.int (g i j) s.toks) { s with toks:=s.toks + 1 }->wpAny (model X.prog X.w) X.A (f (.int i t) (.int j u)) Q E s):
  OpR X f (rI0 fun i j=>.int (g i j)):=by
 intro pins s σ H x y v u Q I rx ry h
 obtain⟨i,j,rfl,rfl,q⟩:=h
 obtain⟨t,rfl⟩:=rx
 obtain⟨t',rfl⟩:=ry
 exact rule i j t t' s _ _ ⟨.int (g i j),H,I.tok _,⟨_,rfl⟩,q⟩
theorem opB0 {f : Value -> Value -> Sem Value} {g : Int -> Int -> Bool}
  (rule:∀ (i j:Int) (t u:Tok) (s:Shared) (Q:Value->Shared->Prop) (E:Value->Shared->Prop),Q (.bool (g i j)) s->wpAny (model X.prog X.w) X.A (f (.int i t) (.int j u)) Q E s):
  OpR X f (rI0 fun i j=>.bl (g i j)):=by
 intro pins s σ H x y v u Q I rx ry h
 obtain⟨i,j,rfl,rfl,q⟩:=h
 obtain⟨t,rfl⟩:=rx
 obtain⟨t',rfl⟩:=ry
 exact rule i j t t' s _ _ ⟨.bl (g i j),H,I,rfl,q⟩
def CDiv (i j:Int):Prop:=0 < j/\j < 1073741824
def CPow (i j:Int):Prop:=0<=j/\j<=1000000/\i.natAbs < 2 ^ 64
def CMul (i j:Int):Prop:=(-(2 ^ 64) < i/\i < 2 ^ 64)\/(-(2 ^ 64) < j/\j < 2 ^ 64)
theorem CMul.ok {i j:Int} (h:CMul i j):IntMulOk i j:=by
 rcases h with ⟨h1,h2⟩ | ⟨h1,h2⟩
 ·exact .of_left (intBits_le_64 h1 h2)
 ·exact .of_right (intBits_le_64 h1 h2)
theorem Qa9:OpR X (binaryOp .Add) (rI0 fun i j=>.int (i + j)):=opI0 fun _ _ _ _ _ _ _ q=>add_int q
theorem Qba:OpR X (binaryOp .Sub) (rI0 fun i j=>.int (i - j)):=opI0 fun _ _ _ _ _ _ _ q=>sub_int q
theorem Qbb:OpR X (binaryOp .Mult) (rI CMul fun i j=>.int (i * j)):=opI fun _ _ _ _ _ _ _ hc q=>mul_int q hc.ok
theorem Qbc:OpR X (binaryOp .FloorDiv) (rI CDiv fun i j=>.int (i / j)):=opI fun i j _ _ _ _ _ hc q=>by
 have h1:(0:Int) < j:=hc.1
 have h2:j < 1073741824:=hc.2
 exact floordiv_int (by ac_nf) (by rw[Int.fdiv_eq_ediv_of_nonneg i (by ac_nf)];exact q) (.inl (PyProof.noPylong_small (by ac_nf)))
theorem Qbd:OpR X (binaryOp .Mod) (rI (fun _ j=>0 < j) fun i j=>.int (i % j)):=opI fun i j _ _ _ _ _ hc q=>by
 have h1:(0:Int) < j:=hc
 exact mod_int' (by ac_nf) (by rw[Int.fmod_eq_emod_of_nonneg i (by ac_nf)];exact q)
theorem Qbe:OpR X (binaryOp .Pow) (rI CPow fun i j=>.int (i ^ j.toNat)):=opI fun _ _ _ _ _ _ _ hc q=>pow_int_small hc.1 hc.2.1 hc.2.2 q
theorem unI {f : Value -> Sem Value} {g : Int -> Int}
  (rule:∀ (i:Int) (t:Tok) (s:Shared) (Q:Value->Shared->Prop) (E:Value->Shared->Prop),Q (.int (g i) s.toks) { s with toks:=s.toks + 1 }->wpAny (model X.prog X.w) X.A (f (.int i t)) Q E s):
  UnR X f (rU fun i=>.int (g i)):=by
 intro pins s σ H x v Q I rx h
 obtain⟨i,rfl,q⟩:=h
 obtain⟨t,rfl⟩:=rx
 exact rule i t s _ _ ⟨.int (g i),H,I.tok _,⟨_,rfl⟩,q⟩
theorem Qbf:UnR X (unaryOp .USub) (rU fun i=>.int (-i)):=unI fun _ _ _ _ _ q=>neg_int q
end
section
variable {X:Cx}{a b c:Expr}{ta tb tc:TE}{pos:Pos}
theorem Qbg:OpR X (compareOp .Lt) (rI0 fun i j=>.bl (decide (i < j))):=opB0 fun _ _ _ _ _ _ _ q=>lt_int q
theorem Qbh:OpR X (compareOp .LtE) (rI0 fun i j=>.bl (decide (i<=j))):=opB0 fun _ _ _ _ _ _ _ q=>le_int q
theorem Qbi:OpR X (compareOp .Gt) (rI0 fun i j=>.bl (decide (j < i))):=opB0 fun _ _ _ _ _ _ _ q=>gt_int q
theorem Qbj:OpR X (compareOp .GtE) (rI0 fun i j=>.bl (decide (j<=i))):=opB0 fun _ _ _ _ _ _ _ q=>ge_int q
theorem Qbl {op:CmpOp}{r:R2} (ho:OpR X (compareOp op) r) (ha:PE X a ta) (hb:PE X b tb) (hm:behindInMarks op b=false):PE X (.Compare a [op] [b] pos) (tOp r ta tb):=by
 intro pins s σ H Q I h
 exact wpAny_Compare1 (binT ha hb I h fun v u s2 x y H2 I2 rx ry q=>ho pins s2 σ H2 x y v u Q I2 rx ry q) hm
def tTest (t:TE):TT:=fun σ H Q=>t σ H fun x H'=>∃ k,x=.bl k/\Q k H'
theorem Qbm {op:CmpOp}{r:R2} (ho:OpR X (compareOp op) r) (ha:PE X a ta) (hb:PE X b tb) (hm:behindInMarks op b=false):PT X (.Compare a [op] [b] pos) (tTest (tOp r ta tb)):=by
 intro pins s σ H Q I h
 refine wpAny_isTrue_Compare1 (thn (ha pins s σ H _ I h) fun v s1 ⟨x,H1,I1,r1,q1⟩=>thn (hb pins s1 σ H1 _ I1 q1) fun u s2 ⟨y,H2,I2,r2,q2⟩=>
  thn (ho pins s2 σ H2 x y v u _ I2 r1 r2 q2) fun c s3 ⟨z,H3,I3,r3,k,e,q3⟩=>?_) hm
 subst e
 cases r3
 exact wpAny_truthy_bool ⟨H3,I3,q3⟩
def TruV (K:PySem.W.Frag) (x:V) (H:Hp) (k:Bool):Prop:=
 match x with
 | .non=>k=false
 | .bl b=>k=b
 | .int i=>k=(i != 0)
 | .str y=>y.length<=sizeLine/\k=((y.length:Int) != 0)
 | .byt y=>y.size<=sizeLine/\k=((y.size:Int) != 0)
 | .ref p=>(∃ xs,SqL K H p xs/\k = !xs.isEmpty)\/(∃ xs,SqT K H p xs/\k = !xs.isEmpty)\/∃ kvs,H p=some (.dK kvs)/\k = !kvs.isEmpty
 | _=>False
theorem Qbn {κ:Type}{kvs:List (κ × V)}{vs:List (κ × Value)} (r:KV kvs vs):(!vs.isEmpty) = !kvs.isEmpty:=by
 cases r<;>rfl
theorem Qbo {xs:List V}{its:List Value} (r:Vals xs its):(!its.toArray.isEmpty) = !xs.isEmpty:=by
 cases r<;>simp
theorem Qbp:(sizeLine:Nat) < 2 ^ 63:=by rw[sizeLine_eq];decide
theorem Qbq:TruR X (fun x H Q=>∃ k,TruV X.K x H k/\Q k H):=by
 intro pins s σ H x v Q I rx h
 obtain⟨k,e,q⟩:=h
 have hl:=Qbp
 have hs:sizeLine=16777216:=sizeLine_eq
 cases x with
 | non=>
  cases rx
  have e':k=false:=e
  subst e'
  exact truthy_none ⟨H,I,q⟩
 | bl b=>
  cases rx
  have e':k=b:=e
  subst e'
  exact wpAny_truthy_bool ⟨H,I,q⟩
 | int i=>
  obtain⟨t,rfl⟩:=rx
  have e':k=(i != 0):=e
  subst e'
  exact PySem.P.truthy_int ⟨H,I,q⟩
 | str y=>
  obtain⟨t,rfl⟩:=rx
  obtain⟨hy,e'⟩:y.length<=sizeLine/\k=((y.length:Int) != 0):=e
  subst e'
  exact PySem.P.truthy_str (by ac_nf) ⟨H,I.tok _,q⟩
 | byt y=>
  obtain⟨t,rfl⟩:=rx
  obtain⟨hy,e'⟩:y.size<=sizeLine/\k=((y.size:Int) != 0):=e
  subst e'
  exact PySem.W.truthy_bytes (by ac_nf) ⟨H,I.tok _,q⟩
 | ref p=>
  cases rx
  have e':(∃ xs,SqL X.K H p xs/\k = !xs.isEmpty)\/(∃ xs,SqT X.K H p xs/\k = !xs.isEmpty)\/∃ kvs,H p=some (.dK kvs)/\k = !kvs.isEmpty:=e
  rcases e' with ⟨xs,hx,e'⟩ | ⟨xs,hx,e'⟩ | ⟨kvs,hx,e'⟩
  ·subst e'
   obtain⟨its,r,pl,hz⟩:=I.list hx
   have hlen:=r.length
   exact wpAny_truthy_list pl.isList (by simp only[List.size_toArray];ac_nf) ⟨H,I.tok _,by rw[Qbo r];exact q⟩
  ·subst e'
   obtain⟨its,r,pl,hz⟩:=I.tuple hx
   have hlen:=r.length
   exact truthy_tuple pl (by simp only[List.size_toArray];ac_nf) ⟨H,I.tok _,by rw[Qbo r];exact q⟩
  ·subst e'
   obtain⟨hz,hS,vs,r,m⟩:kvs.length<=sizeLine/\(p == sysModules)=false/\∃ vs,KV kvs vs/\s.heap.DictOf (mixKind X.prog X.w) p vs:=I.hok p _ hx
   have hlen:kvs.length=vs.length:=Paired.length r
   exact wpAny_truthy_dict hS m (by ac_nf) ⟨H,I.tok _,by rw[Qbn r];exact q⟩
 | _=>exact (show False from e).elim
theorem Qbr (ha : PE X a ta) (he : ∀ whole, isTrue a X.env whole = (do let v <- whole; standAt a.pos; holding [v] (truthy v))) :
  PT X a (fun σ H Q=>ta σ H fun x H'=>∃ k,TruV X.K x H' k/\Q k H'):=by
 intro pins s σ H Q I h
 exact isTrue_plain (thn (ha pins s σ H _ I h) fun v s1 pq27=>by obtain⟨x,H1,I1,r1,q1⟩:=pq27;exact Qbq pins s1 σ H1 x v Q I1 r1 q1) (he _)
theorem Qbs:OpR X (binaryOp .Add) (fun x y H Q=>∃ i j,x=.str i/\y=.str j/\i.length + j.length<=sizeLine/\Q (.str (i++j)) H):=by
 intro pins s σ H x y v u Q I rx ry h
 obtain⟨i,j,rfl,rfl,hz,q⟩:=h
 obtain⟨t,rfl⟩:=rx
 obtain⟨t',rfl⟩:=ry
 exact add_str (fun t' tk=>⟨.str (i++j),H,I.tok _,⟨_,rfl⟩,q⟩) hz
theorem Qbt {x:V}{us:List Value} (r:Vals [x] us):∃ u,us=[u]/\RelV x u:=by
 cases r with
 | cons r1 r2=>cases r2;exact⟨_,rfl,r1⟩
theorem Qbu {x y:V}{us:List Value} (r:Vals [x,y] us):∃ u w',us=[u,w']/\RelV x u/\RelV y w':=by
 cases r with
 | cons r1 r2=>
  cases r2 with
  | cons r3 r4=>cases r4;exact⟨_,_,rfl,r1,r3⟩
theorem Qbv (hc:X.calm=true):CallR X (.builtin "max") (fun xs H Q=>∃ i j,xs=[.int i,.int j]/\Q (.int (if j > i then j else i)) H):=by
 intro pins s σ H xs us Q I r h
 obtain⟨i,j,rfl,q⟩:=h
 obtain⟨u,w',rfl,⟨t,rfl⟩,⟨t',rfl⟩⟩:=Qbu r
 refine max_two_ints (I.ok.hd hc) fun h' tk k=>⟨_,H,I.kept k,?_,q⟩
 by_cases hj:j > i
 ·rw[if_pos hj,if_pos hj];exact⟨_,rfl⟩
 ·rw[if_neg hj,if_neg hj];exact⟨_,rfl⟩
theorem Qbw (hc:X.calm=true):CallR X (.builtin "min") (fun xs H Q=>∃ i j,xs=[.int i,.int j]/\Q (.int (if j < i then j else i)) H):=by
 intro pins s σ H xs us Q I r h
 obtain⟨i,j,rfl,q⟩:=h
 obtain⟨u,w',rfl,⟨t,rfl⟩,⟨t',rfl⟩⟩:=Qbu r
 refine min_two_ints (I.ok.hd hc) fun h' tk k=>⟨_,H,I.kept k,?_,q⟩
 by_cases hj:j < i
 ·rw[if_pos hj,if_pos hj];exact⟨_,rfl⟩
 ·rw[if_neg hj,if_neg hj];exact⟨_,rfl⟩
theorem Qbx:CallR X (.type "int") (fun xs H Q=>(∃ i,xs=[.int i]/\Q (.int i) H)\/∃ k,xs=[.bl k]/\Q (.int (if k then 1 else 0)) H):=by
 intro pins s σ H xs us Q I r h
 rcases h with ⟨i,rfl,q⟩ | ⟨k,rfl,q⟩
 ·obtain⟨u,rfl,t,rfl⟩:=Qbt r
  exact call_int_int ⟨.int i,H,I,⟨_,rfl⟩,q⟩
 ·obtain⟨u,rfl,r1⟩:=Qbt r
  cases r1
  exact call_int_bool ⟨.int (if k then 1 else 0),H,I.tok _,⟨_,rfl⟩,q⟩
end
structure ObjM (h:Heap) (x dx C:Addr) (mA:Str->Option Value):Prop where
 obj:h.get? x=some (PySem.W.instObj C dx)
 ns:h.Ns1 dx mA
 ne:dx≠x
theorem Qby {h:Heap}{dx:Addr}{mA:Str->Option Value} (n:h.Ns1 dx mA):∃ od,h.get? dx=some od/\∀ name,PySem.W.lookIn name od=some (mA name):=by
 obtain⟨o,es,ep,ho,hd,hk,_,hm⟩:=n
 refine⟨o,ho,fun name=>?_⟩
 have e:=hm name
 unfold nsFind findBy at e
 rw[<- Array.find?_toList]at e
 unfold PySem.W.lookIn
 rw[hd]
 dsimp only
 split
 ·rename_i y q
  rw[q]at e
  exact congrArg some e
 ·rename_i q
  rw[q]at e
  have a:es.toList.any (·.refKey)=false:=by
   rw[List.any_eq_false]
   intro y hy
   obtain⟨z,t,hkey⟩:=hk y (Array.mem_toList_iff.mp hy)
   simp[DictEntry.refKey,hkey]
  have a':¬ es.toList.any (·.refKey)=true:=by rw[a];exact Bool.false_ne_true
  rw[if_neg a']
  exact congrArg some e
theorem ObjM.look {h:Heap}{x dx C:Addr}{mA:Str->Option Value} (I:ObjM h x dx C mA):∃ od,PySem.W.InstAt h x (PySem.W.instObj C dx) C (some od)/\∀ name,PySem.W.lookIn name od=some (mA name):=
 let ⟨od,ho,hl⟩:=Qby I.ns
 ⟨od,⟨I.obj,rfl,rfl,ho⟩,hl⟩
theorem RelO.some_of {v:V}{o:Option Value} (r:RelO (some v) o):∃ u,o=some u/\RelV v u:=by
 cases o with
 | none=>exact (show False from r).elim
 | some u=>exact⟨u,rfl,r⟩
section
variable {P:Program}{w:World}{H H':Hp}{h h':Heap}{a C dx:Addr}{fs fs':List (Str × V)}
theorem Qbz (hok:HOk P w H h) (e:H a=some (.ins C dx fs)):∃ mA,ObjM h a dx C mA/\(∀ f,RelO (fs.lookup f) (mA f))/\PySem.Within mA (fs.map (·.1))/\fs.length<=1000/\H dx=some (.own a):=by
 obtain⟨d,z,ne,ob,mA,n,r,q⟩:=(show ObjOk P w H h a (.ins C dx fs) from hok a _ e)
 exact⟨mA,⟨ob,n,ne⟩,r,q,z,d⟩
end
structure Cls (K:PySem.W.Frag) (C:Addr):Prop where
 pg:PySem.W.plainGet K C Str.empty=true
 hd:PySem.W.hasDictIn K C=true
 po:PySem.W.plainOver K C=true
 sa:PySem.W.findIn K (.ref C) "__setattr__"=some (some (.builtin "object.__setattr__"))
theorem Cls.get {K:PySem.W.Frag}{C:Addr} (c:Cls K C) (f:Str):PySem.W.plainGet K C f=true:=c.pg
section
variable {X:Cx}{o e value:Expr}{f:Str}{pos pos' tpos:Pos}{ta tv:TE}
def rSub:V->V->Hp->VK->Prop:=fun x y H Q=>∃ i j,x=.int i/\y=.int j/\Q (.int (i - j)) H
end
section
variable {X:Cx}{pins:List (Addr × Obj)}{σ:St}{H:Hp}{s:Shared}{A:Around}{E:Value->Shared->Prop}{Q:Value->Shared->Prop}{c:Value}{b:Bool}
inductive TyOf (K:PySem.W.Frag) (H:Hp):V->Value->Prop where
 | non:TyOf K H .non (.type "NoneType")
 | bl (x:Bool):TyOf K H (.bl x) (.type "bool")
 | int (i:Int):TyOf K H (.int i) (.type "int")
 | str (x:Str):TyOf K H (.str x) (.type "str")
 | flt (x:UInt64):TyOf K H (.flt x) (.type "float")
 | lst {a:Addr}{xs:List V} (e:H a=some (.lst xs)):TyOf K H (.ref a) (.type "list")
 | frz {a:Addr}{o:Obj}{xs:List V} (e:H a=some (.frz o (.lst xs))):TyOf K H (.ref a) (.type "list")
 | tup {a:Addr}{xs:List V} (e:H a=some (.tup xs)):TyOf K H (.ref a) (.type "tuple")
 | dK {a:Addr}{kvs:List (Key × V)} (e:H a=some (.dK kvs)):TyOf K H (.ref a) (.type "dict")
 | dT {a:Addr}{kvs:List (List Key × V)} (e:H a=some (.dT kvs)):TyOf K H (.ref a) (.type "dict")
 | ins {a C dx : Addr} {fs : List (Str × V)} (e : H a = some (.ins C dx fs)) (cl : Cls K C) (ha : PySem.W.findIn K (.ref C) "__class__" = some (some (.builtin "object.__class__")))
   (hn:PySem.W.specialIn K (.builtin "object.__class__") "__get__"=some (some (.builtin "getset_descriptor.__get__"))) (htk:PySem.W.takesIn K (.builtin "object.__class__")=some true)
   (hm:PySem.W.mroIn K C (.type "object")=some true):TyOf K H (.ref a) (.ref C)
theorem QbA {x : V} {u t : Value} (I : Inv X pins σ H s) (rx : RelV x u) (ty : TyOf X.K H x t) (e : PySem.W.kitOne X.K t c = some b) (h : ∀ tk, Q (.bool b) { s with toks := tk }) :
  wpAny (model X.prog X.w) A (call (.builtin "isinstance") [u,c]) Q E s:=by
 cases ty with
 | non=>cases (show u=Value.none from rx);exact PySem.W.kia_one PySem.W.kitx_none I.kIn True.intro e (fun z=>nomatch z) h
 | bl y=>cases (show u=Value.bool y from rx);exact PySem.W.kia_one PySem.W.kitx_bool I.kIn True.intro e (fun z=>nomatch z) h
 | int i=>obtain⟨t,q⟩:=(show ∃ t,u=Value.int i t from rx);cases q;exact PySem.W.kia_one PySem.W.kitx_int I.kIn True.intro e (fun z=>nomatch z) h
 | str y=>obtain⟨t,q⟩:=(show ∃ t,u=Value.str y t from rx);cases q;exact PySem.W.kia_one PySem.W.kitx_str I.kIn True.intro e (fun z=>nomatch z) h
 | flt y=>obtain⟨t,q⟩:=(show ∃ t,u=Value.float y t from rx);cases q;exact PySem.W.kia_one PySem.W.kitx_float I.kIn True.intro e (fun z=>nomatch z) h
 | @lst a xs ea=>
  cases (show u=Value.ref a from rx)
  obtain⟨_,_,n,_,h1⟩:=(show ObjOk X.prog X.w H s.heap a (.lst xs) from I.hok a _ ea)
  exact PySem.W.kia_one PySem.W.kitx_list I.kIn ⟨_,h1,rfl⟩ e (fun z=>nomatch z) h
 | @frz a ob xs ea=>
  cases (show u=Value.ref a from rx)
  obtain⟨_,_,_,n,_,h1⟩:=(show ObjOk X.prog X.w H s.heap a (.frz ob (.lst xs)) from I.hok a _ ea)
  exact PySem.W.kia_one PySem.W.kitx_list I.kIn ⟨_,h1,rfl⟩ e (fun z=>nomatch z) h
 | @tup a xs ea=>
  cases (show u=Value.ref a from rx)
  obtain⟨_,_,_,p⟩:=(show ObjOk X.prog X.w H s.heap a (.tup xs) from I.hok a _ ea)
  obtain⟨o,h1,h2,_⟩:=p
  exact PySem.W.kia_one PySem.W.kitx_tuple I.kIn ⟨o,h1,h2⟩ e (fun z=>nomatch z) h
 | @dK a kvs ea=>
  cases (show u=Value.ref a from rx)
  obtain⟨_,_,vs,_,p⟩:=(show ObjOk X.prog X.w H s.heap a (.dK kvs) from I.hok a _ ea)
  obtain⟨o,es,ep,h1,h2,_⟩:=p
  exact PySem.W.kia_one PySem.W.kitx_dict I.kIn ⟨o,h1,h2.1⟩ e (fun z=>nomatch z) h
 | @dT a kvs ea=>
  cases (show u=Value.ref a from rx)
  obtain⟨_,_,xs,_,o,es,ep,h1,h2,_⟩:=(show ObjOk X.prog X.w H s.heap a (.dT kvs) from I.hok a _ ea)
  exact PySem.W.kia_one PySem.W.kitx_dict I.kIn ⟨o,h1,h2.1⟩ e (fun z=>nomatch z) h
 | @ins a C dx fs ea cl ha hn htk hm=>
  cases (show u=Value.ref a from rx)
  obtain⟨mA,O,_⟩:=Qbz I.hok ea
  obtain⟨od,J,_⟩:=O.look
  exact PySem.W.kia_one (PySem.W.kitx_own (cl.get _) cl.hd ha hn htk hm) I.kIn J e (fun z=>nomatch z) h
end
structure Room (k:Nat) (A:Around):Prop where
 hd:A.handled=none
 dp:A.depth + 3 * k + 5 < recursionLimit
 un:A.units + 16 * k + 200 < cLine
theorem Room.mono {j k:Nat}{A:Around} (r:Room k A) (h:j<=k):Room j A:=⟨r.hd,by have:=r.dp;ac_nf,by have:=r.un;ac_nf⟩
theorem Room.deeper {k:Nat}{A:Around} (r:Room (k + 1) A) (env:Env):Room k (A.deeper env):=
 ⟨r.hd,by have:=r.dp;show A.depth + 1 + 3 * k + 5 < _;ac_nf,by have:=r.un;show A.units + 3 + 16 * k + 200 < _;ac_nf⟩
theorem Room.depth {k:Nat}{A:Around} (r:Room k A):A.depth < recursionLimit:=by have:=r.dp;ac_nf
theorem Room.units {k:Nat}{A:Around} (r:Room k A):A.units + 64 < cLine:=by have:=r.un;ac_nf
def tNil:TA:=fun _ H Q=>Q [] H
def tCons (ta:TE) (tr:TA):TA:=fun σ H Q=>ta σ H fun x H1=>tr σ H1 fun xs H2=>Q (x::xs) H2
section
variable {X:Cx}{e:Expr}{es:List Expr}{te:TE}{t:TA}{pos:Pos}
theorem QbD:PA X [] tNil:=fun _ _ _ _ H Q I h=>Calls.spliced_nil ⟨[],H,I,.nil,h⟩
theorem QbE (ha:PE X e te) (hr:PA X es t) (hs:starEach (e::es) X.env=(false,eval e X.env)::starEach es X.env:=by rfl):PA X (e::es) (tCons te t):=by
 intro pos pins s σ H Q I h
 rw[hs]
 show wpAny _ _ (spliced ((false,eval e X.env)::backTo pos (starEach es X.env))) _ _ s
 refine Calls.spliced_cons (thn (ha pins s σ H _ I h) fun u s1 pq28=>?_)
 obtain⟨x,H1,I1,r1,q1⟩:=pq28
 exact thn (hr pos pins s1 σ H1 _ I1 q1) fun us s2 pq29=>by obtain⟨xs,H2,I2,r2,q2⟩:=pq29;exact⟨x::xs,H2,I2,.cons r1 r2,q2⟩
def tTup (t:TA):TE:=fun σ H Q=>t σ H fun xs H1=>xs.length<=sizeLine/\∀ p,H1 p=none->Q (.ref p) (upd H1 p (.tup xs))
def tLst (t:TA):TE:=fun σ H Q=>t σ H fun xs H1=>xs.length<=sizeLine/\∀ p,H1 p=none->Q (.ref p) (upd H1 p (.lst xs))
theorem QbF {x1} (h:PA X es t):PE X (.Tuple es x1 pos) (tTup t):=by
 intro pins s σ H Q I hq
 refine wpAny_Tuple_spliced (thn (h pos pins s σ H _ I hq) fun us s1 ⟨xs,H1,I1,r,z,q⟩=>⟨by rw[<- r.length];exact z,?_⟩)
 have hf:H1 s1.heap.objs.size=none:=I1.hok.fresh (Nat.le_refl _)
 refine⟨.ref s1.heap.objs.size,upd H1 s1.heap.objs.size (.tup xs),I1.laid (t':=s1.toks) (fun b u e=>Heap.get?_push_of_some _ e) (Nat.le_refl _) ?_,rfl,q _ hf⟩
 exact⟨z,us,r,⟨_,Heap.get?_push_size _ rfl,rfl,_,rfl⟩⟩
theorem QbG (h:PA X es t):PE X (.List es pos) (tLst t):=by
 intro pins s σ H Q I hq
 refine wpAny_List_spliced (thn (h pos pins s σ H _ I hq) fun us s1 ⟨xs,H1,I1,r,z,q⟩=>⟨by rw[<- r.length];exact z,?_⟩)
 have hf:H1 s1.heap.objs.size=none:=I1.hok.fresh (Nat.le_refl _)
 refine⟨.ref s1.heap.objs.size,upd H1 s1.heap.objs.size (.lst xs),I1.laid (t':=s1.toks) (fun b u e=>Heap.get?_push_of_some _ e) (Nat.le_refl _) ?_,rfl,q _ hf⟩
 exact⟨z,us,0,r,Heap.get?_push_size _ rfl⟩
end
abbrev Sp:=List V->Hp->VK->XK->Prop
abbrev CXT:=List Env->Hp->Shared->XK->Value->Shared->Prop
structure Env0 (P:Program) (w:World) (K:PySem.W.Frag) (mg:Str->Option Value) (base:Heap) (A:Around) (outer:List Env) (s:Shared) (H:Hp):Prop where
 frames:A.frames=some outer
 mod:Mod K mg base
 bs:∀ b o,base.get? b=some o->s.heap.get? b=some o/\H b=none
 bsz:base.objs.size<=s.heap.objs.size
 funs:s.heap.FunFrames base outer
 frf:∀ b∈frs outer,H b=none
 hok:HOk P w H s.heap
 bare:AllBare s.gens
def CE (outer:List Env) (P:Program) (w:World) (H:Hp) (s:Shared) (Q:VK) (u:Value) (s':Shared):Prop:=
 ∃ v H',s'.os=s.os/\AllBare s'.gens/\Un (frs outer) [] H H' s.heap s'.heap/\HOk P w H' s'.heap/\RelV v u/\Q v H'
def CR (CX:CXT) (outer:List Env) (P:Program) (w:World) (H:Hp) (s:Shared) (Q:VK) (E:XK) (r:Result) (s':Shared):Prop:=
 match r with
 | .ok (.ret u)=>CE outer P w H s Q u s'
 | .ok _=>False
 | .error e=>CX outer H s E e s'
structure FnOk (P:Program) (w:World) (K:PySem.W.Frag) (mg:Str->Option Value) (base:Heap) (CX:CXT) (k:Nat) (f:Addr) (fd:FuncData) (ps:List Str) (sp:Sp):Prop where
 len:∀ vs H Q E,sp vs H Q E->vs.length=ps.length
 run:∀ (A:Around) (outer:List Env) (s:Shared) (H:Hp) (args:Args) (us:List Value) (vs:List V) (Q:VK) (E:XK),Room k A->Env0 P w K mg base A outer s H->BindsTo s fd args (ps.zip us)->Vals vs us->sp vs H Q E ->
  codeAny (model P w) A (.call (.ref f) args) (CR CX outer P w H s Q E) s
section
variable {X:Cx}{pins:List (Addr × Obj)}{σ:St}{H:Hp}{s s':Shared}
theorem Inv.env0 (I:Inv X pins σ H s):Env0 X.prog X.w X.K X.mg X.base X.A X.stack s H:=
 ⟨I.ok.frames,I.ok.mod,I.bs,Nat.le_trans I.ok.bsz I.sz,I.stack,I.stkFree,I.hok,I.bare⟩
theorem Inv.after {Q:VK}{u:Value} (I:Inv X pins σ H s) (h:CE X.stack X.prog X.w H s Q u s'):EP X pins σ Q u s':=by
 obtain⟨v,H',os,bare,un,hok,r,q⟩:=h
 obtain⟨hh,g,d,t,os'⟩:=s'
 obtain rfl:os'=s.os:=os
 exact⟨v,H',I.call (h':=hh) (g':=g) (d':=d) (t':=t) (ch:=[]) un hok bare (fun b z=>absurd z (by simp)),r,q⟩
end
def tCall (sp:Sp) (dvs:List V) (E:XK) (t:TA):TE:=fun σ H Q=>t σ H fun vs H1=>sp (vs++dvs) H1 Q E
def Binds (K:PySem.W.Frag) (fd:FuncData) (ps:List Str) (ds:List Value):Prop:=
 ∀ (s:Shared) (us:List Value),K.In s.heap->(us++ds).length=ps.length->BindsTo s fd ⟨us,[]⟩ (ps.zip (us++ds))
theorem Binds.all {K:PySem.W.Frag}{fd:FuncData}{ps:List Str} (h:∀ us:List Value,us.length=ps.length->bindArgs fd ⟨us,[]⟩=pure (ps.zip us)):Binds K fd ps []:=fun s us _ hl=>by
 rw[List.append_nil]at hl ⊢
 exact .of_eq (h us hl)
def Passes (CX:CXT) (X:Cx) (E:XK):Prop:=∀ (pins:List (Addr × Obj)) (σ:St) (H:Hp) (s:Shared) (e:Value) (s':Shared),Inv X pins σ H s->CX X.stack H s E e s'->X.xe e s'
section
variable {X:Cx}{CX:CXT}{k:Nat}{f C:Addr}{fd:FuncData}{ps:List Str}{sp:Sp}{dvs:List V}{ds:List Value}{E:XK}{x m:Str}{p pos apos:Pos}{e o:Expr}{es:List Expr}{ta:TE}{t:TA}
theorem QbH {pins : List (Addr × Obj)} {σ : St} {H : Hp} {s : Shared} {Q : VK} {us : List Value} {vs : List V} (F : FnOk X.prog X.w X.K X.mg X.base CX k f fd ps sp) (hr : Room k X.A) (hb : Binds X.K fd ps ds) (hd : Vals dvs ds) (hx : Passes CX X E)
  (I:Inv X pins σ H s) (r:Vals vs us) (h:sp (vs++dvs) H Q E):wpAny (model X.prog X.w) X.A (call (.ref f) us) (EP X pins σ Q) X.xe s:=by
 have r2:Vals (vs++dvs) (us++ds):=r.append hd
 have hl:(us++ds).length=ps.length:=by rw[<- r2.length];exact F.len _ _ _ _ h
 refine wpAny_call (codeAny_mono (F.run X.A X.stack s H ⟨us,[]⟩ (us++ds) (vs++dvs) Q E hr I.env0 (hb s us I.kIn hl) r2 h) fun r s' hq=>?_)
 cases r with
 | error e=>exact hx pins σ H s e s' I hq
 | ok fl=>
  cases fl with
  | ret u=>exact I.after hq
  | next=>exact False.elim hq
  | brk=>exact False.elim hq
  | cont=>exact False.elim hq
theorem QbI (F : FnOk X.prog X.w X.K X.mg X.base CX k f fd ps sp) (hr : Room k X.A) (hg : Gl X x) (hm : X.mg x = some (.ref f)) (hk : PySem.W.keepIn X.K (.ref f) = true) (hb : Binds X.K fd ps ds) (hd : Vals dvs ds) (hx : Passes CX X E)
  (ha:PA X (e::es) t) (hdb:(x == ("__debug__":Str))=false:=by decide) (he:starEach (e::es) X.env=(false,eval e X.env)::starEach es X.env:=by rfl) (hpl:(backTo pos (starEach es X.env)).any (·.1)=false:=by rfl):
  PE X (.Call (.Name x p) (e::es) [] pos) (tCall sp dvs E t):=by
 intro pins s σ H Q I h
 refine wpAny_Call_Name_kw (Qaz I hg hm ?_ hdb)
 refine PySem.W.callWith_K (h₀:=X.base) I.ok.mod.kin hk (thn (ha pos pins s σ H _ I h) fun us s1 ⟨vs,H1,I1,r,q⟩=>⟨I1.kIn,?_⟩) he hpl
 exact QbH F hr hb hd hx I1 r q
end
def PK (X:Cx) (kws:List Keyword) (t:TA):Prop:=
 ∀ (pos:Pos) (pins:List (Addr × Obj)) (s:Shared) (σ:St) (H:Hp) (Q:List V->Hp->Prop),Inv X pins σ H s->t σ H Q->wpAny (model X.prog X.w) X.A (evalAll ((backToKw pos (keywordEach kws X.env)).map (·.2))) (AP X pins σ Q) X.xe s
section
variable {X:Cx}{CX:CXT}{k:Nat}{f C:Addr}{fd:FuncData}{ps ks:List Str}{sp:Sp}{E:XK}{x m:Str}{p pos apos kpos:Pos}{e o:Expr}{es:List Expr}{kws:List Keyword}{te ta:TE}{t tk:TA}{nm:Option Str}
theorem QbJ:PK X [] tNil:=fun _ _ _ _ H Q I h=>wpAny_evalAll_nil ⟨[],H,I,.nil,h⟩
theorem QbK (ha:PE X e te) (hr:PK X kws t):PK X (⟨nm,e,kpos⟩::kws) (tCons te t):=by
 intro pos pins s σ H Q I h
 show wpAny _ _ (evalAll ((do let v <- eval e X.env;standAt pos;pure v)::(backToKw pos (keywordEach kws X.env)).map (·.2))) _ _ s
 refine wpAny_evalAll_cons (wpAny_bind (thn (ha pins s σ H _ I h) fun u s1 ⟨x,H1,I1,r1,q1⟩=>wpAny_bind (wpAny_standAt (wpAny_pure ?_))))
 exact thn (hr pos pins s1 σ H1 _ I1 q1) fun us s2 pq34=>by obtain⟨xs,H2,I2,r2,q2⟩:=pq34;exact⟨x::xs,H2,I2,.cons r1 r2,q2⟩
variable {g:List Value->List Value->List Value}{gV:List V->List V->List V}
end
structure FnScope (N P:List Str) (sc:Scope):Prop where
 kind:sc.kind=.function
 co:sc.isCoroutine=false
 gen:sc.isGenerator=false
 nd:N.Nodup
 pre:N.take P.length=P
 par:∀ x∈P,sc.names.lookup x=some .local\/sc.names.lookup x=some .cell
 nofree:∀ y∈sc.names,y.2≠.free
theorem QbL {kindOf:Str->Option NameKind}{x:Str}:∀ {binds:List (Str × Value)}{m:Str->Option Value},(∀ v,(x,v)∉binds)->bindL kindOf binds m x=m x
 | [],_,_=>rfl
 | (n,v)::r,m,h=>by
  unfold bindL
  rw[QbL fun w hw=>h w (List.mem_cons_of_mem _ hw)]
  split
  ·have:x≠n:=by rintro rfl;exact h v List.mem_cons_self
   simp[this]
  ·rfl
theorem QbM {kindOf:Str->Option NameKind}{x:Str}:∀ {binds:List (Str × Value)}{m:Str->Option Value},(∀ v,(x,v)∉binds)->bindC kindOf binds m x=m x
 | [],_,_=>rfl
 | (n,v)::r,m,h=>by
  unfold bindC
  rw[QbM fun w hw=>h w (List.mem_cons_of_mem _ hw)]
  split
  ·rfl
  ·have:x≠n:=by rintro rfl;exact h v List.mem_cons_self
   simp[this]
theorem QbN {kindOf : Str -> Option NameKind} {x : Str} {v : Value} : ∀ {P : List Str} {vs : List Value} {i : Nat} {m : Str -> Option Value}, P.Nodup -> P[i]? = some x -> vs[i]? = some v -> kindOf x = some .local ->
  bindL kindOf (P.zip vs) m x=some v
 | [],_,_,_,_,h,_,_=>by simp at h
 | _::_,[],_,_,_,_,h,_=>by simp at h
 | p::P,w::vs,0,m,nd,h1,h2,hk=>by
  simp at h1 h2;subst h1;subst h2
  show bindL kindOf ((p,w)::P.zip vs) m p=_
  unfold bindL
  rw[QbL fun v hv=>(List.nodup_cons.mp nd).1 (List.of_mem_zip hv).1,if_pos hk]
  simp
 | p::P,w::vs,i + 1,m,nd,h1,h2,hk=>by
  show bindL kindOf ((p,w)::P.zip vs) m x=_
  unfold bindL
  exact QbN (i:=i) (List.nodup_cons.mp nd).2 (by simpa using h1) (by simpa using h2) hk
theorem QbO {kindOf : Str -> Option NameKind} {x : Str} {v : Value} : ∀ {P : List Str} {vs : List Value} {i : Nat} {m : Str -> Option Value}, P.Nodup -> P[i]? = some x -> vs[i]? = some v -> kindOf x ≠ some .local ->
  bindC kindOf (P.zip vs) m x=some v
 | [],_,_,_,_,h,_,_=>by simp at h
 | _::_,[],_,_,_,_,h,_=>by simp at h
 | p::P,w::vs,0,m,nd,h1,h2,hk=>by
  simp at h1 h2;subst h1;subst h2
  show bindC kindOf ((p,w)::P.zip vs) m p=_
  unfold bindC
  rw[QbM fun v hv=>(List.nodup_cons.mp nd).1 (List.of_mem_zip hv).1,if_neg hk]
  simp
 | p::P,w::vs,i + 1,m,nd,h1,h2,hk=>by
  show bindC kindOf ((p,w)::P.zip vs) m x=_
  unfold bindC
  exact QbO (i:=i) (List.nodup_cons.mp nd).2 (by simpa using h1) (by simpa using h2) hk
def start (N:List Str) (vs:List V):St:=vs.map some++List.replicate (N.length - vs.length) none
def cxOf (CX:CXT) (P:Program) (w:World) (K:PySem.W.Frag) (mg:Str->Option Value) (base:Heap) (N:List Str) (qual:Str) (scope:Scope) (f:Addr) (cd:Value) (A:Around) (outer:List Env) (s:Shared) (H:Hp) (E:XK):Cx where
 prog:=P
 w:=w
 K:=K
 mg:=mg
 base:=base
 A:=A.deeper (envOfC qual scope s.heap.objs.size f cd)
 N:=N
 s₀:=s
 H₀:=H
 env:=envOfC qual scope s.heap.objs.size f cd
 outer:=outer
 stack:=envOfC qual scope s.heap.objs.size f cd::outer
 ex:=[]
 calm:=true
 fn:=fun _=>true
 pn:=[]
 xe:=fun e s'=>wpAny (model P w) (A.deeper (envOfC qual scope s.heap.objs.size f cd)) (leaving (envOfC qual scope s.heap.objs.size f cd) e) (fun _ s''=>CX outer H s E e s'') (fun e' s''=>CX outer H s E e' s'') s'
theorem QbP {sc:Scope}{n:Nat}{x:Str} (h:sc.names.lookup x=some .cell):∃ c,(cellsFrom n sc.names []).lookup x=some c:=by
 have q:=PySem.W.cellsFrom_some sc.names n [] (.inl h)
 exact Option.isSome_iff_exists.mp q
theorem QbQ {CX : CXT} {P : Program} {w : World} {K : PySem.W.Frag} {mg : Str -> Option Value} {base : Heap} {N ps : List Str} {qual : Str} {scope : Scope} {f : Addr} {cd : Value} {A : Around} {outer : List Env} {s s1 : Shared} {H : Hp} {E : XK} {us : List Value} {vs : List V}
  (S:FnScope N ps scope) (hd:A.handled=none) (e0:Env0 P w K mg base A outer s H) (hl:vs.length=ps.length) (r:Vals vs us)
  (x:InCallC s s.heap.objs.size (bindL (envOfC qual scope s.heap.objs.size f cd).kindOf (ps.zip us) fun _=>none) (cellsFrom (s.heap.objs.size + 1) scope.names []) (bindC (envOfC qual scope s.heap.objs.size f cd).kindOf (ps.zip us) fun _=>none) s1):
  Inv (cxOf CX P w K mg base N qual scope f cd A outer s H E) [] (start N vs) H s1:=by
 have hpl:ps.length<=N.length:=by have:=congrArg List.length S.pre;rw[List.length_take]at this;ac_nf
 obtain⟨h1,tk,rfl,hk⟩:=x.done
 have noA:∀ b:Addr,b∉(cxOf CX P w K mg base N qual scope f cd A outer s H E).ex:=fun b z=>absurd (show b∈([]:List Addr) from z) (by simp)
 refine⟨⟨e0.mod,S.kind,rfl,rfl,Nat.le_refl _,fun y z c h1 h2=>?_,fun y hy=>?_,fun y c _ h=>?_,fun _=>hd,Around.frames_deeper e0.frames,.inr ⟨rfl,rfl⟩,fun b z=>absurd z (noA b),e0.bs,e0.bsz,fun b _ _=>noA b,fun b z=>absurd z (noA b),e0.funs,e0.frf⟩,
  rfl,e0.bare,Un.kept hk,⟨_,x.toInCall.ns,fun i y v h1 h2 h3=>?_⟩,fun y c h=>⟨_,x.cell y c h⟩,e0.hok.fresh (Nat.le_refl _),fun y c h=>?_,fun p hp=>absurd (show p∈([]:List (Addr × Obj)) from hp) (by simp),e0.hok.kept hk,?_⟩
 ·exact name_of_addr x.apart (PySem.mem_of_lookup h1) (PySem.mem_of_lookup h2)
 ·have hy:scope.names.lookup y=some .cell\/scope.names.lookup y=some .free:=hy
  rcases hy with hy | hy
  ·exact QbP hy
  ·exact absurd rfl (S.nofree _ (PySem.mem_of_lookup hy))
 ·exact Nat.le_of_lt (x.above y c (PySem.mem_of_lookup h))
 ·have hi : i < vs.length := by
    unfold start at h2
    by_cases hi:i < vs.length
    ·exact hi
    ·rw[List.getElem?_append_right (by simpa using hi)]at h2
     rw[List.getElem?_replicate]at h2
     split at h2<;>cases h2
  have ha:vs[i]?=some v:=by
   unfold start at h2
   rw[List.getElem?_append_left (by simpa using hi),List.getElem?_map]at h2
   cases e:vs[i]? with
   | none=>rw[e]at h2;cases h2
   | some a=>rw[e]at h2;cases h2;rfl
  obtain⟨u,hu,rv⟩:=r.get ha
  have hp:ps[i]?=some y:=by
   rw[<- S.pre,List.getElem?_take_of_lt (by ac_nf)];exact h1
  have ndP:ps.Nodup:=by rw[<- S.pre];exact S.nd.sublist (List.take_sublist _ _)
  refine⟨u,rv,?_⟩
  rcases S.par y (List.mem_of_getElem? hp) with k | k
  ·exact .inl ⟨k,QbN ndP hp hu k⟩
  ·obtain⟨c,e⟩:=QbP (n:=s.heap.objs.size + 1) k
   refine .inr ⟨.inl k,c,e,?_⟩
   have q:=x.cell y c e
   rw[QbO ndP hp hu (by show scope.names.lookup y≠_;rw[k];decide)]at q
   exact q
 ·exact e0.hok.fresh (Nat.le_of_lt (x.above y c (PySem.mem_of_lookup h)))
 ·unfold start
  show _=N.length
  rw[List.length_append,List.length_map,List.length_replicate]
  ac_nf
theorem QbR {CX : CXT} {P : Program} {w : World} {K : PySem.W.Frag} {mg : Str -> Option Value} {base : Heap} {k : Nat} {f : Addr} {name qual : Str} {params : Arguments} {body : List Stmt} {scope : Scope} {dV kV doc pm cdv ct oc : Value} {an od : Option Addr}
  {osl:Array (Option Value)}{N ps:List Str}{sp:Sp} (lk:K.lookup f=some ⟨oc,od,.func (PySem.W.fnOf name qual params body scope dV kV doc pm an cdv ct),osl⟩) (hcd:PySem.W.codeIn K cdv qual=true) (S:FnScope N ps scope)
  (len:∀ vs H Q E,sp vs H Q E->vs.length=ps.length)
  (hbody:∀ (A:Around) (outer:List Env) (s:Shared) (H:Hp) (vs:List V) (Q:VK) (E:XK),Room k (A.deeper (envOfC qual scope s.heap.objs.size f cdv))->sp vs H Q E ->
   ∃ t,PSs (cxOf CX P w K mg base N qual scope f cdv A outer s H E) body t/\t { nx:=fun _ H'=>Q .non H',rt:=Q } (start N vs) H):
  FnOk P w K mg base CX (k + 1) f (PySem.W.fnOf name qual params body scope dV kV doc pm an cdv ct) ps sp:=by
 refine⟨len,fun A outer s H args us vs Q E hr e0 hb r hsp=>?_⟩
 have hl:=len _ _ _ _ hsp
 have KX:K.In s.heap:=e0.mod.kin.keeps fun b o e=>(e0.bs b o e).1
 have lim:s.heap.NoLimit:=e0.mod.nolimit.keeps fun b o e=>(e0.bs b o e).1
 have hkind:∀ y∈ps.zip us,scope.names.lookup y.1=some .local\/(scope.names.lookup y.1=some .cell/\((cellsFrom (s.heap.objs.size + 1) scope.names []).lookup y.1).isSome=true):=fun pq35 hy=>by
  obtain⟨n,v⟩:=pq35
  rcases S.par n (List.of_mem_zip hy).1 with q | q
  ·exact .inl q
  ·exact .inr ⟨q,PySem.W.cellsFrom_some _ _ _ (.inl q)⟩
 refine codeAny_call_function hr.depth (KX _ _ lk) rfl S.co S.gen rfl (PySem.W.codeRec_of KX hcd) (hb _ _ _ _ ?_)
 refine wpAny_newFunctionEnv_cells S.kind hkind fun env he s1 x=>?_
 subst he
 refine⟨lim.keeps x.toInCall.keep,codeAny_func ?_⟩
 obtain⟨t,ht,hq⟩:=hbody A outer s H vs Q E (hr.deeper _) hsp
 have I:Inv (cxOf CX P w K mg base N qual scope f cdv A outer s H E) [] (start N vs) H s1:=QbQ S hr.hd e0 hl r x
 refine wpAny_mono (ht [] s1 (start N vs) H _ I hq) (fun fl s' hs=>?_) fun e s' hs=>hs
 have fin:∀ {σ':St}{H':Hp}{v:V}{u:Value},Inv (cxOf CX P w K mg base N qual scope f cdv A outer s H E) [] σ' H' s'->RelV v u->Q v H'->CE outer P w H s Q u s':=
  fun {σ' H' v u} J rv q=>⟨v,H',J.os,J.bare,J.base,J.hok,rv,q⟩
 cases fl with
 | ret u=>
  obtain⟨v,σ',H',J,rv,q⟩:=hs
  exact fin J rv q
 | next=>
  obtain⟨σ',H',J,q⟩:=hs
  exact fin (v:=V.non) (u:=Value.none) J rfl q
 | brk=>
  obtain⟨_,_,_,q⟩:=hs
  exact False.elim q
 | cont=>
  obtain⟨_,_,_,q⟩:=hs
  exact False.elim q
section
variable {X:Cx}{x:Str}{p pos:Pos}{e:Expr}{es:List Expr}{t:TA}{id T:String}{r:List V->Hp->VK->Prop}
def tCB (r:List V->Hp->VK->Prop) (t:TA):TE:=fun σ H Q=>t σ H fun vs H1=>r vs H1 Q
theorem QbS (hc : CallR X (.builtin id) r) (hg : Gl X x) (hm : X.mg x = none) (hv : bootBuiltins x = some (.builtin id)) (ha : PA X (e :: es) t) (hn : x ≠ "__name__" := by decide) (hdb : (x == ("__debug__" : Str)) = false := by decide)
  (he:starEach (e::es) X.env=(false,eval e X.env)::starEach es X.env:=by rfl) (hpl:(backTo pos (starEach es X.env)).any (·.1)=false:=by rfl):PE X (.Call (.Name x p) (e::es) [] pos) (tCB r t):=by
 intro pins s σ H Q I h
 refine wpAny_Call_Name_kw (QaA I hg hm hv ?_ hn hdb)
 exact PyProof.Rows.callWith_builtin1 (thn (ha pos pins s σ H _ I h) fun us s1 pq36=>by obtain⟨vs,H1,I1,r1,q1⟩:=pq36;exact hc pins s1 σ H1 vs us Q I1 r1 q1) he hpl
theorem QbT (hc : CallR X (.type T) r) (hg : Gl X x) (hm : X.mg x = none) (hv : bootBuiltins x = some (.type T)) (ha : PA X (e :: es) t) (hn : x ≠ "__name__" := by decide) (hdb : (x == ("__debug__" : Str)) = false := by decide)
  (he:starEach (e::es) X.env=(false,eval e X.env)::starEach es X.env:=by rfl) (hpl:(backTo pos (starEach es X.env)).any (·.1)=false:=by rfl):PE X (.Call (.Name x p) (e::es) [] pos) (tCB r t):=by
 intro pins s σ H Q I h
 refine wpAny_Call_Name_kw (QaA I hg hm hv ?_ hn hdb)
 exact PyProof.Rows.callWith_type1 (thn (ha pos pins s σ H _ I h) fun us s1 pq37=>by obtain⟨vs,H1,I1,r1,q1⟩:=pq37;exact hc pins s1 σ H1 vs us Q I1 r1 q1) he hpl
end
end L2
namespace HT
open PySem PyProof.Rows
theorem eqAt_int (A:Around) (s:Shared) (a:Int) (t:Tok) (c:Int) (u:Tok):∃ e,SeqAt.EqAt A s (.int a t) (.int c u) e/\(e=true↔a=c):=
 ⟨(a == c),SeqAt.EqAt.int_int a t c u,by simp⟩
section
open PySem.SeqAt
open PySem.AutoSeq1 (wpAny_loadPart')
open PySem.MeetsSeq PySem.MeetsSeq2 PySem.MeetsSeq3
end
section
variable {prog:Program}{w:World}{A:Around}{E:Value->Shared->Prop}{s:Shared}
theorem cat_tup {t b : Addr} {vs ws : List Value} {Q : Value -> Shared -> Prop} (ht : IsTup s.heap t vs.toArray) (hb : IsTup s.heap b ws.toArray) (hv : vs ≠ [])
  (h1:ws=[]->Q (.ref t) s) (h2:ws≠[]->Q (.ref s.heap.objs.size) { s with heap:=s.heap.push { cls:=.type "tuple",data:=.seq (vs++ws).toArray } })
  (hsz:vs.length + ws.length<=sizeLine):wpAny (model prog w) A (binaryOp .Add (.ref t) (.ref b)) Q E s:=by
 obtain⟨⟨cls,dd,data,sl⟩,ho,hc,n,hd⟩:=id ht
 obtain⟨⟨cls2,dd2,data2,sl2⟩,ho2,hc2,n2,hd2⟩:=id hb
 simp only at hc hd hc2 hd2
 subst hc hd hc2 hd2
 have e:vs.toArray++ws.toArray=(vs++ws).toArray:=by simp
 by_cases hw:ws=[]
 ·exact concat_meets ⟨_, ho, rfl⟩ ⟨_, ho2, rfl⟩ noFill_tuple_add seq_tuple_add PySem.F.slot_tuple_add PySem.F.entry_tuple_add (PySem.F.args_tuple_add_2 _ _)
    (tuple_addW1 t b vs.toArray ws.toArray n n2 dd dd2 sl sl2 (by simpa using hv) (by simp[hw])) ⟨ho,ho2,h1 hw⟩
 ·refine concat_meets ⟨_, ho, rfl⟩ ⟨_, ho2, rfl⟩ noFill_tuple_add seq_tuple_add PySem.F.slot_tuple_add PySem.F.entry_tuple_add (PySem.F.args_tuple_add_2 _ _)
    (tuple_addW2 t b vs.toArray ws.toArray n n2 dd dd2 sl sl2 (by simpa using hv) (by simpa using hw) (by rw[List.size_toArray,List.size_toArray];exact hsz)) ⟨ho,ho2,?_⟩
  rw[e]
  exact h2 hw
def sIx (n d:Nat):Option Int->Nat
 | none=>d
 | some v=>if v < 0 then (v + (n:Int)).toNat else min v.toNat n
theorem QbU (n d:Nat) (hd:d<=n) (o:Option Int):sIx n d o<=n:=by
 cases o with
 | none=>exact hd
 | some v=>
  show (if v < 0 then (v + (n:Int)).toNat else min v.toNat n)<=n
  by_cases hv:v < 0
  ·rw[if_pos hv];ac_nf
  ·rw[if_neg hv];exact Nat.min_le_right _ _
theorem QbV (v:Int) (n d:Nat):(if v < 0 then max (v + (n:Int)) 0 else min v (n:Int))=((sIx n d (some v):Nat):Int):=by
 show (if v < 0 then max (v + (n:Int)) 0 else min v (n:Int))=(((if v < 0 then (v + (n:Int)).toNat else min v.toNat n):Nat):Int)
 by_cases hv:v < 0
 ·simp only[if_pos hv];ac_nf
 ·simp only[if_neg hv];ac_nf
theorem QbW (lo hi:Option Int) (n:Nat):Builtin.Slice.sliceAdjust lo hi 1 (n:Int)=(((sIx n 0 lo:Nat):Int),((sIx n n hi:Nat):Int)):=by
 have h1:¬ ((1:Int) < 0):=by ac_nf
 unfold Builtin.Slice.sliceAdjust
 simp only[h1,if_false]
 refine Prod.ext ?_ ?_
 ·cases lo with
  | none=>rfl
  | some v=>exact QbV v n 0
 ·cases hi with
  | none=>rfl
  | some v=>exact QbV v n n
theorem QbX (i j:Nat):Builtin.Slice.slicePlaces (i:Int) (j:Int) 1=j - i:=by
 unfold Builtin.Slice.slicePlaces
 have h1:(1:Int) > 0:=by ac_nf
 simp only[h1,if_true,Int.ediv_one]
 split<;>ac_nf
theorem QbY {v:Value}{o:Option Int}{Q:Option Int->Shared->Prop} (p:IsPart v o) (h:Q o s):wpAny (model prog w) A (Builtin.Slice.slicePartIndex v) Q E s:=by
 cases p with
 | none=>exact slicePart_none h
 | int i t=>exact slicePart_int h
theorem QbZ {sl : Addr} {vl vu : Value} {lo hi : Option Int} {n : Nat} {Q : Int × Int × Nat -> Shared -> Prop} (hs : s.heap.IsSliceOf sl vl vu .none) (pl : IsPart vl lo) (pu : IsPart vu hi)
  (h:Q (((sIx n 0 lo:Nat):Int),1,sIx n n hi - sIx n 0 lo) s):wpAny (model prog w) A (Builtin.Slice.sliceApplied (.ref sl) (pure (n:Int))) Q E s:=by
 obtain⟨os,hos,hcs,hds⟩:=id hs
 unfold Builtin.Slice.sliceApplied Builtin.Slice.sliceFields
 refine wpAny_bind (wpAny_bind (wpAny_field hos hds (x:=vl) rfl (wpAny_bind (wpAny_field hos hds (x:=vu) rfl (wpAny_bind (wpAny_field hos hds (x:=.none) rfl (wpAny_pure ?_)))))))
 refine wpAny_bind (slicePart_none ?_)
 show wpAny _ _ (if ((1:Int) == 0)=true then _ else _) _ _ s
 rw[if_neg (by decide)]
 refine wpAny_bind (QbY pl (wpAny_bind (QbY pu (wpAny_bind (wpAny_pure ?_)))))
 show wpAny _ _ (match Builtin.Slice.sliceAdjust lo hi 1 (n:Int) with | (lo,hi)=>pure (lo,(1:Int),Builtin.Slice.slicePlaces lo hi 1)) _ _ s
 rw[QbW lo hi n]
 show wpAny _ _ (pure (((sIx n 0 lo:Nat):Int),(1:Int),Builtin.Slice.slicePlaces ((sIx n 0 lo:Nat):Int) ((sIx n n hi:Nat):Int) 1)) _ _ s
 rw[QbX]
 exact wpAny_pure h
theorem Qb0 (xs:Array Value) (i k:Nat):((List.range k).filterMap fun (m:Nat)=>xs[((i:Int) + (m:Int) * 1).toNat]?).toArray=((xs.toList.drop i).take k).toArray:=by
 have e:(fun (m:Nat)=>xs[((i:Int) + (m:Int) * 1).toNat]?)=fun m=>xs[i + m]?:=by
  funext m
  have:((i:Int) + (m:Int) * 1).toNat=i + m:=by ac_nf
  rw[this]
 rw[e]
 have:=pick_run xs i k
 rw[List.filterMap_map]at this
 have e2:((fun x=>xs[x]?) ∘ fun x=>i + x)=fun m=>xs[i + m]?:=rfl
 rw[e2]at this
 rw[this]
theorem getItem_tuple_cut {t sl : Addr} {items : Array Value} {vl vu : Value} {lo hi : Option Int} {Q : Value -> Shared -> Prop} (ht : IsTup s.heap t items) (hs : s.heap.IsSliceOf sl vl vu .none) (pl : IsPart vl lo) (pu : IsPart vu hi)
  (hw:¬ (sIx items.size 0 lo=0/\sIx items.size items.size hi=items.size))
  (h:Q (.ref s.heap.objs.size) { s with heap:=s.heap.push { cls:=.type "tuple",data:=.seq ((items.toList.drop (sIx items.size 0 lo)).take (sIx items.size items.size hi - sIx items.size 0 lo)).toArray } })
  (hsz:items.size<=sizeLine):wpAny (model prog w) A (getItem (.ref t) (.ref sl)) Q E s:=by
 have htake:sizeOk (.seq ((items.toList.drop (sIx items.size 0 lo)).take (sIx items.size items.size hi - sIx items.size 0 lo)).toArray):=by
  show ((items.toList.drop (sIx items.size 0 lo)).take (sIx items.size items.size hi - sIx items.size 0 lo)).toArray.size<=sizeLine
  rw[List.size_toArray,List.length_take,List.length_drop,Array.length_toList]
  ac_nf
 have hj:sIx items.size items.size hi<=items.size:=QbU _ _ (Nat.le_refl _) hi
 obtain⟨os,hos,hcs,hds⟩:=id hs
 have hTs:s.TypeIs (.ref sl) "slice":=⟨os,hos,hcs⟩
 unfold getItem
 try with_reducible refine wpAny_holding ?_
 first | refine wpAny_bind (wpAny_pure ?_) | skip
 refine wpAny_bind (wpAny_sequenceKey ht.typeIs (by decide) ?_)
 refine wpAny_bind (wpAny_callSpecial?_slot (name:=Str.ofString "__getitem__") ht.typeIs PyProof.Rows.slot_tuple_getitem
  (wpAny_call_entry PyProof.Rows.slot_tuple_getitem ht.typeIs entry_tuple_getitem ?_ (args_tuple_getitem _ _)))
 show wpAny _ _ (Builtin.Tuple.tupleItemsOf (.ref t) >>= _) _ _ s
 refine wpAny_bind (tupleItemsOf_ ht ?_)
 refine wpAny_bind (wpAny_typeOf hTs ?_)
 rw[if_pos (by decide)]
 refine wpAny_bind (QbZ hs pl pu ?_)
 have hno:¬ ((((sIx items.size 0 lo:Nat):Int) == 0 && (1:Int) == 1 && (sIx items.size items.size hi - sIx items.size 0 lo) == items.size)=true):=by
  intro q
  rw[Bool.and_eq_true,Bool.and_eq_true]at q
  have q1:((sIx items.size 0 lo:Nat):Int)=0:=eq_of_beq q.1.1
  have q2:sIx items.size items.size hi - sIx items.size 0 lo=items.size:=eq_of_beq q.2
  exact hw ⟨by ac_nf,by ac_nf⟩
 show wpAny _ _ (if (((sIx items.size 0 lo:Nat):Int) == 0 && (1:Int) == 1 && (sIx items.size items.size hi - sIx items.size 0 lo) == items.size)=true then _ else _) _ _ s
 rw[if_neg hno,Qb0]
 first
  | exact wpAny_bind (m:=Builtin.Tuple.tupleExact _) (wpAny_newObj_type (wpAny_pure ⟨_,rfl,wpAny_pure h⟩) htake)
  | exact wpAny_bind (m:=Builtin.Tuple.tupleExact _) (wpAny_newObj_type (wpAny_bind (wpAny_pure (wpAny_pure ⟨_,rfl,wpAny_pure h⟩))) htake)
  | exact wpAny_bind (wpAny_bind (m:=Builtin.Tuple.tupleExact _) (wpAny_newObj_type (wpAny_pure (wpAny_pure ⟨_,rfl,wpAny_pure h⟩)) htake))
  | exact wpAny_bind (wpAny_bind (m:=Builtin.Tuple.tupleExact _) (wpAny_newObj_type (wpAny_pure ⟨_,rfl,wpAny_pure h⟩) htake))
end
end HT
namespace L2
open PySem PySem.Spec PyProof.Rows
abbrev TO:=St->Hp->(Option Int->Hp->Prop)->Prop
def PO (X:Cx) (e:Option Expr) (t:TO):Prop:=
 ∀ (pins:List (Addr × Obj)) (s:Shared) (σ:St) (H:Hp) (Q:Option Int->Hp->Prop),Inv X pins σ H s->t σ H Q ->
  wpAny (model X.prog X.w) X.A (evalPart e X.env) (fun u s'=>∃ o H',Inv X pins σ H' s'/\IsPart u o/\Q o H') X.xe s
def tNoPart:TO:=fun _ H Q=>Q none H
def tPart (t:TE):TO:=fun σ H Q=>t σ H fun x H1=>∃ i,x=.int i/\Q (some i) H1
theorem Qb1 {ns:List Int}:∀ {us:List Value},Vals (ns.map V.int) us->IntsAre us ns:=by
 induction ns with
 | nil=>intro us r;rw[List.map_nil]at r;cases r;exact .nil
 | cons n ns ih=>
  intro us r
  rw[List.map_cons]at r
  cases r with
  | cons r1 r2=>
   obtain⟨t,e⟩:=r1
   subst e
   exact .cons n t (ih r2)
section
variable {X:Cx}{e:Expr}{te:TE}{lo hi:Option Expr}{tl th:TO}{pos p2:Pos}
theorem Qb2:PO X none tNoPart:=by
 intro pins s σ H Q I h
 rw[evalPart_none]
 exact wpAny_pure ⟨none,H,I,.none,h⟩
theorem Qb3 (h:PE X e te):PO X (some e) (tPart te):=by
 intro pins s σ H Q I hw
 rw[evalPart_some]
 refine thn (h pins s σ H _ I hw) fun u s1 pq38=>?_
 obtain⟨x,H1,I1,r1,q1⟩:=pq38
 obtain⟨i,rfl,q⟩:=q1
 obtain⟨t,rfl⟩:=r1
 exact⟨some i,H1,I1,.int i t,q⟩
def SlR (X:Cx) (r:V->Option Int->Option Int->Hp->VK->Prop):Prop:=
 ∀ (pins:List (Addr × Obj)) (s:Shared) (σ:St) (H:Hp) (x:V) (v vl vu:Value) (lo hi:Option Int) (sl:Addr) (Q:VK),Inv X pins σ H s->RelV x v->s.heap.IsSliceOf sl vl vu .none->IsPart vl lo->IsPart vu hi->r x lo hi H Q ->
  ∃ T id,typeLookup (.type T) "__getitem__"=pure (some (.builtin id))/\s.TypeIs v T/\wpAny (model X.prog X.w) X.A (getItem v (.ref sl)) (EP X pins σ Q) X.xe s
def tSl (r:V->Option Int->Option Int->Hp->VK->Prop) (te:TE) (tl th:TO):TE:=fun σ H Q=>te σ H fun x H1=>tl σ H1 fun l H2=>th σ H2 fun u H3=>r x l u H3 Q
theorem Qb4 {r:V->Option Int->Option Int->Hp->VK->Prop} (hr:SlR X r) (he:PE X e te) (hl:PO X lo tl) (hu:PO X hi th):PE X (.Subscript e (.Slice lo hi none p2) pos) (tSl r te tl th):=by
 intro pins s σ H Q I h
 refine Subscript_ (thn (he pins s σ H _ I h) fun v s1 pq39=>?_)
 obtain⟨x,H1,I1,r1,q1⟩:=pq39
 refine wpAny_Slice (thn (hl pins s1 σ H1 _ I1 q1) fun vl s2 ⟨l,H2,I2,pl,q2⟩=>thn (hu pins s2 σ H2 _ I2 q2) fun vu s3 pq41=>?_)
 obtain⟨u,H3,I3,pu,q3⟩:=pq41
 rw[evalPart_none]
 refine wpAny_pure ?_
 have I4:Inv X pins σ H3 { s3 with heap:=s3.heap.push { cls:=.type "slice",data:=.fields #[vl,vu,.none] } }:=I3.kept (t':=s3.toks) fun b ob q=>Heap.get?_push_of_some _ q
 obtain⟨T,id,hT,ht,hg⟩:=hr pins { s3 with heap:=s3.heap.push { cls:=.type "slice",data:=.fields #[vl,vu,.none] } } σ H3 x v vl vu l u s3.heap.objs.size Q I4 r1 (Heap.IsSliceOf.new ..) pl pu q3
 show wpAny (model X.prog X.w) X.A (subscriptTail e (.Slice lo hi none p2) v (.ref s3.heap.objs.size)) (EP X pins σ Q) X.xe { s3 with heap:=s3.heap.push { cls:=.type "slice",data:=.fields #[vl,vu,.none] } }
 exact tail_any (ops:=[.ref s3.heap.objs.size,v]) ht hT hg (by with_unfolding_all rfl)
def cutV (xs:List V) (lo hi:Option Int):List V:=(xs.drop (HT.sIx xs.length 0 lo)).take (HT.sIx xs.length xs.length hi - HT.sIx xs.length 0 lo)
theorem Qb5 (xs:List V) (lo hi:Option Int):(cutV xs lo hi).length<=xs.length:=by
 unfold cutV
 rw[List.length_take,List.length_drop]
 ac_nf
def rSlT (K:PySem.W.Frag):V->Option Int->Option Int->Hp->VK->Prop:=fun x lo hi H Q=>∃ a xs,x=.ref a/\SqT K H a xs /\
 ¬ (HT.sIx xs.length 0 lo=0/\HT.sIx xs.length xs.length hi=xs.length)/\∀ p,H p=none->Q (.ref p) (upd H p (.tup (cutV xs lo hi)))
theorem Qb6:SlR X (rSlT X.K):=by
 intro pins s σ H x v vl vu lo hi sl Q I rx hs pl pu h
 obtain⟨a,xs,rfl,hx,hw,q⟩:=h
 cases rx
 obtain⟨its,r,ht,hz⟩:=I.tuple hx
 have hlen:its.toArray.size=xs.length:=by rw[List.size_toArray];exact r.length.symm
 refine⟨"tuple",_,PyProof.Rows.slot_tuple_getitem.lookup,ht.typeIs,?_⟩
 refine HT.getItem_tuple_cut ht hs pl pu (by rw[hlen];exact hw) ?_ (by rw[hlen];exact hz)
 rw[hlen]
 refine⟨.ref s.heap.objs.size,_,I.laid (t':=s.toks) (o:=.tup (cutV xs lo hi)) (fun b ob q=>Heap.get?_push_of_some _ q) (Nat.le_refl _) ?_,rfl,q _ (I.hok.fresh (Nat.le_refl _))⟩
 exact⟨Nat.le_trans (Qb5 xs lo hi) hz,_,(r.drop (HT.sIx xs.length 0 lo)).take (HT.sIx xs.length xs.length hi - HT.sIx xs.length 0 lo),IsTup.new _ _⟩
def rCatT (K:PySem.W.Frag):R2:=fun x y H Q=>∃ a b xs ys,x=.ref a/\y=.ref b/\SqT K H a xs/\SqT K H b ys/\xs≠[]/\xs.length + ys.length<=sizeLine /\
 (ys=[]->Q (.ref a) H)/\(ys≠[]->∀ p,H p=none->Q (.ref p) (upd H p (.tup (xs++ys))))
theorem Vals.nil_iff {xs:List V}{us:List Value} (r:Vals xs us):us=[]↔xs=[]:=by
 cases r with
 | nil=>simp
 | cons _ _=>simp
theorem Qb7:OpR X (binaryOp .Add) (rCatT X.K):=by
 intro pins s σ H x y v u Q I rx ry h
 obtain⟨a,b,xs,ys,rfl,rfl,ha,hb,hx,hz,q1,q2⟩:=h
 cases rx
 cases ry
 obtain⟨its,r1,p1,_⟩:=I.tuple ha
 obtain⟨its2,r2,p2,_⟩:=I.tuple hb
 refine HT.cat_tup p1 p2 (fun z=>hx (r1.nil_iff.mp z)) (fun z=>⟨.ref a,H,I,rfl,q1 (r2.nil_iff.mp z)⟩) (fun z=>?_) (by rw[<- r1.length,<- r2.length];exact hz)
 refine⟨.ref s.heap.objs.size,_,I.laid (t':=s.toks) (o:=.tup (xs++ys)) (fun b ob q=>Heap.get?_push_of_some _ q) (Nat.le_refl _) ?_,rfl,q2 (fun w=>z (r2.nil_iff.mpr w)) _ (I.hok.fresh (Nat.le_refl _))⟩
 exact⟨by rw[List.length_append];exact hz,_,r1.append r2,IsTup.new _ _⟩
end
def ixN (n:Nat) (i:Int):Option Nat:=if 0<=i then (if i < n then some i.toNat else none) else if -(n:Int)<=i then some (i + n).toNat else none
def atI {α:Type} (xs:List α) (i:Int):Option α:=(ixN xs.length i).bind fun j=>xs[j]?
theorem Qb8 {n:Nat}{i:Int}{j:Nat} (h:ixN n i=some j):seqIndex? i n=some j/\j < n /\ -(n:Int)<=i/\i < n:=by
 unfold ixN at h
 by_cases h0:0<=i
 ·rw[if_pos h0]at h
  by_cases h1:i < n
  ·rw[if_pos h1]at h
   have e:i.toNat=j:=Option.some.inj h
   exact⟨by rw[seqIndex_of h0 h1,e],by ac_nf,by ac_nf,h1⟩
  ·rw[if_neg h1]at h;cases h
 ·rw[if_neg h0]at h
  by_cases h1 : -(n:Int)<=i
  ·rw[if_pos h1]at h
   have e:(i + n).toNat=j:=Option.some.inj h
   exact⟨by rw[seqIndex_neg (by ac_nf) h1,e],by ac_nf,h1,by ac_nf⟩
  ·rw[if_neg h1]at h;cases h
theorem Qb9 {α:Type}{xs:List α}{i:Int}{v:α} (h:atI xs i=some v):∃ j,seqIndex? i xs.length=some j/\xs[j]?=some v/\j < xs.length /\ -(xs.length:Int)<=i/\i < xs.length:=by
 unfold atI at h
 cases e:ixN xs.length i with
 | none=>rw[e]at h;cases h
 | some j=>
  rw[e]at h
  obtain⟨h1,h2,h3,h4⟩:=Qb8 e
  exact⟨j,h1,h,h2,h3,h4⟩
def PlainIx (b:Expr):Prop:=∀ o i,subscripted b false o i=operate [o,i] (getItem o i)
def IxR (X:Cx) (r:R2):Prop:=
 ∀ (value slice:Expr) (pins:List (Addr × Obj)) (s:Shared) (σ:St) (H:Hp) (x y:V) (v u:Value) (Q:VK),Inv X pins σ H s->RelV x v->RelV y u->r x y H Q ->
  subscripted slice false v u=operate [v,u] (getItem v u)->wpAny (model X.prog X.w) X.A (subscriptTail value slice v u) (EP X pins σ Q) X.xe s
def MtR (X:Cx) (id:String) (r:V->List V->Hp->VK->Prop):Prop:=
 ∀ (pins:List (Addr × Obj)) (s:Shared) (σ:St) (H:Hp) (x:V) (xs:List V) (v:Value) (us:List Value) (Q:VK),Inv X pins σ H s->RelV x v->Vals xs us->r x xs H Q ->
  wpAny (model X.prog X.w) X.A (call (.builtin id) (v::us)) (EP X pins σ Q) X.xe s
section
variable {X:Cx}{a b:Expr}{ta tb:TE}{pos:Pos}
theorem IxR.or {r r':R2} (h:IxR X r) (h':IxR X r'):IxR X (fun x y H Q=>r x y H Q\/r' x y H Q):=by
 intro value slice pins s σ H x y v u Q I rx ry q hs
 rcases q with q | q
 ·exact h value slice pins s σ H x y v u Q I rx ry q hs
 ·exact h' value slice pins s σ H x y v u Q I rx ry q hs
theorem Qca {r:R2} (hr:IxR X r) (ha:PE X a ta) (hb:PE X b tb) (hs:PlainIx b):PE X (.Subscript a b pos) (tOp r ta tb):=by
 intro pins s σ H Q I h
 exact Subscript_ (binT ha hb I h fun v u s2 x y H2 I2 rx ry q=>hr a b pins s2 σ H2 x y v u Q I2 rx ry q (hs _ _))
def rIxL (K:PySem.W.Frag):R2:=fun x y H Q=>∃ p xs i v,x=.ref p/\y=.int i/\SqL K H p xs/\atI xs i=some v/\Q v H
def rIxT (K:PySem.W.Frag):R2:=fun x y H Q=>∃ p xs i v,x=.ref p/\y=.int i/\SqT K H p xs/\atI xs i=some v/\Q v H
def rIxS:R2:=fun x y H Q=>∃ z i c,x=.str z/\y=.int i/\z.length<=sizeLine/\atI z.cps.toList i=some c/\Q (.str ⟨#[c]⟩) H
theorem Qcb:IxR X (rIxL X.K):=by
 intro value slice pins s σ H x y v u Q I rx ry h hs
 obtain⟨p,xs,i,z,rfl,rfl,hq,he,q⟩:=h
 cases rx
 obtain⟨t,rfl⟩:=ry
 obtain⟨its,r,pl,hz⟩:=I.list hq
 obtain⟨j,h1,h2,h3,h4,h5⟩:=Qb9 he
 obtain⟨w,ew,rw'⟩:=r.get h2
 have hl:=r.length
 have hn:=Qbp
 have fin:EP X pins σ Q w s:=⟨z,H,I,rw',q⟩
 by_cases h0:0<=i
 ·have hj : i.toNat = j := by
    rw[seqIndex_of h0 h5]at h1
    exact Option.some.inj h1
  exact item_listR pl.isList h0 (by ac_nf) (by rw[hj];simpa using ew) fin hs
 ·have hj : (i + (its.toArray.size : Int)).toNat = j := by
    rw[seqIndex_neg (by ac_nf) h4]at h1
    rw[List.size_toArray,<- hl]
    exact Option.some.inj h1
  exact subscriptTail_builtinR (x:=w) pl.isList.typeIs slot_list_getitem.lookup
   (wpAny_getItem_list_neg (Q:=fun r s'=>r=w/\EP X pins σ Q r s') pl.isList (by ac_nf) (by rw[List.size_toArray]<;>ac_nf) (by ac_nf) (by rw[hj];simpa using ew) ⟨rfl,fin⟩) hs
theorem Qcc:IxR X (rIxT X.K):=by
 intro value slice pins s σ H x y v u Q I rx ry h hs
 obtain⟨p,xs,i,z,rfl,rfl,hq,he,q⟩:=h
 cases rx
 obtain⟨t,rfl⟩:=ry
 obtain⟨its,r,pl,hz⟩:=I.tuple hq
 obtain⟨j,h1,h2,h3,h4,h5⟩:=Qb9 he
 obtain⟨w,ew,rw'⟩:=r.get h2
 have hl:=r.length
 have hn:=Qbp
 have fin:EP X pins σ Q w s:=⟨z,H,I,rw',q⟩
 exact subscriptTail_builtinR (x:=w) pl.typeIs slot_tuple_getitem.lookup
  (getItem_tuple (j:=j) (Q:=fun r s'=>r=w/\EP X pins σ Q r s') pl (by ac_nf) (by ac_nf) (by rw[List.size_toArray,<- hl];exact h1) (by simpa using ew) ⟨rfl,fin⟩) hs
theorem Qcd:IxR X rIxS:=by
 intro value slice pins s σ H x y v u Q I rx ry h hs
 obtain⟨z,i,c,rfl,rfl,hz,he,q⟩:=h
 obtain⟨t,rfl⟩:=rx
 obtain⟨t',rfl⟩:=ry
 obtain⟨j,h1,h2,h3,h4,h5⟩:=Qb9 he
 have hl:z.cps.toList.length=z.length:=by simp[Str.length]
 rw[hl]at h1 h4 h5
 have hn:=Qbp
 exact tail_any (typeIs_str s z t) slot_str_getitem.lookup (getItem_str (c:=c) (by
  have e1:decide (i < -(2 ^ 63:Int))=false:=decide_eq_false (by ac_nf)
  have e2:decide (i ≥ 2 ^ 63)=false:=decide_eq_false (by ac_nf)
  rw[e1,e2,Bool.or_false]) (by rw[h1];simpa using h2) ⟨.str ⟨#[c]⟩,H,I.tok _,⟨_,rfl⟩,q⟩) hs
def rIx (K:PySem.W.Frag):R2:=fun x y H Q=>rIxL K x y H Q\/rIxT K x y H Q\/rIxS x y H Q
theorem Qce:IxR X (rIx X.K):=Qcb.or (Qcc.or Qcd)
theorem Qcf (its:List Value) (n j:Nat) (u:Value):Obj.mapSeq (·.setIfInBounds j u) { cls:=.type "list",data:=.seq its.toArray n }={ cls:=.type "list",data:=.seq (its.set j u).toArray n }:=by
 simp[Obj.mapSeq]
theorem Inv.lst {pins : List (Addr × Obj)} {σ : St} {H : Hp} {s : Shared} {p : Addr} {xs : List V} (I : Inv X pins σ H s) (h : H p = some (.lst xs)) :
  ∃ (its:List Value) (n:Nat),Vals xs its/\s.heap.get? p=some { cls:=.type "list",data:=.seq its.toArray n }/\xs.length<=sizeLine:=by
 obtain⟨z,its,n,r,e⟩:=I.hok p _ h
 exact⟨its,n,r,e,z⟩
theorem Inv.lstUpd {pins : List (Addr × Obj)} {σ : St} {H : Hp} {s : Shared} {p : Addr} {xs ys : List V} {its its' : List Value} {n n' : Nat} {f : Obj -> Obj} (I : Inv X pins σ H s) (h : H p = some (.lst xs))
  (ho:s.heap.get? p=some { cls:=.type "list",data:=.seq its.toArray n }) (hf:f { cls:=.type "list",data:=.seq its.toArray n }={ cls:=.type "list",data:=.seq its'.toArray n' }) (r:Vals ys its') (hz:ys.length<=sizeLine) (t:Nat):
  Inv X pins σ (upd H p (.lst ys)) { s with heap:=s.heap.update p f,toks:=t }:=by
 have e:(s.heap.update p f).get? p=some { cls:=.type "list",data:=.seq its'.toArray n' }:=by
  rw[Heap.get?_update_self f ho (by rw[hf]<;>rfl),hf]
 refine I.write (x:=p) (e:=p) (by rw[h];trivial) (.inl rfl) (fun b u hb q=>(Heap.get?_update_other _ _ (Ne.symm hb)).trans q) ⟨_,e⟩ ?_
 exact⟨hz,its',n',r,e⟩
def rSetL:V->V->V->Hp->(Hp->Prop)->Prop:=fun o i v H Q=>∃ p xs k j,o=.ref p/\i=.int k/\H p=some (.lst xs)/\ixN xs.length k=some j/\Q (upd H p (.lst (xs.set j v)))
theorem Qcg:PSet X rSetL:=by
 intro pins s σ H o i v ov iv u Q I ro ri rv h
 obtain⟨p,xs,k,j,rfl,rfl,hp,hj,q⟩:=h
 cases ro
 obtain⟨t,rfl⟩:=ri
 obtain⟨its,n,r,ho,hz⟩:=I.lst hp
 obtain⟨h1,h2,h3,h4⟩:=Qb8 hj
 have hl:=r.length
 have hn:=Qbp
 have I':Inv X pins σ (upd H p (.lst (xs.set j v))) { s with heap:=s.heap.update p (Obj.mapSeq (·.setIfInBounds j u)) }:=
  I.lstUpd hp ho (Qcf its n j u) (r.set rv j) (by rw[List.length_set];exact hz) s.toks
 by_cases h0:0<=k
 ·have hk : k.toNat = j := by
    rw[seqIndex_of h0 h4]at h1
    exact Option.some.inj h1
  exact PySem.W.ki_setAt ho h0 (by ac_nf) (by rw[List.size_toArray,<- hl];exact h4) (by rw[hk];exact⟨_,I',q⟩)
 ·have hk : (k + (its.toArray.size : Int)).toNat = j := by
    rw[seqIndex_neg (by ac_nf) h3]at h1
    rw[List.size_toArray,<- hl]
    exact Option.some.inj h1
  exact PySem.W.ki_setBack ho (by ac_nf) (by rw[List.size_toArray,<- hl];exact h3) (by ac_nf) (by rw[hk];exact⟨_,I',q⟩)
theorem Qch (lo hi:Option Int) (n:Nat):(sliceBounds lo hi none n).1=((HT.sIx n 0 lo:Nat):Int)/\(sliceBounds lo hi none n).2.1=((HT.sIx n n hi:Nat):Int)/\(sliceBounds lo hi none n).2.2=1:=by
 refine⟨?_,?_,rfl⟩
 ·cases lo with
  | none=>simp[sliceBounds,HT.sIx]
  | some i=>
   simp only[sliceBounds,HT.sIx,Option.getD_none,show (1:Int) > 0 by decide,if_true]
   by_cases h:i < 0
   ·simp only[h,if_true]<;>ac_nf
   ·simp only[h,if_false]<;>ac_nf
 ·cases hi with
  | none=>simp[sliceBounds,HT.sIx]
  | some i=>
   simp only[sliceBounds,HT.sIx,Option.getD_none,show (1:Int) > 0 by decide,if_true]
   by_cases h:i < 0
   ·simp only[h,if_true]<;>ac_nf
   ·simp only[h,if_false]<;>ac_nf
theorem Qci (its:List Value) (lo hi:Option Int):slicePick its.toArray lo hi none=((its.drop (HT.sIx its.length 0 lo)).take (HT.sIx its.length its.length hi - HT.sIx its.length 0 lo)).toArray:=by
 obtain⟨h1,h2,h3⟩:=Qch lo hi its.toArray.size
 unfold slicePick
 rw[h1,h2,h3]
 simp only[sliceRange_one,pick_run,List.size_toArray]<;>rfl
def rSlL (K:PySem.W.Frag):V->Option Int->Option Int->Hp->VK->Prop:=fun x lo hi H Q=>∃ a xs,x=.ref a/\SqL K H a xs/\∀ p,H p=none->Q (.ref p) (upd H p (.lst (cutV xs lo hi)))
theorem Qcj:SlR X (rSlL X.K):=by
 intro pins s σ H x v vl vu lo hi sl Q I rx hs pl pu h
 obtain⟨a,xs,rfl,hx,q⟩:=h
 cases rx
 obtain⟨its,r,ht,hz⟩:=I.list hx
 have hlen:=r.length
 refine⟨"list",_,slot_list_getitem.lookup,ht.isList.typeIs,?_⟩
 refine wpAny_getItem_list_slice ht.isList hs pl pu .none (by simp) ?_ (by rw[List.size_toArray]<;>ac_nf)
 rw[Qci,<- hlen]
 refine⟨.ref s.heap.objs.size,_,I.laid (t':=s.toks) (o:=.lst (cutV xs lo hi)) (fun b ob q=>Heap.get?_push_of_some _ q) (Nat.le_refl _) ?_,rfl,q _ (I.hok.fresh (Nat.le_refl _))⟩
 exact⟨Nat.le_trans (Qb5 xs lo hi) hz,_,0,(r.drop (HT.sIx xs.length 0 lo)).take (HT.sIx xs.length xs.length hi - HT.sIx xs.length 0 lo),Heap.get?_push_size _ rfl⟩
def flatV:V->Bool
 | .non=>true
 | .bl _=>true
 | .int _=>true
 | .str _=>true
 | _=>false
def eqV:V->V->Bool
 | .non,.non=>true
 | .bl a,.bl b=>a == b
 | .bl a,.int b=>(if a then 1 else 0) == b
 | .int a,.bl b=>a == (if b then 1 else 0)
 | .int a,.int b=>a == b
 | .str a,.str b=>a == b
 | _,_=>false
theorem Qck {A:Around}{s:Shared}{y x:V}{u v:Value} (ry:RelV y u) (rx:RelV x v) (fy:flatV y=true) (fx:flatV x=true):SeqAt.EqAt A s u v (eqV y x):=by
 cases y with
 | non=>
  cases ry
  cases x with
  | non=>cases rx;exact SeqAt.EqAt.same _
  | bl b=>cases rx;exact SeqAt.EqAt.none_bool b
  | int b=>obtain⟨t,rfl⟩:=rx;exact SeqAt.EqAt.none_int b t
  | str b=>obtain⟨t,rfl⟩:=rx;exact SeqAt.EqAt.none_str b t
  | _=>exact absurd (show false=true from fx) Bool.false_ne_true
 | bl a=>
  cases ry
  cases x with
  | non=>cases rx;exact SeqAt.EqAt.bool_none a
  | bl b=>cases rx;exact SeqAt.EqAt.bool_bool a b
  | int b=>obtain⟨t,rfl⟩:=rx;exact SeqAt.EqAt.bool_int a b t
  | str b=>obtain⟨t,rfl⟩:=rx;exact SeqAt.EqAt.bool_str a b t
  | _=>exact absurd (show false=true from fx) Bool.false_ne_true
 | int a=>
  obtain⟨t',rfl⟩:=ry
  cases x with
  | non=>cases rx;exact SeqAt.EqAt.int_none a t'
  | bl b=>cases rx;exact SeqAt.EqAt.int_bool a t' b
  | int b=>obtain⟨t,rfl⟩:=rx;exact SeqAt.EqAt.int_int a t' b t
  | str b=>obtain⟨t,rfl⟩:=rx;exact SeqAt.EqAt.int_str a t' b t
  | _=>exact absurd (show false=true from fx) Bool.false_ne_true
 | str a=>
  obtain⟨t',rfl⟩:=ry
  cases x with
  | non=>cases rx;exact SeqAt.EqAt.str_none a t'
  | bl b=>cases rx;exact SeqAt.EqAt.str_bool a t' b
  | int b=>obtain⟨t,rfl⟩:=rx;exact SeqAt.EqAt.str_int a t' b t
  | str b=>obtain⟨t,rfl⟩:=rx;exact SeqAt.EqAt.str_str a t' b t
  | _=>exact absurd (show false=true from fx) Bool.false_ne_true
 | _=>exact absurd (show false=true from fy) Bool.false_ne_true
def eqU (x:V) (u:Value):Bool:=match u with
 | .none=>eqV .non x
 | .bool b=>eqV (.bl b) x
 | .int i _=>eqV (.int i) x
 | .str z _=>eqV (.str z) x
 | _=>false
theorem Qcl {x y:V}{u:Value} (r:RelV y u) (f:flatV y=true):eqU x u=eqV y x:=by
 cases y with
 | non=>cases r;rfl
 | bl b=>cases r;rfl
 | int i=>obtain⟨t,rfl⟩:=r;rfl
 | str z=>obtain⟨t,rfl⟩:=r;rfl
 | _=>exact absurd (show false=true from f) Bool.false_ne_true
theorem Qcm {x:V}:∀ {xs:List V}{us:List Value},Vals xs us->xs.all flatV=true->us.any (eqU x)=xs.any fun y=>eqV y x
 | _,_,.nil,_=>rfl
 | y::xs,u::us,.cons r t,f=>by
  rw[List.all_cons,Bool.and_eq_true]at f
  rw[List.any_cons,List.any_cons,Qcl r f.1,Qcm t f.2]
theorem Qcn {A:Around}{s:Shared}{x:V}{v:Value} (rx:RelV x v) (fx:flatV x=true):∀ {xs:List V}{us:List Value},Vals xs us->xs.all flatV=true->∀ u∈us,SeqAt.EqAt A s u v (eqU x u)
 | _,_,.nil,_=>fun u hu=>by cases hu
 | y::xs,u::us,.cons r t,f=>fun u' hu=>by
  rw[List.all_cons,Bool.and_eq_true]at f
  rcases List.mem_cons.mp hu with rfl | hu
  ·rw[Qcl r f.1];exact Qck r rx f.1 fx
  ·exact Qcn rx fx t f.2 u' hu
def inV (x:V) (xs:List V):Bool:=xs.any fun y=>eqV y x
def rIn (K:PySem.W.Frag) (neg:Bool):R2:=fun x y H Q=>∃ p xs,y=.ref p/\(SqL K H p xs\/SqT K H p xs)/\flatV x=true/\xs.all flatV=true/\Q (.bl (if neg then !inV x xs else inV x xs)) H
theorem Qco:OpR X (compareOp .NotIn) (rIn X.K true):=by
 intro pins s σ H x y v u Q I rx ry h
 obtain⟨p,xs,rfl,hq,fx,fs,q⟩:=h
 cases ry
 rcases hq with hq | hq
 ·obtain⟨its,r,pl,hz⟩:=I.list hq
  refine SeqAt.notIn_listAt (eqU x) pl.isList (fun w hw=>Qcn rx fx r fs w (by simpa using hw)) ⟨.bl _,H,I,rfl,?_⟩
  rw[show its.toArray.any (eqU x)=its.any (eqU x) by simp,Qcm r fs]
  exact q
 ·obtain⟨its,r,pl,hz⟩:=I.tuple hq
  refine SeqAt.notIn_tupleAt (eqU x) pl (fun w hw=>Qcn rx fx r fs w (by simpa using hw)) ⟨.bl _,H,I,rfl,?_⟩
  rw[show its.toArray.any (eqU x)=its.any (eqU x) by simp,Qcm r fs]
  exact q
theorem Qcp:CallR X (.builtin "len") (fun xs H Q=>∃ p ys,xs=[.ref p]/\(SqL X.K H p ys\/SqT X.K H p ys)/\Q (.int ys.length) H):=by
 intro pins s σ H xs us Q I r h
 obtain⟨p,ys,rfl,hq,q⟩:=h
 obtain⟨u,rfl,rx⟩:=Qbt r
 cases rx
 have hn:=Qbp
 rcases hq with hq | hq
 ·obtain⟨its,r',pl,hz⟩:=I.list hq
  have hlen:=r'.length
  exact Calls.call_len_list pl.isList (by simp only[List.size_toArray]<;>ac_nf) ⟨.int ys.length,H,I.tok _,⟨s.toks + 1,by rw[List.size_toArray,hlen]⟩,q⟩
 ·obtain⟨its,r',pl,hz⟩:=I.tuple hq
  have hlen:=r'.length
  exact len_tuple pl (by simp only[List.size_toArray]<;>ac_nf) ⟨.int ys.length,H,I.tok _,⟨s.toks + 1,by rw[List.size_toArray,hlen]⟩,q⟩
theorem Qcq:CallR X (.builtin "len") (fun xs H Q=>∃ z,xs=[.str z]/\z.length<=sizeLine/\Q (.int z.length) H):=by
 intro pins s σ H xs us Q I r h
 obtain⟨z,rfl,hz,q⟩:=h
 obtain⟨u,rfl,t,rfl⟩:=Qbt r
 have hn:=Qbp
 exact len_str (by ac_nf) ⟨.int z.length,H,I.tok _,⟨_,rfl⟩,q⟩
theorem CallR.or {f:Value}{r r':List V->Hp->VK->Prop} (h:CallR X f r) (h':CallR X f r'):CallR X f (fun xs H Q=>r xs H Q\/r' xs H Q):=by
 intro pins s σ H xs us Q I rs q
 rcases q with q | q
 ·exact h pins s σ H xs us Q I rs q
 ·exact h' pins s σ H xs us Q I rs q
theorem Qcr:CallR X (.type "tuple") (fun xs H Q=>∃ p ys,xs=[.ref p]/\((SqL X.K H p ys/\∀ l,H l=none->Q (.ref l) (upd H l (.tup ys)))\/(SqT X.K H p ys/\Q (.ref p) H))):=by
 intro pins s σ H xs us Q I r h
 obtain⟨p,ys,rfl,h⟩:=h
 obtain⟨u,rfl,rx⟩:=Qbt r
 cases rx
 rcases h with ⟨hq,q⟩ | ⟨hq,q⟩
 ·obtain⟨its,r',pl,hz⟩:=I.list hq
  have hlen:=r'.length
  refine call_tuple_list pl.isList (fun h' kp=>?_) (by simp only[List.size_toArray]<;>ac_nf)
  have I1:Inv X pins σ H { s with heap:=h' }:=I.kept (t':=s.toks) kp
  have I2:Inv X pins σ (upd H h'.objs.size (.tup ys)) { s with heap:=h'.push { cls:=.type "tuple",data:=.seq its.toArray } }:=
   I1.laid (t':=s.toks) (fun b o e=>Heap.get?_push_of_some _ e) (Nat.le_refl _) (show ObjOk X.prog X.w _ _ _ (.tup ys) from ⟨hz,its,r',IsTup.new _ _⟩)
  exact⟨.ref h'.objs.size,_,I2,rfl,q _ (I1.hok.fresh (Nat.le_refl _))⟩
 ·obtain⟨its,r',pl,hz⟩:=I.tuple hq
  exact call_tuple_same pl ⟨.ref p,H,I,rfl,q⟩
def tyV (K:PySem.W.Frag) (T:String) (x:V) (H:Hp):Prop:=match x with
 | .str _=>T="str"
 | .int _=>T="int"
 | .ref p => (T = "list" /\ ∃ xs, SqL K H p xs) \/ (T = "tuple" /\ ∃ o, K.lookup p = some o /\ o.cls = .type "tuple" /\ o.dict = none) \/
   (T="dict"/\((∃ kvs,H p=some (.dK kvs))\/∃ kvs,H p=some (.dT kvs)))\/(T="set"/\∃ S n,H p=some (.set S n))
 | _=>False
theorem Qcs {pins : List (Addr × Obj)} {σ : St} {H : Hp} {s : Shared} {T : String} {x : V} {v : Value} (I : Inv X pins σ H s) (r : RelV x v) (ty : tyV X.K T x H) :
  s.TypeIs v T/\∀ a,v=.ref a->∃ ob,s.heap.get? a=some ob/\ob.dict=none:=by
 cases x with
 | str z=>
  obtain⟨t,rfl⟩:=r
  cases (show T="str" from ty)
  exact⟨typeIs_str s z t,fun _ e=>nomatch e⟩
 | int i=>
  obtain⟨t,rfl⟩:=r
  cases (show T="int" from ty)
  exact⟨typeIs_int s i t,fun _ e=>nomatch e⟩
 | ref p=>
  cases r
  rcases ty with ⟨rfl,xs,hq⟩ | ⟨rfl,o,hk,hc,hd⟩ | ⟨rfl,hk⟩ | ⟨rfl,S,n,hk⟩
  ·obtain⟨its,_,pl,_⟩:=I.list hq
   refine⟨pl.isList.typeIs,fun a e=>?_⟩
   cases e
   obtain⟨o,n,e,c,hd,_⟩:=pl
   exact⟨o,e,hd⟩
  ·refine⟨⟨o,I.kIn p o hk,hc⟩,fun a e=>?_⟩
   cases e
   exact⟨o,I.kIn _ o hk,hd⟩
  ·have z : ∃ o, s.heap.get? p = some o /\ o.ExactDict := by
     rcases hk with ⟨kvs,hk⟩ | ⟨kvs,hk⟩
     ·obtain⟨_,_,_,_,o,_,_,e,ex,_⟩:=I.hok p _ hk
      exact⟨o,e,ex⟩
     ·obtain⟨_,_,_,_,o,_,_,e,ex,_⟩:=I.hok p _ hk
      exact⟨o,e,ex⟩
   obtain⟨o,e,ex⟩:=z
   refine⟨⟨o,e,ex.1⟩,fun a e2=>?_⟩
   cases e2
   exact⟨o,e,ex.2.1⟩
  ·obtain⟨o,_,_,_,e,ex,_⟩:=I.hok p _ hk
   refine⟨⟨o,e,ex.1⟩,fun a e2=>?_⟩
   cases e2
   exact⟨o,e,ex.2.1⟩
 | _=>exact False.elim ty
def tBM0 (K:PySem.W.Frag) (T:String) (r:V->List V->Hp->VK->Prop) (to:TE):TE:=fun σ H Q=>to σ H fun x H1=>tyV K T x H1/\r x [] H1 Q
def tBM (K:PySem.W.Frag) (T:String) (r:V->List V->Hp->VK->Prop) (to:TE) (t:TA):TE:=fun σ H Q=>to σ H fun x H1=>tyV K T x H1/\t σ H1 fun xs H2=>r x xs H2 Q
variable {o e:Expr}{es:List Expr}{to:TE}{t:TA}{name:Str}{apos cpos:Pos}{T id:String}{r:V->List V->Hp->VK->Prop}
theorem Qct (pa : PlainAttrs T) (slot : Slot T name id) (hty : typeOf (.builtin id) = pure (.type "method_descriptor")) (hm : MtR X id r) (ho : PE X o to)
  (hbase:attributeBase o name X.env (eval o X.env)=eval o X.env:=by rfl) (hline:(apos.endLine == cpos.line)=true:=by rfl):PE X (.Call (.Attribute o name apos) [] [] cpos) (tBM0 X.K T r to):=by
 intro pins s σ H Q I h
 refine wpAny_Call_method0_late hbase hline (thn (ho pins s σ H _ I h) fun v s1 pq42=>?_)
 obtain⟨x,H1,I1,r1,ty,q1⟩:=pq42
 obtain⟨h1,h2⟩:=Qcs I1 r1 ty
 exact⟨T,id,pa,slot,hty,h1,h2,Calls.callWith_builtin rfl (PySem.evalArgs_none (hm pins s1 σ H1 x [] v [] Q I1 r1 .nil q1))⟩
theorem Qcu (pa : PlainAttrs T) (slot : Slot T name id) (hty : typeOf (.builtin id) = pure (.type "method_descriptor")) (hm : MtR X id r) (ho : PE X o to) (ha : PA X (e :: es) t)
  (hbase:attributeBase o name X.env (eval o X.env)=eval o X.env:=by rfl)
  (hfew:((backTo cpos (starEach (e::es) X.env)).all (fun x => !x.1) && (backToKw cpos (keywordEach [] X.env)).all (fun x=>x.1.isSome)
   && decide ((e::es).length + ([]:List Keyword).length + (if ([]:List Keyword).isEmpty then 0 else 1) < 30))=true:=by rfl)
  (hline:(apos.endLine == cpos.line)=true:=by rfl) (hs:starEach (e::es) X.env=(false,eval e X.env)::starEach es X.env:=by rfl) (hplain:(backTo cpos (starEach es X.env)).any (·.1)=false:=by rfl):
  PE X (.Call (.Attribute o name apos) (e::es) [] cpos) (tBM X.K T r to t):=by
 intro pins s σ H Q I h
 refine wpAny_Call_method_late hbase hfew hline rfl (thn (ho pins s σ H _ I h) fun v s1 pq43=>?_)
 obtain⟨x,H1,I1,r1,ty,q1⟩:=pq43
 obtain⟨h1,h2⟩:=Qcs I1 r1 ty
 refine⟨T,id,pa,slot,hty,h1,h2,?_⟩
 have hA:=ha cpos pins s1 σ H1 _ I1 q1
 rw[hs]at hA ⊢
 refine Calls.callWith_builtin (by show (false || (backTo cpos (starEach es X.env)).any (·.1))=false;rw[hplain]<;>rfl) (Calls.evalArgs_plain ?_)
 exact thn hA fun us s2 pq44=>by obtain⟨vs,H2,I2,r2,q2⟩:=pq44;exact hm pins s2 σ H2 x vs v us Q I2 r1 r2 q2
end
def MtM (X:Cx) (id:String) (r:V->List V->Hp->VK->Prop):Prop:=
 ∀ (pins:List (Addr × Obj)) (s:Shared) (σ:St) (H:Hp) (x:V) (xs:List V) (v:Value) (us:List Value) (Q:VK),Inv X pins σ H s->RelV x v->Vals xs us->r x xs H Q ->
  wpAny (model X.prog X.w) X.A (call (.builtin id) (v::us)) (EP X pins σ Q) X.xe s
theorem Vals.one {x:V}{us:List Value} (h:Vals [x] us):∃ u,us=[u]/\RelV x u:=by
 cases h with
 | cons r h=>cases h;exact⟨_,rfl,r⟩
theorem Vals.zero:∀ {us:List Value},Vals [] us->us=[]
 | _,.nil=>rfl
theorem Vals.dropLast {xs:List V}{us:List Value} (h:Vals xs us):Vals xs.dropLast us.dropLast:=by
 induction h with
 | nil=>exact .nil
 | cons r t ih=>
  cases t with
  | nil=>exact .nil
  | cons q t'=>exact .cons r ih
theorem Vals.reverse {xs:List V}{us:List Value} (h:Vals xs us):Vals xs.reverse us.reverse:=by
 induction h with
 | nil=>exact .nil
 | cons r t ih=>rw[List.reverse_cons,List.reverse_cons];exact Vals.append ih (.cons r .nil)
theorem Vals.rep {xs:List V}{us:List Value} (h:Vals xs us):∀ k:Nat,Vals (List.replicate k xs).flatten (List.replicate k us).flatten
 | 0=>.nil
 | k + 1=>by
  rw[List.replicate_succ,List.replicate_succ,List.flatten_cons,List.flatten_cons]
  exact Vals.append h (Vals.rep h k)
theorem Qcv {α:Type} (l:List α):l.eraseIdx (l.length - 1)=l.dropLast:=by
 induction l with
 | nil=>rfl
 | cons a r ih=>
  cases r with
  | nil=>rfl
  | cons b r=>
   have e:(a::b::r).length - 1=((b::r).length - 1) + 1:=by
    have h1:(a::b::r).length=r.length + 2:=rfl
    have h2:(b::r).length=r.length + 1:=rfl
    ac_nf
   rw[e,List.eraseIdx_cons_succ,ih]
   all_goals rfl
theorem Qcw (its : List Value) : ∀ (k : Nat) (acc : List Value),
  List.foldl (fun x1 x2=>x1++x2) acc.toArray (List.replicate k its.toArray)=(acc++(List.replicate k its).flatten).toArray
 | 0,acc=>by simp
 | k + 1,acc=>by
  have e:acc.toArray++its.toArray=(acc++its).toArray:=by simp
  have e2:(acc++its)++(List.replicate k its).flatten=acc++(List.replicate (k + 1) its).flatten:=by
   rw[List.replicate_succ,List.flatten_cons,List.append_assoc]
  rw[<- e2,<- Qcw its k (acc++its),<- e,List.replicate_succ,List.foldl_cons]
section
variable {X:Cx}{pins:List (Addr × Obj)}{σ:St}{H:Hp}{s:Shared}{l b:Addr}{xs ys zs:List V}
theorem Inv.lset {its its' : List Value} {n : Nat} {f : Array Value -> Array Value} {t' : Nat} (I : Inv X pins σ H s) (hH : H l = some (.lst xs))
  (e:s.heap.get? l=some { cls:=.type "list",data:=.seq its.toArray n }) (hf:f its.toArray=its'.toArray) (hv:Vals ys its') (hz:ys.length<=sizeLine):
  Inv X pins σ (upd H l (.lst ys)) { s with heap:=s.heap.update l (Obj.mapSeq f),toks:=t' }:=by
 have q:=PySem.IsL.update e f
 rw[hf]at q
 refine I.write (x:=l) (e:=l) (by rw[hH];exact trivial) (.inl rfl) (fun b' u hb hu=>(Heap.get?_update_other s.heap (Obj.mapSeq f) (Ne.symm hb)).trans hu) ⟨_,q⟩ ?_
 exact⟨hz,its',_,hv,q⟩
theorem Inv.lnew {its : List Value} {t' : Nat} (I : Inv X pins σ H s) (hv : Vals ys its) (hz : ys.length <= sizeLine) :
  Inv X pins σ (upd H s.heap.objs.size (.lst ys)) { s with heap:=s.heap.push { cls:=.type "list",data:=.seq its.toArray },toks:=t' }:=
 I.laid (fun _ _ q=>Heap.get?_push_of_some _ q) (Nat.le_refl _) ⟨hz,its,0,hv,Heap.get?_push_size _ rfl⟩
theorem Inv.fresh (I:Inv X pins σ H s):H s.heap.objs.size=none:=I.hok.fresh (Nat.le_refl _)
theorem Inv.lstM (I:Inv X pins σ H s) (hH:H l=some (.lst xs)):xs.length<=sizeLine/\∃ (its:List Value) (n:Nat),Vals xs its/\xs.length=its.length/\s.heap.get? l=some { cls:=.type "list",data:=.seq its.toArray n }:=by
 obtain⟨z,its,n,r,e⟩:=I.hok l _ hH
 exact⟨z,its,n,r,r.length,e⟩
theorem Qcx {n:Nat} (h:n<=sizeLine):Builtin.List.listTooLong n=false:=by
 unfold Builtin.List.listTooLong
 exact decide_eq_false (by ac_nf)
end
section
variable {X:Cx}
def rAppend:V->List V->Hp->VK->Prop:=fun x vs H Q=>∃ l xs y,x=.ref l/\vs=[y]/\H l=some (.lst xs)/\xs.length < sizeLine/\Q .non (upd H l (.lst (xs++[y])))
theorem Qcy:MtM X "list.append" rAppend:=by
 intro pins s σ H x vs v us Q I rx rv h
 obtain⟨l,xs,y,rfl,rfl,hH,hz,q⟩:=h
 cases rx
 obtain⟨u,rfl,ru⟩:=rv.one
 obtain⟨z,its,n,r,hl,e⟩:=I.lstM hH
 refine call_meets F.slot_list_append ⟨_,e,rfl⟩ F.entry_list_append (F.args_list_append_2 _ _) (PySem.list_append l its.toArray n u (by rw[List.size_toArray];ac_nf)) ⟨e,?_⟩
 refine⟨.non,_,I.lset (its':=its++[u]) hH e (by simp) (r.append (.cons ru .nil)) ?_,rfl,q⟩
 rw[List.length_append,List.length_singleton]
 ac_nf
def rExtend:V->List V->Hp->VK->Prop:=fun x vs H Q=>∃ l b xs zs,x=.ref l/\vs=[.ref b]/\H l=some (.lst xs)/\H b=some (.lst zs)/\xs.length + zs.length<=sizeLine/\Q .non (upd H l (.lst (xs++zs)))
theorem Qcz:MtM X "list.extend" rExtend:=by
 intro pins s σ H x vs v us Q I rx rv h
 obtain⟨l,b,xs,zs,rfl,rfl,hH,hB,hz,q⟩:=h
 cases rx
 obtain⟨u,rfl,ru⟩:=rv.one
 cases ru
 obtain⟨z,its,n,r,hl,e⟩:=I.lstM hH
 obtain⟨z2,its2,n2,r2,hl2,e2⟩:=I.lstM hB
 have hsz:its.toArray.size + its2.toArray.size<=sizeLine:=by rw[List.size_toArray,List.size_toArray];ac_nf
 have hlong:¬ (!its.toArray.isEmpty && Builtin.List.listTooLong (its.toArray.size + its2.toArray.size))=true:=by
  rw[Qcx hsz,Bool.and_false]
  exact Bool.false_ne_true
 refine call_meets F.slot_list_extend ⟨_,e,rfl⟩ F.entry_list_extend (F.args_list_extend_2 _ _)
  (AutoSeq1.list_extend_list_list_0 l its.toArray n b its2.toArray n2 hlong (by rw[List.size_toArray];ac_nf) (by ac_nf)) ⟨e,e2,?_⟩
 refine⟨.non,_,I.lset (its':=its++its2) hH e (by simp) (r.append r2) ?_,rfl,q⟩
 rw[List.length_append]
 ac_nf
def rPop:V->List V->Hp->VK->Prop:=fun x vs H Q=>∃ l xs y,x=.ref l/\vs=[]/\H l=some (.lst xs)/\xs[xs.length - 1]?=some y/\Q y (upd H l (.lst xs.dropLast))
theorem QcA:MtM X "list.pop" rPop:=by
 intro pins s σ H x vs v us Q I rx rv h
 obtain⟨l,xs,y,rfl,rfl,hH,hy,q⟩:=h
 cases rx
 have hus:=rv.zero
 subst hus
 obtain⟨z,its,n,r,hl,e⟩:=I.lstM hH
 obtain⟨u,hu,ru⟩:=r.get hy
 have hy':its.toArray[its.toArray.size - 1]?=some u:=by
  show its.toArray[its.length - 1]?=some u
  rw[<- Array.getElem?_toList,<- hl]
  exact hu
 refine call_meets F.slot_list_pop ⟨_,e,rfl⟩ F.entry_list_pop (F.args_list_pop_1 _) (MeetsSeq.list_pop_last l its.toArray n u hy' (by rw[List.size_toArray];ac_nf)) ⟨e,?_⟩
 refine⟨y,_,I.lset (its':=its.dropLast) hH e ?_ r.dropLast ?_,ru,q⟩
 ·show its.toArray.eraseIdxIfInBounds (its.toArray.size - 1)=its.dropLast.toArray
  rw[List.size_toArray,List.eraseIdxIfInBounds_toArray,Qcv]
 ·rw[List.length_dropLast]
  ac_nf
def rClear:V->List V->Hp->VK->Prop:=fun x vs H Q=>∃ l xs,x=.ref l/\vs=[]/\H l=some (.lst xs)/\Q .non (upd H l (.lst []))
theorem QcB:MtM X "list.clear" rClear:=by
 intro pins s σ H x vs v us Q I rx rv h
 obtain⟨l,xs,rfl,rfl,hH,q⟩:=h
 cases rx
 have hus:=rv.zero
 subst hus
 obtain⟨z,its,n,r,hl,e⟩:=I.lstM hH
 refine call_meets F.slot_list_clear ⟨_,e,rfl⟩ F.entry_list_clear (F.args_list_clear_1 _) (AutoSeq1.list_clear_list_0 l its.toArray n (by rw[List.size_toArray];ac_nf)) ⟨e,?_⟩
 exact⟨.non,_,I.lset (its':=[]) (ys:=[]) hH e rfl .nil (Nat.zero_le _),rfl,q⟩
def rCat:R2:=fun x y H Q=>∃ l b xs zs,x=.ref l/\y=.ref b/\H l=some (.lst xs)/\H b=some (.lst zs)/\xs.length + zs.length<=sizeLine/\∀ p,H p=none->Q (.ref p) (upd H p (.lst (xs++zs)))
theorem QcC:OpR X (binaryOp .Add) rCat:=by
 intro pins s σ H x y v u Q I rx ry h
 obtain⟨l,b,xs,zs,rfl,rfl,hH,hB,hz,q⟩:=h
 cases rx
 cases ry
 obtain⟨z,its,n,r,hl,e⟩:=I.lstM hH
 obtain⟨z2,its2,n2,r2,hl2,e2⟩:=I.lstM hB
 refine PySem.P.add_list e e2 ?_ (by rw[List.size_toArray,List.size_toArray];ac_nf)
 have ea:its.toArray++its2.toArray=(its++its2).toArray:=by simp
 rw[ea]
 exact⟨.ref _,_,I.lnew (t':=s.toks) (r.append r2) (by rw[List.length_append];ac_nf),rfl,q _ I.fresh⟩
def rRep:R2:=fun x y H Q=>∃ l k xs,x=.ref l/\y=.int k/\H l=some (.lst xs) /\ -(2 ^ 63)<=k/\k < 2 ^ 63/\xs.length * k.toNat<=sizeLine /\
 ∀ p,H p=none->Q (.ref p) (upd H p (.lst (List.replicate k.toNat xs).flatten))
theorem QcD {α:Type} (xs:List α) (k:Nat):(List.replicate k xs).flatten.length=k * xs.length:=by
 induction k with
 | zero=>simp
 | succ k ih=>rw[List.replicate_succ,List.flatten_cons,List.length_append,ih,Nat.succ_mul,Nat.add_comm]
theorem QcE:OpR X (binaryOp .Mult) rRep:=by
 intro pins s σ H x y v u Q I rx ry h
 obtain⟨l,k,xs,rfl,rfl,hH,h1,h2,hz,q⟩:=h
 cases rx
 obtain⟨t,rfl⟩:=ry
 obtain⟨z,its,n,r,hl,e⟩:=I.lstM hH
 have hlen:its.toArray.size * k.toNat<=sizeLine:=by rw[List.size_toArray,<- hl];exact hz
 have hcap:¬ its.toArray.size * k.toNat > (2 ^ 63 - 1) / 8:=by
  have:(sizeLine:Nat)<=(2 ^ 63 - 1) / 8:=by decide
  ac_nf
 have hfit:¬ (!Builtin.List.listFitsIndex k)=true:=by
  rw[fitsIndex_both h1 h2]
  exact Bool.false_ne_true
 have hlong:¬ Builtin.List.listTooLong (its.toArray.size * k.toNat)=true:=by
  rw[Qcx hlen]
  exact Bool.false_ne_true
 have hnew:List.foldl (fun x1 x2=>x1++x2) #[] (List.replicate (if its.toArray.isEmpty=true then 0 else k.toNat) its.toArray)=(List.replicate k.toNat its).flatten.toArray:=by
  have f0:∀ m:Nat,List.foldl (fun x1 x2=>x1++x2) #[] (List.replicate m its.toArray)=(List.replicate m its).flatten.toArray:=fun m=>by
   have:=Qcw its m []
   rw[List.nil_append]at this
   exact this
  rw[f0]
  cases its with
  | nil=>simp
  | cons a r'=>rw[if_neg (by simp)]
 refine wpAny_binaryOp_repeat_ref (T:="list") (U:="int") (by decide) ⟨_,e,rfl⟩ (fun s'=>typeIs_int s' k t) noFill_list_mul F.fills_int_mul F.slot_int_rmul repeat_list F.slot_int_index.lookup
  (call_meets F.slot_int_rmul (typeIs_int s k t) F.entry_int_rmul (F.args_int_rmul_2 _ _) (int___rmul___int_list k t l its.toArray n)
   ⟨e,rfl,⟨_,e,rfl⟩,call_meets F.slot_list_mul ⟨_,e,rfl⟩ F.entry_list_mul (F.args_list_mul_2 _ _) (AutoListH.list___mul___list_int_3 l its.toArray n k t hfit hcap hlong) ⟨e,?_⟩⟩)
 rw[hnew]
 exact⟨.ref _,_,I.lnew (t':=s.toks) (r.rep k.toNat) (by rw[QcD,Nat.mul_comm];exact hz),rfl,q _ I.fresh⟩
end
section
variable {prog:Program}{w:World}{A:Around}{E:Value->Shared->Prop}{s:Shared}
theorem QcF {a c n:Nat} (hac:a<=c) (hc:c<=n):sliceBounds (some (a:Int)) (some (c:Int)) none n=((a:Int),(c:Int),1):=by
 simp only[sliceBounds,Option.getD_none]
 have h1:¬ ((a:Int) < 0):=by ac_nf
 have h2:¬ ((c:Int) < 0):=by ac_nf
 simp only[h1,h2,if_false,show (1:Int) > 0 by decide,if_true]
 congr 1
 ·ac_nf
 ·congr 1;ac_nf
end
end L2
namespace Att
open PySem PySem.W PySem.Calls PyProof.Rows
theorem QcH {P:Params}{h:Heap}:∀ (ns:List Int) (vs:List Value),WellAll P h vs (ns.map WData.int)->IntsAre vs ns:=by
 intro ns
 induction ns with
 | nil=>
  intro vs w
  rw[List.map_nil]at w
  cases w
  exact .nil
 | cons n ns ih=>
  intro vs w
  rw[List.map_cons]at w
  cases w with
  | cons a b=>
   cases a
   exact .cons _ _ (ih _ b)
theorem QcI {l : OpenLaw} {n : Nat} (hn : l.most = some n) {P : Params} {h : Heap} {args : List WData} {vals : List Value}
  (hpre:l.row.toRowW.claim.pre args=true) (hwl:WellAll P h vals args):
  ∃ a vs ns,vals=[Value.ref a]/\args=[WData.list (ns.map WData.int)]/\h.get? a=some { cls:=.type "list",data:=.seq vs.toArray }/\IntsAre vs ns/\ns.length<=n:=by
 have hsh:WShape.hasAll [] args [.list .int]=true:=(pre_splitW hpre).1
 have hc:l.pre.holds [] { args:=args }=true:=(pre_splitW hpre).2
 obtain⟨d,r,rfl,h1,h2⟩:=hasAllW_cons hsh
 obtain rfl:=hasAllW_nil h2
 obtain⟨xs,rfl,h3⟩:=hasW_list h1
 obtain⟨ns,rfl⟩:=items_int h3
 have hlen:ns.length<=n:=by
  unfold OpenLaw.pre at hc
  have h4:(WTm.not (.lt (.lit (.int (n:Int))) (.len (.arg 0)))).holds [] { args:=[.list (ns.map .int)] }=true:=by
   have h4:=(holds_andW hc).1
   rw[hn]at h4
   exact h4
  have h5:=condW_of h4 (w_not (w_lt w_lit (w_len_list (w_arg rfl))))
  rw[List.length_map]at h5
  refine Nat.le_of_not_lt fun q=>?_
  have q':(n:Int) < ((ns.length:Nat):Int):=by ac_nf
  first
   | (rw[decide_eq_true q']at h5;exact absurd h5 (by decide))
   | (simp at h5;ac_nf)
 cases hwl with
 | cons w1 w2=>
  cases w2
  cases w1 with
  | list ho hall=>exact⟨_,_,ns,rfl,rfl,ho,QcH ns _ hall,hlen⟩
theorem QcJ (l:OpenLaw) (args:List WData):l.row.toRowW.claim.post args (.bool true) args=true:=
 postW_of (r:=l.row.toRowW) (X:=(true == true))
  (show WShape.has [] (.bool true) .bool=true by first | rfl | decide | simp[WShape.has,WShape.arms,WShape.armsAll])
  (show (WTm.eq .res (.lit (.bool true))).value [] { args:=args,res:=some (.bool true),after:=args }=some (.bool (true == true)) from w_eq_bool (w_res rfl) w_lit) rfl
theorem attach_call {l : OpenLaw} {n : Nat} {q : Program} {loose : List Str} {XP : (Str -> Option Value) -> Heap -> Prop} {YP : World -> Heap -> Prop} {d : DefRec}
  (hn:l.most=some n) (hdf:d.params.defaults=[])
  (call:∀ (w:World) (s₀ s₁:Shared) (mg mb:Str->Option Value) (fa:Addr) (o:Obj) (pm cd doc:Value) (a:Addr) (vs:List Value) (ns:List Int),
   Ground q loose [] XP w s₀ mg mb s₁.heap->YP w s₁.heap ->
   s₁.heap.get? fa=some o->o.data=.func (docDef d.name d.params d.body d.scope pm cd doc)->s₁.heap.CodeRec cd d.name->mg d.name=some (.ref fa) ->
   s₁.heap.get? a=some { cls:=.type "list",data:=.seq vs.toArray }->IntsAre vs ns->ns.length<=n->s₁.gens=#[] ->
   codeAny (model l.prog w) callerA (.call (.ref fa) ⟨[.ref a],[]⟩) (fun r s'=>r=.ok (.ret (.bool true))/\OldK s₁.heap s'.heap/\s'.os=s₁.os/\AllBare s'.gens) s₁):
  WalkO q loose XP YP l.row.toRowW d [] (fun f vs=>PySem.call f vs):=by
 intro w s₀ s₁ mg mb G Y fa o pm cd doc dV kV ho hd hcd hD hmg hg args vals as hpre hlay hrd hwl hlo
 obtain rfl:dV=.none:=Dflts.none hD hdf
 obtain rfl:kV=.none:=Dflts.noKw hD
 obtain⟨a,vs,ns,rfl,rfl,hobj,hints,hlen⟩:=QcI hn hpre hwl
 refine enter_call (codeAny_mono (call w s₀ s₁ mg mb fa o pm cd doc a vs ns G Y ho (fd_plain hd) hcd hmg hobj hints hlen hg) fun r s' hq=>?_)
 obtain⟨rfl,h2,h3,h4⟩:=hq
 exact⟨.inl ⟨.bool true,.bool true,[],rfl,fun _=>rfl,.bool true,QcJ l _,fun _=>⟨List.Pairwise.nil,fun _ hm=>(nomatch hm)⟩⟩,h2,h3,h4⟩
end Att
namespace L2
open PySem PySem.Spec PyProof.Rows
theorem QcK:∀ {vs:List Value}{ns:List Int},IntsAre vs ns->Vals (ns.map V.int) vs
 | _,_,.nil=>.nil
 | _,_,.cons n t h=>.cons ⟨t,rfl⟩ (QcK h)
def Only (H:Hp):Prop:=∀ b,H b=none\/∃ o xs,H b=some (.frz o (.lst xs))
theorem QcL {P : Program} {w : World} {K : PySem.W.Frag} {mg mb : Str -> Option Value} {CX : CXT} {k : Nat} {fa a : Addr} {fd : FuncData} {x : Str} {sp : Sp} {s₁ : Shared} {vs : List Value} {ns : List Int}
  (KX:K.In s₁.heap) (hns:s₁.heap.Ns mainGlobals mg) (hb:s₁.heap.Ns builtinsNs mb) (hbb:∀ x:Str,x≠"__name__"->mb x=bootBuiltins x) (hlim:s₁.heap.NoLimit) (hg:s₁.gens=#[])
  (ha:s₁.heap.get? a=some { cls:=.type "list",data:=.seq vs.toArray }) (hi:IntsAre vs ns) (hl:ns.length<=sizeLine) (hr:Room k callerA)
  (F:∀ base:Heap,K.In base->base.Ns mainGlobals mg->FnOk P w K mg base CX k fa fd [x] sp) (hbind:∀ (s:Shared) (u:Value),BindsTo s fd ⟨[u],[]⟩ [(x,u)])
  (hsp:∀ H:Hp,Only H->SqL K H a (ns.map V.int)->sp [.ref a] H (fun v _=>v=.bl true) fun _ _ _=>False)
  (hCX:∀ H e s',CX [] H s₁ (fun _ _ _=>False) e s'->False):
  codeAny (model P w) callerA (.call (.ref fa) ⟨[.ref a],[]⟩) (fun r s'=>r=.ok (.ret (.bool true))/\OldK s₁.heap s'.heap/\s'.os=s₁.os/\AllBare s'.gens) s₁:=by
 have rv:=QcK hi
 have lenV:=hi.length
 have core : ∀ H : Hp, Only H -> SqL K H a (ns.map V.int) -> HOk P w H s₁.heap -> (∀ b, H b ≠ none -> b = a) -> (H a ≠ none -> K.lookup a = none) ->
   codeAny (model P w) callerA (.call (.ref fa) ⟨[.ref a],[]⟩) (fun r s'=>r=.ok (.ret (.bool true))/\OldK s₁.heap s'.heap/\s'.os=s₁.os/\AllBare s'.gens) s₁:=by
  intro H hO hS hok hA hK
  have base_of:∀ {b:Addr}{o:Obj},s₁.heap.get? b=some o->H b=none->(hidT s₁.heap H).get? b=some o:=fun e n=>Qan e n
  have noA:∀ {b:Addr}{o:Obj}{es:Array DictEntry}{ep:Nat},s₁.heap.get? b=some o->o.data=.dict es ep->H b=none:=fun {b o es ep} e d=>by
   cases q:H b with
   | none=>rfl
   | some u=>
    have e':b=a:=hA b (by rw[q];simp)
    subst e'
    rw[ha]at e;cases e
    have d':Data.seq vs.toArray _=Data.dict es ep:=d
    cases d'
  have nsK:∀ {b:Addr}{m:Str->Option Value},s₁.heap.Ns b m->(hidT s₁.heap H).Ns b m:=fun {b m} pq45=>by obtain⟨o,es,ep,e,d,r⟩:=pq45;exact⟨o,es,ep,base_of e (noA e d),d,r⟩
  have hKb:K.In (hidT s₁.heap H):=fun b o e=>base_of (KX b o e) (by
   cases q:H b with
   | none=>rfl
   | some u=>
    have e':b=a:=hA b (by rw[q];simp)
    subst e'
    rw[hK (by rw[q];simp)]at e;cases e)
  have hM:Mod K mg (hidT s₁.heap H):=⟨hKb,nsK hns,⟨mb,nsK hb,hbb⟩,let ⟨mc,h1,h2⟩:=hlim;⟨mc,nsK h1,h2⟩⟩
  have e0:Env0 P w K mg (hidT s₁.heap H) callerA [] s₁ H:=⟨rfl,hM,fun b o e=>Qao e,Nat.le_of_eq (Qam _ _),trivial,fun b hb=>absurd (show b∈([]:List Addr) from hb) (by simp),hok,.of_eq hg⟩
  refine codeAny_mono ((F _ hKb (nsK hns)).run callerA [] s₁ H ⟨[.ref a],[]⟩ [.ref a] [.ref a] _ _ hr e0 (hbind s₁ (.ref a)) (.cons rfl .nil) (hsp H hO hS)) fun r s' h=>?_
  cases r with
  | error e=>exact (hCX H e s' h).elim
  | ok fl=>
   cases fl with
   | next=>exact False.elim h
   | brk=>exact False.elim h
   | cont=>exact False.elim h
   | ret u=>
    obtain⟨v,H',os,bare,un,hok',r',q⟩:=h
    have q':v=.bl true:=q
    subst q'
    obtain rfl:u=Value.bool true:=r'
    refine⟨rfl,OldK.of_keep fun b o e=>?_,os,bare⟩
    cases q:H b with
    | none=>exact un.keep b o e q (by intro z;exact absurd (show b∈([]:List Addr) from z) (by simp)) (by simp)
    | some u=>
     rcases hO b with z | ⟨ob,xs,z⟩
     ·rw[q]at z;cases z
     ·have z2:=un.frzs b ob _ z
      obtain⟨e1,_⟩:=hok b _ z
      obtain⟨e2,_⟩:=hok' b _ z2
      rw[e]at e1;cases e1
      exact e2
 cases hk:K.lookup a with
 | some o=>
  have e:=KX a o hk
  rw[ha]at e
  cases e
  refine core (fun _=>none) (fun _=>.inl rfl) (.inr ⟨_,vs.toArray,_,hk,rfl,rfl,rfl,by rw[List.size_toArray,lenV];exact hl,by simpa using rv⟩) (fun b u z=>by have z':(none:Option HO)=some u:=z;cases z') (fun b z=>absurd rfl z) fun z=>absurd rfl z
 | none=>
  refine core (fun b=>if b=a then some (.frz { cls:=.type "list",data:=.seq vs.toArray } (.lst (ns.map V.int))) else none) (fun b=>?_) (.inl (.inr ⟨{ cls:=.type "list",data:=.seq vs.toArray },if_pos rfl⟩)) (fun b u z=>?_) (fun b z=>?_) fun _=>hk
  ·by_cases hb:b=a
   ·exact .inr ⟨_,_,if_pos hb⟩
   ·exact .inl (if_neg hb)
  ·by_cases hb:b=a
   ·have z':=(if_pos hb).symm.trans z
    cases z'
    subst hb
    exact⟨ha,by rw[List.length_map];exact hl,vs,_,rv,ha⟩
   ·have z':=(if_neg hb).symm.trans z
    cases z'
  ·by_cases hb:b=a
   ·exact hb
   ·exact absurd (if_neg hb) z
theorem walk_of {l : PySem.W.OpenLaw} {n k : Nat} {q : Program} {loose : List Str} {XP : (Str -> Option Value) -> Heap -> Prop} {YP : World -> Heap -> Prop} {d : DefRec} {K : Params -> PySem.W.Frag} {CX : World -> CXT} {sp : World -> Sp} {x : Str}
  (hn:l.most=some n) (hn2:n<=sizeLine) (hdf:d.params.defaults=[]) (hr:Room k callerA)
  (hY:∀ (w:World) (h:Heap),YP w h->(K w.params).In h)
  (F:∀ (w:World) (mg:Str->Option Value) (fa:Addr) (h:Heap),(K w.params).In h->h.Ns mainGlobals mg->mg d.name=some (.ref fa) ->
   ∃ fd:FuncData,(∀ (s:Shared) (u:Value),BindsTo s fd ⟨[u],[]⟩ [(x,u)]) /\
    ∀ base:Heap,(K w.params).In base->base.Ns mainGlobals mg->FnOk l.prog w (K w.params) mg base (CX w) k fa fd [x] (sp w))
  (hsp:∀ (w:World) (H:Hp) (a:Addr) (ns:List Int),ns.length<=n->Only H->SqL (K w.params) H a (ns.map V.int)->sp w [.ref a] H (fun v _=>v=.bl true) fun _ _ _=>False)
  (hCX:∀ (w:World) (H:Hp) (s:Shared) (e:Value) (s':Shared),CX w [] H s (fun _ _ _=>False) e s'->False):
  PySem.W.WalkO q loose XP YP l.row.toRowW d [] (fun f vs=>PySem.call f vs):=by
 refine Att.attach_call hn hdf fun w s₀ s₁ mg mb fa o pm cd doc a vs ns G Y ho hd hcd hmg hobj hints hlen hg=>?_
 have KX:=hY w _ Y
 obtain⟨fd,hb,hF⟩:=F w mg fa _ KX G.T.g hmg
 exact QcL KX G.T.g G.T.b G.T.builtins G.T.nolimit hg hobj hints (Nat.le_trans hlen hn2) hr hF hb (fun H hO hS=>hsp w H a ns hlen hO hS) fun H e s'=>hCX w H s₁ e s'
theorem walk_ofK {l : PySem.W.OpenLaw} {n k : Nat} {q : Program} {loose : List Str} {XP : (Str -> Option Value) -> Heap -> Prop} {YP : World -> Heap -> Prop} {d : DefRec} {K : Params -> PySem.W.Frag} {CX : CXT} {sp : PySem.W.Frag -> Sp} {x : Str}
  (hn:l.most=some n) (hn2:n<=sizeLine) (hdf:d.params.defaults=[]) (hr:Room k callerA)
  (hY:∀ (w:World) (h:Heap),YP w h->(K w.params).In h)
  (F:∀ (w:World) (mg:Str->Option Value) (fa:Addr) (h:Heap),(K w.params).In h->h.Ns mainGlobals mg->mg d.name=some (.ref fa) ->
   ∃ fd:FuncData,(∀ (s:Shared) (u:Value),BindsTo s fd ⟨[u],[]⟩ [(x,u)]) /\
    ∀ base:Heap,(K w.params).In base->base.Ns mainGlobals mg->FnOk l.prog w (K w.params) mg base CX k fa fd [x] (sp (K w.params)))
  (hsp:∀ (K:PySem.W.Frag) (H:Hp) (a:Addr) (ns:List Int),ns.length<=n->Only H->SqL K H a (ns.map V.int)->sp K [.ref a] H (fun v _=>v=.bl true) fun _ _ _=>False)
  (hCX:∀ (H:Hp) (s:Shared) (e:Value) (s':Shared),CX [] H s (fun _ _ _=>False) e s'->False):
  PySem.W.WalkO q loose XP YP l.row.toRowW d [] (fun f vs=>PySem.call f vs):=
 walk_of (K:=K) (CX:=fun _=>CX) (sp:=fun w=>sp (K w.params)) hn hn2 hdf hr hY F (fun w H a ns h1 h2 h3=>hsp (K w.params) H a ns h1 h2 h3) fun _ H s e s'=>hCX H s e s'
def defArgs (s:Stmt):Arguments:=match s with
 | .FunctionDef _ a _ _ _ _ _ _ _ _=>a
 | _=>{ posonlyargs:=[],args:=[],vararg:=none,kwonlyargs:=[],kw_defaults:=[],kwarg:=none,defaults:=[] }
def defBody (s:Stmt):List Stmt:=match s with
 | .FunctionDef _ _ b _ _ _ _ _ _ _=>b
 | _=>[]
def defScope (s:Stmt):Scope:=match s with
 | .FunctionDef _ _ _ _ _ _ sc _ _ _=>sc
 | _=>{ kind:=.function,names:=[],isGenerator:=false,isCoroutine:=false }
abbrev CX0:CXT:=fun _ _ _ _ _ _=>False
abbrev E0:XK:=fun _ _ _=>False
theorem QcM {X:Cx}:Passes CX0 X E0:=fun _ _ _ _ _ _ _ h=>h.elim
structure Fun (K:PySem.W.Frag) (x qual:Str) (st:Stmt) (f:Addr) (fd:FuncData):Prop where
 ex:∃ (oc:Value) (od:Option Addr) (kV doc pm:Value) (an:Option Addr) (cdv ct:Value) (osl:Array (Option Value)),
  fd=PySem.W.fnOf x qual (defArgs st) (defBody st) (defScope st) .none kV doc pm an cdv ct/\K.lookup f=some ⟨oc,od,.func fd,osl⟩/\PySem.W.codeIn K cdv qual=true
 kp:PySem.W.keepIn K (.ref f)=true
section
variable {P:Program}{w:World}{K:PySem.W.Frag}{mg:Str->Option Value}{base:Heap}
theorem Fun.ok {x qual : Str} {st : Stmt} {f : Addr} {fd : FuncData} {N ps : List Str} {k : Nat} {sp : Sp} (F : Fun K x qual st f fd) (S : FnScope N ps (defScope st)) (len : ∀ vs H Q E, sp vs H Q E -> vs.length = ps.length)
  (hbody:∀ (cdv:Value) (A:Around) (outer:List Env) (s:Shared) (H:Hp) (vs:List V) (Q:VK) (E:XK),Room k (A.deeper (envOfC qual (defScope st) s.heap.objs.size f cdv))->sp vs H Q E ->
   ∃ t,PSs (cxOf CX0 P w K mg base N qual (defScope st) f cdv A outer s H E).nox (defBody st) t/\t { nx:=fun _ H'=>Q .non H',rt:=Q } (start N vs) H):FnOk P w K mg base CX0 (k + 1) f fd ps sp:=by
 obtain⟨oc,od,kV,doc,pm,an,cdv,ct,osl,rfl,lk,hcd⟩:=F.ex
 refine QbR lk hcd S len fun A outer s H vs Q E hr hsp=>?_
 obtain⟨t,h,q⟩:=hbody cdv A outer s H vs Q E hr hsp
 exact⟨t,h.nox,q⟩
theorem Fun.binds {x qual : Str} {st : Stmt} {f : Addr} {fd : FuncData} {ps : List Str} (F : Fun K x qual st f fd)
  (h:∀ (kV doc pm:Value) (an:Option Addr) (cdv ct:Value) (us:List Value),us.length=ps.length->bindArgs (PySem.W.fnOf x qual (defArgs st) (defBody st) (defScope st) .none kV doc pm an cdv ct) ⟨us,[]⟩=pure (ps.zip us)):Binds K fd ps []:=by
 obtain⟨oc,od,kV,doc,pm,an,cdv,ct,osl,rfl,lk,hcd⟩:=F.ex
 exact .all (h kV doc pm an cdv ct)
theorem QcN {x qual : Str} {st : Stmt} {f : Addr} {oc : Value} {od an : Option Addr} {osl : Array (Option Value)} {kV doc pm cdv ct : Value} (l : K.lookup f = some ⟨oc, od, .func (PySem.W.fnOf x qual (defArgs st) (defBody st) (defScope st) .none kV doc pm an cdv ct), osl⟩)
  (c:PySem.W.codeIn K cdv qual=true) (k:PySem.W.keepIn K (.ref f)=true):Fun K x qual st f (PySem.W.fnOf x qual (defArgs st) (defBody st) (defScope st) .none kV doc pm an cdv ct):=⟨⟨oc,od,kV,doc,pm,an,cdv,ct,osl,rfl,l,c⟩,k⟩
end
section
variable {κ:Type} [DecidableEq κ]
def valV (kvs:List (κ × V)) (k:κ):Option V:=(kvs.find? fun kv=>decide (kv.1=k)).map (·.2)
def putK (kvs:List (κ × V)) (k:κ) (v:V):List (κ × V):=
 if (kvs.any fun kv=>decide (kv.1=k))=true then kvs.map (fun kv=>if kv.1=k then (kv.1,v) else kv) else kvs++[(k,v)]
theorem QcO {p:κ × V}{r:List (κ × V)}{k:κ} (e:p.1=k):valV (p::r) k=some p.2:=by simp[valV,List.find?_cons,e]
theorem QcP {p:κ × V}{r:List (κ × V)}{k:κ} (e:¬ p.1=k):valV (p::r) k=valV r k:=by simp[valV,List.find?_cons,e]
theorem QcQ (k:κ):∀ kvs:List (κ × V),(kvs.any fun kv=>decide (kv.1=k))=(valV kvs k).isSome
 | []=>rfl
 | p::r=>by
  rw[List.any_cons]
  by_cases e:p.1=k
  ·simp only[QcO e,decide_eq_true e,Bool.true_or,Option.isSome_some]
  ·rw[QcP e,decide_eq_false e,Bool.false_or];exact QcQ k r
theorem QcR (kvs:List (κ × V)) (k:κ) (v:V):(putK kvs k v).length<=kvs.length + 1:=by
 unfold putK
 split
 ·rw[List.length_map];ac_nf
 ·rw[List.length_append,List.length_cons,List.length_nil];ac_nf
theorem RelO.isSome_eq {o:Option V}{u:Option Value} (r:RelO o u):o.isSome=u.isSome:=by
 cases o with
 | none=>cases u with
  | none=>rfl
  | some _=>exact (show False from r).elim
 | some _=>cases u with
  | none=>exact (show False from r).elim
  | some _=>rfl
theorem KV.val {kvs:List (κ × V)}{vs:List (κ × Value)} (r:KV kvs vs) (k:κ):RelO (valV kvs k) (valueAt vs k):=by
 unfold KV at r
 induction r with
 | nil=>exact True.intro
 | @cons p q ps qs h t ih=>
  obtain⟨h1,h2⟩:=h
  by_cases e:p.1=k
  ·have e':q.1=k:=h1.symm.trans e
   have b:valueAt (q::qs) k=some q.2:=by simp[valueAt,List.find?_cons,e']
   rw[QcO e,b];exact h2
  ·have e':¬ q.1=k:=fun z=>e (h1.trans z)
   have b:valueAt (q::qs) k=valueAt qs k:=by simp[valueAt,List.find?_cons,e']
   rw[QcP e,b];exact ih
theorem KV.any {kvs:List (κ × V)}{vs:List (κ × Value)} (r:KV kvs vs) (k:κ):(kvs.any fun kv=>decide (kv.1=k))=vs.any fun kv=>decide (kv.1=k):=by
 unfold KV at r
 induction r with
 | nil=>rfl
 | cons h t ih=>rw[List.any_cons,List.any_cons,ih,h.1]
theorem KV.repl {kvs : List (κ × V)} {vs : List (κ × Value)} (r : KV kvs vs) (k : κ) {y : V} {u : Value} (ry : RelV y u) :
  KV (kvs.map fun kv=>if kv.1=k then (kv.1,y) else kv) (vs.map fun kv=>if kv.1=k then (kv.1,u) else kv):=by
 unfold KV at r ⊢
 induction r with
 | nil=>exact .nil
 | @cons p q ps qs h t ih=>
  rw[List.map_cons,List.map_cons]
  refine .cons ?_ ih
  obtain⟨h1,h2⟩:=h
  by_cases e:p.1=k
  ·rw[if_pos e,if_pos (h1.symm.trans e)];exact⟨h1,ry⟩
  ·rw[if_neg e,if_neg (fun z=>e (h1.trans z))];exact⟨h1,h2⟩
theorem KV.put {kvs:List (κ × V)}{vs:List (κ × Value)} (r:KV kvs vs) (k:κ) {y:V}{u:Value} (ry:RelV y u):KV (putK kvs k y) (stored vs k u):=by
 unfold putK stored
 rw[r.any k]
 by_cases e:(vs.any fun kv=>decide (kv.1=k))=true
 ·rw[if_pos e,if_pos e];exact r.repl k ry
 ·rw[if_neg e,if_neg e];exact Paired.snoc r ⟨rfl,ry⟩
theorem KV.length {kvs:List (κ × V)}{vs:List (κ × Value)} (r:KV kvs vs):kvs.length=vs.length:=Paired.length r
end
theorem QcS {P:Program}{w:World}{k:Key}{u:Value} (r:RelV (kV k) u):(mixKind P w).is k u=true:=by
 cases k with
 | inl i=>obtain⟨t,e⟩:=(show ∃ t,u=Value.int i t from r);subst e;exact Qag P w i t
 | inr x=>obtain⟨t,e⟩:=(show ∃ t,u=Value.str x t from r);subst e;exact Qah P w x t
theorem QcT {P:Program}{w:World}:∀ {ks:List Key}{us:List Value},Vals (ks.map kV) us->ItemsAre (mixKind P w) ks us
 | [],_,r=>by rw[List.map_nil]at r;cases r;exact .nil
 | k::ks,_,r=>by
  rw[List.map_cons]at r
  cases r with
  | cons h t=>exact .cons (QcS h) (QcT t)
abbrev KT (H:Hp):List (List Key × V)->List (List Key × Addr × Value)->Prop:=Paired fun p q=>p.1=q.1/\H q.2.1=some (.tup (p.1.map kV))/\RelV p.2 q.2.2
theorem KT.val {H:Hp}{kvs:List (List Key × V)}{xs:List (List Key × Addr × Value)} (r:KT H kvs xs) (k:List Key):RelO (valV kvs k) ((atKey xs k).map (·.2)):=by
 induction r with
 | nil=>exact True.intro
 | @cons p q ps qs h t ih=>
  obtain⟨h1,_,h2⟩:=h
  by_cases e:p.1=k
  ·have e':q.1=k:=h1.symm.trans e
   have b:atKey (q::qs) k=some q.2:=by simp[atKey,List.find?_cons,e']
   rw[QcO e,b];exact h2
  ·have e':¬ q.1=k:=fun z=>e (h1.trans z)
   have b:atKey (q::qs) k=atKey qs k:=by simp[atKey,List.find?_cons,e']
   rw[QcP e,b];exact ih
theorem KT.repl {H : Hp} {kvs : List (List Key × V)} {xs : List (List Key × Addr × Value)} (r : KT H kvs xs) (k : List Key) {y : V} {u : Value} (ry : RelV y u) :
  KT H (kvs.map fun kv=>if kv.1=k then (kv.1,y) else kv) (xs.map (putAt k u)):=by
 induction r with
 | nil=>exact .nil
 | @cons p q ps qs h t ih=>
  rw[List.map_cons,List.map_cons]
  refine .cons ?_ ih
  obtain⟨h1,h2,h3⟩:=h
  unfold putAt
  by_cases e:p.1=k
  ·rw[if_pos e,if_pos (h1.symm.trans e)];exact⟨h1,h2,ry⟩
  ·rw[if_neg e,if_neg (fun z=>e (h1.trans z))];exact⟨h1,h2,h3⟩
theorem KT.put {H : Hp} {kvs : List (List Key × V)} {xs : List (List Key × Addr × Value)} (r : KT H kvs xs) (k : List Key) {b : Addr} {y : V} {u : Value} (hb : H b = some (.tup (k.map kV))) (ry : RelV y u) :
  KT H (putK kvs k y) (storedH xs k b u):=by
 have e:(kvs.any fun kv=>decide (kv.1=k))=(atKey xs k).isSome:=by
  rw[QcQ,(r.val k).isSome_eq,Option.isSome_map]
 unfold putK storedH
 rw[e]
 by_cases q:(atKey xs k).isSome=true
 ·rw[if_pos q,if_pos q];exact r.repl k ry
 ·rw[if_neg q,if_neg q];exact Paired.snoc r ⟨rfl,hb,ry⟩
theorem KT.keeps {H H':Hp}{kvs:List (List Key × V)}{xs:List (List Key × Addr × Value)} (r:KT H kvs xs) (ht:∀ b ys,H b=some (.tup ys)->H' b=some (.tup ys)):KT H' kvs xs:=
 Paired.mapP r fun _ _ z=>⟨z.1,ht _ _ z.2.1,z.2.2⟩
section
variable {P:Program}{w:World}{H:Hp}{h:Heap}{a:Addr}
theorem QcU {u:HO} (ok:HOk P w H h) (e:Rd H a u):ObjOk P w H h a u:=e.ok ok
theorem QcV {kvs:List (Key × V)} (ok:HOk P w H h) (e:Rd H a (.dK kvs)):kvs.length<=sizeLine/\(a == sysModules)=false/\∃ vs,KV kvs vs/\h.DictOf (mixKind P w) a vs:=
 show ObjOk P w H h a (.dK kvs) from QcU ok e
theorem QcW {kvs:List (Key × V)} (ok:HOk P w H h) (e:H a=some (.dK kvs)):kvs.length<=sizeLine/\(a == sysModules)=false/\∃ vs,KV kvs vs/\h.DictOf (mixKind P w) a vs:=QcV ok (.inl e)
theorem QcX {ks:List Key} (ok:HOk P w H h) (e:H a=some (.tup (ks.map kV))):(tupleKind (mixKind P w)).is h ks a:=by
 obtain⟨_,its,r,o,h1,h2,n,h3⟩:=(show ObjOk P w H h a (.tup (ks.map kV)) from ok a _ e)
 exact⟨o,its.toArray,n,h1,h2,h3,by simpa using QcT r⟩
theorem QcY {kvs : List (List Key × V)} (ok : HOk P w H h) (e : Rd H a (.dT kvs)) : kvs.length <= sizeLine /\ (a == sysModules) = false /\
  ∃ xs,KT H kvs xs/\h.DictOfH (tupleKind (mixKind P w)) a xs:=by
 obtain⟨z,y,xs,r,o,es,ep,h1,h2,h3,h4,h5⟩:=(show ObjOk P w H h a (.dT kvs) from QcU ok e)
 refine⟨z,y,xs,r,o,es,ep,h1,h2,h3,h4,fun x hx=>?_,h5⟩
 have all:∀ {l:List (List Key × V)}{m:List (List Key × Addr × Value)},KT H l m->∀ x∈m,(tupleKind (mixKind P w)).is h x.1 x.2.1:=by
  intro l m q
  induction q with
  | nil=>intro x hx;exact nomatch hx
  | @cons p q ps qs hq t ih=>
   intro x hx
   rcases List.mem_cons.mp hx with e | hx
   ·subst e
    exact QcX ok (by rw[<- hq.1];exact hq.2.1)
   ·exact ih x hx
 exact all r x hx
theorem QcZ {kvs : List (List Key × V)} (ok : HOk P w H h) (e : H a = some (.dT kvs)) : kvs.length <= sizeLine /\ (a == sysModules) = false /\
  ∃ xs,KT H kvs xs/\h.DictOfH (tupleKind (mixKind P w)) a xs:=QcY ok (.inl e)
end
def DGet (H:Hp) (a:Addr) (y:V) (r:Option V):Prop:=
 (∃ kvs k,Rd H a (.dK kvs)/\y=kV k/\r=valV kvs k)\/∃ kvs k b,Rd H a (.dT kvs)/\y=.ref b/\H b=some (.tup (k.map kV))/\r=valV kvs k
def DPut (H:Hp) (a:Addr) (y v:V) (H':Hp):Prop:=
 (∃ kvs k,H a=some (.dK kvs)/\y=kV k/\kvs.length < sizeLine/\H'=upd H a (.dK (putK kvs k v))) \/
 ∃ kvs k b,H a=some (.dT kvs)/\y=.ref b/\H b=some (.tup (k.map kV))/\kvs.length < sizeLine/\H'=upd H a (.dT (putK kvs k v))
theorem DGet.k {H:Hp}{a:Addr}{kvs:List (Key × V)}{k:Key} (e:H a=some (.dK kvs)):DGet H a (kV k) (valV kvs k):=.inl ⟨kvs,k,.inl e,rfl,rfl⟩
theorem DPut.k {H:Hp}{a:Addr}{kvs:List (Key × V)}{k:Key}{v:V} (e:H a=some (.dK kvs)) (hl:kvs.length < sizeLine):DPut H a (kV k) v (upd H a (.dK (putK kvs k v))):=.inl ⟨kvs,k,e,rfl,hl,rfl⟩
section
variable {X:Cx}{pins:List (Addr × Obj)}{σ:St}{H:Hp}{s:Shared}{a:Addr}{y v:V}{u r:Value}{o:Option V}{A:Around}{E:Value->Shared->Prop}
theorem Inv.big (I:Inv X pins σ H s):sysModules < s.heap.objs.size:=by
 have h:mainGlobals < s.heap.objs.size:=(I.mod.glob.keeps I.bk).lt
 exact Nat.lt_trans (by decide) h
theorem Qc0 {Q : Value -> Shared -> Prop} (hu : A.units + 1 < cLine) (I : Inv X pins σ H s) (g : DGet H a y (some v)) (ry : RelV y u) (h : ∀ w' s', Inv X pins σ H s' -> RelV v w' -> Q w' s') :
  wpAny (model X.prog X.w) A (getItem (.ref a) u) Q E s:=by
 rcases g with ⟨kvs,k,e,ey,l⟩ | ⟨kvs,k,b,e,ey,eb,l⟩
 ·subst ey
  obtain⟨z,hd,vs,rel,dd⟩:=QcV I.hok e
  obtain⟨w',hw,rw'⟩:=RelO.some_of (v:=v) (o:=valueAt vs k) (by rw[l];exact rel.val k)
  exact wpAny_getItem_of (QcS ry) dd.mapOf hw (h w' _ (I.tok _) rw')
 ·subst ey
  cases (show u=Value.ref b from ry)
  obtain⟨z,hd,xs,rel,dd⟩:=QcY I.hok e
  obtain⟨w',hw,rw'⟩:=RelO.some_of (v:=v) (o:=(atKey xs k).map (·.2)) (by rw[l];exact rel.val k)
  obtain⟨p,hp,hp2⟩:=Option.map_eq_some_iff.mp hw
  refine wpAny_getItem_heap (tupleKind_room_in1 hu) (QcX I.hok eb) dd hp ?_
  rw[hp2]
  exact h w' _ (I.tok _) rw'
theorem Qc1 {Q : Value -> Shared -> Prop} (hu : A.units + 1 < cLine) (I : Inv X pins σ H s) (g : DGet H a y o) (ry : RelV y u) (h : ∀ s', Inv X pins σ H s' -> Q (.bool (!o.isSome)) s') :
  wpAny (model X.prog X.w) A (compareOp .NotIn u (.ref a)) Q E s:=by
 rcases g with ⟨kvs,k,e,ey,l⟩ | ⟨kvs,k,b,e,ey,eb,l⟩
 ·subst ey
  obtain⟨z,hd,vs,rel,dd⟩:=QcV I.hok e
  refine wpAny_notIn_of (QcS ry) hd dd.mapOf ?_
  rw[<- (rel.val k).isSome_eq,<- l]
  exact h _ (I.tok _)
 ·subst ey
  cases (show u=Value.ref b from ry)
  obtain⟨z,hd,xs,rel,dd⟩:=QcY I.hok e
  refine wpAny_notIn_heap (tupleKind_room_in1 hu) (QcX I.hok eb) hd dd ?_
  have q:=(rel.val k).isSome_eq
  rw[Option.isSome_map]at q
  rw[<- q,<- l]
  exact h _ (I.tok _)
theorem Qc2 {h' : Heap} {t' : Nat} {ob : HO} (I : Inv X pins σ H s) (mu : Mut (H a)) (hs : Heap.SameBut a s.heap h') (he : ∃ q, h'.get? a = some q) (new : ObjOk X.prog X.w (upd H a ob) h' a ob) :
  Inv X pins σ (upd H a ob) { s with heap:=h',toks:=t' }:=
 I.write (x:=a) (e:=a) mu (.inl rfl) (fun b q hb z=>(hs.2 b hb).trans z) he new
theorem Qc3 {P : Program} {w : World} {H' : Hp} {h' : Heap} {kvs : List (Key × V)} {vs : List (Key × Value)} (z : kvs.length <= sizeLine) (hd : (a == sysModules) = false) (rel : KV kvs vs) (dd : h'.DictOf (mixKind P w) a vs) :
  ObjOk P w H' h' a (.dK kvs):=⟨z,hd,vs,rel,dd⟩
theorem Qc4 {H' : Hp} {Q : Unit -> Shared -> Prop} (hu : A.units + 1 < cLine) (I : Inv X pins σ H s) (g : DPut H a y v H') (ry : RelV y u) (rv : RelV v r) (h : ∀ s', Inv X pins σ H' s' -> Q () s') :
  wpAny (model X.prog X.w) A (setItem (.ref a) u r) Q E s:=by
 rcases g with ⟨kvs,k,e,ey,l,eH⟩ | ⟨kvs,k,b,e,ey,eb,l,eH⟩
 ·subst ey eH
  obtain⟨z,hd,vs,rel,dd⟩:=QcW I.hok e
  have hz:vs.length<=sizeLine:=by rw[<- rel.length];exact z
  have hl:(putK kvs k v).length<=sizeLine:=by have:=QcR kvs k v;ac_nf
  refine wpAny_setItem_pairs (hsz:=hz) (QcS ry) dd fun h' dd' hs=>h _ ?_
  have he:∃ q,h'.get? a=some q:=let ⟨q,_,_,hq,_⟩:=dd';⟨q,hq⟩
  exact Qc2 I (by rw[e];exact True.intro) hs he (Qc3 hl hd (rel.put k rv) dd')
 ·subst ey eH
  cases (show u=Value.ref b from ry)
  obtain⟨z,hd,xs,rel,dd⟩:=QcZ I.hok e
  have hz:xs.length<=sizeLine:=by rw[<- Paired.length rel];exact z
  have hl:(putK kvs k v).length<=sizeLine:=by have:=QcR kvs k v;ac_nf
  refine wpAny_setItem_heap (hsz:=hz) (tupleKind_room_in1 hu) (QcX I.hok eb) dd fun h' dd' hs=>h _ ?_
  obtain⟨q,es,ep,hq,h2,h3,h4,_,h5⟩:=dd'
  refine Qc2 I (by rw[e];exact True.intro) hs ⟨q,hq⟩ ⟨hl,hd,_,(rel.put k eb rv).keeps fun c ys ec=>?_,q,es,ep,hq,h2,h3,h4,h5⟩
  rw[Qaj (Qak ec e (fun z=>nomatch z))]
  exact ec
end
section
variable {X:Cx}{pins:List (Addr × Obj)}{σ:St}{H:Hp}{s:Shared}{a:Addr}{kvs:List (Key × V)}{k:Key}{u:Value}{A:Around}{E:Value->Shared->Prop}
theorem Qc5 {Q:Value->Shared->Prop} (I:Inv X pins σ H s) (e:Rd H a (.dK kvs)) (h:∀ t s',Inv X pins σ H s'->Q (.int kvs.length t) s'):wpAny (model X.prog X.w) A (call (.builtin "len") [.ref a]) Q E s:=by
 obtain⟨z,hd,vs,rel,dd⟩:=QcV I.hok e
 refine call_len_dict hd dd (by rw[<- rel.length];rw[sizeLine_eq]at z;ac_nf) ?_
 rw[<- rel.length]
 exact h _ _ (I.tok _)
end
theorem Qc6 {P:Program}{w:World}{H:Hp} (h:Heap) (hb:sysModules < h.objs.size):ObjOk P w H (h.push { cls:=.type "dict",data:=.dict #[] }) h.objs.size (.dK []):=
 ⟨Nat.zero_le _,beq_eq_false_iff_ne.mpr (Ne.symm (Nat.ne_of_lt hb)),[],.nil,Heap.DictOf.new h⟩
def tDNewK:TE:=fun _ H Q=>∀ p,H p=none->Q (.ref p) (upd H p (.dK []))
section
variable {X:Cx}{pos:Pos}
theorem Qc7:PE X (.Dict [] [] pos) tDNewK:=fun pins s σ H Q I h=>
 wpAny_Dict_empty ⟨.ref s.heap.objs.size,_,I.laid (a:=s.heap.objs.size) (o:=.dK []) (t':=s.toks) (fun _ _ q=>Heap.get?_push_of_some _ q) (Nat.le_refl _) (Qc6 s.heap I.big),rfl,h _ (I.hok.fresh (Nat.le_refl _))⟩
end
def tPairs:List (TE × TE)->St->Hp->(List (V × V)->Hp->Prop)->Prop
 | [],_,H,Q=>Q [] H
 | (tk,tv)::r,σ,H,Q=>tk σ H fun x H1=>tv σ H1 fun y H2=>tPairs r σ H2 fun ps H3=>Q ((x,y)::ps) H3
abbrev VV:List (V × V)->List (Value × Value)->Prop:=Paired fun p q=>RelV p.1 q.1/\RelV p.2 q.2
def PPs (X:Cx) (pos:Pos) (keys:List (Option Expr)) (values:List Expr) (trs:List (TE × TE)):Prop:=
 ∀ (pins:List (Addr × Obj)) (s:Shared) (σ:St) (H:Hp) (Q:List (V × V)->Hp->Prop),Inv X pins σ H s->tPairs trs σ H Q ->
  wpAny (model X.prog X.w) X.A (evalPairs (pairTrees keys values X.env pos)) (fun vs s'=>∃ ps H',Inv X pins σ H' s'/\VV ps vs/\Q ps H') X.xe s
theorem Qc8 {X:Cx}{pos:Pos}:PPs X pos [] [] []:=fun pins s σ H Q I h=>pairTrees_nil_walk ⟨[],H,I,.nil,h⟩
theorem Qc9 {X : Cx} {pos : Pos} {k v : Expr} {ks : List (Option Expr)} {vs : List Expr} {tk tv : TE} {trs : List (TE × TE)} (hk : PE X k tk) (hv : PE X v tv) (hr : PPs X pos ks vs trs) :
  PPs X pos (some k::ks) (v::vs) ((tk,tv)::trs):=fun pins s σ H Q I h=>
 pairTrees_cons_walk (thn (hk pins s σ H _ I h) fun u s1 ⟨x,H1,I1,rx,q1⟩=>thn (hv pins s1 σ H1 _ I1 q1) fun w2 s2 ⟨y,H2,I2,ry,q2⟩=>
  thn (hr pins s2 σ H2 _ I2 q2) fun ws s3 ⟨ps,H3,I3,rel,q3⟩=>⟨(x,y)::ps,H3,I3,.cons ⟨rx,ry⟩ rel,q3⟩)
def mergeK (kvs more:List (Key × V)):List (Key × V):=more.foldl (fun acc kv=>putK acc kv.1 kv.2) kvs
theorem KV.merge:∀ {more:List (Key × V)}{rs:List (Key × Value)}{kvs:List (Key × V)}{vs:List (Key × Value)},KV more rs->KV kvs vs->KV (mergeK kvs more) (merged vs rs):=by
 intro more rs kvs vs r
 unfold KV at r
 induction r generalizing kvs vs with
 | nil=>intro q;exact q
 | @cons p q ps qs h t ih=>
  intro r0
  have e:KV (putK kvs p.1 p.2) (stored vs q.1 q.2):=by
   have:=r0.put p.1 h.2
   rw[<- h.1];exact this
  exact ih e
theorem Qda:∀ (more kvs:List (Key × V)),(mergeK kvs more).length<=kvs.length + more.length
 | [],kvs=>by show kvs.length<=kvs.length + 0;ac_nf
 | p::r,kvs=>by
  have h1:=Qda r (putK kvs p.1 p.2)
  have h2:=QcR kvs p.1 p.2
  show (mergeK (putK kvs p.1 p.2) r).length<=_
  rw[List.length_cons];ac_nf
theorem Qdb {P:Program}{w:World}:∀ {kvs:List (Key × V)}{ws:List (Value × Value)},VV (kvs.map fun kv=>(kV kv.1,kv.2)) ws->∃ rs,Carries (mixKind P w) ws rs/\KV kvs rs
 | [],_,r=>by rw[List.map_nil]at r;cases r;exact⟨[],True.intro,.nil⟩
 | p::kvs,_,r=>by
  rw[List.map_cons]at r
  cases r with
  | @cons a b as bs h t=>
   obtain⟨rs,c,q⟩:=Qdb (P:=P) (w:=w) t
   obtain⟨b1,b2⟩:=b
   exact⟨(p.1,b2)::rs,⟨QcS h.1,rfl,c⟩,.cons ⟨rfl,h.2⟩ q⟩
def tDisp (trs:List (TE × TE)):TE:=fun σ H Q=>∀ p,H p=none->tPairs trs σ (upd H p (.dK [])) fun ps H2=>H2 p=some (.dK [])/\∃ kvs:List (Key × V),ps=kvs.map (fun kv=>(kV kv.1,kv.2))/\kvs.length<=15/\Q (.ref p) (upd H2 p (.dK (mergeK [] kvs)))
theorem Qdc {X : Cx} {pos : Pos} {keys : List (Option Expr)} {values : List Expr} {trs : List (TE × TE)} (h : PPs X pos keys values trs) (hall : keys.all (·.isSome) = true) (hl : keys.length = values.length) (h0 : keys ≠ [])
  (h15:keys.length<=15):PE X (.Dict keys values pos) (tDisp trs):=by
 intro pins s σ H Q I q
 have hn:=I.hok.fresh (Nat.le_refl s.heap.objs.size)
 have I1:=I.laid (a:=s.heap.objs.size) (o:=.dK []) (h':=s.heap.push { cls:=.type "dict",data:=.dict #[] }) (t':=s.toks) (fun _ _ q=>Heap.get?_push_of_some _ q) (Nat.le_refl _) (Qc6 s.heap I.big)
 refine wpAny_Dict_walk (knd:=mixKind X.prog X.w) hall hl h0 h15 (thn (h pins _ σ _ _ I1 (q _ hn)) fun ws s2 pq46=>?_)
 obtain⟨ps,H2,I2,rel,e,kvs,ep,lk,q2⟩:=pq46
 subst ep
 obtain⟨rs,c,rk⟩:=Qdb (P:=X.prog) (w:=X.w) rel
 obtain⟨z,hd,vs0,r0,dd⟩:=QcW I2.hok e
 cases r0
 refine⟨rs,c,dd,fun h' dd' hs=>⟨.ref s.heap.objs.size,_,?_,rfl,q2⟩⟩
 have hz:(mergeK [] kvs).length<=sizeLine:=by
  have h1:=Qda kvs []
  rw[List.length_nil]at h1
  rw[sizeLine_eq];ac_nf
 have he:∃ q,h'.get? s.heap.objs.size=some q:=let ⟨q,_,_,hq,_⟩:=dd';⟨q,hq⟩
 exact Qc2 I2 (by rw[e];exact True.intro) hs he (Qc3 hz hd (rk.merge .nil) dd')
end L2
namespace MM
open PySem PySem.Spec PyProof.Rows L2
abbrev KI:=Int ⊕ List Int
section
variable {prog:Program}{w:World}
variable (prog w) in
inductive TIt (h:Heap):KI->Value->Prop
 | one (i:Int) (t:Tok):TIt h (.inl i) (.int i t)
 | row {k:List Int}{b:Addr}:IsTupleKey (intKind prog w) h k b->TIt h (.inr k) (.ref b)
variable (prog w) in
inductive TIts (h:Heap):List KI->List Value->Prop
 | nil:TIts h [] []
 | cons {k:KI}{v:Value}{ks:List KI}{vs:List Value}:TIt prog w h k v->TIts h ks vs->TIts h (k::ks) (v::vs)
variable (prog w) in
def IsNestKey (h:Heap) (ks:List KI) (a:Addr):Prop:=∃ o items n,h.get? a=some o/\o.cls=.type "tuple"/\o.data=.seq items n/\TIts prog w h ks items.toList
theorem TIt.inj {h:Heap}{x y:KI}{v:Value} (a:TIt prog w h x v) (b:TIt prog w h y v):x=y:=by
 cases a with
 | one i t=>cases b;rfl
 | row a=>cases b with
  | row b=>rw[a.inj b]
theorem TIts.inj {h:Heap}{x y:List KI}{vs:List Value} (a:TIts prog w h x vs) (b:TIts prog w h y vs):x=y:=by
 induction a generalizing y with
 | nil=>cases b;rfl
 | cons a t ih=>cases b with
  | cons b u=>rw[a.inj b,ih u]
theorem IsNestKey.typeIs {s:Shared}{ks:List KI}{a:Addr} (x:IsNestKey prog w s.heap ks a):s.TypeIs (.ref a) "tuple":=let ⟨o,_,_,ho,hc,_⟩:=x;⟨o,ho,hc⟩
theorem IsNestKey.inj {h:Heap}{a:Addr}{x y:List KI} (hx:IsNestKey prog w h x a) (hy:IsNestKey prog w h y a):x=y:=by
 obtain⟨o,items,n,ho,_,hd,hi⟩:=hx
 obtain⟨o',items',n',ho',_,hd',hi'⟩:=hy
 cases ho.symm.trans ho'
 rw[hd]at hd'
 injection hd' with h1 _
 subst h1
 exact hi.inj hi'
theorem TIt.keeps {h h':Heap}{d:Addr}{o:Obj}{es ep} (ho:h.get? d=some o) (hd:o.data=.dict es ep) (hs:Heap.SameBut d h h'):∀ {x:KI}{v:Value},TIt prog w h x v->TIt prog w h' x v
 | _,_,.one i t=>.one i t
 | _,_,.row a=>.row (a.keeps ho hd hs)
theorem TIts.keeps {h h':Heap}{d:Addr}{o:Obj}{es ep} (ho:h.get? d=some o) (hd:o.data=.dict es ep) (hs:Heap.SameBut d h h'):∀ {x:List KI}{vs:List Value},TIts prog w h x vs->TIts prog w h' x vs
 | _,_,.nil=>.nil
 | _,_,.cons a t=>.cons (a.keeps ho hd hs) (TIts.keeps ho hd hs t)
theorem IsNestKey.keeps {h h' : Heap} {ks : List KI} {a d : Addr} {o : Obj} {es ep} (x : IsNestKey prog w h ks a) (ho : h.get? d = some o) (hd : o.data = .dict es ep) (hs : Heap.SameBut d h h') :
  IsNestKey prog w h' ks a:=by
 obtain⟨o',items,n,ho',hc,hd',hi⟩:=x
 have hne:a≠d:=by
  rintro rfl
  obtain rfl:o'=o:=Option.some.inj (ho'.symm.trans ho)
  rw[hd]at hd';exact nomatch hd'
 exact⟨o',items,n,(hs.2 a hne).trans ho',hc,hd',hi.keeps ho hd hs⟩
def itH:KI->Int
 | .inl i=>hashInt i
 | .inr r=>reduceHash (Builtin.Tuple.tupleHashOf (r.map hashInt))
def nestHash (ks:List KI):Int:=reduceHash (Builtin.Tuple.tupleHashOf (ks.map itH))
def itN:KI->Nat
 | .inl _=>1
 | .inr r=>r.length + 1
def nestDraws:List KI->Nat
 | []=>0
 | k::ks=>itN k + nestDraws ks
variable {A:Around}{E:Value->Shared->Prop}{s:Shared}
theorem Qdd (k:KI):∀ (l:List KI),nestDraws (l++[k])=nestDraws l + itN k
 | []=>by simp[nestDraws]
 | x::l=>by simp[nestDraws,Qdd k l];ac_nf
theorem Qde {k:KI}{v:Value}{Q:Int->Shared->Prop} (hu:A.units < cLine) (hk:TIt prog w s.heap k v) (h:Q (itH k) { s with toks:=s.toks + itN k }):wpAny (model prog w) A (pyHash v) Q E s:=by
 cases hk with
 | one i t=>exact wpAny_pyHash_int h
 | row hk=>exact wpAny_pyHash_tuple (knd:=intKind prog w) hu hk h
theorem Qdf {x y:KI}{u v:Value}{Q:Bool->Shared->Prop} (hu:A.units < cLine) (hx:TIt prog w s.heap x u) (hy:TIt prog w s.heap y v) (h:Q (decide (x=y)) s):wpAny (model prog w) A (eqBool u v) Q E s:=by
 cases hx with
 | one i t=>
  cases hy with
  | one j t'=>
   refine wpAny_eqBool_int ?_
   have e:(i == j)=decide ((Sum.inl i:KI)=Sum.inl j):=by
    by_cases z:i=j
    ·subst z;simp
    ·have z2:¬ ((Sum.inl i:KI)=Sum.inl j):=fun q=>z (by injection q)
     rw[decide_eq_false z2];exact beq_eq_false_iff_ne.mpr z
   first | (rw[e];exact h) | (simpa [e] using h)
  | row h2=>
   obtain⟨o,items,n,ho,hc,hd,_⟩:=h2
   rw[decide_eq_false (by simp)]at h
   exact SeqAt.EqAt.int_tuple i t ⟨o,ho,hc,n,hd⟩ hu prog w E Q h
 | row h1=>
  cases hy with
  | one j t'=>
   obtain⟨o,items,n,ho,hc,hd,_⟩:=h1
   rw[decide_eq_false (by simp)]at h
   exact SeqAt.EqAt.tuple_int j t' ⟨o,ho,hc,n,hd⟩ hu prog w E Q h
  | @row k2 b h2=>
   refine wpAny_eqBool_tuple (knd:=intKind prog w) hu h1 h2 ?_
   simpa using h
theorem Qdg {ks : List KI} {a : Addr} {Q : Int -> Shared -> Prop} (hu : A.units + 1 < cLine) (hk : IsNestKey prog w s.heap ks a) (h : Q (nestHash ks) { s with toks := s.toks + (nestDraws ks + 1) }) :
  wpAny (model prog w) A (pyHash (.ref a)) Q E s:=by
 have hT:=hk.typeIs
 obtain⟨o,items,n,ho,_,hd,hi⟩:=hk
 unfold pyHash
 first | unfold pyHashByItsType | skip
 first | refine wpAny_bind (wpAny_cRoomFor_or (.inr (by ac_nf)) ?_) | skip
 refine wpAny_bind (wpAny_specialOf hT F.slot_tuple_hash.lookup ?_)
 show wpAny _ _ (if (some (Value.builtin "tuple.__hash__") == some Value.none)=true then _ else _) Q E s
 rw[if_neg (by rw[beq_builtin_none];exact Bool.false_ne_true)]
 refine wpAny_bind (wpAny_specialOf hT F.slot_tuple_hash.lookup ?_)
 show wpAny _ _ (callSpecialIfBoundUnlessNone? (.ref a) "__hash__" _ >>= _) Q E s
 refine wpAny_bind (wpAny_callSpecialIfBoundUnlessNone?_slot hT F.slot_tuple_hash (wpAny_call_entry F.slot_tuple_hash hT F.entry_tuple_hash ?_ (F.args_tuple_hash_1 _)))
 show wpAny _ _ (Builtin.Tuple.tupleItemsOf (.ref a) >>= _) _ _ s
 refine wpAny_bind (wpAny_tupleItemsOf ho hd ?_)
 refine wpAny_bind ?_
 rw[<- Array.forIn_toList]
 refine wpAny_forIn_list _
  (fun rest (b:Array Int) s'=>∃ done left,ks=done++left/\TIts prog w s.heap left rest/\b.toList=done.map (itH)/\s'={ s with toks:=s.toks + nestDraws done })
  _ ?_ ?_ _ _ ⟨[],ks,rfl,hi,rfl,rfl⟩
 ·rintro x rest b s' ⟨done,left,rfl,hl,hb,rfl⟩
  cases hl with
  | @cons k b' ks' _ h1 hl'=>
   refine wpAny_bind (Qde (k:=k) hu h1 ?_)
   first
    | exact wpAny_pure ⟨done++[k],ks',by simp,hl',by simp[hb],by simp[Qdd,Nat.add_assoc]⟩
    | exact wpAny_bind (wpAny_pure (wpAny_pure ⟨done++[k],ks',by simp,hl',by simp[hb],by simp[Qdd,Nat.add_assoc]⟩))
 ·rintro b s' ⟨done,left,rfl,hl,hb,rfl⟩
  cases hl
  rw[List.append_nil]at h
  show wpAny _ _ (retInt (Builtin.Tuple.tupleHashOf b.toList)) _ _ _
  rw[hb]
  refine wpAny_ret_mkInt ?_
  show wpAny _ _ (if (decide (-(2:Int) ^ 63<=Builtin.Tuple.tupleHashOf (done.map (itH))) && decide (Builtin.Tuple.tupleHashOf (done.map (itH)) < 2 ^ 63))=true then _ else _) Q E _
  unfold nestHash reduceHash at h
  by_cases hr:(decide (-(2:Int) ^ 63<=Builtin.Tuple.tupleHashOf (done.map (itH))) && decide (Builtin.Tuple.tupleHashOf (done.map (itH)) < 2 ^ 63))=true
  ·rw[if_pos hr]
   rw[if_pos hr]at h
   exact wpAny_pure (by simpa [Nat.add_assoc] using h)
  ·rw[if_neg hr]
   rw[if_neg hr]at h
   exact wpAny_bind (wpAny_rule (wpAny_pure (by simpa [Nat.add_assoc] using h)))
theorem Qdh {x y : List KI} {a b : Addr} {P : Fin -> Shared -> Prop} (hu : A.units < cLine) (hx : IsNestKey prog w s.heap x a) (hy : IsNestKey prog w s.heap y b) (h : P (.done (.ret (.bool (decide (x = y))))) s) :
  wpAny (model prog w) A (Builtin.«tuple.__eq__» ⟨[.ref a,.ref b],[]⟩) P E s:=by
 have hTb:=hy.typeIs
 obtain⟨oa,xs,na,hoa,_,hda,hia⟩:=hx
 obtain⟨ob,ys,nb,hob,_,hdb,hib⟩:=hy
 show wpAny _ _ (isInstance (.ref b) (.type "tuple") >>= _) _ _ s
 refine wpAny_bind (wpAny_isInstance hTb isSubtype_tuple_tuple ?_)
 simp only[Bool.not_true,Bool.false_eq_true,if_false]
 refine wpAny_bind (wpAny_tupleItemsOf hoa hda ?_)
 refine wpAny_bind (wpAny_tupleItemsOf hob hdb ?_)
 refine wpAny_bind ?_
 refine wpAny_forIn_list _
  (fun rest r s'=>r.1=none/\s'=s/\∃ x' y' xs' ys',rest=List.zip xs' ys'/\TIts prog w s.heap x' xs'/\TIts prog w s.heap y' ys'/\decide (x'=y')=decide (x=y)/\(xs'.length == ys'.length)=(xs.size == ys.size))
  _ ?_ ?_ _ _ ⟨rfl,rfl,x,y,xs.toList,ys.toList,rfl,hia,hib,rfl,by simp⟩
 ·rintro ⟨u,v⟩ rest r s' ⟨hr,rfl,x',y',xs',ys',hz,hx',hy',hdec,hlen⟩
  cases hx' with
  | nil=>simp at hz
  | @cons k1 u' x'' xs'' h1 hx''=>
   cases hy' with
   | nil=>simp at hz
   | @cons k2 v' y'' ys'' h2 hy''=>
    simp only[List.zip_cons_cons,List.cons.injEq,Prod.mk.injEq]at hz
    obtain⟨⟨rfl,rfl⟩,rfl⟩:=hz
    refine wpAny_bind (Qdf (x:=k1) (y:=k2) hu h1 h2 ?_)
    by_cases hk:k1=k2
    ·subst hk
     rw[decide_eq_true rfl]
     simp only[Bool.not_true,Bool.false_eq_true,if_false]
     refine wpAny_pure ⟨rfl,rfl,x'',y'',xs'',ys'',rfl,hx'',hy'',?_,by simpa using hlen⟩
     rw[<- hdec]
     by_cases hxy:x''=y''
     ·simp[hxy]
     ·simp[hxy]
    ·rw[decide_eq_false hk]
     simp only[Bool.not_false,if_true]
     have hf:decide (x=y)=false:=by rw[<- hdec];simp[hk]
     rw[hf]at h
     exact wpAny_bind (wpAny_pure (wpAny_pure (wpAny_pure h)))
 ·rintro ⟨r1,r2⟩ s' ⟨hr,rfl,x',y',xs',ys',hz,hx',hy',hdec,hlen⟩
  simp only at hr
  subst hr
  refine wpAny_pure ?_
  have hfin:(xs.size == ys.size)=decide (x=y):=by
   rw[<- hdec,<- hlen]
   cases hx' with
   | nil=>
    cases hy' with
    | nil=>simp
    | cons _ _=>simp
   | cons _ _=>
    cases hy' with
    | nil=>simp
    | cons _ _=>simp at hz
  show P (.done (.ret (.bool (xs.size == ys.size)))) s'
  rw[hfin];exact h
theorem Qdi {x y : List KI} {a b : Addr} {Q : Bool -> Shared -> Prop} (hu : A.units + 1 < cLine) (hx : IsNestKey prog w s.heap x a) (hy : IsNestKey prog w s.heap y b) (h : Q (decide (x = y)) s) :
  wpAny (model prog w) A (eqBool (.ref a) (.ref b)) Q E s:=by
 unfold eqBool
 try with_reducible refine wpAny_holding ?_
 show wpAny _ _ (if (Value.ref a == Value.ref b)=true then _ else _) Q E s
 by_cases hab:(Value.ref a == Value.ref b)=true
 ·rw[if_pos hab]
  have e:a=b:=by have:=eq_of_beq hab;injection this
  subst e
  obtain rfl:=hx.inj hy
  exact wpAny_bind (wpAny_rule (wpAny_pure (by simpa using h)))
 ·rw[if_neg hab]
  exact wpAny_bind (wpAny_richCompare_same_room (op:=.Eq) hx.typeIs hy.typeIs F.slot_tuple_eq
   (wpAny_call_entry F.slot_tuple_eq hx.typeIs F.entry_tuple_eq (Qdh (by exact hu) hx hy ⟨_,rfl,(fun e=>nomatch e),wpAny_truthy_bool h⟩) (F.args_tuple_eq_2 _ _)) (by ac_nf))
theorem Qdj {n:Nat}{ks:List Int}{a:Addr}{Q:Bool->Shared->Prop} (hk:IsTupleKey (intKind prog w) s.heap ks a) (h:Q true s):wpAny (model prog w) A (eqIsQuiet (n + 1) (.ref a)) Q E s:=by
 have hT:=hk.typeIs
 obtain⟨o,items,n,ho,_,hd,hi⟩:=hk
 unfold eqIsQuiet
 refine wpAny_bind (wpAny_specialOf hT F.slot_tuple_eq.lookup ?_)
 show wpAny _ _ (isInstance (.ref a) (.type "tuple") >>= _) _ _ s
 refine wpAny_bind (wpAny_isInstance hT isSubtype_tuple_tuple ?_)
 simp only[Bool.not_true,Bool.false_eq_true,if_false]
 refine wpAny_bind (wpAny_seqItems ho hd ?_)
 refine wpAny_bind ?_
 show wpAny _ _ (forIn items _ _) _ _ s
 rw[<- Array.forIn_toList]
 refine wpAny_forIn_list _ (fun rest r s'=>r.1=none/\s'=s/\∀ v∈rest,carriedByValue v=true) _ ?_ ?_ _ _ ⟨rfl,rfl,hi.byValue⟩
 ·rintro v rest r s' ⟨hr,rfl,hall⟩
  rw[eqIsQuiet_byValue _ (hall v List.mem_cons_self)]
  refine wpAny_bind (wpAny_pure ?_)
  simp only[Bool.not_true,Bool.false_eq_true,if_false]
  exact wpAny_pure ⟨rfl,rfl,fun u hu'=>hall u (List.mem_cons_of_mem _ hu')⟩
 ·rintro ⟨r1,r2⟩ s' ⟨hr,rfl,_⟩
  simp only at hr
  subst hr
  exact wpAny_pure h
theorem Qdk {n:Nat}{k:KI}{v:Value}{Q:Bool->Shared->Prop} (hk:TIt prog w s.heap k v) (h:Q true s):wpAny (model prog w) A (eqIsQuiet (n + 1) v) Q E s:=by
 cases hk with
 | one i t=>rw[eqIsQuiet_byValue _ (show carriedByValue (Value.int i t)=true from rfl)];exact wpAny_pure h
 | row hk=>exact Qdj hk h
theorem Qdl {ks:List KI}{a:Addr}{Q:Bool->Shared->Prop} (hk:IsNestKey prog w s.heap ks a) (h:Q true s):wpAny (model prog w) A (eqIsQuiet 8 (.ref a)) Q E s:=by
 have hT:=hk.typeIs
 obtain⟨o,items,n,ho,_,hd,hi⟩:=hk
 unfold eqIsQuiet
 refine wpAny_bind (wpAny_specialOf hT F.slot_tuple_eq.lookup ?_)
 show wpAny _ _ (isInstance (.ref a) (.type "tuple") >>= _) _ _ s
 refine wpAny_bind (wpAny_isInstance hT isSubtype_tuple_tuple ?_)
 simp only[Bool.not_true,Bool.false_eq_true,if_false]
 refine wpAny_bind (wpAny_seqItems ho hd ?_)
 refine wpAny_bind ?_
 show wpAny _ _ (forIn items _ _) _ _ s
 rw[<- Array.forIn_toList]
 refine wpAny_forIn_list _ (fun rest r s'=>r.1=none/\s'=s/\∃ left,TIts prog w s.heap left rest) _ ?_ ?_ _ _ ⟨rfl,rfl,ks,hi⟩
 ·rintro v rest r s' ⟨hr,rfl,left,hall⟩
  cases hall with
  | cons h1 hl=>
   refine wpAny_bind (Qdk (n:=6) h1 ?_)
   simp only[Bool.not_true,Bool.false_eq_true,if_false]
   exact wpAny_pure ⟨rfl,rfl,_,hl⟩
 ·rintro ⟨r1,r2⟩ s' ⟨hr,rfl,_⟩
  simp only at hr
  subst hr
  exact wpAny_pure h
end
def nestKind (prog:Program) (w:World):HeapKind prog w (List KI) where
 is:=IsNestKey prog w
 hash:=nestHash
 draws:=fun ks=>nestDraws ks + 1
 room:=fun A=>A.units + 1 < cLine
 inj:=fun hx hy=>hx.inj hy
 keeps:=fun x ho hd hs=>x.keeps ho hd hs
 pyHash:=fun hu hk h=>Qdg hu hk h
 eqBool:=fun hu hx hy h=>Qdi hu hx hy h
 quiet:=fun hk h=>Qdl hk h
end MM
namespace MM
open PySem PyProof.Rows
def EpAt (h:Heap) (d:Addr) (n:Nat):Prop:=∃ o es,h.get? d=some o/\o.data=.dict es n
section
variable {prog:Program}{w:World}{K:Type} [DecidableEq K] {knd:HeapKind prog w K}{A:Around}{E:Value->Shared->Prop}{s:Shared}{d a:Addr}{k:K}{xs:List (K × Addr × Value)}
theorem Qdm {v : Value} {Q : Unit -> Shared -> Prop} (hu : knd.room A) (hkey : knd.is s.heap k a) (hm : s.heap.DictOfH knd d xs) (hp : EpAt s.heap d xs.length) (hsz : xs.length <= sizeLine)
  (h:∀ h',h'.DictOfH knd d (storedH xs k a v)->EpAt h' d (storedH xs k a v).length->Heap.SameBut d s.heap h'->Q () { s with heap:=h',toks:=s.toks + knd.draws k }):
  wpAny (model prog w) A (dictSet d (.ref a) v) Q E s:=by
 obtain⟨o,es,ep,ho,hc,hd,he,his,hn⟩:=id hm
 obtain⟨o',es',ho',hd'⟩:=hp
 rw[ho]at ho';cases ho'
 rw[hd]at hd';cases hd'
 unfold dictSet
 refine wpAny_holding (wpAny_bind (knd.pyHash hu hkey ?_))
 unfold dictSetHashed
 refine wpAny_holding (wpAny_bind (wpAny_dictFind_heap (s:={ s with toks:=s.toks + knd.draws k }) hu hkey ho hd he his hn (fun hno=>?_) fun j p hj=>?_))
 ·have hnot:k∉xs.map (·.1):=not_mem_keys_of_get hno
  have e0:=atKey_none_of_get hno
  have e1:=storedH_new (a:=a) (v:=v) e0
  have e2:=size_of_entries he
  refine wpAny_bind (wpAny_rule (wpAny_updateDictKeys (hz:=by ac_nf) (s:={ s with toks:=s.toks + knd.draws k }) ho hd
   (h _ ⟨_,_,_,Heap.get?_update_self _ ho (Obj.isFreed_of_dict (Obj.data_mapDictKeys hd _)),hc.mapDictKeys _,Obj.data_mapDictKeys hd _,?_,?_,?_⟩ ?_ (Heap.SameBut.update ..))))
  ·rw[e1];simp[he,entryOfKey]
  ·rw[e1]
   intro x hx
   rcases List.mem_append.mp hx with hx | hx
   ·exact knd.keeps (his x hx) ho hd (Heap.SameBut.update ..)
   ·cases List.mem_singleton.mp hx
    exact knd.keeps hkey ho hd (Heap.SameBut.update ..)
  ·rw[e1,List.map_append,List.nodup_append]
   refine⟨hn,by simp,fun x hx y hy=>?_⟩
   cases List.mem_singleton.mp hy
   exact fun e=>hnot ((show x=k from e) ▸ hx)
  ·rw[e1,List.length_append];exact⟨_,_,Heap.get?_update_self _ ho (Obj.isFreed_of_dict (Obj.data_mapDictKeys hd _)),Obj.data_mapDictKeys hd _⟩
 ·have e0:=atKey_of_get hn hj
  have e1:=storedH_old e0 a v
  have ej:j < es.size:=by
   rw[size_of_entries he];exact (List.getElem?_eq_some_iff.mp hj).1
  have hes:(es.modify j fun e=>{ hash:=e.hash,key:=e.key,val:=v }).toList=(xs.map (putAt k v)).map (entryOfKey knd):=by
   apply List.ext_getElem?
   intro i
   rw[Array.getElem?_toList,Array.getElem?_modify,List.getElem?_map,List.getElem?_map]
   have ei:es[i]?=(xs[i]?).map (entryOfKey knd):=by rw[<- Array.getElem?_toList,he,List.getElem?_map]
   rw[ei]
   by_cases z:j=i
   ·subst z
    rw[if_pos rfl,hj]
    simp[putAt,entryOfKey]
   ·rw[if_neg z]
    cases hx:xs[i]? with
    | none=>rfl
    | some x=>
     have nk:x.1≠k:=fun q=>by
      have a1:(xs.map (·.1))[i]?=some k:=by rw[List.getElem?_map,hx,<- q];rfl
      have a2:(xs.map (·.1))[j]?=some k:=by rw[List.getElem?_map,hj];rfl
      exact z ((List.getElem?_inj (by rw[List.length_map];exact (List.getElem?_eq_some_iff.mp hj).1) hn).mp (a2.trans a1.symm))
     simp[putAt,nk]
  refine wpAny_bind (wpAny_rule (wpAny_bind (wpAny_updateDict (s:={ s with toks:=s.toks + knd.draws k }) ho hd (wpAny_point
   (h _ ⟨_,_,_,Heap.get?_update_self _ ho (Obj.isFreed_of_dict (Obj.data_mapDict hd _)),hc.mapDict _,Obj.data_mapDict hd _,?_,?_,?_⟩ ?_ (Heap.SameBut.update ..))))))
  ·rw[e1];exact hes
  ·rw[e1]
   intro x hx
   obtain⟨y,hy,e⟩:=List.mem_map.mp hx
   have q:=knd.keeps (his y hy) ho hd (Heap.SameBut.update s.heap d (Obj.mapDict fun x=>x.modify j fun e=>{ hash:=e.hash,key:=e.key,val:=v }))
   rw[<- e]
   unfold putAt
   split
   ·exact q
   ·exact q
  ·rw[e1,List.map_map]
   have:(xs.map ((fun x=>x.1) ∘ putAt k v))=xs.map (·.1):=List.map_congr_left fun x _=>by
    show (putAt k v x).1=x.1
    unfold putAt
    split<;>rfl
   rw[this];exact hn
  ·rw[e1,List.length_map];exact⟨_,_,Heap.get?_update_self _ ho (Obj.isFreed_of_dict (Obj.data_mapDict hd _)),Obj.data_mapDict hd _⟩
theorem Qdn {v : Value} {Q : Unit -> Shared -> Prop} (hu : knd.room A.in1) (hkey : knd.is s.heap k a) (hm : s.heap.DictOfH knd d xs) (hp : EpAt s.heap d xs.length) (hsz : xs.length <= sizeLine)
  (h:∀ h',h'.DictOfH knd d (storedH xs k a v)->EpAt h' d (storedH xs k a v).length->Heap.SameBut d s.heap h'->Q () { s with heap:=h',toks:=s.toks + knd.draws k }):
  wpAny (model prog w) A (setItem (.ref d) (.ref a) v) Q E s:=by
 have T:=hm.typeIs
 unfold setItem
 refine wpAny_holding (wpAny_bind (wpAny_sequenceKey T (by decide) (wpAny_bind (wpAny_callSpecial?_slot T F.slot_dict_setitem (wpAny_call_entry F.slot_dict_setitem T F.entry_dict_setitem ?_ (F.args_dict_setitem_3 _ _ _))))))
 unfold Builtin.«dict.__setitem__»
 refine wpAny_bind (wpAny_notOrdered_dict T ?_)
 rw[if_neg (by simp)]
 show wpAny _ _ (dictSet d (.ref a) v >>= _) _ _ s
 refine wpAny_bind (Qdm hu hkey hm hp hsz fun h' a1 a2 a3=>wpAny_pure ⟨_,rfl,wpAny_pure (h h' a1 a2 a3)⟩)
end
end MM
namespace MM
open PySem
inductive D where
 | non | bl (b:Bool) | int (i:Int) | str (x:Str) | tup (ds:List D) | lit (ds:List D) | ref (n:Nat) | dic (n:Nat) | exn (x:Str) (ds:List D)
inductive MO where
 | lst (ds:List D) | dct (b:Bool) (kvs:List (D × D))
abbrev Sto:=List MO
structure Exn where
 cls:Nat
 args:List D
inductive Rs (α:Type) where
 | ok (a:α) (s:Sto) | exc (x:Exn) (s:Sto) | bad
def M (α:Type):=Sto->Rs α
section
variable {α β:Type}
def ret (a:α):M α:=fun s=>.ok a s
def bnd (m:M α) (f:α->M β):M β:=fun s=>match m s with
 | .ok a s'=>f a s'
 | .exc x s'=>.exc x s'
 | .bad=>.bad
def bad:M α:=fun _=>.bad
@[irreducible] def chk (c:Prop) [Decidable c] (m:M α):M α:=if c then m else bad
end
abbrev Loc:=List (Option D)
abbrev CE:=Loc->M D
abbrev CT:=Loc->M Bool
abbrev CA:=Loc->M (List D)
inductive Flw where
 | next (l:Loc) | ret (d:D) | brk (l:Loc) | cnt (l:Loc)
abbrev CS:=Loc->M Flw
def lim:Nat:=2 ^ 24
def alloc (o:MO):M D:=fun s=>.ok (.ref s.length) (s++[o])
def getL (n:Nat):M (List D):=fun s=>match s[n]? with
 | some (.lst ds)=>.ok ds s
 | _=>.bad
def putL (n:Nat) (ds:List D):M Unit:=fun s=>match s[n]? with
 | some (.lst _)=>.ok () (s.set n (.lst ds))
 | _=>.bad
def getDc (n:Nat):M (Bool × List (D × D)):=fun s=>match s[n]? with
 | some (.dct b kvs)=>.ok (b,kvs) s
 | _=>.bad
def putDc (n:Nat) (b:Bool) (kvs:List (D × D)):M Unit:=fun s=>match s[n]? with
 | some (.dct c _)=>if b=c then .ok () (s.set n (.dct b kvs)) else .bad
 | _=>.bad
mutual
def eqK:D->D->Bool
 | .int i,.int j=>decide (i=j)
 | .str x,.str y=>decide (x=y)
 | .tup xs,.tup ys=>eqKs xs ys
 | _,_=>false
def eqKs:List D->List D->Bool
 | [],[]=>true
 | x::xs,y::ys=>eqK x y && eqKs xs ys
 | _,_=>false
end
def intsK:List D->Option (List Int)
 | []=>some []
 | .int i::ds=>(intsK ds).map (i::·)
 | _=>none
def rowsK:List D->Option (List (Int ⊕ List Int))
 | []=>some []
 | .tup xs::ds=>match intsK xs,rowsK ds with
  | some r,some rs=>some (.inr r::rs)
  | _,_=>none
 | .int i::ds=>(rowsK ds).map (.inl i::·)
 | _=>none
def stK:D->Option (List (Int ⊕ List Int))
 | .tup ds=>rowsK ds
 | _=>none
def kOk:Bool->D->Bool
 | false,.int _=>true
 | false,.str _=>true
 | true,d=>(stK d).isSome
 | _,_=>false
def lkK (kvs:List (D × D)) (k:D):Option D:=(kvs.find? fun p=>eqK p.1 k).map (·.2)
def ptK (kvs:List (D × D)) (k v:D):List (D × D):=if (kvs.any fun p=>eqK p.1 k)=true then kvs.map fun p=>if eqK p.1 k=true then (p.1,v) else p else kvs++[(k,v)]
def mgK (kvs more:List (D × D)):List (D × D):=more.foldl (fun acc p=>ptK acc p.1 p.2) kvs
def itemK (n:Nat) (k:D):M D:=bnd (getDc n) fun p=>chk (kOk p.1 k=true) (match lkK p.2 k with
 | some d=>ret d
 | none=>bad)
def storeK (n:Nat) (k v:D):M Unit:=bnd (getDc n) fun p=>chk (kOk p.1 k=true/\p.2.length < lim) (putDc n p.1 (ptK p.2 k v))
def hasK (n:Nat) (k:D):M Bool:=bnd (getDc n) fun p=>chk (kOk p.1 k=true) (ret (lkK p.2 k).isSome)
def seqOf:D->M (List D)
 | .tup ds=>ret ds
 | .lit ds=>ret ds
 | .ref n=>getL n
 | _=>bad
def ixN (n:Nat) (i:Int):Option Nat:=if 0<=i then (if i < n then some i.toNat else none) else (if -(n:Int)<=i then some (i + n).toNat else none)
def addD:D->D->M D
 | .int i,.int j=>ret (.int (i + j))
 | .str x,.str y=>chk (x.length + y.length<=lim) (ret (.str (x++y)))
 | .tup x,.tup y=>chk (x.length + y.length<=lim) (ret (.tup (x++y)))
 | .ref a,.ref b=>bnd (getL a) fun x=>bnd (getL b) fun y=>chk (x.length + y.length<=lim) (alloc (.lst (x++y)))
 | _,_=>bad
def subD:D->D->M D
 | .int i,.int j=>ret (.int (i - j))
 | _,_=>bad
def mulOk (i j:Int):Prop:=(-(2 ^ 64) < i/\i < 2 ^ 64)\/(-(2 ^ 64) < j/\j < 2 ^ 64)
instance (i j:Int):Decidable (mulOk i j):=by unfold mulOk;infer_instance
def mulD:D->D->M D
 | .int i,.int j=>chk (mulOk i j) (ret (.int (i * j)))
 | _,_=>bad
def fdivD:D->D->M D
 | .int i,.int j=>chk (0 < j/\j < 1073741824) (ret (.int (i / j)))
 | _,_=>bad
def modD:D->D->M D
 | .int i,.int j=>chk (0 < j) (ret (.int (i % j)))
 | _,_=>bad
def powD:D->D->M D
 | .int i,.int j=>chk (0<=j/\j<=1000000/\i.natAbs < 2 ^ 64) (ret (.int (i ^ j.toNat)))
 | _,_=>bad
def negD:D->M D
 | .int i=>ret (.int (-i))
 | _=>bad
def cmpI (p:Int->Int->Bool):D->D->M D
 | .int i,.int j=>ret (.bl (p i j))
 | _,_=>bad
def ltD:=cmpI fun i j=>decide (i < j)
def leD:=cmpI fun i j=>decide (i<=j)
def gtD:=cmpI fun i j=>decide (j < i)
def geD:=cmpI fun i j=>decide (j<=i)
def allF (f:D->D->Option Bool):List D->List D->Option Bool
 | [],[]=>some true
 | x::xs,y::ys=>match f x y with
  | some true=>allF f xs ys
  | some false=>(allF f xs ys).map fun _=>false
  | none=>none
 | _::_,[]=>some false
 | [],_::_=>some false
def eqS (g:List D->List D->Option Bool):D->D->Option Bool
 | .non,.non=>some true
 | .non,.bl _=>some false
 | .non,.int _=>some false
 | .non,.str _=>some false
 | .non,.tup _=>some false
 | .bl _,.non=>some false
 | .bl a,.bl b=>some (a == b)
 | .bl a,.int b=>some ((if a then 1 else 0) == b)
 | .bl _,.str _=>some false
 | .bl _,.tup _=>some false
 | .int _,.non=>some false
 | .int a,.bl b=>some (a == (if b then 1 else 0))
 | .int a,.int b=>some (a == b)
 | .int _,.str _=>some false
 | .int _,.tup _=>some false
 | .str _,.non=>some false
 | .str _,.bl _=>some false
 | .str _,.int _=>some false
 | .str a,.str b=>some (a == b)
 | .str _,.tup _=>some false
 | .tup _,.non=>some false
 | .tup _,.bl _=>some false
 | .tup _,.int _=>some false
 | .tup _,.str _=>some false
 | .tup xs,.tup ys=>g xs ys
 | _,_=>none
def eqF:Nat->D->D->Option Bool
 | 0,d,e=>eqS (fun _ _=>none) d e
 | n + 1,d,e=>eqS (allF (eqF n)) d e
def eqB (d e:D):M Bool:=match d,e with
 | .ref a,.ref b=>bnd (getL a) fun x=>bnd (getL b) fun y=>match (if x.length=y.length then allF (eqF 50) x y else some false) with
  | some r=>ret r
  | none=>bad
 | .ref a,.non=>bnd (getL a) fun _=>ret false
 | .non,.ref a=>bnd (getL a) fun _=>ret false
 | d,e=>match eqF 50 d e with
  | some r=>ret r
  | none=>bad
def eqD (d e:D):M D:=bnd (eqB d e) fun b=>ret (.bl b)
def neD (d e:D):M D:=bnd (eqB d e) fun b=>ret (.bl !b)
def isND:D->M D
 | .non=>ret (.bl true)
 | _=>ret (.bl false)
def itemD (ds:List D) (i:Int):M D:=match ixN ds.length i with
 | some k=>match ds[k]? with
  | some d=>ret d
  | none=>bad
 | none=>bad
def subsD:D->D->M D
 | .tup ds,.int i=>itemD ds i
 | .lit ds,.int i=>itemD ds i
 | .ref n,.int i=>bnd (getL n) fun ds=>itemD ds i
 | .dic n,k=>itemK n k
 | .str x,.int i=>chk (x.length<=lim) (match ixN x.length i with
  | some k=>match x.cps.toList[k]? with
   | some c=>ret (.str ⟨#[c]⟩)
   | none=>bad
  | none=>bad)
 | _,_=>bad
def truD:D->M Bool
 | .non=>ret false
 | .bl b=>ret b
 | .int i=>ret (i != 0)
 | .str x=>chk (x.length<=lim) (ret ((x.length:Int) != 0))
 | .tup ds=>ret (!ds.isEmpty)
 | .lit ds=>ret (!ds.isEmpty)
 | .ref n=>bnd (getL n) fun ds=>ret (!ds.isEmpty)
 | .dic _=>bad
 | .exn _ _=>bad
def cVar (i:Nat):CE:=fun l=>match l[i]? with
 | some (some d)=>ret d
 | _=>bad
def cCon (d:D):CE:=fun _=>ret d
def c1 (g:D->M D) (a:CE):CE:=fun l=>bnd (a l) g
def c2 (g:D->D->M D) (a b:CE):CE:=fun l=>bnd (a l) fun x=>bnd (b l) fun y=>g x y
def cNil:CA:=fun _=>ret []
def cCons (a:CE) (r:CA):CA:=fun l=>bnd (a l) fun x=>bnd (r l) fun xs=>ret (x::xs)
def cTup (a:CA):CE:=fun l=>bnd (a l) fun xs=>chk (xs.length<=lim) (ret (.tup xs))
def cChain (f g:D->D->M D) (a b c:CE):CE:=fun l=>bnd (a l) fun x=>bnd (b l) fun y=>bnd (f x y) fun z=>match z with
 | .bl true=>bnd (c l) fun w=>g y w
 | .bl false=>ret (.bl false)
 | _=>bad
def cAnd (a b:CE):CE:=fun l=>bnd (a l) fun x=>match x with
 | .bl true=>b l
 | .bl false=>ret (.bl false)
 | _=>bad
def cNot (a:CE):CE:=fun l=>bnd (a l) fun x=>match x with
 | .bl b=>ret (.bl !b)
 | _=>bad
def cCall (g:List D->M D) (a:CA):CE:=fun l=>bnd (a l) g
def tVal (a:CE):CT:=fun l=>bnd (a l) truD
def tCmpB (a:CE):CT:=fun l=>bnd (a l) fun x=>match x with
 | .bl b=>ret b
 | _=>bad
def tAndB (a b:CT):CT:=fun l=>bnd (a l) fun c=>if c=true then b l else ret false
def tOrB (a b:CT):CT:=fun l=>bnd (a l) fun c=>if c=true then ret true else b l
def tNotB (a:CT):CT:=fun l=>bnd (a l) fun c=>ret !c
structure Wk where
 ds:List D
 same:Sto->Prop
abbrev CI:=Loc->M Wk
open Classical in
def chkS (p:Sto->Prop):M Unit:=fun s=>if p s then .ok () s else .bad
def anySt:Sto->Prop:=fun _=>True
def sameL (n:Nat) (ds:List D):Sto->Prop:=fun s=>s[n]?=some (.lst ds)
def iSeq (a:CE):CI:=fun l=>bnd (a l) fun x=>match x with
 | .tup ds=>ret ⟨ds,anySt⟩
 | .lit ds=>ret ⟨ds,anySt⟩
 | .ref n=>bnd (getL n) fun ds=>ret ⟨ds,sameL n ds⟩
 | _=>bad
def rngD (lo:Int) (n:Nat):List D:=(List.range n).map fun k=>.int (lo + (k:Nat))
def iRng1 (a:CE):CI:=fun l=>bnd (a l) fun x=>match x with
 | .int j=>chk (-(2 ^ 62)<=j/\j < 2 ^ 62) (ret ⟨rngD 0 j.toNat,anySt⟩)
 | _=>bad
def iRng2 (a b:CE):CI:=fun l=>bnd (a l) fun x=>bnd (b l) fun y=>match x,y with
 | .int i,.int j=>chk ((-(2 ^ 62)<=i/\i < 2 ^ 62)/\(-(2 ^ 62)<=j/\j < 2 ^ 62)) (ret ⟨rngD i (j - i).toNat,anySt⟩)
 | _,_=>bad
def iTmp (a:CA):CI:=fun l=>bnd (a l) fun ds=>ret ⟨ds,anySt⟩
abbrev CG:=D->Loc->M Loc
def gVar (i:Nat):CG:=fun d l=>ret (l.set i (some d))
def gsNil:List D->Loc->M Loc
 | [],l=>ret l
 | _,_=>bad
def gsCons (g:CG) (r:List D->Loc->M Loc):List D->Loc->M Loc
 | d::ds,l=>bnd (g d l) fun l'=>r ds l'
 | _,_=>bad
def gTupD (n:Nat) (r:List D->Loc->M Loc):CG:=fun d l=>match d with
 | .tup ds=>chk (ds.length=n) (r ds l)
 | _=>bad
def capt (n:Nat) (caps:List Nat) (l:Loc):Loc:=List.replicate n none++caps.map fun i=>(l[i]?).join
def collect (g:CG) (t:CT) (e:CE) (same:Sto->Prop):List D->Loc->M (List D)
 | [],_=>bnd (chkS same) fun _=>ret []
 | d::ds,l=>bnd (chkS same) fun _=>bnd (g d l) fun l'=>bnd (t l') fun b=>if b=true then bnd (e l') fun x=>bnd (collect g t e same ds l') fun xs=>ret (x::xs) else collect g t e same ds l'
def aComp (n:Nat) (caps:List Nat) (i:CI) (g:CG) (t:CT) (e:CE):CA:=fun l=>bnd (i l) fun w=>chk (w.ds.length<=lim) (collect g t e w.same w.ds (capt n caps l))
def sIx (n d:Nat):Option Int->Nat
 | none=>d
 | some v=>if v < 0 then (v + (n:Int)).toNat else min v.toNat n
def cutD (xs:List D) (lo hi:Option Int):List D:=(xs.drop (sIx xs.length 0 lo)).take (sIx xs.length xs.length hi - sIx xs.length 0 lo)
abbrev CO:=Loc->M (Option Int)
def oNone:CO:=fun _=>ret none
def oSome (a:CE):CO:=fun l=>bnd (a l) fun x=>match x with
 | .int i=>ret (some i)
 | _=>bad
def aSlice (a:CE) (lo hi:CO):CA:=fun l=>bnd (a l) fun x=>bnd (lo l) fun i=>bnd (hi l) fun j=>match x with
 | .lit ds=>ret (cutD ds i j)
 | .ref n=>bnd (getL n) fun ds=>ret (cutD ds i j)
 | _=>bad
def cSliceT (a:CE) (lo hi:CO):CE:=fun l=>bnd (a l) fun x=>bnd (lo l) fun i=>bnd (hi l) fun j=>match x with
 | .tup ds=>chk (¬(sIx ds.length 0 i=0/\sIx ds.length ds.length j=ds.length)) (ret (.tup (cutD ds i j)))
 | _=>bad
def tTrue:CT:=fun _=>ret true
def cKeep (a:CA):CE:=fun l=>bnd (a l) fun ds=>alloc (.lst ds)
def aDisp (a:CA):CA:=fun l=>bnd (a l) fun xs=>chk (xs.length<=lim) (ret xs)
def cTmpSub (a:CA) (b:CE):CE:=fun l=>bnd (a l) fun ds=>bnd (b l) fun i=>match i with
 | .int k=>itemD ds k
 | _=>bad
def cTmp (g:List D->M D) (a:CA):CE:=fun l=>bnd (a l) g
def sNext:CS:=fun l=>ret (.next l)
def sSeq (a b:CS):CS:=fun l=>bnd (a l) fun f=>match f with
 | .next l'=>b l'
 | f=>ret f
def sAsg (g:CG) (a:CE):CS:=fun l=>bnd (a l) fun d=>bnd (g d l) fun l'=>ret (.next l')
def sRet (a:CE):CS:=fun l=>bnd (a l) fun d=>ret (.ret d)
def sExp (a:CE):CS:=fun l=>bnd (a l) fun _=>ret (.next l)
def sIf (t:CT) (a b:CS):CS:=fun l=>bnd (t l) fun c=>if c=true then a l else b l
def forD (g:CG) (b:CS) (same:Sto->Prop):List D->CS
 | [],l=>bnd (chkS same) fun _=>ret (.next l)
 | d::ds,l=>bnd (chkS same) fun _=>bnd (g d l) fun l'=>bnd (b l') fun f=>match f with
  | .next l2=>forD g b same ds l2
  | .cnt l2=>forD g b same ds l2
  | .brk l2=>ret (.next l2)
  | .ret d=>ret (.ret d)
def sFor (i:CI) (g:CG) (b:CS):CS:=fun l=>bnd (i l) fun w=>forD g b w.same w.ds l
def flwD:Flw->M D
 | .ret d=>ret d
 | .next _=>ret .non
 | _=>bad
def runDef (n:Nat) (body:CS) (ds:List D):M D:=bnd (body (ds.map some++List.replicate (n - ds.length) none)) flwD
def setItemD (o i v:D):M Unit:=match o,i with
 | .ref n,.int k=>bnd (getL n) fun ds=>match ixN ds.length k with
  | some j=>putL n (ds.set j v)
  | none=>bad
 | .dic n,k=>storeK n k v
 | _,_=>bad
def gSubD (o i:CE):CG:=fun v l=>bnd (o l) fun y=>bnd (i l) fun z=>bnd (setItemD y z v) fun _=>ret l
def lenD:D->M D
 | .tup ds=>ret (.int ds.length)
 | .lit ds=>ret (.int ds.length)
 | .ref n=>bnd (getL n) fun ds=>ret (.int ds.length)
 | .str x=>chk (x.length<=lim) (ret (.int x.length))
 | .dic n=>bnd (getDc n) fun p=>ret (.int p.2.length)
 | _=>bad
def appendL (n:Nat) (v:D):M D:=bnd (getL n) fun ds=>chk (ds.length < lim) (bnd (putL n (ds++[v])) fun _=>ret .non)
def cAppend (a b:CE):CE:=fun l=>bnd (a l) fun x=>match x with
 | .ref n=>bnd (b l) fun v=>appendL n v
 | _=>bad
def cClear (a:CE):CE:=fun l=>bnd (a l) fun x=>match x with
 | .ref n=>bnd (putL n []) fun _=>ret .non
 | _=>bad
def intD:D->M D
 | .int i=>ret (.int i)
 | .bl b=>ret (.int (if b then 1 else 0))
 | _=>bad
def tupleD:D->M D
 | .tup ds=>ret (.tup ds)
 | .lit ds=>ret (.tup ds)
 | .ref n=>bnd (getL n) fun ds=>ret (.tup ds)
 | _=>bad
def isTy:D->Option (List String)
 | .non=>some ["NoneType"]
 | .bl _=>some ["bool","int"]
 | .int _=>some ["int"]
 | .str _=>some ["str"]
 | .tup _=>some ["tuple"]
 | .lit _=>some ["list"]
 | .ref _=>some ["list"]
 | .dic _=>none
 | .exn _ _=>none
def numsL:List D->Option (List Int)
 | []=>some []
 | .int i::ds=>(numsL ds).map (i::·)
 | _=>none
def maxD (ds:List D):M D:=match numsL ds with
 | some (n::ns)=>ret (.int (ns.foldl max n))
 | _=>bad
def tupL (ds:List D):M D:=ret (.tup ds)
def isInst (ts:List String) (d:D):M D:=match isTy d with
 | some us=>ret (.bl (ts.any fun t=>us.contains t))
 | none=>bad
def flatD:D->Bool
 | .non=>true
 | .bl _=>true
 | .int _=>true
 | .str _=>true
 | _=>false
def eqFl:D->D->Bool
 | .non,.non=>true
 | .bl a,.bl b=>a == b
 | .bl a,.int b=>(if a then 1 else 0) == b
 | .int a,.bl b=>a == (if b then 1 else 0)
 | .int a,.int b=>a == b
 | .str a,.str b=>a == b
 | _,_=>false
def inL (x:D) (ds:List D):M D:=chk (flatD x=true/\ds.all flatD=true) (ret (.bl (ds.any fun d=>eqFl d x)))
def ninL (x:D) (ds:List D):M D:=chk (flatD x=true/\ds.all flatD=true) (ret (.bl !(ds.any fun d=>eqFl d x)))
def inD (x y:D):M D:=match y with
 | .dic n=>bnd (hasK n x) fun b=>ret (.bl b)
 | y=>bnd (seqOf y) (inL x)
def ninD (x y:D):M D:=match y with
 | .dic n=>bnd (hasK n x) fun b=>ret (.bl !b)
 | y=>bnd (seqOf y) (ninL x)
def allocK (b:Bool) (kvs:List (D × D)):M D:=fun s=>.ok (.dic s.length) (s++[.dct b kvs])
def cDNew (b:Bool):CE:=fun _=>allocK b []
def cDisp (ks:List D) (vs:CA):CE:=fun l=>bnd (vs l) fun xs=>chk (ks.length=xs.length) (allocK false (mgK [] (ks.zip xs)))
def aTimes (a:CA) (b:CE):CA:=fun l=>bnd (a l) fun xs=>bnd (b l) fun k=>match k with
 | .int k=>chk ((-(2 ^ 63)<=k/\k < 2 ^ 63)/\xs.length * k.toNat<=lim) (ret (List.replicate k.toNat xs).flatten)
 | _=>bad
def aRev (a:CA):CA:=fun l=>bnd (a l) fun ds=>ret ds.reverse
def min2D:D->D->M D
 | .int i,.int j=>ret (.int (min i j))
 | _,_=>bad
def max2D:D->D->M D
 | .int i,.int j=>ret (.int (max i j))
 | _,_=>bad
def cPop (a:CE):CE:=fun l=>bnd (a l) fun x=>match x with
 | .ref n=>bnd (getL n) fun ds=>match ds.getLast? with
  | some d=>bnd (putL n ds.dropLast) fun _=>ret d
  | none=>bad
 | _=>bad
def whileN (t:CT) (b:CS):Nat->CS
 | 0=>fun _=>bad
 | n + 1 => fun l => bnd (t l) fun c => if c = true then bnd (b l) fun f => match f with
   | .next l2=>whileN t b n l2
   | .cnt l2=>whileN t b n l2
   | .brk l2=>ret (.next l2)
   | .ret d=>ret (.ret d) else ret (.next l)
open Classical in
def sWhile (t:CT) (b:CS):CS:=fun l s=>if h:∃ n,(∀ r,whileN t b n l s=r->r≠.bad) then whileN t b (choose h) l s else .bad
end MM
namespace MM
open PySem PySem.Spec PyProof.Rows L2
abbrev St:=L2.St
def FzL (K:PySem.W.Frag) (H:Hp) (a:Addr) (xs:List V):Prop:=
 (∃ o,H a=some (.frz o (.lst xs))) \/
  ∃ (o:Obj) (its:Array Value) (n:Nat),K.lookup a=some o/\o.cls=.type "list"/\o.dict=none/\o.data=.seq its n/\its.size<=sizeLine/\Vals xs its.toList
theorem FzL.seq {K:PySem.W.Frag}{H:Hp}{a:Addr}{xs:List V} (h:FzL K H a xs):SqL K H a xs:=by
 rcases h with ⟨o,h⟩ | h
 ·exact .inl (.inr ⟨o,h⟩)
 ·exact .inr h
def kO:HO->Nat
 | .lst _=>0
 | .dK _=>1
 | .ext _=>2
 | _=>3
abbrev NK:=List KI
def nH (k:NK):Int:=nestHash k
def nEnt (x:NK × Addr × Value):DictEntry:=⟨nH x.1,.ref x.2.1,x.2.2⟩
def NOk (a:Addr) (es:List (NK × Addr × V)) (h:Heap):Prop:=es.length<=sizeLine/\(a == sysModules)=false/\∃ xs:List (NK × Addr × Value),Paired (fun (p:NK × Addr × V) (q:NK × Addr × Value)=>p.1=q.1/\p.2.1=q.2.1/\RelV p.2.2 q.2.2) es xs /\
 ∃ o es' ep,h.get? a=some o/\o.ExactDict/\o.data=.dict es' ep/\es'.toList=xs.map nEnt/\(xs.map (·.1)).Nodup/\ep=xs.length
def nstO (a:Addr) (es:List (NK × Addr × V)):HO:=.ext (NOk a es)
def rowD (r:List Int):D:=.tup (r.map .int)
def itD:KI->D
 | .inl i=>.int i
 | .inr r=>rowD r
def stD (k:NK):D:=.tup (k.map itD)
def keyD:Key->D
 | .inl i=>.int i
 | .inr x=>.str x
mutual
inductive Rep (K:PySem.W.Frag) (ρ:List Addr) (H:Hp):V->D->Prop
 | non:Rep K ρ H .non .non
 | bl (b:Bool):Rep K ρ H (.bl b) (.bl b)
 | int (i:Int):Rep K ρ H (.int i) (.int i)
 | str (x:Str):Rep K ρ H (.str x) (.str x)
 | tup {a:Addr}{vs:List V}{ds:List D} (h:SqT K H a vs) (r:Reps K ρ H vs ds):Rep K ρ H (.ref a) (.tup ds)
 | lit {a:Addr}{vs:List V}{ds:List D} (h:FzL K H a vs) (r:Reps K ρ H vs ds):Rep K ρ H (.ref a) (.lit ds)
 | ref {a:Addr}{n:Nat} (k:∃ o,H a=some o/\kO o=0) (h:ρ[n]?=some a):Rep K ρ H (.ref a) (.ref n)
 | dic {a:Addr}{n:Nat} (k:∃ o,H a=some o/\(kO o=1\/kO o=2)) (h:ρ[n]?=some a):Rep K ρ H (.ref a) (.dic n)
 | exn0 {a C:Addr}{x:Str} (g:PySem.W.nsIn K mainGlobals x=some (some (.ref C))) (h:∃ o,H a=some (.frz o (.own a))/\o.cls=.ref C):Rep K ρ H (.ref a) (.exn x [])
 | exn {a C dx:Addr}{x f:Str}{v:V}{d:D} (g:PySem.W.nsIn K mainGlobals x=some (some (.ref C))) (h:∃ o,H a=some (.frz o (.own a))/\o.cls=.ref C/\o.dict=some dx/\∃ vs,o.data=.fields vs) (h2:H dx=some (.xd [(f,v)])) (r:Rep K ρ H v d):Rep K ρ H (.ref a) (.exn x [.str f,d])
inductive Reps (K:PySem.W.Frag) (ρ:List Addr) (H:Hp):List V->List D->Prop
 | nil:Reps K ρ H [] []
 | cons {v:V}{d:D}{vs:List V}{ds:List D} (r:Rep K ρ H v d) (t:Reps K ρ H vs ds):Reps K ρ H (v::vs) (d::ds)
end
def ObR (K:PySem.W.Frag) (ρ:List Addr) (H:Hp) (a:Addr):MO->Prop
 | .lst ds=>∃ vs,H a=some (.lst vs)/\Reps K ρ H vs ds
 | .dct false kvs=>∃ es,H a=some (.dK es)/\Paired (fun (p:Key × V) (q:D × D)=>keyD p.1=q.1/\Rep K ρ H p.2 q.2) es kvs
 | .dct true kvs=>∃ es,H a=some (nstO a es)/\Paired (fun (p:NK × Addr × V) (q:D × D)=>stD p.1=q.1/\Rep K ρ H (.ref p.2.1) q.1/\Rep K ρ H p.2.2 q.2) es kvs
structure SR (K:PySem.W.Frag) (ρ:List Addr) (H:Hp) (st:Sto):Prop where
 len:ρ.length=st.length
 nd:ρ.Nodup
 ob:∀ (n:Nat) (a:Addr) (o:MO),ρ[n]?=some a->st[n]?=some o->ObR K ρ H a o
def LR (K:PySem.W.Frag) (ρ:List Addr) (H:Hp) (σ:St) (l:Loc):Prop:=
 σ.length=l.length/\∀ (i:Nat) (d:D),l[i]?=some (some d)->∃ v,σ[i]?=some (some v)/\Rep K ρ H v d
structure Ex (ρ:List Addr) (H:Hp) (ρ':List Addr) (H':Hp):Prop where
 pre:∃ τ,ρ'=ρ++τ/\∀ a∈τ,H a=none
 fix:∀ a o,kO o=3->H a=some o->H' a=some o
 oth:∀ a o,a∉ρ->H a=some o->H' a=some o
 knd:∀ a o,H a=some o->∃ o',H' a=some o'/\kO o'=kO o
structure Up (ρ:List Addr) (H:Hp) (ρ':List Addr) (H':Hp):Prop where
 pre:∃ τ,ρ'=ρ++τ
 fix:∀ a o,kO o=3->H a=some o->H' a=some o
 knd:∀ a o,H a=some o->∃ o',H' a=some o'/\kO o'=kO o
section
variable {K:PySem.W.Frag}{ρ ρ1 ρ2:List Addr}{H H1 H2:Hp}{st st1:Sto}{v:V}{d:D}{vs:List V}{ds:List D}{a:Addr}
theorem Ex.lst (x:Ex ρ H ρ1 H1) (a:Addr) (xs:List V) (na:a∉ρ) (h:H a=some (.lst xs)):H1 a=some (.lst xs):=x.oth a _ na h
theorem Ex.trk (x:Ex ρ H ρ1 H1) (a:Addr) (o:HO) (h:H a=some o):H1 a≠none:=by
 obtain⟨o',e,_⟩:=x.knd a o h
 rw[e];exact fun z=>nomatch z
theorem Ex.up (x:Ex ρ H ρ1 H1):Up ρ H ρ1 H1:=⟨let ⟨τ,e,_⟩:=x.pre;⟨τ,e⟩,x.fix,x.knd⟩
theorem Up.grow {τ:List Addr}:Up ρ H (ρ++τ) H:=⟨⟨τ,rfl⟩,fun _ _ _ e=>e,fun _ o e=>⟨o,e,rfl⟩⟩
theorem Ex.refl:Ex ρ H ρ H:=⟨⟨[],by simp,by simp⟩,fun _ _ _ e=>e,fun _ _ _ e=>e,fun _ o e=>⟨o,e,rfl⟩⟩
theorem Ex.trans (x:Ex ρ H ρ1 H1) (y:Ex ρ1 H1 ρ2 H2):Ex ρ H ρ2 H2:=by
 obtain⟨τ1,rfl,f1⟩:=x.pre
 obtain⟨τ2,rfl,f2⟩:=y.pre
 refine⟨⟨τ1++τ2,by simp,fun a ha=>?_⟩,fun a o no e=>y.fix a o no (x.fix a o no e),fun a o na e=>?_,fun a o e=>?_⟩
 ·rcases List.mem_append.mp ha with ha | ha
  ·exact f1 a ha
  ·cases q:H a with
   | none=>rfl
   | some o=>exact absurd (f2 a ha) (x.trk a o q)
 ·refine y.oth a o (fun z=>?_) (x.oth a o na e)
  rcases List.mem_append.mp z with z | z
  ·exact na z
  ·rw[f1 a z]at e;cases e
 ·obtain⟨o1,e1,k1⟩:=x.knd a o e
  obtain⟨o2,e2,k2⟩:=y.knd a o1 e1
  exact⟨o2,e2,k2.trans k1⟩
theorem Ex.new {o:HO} (h:H a=none):Ex ρ H ρ (upd H a o):=
 ⟨⟨[],by simp,by simp⟩,fun b u _ e=>by rw[Qaj (Qal e h)];exact e,fun b u _ e=>by rw[Qaj (Qal e h)];exact e,
  fun b u e=>⟨u,by rw[Qaj (Qal e h)];exact e,rfl⟩⟩
theorem Ex.newO {o:HO} (h:H a=none):Ex ρ H (ρ++[a]) (upd H a o):=
 ⟨⟨[a],rfl,fun b hb=>by rw[List.mem_singleton]at hb;rw[hb];exact h⟩,(Ex.new (ρ:=ρ) h).fix,(Ex.new (ρ:=ρ) h).oth,(Ex.new (ρ:=ρ) h).knd⟩
theorem Ex.newL {vs:List V} (h:H a=none):Ex ρ H (ρ++[a]) (upd H a (.lst vs)):=Ex.newO h
theorem SqT.mono (x:Up ρ H ρ1 H1) (h:SqT K H a vs):SqT K H1 a vs:=by
 rcases h with h | h
 ·rcases h with h | ⟨o,h⟩
  ·exact .inl (.inl (x.fix a _ rfl h))
  ·exact .inl (.inr ⟨o,x.fix a _ rfl h⟩)
 ·exact .inr h
theorem FzL.mono (x:Up ρ H ρ1 H1) (h:FzL K H a vs):FzL K H1 a vs:=by
 rcases h with ⟨o,h⟩ | h
 ·exact .inl ⟨o,x.fix a _ rfl h⟩
 ·exact .inr h
theorem Qdo {α:Type}{l τ:List α}{n:Nat}{a:α} (h:l[n]?=some a):(l++τ)[n]?=some a:=by
 rw[List.getElem?_append_left (List.getElem?_eq_some_iff.mp h).1];exact h
mutual
theorem Rep.up (x:Up ρ H ρ1 H1):∀ {v:V}{d:D},Rep K ρ H v d->Rep K ρ1 H1 v d
 | _,_,.non=>.non
 | _,_,.bl b=>.bl b
 | _,_,.int i=>.int i
 | _,_,.str y=>.str y
 | _,_,.tup h r=>.tup (SqT.mono x h) (Reps.up x r)
 | _,_,.lit h r=>.lit (FzL.mono x h) (Reps.up x r)
 | _,_,.ref ⟨o,ho,hk⟩ h=>by
  obtain⟨τ,e⟩:=x.pre
  obtain⟨o',ho',hk'⟩:=x.knd _ o ho
  exact .ref ⟨o',ho',hk'.trans hk⟩ (by rw[e];exact Qdo h)
 | _,_,.dic ⟨o,ho,hk⟩ h=>by
  obtain⟨τ,e⟩:=x.pre
  obtain⟨o',ho',hk'⟩:=x.knd _ o ho
  exact .dic ⟨o',ho',by rw[hk'];exact hk⟩ (by rw[e];exact Qdo h)
 | _,_,.exn0 g ⟨o,ho,hc⟩=>.exn0 g ⟨o,x.fix _ _ rfl ho,hc⟩
 | _,_,.exn g ⟨o,ho,hc⟩ h2 r=>.exn g ⟨o,x.fix _ _ rfl ho,hc⟩ (x.fix _ _ rfl h2) (Rep.up x r)
theorem Reps.up (x:Up ρ H ρ1 H1):∀ {vs:List V}{ds:List D},Reps K ρ H vs ds->Reps K ρ1 H1 vs ds
 | _,_,.nil=>.nil
 | _,_,.cons r t=>.cons (Rep.up x r) (Reps.up x t)
end
theorem Rep.mono (r:Rep K ρ H v d) (x:Ex ρ H ρ1 H1):Rep K ρ1 H1 v d:=r.up x.up
theorem Reps.mono (r:Reps K ρ H vs ds) (x:Ex ρ H ρ1 H1):Reps K ρ1 H1 vs ds:=r.up x.up
theorem Reps.length:∀ {vs:List V}{ds:List D},Reps K ρ H vs ds->vs.length=ds.length
 | _,_,.nil=>rfl
 | _,_,.cons _ t=>by simp[Reps.length t]
theorem Reps.get:∀ {vs:List V}{ds:List D}{i:Nat}{d:D},Reps K ρ H vs ds->ds[i]?=some d->∃ v,vs[i]?=some v/\Rep K ρ H v d
 | _,_,_,_,.nil,e=>by simp at e
 | _,_,0,_,.cons r _,e=>by simp at e;subst e;exact⟨_,rfl,r⟩
 | _,_,i + 1,_,.cons _ t,e=>by
  obtain⟨v,h1,h2⟩:=Reps.get (i:=i) t (by simpa using e)
  exact⟨v,by simpa using h1,h2⟩
theorem Reps.app:∀ {vs ws:List V}{ds es:List D},Reps K ρ H vs ds->Reps K ρ H ws es->Reps K ρ H (vs++ws) (ds++es)
 | _,_,_,_,.nil,s=>s
 | _,_,_,_,.cons r t,s=>.cons r (Reps.app t s)
theorem Reps.set:∀ {vs:List V}{ds:List D}{v:V}{d:D} (i:Nat),Reps K ρ H vs ds->Rep K ρ H v d->Reps K ρ H (vs.set i v) (ds.set i d)
 | _,_,_,_,_,.nil,_=>.nil
 | _,_,_,_,0,.cons _ t,r=>.cons r t
 | _,_,_,_,i + 1,.cons q t,r=>.cons q (Reps.set i t r)
theorem Reps.take:∀ {vs:List V}{ds:List D} (n:Nat),Reps K ρ H vs ds->Reps K ρ H (vs.take n) (ds.take n)
 | _,_,0,_=>.nil
 | _,_,_ + 1,.nil=>.nil
 | _,_,n + 1,.cons r t=>.cons r (Reps.take n t)
theorem Reps.drop:∀ {vs:List V}{ds:List D} (n:Nat),Reps K ρ H vs ds->Reps K ρ H (vs.drop n) (ds.drop n)
 | _,_,0,r=>r
 | _,_,_ + 1,.nil=>.nil
 | _,_,n + 1,.cons _ t=>Reps.drop n t
theorem LR.mono {σ:St}{l:Loc} (x:Ex ρ H ρ1 H1) (h:LR K ρ H σ l):LR K ρ1 H1 σ l:=
 ⟨h.1,fun i d e=>let ⟨v,e1,r⟩:=h.2 i d e;⟨v,e1,r.mono x⟩⟩
theorem SR.at (s:SR K ρ H st) {n:Nat}{o:MO} (e:st[n]?=some o):∃ a,ρ[n]?=some a/\ObR K ρ H a o:=by
 have hl:n < ρ.length:=by rw[s.len];exact (List.getElem?_eq_some_iff.mp e).1
 have q:ρ[n]?=some ρ[n]:=List.getElem?_eq_getElem hl
 exact⟨_,q,s.ob n _ o q e⟩
theorem SR.seq (s:SR K ρ H st) {n:Nat} (e:st[n]?=some (.lst ds)):∃ a vs,ρ[n]?=some a/\H a=some (.lst vs)/\Reps K ρ H vs ds:=by
 obtain⟨a,h,vs,q,r⟩:=s.at e
 exact⟨a,vs,h,q,r⟩
theorem ObR.ex {o:MO} (h:ObR K ρ H a o):∃ u,H a=some u:=by
 cases o with
 | lst ds=>obtain⟨vs,q,_⟩:=h;exact⟨_,q⟩
 | dct b kvs=>cases b<;>(obtain⟨vs,q,_⟩:=h;exact⟨_,q⟩)
theorem SR.fresh (s:SR K ρ H st) (h:H a=none):a∉ρ:=fun z=>by
 obtain⟨n,hn⟩:=List.getElem?_of_mem z
 have hl:n < st.length:=by rw[<- s.len];exact (List.getElem?_eq_some_iff.mp hn).1
 obtain⟨u,q⟩:=ObR.ex (s.ob n a _ hn (List.getElem?_eq_getElem hl))
 rw[h]at q;cases q
theorem Qdp {n:Nat}{xs:List D}{s':Sto} (h:getL n st=.ok xs s'):s'=st/\st[n]?=some (.lst xs):=by
 unfold getL at h
 cases e:st[n]? with
 | none=>rw[e]at h;cases h
 | some o=>
  rw[e]at h
  cases o with
  | lst ds=>cases h;exact⟨rfl,rfl⟩
  | dct _ _=>cases h
theorem Paired.mapS {α β:Type}{F G:α->β->Prop}:∀ {l₁:List α}{l₂:List β},Paired F l₁ l₂->(∀ a b,F a b->G a b)->Paired G l₁ l₂
 | _,_,.nil,_=>.nil
 | _,_,.cons r t,f=>.cons (f _ _ r) (Paired.mapS t f)
theorem ObR.mono {o:MO} (x:Up ρ H ρ1 H1) (h:ObR K ρ H a o) (hk:∀ u,H a=some u->H1 a=some u):ObR K ρ1 H1 a o:=by
 cases o with
 | lst ds=>
  obtain⟨vs,q,r⟩:=h
  exact⟨vs,hk _ q,r.up x⟩
 | dct b kvs=>
  cases b with
  | false=>
   obtain⟨es,q,r⟩:=h
   exact⟨es,hk _ q,Paired.mapS r fun p q z=>⟨z.1,z.2.up x⟩⟩
  | true=>
   obtain⟨es,q,r⟩:=h
   exact⟨es,hk _ q,Paired.mapS r fun p q z=>⟨z.1,z.2.1.up x,z.2.2.up x⟩⟩
theorem SR.new {o:HO} (s:SR K ρ H st) (h:H a=none):SR K ρ (upd H a o) st:=
 ⟨s.len,s.nd,fun n b ob e1 e2=>ObR.mono (o:=ob) (Ex.new (ρ:=ρ) h).up (s.ob n b ob e1 e2) fun vs q=>by rw[Qaj (Qal q h)];exact q⟩
theorem SR.keepO {o':MO} (s:SR K ρ H st) (na:a∉ρ) (r:ObR K ρ H a o'):SR K (ρ++[a]) H (st++[o']):=by
 have hl:=s.len
 have old:∀ (n:Nat) (b:Addr),(ρ++[a])[n]?=some b->(n < ρ.length/\ρ[n]?=some b)\/(n=ρ.length/\b=a):=fun n b e=>by
  by_cases hn:n < ρ.length
  ·rw[List.getElem?_append_left hn]at e;exact .inl ⟨hn,e⟩
  ·rw[List.getElem?_append_right (by ac_nf)]at e
   have hz:n - ρ.length=0:=by
    cases q:n - ρ.length with
    | zero=>rfl
    | succ k=>rw[q]at e;simp at e
   rw[hz]at e
   simp at e
   exact .inr ⟨by ac_nf,e.symm⟩
 refine⟨by simp[hl],List.nodup_append.mpr ⟨s.nd,by simp,fun x hx y hy=>?_⟩,fun n b o e1 e2=>?_⟩
 ·rw[List.mem_singleton]at hy
  subst hy
  exact fun z=>na (z ▸ hx)
 ·rcases old n b e1 with ⟨hn,f1⟩ | ⟨hn,f1⟩
  ·rw[List.getElem?_append_left (by ac_nf)]at e2
   exact ObR.mono (o:=o) Up.grow (s.ob n b o f1 e2) fun _ q=>q
  ·subst f1
   have:o=o':=by
    rw[hn,hl,List.getElem?_append_right (Nat.le_refl _)]at e2
    simp at e2;exact e2.symm
   subst this
   exact ObR.mono (o:=o) Up.grow r fun _ q=>q
theorem SR.keep (s:SR K ρ H st) (h:H a=some (.lst vs)) (na:a∉ρ) (r:Reps K ρ H vs ds):SR K (ρ++[a]) H (st++[.lst ds]):=s.keepO na ⟨vs,h,r⟩
theorem SR.putO (s : SR K ρ H st) {n : Nat} {o' : MO} {u u' : HO} (hl : n < st.length) (ha : ρ[n]? = some a) (hu : H a = some u) (k3 : kO u ≠ 3) (hk : kO u' = kO u) (r : ObR K ρ (upd H a u') a o') :
  SR K ρ (upd H a u') (st.set n o')/\Ex ρ H ρ (upd H a u'):=by
 have x:Ex ρ H ρ (upd H a u'):=by
  refine⟨⟨[],by simp,by simp⟩,fun b o no q=>?_,fun b xs nb q=>?_,fun b o q=>?_⟩
  ·have:b≠a:=fun z=>by subst z;rw[hu]at q;cases q;exact k3 no
   rw[Qaj this];exact q
  ·have:b≠a:=fun z=>by subst z;exact nb (List.mem_of_getElem? ha)
   rw[Qaj this];exact q
  ·by_cases z:b=a
   ·subst z;rw[hu]at q;cases q;exact⟨u',Qai,hk⟩
   ·exact⟨o,by rw[Qaj z];exact q,rfl⟩
 refine⟨⟨by simp[s.len],s.nd,fun m b o e1 e2=>?_⟩,x⟩
 by_cases z:m=n
 ·subst z
  rw[ha]at e1;cases e1
  rw[List.getElem?_set_self hl]at e2;cases e2
  exact r
 ·rw[List.getElem?_set_ne (Ne.symm z)]at e2
  refine ObR.mono (o:=o) x.up (s.ob m b o e1 e2) fun us q=>?_
  have:b≠a:=fun w=>by
   subst w
   exact z ((List.getElem?_inj (List.getElem?_eq_some_iff.mp e1).1 s.nd).mp (e1.trans ha.symm))
  rw[Qaj this];exact q
theorem SR.put (s : SR K ρ H st) {n : Nat} {ws : List V} (hl : n < st.length) (ha : ρ[n]? = some a) (hw : H a = some (.lst ws)) (r : Reps K ρ H vs ds) :
  SR K ρ (upd H a (.lst vs)) (st.set n (.lst ds))/\Ex ρ H ρ (upd H a (.lst vs)):=by
 have u:Up ρ H ρ (upd H a (.lst vs)):=by
  refine⟨⟨[],by simp⟩,fun b o no q=>?_,fun b o q=>?_⟩
  ·have:b≠a:=fun z=>by subst z;rw[hw]at q;cases q;exact nomatch no
   rw[Qaj this];exact q
  ·by_cases z:b=a
   ·subst z;rw[hw]at q;cases q;exact⟨_,Qai,rfl⟩
   ·exact⟨o,by rw[Qaj z];exact q,rfl⟩
 exact s.putO hl ha hw (by show (0:Nat)≠3;decide) rfl ⟨vs,Qai,r.up u⟩
theorem Qdq (k:∃ o,H a=some o/\kO o=0):∃ vs,H a=some (.lst vs):=by
 obtain⟨o,e,hk⟩:=k
 cases o with
 | lst vs=>exact⟨vs,e⟩
 | _=>exact nomatch hk
def Post {α:Type} (K:PySem.W.Frag) (ρ:List Addr) (H:Hp) (r:Rs α) (R:α->Sto->List Addr->Hp->Prop):Prop:=match r with
 | .ok a st=>∀ ρ' H',Ex ρ H ρ' H'->SR K ρ' H' st->R a st ρ' H'
 | _=>False
theorem Post.left {α:Type}{r:Rs α}{R:α->Sto->List Addr->Hp->Prop} (x:Ex ρ H ρ1 H1) (h:Post K ρ H r R):Post K ρ1 H1 r R:=by
 cases r with
 | ok a st=>exact fun ρ' H' y s=>h ρ' H' (x.trans y) s
 | exc _ _=>exact h
 | bad=>exact h
theorem Post.imp {α:Type}{r:Rs α}{R R':α->Sto->List Addr->Hp->Prop} (h:Post K ρ H r R) (f:∀ a st ρ' H',Ex ρ H ρ' H'->SR K ρ' H' st->R a st ρ' H'->R' a st ρ' H'):Post K ρ H r R':=by
 cases r with
 | ok a st=>exact fun ρ' H' y s=>f a st ρ' H' y s (h ρ' H' y s)
 | exc _ _=>exact h
 | bad=>exact h
theorem Post.bnd {α β:Type}{m:M α}{f:α->M β}{R:β->Sto->List Addr->Hp->Prop} (h:Post K ρ H (bnd m f st) R):Post K ρ H (m st) fun a st' ρ' H'=>Post K ρ' H' (f a st') R:=by
 unfold MM.bnd at h
 cases e:m st with
 | ok a s'=>
  rw[e]at h
  exact fun ρ' H' y s=>h.left y
 | exc _ _=>rw[e]at h;exact h
 | bad=>rw[e]at h;exact h
theorem Post.ret {α:Type}{a:α}{R:α->Sto->List Addr->Hp->Prop} (h:Post K ρ H (MM.ret a st) R) (s:SR K ρ H st):R a st ρ H:=h ρ H Ex.refl s
theorem Post.chk {α:Type}{c:Prop} [Decidable c] {m:M α}{R:α->Sto->List Addr->Hp->Prop} (h:Post K ρ H (MM.chk c m st) R):c/\Post K ρ H (m st) R:=by
 unfold MM.chk at h
 by_cases hc:c
 ·rw[if_pos hc]at h;exact⟨hc,h⟩
 ·rw[if_neg hc]at h;exact h.elim
theorem Post.getL {n:Nat}{R:List D->Sto->List Addr->Hp->Prop} (h:Post K ρ H (MM.getL n st) R) (s:SR K ρ H st):∃ xs,st[n]?=some (.lst xs)/\R xs st ρ H:=by
 cases e:MM.getL n st with
 | ok xs s'=>
  obtain⟨rfl,q⟩:=Qdp e
  rw[e]at h
  exact⟨xs,q,h ρ H Ex.refl s⟩
 | exc _ _=>rw[e]at h;exact h.elim
 | bad=>rw[e]at h;exact h.elim
def tOf (K:PySem.W.Frag) (f:CE):TE:=fun σ H Q=>∃ ρ l st,LR K ρ H σ l/\SR K ρ H st/\Post K ρ H (f l st) fun d _ ρ' H'=>∀ v,Rep K ρ' H' v d->Q v H'
def ttOf (K:PySem.W.Frag) (f:CT):TT:=fun σ H Q=>∃ ρ l st,LR K ρ H σ l/\SR K ρ H st/\Post K ρ H (f l st) fun b _ _ H'=>Q b H'
def taOf (K:PySem.W.Frag) (f:CA):TA:=fun σ H Q=>∃ ρ l st,LR K ρ H σ l/\SR K ρ H st/\Post K ρ H (f l st) fun ds _ ρ' H'=>∀ vs,Reps K ρ' H' vs ds->Q vs H'
def tlOf (K:PySem.W.Frag) (f:CA):TE:=fun σ H Q=>∃ ρ l st,LR K ρ H σ l/\SR K ρ H st/\Post K ρ H (f l st) fun ds _ ρ' H'=>∀ a vs,H a=none->a∉ρ'->H' a=some (.lst vs)->Reps K ρ' H' vs ds->Q (.ref a) H'
def tsOf (K:PySem.W.Frag) (c:CS):TS:=fun G σ H=>∃ ρ l st,LR K ρ H σ l/\SR K ρ H st/\Post K ρ H (c l st) fun f _ ρ' H'=>match f with
 | .next l'=>∀ σ',LR K ρ' H' σ' l'->G.nx σ' H'
 | .ret d=>∀ v,Rep K ρ' H' v d->G.rt v H'
 | .brk l'=>∀ σ',LR K ρ' H' σ' l'->G.bk σ' H'
 | .cnt l'=>∀ σ',LR K ρ' H' σ' l'->G.ct σ' H'
def tgOf (K:PySem.W.Frag) (g:CG):TG:=fun v σ H Q=>∃ ρ l st d,LR K ρ H σ l/\SR K ρ H st/\Rep K ρ H v d/\Post K ρ H (g d l st) fun l' _ ρ' H'=>∀ σ',LR K ρ' H' σ' l'->Q σ' H'
def tgsOf (K:PySem.W.Frag) (g:List D->Loc->M Loc):TGs:=fun vs σ H Q=>∃ ρ l st ds,LR K ρ H σ l/\SR K ρ H st/\Reps K ρ H vs ds/\Post K ρ H (g ds l st) fun l' _ ρ' H'=>∀ σ',LR K ρ' H' σ' l'->Q σ' H'
def rOf (K:PySem.W.Frag) (g:D->D->M D):R2:=fun x y H Q=>∃ ρ st d e,SR K ρ H st/\Rep K ρ H x d/\Rep K ρ H y e/\Post K ρ H (g d e st) fun r _ ρ' H'=>∀ v,Rep K ρ' H' v r->Q v H'
def uOf (K:PySem.W.Frag) (g:D->M D):V->Hp->VK->Prop:=fun x H Q=>∃ ρ st d,SR K ρ H st/\Rep K ρ H x d/\Post K ρ H (g d st) fun r _ ρ' H'=>∀ v,Rep K ρ' H' v r->Q v H'
def kOf (K:PySem.W.Frag) (g:List D->M D):List V->Hp->VK->Prop:=fun xs H Q=>∃ ρ st ds,SR K ρ H st/\Reps K ρ H xs ds/\Post K ρ H (g ds st) fun r _ ρ' H'=>∀ v,Rep K ρ' H' v r->Q v H'
def spOf (K:PySem.W.Frag) (n:Nat) (g:List D->M D):Sp:=fun vs H Q _=>vs.length=n/\kOf K g vs H Q
end
section
variable {X:Cx}{a b c:Expr}{pos:Pos}
abbrev SE (X:Cx) (e:Expr) (f:CE):Prop:=PE X e (tOf X.K f)
abbrev SL (X:Cx) (e:Expr) (f:CA):Prop:=PE X e (tlOf X.K f)
abbrev ST (X:Cx) (e:Expr) (f:CT):Prop:=PT X e (ttOf X.K f)
abbrev SA (X:Cx) (es:List Expr) (f:CA):Prop:=PA X es (taOf X.K f)
abbrev SS (X:Cx) (s:Stmt) (f:CS):Prop:=PS X s (tsOf X.K f)
abbrev SSs (X:Cx) (s:List Stmt) (f:CS):Prop:=PSs X s (tsOf X.K f)
theorem _root_.L2.PE.of {e:Expr}{t t':TE} (h:PE X e t) (f:∀ σ H Q,t' σ H Q->t σ H Q):PE X e t':=fun pins s σ H Q I q=>h pins s σ H Q I (f σ H Q q)
theorem _root_.L2.PT.of {e:Expr}{t t':TT} (h:PT X e t) (f:∀ σ H Q,t' σ H Q->t σ H Q):PT X e t':=fun pins s σ H Q I q=>h pins s σ H Q I (f σ H Q q)
theorem _root_.L2.PA.of {e:List Expr}{t t':TA} (h:PA X e t) (f:∀ σ H Q,t' σ H Q->t σ H Q):PA X e t':=fun pos pins s σ H Q I q=>h pos pins s σ H Q I (f σ H Q q)
theorem _root_.L2.PS.of {e:Stmt}{t t':TS} (h:PS X e t) (f:∀ D σ H,t' D σ H->t D σ H):PS X e t':=fun pins s σ H D I q=>h pins s σ H D I (f D σ H q)
theorem _root_.L2.PSs.of {e:List Stmt}{t t':TS} (h:PSs X e t) (f:∀ D σ H,t' D σ H->t D σ H):PSs X e t':=fun pins s σ H D I q=>h pins s σ H D I (f D σ H q)
theorem _root_.L2.PG.of {e:Expr}{t t':TG} (h:PG X e t) (f:∀ v σ H Q,t' v σ H Q->t v σ H Q):PG X e t':=fun pins s σ H v u Q I r q=>h pins s σ H v u Q I r (f v σ H Q q)
theorem _root_.L2.PGs.of {e:List Expr}{t t':TGs} (h:PGs X e t) (f:∀ v σ H Q,t' v σ H Q->t v σ H Q):PGs X e t':=fun pins s σ H v u Q I r q=>h pins s σ H v u Q I r (f v σ H Q q)
theorem _root_.L2.OpR.of {f:Value->Value->Sem Value}{r r':R2} (h:OpR X f r) (g:∀ x y H Q,r' x y H Q->r x y H Q):OpR X f r':=fun pins s σ H x y v u Q I rx ry q=>h pins s σ H x y v u Q I rx ry (g x y H Q q)
theorem _root_.L2.CallR.of {f:Value}{r r':List V->Hp->VK->Prop} (h:CallR X f r) (g:∀ x H Q,r' x H Q->r x H Q):CallR X f r':=fun pins s σ H x u Q I rx q=>h pins s σ H x u Q I rx (g x H Q q)
variable {fa fb fc:CE}
theorem Qdr (i:Nat) {x:Str} (h:PE X (.Name x pos) (tVar i)):SE X (.Name x pos) (cVar i):=h.of fun σ H Q pq47=>by
 obtain⟨ρ,l,st,lr,sr,p⟩:=pq47
 unfold cVar at p
 cases e:l[i]? with
 | none=>rw[e]at p;exact p.elim
 | some o=>
  rw[e]at p
  cases o with
  | none=>exact p.elim
  | some d=>
   obtain⟨v,e1,r⟩:=lr.2 i d e
   exact⟨v,e1,p.ret sr v r⟩
theorem Qds {i:Int}{j:Nat}:SE X (.Constant (.int i) j pos) (cCon (.int i)):=(Qaw (i:=i) (j:=j) (pos:=pos)).of fun σ H Q pq48=>by obtain⟨ρ,l,st,lr,sr,p⟩:=pq48;exact p.ret sr _ (.int i)
theorem Qdt {i:Bool}{j:Nat}:SE X (.Constant (.bool i) j pos) (cCon (.bl i)):=(Qax (b:=i) (j:=j) (pos:=pos)).of fun σ H Q pq49=>by obtain⟨ρ,l,st,lr,sr,p⟩:=pq49;exact p.ret sr _ (.bl i)
theorem Qdu {i:Str}{j:Nat}:SE X (.Constant (.str i) j pos) (cCon (.str i)):=(Qay (x:=i) (j:=j) (pos:=pos)).of fun σ H Q pq50=>by obtain⟨ρ,l,st,lr,sr,p⟩:=pq50;exact p.ret sr _ (.str i)
theorem Qdv {g:D->D->M D}{r:R2} (hr:∀ x y H Q,rOf X.K g x y H Q->r x y H Q):∀ σ H Q,tOf X.K (c2 g fa fb) σ H Q->tOp r (tOf X.K fa) (tOf X.K fb) σ H Q:=fun σ H Q pq51=>
 by obtain⟨ρ,l,st,lr,sr,p⟩:=pq51;exact⟨ρ,l,st,lr,sr,p.bnd.imp fun d st1 ρ1 H1 x1 s1 p1 v rv=>⟨ρ1,l,st1,lr.mono x1,s1,p1.bnd.imp fun e st2 ρ2 H2 x2 s2 p2 u ru=>hr _ _ _ _ ⟨ρ2,st2,d,e,s2,rv.mono x2,ru,p2⟩⟩⟩
theorem Qdw {op:Operator}{g:D->D->M D} (ho:OpR X (binaryOp op) (rOf X.K g)) (ha:SE X a fa) (hb:SE X b fb):SE X (.BinOp a op b pos) (c2 g fa fb):=
 (Qa7 ho ha hb).of (Qdv fun _ _ _ _ h=>h)
theorem Qdx {op:CmpOp}{g:D->D->M D} (ho:OpR X (compareOp op) (rOf X.K g)) (ha:SE X a fa) (hb:SE X b fb) (hm:behindInMarks op b=false):SE X (.Compare a [op] [b] pos) (c2 g fa fb):=
 (Qbl ho ha hb hm).of (Qdv fun _ _ _ _ h=>h)
end
theorem _root_.Exists.el {α β γ:Type}{A B C:α->β->γ->Prop}{G:Prop} (h:∃ a b c,A a b c/\B a b c/\C a b c) (k:∀ a b c,A a b c->B a b c->C a b c->G):G:=by
 obtain⟨ρ,l,st,a,b,c⟩:=h;exact k ρ l st a b c
theorem tOf.el {K:PySem.W.Frag}{f:CE}{σ:St}{H:Hp}{Q:VK}{C:Prop} (h:tOf K f σ H Q) (k:∀ ρ l st,LR K ρ H σ l->SR K ρ H st->Post K ρ H (f l st) (fun d _ ρ' H'=>∀ v,Rep K ρ' H' v d->Q v H')->C):C:=by
 obtain⟨ρ,l,st,a,b,c⟩:=h;exact k ρ l st a b c
theorem ttOf.el {K:PySem.W.Frag}{f:CT}{σ:St}{H:Hp}{Q:Bool->Hp->Prop}{C:Prop} (h:ttOf K f σ H Q) (k:∀ ρ l st,LR K ρ H σ l->SR K ρ H st->Post K ρ H (f l st) (fun b _ _ H'=>Q b H')->C):C:=by
 obtain⟨ρ,l,st,a,b,c⟩:=h;exact k ρ l st a b c
theorem tsOf.el {K:PySem.W.Frag}{c:CS}{σ:St}{H:Hp}{G:Ends}{C:Prop} (h:tsOf K c G σ H) (k:∀ ρ l st,LR K ρ H σ l->SR K ρ H st->Post K ρ H (c l st) (fun f _ ρ' H'=>match f with
 | .next l'=>∀ σ',LR K ρ' H' σ' l'->G.nx σ' H'
 | .ret d=>∀ v,Rep K ρ' H' v d->G.rt v H'
 | .brk l'=>∀ σ',LR K ρ' H' σ' l'->G.bk σ' H'
 | .cnt l'=>∀ σ',LR K ρ' H' σ' l'->G.ct σ' H')->C):C:=by
 obtain⟨ρ,l,st,a,b,c⟩:=h;exact k ρ l st a b c
end MM
namespace MM
open PySem PySem.Spec PyProof.Rows L2
theorem Qdy:∀ (a b:List Int),eqKs (a.map .int) (b.map .int)=decide (a=b)
 | [],[]=>by simp[eqKs]
 | [],_::_=>by simp[eqKs]
 | _::_,[]=>by simp[eqKs]
 | x::xs,y::ys=>by
  rw[List.map_cons,List.map_cons]
  show (eqK (.int x) (.int y) && eqKs _ _)=_
  rw[Qdy xs ys]
  show (decide (x=y) && _)=_
  simp[Bool.decide_and]
theorem Qdz:∀ (a b:KI),eqK (itD a) (itD b)=decide (a=b)
 | .inl i,.inl j=>by
  show decide (i=j)=_
  by_cases z:i=j
  ·subst z;simp
  ·rw[decide_eq_false z,decide_eq_false (fun q=>z (by injection q))]
 | .inl i,.inr r=>by rw[decide_eq_false (by simp)];rfl
 | .inr r,.inl i=>by rw[decide_eq_false (by simp)];rfl
 | .inr r,.inr q=>by
  show eqKs (r.map .int) (q.map .int)=_
  rw[Qdy]
  by_cases z:r=q
  ·subst z;simp
  ·rw[decide_eq_false z,decide_eq_false (fun q=>z (by injection q))]
theorem QdA:∀ (a b:List KI),eqKs (a.map itD) (b.map itD)=decide (a=b)
 | [],[]=>by simp[eqKs]
 | [],_::_=>by simp[eqKs]
 | _::_,[]=>by simp[eqKs]
 | x::xs,y::ys=>by
  rw[List.map_cons,List.map_cons]
  show (eqK (itD x) (itD y) && eqKs _ _)=_
  rw[QdA xs ys,Qdz]
  simp[Bool.decide_and]
theorem QdB (a b:NK):eqK (stD a) (stD b)=decide (a=b):=QdA a b
theorem QdC (a b:Key):eqK (keyD a) (keyD b)=decide (a=b):=by
 cases a<;>cases b<;>simp[keyD,eqK]
theorem QdD:∀ {ds:List D}{r:List Int},intsK ds=some r->ds=r.map .int
 | [],r,h=>by simp[intsK]at h;subst h;rfl
 | d::ds,r,h=>by
  cases d with
  | int i=>
   unfold intsK at h
   cases e:intsK ds with
   | none=>rw[e]at h;cases h
   | some q=>
    rw[e]at h
    cases h
    rw[List.map_cons,QdD e]
  | _=>cases h
theorem QdE:∀ {ds:List D}{r:NK},rowsK ds=some r->ds=r.map itD
 | [],r,h=>by simp[rowsK]at h;subst h;rfl
 | d::ds,r,h=>by
  cases d with
  | tup xs=>
   unfold rowsK at h
   cases e:intsK xs with
   | none=>rw[e]at h;cases h
   | some q=>
    cases e2:rowsK ds with
    | none=>rw[e,e2]at h;cases h
    | some q2=>
     rw[e,e2]at h
     cases h
     rw[List.map_cons,<- QdE e2]
     show _=D.tup (q.map .int)::ds
     rw[<- QdD e]
  | int i=>
   unfold rowsK at h
   cases e2:rowsK ds with
   | none=>rw[e2]at h;cases h
   | some q2=>
    rw[e2]at h
    cases h
    rw[List.map_cons,<- QdE e2];rfl
  | _=>cases h
theorem QdF {d:D}{r:NK} (h:stK d=some r):d=stD r:=by
 cases d with
 | tup ds=>show D.tup ds=D.tup _;rw[QdE h]
 | _=>cases h
theorem QdG {d:D} (h:kOk true d=true):∃ k,d=stD k:=by
 cases e:stK d with
 | none=>
  have:kOk true d=(stK d).isSome:=by cases d<;>rfl
  rw[this,e]at h;cases h
 | some k=>exact⟨k,QdF e⟩
theorem QdH {d:D} (h:kOk false d=true):∃ k,d=keyD k:=by
 cases d with
 | int i=>exact⟨.inl i,rfl⟩
 | str x=>exact⟨.inr x,rfl⟩
 | _=>cases h
section
variable {X:Cx}{K:PySem.W.Frag}{ρ:List Addr}{H:Hp}{st:Sto}{pins:List (Addr × Obj)}{σ:St}{s:Shared}{a b:Addr}
theorem QdI {k:Key}{v:V} (r:Rep K ρ H v (keyD k)):v=kV k:=by
 cases k with
 | inl i=>cases r;rfl
 | inr x=>cases r;rfl
abbrev KR (K:PySem.W.Frag) (ρ:List Addr) (H:Hp):List (Key × V)->List (D × D)->Prop:=Paired fun (p:Key × V) (q:D × D)=>keyD p.1=q.1/\Rep K ρ H p.2 q.2
def RO (K:PySem.W.Frag) (ρ:List Addr) (H:Hp):Option V->Option D->Prop
 | some v,some d=>Rep K ρ H v d
 | none,none=>True
 | _,_=>False
theorem RO.some_of {o:Option V}{d:D} (h:RO K ρ H o (some d)):∃ v,o=some v/\Rep K ρ H v d:=by
 cases o with
 | none=>exact h.elim
 | some v=>exact⟨v,rfl,h⟩
theorem RO.isSome_eq {o:Option V}{d:Option D} (h:RO K ρ H o d):o.isSome=d.isSome:=by
 cases o<;>cases d<;>first | rfl | exact h.elim
theorem KR.val {es:List (Key × V)}{kvs:List (D × D)} (r:KR K ρ H es kvs) (k:Key):RO K ρ H (valV es k) (lkK kvs (keyD k)):=by
 induction r with
 | nil=>exact True.intro
 | @cons p q ps qs h t ih=>
  obtain⟨h1,h2⟩:=h
  unfold lkK
  rw[List.find?_cons,<- h1,QdC]
  by_cases e:p.1=k
  ·rw[QcO e,decide_eq_true e];exact h2
  ·rw[QcP e,decide_eq_false e];exact ih
theorem KR.any {es:List (Key × V)}{kvs:List (D × D)} (r:KR K ρ H es kvs) (k:Key):(es.any fun kv=>decide (kv.1=k))=kvs.any fun p=>eqK p.1 (keyD k):=by
 induction r with
 | nil=>rfl
 | @cons p q ps qs h t ih=>rw[List.any_cons,List.any_cons,ih,<- h.1,QdC]
theorem KR.put {es:List (Key × V)}{kvs:List (D × D)} (r:KR K ρ H es kvs) (k:Key) {v:V}{d:D} (rv:Rep K ρ H v d):KR K ρ H (L2.putK es k v) (ptK kvs (keyD k) d):=by
 unfold L2.putK ptK
 rw[r.any k]
 by_cases e:(kvs.any fun p=>eqK p.1 (keyD k))=true
 ·rw[if_pos e,if_pos e]
  clear e
  induction r with
  | nil=>exact .nil
  | @cons p q ps qs h t ih=>
   rw[List.map_cons,List.map_cons]
   refine .cons ?_ ih
   rw[<- h.1,QdC]
   by_cases e:p.1=k
   ·rw[if_pos e,if_pos (decide_eq_true e)];exact⟨rfl,rv⟩
   ·rw[if_neg e,if_neg (by rw[decide_eq_false e];exact Bool.false_ne_true)];exact h
 ·rw[if_neg e,if_neg e]
  exact Paired.snoc r ⟨rfl,rv⟩
theorem KR.up {ρ1:List Addr}{H1:Hp} (x:Up ρ H ρ1 H1) {es:List (Key × V)}{kvs:List (D × D)} (r:KR K ρ H es kvs):KR K ρ1 H1 es kvs:=Paired.mapS r fun _ _ z=>⟨z.1,z.2.up x⟩
theorem KR.length {es:List (Key × V)}{kvs:List (D × D)} (r:KR K ρ H es kvs):es.length=kvs.length:=Paired.length r
abbrev NR (K:PySem.W.Frag) (ρ:List Addr) (H:Hp):List (NK × Addr × V)->List (D × D)->Prop:=Paired fun (p:NK × Addr × V) (q:D × D)=>stD p.1=q.1/\Rep K ρ H (.ref p.2.1) q.1/\Rep K ρ H p.2.2 q.2
abbrev NX:List (NK × Addr × V)->List (NK × Addr × Value)->Prop:=Paired fun (p:NK × Addr × V) (q:NK × Addr × Value)=>p.1=q.1/\p.2.1=q.2.1/\RelV p.2.2 q.2.2
abbrev nkd (X:Cx):HeapKind X.prog X.w NK:=nestKind X.prog X.w
theorem QdJ {P:Program}{w:World}:∀ {r:List Int}{vs:List V}{us:List Value},Reps K ρ H vs (r.map .int)->Vals vs us->ItemsAre (intKind P w) r us
 | [],_,_,h,g=>by cases h;cases g;exact .nil
 | i::r,_,_,h,g=>by
  cases h with
  | cons h1 ht=>
   cases h1
   cases g with
   | cons g1 gt=>
    obtain⟨t,e⟩:=g1
    subst e
    exact .cons (by show Value.isInt i (Value.int i t)=true;simp[Value.isInt]) (QdJ ht gt)
theorem QdK {r:List Int}{v:V}{u:Value} (I:Inv X pins σ H s) (h:Rep X.K ρ H v (rowD r)) (g:RelV v u):∃ b,u=.ref b/\IsTupleKey (intKind X.prog X.w) s.heap r b:=by
 cases h with
 | @tup b vs ds h q=>
  have e:u=Value.ref b:=g
  subst e
  obtain⟨its,rv,⟨o,h1,h2,n,h3⟩,_⟩:=I.tuple h
  exact⟨b,rfl,o,its.toArray,n,h1,h2,h3,by simpa using QdJ q rv⟩
theorem QdL (I:Inv X pins σ H s):∀ {k:NK}{vs:List V}{us:List Value},Reps X.K ρ H vs (k.map itD)->Vals vs us->TIts X.prog X.w s.heap k us
 | [],_,_,h,g=>by cases h;cases g;exact .nil
 | r::k,_,_,h,g=>by
  cases h with
  | cons h1 ht=>
   cases g with
   | cons g1 gt=>
    refine .cons ?_ (QdL I ht gt)
    cases r with
    | inl i=>
     cases (show Rep X.K ρ H _ (.int i) from h1)
     obtain⟨t,e⟩:=g1
     subst e
     exact .one i t
    | inr r=>
     obtain⟨b,e,hb⟩:=QdK I h1 g1
     subst e
     exact .row hb
theorem QdM {k:NK}{v:V}{u:Value} (I:Inv X pins σ H s) (h:Rep X.K ρ H v (stD k)) (g:RelV v u):∃ b,v=.ref b/\u=.ref b/\(nkd X).is s.heap k b:=by
 cases h with
 | @tup b vs ds h q=>
  have e:u=Value.ref b:=g
  subst e
  obtain⟨its,rv,⟨o,h1,h2,n,h3⟩,_⟩:=I.tuple h
  exact⟨b,rfl,rfl,o,its.toArray,n,h1,h2,h3,by simpa using QdL I q rv⟩
theorem QdN {es : List (NK × Addr × V)} {kvs : List (D × D)} (I : Inv X pins σ H s) (e : H a = some (nstO a es)) (r : NR X.K ρ H es kvs) :
  es.length<=sizeLine/\(a == sysModules)=false/\∃ xs,NX es xs/\s.heap.DictOfH (nkd X) a xs/\EpAt s.heap a xs.length:=by
 obtain⟨⟨z,y,xs,rx,o,es',ep,h1,h2,h3,h4,h5,h6⟩,w1,w2⟩:=(show ObjOk X.prog X.w H s.heap a (nstO a es) from I.hok a _ e)
 subst h6
 refine⟨z,y,xs,rx,⟨o,es',_,h1,h2,h3,h4,?_,h5⟩,⟨o,es',h1,h3⟩⟩
 clear h1 h2 h3 h4 h5 e z y w1 w2
 induction rx generalizing kvs with
 | nil=>intro x hx;exact nomatch hx
 | @cons p q ps qs h t ih=>
  cases r with
  | cons g gt=>
   intro x hx
   rcases List.mem_cons.mp hx with e | hx
   ·subst e
    obtain⟨b,e1,_,hb⟩:=QdM I (by rw[g.1];exact g.2.1) (show RelV (.ref p.2.1) (.ref p.2.1) from rfl)
    cases e1
    rw[<- h.1,<- h.2.1]
    exact hb
   ·exact ih gt x hx
theorem QdO {H' : Hp} {h' : Heap} {P : Program} {w : World} {es : List (NK × Addr × V)} {xs : List (NK × Addr × Value)} (z : es.length <= sizeLine) (y : (a == sysModules) = false) (r : NX es xs) (dd : h'.DictOfH (nestKind P w) a xs) (de : EpAt h' a xs.length) :
  ObjOk P w H' h' a (nstO a es):=by
 obtain⟨o,es',ep,h1,h2,h3,h4,_,h5⟩:=dd
 obtain⟨o2,es2,g1,g3⟩:=de
 rw[h1]at g1;cases g1
 rw[h3]at g3;cases g3
 refine⟨⟨z,y,xs,r,o,es',_,h1,h2,h3,h4,h5,rfl⟩,⟨o,h1⟩,?_⟩
 rintro g1 g2 ⟨z,y,xs,r,o,es',ep,h1,h2⟩ k
 exact⟨z,y,xs,r,o,es',ep,k o h1,h2⟩
def valN (es:List (NK × Addr × V)) (k:NK):Option V:=(es.find? fun p=>decide (p.1=k)).map (·.2.2)
def putN (es:List (NK × Addr × V)) (k:NK) (b:Addr) (v:V):List (NK × Addr × V):=if (es.any fun p=>decide (p.1=k))=true then es.map (fun p=>if p.1=k then (p.1,p.2.1,v) else p) else es++[(k,b,v)]
theorem NR.val {es:List (NK × Addr × V)}{kvs:List (D × D)} (r:NR K ρ H es kvs) (k:NK):RO K ρ H (valN es k) (lkK kvs (stD k)):=by
 induction r with
 | nil=>exact True.intro
 | @cons p q ps qs h t ih=>
  obtain⟨h1,_,h2⟩:=h
  unfold lkK valN
  rw[List.find?_cons,List.find?_cons,<- h1,QdB]
  by_cases e:p.1=k
  ·rw[decide_eq_true e];exact h2
  ·rw[decide_eq_false e];exact ih
theorem NX.val {es:List (NK × Addr × V)}{xs:List (NK × Addr × Value)} (r:NX es xs) (k:NK):RelO (valN es k) ((atKey xs k).map (·.2)):=by
 induction r with
 | nil=>exact True.intro
 | @cons p q ps qs h t ih=>
  obtain⟨h1,_,h2⟩:=h
  unfold atKey valN
  rw[List.find?_cons,List.find?_cons,<- h1]
  by_cases e:p.1=k
  ·rw[decide_eq_true e];exact h2
  ·rw[decide_eq_false e];exact ih
theorem NX.put {es:List (NK × Addr × V)}{xs:List (NK × Addr × Value)} (r:NX es xs) (k:NK) (b:Addr) {v:V}{u:Value} (rv:RelV v u):NX (putN es k b v) (storedH xs k b u):=by
 have e:(es.any fun p=>decide (p.1=k))=(atKey xs k).isSome:=by
  clear rv
  induction r with
  | nil=>rfl
  | @cons p q ps qs h t ih=>
   rw[List.any_cons,ih]
   unfold atKey
   rw[List.find?_cons,<- h.1]
   by_cases e:p.1=k
   ·rw[decide_eq_true e];rfl
   ·rw[decide_eq_false e];rfl
 unfold putN storedH
 rw[e]
 by_cases q:(atKey xs k).isSome=true
 ·rw[if_pos q,if_pos q]
  clear q e
  induction r with
  | nil=>exact .nil
  | @cons p q ps qs h t ih=>
   rw[List.map_cons,List.map_cons]
   refine .cons ?_ ih
   unfold putAt
   by_cases e:p.1=k
   ·rw[if_pos e,if_pos (h.1.symm.trans e)];exact⟨h.1,h.2.1,rv⟩
   ·rw[if_neg e,if_neg (fun z=>e (h.1.trans z))];exact h
 ·rw[if_neg q,if_neg q];exact Paired.snoc r ⟨rfl,rfl,rv⟩
theorem NR.put {es:List (NK × Addr × V)}{kvs:List (D × D)} (r:NR K ρ H es kvs) (k:NK) (b:Addr) {v:V}{d:D} (rk:Rep K ρ H (.ref b) (stD k)) (rv:Rep K ρ H v d):NR K ρ H (putN es k b v) (ptK kvs (stD k) d):=by
 have e:(es.any fun p=>decide (p.1=k))=kvs.any fun p=>eqK p.1 (stD k):=by
  clear rk rv
  induction r with
  | nil=>rfl
  | @cons p q ps qs h t ih=>rw[List.any_cons,List.any_cons,ih,<- h.1,QdB]
 unfold putN ptK
 rw[e]
 clear e
 by_cases e:(kvs.any fun p=>eqK p.1 (stD k))=true
 ·rw[if_pos e,if_pos e]
  clear e
  induction r with
  | nil=>exact .nil
  | @cons p q ps qs h t ih=>
   rw[List.map_cons,List.map_cons]
   refine .cons ?_ ih
   by_cases e:p.1=k
   ·have z:eqK q.1 (stD k)=true:=by rw[<- h.1,QdB];exact decide_eq_true e
    rw[if_pos e,if_pos z];exact⟨h.1,h.2.1,rv⟩
   ·have z:¬ eqK q.1 (stD k)=true:=by rw[<- h.1,QdB,decide_eq_false e];exact Bool.false_ne_true
    rw[if_neg e,if_neg z];exact h
 ·rw[if_neg e,if_neg e]
  exact Paired.snoc r ⟨rfl,rk,rv⟩
theorem NR.up {ρ1:List Addr}{H1:Hp} (x:Up ρ H ρ1 H1) {es:List (NK × Addr × V)}{kvs:List (D × D)} (r:NR K ρ H es kvs):NR K ρ1 H1 es kvs:=Paired.mapS r fun _ _ z=>⟨z.1,z.2.1.up x,z.2.2.up x⟩
theorem NR.length {es:List (NK × Addr × V)}{kvs:List (D × D)} (r:NR K ρ H es kvs):es.length=kvs.length:=Paired.length r
theorem QdP (es:List (NK × Addr × V)) (k:NK) (b:Addr) (v:V):(putN es k b v).length<=es.length + 1:=by
 unfold putN
 split
 ·rw[List.length_map];ac_nf
 ·rw[List.length_append,List.length_cons,List.length_nil];ac_nf
theorem QdQ {n:Nat}{p:Bool × List (D × D)}{s':Sto} (h:getDc n st=.ok p s'):s'=st/\st[n]?=some (.dct p.1 p.2):=by
 unfold getDc at h
 cases e:st[n]? with
 | none=>rw[e]at h;cases h
 | some o=>
  rw[e]at h
  cases o with
  | lst ds=>cases h
  | dct b kvs=>cases h;exact⟨rfl,rfl⟩
theorem Post.getDc {n:Nat}{R:Bool × List (D × D)->Sto->List Addr->Hp->Prop} (h:Post K ρ H (MM.getDc n st) R) (s:SR K ρ H st):∃ b kvs,st[n]?=some (.dct b kvs)/\R (b,kvs) st ρ H:=by
 cases e:MM.getDc n st with
 | ok xs s'=>
  obtain⟨rfl,q⟩:=QdQ e
  rw[e]at h
  exact⟨xs.1,xs.2,q,h ρ H Ex.refl s⟩
 | exc _ _=>rw[e]at h;exact h.elim
 | bad=>rw[e]at h;exact h.elim
theorem QdR {b : Bool} {kvs : List (D × D)} {k d : D} {y : V} {u : Value} {Q : Value -> Shared -> Prop} {E : Value -> Shared -> Prop} {A : Around} (hu : A.units + 2 < cLine) (I : Inv X pins σ H s) (g : ObR X.K ρ H a (.dct b kvs)) (rk : Rep X.K ρ H y k) (hk : kOk b k = true) (hl : lkK kvs k = some d) (ry : RelV y u)
  (h:∀ v w' s',Inv X pins σ H s'->Rep X.K ρ H v d->RelV v w'->Q w' s'):wpAny (model X.prog X.w) A (getItem (.ref a) u) Q E s:=by
 cases b with
 | false=>
  obtain⟨es,e,r⟩:=g
  obtain⟨k,rfl⟩:=QdH hk
  cases QdI rk
  have q:=KR.val r k
  rw[hl]at q
  obtain⟨v,e1,rv⟩:=q.some_of
  exact Qc0 (by ac_nf) I (by have:=DGet.k (k:=k) e;rw[e1]at this;exact this) ry fun w' s' I' rw'=>h v w' s' I' rv rw'
 | true=>
  obtain⟨es,e,r⟩:=g
  obtain⟨k,rfl⟩:=QdG hk
  have q:=NR.val r k
  rw[hl]at q
  obtain⟨v,e1,rv⟩:=q.some_of
  obtain⟨_,hd,xs,rx,dd,de⟩:=QdN I e r
  obtain⟨c,e2,e3,hc⟩:=QdM I rk ry
  subst e3
  obtain⟨w',hw,rw'⟩:=RelO.some_of (v:=v) (o:=(atKey xs k).map (·.2)) (by rw[<- e1];exact NX.val rx k)
  obtain⟨p,hp,hp2⟩:=Option.map_eq_some_iff.mp hw
  refine wpAny_getItem_heap (knd:=nkd X) (show A.in1.units + 1 < cLine from hu) hc dd hp ?_
  rw[hp2]
  exact h v w' _ (I.tok _) rv rw'
theorem QdS {b : Bool} {kvs : List (D × D)} {k : D} {y : V} {u : Value} {Q : Value -> Shared -> Prop} {E : Value -> Shared -> Prop} {A : Around} (hu : A.units + 2 < cLine) (I : Inv X pins σ H s) (g : ObR X.K ρ H a (.dct b kvs)) (rk : Rep X.K ρ H y k) (hk : kOk b k = true) (ry : RelV y u)
  (h:∀ s',Inv X pins σ H s'->Q (.bool (!(lkK kvs k).isSome)) s'):wpAny (model X.prog X.w) A (compareOp .NotIn u (.ref a)) Q E s:=by
 cases b with
 | false=>
  obtain⟨es,e,r⟩:=g
  obtain⟨k,rfl⟩:=QdH hk
  cases QdI rk
  rw[<- (KR.val r k).isSome_eq]at h
  exact Qc1 (by ac_nf) I (DGet.k (k:=k) e) ry h
 | true=>
  obtain⟨es,e,r⟩:=g
  obtain⟨k,rfl⟩:=QdG hk
  rw[<- (NR.val r k).isSome_eq]at h
  obtain⟨_,hd,xs,rx,dd,de⟩:=QdN I e r
  obtain⟨c,e2,e3,hc⟩:=QdM I rk ry
  subst e3
  refine wpAny_notIn_heap (knd:=nkd X) (show A.in1.units + 1 < cLine from hu) hc hd dd ?_
  have q:=(NX.val rx k).isSome_eq
  rw[Option.isSome_map]at q
  rw[<- q]
  exact h _ (I.tok _)
theorem QdT {n : Nat} {b : Bool} {kvs : List (D × D)} {k d : D} {y v : V} {u r' : Value} {Q : Unit -> Shared -> Prop} {E : Value -> Shared -> Prop} {A : Around} (hu : A.units + 2 < cLine) (I : Inv X pins σ H s) (sr : SR X.K ρ H st) (ha : ρ[n]? = some a) (hn : st[n]? = some (.dct b kvs))
  (rk:Rep X.K ρ H y k) (hk:kOk b k=true) (hl:kvs.length < sizeLine) (rv:Rep X.K ρ H v d) (ry:RelV y u) (rr:RelV v r')
  (h:∀ H' s',Inv X pins σ H' s'->SR X.K ρ H' (st.set n (.dct b (ptK kvs k d)))->Ex ρ H ρ H'->Q () s'):wpAny (model X.prog X.w) A (setItem (.ref a) u r') Q E s:=by
 have hlt:=(List.getElem?_eq_some_iff.mp hn).1
 have g:=sr.ob n a _ ha hn
 cases b with
 | false=>
  obtain⟨es,e,r⟩:=g
  obtain⟨k,rfl⟩:=QdH hk
  cases QdI rk
  have w:=sr.putO (o':=.dct false (ptK kvs (keyD k) d)) (u':=.dK (L2.putK es k v)) hlt ha e (by show (1:Nat)≠3;decide) rfl ⟨_,Qai,(KR.put r k rv).up ?_⟩
  ·exact Qc4 (by ac_nf) I (DPut.k (k:=k) e (by rw[KR.length r];exact hl)) ry rr fun s' I'=>h _ s' I' w.1 w.2
  ·refine⟨⟨[],by simp⟩,fun c o no q=>?_,fun c o q=>?_⟩
   ·rw[Qaj fun z=>by subst z;rw[e]at q;cases q;exact nomatch no];exact q
   ·by_cases z:c=a
    ·subst z;rw[e]at q;cases q;exact⟨_,Qai,rfl⟩
    ·exact⟨o,by rw[Qaj z];exact q,rfl⟩
 | true=>
  obtain⟨es,e,r⟩:=g
  obtain⟨k,rfl⟩:=QdG hk
  obtain⟨_,hd,xs,rx,dd,de⟩:=QdN I e r
  obtain⟨c,e2,e3,hc⟩:=QdM I rk ry
  subst e2 e3
  have w:=sr.putO (o':=.dct true (ptK kvs (stD k) d)) (u':=nstO a (putN es k c v)) hlt ha e (by show (2:Nat)≠3;decide) rfl ⟨_,Qai,(NR.put r k c rk rv).up ?_⟩
  ·have hz : xs.length <= sizeLine := by
     rw[<- Paired.length rx,NR.length r];ac_nf
   refine Qdn (knd:=nkd X) (show A.in1.units + 1 < cLine from hu) hc dd de hz fun h' dd' de' hs=>h _ _ ?_ w.1 w.2
   have he:∃ q,h'.get? a=some q:=let ⟨q,_,_,hq,_⟩:=dd';⟨q,hq⟩
   refine Qc2 I (by rw[e];exact True.intro) hs he (QdO ?_ hd (NX.put rx k c rr) dd' de')
   have:=QdP es k c v
   rw[NR.length r]at this
   ac_nf
  ·refine⟨⟨[],by simp⟩,fun c o no q=>?_,fun c o q=>?_⟩
   ·rw[Qaj fun z=>by subst z;rw[e]at q;cases q;exact nomatch no];exact q
   ·by_cases z:c=a
    ·subst z;rw[e]at q;cases q;exact⟨_,Qai,rfl⟩
    ·exact⟨o,by rw[Qaj z];exact q,rfl⟩
end
abbrev NoE:Value->Shared->Prop:=fun _ _=>False
def tests (ifs:List Expr) (env:Env):Sem Bool:=forIn ifs true fun c r=>if r=true then do let ok <- isTrue c env (eval c env);pure (ForInStep.yield ok) else pure (ForInStep.yield r)
section
variable {prog:Program}{w:World}{A:Around}{R:Result->Shared->Prop}{s:Shared}
theorem QdU {elt target iter : Expr} {ifs : List Expr} {scope : Scope} {pos : Pos} {it acc : Value} {env : Env} (I : Nat -> Shared -> Prop)
  (turn:∀ n s,I n s->wpAny (model prog w) A (pyNext it) (fun r s₁=>match r with
   | none=>R (.ok .next) s₁
   | some v => wpAny (model prog w) A (letOwnedTupleGo target it v) (fun _ s₁' => wpAny (model prog w) A (assign target env v) (fun _ s₂ =>
     wpAny (model prog w) A (tests ifs env) (fun ok s₃=>
      if ok=true then wpAny (model prog w) A (eval elt env) (fun x s₄=>
       wpAny (model prog w) A (call (.builtin "list.append") [acc,x]) (fun _ s₅=>∃ m,m < n/\I m s₅) NoE s₄) NoE s₃
      else ∃ m,m < n/\I m s₃) NoE s₂) NoE s₁') NoE s₁) NoE s)
  (n:Nat) (h:I n s):codeAny (model prog w) A (.compLoop (.ListComp elt [⟨target,iter,ifs,0⟩] scope pos) 0 it acc env) R s:=by
 refine codeAny_loop rfl I (fun n s hI=>?_) n h
 show wpAny _ A ((compTurn (.ListComp elt [⟨target,iter,ifs,0⟩] scope pos) 0 it acc env).onRaise (fun x=>do noteFrame x env;theTreesLotGoes x)) _ _ s
 refine wpAny_noted ?_
 rw[compTurn_list]
 refine wpAny_bind (wpAny_standAt (wpAny_bind (wpAny_mono (turn n s hI) (fun r s₁ h₁=>?_) fun _ _ h'=>h'.elim)))
 cases r with
 | none=>exact wpAny_pure h₁
 | some v=>
  refine wpAny_bind (wpAny_mono h₁ (fun _ s₁' h₁'=>?_) fun _ _ h'=>h'.elim)
  refine wpAny_bind (wpAny_mono h₁' (fun _ s₂ h₂=>wpAny_bind (wpAny_mono h₂ (fun ok s₃ h₃=>?_) fun _ _ h'=>h'.elim)) fun _ _ h'=>h'.elim)
  cases ok with
  | false=>exact wpAny_pure ⟨rfl,h₃⟩
  | true=>
   exact wpAny_bind (wpAny_bind (wpAny_mono h₃ (fun x s₄ h₄=>wpAny_bind (wpAny_mono h₄ (fun _ s₅ h₅=>wpAny_pure (wpAny_pure ⟨rfl,h₅⟩)) fun _ _ h'=>h'.elim)) fun _ _ h'=>h'.elim))
end
def clOf:List (Str × NameKind)->List (Str × Addr)->List (Str × Addr)->List (Str × Addr)
 | [],_,acc=>acc
 | (n,k)::r,cells,acc=>clOf r cells (if k == .free then (match cells.lookup n with | some c=>(n,c)::acc | none=>acc) else acc)
theorem QdV {env : Env} : ∀ (names : List (Str × NameKind)) (acc : List (Str × Addr)), (∀ x, (x, NameKind.free) ∈ names -> ∃ c, env.cells.lookup x = some c) ->
  (forIn names acc fun (x:Str × NameKind) r=>if (x.2 == NameKind.free)=true then (do let a <- cellOf env x.1;pure (ForInStep.yield ((x.1,a)::r)):Sem _) else pure (ForInStep.yield r))=(pure (clOf names env.cells acc):Sem _)
 | [],acc,_=>rfl
 | (n,k)::r,acc,h=>by
  rw[List.forIn_cons]
  by_cases hk:(k == NameKind.free)=true
  ·have e:k=.free:=by simpa using hk
   subst e
   obtain⟨c,hc⟩:=h n List.mem_cons_self
   have q:cellOf env n=pure c:=by unfold cellOf;rw[hc]
   simp only[beq_self_eq_true,if_true,q]
   unfold clOf
   simp only[beq_self_eq_true,if_true,hc]
   exact QdV r ((n,c)::acc) fun x hx=>h x (List.mem_cons_of_mem _ hx)
  ·simp only[hk,if_false]
   unfold clOf
   simp only[hk,if_false]
   exact QdV r acc fun x hx=>h x (List.mem_cons_of_mem _ hx)
theorem QdW {scope:Scope}{env:Env} (h:∀ x,(x,NameKind.free)∈scope.names->∃ c,env.cells.lookup x=some c):closureFor scope env=pure (clOf scope.names env.cells []):=by
 have q:=QdV (env:=env) scope.names [] h
 simp only[closureFor]
 exact congrArg (fun m=>m >>= fun cs=>pure cs) q
theorem QdX {α:Type}{x y:Str}{v:α}{r:List (Str × α)} (h:x≠y):List.lookup x ((y,v)::r)=r.lookup x:=by
 rw[List.lookup_cons]
 have:(x == y)=false:=beq_eq_false_iff_ne.mpr h
 rw[this]
theorem lookup_cons_self {α:Type}{x:Str}{v:α}{r:List (Str × α)}:List.lookup x ((x,v)::r)=some v:=by
 rw[List.lookup_cons,beq_self_eq_true]
theorem clOf_of {cells:List (Str × Addr)}{x:Str}{c:Addr}:∀ (names:List (Str × NameKind)) (acc:List (Str × Addr)),(clOf names cells acc).lookup x=some c->cells.lookup x=some c\/acc.lookup x=some c
 | [],acc,h=>.inr h
 | (n,k)::r,acc,h=>by
  unfold clOf at h
  rcases clOf_of r _ h with q | q
  ·exact .inl q
  ·split at q
   ·split at q
    ·rename_i c' hc
     by_cases hx:x=n
     ·subst hx
      rw[lookup_cons_self]at q
      cases q
      exact .inl hc
     ·rw[QdX hx]at q;exact .inr q
    ·exact .inr q
   ·exact .inr q
theorem QdY {cells:List (Str × Addr)}{x:Str}{c:Addr} (hc:cells.lookup x=some c):∀ (names:List (Str × NameKind)) (acc:List (Str × Addr)),((x,NameKind.free)∈names\/acc.lookup x=some c)->(∀ d,acc.lookup x=some d->d=c)->(clOf names cells acc).lookup x=some c
 | [],acc,h,_=>by
  rcases h with h | h
  ·cases h
  ·exact h
 | (n,k)::r,acc,h,ha=>by
  unfold clOf
  by_cases hx:x=n
  ·subst hx
   by_cases hk:(k == NameKind.free)=true
   ·rw[if_pos hk,hc]
    exact QdY hc r _ (.inr lookup_cons_self) fun d hd=>by rw[lookup_cons_self]at hd;cases hd;rfl
   ·rw[if_neg hk]
    refine QdY hc r _ ?_ ha
    rcases h with h | h
    ·rcases List.mem_cons.mp h with e | e
     ·cases e;exact absurd rfl hk
     ·exact .inl e
    ·exact .inr h
  ·have step : ∀ acc', acc'.lookup x = acc.lookup x -> (clOf r cells acc').lookup x = some c := fun acc' e => by
     refine QdY hc r acc' ?_ (by rw[e];exact ha)
     rcases h with h | h
     ·rcases List.mem_cons.mp h with z | z
      ·cases z;exact absurd rfl hx
      ·exact .inl z
     ·exact .inr (by rw[e];exact h)
   refine step _ ?_
   split
   ·split
    ·exact QdX hx
    ·rfl
   ·rfl
theorem cellsFrom_of {x:Str}{c:Addr}:∀ (names:List (Str × NameKind)) (n:Nat) (acc:List (Str × Addr)),(cellsFrom n names acc).lookup x=some c->n<=c\/acc.lookup x=some c
 | [],_,_,h=>.inr h
 | (y,k)::r,n,acc,h=>by
  unfold cellsFrom at h
  split at h
  ·rcases cellsFrom_of r (n + 1) _ h with q | q
   ·exact .inl (by ac_nf)
   ·by_cases hx:x=y
    ·subst hx;rw[lookup_cons_self]at q;cases q;exact .inl (Nat.le_refl _)
    ·rw[QdX hx]at q;exact .inr q
  ·exact cellsFrom_of r n acc h
theorem QdZ : ∀ (names : List (Str × NameKind)) (n : Nat) (acc : List (Str × Addr)), (∀ x y c, acc.lookup x = some c -> acc.lookup y = some c -> x = y) -> (∀ x c, acc.lookup x = some c -> c < n) ->
  ∀ x y c,(cellsFrom n names acc).lookup x=some c->(cellsFrom n names acc).lookup y=some c->x=y
 | [],_,_,hi,_=>hi
 | (z,k)::r,n,acc,hi,hb=>by
  unfold cellsFrom
  split
  ·refine QdZ r (n + 1) _ (fun x y c h1 h2=>?_) (fun x c h=>?_)
   ·by_cases hx:x=z
    ·subst hx
     rw[lookup_cons_self]at h1;cases h1
     by_cases hy:y=x
     ·exact hy.symm
     ·rw[QdX hy]at h2
      exact absurd (hb y _ h2) (Nat.lt_irrefl _)
    ·rw[QdX hx]at h1
     by_cases hy:y=z
     ·subst hy
      rw[lookup_cons_self]at h2;cases h2
      exact absurd (hb x _ h1) (Nat.lt_irrefl _)
     ·rw[QdX hy]at h2;exact hi x y c h1 h2
   ·by_cases hx:x=z
    ·subst hx;rw[lookup_cons_self]at h;cases h;exact Nat.lt_succ_self _
    ·rw[QdX hx]at h;exact Nat.lt_succ_of_lt (hb x c h)
  ·exact QdZ r n acc hi hb
theorem cellsFrom_cell {x:Str}{c:Addr}:∀ (names:List (Str × NameKind)) (h:Heap) (acc:List (Str × Addr)),(cellsFrom h.objs.size names acc).lookup x=some c->acc.lookup x=some c\/((pushCells h names).IsCell c none/\h.objs.size<=c)
 | [],_,_,q=>.inl q
 | (y,k)::r,h,acc,q=>by
  unfold cellsFrom at q
  unfold pushCells
  split at q
  ·rename_i hk
   rw[if_pos hk]
   rw[<- Heap.size_push h { cls:=.type "cell",data:=.cell none }]at q
   rcases cellsFrom_cell r _ _ q with z | z
   ·by_cases hx:x=y
    ·subst hx;rw[lookup_cons_self]at z;cases z
     refine .inr ⟨?_,Nat.le_refl _⟩
     refine⟨{ cls:=.type "cell",data:=.cell none },pushCells_keeps r _ _ _ (Heap.get?_push_size _ rfl),rfl⟩
    ·rw[QdX hx]at z;exact .inl z
   ·refine .inr ⟨z.1,?_⟩
    have:=z.2
    rw[Heap.size_push]at this
    ac_nf
  ·rename_i hk
   rw[if_neg hk]
   exact cellsFrom_cell r h acc q
theorem Qd0 {x:Str}:∀ (names:List (Str × NameKind)) (n:Nat) (acc:List (Str × Addr)),(x,NameKind.cell)∉names->(cellsFrom n names acc).lookup x=acc.lookup x
 | [],_,_,_=>rfl
 | (y,k)::r,n,acc,h=>by
  unfold cellsFrom
  split
  ·rename_i hk
   have e:k=.cell:=by simpa using hk
   subst e
   have hx:x≠y:=fun z=>h (by rw[z];exact List.mem_cons_self)
   rw[Qd0 r (n + 1) _ fun z=>h (List.mem_cons_of_mem _ z),QdX hx]
  ·exact Qd0 r n acc fun z=>h (List.mem_cons_of_mem _ z)
theorem Qd1 {α β:Type} (f:Str->α->β) (x:Str):∀ (l:List (Str × α)),(l.map fun p=>(p.1,f p.1 p.2)).lookup x=(l.lookup x).map (f x)
 | []=>rfl
 | (y,v)::r=>by
  by_cases hx:x=y
  ·subst hx
   rw[List.map_cons,lookup_cons_self,lookup_cons_self];rfl
  ·rw[List.map_cons,QdX hx,QdX hx];exact Qd1 f x r
theorem Qd2 (scope : Scope) (env : Env) (x : Str) :
  (relabel scope env).names.lookup x=(scope.names.lookup x).map fun k=>if (k == NameKind.free && env.scope.kind == .function && env.kindOf x == some .cell)=true then .cell else k:=by
 have e:(relabel scope env).names=scope.names.map fun p=>(p.1,(fun (n:Str) k=>if (k == NameKind.free && env.scope.kind == .function && env.kindOf n == some .cell)=true then NameKind.cell else k) p.1 p.2):=by
  show scope.names.map _=_
  congr 1
  funext p
  obtain⟨n,k⟩:=p
  dsimp only
  split<;>rfl
 rw[e]
 exact Qd1 (fun (n:Str) k=>if (k == NameKind.free && env.scope.kind == .function && env.kindOf n == some .cell)=true then NameKind.cell else k) x scope.names
theorem Qd3 {M : Model} {A : Around} {E : Value -> Shared -> Prop} {s : Shared} {scope : Scope} {globals : Addr} {cl : List (Str × Addr)} {qual : Str} {env : Env} {Q : Env -> Shared -> Prop}
  (h:Q { scope:=scope,locals:=s.heap.objs.size,globals:=globals,cells:=cellsFrom (s.heap.objs.size + 1) scope.names cl,qual:=qual,func:=none,code:=env.code,frame:=env.frame,builtins:=env.builtins }
   { s with heap:=pushCells (s.heap.push { cls:=.type "dict",data:=.dict #[] }) scope.names }):wpAny M A (newFunctionEnv scope globals cl [] qual none .none (some env)) Q E s:=by
 simp only[newFunctionEnv,Option.isSome_some,if_true]
 refine wpAny_bind (wpAny_alloc ?_)
 refine wpAny_bind (wpAny_layCells _ (fun name kind cells=>by cases hkc:kind == NameKind.cell<;>simp[hkc]) _ _ _ _ ?_)
 rw[show ({ s with heap:=s.heap.push { cls:=.type "dict",data:=.dict #[] } }:Shared).heap.objs.size=s.heap.objs.size + 1 from Heap.size_push ..]
 exact wpAny_bind (wpAny_pure (wpAny_pure h))
def cxC (X:Cx) (N:List Str) (scope:Scope) (fp:List Addr) (s:Shared) (H:Hp):Cx where
 prog:=X.prog
 w:=X.w
 K:=X.K
 mg:=X.mg
 base:=X.base
 A:=X.A
 N:=N
 s₀:=s
 H₀:=H
 env:=compEnvC scope (cellsFrom (s.heap.objs.size + 1) scope.names (clOf scope.names X.env.cells [])) s.heap.objs.size X.env
 outer:=X.stack
 stack:=X.stack
 ex:=fp
 fn:=fun x=>decide (scope.names.lookup x=some .local\/scope.names.lookup x=some .cell)
 calm:=X.calm
 pn:=[]
 xe:=NoE
structure CompScope (X:Cx) (scope:Scope):Prop where
 kind:scope.kind=.function
 names:∀ x∈scope.names,x.2=.local->scope.names.lookup x.1=some .local
 free:∀ x,(x,NameKind.free)∈scope.names->X.env.kindOf x=some .cell\/X.env.kindOf x=some .free
 once:∀ x,(x,NameKind.free)∈scope.names->(x,NameKind.cell)∉scope.names
 own:∀ x,(x,NameKind.free)∈scope.names->scope.names.lookup x≠some .local
def capV (n:Nat) (ix:List Nat) (σ:St):St:=List.replicate n none++ix.map fun i=>(σ[i]?).join
structure CompNames (X:Cx) (scope:Scope) (N:List Str) (n:Nat) (ix:List Nat):Prop where
 len:N.length=n + ix.length
 cap:∀ (j i:Nat) (x:Str),ix[j]?=some i->N[n + j]?=some x->X.N[i]?=some x/\scope.names.lookup x=some .free
theorem clOf_mem {cells:List (Str × Addr)}{x:Str}{c:Addr}:∀ (names:List (Str × NameKind)) (acc:List (Str × Addr)),(clOf names cells acc).lookup x=some c->(x,NameKind.free)∈names\/acc.lookup x=some c
 | [],acc,h=>.inr h
 | (n,k)::r,acc,h=>by
  unfold clOf at h
  rcases clOf_mem r _ h with q | q
  ·exact .inl (List.mem_cons_of_mem _ q)
  ·split at q
   ·rename_i hk
    have e:k=.free:=by simpa using hk
    subst e
    split at q
    ·by_cases hx:x=n
     ·subst hx;exact .inl List.mem_cons_self
     ·rw[QdX hx]at q;exact .inr q
    ·exact .inr q
   ·exact .inr q
theorem Qd4 {X:Cx}{scope:Scope}{cells:List (Str × Addr)}{x:Str}{c:Addr} (h:(clOf scope.names cells []).lookup x=some c) (hf:scope.names.lookup x=some .local\/scope.names.lookup x=some .cell) (S:CompScope X scope):False:=by
 rcases clOf_mem _ _ h with q | q
 ·rcases hf with z | z
  ·exact S.own x q z
  ·exact S.once x q (PySem.mem_of_lookup z)
 ·cases q
section
variable {X:Cx}{pins:List (Addr × Obj)}{σ:St}{H:Hp}{s:Shared}{scope:Scope}{N:List Str}{fp:List Addr}
theorem Qd5 (I:Inv X pins σ H s) {x:Str}{c:Addr} (h:(clOf scope.names X.env.cells []).lookup x=some c):X.env.cells.lookup x=some c/\c < s.heap.objs.size/\(∃ v,s.heap.IsCell c v)/\H c=none:=by
 rcases clOf_of _ _ h with q | q
 ·obtain⟨v,z⟩:=I.cell x c q
  exact⟨q,z.lt,⟨v,z⟩,I.freeC x c q⟩
 ·cases q
theorem Qd6 (I:Inv X pins σ H s) (S:CompScope X scope) (hfp:∀ b∈fp,FpOk X pins H b) (hlt:∀ b∈fp,b < s.heap.objs.size):(cxC X N scope fp s H).Ok:=by
 have inj:∀ x y c,(cellsFrom (s.heap.objs.size + 1) scope.names (clOf scope.names X.env.cells [])).lookup x=some c->(cellsFrom (s.heap.objs.size + 1) scope.names (clOf scope.names X.env.cells [])).lookup y=some c->x=y:=
  QdZ scope.names _ _ (fun x y c h1 h2=>I.ok.inj x y c (Qd5 I h1).1 (Qd5 I h2).1) fun x c h=>Nat.lt_succ_of_lt (Qd5 I h).2.1
 refine⟨I.ok.mod,S.kind,I.ok.glob,I.ok.blt,Nat.le_refl _,inj,fun x hx=>?_,fun x c hf hc=>?_,I.ok.hd,I.ok.frames,.inl rfl,fun b hb=>?_,I.bs,Nat.le_trans I.ok.bsz I.sz,fun b o e hb=>?_,fun b hb z=>?_,I.stack,I.stkFree⟩
 ·have hx':(relabel scope X.env).names.lookup x=some .cell\/(relabel scope X.env).names.lookup x=some .free:=hx
  rw[Qd2]at hx'
  cases e:scope.names.lookup x with
  | none=>rw[e]at hx';rcases hx' with z | z<;>cases z
  | some k=>
   refine Option.isSome_iff_exists.mp (PySem.W.cellsFrom_some scope.names _ _ ?_)
   cases k with
   | cell=>exact .inl e
   | free=>
    have hm:=PySem.mem_of_lookup e
    obtain⟨c,hc⟩:=I.ok.has x (S.free x hm)
    exact .inr (by rw[QdY hc scope.names [] (.inl hm) fun d hd=>by cases hd];rfl)
   | _=>
    rw[e]at hx'
    rcases hx' with z | z<;>(simp at z)
 ·have hc':(cellsFrom (s.heap.objs.size + 1) scope.names (clOf scope.names X.env.cells [])).lookup x=some c:=hc
  rcases cellsFrom_of _ _ _ hc' with q | q
  ·exact Nat.le_of_succ_le q
  ·exfalso
   have hf':scope.names.lookup x=some .local\/scope.names.lookup x=some .cell:=of_decide_eq_true hf
   exact Qd4 q hf' S
 ·obtain⟨f0,f1,f2,f3,f4,f5⟩:=hfp b hb
  refine⟨Nat.ne_of_lt (hlt b hb),fun x c hc z=>?_⟩
  have hc':(cellsFrom (s.heap.objs.size + 1) scope.names (clOf scope.names X.env.cells [])).lookup x=some c:=hc
  rcases cellsFrom_of _ _ _ hc' with q | q
  ·rw[z]at q
   exact absurd (Nat.lt_of_lt_of_le (Nat.lt_succ_of_lt (hlt b hb)) q) (Nat.lt_irrefl _)
  ·exact f4 x c (Qd5 I q).1 z
 ·obtain⟨f0,f1,f2,f3,f4,f5⟩:=hfp b hb
  rcases f3 with z | z
  ·exact I.ok.noex b o e z
  ·exact absurd (Nat.lt_of_lt_of_le (Nat.lt_of_lt_of_le (Heap.lt_size e) I.ok.bsz) z) (Nat.lt_irrefl _)
 ·obtain⟨f0,f1,f2,f3,f4,f5⟩:=hfp b hb
  rcases List.mem_cons.mp (I.stkSub b z) with q | q
  ·exact f1 q
  ·exact f2 q
abbrev heapC (h:Heap) (scope:Scope):Heap:=pushCells (h.push { cls:=.type "dict",data:=.dict #[] }) scope.names
theorem Qd7 (h:Heap) (scope:Scope):∀ b o,h.get? b=some o->(heapC h scope).get? b=some o:=fun b o e=>pushCells_keeps _ _ b o (Heap.get?_push_of_some _ e)
theorem Qd8 {n : Nat} {ix : List Nat} (I : Inv X pins σ H s) (S : CompScope X scope) (T : CompNames X scope N n ix) (hfp : ∀ b ∈ fp, FpOk X pins H b) (hlt : ∀ b ∈ fp, b < s.heap.objs.size) :
  Inv (cxC X N scope fp s H) [] (capV n ix σ) H { s with heap:=heapC s.heap scope }:=by
 have kp:=Qd7 s.heap scope
 have hns:(heapC s.heap scope).Ns s.heap.objs.size fun _=>none:=(Heap.Ns.new s.heap (.type "dict")).keeps (pushCells_keeps _ _)
 have cells : ∀ x c, (cellsFrom (s.heap.objs.size + 1) scope.names (clOf scope.names X.env.cells [])).lookup x = some c ->
   (∃ v,(heapC s.heap scope).IsCell c v)/\H c=none:=fun x c h=>by
  have h':(cellsFrom (s.heap.push { cls:=.type "dict",data:=.dict #[] }).objs.size scope.names (clOf scope.names X.env.cells [])).lookup x=some c:=by rw[Heap.size_push];exact h
  rcases cellsFrom_cell _ _ _ h' with q | ⟨q,z⟩
  ·obtain⟨_,_,⟨v,hv⟩,hn⟩:=Qd5 I q
   exact⟨⟨v,hv.keeps kp⟩,hn⟩
  ·refine⟨⟨none,q⟩,I.hok.fresh ?_⟩
   rw[Heap.size_push]at z
   ac_nf
 refine⟨Qd6 I S hfp hlt,rfl,I.bare,Un.kept kp,⟨_,hns,fun i x v h1 h2 h3=>?_⟩,fun x c h=>(cells x c h).1,I.hok.fresh (Nat.le_refl _),fun x c h=>(cells x c h).2,fun p hp=>absurd (show p∈([]:List (Addr × Obj)) from hp) (by simp),I.hok.kept kp,?_⟩
 ·have h1':N[i]?=some x:=h1
  have h2':(List.replicate n none++ix.map fun i=>(σ[i]?).join)[i]?=some (some v):=h2
  have hi:n<=i:=Nat.le_of_not_lt fun z=>by
   rw[List.getElem?_append_left (by simpa using z),List.getElem?_replicate]at h2'
   split at h2'<;>cases h2'
  rw[List.getElem?_append_right (by simpa using hi),List.length_replicate,List.getElem?_map]at h2'
  cases e:ix[i - n]? with
  | none=>rw[e]at h2';cases h2'
  | some k=>
   rw[e]at h2'
   have hj:(σ[k]?).join=some v:=Option.some.inj h2'
   have hk:σ[k]?=some (some v):=by
    cases q:σ[k]? with
    | none=>rw[q]at hj;cases hj
    | some o=>rw[q]at hj;exact congrArg some hj
   obtain⟨hN,hfr⟩:=T.cap (i - n) k x e (by rw[show n + (i - n)=i by ac_nf];exact h1')
   have hm:=PySem.mem_of_lookup hfr
   have kx:=S.free x hm
   obtain⟨m,hn,hl⟩:=I.loc
   obtain⟨u,ru,lk⟩:=hl k x v hN hk (by
    rcases kx with z | z
    ·exact .inr (.inl z)
    ·exact .inr (.inr z))
   have lk2:∃ c,X.env.cells.lookup x=some c/\s.heap.IsCell c (some u):=by
    rcases lk with ⟨z,_⟩ | ⟨_,c,hc,q⟩
    ·rcases kx with y | y<;>(rw[y]at z;cases z)
    ·exact⟨c,hc,q⟩
   obtain⟨c,hc,q⟩:=lk2
   refine⟨u,ru,.inr ⟨?_,c,?_,q.keeps kp⟩⟩
   ·show (relabel scope X.env).names.lookup x=some .cell\/(relabel scope X.env).names.lookup x=some .free
    rw[Qd2,hfr,Option.map_some]
    by_cases hq:(NameKind.free == NameKind.free && X.env.scope.kind == .function && X.env.kindOf x == some .cell)=true
    ·rw[if_pos hq];exact .inl rfl
    ·rw[if_neg hq];exact .inr rfl
   ·show (cellsFrom (s.heap.objs.size + 1) scope.names (clOf scope.names X.env.cells [])).lookup x=some c
    rw[Qd0 _ _ _ (S.once x hm)]
    exact QdY hc scope.names [] (.inl hm) fun d hd=>by cases hd
 ·show (List.replicate n none++ix.map fun i=>(σ[i]?).join).length=N.length
  rw[List.length_append,List.length_replicate,List.length_map,T.len]
def tComp (wi:TI) (n:Nat) (ix:List Nat) (g:TG) (tt:TT) (te:TE):TE:=fun σ H Q=>wi σ H fun J H1=>∀ l,H1 l=none->∃ W:Nat->Nat->St->Hp->Prop,(∃ m,W 0 m (capV n ix σ) (upd H1 l (.lst []))) /\
 ∀ i m σ' H',W i m σ' H'->(J.stop i H'/\Q (.ref l) H')\/(J.go i H'/\∀ x H2,J.yld i H' x H2->g x σ' H2 fun σ2 H3=>tt σ2 H3 fun b H4=>
  if b=true then te σ2 H4 fun v H5=>∃ ys,H5 l=some (.lst ys)/\ys.length < sizeLine/\∃ m',m' < m/\W (i + 1) m' σ2 (upd H5 l (.lst (ys++[v]))) else ∃ m',m' < m/\W (i + 1) m' σ2 H4)
def PIfs (X:Cx) (ifs:List Expr) (tt:TT):Prop:=
 ∀ (pins:List (Addr × Obj)) (s:Shared) (σ:St) (H:Hp) (Q:Bool->Hp->Prop),Inv X pins σ H s->tt σ H Q->wpAny (model X.prog X.w) X.A (tests ifs X.env) (TP X pins σ Q) X.xe s
theorem Qd9:PIfs X [] (fun _ H Q=>Q true H):=fun pins s σ H Q I h=>wpAny_tests_nil ⟨H,I,h⟩
theorem Qea {c:Expr}{tt:TT} (h:PT X c tt):PIfs X [c] tt:=fun pins s σ H Q I q=>wpAny_tests_one (h pins s σ H Q I q)
structure CFree (X:Cx) (pins:List (Addr × Obj)) (C:Addr) (H:Hp) (s:Shared):Prop where
 ns:∃ m,s.heap.Ns C m
 free:H C=none
 loc:C≠X.env.locals
 cell:∀ x c,X.env.cells.lookup x=some c->c≠C
 sz:X.s₀.heap.objs.size<=C
 pin:∀ p∈X.pn++pins,p.1≠C
theorem CFree.go {C:Addr}{h':Heap} (c:CFree X pins C H s) (I:Inv X pins σ H s) (hs:Heap.SameBut C s.heap h'):Inv X pins σ H { s with heap:=h' }:=
 I.turned (t':=s.toks) (fun b o hb e=>(hs.2 b hb).trans e) c.free c.loc (.inr c.sz) c.cell c.pin
theorem Qeb {elt target iter : Expr} {ifs : List Expr} {pos : Pos} {n : Nat} {ix : List Nat} {wi : TI} {g : TG} {tt : TT} {te : TE} {use : Option (Value -> Sem Unit)} {Q : Value -> Shared -> Prop} {QH : VK}
  (hc:X.calm=true) (S:CompScope X scope) (T:CompNames X scope N n ix) (hi:PI X target iter wi)
  (blk:∀ (fp:List Addr) (s:Shared) (H:Hp),PG (cxC X N scope fp s H) target g/\PIfs (cxC X N scope fp s H) ifs tt/\PE (cxC X N scope fp s H) elt te)
  (hs:∀ x,foldedSetIterable iter X.env x=pure x) (I:Inv X pins σ H s) (h:tComp wi n ix g tt te σ H QH)
  (fin:∀ (l C:Addr) (H':Hp) (s':Shared),Inv X pins σ H' s'->QH (.ref l) H'->CFree X pins C H' s'->compPost (model X.prog X.w) X.A X.xe use Q (.ref l) C (.ok .next) s'):
  wpAny (model X.prog X.w) X.A (comprehension (.ListComp elt [⟨target,iter,ifs,0⟩] scope pos) scope X.env (firstIterPos [⟨target,iter,ifs,0⟩] pos) (newList []) false (eval iter X.env) use) Q X.xe s:=by
 have hclos:closureFor scope X.env=pure (clOf scope.names X.env.cells []):=QdW fun x hx=>I.ok.has x (S.free x hx)
 refine wpAny_comprehension_free rfl hs hclos S.kind S.names ?_
 refine thn (hi pins s σ H _ I h) fun v s1 h1=>thn h1 fun itv s2 h2=>?_
 obtain⟨it,fp,tn,J,H2,rfl,I2,TT,st2,f2,rest⟩:=h2
 refine wpAny_newObj_type (hd:=by size_fits) ?_
 have hf2:H2 s2.heap.objs.size=none:=I2.hok.fresh (Nat.le_refl _)
 obtain⟨W,⟨m0,w0⟩,turn⟩:=rest _ hf2
 have fl:∀ b∈fp,b < s2.heap.objs.size:=fun b hb=>by
  obtain⟨o,e,_⟩:=TT.obj _ _ st2 b hb
  exact Heap.lt_size e
 have f3:∀ b∈fp,FpOk X pins (upd H2 s2.heap.objs.size (.lst [])) b:=fun b hb=>by
  obtain⟨f0,fr⟩:=f2 b hb
  refine⟨?_,fr⟩
  rw[Qaj (Nat.ne_of_lt (fl b hb))]
  exact f0
 have I3:Inv X pins σ (upd H2 s2.heap.objs.size (.lst [])) { s2 with heap:=s2.heap.push { cls:=.type "list",dict:=none,data:=.seq ([]:List Value).toArray } }:=
  I2.laid (t':=s2.toks) (fun b o e=>Heap.get?_push_of_some _ e) (Nat.le_refl _) ⟨Nat.zero_le _,[],0,.nil,Heap.get?_push_size _ rfl⟩
 have tn3:tn 0 (s2.heap.push { cls:=.type "list",dict:=none,data:=.seq ([]:List Value).toArray }):=TT.keep _ _ _ st2 fun b hb o e=>Heap.get?_push_of_some _ e
 have fl3:∀ b∈fp,b < (s2.heap.push { cls:=.type "list",dict:=none,data:=.seq ([]:List Value).toArray }).objs.size:=fun b hb=>by
  rw[Heap.size_push];exact Nat.lt_succ_of_lt (fl b hb)
 generalize s2.heap.objs.size=l at *
 generalize hs3:({ s2 with heap:=s2.heap.push { cls:=.type "list",dict:=none,data:=.seq ([]:List Value).toArray } }:Shared)=s3 at *
 have e3:s2.heap.push { cls:=.type "list",dict:=none,data:=.seq ([]:List Value).toArray }=s3.heap:=by rw[<- hs3]
 rw[e3]at tn3 fl3
 generalize upd H2 l (.lst [])=H3 at *
 refine Qd3 ?_
 have I4:=Qd8 (N:=N) (n:=n) (ix:=ix) I3 S T f3 fl3
 obtain⟨bg,bt,be⟩:=blk fp s3 H3
 have tn4:tn 0 (heapC s3.heap scope):=TT.keep _ _ _ tn3 fun b hb o e=>Qd7 _ _ _ _ e
 have fr4:∀ b∈fp,H3 b=none:=fun b hb=>(f3 b hb).1
 show codeAny (model X.prog X.w) X.A (.compStart (.ListComp elt [⟨target,iter,ifs,0⟩] scope pos) 0 (.ref it) (.ref l) (cxC X N scope fp s3 H3).env) (compPost (model X.prog X.w) X.A X.xe use Q (.ref l) s3.heap.objs.size) { s3 with heap:=heapC s3.heap scope }
 have fpx:∀ {σ':St}{H':Hp}{s':Shared},Inv (cxC X N scope fp s3 H3) [] σ' H' s'->(∀ b∈fp,H' b=none)->∀ b∈fp,FpOk (cxC X N scope fp s3 H3) [] H' b:=fun I' hn b hb=>by
  have q:=I'.ok.exf b hb
  exact⟨hn b hb,q.1,I'.ok.exfs b hb,.inl hb,q.2,fun p hp=>absurd (show p∈([]:List (Addr × Obj)) from hp) (by simp)⟩
 have hc':(cxC X N scope fp s3 H3).calm=true:=hc
 have loop:codeAny (model X.prog X.w) X.A (.compLoop (.ListComp elt [⟨target,iter,ifs,0⟩] scope pos) 0 (.ref it) (.ref l) (cxC X N scope fp s3 H3).env) (compPost (model X.prog X.w) X.A X.xe use Q (.ref l) s3.heap.objs.size) { s3 with heap:=heapC s3.heap scope }:=by
  refine QdU (fun k s'=>∃ i σ' H',Inv (cxC X N scope fp s3 H3) [] σ' H' s'/\tn i s'.heap/\(∀ b∈fp,H' b=none)/\W i k σ' H') ?_ m0 ⟨0,_,H3,I4,tn4,fr4,w0⟩
  rintro k s5 ⟨i,σ5,H5,I5,tn5,fr5,w5⟩
  rcases turn i k σ5 H5 w5 with ⟨stop,q⟩ | ⟨go,step⟩
  ·refine thn (TT.done (cxC X N scope fp s3 H3) rfl rfl rfl hc' i [] s5 σ5 H5 NoE I5 (fpx I5 fr5) tn5 stop) fun r s6 pq52=>?_
   obtain⟨hr,I6⟩:=pq52
   subst hr
   have J6:Inv X pins σ H5 s6:=I3.call' I6.os I6.base I6.hok I6.bare fun b hb=>by
    obtain⟨g0,g1,g2,g3,g4,g5⟩:=f3 b hb
    exact⟨g3,g1,g4,g5⟩
   obtain⟨m,hn,_⟩:=I6.loc
   refine fin l s3.heap.objs.size H5 s6 J6 q ⟨⟨m,hn⟩,I6.free,Nat.ne_of_gt I3.lt,fun x c e=>?_,I3.sz,fun p hp=>?_⟩
   ·obtain⟨v,z⟩:=I3.cell x c e
    exact Nat.ne_of_lt z.lt
   ·exact Nat.ne_of_lt (Heap.lt_size (I3.pin p hp).1)
  ·refine thn (TT.item (cxC X N scope fp s3 H3) rfl rfl rfl hc' i [] s5 σ5 H5 NoE I5 (fpx I5 fr5) tn5 go) fun r s6 pq53=>?_
   obtain⟨u,hr,h6⟩:=pq53
   subst hr
   refine thn h6 fun _ s7 pq54=>?_
   obtain⟨x,H7,I7,r7,y7,tn7,fr7⟩:=pq54
   have I7':=I7.pinned (fpx I7 fr7) (TT.obj _ _ tn7)
   refine thn (bg _ s7 σ5 H7 x u _ I7' r7 (step x H7 y7)) fun _ s8 pq55=>?_
   obtain⟨σ8,H8,I8,q8⟩:=pq55
   refine thn (bt _ s8 σ8 H8 _ I8 q8) fun ok s9 pq56=>?_
   obtain⟨H9,I9,q9⟩:=pq56
   have again : ∀ {s' : Shared} {H' : Hp}, Inv (cxC X N scope fp s3 H3) ([] ++ pinsAt fp s7.heap) σ8 H' s' -> (∃ m', m' < k /\ W (i + 1) m' σ8 H') ->
     ∃ m,m < k/\∃ i σ' H',Inv (cxC X N scope fp s3 H3) [] σ' H' s'/\tn i s'.heap/\(∀ b∈fp,H' b=none)/\W i m σ' H':=fun {s' H'} I' pq57=>by
    obtain⟨m',hm,w'⟩:=pq57
    refine⟨m',hm,i + 1,σ8,H',I'.unpinned,TT.keep _ _ _ tn7 fun b hb o e=>(I'.pin (b,o) (List.mem_append_right _ (List.mem_append_right _ (Qa4 hb e)))).1,fun b hb=>?_,w'⟩
    obtain⟨o,e,d⟩:=TT.obj _ _ tn7 b hb
    exact (I'.pin (b,o) (List.mem_append_right _ (List.mem_append_right _ (Qa4 hb e)))).2.1
   cases ok with
   | false=>exact again I9 q9
   | true=>
    refine thn (be _ s9 σ8 H9 _ I9 q9) fun xv s10 pq58=>?_
    obtain⟨v,H10,I10,r10,ys,hy,hz,q10⟩:=pq58
    refine thn (Qcy (X:=cxC X N scope fp s3 H3) _ s10 σ8 H10 (.ref l) [v] (.ref l) [xv] (fun _ H'=>H'=upd H10 l (.lst (ys++[v]))) I10 rfl (.cons r10 .nil) ⟨l,ys,v,rfl,rfl,hy,hz,rfl⟩) fun _ s11 pq59=>?_
    obtain⟨_,H11,I11,_,e⟩:=pq59
    subst e
    exact again I11 q10
 exact codeAny_compStart_list loop (TT.self _ 0 _ _ _ tn4 loop)
theorem Qec {elt target iter : Expr} {ifs : List Expr} {pos : Pos} {n : Nat} {ix : List Nat} {wi : TI} {g : TG} {tt : TT} {te : TE}
  (hc:X.calm=true) (S:CompScope X scope) (T:CompNames X scope N n ix) (hi:PI X target iter wi)
  (blk:∀ (fp:List Addr) (s:Shared) (H:Hp),PG (cxC X N scope fp s H) target g/\PIfs (cxC X N scope fp s H) ifs tt/\PE (cxC X N scope fp s H) elt te)
  (hs:∀ x,foldedSetIterable iter X.env x=pure x:=by intro _;rfl):PE X (.ListComp elt [⟨target,iter,ifs,0⟩] scope pos) (tComp wi n ix g tt te):=by
 intro pins s σ H Q I h
 rw[eval_ListComp]
 refine Qeb (use:=none) hc S T hi blk hs I h fun l C H' s' I' q c=>?_
 obtain⟨m,hn⟩:=c.ns
 exact⟨m,hn,fun h' hs'=>⟨.ref l,H',c.go I' hs',rfl,q⟩⟩
theorem Qed {elt target iter : Expr} {ifs : List Expr} {pos pos' spos : Pos} {n i : Nat} {ix : List Nat} {wi : TI} {g : TG} {tt : TT} {te : TE} {x : Str}
  (hN:X.N.Nodup) (hi':X.N[i]?=some x) (hx:L2.Loc X.env.scope x) (hf:X.fn x=true\/X.env.scope.names.lookup x=some .local)
  (hc:X.calm=true) (S:CompScope X scope) (T:CompNames X scope N n ix) (hi:PI X target iter wi)
  (blk:∀ (fp:List Addr) (s:Shared) (H:Hp),PG (cxC X N scope fp s H) target g/\PIfs (cxC X N scope fp s H) ifs tt/\PE (cxC X N scope fp s H) elt te)
  (hsw:swapsWith (.ListComp elt [⟨target,iter,ifs,0⟩] scope pos) (some (.Name x pos')) spos.line X.env=pure true)
  (hs:∀ x,foldedSetIterable iter X.env x=pure x:=by intro _;rfl):PS X (.Assign [.Name x pos'] (.ListComp elt [⟨target,iter,ifs,0⟩] scope pos) spos) (tAsg (tComp wi n ix g tt te) (gName i)):=by
 intro pins s σ H D I h
 rw[exec_Assign_Name_used _ _ _ _ hsw]
 refine wpAny_bind (wpAny_standAt (wpAny_bind ?_))
 show wpAny _ _ (comprehension (.ListComp elt [⟨target,iter,ifs,0⟩] scope pos) scope X.env _ (newList []) false (eval iter X.env) (some (assign (.Name x pos') X.env)) >>= fun _=>pure ()) _ _ s
 refine wpAny_bind (wpAny_mono (Qeb (use:=some (assign (.Name x pos') X.env)) (Q:=fun _ s'=>SP X pins D .next s') hc S T hi blk hs I h fun l C H' s' I' q c=>?_) (fun _ s' hq=>wpAny_pure (wpAny_pure hq)) fun _ _ e=>e)
 obtain⟨m,hn⟩:=c.ns
 refine wpAny_assign_Name (Qat I' hN hi' hx (v:=.ref l) rfl (fun s2 I2 ⟨b,hb,hb2⟩=>?_) hf)
 have hbC:b≠C:=by
  rcases hb2 with z | z
  ·rw[z];exact c.loc.symm
  ·exact c.cell x b z
 refine⟨m,hn.sameBut hb hbC.symm,fun h' hs'=>⟨_,H',?_,q⟩⟩
 exact CFree.go ⟨⟨m,hn.sameBut hb hbC.symm⟩,c.free,c.loc,c.cell,c.sz,c.pin⟩ I2 hs'
end
section
variable {X:Cx}{a b c e:Expr}{es:List Expr}{pos:Pos}{fa fb fc:CE}{ca cb:CA}{K:PySem.W.Frag}{ρ:List Addr}{H:Hp}{st:Sto}
theorem Qee {K : PySem.W.Frag} {g : D -> D -> M D} {x y : V} {H : Hp} {Q : VK} (hg : ∀ d e, (∃ i j, d = D.int i /\ e = D.int j) \/ g d e = bad) (h : rOf K g x y H Q) :
  ∃ (i j:Int) (ρ:List Addr) (st:Sto),x=.int i/\y=.int j/\SR K ρ H st/\Post K ρ H (g (.int i) (.int j) st) (fun r _ ρ' H'=>∀ v,Rep K ρ' H' v r->Q v H'):=by
 obtain⟨ρ,st,d,e,sr,rx,ry,p⟩:=h
 rcases hg d e with ⟨i,j,e1,e2⟩ | hb
 ·subst e1 e2;cases rx;cases ry;exact⟨_,_,ρ,st,rfl,rfl,sr,p⟩
 ·rw[hb]at p;exact p.elim
theorem Qef:OpR X (binaryOp .Sub) (rOf X.K subD):=Qba.of fun x y H Q h=>by
 obtain⟨i,j,ρ,st,rfl,rfl,sr,p⟩:=Qee (by intro d e;cases d<;>cases e<;>first | exact .inl ⟨_,_,rfl,rfl⟩ | exact .inr rfl) h
 exact⟨_,_,rfl,rfl,p.ret sr _ (.int _)⟩
theorem Qeg:OpR X (binaryOp .Mult) (rOf X.K mulD):=Qbb.of fun x y H Q h=>by
 obtain⟨i,j,ρ,st,rfl,rfl,sr,p⟩:=Qee (by intro d e;cases d<;>cases e<;>first | exact .inl ⟨_,_,rfl,rfl⟩ | exact .inr rfl) h
 exact⟨_,_,rfl,rfl,p.chk.1,p.chk.2.ret sr _ (.int _)⟩
theorem Qeh:OpR X (binaryOp .FloorDiv) (rOf X.K fdivD):=Qbc.of fun x y H Q h=>by
 obtain⟨i,j,ρ,st,rfl,rfl,sr,p⟩:=Qee (by intro d e;cases d<;>cases e<;>first | exact .inl ⟨_,_,rfl,rfl⟩ | exact .inr rfl) h
 exact⟨_,_,rfl,rfl,p.chk.1,p.chk.2.ret sr _ (.int _)⟩
theorem Qei:OpR X (binaryOp .Mod) (rOf X.K modD):=Qbd.of fun x y H Q h=>by
 obtain⟨i,j,ρ,st,rfl,rfl,sr,p⟩:=Qee (by intro d e;cases d<;>cases e<;>first | exact .inl ⟨_,_,rfl,rfl⟩ | exact .inr rfl) h
 exact⟨_,_,rfl,rfl,p.chk.1,p.chk.2.ret sr _ (.int _)⟩
theorem Qej:OpR X (binaryOp .Pow) (rOf X.K powD):=Qbe.of fun x y H Q h=>by
 obtain⟨i,j,ρ,st,rfl,rfl,sr,p⟩:=Qee (by intro d e;cases d<;>cases e<;>first | exact .inl ⟨_,_,rfl,rfl⟩ | exact .inr rfl) h
 exact⟨_,_,rfl,rfl,p.chk.1,p.chk.2.ret sr _ (.int _)⟩
theorem Qek:OpR X (compareOp .Lt) (rOf X.K ltD):=Qbg.of fun x y H Q h=>by
 obtain⟨i,j,ρ,st,rfl,rfl,sr,p⟩:=Qee (by intro d e;cases d<;>cases e<;>first | exact .inl ⟨_,_,rfl,rfl⟩ | exact .inr rfl) h
 exact⟨_,_,rfl,rfl,p.ret sr _ (.bl _)⟩
theorem Qel:OpR X (compareOp .LtE) (rOf X.K leD):=Qbh.of fun x y H Q h=>by
 obtain⟨i,j,ρ,st,rfl,rfl,sr,p⟩:=Qee (by intro d e;cases d<;>cases e<;>first | exact .inl ⟨_,_,rfl,rfl⟩ | exact .inr rfl) h
 exact⟨_,_,rfl,rfl,p.ret sr _ (.bl _)⟩
theorem Qem:OpR X (compareOp .Gt) (rOf X.K gtD):=Qbi.of fun x y H Q h=>by
 obtain⟨i,j,ρ,st,rfl,rfl,sr,p⟩:=Qee (by intro d e;cases d<;>cases e<;>first | exact .inl ⟨_,_,rfl,rfl⟩ | exact .inr rfl) h
 exact⟨_,_,rfl,rfl,p.ret sr _ (.bl _)⟩
theorem Qen:OpR X (compareOp .GtE) (rOf X.K geD):=Qbj.of fun x y H Q h=>by
 obtain⟨i,j,ρ,st,rfl,rfl,sr,p⟩:=Qee (by intro d e;cases d<;>cases e<;>first | exact .inl ⟨_,_,rfl,rfl⟩ | exact .inr rfl) h
 exact⟨_,_,rfl,rfl,p.ret sr _ (.bl _)⟩
theorem Qeo:SA X [] cNil:=QbD.of fun σ H Q h_=>h_.el fun ρ l st lr sr p=>p.ret sr [] .nil
theorem Qep (ha:SE X e fa) (hr:SA X es ca) (hs:starEach (e::es) X.env=(false,eval e X.env)::starEach es X.env:=by rfl):SA X (e::es) (cCons fa ca):=
 (QbE ha hr hs).of fun σ H Q h_=>h_.el fun ρ l st lr sr p=>⟨ρ,l,st,lr,sr,p.bnd.imp fun d st1 ρ1 H1 x1 s1 p1 v rv=>⟨ρ1,l,st1,lr.mono x1,s1,p1.bnd.imp fun ds st2 ρ2 H2 x2 s2 p2 vs rvs=>p2.ret s2 _ (.cons (rv.mono x2) rvs)⟩⟩
theorem Qeq {k:Nat} (h:SA X es ca):SE X (.Tuple es k pos) (cTup ca):=(QbF h).of fun σ H Q h_=>h_.el fun ρ l st lr sr p=>⟨ρ,l,st,lr,sr,p.bnd.imp fun ds st1 ρ1 H1 x1 s1 p1 vs rvs=>by
 obtain⟨hl,p2⟩:=p1.chk
 refine⟨by rw[rvs.length];exact hl,fun q hq=>?_⟩
 exact p2 ρ1 _ (Ex.new hq) (s1.new hq) _ (.tup (SqT.of Qai) (rvs.mono (Ex.new hq)))⟩
theorem Qer (h:SA X es ca):SL X (.List es pos) (aDisp ca):=(QbG h).of fun σ H Q h_=>h_.el fun ρ l st lr sr p=>⟨ρ,l,st,lr,sr,p.bnd.imp fun ds st1 ρ1 H1 x1 s1 p1 vs rvs=>by
 obtain⟨hl,p2⟩:=p1.chk
 refine⟨by rw[rvs.length];exact hl,fun q hq=>?_⟩
 have hn:H q=none:=by
  cases z:H q with
  | none=>rfl
  | some o=>exact absurd hq (x1.trk q o z)
 exact p2 ρ1 _ (Ex.new hq) (s1.new hq) q vs hn (s1.fresh hq) Qai (rvs.mono (Ex.new hq))⟩
theorem Post.bnd0 {α β:Type}{m:M α}{f:α->M β}{R:β->Sto->List Addr->Hp->Prop} (h:Post K ρ H (MM.bnd m f st) R):Post K ρ H (m st) fun a st' _ _=>Post K ρ H (f a st') R:=by
 unfold MM.bnd at h
 cases e:m st with
 | ok a s'=>
  rw[e]at h
  exact fun ρ' H' y s=>h
 | exc _ _=>rw[e]at h;exact h
 | bad=>rw[e]at h;exact h
theorem Qes (h:SL X e ca):SE X e (cKeep ca):=h.of fun σ H Q h_=>h_.el fun ρ l st lr sr p=>⟨ρ,l,st,lr,sr,p.bnd0.imp fun ds st1 ρ1 H1 x1 s1 p1 a vs ha na hv rvs=>by
 have x:Ex ρ H (ρ1++[a]) H1:=by
  obtain⟨τ,e,f⟩:=x1.pre
  refine⟨⟨τ++[a],by rw[e,List.append_assoc],fun b hb=>?_⟩,x1.fix,x1.oth,x1.knd⟩
  rcases List.mem_append.mp hb with hb | hb
  ·exact f b hb
  ·rw[List.mem_singleton]at hb;rw[hb];exact ha
 refine p1 (ρ1++[a]) H1 x (s1.keep hv na rvs) _ (.ref ⟨_,hv,rfl⟩ ?_)
 rw[<- s1.len];simp⟩
theorem _root_.L2.IxR.of {r r':R2} (h:IxR X r) (g:∀ x y H Q,r' x y H Q->r x y H Q):IxR X r':=fun value slice pins s σ H x y v u Q I rx ry q hs=>h value slice pins s σ H x y v u Q I rx ry (g x y H Q q) hs
theorem Post.item {ds:List D}{i:Int}{R:D->Sto->List Addr->Hp->Prop} (h:Post K ρ H (itemD ds i st) R) (s:SR K ρ H st):∃ k d,L2.ixN ds.length i=some k/\ds[k]?=some d/\R d st ρ H:=by
 unfold itemD at h
 cases e:MM.ixN ds.length i with
 | none=>rw[e]at h;exact h.elim
 | some k=>
  rw[e]at h
  cases e2:ds[k]? with
  | none=>dsimp only at h;rw[e2]at h;exact h.elim
  | some d=>dsimp only at h;rw[e2]at h;exact⟨k,d,e,e2,h.ret s⟩
theorem Qet {vs:List V}{ds:List D}{i:Int}{k:Nat}{d:D} (r:Reps K ρ H vs ds) (h1:L2.ixN ds.length i=some k) (h2:ds[k]?=some d):∃ v,atI vs i=some v/\Rep K ρ H v d:=by
 obtain⟨v,e,rv⟩:=r.get h2
 refine⟨v,?_,rv⟩
 unfold atI
 rw[r.length,h1]
 exact e
theorem Post.itemK {n:Nat}{k:D}{R:D->Sto->List Addr->Hp->Prop} (h:Post K ρ H (MM.itemK n k st) R) (s:SR K ρ H st):∃ b kvs d,st[n]?=some (.dct b kvs)/\kOk b k=true/\lkK kvs k=some d/\R d st ρ H:=by
 obtain⟨b,kvs,e,p1⟩:=Post.getDc (Post.bnd h) s
 obtain⟨hk,p2⟩:=Post.chk p1
 cases e2:lkK kvs k with
 | none=>dsimp only at p2;rw[e2]at p2;exact p2.elim
 | some d=>dsimp only at p2;rw[e2]at p2;exact⟨b,kvs,d,e,hk,e2,p2.ret s⟩
theorem ObR.dictIs {X:Cx}{pins:List (Addr × Obj)}{σ:St}{s:Shared}{a:Addr}{b:Bool}{kvs:List (D × D)} (I:Inv X pins σ H s) (g:ObR X.K ρ H a (.dct b kvs)):s.TypeIs (.ref a) "dict":=by
 cases b with
 | false=>
  obtain⟨es,e,r⟩:=g
  obtain⟨_,_,vs,_,dd⟩:=QcW I.hok e
  exact dd.typeIs
 | true=>
  obtain⟨es,e,r⟩:=g
  obtain⟨_,_,xs,_,dd,_⟩:=QdN I e r
  exact dd.typeIs
theorem Qeu (hu:X.A.units + 60 < cLine):IxR X (fun x y H Q=>∃ (ρ:List Addr) (st:Sto) (n:Nat) (a:Addr) (b:Bool) (kvs:List (D × D)) (k d:D),x=.ref a/\SR X.K ρ H st/\ρ[n]?=some a/\st[n]?=some (.dct b kvs)/\Rep X.K ρ H y k/\kOk b k=true/\lkK kvs k=some d/\∀ v,Rep X.K ρ H v d->Q v H):=by
 intro value slice pins s σ H x y v u Q I rx ry pq117 hs;obtain⟨ρ,st,n,a,b,kvs,k,d,ex,sr,ha,hn,rk,hk,hl,q⟩:=pq117
 subst ex
 cases rx
 have g:=sr.ob n a _ ha hn
 exact tail_any (ObR.dictIs I g) PySem.F.slot_dict_getitem.lookup (QdR (by ac_nf) I g rk hk hl ry fun v w' s' I' rv rw'=>⟨v,H,I',rw',q v rv⟩) hs
theorem Qev {x y:V}{d e:D}{Q:VK} (sr:SR K ρ H st) (rx:Rep K ρ H x d) (ry:Rep K ρ H y e) (hd:∀ n,d≠.dic n) (p:Post K ρ H (subsD d e st) fun r _ ρ' H'=>∀ v,Rep K ρ' H' v r->Q v H'):rIx K x y H Q:=by
 cases ry with
 | int i=>
  cases rx with
  | dic _ _=>exact absurd rfl (hd _)
  | tup h r=>
   obtain⟨k,d,h1,h2,q⟩:=Post.item p sr
   obtain⟨v,h3,rv⟩:=Qet r h1 h2
   exact .inr (.inl ⟨_,_,i,v,rfl,rfl,h,h3,q v rv⟩)
  | lit h r=>
   obtain⟨k,d,h1,h2,q⟩:=Post.item p sr
   obtain⟨v,h3,rv⟩:=Qet r h1 h2
   exact .inl ⟨_,_,i,v,rfl,rfl,h.seq,h3,q v rv⟩
  | ref _ h=>
   obtain⟨xs,e,p1⟩:=Post.getL (Post.bnd p) sr
   obtain⟨a,vs,ha,hv,r⟩:=sr.seq e
   rw[h]at ha;cases ha
   obtain⟨k,d,h1,h2,q⟩:=Post.item p1 sr
   obtain⟨v,h3,rv⟩:=Qet r h1 h2
   exact .inl ⟨_,_,i,v,rfl,rfl,SqL.of hv,h3,q v rv⟩
  | str z=>
   obtain⟨hz,p1⟩:=Post.chk p
   cases e:MM.ixN z.length i with
   | none=>rw[e]at p1;exact p1.elim
   | some k=>
    rw[e]at p1
    cases e2:z.cps.toList[k]? with
    | none=>dsimp only at p1;rw[e2]at p1;exact p1.elim
    | some c=>
     dsimp only at p1
     rw[e2]at p1
     refine .inr (.inr ⟨z,i,c,rfl,rfl,hz,?_,p1.ret sr _ (.str _)⟩)
     unfold atI
     rw[show z.cps.toList.length=z.length by simp[Str.length]]
     show (L2.ixN z.length i).bind _=_
     rw[show L2.ixN z.length i=some k from e]
     exact e2
  | _=>exact p.elim
 | _=>cases rx<;>first | exact absurd rfl (hd _) | exact p.elim
theorem ixd (hu:X.A.units + 60 < cLine):IxR X (rOf X.K subsD):=(Qce.or (Qeu hu)).of fun x y H Q pq61=>by
 obtain⟨ρ,st,d,e,sr,rx,ry,p⟩:=pq61
 by_cases hd:∃ n,d=.dic n
 ·obtain⟨n,rfl⟩:=hd
  cases rx with
  | @dic a n _ h=>
   have p':Post X.K ρ H (itemK n e st) fun r _ ρ' H'=>∀ (v:V),Rep X.K ρ' H' v r->Q v H':=by cases ry<;>exact p
   obtain⟨b,kvs,d,e1,hk,hl,q⟩:=Post.itemK p' sr
   exact .inr ⟨ρ,st,n,a,b,kvs,e,d,rfl,sr,h,e1,ry,hk,hl,q⟩
 ·exact .inl (Qev sr rx ry (fun n z=>hd ⟨n,z⟩) p)
theorem Qew (hu:X.A.units + 60 < cLine) (ha:SE X a fa) (hb:SE X b fb) (hs:PlainIx b):SE X (.Subscript a b pos) (c2 subsD fa fb):=(Qca (ixd hu) ha hb hs).of (Qdv fun _ _ _ _ h=>h)
theorem Qex (ha:SL X a ca) (hb:SE X b fb) (hs:PlainIx b):SE X (.Subscript a b pos) (cTmpSub ca fb):=(Qca Qcb ha hb hs).of fun σ H Q h_=>h_.el fun ρ l st lr sr p=>
 ⟨ρ,l,st,lr,sr,p.bnd.imp fun ds st1 ρ1 H1 x1 s1 p1 a vs ha na hv rvs=>⟨ρ1,l,st1,lr.mono x1,s1,p1.bnd.imp fun e st2 ρ2 H2 x2 s2 p2 u ru=>by
  cases ru with
  | int i=>
   obtain⟨k,d,h1,h2,q⟩:=Post.item p2 s2
   obtain⟨v,h3,rv⟩:=Qet (rvs.mono x2) h1 h2
   exact⟨a,vs,i,v,rfl,rfl,SqL.of (x2.lst a vs na hv),h3,q v rv⟩
  | _=>exact p2.elim⟩⟩
theorem Qey {CX : CXT} {k n : Nat} {f : Addr} {fd : FuncData} {ps : List Str} {g : List D -> M D} {x : Str} {p : Pos} (F : FnOk X.prog X.w X.K X.mg X.base CX k f fd ps (spOf X.K n g)) (hr : Room k X.A) (hg : Gl X x) (hm : X.mg x = some (.ref f))
  (hk:PySem.W.keepIn X.K (.ref f)=true) (hb:Binds X.K fd ps []) (hx:Passes CX X E0) (ha:SA X (e::es) ca) (hn:∀ l st ds st',ca l st=.ok ds st'->ds.length=n) (hdb:(x == ("__debug__":Str))=false:=by decide)
  (he:starEach (e::es) X.env=(false,eval e X.env)::starEach es X.env:=by rfl) (hpl:(backTo pos (starEach es X.env)).any (·.1)=false:=by rfl):SE X (.Call (.Name x p) (e::es) [] pos) (cCall g ca):=
 (QbI F hr hg hm hk hb .nil hx ha hdb he hpl).of fun σ H Q h_=>h_.el fun ρ l st lr sr p=>⟨ρ,l,st,lr,sr,by
  have q:=Post.bnd p
  cases ec:ca l st with
  | bad=>rw[ec]at q;exact q
  | exc _ _=>rw[ec]at q;exact q
  | ok ds st1=>
   rw[ec]at q
   intro ρ1 H1 x1 s1 vs rvs
   refine⟨by rw[List.append_nil,rvs.length];exact hn l st ds st1 ec,ρ1,st1,ds,s1,by rw[List.append_nil];exact rvs,q ρ1 H1 x1 s1⟩⟩
variable {ta tb:CT}
theorem Qez {d:D}{v:V}{R:Bool->Sto->List Addr->Hp->Prop} (p:Post K ρ H (truD d st) R) (sr:SR K ρ H st) (rv:Rep K ρ H v d):∃ k,TruV K v H k/\R k st ρ H:=by
 cases rv with
 | non=>exact⟨false,rfl,p.ret sr⟩
 | bl b=>exact⟨b,rfl,p.ret sr⟩
 | int i=>exact⟨_,rfl,p.ret sr⟩
 | str x=>exact⟨_,⟨(Post.chk p).1,rfl⟩,(Post.chk p).2.ret sr⟩
 | @tup a vs ds h r=>
  refine⟨!vs.isEmpty,.inr (.inl ⟨vs,h,rfl⟩),?_⟩
  have:vs.isEmpty=ds.isEmpty:=by
   have:=r.length
   cases vs<;>cases ds<;>simp_all
  rw[this];exact p.ret sr
 | @lit a vs ds h r=>
  refine⟨!vs.isEmpty,.inl ⟨vs,h.seq,rfl⟩,?_⟩
  have:vs.isEmpty=ds.isEmpty:=by
   have:=r.length
   cases vs<;>cases ds<;>simp_all
  rw[this];exact p.ret sr
 | ref _ h=>
  obtain⟨ds,e,p1⟩:=Post.getL (Post.bnd p) sr
  obtain⟨a,vs,ha,hv,r⟩:=sr.seq e
  rw[h]at ha;cases ha
  refine⟨!vs.isEmpty,.inl ⟨vs,SqL.of hv,rfl⟩,?_⟩
  have:vs.isEmpty=ds.isEmpty:=by
   have:=r.length
   cases vs<;>cases ds<;>simp_all
  rw[this];exact p1.ret sr
 | dic _ _=>exact p.elim
 | exn0 _ _=>exact p.elim
 | exn _ _ _ _=>exact p.elim
theorem QeA (ha:SE X a fa) (he:∀ whole,isTrue a X.env whole=(do let v <- whole;standAt a.pos;holding [v] (truthy v)):=by intro _;rfl):ST X a (tVal fa):=
 (Qbr ha he).of fun σ H Q h_=>h_.el fun ρ l st lr sr p=>⟨ρ,l,st,lr,sr,p.bnd.imp fun d st1 ρ1 H1 x1 s1 p1 v rv=>Qez p1 s1 rv⟩
theorem QeB {op:CmpOp}{g:D->D->M D} (ho:OpR X (compareOp op) (rOf X.K g)) (ha:SE X a fa) (hb:SE X b fb) (hm:behindInMarks op b=false):ST X (.Compare a [op] [b] pos) (tCmpB (c2 g fa fb)):=
 (Qbm ho ha hb hm).of fun σ H Q h_=>h_.el fun ρ l st lr sr p=>Qdv (X:=X) (fun _ _ _ _ h=>h) _ _ _ ⟨ρ,l,st,lr,sr,p.bnd.imp fun d st1 ρ1 H1 x1 s1 p1 v rv=>by
  cases rv with
  | bl k=>exact⟨k,rfl,p1.ret s1⟩
  | _=>exact p1.elim⟩
theorem QeC (ha:ST X a ta):PW X (.BoolOp .And [a] pos) (ttOf X.K ta):=QaC ha
theorem QeD (ha:ST X a ta):PW X (.BoolOp .Or [a] pos) (ttOf X.K ta):=QaD ha
theorem _root_.L2.PW.of {e:Expr}{t t':TT} (h:PW X e t) (f:∀ σ H Q,t' σ H Q->t σ H Q):PW X e t':=fun whole pins s σ H Q I q=>h whole pins s σ H Q I (f σ H Q q)
theorem QeE {rest:List Expr} (ha:ST X a ta) (hb:PW X (.BoolOp .And (b::rest) pos) (ttOf X.K tb)):PW X (.BoolOp .And (a::b::rest) pos) (ttOf X.K (tAndB ta tb)):=
 (QaE ha hb).of fun σ H Q h_=>h_.el fun ρ l st lr sr p=>⟨ρ,l,st,lr,sr,p.bnd.imp fun c st1 ρ1 H1 x1 s1 p1=>by
  cases c with
  | true=>exact⟨ρ1,l,st1,lr.mono x1,s1,p1⟩
  | false=>exact p1.ret s1⟩
theorem QeF {rest:List Expr} (ha:ST X a ta) (hb:PW X (.BoolOp .Or (b::rest) pos) (ttOf X.K tb)):PW X (.BoolOp .Or (a::b::rest) pos) (ttOf X.K (tOrB ta tb)):=
 (QaF ha hb).of fun σ H Q h_=>h_.el fun ρ l st lr sr p=>⟨ρ,l,st,lr,sr,p.bnd.imp fun c st1 ρ1 H1 x1 s1 p1=>by
  cases c with
  | true=>exact p1.ret s1
  | false=>exact⟨ρ1,l,st1,lr.mono x1,s1,p1⟩⟩
theorem QeG (ha:ST X a ta):ST X (.UnaryOp .Not a pos) (tNotB ta):=(QaG ha).of fun σ H Q h_=>h_.el fun ρ l st lr sr p=>⟨ρ,l,st,lr,sr,p.bnd.imp fun c st1 ρ1 H1 x1 s1 p1=>p1.ret s1⟩
theorem QeH {op:BoolOp} (h:SE X a fa):SE X (.BoolOp op [a] pos) fa:=QaH h
theorem QeI {rest:List Expr} (ha:SE X a fa) (hb:SE X (.BoolOp .And (b::rest) pos) fb):SE X (.BoolOp .And (a::b::rest) pos) (cAnd fa fb):=
 (QaI ha hb).of fun σ H Q h_=>h_.el fun ρ l st lr sr p=>⟨ρ,l,st,lr,sr,p.bnd.imp fun d st1 ρ1 H1 x1 s1 p1 v rv=>by
  cases rv with
  | bl c=>
   refine⟨c,rfl,?_⟩
   cases c with
   | true=>exact⟨ρ1,l,st1,lr.mono x1,s1,p1⟩
   | false=>exact p1.ret s1 _ (.bl false)
  | _=>exact p1.elim⟩
end
theorem LR.set {K:PySem.W.Frag}{ρ:List Addr}{H:Hp}{σ:St}{l:Loc}{v:V}{d:D} (h:LR K ρ H σ l) (i:Nat) (r:Rep K ρ H v d):LR K ρ H (σ.set i (some v)) (l.set i (some d)):=by
 refine⟨by simp[h.1],fun j e q=>?_⟩
 by_cases z:i=j
 ·subst z
  by_cases hl:i < l.length
  ·rw[List.getElem?_set_self hl]at q
   cases q
   exact⟨v,by rw[List.getElem?_set_self (by rw[h.1];exact hl)],r⟩
  ·rw[List.getElem?_eq_none (by simp;ac_nf)]at q;cases q
 ·rw[List.getElem?_set_ne z]at q
  obtain⟨w,e1,r1⟩:=h.2 j e q
  exact⟨w,by rw[List.getElem?_set_ne z];exact e1,r1⟩
theorem LR.start {K:PySem.W.Frag}{ρ:List Addr}{H:Hp}{N:List Str}{vs:List V}{ds:List D} (r:Reps K ρ H vs ds):LR K ρ H (L2.start N vs) (ds.map some++List.replicate (N.length - ds.length) none):=by
 have hl:=r.length
 unfold L2.start
 refine⟨by simp[hl],fun i d e=>?_⟩
 by_cases hi:i < ds.length
 ·rw[List.getElem?_append_left (by simpa using hi),List.getElem?_map]at e
  cases q:ds[i]? with
  | none=>rw[q]at e;cases e
  | some d'=>
   rw[q]at e
   have e':d'=d:=Option.some.inj (Option.some.inj e)
   subst e'
   obtain⟨v,hv,rv⟩:=r.get q
   refine⟨v,?_,rv⟩
   rw[List.getElem?_append_left (by simp;ac_nf),List.getElem?_map,hv];rfl
 ·rw[List.getElem?_append_right (by simpa using hi),List.getElem?_replicate]at e
  split at e<;>cases e
section
variable {X:Cx}{a b c e tg:Expr}{es:List Expr}{s:Stmt}{ss:List Stmt}{pos:Pos}{fa fb fc:CE}{ca cb:CA}{ta tb:CT}{cs cr:CS}{K:PySem.W.Frag}{ρ:List Addr}{H:Hp}{st:Sto}
abbrev SG (X:Cx) (e:Expr) (g:CG):Prop:=PG X e (tgOf X.K g)
abbrev SGs (X:Cx) (e:List Expr) (g:List D->Loc->M Loc):Prop:=PGs X e (tgsOf X.K g)
theorem QeJ {i:Nat}{x:Str} (h:PG X (.Name x pos) (gName i)):SG X (.Name x pos) (gVar i):=h.of fun v σ H Q pq62=>by obtain⟨ρ,l,st,d,lr,sr,rv,p⟩:=pq62;exact p.ret sr _ (lr.set i rv)
theorem QeK:SGs X [] gsNil:=QaP.of fun vs σ H Q pq63=>by
 obtain⟨ρ,l,st,ds,lr,sr,rvs,p⟩:=pq63
 cases rvs with
 | nil=>exact⟨rfl,p.ret sr σ lr⟩
 | cons _ _=>exact p.elim
theorem QeL {g:CG}{r:List D->Loc->M Loc} (h1:SG X e g) (h2:SGs X es r) (hs:(assignEach (e::es) X.env).map (·.2)=assign e X.env::(assignEach es X.env).map (·.2):=by rfl):SGs X (e::es) (gsCons g r):=
 (QaQ h1 h2 hs).of fun vs σ H Q pq64=>by
  obtain⟨ρ,l,st,ds,lr,sr,rvs,p⟩:=pq64
  cases rvs with
  | nil=>exact p.elim
  | cons rv rt=>exact⟨_,_,rfl,ρ,l,st,_,lr,sr,rv,(Post.bnd p).imp fun l1 st1 ρ1 H1 x1 s1 p1 σ1 lr1=>⟨ρ1,l1,st1,_,lr1,s1,rt.mono x1,p1⟩⟩
theorem QeM {k n:Nat}{r:List D->Loc->M Loc} (hc:X.calm=true) (h:SGs X es r) (hn:(assignEach es X.env).length=n:=by rfl) (hst:(assignEach es X.env).findIdx? (·.1)=none:=by rfl):SG X (.Tuple es k pos) (gTupD n r):=
 (QaR hc h hn hst).of fun v σ H Q pq65=>by
  obtain⟨ρ,l,st,d,lr,sr,rv,p⟩:=pq65
  cases rv with
  | tup h r=>exact⟨_,_,rfl,h,by rw[r.length];exact (Post.chk p).1,ρ,l,st,_,lr,sr,r,(Post.chk p).2⟩
  | _=>exact p.elim
theorem QeN:SSs X [] sNext:=QaJ.of fun G σ H h_=>h_.el fun ρ l st lr sr p=>p.ret sr σ lr
theorem QeO (h1:SS X s cs) (h2:SSs X ss cr):SSs X (s::ss) (sSeq cs cr):=(QaK h1 h2).of fun G σ H h_=>h_.el fun ρ l st lr sr p=>⟨ρ,l,st,lr,sr,p.bnd.imp fun f st1 ρ1 H1 x1 s1 p1=>by
 cases f with
 | next l'=>exact fun σ' lr'=>⟨ρ1,l',st1,lr',s1,p1⟩
 | ret d=>exact p1.ret s1
 | brk l'=>exact p1.ret s1
 | cnt l'=>exact p1.ret s1⟩
theorem QeP (h:SE X e fa):SS X (.Return (some e) pos) (sRet fa):=(QaM h).of fun G σ H h_=>h_.el fun ρ l st lr sr p=>⟨ρ,l,st,lr,sr,p.bnd.imp fun d st1 ρ1 H1 x1 s1 p1 v rv=>p1.ret s1 v rv⟩
theorem QeQ (h:SE X e fa) (hs:swapsWith e none pos.line X.env=pure false:=by rfl):SS X (.Expr e pos) (sExp fa):=(QaL h hs).of fun G σ H h_=>h_.el fun ρ l st lr sr p=>
 ⟨ρ,l,st,lr,sr,p.bnd.imp fun d st1 ρ1 H1 x1 s1 p1 v rv=>p1.ret s1 σ (lr.mono x1)⟩
theorem QeR (hc:ST X c ta) (ha:SSs X ss cs) {sr:List Stmt} (hb:SSs X sr cr):SS X (.If c ss sr pos) (sIf ta cs cr):=(QaN hc ha hb).of fun G σ H h_=>h_.el fun ρ l st lr sr p=>
 ⟨ρ,l,st,lr,sr,p.bnd.imp fun k st1 ρ1 H1 x1 s1 p1=>by
  cases k with
  | true=>exact⟨ρ1,l,st1,lr.mono x1,s1,p1⟩
  | false=>exact⟨ρ1,l,st1,lr.mono x1,s1,p1⟩⟩
theorem QeS {g:CG}{te:TE}{tg:TG} (he:∀ σ H Q,tOf X.K fa σ H Q->te σ H Q) (hg:∀ v σ H Q,tgOf X.K g v σ H Q->tg v σ H Q):∀ G σ H,tsOf X.K (sAsg g fa) G σ H->tAsg te tg G σ H:=fun G σ H h_=>h_.el fun ρ l st lr sr p=>
 he _ _ _ ⟨ρ,l,st,lr,sr,p.bnd.imp fun d st1 ρ1 H1 x1 s1 p1 v rv=>hg _ _ _ _ ⟨ρ1,l,st1,d,lr.mono x1,s1,rv,p1.bnd.imp fun l2 st2 ρ2 H2 x2 s2 p2 σ2 lr2=>p2.ret s2 σ2 lr2⟩⟩
theorem QeT {i:Nat}:∀ v σ H Q,tgOf X.K (gVar i) v σ H Q->gName i v σ H Q:=fun v σ H Q pq66=>by obtain⟨ρ,l,st,d,lr,sr,rv,p⟩:=pq66;exact p.ret sr _ (lr.set i rv)
theorem QeU {i : Nat} {x : Str} {pos' : Pos} (hN : X.N.Nodup) (hi : X.N[i]? = some x) (hx : L2.Loc X.env.scope x) (he : SE X e fa) (hs : swapsWith e (some (.Name x pos')) pos.line X.env = pure false := by rfl)
  (hf:X.fn x=true\/X.env.scope.names.lookup x=some .local:=by first | exact .inl rfl | exact .inr rfl | assumption):SS X (.Assign [.Name x pos'] e pos) (sAsg (gVar i) fa):=
 (QaU hN hi hx he hs hf).of (QeS (fun _ _ _ h=>h) QeT)
theorem QeV {g : CG} (he : SE X e fa) (hg : SG X tg g) (hs : swapsWithSole [tg] e pos.line X.env = pure false := by rfl) (hw : swappedStores [tg] e X.env = pure none := by rfl)
  (h1:(assignEach [tg] X.env).map (·.2)=[assign tg X.env]:=by rfl):SS X (.Assign [tg] e pos) (sAsg g fa):=(QaT he hg hs hw h1).of (QeS (fun _ _ _ h=>h) fun _ _ _ _ h=>h)
theorem Post.storeK {n:Nat}{k v:D}{R:Unit->Sto->List Addr->Hp->Prop} (h:Post K ρ H (MM.storeK n k v st) R) (s:SR K ρ H st):∃ b kvs,st[n]?=some (.dct b kvs)/\kOk b k=true/\kvs.length < lim/\Post K ρ H (.ok () (st.set n (.dct b (ptK kvs k v)))) R:=by
 obtain⟨b,kvs,e,p1⟩:=Post.getDc (Post.bnd h) s
 obtain⟨⟨hk,hl⟩,p2⟩:=Post.chk p1
 refine⟨b,kvs,e,hk,hl,?_⟩
 unfold putDc at p2
 rw[e]at p2
 simpa using p2
def rSetD (X:Cx):V->V->V->Hp->(Hp->Prop)->Prop:=fun o i v H Q=>∃ (ρ:List Addr) (st:Sto) (n:Nat) (a:Addr) (b:Bool) (kvs:List (D × D)) (k d:D),o=.ref a/\SR X.K ρ H st/\ρ[n]?=some a/\st[n]?=some (.dct b kvs)/\Rep X.K ρ H i k/\kOk b k=true/\kvs.length < sizeLine/\Rep X.K ρ H v d /\
 ∀ H',SR X.K ρ H' (st.set n (.dct b (ptK kvs k d)))->Ex ρ H ρ H'->Q H'
theorem QeW (hu:X.A.units + 60 < cLine):PSet X (rSetD X):=by
 intro pins s σ H o i v ov iv u Q I ro ri rv pq118;obtain⟨ρ,st,n,a,b,kvs,k,d,eo,sr,ha,hn,rk,hk,hl,rd,q⟩:=pq118
 subst eo
 cases ro
 exact QdT (by ac_nf) I sr ha hn rk hk hl rd ri rv fun H' s' I' s3 x3=>⟨H',I',q H' s3 x3⟩
theorem _root_.L2.PSet.or {t t':TSet} (h:PSet X t) (h':PSet X t'):PSet X (fun o i v H Q=>t o i v H Q\/t' o i v H Q):=by
 intro pins s σ H o i v ov iv u Q I ro ri rv q
 rcases q with q | q
 ·exact h pins s σ H o i v ov iv u Q I ro ri rv q
 ·exact h' pins s σ H o i v ov iv u Q I ro ri rv q
theorem QeX {to ti : CE} {o i : Expr} (hu : X.A.units + 60 < cLine) (ho : SE X o to) (hi : SE X i ti)
  (ha:∀ v,assign (.Subscript o i pos) X.env v=(do
   let ov <- holding [v] (eval o X.env)
   let iv <- holding [v,ov] (eval i X.env)
   standAt pos
   holding [v,ov,iv] (setItem ov iv v)
   release [v,ov,iv] []):=by intro _;rfl):SG X (.Subscript o i pos) (gSubD to ti):=
 (QaS ho hi (Qcg.or (QeW hu)) ha).of fun v σ H Q pq67=>by obtain⟨ρ,l,st,d,lr,sr,rv,p⟩:=pq67;exact⟨ρ,l,st,lr,sr,p.bnd.imp fun y st1 ρ1 H1 x1 s1 p1 u ru=>⟨ρ1,l,st1,lr.mono x1,s1,p1.bnd.imp fun z st2 ρ2 H2 x2 s2 p2 w rw'=>by
  have ru2:=ru.mono x2
  have rd:Rep X.K ρ2 H2 v d:=(rv.mono x1).mono x2
  cases ru2 with
  | ref _ h=>
   cases rw' with
   | int k=>
    obtain⟨ds,e,p3⟩:=Post.getL (Post.bnd (Post.bnd p2)) s2
    obtain⟨a,vs,ha,hv,r⟩:=s2.seq e
    rw[h]at ha;cases ha
    cases e2:MM.ixN ds.length k with
    | none=>rw[e2]at p3;exact p3.elim
    | some j=>
     rw[e2]at p3
     have hl:=(List.getElem?_eq_some_iff.mp e).1
     obtain⟨s3,x3⟩:=s2.put hl h hv (r.set j rd)
     refine .inl ⟨_,vs,k,j,rfl,rfl,hv,by rw[r.length];exact e2,?_⟩
     have p4:Post X.K ρ2 H2 (putL _ (ds.set j d) st2) _:=p3
     unfold putL at p4
     rw[e]at p4
     exact (p4 ρ2 _ x3 s3).ret s3 σ (((lr.mono x1).mono x2).mono x3)
   | _=>exact (Post.bnd p2).elim
  | @dic a n _ h=>
   have p':Post X.K ρ2 H2 (storeK n z d st2) fun a st' ρ' H'=>Post X.K ρ' H' (MM.ret l st') fun l' _ ρ' H'=>∀ σ',LR X.K ρ' H' σ' l'->Q σ' H':=by cases rw'<;>exact Post.bnd p2
   obtain⟨b,kvs,e1,hk,hl,q⟩:=Post.storeK p' s2
   exact .inr ⟨ρ2,st2,n,a,b,kvs,z,d,rfl,s2,h,e1,rw',hk,hl,rd,fun H3 s3 x3=>(q ρ2 H3 x3 s3).ret s3 σ (((lr.mono x1).mono x2).mono x3)⟩
  | _=>exact (Post.bnd p2).elim⟩⟩
theorem QeY {P : Program} {w : World} {K : PySem.W.Frag} {mg : Str -> Option Value} {base : Heap} {x qual : Str} {sd : Stmt} {f : Addr} {fd : FuncData} {N ps : List Str} {k : Nat} {body : CS} (F : Fun K x qual sd f fd) (S : FnScope N ps (defScope sd))
  (hbody:∀ (cdv:Value) (A:Around) (outer:List Env) (s:Shared) (H:Hp) (E:XK),Room k (A.deeper (envOfC qual (defScope sd) s.heap.objs.size f cdv))->SSs (cxOf CX0 P w K mg base N qual (defScope sd) f cdv A outer s H E).nox (defBody sd) body):
  FnOk P w K mg base CX0 (k + 1) f fd ps (spOf K ps.length (runDef N.length body)):=by
 refine F.ok S (fun vs H Q E h=>h.1) (fun cdv A outer s H vs Q E hr h=>⟨_,hbody cdv A outer s H E hr,?_⟩)
 obtain⟨hl,ρ,st,ds,sr,rvs,p⟩:=h
 refine⟨ρ,_,st,LR.start rvs,sr,?_⟩
 unfold runDef at p
 exact p.bnd.imp fun f st1 ρ1 H1 x1 s1 p1=>by
  cases f with
  | next l=>exact fun σ' _=>p1.ret s1 _ .non
  | ret d=>exact fun v rv=>p1.ret s1 v rv
  | brk l=>exact p1.elim
  | cnt l=>exact p1.elim
def ItR (K:PySem.W.Frag) (ρ0:List Addr) (H0:Hp) (w:Wk) (J:It):Prop:=∀ ρ H st,Ex ρ0 H0 ρ H->SR K ρ H st->w.same st->J.stop w.ds.length H/\∀ (i:Nat) (d:D),w.ds[i]?=some d->J.go i H/\∀ x H',J.yld i H x H'->Ex ρ H ρ H'/\SR K ρ H' st/\Rep K ρ H' x d
def tiOf (K:PySem.W.Frag) (f:CI):TI:=fun σ H R=>∃ ρ l st,LR K ρ H σ l/\SR K ρ H st/\Post K ρ H (f l st) fun w _ ρ' H'=>∀ J,ItR K ρ' H' w J->R J H'
abbrev SI (X:Cx) (tg e:Expr) (f:CI):Prop:=PI X tg e (tiOf X.K f)
theorem _root_.L2.PI.of {tg e:Expr}{t t':TI} (h:PI X tg e t) (f:∀ σ H R,t' σ H R->t σ H R):PI X tg e t':=fun pins s σ H R I q=>h pins s σ H R I (f σ H R q)
theorem QeZ {ρ0:List Addr}{H0:Hp}{ds:List D}{p:Sto->Prop}{a:Addr} (h:∀ ρ H st,Ex ρ0 H0 ρ H->SR K ρ H st->p st->∃ vs,SqL K H a vs/\Reps K ρ H vs ds):ItR K ρ0 H0 ⟨ds,p⟩ (Itl K a):=fun ρ H st x s q=>by
 obtain⟨vs,hv,r⟩:=h ρ H st x s q
 refine⟨⟨vs,hv,by rw[r.length];exact Nat.le_refl _⟩,fun i d e=>?_⟩
 obtain⟨v,e1,rv⟩:=r.get e
 refine⟨⟨vs,v,hv,e1⟩,fun y H' pq68=>?_⟩
 obtain⟨e2,e3⟩:=pq68
 subst e2
 have:=e3 vs hv
 rw[e1]at this;cases this
 exact⟨Ex.refl,s,rv⟩
theorem Qe0 {ρ0:List Addr}{H0:Hp}{ds:List D}{p:Sto->Prop}{a:Addr} (h:∀ ρ H st,Ex ρ0 H0 ρ H->SR K ρ H st->p st->∃ vs,SqT K H a vs/\Reps K ρ H vs ds):ItR K ρ0 H0 ⟨ds,p⟩ (Itt K a):=fun ρ H st x s q=>by
 obtain⟨vs,hv,r⟩:=h ρ H st x s q
 refine⟨⟨vs,hv,by rw[r.length];exact Nat.le_refl _⟩,fun i d e=>?_⟩
 obtain⟨v,e1,rv⟩:=r.get e
 refine⟨⟨vs,v,hv,e1⟩,fun y H' pq69=>?_⟩
 obtain⟨e2,e3⟩:=pq69
 subst e2
 have:=e3 vs hv
 rw[e1]at this;cases this
 exact⟨Ex.refl,s,rv⟩
theorem Qe1 {ρ0:List Addr}{H0:Hp}{lo:Int}{n:Nat}:ItR K ρ0 H0 ⟨rngD lo n,anySt⟩ (Itr lo n):=fun ρ H st x s _=>by
 refine⟨by show n<=(rngD lo n).length;unfold rngD;simp,fun i d e=>?_⟩
 have hi:i < n:=by
  have:=(List.getElem?_eq_some_iff.mp e).1
  simpa [rngD] using this
 refine⟨hi,fun y H' pq70=>?_⟩
 obtain⟨e2,e3⟩:=pq70
 subst e2 e3
 have:d=.int (lo + (i:Nat)):=by
  unfold rngD at e
  rw[List.getElem?_map,List.getElem?_range hi]at e
  exact (Option.some.inj e).symm
 subst this
 exact⟨Ex.refl,s,.int _⟩
theorem Qe2 {l:Expr}{tl:TE} (hl:PE X l tl):PI X tg l (fun σ H R=>tl σ H fun x H1=>∃ a,x=.ref a/\((∃ xs,SqL X.K H1 a xs)/\R (Itl X.K a) H1\/(∃ xs,SqT X.K H1 a xs)/\R (Itt X.K a) H1)):=by
 intro pins s σ H R I h
 refine thn (hl pins s σ H _ I h) fun v s1 pq71=>?_
 obtain⟨x,H1,I1,r1,a,e,q⟩:=pq71
 subst e
 cases r1
 rcases q with ⟨⟨xs,hq⟩,q⟩ | ⟨⟨xs,hq⟩,q⟩
 ·obtain⟨its,rv,p,hz⟩:=I1.list hq
  refine wpAny_pyIter_list p.isList ?_
  refine⟨s1.heap.objs.size,[s1.heap.objs.size],_,_,H1,rfl,I1.kept (t':=s1.toks) fun b o e=>Heap.get?_push_of_some _ e,QaX a _,⟨_,Heap.get?_push_size _ rfl,rfl,rfl⟩,fun b hb=>?_,q⟩
  have e:b=s1.heap.objs.size:=by simpa using hb
  subst e
  exact I1.fpOk (Nat.le_refl _) (I1.hok.fresh (Nat.le_refl _))
 ·obtain⟨its,rv,p,hz⟩:=I1.tuple hq
  refine wpAny_pyIter_tuple (show s1.heap.IsTuple a its.toArray from p) ?_
  refine⟨s1.heap.objs.size,[s1.heap.objs.size],_,_,H1,rfl,I1.kept (t':=s1.toks) fun b o e=>Heap.get?_push_of_some _ e,QaY a _,⟨_,Heap.get?_push_size _ rfl,rfl,rfl⟩,fun b hb=>?_,q⟩
  have e:b=s1.heap.objs.size:=by simpa using hb
  subst e
  exact I1.fpOk (Nat.le_refl _) (I1.hok.fresh (Nat.le_refl _))
theorem Qe3 (h:SE X e fa):SI X tg e (iSeq fa):=(Qe2 h).of fun σ H R h_=>h_.el fun ρ l st lr sr p=>⟨ρ,l,st,lr,sr,p.bnd.imp fun d st1 ρ1 H1 x1 s1 p1 v rv=>by
 cases rv with
 | @tup a vs ds h r=>exact⟨a,rfl,.inr ⟨⟨vs,h⟩,p1.ret s1 _ (Qe0 fun ρ H st x s _=>⟨vs,SqT.mono x.up h,r.mono x⟩)⟩⟩
 | @lit a vs ds h r=>exact⟨a,rfl,.inl ⟨⟨vs,h.seq⟩,p1.ret s1 _ (QeZ fun ρ H st x s _=>⟨vs,(FzL.mono x.up h).seq,r.mono x⟩)⟩⟩
 | @ref a n _ h=>
  obtain⟨ds,e,p2⟩:=Post.getL (Post.bnd p1) s1
  obtain⟨a',vs,ha,hv,r⟩:=s1.seq e
  rw[h]at ha;cases ha
  refine⟨a,rfl,.inl ⟨⟨vs,SqL.of hv⟩,p2.ret s1 _ (QeZ fun ρ H st x s q=>?_)⟩⟩
  obtain⟨a2,ws,ha2,hw,rw'⟩:=s.seq q
  obtain⟨τ,eτ,_⟩:=x.pre
  rw[eτ,Qdo h]at ha2;cases ha2
  exact⟨ws,SqL.of hw,rw'⟩
 | _=>exact p1.elim⟩
theorem Qe4 (h:SL X e ca):SI X tg e (iTmp ca):=(Qa0 h).of fun σ H R h_=>h_.el fun ρ l st lr sr p=>⟨ρ,l,st,lr,sr,p.bnd.imp fun ds st1 ρ1 H1 x1 s1 p1 a vs ha na hv rvs=>
 ⟨a,rfl,⟨vs,SqL.of hv⟩,p1.ret s1 _ (QeZ fun ρ H st x s _=>⟨vs,SqL.of (x.lst a vs na hv),rvs.mono x⟩)⟩⟩
theorem Qe5 {p:Pos} (hg:Gl X "range") (hm:X.mg "range"=none) (h:SE X a fa) (hs:starEach [a] X.env=[(false,eval a X.env)]:=by rfl):SI X tg (.Call (.Name "range" p) [a] [] pos) (MM.iRng1 fa):=
 (Qa2 (tg:=tg) (p:=p) (pos:=pos) hg hm (Qep h Qeo hs) hs).of fun σ H R h_=>h_.el fun ρ l st lr sr p=>⟨ρ,l,st,lr,sr,by
  have q:=Post.bnd p
  unfold cCons
  show Post X.K ρ H (bnd (fa l) _ st) _
  unfold MM.bnd
  cases e:fa l st with
  | bad=>rw[e]at q;exact q
  | exc _ _=>rw[e]at q;exact q
  | ok d st1=>
   rw[e]at q
   show ∀ ρ' H',Ex ρ H ρ' H'->SR X.K ρ' H' st1->_
   intro ρ1 H1 x1 s1 vs rvs
   have p1:=q ρ1 H1 x1 s1
   cases rvs with
   | cons rv rt=>
    cases rt
    cases rv with
    | int j=>
     obtain⟨⟨h1,h2⟩,p2⟩:=Post.chk p1
     exact⟨j,rfl,h1,h2,p2.ret s1 _ Qe1⟩
    | _=>exact p1.elim⟩
theorem Post.chkS {p:Sto->Prop}{R:Unit->Sto->List Addr->Hp->Prop} (h:Post K ρ H (MM.chkS p st) R) (s:SR K ρ H st):p st/\R () st ρ H:=by
 unfold MM.chkS at h
 by_cases hp:p st
 ·rw[if_pos hp]at h;exact⟨hp,h ρ H Ex.refl s⟩
 ·rw[if_neg hp]at h;exact h.elim
theorem Qe6 {iter : Expr} {body : List Stmt} {ci : CI} {g : CG} {cb : CS} (hp : PassesOwn (model X.prog X.w) X.A X.env X.xe) (hc : X.calm = true) (hi : SI X tg iter ci) (hg : SG X tg g) (hb : SSs X body cb)
  (hs:∀ x,foldedSetIterable iter X.env x=pure x:=by intro _;rfl):SS X (.For tg iter body [] pos) (sFor ci g cb):=(Qa6 hp hc hi hg hb hs).of fun G σ H h_=>h_.el fun ρ l st lr sr p=>
 ⟨ρ,l,st,lr,sr,p.bnd.imp fun w st1 ρ1 H1 x1 s1 p1 J hJ=>by
  refine⟨fun i m σ' H'=>m=w.ds.length - i/\i<=w.ds.length/\∃ ρ' l' st',Ex ρ1 H1 ρ' H'/\LR X.K ρ' H' σ' l'/\SR X.K ρ' H' st'/\Post X.K ρ' H' (forD g cb w.same (w.ds.drop i) l' st') fun f _ ρ' H'=>match f with
   | .next l'=>∀ σ',LR X.K ρ' H' σ' l'->G.nx σ' H'
   | .ret d=>∀ v,Rep X.K ρ' H' v d->G.rt v H'
   | .brk l'=>∀ σ',LR X.K ρ' H' σ' l'->G.bk σ' H'
   | .cnt l'=>∀ σ',LR X.K ρ' H' σ' l'->G.ct σ' H',⟨w.ds.length,by simp,Nat.zero_le _,ρ1,l,st1,Ex.refl,lr.mono x1,s1,p1⟩,?_⟩
  rintro i m σ2 H2 ⟨rfl,hi,ρ2,l2,st2,x2,lr2,s2,p2⟩
  by_cases hlt:i < w.ds.length
  ·have ed:w.ds.drop i=w.ds[i]::w.ds.drop (i + 1):=List.drop_eq_getElem_cons hlt
   rw[ed]at p2
   unfold forD at p2
   obtain⟨sm,p3⟩:=Post.chkS (Post.bnd p2) s2
   obtain⟨_,go⟩:=hJ ρ2 H2 st2 x2 s2 sm
   obtain⟨g1,g2⟩:=go i w.ds[i] (List.getElem?_eq_getElem hlt)
   refine .inr ⟨g1,fun σ3 H3=>∃ ρ3 l3 st3,Ex ρ1 H1 ρ3 H3/\LR X.K ρ3 H3 σ3 l3/\SR X.K ρ3 H3 st3/\Post X.K ρ3 H3 (forD g cb w.same (w.ds.drop (i + 1)) l3 st3) fun f _ ρ' H'=>match f with
    | .next l'=>∀ σ',LR X.K ρ' H' σ' l'->G.nx σ' H'
    | .ret d=>∀ v,Rep X.K ρ' H' v d->G.rt v H'
    | .brk l'=>∀ σ',LR X.K ρ' H' σ' l'->G.bk σ' H'
    | .cnt l'=>∀ σ',LR X.K ρ' H' σ' l'->G.ct σ' H',fun σ3 H3 q=>⟨_,by ac_nf,rfl,hlt,q⟩,fun y H3 hy=>?_⟩
   obtain⟨x3,s3,rv⟩:=g2 y H3 hy
   refine⟨ρ2,l2,st2,_,lr2.mono x3,s3,rv,(Post.left x3 (Post.bnd p3)).imp fun l4 st4 ρ4 H4 x4 s4 p4 σ4 lr4=>⟨ρ4,l4,st4,lr4,s4,(Post.bnd p4).imp fun f st5 ρ5 H5 x5 s5 p5=>?_⟩⟩
   have x5':Ex ρ1 H1 ρ5 H5:=(x2.trans x3).trans (x4.trans x5)
   cases f with
   | next l5=>exact fun σ5 lr5=>⟨ρ5,l5,st5,x5',lr5,s5,p5⟩
   | cnt l5=>exact fun σ5 lr5=>⟨ρ5,l5,st5,x5',lr5,s5,p5⟩
   | brk l5=>exact fun σ5 lr5=>p5.ret s5 σ5 lr5
   | ret d=>exact fun v rv=>p5.ret s5 v rv
  ·have e:i=w.ds.length:=by ac_nf
   subst e
   rw[List.drop_length]at p2
   unfold forD at p2
   obtain⟨sm,p3⟩:=Post.chkS (Post.bnd p2) s2
   obtain⟨g1,_⟩:=hJ ρ2 H2 st2 x2 s2 sm
   exact .inl ⟨g1,p3.ret s2 σ2 lr2⟩⟩
end
section
variable {X:Cx}{a b c e tg:Expr}{es:List Expr}{pos:Pos}{fa fb fc:CE}{ca cb:CA}{ta tb:CT}{K:PySem.W.Frag}{ρ:List Addr}{H:Hp}{st:Sto}{x:Str}{p:Pos}{id T:String}
theorem Qe7 {n:Nat}{ix:List Nat}{σ:St}{l:Loc} (h:LR K ρ H σ l):LR K ρ H (capV n ix σ) (capt n ix l):=by
 unfold capV capt
 refine⟨by simp,fun i d e=>?_⟩
 have hi:n<=i:=Nat.le_of_not_lt fun z=>by
  rw[List.getElem?_append_left (by simpa using z),List.getElem?_replicate]at e
  split at e<;>cases e
 rw[List.getElem?_append_right (by simpa using hi),List.length_replicate,List.getElem?_map]at e
 cases q:ix[i - n]? with
 | none=>rw[q]at e;cases e
 | some k=>
  rw[q]at e
  have hj:(l[k]?).join=some d:=Option.some.inj e
  have hk:l[k]?=some (some d):=by
   cases z:l[k]? with
   | none=>rw[z]at hj;cases hj
   | some o=>rw[z]at hj;exact congrArg some hj
  obtain⟨v,hv,rv⟩:=h.2 k d hk
  refine⟨v,?_,rv⟩
  rw[List.getElem?_append_right (by simpa using hi),List.length_replicate,List.getElem?_map,q]
  show some ((σ[k]?).join)=some (some v)
  rw[hv];rfl
abbrev SIfs (X:Cx) (ifs:List Expr) (t:CT):Prop:=PIfs X ifs (ttOf X.K t)
theorem Qe8:SIfs X [] tTrue:=fun pins s σ H Q I h_=>h_.el fun ρ l st lr sr p=>Qd9 pins s σ H Q I (p.ret sr)
theorem Qe9 (h:ST X c ta):SIfs X [c] ta:=Qea h
theorem Ex.own {ρ':List Addr}{H':Hp}{q:Addr}{ws:List V} (x:Ex ρ H ρ' H') (h:H q=none):Ex ρ H ρ' (upd H' q (.lst ws)):=by
 have ne:∀ b o,H b=some o->b≠q:=fun b o e z=>by rw[z,h]at e;cases e
 exact⟨x.pre,fun b o no e=>by rw[Qaj (ne b o e)];exact x.fix b o no e,fun b xs nb e=>by rw[Qaj (ne b _ e)];exact x.oth b xs nb e,fun b o e=>by rw[Qaj (ne b o e)];exact x.knd b o e⟩
theorem Up.own {ρ':List Addr}{H':Hp}{q:Addr}{vs ws:List V} (h:H' q=some (.lst vs)):Up ρ' H' ρ' (upd H' q (.lst ws)):=
 ⟨⟨[],by simp⟩,fun b o no e=>by rw[Qaj fun z=>by subst z;rw[h]at e;cases e;exact nomatch no];exact e,
  fun b o e=>by
   by_cases z:b=q
   ·subst z;rw[h]at e;cases e;exact⟨_,Qai,rfl⟩
   ·exact⟨o,by rw[Qaj z];exact e,rfl⟩⟩
theorem LR.up {ρ':List Addr}{H':Hp}{σ:St}{l:Loc} (x:Up ρ H ρ' H') (h:LR K ρ H σ l):LR K ρ' H' σ l:=⟨h.1,fun i d e=>let ⟨v,e1,r⟩:=h.2 i d e;⟨v,e1,r.up x⟩⟩
theorem SR.own {q:Addr}{vs ws:List V} (s:SR K ρ H st) (h:H q=some (.lst vs)) (nq:q∉ρ):SR K ρ (upd H q (.lst ws)) st:=
 ⟨s.len,s.nd,fun n b o e1 e2=>ObR.mono (o:=o) (Up.own h) (s.ob n b o e1 e2) fun us e=>by rw[Qaj (fun (z:b=q)=>nq (by rw[<- z];exact List.mem_of_getElem? e1))];exact e⟩
theorem Qfa {ci:CI}{g:CG}{n:Nat}{ix:List Nat}:∀ σ H Q,tlOf K (aComp n ix ci g ta fa) σ H Q->tComp (tiOf K ci) n ix (tgOf K g) (ttOf K ta) (tOf K fa) σ H Q:=fun σ H Q h_=>h_.el fun ρ l st lr sr p=>
 ⟨ρ,l,st,lr,sr,p.bnd0.imp fun w st1 ρ1 H1 x1 s1 p1 J hJ q hq=>by
  obtain⟨hz,p2⟩:=Post.chk p1
  have hn:H q=none:=by
   cases z:H q with
   | none=>rfl
   | some o=>exact absurd hq (x1.trk q o z)
  refine⟨fun i m σ' H'=>m=w.ds.length - i/\i<=w.ds.length/\∃ ρ' l' st' done vs,Ex ρ H ρ' H'/\Ex ρ1 H1 ρ' H'/\LR K ρ' H' σ' l'/\SR K ρ' H' st'/\q∉ρ'/\H' q=some (.lst vs)/\Reps K ρ' H' vs done/\done.length<=i /\
   Post K ρ H (collect g ta fa w.same (w.ds.drop i) l' st') (fun rest st2 ρ2 H2=>∀ a ws,H a=none->a∉ρ2->H2 a=some (.lst ws)->Reps K ρ2 H2 ws (done++rest)->Q (.ref a) H2),
   ⟨w.ds.length,by simp,Nat.zero_le _,ρ1,capt n ix l,st1,[],[],x1.trans (Ex.new hq),Ex.new hq,Qe7 ((lr.mono x1).mono (Ex.new hq)),s1.new hq,s1.fresh hq,Qai,.nil,Nat.zero_le _,p2⟩,?_⟩
  rintro i m σ2 H2 ⟨rfl,hi,ρ2,l2,st2,done,vs,x2,y2,lr2,s2,nq,hv,rvs,hd,p3⟩
  by_cases hlt:i < w.ds.length
  ·have ed:w.ds.drop i=w.ds[i]::w.ds.drop (i + 1):=List.drop_eq_getElem_cons hlt
   rw[ed]at p3
   unfold collect at p3
   obtain⟨sm,p4⟩:=Post.chkS (p3.bnd0.left x2) s2
   obtain⟨_,go⟩:=hJ ρ2 H2 st2 y2 s2 sm
   obtain⟨g1,g2⟩:=go i w.ds[i] (List.getElem?_eq_getElem hlt)
   refine .inr ⟨g1,fun y H3 hy=>?_⟩
   obtain⟨x3,s3,rv⟩:=g2 y H3 hy
   refine⟨ρ2,l2,st2,_,lr2.mono x3,s3,rv,(p4.bnd0.left (x2.trans x3)).imp fun l4 st4 ρ4 H4 x4 s4 p5 σ4 lr4=>⟨ρ4,l4,st4,lr4,s4,(p5.bnd0.left (x2.trans (x3.trans x4))).imp fun b st5 ρ5 H5 x5 s5 p6=>?_⟩⟩
   have y5:Ex ρ2 H2 ρ5 H5:=x3.trans (x4.trans x5)
   have out:∀ {ρ':List Addr}{H':Hp},Ex ρ2 H2 ρ' H'->q∉ρ':=fun z hm=>by
    obtain⟨τ,e,f⟩:=z.pre
    rw[e]at hm
    rcases List.mem_append.mp hm with hm | hm
    ·exact nq hm
    ·rw[f q hm]at hv;cases hv
   cases b with
   | false=>exact⟨_,by ac_nf,rfl,hlt,ρ5,l4,st5,done,vs,x2.trans y5,y2.trans y5,lr4.mono x5,s5,out y5,y5.lst q vs nq hv,rvs.mono y5,Nat.le_succ_of_le hd,p6⟩
   | true=>
    refine⟨ρ5,l4,st5,lr4.mono x5,s5,(p6.bnd0.left (x2.trans y5)).imp fun d st6 ρ6 H6 x6 s6 p7 v rv6=>?_⟩
    have y6:Ex ρ2 H2 ρ6 H6:=y5.trans x6
    have hv6:=y6.lst q vs nq hv
    have u6:Up ρ6 H6 ρ6 (upd H6 q (.lst (vs++[v]))):=Up.own hv6
    refine⟨vs,hv6,?_,_,by ac_nf,rfl,hlt,ρ6,l4,st6,done++[d],vs++[v],(x2.trans y6).own hn,(y2.trans y6).own hq,LR.up u6 ((lr4.mono x5).mono x6),s6.own hv6 (out y6),out y6,Qai,
     Reps.app ((rvs.mono y6).up u6) (.cons (rv6.up u6) .nil),by simp;ac_nf,?_⟩
    ·have e1:=rvs.length
     have e2:w.ds.length<=sizeLine:=hz
     ac_nf
    ·refine p7.bnd0.imp fun rest st8 ρ8 H8 x8 s8 p8 a ws ha na hw rws=>?_
     exact p8 ρ8 H8 x8 s8 a ws ha na hw (by rw[List.append_cons];exact rws)
  ·have e:i=w.ds.length:=by ac_nf
   subst e
   rw[List.drop_length]at p3
   unfold collect at p3
   obtain⟨sm,p4⟩:=Post.chkS (p3.bnd0.left x2) s2
   obtain⟨g1,_⟩:=hJ ρ2 H2 st2 y2 s2 sm
   refine .inl ⟨g1,p4 ρ2 H2 x2 s2 q vs hn nq hv (by rw[List.append_nil];exact rvs)⟩⟩
theorem Qfb {scope : Scope} {N : List Str} {ifs : List Expr} {n : Nat} {ix : List Nat} {ci : CI} {g : CG} (hc : X.calm = true) (S : CompScope X scope) (T : CompNames X scope N n ix) (hi : SI X tg b ci)
  (blk:∀ (fp:List Addr) (s:Shared) (H:Hp),SG (cxC X N scope fp s H) tg g/\SIfs (cxC X N scope fp s H) ifs ta/\SE (cxC X N scope fp s H) e fa)
  (hs:∀ x,foldedSetIterable b X.env x=pure x:=by intro _;rfl):SL X (.ListComp e [⟨tg,b,ifs,0⟩] scope pos) (aComp n ix ci g ta fa):=(Qec hc S T hi blk hs).of Qfa
theorem Qfc {scope : Scope} {N : List Str} {ifs : List Expr} {n i : Nat} {ix : List Nat} {ci : CI} {g : CG} {y : Str} {pos' spos : Pos}
  (hN:X.N.Nodup) (hi':X.N[i]?=some y) (hy:L2.Loc X.env.scope y) (hf:X.fn y=true\/X.env.scope.names.lookup y=some .local)
  (hc:X.calm=true) (S:CompScope X scope) (T:CompNames X scope N n ix) (hi:SI X tg b ci)
  (blk:∀ (fp:List Addr) (s:Shared) (H:Hp),SG (cxC X N scope fp s H) tg g/\SIfs (cxC X N scope fp s H) ifs ta/\SE (cxC X N scope fp s H) e fa)
  (hsw:swapsWith (.ListComp e [⟨tg,b,ifs,0⟩] scope pos) (some (.Name y pos')) spos.line X.env=pure true)
  (hs:∀ x,foldedSetIterable b X.env x=pure x:=by intro _;rfl):SS X (.Assign [.Name y pos'] (.ListComp e [⟨tg,b,ifs,0⟩] scope pos) spos) (sAsg (gVar i) (cKeep (aComp n ix ci g ta fa))):=
 (Qed hN hi' hy hf hc S T hi blk hsw hs).of (QeS (fun σ H Q h_=>h_.el fun ρ l st lr sr p=>Qfa _ _ _ ⟨ρ,l,st,lr,sr,p.bnd0.imp fun ds st1 ρ1 H1 x1 s1 p1 a vs ha na hv rvs=>by
  have x:Ex ρ H (ρ1++[a]) H1:=by
   obtain⟨τ,e,f⟩:=x1.pre
   refine⟨⟨τ++[a],by rw[e,List.append_assoc],fun b hb=>?_⟩,x1.fix,x1.oth,x1.knd⟩
   rcases List.mem_append.mp hb with hb | hb
   ·exact f b hb
   ·rw[List.mem_singleton]at hb;rw[hb];exact ha
  refine p1 (ρ1++[a]) H1 x (s1.keep hv na rvs) _ (.ref ⟨_,hv,rfl⟩ ?_)
  rw[<- s1.len];simp⟩) QeT)
theorem Qfd {g : D -> M D} (hc : CallR X (.builtin id) (fun xs H Q => ∃ v, xs = [v] /\ uOf X.K g v H Q)) (hg : Gl X x) (hm : X.mg x = none) (hv : bootBuiltins x = some (.builtin id)) (ha : SE X e fa) (hn : x ≠ "__name__" := by decide) (hdb : (x == ("__debug__" : Str)) = false := by decide)
  (he:starEach [e] X.env=[(false,eval e X.env)]:=by rfl):SE X (.Call (.Name x p) [e] [] pos) (c1 g fa):=
 (QbS hc hg hm hv (QbE ha QbD he) hn hdb he rfl).of fun σ H Q h_=>h_.el fun ρ l st lr sr p=>⟨ρ,l,st,lr,sr,p.bnd.imp fun d st1 ρ1 H1 x1 s1 p1 v rv=>⟨v,rfl,ρ1,st1,d,s1,rv,p1⟩⟩
theorem Qfe {g : D -> M D} (hc : CallR X (.type T) (fun xs H Q => ∃ v, xs = [v] /\ uOf X.K g v H Q)) (hg : Gl X x) (hm : X.mg x = none) (hv : bootBuiltins x = some (.type T)) (ha : SE X e fa) (hn : x ≠ "__name__" := by decide) (hdb : (x == ("__debug__" : Str)) = false := by decide)
  (he:starEach [e] X.env=[(false,eval e X.env)]:=by rfl):SE X (.Call (.Name x p) [e] [] pos) (c1 g fa):=
 (QbT hc hg hm hv (QbE ha QbD he) hn hdb he rfl).of fun σ H Q h_=>h_.el fun ρ l st lr sr p=>⟨ρ,l,st,lr,sr,p.bnd.imp fun d st1 ρ1 H1 x1 s1 p1 v rv=>⟨v,rfl,ρ1,st1,d,s1,rv,p1⟩⟩
def lOf (K:PySem.W.Frag) (g:List D->M D):List V->Hp->VK->Prop:=fun xs H Q=>∃ a vs ρ st ds,xs=[.ref a]/\SqL K H a vs/\SR K ρ H st/\Reps K ρ H vs ds/\Post K ρ H (g ds st) fun r _ ρ' H'=>∀ v,Rep K ρ' H' v r->Q v H'
theorem Qff {g : List D -> M D} (hc : CallR X (.builtin id) (lOf X.K g)) (hg : Gl X x) (hm : X.mg x = none) (hv : bootBuiltins x = some (.builtin id)) (ha : SL X e ca) (hn : x ≠ "__name__" := by decide) (hdb : (x == ("__debug__" : Str)) = false := by decide)
  (he:starEach [e] X.env=[(false,eval e X.env)]:=by rfl):SE X (.Call (.Name x p) [e] [] pos) (cTmp g ca):=
 (QbS hc hg hm hv (QbE ha QbD he) hn hdb he rfl).of fun σ H Q h_=>h_.el fun ρ l st lr sr p=>⟨ρ,l,st,lr,sr,p.bnd.imp fun ds st1 ρ1 H1 x1 s1 p1 a vs ha na hv rvs=>⟨a,vs,ρ1,st1,ds,rfl,SqL.of hv,s1,rvs,p1⟩⟩
theorem Qfg {g : List D -> M D} (hc : CallR X (.type T) (lOf X.K g)) (hg : Gl X x) (hm : X.mg x = none) (hv : bootBuiltins x = some (.type T)) (ha : SL X e ca) (hn : x ≠ "__name__" := by decide) (hdb : (x == ("__debug__" : Str)) = false := by decide)
  (he:starEach [e] X.env=[(false,eval e X.env)]:=by rfl):SE X (.Call (.Name x p) [e] [] pos) (cTmp g ca):=
 (QbT hc hg hm hv (QbE ha QbD he) hn hdb he rfl).of fun σ H Q h_=>h_.el fun ρ l st lr sr p=>⟨ρ,l,st,lr,sr,p.bnd.imp fun ds st1 ρ1 H1 x1 s1 p1 a vs ha na hv rvs=>⟨a,vs,ρ1,st1,ds,rfl,SqL.of hv,s1,rvs,p1⟩⟩
theorem Qfh {prog : Program} {w : World} {A : Around} {E : Value -> Shared -> Prop} {s : Shared} {K : Type} [DecidableEq K] {knd : HeapKind prog w K} {d : Addr} {xs : List (K × Addr × Value)} {Q : Value -> Shared -> Prop} (hd : (d == sysModules) = false) (hm : s.heap.DictOfH knd d xs) (hfit : (xs.length : Int) < 2 ^ 63)
  (h:Q (.int xs.length (s.toks + 1)) { s with toks:=s.toks + 1 + 1 }):wpAny (model prog w) A (call (.builtin "len") [.ref d]) Q E s:=by
 refine Calls.call_function_entry kind_len plain_len entry_len (args_len1 _) ?_
 unfold Builtin.«len»
 have meet:MeetsIn prog w (Builtin.«dict.__len__» ⟨[.ref d],[]⟩) (fun _ R s=>∃ xs,s.heap.DictOfH knd d xs/\R (.ok (.ret (.int xs.length s.toks))) { s with toks:=s.toks + 1 }):=.of_wp fun A R s pq72=>by
  obtain⟨xs,hm,h⟩:=pq72
  obtain⟨o,es,ep,ho,hc,hdat,he,_,hn⟩:=hm
  show wpAny _ _ (dictSize d >>= _) _ _ s
  unfold dictSize
  refine wpAny_bind (wpAny_bind (wpAny_dictEntries ho hdat (wpAny_pure ?_)))
  show wpAny _ _ (Builtin.Dict.pendingCount d >>= _) _ _ s
  refine wpAny_bind (wpAny_pendingCount_other hd ?_)
  refine wpAny_ret_mkInt ?_
  rw[Nat.add_zero,size_of_entries he];exact h
 refine wpAny_bind (m:=oneArg "len" _) (wpAny_pure ?_)
 refine wpAny_bind (m:=callSpecial? (.ref d) (Str.ofString "__len__")) (wpAny_callSpecial?_slot (name:=Str.ofString "__len__") hm.typeIs F.slot_dict_len
  (call_meetsIn F.slot_dict_len hm.typeIs F.entry_dict_len (F.args_dict_len_1 _) meet ⟨xs,hm,?_⟩))
 show wpAny _ _ _ _ _ { s with toks:=s.toks + 1 }
 refine wpAny_bind (wpAny_holding (wpAny_pure ?_))
 refine wpAny_bind (wpAny_letGo ?_)
 show wpAny _ _ (if ((xs.length:Nat):Int) < 0 then _ else _) _ _ _
 rw[if_neg (by ac_nf)]
 show wpAny _ _ (if ((xs.length:Nat):Int) ≥ 2 ^ 63 then _ else _) _ _ _
 rw[if_neg (by ac_nf)]
 exact wpAny_bind (wpAny_mkInt (wpAny_pure ⟨_,rfl,h⟩))
theorem Qfi:CallR X (.builtin "len") (fun xs H Q=>∃ (ρ:List Addr) (st:Sto) (n:Nat) (a:Addr) (b:Bool) (kvs:List (D × D)),xs=[.ref a]/\SR X.K ρ H st/\ρ[n]?=some a/\st[n]?=some (.dct b kvs)/\Q (.int kvs.length) H):=by
 intro pins s σ H xs us Q I r pq119;obtain⟨ρ,st,n,a,b,kvs,e,sr,ha,hn,q⟩:=pq119
 subst e
 obtain⟨u,rfl,ru⟩:=Qbt r
 cases ru
 have g:=sr.ob n a _ ha hn
 cases b with
 | false=>
  obtain⟨es,e,r⟩:=g
  rw[<- KR.length r]at q
  exact Qc5 I (.inl e) fun t s' I'=>⟨.int es.length,H,I',⟨t,rfl⟩,q⟩
 | true=>
  obtain⟨es,e,r⟩:=g
  obtain⟨z,hd,xs,rx,dd,_⟩:=QdN I e r
  rw[<- NR.length r,Paired.length rx]at q
  have hz:xs.length<=sizeLine:=by rw[<- Paired.length rx];exact z
  exact Qfh hd dd (by rw[sizeLine_eq]at hz;ac_nf) ⟨.int xs.length,H,I.tok _,⟨_,rfl⟩,q⟩
theorem Qfj:CallR X (.builtin "len") (fun xs H Q=>∃ v,xs=[v]/\uOf X.K lenD v H Q):=((Qcp.or Qcq).or Qfi).of fun xs H Q pq73=>by
 obtain⟨v,e,ρ,st,d,sr,rv,p⟩:=pq73
 cases rv with
 | @tup a vs ds h r=>exact .inl (.inl ⟨a,vs,e,.inr h,by rw[r.length];exact p.ret sr _ (.int _)⟩)
 | @lit a vs ds h r=>exact .inl (.inl ⟨a,vs,e,.inl h.seq,by rw[r.length];exact p.ret sr _ (.int _)⟩)
 | @ref a n _ h=>
  obtain⟨ds,e2,p1⟩:=Post.getL (Post.bnd p) sr
  obtain⟨a',vs,ha,hv,r⟩:=sr.seq e2
  rw[h]at ha;cases ha
  exact .inl (.inl ⟨a,vs,e,.inl (SqL.of hv),by rw[r.length];exact p1.ret sr _ (.int _)⟩)
 | str z=>exact .inl (.inr ⟨z,e,(Post.chk p).1,(Post.chk p).2.ret sr _ (.int _)⟩)
 | @dic a n _ h=>
  obtain⟨b,kvs,e2,p1⟩:=Post.getDc (Post.bnd p) sr
  exact .inr ⟨ρ,st,n,a,b,kvs,e,sr,h,e2,p1.ret sr _ (.int _)⟩
 | _=>exact p.elim
theorem Qfk:CallR X (.type "int") (fun xs H Q=>∃ v,xs=[v]/\uOf X.K intD v H Q):=Qbx.of fun xs H Q pq74=>by
 obtain⟨v,e,ρ,st,d,sr,rv,p⟩:=pq74
 cases rv with
 | int i=>exact .inl ⟨i,e,p.ret sr _ (.int _)⟩
 | bl k=>exact .inr ⟨k,e,p.ret sr _ (.int _)⟩
 | _=>exact p.elim
theorem Qfl:CallR X (.type "tuple") (fun xs H Q=>∃ v,xs=[v]/\uOf X.K tupleD v H Q):=Qcr.of fun xs H Q pq75=>by
 obtain⟨v,e,ρ,st,d,sr,rv,p⟩:=pq75
 cases rv with
 | @tup a vs ds h r=>exact⟨a,vs,e,.inr ⟨h,p.ret sr _ (.tup h r)⟩⟩
 | @lit a vs ds h r=>exact⟨a,vs,e,.inl ⟨h.seq,fun l hl=>p ρ _ (Ex.new hl) (sr.new hl) _ (.tup (SqT.of Qai) (r.mono (Ex.new hl)))⟩⟩
 | @ref a n _ h=>
  obtain⟨ds,e2,p1⟩:=Post.getL (Post.bnd p) sr
  obtain⟨a',vs,ha,hv,r⟩:=sr.seq e2
  rw[h]at ha;cases ha
  exact⟨a,vs,e,.inl ⟨SqL.of hv,fun l hl=>p1 ρ _ (Ex.new hl) (sr.new hl) _ (.tup (SqT.of Qai) (r.mono (Ex.new hl)))⟩⟩
 | _=>exact p.elim
theorem Qfm:CallR X (.type "tuple") (lOf X.K tupL):=Qcr.of fun xs H Q pq76=>
 by obtain⟨a,vs,ρ,st,ds,e,hv,sr,r,p⟩:=pq76;exact⟨a,vs,e,.inl ⟨hv,fun l hl=>p ρ _ (Ex.new hl) (sr.new hl) _ (.tup (SqT.of Qai) (r.mono (Ex.new hl)))⟩⟩
end
section
variable {X:Cx}{a b c e tg:Expr}{es:List Expr}{pos:Pos}{fa fb fc:CE}{ca cb:CA}{ta tb:CT}{K:PySem.W.Frag}{ρ:List Addr}{H:Hp}{st:Sto}{x:Str}{p:Pos}{T:String}
theorem Qfn {ds:List D}{ns:List Int}{vs:List V} (h:numsL ds=some ns) (g:Reps K ρ H vs ds):vs=ns.map V.int:=by
 induction ds generalizing ns vs with
 | nil=>cases g;cases h;rfl
 | cons d ds ih=>
  cases g with
  | cons r t=>
   cases r with
   | int i=>
    unfold numsL at h
    cases q:numsL ds with
    | none=>rw[q]at h;cases h
    | some ms=>
     rw[q]at h
     have h':i::ms=_:=Option.some.inj h
     subst h'
     rw[ih q t];rfl
   | _=>cases h
theorem Qfo:∀ (ns:List Int) (n:Int),ns.foldl max n∈n::ns/\∀ a∈n::ns,a<=ns.foldl max n
 | [],n=>⟨by simp,by simp⟩
 | m::ns,n=>by
  obtain⟨h1,h2⟩:=Qfo ns (max n m)
  rw[List.foldl_cons]
  refine⟨?_,fun a ha=>?_⟩
  ·rcases List.mem_cons.mp h1 with e | e
   ·rw[e]
    by_cases hm:n<=m
    ·rw[Int.max_eq_right hm];simp
    ·rw[Int.max_eq_left (by ac_nf)];simp
   ·exact List.mem_cons_of_mem _ (List.mem_cons_of_mem _ e)
  ·have hx:=h2 (max n m) List.mem_cons_self
   rcases List.mem_cons.mp ha with e | e
   ·subst e;exact Int.le_trans (Int.le_max_left ..) hx
   ·rcases List.mem_cons.mp e with e | e
    ·subst e;exact Int.le_trans (Int.le_max_right ..) hx
    ·exact h2 a (List.mem_cons_of_mem _ e)
theorem Qfp {vs:List Value}{ns:List Int} (hi:IntsAre vs ns):∃ xs,vs.toArray=intItems xs/\ns=xs.toList.map (·.1):=by
 obtain⟨xs,e⟩:=hi.allInts.items
 exact⟨xs,e,by rw[<- hi.numsOf,<- nums_intItems,<- e]⟩
theorem Qfq (hc:X.calm=true):CallR X (.builtin "max") (fun xs H Q=>∃ (l:Addr) (n:Int) (ns:List Int),xs=[.ref l]/\SqL X.K H l ((n::ns).map V.int)/\Q (.int (ns.foldl max n)) H):=by
 intro pins s σ H xs us Q I r h
 obtain⟨l,n,ns,rfl,hq,q⟩:=h
 obtain⟨u,rfl,rx⟩:=Qbt r
 cases rx
 obtain⟨its,rv,pl,hz⟩:=I.list hq
 obtain⟨ys,e,en⟩:=Qfp (Qb1 rv)
 have hl:=pl.isList
 rw[e]at hl
 have hsz:ys.size=ns.length + 1:=by have:=congrArg List.length en;simpa using this.symm
 refine max_intList (I.ok.hd hc) hl (by ac_nf) fun v h' tk hv hk=>?_
 obtain⟨t,rfl⟩:=intItems_at hv
 obtain⟨b1,b2⟩:=argBest_gt (numAt ys) (ys.size - 1)
 obtain⟨f1,f2⟩:=Qfo ns n
 generalize argBest (fun i j=>decide (numAt ys i > numAt ys j)) (ys.size - 1)=k at b1 b2 ⊢
 have hin:numAt ys k∈n::ns:=by
  rw[en,numAt_eq]
  exact getD_mem (by rw[<- en];simp;ac_nf)
 have hge:ns.foldl max n<=numAt ys k:=by
  rw[en]at f1
  obtain⟨j,hj,ej⟩:=mem_getD f1
  rw[<- ej,<- numAt_eq]
  exact b2 j (by rw[<- en]at hj;simp at hj;ac_nf)
 have hM:numAt ys k=ns.foldl max n:=Int.le_antisymm (f2 _ hin) hge
 rw[hM]
 exact⟨.int _,H,I.kept (t':=tk) hk,⟨t,rfl⟩,q⟩
theorem Qfr (hc:X.calm=true):CallR X (.builtin "max") (lOf X.K maxD):=(Qfq hc).of fun xs H Q pq77=>by
 obtain⟨a,vs,ρ,st,ds,e,hv,sr,r,p⟩:=pq77
 unfold maxD at p
 cases q:numsL ds with
 | none=>rw[q]at p;exact p.elim
 | some ns=>
  rw[q]at p
  have:=Qfn q r
  subst this
  cases ns with
  | nil=>exact p.elim
  | cons n ns=>exact⟨a,n,ns,e,hv,p.ret sr _ (.int _)⟩
structure TyTab (T:String):Prop where
 non:∀ K,PySem.W.kitOne K (.type "NoneType") (.type T)=some (["NoneType"].contains T)
 bl:∀ K,PySem.W.kitOne K (.type "bool") (.type T)=some (["bool","int"].contains T)
 int:∀ K,PySem.W.kitOne K (.type "int") (.type T)=some (["int"].contains T)
 str:∀ K,PySem.W.kitOne K (.type "str") (.type T)=some (["str"].contains T)
 tup:∀ K,PySem.W.kitOne K (.type "tuple") (.type T)=some (["tuple"].contains T)
 lst:∀ K,PySem.W.kitOne K (.type "list") (.type T)=some (["list"].contains T)
theorem Qfs:TyTab "list":=⟨fun _=>rfl,fun _=>rfl,fun _=>rfl,fun _=>rfl,fun _=>rfl,fun _=>rfl⟩
theorem Qft {pins : List (Addr × Obj)} {σ : St} {s : Shared} {Q : Value -> Shared -> Prop} {t : String} {u : Addr} {k : Bool} (I : Inv X pins σ H s) (ht : ∃ o, s.heap.get? u = some o /\ o.cls = .type t) (hx : t = "tuple" \/ t = "list") (e : PySem.W.kitOne X.K (.type t) (.type T) = some k)
  (h:∀ tk,Q (.bool k) { s with toks:=tk }):wpAny (model X.prog X.w) X.A (call (.builtin "isinstance") [.ref u,.type T]) Q X.xe s:=by
 rcases hx with rfl | rfl
 ·exact PySem.W.kia_one PySem.W.kitx_tuple I.kIn ht e (fun z=>nomatch z) h
 ·exact PySem.W.kia_one PySem.W.kitx_list I.kIn ht e (fun z=>nomatch z) h
theorem Qfu (B:TyTab T):CallR X (.builtin "isinstance") (fun xs H Q=>∃ v,xs=[v,.ty T]/\uOf X.K (isInst [T]) v H Q):=by
 intro pins s σ H xs us Q I r pq120;obtain⟨v,e,ρ,st,d,sr,rv,p⟩:=pq120
 subst e
 obtain⟨u,w',rfl,ru,rw'⟩:=Qbu r
 have ew:w'=Value.type T:=rw'
 subst ew
 have fin:∀ k:Bool,Q (.bl k) H->∀ tk,EP X pins σ Q (.bool k) { s with toks:=tk }:=fun k q tk=>⟨.bl k,H,I.tok tk,rfl,q⟩
 cases rv with
 | non=>
  refine QbA I ru .non (B.non _) (fin _ ?_)
  simpa [isInst,isTy] using p.ret sr _ (.bl _)
 | bl k=>
  refine QbA I ru (.bl k) (B.bl _) (fin _ ?_)
  simpa [isInst,isTy] using p.ret sr _ (.bl _)
 | int k=>
  refine QbA I ru (.int k) (B.int _) (fin _ ?_)
  simpa [isInst,isTy] using p.ret sr _ (.bl _)
 | str k=>
  refine QbA I ru (.str k) (B.str _) (fin _ ?_)
  simpa [isInst,isTy] using p.ret sr _ (.bl _)
 | tup h r=>
  have eu:u=Value.ref _:=ru
  subst eu
  obtain⟨its,_,⟨o,h1,h2,_⟩,_⟩:=I.tuple h
  refine Qft I ⟨o,h1,h2⟩ (.inl rfl) (B.tup _) (fin _ ?_)
  simpa [isInst,isTy] using p.ret sr _ (.bl _)
 | lit h r=>
  have eu:u=Value.ref _:=ru
  subst eu
  obtain⟨its,_,pl,_⟩:=I.list h.seq
  obtain⟨o,h1,h2,_⟩:=pl.isList
  refine Qft I ⟨o,h1,h2⟩ (.inr rfl) (B.lst _) (fin _ ?_)
  simpa [isInst,isTy] using p.ret sr _ (.bl _)
 | @ref a n kk h=>
  have eu:u=Value.ref _:=ru
  subst eu
  obtain⟨vs,hv⟩:=Qdq kk
  obtain⟨its,_,pl,_⟩:=I.list (SqL.of hv)
  obtain⟨o,h1,h2,_⟩:=pl.isList
  refine Qft I ⟨o,h1,h2⟩ (.inr rfl) (B.lst _) (fin _ ?_)
  simpa [isInst,isTy] using p.ret sr _ (.bl _)
 | dic _ _=>exact p.elim
 | exn0 _ _=>exact p.elim
 | exn _ _ _ _=>exact p.elim
theorem Qfv {y : Str} {p1 : Pos} (B : TyTab T) (hg : Gl X "isinstance") (hm : X.mg "isinstance" = none) (hgT : Gl X y) (hmT : X.mg y = none) (hvT : bootBuiltins y = some (.type T)) (ha : SE X e fa) (hv : bootBuiltins "isinstance" = some (.builtin "isinstance"))
  (hnT:y≠"__name__":=by decide) (hdT:(y == ("__debug__":Str))=false:=by decide)
  (he:starEach [e,.Name y p1] X.env=(false,eval e X.env)::starEach [.Name y p1] X.env:=by rfl) (he2:starEach [.Name y p1] X.env=(false,eval (.Name y p1) X.env)::starEach [] X.env:=by rfl) (hpl:(backTo pos (starEach [.Name y p1] X.env)).any (·.1)=false:=by rfl):
  SE X (.Call (.Name "isinstance" p) [e,.Name y p1] [] pos) (c1 (isInst [T]) fa):=
 (QbS (Qfu B) hg hm hv (QbE ha (QbE (QaB (v:=.ty T) hgT hmT hvT rfl hnT hdT) QbD he2) he) (by decide) (by decide) he hpl).of fun σ H Q h_=>h_.el fun ρ l st lr sr p=>⟨ρ,l,st,lr,sr,p.bnd.imp fun d st1 ρ1 H1 x1 s1 p1 v rv=>⟨v,rfl,ρ1,st1,d,s1,rv,p1⟩⟩
end
section
variable {X:Cx}{K:PySem.W.Frag}{ρ:List Addr}{H:Hp}{st:Sto}{pins:List (Addr × Obj)}{σ:St}{s:Shared}
theorem Qfw {f:D->D->Option Bool}:∀ {xs ys:List D}{r:Bool},allF f xs ys=some r->∀ (j:Nat) (x y:D),xs[j]?=some x->ys[j]?=some y->∃ k,f x y=some k
 | [],_,_,_,j,x,y,h,_=>by cases j<;>cases h
 | _::_,[],_,_,j,x,y,_,h=>by cases j<;>cases h
 | a::xs,b::ys,r,h,j,x,y,hx,hy=>by
  unfold allF at h
  cases e:f a b with
  | none=>rw[e]at h;cases h
  | some k=>
   cases j with
   | zero=>cases hx;cases hy;exact⟨k,e⟩
   | succ j=>
    rw[e]at h
    have hx':xs[j]?=some x:=hx
    have hy':ys[j]?=some y:=hy
    cases k with
    | true=>exact Qfw h j x y hx' hy'
    | false=>
     cases e2:allF f xs ys with
     | none=>rw[e2]at h;cases h
     | some r'=>exact Qfw e2 j x y hx' hy'
def itE (f:D->D->Option Bool) (xs ys:List D) (j:Nat):Bool:=match xs[j]?,ys[j]? with
 | some x,some y=>(f x y).getD false
 | _,_=>true
theorem Qfx {f:D->D->Option Bool}:∀ {xs ys:List D}{r:Bool},allF f xs ys=some r->r=((List.range (min xs.length ys.length)).all (itE f xs ys) && xs.length == ys.length)
 | [],[],_,h=>by cases h;rfl
 | _::_,[],_,h=>by cases h;simp
 | [],_::_,_,h=>by cases h;simp
 | a::xs,b::ys,r,h=>by
  have step:(List.range (min (a::xs).length (b::ys).length)).all (itE f (a::xs) (b::ys))=((f a b).getD false && (List.range (min xs.length ys.length)).all (itE f xs ys)):=by
   have e:min (a::xs).length (b::ys).length=min xs.length ys.length + 1:=by simp only[List.length_cons];ac_nf
   rw[e,List.range_succ_eq_map,List.all_cons,List.all_map]
   rfl
  rw[step]
  unfold allF at h
  cases e:f a b with
  | none=>rw[e]at h;cases h
  | some k=>
   rw[e]at h
   cases k with
   | true=>
    have:=Qfx h
    simp only[Option.getD_some,Bool.true_and,List.length_cons]
    rw[this]
    congr 1
    rw[Bool.eq_iff_iff];simp
   | false=>
    simp only[Option.getD_some,Bool.false_and]
    cases e2:allF f xs ys with
    | none=>rw[e2]at h;cases h
    | some r'=>rw[e2]at h;cases h;rfl
theorem Vals.at {vs:List V}{us:List Value}{j:Nat}{u:Value} (r:Vals vs us) (h:us[j]?=some u):∃ v,vs[j]?=some v/\RelV v u:=by
 have hl:=r.length
 have hj:j < vs.length:=by rw[hl];exact (List.getElem?_eq_some_iff.mp h).1
 obtain⟨u',e,ru⟩:=r.get (List.getElem?_eq_getElem hj)
 rw[h]at e;cases e
 exact⟨_,List.getElem?_eq_getElem hj,ru⟩
theorem Reps.at {vs:List V}{ds:List D}{j:Nat}{v:V} (r:Reps K ρ H vs ds) (h:vs[j]?=some v):∃ d,ds[j]?=some d/\Rep K ρ H v d:=by
 have hl:=r.length
 have hj:j < ds.length:=by rw[<- hl];exact (List.getElem?_eq_some_iff.mp h).1
 obtain⟨v',e,rv⟩:=r.get (List.getElem?_eq_getElem hj)
 rw[h]at e;cases e
 exact⟨_,List.getElem?_eq_getElem hj,rv⟩
theorem Qfy {g:List D->List D->Option Bool}{v:V}{d e:D}{r:Bool} (I:Inv X pins σ H s) (hg:∀ xs ys vs k,Reps X.K ρ H vs xs->Reps X.K ρ H vs ys->g xs ys=some k->k=true) (h:eqS g d e=some r) (r1:Rep X.K ρ H v d) (r2:Rep X.K ρ H v e):r=true:=by
 cases r1 with
 | non=>cases r2;cases h;rfl
 | bl b=>cases r2;cases h;simp
 | int b=>cases r2;cases h;simp
 | str b=>cases r2;cases h;simp
 | tup h1 q1=>
  cases r2 with
  | tup h2 q2=>
   have:=I.tuple_inj h1 h2
   subst this
   exact hg _ _ _ _ q1 q2 h
  | _=>cases h
 | lit _ _=>cases r2<;>cases h
 | ref _ _=>cases r2<;>cases h
 | dic _ _=>cases r2<;>cases h
 | exn0 _ _=>cases r2<;>cases h
 | exn _ _ _ _=>cases r2<;>cases h
theorem Qfz {f:D->D->Option Bool} (hf:∀ v d e k,Rep K ρ H v d->Rep K ρ H v e->f d e=some k->k=true) {xs ys:List D}{vs:List V}{k:Bool} (h1:Reps K ρ H vs xs) (h2:Reps K ρ H vs ys) (h:allF f xs ys=some k):k=true:=by
 induction xs generalizing ys vs k with
 | nil=>cases h1;cases h2;cases h;rfl
 | cons x xs ih=>
  cases h1 with
  | cons a b=>cases h2 with
   | cons c d=>
    unfold allF at h
    cases e:f _ _ with
    | none=>rw[e]at h;cases h
    | some k=>
     rw[e]at h
     have:=hf _ _ _ _ a c e
     subst this
     exact ih b d h
theorem QfA (I:Inv X pins σ H s):∀ (n:Nat) {v:V}{d e:D}{r:Bool},eqF n d e=some r->Rep X.K ρ H v d->Rep X.K ρ H v e->r=true
 | 0,_,_,_,_,h,r1,r2=>Qfy I (fun _ _ _ _ _ _ z=>by cases z) h r1 r2
 | n + 1,_,_,_,_,h,r1,r2=>Qfy I (fun xs ys vs k q1 q2 z=>Qfz (fun v d e k a b c=>QfA I n c a b) q1 q2 z) h r1 r2
open SeqAt in
theorem QfB {g : List D -> List D -> Option Bool} {A : Around} {v w : V} {u1 u2 : Value} {d e : D} {r : Bool} (I : Inv X pins σ H s) (hu : A.units < cLine)
  (hg:∀ xs ys k,g xs ys=some k->∀ vs ws its its2,Reps X.K ρ H vs xs->Reps X.K ρ H ws ys->Vals vs its->Vals ws its2 ->
   ∃ e:Nat->Bool,k=((List.range (min its.length its2.length)).all e && its.length == its2.length)/\∀ (j:Nat) x y,its[j]?=some x->its2[j]?=some y->EqAt A.in1 s x y (e j))
  (hs:∀ xs ys vs k,Reps X.K ρ H vs xs->Reps X.K ρ H vs ys->g xs ys=some k->k=true)
  (h:eqS g d e=some r) (r1:Rep X.K ρ H v d) (r2:Rep X.K ρ H w e) (v1:RelV v u1) (v2:RelV w u2):RcAt A s u1 u2 r/\RcNeAt A s u1 u2 (!r)/\EqAt A s u1 u2 r:=by
 cases r1 with
 | lit _ _=>cases r2<;>cases h
 | ref _ _=>cases r2<;>cases h
 | dic _ _=>cases r2<;>cases h
 | exn0 _ _=>cases r2<;>cases h
 | exn _ _ _ _=>cases r2<;>cases h
 | non=>
  cases (show u1=Value.none from v1)
  cases r2 with
  | non=>cases (show u2=Value.none from v2);cases h;exact⟨.none_none,.none_none,.same _⟩
  | bl b=>cases (show u2=Value.bool b from v2);cases h;exact⟨.none_bool b,.none_bool b,.none_bool b⟩
  | int b=>obtain⟨t,rfl⟩:=(show ∃ t,u2=Value.int b t from v2);cases h;exact⟨.none_int b t,.none_int b t,.none_int b t⟩
  | str b=>obtain⟨t,rfl⟩:=(show ∃ t,u2=Value.str b t from v2);cases h;exact⟨.none_str b t,.none_str b t,.none_str b t⟩
  | tup h2 q2=>cases (show u2=Value.ref _ from v2);cases h;obtain⟨_,_,p,_⟩:=I.tuple h2;exact⟨.none_tuple p hu,.none_tuple p hu,.none_tuple p hu⟩
  | _=>cases h
 | bl a=>
  cases (show u1=Value.bool a from v1)
  cases r2 with
  | non=>cases (show u2=Value.none from v2);cases h;exact⟨.bool_none a,.bool_none a,.bool_none a⟩
  | bl b=>cases (show u2=Value.bool b from v2);cases h;exact⟨.bool_bool a b,.bool_bool a b,.bool_bool a b⟩
  | int b=>obtain⟨t,rfl⟩:=(show ∃ t,u2=Value.int b t from v2);cases h;exact⟨.bool_int a b t,.bool_int a b t,.bool_int a b t⟩
  | str b=>obtain⟨t,rfl⟩:=(show ∃ t,u2=Value.str b t from v2);cases h;exact⟨.bool_str a b t,.bool_str a b t,.bool_str a b t⟩
  | tup h2 q2=>cases (show u2=Value.ref _ from v2);cases h;obtain⟨_,_,p,_⟩:=I.tuple h2;exact⟨.bool_tuple a p hu,.bool_tuple a p hu,.bool_tuple a p hu⟩
  | _=>cases h
 | int a=>
  obtain⟨t1,rfl⟩:=(show ∃ t,u1=Value.int a t from v1)
  cases r2 with
  | non=>cases (show u2=Value.none from v2);cases h;exact⟨.int_none a t1,.int_none a t1,.int_none a t1⟩
  | bl b=>cases (show u2=Value.bool b from v2);cases h;exact⟨.int_bool a t1 b,.int_bool a t1 b,.int_bool a t1 b⟩
  | int b=>obtain⟨t,rfl⟩:=(show ∃ t,u2=Value.int b t from v2);cases h;exact⟨.int_int a t1 b t,.int_int a t1 b t,.int_int a t1 b t⟩
  | str b=>obtain⟨t,rfl⟩:=(show ∃ t,u2=Value.str b t from v2);cases h;exact⟨.int_str a t1 b t,.int_str a t1 b t,.int_str a t1 b t⟩
  | tup h2 q2=>cases (show u2=Value.ref _ from v2);cases h;obtain⟨_,_,p,_⟩:=I.tuple h2;exact⟨.int_tuple a t1 p hu,.int_tuple a t1 p hu,.int_tuple a t1 p hu⟩
  | _=>cases h
 | str a=>
  obtain⟨t1,rfl⟩:=(show ∃ t,u1=Value.str a t from v1)
  cases r2 with
  | non=>cases (show u2=Value.none from v2);cases h;exact⟨.str_none a t1,.str_none a t1,.str_none a t1⟩
  | bl b=>cases (show u2=Value.bool b from v2);cases h;exact⟨.str_bool a t1 b,.str_bool a t1 b,.str_bool a t1 b⟩
  | int b=>obtain⟨t,rfl⟩:=(show ∃ t,u2=Value.int b t from v2);cases h;exact⟨.str_int a t1 b t,.str_int a t1 b t,.str_int a t1 b t⟩
  | str b=>obtain⟨t,rfl⟩:=(show ∃ t,u2=Value.str b t from v2);cases h;exact⟨.str_str a t1 b t,.str_str a t1 b t,.str_str a t1 b t⟩
  | tup h2 q2=>cases (show u2=Value.ref _ from v2);cases h;obtain⟨_,_,p,_⟩:=I.tuple h2;exact⟨.str_tuple a t1 p hu,.str_tuple a t1 p hu,.str_tuple a t1 p hu⟩
  | _=>cases h
 | @tup l1 vs xs h1 q1=>
  cases (show u1=Value.ref _ from v1)
  obtain⟨its,rv,p,_⟩:=I.tuple h1
  cases r2 with
  | non=>cases (show u2=Value.none from v2);cases h;exact⟨.tuple_none p hu,.tuple_none p hu,.tuple_none p hu⟩
  | bl b=>cases (show u2=Value.bool b from v2);cases h;exact⟨.tuple_bool b p hu,.tuple_bool b p hu,.tuple_bool b p hu⟩
  | int b=>obtain⟨t,rfl⟩:=(show ∃ t,u2=Value.int b t from v2);cases h;exact⟨.tuple_int b t p hu,.tuple_int b t p hu,.tuple_int b t p hu⟩
  | str b=>obtain⟨t,rfl⟩:=(show ∃ t,u2=Value.str b t from v2);cases h;exact⟨.tuple_str b t p hu,.tuple_str b t p hu,.tuple_str b t p hu⟩
  | @tup l2 ws ys h2 q2=>
   cases (show u2=Value.ref _ from v2)
   obtain⟨its2,rw',p2,_⟩:=I.tuple h2
   obtain⟨ef,ek,he⟩:=hg xs ys r h vs ws its its2 q1 q2 rv rw'
   have hit:∀ j (a1:j < its.toArray.size) (a2:j < its2.toArray.size),EqAt A.in1 s its.toArray[j] its2.toArray[j] (ef j):=fun j a1 a2=>
    he j _ _ (by rw[List.getElem_toArray];exact List.getElem?_eq_getElem (by simpa using a1)) (by rw[List.getElem_toArray];exact List.getElem?_eq_getElem (by simpa using a2))
   have k1:=RcAt.tuples (A:=A) (s:=s) p p2 hu hit
   have k2:=RcNeAt.tuples (A:=A) (s:=s) p p2 hu hit
   simp only[List.size_toArray]at k1 k2
   rw[<- ek]at k1 k2
   refine⟨k1,k2,?_⟩
   by_cases hl:l1=l2
   ·subst hl
    have:=I.tuple_inj h1 h2
    subst this
    rw[hs xs ys vs r q1 q2 h]
    exact .same _
   ·exact .of_refs hl k1
  | _=>cases h
open SeqAt in
theorem QfC {n : Nat} {A : Around} (I : Inv X pins σ H s)
  (ih:∀ {v w:V}{u1 u2:Value}{d e:D}{r:Bool},eqF n d e=some r->Rep X.K ρ H v d->Rep X.K ρ H w e->RelV v u1->RelV w u2->EqAt A s u1 u2 r)
  {xs ys:List D}{k:Bool} (h:allF (eqF n) xs ys=some k) {vs ws:List V}{its its2:List Value} (q1:Reps X.K ρ H vs xs) (q2:Reps X.K ρ H ws ys) (rv:Vals vs its) (rw':Vals ws its2):
  ∃ e:Nat->Bool,k=((List.range (min its.length its2.length)).all e && its.length == its2.length)/\∀ (j:Nat) x y,its[j]?=some x->its2[j]?=some y->EqAt A s x y (e j):=by
 refine⟨itE (eqF n) xs ys,?_,fun j x y hx hy=>?_⟩
 ·have l1:=rv.length
  have l2:=rw'.length
  have l3:=q1.length
  have l4:=q2.length
  rw[<- l1,<- l2,l3,l4]
  exact Qfx h
 ·obtain⟨v,hv,ru⟩:=Vals.at rv hx
  obtain⟨w,hw,rw2⟩:=Vals.at rw' hy
  obtain⟨d,hd,rd⟩:=Reps.at q1 hv
  obtain⟨e,he,re⟩:=Reps.at q2 hw
  obtain⟨r,hr⟩:=Qfw h j d e hd he
  have:itE (eqF n) xs ys j=r:=by unfold itE;rw[hd,he];dsimp only;rw[hr];rfl
  rw[this]
  exact ih hr rd re ru rw2
open SeqAt in
theorem QfD (I:Inv X pins σ H s):∀ (n:Nat) {A:Around}{v w:V}{u1 u2:Value}{d e:D}{r:Bool},A.units + n < cLine->eqF n d e=some r->Rep X.K ρ H v d->Rep X.K ρ H w e->RelV v u1->RelV w u2->RcAt A s u1 u2 r/\RcNeAt A s u1 u2 (!r)/\EqAt A s u1 u2 r
 | 0,_,_,_,_,_,_,_,_,hu,h,r1,r2,v1,v2=>QfB I hu (fun _ _ _ z=>by cases z) (fun _ _ _ _ _ _ z=>by cases z) h r1 r2 v1 v2
 | n + 1, A, _, _, _, _, _, _, _, hu, h, r1, r2, v1, v2 => QfB I (by ac_nf)
   (fun xs ys k z vs ws its its2 q1 q2 rv rw'=>QfC I (fun h r1 r2 v1 v2=>(QfD I n (A:=A.in1) (by show A.units + 1 + n < cLine;ac_nf) h r1 r2 v1 v2).2.2) z q1 q2 rv rw')
   (fun xs ys vs k q1 q2 z=>Qfz (fun v d e k a b c=>QfA I n c a b) q1 q2 z) h r1 r2 v1 v2
end
section
variable {X:Cx}{K:PySem.W.Frag}{ρ:List Addr}{H:Hp}{st:Sto}{pins:List (Addr × Obj)}{σ:St}{s:Shared}
open SeqAt in
theorem QfE (hu : X.A.units + 60 < cLine) (I : Inv X pins σ H s) (sr : SR X.K ρ H st) {d e : D} {x y : V} {v u : Value} {R : Bool -> Sto -> List Addr -> Hp -> Prop} (r1 : Rep X.K ρ H x d) (r2 : Rep X.K ρ H y e) (rx : RelV x v) (ry : RelV y u)
  (p:Post X.K ρ H (eqB d e st) R):∃ r,R r st ρ H/\RcAt X.A s v u r/\RcNeAt X.A s v u (!r):=by
 have hu':X.A.units < cLine:=by ac_nf
 have gen:Post X.K ρ H ((match eqF 50 d e with | some r=>ret r | none=>bad:M Bool) st) R->∃ r,R r st ρ H/\RcAt X.A s v u r/\RcNeAt X.A s v u (!r):=fun q=>by
  cases h:eqF 50 d e with
  | none=>rw[h]at q;exact q.elim
  | some r=>
   rw[h]at q
   obtain⟨k1,k2,_⟩:=QfD I 50 (A:=X.A) (by ac_nf) h r1 r2 rx ry
   exact⟨r,q.ret sr,k1,k2⟩
 cases r1 with
 | non=>
  cases r2 with
  | @ref a n _ h=>
   obtain⟨ds,e2,p1⟩:=Post.getL (Post.bnd p) sr
   obtain⟨a',vs,ha,hv,r⟩:=sr.seq e2
   rw[h]at ha;cases ha
   cases (show v=Value.none from rx)
   cases (show u=Value.ref a from ry)
   obtain⟨_,_,pl,_⟩:=I.list (SqL.of hv)
   exact⟨false,p1.ret sr,.none_list pl.isList hu',.none_list pl.isList hu'⟩
  | _=>exact gen p
 | @ref a n _ h=>
  cases r2 with
  | non=>
   obtain⟨ds,e2,p1⟩:=Post.getL (Post.bnd p) sr
   obtain⟨a',vs,ha,hv,r⟩:=sr.seq e2
   rw[h]at ha;cases ha
   cases (show u=Value.none from ry)
   cases (show v=Value.ref a from rx)
   obtain⟨_,_,pl,_⟩:=I.list (SqL.of hv)
   exact⟨false,p1.ret sr,.list_none pl.isList hu',.list_none pl.isList hu'⟩
  | @ref b m _ h'=>
   obtain⟨xs,e2,p1⟩:=Post.getL (Post.bnd p) sr
   obtain⟨ys,e3,p2⟩:=Post.getL (Post.bnd p1) sr
   obtain⟨a',vs,ha,hv,q1⟩:=sr.seq e2
   obtain⟨b',ws,hb,hw,q2⟩:=sr.seq e3
   rw[h]at ha;cases ha
   rw[h']at hb;cases hb
   cases (show v=Value.ref a from rx)
   cases (show u=Value.ref b from ry)
   obtain⟨its,rv,pl,_⟩:=I.list (SqL.of hv)
   obtain⟨its2,rw',pl2,_⟩:=I.list (SqL.of hw)
   have l1:=rv.length
   have l2:=rw'.length
   have l3:=q1.length
   have l4:=q2.length
   by_cases hl:xs.length=ys.length
   ·rw[if_pos hl]at p2
    cases h2:allF (eqF 50) xs ys with
    | none=>rw[h2]at p2;exact p2.elim
    | some r=>
     rw[h2]at p2
     obtain⟨ef,ek,he⟩:=QfC (A:=X.A.in1) I (fun h r1 r2 v1 v2=>(QfD I 50 (A:=X.A.in1) (by show X.A.units + 1 + 50 < cLine;ac_nf) h r1 r2 v1 v2).2.2) h2 q1 q2 rv rw'
     have hsz:its.toArray.size=its2.toArray.size:=by rw[List.size_toArray,List.size_toArray];ac_nf
     have hit:∀ j (a1:j < its.toArray.size) (a2:j < its2.toArray.size),EqAt X.A.in1 s its.toArray[j] its2.toArray[j] (ef j):=fun j a1 a2=>
      he j _ _ (by rw[List.getElem_toArray];exact List.getElem?_eq_getElem (by simpa using a1)) (by rw[List.getElem_toArray];exact List.getElem?_eq_getElem (by simpa using a2))
     have ek2:(List.range its.toArray.size).all ef=r:=by
      rw[ek,List.size_toArray]
      have:its.length=its2.length:=by ac_nf
      rw[this];simp
     have k1:=RcAt.lists (A:=X.A) (s:=s) pl.isList pl2.isList hsz hu' hit
     have k2:=RcNeAt.lists (A:=X.A) (s:=s) pl.isList pl2.isList hsz hu' hit
     rw[ek2]at k1 k2
     exact⟨r,p2.ret sr,k1,k2⟩
   ·rw[if_neg hl]at p2
    have hne:(its.toArray.size != its2.toArray.size)=true:=by
     rw[List.size_toArray,List.size_toArray]
     simp
     ac_nf
    exact⟨false,p2.ret sr,.lists_lengths pl.isList pl2.isList hne hu',.lists_lengths pl.isList pl2.isList hne hu'⟩
  | _=>exact gen p
 | _=>cases r2<;>exact gen p
theorem QfF (hu:X.A.units + 60 < cLine):OpR X (compareOp .Eq) (rOf X.K eqD):=by
 intro pins s σ H x y v u Q I rx ry pq121;obtain⟨ρ,st,d,e,sr,r1,r2,p⟩:=pq121
 obtain⟨r,q,k1,_⟩:=QfE hu I sr r1 r2 rx ry p.bnd
 exact k1 _ _ _ _ ⟨.bl r,H,I,rfl,q.ret sr _ (.bl _)⟩
theorem QfG (hu:X.A.units + 60 < cLine):OpR X (compareOp .NotEq) (rOf X.K neD):=by
 intro pins s σ H x y v u Q I rx ry pq122;obtain⟨ρ,st,d,e,sr,r1,r2,p⟩:=pq122
 obtain⟨r,q,_,k2⟩:=QfE hu I sr r1 r2 rx ry p.bnd
 exact k2 _ _ _ _ ⟨.bl (!r),H,I,rfl,q.ret sr _ (.bl _)⟩
end
section
variable {X:Cx}{a b c e o tg:Expr}{es:List Expr}{pos apos cpos:Pos}{fa fb fc:CE}{ca cb:CA}{ta tb:CT}{K:PySem.W.Frag}{ρ:List Addr}{H:Hp}{st:Sto}{x:Str}{p:Pos}{T:String}
theorem QfH (ho : SE X o fa) (ha : SE X e fb) (hbase : attributeBase o "append" X.env (eval o X.env) = eval o X.env := by rfl)
  (hfew:((backTo cpos (starEach [e] X.env)).all (fun x => !x.1) && (backToKw cpos (keywordEach [] X.env)).all (fun x=>x.1.isSome)
   && decide ([e].length + ([]:List Keyword).length + (if ([]:List Keyword).isEmpty then 0 else 1) < 30))=true:=by rfl)
  (hline:(apos.endLine == cpos.line)=true:=by rfl) (hs:starEach [e] X.env=(false,eval e X.env)::starEach [] X.env:=by rfl) (hplain:(backTo cpos (starEach [] X.env)).any (·.1)=false:=by rfl):
  SE X (.Call (.Attribute o "append" apos) [e] [] cpos) (cAppend fa fb):=
 (Qcu PySem.F.plainAttrs_list PySem.F.slot_list_append PySem.F.type_list_append Qcy ho (QbE ha QbD hs) hbase hfew hline hs hplain).of fun σ H Q h_=>h_.el fun ρ l st lr sr p=>⟨ρ,l,st,lr,sr,p.bnd.imp fun d st1 ρ1 H1 x1 s1 p1 v rv=>by
  cases rv with
  | @ref a n kk h=>
   have hl:n < st1.length:=by rw[<- s1.len];exact (List.getElem?_eq_some_iff.mp h).1
   obtain⟨vs0,hv0⟩:=Qdq kk
   refine⟨.inl ⟨rfl,vs0,SqL.of hv0⟩,ρ1,l,st1,lr.mono x1,s1,(Post.bnd p1).imp fun y st2 ρ2 H2 x2 s2 p2 w rw'=>?_⟩
   have h2:ρ2[n]?=some a:=by
    obtain⟨τ,e,_⟩:=x2.pre
    rw[e];exact Qdo h
   obtain⟨ds,e2,p3⟩:=Post.getL (Post.bnd p2) s2
   obtain⟨a',vs,ha,hv,r⟩:=s2.seq e2
   rw[h2]at ha;cases ha
   obtain⟨hz,p4⟩:=Post.chk p3
   obtain⟨s3,x3⟩:=s2.put (List.getElem?_eq_some_iff.mp e2).1 h2 hv (Reps.app r (.cons rw' .nil))
   have p5:=Post.bnd p4
   unfold putL at p5
   rw[e2]at p5
   exact⟨a,vs,w,rfl,rfl,hv,by rw[r.length];exact hz,(p5 ρ2 _ x3 s3).ret s3 _ .non⟩
  | _=>exact p1.elim⟩
theorem QfI (ho:SE X o fa) (hbase:attributeBase o "clear" X.env (eval o X.env)=eval o X.env:=by rfl) (hline:(apos.endLine == cpos.line)=true:=by rfl):SE X (.Call (.Attribute o "clear" apos) [] [] cpos) (cClear fa):=
 (Qct PySem.F.plainAttrs_list PySem.F.slot_list_clear PySem.F.type_list_clear QcB ho hbase hline).of fun σ H Q h_=>h_.el fun ρ l st lr sr p=>⟨ρ,l,st,lr,sr,p.bnd.imp fun d st1 ρ1 H1 x1 s1 p1 v rv=>by
  cases rv with
  | @ref a n kk h=>
   have hl:n < st1.length:=by rw[<- s1.len];exact (List.getElem?_eq_some_iff.mp h).1
   obtain⟨vs0,hv0⟩:=Qdq kk
   obtain⟨s3,x3⟩:=s1.put (ds:=[]) (vs:=[]) hl h hv0 .nil
   have p5:=Post.bnd p1
   unfold putL at p5
   cases o:st1[n]? with
   | none=>rw[o]at p5;exact p5.elim
   | some ob=>
    rw[o]at p5
    cases ob with
    | lst ds'=>exact⟨.inl ⟨rfl,vs0,SqL.of hv0⟩,a,vs0,rfl,rfl,hv0,(p5 ρ1 _ x3 s3).ret s3 _ .non⟩
    | dct _ _=>exact p5.elim
  | _=>exact p1.elim⟩
theorem QfJ:OpR X (binaryOp .Add) (rOf X.K addD):=by
 intro pins s σ H x y v u Q I rx ry pq123;obtain⟨ρ,st,d,e,sr,r1,r2,p⟩:=pq123
 cases r1 with
 | int i=>
  cases r2 with
  | int j=>exact Qa9 pins s σ H _ _ v u Q I rx ry ⟨i,j,rfl,rfl,p.ret sr _ (.int _)⟩
  | _=>exact p.elim
 | str i=>
  cases r2 with
  | str j=>exact Qbs pins s σ H _ _ v u Q I rx ry ⟨i,j,rfl,rfl,(Post.chk p).1,(Post.chk p).2.ret sr _ (.str _)⟩
  | _=>exact p.elim
 | ref _ h=>
  cases r2 with
  | ref _ h'=>
   obtain⟨xs,e2,p1⟩:=Post.getL (Post.bnd p) sr
   obtain⟨ys,e3,p2⟩:=Post.getL (Post.bnd p1) sr
   obtain⟨a',vs,ha,hv,q1⟩:=sr.seq e2
   obtain⟨b',ws,hb,hw,q2⟩:=sr.seq e3
   rw[h]at ha;cases ha
   rw[h']at hb;cases hb
   obtain⟨hz,p3⟩:=Post.chk p2
   refine QcC pins s σ H _ _ v u Q I rx ry ⟨_,_,vs,ws,rfl,rfl,hv,hw,by rw[q1.length,q2.length];exact hz,fun q hq=>?_⟩
   have nq:=sr.fresh hq
   have x1:Ex ρ H (ρ++[q]) (upd H q (.lst (vs++ws))):=Ex.newL hq
   refine p3 _ _ x1 ((sr.new hq).keep Qai nq ((Reps.app q1 q2).mono (Ex.new hq))) _ (.ref ⟨_,Qai,rfl⟩ ?_)
   rw[<- sr.len];simp
  | _=>exact p.elim
 | tup h1 q1=>
  cases r2 with
  | tup h2 q2=>
   obtain⟨hz,p2⟩:=Post.chk p
   rename_i a1 vs xs b1 ws ys
   by_cases hx:vs=[]
   ·subst hx
    cases q1
    obtain⟨its,v1,ht,_⟩:=I.tuple h1
    obtain⟨its2,v2,hb,_⟩:=I.tuple h2
    cases v1
    have ev:v=Value.ref a1:=rx
    have eu:u=Value.ref b1:=ry
    subst ev eu
    obtain⟨⟨cls,dd,data,sl⟩,ho,hc,n,hd⟩:=ht
    obtain⟨⟨cls2,dd2,data2,sl2⟩,ho2,hc2,n2,hd2⟩:=hb
    simp only at hc hd hc2 hd2
    subst hc hd hc2 hd2
    refine concat_meets (E:=X.xe) ⟨_,ho,rfl⟩ ⟨_,ho2,rfl⟩ noFill_tuple_add seq_tuple_add PySem.F.slot_tuple_add PySem.F.entry_tuple_add (PySem.F.args_tuple_add_2 _ _) (tuple_addW0 a1 b1 _ _ n n2 dd dd2 sl sl2 (by simp)) ⟨ho,ho2,?_⟩
    exact⟨.ref b1,H,I,rfl,p2.ret sr _ (.tup h2 q2)⟩
   ·refine Qb7 pins s σ H _ _ v u Q I rx ry ⟨_,_,vs,ws,rfl,rfl,h1,h2,hx,by rw[q1.length,q2.length];exact hz,fun he=>?_,fun _ q hq=>?_⟩
    ·subst he
     cases q2
     rw[List.append_nil]at p2
     exact p2.ret sr _ (.tup h1 q1)
    ·exact p2 _ _ (Ex.new hq) (sr.new hq) _ (.tup (SqT.of Qai) ((Reps.app q1 q2).mono (Ex.new hq)))
  | _=>exact p.elim
 | _=>cases r2<;>exact p.elim
def toOf (K:PySem.W.Frag) (f:CO):TO:=fun σ H Q=>∃ ρ l st,LR K ρ H σ l/\SR K ρ H st/\Post K ρ H (f l st) fun o _ _ H'=>Q o H'
abbrev SO (X:Cx) (e:Option Expr) (f:CO):Prop:=PO X e (toOf X.K f)
theorem QfK:SO X none oNone:=fun pins s σ H Q I h_=>h_.el fun ρ l st lr sr p=>Qb2 pins s σ H Q I (p.ret sr)
theorem QfL (h:SE X e fa):SO X (some e) (oSome fa):=fun pins s σ H Q I h_=>h_.el fun ρ l st lr sr p=>Qb3 h pins s σ H Q I ⟨ρ,l,st,lr,sr,p.bnd.imp fun d st1 ρ1 H1 x1 s1 p1 v rv=>by
 cases rv with
 | int i=>exact⟨i,rfl,p1.ret s1⟩
 | _=>exact p1.elim⟩
theorem Reps.cut {vs:List V}{ds:List D} (r:Reps K ρ H vs ds) (lo hi:Option Int):Reps K ρ H (cutV vs lo hi) (cutD ds lo hi):=by
 unfold cutV cutD
 have e:∀ n d o,HT.sIx n d o=MM.sIx n d o:=fun n d o=>by cases o<;>rfl
 rw[e,e,r.length]
 exact (r.drop _).take _
theorem QfM {lo hi:Option Expr}{fl fh:CO}{p2:Pos} (h:SE X e fa) (hl:SO X lo fl) (hh:SO X hi fh):SL X (.Subscript e (.Slice lo hi none p2) pos) (aSlice fa fl fh):=
 (Qb4 Qcj h hl hh).of fun σ H Q h_=>h_.el fun ρ l st lr sr p=>⟨ρ,l,st,lr,sr,p.bnd0.imp fun d st1 ρ1 H1 x1 s1 p1 v rv=>⟨ρ1,l,st1,lr.mono x1,s1,(p1.bnd0.left x1).imp fun i st2 ρ2 H2 x2 s2 p2=>⟨ρ2,l,st2,(lr.mono x1).mono x2,s2,(p2.bnd0.left (x1.trans x2)).imp fun j st3 ρ3 H3 x3 s3 p3=>by
  have rv3:=(rv.mono x2).mono x3
  have x03:=x1.trans (x2.trans x3)
  have fin:∀ {a:Addr}{vs:List V}{ds:List D},SqL X.K H3 a vs->Reps X.K ρ3 H3 vs ds->Post X.K ρ H (ret (cutD ds i j) st3) (fun ds _ ρ' H'=>∀ a vs,H a=none->a∉ρ'->H' a=some (.lst vs)->Reps X.K ρ' H' vs ds->Q (.ref a) H')->rSlL X.K (.ref a) i j H3 Q:=fun {a vs ds} hs r q=>
   ⟨a,vs,rfl,hs,fun q1 hq1=>by
    have hn:H q1=none:=by
     cases z:H q1 with
     | none=>rfl
     | some o=>exact absurd hq1 (x03.trk q1 o z)
    exact q ρ3 _ (x03.trans (Ex.new hq1)) (s3.new hq1) q1 _ hn (s3.fresh hq1) Qai ((Reps.cut r i j).mono (Ex.new hq1))⟩
  cases rv3 with
  | lit h r=>exact fin h.seq r p3
  | ref _ h=>
   obtain⟨ds,e2,p4⟩:=Post.getL (p3.bnd0.left x03) s3
   obtain⟨a',vs,ha,hv,r⟩:=s3.seq e2
   rw[h]at ha;cases ha
   exact fin (SqL.of hv) r p4
  | _=>exact p3.elim⟩⟩⟩
end
open PySem.AutoSeq1 (wpAny_loadPart')
section
variable {X:Cx}{K:PySem.W.Frag}{ρ:List Addr}{H:Hp}{st:Sto}
theorem QfN {v:V}{d:D} (r:Rep K ρ H v d) (h:flatD d=true):flatV v=true:=by
 cases r<;>first | rfl | cases h
theorem QfO:∀ {vs:List V}{ds:List D},Reps K ρ H vs ds->ds.all flatD=true->vs.all flatV=true
 | _,_,.nil,_=>rfl
 | _,_,.cons r t,h=>by
  rw[List.all_cons,Bool.and_eq_true]at h
  rw[List.all_cons,Bool.and_eq_true]
  exact⟨QfN r h.1,QfO t h.2⟩
theorem QfP {v w:V}{d e:D} (r:Rep K ρ H v d) (q:Rep K ρ H w e) (h:flatD d=true) (h':flatD e=true):eqV v w=eqFl d e:=by
 cases r<;>first | (cases q<;>first | rfl | cases h') | cases h
theorem QfQ {w:V}{e:D} (q:Rep K ρ H w e) (h':flatD e=true):∀ {vs:List V}{ds:List D},Reps K ρ H vs ds->ds.all flatD=true->inV w vs=ds.any fun d=>eqFl d e
 | _,_,.nil,_=>rfl
 | _,_,.cons r t,h=>by
  rw[List.all_cons,Bool.and_eq_true]at h
  have:=QfQ q h' t h.2
  unfold inV at this ⊢
  rw[List.any_cons,List.any_cons,this,QfP r q h.1 h']
theorem Post.hasK {n:Nat}{k:D}{R:Bool->Sto->List Addr->Hp->Prop} (h:Post K ρ H (MM.hasK n k st) R) (s:SR K ρ H st):∃ b kvs,st[n]?=some (.dct b kvs)/\kOk b k=true/\R (lkK kvs k).isSome st ρ H:=by
 obtain⟨b,kvs,e,p1⟩:=Post.getDc (Post.bnd h) s
 obtain⟨hk,p2⟩:=Post.chk p1
 exact⟨b,kvs,e,hk,p2.ret s⟩
theorem _root_.L2.OpR.orO {f:Value->Value->Sem Value}{r r':R2} (h:OpR X f r) (h':OpR X f r'):OpR X f (fun x y H Q=>r x y H Q\/r' x y H Q):=by
 intro pins s σ H x y v u Q I rx ry q
 rcases q with q | q
 ·exact h pins s σ H x y v u Q I rx ry q
 ·exact h' pins s σ H x y v u Q I rx ry q
theorem QfR (hu:X.A.units + 60 < cLine):OpR X (compareOp .NotIn) (fun x y H Q=>∃ (ρ:List Addr) (st:Sto) (n:Nat) (a:Addr) (b:Bool) (kvs:List (D × D)) (k:D),y=.ref a/\SR X.K ρ H st/\ρ[n]?=some a/\st[n]?=some (.dct b kvs)/\Rep X.K ρ H x k/\kOk b k=true/\Q (.bl (!(lkK kvs k).isSome)) H):=by
 intro pins s σ H x y v u Q I rx ry pq124;obtain⟨ρ,st,n,a,b,kvs,k,e,sr,ha,hn,rk,hk,q⟩:=pq124
 subst e
 cases ry
 exact QdS (by ac_nf) I (sr.ob n a _ ha hn) rk hk rx fun s' I'=>⟨.bl _,H,I',rfl,q⟩
theorem QfS (hu:X.A.units + 60 < cLine):OpR X (compareOp .NotIn) (rOf X.K ninD):=(Qco.orO (QfR hu)).of fun x y H Q pq78=>by
 obtain⟨ρ,st,d,e,sr,r1,r2,p⟩:=pq78
 have fin:∀ {a:Addr}{vs:List V}{ds:List D} (hq:SqL X.K H a vs\/SqT X.K H a vs) (r:Reps X.K ρ H vs ds) (p1:Post X.K ρ H (ninL d ds st) fun r _ ρ' H'=>∀ v,Rep X.K ρ' H' v r->Q v H'),rIn X.K true x (.ref a) H Q:=fun hq r p1=>by
  obtain⟨⟨h1,h2⟩,p2⟩:=Post.chk p1
  refine⟨_,_,rfl,hq,QfN r1 h1,QfO r h2,?_⟩
  rw[if_pos rfl,QfQ r1 h1 r h2]
  exact p2.ret sr _ (.bl _)
 cases r2 with
 | tup h r=>exact .inl (fin (.inr h) r ((Post.bnd p).ret sr))
 | lit h r=>exact .inl (fin (.inl h.seq) r ((Post.bnd p).ret sr))
 | ref _ h=>
  obtain⟨ds,e2,p1⟩:=Post.getL (Post.bnd p) sr
  obtain⟨a',vs,ha,hv,r⟩:=sr.seq e2
  rw[h]at ha;cases ha
  exact .inl (fin (.inl (SqL.of hv)) r p1)
 | @dic a n _ h=>
  obtain⟨b,kvs,e1,hk,q⟩:=Post.hasK (Post.bnd p) sr
  exact .inr ⟨ρ,st,n,a,b,kvs,d,rfl,sr,h,e1,r1,hk,(q.ret sr) _ (.bl _)⟩
 | _=>exact (show False from p).elim
theorem QfT:UnR X (unaryOp .USub) (uOf X.K negD):=by
 intro pins s σ H x v Q I rx pq125;obtain⟨ρ,st,d,sr,r1,p⟩:=pq125
 cases r1 with
 | int i=>exact Qbf pins s σ H _ v Q I rx ⟨i,rfl,p.ret sr _ (.int _)⟩
 | _=>exact p.elim
end
section
variable {X:Cx}{a b c e o tg:Expr}{es:List Expr}{pos apos cpos:Pos}{fa fb fc:CE}{ca cb:CA}{ta tb:CT}{K:PySem.W.Frag}{ρ:List Addr}{H:Hp}{st:Sto}{x:Str}{p:Pos}{T id:String}{body:List Stmt}{cs:CS}
theorem QfU {op:UnaryOp}{g:D->M D} (ho:UnR X (unaryOp op) (uOf X.K g)) (ha:SE X a fa):SE X (.UnaryOp op a pos) (c1 g fa):=
 (Qa8 ho ha).of fun σ H Q h_=>h_.el fun ρ l st lr sr p=>⟨ρ,l,st,lr,sr,p.bnd.imp fun d st1 ρ1 H1 x1 s1 p1 v rv=>⟨ρ1,st1,d,s1,rv,p1⟩⟩
theorem QfV {g : D -> D -> M D} (hc : CallR X (.builtin id) (fun xs H Q => ∃ v w, xs = [v, w] /\ rOf X.K g v w H Q)) (hg : Gl X x) (hm : X.mg x = none) (hv : bootBuiltins x = some (.builtin id)) (ha : SE X a fa) (hb : SE X b fb) (hn : x ≠ "__name__" := by decide) (hdb : (x == ("__debug__" : Str)) = false := by decide)
  (he1:starEach [a,b] X.env=(false,eval a X.env)::starEach [b] X.env:=by rfl) (he2:starEach [b] X.env=(false,eval b X.env)::starEach [] X.env:=by rfl) (hpl:(backTo pos (starEach [b] X.env)).any (fun x=>x.fst)=false:=by rfl):SE X (.Call (.Name x p) [a,b] [] pos) (c2 g fa fb):=
 (QbS hc hg hm hv (QbE ha (QbE hb QbD he2) he1) hn hdb he1 hpl).of fun σ H Q h_=>h_.el fun ρ l st lr sr p=>⟨ρ,l,st,lr,sr,p.bnd.imp fun d st1 ρ1 H1 x1 s1 p1 v rv=>⟨ρ1,l,st1,lr.mono x1,s1,p1.bnd.imp fun e st2 ρ2 H2 x2 s2 p2 w rw'=>⟨v,w,rfl,ρ2,st2,d,e,s2,rv.mono x2,rw',p2⟩⟩⟩
theorem QfW (hc:X.calm=true):CallR X (.builtin "min") (fun xs H Q=>∃ v w,xs=[v,w]/\rOf X.K min2D v w H Q):=(Qbw hc).of fun xs H Q pq79=>by
 obtain⟨v,w,e,ρ,st,d1,d2,sr,r1,r2,p⟩:=pq79
 cases r1 with
 | int i=>
  cases r2 with
  | int j=>
   refine⟨i,j,e,?_⟩
   have:(if j < i then j else i)=min i j:=by ac_nf
   rw[this];exact p.ret sr _ (.int _)
  | _=>exact p.elim
 | _=>exact p.elim
theorem QfX (hc:X.calm=true):CallR X (.builtin "max") (fun xs H Q=>∃ v w,xs=[v,w]/\rOf X.K max2D v w H Q):=(Qbv hc).of fun xs H Q pq80=>by
 obtain⟨v,w,e,ρ,st,d1,d2,sr,r1,r2,p⟩:=pq80
 cases r1 with
 | int i=>
  cases r2 with
  | int j=>
   refine⟨i,j,e,?_⟩
   have:(if j > i then j else i)=max i j:=by ac_nf
   rw[this];exact p.ret sr _ (.int _)
  | _=>exact p.elim
 | _=>exact p.elim
theorem QfY (ho:SE X o fa) (hbase:attributeBase o "pop" X.env (eval o X.env)=eval o X.env:=by rfl) (hline:(apos.endLine == cpos.line)=true:=by rfl):SE X (.Call (.Attribute o "pop" apos) [] [] cpos) (cPop fa):=
 (Qct PySem.F.plainAttrs_list PySem.F.slot_list_pop PySem.F.type_list_pop QcA ho hbase hline).of fun σ H Q h_=>h_.el fun ρ l st lr sr p=>⟨ρ,l,st,lr,sr,p.bnd.imp fun d st1 ρ1 H1 x1 s1 p1 v rv=>by
  cases rv with
  | @ref a n _ h=>
   obtain⟨ds,e2,p2⟩:=Post.getL (Post.bnd p1) s1
   obtain⟨a',vs,ha,hv,r⟩:=s1.seq e2
   rw[h]at ha;cases ha
   cases e3:ds.getLast? with
   | none=>rw[e3]at p2;exact p2.elim
   | some d=>
    rw[e3]at p2
    have hl:=(List.getElem?_eq_some_iff.mp e2).1
    have e4:ds[ds.length - 1]?=some d:=by rw[<- List.getLast?_eq_getElem?];exact e3
    obtain⟨y,hy,ry⟩:=r.get e4
    have rd:Reps X.K ρ1 H1 vs.dropLast ds.dropLast:=by
     rw[List.dropLast_eq_take,List.dropLast_eq_take,r.length];exact r.take _
    obtain⟨s3,x3⟩:=s1.put hl h hv rd
    refine⟨.inl ⟨rfl,vs,SqL.of hv⟩,a,vs,y,rfl,rfl,hv,by rw[r.length];exact hy,?_⟩
    have p5:=Post.bnd p2
    unfold putL at p5
    rw[e2]at p5
    exact (p5 ρ1 _ x3 s3).ret s3 _ (ry.mono x3)
  | _=>exact p1.elim⟩
theorem Reps.rev:∀ {vs:List V}{ds:List D},Reps K ρ H vs ds->Reps K ρ H vs.reverse ds.reverse
 | _,_,.nil=>.nil
 | _,_,.cons r t=>by
  rw[List.reverse_cons,List.reverse_cons];exact Reps.app (Reps.rev t) (.cons r .nil)
theorem QfZ {p : Pos} (hg : Gl X "range") (hm : X.mg "range" = none) (h : SE X a fa) (h' : SE X b fb) (he1 : starEach [a, b] X.env = (false, eval a X.env) :: starEach [b] X.env := by rfl) (he2 : starEach [b] X.env = (false, eval b X.env) :: starEach [] X.env := by rfl)
  (hs:starEach [a,b] X.env=[(false,eval a X.env),(false,eval b X.env)]:=by rfl) (hs2:starEach [b] X.env=[(false,eval b X.env)]:=by rfl):SI X tg (.Call (.Name "range" p) [a,b] [] pos) (MM.iRng2 fa fb):=
 (Qa3 (tg:=tg) (p:=p) (pos:=pos) hg hm (QbE h (QbE h' QbD he2) he1) hs hs2).of fun σ H R h_=>h_.el fun ρ l st lr sr p=>⟨ρ,l,st,lr,sr,p.bnd.imp fun d st1 ρ1 H1 x1 s1 p1 v rv=>⟨ρ1,l,st1,lr.mono x1,s1,p1.bnd.imp fun e st2 ρ2 H2 x2 s2 p2 w rw'=>by
  have rv2:=rv.mono x2
  cases rv2 with
  | int i=>
   cases rw' with
   | int j=>
    obtain⟨⟨⟨h1,h2⟩,h3,h4⟩,p3⟩:=Post.chk p2
    exact⟨i,j,rfl,⟨h1,h2,h3,h4⟩,p3.ret s2 _ Qe1⟩
   | _=>exact p2.elim
  | _=>cases rw'<;>exact p2.elim⟩⟩
theorem Qf0 (hp:PassesOwn (model X.prog X.w) X.A X.env X.xe) (hc:ST X c ta) (hb:SSs X body cs):SS X (.While c body [] pos) (sWhile ta cs):=(QaV hp hc hb).of fun G σ H h_=>h_.el fun ρ l st lr sr p=>by
 unfold sWhile at p
 by_cases h:∃ n,∀ r,whileN ta cs n l st=r->r≠.bad
 ·rw[dif_pos h]at p
  generalize Classical.choose h=n at p
  refine⟨fun m σ H=>∃ ρ l st,LR X.K ρ H σ l/\SR X.K ρ H st/\Post X.K ρ H (whileN ta cs m l st) fun f _ ρ' H'=>match f with
   | .next l'=>∀ σ',LR X.K ρ' H' σ' l'->G.nx σ' H'
   | .ret d=>∀ v,Rep X.K ρ' H' v d->G.rt v H'
   | .brk l'=>∀ σ',LR X.K ρ' H' σ' l'->G.bk σ' H'
   | .cnt l'=>∀ σ',LR X.K ρ' H' σ' l'->G.ct σ' H',⟨n,ρ,l,st,lr,sr,p⟩,?_⟩
  intro m σ1 H1 pq126;obtain⟨ρ1,l1,st1,lr1,sr1,p1⟩:=pq126
  cases m with
  | zero=>exact p1.elim
  | succ m=>
   refine⟨ρ1,l1,st1,lr1,sr1,(Post.bnd p1).imp fun k st2 ρ2 H2 x2 s2 p2=>?_⟩
   cases k with
   | false=>exact p2.ret s2 _ (lr1.mono x2)
   | true=>
    refine⟨fun σ' H'=>∃ ρ l st,LR X.K ρ H' σ' l/\SR X.K ρ H' st/\Post X.K ρ H' (whileN ta cs m l st) _,fun σ' H' q=>⟨m,Nat.lt_succ_self m,q⟩,ρ2,l1,st2,lr1.mono x2,s2,(Post.bnd p2).imp fun f st3 ρ3 H3 x3 s3 p3=>?_⟩
    cases f with
    | next l'=>exact fun σ' lr'=>⟨ρ3,l',st3,lr',s3,p3⟩
    | ret d=>exact p3.ret s3
    | brk l'=>exact p3.ret s3
    | cnt l'=>exact fun σ' lr'=>⟨ρ3,l',st3,lr',s3,p3⟩
 ·rw[dif_neg h]at p;exact p.elim
end
section
variable {X:Cx}{e st:Expr}{pos p2 p3 p4:Pos}{fa:CE}{te:TE}{j:Nat}
theorem Qf1 {lo hi:Option Expr}{fl fh:CO}{p2:Pos} (h:SE X e fa) (hl:SO X lo fl) (hh:SO X hi fh):SE X (.Subscript e (.Slice lo hi none p2) pos) (cSliceT fa fl fh):=
 (Qb4 Qb6 h hl hh).of fun σ H Q h_=>h_.el fun ρ l st lr sr p=>⟨ρ,l,st,lr,sr,p.bnd.imp fun d st1 ρ1 H1 x1 s1 p1 v rv=>⟨ρ1,l,st1,lr.mono x1,s1,p1.bnd.imp fun i st2 ρ2 H2 x2 s2 p2=>⟨ρ2,l,st2,(lr.mono x1).mono x2,s2,p2.bnd.imp fun j st3 ρ3 H3 x3 s3 p3=>by
  have rv3:=(rv.mono x2).mono x3
  have e:∀ n d o,HT.sIx n d o=MM.sIx n d o:=fun n d o=>by cases o<;>rfl
  cases rv3 with
  | @tup a vs ds h r=>
   obtain⟨hw,p4⟩:=Post.chk p3
   exact⟨a,vs,rfl,h,by rw[e,e,r.length];exact hw,fun q hq=>p4 ρ3 _ (Ex.new hq) (s3.new hq) _ (.tup (SqT.of Qai) ((Reps.cut r i j).mono (Ex.new hq)))⟩
  | _=>exact p3.elim⟩⟩⟩
end
end MM
namespace MM
open PySem
def kEval {α:Type} (n:Nat) (f:Nat->Nat->Bool):PySem.W.KasT α->Option α
 | .ret a=>some a
 | .ask i j k=>if i < n/\j < n then kEval n f (k (f i j)) else none
def rowsD:List D->Option (List (List Int))
 | []=>some []
 | .tup xs::ds=>match numsL xs,rowsD ds with
  | some ns,some rs=>some (ns::rs)
  | _,_=>none
 | _=>none
def lexI:List Int->List Int->Bool
 | [],[]=>false
 | [],_::_=>true
 | _::_,[]=>false
 | a::as,b::bs=>if (a == b)=true then lexI as bs else decide (a < b)
def kSort (ds:List D):Option (List D):=match rowsD ds with
 | some rows => if (rows.all fun r => decide (0 < r.length)) = true /\ 2 <= ds.length /\ ds.length < 64 then (match kEval ds.length (fun i j => lexI (rows.getD i []) (rows.getD j [])) (PySem.W.kas_sort ds.length) with
   | some p=>if p.size<=1000 then some (p.toList.map fun i=>ds.getD i .non) else none
   | none=>none) else none
 | none=>none
def sortedD:D->M D
 | .ref n=>bnd (getL n) fun ds=>match kSort ds with
  | some es=>alloc (.lst es)
  | none=>bad
 | _=>bad
open PySem.Spec PyProof.Rows L2
theorem Qf2 {α : Type} {n : Nat} {f : Nat -> Nat -> Bool} {cmp : Nat -> Nat -> (Bool -> Shared -> Prop) -> Shared -> Prop} {G : α -> Shared -> Prop} {s : Shared} (hc : ∀ i j C, i < n -> j < n -> C (f i j) s -> cmp i j C s) :
  ∀ (t:PySem.W.KasT α) {a:α},kEval n f t=some a->G a s->t.kasWp cmp G s
 | .ret b,a,h,g=>by cases h;exact g
 | .ask i j k,a,h,g=>by
  unfold kEval at h
  by_cases hij:i < n/\j < n
  ·rw[if_pos hij]at h
   exact hc i j _ hij.1 hij.2 (Qf2 hc (k (f i j)) h g)
  ·rw[if_neg hij]at h;cases h
section
variable {prog:Program}{w:World}{A:Around}{s:Shared}{Q:Bool->Shared->Prop}
theorem Qf3 {as bs:List Int}{us ws:List Value} (i:Nat) {fin:Bool} (h1:IntsAre us as) (h2:IntsAre ws bs) (hf:fin=decide (as.length < bs.length)) (h:Q (lexI as bs) s):PySem.W.KatLex prog w A true fin Q (us.zip ws) i s:=by
 induction as generalizing bs us ws i fin with
 | nil=>
  cases h1
  refine PySem.W.kat_nil ?_
  cases h2 with
  | nil=>rw[hf];exact h
  | @cons b u vs bs r'=>
   rw[hf]
   have:decide (([]:List Int).length < (b::bs).length)=true:=by simp
   rw[this];exact h
 | cons a as ih=>
  cases h1 with
  | cons _ t r=>cases h2 with
   | nil=>
    refine PySem.W.kat_nil ?_
    rw[hf]
    have:decide ((a::as).length < ([]:List Int).length)=false:=by simp
    rw[this];exact h
   | @cons b u vs bs r'=>
    refine PySem.W.kat_cons (wpAny_eqBool_int ?_)
    unfold lexI at h
    by_cases e:(a == b)=true
    ·rw[e]
     rw[if_pos e]at h
     exact PySem.W.kat_yes (ih (i + 1) r r' (by rw[hf];simp) h)
    ·have e':(a == b)=false:=by simpa using e
     rw[e']
     rw[if_neg e]at h
     refine PySem.W.kat_no ?_
     cases i with
     | zero=>exact oneLt_int h
     | succ i=>exact PySem.W.kat_one _ _ (lt_int h)
end
section
variable {X:Cx}{K:PySem.W.Frag}{ρ:List Addr}{H:Hp}{st:Sto}
theorem Qf4 {pins : List (Addr × Obj)} {σ : St} {s : Shared} (I : Inv X pins σ H s) : ∀ {vs : List V} {ds : List D} {its : List Value} {rows : List (List Int)}, Reps X.K ρ H vs ds -> Vals vs its -> rowsD ds = some rows ->
  rows.length=ds.length/\∀ (i:Nat) (h:i < ds.length),∃ a xs,its[i]?=some (.ref a)/\IsTup s.heap a xs/\IntsAre xs.toList (rows.getD i [])
 | _,_,_,rows,.nil,.nil,e=>by cases e;exact⟨rfl,fun i h=>by simp at h⟩
 | _,_,_,rows,.cons (d:=d) (ds:=ds) r t,.cons ru tu,e=>by
  cases r with
  | @tup a vs' xs hq rr=>
   unfold rowsD at e
   cases e1:numsL xs with
   | none=>rw[e1]at e;cases e
   | some ns=>
    cases e2:rowsD ds with
    | none=>rw[e1,e2]at e;cases e
    | some rs=>
     rw[e1,e2]at e
     cases e
     obtain⟨l1,h1⟩:=Qf4 I t tu e2
     refine⟨by simp[l1],fun i hi=>?_⟩
     cases i with
     | succ i=>
      obtain⟨a',xs',q1,q2,q3⟩:=h1 i (by simpa using hi)
      exact⟨a',xs',by simpa using q1,q2,by simpa using q3⟩
     | zero=>
      obtain⟨its',rv,p,_⟩:=I.tuple hq
      cases (show _=Value.ref a from ru)
      have:=Qfn e1 rr
      subst this
      exact⟨a,_,rfl,p,by simpa using Qb1 rv⟩
  | _=>cases e
theorem Qf5 {h:Heap}{a:Addr}{m m':Str->Option Value} (x:h.Ns a m) (y:h.Ns a m'):m=m':=by
 obtain⟨o,es,ep,e1,e2,_,e3⟩:=x
 obtain⟨o',es',ep',f1,f2,_,f3⟩:=y
 rw[e1]at f1;cases f1
 rw[e2]at f2;cases f2
 funext n
 rw[<- e3 n,f3 n]
theorem Reps.pick:∀ {vs:List V}{ds:List D} (i:Nat),Reps K ρ H vs ds->Rep K ρ H (vs.getD i .non) (ds.getD i .non)
 | _,_,_,.nil=>by simp;exact .non
 | _,_,0,.cons r t=>by simpa using r
 | _,_,i + 1,.cons r t=>by simpa using Reps.pick i t
theorem Vals.pick:∀ {vs:List V}{us:List Value} (i:Nat),Vals vs us->RelV (vs.getD i .non) (us.getD i .none)
 | _,_,_,.nil=>by simp;rfl
 | _,_,0,.cons r t=>by simpa using r
 | _,_,i + 1,.cons r t=>by simpa using Vals.pick i t
theorem Reps.picks {vs:List V}{ds:List D} (r:Reps K ρ H vs ds):∀ (p:List Nat),Reps K ρ H (p.map fun i=>vs.getD i .non) (p.map fun i=>ds.getD i .non)
 | []=>.nil
 | i::p=>.cons (Reps.pick i r) (Reps.picks r p)
theorem Vals.picks {vs:List V}{us:List Value} (r:Vals vs us):∀ (p:List Nat),Vals (p.map fun i=>vs.getD i .non) (p.map fun i=>us.getD i .none)
 | []=>.nil
 | i::p=>.cons (Vals.pick i r) (Vals.picks r p)
theorem Qf6 {P:Program}{w:World}{H:Hp}{h:Heap}{a:Addr}{o:HO} (x:ObjOk P w H h a o):∃ ob,h.get? a=some ob:=by
 cases o with
 | lst _=>obtain⟨_,_,_,_,e⟩:=x;exact⟨_,e⟩
 | tup _=>obtain⟨_,_,_,ob,e,_⟩:=x;exact⟨_,e⟩
 | dK _=>obtain⟨_,_,_,_,ob,_,_,e,_⟩:=x;exact⟨_,e⟩
 | dT _=>obtain⟨_,_,_,_,ob,_,_,e,_⟩:=x;exact⟨_,e⟩
 | set _ _=>obtain⟨ob,_,_,_,e,_⟩:=x;exact⟨_,e⟩
 | ins _ _ _=>obtain⟨_,_,_,e,_⟩:=x;exact⟨_,e⟩
 | own _=>obtain⟨_,e⟩:=x;exact⟨_,e⟩
 | xd _=>obtain⟨_,⟨_,_,_,e,_⟩,_⟩:=x;exact⟨_,e⟩
 | rng _ _=>obtain⟨_,_,_,e⟩:=x;exact⟨_,e⟩
 | frz _ _=>obtain⟨e,_⟩:=x;exact⟨_,e⟩
 | tbl _=>exact⟨_,(show h.get? a=some _ from x)⟩
 | met _ _=>exact⟨_,(show h.get? a=some _ from x)⟩
 | ext _=>obtain⟨_,⟨_,e⟩,_⟩:=x;exact⟨_,e⟩
theorem Qf7 : CallR X (.builtin "sorted") (fun xs H Q => ∃ (l : Addr) (vs : List V) (ρ : List Addr) (ds : List D) (rows : List (List Int)) (p : Array Nat), xs = [.ref l] /\ SqL X.K H l vs /\ Reps X.K ρ H vs ds /\ rowsD ds = some rows /\ (rows.all fun r => decide (0 < r.length)) = true /\ 2 <= ds.length /\ ds.length < 64 /\
  kEval ds.length (fun i j=>lexI (rows.getD i []) (rows.getD j [])) (PySem.W.kas_sort ds.length)=some p/\p.size<=1000/\∀ q,H q=none->Q (.ref q) (upd H q (.lst (p.toList.map fun i=>vs.getD i .non)))):=by
 intro pins s σ H xs us Q I r h
 obtain⟨l,vs,ρ,ds,rows,p,rfl,hq,rr,hrows,hall,h2,h64,hev,hps,q⟩:=h
 obtain⟨u,rfl,rx⟩:=Qbt r
 cases rx
 obtain⟨its,rv,pl,hz⟩:=I.list hq
 have l1:=rv.length
 have l2:=rr.length
 have hil:its.length=ds.length:=by ac_nf
 obtain⟨hrl,hit⟩:=Qf4 I rr rv hrows
 obtain⟨m,F⟩:=I.fr
 have N:News X.base X.env.locals s.heap (allNews X.base s.heap X.env.locals):=Qar
 have neL:∀ a xs,IsTup s.heap a xs->a≠X.env.locals:=fun a xs ht e=>by
  obtain⟨o,ho,hc,n,hd⟩:=ht
  obtain⟨o',es,ep,ho',hd',_⟩:=F.ns
  rw[e,ho']at ho;cases ho
  rw[hd']at hd;cases hd
 have kept:∀ h',Fr X.base X.env.locals h' m->News X.base X.env.locals h' (allNews X.base s.heap X.env.locals)->∀ b o,b≠X.env.locals->s.heap.get? b=some o->h'.get? b=some o:=fun h' F' N' b o hb e=>by
  cases z:X.base.get? b with
  | some u=>
   have:=F.keep b u z
   rw[e]at this;cases this
   exact F'.keep b _ z
  | none=>exact (N' (b,o) (Qap hb z e)).1
 refine PySem.W.kat_sorted F N pl.isList (by ac_nf) (by ac_nf) fun D e1 h' F' N' hD=>?_
 have N'':News X.base X.env.locals h' (allNews X.base s.heap X.env.locals):=fun z hz=>N' z (List.mem_cons_of_mem _ hz)
 have hDL:=(N' _ (List.mem_cons_self ..)).2.1
 have hDb:=(N' _ (List.mem_cons_self ..)).2.2
 have hDs:s.heap.get? D=none:=by
  cases z:s.heap.get? D with
  | none=>rfl
  | some o=>exact absurd (hD _ (Qap hDL hDb z)) (Nat.lt_irrefl _)
 have hDH:H D=none:=by
  cases z:H D with
  | none=>rfl
  | some o=>
   obtain⟨ob,e⟩:=Qf6 (I.hok D o z)
   rw[hDs]at e;cases e
 have hit':∀ (i:Nat),i < ds.length->∃ a xs o n,its[i]?=some (.ref a)/\h'.get? a=some o/\o.cls=.type "tuple"/\o.data=.seq xs n/\IntsAre xs.toList (rows.getD i []):=fun i hi=>by
  obtain⟨a,xs,e,ht,hx⟩:=hit i hi
  have hn:=neL a xs ht
  obtain⟨o,ho,hc,n,hd⟩:=ht
  exact⟨a,xs,o,n,e,kept h' F' N'' a o hn ho,hc,hd,hx⟩
 have tups:∃ fs:List Value,PySem.W.KatTups h' its fs/\fs.length=its.length/\∀ v∈fs,∃ (k:Int) (t:Tok),v=.int k t:=by
  have gen:∀ (ys:List Value),(∀ v∈ys,∃ a xs o n,v=.ref a/\h'.get? a=some o/\o.cls=.type "tuple"/\o.data=.seq xs n/\∃ (k:Int) (t:Tok),xs[0]?=some (.int k t))->∃ fs:List Value,PySem.W.KatTups h' ys fs/\fs.length=ys.length/\∀ v∈fs,∃ (k:Int) (t:Tok),v=.int k t:=by
   intro ys
   induction ys with
   | nil=>exact fun _=>⟨[],trivial,rfl,by simp⟩
   | cons y ys ih=>
    intro hy
    obtain⟨fs,k1,k2,k3⟩:=ih fun v hv=>hy v (by simp[hv])
    obtain⟨a,xs,o,n,e,ho,hc,hd,k,t,hx⟩:=hy y (by simp)
    subst e
    exact⟨.int k t::fs,PySem.W.KatTups.cons ho hc hd hx k1,by simp[k2],fun v hv=>by
     rcases List.mem_cons.mp hv with z | z
     ·exact⟨k,t,z⟩
     ·exact k3 v z⟩
  refine gen its fun v hv=>?_
  obtain⟨i,hi⟩:=List.getElem?_of_mem hv
  have hlt:i < ds.length:=by rw[<- hil];exact (List.getElem?_eq_some_iff.mp hi).1
  obtain⟨a,xs,o,n,e,ho,hc,hd,hx⟩:=hit' i hlt
  rw[hi]at e;cases e
  refine⟨a,xs,o,n,rfl,ho,hc,hd,?_⟩
  have hpos:0 < (rows.getD i []).length:=by
   have hr:i < rows.length:=by ac_nf
   have:rows.getD i []=rows[i]:=by simp[hr]
   rw[this]
   have:=List.all_eq_true.mp hall rows[i] (List.getElem_mem hr)
   simpa using this
  cases hrow:rows.getD i [] with
  | nil=>rw[hrow]at hpos;simp at hpos
  | cons k ks=>
   rw[hrow]at hx
   cases hxs:xs.toList with
   | nil=>rw[hxs]at hx;cases hx
   | cons y ys=>
    rw[hxs]at hx
    cases hx with
    | cons _ t r=>exact⟨k,t,by rw[<- Array.getElem?_toList,hxs];rfl⟩
 obtain⟨fs,t1,t2,t3⟩:=tups
 refine PySem.W.kat_kind (T:=.type "int") t1 (by ac_nf) (fun v hv=>?_) (by decide) ?_
 ·obtain⟨k,t,e⟩:=t3 v hv
  subst e
  exact PySem.W.Looks.of_pure rfl
 refine Qf2 (n:=ds.length) (f:=fun i j=>lexI (rows.getD i []) (rows.getD j [])) (fun i j C hi hj hC=>?_) (PySem.W.kas_sort its.length) (a:=p) (by rw[hil];exact hev) ?_
 ·obtain⟨a,xs,o,n,e,ho,hc,hd,hx⟩:=hit' i hi
  obtain⟨b,ys,o',n',e',ho',hc',hd',hy⟩:=hit' j hj
  show wpAny _ _ (keyLt' _ (its.getD i Value.none) (its.getD j Value.none)) _ _ _
  have z1:its.getD i Value.none=.ref a:=by rw[List.getD_eq_getElem?_getD,e];rfl
  have z2:its.getD j Value.none=.ref b:=by rw[List.getD_eq_getElem?_getD,e'];rfl
  rw[z1,z2]
  refine PySem.W.kat_lt ho hd ho' hd' (Qf3 0 hx hy ?_ hC)
  have y1:=IntsAre.length hx
  have y2:=IntsAre.length hy
  rw[<- y1,<- y2,Array.length_toList,Array.length_toList]
 ·refine PySem.W.KasFin.intro F' N' (PySem.W.UpdF.head (fun z hz=>Nat.ne_of_lt (hD z hz))) fun h3 c F3 N3=>?_
  have N4:News X.base X.env.locals h3 (allNews X.base s.heap X.env.locals):=fun z hz=>N3 z (List.mem_cons_of_mem _ hz)
  have hD3:=(N3 _ (List.mem_cons_self ..)).1
  have kp:=kept h3 F3 N4
  have hsz:(p.toList.map fun i=>vs.getD i V.non).length<=sizeLine:=by
   rw[List.length_map,Array.length_toList]
   have:1000<=sizeLine:=by decide
   ac_nf
  have hfree:=I.free
  suffices I3:Inv X pins σ (upd H D (.lst (p.toList.map fun i=>vs.getD i V.non))) { s with heap:=h3,gens:=s.gens,drawn:=s.drawn,toks:=s.toks } by
   exact⟨.ref D,upd H D (.lst (p.toList.map fun i=>vs.getD i V.non)),I3,rfl,q D hDH⟩
  refine I.step (g':=s.gens) (d':=s.drawn) (t':=s.toks) (ch:=[]) (fun b hb=>by cases hb) (fun b o h1 _ _ e _=>kp b o h1 e) (fun b o h1 _ _ e _=>⟨o.slots,kp b o h1 e⟩)
   (fun b o _ e n1=>by rw[Qaj (fun z=>by rw[z,hDs]at e;cases e)];exact n1)
   (fun b o _ e=>by
    by_cases z:b=X.env.locals
    ·obtain⟨o',_,_,ho',_⟩:=F3.ns
     exact⟨o',by rw[z];exact ho'⟩
    ·exact⟨o,kp b o z e⟩)
   (fun b ys e=>by rw[Qaj (Qal e hDH)];exact e) (fun b o ys e=>by rw[Qaj (Qal e hDH)];exact e) (fun b ps e=>⟨#[],by rw[Qaj (Qal e hDH),e];simp⟩)
   (fun m' hm=>by rw[<- Qf5 F.ns hm];exact F3.ns) ?_ I.bare
  intro a o e
  by_cases z:a=D
  ·subst z
   rw[Qai]at e;cases e
   exact⟨hsz,_,c,Vals.picks rv p.toList,hD3⟩
  ·rw[Qaj z]at e
   refine (I.hok a o e).stay (fun b u hb e1=>kp b u (fun zz=>?_) e1) (fun b e1=>by rw[Qaj (Qal e1 hDH)];exact e1) (fun b ys e1=>by rw[Qaj (Qal e1 hDH)];exact e1)
   rcases hb with y | y
   ·rw[y]at zz;rw[zz,hfree]at e;cases e
   ·rw[zz,hfree]at y;cases y
theorem Qf8:CallR X (.builtin "sorted") (fun xs H Q=>∃ v,xs=[v]/\uOf X.K sortedD v H Q):=Qf7.of fun xs H Q pq81=>by
 obtain⟨v,e,ρ,st,d,sr,rv,p⟩:=pq81
 cases rv with
 | @ref a n _ h=>
  obtain⟨ds,e2,p1⟩:=Post.getL (Post.bnd p) sr
  obtain⟨a',vs,ha,hv,r⟩:=sr.seq e2
  rw[h]at ha;cases ha
  unfold kSort at p1
  cases hr:rowsD ds with
  | none=>rw[hr]at p1;exact p1.elim
  | some rows=>
   rw[hr]at p1
   by_cases hc:(rows.all fun r=>decide (0 < r.length))=true/\2<=ds.length/\ds.length < 64
   ·simp only[if_pos hc]at p1
    cases he:kEval ds.length (fun i j=>lexI (rows.getD i []) (rows.getD j [])) (PySem.W.kas_sort ds.length) with
    | none=>rw[he]at p1;exact p1.elim
    | some pp=>
     rw[he]at p1
     by_cases hz:pp.size<=1000
     ·simp only[if_pos hz]at p1
      refine⟨a,vs,ρ,ds,rows,pp,e,SqL.of hv,r,hr,hc.1,hc.2.1,hc.2.2,he,hz,fun q hq=>?_⟩
      have nl:=sr.fresh hq
      have s2:SR X.K (ρ++[q]) (upd H q (.lst (pp.toList.map fun i=>vs.getD i V.non))) (st++[.lst (pp.toList.map fun i=>ds.getD i D.non)]):=(sr.new hq).keep Qai nl ((Reps.picks r pp.toList).mono (Ex.new hq))
      refine p1 _ _ (Ex.newL hq) s2 _ (.ref ⟨_,Qai,rfl⟩ ?_)
      rw[<- sr.len];simp
     ·simp only[if_neg hz]at p1;exact p1.elim
   ·simp only[if_neg hc]at p1;exact p1.elim
 | _=>exact p.elim
end
section
variable {X:Cx}{tg:Expr}{es:List Expr}{pos:Pos}{fa fb:CE}{K:PySem.W.Frag}{ρ:List Addr}{H:Hp}{st:Sto}
theorem atI {h h':Heap}{it l:Addr}{k:Nat} (x:h.IsTupleIter it l k) (e:∀ o,h.get? it=some o->h'.get? it=some o):h'.IsTupleIter it l k:=let ⟨o,e1,r⟩:=x;⟨o,e o e1,r⟩
end
end MM
namespace PySem.F
theorem nolen_lri:typeLookup (.type "list_reverseiterator") "__len__"=pure none:=by rw[typeLookup_type,builtinLookup_eq_fast];kernel_rfl
theorem hint_lri:typeLookup (.type "list_reverseiterator") "__length_hint__"=pure (some (.builtin "list_reverseiterator.__length_hint__")):=by rw[typeLookup_type,builtinLookup_eq_fast];kernel_rfl
end PySem.F
namespace MM
open PySem PySem.Spec PyProof.Rows L2
section
variable {prog:Program}{w:World}{A:Around}{E:Value->Shared->Prop}{s:Shared}{r:Addr}
theorem Qf9 {Q:Bool->Shared->Prop} (hT:s.TypeIs (.ref r) "list_reverseiterator") (h:Q false s):wpAny (model prog w) A (Builtin.List.listLengthHint (.ref r)) Q E s:=by
 unfold Builtin.List.listLengthHint
 refine wpAny_bind (wpAny_specialOf hT PySem.F.nolen_lri ?_)
 show wpAny _ A (specialOf (Value.ref r) (Str.ofString "__length_hint__") >>= _) _ _ _
 refine wpAny_bind (wpAny_specialOf hT PySem.F.hint_lri ?_)
 generalize hid:("list_reverseiterator.__length_hint__":String)=id0
 wp_delta
 rw[show splitId id0=some ("list_reverseiterator","__length_hint__") from by subst hid;decide +kernel]
 subst hid
 refine wpAny_bind (wpAny_isInstance (b:=true) hT (by rw[isSubtype_type];kernel_rfl) ?_)
 exact wpAny_pure h
theorem Qga {R : Result -> Shared -> Prop} {I l : Addr} {items : Array Value} (hh : A.handled = none) (hit : s.heap.IsRevIter I l ((items.size : Int) - 1)) (hl : s.heap.IsList l items) (hne : l ≠ I) (S : Addr) (hSI : S ≠ I) (hSl : S ≠ l) (res : Value) (c₀ : Nat) (hS : s.heap.get? S = some { cls := .type "list", data := .seq #[] c₀ })
  (hR:∀ h' tk acc' c',(∀ b o,b≠S->b≠I->s.heap.get? b=some o->h'.get? b=some o)->h'.get? S=some { cls:=.type "list",dict:=none,data:=.seq acc' c',slots:=#[] }->ItemsOf (fun i v=>items[items.size - 1 - i]?=some v) acc' items.size->R (.ok (.ret res)) { s with heap:=h',toks:=tk }) (hn:items.size<=sizeLine):
  wpAny (model prog w) A.in1 (Builtin.List.listExtendWith (.ref S) (.ref I) res)
   (fun fin s'=>match fin with | .done f=>R (.ok f) s' | .again c'=>c'.quiet=true/\codeAny (model prog w) A c' R s') (fun e s'=>R (.error e) s') s:=by
 have W:=Walks.listRev (prog:=prog) (w:=w) (A:=A.in1) hh I l hne items
 have hSf:S∉[I,l]:=by simp only[List.mem_cons,List.not_mem_nil,or_false,not_or];exact⟨hSI,hSl⟩
 have st0:0<=items.size/\s.heap.IsRevIter I l ((items.size:Int) - 1 - ((0:Nat):Int))/\s.heap.IsList l items:=⟨Nat.zero_le _,by rw[show (items.size:Int) - 1 - ((0:Nat):Int)=(items.size:Int) - 1 by ac_nf];exact hit,hl⟩
 unfold Builtin.List.listExtendWith
 refine wpAny_bind (wpAny_typeOf hit.typeIs ?_)
 have h1:Builtin.List.listSameRef (.ref S) (.ref I)=false:=by simp[Builtin.List.listSameRef,hSI]
 rw[if_neg (by rw[h1];decide)]
 refine wpAny_bind (wpAny_pyIter_revIter hit ?_)
 refine wpAny_bind (wpAny_holding (Qf9 hit.typeIs ?_))
 rw[if_neg (by decide)]
 refine wpAny_pure ⟨plainId_quiet PySem.F.plain_extend_loop _,codeAny_extend_loopS W.toS hn S hSf res items.size 0 _ #[] c₀ rfl (Nat.zero_le _) st0 hS (ItemsOf.nil _) fun s' acc' c' hm hS' hacc=>?_⟩
 rw[Moved.eq_with hm]
 refine hR s'.heap s'.toks acc' c' (fun b o hb hbI e=>hm.heap b o (fun hmem=>?_) e) hS' hacc
 rcases List.mem_cons.mp hmem with e' | hmem
 ·exact hb e'
 ·exact hbI (List.mem_singleton.mp hmem)
theorem Qgb {Q : Value -> Shared -> Prop} {I l : Addr} {items : Array Value} (hh : A.handled = none) (hit : s.heap.IsRevIter I l ((items.size : Int) - 1)) (hl : s.heap.IsList l items) (hne : l ≠ I) (hn : items.size <= sizeLine)
  (hQ:∀ h' tk acc' c',(∀ b o,b≠I->s.heap.get? b=some o->h'.get? b=some o)->h'.get? s.heap.objs.size=some { cls:=.type "list",dict:=none,data:=.seq acc' c',slots:=#[] }->ItemsOf (fun i v=>items[items.size - 1 - i]?=some v) acc' items.size->Q (.ref s.heap.objs.size) { s with heap:=h',toks:=tk }):
  wpAny (model prog w) A (call (.type "list") [.ref I]) Q E s:=by
 refine callType_codes (Q₁:=fun obj s₁=>obj=.ref s.heap.objs.size/\s₁={ s with heap:=s.heap.push { cls:=.type "list",data:=.seq #[] } }) PySem.F.called_list (PySem.F.typeCall_list_1 _) PySem.F.entry_list_init
  (code_list_new _ ⟨rfl,rfl⟩) fun obj s₁ h₁=>?_
 obtain⟨rfl,rfl⟩:=h₁
 have hS:(s.heap.push { cls:=.type "list",data:=.seq #[] }).get? s.heap.objs.size=some { cls:=.type "list",data:=.seq #[] }:=Heap.get?_push_size _ rfl
 have hI:I < s.heap.objs.size:=let ⟨_,e,_⟩:=hit;Heap.lt_size e
 have hL:l < s.heap.objs.size:=let ⟨_,e,_⟩:=hl;Heap.lt_size e
 have hit1:(s.heap.push { cls:=.type "list",data:=.seq #[] }).IsRevIter I l ((items.size:Int) - 1):=let ⟨o,e,x⟩:=hit;⟨o,Heap.get?_push_of_some _ e,x⟩
 have hl1:(s.heap.push { cls:=.type "list",data:=.seq #[] }).IsList l items:=let ⟨o,e,x⟩:=hl;⟨o,Heap.get?_push_of_some _ e,x⟩
 refine⟨⟨_,hS,rfl⟩,PySem.F.args_list_init_2 _ _,?_⟩
 show wpAny _ A.in1.in1 (do let old <- Builtin.List.listItems (.ref s.heap.objs.size);Builtin.List.listUpdate (.ref s.heap.objs.size) (fun _=>#[]);letGo old.toList.reverse;Builtin.List.listExtendWith (.ref s.heap.objs.size) (.ref I) .none) _ _ _
 refine wpAny_bind ?_
 unfold Builtin.List.listItems
 refine wpAny_bind (wpAny_seqItems hS rfl (wpAny_pure ?_))
 show wpAny _ _ (updateSeq s.heap.objs.size (fun _=>#[]) >>= fun _=>letGo (#[]:Array Value).toList.reverse >>= fun _=>Builtin.List.listExtendWith (.ref s.heap.objs.size) (.ref I) .none) _ _ _
 refine wpAny_bind (wpAny_updateSeq hS rfl ?_)
 have hS₂:=Heap.get?_update_self (Obj.mapSeq (fun _=>(#[]:Array Value))) hS rfl
 have oth:∀ b o,b≠s.heap.objs.size->(s.heap.push { cls:=.type "list",data:=.seq #[] }).get? b=some o->((s.heap.push { cls:=.type "list",data:=.seq #[] }).update s.heap.objs.size (Obj.mapSeq (fun _=>(#[]:Array Value)))).get? b=some o:=
  fun b o hb e=>(Heap.get?_update_other _ _ (Ne.symm hb)).trans e
 refine wpAny_bind (wpAny_letGo ?_)
 refine Qga (A:=A.in1) hh (let ⟨o,e,x⟩:=hit1;⟨o,oth _ _ (Nat.ne_of_lt hI) e,x⟩) (let ⟨o,e,x⟩:=hl1;⟨o,oth _ _ (Nat.ne_of_lt hL) e,x⟩) hne s.heap.objs.size (Nat.ne_of_gt hI) (Nat.ne_of_gt hL) .none _ hS₂ (fun h' tk acc' c' hk hS' hacc=>?_) hn
 exact⟨rfl,hQ h' tk acc' c' (fun b o hbI e=>hk b o (Nat.ne_of_lt (Heap.lt_size e)) hbI (oth b o (Nat.ne_of_lt (Heap.lt_size e)) (Heap.get?_push_of_some _ e))) hS' hacc⟩
end
theorem Qgc {vs:List Value}{acc:Array Value} (h:ItemsOf (fun i v=>vs.toArray[vs.toArray.size - 1 - i]?=some v) acc vs.toArray.size):acc=vs.reverse.toArray:=by
 apply Array.ext'
 apply List.ext_getElem?
 intro i
 have hs:acc.size=vs.length:=by have:=h.1;simpa using this
 by_cases hi:i < vs.length
 ·have e1:acc[i]?=some (acc[i]'(by ac_nf)):=Array.getElem?_eq_getElem (by ac_nf)
  have e2:=h.2 i _ e1
  rw[Array.getElem?_toList,e1]
  simp only[List.getElem?_toArray,List.size_toArray]at e2
  rw[List.getElem?_reverse hi]
  exact e2.symm
 ·rw[List.getElem?_eq_none (by simp;ac_nf),List.getElem?_eq_none (by simp;ac_nf)]
theorem Vals.reverse:∀ {xs:List V}{us:List Value},Vals xs us->Vals xs.reverse us.reverse
 | _,_,.nil=>.nil
 | _,_,.cons r t=>by
  rw[List.reverse_cons,List.reverse_cons];exact L2.Vals.append (Vals.reverse t) (.cons r .nil)
section
variable {X:Cx}{a b c e o tg:Expr}{es:List Expr}{pos pos' apos cpos p p':Pos}{fa fb fc:CE}{ca cb:CA}{K:PySem.W.Frag}{ρ:List Addr}{H:Hp}{st:Sto}{te:TE}
theorem Qgd (hc : X.calm = true) (hg : Gl X "list") (hm : X.mg "list" = none) (hv : bootBuiltins "list" = some (.type "list")) (hg2 : Gl X "reversed") (hm2 : X.mg "reversed" = none) (hv2 : bootBuiltins "reversed" = some (.type "reversed")) (ha : PE X e te)
  (he:starEach [e] X.env=[(false,eval e X.env)]:=by rfl) (he2:starEach [.Call (.Name "reversed" p') [e] [] pos'] X.env=[(false,eval (.Call (.Name "reversed" p') [e] [] pos') X.env)]:=by rfl):
  PE X (.Call (.Name "list" p) [.Call (.Name "reversed" p') [e] [] pos'] [] pos) (fun σ H Q=>te σ H fun x H1=>∃ a xs,x=.ref a/\SqL X.K H1 a xs/\∀ q,H1 q=none->Q (.ref q) (upd H1 q (.lst xs.reverse))):=by
 intro pins s σ H Q I h
 refine wpAny_Call_Name_kw (QaA I hg hm hv ?_ (by decide) (by decide))
 refine PyProof.Rows.callWith_type1 ?_ he2 rfl
 rw[he2]
 show wpAny _ _ (spliced [(false,eval (.Call (.Name "reversed" p') [e] [] pos') X.env)]) _ _ s
 refine Calls.spliced_cons ?_
 refine wpAny_Call_Name_kw (QaA I hg2 hm2 hv2 ?_ (by decide) (by decide))
 refine PyProof.Rows.callWith_type1 ?_ he rfl
 rw[he]
 show wpAny _ _ (spliced [(false,eval e X.env)]) _ _ s
 refine Calls.spliced_cons (thn (ha pins s σ H _ I h) fun u s1 ⟨x,H1,I1,r1,a,xs,ex,hx,q⟩=>Calls.spliced_nil ?_)
 subst ex
 cases r1
 obtain⟨its,rv,pl,hz⟩:=I1.list hx
 have hlen:=rv.length
 refine call_reversed_list pl.isList (Calls.spliced_nil ?_)
 have hlt:a < s1.heap.objs.size:=let ⟨_,e,_⟩:=pl.isList;Heap.lt_size e
 refine Qgb (l:=a) (items:=its.toArray) (I1.ok.hd hc) ⟨_,Heap.get?_push_size _ rfl,rfl,rfl⟩ (let ⟨o,e,x⟩:=pl.isList;⟨o,Heap.get?_push_of_some _ e,x⟩) (Nat.ne_of_lt hlt) (by simp only[List.size_toArray];ac_nf) fun h' tk acc c hk hS hacc=>?_
 rw[Qgc hacc]at hS
 have kp:∀ b u,s1.heap.get? b=some u->h'.get? b=some u:=fun b u e=>hk b u (Nat.ne_of_lt (Heap.lt_size e)) (Heap.get?_push_of_some _ e)
 have hp:s1.heap.objs.size<=(s1.heap.push (revObj a ((its.toArray.size:Int) - 1))).objs.size:=by simp[Heap.push]
 refine⟨.ref _,_,I1.laid (t':=tk) (o:=.lst xs.reverse) kp hp ?_,rfl,q _ (I1.hok.fresh hp)⟩
 exact⟨by rw[List.length_reverse];exact hz,its.reverse,c,rv.reverse,hS⟩
theorem Qge (hc : X.calm = true) (hg : Gl X "list") (hm : X.mg "list" = none) (hv : bootBuiltins "list" = some (.type "list")) (hg2 : Gl X "reversed") (hm2 : X.mg "reversed" = none) (hv2 : bootBuiltins "reversed" = some (.type "reversed")) (ha : SL X e ca)
  (he:starEach [e] X.env=[(false,eval e X.env)]:=by rfl) (he2:starEach [.Call (.Name "reversed" p') [e] [] pos'] X.env=[(false,eval (.Call (.Name "reversed" p') [e] [] pos') X.env)]:=by rfl):
  SL X (.Call (.Name "list" p) [.Call (.Name "reversed" p') [e] [] pos'] [] pos) (aRev ca):=
 (Qgd hc hg hm hv hg2 hm2 hv2 ha he he2).of fun σ H Q h_=>h_.el fun ρ l st lr sr p=>⟨ρ,l,st,lr,sr,p.bnd0.imp fun ds st1 ρ1 H1 x1 s1 p1 a vs ha na hv rvs=>by
  refine⟨a,vs,rfl,SqL.of hv,fun q hq=>?_⟩
  have hn:H q=none:=by
   cases z:H q with
   | none=>rfl
   | some o=>exact absurd hq (x1.trk q o z)
  exact p1 ρ1 _ (x1.trans (Ex.new hq)) (s1.new hq) q _ hn (s1.fresh hq) Qai ((Reps.rev rvs).mono (Ex.new hq))⟩
theorem Reps.rep {vs:List V}{ds:List D} (h:Reps K ρ H vs ds):∀ k:Nat,Reps K ρ H (List.replicate k vs).flatten (List.replicate k ds).flatten
 | 0=>.nil
 | k + 1=>by
  rw[List.replicate_succ,List.replicate_succ,List.flatten_cons,List.flatten_cons]
  exact Reps.app h (Reps.rep h k)
theorem Qgf (ha:SL X a ca) (hb:SE X b fb):SL X (.BinOp a .Mult b pos) (aTimes ca fb):=
 (Qa7 QcE ha hb).of fun σ H Q h_=>h_.el fun ρ l st lr sr p=>⟨ρ,l,st,lr,sr,p.bnd0.imp fun ds st1 ρ1 H1 x1 s1 p1 a vs ha na hv rvs=>⟨ρ1,l,st1,lr.mono x1,s1,((p1.bnd0.left x1)).imp fun e st2 ρ2 H2 x2 s2 p2 u ru=>by
  cases ru with
  | int k=>
   obtain⟨⟨⟨h1,h2⟩,h3⟩,p3⟩:=Post.chk p2
   refine⟨a,k,vs,rfl,rfl,x2.lst a vs na hv,h1,h2,by rw[rvs.length];exact h3,fun q hq=>?_⟩
   have x02:=x1.trans x2
   have hn:H q=none:=by
    cases z:H q with
    | none=>rfl
    | some o=>exact absurd hq (x02.trk q o z)
   exact p3 ρ2 _ (x02.trans (Ex.new hq)) (s2.new hq) q _ hn (s2.fresh hq) Qai ((Reps.rep (rvs.mono x2) k.toNat).mono (Ex.new hq))
  | _=>exact p2.elim⟩⟩
theorem Qgg:SE X (.Dict [] [] pos) (cDNew false):=Qc7.of fun σ H Q pq83 q hq=>by
 obtain⟨ρ,l,st,lr,sr,p⟩:=pq83
 have p':∀ ρ' H',Ex ρ H ρ' H'->SR X.K ρ' H' (st++[.dct false []])->∀ v,Rep X.K ρ' H' v (.dic st.length)->Q v H':=p
 refine p' (ρ++[q]) _ (Ex.newO hq) ((sr.new hq).keepO (sr.fresh hq) ⟨[],Qai,.nil⟩) _ (.dic ⟨_,Qai,.inl rfl⟩ ?_)
 rw[<- sr.len];simp
def tDNewN (X:Cx):TE:=fun _ H Q=>∀ p,H p=none->Q (.ref p) (upd H p (nstO p []))
theorem Qgh:PE X (.Dict [] [] pos) (tDNewN X):=fun pins s σ H Q I h=>
 wpAny_Dict_empty ⟨.ref s.heap.objs.size,_,I.laid (a:=s.heap.objs.size) (o:=nstO s.heap.objs.size []) (t':=s.toks) (fun _ _ q=>Heap.get?_push_of_some _ q) (Nat.le_refl _)
  (QdO (P:=X.prog) (w:=X.w) (xs:=[]) (Nat.zero_le _) (beq_eq_false_iff_ne.mpr (Ne.symm (Nat.ne_of_lt I.big))) .nil (Heap.DictOfH.new s.heap) ⟨_,_,Heap.get?_push_size _ rfl,rfl⟩),rfl,h _ (I.hok.fresh (Nat.le_refl _))⟩
theorem Qgi:SE X (.Dict [] [] pos) (cDNew true):=Qgh.of fun σ H Q pq84 q hq=>by
 obtain⟨ρ,l,st,lr,sr,p⟩:=pq84
 have p':∀ ρ' H',Ex ρ H ρ' H'->SR X.K ρ' H' (st++[.dct true []])->∀ v,Rep X.K ρ' H' v (.dic st.length)->Q v H':=p
 refine p' (ρ++[q]) _ (Ex.newO hq) ((sr.new hq).keepO (sr.fresh hq) ⟨[],Qai,.nil⟩) _ (.dic ⟨_,Qai,.inr rfl⟩ ?_)
 rw[<- sr.len];simp
def SDs (X:Cx) (pos:Pos) (keys:List (Option Expr)) (values:List Expr) (ks:List Key) (ca:CA):Prop:=∃ trs,PPs X pos keys values trs /\
 ∀ σ H (Q:List (V × V)->Hp->Prop),(∃ ρ l st,LR X.K ρ H σ l/\SR X.K ρ H st/\Post X.K ρ H (ca l st) fun ds _ ρ' H'=>ks.length=ds.length/\∀ vs,Reps X.K ρ' H' vs ds->Q ((ks.zip vs).map fun kv=>(kV kv.1,kv.2)) H')->tPairs trs σ H Q
theorem Qgj:SDs X pos [] [] [] cNil:=⟨[],Qc8,fun σ H Q h_=>h_.el fun ρ l st lr sr p=>(p.ret sr).2 [] .nil⟩
theorem Qgk {x : Str} {j : Nat} {v : Expr} {ks : List (Option Expr)} {vs : List Expr} {kk : List Key} (hv : SE X v fa) (hr : SDs X pos ks vs kk ca) :
  SDs X pos (some (.Constant (.str x) j cpos)::ks) (v::vs) (.inr x::kk) (cCons fa ca):=by
 obtain⟨trs,h1,h2⟩:=hr
 refine⟨_,Qc9 Qay hv h1,fun σ H Q h_=>h_.el fun ρ l st lr sr p=>?_⟩
 refine⟨ρ,l,st,lr,sr,p.bnd.imp fun d st1 ρ1 H1 x1 s1 p1 v rv=>h2 _ _ _ ⟨ρ1,l,st1,lr.mono x1,s1,p1.bnd.imp fun ds st2 ρ2 H2 x2 s2 p2=>?_⟩⟩
 obtain⟨hl,q⟩:=p2.ret s2
 refine⟨by simpa using hl,fun vs rvs=>?_⟩
 exact q (v::vs) (.cons (rv.mono x2) rvs)
theorem KR.zip:∀ {ks:List Key}{vs:List V}{ds:List D},Reps K ρ H vs ds->KR K ρ H (ks.zip vs) ((ks.map keyD).zip ds)
 | [],_,_,_=>.nil
 | k::ks,_,_,.nil=>.nil
 | k::ks,_,_,.cons r t=>.cons ⟨rfl,r⟩ (KR.zip t)
theorem KR.merge:∀ {more:List (Key × V)}{rs:List (D × D)}{es:List (Key × V)}{kvs:List (D × D)},KR K ρ H more rs->KR K ρ H es kvs->KR K ρ H (mergeK es more) (mgK kvs rs)
 | _,_,_,_,.nil,q=>q
 | _,_,es,kvs,.cons (a:=p) (b:=q) (l₁:=ps) (l₂:=qs) h t,r=>by
  have z:=KR.put r p.1 h.2
  rw[h.1]at z
  show KR K ρ H (mergeK (L2.putK es p.1 p.2) ps) (mgK (ptK kvs q.1 q.2) qs)
  exact KR.merge (more:=ps) (rs:=qs) t z
theorem Qgl {keys : List (Option Expr)} {values : List Expr} {ks : List Key} (h : SDs X pos keys values ks ca) (hall : keys.all (·.isSome) = true := by rfl) (hl : keys.length = values.length := by rfl) (h0 : keys ≠ [] := by simp) (h15 : keys.length <= 15 := by decide) (hk : ks.length <= 15 := by decide) :
  SE X (.Dict keys values pos) (cDisp (ks.map keyD) ca):=by
 obtain⟨trs,h1,h2⟩:=h
 refine (Qdc h1 hall hl h0 h15).of fun σ H Q ⟨ρ,l,st,lr,sr,p⟩ q hq=>h2 _ _ _ ?_
 have hn:=sr.fresh hq
 refine⟨ρ,l,st,lr.mono (Ex.new hq),sr.new hq,(p.bnd0.left (Ex.new hq)).imp fun ds st1 ρ1 H1 x1 s1 p1=>?_⟩
 obtain⟨hlen,p2⟩:=Post.chk p1
 rw[List.length_map]at hlen
 have hq1:H1 q=some (.dK []):=x1.oth q _ hn Qai
 refine⟨hlen,fun vs rvs=>⟨hq1,ks.zip vs,rfl,by simp;ac_nf,?_⟩⟩
 have ne:∀ b o,H b=some o->b≠q:=fun b o e z=>by rw[z,hq]at e;cases e
 have nq1:q∉ρ1:=by
  obtain⟨τ,e,f⟩:=x1.pre
  rw[e]
  intro z
  rcases List.mem_append.mp z with z | z
  ·exact hn z
  ·have:=f q z;rw[Qai]at this;cases this
 have up:Up ρ1 H1 ρ1 (upd H1 q (.dK (mergeK [] (ks.zip vs)))):=by
  refine⟨⟨[],by simp⟩,fun c o no w=>?_,fun c o w=>?_⟩
  ·rw[Qaj fun z=>by subst z;rw[hq1]at w;cases w;exact nomatch no];exact w
  ·by_cases z:c=q
   ·subst z;rw[hq1]at w;cases w;exact⟨_,Qai,rfl⟩
   ·exact⟨o,by rw[Qaj z];exact w,rfl⟩
 have s2:SR X.K ρ1 (upd H1 q (.dK (mergeK [] (ks.zip vs)))) st1:=⟨s1.len,s1.nd,fun n b o e1 e2=>ObR.mono (o:=o) up (s1.ob n b o e1 e2) fun u w=>by
  rw[Qaj (fun (z:b=q)=>nq1 (by rw[<- z];exact List.mem_of_getElem? e1))];exact w⟩
 have x2:Ex ρ H (ρ1++[q]) (upd H1 q (.dK (mergeK [] (ks.zip vs)))):=by
  obtain⟨τ,e,f⟩:=x1.pre
  refine⟨⟨τ++[q],by rw[e,List.append_assoc],fun b hb=>?_⟩,fun b o no e=>?_,fun b o nb e=>?_,fun b o e=>?_⟩
  ·rcases List.mem_append.mp hb with hb | hb
   ·have z:=f b hb
    by_cases w:b=q
    ·subst w;exact hq
    ·rw[Qaj w]at z;exact z
   ·rw[List.mem_singleton]at hb;rw[hb];exact hq
  ·rw[Qaj (ne b o e)];exact x1.fix b o no (by rw[Qaj (ne b o e)];exact e)
  ·rw[Qaj (ne b o e)];exact x1.oth b o nb (by rw[Qaj (ne b o e)];exact e)
  ·obtain⟨o',e',k'⟩:=x1.knd b o (by rw[Qaj (ne b o e)];exact e)
   exact⟨o',by rw[Qaj (ne b o e)];exact e',k'⟩
 have p3:∀ ρ' H',Ex ρ H ρ' H'->SR X.K ρ' H' (st1++[.dct false (mgK [] ((ks.map keyD).zip ds))])->∀ v,Rep X.K ρ' H' v (.dic st1.length)->Q v H':=p2
 refine p3 _ _ x2 (s2.keepO nq1 ⟨_,Qai,KR.merge (KR.zip (rvs.up up)) .nil⟩) _ (.dic ⟨_,Qai,.inl rfl⟩ ?_)
 rw[<- s1.len];simp
end
end MM
namespace MM
def cExtend (a b:CE):CE:=fun l=>bnd (a l) fun x=>match x with
 | .ref n=>bnd (b l) fun y=>match y with
  | .ref m=>bnd (getL n) fun xs=>bnd (getL m) fun ys=>chk (xs.length + ys.length<=lim) (bnd (putL n (xs++ys)) fun _=>ret .non)
  | _=>bad
 | _=>bad
open PySem PySem.Spec PyProof.Rows L2
mutual
theorem Qgm:∀ {a b c:D},eqK a b=true->eqK b c=true->eqK a c=true
 | .int i,b,c,h1,h2=>by
  obtain⟨j,rfl⟩:∃ j,b=.int j:=by cases b<;>simp[eqK]at h1 ⊢
  obtain⟨k,rfl⟩:∃ j,c=.int j:=by cases c<;>simp[eqK]at h2 ⊢
  simp[eqK]at h1 h2 ⊢;ac_nf
 | .str i,b,c,h1,h2=>by
  obtain⟨j,rfl⟩:∃ j,b=.str j:=by cases b<;>simp[eqK]at h1 ⊢
  obtain⟨k,rfl⟩:∃ j,c=.str j:=by cases c<;>simp[eqK]at h2 ⊢
  simp[eqK]at h1 h2 ⊢;rw[h1,h2]
 | .tup xs,b,c,h1,h2=>by
  obtain⟨ys,rfl⟩:∃ j,b=.tup j:=by cases b<;>simp[eqK]at h1 ⊢
  obtain⟨zs,rfl⟩:∃ j,c=.tup j:=by cases c<;>simp[eqK]at h2 ⊢
  rw[eqK]at h1 h2 ⊢
  exact eqKs_trans h1 h2
 | .non,_,_,h1,_=>by simp[eqK]at h1
 | .bl _,_,_,h1,_=>by simp[eqK]at h1
 | .lit _,_,_,h1,_=>by simp[eqK]at h1
 | .ref _,_,_,h1,_=>by simp[eqK]at h1
 | .dic _,_,_,h1,_=>by simp[eqK]at h1
theorem eqKs_trans:∀ {a b c:List D},eqKs a b=true->eqKs b c=true->eqKs a c=true
 | [],b,c,h1,h2=>by
  cases b with
  | nil=>exact h2
  | cons _ _=>simp[eqKs]at h1
 | x::xs,b,c,h1,h2=>by
  cases b with
  | nil=>simp[eqKs]at h1
  | cons y ys=>
   cases c with
   | nil=>simp[eqKs]at h2
   | cons z zs=>
    rw[eqKs,Bool.and_eq_true]at h1 h2 ⊢
    exact⟨Qgm h1.1 h2.1,eqKs_trans h1.2 h2.2⟩
end
section
variable {X:Cx}{pins:List (Addr × Obj)}{σ:St}{H:Hp}{s:Shared}{ρ:List Addr}
theorem Qgn {o e : Expr} {fa fb : CE} {apos cpos : Pos} (ho : SE X o fa) (ha : SE X e fb) (hbase : attributeBase o "extend" X.env (eval o X.env) = eval o X.env := by rfl)
  (hfew:((backTo cpos (starEach [e] X.env)).all (fun x => !x.1) && (backToKw cpos (keywordEach [] X.env)).all (fun x=>x.1.isSome)
   && decide ([e].length + ([]:List Keyword).length + (if ([]:List Keyword).isEmpty then 0 else 1) < 30))=true:=by rfl)
  (hline:(apos.endLine == cpos.line)=true:=by rfl) (hs:starEach [e] X.env=(false,eval e X.env)::starEach [] X.env:=by rfl) (hplain:(backTo cpos (starEach [] X.env)).any (·.1)=false:=by rfl):
  SE X (.Call (.Attribute o "extend" apos) [e] [] cpos) (cExtend fa fb):=
 (Qcu PySem.F.plainAttrs_list PySem.F.slot_list_extend PySem.F.type_list_extend Qcz ho (QbE ha QbD hs) hbase hfew hline hs hplain).of fun σ H Q h_=>h_.el fun ρ l st lr sr p=>⟨ρ,l,st,lr,sr,p.bnd.imp fun d st1 ρ1 H1 x1 s1 p1 v rv=>by
  cases rv with
  | @ref a n kk h=>
   obtain⟨vs0,hv0⟩:=Qdq kk
   refine⟨.inl ⟨rfl,vs0,SqL.of hv0⟩,ρ1,l,st1,lr.mono x1,s1,(Post.bnd p1).imp fun y st2 ρ2 H2 x2 s2 p2 w rw'=>?_⟩
   have h2:ρ2[n]?=some a:=by
    obtain⟨τ,e,_⟩:=x2.pre
    rw[e];exact Qdo h
   cases rw' with
   | @ref b m kk2 hb=>
    obtain⟨ds,e2,p3⟩:=Post.getL (Post.bnd p2) s2
    obtain⟨a',vs,ha,hv,r⟩:=s2.seq e2
    rw[h2]at ha;cases ha
    obtain⟨ds2,e3,p4⟩:=Post.getL (Post.bnd p3) s2
    obtain⟨b',ws,hb',hw,r2⟩:=s2.seq e3
    rw[hb]at hb';cases hb'
    obtain⟨hz,p5⟩:=Post.chk p4
    obtain⟨s3,x3⟩:=s2.put (List.getElem?_eq_some_iff.mp e2).1 h2 hv (Reps.app r r2)
    have p6:=Post.bnd p5
    unfold putL at p6
    rw[e2]at p6
    exact⟨a,b,vs,ws,rfl,rfl,hv,hw,by rw[r.length,r2.length];exact hz,(p6 ρ2 _ x3 s3).ret s3 _ .non⟩
   | _=>exact p2.elim
  | _=>exact p1.elim⟩
end
end MM
namespace MM
open PySem PyProof.Rows L2
section
open PySem.Builtin.Str
variable {prog:Program}{w:World}{A:Around}{E:Value->Shared->Prop}{s:Shared}
end
abbrev CF:=Str->Loc->M D
end MM
namespace MM
def sv (m:Nat):List Nat:=(List.range 4).filter fun i=>m.testBit i
open PySem PySem.W PyProof.Rows L2
def tb (led:Bool) (m:Nat):SetTable:=⟨7,(sv m).toArray,#[],0,led,0,true⟩
end MM
namespace MM
open PySem PySem.Spec PyProof.Rows L2
structure NameOk (x:Str):Prop where
 d:(x == ("__debug__":Str))=false
 c:(x == ("__classdict__":Str))=false
 n:x≠"__name__"
theorem nok {x:Str} (h:((x == ("__debug__":Str)) || (x == ("__classdict__":Str)) || decide (x=("__name__":Str)))=false):NameOk x:=by
 rw[Bool.or_eq_false_iff,Bool.or_eq_false_iff]at h
 exact⟨h.1.1,h.1.2,of_decide_eq_false h.2⟩
structure Sc (X:Cx) (sc:Scope):Prop where
 vis:∀ x k,sc.names.lookup x=some k->(k=.local\/k=.cell\/k=.free)->Vis X.env.scope x
 cel:∀ x,(sc.names.lookup x=some .cell\/sc.names.lookup x=some .free)->(X.env.kindOf x=some .cell\/X.env.kindOf x=some .free)
 glo:∀ x,sc.names.lookup x=some .globalImplicit->Gl X x
 loc:∀ x k,sc.names.lookup x=some k->(k=.local\/k=.cell)->L2.Loc X.env.scope x/\(X.fn x=true\/X.env.scope.names.lookup x=some .local)
 calm:X.calm=true
theorem Qgo {P : Program} {w : World} {K : PySem.W.Frag} {mg : Str -> Option Value} {base : Heap} {N : List Str} {qual : Str} {sc : Scope} {f : Addr} {cdv : Value} {A : Around} {outer : List Env} {s : Shared} {H : Hp} {E : XK} :
  Sc (cxOf CX0 P w K mg base N qual sc f cdv A outer s H E).nox sc where
 vis:=fun x k h hk=>by
  rcases hk with z | z | z<;>subst z
  ·exact .inl h
  ·exact .inr (.inl h)
  ·exact .inr (.inr h)
 cel:=fun x h=>h
 glo:=fun x h=>h
 loc:=fun x k h hk=>⟨by rcases hk with z | z<;>subst z;exact .inl h;exact .inr h,.inl rfl⟩
 calm:=rfl
theorem Qgp {X:Cx}{N:List Str}{scope:Scope}{fp:List Addr}{s:Shared}{H:Hp} (hc:X.calm=true):Sc (cxC X N scope fp s H) scope where
 vis:=fun x k h hk=>by
  show (relabel scope X.env).names.lookup x=_\/(relabel scope X.env).names.lookup x=_\/(relabel scope X.env).names.lookup x=_
  rw[Qd2,h,Option.map_some]
  rcases hk with z | z | z<;>subst z
  ·exact .inl rfl
  ·exact .inr (.inl rfl)
  ·by_cases hq:(NameKind.free == NameKind.free && X.env.scope.kind == .function && X.env.kindOf x == some .cell)=true
   ·rw[if_pos hq];exact .inr (.inl rfl)
   ·rw[if_neg hq];exact .inr (.inr rfl)
 cel:=fun x h=>by
  show (relabel scope X.env).names.lookup x=_\/(relabel scope X.env).names.lookup x=_
  rcases h with h | h<;>rw[Qd2,h,Option.map_some]
  ·exact .inl rfl
  ·by_cases hq:(NameKind.free == NameKind.free && X.env.scope.kind == .function && X.env.kindOf x == some .cell)=true
   ·rw[if_pos hq];exact .inl rfl
   ·rw[if_neg hq];exact .inr rfl
 glo:=fun x h=>by
  show (relabel scope X.env).names.lookup x=_
  rw[Qd2,h,Option.map_some];rfl
 loc:=fun x k h hk=>by
  refine⟨?_,.inl ?_⟩
  ·show (relabel scope X.env).names.lookup x=_\/(relabel scope X.env).names.lookup x=_
   rw[Qd2,h,Option.map_some]
   rcases hk with z | z<;>subst z
   ·exact .inl rfl
   ·exact .inr rfl
  ·show decide (scope.names.lookup x=some .local\/scope.names.lookup x=some .cell)=true
   rw[h]
   rcases hk with z | z<;>subst z<;>decide
 calm:=hc
def compChk (sc scope:Scope):Bool:=
 (scope.kind == .function) && scope.names.all (fun p=>p.2 != .local || scope.names.lookup p.1 == some .local) &&
 scope.names.all (fun p=>p.2 != .free || ((sc.names.lookup p.1 == some .cell || sc.names.lookup p.1 == some .free) && !scope.names.contains (p.1,.cell) && scope.names.lookup p.1 != some .local))
theorem Qgq {X:Cx}{sc scope:Scope} (S:Sc X sc) (h:compChk sc scope=true):CompScope X scope:=by
 unfold compChk at h
 rw[Bool.and_eq_true,Bool.and_eq_true]at h
 obtain⟨⟨h1,h2⟩,h3⟩:=h
 rw[List.all_eq_true]at h2 h3
 have fr:∀ x,(x,NameKind.free)∈scope.names->(sc.names.lookup x=some .cell\/sc.names.lookup x=some .free)/\(x,NameKind.cell)∉scope.names/\scope.names.lookup x≠some .local:=fun x hx=>by
  have q:=h3 _ hx
  simp only[bne_self_eq_false,Bool.false_or,Bool.and_eq_true,Bool.or_eq_true,beq_iff_eq,Bool.not_eq_true',bne_iff_ne,ne_eq]at q
  obtain⟨⟨q1,q2⟩,q3⟩:=q
  refine⟨q1,fun z=>?_,q3⟩
  have:scope.names.contains (x,NameKind.cell)=true:=List.contains_iff_mem.mpr z
  rw[this]at q2;cases q2
 refine⟨by simpa using h1,fun p hp hl=>?_,fun x hx=>S.cel x (fr x hx).1,fun x hx=>(fr x hx).2.1,fun x hx=>(fr x hx).2.2⟩
 have q:=h2 p hp
 rw[hl]at q
 simpa using q
def namesChk (N0:List Str) (scope:Scope) (N:List Str) (n:Nat) (ix:List Nat):Bool:=
 N.length == n + ix.length && (List.range ix.length).all fun j=>match ix[j]?,N[n + j]? with
  | some i,some x=>N0[i]? == some x && scope.names.lookup x == some .free
  | _,_=>false
theorem Qgr {X:Cx}{N0:List Str}{scope:Scope}{N:List Str}{n:Nat}{ix:List Nat} (hX:X.N=N0) (h:namesChk N0 scope N n ix=true):CompNames X scope N n ix:=by
 unfold namesChk at h
 rw[Bool.and_eq_true,List.all_eq_true]at h
 refine⟨by simpa using h.1,fun j i x hj hx=>?_⟩
 have q:=h.2 j (List.mem_range.mpr (List.getElem?_eq_some_iff.mp hj).1)
 rw[hj,hx]at q
 simp only[Bool.and_eq_true,beq_iff_eq]at q
 rw[hX]
 exact q
section
variable {X:Cx}{sc:Scope}{a b c e o tg:Expr}{es:List Expr}{pos p:Pos}{fa fb fc:CE}{ca cb:CA}{x:Str}{T id:String}
theorem Qgs (S:Sc X sc) (i:Nat) (hN:X.N[i]?=some x) {k:NameKind} (h:sc.names.lookup x=some k) (n:NameOk x) (hk:k=.local\/k=.cell\/k=.free:=by decide):SE X (.Name x pos) (cVar i):=Qdr i (Qav hN (S.vis x k h hk) n.d n.c)
theorem Qgt (S:Sc X sc) (i:Nat) (nd:X.N.Nodup) (hN:X.N[i]?=some x) {k:NameKind} (h:sc.names.lookup x=some k) (hk:k=.local\/k=.cell:=by decide):SG X (.Name x pos) (gVar i):=
 QeJ (QaO nd hN (S.loc x k h hk).1 (S.loc x k h hk).2)
theorem Qgu (S : Sc X sc) (i : Nat) (nd : X.N.Nodup) (hN : X.N[i]? = some x) {k : NameKind} (h : sc.names.lookup x = some k) {pos' : Pos} (he : SE X e fa) (hk : k = .local \/ k = .cell := by decide) (hs : swapsWith e (some (.Name x pos')) pos.line X.env = pure false := by rfl) :
  SS X (.Assign [.Name x pos'] e pos) (sAsg (gVar i) fa):=QeU nd hN (S.loc x k h hk).1 he hs (S.loc x k h hk).2
abbrev SK (X:Cx) (kws:List Keyword) (f:CA):Prop:=PK X kws (taOf X.K f)
theorem Qgv:SK X [] cNil:=fun pos pins s σ H Q I h_=>h_.el fun ρ l st lr sr p=>QbJ pos pins s σ H Q I (p.ret sr [] .nil)
theorem Qgw {kws:List Keyword}{nm:Option Str}{kpos:Pos} (ha:SE X e fa) (hr:SK X kws ca):SK X (⟨nm,e,kpos⟩::kws) (cCons fa ca):=fun pos pins s σ H Q I h_=>h_.el fun ρ l st lr sr p=>
 QbK ha hr pos pins s σ H Q I ⟨ρ,l,st,lr,sr,p.bnd.imp fun d st1 ρ1 H1 x1 s1 p1 v rv=>⟨ρ1,l,st1,lr.mono x1,s1,p1.bnd.imp fun ds st2 ρ2 H2 x2 s2 p2 vs rvs=>p2.ret s2 _ (.cons (rv.mono x2) rvs)⟩⟩
theorem Qgx {n:Nat} (h:∀ l st ds st',ca l st=.ok ds st'->ds.length=n):∀ l st ds st',cCons fa ca l st=.ok ds st'->ds.length=n + 1:=fun l st ds st' e=>by
 unfold cCons bnd at e
 cases q:fa l st with
 | ok d s1=>
  rw[q]at e
  dsimp only at e
  cases q2:ca l s1 with
  | ok es s2=>
   rw[q2]at e
   have:=h l s1 es s2 q2
   cases e
   simp[this]
  | exc _ _=>rw[q2]at e;cases e
  | bad=>rw[q2]at e;cases e
 | exc _ _=>rw[q]at e;cases e
 | bad=>rw[q]at e;cases e
theorem Qgy:∀ l st ds st',cNil l st=.ok ds st'->ds.length=0:=fun l st ds st' e=>by cases e;rfl
def KwBinds (K:PySem.W.Frag) (fd:FuncData) (ps:List Str):Prop:=∀ (s:Shared) (ws:List Value),ws.length=ps.length->BindsTo s fd ⟨[],ps.zip ws⟩ (ps.zip ws)
theorem Qgz {CX : CXT} {k n : Nat} {f : Addr} {fd : FuncData} {ps : List Str} {g : List D -> M D} {kw : Keyword} {kws : List Keyword} (F : FnOk X.prog X.w X.K X.mg X.base CX k f fd ps (spOf X.K n g)) (hr : Room k X.A) (hg : Gl X x) (hm : X.mg x = some (.ref f))
  (hk:PySem.W.keepIn X.K (.ref f)=true) (hb:KwBinds X.K fd ps) (hx:Passes CX X E0) (ha:SK X (kw::kws) ca) (hn:∀ l st ds st',ca l st=.ok ds st'->ds.length=n) (nk:NameOk x)
  (hall:(backToKw pos (keywordEach (kw::kws) X.env)).all (·.1.isSome)=true:=by rfl) (hks:(backToKw pos (keywordEach (kw::kws) X.env)).filterMap (·.1)=ps:=by rfl)
  (hpl:((backTo pos (starEach [] X.env)).any (·.1) || (backToKw pos (keywordEach (kw::kws) X.env)).any (·.1.isNone))=false:=by rfl):SE X (.Call (.Name x p) [] (kw::kws) pos) (cCall g ca):=by
 intro pins s σ H Q I pq127;obtain⟨ρ,l,st,lr,sr,q⟩:=pq127
 refine wpAny_Call_Name_kw (Qaz I hg hm ?_ nk.d)
 refine PySem.W.callWith_KW0 (h₀:=X.base) I.ok.mod.kin hk hall (thn (ha pos pins s σ H (fun zs H2=>spOf X.K n g zs H2 Q E0) I ⟨ρ,l,st,lr,sr,?_⟩) fun ws s2 ⟨zs,H2,I2,rz,q2⟩=>⟨I2.kIn,?_⟩) hpl
 ·have q':=Post.bnd q
  cases ec:ca l st with
  | bad=>rw[ec]at q';exact q'
  | exc _ _=>rw[ec]at q';exact q'
  | ok ds st1=>
   rw[ec]at q'
   intro ρ1 H1 x1 s1 vs rvs
   exact⟨by rw[rvs.length];exact hn l st ds st1 ec,ρ1,st1,ds,s1,rvs,q' ρ1 H1 x1 s1⟩
 ·rw[hks]
  have hl:ws.length=ps.length:=by rw[<- rz.length];exact F.len _ _ _ _ q2
  refine wpAny_call (codeAny_mono (F.run X.A X.stack s2 H2 ⟨[],ps.zip ws⟩ ws zs Q E0 hr I2.env0 (hb s2 ws hl) rz q2) fun r s' hq=>?_)
  cases r with
  | error e=>exact hx pins σ H2 s2 e s' I2 hq
  | ok fl=>
   cases fl with
   | ret u=>exact I2.after hq
   | next=>exact False.elim hq
   | brk=>exact False.elim hq
   | cont=>exact False.elim hq
theorem QgA {k n : Nat} {f : Addr} {fd : FuncData} {ps : List Str} {g : List D -> M D} (S : Sc X sc) (h : sc.names.lookup x = some .globalImplicit) (F : FnOk X.prog X.w X.K X.mg X.base CX0 k f fd ps (spOf X.K n g)) (hr : Room k X.A) (hm : X.mg x = some (.ref f))
  (hk:PySem.W.keepIn X.K (.ref f)=true) (hb:Binds X.K fd ps []) (nk:NameOk x) (ha:SA X (e::es) ca) (hn:∀ l st ds st',ca l st=.ok ds st'->ds.length=n)
  (he:starEach (e::es) X.env=(false,eval e X.env)::starEach es X.env:=by rfl) (hpl:(backTo pos (starEach es X.env)).any (·.1)=false:=by rfl):SE X (.Call (.Name x p) (e::es) [] pos) (cCall g ca):=
 Qey F hr (S.glo x h) hm hk hb QcM ha hn nk.d he hpl
end
theorem QgB {k:Nat}{X:Cx} (h:Room k X.A):X.A.units + 60 < cLine:=by have:=h.units;ac_nf
theorem QgC {P : Program} {w : World} {K : PySem.W.Frag} {mg : Str -> Option Value} {base : Heap} {x qual : Str} {sd : Stmt} {f : Addr} {fd : FuncData} {N ps : List Str} {k n m : Nat} {body : CS} (F : Fun K x qual sd f fd) (S : FnScope N ps (defScope sd)) (hn : ps.length = n) (hm : N.length = m)
  (hbody:∀ (cdv:Value) (A:Around) (outer:List Env) (s:Shared) (H:Hp) (E:XK),Room k (A.deeper (envOfC qual (defScope sd) s.heap.objs.size f cdv))->SSs (cxOf CX0 P w K mg base N qual (defScope sd) f cdv A outer s H E).nox (defBody sd) body):
  FnOk P w K mg base CX0 (k + 1) f fd ps (spOf K n (runDef m body)):=by
 subst hn hm
 exact QeY F S hbody
theorem QgD {K:PySem.W.Frag}{ρ:List Addr}{H:Hp}:∀ (ns:List Int),Reps K ρ H (ns.map V.int) (ns.map D.int)
 | []=>.nil
 | n::ns=>.cons (.int n) (QgD ns)
theorem QgE {K : PySem.W.Frag} {H : Hp} {a : Addr} {ns : List Int} {g : List D -> M D} (hO : Only H) (hS : SqL K H a (ns.map V.int)) (h : ∃ st', g [.lit (ns.map D.int)] [] = .ok (.bl true) st') :
  spOf K 1 g [.ref a] H (fun v _=>v=.bl true) fun _ _ _=>False:=by
 obtain⟨st',e⟩:=h
 have fz:FzL K H a (ns.map V.int):=by
  rcases hS with (h | ⟨o,h⟩) | h
  ·rcases hO a with z | ⟨ob,xs,z⟩<;>(rw[z]at h;cases h)
  ·exact .inl ⟨o,h⟩
  ·exact .inr h
 refine⟨rfl,[],[],_,⟨rfl,List.nodup_nil,fun n b o z=>by cases z⟩,.cons (.lit fz (QgD ns)) .nil,?_⟩
 rw[e]
 intro ρ' H' _ _ v rv
 cases rv
 rfl
@[elab_as_elim] theorem le1 {A:Type}{P:List A->Prop} (h:∀ a,P [a]) (us:List A) (hl:us.length=1):P us:=by
 cases us with
 | nil=>cases hl
 | cons a t=>cases t with
  | nil=>exact h a
  | cons b u=>simp at hl
@[elab_as_elim] theorem le2 {A:Type}{P:List A->Prop} (h:∀ a0 a1,P [a0,a1]) (us:List A) (hl:us.length=2):P us:=by
 cases us with
 | nil=>cases hl
 | cons a t=>exact le1 (P:=fun t=>P (a::t)) (h a) t (Nat.succ.inj hl)
@[elab_as_elim] theorem le3 {A:Type}{P:List A->Prop} (h:∀ a0 a1 a2,P [a0,a1,a2]) (us:List A) (hl:us.length=3):P us:=by
 cases us with
 | nil=>cases hl
 | cons a t=>exact le2 (P:=fun t=>P (a::t)) (h a) t (Nat.succ.inj hl)
@[elab_as_elim] theorem le4 {A:Type}{P:List A->Prop} (h:∀ a0 a1 a2 a3,P [a0,a1,a2,a3]) (us:List A) (hl:us.length=4):P us:=by
 cases us with
 | nil=>cases hl
 | cons a t=>exact le3 (P:=fun t=>P (a::t)) (h a) t (Nat.succ.inj hl)
def Kt (h h':Heap):Prop:=∀ c o,h.get? c=some o->o.cls=.type "tuple"->h'.get? c=some o
structure TKd (prog:Program) (w:World) (K:Type) [DecidableEq K] where
 is:Heap->K->Addr->Prop
 hash:K->Int
 draws:K->Nat
 keep:∀ {h h':Heap}{k:K}{b:Addr},Kt h h'->is h k b->is h' k b
 hashes:∀ {A:Around}{E:Value->Shared->Prop}{s:Shared}{k:K}{b:Addr}{Q:Int->Shared->Prop},A.units + 1 < cLine->is s.heap k b->Q (hash k) { s with toks:=s.toks + draws k }->wpAny (model prog w) A (pyHash (.ref b)) Q E s
 eqs:∀ {A:Around}{E:Value->Shared->Prop}{s:Shared}{x y:K}{a b:Addr}{Q:Bool->Shared->Prop},A.units + 1 < cLine->is s.heap x a->is s.heap y b->Q (decide (x=y)) s->wpAny (model prog w) A (eqBool (.ref a) (.ref b)) Q E s
 quiet:∀ {A:Around}{E:Value->Shared->Prop}{s:Shared}{k:K}{b:Addr}{Q:Bool->Shared->Prop},is s.heap k b->Q true s->wpAny (model prog w) A (eqIsQuiet 8 (.ref b)) Q E s
 cls:∀ {A:Around}{E:Value->Shared->Prop}{s:Shared}{k:K}{b:Addr}{Q:Bool->Shared->Prop},is s.heap k b->Q false s->wpAny (model prog w) A (ofAClassStatement 8 (.ref b)) Q E s
 byv:∀ {A:Around}{E:Value->Shared->Prop}{s:Shared}{k:K}{b:Addr}{Q:Bool->Shared->Prop},is s.heap k b->Q true s->wpAny (model prog w) A (hashByValue 8 (.ref b)) Q E s
section
variable {prog:Program}{w:World}{K:Type} [DecidableEq K] (T:TKd prog w K)
variable {T}
variable {A:Around}{E:Value->Shared->Prop}{s:Shared}{a:Addr}{led:Bool}{m:Nat}{key:Nat->K}{es:Array (Int × Value)}
end
section
variable {prog:Program}{w:World}{A:Around}{E:Value->Shared->Prop}{s:Shared}
theorem items_int {k:List Int}{vs:List Value} (h:ItemsAre (intKind prog w) k vs):∀ v∈vs,∃ i t,v=Value.int i t:=by
 induction h with
 | nil=>simp
 | cons h1 h2 ih=>
  intro v hv
  rcases List.mem_cons.mp hv with z | z
  ·subst z
   cases v with
   | int i t=>exact⟨i,t,rfl⟩
   | _=>exact nomatch h1
  ·exact ih v z
end
end MM
namespace MM
def refL (g:List D->M D):D->M D
 | .ref n=>bnd (getL n) g
 | _=>bad
open PySem PySem.W PyProof.Rows L2
section
variable {X:Cx}
theorem QgF {b:Value}{g:List D->M D} (h:CallR X b (lOf X.K g)):CallR X b (fun xs H Q=>∃ v,xs=[v]/\uOf X.K (refL g) v H Q):=h.of fun xs H Q pq88=>by
 obtain⟨v,e,ρ,st,d,sr,rv,p⟩:=pq88
 cases rv with
 | @ref a n _ h=>
  obtain⟨ds,e2,p1⟩:=Post.getL (Post.bnd p) sr
  obtain⟨a',vs,ha,hv,r⟩:=sr.seq e2
  rw[h]at ha;cases ha
  exact⟨a,vs,ρ,st,ds,e,SqL.of hv,sr,r,p1⟩
 | _=>exact p.elim
end
section
variable {prog:Program}{w:World}{A:Around}{E:Value->Shared->Prop}{s:Shared}{h₀:Heap}{L a:Addr}{m:Str->Option Value}{news:List (Addr × Obj)}{vs:List Value}
theorem QgG {n : Nat} {P : PySem.Fin -> Shared -> Prop} (ho : s.heap.get? a = some (seqObj "list" vs.toArray n)) (h2 : vs.length < 2)
  (h:∀ h' c,(∀ b o,b≠a->s.heap.get? b=some o->h'.get? b=some o)->h'.get? a=some (seqObj "list" vs.toArray c)->P (.done (.ret .none)) { s with heap:=h' }):wpAny (model prog w) A (Builtin.«list.sort» ⟨[.ref a],[]⟩) P E s:=by
 have ha:a < s.heap.objs.size:=Heap.lt_size ho
 obtain⟨e1,ho1⟩:∃ e1,(s.heap.update a (Obj.mapSeq fun _=>(#[]:Array Value))).get? a=some (seqObj "list" #[] e1):=⟨_,get?_update_seq ho fun _=>#[]⟩
 rw[list_sort_plain]
 refine wpAny_bind (listItems_at ho rfl ?_)
 refine wpAny_bind (listUpdate_at ho rfl ?_ (by rw[List.size_toArray,sizeLine_eq];ac_nf) (Nat.zero_le _))
 refine wpAny_bind (seqEpoch_at ho1 rfl ?_)
 refine wpAny_bind (wpAny_newTuple ?_ (by show vs.length<=_;rw[sizeLine_eq];ac_nf))
 refine wpAny_bind (wpAny_newList ?_ (Nat.zero_le _))
 refine wpAny_holding ?_
 show wpAny (model prog w) A _ P E { s with heap:=((s.heap.update a (Obj.mapSeq fun _=>(#[]:Array Value))).push (seqObj "tuple" vs.toArray 0)).push (seqObj "list" #[] 0) }
 dsimp only
 have hn2:vs.toArray.size < 2:=by rw[List.size_toArray];exact h2
 rw[if_pos hn2,if_pos hn2]
 refine wpAny_bind (wpAny_pure ?_)
 have na:(((s.heap.update a (Obj.mapSeq fun _=>(#[]:Array Value))).push (seqObj "tuple" vs.toArray 0)).push (seqObj "list" #[] 0)).get? a=some (seqObj "list" #[] e1):=Heap.get?_push_of_some _ (Heap.get?_push_of_some _ ho1)
 refine wpAny_bind ?_
 show wpAny _ _ (pure ((),_)) _ _ _
 refine wpAny_pure ?_
 dsimp only
 have hout:(arrOf (SortSt.mk' general' (vs.toArray.zip vs.toArray) #[] 7 none)).map (·.2)=vs.toArray:=by
  show (vs.toArray.zip vs.toArray).map (·.2)=_
  match vs,h2 with
  | [],_=>simp
  | [x],_=>simp
 rw[hout]
 refine wpAny_bind (seqEpoch_at na rfl ?_)
 refine wpAny_bind (listUpdate_at na rfl ?_ (Nat.zero_le _) (by rw[List.size_toArray,sizeLine_eq];ac_nf))
 show wpAny _ _ (if (e1 != e1)=true then _ else _) _ _ _
 rw[if_neg (by simp)]
 obtain⟨c2,hc2⟩:∃ c2,((((s.heap.update a (Obj.mapSeq fun _=>(#[]:Array Value))).push (seqObj "tuple" vs.toArray 0)).push (seqObj "list" #[] 0)).update a (Obj.mapSeq fun _=>vs.toArray)).get? a=some (seqObj "list" vs.toArray c2):=⟨_,get?_update_seq na fun _=>vs.toArray⟩
 refine wpAny_pure (h _ c2 (fun b o hb e=>?_) hc2)
 rw[Heap.get?_update_ne _ _ _ _ hb]
 refine Heap.get?_push_of_some _ (Heap.get?_push_of_some _ ?_)
 rw[Heap.get?_update_ne _ _ _ _ hb];exact e
theorem QgH {l : Addr} {Q : Value -> Shared -> Prop} (F : Fr h₀ L s.heap m) (N : News h₀ L s.heap news) (hl : s.heap.IsList l vs.toArray) (h64 : vs.length < 64)
  (h:∀ D h',Fr h₀ L h' m->News h₀ L h' ((D,seqObj "list" vs.toArray 0)::news)->(∀ q∈news,q.1 < D)->wpAny (model prog w) A.in1 (call (.builtin "list.sort") [.ref D]) (fun _ s'=>Q (.ref D) s') E { s with heap:=h' }):
  wpAny (model prog w) A (call (.builtin "sorted") [.ref l]) Q E s:=by
 refine Calls.call_function_entry kind_sorted plain_sorted entry_sorted (args_sorted1 _) ?_
 unfold Builtin.«sorted»
 refine wpAny_bind (m:=checkCount "sorted" 1 1 _) (wpAny_pure ?_)
 refine wpAny_bind (collect_list hl ?_ (by rw[sizeLine_eq];ac_nf))
 refine wpAny_bind (wpAny_newList ?_ (by rw[sizeLine_eq];ac_nf))
 have hsz:((s.heap.push (seqObj "list" #[] 0)).update s.heap.objs.size (Obj.mapSeq (·++vs.toArray))).objs.size=s.heap.objs.size + 1:=by
  rw[Heap.size_update];simp[Heap.push]
 have keep0:∀ b o,s.heap.get? b=some o->((s.heap.push (seqObj "list" #[] 0)).update s.heap.objs.size (Obj.mapSeq (·++vs.toArray))).get? b=some o:=fun b o q=>by
  have hlt:b < s.heap.objs.size:=Heap.lt_size q
  rw[Heap.get?_update_ne _ _ _ _ (Nat.ne_of_lt hlt)]
  exact Heap.get?_push_of_some _ q
 have hg:=h _ (((s.heap.push (seqObj "list" #[] 0)).update s.heap.objs.size (Obj.mapSeq (·++vs.toArray))).push (seqObj "list" vs.toArray 0)) ((F.keeps keep0).push _) (News.push (F.keeps keep0) (fun p hp=>⟨keep0 _ _ (N p hp).1,(N p hp).2⟩) _ rfl) (fun q hq=>by rw[hsz];exact Nat.lt_succ_of_lt (Heap.lt_size (N q hq).1))
 refine wpAny_bind (wpAny_holding (wpAny_mono hg (fun _ s' x=>?_) fun _ _ e=>e))
 exact wpAny_pure ⟨_,rfl,x⟩
end
section
variable {X:Cx}
theorem QgI {pins : List (Addr × Obj)} {σ : L2.St} {H : Hp} {s : Shared} (I : L2.Inv X pins σ H s) {m : Str -> Option Value} (F : Fr X.base X.env.locals s.heap m) {D : Addr} {h3 : Heap} {c tk : Nat} {vs : List V} {out : List Value} (F3 : Fr X.base X.env.locals h3 m)
  (N3:News X.base X.env.locals h3 ((D,seqObj "list" out.toArray c)::allNews X.base s.heap X.env.locals)) (hD:∀ q∈allNews X.base s.heap X.env.locals,q.1 < D) (hv:L2.Vals vs out) (hsz:vs.length<=sizeLine):H D=none/\L2.Inv X pins σ (upd H D (.lst vs)) { s with heap:=h3,toks:=tk }:=by
 have hDL:=(N3 _ (List.mem_cons_self ..)).2.1
 have hDb:=(N3 _ (List.mem_cons_self ..)).2.2
 have hDs:s.heap.get? D=none:=by
  cases z:s.heap.get? D with
  | none=>rfl
  | some o=>exact absurd (hD _ (Qap hDL hDb z)) (Nat.lt_irrefl _)
 have hDH:H D=none:=by
  cases z:H D with
  | none=>rfl
  | some o=>
   obtain⟨ob,e⟩:=Qf6 (I.hok D o z)
   rw[hDs]at e;cases e
 have N4:News X.base X.env.locals h3 (allNews X.base s.heap X.env.locals):=fun z hz=>N3 z (List.mem_cons_of_mem _ hz)
 have hD3:=(N3 _ (List.mem_cons_self ..)).1
 have kp:∀ b o,b≠X.env.locals->s.heap.get? b=some o->h3.get? b=some o:=fun b o hb e=>by
  cases z:X.base.get? b with
  | some u=>
   have:=F.keep b u z
   rw[e]at this;cases this
   exact F3.keep b _ z
  | none=>exact (N4 (b,o) (Qap hb z e)).1
 have hfree:=I.free
 refine⟨hDH,I.step (g':=s.gens) (d':=s.drawn) (t':=tk) (ch:=[]) (fun b hb=>by cases hb) (fun b o h1 _ _ e _=>kp b o h1 e) (fun b o h1 _ _ e _=>⟨o.slots,kp b o h1 e⟩)
  (fun b o _ e n1=>by rw[Qaj (fun z=>by rw[z,hDs]at e;cases e)];exact n1)
  (fun b o _ e=>by
   by_cases z:b=X.env.locals
   ·obtain⟨o',_,_,ho',_⟩:=F3.ns
    exact⟨o',by rw[z];exact ho'⟩
   ·exact⟨o,kp b o z e⟩)
  (fun b ys e=>by rw[Qaj (Qal e hDH)];exact e) (fun b o ys e=>by rw[Qaj (Qal e hDH)];exact e) (fun b ps e=>⟨#[],by rw[Qaj (Qal e hDH),e];simp⟩)
  (fun m' hm=>by rw[<- Qf5 F.ns hm];exact F3.ns) ?_ I.bare⟩
 intro b o e
 by_cases z:b=D
 ·subst z
  rw[Qai]at e;cases e
  exact⟨hsz,_,c,hv,hD3⟩
 ·rw[Qaj z]at e
  refine (I.hok b o e).stay (fun c u hb e1=>kp c u (fun zz=>?_) e1) (fun c e1=>by rw[Qaj (Qal e1 hDH)];exact e1) (fun c ys e1=>by rw[Qaj (Qal e1 hDH)];exact e1)
  rcases hb with y | y
  ·rw[y]at zz;rw[zz,hfree]at e;cases e
  ·rw[zz,hfree]at y;cases y
end
end MM
namespace MM
def trisD:List D->Option (List (List Int × List Int × Int))
 | []=>some []
 | .tup [.tup xs,.tup ys,.int k]::ds=>match numsL xs,numsL ys,trisD ds with
  | some a,some b,some r=>some ((a,b,k)::r)
  | _,_,_=>none
 | _=>none
def lexT3 (p q:List Int × List Int × Int):Bool:=if p.1=q.1 then (if p.2.1=q.2.1 then decide (p.2.2 < q.2.2) else lexI p.2.1 q.2.1) else lexI p.1 q.1
def upT:List (List Int × List Int × Int)->Bool
 | p::q::r => !lexT3 q p && upT (q::r)
 | _=>true
def sortedTL (ds:List D):M D:=match trisD ds with
 | some ps=>chk (upT ps=true/\ds.length < 64) (alloc (.lst ds))
 | none=>bad
def storeT (n:Nat) (k v:D):M Unit:=bnd (getDc n) fun p=>chk (p.1=true/\kOk true k=true/\p.2.length < lim) (putDc n true (ptK p.2 k v))
def cDisp2 (f1 g1 f2 g2:CE):CE:=fun l=>bnd (allocK true []) fun r=>bnd (f1 l) fun a1=>bnd (g1 l) fun b1=>bnd (f2 l) fun a2=>bnd (g2 l) fun b2=>match r with
 | .dic n=>bnd (storeT n a1 b1) fun _=>bnd (storeT n a2 b2) fun _=>ret (.dic n)
 | _=>bad
open PySem PySem.Spec PyProof.Rows L2
structure RF where
 n:Nat
 k:Nat
 ps:List Str
 kw:Bool
 g:List D->M D
structure RC where
 sc:Scope
 N:List Str
 k:Nat
 G:List (Str × RF)
 Z:List Str
 C:List (Str × D)
 H:List (Nat × Nat × Nat)
 top:Bool
def RC.tag (c:RC) (p:Pos) (t:Nat):Bool:=c.H.contains (p.line,p.col,t)
def RC.glo (c:RC) (x:Str):Bool:=c.sc.names.lookup x == some .globalImplicit
def nokB (x:Str):Bool := !((x == ("__debug__":Str)) || (x == ("__classdict__":Str)) || decide (x=("__name__":Str)))
theorem QgJ {x:Str} (h:nokB x=true):NameOk x:=nok (by unfold nokB at h;simpa only[Bool.not_eq_true'] using h)
structure GF (P:Program) (w:World) (K:PySem.W.Frag) (mg:Str->Option Value) (base:Heap) (x:Str) (r:RF):Prop where
 ex:∃ f fd,mg x=some (.ref f)/\FnOk P w K mg base CX0 r.k f fd r.ps (spOf K r.n r.g)/\PySem.W.keepIn K (.ref f)=true/\Binds K fd r.ps []/\(r.kw=true->KwBinds K fd r.ps)
structure Good (X:Cx) (c:RC):Prop where
 S:Sc X c.sc
 N:X.N=c.N
 nd:X.N.Nodup
 hr:Room c.k X.A
 G:∀ x r,c.G.lookup x=some r->GF X.prog X.w X.K X.mg X.base x r
 Z:∀ x,c.Z.contains x=true->X.mg x=none
 C:∀ x d,c.C.lookup x=some d->∃ v u,X.mg x=some u/\RelV v u/\∀ ρ H,Rep X.K ρ H v d
 ps:PassesOwn (model X.prog X.w) X.A X.env X.xe
 kd:c.top=true->X.env.blockKind=.function/\∀ x,X.env.kindOf x=c.sc.names.lookup x
theorem Good.hu {X:Cx}{c:RC} (g:Good X c):X.A.units + 60 < cLine:=QgB g.hr
structure Rec where
 e:RC->Expr->Option CE
 l:RC->Expr->Option CA
 t:RC->Expr->Option CT
 i:RC->Expr->Expr->Option CI
 g:RC->Expr->Option CG
 s:RC->Stmt->Option CS
structure RecOk (q:Rec):Prop where
 e:∀ {X c},Good X c->∀ {x r},q.e c x=some r->SE X x r
 l:∀ {X c},Good X c->∀ {x r},q.l c x=some r->SL X x r
 t:∀ {X c},Good X c->∀ {x r},q.t c x=some r->ST X x r
 i:∀ {X c},Good X c->∀ {tg x r},q.i c tg x=some r->SI X tg x r
 g:∀ {X c},Good X c->∀ {x r},q.g c x=some r->SG X x r
 s:∀ {X c},Good X c->∀ {x r},q.s c x=some r->SS X x r
structure RuE where
 f:Rec->RC->Expr->Option CE
 ok:∀ {q},RecOk q->∀ {X c},Good X c->∀ {x r},f q c x=some r->SE X x r
structure RuL where
 f:Rec->RC->Expr->Option CA
 ok:∀ {q},RecOk q->∀ {X c},Good X c->∀ {x r},f q c x=some r->SL X x r
structure RuT where
 f:Rec->RC->Expr->Option CT
 ok:∀ {q},RecOk q->∀ {X c},Good X c->∀ {x r},f q c x=some r->ST X x r
structure RuI where
 f:Rec->RC->Expr->Expr->Option CI
 ok:∀ {q},RecOk q->∀ {X c},Good X c->∀ {tg x r},f q c tg x=some r->SI X tg x r
structure RuG where
 f:Rec->RC->Expr->Option CG
 ok:∀ {q},RecOk q->∀ {X c},Good X c->∀ {x r},f q c x=some r->SG X x r
structure RuS where
 f:Rec->RC->Stmt->Option CS
 ok:∀ {q},RecOk q->∀ {X c},Good X c->∀ {x r},f q c x=some r->SS X x r
structure Rules where
 e:List RuE
 l:List RuL
 t:List RuT
 i:List RuI
 g:List RuG
 s:List RuS
def fst1 {α β:Type} (f:α->Option β):List α->Option β
 | []=>none
 | a::as=>match f a with
  | some b=>some b
  | none=>fst1 f as
theorem QgK {α β:Type}{f:α->Option β}{r:β}:∀ {l:List α},fst1 f l=some r->∃ a,f a=some r
 | [],h=>nomatch h
 | a::as,h=>by
  unfold fst1 at h
  cases e:f a with
  | some b=>rw[e]at h;exact⟨a,by rw[e];exact h⟩
  | none=>rw[e]at h;exact QgK h
def recN (R:Rules):Nat->Rec
 | 0=>⟨fun _ _=>none,fun _ _=>none,fun _ _=>none,fun _ _ _=>none,fun _ _=>none,fun _ _=>none⟩
 | n + 1 => ⟨fun c x => fst1 (fun r => r.f (recN R n) c x) R.e, fun c x => fst1 (fun r => r.f (recN R n) c x) R.l, fun c x => fst1 (fun r => r.f (recN R n) c x) R.t,
   fun c tg x=>fst1 (fun r=>r.f (recN R n) c tg x) R.i,fun c x=>fst1 (fun r=>r.f (recN R n) c x) R.g,fun c x=>fst1 (fun r=>r.f (recN R n) c x) R.s⟩
theorem QgL (R:Rules):∀ n,RecOk (recN R n)
 | 0=>⟨fun _ _ _ h=>(nomatch h),fun _ _ _ h=>(nomatch h),fun _ _ _ h=>(nomatch h),fun _ _ _ _ h=>(nomatch h),fun _ _ _ h=>(nomatch h),fun _ _ _ h=>(nomatch h)⟩
 | n + 1=>by
  have ih:=QgL R n
  exact⟨fun g _ _ h=>let ⟨a,q⟩:=QgK h;a.ok ih g q,fun g _ _ h=>let ⟨a,q⟩:=QgK h;a.ok ih g q,fun g _ _ h=>let ⟨a,q⟩:=QgK h;a.ok ih g q,
   fun g _ _ _ h=>let ⟨a,q⟩:=QgK h;a.ok ih g q,fun g _ _ h=>let ⟨a,q⟩:=QgK h;a.ok ih g q,fun g _ _ h=>let ⟨a,q⟩:=QgK h;a.ok ih g q⟩
def plE:Expr->Bool
 | .Starred .. => false
 | _=>true
theorem QgM {e:Expr}{es:List Expr}{env:Env} (h:plE e=true):starEach (e::es) env=(false,eval e env)::starEach es env:=by
 cases e<;>first | rfl | exact nomatch h
theorem QgN {env:Env}{pos:Pos}:∀ {es:List Expr},es.all plE=true->(backTo pos (starEach es env)).any (·.1)=false
 | [],_=>rfl
 | e::es,h=>by
  rw[List.all_cons,Bool.and_eq_true]at h
  rw[QgM h.1]
  exact QgN h.2
theorem QgO {env:Env}{pos:Pos}:∀ {es:List Expr},es.all plE=true->(backTo pos (starEach es env)).all (fun x => !x.1)=true
 | [],_=>rfl
 | e::es,h=>by
  rw[List.all_cons,Bool.and_eq_true]at h
  rw[QgM h.1]
  exact QgO h.2
def ncE:Expr->Bool
 | .ListComp .. => false
 | .SetComp .. => false
 | .DictComp .. => false
 | _=>true
theorem QgP {e:Expr}{t:Option Expr}{n:Nat}{env:Env} (h:ncE e=true):swapsWith e t n env=pure false:=by
 cases e<;>first | rfl | exact nomatch h
def nsE:Expr->Bool
 | .Set .. => false
 | _=>true
theorem QgQ {e:Expr}{env:Env} (h:nsE e=true) (x:Value):foldedSetIterable e env x=pure x:=by
 cases e<;>first | rfl | exact nomatch h
theorem QgR {op:CmpOp}{e:Expr} (h:nsE e=true):behindInMarks op e=false:=by
 cases e<;>first | rfl | exact nomatch h
def baE:Expr->Bool
 | .Call _ [] _ _=>false
 | _=>true
theorem QgS {e:Expr}{x:Str}{env:Env}{w:Sem Value} (h:baE e=true):attributeBase e x env w=w:=by
 cases e with
 | Call f as ks p=>
  cases as with
  | nil=>exact nomatch h
  | cons a as=>unfold attributeBase;cases f<;>rfl
 | _=>rfl
def slE:Expr->Bool
 | .Slice .. => false
 | _=>true
theorem plix {e:Expr} (h:slE e=true):PlainIx e:=by
 intro o i
 cases e<;>first | rfl | exact nomatch h
def tvE:Expr->Bool
 | .Compare .. => false
 | .BoolOp .. => false
 | .UnaryOp .. => false
 | .IfExp .. => false
 | _=>true
theorem tv0 {e:Expr}{env:Env} (h:tvE e=true) (w:Sem Value):PySem.isTrue e env w=(do let v <- w;standAt e.pos;holding [v] (truthy v)):=by
 cases e<;>first | rfl | exact nomatch h
def argC (q:Rec) (c:RC):List Expr->Option CA
 | []=>some cNil
 | e::es=>if plE e=true then (q.e c e).bind fun fa=>(argC q c es).bind fun ca=>some (cCons fa ca) else none
theorem QgT {q:Rec} (hq:RecOk q) {X:Cx}{c:RC} (g:Good X c):∀ {es:List Expr}{ca:CA},argC q c es=some ca->SA X es ca/\es.all plE=true/\∀ l st ds st',ca l st=.ok ds st'->ds.length=es.length
 | [],ca,h=>by
  cases h;exact⟨Qeo,rfl,Qgy⟩
 | e::es,ca,h=>by
  unfold argC at h
  rw[Option.ite_none_right_eq_some]at h
  obtain⟨hp,h⟩:=h
  rw[Option.bind_eq_some_iff]at h
  obtain⟨fa,ha,h⟩:=h
  rw[Option.bind_eq_some_iff]at h
  obtain⟨cb,hb,h⟩:=h
  cases h
  obtain⟨x,y,z⟩:=QgT hq g hb
  exact⟨Qep (hq.e g ha) x (QgM hp),by rw[List.all_cons,hp,y];rfl,Qgx z⟩
def kwC (q:Rec) (c:RC):List Keyword->Option CA
 | []=>some cNil
 | k::ks=>(q.e c k.value).bind fun fa=>(kwC q c ks).bind fun ca=>some (cCons fa ca)
theorem QgU {q:Rec} (hq:RecOk q) {X:Cx}{c:RC} (g:Good X c):∀ {es:List Keyword}{ca:CA},kwC q c es=some ca->SK X es ca/\∀ l st ds st',ca l st=.ok ds st'->ds.length=es.length
 | [],ca,h=>by
  cases h;exact⟨Qgv,Qgy⟩
 | ⟨nm,e,kp⟩::es,ca,h=>by
  unfold kwC at h
  rw[Option.bind_eq_some_iff]at h
  obtain⟨fa,ha,h⟩:=h
  rw[Option.bind_eq_some_iff]at h
  obtain⟨cb,hb,h⟩:=h
  cases h
  obtain⟨x,z⟩:=QgU hq g hb
  exact⟨Qgw (hq.e g ha) x,Qgx z⟩
theorem QgV {env:Env}{pos:Pos}:∀ {ks:List Keyword},ks.all (fun k=>k.arg.isSome)=true->(backToKw pos (keywordEach ks env)).all (·.1.isSome)=true/\(backToKw pos (keywordEach ks env)).filterMap (·.1)=ks.filterMap (·.arg)/\(backToKw pos (keywordEach ks env)).any (·.1.isNone)=false
 | [],_=>⟨rfl,rfl,rfl⟩
 | ⟨none,e,kp⟩::ks,h=>by simp at h
 | ⟨some x,e,kp⟩::ks,h=>by
  rw[List.all_cons,Bool.and_eq_true]at h
  obtain⟨a,b,d⟩:=QgV (env:=env) (pos:=pos) h.2
  refine⟨?_,?_,?_⟩
  ·unfold keywordEach backToKw;rw[List.map_cons,List.all_cons];exact (Bool.and_eq_true _ _).mpr ⟨rfl,a⟩
  ·exact congrArg (x::·) b
  ·unfold keywordEach backToKw;rw[List.map_cons,List.any_cons];exact (Bool.or_eq_false_iff).mpr ⟨rfl,d⟩
def optC (q:Rec) (c:RC):Option Expr->Option CO
 | none=>some oNone
 | some e=>(q.e c e).bind fun f=>some (oSome f)
theorem QgW {q:Rec} (hq:RecOk q) {X:Cx}{c:RC} (g:Good X c) {e:Option Expr}{f:CO} (h:optC q c e=some f):SO X e f:=by
 cases e with
 | none=>cases h;exact QfK
 | some e=>
  unfold optC at h
  rw[Option.bind_eq_some_iff]at h
  obtain⟨fa,ha,h⟩:=h
  cases h
  exact QfL (hq.e g ha)
def blkC (q:Rec) (c:RC):List Stmt->Option CS
 | []=>some sNext
 | s::ss=>(q.s c s).bind fun a=>(blkC q c ss).bind fun b=>some (sSeq a b)
theorem QgX {q:Rec} (hq:RecOk q) {X:Cx}{c:RC} (g:Good X c):∀ {ss:List Stmt}{f:CS},blkC q c ss=some f->SSs X ss f
 | [],f,h=>by cases h;exact QeN
 | s::ss,f,h=>by
  unfold blkC at h
  rw[Option.bind_eq_some_iff]at h
  obtain⟨fa,ha,h⟩:=h
  rw[Option.bind_eq_some_iff]at h
  obtain⟨cb,hb,h⟩:=h
  cases h
  exact QeO (hq.s g ha) (QgX hq g hb)
def varC (c:RC) (x:Str):Option Nat:=if c.N[c.N.idxOf x]?=some x/\(c.sc.names.lookup x=some .local\/c.sc.names.lookup x=some .cell\/c.sc.names.lookup x=some .free)/\nokB x=true then some (c.N.idxOf x) else none
def rVar:RuE:=⟨fun _ c e=>match e with
 | .Name x _=>(varC c x).bind fun i=>some (cVar i)
 | _=>none,fun {q} hq {X c} g {e r} h=>by
 split at h
 ·rename_i x p
  rw[Option.bind_eq_some_iff]at h
  obtain⟨i,hi,h⟩:=h
  cases h
  unfold varC at hi
  rw[Option.ite_none_right_eq_some]at hi
  obtain⟨⟨h1,h2,h3⟩,h4⟩:=hi
  cases h4
  have h1:X.N[c.N.idxOf x]?=some x:=by rw[g.N];exact h1
  rcases h2 with h2 | h2 | h2
  ·exact Qgs g.S _ h1 h2 (QgJ h3) (.inl rfl)
  ·exact Qgs g.S _ h1 h2 (QgJ h3) (.inr (.inl rfl))
  ·exact Qgs g.S _ h1 h2 (QgJ h3) (.inr (.inr rfl))
 ·cases h⟩
def rInt:RuE:=⟨fun _ _ e=>match e with
 | .Constant (.int i) _ _=>some (cCon (.int i))
 | _=>none,fun {q} hq {X c} g {e r} h=>by
 split at h
 ·cases h;exact Qds
 ·cases h⟩
def rStr:RuE:=⟨fun _ _ e=>match e with
 | .Constant (.str i) _ _=>some (cCon (.str i))
 | _=>none,fun {q} hq {X c} g {e r} h=>by
 split at h
 ·cases h;exact Qdu
 ·cases h⟩
def rBl:RuE:=⟨fun _ _ e=>match e with
 | .Constant (.bool i) _ _=>some (cCon (.bl i))
 | _=>none,fun {q} hq {X c} g {e r} h=>by
 split at h
 ·cases h;exact Qdt
 ·cases h⟩
def rKeep:RuE:=⟨fun q c e=>(q.l c e).bind fun a=>some (cKeep a),fun {q} hq {X c} g {e r} h=>by
 rw[Option.bind_eq_some_iff]at h
 obtain⟨a,ha,h⟩:=h
 cases h
 exact Qes (hq.l g ha)⟩
abbrev OpU (op:Operator) (f:D->D->M D):Prop:=∀ {X:Cx},X.A.units + 60 < cLine->OpR X (binaryOp op) (rOf X.K f)
abbrev CmU (op:CmpOp) (f:D->D->M D):Prop:=∀ {X:Cx},X.A.units + 60 < cLine->OpR X (compareOp op) (rOf X.K f)
def rOp (o:Operator) (f:D->D->M D) (h:OpU o f):RuE:=⟨fun q c e=>match e with
 | .BinOp a op b _=>if op=o then (q.e c a).bind fun fa=>(q.e c b).bind fun fb=>some (c2 f fa fb) else none
 | _=>none,fun {q} hq {X c} g {e r} z=>by
 split at z
 ·simp only[Option.ite_none_right_eq_some,Option.bind_eq_some_iff]at z
  obtain⟨rfl,fa,ha,fb,hb,z⟩:=z
  cases z
  exact Qdw (h g.hu) (hq.e g ha) (hq.e g hb)
 ·cases z⟩
structure RuC where
 f:Rec->RC->Expr->Option CE
 ok:∀ {q},RecOk q->∀ {X c},Good X c->∀ {x r},f q c x=some r->SE X x r/\ST X x (tCmpB r)
def RuC.e (r:RuC):RuE:=⟨r.f,fun hq _ _ g _ _ h=>(r.ok hq g h).1⟩
def RuC.t (r:RuC):RuT:=⟨fun q c e=>(r.f q c e).bind fun f=>some (tCmpB f),fun {q} hq {X c} g {e x} h=>by
 rw[Option.bind_eq_some_iff]at h
 obtain⟨f,hf,h⟩:=h
 cases h
 exact (r.ok hq g hf).2⟩
def rCmp (o:CmpOp) (f:D->D->M D) (h:CmU o f):RuC:=⟨fun q c e=>match e with
 | .Compare a [op] [b] _=>if op=o/\nsE b=true then (q.e c a).bind fun fa=>(q.e c b).bind fun fb=>some (c2 f fa fb) else none
 | _=>none,fun {q} hq {X c} g {e r} z=>by
 split at z
 ·simp only[Option.ite_none_right_eq_some,Option.bind_eq_some_iff]at z
  obtain⟨⟨rfl,hb0⟩,fa,ha,fb,hb,z⟩:=z
  cases z
  exact⟨Qdx (h g.hu) (hq.e g ha) (hq.e g hb) (QgR hb0),QeB (h g.hu) (hq.e g ha) (hq.e g hb) (QgR hb0)⟩
 ·cases z⟩
def rAnd:RuE:=⟨fun q c e=>match e with
 | .BoolOp .And [a,b] _=>(q.e c a).bind fun fa=>(q.e c b).bind fun fb=>some (cAnd fa fb)
 | .BoolOp .And (a::b::d::r) p=>(q.e c a).bind fun fa=>(q.e c (.BoolOp .And (b::d::r) p)).bind fun fb=>some (cAnd fa fb)
 | _=>none,fun {q} hq {X c} g {e r} z=>by
 split at z
 ·simp only[Option.bind_eq_some_iff]at z
  obtain⟨fa,ha,fb,hb,z⟩:=z
  cases z
  exact QeI (hq.e g ha) (QeH (hq.e g hb))
 ·simp only[Option.bind_eq_some_iff]at z
  obtain⟨fa,ha,fb,hb,z⟩:=z
  cases z
  exact QeI (hq.e g ha) (hq.e g hb)
 ·cases z⟩
def rNeg:RuE:=⟨fun q c e=>match e with
 | .UnaryOp .USub a _=>(q.e c a).bind fun fa=>some (c1 negD fa)
 | _=>none,fun {q} hq {X c} g {e r} z=>by
 split at z
 ·simp only[Option.bind_eq_some_iff]at z
  obtain⟨fa,ha,z⟩:=z
  cases z
  exact QfU QfT (hq.e g ha)
 ·cases z⟩
def rTup:RuE:=⟨fun q c e=>match e with
 | .Tuple es _ _=>(argC q c es).bind fun ca=>some (cTup ca)
 | _=>none,fun {q} hq {X c} g {e r} z=>by
 split at z
 ·simp only[Option.bind_eq_some_iff]at z
  obtain⟨ca,ha,z⟩:=z
  cases z
  exact Qeq (QgT hq g ha).1
 ·cases z⟩
def rSliceT:RuE:=⟨fun q c e=>match e with
 | .Subscript a (.Slice lo hi none _) p=>if c.tag p 1=true then (q.e c a).bind fun fa=>(optC q c lo).bind fun fl=>(optC q c hi).bind fun fh=>some (cSliceT fa fl fh) else none
 | _=>none,fun {q} hq {X c} g {e r} z=>by
 split at z
 ·simp only[Option.ite_none_right_eq_some,Option.bind_eq_some_iff]at z
  obtain⟨_,fa,ha,fl,hl,fh,hh,z⟩:=z
  cases z
  exact Qf1 (hq.e g ha) (QgW hq g hl) (QgW hq g hh)
 ·cases z⟩
def rTmpSub:RuE:=⟨fun q c e=>match e with
 | .Subscript a b _=>if slE b=true then (q.l c a).bind fun fa=>(q.e c b).bind fun fb=>some (cTmpSub fa fb) else none
 | _=>none,fun {q} hq {X c} g {e r} z=>by
 split at z
 ·simp only[Option.ite_none_right_eq_some,Option.bind_eq_some_iff]at z
  obtain⟨hs,fa,ha,fb,hb,z⟩:=z
  cases z
  exact Qex (hq.l g ha) (hq.e g hb) (plix hs)
 ·cases z⟩
def rSub:RuE:=⟨fun q c e=>match e with
 | .Subscript a b _=>if slE b=true then (q.e c a).bind fun fa=>(q.e c b).bind fun fb=>some (c2 subsD fa fb) else none
 | _=>none,fun {q} hq {X c} g {e r} z=>by
 split at z
 ·simp only[Option.ite_none_right_eq_some,Option.bind_eq_some_iff]at z
  obtain⟨hs,fa,ha,fb,hb,z⟩:=z
  cases z
  exact Qew g.hu (hq.e g ha) (hq.e g hb) (plix hs)
 ·cases z⟩
def rDNew:RuE:=⟨fun q c e=>match e with
 | .Dict [] [] p=>some (cDNew (c.tag p 2))
 | _=>none,fun {q} hq {X c} g {e r} z=>by
 split at z
 ·cases z
  rename_i p
  cases c.tag p 2
  ·exact Qgg
  ·exact Qgi
 ·cases z⟩
def dspC (q:Rec) (c:RC):List (Option Expr)->List Expr->Option (List Key × CA)
 | [],[]=>some ([],cNil)
 | some (.Constant (.str x) _ _)::ks,v::vs=>(q.e c v).bind fun fa=>(dspC q c ks vs).bind fun p=>some (.inr x::p.1,cCons fa p.2)
 | _,_=>none
theorem QgY {q:Rec} (hq:RecOk q) {X:Cx}{c:RC} (g:Good X c) {pos:Pos}:∀ {ks:List (Option Expr)}{vs:List Expr}{p:List Key × CA},dspC q c ks vs=some p->SDs X pos ks vs p.1 p.2/\ks.all (·.isSome)=true/\ks.length=vs.length/\p.1.length=ks.length
 | [],[],p,h=>by cases h;exact⟨Qgj,rfl,rfl,rfl⟩
 | [],_::_,p,h=>nomatch h
 | none::_,[],p,h=>nomatch h
 | none::_,_::_,p,h=>nomatch h
 | some k::ks,[],p,h=>by unfold dspC at h;split at h<;>simp_all
 | some k::ks,v::vs,p,h=>by
  unfold dspC at h
  split at h
  ·simp_all
  ·rename_i h1 h2
   injection h1 with h1 h1'
   injection h1 with h1
   injection h2 with h2 h2'
   subst h1 h1' h2 h2'
   simp only[Option.bind_eq_some_iff]at h
   obtain⟨fa,ha,p',hp,h⟩:=h
   cases h
   obtain⟨a,b,d,e⟩:=QgY hq g (pos:=pos) hp
   exact⟨Qgk (hq.e g ha) a,by rw[List.all_cons,b];rfl,by simp[d],by simp[e]⟩
  ·cases h
def rDisp:RuE:=⟨fun q c e=>match e with
 | .Dict (k::ks) vs _=>if ks.length<=14 then (dspC q c (k::ks) vs).bind fun p=>some (cDisp (p.1.map keyD) p.2) else none
 | _=>none,fun {q} hq {X c} g {e r} z=>by
 split at z
 ·simp only[Option.ite_none_right_eq_some,Option.bind_eq_some_iff]at z
  obtain⟨hl,p,hp,z⟩:=z
  cases z
  obtain⟨a,b,d,e⟩:=QgY hq g hp
  exact Qgl a b d (fun z=>nomatch z) (Nat.succ_le_succ hl) (by rw[e];exact Nat.succ_le_succ hl)
 ·cases z⟩
def meth0 (x:String) (f:CE->CE) (h:∀ {X:Cx}{o:Expr}{fa:CE}{apos cpos:Pos},SE X o fa->attributeBase o (Str.ofString x) X.env (eval o X.env)=eval o X.env->(apos.endLine == cpos.line)=true->SE X (.Call (.Attribute o (Str.ofString x) apos) [] [] cpos) (f fa)):RuE:=
 ⟨fun q c e=>match e with
 | .Call (.Attribute o y ap) [] [] cp=>if y=Str.ofString x/\baE o=true/\(ap.endLine == cp.line)=true then (q.e c o).bind fun fa=>some (f fa) else none
 | _=>none,fun {q} hq {X c} g {e r} z=>by
 split at z
 ·simp only[Option.ite_none_right_eq_some,Option.bind_eq_some_iff]at z
  obtain⟨⟨rfl,hb,hl⟩,fa,ha,z⟩:=z
  cases z
  exact h (hq.e g ha) (QgS hb) hl
 ·cases z⟩
abbrev Few (X:Cx) (cpos:Pos) (es:List Expr):Prop:=((backTo cpos (starEach es X.env)).all (fun x => !x.1) && (backToKw cpos (keywordEach [] X.env)).all (fun x=>x.1.isSome) && decide (es.length + ([]:List Keyword).length + (if ([]:List Keyword).isEmpty then 0 else 1) < 30))=true
theorem few1 {X:Cx}{cpos:Pos}{es:List Expr} (h:es.all plE=true) (hl:es.length < 30):Few X cpos es:=by
 unfold Few
 rw[QgO h]
 exact (Bool.and_eq_true _ _).mpr ⟨rfl,decide_eq_true hl⟩
def meth1 (x : String) (f : CE -> CE -> CE) (ok : RC -> Pos -> Bool) (h : ∀ {X : Cx} {o e : Expr} {fa fb : CE} {apos cpos : Pos}, X.A.units + 60 < cLine -> SE X o fa -> SE X e fb -> attributeBase o (Str.ofString x) X.env (eval o X.env) = eval o X.env -> Few X cpos [e] -> (apos.endLine == cpos.line) = true ->
  starEach [e] X.env=(false,eval e X.env)::starEach [] X.env->(backTo cpos (starEach [] X.env)).any (·.1)=false->SE X (.Call (.Attribute o (Str.ofString x) apos) [e] [] cpos) (f fa fb)):RuE:=
 ⟨fun q c e=>match e with
 | .Call (.Attribute o y ap) [a] [] cp=>if y=Str.ofString x/\baE o=true/\plE a=true/\ok c cp=true/\(ap.endLine == cp.line)=true then (q.e c o).bind fun fa=>(q.e c a).bind fun fb=>some (f fa fb) else none
 | _=>none,fun {q} hq {X c} g {e r} z=>by
 split at z
 ·simp only[Option.ite_none_right_eq_some,Option.bind_eq_some_iff]at z
  obtain⟨⟨rfl,hb,hp,_,hl⟩,fa,ha,fb,hb',z⟩:=z
  cases z
  exact h g.hu (hq.e g ha) (hq.e g hb') (QgS hb) (few1 (by simp[hp]) (by simp)) hl (QgM hp) rfl
 ·cases z⟩
def rCall:RuE:=⟨fun q c e=>match e with
 | .Call (.Name x _) (a::as) [] _=>(c.G.lookup x).bind fun r=>if c.glo x=true/\nokB x=true/\r.k<=c.k/\r.n=(a::as).length then (argC q c (a::as)).bind fun ca=>some (cCall r.g ca) else none
 | _=>none,fun {q} hq {X c} g {e r} z=>by
 split at z
 ·simp only[Option.ite_none_right_eq_some,Option.bind_eq_some_iff]at z
  obtain⟨rf,hf,⟨h1,h2,h3,h4⟩,ca,ha,z⟩:=z
  cases z
  obtain⟨f,fd,m,F,kp,B,_⟩:=(g.G _ _ hf).ex
  obtain⟨x,y,l⟩:=QgT hq g ha
  rw[List.all_cons,Bool.and_eq_true]at y
  exact QgA g.S (beq_iff_eq.mp h1) F (g.hr.mono h3) m kp B (QgJ h2) x (by rw[h4];exact l) (QgM y.1) (QgN y.2)
 ·cases z⟩
def rCallK:RuE:=⟨fun q c e=>match e with
 | .Call (.Name x _) [] (a::as) _=>(c.G.lookup x).bind fun r=>if c.glo x=true/\nokB x=true/\r.k<=c.k/\r.n=(a::as).length/\r.kw=true/\(a::as).all (fun k=>k.arg.isSome)=true/\(a::as).filterMap (·.arg)=r.ps then (kwC q c (a::as)).bind fun ca=>some (cCall r.g ca) else none
 | _=>none,fun {q} hq {X c} g {e r} z=>by
 split at z
 ·simp only[Option.ite_none_right_eq_some,Option.bind_eq_some_iff]at z
  obtain⟨rf,hf,⟨h1,h2,h3,h4,h5,h6,h7⟩,ca,ha,z⟩:=z
  cases z
  obtain⟨f,fd,m,F,kp,B,kb⟩:=(g.G _ _ hf).ex
  obtain⟨x,l⟩:=QgU hq g ha
  obtain⟨i,j,k⟩:=QgV (env:=X.env) (pos:=by assumption) h6
  exact Qgz F (g.hr.mono h3) (g.S.glo _ (beq_iff_eq.mp h1)) m kp (kb h5) QcM x (by rw[h4];exact l) (QgJ h2) i (j.trans h7) k
 ·cases z⟩
def RC.bl (c:RC) (x:Str):Bool:=c.glo x && c.Z.contains x
theorem Good.gl {X:Cx}{c:RC} (g:Good X c) {x:Str} (h:c.bl x=true):Gl X x/\X.mg x=none:=by
 unfold RC.bl at h
 rw[Bool.and_eq_true]at h
 exact⟨g.S.glo _ (beq_iff_eq.mp h.1),g.Z _ h.2⟩
def bltTmp (x:String) (f:List D->M D) (h:∀ {X:Cx}{e:Expr}{ca:CA}{p pos:Pos},X.calm=true->Gl X (Str.ofString x)->X.mg (Str.ofString x)=none->SL X e ca->starEach [e] X.env=[(false,eval e X.env)]->SE X (.Call (.Name (Str.ofString x) p) [e] [] pos) (cTmp f ca)):RuE:=
 ⟨fun q c e=>match e with
 | .Call (.Name y _) [a] [] _=>if y=Str.ofString x/\c.bl y=true/\plE a=true then (q.l c a).bind fun fa=>some (cTmp f fa) else none
 | _=>none,fun {q} hq {X c} g {e r} z=>by
 split at z
 ·simp only[Option.ite_none_right_eq_some,Option.bind_eq_some_iff]at z
  obtain⟨⟨rfl,hb,hp⟩,fa,ha,z⟩:=z
  cases z
  exact h g.S.calm (g.gl hb).1 (g.gl hb).2 (hq.l g ha) (QgM hp)
 ·cases z⟩
def blt1 (x:String) (ok:RC->Pos->Bool) (f:D->M D) (h:∀ {X:Cx}{e:Expr}{fa:CE}{p pos:Pos},X.calm=true->Gl X (Str.ofString x)->X.mg (Str.ofString x)=none->SE X e fa->starEach [e] X.env=[(false,eval e X.env)]->SE X (.Call (.Name (Str.ofString x) p) [e] [] pos) (c1 f fa)):RuE:=
 ⟨fun q c e=>match e with
 | .Call (.Name y _) [a] [] p=>if y=Str.ofString x/\c.bl y=true/\plE a=true/\ok c p=true then (q.e c a).bind fun fa=>some (c1 f fa) else none
 | _=>none,fun {q} hq {X c} g {e r} z=>by
 split at z
 ·simp only[Option.ite_none_right_eq_some,Option.bind_eq_some_iff]at z
  obtain⟨⟨rfl,hb,hp,_⟩,fa,ha,z⟩:=z
  cases z
  exact h g.S.calm (g.gl hb).1 (g.gl hb).2 (hq.e g ha) (QgM hp)
 ·cases z⟩
def blt2 (x : String) (f : D -> D -> M D) (h : ∀ {X : Cx} {a b : Expr} {fa fb : CE} {p pos : Pos}, X.calm = true -> Gl X (Str.ofString x) -> X.mg (Str.ofString x) = none -> SE X a fa -> SE X b fb -> starEach [a, b] X.env = (false, eval a X.env) :: starEach [b] X.env -> starEach [b] X.env = (false, eval b X.env) :: starEach [] X.env ->
  (backTo pos (starEach [b] X.env)).any (·.1)=false->SE X (.Call (.Name (Str.ofString x) p) [a,b] [] pos) (c2 f fa fb)):RuE:=
 ⟨fun q c e=>match e with
 | .Call (.Name y _) [a,b] [] p=>if y=Str.ofString x/\c.bl y=true/\plE a=true/\plE b=true then (q.e c a).bind fun fa=>(q.e c b).bind fun fb=>some (c2 f fa fb) else none
 | _=>none,fun {q} hq {X c} g {e r} z=>by
 split at z
 ·simp only[Option.ite_none_right_eq_some,Option.bind_eq_some_iff]at z
  obtain⟨⟨rfl,hb,hp,hp2⟩,fa,ha,fb,hb',z⟩:=z
  cases z
  exact h g.S.calm (g.gl hb).1 (g.gl hb).2 (hq.e g ha) (hq.e g hb') (QgM hp) (QgM hp2) (QgN (by simp[hp2]))
 ·cases z⟩
def rIsi (y:String) (T:TyTab y) (h:bootBuiltins (Str.ofString y)=some (.type y)) (n1:Str.ofString y≠Str.ofString "__name__") (n2:(Str.ofString y == Str.ofString "__debug__")=false):RuE:=
 ⟨fun q c e=>match e with
 | .Call (.Name z _) [a,.Name x _] [] p=>if z=Str.ofString "isinstance"/\x=Str.ofString y/\c.bl z=true/\c.bl x=true/\plE a=true then (q.e c a).bind fun fa=>some (c1 (isInst [y]) fa) else none
 | _=>none,fun {q} hq {X c} g {e r} z=>by
 split at z
 ·simp only[Option.ite_none_right_eq_some,Option.bind_eq_some_iff]at z
  obtain⟨⟨rfl,rfl,hb,hb2,hp⟩,fa,ha,z⟩:=z
  cases z
  exact Qfv T (g.gl hb).1 (g.gl hb).2 (g.gl hb2).1 (g.gl hb2).2 h (hq.e g ha) (by nofun) n1 n2 (QgM hp) rfl rfl
 ·cases z⟩
section
def lLst:RuL:=⟨fun q c e=>match e with
 | .List es _=>(argC q c es).bind fun ca=>some (aDisp ca)
 | _=>none,fun {q} hq {X c} g {e r} z=>by
 split at z
 ·simp only[Option.bind_eq_some_iff]at z
  obtain⟨ca,ha,z⟩:=z
  cases z
  exact Qer (QgT hq g ha).1
 ·cases z⟩
def lTimes:RuL:=⟨fun q c e=>match e with
 | .BinOp a .Mult b _=>(q.l c a).bind fun fa=>(q.e c b).bind fun fb=>some (aTimes fa fb)
 | _=>none,fun {q} hq {X c} g {e r} z=>by
 split at z
 ·simp only[Option.bind_eq_some_iff]at z
  obtain⟨fa,ha,fb,hb,z⟩:=z
  cases z
  exact Qgf (hq.l g ha) (hq.e g hb)
 ·cases z⟩
def lSlice:RuL:=⟨fun q c e=>match e with
 | .Subscript a (.Slice lo hi none _) p=>if c.tag p 1=false then (q.e c a).bind fun fa=>(optC q c lo).bind fun fl=>(optC q c hi).bind fun fh=>some (aSlice fa fl fh) else none
 | _=>none,fun {q} hq {X c} g {e r} z=>by
 split at z
 ·simp only[Option.ite_none_right_eq_some,Option.bind_eq_some_iff]at z
  obtain⟨_,fa,ha,fl,hl,fh,hh,z⟩:=z
  cases z
  exact QfM (hq.e g ha) (QgW hq g hl) (QgW hq g hh)
 ·cases z⟩
def lRev:RuL:=⟨fun q c e=>match e with
 | .Call (.Name x _) [.Call (.Name y _) [a] [] _] [] _=>if x=Str.ofString "list"/\y=Str.ofString "reversed"/\c.bl x=true/\c.bl y=true/\plE a=true then (q.l c a).bind fun fa=>some (aRev fa) else none
 | _=>none,fun {q} hq {X c} g {e r} z=>by
 split at z
 ·simp only[Option.ite_none_right_eq_some,Option.bind_eq_some_iff]at z
  obtain⟨⟨rfl,rfl,h1,h2,hp⟩,fa,ha,z⟩:=z
  cases z
  exact Qge g.S.calm (g.gl h1).1 (g.gl h1).2 (by nofun) (g.gl h2).1 (g.gl h2).2 (by nofun) (hq.l g ha) (QgM hp) rfl
 ·cases z⟩
def tgN:Nat->Expr->List Str
 | _,.Name x _=>[x]
 | n + 1,.Tuple es _ _=>es.flatMap (tgN n)
 | _,_=>[]
def ifsC (q:Rec) (c:RC):List Expr->Option CT
 | []=>some tTrue
 | [t]=>q.t c t
 | _=>none
theorem QgZ {q:Rec} (hq:RecOk q) {X:Cx}{c:RC} (g:Good X c) {es:List Expr}{f:CT} (h:ifsC q c es=some f):SIfs X es f:=by
 unfold ifsC at h
 split at h
 ·cases h;exact Qe8
 ·exact Qe9 (hq.t g h)
 ·cases h
def RC.inn (c:RC) (sc:Scope) (own:List Str):RC:={ c with sc:=sc,N:=own++c.N.filter fun x=>sc.names.lookup x == some .free,top:=false }
def RC.ix (c:RC) (sc:Scope):List Nat:=(c.N.filter fun x=>sc.names.lookup x == some .free).map c.N.idxOf
def RC.cok (c:RC) (sc:Scope) (own:List Str) (b:Expr):Prop:=compChk c.sc sc=true/\namesChk c.N sc (c.inn sc own).N own.length (c.ix sc)=true/\(c.inn sc own).N.Nodup/\nsE b=true
instance (c:RC) (sc:Scope) (own:List Str) (b:Expr):Decidable (c.cok sc own b):=by unfold RC.cok;infer_instance
theorem Good.inn {X:Cx}{c:RC} (g:Good X c) {sc:Scope}{own:List Str}{b:Expr} (h:c.cok sc own b) (fp:List Addr) (s:Shared) (H:Hp):Good (cxC X (c.inn sc own).N sc fp s H) (c.inn sc own):=
 ⟨Qgp g.S.calm,rfl,h.2.2.1,g.hr,fun x r z=>⟨(g.G x r z).ex⟩,g.Z,g.C,PassesOwn.never,fun z=>nomatch z⟩
def cmpC (q:Rec) (c:RC):Expr->Option (Nat × List Nat × CI × CG × CT × CE)
 | .ListComp e [⟨tg,b,ifs,0⟩] sc _=>
  if c.cok sc (tgN 8 tg).eraseDups b then
   (q.i c tg b).bind fun ci=>(q.g (c.inn sc (tgN 8 tg).eraseDups) tg).bind fun g=>(ifsC q (c.inn sc (tgN 8 tg).eraseDups) ifs).bind fun t=>(q.e (c.inn sc (tgN 8 tg).eraseDups) e).bind fun f=>
    some ((tgN 8 tg).eraseDups.length,c.ix sc,ci,g,t,f)
  else none
 | _=>none
def lComp:RuL:=⟨fun q c e=>(cmpC q c e).bind fun p=>some (aComp p.1 p.2.1 p.2.2.1 p.2.2.2.1 p.2.2.2.2.1 p.2.2.2.2.2),fun {q} hq {X c} g {e r} z=>by
 rw[Option.bind_eq_some_iff]at z
 obtain⟨p,hp,z⟩:=z
 cases z
 unfold cmpC at hp
 split at hp
 ·simp only[Option.ite_none_right_eq_some,Option.bind_eq_some_iff]at hp
  obtain⟨hk,ci,hi,gg,hg,t,ht,f,hf,z⟩:=hp
  cases z
  exact Qfb g.S.calm (Qgq g.S hk.1) (Qgr g.N hk.2.1) (hq.i g hi) (fun fp s H=>⟨hq.g (g.inn hk fp s H) hg,QgZ hq (g.inn hk fp s H) ht,hq.e (g.inn hk fp s H) hf⟩) (QgQ hk.2.2.2)
 ·cases hp⟩
def tAnds (q:Rec) (c:RC):List Expr->Option CT
 | []=>none
 | [a]=>q.t c a
 | a::b::r=>(q.t c a).bind fun fa=>(tAnds q c (b::r)).bind fun fb=>some (tAndB fa fb)
theorem Qg0 {q:Rec} (hq:RecOk q) {X:Cx}{c:RC} (g:Good X c) {pos:Pos}:∀ {es:List Expr}{f:CT},tAnds q c es=some f->PW X (.BoolOp .And es pos) (ttOf X.K f)
 | [],f,h=>nomatch h
 | [a],f,h=>QeC (hq.t g h)
 | a::b::r,f,h=>by
  unfold tAnds at h
  simp only[Option.bind_eq_some_iff]at h
  obtain⟨fa,ha,fb,hb,z⟩:=h
  cases z
  exact QeE (hq.t g ha) (Qg0 hq g hb)
def tOrs (q:Rec) (c:RC):List Expr->Option CT
 | []=>none
 | [a]=>q.t c a
 | a::b::r=>(q.t c a).bind fun fa=>(tOrs q c (b::r)).bind fun fb=>some (tOrB fa fb)
theorem Qg1 {q:Rec} (hq:RecOk q) {X:Cx}{c:RC} (g:Good X c) {pos:Pos}:∀ {es:List Expr}{f:CT},tOrs q c es=some f->PW X (.BoolOp .Or es pos) (ttOf X.K f)
 | [],f,h=>nomatch h
 | [a],f,h=>QeD (hq.t g h)
 | a::b::r,f,h=>by
  unfold tOrs at h
  simp only[Option.bind_eq_some_iff]at h
  obtain⟨fa,ha,fb,hb,z⟩:=h
  cases z
  exact QeF (hq.t g ha) (Qg1 hq g hb)
def tAnd:RuT:=⟨fun q c e=>match e with
 | .BoolOp .And es _=>tAnds q c es
 | _=>none,fun {q} hq {X c} g {e r} z=>by
 split at z
 ·exact L2.PW.pt (Qg0 hq g z)
 ·cases z⟩
def tOr:RuT:=⟨fun q c e=>match e with
 | .BoolOp .Or es _=>tOrs q c es
 | _=>none,fun {q} hq {X c} g {e r} z=>by
 split at z
 ·exact L2.PW.pt (Qg1 hq g z)
 ·cases z⟩
def tNot:RuT:=⟨fun q c e=>match e with
 | .UnaryOp .Not a _=>(q.t c a).bind fun f=>some (tNotB f)
 | _=>none,fun {q} hq {X c} g {e r} z=>by
 split at z
 ·simp only[Option.bind_eq_some_iff]at z
  obtain⟨fa,ha,z⟩:=z
  cases z
  exact QeG (hq.t g ha)
 ·cases z⟩
def tVl:RuT:=⟨fun q c e=>if tvE e=true then (q.e c e).bind fun f=>some (tVal f) else none,fun {q} hq {X c} g {e r} z=>by
 simp only[Option.ite_none_right_eq_some,Option.bind_eq_some_iff]at z
 obtain⟨hv,fa,ha,z⟩:=z
 cases z
 exact QeA (hq.e g ha) (tv0 hv)⟩
def iRange1:RuI:=⟨fun q c tg e=>match e with
 | .Call (.Name x _) [a] [] _=>if x=Str.ofString "range"/\c.bl x=true/\plE a=true then (q.e c a).bind fun f=>some (MM.iRng1 f) else none
 | _=>none,fun {q} hq {X c} g {tg e r} z=>by
 split at z
 ·simp only[Option.ite_none_right_eq_some,Option.bind_eq_some_iff]at z
  obtain⟨⟨rfl,h1,hp⟩,fa,ha,z⟩:=z
  cases z
  exact Qe5 (g.gl h1).1 (g.gl h1).2 (hq.e g ha) (QgM hp)
 ·cases z⟩
def iRange2:RuI:=⟨fun q c tg e=>match e with
 | .Call (.Name x _) [a,b] [] _=>if x=Str.ofString "range"/\c.bl x=true/\plE a=true/\plE b=true then (q.e c a).bind fun f=>(q.e c b).bind fun h=>some (MM.iRng2 f h) else none
 | _=>none,fun {q} hq {X c} g {tg e r} z=>by
 split at z
 ·simp only[Option.ite_none_right_eq_some,Option.bind_eq_some_iff]at z
  obtain⟨⟨rfl,h1,hp,hp2⟩,fa,ha,fb,hb,z⟩:=z
  cases z
  exact QfZ (g.gl h1).1 (g.gl h1).2 (hq.e g ha) (hq.e g hb) (QgM hp) (QgM hp2) (by rw[QgM hp,QgM hp2];rfl) (QgM hp2)
 ·cases z⟩
def iTmpr:RuI:=⟨fun q c tg e=>(q.l c e).bind fun f=>some (iTmp f),fun {q} hq {X c} g {tg e r} z=>by
 rw[Option.bind_eq_some_iff]at z
 obtain⟨fa,ha,z⟩:=z
 cases z
 exact Qe4 (hq.l g ha)⟩
def iSeqr:RuI:=⟨fun q c tg e=>(q.e c e).bind fun f=>some (iSeq f),fun {q} hq {X c} g {tg e r} z=>by
 rw[Option.bind_eq_some_iff]at z
 obtain⟨fa,ha,z⟩:=z
 cases z
 exact Qe3 (hq.e g ha)⟩
def tgC (c:RC) (x:Str):Option Nat:=if c.N[c.N.idxOf x]?=some x/\(c.sc.names.lookup x=some .local\/c.sc.names.lookup x=some .cell) then some (c.N.idxOf x) else none
theorem Qg2 {X:Cx}{c:RC} (g:Good X c) {x:Str}{i:Nat} (h:tgC c x=some i):X.N[i]?=some x/\∃ k,c.sc.names.lookup x=some k/\(k=.local\/k=.cell):=by
 unfold tgC at h
 rw[Option.ite_none_right_eq_some]at h
 obtain⟨⟨h1,h2⟩,h4⟩:=h
 cases h4
 refine⟨by rw[g.N];exact h1,?_⟩
 rcases h2 with h2 | h2
 ·exact⟨_,h2,.inl rfl⟩
 ·exact⟨_,h2,.inr rfl⟩
def gVr:RuG:=⟨fun q c e=>match e with
 | .Name x _=>(tgC c x).bind fun i=>some (gVar i)
 | _=>none,fun {q} hq {X c} g {e r} z=>by
 split at z
 ·rw[Option.bind_eq_some_iff]at z
  obtain⟨i,hi,z⟩:=z
  cases z
  obtain⟨h1,k,h2,h3⟩:=Qg2 g hi
  exact Qgt g.S _ g.nd h1 h2 h3
 ·cases z⟩
def tgs (q:Rec) (c:RC):List Expr->Option (List D->Loc->M Loc)
 | []=>some gsNil
 | e::es=>if plE e=true then (q.g c e).bind fun a=>(tgs q c es).bind fun b=>some (gsCons a b) else none
theorem Qg3 {q:Rec} (hq:RecOk q) {X:Cx}{c:RC} (g:Good X c):∀ {es:List Expr}{f:List D->Loc->M Loc},tgs q c es=some f->SGs X es f/\(assignEach es X.env).length=es.length/\(assignEach es X.env).findIdx? (·.1)=none
 | [],f,h=>by cases h;exact⟨QeK,rfl,rfl⟩
 | e::es,f,h=>by
  unfold tgs at h
  simp only[Option.ite_none_right_eq_some,Option.bind_eq_some_iff]at h
  obtain⟨hp,fa,ha,fb,hb,z⟩:=h
  cases z
  obtain⟨a,b,d⟩:=Qg3 hq g hb
  have eq:assignEach (e::es) X.env=(false,assign e X.env)::assignEach es X.env:=by
   cases e<;>first | rfl | exact nomatch hp
  refine⟨QeL (hq.g g ha) a (by rw[eq];rfl),by rw[eq];exact congrArg (· + 1) b,?_⟩
  rw[eq,List.findIdx?_cons,d]
  rfl
def gTupr:RuG:=⟨fun q c e=>match e with
 | .Tuple es _ _=>(tgs q c es).bind fun f=>some (gTupD es.length f)
 | _=>none,fun {q} hq {X c} g {e r} z=>by
 split at z
 ·rw[Option.bind_eq_some_iff]at z
  obtain⟨f,hf,z⟩:=z
  cases z
  obtain⟨a,b,d⟩:=Qg3 hq g hf
  exact QeM g.S.calm a b d
 ·cases z⟩
def gSubr:RuG:=⟨fun q c e=>match e with
 | .Subscript o i _=>if slE i=true then (q.e c o).bind fun f=>(q.e c i).bind fun h=>some (gSubD f h) else none
 | _=>none,fun {q} hq {X c} g {e r} z=>by
 split at z
 ·simp only[Option.ite_none_right_eq_some,Option.bind_eq_some_iff]at z
  obtain⟨hs,fa,ha,fb,hb,z⟩:=z
  cases z
  rename_i o i p
  exact QeX g.hu (hq.e g ha) (hq.e g hb) (fun v=>by cases i<;>first | rfl | exact nomatch hs)
 ·cases z⟩
def sRetr:RuS:=⟨fun q c e=>match e with
 | .Return (some a) _=>(q.e c a).bind fun f=>some (sRet f)
 | _=>none,fun {q} hq {X c} g {e r} z=>by
 split at z
 ·rw[Option.bind_eq_some_iff]at z
  obtain⟨f,hf,z⟩:=z
  cases z
  exact QeP (hq.e g hf)
 ·cases z⟩
def sExpr:RuS:=⟨fun q c e=>match e with
 | .Expr a _=>if ncE a=true then (q.e c a).bind fun f=>some (sExp f) else none
 | _=>none,fun {q} hq {X c} g {e r} z=>by
 split at z
 ·simp only[Option.ite_none_right_eq_some,Option.bind_eq_some_iff]at z
  obtain⟨hn,f,hf,z⟩:=z
  cases z
  exact QeQ (hq.e g hf) (QgP hn)
 ·cases z⟩
def sIfr:RuS:=⟨fun q c e=>match e with
 | .If t a b _=>(q.t c t).bind fun ft=>(blkC q c a).bind fun fa=>(blkC q c b).bind fun fb=>some (sIf ft fa fb)
 | _=>none,fun {q} hq {X c} g {e r} z=>by
 split at z
 ·simp only[Option.bind_eq_some_iff]at z
  obtain⟨ft,ht,fa,ha,fb,hb,z⟩:=z
  cases z
  exact QeR (hq.t g ht) (QgX hq g ha) (QgX hq g hb)
 ·cases z⟩
def sWhiler:RuS:=⟨fun q c e=>match e with
 | .While t a [] _=>(q.t c t).bind fun ft=>(blkC q c a).bind fun fa=>some (sWhile ft fa)
 | _=>none,fun {q} hq {X c} g {e r} z=>by
 split at z
 ·simp only[Option.bind_eq_some_iff]at z
  obtain⟨ft,ht,fa,ha,z⟩:=z
  cases z
  exact Qf0 g.ps (hq.t g ht) (QgX hq g ha)
 ·cases z⟩
def sForr:RuS:=⟨fun q c e=>match e with
 | .For tg it a [] _=>if nsE it=true then (q.i c tg it).bind fun fi=>(q.g c tg).bind fun fg=>(blkC q c a).bind fun fa=>some (sFor fi fg fa) else none
 | _=>none,fun {q} hq {X c} g {e r} z=>by
 split at z
 ·simp only[Option.ite_none_right_eq_some,Option.bind_eq_some_iff]at z
  obtain⟨hn,fi,hi,fg,hg,fa,ha,z⟩:=z
  cases z
  exact Qe6 g.ps g.S.calm (hq.i g hi) (hq.g g hg) (QgX hq g ha) (QgQ hn)
 ·cases z⟩
def sNmr:RuS:=⟨fun q c e=>match e with
 | .Assign [.Name x _] a _=>if ncE a=true\/(c.top=true/\c.sc.names.lookup x=some .cell) then (tgC c x).bind fun i=>(q.e c a).bind fun f=>some (sAsg (gVar i) f) else none
 | _=>none,fun {q} hq {X c} g {e r} z=>by
 split at z
 ·simp only[Option.ite_none_right_eq_some,Option.bind_eq_some_iff]at z
  obtain⟨hn,i,hi,f,hf,z⟩:=z
  cases z
  obtain⟨h1,k,h2,h3⟩:=Qg2 g hi
  refine Qgu g.S _ g.nd h1 h2 (hq.e g hf) h3 ?_
  rcases hn with hn | ⟨ht,hc⟩
  ·exact QgP hn
  ·rename_i x p a s
   have e:(X.env.kindOf x == some NameKind.local)=false:=by rw[(g.kd ht).2 x,hc];rfl
   cases a<;>first | rfl | (unfold swapsWith;simp only[e,Bool.and_false,Bool.false_and])
 ·cases z⟩
theorem Qg4 {X : Cx} {c : RC} (g : Good X c) {e : Expr} {gs : List Comprehension} {sc : Scope} {p p' : Pos} {y : Str} {n : Nat} (ht : c.top = true) (hl : c.sc.names.lookup y = some .local) (hp : (p'.line == p.line) = true) (ha : (sc.names.any fun z => z.1 == y && (z.2 == .local || z.2 == .cell)) = false) :
  swapsWith (.ListComp e gs sc p) (some (.Name y p')) n X.env=pure true:=by
 have e1:(X.env.kindOf y == some NameKind.local)=true:=by rw[(g.kd ht).2 y,hl];rfl
 have e2:(X.env.blockKind == ScopeKind.function)=true:=by rw[(g.kd ht).1];rfl
 show (pure (X.env.blockKind == ScopeKind.function && X.env.kindOf y == some NameKind.local && p'.line == p.line && !(sc.names.any fun z=>z.1 == y && (z.2 == .local || z.2 == .cell))):Sem Bool)=pure true
 rw[e1,e2,hp,ha]
 rfl
def sCompr:RuS:=⟨fun q c s=>match s with
 | .Assign [.Name y p'] (.ListComp e gs sc p) _ => if c.top = true /\ c.sc.names.lookup y = some .local /\ (p'.line == p.line) = true /\ (sc.names.any fun z => z.1 == y && (z.2 == .local || z.2 == .cell)) = false then
   (tgC c y).bind fun i=>(cmpC q c (.ListComp e gs sc p)).bind fun r=>some (sAsg (gVar i) (cKeep (aComp r.1 r.2.1 r.2.2.1 r.2.2.2.1 r.2.2.2.2.1 r.2.2.2.2.2))) else none
 | _=>none,fun {q} hq {X c} g {s r} z=>by
 split at z
 ·simp only[Option.ite_none_right_eq_some,Option.bind_eq_some_iff]at z
  obtain⟨⟨ht,hl,hp,ha⟩,i,hi,w,hw,z⟩:=z
  cases z
  obtain⟨h1,k,h2,h3⟩:=Qg2 g hi
  unfold cmpC at hw
  split at hw
  ·rename_i he
   cases he
   simp only[Option.ite_none_right_eq_some,Option.bind_eq_some_iff]at hw
   obtain⟨hk,ci,hi',gg,hg,t,ht',f,hf,z⟩:=hw
   cases z
   refine Qfc g.nd h1 (g.S.loc _ _ h2 h3).1 (g.S.loc _ _ h2 h3).2 g.S.calm (Qgq g.S hk.1) (Qgr g.N hk.2.1) (hq.i g hi') (fun fp s H=>⟨hq.g (g.inn hk fp s H) hg,QgZ hq (g.inn hk fp s H) ht',hq.e (g.inn hk fp s H) hf⟩) ?_ (QgQ hk.2.2.2)
   exact Qg4 g ht hl hp ha
  ·cases hw
 ·cases z⟩
def sSubr:RuS:=⟨fun q c s=>match s with
 | .Assign [.Subscript o i p] a _=>(q.e c a).bind fun f=>(q.g c (.Subscript o i p)).bind fun h=>some (sAsg h f)
 | _=>none,fun {q} hq {X c} g {s r} z=>by
 split at z
 ·simp only[Option.bind_eq_some_iff]at z
  obtain⟨f,hf,h,hh,z⟩:=z
  cases z
  rename_i o i p a s
  exact QeV (hq.e g hf) (hq.g g hh) (by cases a<;>rfl) (by cases a<;>rfl) rfl
 ·cases z⟩
def ntE:Expr->Bool
 | .Tuple _ _ _=>false
 | _=>true
def sTupr:RuS:=⟨fun q c s=>match s with
 | .Assign [.Tuple es k p] a _=>if ntE a=true then (q.e c a).bind fun f=>(q.g c (.Tuple es k p)).bind fun h=>some (sAsg h f) else none
 | _=>none,fun {q} hq {X c} g {s r} z=>by
 split at z
 ·simp only[Option.ite_none_right_eq_some,Option.bind_eq_some_iff]at z
  obtain⟨hn,f,hf,h,hh,z⟩:=z
  cases z
  rename_i o i p a s
  exact QeV (hq.e g hf) (hq.g g hh) (by cases a<;>rfl) (by cases a<;>first | rfl | exact nomatch hn) rfl
 ·cases z⟩
section
variable {P:Program}{w:World}{K:PySem.W.Frag}{mg:Str->Option Value}{base:Heap}
variable (P w K mg base) in
def EnvOk (l:List (Str × RF)):Prop:=∀ x r,l.lookup x=some r->GF P w K mg base x r
theorem Qg5:EnvOk P w K mg base []:=fun _ _ h=>nomatch h
theorem Qg6 {l : List (Str × RF)} {x : Str} {r : RF} {f : Addr} {fd : FuncData} (m : mg x = some (.ref f)) (F : FnOk P w K mg base CX0 r.k f fd r.ps (spOf K r.n r.g)) (kp : PySem.W.keepIn K (.ref f) = true) (b : Binds K fd r.ps []) (kb : r.kw = true -> KwBinds K fd r.ps) (h : EnvOk P w K mg base l) :
  EnvOk P w K mg base ((x,r)::l):=fun y s z=>by
 by_cases e:y=x
 ·subst e
  rw[List.lookup_cons_self]at z
  cases z
  exact⟨f,fd,m,F,kp,b,kb⟩
 ·rw[QdX e]at z
  exact h y s z
theorem Qg7 (R : Rules) (j : Nat) {x qual : Str} {sd : Stmt} {f : Addr} {fd : FuncData} {N ps : List Str} {k n m : Nat} {body : CS} {G : List (Str × RF)} {Z : List Str} {C : List (Str × D)} {H : List (Nat × Nat × Nat)} (F : Fun K x qual sd f fd) (S : FnScope N ps (defScope sd)) (hn : ps.length = n) (hm : N.length = m)
  (hG:EnvOk P w K mg base G) (hZ:∀ x,Z.contains x=true->mg x=none) (hC:∀ x d,C.lookup x=some d->∃ v u,mg x=some u/\RelV v u/\∀ ρ H,Rep K ρ H v d)
  (hb:blkC (recN R j) ⟨defScope sd,N,k,G,Z,C,H,true⟩ (defBody sd)=some body):FnOk P w K mg base CX0 (k + 1) f fd ps (spOf K n (runDef m body)):=
 QgC F S hn hm fun cdv A outer s Hp E hr=>QgX (c:=⟨defScope sd,N,k,G,Z,C,H,true⟩) (QgL R j) ⟨Qgo,rfl,S.nd,hr,hG,hZ,hC,PassesOwn.never,fun _=>⟨by show (if (defScope sd).kind.isAnnotationScope=true then _ else (defScope sd).kind)=_;rw[S.kind];rfl,fun _=>rfl⟩⟩ hb
end
end
section
variable {K:PySem.W.Frag}{mg:Str->Option Value}
def ZOk (mg:Str->Option Value) (Z:List Str):Prop:=∀ x,Z.contains x=true->mg x=none
theorem z_nil:ZOk mg []:=fun _ h=>nomatch h
theorem z_cons {a:Str}{l:List Str} (h:mg a=none) (t:ZOk mg l):ZOk mg (a::l):=fun x z=>by
 rw[List.contains_cons,Bool.or_eq_true]at z
 rcases z with z | z
 ·rw[beq_iff_eq.mp z];exact h
 ·exact t x z
def COk (K:PySem.W.Frag) (mg:Str->Option Value) (C:List (Str × D)):Prop:=∀ x d,C.lookup x=some d->∃ v u,mg x=some u/\RelV v u/\∀ ρ H,Rep K ρ H v d
theorem c_nil:COk K mg []:=fun _ _ h=>nomatch h
end
section
theorem Qg8 {x:Str} (h:nokB x=true):x≠"__name__":=(QgJ h).n
def bMaxT:RuE:=bltTmp "max" maxD fun c g m a s=>Qff (Qfr c) g m (by nofun) a (Qg8 (by nofun)) (by nofun) s
def bTupT:RuE:=bltTmp "tuple" tupL fun _ g m a s=>Qfg Qfm g m (by nofun) a (Qg8 (by nofun)) (by nofun) s
abbrev noTag:RC->Pos->Bool:=fun _ _=>true
def bSorted:RuE:=blt1 "sorted" noTag sortedD fun _ g m a s=>Qfd Qf8 g m (by nofun) a (Qg8 (by nofun)) (by nofun) s
def bLen:RuE:=blt1 "len" noTag lenD fun _ g m a s=>Qfd Qfj g m (by nofun) a (Qg8 (by nofun)) (by nofun) s
def bInt:RuE:=blt1 "int" noTag intD fun _ g m a s=>Qfe Qfk g m (by nofun) a (Qg8 (by nofun)) (by nofun) s
def bTuple:RuE:=blt1 "tuple" noTag tupleD fun _ g m a s=>Qfe Qfl g m (by nofun) a (Qg8 (by nofun)) (by nofun) s
def bMin2:RuE:=blt2 "min" min2D fun c g m a b s1 s2 s3=>QfV (QfW c) g m (by nofun) a b (Qg8 (by nofun)) (by nofun) s1 s2 s3
def bMax2:RuE:=blt2 "max" max2D fun c g m a b s1 s2 s3=>QfV (QfX c) g m (by nofun) a b (Qg8 (by nofun)) (by nofun) s1 s2 s3
def bIsiList:RuE:=rIsi "list" Qfs (by nofun) (Qg8 (by nofun)) (by nofun)
def mAppend:RuE:=meth1 "append" cAppend noTag fun _ o a b f l s p=>QfH o a b f l s p
def mExtend:RuE:=meth1 "extend" cExtend noTag fun _ o a b f l s p=>Qgn o a b f l s p
def mClear:RuE:=meth0 "clear" cClear fun o b l=>QfI o b l
def mPop:RuE:=meth0 "pop" cPop fun o b l=>QfY o b l
end
section
variable {P:Program}{w:World}{K:PySem.W.Frag}{mg:Str->Option Value}{base:Heap}
def FnAt (K:PySem.W.Frag) (mg:Str->Option Value) (x:Str) (sd:Stmt):Prop:=∃ a fd,Fun K x x sd a fd/\mg x=some (.ref a)
theorem fnat {h : Heap} {x : Str} {sd : Stmt} {f : Addr} {od an : Option Addr} {sl : Array (Option Value)} {oc kV dc pm cd ct : Value} (X : K.In h) (G : h.Ns mainGlobals mg) (a : PySem.W.nsIn K mainGlobals x = some (some (.ref f)))
  (l:K.lookup f=some ⟨oc,od,.func (PySem.W.fnOf x x (defArgs sd) (defBody sd) (defScope sd) .none kV dc pm an cd ct),sl⟩) (c:PySem.W.codeIn K cd x=true) (k:PySem.W.keepIn K (.ref f)=true):FnAt K mg x sd:=
 ⟨f,_,QcN (st:=sd) l c k,PySem.W.mg_of X G a⟩
def fscB (N P:List Str) (sc:Scope):Bool:=(sc.kind == .function) && (sc.isCoroutine == false) && (sc.isGenerator == false) && decide N.Nodup && (N.take P.length == P) && (P.all fun x=>sc.names.lookup x == some .local || sc.names.lookup x == some .cell) && (sc.names.all fun y=>y.2 != .free)
theorem Qg9 {N P:List Str}{sc:Scope} (h:fscB N P sc=true):FnScope N P sc:=by
 unfold fscB at h
 simp only[Bool.and_eq_true,beq_iff_eq,decide_eq_true_eq,List.all_eq_true,Bool.or_eq_true,bne_iff_ne,ne_eq]at h
 obtain⟨⟨⟨⟨⟨⟨h1,h2⟩,h3⟩,h4⟩,h5⟩,h6⟩,h7⟩:=h
 exact⟨h1,h2,h3,h4,h5,h6,h7⟩
theorem Qha (R : Rules) {r : List Str} {x : Str} {sd : Stmt} {f : Addr} {fd : FuncData} {ps : List Str} {k n m : Nat} {body : CS} {G : List (Str × RF)} {Z : List Str} {C : List (Str × D)} {H : List (Nat × Nat × Nat)} (F : Fun K x x sd f fd) (S : fscB (ps ++ r) ps (defScope sd) = true)
  (hb:blkC (recN R 40) ⟨defScope sd,ps++r,k,G,Z,C,H,true⟩ (defBody sd)=some body) (hG:EnvOk P w K mg base G) (hZ:ZOk mg Z) (hC:COk K mg C) (hn:ps.length=n) (hm:(ps++r).length=m):FnOk P w K mg base CX0 (k + 1) f fd ps (spOf K n (runDef m body)):=
 Qg7 R 40 F (Qg9 S) hn hm hG hZ hC hb
theorem Qhb (R : Rules) {r : List Str} {x : Str} {sd : Stmt} {ps : List Str} {k n m : Nat} {kw : Bool} {body : CS} {G : List (Str × RF)} {Z : List Str} {C : List (Str × D)} {H : List (Nat × Nat × Nat)} (F : FnAt K mg x sd) (S : fscB (ps ++ r) ps (defScope sd) = true)
  (b:∀ (kV doc pm:Value) (an:Option Addr) (cdv ct:Value) (us:List Value),us.length=ps.length->bindArgs (PySem.W.fnOf x x (defArgs sd) (defBody sd) (defScope sd) .none kV doc pm an cdv ct) { pos:=us }=pure (ps.zip us))
  (kb:kw=true->∀ (kV doc pm:Value) (an:Option Addr) (cdv ct:Value) (s:Shared) (ws:List Value),ws.length=ps.length->BindsTo s (PySem.W.fnOf x x (defArgs sd) (defBody sd) (defScope sd) .none kV doc pm an cdv ct) ⟨[],ps.zip ws⟩ (ps.zip ws))
  (hb:blkC (recN R 40) ⟨defScope sd,ps++r,k,G,Z,C,H,true⟩ (defBody sd)=some body) (hG:EnvOk P w K mg base G) (hZ:ZOk mg Z) (hC:COk K mg C) (hn:ps.length=n:=by rfl) (hm:(ps++r).length=m:=by rfl):EnvOk P w K mg base ((x,⟨n,k + 1,ps,kw,runDef m body⟩)::G):=by
 obtain⟨f,fd,F,hm'⟩:=F
 refine Qg6 hm' (Qha R F S hb hG hZ hC hn hm) F.kp (F.binds b) (fun z=>?_) hG
 obtain⟨oc,od,kV,doc,pm,an,cdv,ct,osl,e,lk,hcd⟩:=F.ex
 intro s ws hl
 rw[e]
 exact kb z kV doc pm an cdv ct s ws hl
end
end MM
namespace PySem.SeqAt
open AutoSeq1 (wpAny_loadPart')
open MeetsSeq MeetsSeq2 MeetsSeq3 SeqRoads2
def LtAt (A:Around) (s:Shared) (y x:Value) (b:Bool):Prop:=
 ∀ (prog:Program) (w:World) (E:Value->Shared->Prop) (Q:Value->Shared->Prop),Q (.bool b) s->wpAny (model prog w) A (richCompare .Lt y x) Q E s
def lexB (e t:Nat->Bool) (fin:Bool):Nat->Nat->Bool
 | _,0=>fin
 | i,k + 1=>if e i=true then lexB e t fin (i + 1) k else t i
theorem Qhc (l b : Addr) (items items2 : Array Value) (n n2 : Nat) (dd dd2 : Option Addr) (sl sl2 : Array (Option Value)) (e t : Nat -> Bool) :
  Meets (Builtin.«tuple.__lt__» ⟨[.ref l,.ref b],[]⟩)
   (fun A R s=>s.heap.get? l=some { cls:=.type "tuple",dict:=dd,data:=.seq items n,slots:=sl }/\s.heap.get? b=some { cls:=.type "tuple",dict:=dd2,data:=.seq items2 n2,slots:=sl2 } /\
    (∀ j (h1:j < items.size) (h2:j < items2.size),EqAt A.in1 s items[j] items2[j] (e j)/\(e j=false->LtAt A.in1 s items[j] items2[j] (t j))) /\
    R (.ok (.ret (.bool (lexB e t (decide (items.size < items2.size)) 0 (min items.size items2.size))))) s):=
 .of_wp fun prog w A R s h=>by
  obtain⟨hp,g,d,tk,os⟩:=s;obtain⟨hl,hb,he,h⟩:=h
  have f2:=AutoSeq1.sub_tuple_tuple
  have hZ:(items.toList.zip items2.toList).length=min items.size items2.size:=by simp
  wp_walk using wpAny_loadPart' hl,wpAny_loadPart' hb,wpAny_forIn_list _ (fun rest b s'=>b.1=none/\s'=⟨hp,g,d,tk,os⟩/\∃ i k,i + k=min items.size items2.size/\rest=(items.toList.zip items2.toList).drop i /\
   R (.ok (.ret (.bool (lexB e t (decide (items.size < items2.size)) i k)))) ⟨hp,g,d,tk,os⟩) _
  case turn=>
   rintro ⟨y,x⟩ rest b s' ⟨hb',rfl,i,k,hik,hz,hR⟩
   have hlt:i < (items.toList.zip items2.toList).length:=by
    rcases Nat.lt_or_ge i (items.toList.zip items2.toList).length with h' | h'
    ·exact h'
    ·rw[List.drop_of_length_le h']at hz;cases hz
   have hm:i < min items.size items2.size:=hZ ▸ hlt
   have h1:i < items.size:=Nat.lt_of_lt_of_le hm (Nat.min_le_left _ _)
   have h2:i < items2.size:=Nat.lt_of_lt_of_le hm (Nat.min_le_right _ _)
   rw[List.drop_eq_getElem_cons hlt]at hz
   injection hz with hyx hrest
   have hy:y=items[i]:=by have:=congrArg Prod.fst hyx;simpa using this
   have hx:x=items2[i]:=by have:=congrArg Prod.snd hyx;simpa using this
   subst hy hx
   obtain⟨k,rfl⟩:∃ k',k=k' + 1:=⟨k - 1,by ac_nf⟩
   rw[lexB]at hR
   obtain⟨he1,he2⟩:=he i h1 h2
   refine wpAny_bind (he1 prog w _ _ ?_)
   cases hy:e i with
   | true=>
    rw[hy]at hR
    wp_walk
    exact⟨rfl,rfl,i + 1,k,by ac_nf,hrest,by simpa using hR⟩
   | false=>
    rw[hy]at hR
    simp only[Bool.false_eq_true,if_false]at hR
    simp only[Bool.not_false,if_true]
    refine wpAny_bind (wpAny_rule ?_)
    refine wpAny_bind (he2 hy prog w _ _ ?_)
    wp_walk
    exact⟨_,rfl,by simpa using hR⟩
  case fin=>
   rintro ⟨b1,b2⟩ s' ⟨hb',rfl,i,k,hik,hz,hR⟩
   simp only at hb'
   subst hb'
   have hge:min items.size items2.size<=i:=by
    rcases Nat.lt_or_ge i (items.toList.zip items2.toList).length with h' | h'
    ·rw[List.drop_eq_getElem_cons h']at hz;cases hz
    ·exact hZ ▸ h'
   have hk0:k=0:=by ac_nf
   subst hk0
   rw[lexB]at hR
   wp_walk
   exact⟨_,rfl,by simpa [Builtin.Tuple.tupleCompareSizes] using hR⟩
  case h=>
   exact⟨rfl,rfl,0,_,Nat.zero_add _,rfl,by simpa using h⟩
section
variable {A:Around}{s:Shared}
theorem LtAt.ints {i j:Int}{t u:Tok}:LtAt A s (.int i t) (.int j u) (decide (i < j)):=fun prog w E Q h=>
 richCompare_gives (op:=.Lt) (typeIs_int s _ t) (typeIs_int s _ u) F.slot_int_lt F.entry_int_lt (F.args_int_lt_2 _ _) (gives_int_lt _ _ t u) (fun x=>nomatch x) h
theorem LtAt.tuples {l b : Addr} {items items2 : Array Value} {e t : Nat -> Bool} (hl : s.heap.IsTuple l items) (hb : s.heap.IsTuple b items2) (hu : A.units < cLine)
  (he:∀ j (h1:j < items.size) (h2:j < items2.size),EqAt A.in1 s items[j] items2[j] (e j)/\(e j=false->LtAt A.in1 s items[j] items2[j] (t j))):LtAt A s (.ref l) (.ref b) (lexB e t (decide (items.size < items2.size)) 0 (min items.size items2.size)):=fun prog w E Q h=>by
 obtain⟨⟨cls,dd,data,sl⟩,ho,hc,n,hd⟩:=id hl
 obtain⟨⟨cls2,dd2,data2,sl2⟩,ho2,hc2,n2,hd2⟩:=id hb
 simp only at hc hd hc2 hd2
 subst hc hd hc2 hd2
 exact richCompare_meets_room (op:=.Lt) ⟨_,ho,rfl⟩ ⟨_,ho2,rfl⟩ F.slot_tuple_lt F.entry_tuple_lt (F.args_tuple_lt_2 _ _) (Qhc l b items items2 n n2 dd dd2 sl sl2 e t)
  ⟨ho,ho2,he,show Value.bool _≠Value.notImplemented/\Q (.bool _) s from ⟨(fun x=>nomatch x),h⟩⟩ hu
end
end PySem.SeqAt
namespace MM
open PySem PySem.Spec PyProof.Rows L2 PySem.SeqAt
section
variable {A:Around}{s:Shared}
theorem eqAt_int {i j:Int}{t u:Tok}:EqAt A s (.int i t) (.int j u) (i == j):=fun prog w E Q h=>wpAny_eqBool_int h
theorem Qhd {as bs:List Int}:∀ (k i:Nat),i + k=min as.length bs.length->lexB (fun j=>as.getD j 0 == bs.getD j 0) (fun j=>decide (as.getD j 0 < bs.getD j 0)) (decide (as.length < bs.length)) i k=lexI (as.drop i) (bs.drop i)
 | 0,i,h=>by
  rw[lexB]
  by_cases h1:as.length < bs.length
  ·rw[decide_eq_true h1,List.drop_of_length_le (by ac_nf),List.drop_eq_getElem_cons (by ac_nf)];rfl
  ·rw[decide_eq_false h1,List.drop_of_length_le (l:=bs) (by ac_nf)]
   cases as.drop i<;>rfl
 | k + 1,i,h=>by
  have ha:i < as.length:=by ac_nf
  have hb:i < bs.length:=by ac_nf
  rw[lexB,List.drop_eq_getElem_cons ha,List.drop_eq_getElem_cons hb,lexI,Qhd k (i + 1) (by ac_nf)]
  rw[List.getD_eq_getElem?_getD,List.getD_eq_getElem?_getD,List.getElem?_eq_getElem ha,List.getElem?_eq_getElem hb]
  rfl
theorem IntsAre.at_:∀ {vs:List Value}{ns:List Int},IntsAre vs ns->∀ (i:Nat) (h:i < vs.length),∃ t,vs[i]=.int (ns.getD i 0) t
 | _,_,.nil,i,h=>by simp at h
 | _,_,.cons n t r,0,h=>⟨t,rfl⟩
 | _,_,.cons n t r,i + 1,h=>by
  obtain⟨t',e⟩:=IntsAre.at_ r i (by simpa using h)
  exact⟨t',by simpa using e⟩
theorem IntsAre.len:∀ {vs:List Value}{ns:List Int},IntsAre vs ns->vs.length=ns.length
 | _,_,.nil=>rfl
 | _,_,.cons n t r=>by simp[IntsAre.len r]
theorem Qhe {xs:Array Value}{as:List Int} (h:IntsAre xs.toList as) {j:Nat} (hj:j < xs.size):∃ t,xs[j]=.int (as.getD j 0) t:=by
 obtain⟨t,e⟩:=IntsAre.at_ h j (by simpa using hj)
 exact⟨t,by simpa using e⟩
theorem Qhf {l b:Addr}{xs ys:Array Value}{as bs:List Int} (hl:s.heap.IsTuple l xs) (hb:s.heap.IsTuple b ys) (ha:IntsAre xs.toList as) (hb':IntsAre ys.toList bs) (hu:A.units < cLine):LtAt A s (.ref l) (.ref b) (lexI as bs):=by
 have l1:xs.size=as.length:=by simpa using IntsAre.len ha
 have l2:ys.size=bs.length:=by simpa using IntsAre.len hb'
 have:=LtAt.tuples (A:=A) (s:=s) (e:=fun j=>as.getD j 0 == bs.getD j 0) (t:=fun j=>decide (as.getD j 0 < bs.getD j 0)) hl hb hu fun j h1 h2=>by
  obtain⟨t,e1⟩:=Qhe ha h1
  obtain⟨u,e2⟩:=Qhe hb' h2
  rw[e1,e2]
  exact⟨eqAt_int,fun _=>LtAt.ints⟩
 rw[l1,l2,Qhd _ 0 (by ac_nf),List.drop_zero,List.drop_zero]at this
 exact this
theorem Qhg {as bs:List Int}:((List.range (min as.length bs.length)).all (fun j=>as.getD j 0 == bs.getD j 0) && as.length == bs.length)=decide (as=bs):=by
 rw[Bool.eq_iff_iff,Bool.and_eq_true,List.all_eq_true,decide_eq_true_iff,beq_iff_eq]
 constructor
 ·rintro ⟨h,hl⟩
  refine List.ext_getElem hl fun i h1 h2=>?_
  have:=h i (List.mem_range.mpr (by ac_nf))
  rw[beq_iff_eq,List.getD_eq_getElem?_getD,List.getD_eq_getElem?_getD,List.getElem?_eq_getElem h1,List.getElem?_eq_getElem h2]at this
  exact this
 ·rintro rfl
  exact⟨fun i _=>beq_self_eq_true _,rfl⟩
theorem Qhh {l b:Addr}{xs ys:Array Value}{as bs:List Int} (hl:s.heap.IsTuple l xs) (hb:s.heap.IsTuple b ys) (ha:IntsAre xs.toList as) (hb':IntsAre ys.toList bs) (hu:A.units < cLine):EqAt A s (.ref l) (.ref b) (decide (as=bs)):=by
 by_cases e:l=b
 ·subst e
  obtain⟨o,h1,_,n,d1⟩:=hl
  obtain⟨o',h2,_,n',d2⟩:=hb
  rw[h1]at h2;cases h2
  rw[d1]at d2;cases d2
  have:as=bs:=by
   have f:∀ {vs:List Value}{as bs:List Int},IntsAre vs as->IntsAre vs bs->as=bs:=by
    intro vs as bs h1
    induction h1 generalizing bs with
    | nil=>intro h2;cases h2;rfl
    | cons n t r ih=>intro h2;cases h2 with | cons _ _ r'=>rw[ih r']
   exact f ha hb'
  rw[decide_eq_true this]
  exact EqAt.same _
 ·refine EqAt.of_refs e ?_
  have l1:xs.size=as.length:=by simpa using IntsAre.len ha
  have l2:ys.size=bs.length:=by simpa using IntsAre.len hb'
  have:=RcAt.tuples (A:=A) (s:=s) (e:=fun j=>as.getD j 0 == bs.getD j 0) hl hb hu fun j h1 h2=>by
   obtain⟨t,e1⟩:=Qhe ha h1
   obtain⟨u,e2⟩:=Qhe hb' h2
   rw[e1,e2]
   exact eqAt_int
  rw[l1,l2,Qhg]at this
  exact this
def IsPr (h:Heap) (v:Value) (p:Int × List Int):Prop:=∃ a t b xs,v=.ref a/\h.IsTuple a #[.int p.1 t,.ref b]/\h.IsTuple b xs/\IntsAre xs.toList p.2
end
open PySem.W
theorem Qhi {cmp : Nat -> Nat -> (Bool -> Shared -> Prop) -> Shared -> Prop} {G : Nat -> Shared -> Prop} {s : Shared} {p : Array Nat} {N : Nat} (hp : ∀ k, k < N -> p.getD k 0 = k) (hc : ∀ k C, 0 < k -> k < N -> C false s -> cmp k (k - 1) C s) :
  ∀ (f n:Nat),0 < n->n + f=N->G N s->(kas_asc p f n).kasWp cmp G s
 | 0,n,_,e,g=>by
  have e:n=N:=e
  subst e;exact g
 | f + 1,n,h0,e,g=>by
  rw[kas_asc,hp n (by ac_nf),hp (n - 1) (by ac_nf)]
  refine hc n _ h0 (by ac_nf) ?_
  exact Qhi hp hc f (n + 1) (by ac_nf) (by ac_nf) g
theorem Qhj {cmp:Nat->Nat->(Bool->Shared->Prop)->Shared->Prop}{G:Array Nat->Shared->Prop}{s:Shared}{N:Nat} (h1:0 < N) (hc:∀ k C,0 < k->k < N->C false s->cmp k (k - 1) C s) (hg:G (List.range N).toArray s):(kas_sort N).kasWp cmp G s:=by
 unfold kas_sort
 rw[KasT.kasWp_bind]
 unfold kas_count
 rw[KasT.kasWp_bind]
 refine Qhi (N:=N) (fun k hk=>?_) hc (N - 1) 1 (by ac_nf) (by ac_nf) ?_
 ·simp[hk]
 ·rw[if_pos (by simp)]
  show ((if N < N then _ else KasT.ret (List.range N).toArray):KasT (Array Nat)).kasWp cmp G s
  rw[if_neg (Nat.lt_irrefl _)]
  exact hg
def IsTr (h:Heap) (v:Value) (p:List Int × List Int × Int):Prop:=∃ a b1 b2 xs ys t o n,v=.ref a/\h.get? a=some o/\o.cls=.type "tuple"/\o.data=.seq #[.ref b1,.ref b2,.int p.2.2 t] n/\h.IsTuple b1 xs/\h.IsTuple b2 ys/\IntsAre xs.toList p.1/\IntsAre ys.toList p.2.1
section
variable {prog:Program}{w:World}{A:Around}{s:Shared}{Q:Bool->Shared->Prop}
theorem Qhk {v u:Value}{p q:List Int × List Int × Int} (hv:IsTr s.heap v p) (hw:IsTr s.heap u q) (hu:A.units + 1 < cLine) (h:Q (lexT3 p q) s):wpAny (model prog w) A (keyLt' (tuples' false) v u) Q (fun _ _=>False) s:=by
 obtain⟨a,b1,b2,xs,ys,t,o,n,rfl,ho,hc,hd,h1,h2,i1,i2⟩:=hv
 obtain⟨a',c1,c2,xs',ys',t',o',n',rfl,ho',hc',hd',h1',h2',i1',i2'⟩:=hw
 refine kat_lt ho hd ho' hd' ?_
 unfold lexT3 at h
 refine kat_cons (Qhh h1 h1' i1 i1' (by ac_nf) prog w _ _ ?_)
 by_cases e1:p.1=q.1
 ·rw[decide_eq_true e1]
  rw[if_pos e1]at h
  refine kat_yes (kat_cons (Qhh h2 h2' i2 i2' (by ac_nf) prog w _ _ ?_))
  by_cases e2:p.2.1=q.2.1
  ·rw[decide_eq_true e2]
   rw[if_pos e2]at h
   refine kat_yes (kat_cons (wpAny_eqBool_int ?_))
   by_cases e3:p.2.2=q.2.2
   ·rw[show (p.2.2 == q.2.2)=true by simp[e3]]
    refine kat_yes (kat_nil ?_)
    rw[e3]at h
    simpa using h
   ·rw[show (p.2.2 == q.2.2)=false by simp[e3]]
    exact kat_no (kat_one _ _ (lt_int h))
  ·rw[decide_eq_false e2]
   rw[if_neg e2]at h
   exact kat_no (kat_one _ _ (Qhf h2 h2' i2 i2' (by ac_nf) prog w _ _ h))
 ·rw[decide_eq_false e1]
  rw[if_neg e1]at h
  exact kat_no (kat_one _ _ (Qhf h1 h1' i1 i1' (by ac_nf) prog w _ _ h))
end
section
variable {X:Cx}{K:PySem.W.Frag}{ρ:List Addr}{H:Hp}{st:Sto}{pins:List (Addr × Obj)}{σ:L2.St}{s:Shared}
theorem Qhl (I : L2.Inv X pins σ H s) : ∀ {vs : List V} {ds : List D} {its : List Value} {ps : List (List Int × List Int × Int)}, Reps X.K ρ H vs ds -> L2.Vals vs its -> trisD ds = some ps ->
  ps.length=ds.length/\∀ (i:Nat) v,its[i]?=some v->IsTr s.heap v (ps.getD i ([],[],0))
 | _,_,_,ps,.nil,.nil,e=>by cases e;exact⟨rfl,fun i v h=>by simp at h⟩
 | _,_,_,ps,.cons (d:=d) (ds:=ds) r t,.cons ru tu,e=>by
  unfold trisD at e
  split at e
  ·rename_i d0 ds0 e0;cases e0
  ·rename_i d0 xs ys k ds' e0
   cases e0
   cases r with
   | @tup a vs' _ hq rr=>
    cases rr with
    | cons r1 rr=>cases rr with
     | cons r2 rr=>cases rr with
      | cons r3 rr=>
       cases rr
       cases r1 with
       | @tup b1 ws1 _ hq1 rr1=>cases r2 with
        | @tup b2 ws2 _ hq2 rr2=>
         cases r3
         cases e1:numsL xs with
         | none=>rw[e1]at e;cases e
         | some ns1=>
          cases e2:numsL ys with
          | none=>rw[e1,e2]at e;cases e
          | some ns2=>
           cases e3:trisD ds with
           | none=>rw[e1,e2,e3]at e;cases e
           | some rs=>
            rw[e1,e2,e3]at e
            cases e
            obtain⟨hl,hr⟩:=Qhl I t tu e3
            refine⟨by simp[hl],fun i v h=>?_⟩
            cases i with
            | succ i=>exact hr i v (by simpa using h)
            | zero=>
             cases (show _=Value.ref a from ru)
             simp only[List.getElem?_cons_zero,Option.some.injEq]at h
             subst h
             obtain⟨its',rv,⟨o,p1,p2,n,p3⟩,_⟩:=I.tuple hq
             cases rv with
             | cons g1 rv=>cases rv with
              | cons g2 rv=>cases rv with
               | cons g3 rv=>
                cases rv
                cases (show _=Value.ref b1 from g1)
                cases (show _=Value.ref b2 from g2)
                obtain⟨tk,rfl⟩:=g3
                obtain⟨its1,rv1,q1,_⟩:=I.tuple hq1
                obtain⟨its2,rv2,q2,_⟩:=I.tuple hq2
                have z1:=Qfn e1 rr1
                have z2:=Qfn e2 rr2
                subst z1 z2
                exact⟨a,b1,b2,_,_,tk,o,n,rfl,p1,p2,p3,q1,q2,by simpa using Qb1 rv1,by simpa using Qb1 rv2⟩
  ·cases e
theorem Qhm:∀ {ps:List (List Int × List Int × Int)} (k:Nat),upT ps=true->0 < k->k < ps.length->lexT3 (ps.getD k ([],[],0)) (ps.getD (k - 1) ([],[],0))=false
 | p::q::r,k,h,h0,hk=>by
  rw[upT,Bool.and_eq_true]at h
  match k,h0 with
  | 1,_=>simpa using h.1
  | k + 2,_=>
   have:=Qhm (ps:=q::r) (k + 1) h.2 (by ac_nf) (by simpa using hk)
   simpa using this
 | [],k,h,h0,hk=>by simp at hk
 | [p],k,h,h0,hk=>by simp at hk;ac_nf
theorem Qhn (hu : X.A.units + 60 < cLine) : CallR X (.builtin "sorted") (fun xs H Q => ∃ (l : Addr) (vs : List V) (ρ : List Addr) (ds : List D) (ps : List (List Int × List Int × Int)), xs = [.ref l] /\ SqL X.K H l vs /\ Reps X.K ρ H vs ds /\ trisD ds = some ps /\ upT ps = true /\ ds.length < 64 /\
  ∀ q,H q=none->Q (.ref q) (upd H q (.lst vs))):=by
 intro pins s σ H xs us Q I r h
 obtain⟨l,vs,ρ,ds,ps,rfl,hq,rr,he,hup,h64,q⟩:=h
 obtain⟨u,rfl,rx⟩:=Qbt r
 cases rx
 obtain⟨its,rv,pl,hz⟩:=I.list hq
 have l1:=rv.length
 have l2:=rr.length
 obtain⟨hpl,htr⟩:=Qhl I rr rv he
 obtain⟨m,F⟩:=I.fr
 have N:News X.base X.env.locals s.heap (allNews X.base s.heap X.env.locals):=Qar
 have sl:vs.length<=sizeLine:=Nat.le_trans (show vs.length<=64 by ac_nf) (by decide)
 by_cases h2:its.length < 2
 ·refine QgH (vs:=its) F N pl.isList (by ac_nf) fun D h' F' N' hD=>?_
  have ho:=(N' _ (List.mem_cons_self ..)).1
  refine wpAny_call_entry slot_list_sort ⟨_,ho,rfl⟩ entry_list_sort (QgG (vs:=its) ho h2 fun h2 c kp hc=>?_) (args_list_sort _)
  have hDL:=(N' _ (List.mem_cons_self ..)).2.1
  have hDb:=(N' _ (List.mem_cons_self ..)).2.2
  have F3:Fr X.base X.env.locals h2 m:=by
   obtain⟨o,es,ep,e1,e2⟩:=F'.ns
   refine⟨⟨o,es,ep,kp _ o (Ne.symm hDL) e1,e2⟩,fun b u z=>kp b u (fun zz=>?_) (F'.keep b u z),F'.above⟩
   subst zz
   exact absurd (hDb.symm.trans z) (fun k=>nomatch k)
  have N3:News X.base X.env.locals h2 ((D,seqObj "list" its.toArray c)::allNews X.base s.heap X.env.locals):=fun z hz=>by
   rcases List.mem_cons.mp hz with e | e
   ·subst e;exact⟨hc,hDL,hDb⟩
   ·have:=N' z (List.mem_cons_of_mem _ e)
    exact⟨kp _ _ (Nat.ne_of_lt (hD z e)) this.1,this.2⟩
  obtain⟨hDH,I3⟩:=QgI (tk:=s.toks) (vs:=vs) I F F3 N3 hD rv sl
  exact⟨.none,rfl,.ref D,_,I3,rfl,q D hDH⟩
 ·refine kat_sorted F N pl.isList (by ac_nf) (by ac_nf) fun D e1 h' F' N' hD=>?_
  have N'':News X.base X.env.locals h' (allNews X.base s.heap X.env.locals):=fun z hz=>N' z (List.mem_cons_of_mem _ hz)
  have kept:∀ b o,b≠X.env.locals->s.heap.get? b=some o->h'.get? b=some o:=fun b o hb e=>by
   cases z:X.base.get? b with
   | some u=>
    have:=F.keep b u z
    rw[e]at this;cases this
    exact F'.keep b _ z
   | none=>exact (N'' (b,o) (Qap hb z e)).1
  have neL:∀ (a:Addr) o xs n,s.heap.get? a=some o->o.data=.seq xs n->a≠X.env.locals:=fun a o xs n ho hd e=>by
   obtain⟨o',es,ep,ho',hd',_⟩:=F.ns
   rw[e,ho']at ho;cases ho
   rw[hd']at hd;cases hd
  have kT:∀ (a:Addr) xs,s.heap.IsTuple a xs->h'.IsTuple a xs:=fun a xs ht=>by
   obtain⟨o,ho,hc,n,hd⟩:=ht
   exact⟨o,kept a o (neL a o xs n ho hd) ho,hc,n,hd⟩
  have htr':∀ (i:Nat) v,its[i]?=some v->IsTr h' v (ps.getD i ([],[],0)):=fun i v hi=>by
   obtain⟨a,b1,b2,xs,ys,t,o,n,e,p1,p2,p3,p4,p5,p6,p7⟩:=htr i v hi
   exact⟨a,b1,b2,xs,ys,t,o,n,e,kept a o (neL a o _ n p1 p3) p1,p2,p3,kT _ _ p4,kT _ _ p5,p6,p7⟩
  have tups:∃ fs:List Value,KatTups h' its fs/\fs.length=its.length/\∀ v∈fs,∃ b xs,v=.ref b/\h'.IsTuple b xs:=by
   have gen:∀ (ys:List Value),(∀ v∈ys,∃ p,IsTr h' v p)->∃ fs:List Value,KatTups h' ys fs/\fs.length=ys.length/\∀ v∈fs,∃ b xs,v=.ref b/\h'.IsTuple b xs:=by
    intro ys
    induction ys with
    | nil=>exact fun _=>⟨[],trivial,rfl,by simp⟩
    | cons y ys ih=>
     intro hy
     obtain⟨fs,k1,k2,k3⟩:=ih fun v hv=>hy v (by simp[hv])
     obtain⟨p,a,b1,b2,xs,zs,t,o,n,e,p1,p2,p3,p4,p5,p6,p7⟩:=hy y (by simp)
     subst e
     exact⟨.ref b1::fs,KatTups.cons p1 p2 p3 rfl k1,by simp[k2],fun v hv=>by
      rcases List.mem_cons.mp hv with z | z
      ·exact⟨b1,xs,z,p4⟩
      ·exact k3 v z⟩
   refine gen its fun v hv=>?_
   obtain⟨i,hi⟩:=List.getElem?_of_mem hv
   exact⟨_,htr' i v hi⟩
  obtain⟨fs,t1,t2,t3⟩:=tups
  refine kat_kind (T:=.type "tuple") t1 (by ac_nf) (fun v hv=>?_) (by decide) ?_
  ·obtain⟨b,xs,e,o,ho,hc,_⟩:=t3 v hv
   subst e
   exact fun A Q E s' k q'=>wpAny_typeOf ⟨o,k b o ho,hc⟩ q'
  refine Qhj (N:=its.length) (by ac_nf) (fun k C h0 hk hC=>?_) ?_
  ·show wpAny _ _ (keyLt' _ (its.getD k Value.none) (its.getD (k - 1) Value.none)) _ _ _
   have e1:its[k]?=some (its.getD k Value.none):=by rw[List.getD_eq_getElem?_getD,List.getElem?_eq_getElem hk];rfl
   have e2:its[k - 1]?=some (its.getD (k - 1) Value.none):=by rw[List.getD_eq_getElem?_getD,List.getElem?_eq_getElem (by ac_nf)];rfl
   refine Qhk (htr' _ _ e1) (htr' _ _ e2) ?_ ?_
   ·show X.A.units + 1 + 1 + 1 < cLine;ac_nf
   ·rw[Qhm k hup h0 (by ac_nf)];exact hC
  ·refine KasFin.intro F' N' (UpdF.head (fun z hz=>Nat.ne_of_lt (hD z hz))) fun h3 c F3 N3=>?_
   have eo:((List.range its.length).toArray.toList.map fun i=>its.getD i Value.none)=its:=by
    apply List.ext_getElem?
    intro i
    rw[List.getElem?_map]
    by_cases hi:i < its.length
    ·simp[List.getElem?_range hi,List.getD_eq_getElem?_getD,List.getElem?_eq_getElem hi]
    ·rw[List.getElem?_eq_none (by simp;ac_nf),List.getElem?_eq_none (by ac_nf)];rfl
   rw[eo]at N3
   obtain⟨hDH,I3⟩:=QgI (tk:=s.toks) (vs:=vs) I F F3 N3 hD rv sl
   exact⟨.ref D,_,I3,rfl,q D hDH⟩
theorem Qho (hu:X.A.units + 60 < cLine):CallR X (.builtin "sorted") (lOf X.K sortedTL):=(Qhn hu).of fun xs H Q pq89=>by
 obtain⟨a,vs,ρ,st,ds,e,hv,sr,r,p⟩:=pq89
 unfold sortedTL at p
 cases q:trisD ds with
 | none=>rw[q]at p;exact p.elim
 | some ps=>
  rw[q]at p
  obtain⟨⟨hup,h64⟩,p1⟩:=Post.chk p
  refine⟨a,vs,ρ,ds,ps,e,hv,r,q,hup,h64,fun l hl=>?_⟩
  have nl:=sr.fresh hl
  have s2:SR X.K (ρ++[l]) (upd H l (.lst vs)) (st++[.lst ds]):=(sr.new hl).keep Qai nl (r.mono (Ex.new hl))
  refine p1 _ _ (Ex.newL hl) s2 _ (.ref ⟨_,Qai,rfl⟩ ?_)
  rw[<- sr.len];simp
end
end MM
namespace MM
open PySem PySem.Spec PyProof.Rows L2
section
variable {prog:Program}{w:World}{A:Around}{E:Value->Shared->Prop}{s:Shared}{env:Env}
theorem Qhp {keys : List (Option Expr)} {values : List Expr} {pos : Pos} {Q : Value -> Shared -> Prop} (hall : keys.all (·.isSome) = true) (hl : keys.length = values.length) (h0 : keys ≠ []) (hlen : keys.length <= 15)
  (h:wpAny (model prog w) A (evalPairs (pairTrees keys values env pos)) (fun vs s1=>wpAny (model prog w) A (forIn vs PUnit.unit fun (x:Value × Value) (_:PUnit)=>(do dictSet s.heap.objs.size x.1 x.2;pure (ForInStep.yield PUnit.unit):Sem (ForInStep PUnit))) (fun _ s2=>Q (.ref s.heap.objs.size) s2) E s1) E { s with heap:=s.heap.push { cls:=.type "dict",data:=.dict #[] } }):
  wpAny (model prog w) A (eval (.Dict keys values pos) env) Q E s:=by
 have hn:=pairTrees_length keys values env pos hall hl
 have h1:pairTrees keys values env pos≠[]:=fun e=>by
  rw[e]at hn
  exact h0 (List.length_eq_zero_iff.mp hn.symm)
 rw[arm_eval_Dict,zip_pairTrees keys values env pos hall hl,dictDisplay_pairs _ h1 (by ac_nf)]
 refine wpAny_bind (wpAny_standAt (wpAny_bind ?_))
 unfold subDict
 refine wpAny_bind (wpAny_alloc (wpAny_bind (wpAny_holding ?_)))
 rw[if_pos (by ac_nf)]
 refine wpAny_bind (wpAny_mono h (fun vs s1 h1=>?_) fun _ _ e=>e)
 exact wpAny_holding (wpAny_bind (wpAny_mono h1 (fun _ s2 h2=>wpAny_pure (wpAny_pure (wpAny_pure h2))) fun _ _ e=>e))
end
section
variable {X:Cx}{pins:List (Addr × Obj)}{σ:St}{s:Shared}{a:Addr}{K:PySem.W.Frag}{ρ:List Addr}{H:Hp}{st:Sto}
theorem Qhq {n : Nat} {kvs : List (D × D)} {k d : D} {y v : V} {u r' : Value} {Q : Unit -> Shared -> Prop} {E : Value -> Shared -> Prop} {A : Around} (hu : A.units + 2 < cLine) (I : Inv X pins σ H s) (sr : SR X.K ρ H st) (ha : ρ[n]? = some a) (hn : st[n]? = some (.dct true kvs))
  (rk:Rep X.K ρ H y k) (hk:kOk true k=true) (hl:kvs.length < sizeLine) (rv:Rep X.K ρ H v d) (ry:RelV y u) (rr:RelV v r')
  (h:∀ H' s',Inv X pins σ H' s'->SR X.K ρ H' (st.set n (.dct true (ptK kvs k d)))->Ex ρ H ρ H'->Q () s'):wpAny (model X.prog X.w) A (dictSet a u r') Q E s:=by
 have hlt:=(List.getElem?_eq_some_iff.mp hn).1
 obtain⟨es,e,r⟩:=sr.ob n a _ ha hn
 obtain⟨k,rfl⟩:=QdG hk
 obtain⟨_,hd,xs,rx,dd,de⟩:=QdN I e r
 obtain⟨c,e2,e3,hc⟩:=QdM I rk ry
 subst e2 e3
 have up:Up ρ H ρ (upd H a (nstO a (putN es k c v))):=by
  refine⟨⟨[],by simp⟩,fun c o no q=>?_,fun c o q=>?_⟩
  ·rw[Qaj fun z=>by subst z;rw[e]at q;cases q;exact nomatch no];exact q
  ·by_cases z:c=a
   ·subst z;rw[e]at q;cases q;exact⟨_,Qai,rfl⟩
   ·exact⟨o,by rw[Qaj z];exact q,rfl⟩
 have w:=sr.putO (o':=.dct true (ptK kvs (stD k) d)) (u':=nstO a (putN es k c v)) hlt ha e (by show (2:Nat)≠3;decide) rfl ⟨_,Qai,(NR.put r k c rk rv).up up⟩
 have hz:xs.length<=sizeLine:=by rw[<- Paired.length rx,NR.length r];ac_nf
 refine Qdm (knd:=nkd X) (show A.units + 1 < cLine by ac_nf) hc dd de hz fun h' dd' de' hs=>h _ _ ?_ w.1 w.2
 have he:∃ q,h'.get? a=some q:=let ⟨q,_,_,hq,_⟩:=dd';⟨q,hq⟩
 refine Qc2 I (by rw[e];exact True.intro) hs he (QdO ?_ hd (NX.put rx k c rr) dd' de')
 have:=QdP es k c v
 rw[NR.length r]at this
 ac_nf
theorem Post.storeT {n:Nat}{k v:D}{R:Unit->Sto->List Addr->Hp->Prop} (h:Post K ρ H (MM.storeT n k v st) R) (s:SR K ρ H st):∃ kvs,st[n]?=some (.dct true kvs)/\kOk true k=true/\kvs.length < lim/\Post K ρ H (.ok () (st.set n (.dct true (ptK kvs k v)))) R:=by
 obtain⟨b,kvs,e,p1⟩:=Post.getDc (Post.bnd h) s
 obtain⟨⟨hb,hk,hl⟩,p2⟩:=Post.chk p1
 have hb:b=true:=hb
 subst hb
 refine⟨kvs,e,hk,hl,?_⟩
 unfold putDc at p2
 rw[e]at p2
 simpa using p2
end
section
variable {X:Cx}{k1 v1 k2 v2:Expr}{pos:Pos}{f1 g1 f2 g2:CE}
theorem Qhr (hu:X.A.units + 60 < cLine) (h1:SE X k1 f1) (h2:SE X v1 g1) (h3:SE X k2 f2) (h4:SE X v2 g2):SE X (.Dict [some k1,some k2] [v1,v2] pos) (cDisp2 f1 g1 f2 g2):=by
 intro pins s σ H Q I h_
 obtain⟨ρ,l,st,lr,sr,p⟩:=h_
 have hn:=I.hok.fresh (Nat.le_refl s.heap.objs.size)
 have I1:=I.laid (a:=s.heap.objs.size) (o:=nstO s.heap.objs.size []) (h':=s.heap.push { cls:=.type "dict",data:=.dict #[] }) (t':=s.toks) (fun _ _ q=>Heap.get?_push_of_some _ q) (Nat.le_refl _)
  (QdO (P:=X.prog) (w:=X.w) (xs:=[]) (Nat.zero_le _) (beq_eq_false_iff_ne.mpr (Ne.symm (Nat.ne_of_lt I.big))) .nil (Heap.DictOfH.new s.heap) ⟨_,_,Heap.get?_push_size _ rfl,rfl⟩)
 have x0:Ex ρ H (ρ++[s.heap.objs.size]) (upd H s.heap.objs.size (nstO s.heap.objs.size [])):=Ex.newO hn
 have s0:SR X.K (ρ++[s.heap.objs.size]) (upd H s.heap.objs.size (nstO s.heap.objs.size [])) (st++[.dct true []]):=(sr.new hn).keepO (sr.fresh hn) ⟨[],Qai,.nil⟩
 have p0:=(p.bnd) _ _ x0 s0
 have hq0:(ρ++[s.heap.objs.size])[st.length]?=some s.heap.objs.size:=by rw[<- sr.len];simp
 have pps:PPs X pos [some k1,some k2] [v1,v2] [(tOf X.K f1,tOf X.K g1),(tOf X.K f2,tOf X.K g2)]:=Qc9 h1 h2 (Qc9 h3 h4 Qc8)
 refine Qhp rfl rfl (by simp) (by simp) (thn (pps pins _ σ _ (fun ps H'=>∃ (ρ':List Addr) (st':Sto) (x1 y1 x2 y2:V) (d1 e1 d2 e2:D),ps=[(x1,y1),(x2,y2)]/\SR X.K ρ' H' st'/\ρ'[st.length]?=some s.heap.objs.size/\Rep X.K ρ' H' x1 d1/\Rep X.K ρ' H' y1 e1/\Rep X.K ρ' H' x2 d2/\Rep X.K ρ' H' y2 e2 /\
  Post X.K ρ' H' (bnd (storeT st.length d1 e1) (fun _=>bnd (storeT st.length d2 e2) fun _=>ret (.dic st.length)) st') fun d _ ρ'' H''=>∀ v,Rep X.K ρ'' H'' v d->Q v H'') I1 ?_) fun vs s2 z=>?_)
 ·have lr0:=lr.mono x0
  exact⟨_,l,_,lr0,s0,(p0.bnd).imp fun d1 st1 ρ1 H1 y1 s1 p1 v1 r1=>⟨ρ1,l,st1,lr0.mono y1,s1,(p1.bnd).imp fun e1 st2 ρ2 H2 y2 s2 p2 v2 r2=>⟨ρ2,l,st2,(lr0.mono y1).mono y2,s2,(p2.bnd).imp fun d2 st3 ρ3 H3 y3 s3 p3 v3 r3=>⟨ρ3,l,st3,((lr0.mono y1).mono y2).mono y3,s3,(p3.bnd).imp fun e2 st4 ρ4 H4 y4 s4 p4 v4 r4=>by
   refine⟨ρ4,st4,v1,v2,v3,v4,d1,e1,d2,e2,rfl,s4,?_,((r1.mono y2).mono y3).mono y4,(r2.mono y3).mono y4,r3.mono y4,r4,p4⟩
   obtain⟨τ,e,_⟩:=(((y1.trans y2).trans y3).trans y4).pre
   rw[e,List.getElem?_append_left (List.getElem?_eq_some_iff.mp hq0).1]
   exact hq0⟩⟩⟩⟩
 ·obtain⟨ps,H2,I2,rel,ρ',st',x1,y1,x2,y2,d1,e1,d2,e2,rfl,s2',hq1,r1,r2,r3,r4,p2⟩:=z
  cases rel with
  | @cons _ ua _ us ra rel=>
   cases rel with
   | @cons _ ub _ us rb rel=>
    cases rel
    obtain⟨u1,w1⟩:=ua
    obtain⟨u2,w2⟩:=ub
    rw[List.forIn_cons]
    obtain⟨kvs,g1,hk1,hl1,p3⟩:=Post.storeT (p2.bnd) s2'
    refine wpAny_bind (wpAny_bind (Qhq (by ac_nf) I2 s2' hq1 g1 r1 hk1 hl1 r2 ra.1 ra.2 fun H3 s3 I3 sr3 x3=>wpAny_pure ?_))
    have p4:=p3 _ _ x3 sr3
    show wpAny _ _ (forIn [(u2,w2)] PUnit.unit _) _ _ _
    rw[List.forIn_cons]
    obtain⟨kvs2,g2,hk2,hl2,p5⟩:=Post.storeT (p4.bnd) sr3
    refine wpAny_bind (wpAny_bind (Qhq (by ac_nf) I3 sr3 hq1 g2 (r3.mono x3) hk2 hl2 (r4.mono x3) rb.1 rb.2 fun H4 s4 I4 sr4 x4=>wpAny_pure ?_))
    have p6:=(p5 _ _ x4 sr4).ret sr4
    show wpAny _ _ (forIn [] PUnit.unit _) _ _ _
    rw[List.forIn_nil]
    refine wpAny_pure ⟨.ref _,H4,I4,rfl,p6 _ ?_⟩
    obtain⟨es,e,_⟩:=sr4.ob st.length _ _ hq1 (List.getElem?_set_self (List.getElem?_eq_some_iff.mp g2).1)
    exact .dic ⟨_,e,.inr rfl⟩ hq1
end
section
def rSorted3:RuE:=⟨fun q c e=>match e with
 | .Call (.Name y _) [a] [] p=>if y=Str.ofString "sorted"/\c.bl y=true/\plE a=true/\c.tag p 11=true then (q.e c a).bind fun fa=>some (c1 (refL sortedTL) fa) else none
 | _=>none,fun {q} hq {X c} g {e r} z=>by
 split at z
 ·simp only[Option.ite_none_right_eq_some,Option.bind_eq_some_iff]at z
  obtain⟨⟨rfl,hb,hp,_⟩,fa,ha,z⟩:=z
  cases z
  exact Qfd (QgF (Qho g.hu)) (g.gl hb).1 (g.gl hb).2 (by nofun) (hq.e g ha) (Qg8 (by nofun)) (by nofun) (QgM hp)
 ·cases z⟩
def rDisp2:RuE:=⟨fun q c e=>match e with
 | .Dict [some k1,some k2] [v1,v2] _=>(q.e c k1).bind fun f1=>(q.e c v1).bind fun g1=>(q.e c k2).bind fun f2=>(q.e c v2).bind fun g2=>some (cDisp2 f1 g1 f2 g2)
 | _=>none,fun {q} hq {X c} g {e r} z=>by
 split at z
 ·simp only[Option.bind_eq_some_iff]at z
  obtain⟨f1,h1,g1,h2,f2,h3,g2,h4,z⟩:=z
  cases z
  exact Qhr g.hu (hq.e g h1) (hq.e g h2) (hq.e g h3) (hq.e g h4)
 ·cases z⟩
def sTupCell:RuS:=⟨fun q c s=>match s with
 | .Assign [.Tuple [.Name x p1,.Name y p2] k p] (.Tuple vs k2 p3) _=>if c.top=true/\c.sc.names.lookup x=some .cell/\c.sc.names.lookup y=some .cell then (q.e c (.Tuple vs k2 p3)).bind fun f=>(q.g c (.Tuple [.Name x p1,.Name y p2] k p)).bind fun h=>some (sAsg h f) else none
 | _=>none,fun {q} hq {X c} g {s r} z=>by
 split at z
 ·simp only[Option.ite_none_right_eq_some,Option.bind_eq_some_iff]at z
  obtain⟨⟨ht,hx,hy⟩,f,hf,h,hh,z⟩:=z
  cases z
  rename_i x p1 y p2 k p vs k2 p3 s
  have e1:(X.env.kindOf x == some NameKind.local)=false:=by rw[(g.kd ht).2 x,hx];rfl
  have e2:(X.env.kindOf y == some NameKind.local)=false:=by rw[(g.kd ht).2 y,hy];rfl
  refine QeV (hq.e g hf) (hq.g g hh) rfl ?_ rfl
  unfold swappedStores
  simp only[e1,e2,List.filterMap,Bool.false_and,Bool.false_eq_true,if_false]
  simp only[pure_bind,List.length_nil,List.length_cons]
  split
  ·rfl
  ·split
   ·rfl
   ·rfl
 ·cases z⟩
end
end MM
namespace MM
open PySem
abbrev At {α:Type} (_:α->Sto->Prop):Type:=Sto
inductive wp {α:Type} (m:M α) (Q:α->Sto->Prop) (s:At Q):Prop
 | intro (a:α) (s':Sto) (h:m s=.ok a s') (q:Q a s'):wp m Q s
theorem Qhs {α:Type}{m:M α}{Q:α->Sto->Prop}{s:Sto}:wp m Q s=(match m s with
 | .ok a s'=>Q a s'
 | _=>False):=by
 apply propext
 constructor
 ·rintro ⟨a,s',h,q⟩;rw[h];exact q
 ·intro h
  cases e:m s with
  | ok a s'=>rw[e]at h;exact⟨a,s',e,h⟩
  | exc _ _=>rw[e]at h;exact h.elim
  | bad=>rw[e]at h;exact h.elim
section
variable {α β:Type}{Q:α->Sto->Prop}{s:Sto}
theorem wp_eq {m:M α}{a:α}{s':Sto} (h:m s=.ok a s'):wp m Q s=Q a s':=by rw[Qhs,h]
theorem wp_no {m:M α} (h:m s=.bad):wp m Q s=False:=by rw[Qhs,h]
theorem wp_cg {m:M β}{Q Q':β->Sto->Prop}{s:Sto} (h:∀ a s',Q a s'=Q' a s'):wp m Q s=wp m Q' s:=by
 rw[show Q=Q' from funext fun a=>funext fun t=>h a t]
theorem wp_ret {a:α}:wp (ret a) Q s=Q a s:=wp_eq rfl
theorem wp_bad:wp (bad:M α) Q s=False:=wp_no rfl
theorem Qht {m:M β}{f:β->M α}:wp (bnd m f) Q s=wp m (fun a s'=>wp (f a) Q s') s:=by
 simp only[Qhs]
 unfold bnd
 cases m s<;>rfl
theorem wp_chk {c:Prop} [Decidable c] {m:M α}:wp (chk c m) Q s=(c/\wp m Q s):=by
 unfold chk
 by_cases h:c
 ·simp[h]
 ·simp[h,wp_bad]
theorem wp_alloc {o:MO}{Q:D->Sto->Prop}:wp (alloc o) Q s=Q (.ref s.length) (s++[o]):=wp_eq rfl
theorem Qhu {n:Nat}{ds:List D}{Q:List D->Sto->Prop} (h:s[n]?=some (.lst ds)):wp (getL n) Q s=Q ds s:=by
 rw[Qhs];unfold getL;rw[h]
theorem Qhv {n:Nat}{ds es:List D}{Q:Unit->Sto->Prop} (h:s[n]?=some (.lst ds)):wp (putL n es) Q s=Q () (s.set n (.lst es)):=by
 rw[Qhs];unfold putL;rw[h]
theorem Qhw {m:M α}{Q':α->Sto->Prop} (h:wp m Q s) (f:∀ a s',Q a s'->Q' a s'):wp m Q' s:=by
 simp only[Qhs]at *
 cases e:m s with
 | ok a s'=>rw[e]at h;exact f a s' h
 | exc _ _=>rw[e]at h;exact h
 | bad=>rw[e]at h;exact h
theorem Qhx {c:Prop} [Decidable c] {m n:M α}:wp (if c then m else n) Q s=if c then wp m Q s else wp n Q s:=by split<;>rfl
end
theorem Qhy {ds:List D}{i:Int}{d:D} (h0:0<=i) (h:ds[i.toNat]?=some d):itemD ds i=ret d:=by
 have hl:i.toNat < ds.length:=(List.getElem?_eq_some_iff.mp h).1
 unfold itemD MM.ixN
 rw[if_pos h0,if_pos (by ac_nf)]
 dsimp only
 rw[h]
theorem wp_run {n:Nat}{b:CS}{ds:List D}{Q:D->Sto->Prop}{s:Sto}:wp (runDef n b ds) Q s=wp (b (ds.map some++List.replicate (n - ds.length) none)) (fun f s'=>wp (flwD f) Q s') s:=by
 unfold runDef;rw[Qht]
theorem Qhz {g : CG} {b : CS} {same : Sto -> Prop} {Q : Flw -> Sto -> Prop} (W : List D -> Loc -> Sto -> Prop)
  (hend:∀ l s,W [] l s->wp (chkS same) (fun _ s'=>Q (.next l) s') s)
  (hstep:∀ d ds l s,W (d::ds) l s->wp (chkS same) (fun _ s1=>wp (g d l) (fun l1 s2=>wp (b l1) (fun f s3=>match f with
   | .next l2=>W ds l2 s3
   | .cnt l2=>W ds l2 s3
   | .brk l2=>Q (.next l2) s3
   | .ret d=>Q (.ret d) s3) s2) s1) s):∀ ds l s,W ds l s->wp (forD g b same ds l) Q s:=by
 intro ds
 induction ds with
 | nil=>
  intro l s h
  unfold forD
  rw[Qht]
  exact Qhw (hend l s h) fun _ s' q=>by rw[wp_ret];exact q
 | cons d ds ih=>
  intro l s h
  unfold forD
  rw[Qht]
  refine Qhw (hstep d ds l s h) fun _ s1 q=>?_
  rw[Qht]
  refine Qhw q fun l1 s2 q=>?_
  rw[Qht]
  refine Qhw q fun f s3 q=>?_
  cases f with
  | next l2=>exact ih l2 s3 q
  | cnt l2=>exact ih l2 s3 q
  | brk l2=>show wp (ret _) _ _;rw[wp_ret];exact q
  | ret d=>show wp (ret _) _ _;rw[wp_ret];exact q
theorem QhA {g : CG} {t : CT} {e : CE} {same : Sto -> Prop} {Q : List D -> Sto -> Prop} (W : List D -> List D -> Loc -> Sto -> Prop)
  (hend:∀ out l s,W out [] l s->wp (chkS same) (fun _ s'=>Q out s') s)
  (hstep:∀ out d ds l s,W out (d::ds) l s->wp (chkS same) (fun _ s1=>wp (g d l) (fun l1 s2=>wp (t l1) (fun b s3=>if b=true then wp (e l1) (fun x s4=>W (out++[x]) ds l1 s4) s3 else W out ds l1 s3) s2) s1) s):
  ∀ ds out l s,W out ds l s->wp (collect g t e same ds l) (fun xs s'=>Q (out++xs) s') s:=by
 intro ds
 induction ds with
 | nil=>
  intro out l s h
  unfold collect
  rw[Qht]
  exact Qhw (hend out l s h) fun _ s' q=>by rw[wp_ret,List.append_nil];exact q
 | cons d ds ih=>
  intro out l s h
  unfold collect
  rw[Qht]
  refine Qhw (hstep out d ds l s h) fun _ s1 q=>?_
  rw[Qht]
  refine Qhw q fun l1 s2 q=>?_
  rw[Qht]
  refine Qhw q fun b s3 q=>?_
  cases b with
  | false=>exact ih out l1 s3 q
  | true=>
   show wp (bnd (e l1) _) _ s3
   rw[Qht]
   refine Qhw q fun x s4 q=>?_
   rw[Qht]
   refine Qhw (ih (out++[x]) l1 s4 q) fun xs s5 q=>?_
   rw[wp_ret]
   rw[List.append_assoc]at q
   exact q
theorem QhB {e : CE} {xs : List D} {same : Sto -> Prop} {caps : Loc} {s : Sto} {Q : List D -> Sto -> Prop} (W : Nat -> List D -> Sto -> Prop) (hs : ∀ i out s, W i out s -> same s) (h0 : W 0 [] s)
  (hstep:∀ (i:Nat) d out s,xs[i]?=some d->W i out s->wp (e (some d::caps)) (fun x s'=>W (i + 1) (out++[x]) s') s) (hend:∀ out s,W xs.length out s->Q out s):
  wp (collect (gVar 0) tTrue e same xs (none::caps)) Q s:=by
 have chk:∀ {s:Sto}{R:Unit->Sto->Prop},same s->R () s->wp (chkS same) R s:=fun h r=>by rw[Qhs];unfold chkS;rw[if_pos h];exact r
 refine QhA (Q:=Q) (fun out ds l s=>∃ i x0,ds=xs.drop i/\i<=xs.length/\l=x0::caps/\W i out s) (fun out l s ⟨i,x0,e1,hi,_,w⟩=>?_) (fun out d ds l s ⟨i,x0,e1,hi,el,w⟩=>?_) xs [] _ s ⟨0,none,by simp,Nat.zero_le _,rfl,h0⟩
 ·have : i = xs.length := by
    have:=congrArg List.length e1
    simp at this;ac_nf
  subst this
  exact chk (hs _ _ _ w) (hend out s w)
 ·subst el
  have hlt:i < xs.length:=by
   have:=congrArg List.length e1
   simp at this;ac_nf
  rw[List.drop_eq_getElem_cons hlt]at e1
  obtain⟨e2,e3⟩:=List.cons.inj e1
  refine chk (hs _ _ _ w) ?_
  show wp (ret _) _ s
  rw[wp_ret]
  show wp (ret true) _ s
  rw[wp_ret]
  show wp (e (some d::caps)) _ s
  exact Qhw (hstep i d out s (by rw[e2];exact List.getElem?_eq_getElem hlt) w) fun x s' q=>⟨i + 1,some d,e3,hlt,rfl,q⟩
theorem QhC {n i:Nat} (h:i < n):(rngD 0 n)[i]?=some (.int i):=by
 unfold rngD
 rw[List.getElem?_map,List.getElem?_range h];simp
theorem QhD {n i:Nat}{d:D} (h:(rngD 0 n)[i]?=some d):i < n/\d=.int i:=by
 have hi:i < n:=by
  have:=(List.getElem?_eq_some_iff.mp h).1
  simpa [rngD] using this
 rw[QhC hi]at h;cases h
 exact⟨hi,rfl⟩
theorem QhE (n:Nat):(rngD 0 n).length=n:=by simp[rngD]
theorem QhF {n:Nat} (h:n<=1000):n<=lim:=Nat.le_trans h (by decide)
theorem QhG {n:Nat} (h:n<=1000):n < lim:=Nat.lt_of_le_of_lt h (by decide)
theorem QhH {g : CG} {b : CS} {same : Sto -> Prop} {xs : List D} {l : Loc} {s : Sto} {Q : Flw -> Sto -> Prop} (W : Nat -> Loc -> Sto -> Prop) (hs : ∀ i l s, W i l s -> same s) (h0 : W 0 l s)
  (hstep:∀ (i:Nat) d l s,xs[i]?=some d->W i l s->wp (g d l) (fun l1 s2=>wp (b l1) (fun f s3=>match f with
   | .next l2=>W (i + 1) l2 s3
   | .cnt l2=>W (i + 1) l2 s3
   | .brk l2=>Q (.next l2) s3
   | .ret d=>Q (.ret d) s3) s2) s) (hend:∀ l s,W xs.length l s->Q (.next l) s):wp (forD g b same xs l) Q s:=by
 have chk:∀ {s:Sto}{R:Unit->Sto->Prop},same s->R () s->wp (chkS same) R s:=fun h r=>by rw[Qhs];unfold chkS;rw[if_pos h];exact r
 refine Qhz (fun ds l s=>∃ i,ds=xs.drop i/\i<=xs.length/\W i l s) (fun l s ⟨i,e1,hi,w⟩=>?_) (fun d ds l s ⟨i,e1,hi,w⟩=>?_) xs l s ⟨0,by simp,Nat.zero_le _,h0⟩
 ·have : i = xs.length := by
    have:=congrArg List.length e1
    simp at this;ac_nf
  subst this
  exact chk (hs _ _ _ w) (hend l s w)
 ·have hlt : i < xs.length := by
    have:=congrArg List.length e1
    simp at this;ac_nf
  rw[List.drop_eq_getElem_cons hlt]at e1
  obtain⟨e2,e3⟩:=List.cons.inj e1
  refine chk (hs _ _ _ w) ?_
  refine Qhw (hstep i d l s (by rw[e2];exact List.getElem?_eq_getElem hlt) w) fun l1 s2 q=>Qhw q fun f s3 q=>?_
  cases f with
  | next l2=>exact⟨i + 1,e3,hlt,q⟩
  | cnt l2=>exact⟨i + 1,e3,hlt,q⟩
  | brk l2=>exact q
  | ret d=>exact q
end MM
local macro_rules | `(tactic| bv_omega)=>`(tactic| first | rfl | exact MM.wp_eq rfl | exact MM.wp_no rfl)
local macro_rules | `(tactic| ac_rfl)=>`(tactic| first | rfl | simp only[MM.wp_ret,MM.wp_alloc,MM.wp_bad] | (refine MM.wp_cg fun _ _=>?_;simp only[MM.wp_ret,MM.wp_alloc,MM.wp_bad]))
namespace MM
open PySem
theorem nr {α:Sort u}{a b:α} (h:a=b):a=b:=h
section
variable {Q:D->Sto->Prop}{R:Flw->Sto->Prop}{T:Bool->Sto->Prop}{A:List D->Sto->Prop}{G:Loc->Sto->Prop}{I:Wk->Sto->Prop}{s:Sto}{l:Loc}
theorem x_seq {a b : CS} : wp (sSeq a b l) R s = wp (a l) (fun f s' => match f with
  | .next l'=>wp (b l') R s'
  | .ret d=>R (.ret d) s'
  | .brk l'=>R (.brk l') s'
  | .cnt l'=>R (.cnt l') s') s:=by
 unfold sSeq;rw[Qht];congr 1;funext f s';cases f<;>first | bv_omega
theorem x_next:wp (sNext l) R s=R (.next l) s:=wp_eq rfl
theorem x_asg {g:CG}{a:CE}:wp (sAsg g a l) R s=wp (a l) (fun d s'=>wp (g d l) (fun l' s''=>R (.next l') s'') s') s:=by
 unfold sAsg;rw[Qht];congr 1;funext d s';rw[Qht];ac_rfl
theorem x_ret {a:CE}:wp (sRet a l) R s=wp (a l) (fun d s'=>R (.ret d) s') s:=by
 unfold sRet;rw[Qht];ac_rfl
theorem x_exp {a:CE}:wp (sExp a l) R s=wp (a l) (fun d s'=>R (.next l) s') s:=by
 unfold sExp;rw[Qht];ac_rfl
theorem x_if {t:CT}{a b:CS}:wp (sIf t a b l) R s=wp (t l) (fun c s'=>if c=true then wp (a l) R s' else wp (b l) R s') s:=by
 unfold sIf;rw[Qht];congr 1;funext c s';rw[Qhx]
theorem x_cmp {a : CE} : wp (tCmpB a l) T s = wp (a l) (fun x s' => match x with
  | .bl b=>T b s'
  | _=>False) s:=by
 unfold tCmpB;rw[Qht];congr 1;funext x s';cases x<;>first | bv_omega
theorem x_val {a:CE}:wp (tVal a l) T s=wp (a l) (fun x s'=>wp (truD x) T s') s:=by unfold tVal;rw[Qht]
theorem x_not {a:CT}:wp (tNotB a l) T s=wp (a l) (fun x s'=>T (!x) s') s:=by unfold tNotB;rw[Qht];ac_rfl
theorem x_and {a b:CT}:wp (tAndB a b l) T s=wp (a l) (fun c s'=>if c=true then wp (b l) T s' else T false s') s:=by
 unfold tAndB;rw[Qht];congr 1;funext c s';rw[Qhx];ac_rfl
theorem x_or {a b:CT}:wp (tOrB a b l) T s=wp (a l) (fun c s'=>if c=true then T true s' else wp (b l) T s') s:=by
 unfold tOrB;rw[Qht];congr 1;funext c s';rw[Qhx];ac_rfl
theorem x_gvar {i:Nat}{d:D}:wp (gVar i d l) G s=G (l.set i (some d)) s:=wp_eq rfl
theorem x_g0 {d:D}{b:Option D}{r:Loc}{Q:Loc->Sto->Prop}:wp (gVar 0 d (b::r)) Q s=Q (some d::r) s:=x_gvar
theorem x_g1 {a0:Option D}{d:D}{b:Option D}{r:Loc}{Q:Loc->Sto->Prop}:wp (gVar 1 d (a0::b::r)) Q s=Q (a0::some d::r) s:=x_gvar
theorem x_g2 {a0 a1:Option D}{d:D}{b:Option D}{r:Loc}{Q:Loc->Sto->Prop}:wp (gVar 2 d (a0::a1::b::r)) Q s=Q (a0::a1::some d::r) s:=x_gvar
theorem x_g3 {a0 a1 a2:Option D}{d:D}{b:Option D}{r:Loc}{Q:Loc->Sto->Prop}:wp (gVar 3 d (a0::a1::a2::b::r)) Q s=Q (a0::a1::a2::some d::r) s:=x_gvar
theorem x_g4 {a0 a1 a2 a3:Option D}{d:D}{b:Option D}{r:Loc}{Q:Loc->Sto->Prop}:wp (gVar 4 d (a0::a1::a2::a3::b::r)) Q s=Q (a0::a1::a2::a3::some d::r) s:=x_gvar
theorem x_g5 {a0 a1 a2 a3 a4:Option D}{d:D}{b:Option D}{r:Loc}{Q:Loc->Sto->Prop}:wp (gVar 5 d (a0::a1::a2::a3::a4::b::r)) Q s=Q (a0::a1::a2::a3::a4::some d::r) s:=x_gvar
theorem x_g6 {a0 a1 a2 a3 a4 a5:Option D}{d:D}{b:Option D}{r:Loc}{Q:Loc->Sto->Prop}:wp (gVar 6 d (a0::a1::a2::a3::a4::a5::b::r)) Q s=Q (a0::a1::a2::a3::a4::a5::some d::r) s:=x_gvar
theorem x_g7 {a0 a1 a2 a3 a4 a5 a6:Option D}{d:D}{b:Option D}{r:Loc}{Q:Loc->Sto->Prop}:wp (gVar 7 d (a0::a1::a2::a3::a4::a5::a6::b::r)) Q s=Q (a0::a1::a2::a3::a4::a5::a6::some d::r) s:=x_gvar
theorem x_g8 {a0 a1 a2 a3 a4 a5 a6 a7:Option D}{d:D}{b:Option D}{r:Loc}{Q:Loc->Sto->Prop}:wp (gVar 8 d (a0::a1::a2::a3::a4::a5::a6::a7::b::r)) Q s=Q (a0::a1::a2::a3::a4::a5::a6::a7::some d::r) s:=x_gvar
theorem x_g9 {a0 a1 a2 a3 a4 a5 a6 a7 a8:Option D}{d:D}{b:Option D}{r:Loc}{Q:Loc->Sto->Prop}:wp (gVar 9 d (a0::a1::a2::a3::a4::a5::a6::a7::a8::b::r)) Q s=Q (a0::a1::a2::a3::a4::a5::a6::a7::a8::some d::r) s:=x_gvar
theorem x_g10 {a0 a1 a2 a3 a4 a5 a6 a7 a8 a9:Option D}{d:D}{b:Option D}{r:Loc}{Q:Loc->Sto->Prop}:wp (gVar 10 d (a0::a1::a2::a3::a4::a5::a6::a7::a8::a9::b::r)) Q s=Q (a0::a1::a2::a3::a4::a5::a6::a7::a8::a9::some d::r) s:=x_gvar
theorem x_g11 {a0 a1 a2 a3 a4 a5 a6 a7 a8 a9 a10:Option D}{d:D}{b:Option D}{r:Loc}{Q:Loc->Sto->Prop}:wp (gVar 11 d (a0::a1::a2::a3::a4::a5::a6::a7::a8::a9::a10::b::r)) Q s=Q (a0::a1::a2::a3::a4::a5::a6::a7::a8::a9::a10::some d::r) s:=x_gvar
theorem x_g12 {a0 a1 a2 a3 a4 a5 a6 a7 a8 a9 a10 a11:Option D}{d:D}{b:Option D}{r:Loc}{Q:Loc->Sto->Prop}:wp (gVar 12 d (a0::a1::a2::a3::a4::a5::a6::a7::a8::a9::a10::a11::b::r)) Q s=Q (a0::a1::a2::a3::a4::a5::a6::a7::a8::a9::a10::a11::some d::r) s:=x_gvar
theorem x_g13 {a0 a1 a2 a3 a4 a5 a6 a7 a8 a9 a10 a11 a12:Option D}{d:D}{b:Option D}{r:Loc}{Q:Loc->Sto->Prop}:wp (gVar 13 d (a0::a1::a2::a3::a4::a5::a6::a7::a8::a9::a10::a11::a12::b::r)) Q s=Q (a0::a1::a2::a3::a4::a5::a6::a7::a8::a9::a10::a11::a12::some d::r) s:=x_gvar
theorem x_gsub {o i:CE}{d:D}:wp (gSubD o i d l) G s=wp (o l) (fun y s1=>wp (i l) (fun z s2=>wp (setItemD y z d) (fun _ s3=>G l s3) s2) s1) s:=by
 unfold gSubD;rw[Qht];congr 1;funext y s1;rw[Qht];congr 1;funext z s2;rw[Qht];ac_rfl
theorem x_var {i : Nat} : wp (cVar i l) Q s = match l[i]? with
  | some (some d)=>Q d s
  | _=>False:=by
 unfold cVar;rcases l[i]? with _ | _ | d<;>first | bv_omega
theorem x_v0 {d:D}{r:Loc}:wp (cVar 0 (some d::r)) Q s=Q d s:=x_var
theorem x_v1 {a0:Option D}{d:D}{r:Loc}:wp (cVar 1 (a0::some d::r)) Q s=Q d s:=x_var
theorem x_v2 {a0 a1:Option D}{d:D}{r:Loc}:wp (cVar 2 (a0::a1::some d::r)) Q s=Q d s:=x_var
theorem x_v3 {a0 a1 a2:Option D}{d:D}{r:Loc}:wp (cVar 3 (a0::a1::a2::some d::r)) Q s=Q d s:=x_var
theorem x_v4 {a0 a1 a2 a3:Option D}{d:D}{r:Loc}:wp (cVar 4 (a0::a1::a2::a3::some d::r)) Q s=Q d s:=x_var
theorem x_v5 {a0 a1 a2 a3 a4:Option D}{d:D}{r:Loc}:wp (cVar 5 (a0::a1::a2::a3::a4::some d::r)) Q s=Q d s:=x_var
theorem x_v6 {a0 a1 a2 a3 a4 a5:Option D}{d:D}{r:Loc}:wp (cVar 6 (a0::a1::a2::a3::a4::a5::some d::r)) Q s=Q d s:=x_var
theorem x_v7 {a0 a1 a2 a3 a4 a5 a6:Option D}{d:D}{r:Loc}:wp (cVar 7 (a0::a1::a2::a3::a4::a5::a6::some d::r)) Q s=Q d s:=x_var
theorem x_v8 {a0 a1 a2 a3 a4 a5 a6 a7:Option D}{d:D}{r:Loc}:wp (cVar 8 (a0::a1::a2::a3::a4::a5::a6::a7::some d::r)) Q s=Q d s:=x_var
theorem x_v9 {a0 a1 a2 a3 a4 a5 a6 a7 a8:Option D}{d:D}{r:Loc}:wp (cVar 9 (a0::a1::a2::a3::a4::a5::a6::a7::a8::some d::r)) Q s=Q d s:=x_var
theorem x_v10 {a0 a1 a2 a3 a4 a5 a6 a7 a8 a9:Option D}{d:D}{r:Loc}:wp (cVar 10 (a0::a1::a2::a3::a4::a5::a6::a7::a8::a9::some d::r)) Q s=Q d s:=x_var
theorem x_v11 {a0 a1 a2 a3 a4 a5 a6 a7 a8 a9 a10:Option D}{d:D}{r:Loc}:wp (cVar 11 (a0::a1::a2::a3::a4::a5::a6::a7::a8::a9::a10::some d::r)) Q s=Q d s:=x_var
theorem x_v12 {a0 a1 a2 a3 a4 a5 a6 a7 a8 a9 a10 a11:Option D}{d:D}{r:Loc}:wp (cVar 12 (a0::a1::a2::a3::a4::a5::a6::a7::a8::a9::a10::a11::some d::r)) Q s=Q d s:=x_var
theorem x_v13 {a0 a1 a2 a3 a4 a5 a6 a7 a8 a9 a10 a11 a12:Option D}{d:D}{r:Loc}:wp (cVar 13 (a0::a1::a2::a3::a4::a5::a6::a7::a8::a9::a10::a11::a12::some d::r)) Q s=Q d s:=x_var
theorem x_con {d:D}:wp (cCon d l) Q s=Q d s:=wp_eq rfl
theorem x_c1 {g:D->M D}{a:CE}:wp (c1 g a l) Q s=wp (a l) (fun x s'=>wp (g x) Q s') s:=by unfold c1;rw[Qht]
theorem x_c2 {g:D->D->M D}{a b:CE}:wp (c2 g a b l) Q s=wp (a l) (fun x s'=>wp (b l) (fun y s''=>wp (g x y) Q s'') s') s:=by
 unfold c2;rw[Qht];congr 1;funext x s';rw[Qht]
theorem x_call {g:List D->M D}{a:CA}:wp (cCall g a l) Q s=wp (a l) (fun x s'=>wp (g x) Q s') s:=by unfold cCall;rw[Qht]
theorem x_nil:wp (cNil l) A s=A [] s:=wp_eq rfl
theorem x_cons {a:CE}{r:CA}:wp (cCons a r l) A s=wp (a l) (fun x s'=>wp (r l) (fun xs s''=>A (x::xs) s'') s') s:=by
 unfold cCons;rw[Qht];congr 1;funext x s';rw[Qht];ac_rfl
theorem x_tup {a:CA}:wp (cTup a l) Q s=wp (a l) (fun xs s'=>xs.length<=lim/\Q (.tup xs) s') s:=by
 unfold cTup;rw[Qht];congr 1;funext x s';rw[wp_chk];ac_rfl
theorem x_disp {a:CA}:wp (aDisp a l) A s=wp (a l) (fun xs s'=>xs.length<=lim/\A xs s') s:=by
 unfold aDisp;rw[Qht];congr 1;funext x s';rw[wp_chk];ac_rfl
theorem x_keep {a:CA}:wp (cKeep a l) Q s=wp (a l) (fun xs s'=>Q (.ref s'.length) (s'++[.lst xs])) s:=by
 unfold cKeep;rw[Qht];ac_rfl
theorem x_tmp {g:List D->M D}{a:CA}:wp (cTmp g a l) Q s=wp (a l) (fun x s'=>wp (g x) Q s') s:=by unfold cTmp;rw[Qht]
theorem x_comp {n:Nat}{caps:List Nat}{i:CI}{g:CG}{t:CT}{e:CE}:wp (aComp n caps i g t e l) A s=wp (i l) (fun w s'=>w.ds.length<=lim/\wp (collect g t e w.same w.ds (capt n caps l)) A s') s:=by
 unfold aComp;rw[Qht];congr 1;funext x s';rw[wp_chk]
theorem x_for {i:CI}{g:CG}{b:CS}:wp (sFor i g b l) R s=wp (i l) (fun w s'=>wp (forD g b w.same w.ds l) R s') s:=by
 unfold sFor;rw[Qht]
theorem x_rng {a : CE} : wp (MM.iRng1 a l) I s = wp (a l) (fun x s' => match x with
  | .int j=>(-(2 ^ 62)<=j/\j < 2 ^ 62)/\I ⟨rngD 0 j.toNat,anySt⟩ s'
  | _=>False) s:=by
 unfold MM.iRng1;rw[Qht];congr 1;funext x s';cases x<;>first | bv_omega | (dsimp only;rw[wp_chk];ac_rfl)
theorem x_iseq {a : CE} : wp (iSeq a l) I s = wp (a l) (fun x s' => match x with
  | .tup ds=>I ⟨ds,anySt⟩ s'
  | .lit ds=>I ⟨ds,anySt⟩ s'
  | .ref n=>wp (getL n) (fun ds s''=>I ⟨ds,sameL n ds⟩ s'') s'
  | _=>False) s:=by
 unfold iSeq;rw[Qht];congr 1;funext x s';cases x<;>first | bv_omega | (dsimp only;rw[Qht];ac_rfl)
theorem x_add {i j:Int}:wp (addD (.int i) (.int j)) Q s=Q (.int (i + j)) s:=wp_eq rfl
theorem x_sub {i j:Int}:wp (subD (.int i) (.int j)) Q s=Q (.int (i - j)) s:=wp_eq rfl
theorem x_mul {i j:Int}:wp (mulD (.int i) (.int j)) Q s=(mulOk i j/\Q (.int (i * j)) s):=by unfold mulD;rw[wp_chk];ac_rfl
theorem x_div {i j:Int}:wp (fdivD (.int i) (.int j)) Q s=((0 < j/\j < 1073741824)/\Q (.int (i / j)) s):=by unfold fdivD;rw[wp_chk];ac_rfl
theorem x_mod {i j:Int}:wp (modD (.int i) (.int j)) Q s=(0 < j/\Q (.int (i % j)) s):=by unfold modD;rw[wp_chk];ac_rfl
theorem x_lt {i j:Int}:wp (ltD (.int i) (.int j)) Q s=Q (.bl (decide (i < j))) s:=wp_eq rfl
theorem x_le {i j:Int}:wp (leD (.int i) (.int j)) Q s=Q (.bl (decide (i<=j))) s:=wp_eq rfl
theorem x_gt {i j:Int}:wp (gtD (.int i) (.int j)) Q s=Q (.bl (decide (j < i))) s:=wp_eq rfl
theorem x_ge {i j:Int}:wp (geD (.int i) (.int j)) Q s=Q (.bl (decide (j<=i))) s:=wp_eq rfl
theorem x_eq {i j:Int}:wp (eqD (.int i) (.int j)) Q s=Q (.bl (i == j)) s:=wp_eq rfl
theorem x_ne {i j:Int}:wp (neD (.int i) (.int j)) Q s=Q (.bl !(i == j)) s:=wp_eq rfl
theorem x_subsT {ds:List D}{i:Int}:wp (subsD (.tup ds) (.int i)) Q s=wp (itemD ds i) Q s:=nr rfl
theorem x_subsR {n:Nat}{i:Int}:wp (subsD (.ref n) (.int i)) Q s=wp (getL n) (fun ds s'=>wp (itemD ds i) Q s') s:=by
 unfold subsD;rw[Qht]
theorem x_lenT {ds:List D}:wp (lenD (.tup ds)) Q s=Q (.int ds.length) s:=wp_eq rfl
theorem x_lenR {n:Nat}:wp (lenD (.ref n)) Q s=wp (getL n) (fun ds s'=>Q (.int ds.length) s') s:=by unfold lenD;rw[Qht];ac_rfl
theorem x_intB {b:Bool}:wp (intD (.bl b)) Q s=Q (.int (if b then 1 else 0)) s:=wp_eq rfl
theorem x_retF {d:D}:wp (flwD (.ret d)) Q s=Q d s:=wp_eq rfl
end
theorem x_slice {a : CE} {lo hi : CO} {A : List D -> Sto -> Prop} {s : Sto} {l : Loc} : wp (aSlice a lo hi l) A s = wp (a l) (fun x s1 => wp (lo l) (fun i s2 => wp (hi l) (fun j s3 => match x with
  | .lit ds=>A (cutD ds i j) s3
  | .ref n=>wp (getL n) (fun ds s4=>A (cutD ds i j) s4) s3
  | _=>False) s2) s1) s:=by
 unfold aSlice;rw[Qht];congr 1;funext x s1;rw[Qht];congr 1;funext i s2;rw[Qht];congr 1;funext j s3;cases x<;>first | bv_omega | (dsimp only;rw[Qht];ac_rfl)
theorem x_none {A:Option Int->Sto->Prop}{s:Sto}{l:Loc}:wp (oNone l) A s=A none s:=wp_eq rfl
theorem x_some {a : CE} {A : Option Int -> Sto -> Prop} {s : Sto} {l : Loc} : wp (oSome a l) A s = wp (a l) (fun x s1 => match x with
  | .int i=>A (some i) s1
  | _=>False) s:=by
 unfold oSome;rw[Qht];congr 1;funext x s1;cases x<;>first | bv_omega
theorem x_gtup {n:Nat}{r:List D->Loc->M Loc}{ds:List D}{G:Loc->Sto->Prop}{s:Sto}{l:Loc}:wp (gTupD n r (.tup ds) l) G s=(ds.length=n/\wp (r ds l) G s):=by
 unfold gTupD;rw[wp_chk]
theorem x_gcons {g:CG}{r:List D->Loc->M Loc}{d:D}{ds:List D}{G:Loc->Sto->Prop}{s:Sto}{l:Loc}:wp (gsCons g r (d::ds) l) G s=wp (g d l) (fun l' s'=>wp (r ds l') G s') s:=by
 unfold gsCons;rw[Qht]
theorem x_gnil {G:Loc->Sto->Prop}{s:Sto}{l:Loc}:wp (gsNil [] l) G s=G l s:=wp_eq rfl
def Ext (s s':Sto):Prop:=∃ t,s'=s++t
theorem Ext.refl (s:Sto):Ext s s:=⟨[],by simp⟩
theorem Ext.snoc {s s':Sto} (h:Ext s s') (o:MO):Ext s (s'++[o]):=by obtain⟨t,e⟩:=h;exact⟨t++[o],by rw[e];simp⟩
theorem Ext.trans {s s' s2:Sto} (h:Ext s s') (k:Ext s' s2):Ext s s2:=by obtain⟨t,e⟩:=h;obtain⟨u,f⟩:=k;exact⟨t++u,by rw[f,e];simp⟩
theorem Ext.at_ {s s':Sto}{n:Nat}{o:MO} (h:Ext s s') (k:s[n]?=some o):s'[n]?=some o:=by
 obtain⟨t,e⟩:=h
 rw[e,List.getElem?_append_left (List.getElem?_eq_some_iff.mp k).1];exact k
theorem QhI {α:Type} (f:α->Int) (xs:List α):numsL (xs.map fun x=>.int (f x))=some (xs.map f):=by
 induction xs with
 | nil=>rfl
 | cons x xs ih=>simp only[List.map_cons,numsL,ih];ac_rfl
theorem QhJ {α:Type}{m:M α}{v:α}{s:Sto}{Q:α->Sto->Prop} (h:wp m (fun a s'=>a=v/\s'=s) s):wp m Q s=Q v s:=by
 simp only[Qhs]at *
 cases e:m s with
 | ok a s'=>rw[e]at h;obtain⟨h1,h2⟩:=h;subst h1;subst h2;ac_rfl
 | exc _ _=>rw[e]at h;exact h.elim
 | bad=>rw[e]at h;exact h.elim
theorem QhK {a b:Nat}{x y:List D}{Q:D->Sto->Prop}{s:Sto} (h1:s[a]?=some (.lst x)) (h2:s[b]?=some (.lst y)):wp (addD (.ref a) (.ref b)) Q s=(x.length + y.length<=lim/\Q (.ref s.length) (s++[.lst (x++y)])):=by
 unfold addD;rw[Qht,Qhu h1,Qht,Qhu h2,wp_chk];ac_rfl
def andB (x:D) (p q:Prop):Prop:=match x with
 | .bl true=>p
 | .bl false=>q
 | _=>False
section
variable {Q:D->Sto->Prop}{T:Bool->Sto->Prop}{R:Flw->Sto->Prop}{s:Sto}{l:Loc}
theorem x_andE {a b:CE}:wp (cAnd a b l) Q s=wp (a l) (fun x s'=>andB x (wp (b l) Q s') (Q (.bl false) s')) s:=by
 unfold cAnd;rw[Qht];congr 1;funext x s';rcases x with _ | b | _ | _ | _ | _ | _ | _<;>first | bv_omega | (cases b<;>first | bv_omega)
theorem x_truB {b:Bool}:wp (truD (.bl b)) T s=T b s:=wp_eq rfl
theorem x_tupL {ds:List D}:wp (tupL ds) Q s=Q (.tup ds) s:=wp_eq rfl
theorem x_item0 {d:D}{ds:List D}:wp (itemD (d::ds) 0) Q s=Q d s:=by
 rw[Qhy (d:=d) (by ac_nf) rfl,wp_ret]
theorem x_item1 {d e:D}{ds:List D}:wp (itemD (d::e::ds) 1) Q s=Q e s:=by
 rw[Qhy (d:=e) (by ac_nf) rfl,wp_ret]
theorem x_item2 {d e f:D}{ds:List D}:wp (itemD (d::e::f::ds) 2) Q s=Q f s:=by
 rw[Qhy (d:=f) (by ac_nf) rfl,wp_ret]
theorem x_item3 {d e f g:D}{ds:List D}:wp (itemD (d::e::f::g::ds) 3) Q s=Q g s:=by
 rw[Qhy (d:=g) (by ac_nf) rfl,wp_ret]
theorem QhL {ds:List D}{i:Nat}{d:D} (h:ds[i]?=some d):wp (itemD ds i) Q s=Q d s:=by
 rw[Qhy (d:=d) (by ac_nf) (by simpa using h),wp_ret]
theorem x_iTmp {a:CA}{I:Wk->Sto->Prop}:wp (iTmp a l) I s=wp (a l) (fun ds s'=>I ⟨ds,anySt⟩ s') s:=by unfold iTmp;rw[Qht];ac_rfl
end
def upto {α:Type} (n:Nat) (f:Nat->α):List α:=(List.range n).map f
theorem QhS {α:Type}{n i:Nat}{f:Nat->α} (h:i < n):(upto n f)[i]?=some (f i):=by unfold upto;rw[List.getElem?_map,List.getElem?_range h];ac_rfl
theorem QhT {α:Type}{n i:Nat}{f:Nat->α}{x:α} (h:(upto n f)[i]?=some x):i < n/\x=f i:=by
 have hi:i < n:=by
  have:=(List.getElem?_eq_some_iff.mp h).1
  simpa [upto] using this
 rw[QhS hi]at h;cases h;exact⟨hi,rfl⟩
theorem QhU {α:Type}{n:Nat}{f:Nat->α}:(upto n f).length=n:=by simp[upto]
theorem QhV {α:Type}{n:Nat}{f:Nat->α}:upto (n + 1) f=upto n f++[f n]:=by unfold upto;rw[List.range_succ,List.map_append];ac_rfl
theorem QhW {α:Type}{n:Nat}{xs:List α}{f:Nat->α} (hl:xs.length=n) (h:∀ i,i < n->xs[i]?=some (f i)):xs=upto n f:=by
 apply List.ext_getElem?
 intro i
 by_cases hi:i < n
 ·rw[h i hi,QhS hi]
 ·rw[List.getElem?_eq_none (by ac_nf),List.getElem?_eq_none (by rw[QhU];ac_nf)]
theorem QhX {α β:Type}{n:Nat}{f:Nat->α}{g:α->β}:(upto n f).map g=upto n fun i=>g (f i):=by unfold upto;rw[List.map_map];ac_rfl
theorem QhY {n:Nat}:rngD 0 n=upto n fun i=>.int i:=by unfold rngD upto;congr 1;funext k;simp
theorem QhZ {g : CG} {e : CE} {same : Sto -> Prop} {ds : List D} {l0 : Loc} {f : Nat -> D} {Q : List D -> Sto -> Prop} {s : Sto} (I : Loc -> Prop) (hs : same s) (h0 : I l0)
  (h:∀ i d l,ds[i]?=some d->I l->∃ l',(∀ G,wp (g d l) G s=G l' s)/\I l'/\∀ Q,wp (e l') Q s=Q (f i) s):
  wp (collect g tTrue e same ds l0) Q s=Q (upto ds.length f) s:=by
 have chk:∀ {R:Unit->Sto->Prop},R () s->wp (chkS same) R s:=fun r=>by rw[Qhs];unfold chkS;rw[if_pos hs];exact r
 apply QhJ
 refine QhA (Q:=fun out s'=>out=upto ds.length f/\s'=s) (fun out xs l s'=>∃ i,xs=ds.drop i/\i<=ds.length/\I l/\out=upto i f/\s'=s) (fun out l s' ⟨i,e1,hi,_,e2,es⟩=>?_) (fun out d xs l s' ⟨i,e1,hi,hI,e2,es⟩=>?_) ds [] _ s ⟨0,by simp,Nat.zero_le _,h0,rfl,rfl⟩
 ·have : i = ds.length := by
    have:=congrArg List.length e1
    simp at this;ac_nf
  subst this
  subst es
  exact chk ⟨e2,rfl⟩
 ·have hlt : i < ds.length := by
    have:=congrArg List.length e1
    simp at this;ac_nf
  rw[List.drop_eq_getElem_cons hlt]at e1
  obtain⟨e3,e4⟩:=List.cons.inj e1
  obtain⟨l',q1,q2,q3⟩:=h i d l (by rw[e3];exact List.getElem?_eq_getElem hlt) hI
  subst es
  refine chk ?_
  rw[q1]
  show wp (ret true) _ s'
  rw[wp_ret]
  show wp (e l') _ s'
  rw[q3]
  exact⟨i + 1,e4,hlt,q2,by rw[e2,QhV],rfl⟩
theorem Qh0 {e : CE} {same : Sto -> Prop} {ds : List D} {caps : Loc} {f : Nat -> D} {Q : List D -> Sto -> Prop} {s : Sto} (hs : same s) (h : ∀ i d, ds[i]? = some d -> ∀ Q, wp (e (some d :: caps)) Q s = Q (f i) s) :
  wp (collect (gVar 0) tTrue e same ds (none::caps)) Q s=Q (upto ds.length f) s:=
 QhZ (fun l=>∃ x,l=x::caps) hs ⟨none,rfl⟩ fun i d l hd pq96=>by obtain⟨x,el⟩:=pq96;exact⟨some d::caps,fun G=>by rw[el,x_gvar];rfl,⟨_,rfl⟩,h i d hd⟩
theorem Qh1 {e : CE} {same : Sto -> Prop} {ds : List D} {caps : Loc} {f : Nat -> D} {Q : List D -> Sto -> Prop} {s : Sto} (hs : same s) (h : ∀ i d, ds[i]? = some d -> ∃ a b, d = .tup [a, b] /\ ∀ Q, wp (e (some a :: some b :: caps)) Q s = Q (f i) s) :
  wp (collect (gTupD 2 (gsCons (gVar 0) (gsCons (gVar 1) gsNil))) tTrue e same ds (none::none::caps)) Q s=Q (upto ds.length f) s:=
 QhZ (fun l=>∃ x y,l=x::y::caps) hs ⟨none,none,rfl⟩ fun i d l hd pq97=>by
  obtain⟨x,y,el⟩:=pq97
  obtain⟨a,b,ed,q⟩:=h i d hd
  refine⟨some a::some b::caps,fun G=>?_,⟨_,_,rfl⟩,q⟩
  rw[ed,el,x_gtup,x_gcons,x_gvar,x_gcons,x_gvar,x_gnil]
  exact propext ⟨fun h=>h.2,fun h=>⟨rfl,h⟩⟩
section
variable {n:Nat}{f:Nat->D}{Q:D->Sto->Prop}{s:Sto}
theorem Qh2 {i:Nat} (h:i < n):wp (itemD (upto n f) (i:Int)) Q s=Q (f i) s:=QhL (QhS h)
theorem Qh3 (h:0 < n):wp (itemD (upto n f) 0) Q s=Q (f 0) s:=by
 have:=@QhL Q s (upto n f) 0 (f 0) (QhS h);simpa using this
end
theorem Qh4 {s:Sto}:anySt s:=trivial
theorem Qh5 {e : CE} {same : Sto -> Prop} {n : Nat} {g : Nat -> D} {caps : Loc} {f : Nat -> D} {Q : List D -> Sto -> Prop} {s : Sto} (hs : same s) (h : ∀ i, i < n -> ∀ Q, wp (e (some (g i) :: caps)) Q s = Q (f i) s) :
  wp (collect (gVar 0) tTrue e same (upto n g) (none::caps)) Q s=Q (upto n f) s:=by
 rw[Qh0 (f:=f) hs (fun i d hd=>by obtain⟨hi,e⟩:=QhT hd;subst e;exact h i hi),QhU]
section
variable {Q:D->Sto->Prop}{T:Bool->Sto->Prop}{R:Flw->Sto->Prop}{A:List D->Sto->Prop}{s:Sto}{l:Loc}
theorem x_append {a b : CE} : wp (cAppend a b l) Q s = wp (a l) (fun x s1 => match x with
  | .ref n=>wp (b l) (fun v s2=>wp (getL n) (fun ds s3=>ds.length < lim/\wp (putL n (ds++[v])) (fun _ s4=>Q .non s4) s3) s2) s1
  | _=>False) s:=by
 unfold cAppend;rw[Qht];congr 1;funext x s1
 cases x<;>first | bv_omega | (dsimp only;rw[Qht];congr 1;funext v s2;unfold appendL;rw[Qht];congr 1;funext ds s3;rw[wp_chk,Qht];first | ac_rfl | (refine congrArg _ ?_;refine wp_cg fun _ _=>?_;simp only[wp_ret,wp_alloc,wp_bad]))
theorem x_clear {a : CE} : wp (cClear a l) Q s = wp (a l) (fun x s1 => match x with
  | .ref n=>wp (putL n []) (fun _ s4=>Q .non s4) s1
  | _=>False) s:=by
 unfold cClear;rw[Qht];congr 1;funext x s1
 cases x<;>first | bv_omega | (dsimp only;rw[Qht];first | ac_rfl | (refine congrArg _ ?_;refine wp_cg fun _ _=>?_;simp only[wp_ret,wp_alloc,wp_bad]))
theorem x_pop {a : CE} : wp (cPop a l) Q s = wp (a l) (fun x s1 => match x with
  | .ref n=>wp (getL n) (fun ds s2=>match ds.getLast? with
   | some d=>wp (putL n ds.dropLast) (fun _ s4=>Q d s4) s2
   | none=>False) s1
  | _=>False) s:=by
 unfold cPop;rw[Qht];congr 1;funext x s1
 cases x<;>first | bv_omega | (dsimp only;rw[Qht];congr 1;funext ds s2;cases ds.getLast?<;>first | bv_omega | (dsimp only;rw[Qht];first | ac_rfl | (refine congrArg _ ?_;refine wp_cg fun _ _=>?_;simp only[wp_ret,wp_alloc,wp_bad])))
theorem x_tupleR {n:Nat}:wp (tupleD (.ref n)) Q s=wp (getL n) (fun ds s1=>Q (.tup ds) s1) s:=by unfold tupleD;rw[Qht];(try dsimp only);(try rw[Qht]);refine wp_cg fun _ _=>?_;simp only[wp_ret,wp_alloc,wp_bad]
theorem x_eqStr {a b:Str}:wp (eqD (.str a) (.str b)) Q s=Q (.bl (a == b)) s:=wp_eq rfl
theorem x_isiL {n:Nat}:wp (isInst ["list"] (.ref n)) Q s=Q (.bl true) s:=wp_eq rfl
theorem x_neg {i:Int}:wp (negD (.int i)) Q s=Q (.int (-i)) s:=wp_eq rfl
theorem x_min2 {i j:Int}:wp (min2D (.int i) (.int j)) Q s=Q (.int (min i j)) s:=wp_eq rfl
theorem x_max2 {i j:Int}:wp (max2D (.int i) (.int j)) Q s=Q (.int (max i j)) s:=wp_eq rfl
theorem x_rng2 {a b : CE} {I : Wk -> Sto -> Prop} : wp (MM.iRng2 a b l) I s = wp (a l) (fun x s1 => wp (b l) (fun y s2 => match x, y with
  | .int i,.int j=>((-(2 ^ 62)<=i/\i < 2 ^ 62)/\(-(2 ^ 62)<=j/\j < 2 ^ 62))/\I ⟨rngD i (j - i).toNat,anySt⟩ s2
  | _,_=>False) s1) s:=by
 unfold MM.iRng2;rw[Qht];congr 1;funext x s1;rw[Qht];congr 1;funext y s2
 cases x<;>cases y<;>first | bv_omega | (dsimp only;rw[wp_chk];first | ac_rfl | (refine congrArg _ ?_;refine wp_cg fun _ _=>?_;simp only[wp_ret,wp_alloc,wp_bad]))
theorem x_addT {x y:List D}:wp (addD (.tup x) (.tup y)) Q s=(x.length + y.length<=lim/\Q (.tup (x++y)) s):=by unfold addD;rw[wp_chk];first | ac_rfl | (refine congrArg _ ?_;refine wp_cg fun _ _=>?_;simp only[wp_ret,wp_alloc,wp_bad])
theorem x_tmpSub {a : CA} {b : CE} : wp (cTmpSub a b l) Q s = wp (a l) (fun ds s1 => wp (b l) (fun i s2 => match i with
  | .int k=>wp (itemD ds k) Q s2
  | _=>False) s1) s:=by
 unfold cTmpSub;rw[Qht];congr 1;funext ds s1;rw[Qht];congr 1;funext i s2;cases i<;>first | bv_omega
end
theorem ite_f {p q:Prop}:(if false=true then p else q)=q:=if_neg (by simp)
def mx (f:Nat->Nat):Nat->Nat
 | 0=>0
 | n + 1=>max (mx f n) (f n)
theorem Qh6 {f:Nat->Nat}{n m:Nat} (h:∀ i,i < n->f i<=m):mx f n<=m:=by
 induction n with
 | zero=>exact Nat.zero_le _
 | succ n ih=>unfold mx;exact Nat.max_le.mpr ⟨ih fun i hi=>h i (by ac_nf),h n (by ac_nf)⟩
theorem Qh7 {f:Nat->Nat}{n i:Nat} (h:i < n):f i<=mx f n:=by
 induction n with
 | zero=>ac_nf
 | succ n ih=>
  unfold mx
  by_cases e:i=n
  ·subst e;exact Nat.le_max_right _ _
  ·exact Nat.le_trans (ih (by ac_nf)) (Nat.le_max_left _ _)
theorem Qh8 {f:Nat->Nat}{n:Nat}{Q:D->Sto->Prop}{s:Sto} (hn:0 < n):wp (maxD (upto n fun i=>.int (f i:Nat))) Q s=Q (.int (mx f n:Nat)) s:=by
 obtain⟨k,rfl⟩:∃ k,n=k + 1:=⟨n - 1,by ac_nf⟩
 have hm:∀ (k:Nat),(((List.range k).map (· + 1)).map fun (i:Nat)=>((f i:Nat):Int)).foldl max ((f 0:Nat):Int)=((mx f (k + 1):Nat):Int):=by
  intro k
  induction k with
  | zero=>show ((f 0:Nat):Int)=((max 0 (f 0):Nat):Int);ac_nf
  | succ k ih=>
   rw[List.range_succ,List.map_append,List.map_append,List.foldl_append,ih]
   show max ((mx f (k + 1):Nat):Int) ((f (k + 1):Nat):Int)=((max (mx f (k + 1)) (f (k + 1)):Nat):Int)
   ac_nf
 unfold maxD upto
 rw[QhI (fun i=>((f i:Nat):Int)),List.range_succ_eq_map,List.map_cons]
 dsimp only
 rw[wp_ret,<- hm k]
theorem Ext.put {s s':Sto}{n:Nat}{o:MO} (h:Ext s s') (hn:s.length<=n):Ext s (s'.set n o):=by
 obtain⟨t,e⟩:=h
 exact⟨t.set (n - s.length) o,by rw[e,List.set_append_right _ _ hn]⟩
theorem Ext.le {s s':Sto} (h:Ext s s'):s.length<=s'.length:=by obtain⟨t,e⟩:=h;rw[e];simp
theorem Qh9 {t:CT}{b:CS}:∀ (n:Nat) (l:Loc) (s:Sto),whileN t b n l s≠.bad->whileN t b (n + 1) l s=whileN t b n l s
 | 0,l,s,h=>(h rfl).elim
 | n + 1,l,s,h=>by
  have e1:∀ k,whileN t b (k + 1) l s=(match t l s with
   | .ok true s1=>(match b l s1 with
    | .ok (.next l2) s2=>whileN t b k l2 s2
    | .ok (.cnt l2) s2=>whileN t b k l2 s2
    | .ok (.brk l2) s2=>.ok (.next l2) s2
    | .ok (.ret d) s2=>.ok (.ret d) s2
    | .exc x s2=>.exc x s2
    | .bad=>.bad)
   | .ok false s1=>.ok (.next l) s1
   | .exc x s1=>.exc x s1
   | .bad=>.bad):=fun k=>by
   show bnd (t l) _ s=_
   unfold bnd
   cases t l s with
   | exc x s1=>rfl
   | bad=>rfl
   | ok c s1=>
    cases c with
    | false=>rfl
    | true=>
     show (bnd (b l) _) s1=_
     unfold bnd
     dsimp only
     cases b l s1 with
     | exc x s2=>rfl
     | bad=>rfl
     | ok f s2=>cases f<;>first | bv_omega
  rw[e1 (n + 1),e1 n]
  rw[e1 n]at h
  cases et:t l s with
  | exc x s1=>rfl
  | bad=>rfl
  | ok c s1=>
   rw[et]at h
   cases c with
   | false=>rfl
   | true=>
    dsimp only at h ⊢
    cases eb:b l s1 with
    | exc x s2=>rfl
    | bad=>rfl
    | ok f s2=>
     rw[eb]at h
     cases f with
     | next l2=>exact Qh9 n l2 s2 h
     | cnt l2=>exact Qh9 n l2 s2 h
     | brk l2=>rfl
     | ret d=>rfl
theorem Qia {t:CT}{b:CS}{n m:Nat}{l:Loc}{s:Sto} (h:whileN t b n l s≠.bad) (hm:n<=m):whileN t b m l s=whileN t b n l s:=by
 induction m with
 | zero => have : n = 0 := by ac_nf
           subst this;ac_rfl
 | succ m ih=>
  by_cases e:n=m + 1
  ·subst e;ac_rfl
  ·have:=ih (by ac_nf)
   rw[Qh9 m l s (by rw[this];exact h),this]
theorem Qib {t : CT} {b : CS} {Q : Flw -> Sto -> Prop} {l : Loc} {s : Sto} (W : Loc -> Sto -> Prop) (μ : Loc -> Sto -> Nat) (h0 : W l s)
  (hs:∀ l s,W l s->wp (t l) (fun c s1=>if c=true then wp (b l) (fun f s2=>match f with
   | .next l2=>W l2 s2/\μ l2 s2 < μ l s
   | .cnt l2=>W l2 s2/\μ l2 s2 < μ l s
   | .brk l2=>Q (.next l2) s2
   | .ret d=>Q (.ret d) s2) s1 else Q (.next l) s1) s):wp (sWhile t b l) Q s:=by
 have key:∀ (k:Nat) (l:Loc) (s:Sto),μ l s < k->W l s->∃ n,wp (whileN t b n l) Q s:=by
  intro k
  induction k with
  | zero=>intro l s h;ac_nf
  | succ k ih=>
   intro l s hk w
   have h1:=hs l s w
   rw[Qhs]at h1
   cases et:t l s with
   | exc x s1=>rw[et]at h1;exact h1.elim
   | bad=>rw[et]at h1;exact h1.elim
   | ok c s1=>
    rw[et]at h1
    cases c with
    | false=>
     refine⟨1,?_⟩
     show wp (bnd (t l) _) Q s
     rw[Qht,wp_eq et]
     show wp (ret _) _ _
     rw[wp_ret]
     exact h1
    | true=>
     have h2:wp (b l) _ s1:=h1
     rw[Qhs]at h2
     cases eb:b l s1 with
     | exc x s2=>rw[eb]at h2;exact h2.elim
     | bad=>rw[eb]at h2;exact h2.elim
     | ok f s2=>
      rw[eb]at h2
      have go:∀ (n:Nat),wp (match f with
       | .next l2=>whileN t b n l2
       | .cnt l2=>whileN t b n l2
       | .brk l2=>ret (.next l2)
       | .ret d=>ret (.ret d)) Q s2->wp (whileN t b (n + 1) l) Q s:=fun n q=>by
       show wp (bnd (t l) _) Q s
       rw[Qht,wp_eq et,if_pos rfl,Qht,wp_eq eb]
       exact q
      cases f with
      | next l2=>obtain⟨n,hn⟩:=ih l2 s2 (by have:=h2.2;ac_nf) h2.1;exact⟨n + 1,go n hn⟩
      | cnt l2=>obtain⟨n,hn⟩:=ih l2 s2 (by have:=h2.2;ac_nf) h2.1;exact⟨n + 1,go n hn⟩
      | brk l2=>exact⟨1,go 0 (by show wp (ret _) _ _;rw[wp_ret];exact h2)⟩
      | ret d=>exact⟨1,go 0 (by show wp (ret _) _ _;rw[wp_ret];exact h2)⟩
 obtain⟨n,hn⟩:=key (μ l s + 1) l s (Nat.lt_succ_self _) h0
 have nb:whileN t b n l s≠.bad:=fun e=>by rw[Qhs]at hn;rw[e]at hn;exact hn
 have ex:∃ n,∀ r,whileN t b n l s=r->r≠.bad:=⟨n,fun r e=>e ▸ nb⟩
 rw[Qhs];unfold sWhile
 rw[dif_pos ex]
 have hc:whileN t b (Classical.choose ex) l s≠.bad:=Classical.choose_spec ex _ rfl
 have e:whileN t b (Classical.choose ex) l s=whileN t b n l s:=by
  rw[<- Qia hc (Nat.le_max_left (Classical.choose ex) n),<- Qia nb (Nat.le_max_right (Classical.choose ex) n)]
 rw[e]
 rw[Qhs]at hn
 exact hn
section
variable {Q:D->Sto->Prop}{s:Sto}{l:Loc}
theorem x_sliceT {a : CE} {lo hi : CO} : wp (cSliceT a lo hi l) Q s = wp (a l) (fun x s1 => wp (lo l) (fun i s2 => wp (hi l) (fun j s3 => match x with
  | .tup ds=>¬(sIx ds.length 0 i=0/\sIx ds.length ds.length j=ds.length)/\Q (.tup (cutD ds i j)) s3
  | _=>False) s2) s1) s:=by
 unfold cSliceT;rw[Qht];congr 1;funext x s1;rw[Qht];congr 1;funext i s2;rw[Qht];congr 1;funext j s3;cases x<;>first | bv_omega | (dsimp only;rw[wp_chk];ac_rfl)
theorem allF_refl {f:D->D->Option Bool}:∀ {ds:List D},(∀ d∈ds,f d d=some true)->allF f ds ds=some true
 | [],_=>rfl
 | d::ds,h=>by
  unfold allF
  rw[h d (by simp)]
  exact allF_refl fun x hx=>h x (by simp[hx])
end
section
variable {α β:Type}{γ:Sort _}
theorem y_dec {p:Prop} [Decidable p]:(decide p=true)=p:=_root_.decide_eq_true_eq
theorem y_rs {n:Nat}{a:α}:List.replicate (n + 1) a=a::List.replicate n a:=nr rfl
theorem y_rz {a:α}:List.replicate 0 a=[]:=nr rfl
theorem y_js {x:Option α}:(some x).join=x:=nr rfl
theorem y_mc {f:α->β}{a:α}{l:List α}:List.map f (a::l)=f a::List.map f l:=nr rfl
theorem y_mn {f:α->β}:List.map f []=[]:=nr rfl
theorem y_ca {a:α}{l k:List α}:(a::l)++k=a::(l++k):=nr rfl
theorem y_na {l:List α}:[]++l=l:=nr rfl
theorem y_g0 {a:α}{l:List α}:(a::l)[0]?=some a:=nr rfl
theorem y_gs {a:α}{l:List α}{i:Nat}:(a::l)[i + 1]?=l[i]?:=by simp
theorem y_s0 {a b:α}{l:List α}:(a::l).set 0 b=b::l:=nr rfl
theorem y_ss {a b:α}{l:List α}{i:Nat}:(a::l).set (i + 1) b=a::l.set i b:=nr rfl
theorem y_lc {a:α}{l:List α}:(a::l).length=l.length + 1:=nr rfl
theorem y_ln:([]:List α).length=0:=nr rfl
theorem y_it {c d:γ}:(if True then c else d)=c:=if_pos trivial
theorem y_if {c d:γ}:(if False then c else d)=d:=if_neg (fun h=>h)
theorem y_at {p:Prop}:(p/\True)=p:=and_true p
theorem y_ta {p:Prop}:(True/\p)=p:=true_and p
theorem y_nt:(!true)=false:=nr rfl
theorem y_nf:(!false)=true:=nr rfl
end
section
variable {Q:D->Sto->Prop}{U:Unit->Sto->Prop}{A:List D->Sto->Prop}{s:Sto}{l:Loc}
theorem Qic {n:Nat}{b:Bool}{kvs:List (D × D)}{Q:Bool × List (D × D)->Sto->Prop} (h:s[n]?=some (.dct b kvs)):wp (getDc n) Q s=Q (b,kvs) s:=by
 rw[Qhs];unfold getDc;rw[h]
theorem Qid {n:Nat}{b:Bool}{kvs kvs':List (D × D)}{Q:Unit->Sto->Prop} (h:s[n]?=some (.dct b kvs)):wp (putDc n b kvs') Q s=Q () (s.set n (.dct b kvs')):=by
 rw[Qhs];unfold putDc;rw[h];simp
theorem Qie {n:Nat}{b:Bool}{kvs:List (D × D)}{k d:D} (h:s[n]?=some (.dct b kvs)) (hk:kOk b k=true) (hl:lkK kvs k=some d):wp (itemK n k) Q s=Q d s:=by
 unfold itemK;rw[Qht,Qic h,wp_chk];dsimp only;rw[hl,wp_ret];exact propext ⟨fun h=>h.2,fun h=>⟨hk,h⟩⟩
theorem Qif {n:Nat}{b:Bool}{kvs:List (D × D)}{k v:D} (h:s[n]?=some (.dct b kvs)) (hk:kOk b k=true) (hl:kvs.length < lim):wp (storeK n k v) U s=U () (s.set n (.dct b (ptK kvs k v))):=by
 unfold storeK;rw[Qht,Qic h,wp_chk];dsimp only;rw[Qid h];exact propext ⟨fun h=>h.2,fun h=>⟨⟨hk,hl⟩,h⟩⟩
theorem Qig {n:Nat}{b:Bool}{kvs:List (D × D)}{k:D}{Q:Bool->Sto->Prop} (h:s[n]?=some (.dct b kvs)) (hk:kOk b k=true):wp (hasK n k) Q s=Q (lkK kvs k).isSome s:=by
 unfold hasK;rw[Qht,Qic h,wp_chk,wp_ret];exact propext ⟨fun h=>h.2,fun h=>⟨hk,h⟩⟩
theorem x_subsD {n:Nat}{k:D}:wp (subsD (.dic n) k) Q s=wp (itemK n k) Q s:=by cases k<;>first | bv_omega
theorem x_setD {n:Nat}{k v:D}:wp (setItemD (.dic n) k v) U s=wp (storeK n k v) U s:=by cases k<;>first | bv_omega
theorem x_ninDc {n:Nat}{k:D}:wp (ninD k (.dic n)) Q s=wp (hasK n k) (fun b s'=>Q (.bl !b) s') s:=by unfold ninD;rw[Qht];ac_rfl
theorem x_dnew {b:Bool}:wp (cDNew b l) Q s=Q (.dic s.length) (s++[.dct b []]):=wp_eq rfl
theorem x_cdisp {ks:List D}{vs:CA}:wp (cDisp ks vs l) Q s=wp (vs l) (fun xs s'=>ks.length=xs.length/\Q (.dic s'.length) (s'++[.dct false (mgK [] (ks.zip xs))])) s:=by
 unfold cDisp;rw[Qht];congr 1;funext xs s';rw[wp_chk];rw[show ∀ kvs,wp (allocK false kvs) Q s'=Q (.dic s'.length) (s'++[.dct false kvs]) from fun _=>wp_eq rfl]
theorem x_arev {a:CA}:wp (aRev a l) A s=wp (a l) (fun ds s'=>A ds.reverse s') s:=by unfold aRev;rw[Qht];ac_rfl
end
theorem x_times {a : CA} {b : CE} {A : List D -> Sto -> Prop} {s : Sto} {l : Loc} : wp (aTimes a b l) A s = wp (a l) (fun xs s1 => wp (b l) (fun k s2 => match k with
  | .int k=>((-(2 ^ 63)<=k/\k < 2 ^ 63)/\xs.length * k.toNat<=lim)/\A (List.replicate k.toNat xs).flatten s2
  | _=>False) s1) s:=by
 unfold aTimes;rw[Qht];congr 1;funext xs s1;rw[Qht];congr 1;funext k s2;cases k<;>first | bv_omega | (dsimp only;rw[wp_chk];ac_rfl)
theorem Qih {m:M D}{s:Sto} (h:wp m (fun d _=>d=.bl true) s):∃ st',m s=.ok (.bl true) st':=by
 rw[Qhs]at h
 cases e:m s with
 | ok a s'=>rw[e]at h;exact⟨s',by rw[show a=.bl true from h]⟩
 | exc _ _=>rw[e]at h;exact h.elim
 | bad=>rw[e]at h;exact h.elim
theorem Qii {α:Type}{l:List α}{a:α}:(l++[a])[l.length]?=some a:=by rw[List.getElem?_append_right (Nat.le_refl _),Nat.sub_self];ac_rfl
theorem Qij {α:Type}{l:List α}{a b:α}{n:Nat} (h:l[n]?=some a):(l++[b])[n]?=some a:=by rw[List.getElem?_append_left (List.getElem?_eq_some_iff.mp h).1];exact h
section
variable {Q:D->Sto->Prop}{A:List D->Sto->Prop}{s:Sto}
theorem Qik {g : CG} {e : CE} {same : Sto -> Prop} {xs : List D} {l : Loc} (V : D -> Prop) (L : Loc -> Prop) (P : D -> Prop) (W : Sto -> Prop) (hs : ∀ s, W s -> same s) (h0 : W s) (hl : L l) (hV : ∀ d ∈ xs, V d)
  (hstep:∀ d l s,V d->L l->W s->wp (g d l) (fun l1 s1=>L l1/\wp (e l1) (fun x s2=>P x/\W s2) s1) s) (hend:∀ out s',out.length=xs.length->(∀ d∈out,P d)->W s'->A out s'):
  wp (collect g tTrue e same xs l) A s:=by
 have chk:∀ {s:Sto}{R:Unit->Sto->Prop},same s->R () s->wp (chkS same) R s:=fun h r=>by rw[Qhs];unfold chkS;rw[if_pos h];exact r
 refine QhA (Q:=A) (fun out ds l s=>out.length + ds.length=xs.length/\(∀ d∈ds,V d)/\L l/\(∀ d∈out,P d)/\W s) (fun out l s ⟨e1,_,_,hP,w⟩=>?_) (fun out d ds l s ⟨e1,hv,hL,hP,w⟩=>?_) xs [] l s ⟨by simp,hV,hl,fun d hd=>absurd hd (by simp),h0⟩
 ·exact chk (hs _ w) (hend out s (by simpa using e1) hP w)
 ·refine chk (hs _ w) ?_
  refine Qhw (hstep d l s (hv d (by simp)) hL w) fun l1 s1 pq100=>?_
  obtain⟨hL1,q⟩:=pq100
  show wp (ret true) _ s1
  rw[wp_ret]
  show wp (e l1) _ s1
  exact Qhw q fun x s2 pq101=>by obtain⟨px,w2⟩:=pq101;exact⟨by simp at e1 ⊢;ac_nf,fun d hd=>hv d (by simp[hd]),hL1,fun d hd=>by
   rcases List.mem_append.mp hd with hd | hd
   ·exact hP d hd
   ·rw[List.mem_singleton.mp hd];exact px,w2⟩
theorem Qil {e : CE} {same : Sto -> Prop} {xs : List D} {caps : Loc} (V : D -> Prop) (P : D -> Prop) (W : Sto -> Prop) (hs : ∀ s, W s -> same s) (h0 : W s) (hV : ∀ d ∈ xs, V d)
  (hstep:∀ d s,V d->W s->wp (e (some d::caps)) (fun x s2=>P x/\W s2) s) (hend:∀ out s',out.length=xs.length->(∀ d∈out,P d)->W s'->A out s'):
  wp (collect (gVar 0) tTrue e same xs (none::caps)) A s:=
 Qik V (fun l=>∃ x,l=x::caps) P W hs h0 ⟨none,rfl⟩ hV (fun d l s hv pq102 w=>by obtain⟨x,el⟩:=pq102;subst el;rw[x_gvar];exact⟨⟨_,rfl⟩,hstep d s hv w⟩) hend
def isI (n:Nat) (d:D):Prop:=∃ i:Nat,i < n/\d=.int i
theorem Qim {n:Nat}:∀ d∈rngD 0 n,isI n d:=fun d hd=>by
 obtain⟨i,hi⟩:=List.getElem?_of_mem hd
 obtain⟨h1,h2⟩:=QhD hi
 exact⟨i,h1,h2⟩
theorem Qin {g : CG} {t : CT} {e : CE} {same : Sto -> Prop} {xs : List D} {l : Loc} (V : D -> Prop) (L : Loc -> Prop) (P : D -> Prop) (W : Sto -> Prop) (hs : ∀ s, W s -> same s) (h0 : W s) (hl : L l) (hV : ∀ d ∈ xs, V d)
  (hstep:∀ d l s,V d->L l->W s->wp (g d l) (fun l1 s1=>L l1/\wp (t l1) (fun b s2=>if b=true then wp (e l1) (fun x s3=>P x/\W s3) s2 else W s2) s1) s) (hend:∀ out s',out.length<=xs.length->(∀ d∈out,P d)->W s'->A out s'):
  wp (collect g t e same xs l) A s:=by
 have chk:∀ {s:Sto}{R:Unit->Sto->Prop},same s->R () s->wp (chkS same) R s:=fun h r=>by rw[Qhs];unfold chkS;rw[if_pos h];exact r
 refine QhA (Q:=A) (fun out ds l s=>out.length + ds.length<=xs.length/\(∀ d∈ds,V d)/\L l/\(∀ d∈out,P d)/\W s) (fun out l s ⟨e1,_,_,hP,w⟩=>?_) (fun out d ds l s ⟨e1,hv,hL,hP,w⟩=>?_) xs [] l s ⟨by simp,hV,hl,fun d hd=>absurd hd (by simp),h0⟩
 ·exact chk (hs _ w) (hend out s (by simpa using e1) hP w)
 ·refine chk (hs _ w) ?_
  refine Qhw (hstep d l s (hv d (by simp)) hL w) fun l1 s1 ⟨hL1,q⟩=>Qhw q fun b s2 q=>?_
  cases b with
  | false=>exact⟨by simp at e1 ⊢;ac_nf,fun d hd=>hv d (by simp[hd]),hL1,hP,q⟩
  | true=>
   exact Qhw q fun x s2 pq106=>by obtain⟨px,w2⟩:=pq106;exact⟨by simp at e1 ⊢;ac_nf,fun d hd=>hv d (by simp[hd]),hL1,fun d hd=>by
    rcases List.mem_append.mp hd with hd | hd
    ·exact hP d hd
    ·rw[List.mem_singleton.mp hd];exact px,w2⟩
end
end MM
local macro_rules
 | `(tactic| simp_arith [$a,*])=>`(tactic| simp only[↓MM.x_seq,↓MM.x_next,↓MM.x_asg,↓MM.x_ret,↓MM.x_exp,↓MM.x_if,↓MM.x_cmp,↓MM.x_andE,↓MM.x_truB,↓MM.x_tupL,↓MM.x_item0,↓MM.x_item1,↓MM.x_item2,↓MM.x_item3,↓MM.x_iTmp,↓MM.x_gtup,↓MM.x_gcons,↓MM.x_gnil,↓MM.x_slice,↓MM.x_none,↓MM.x_some,↓MM.x_val,↓MM.x_not,↓MM.x_and,↓MM.x_or,↓MM.x_g0,↓MM.x_g1,↓MM.x_g2,↓MM.x_g3,↓MM.x_g4,↓MM.x_g5,↓MM.x_g6,↓MM.x_g7,↓MM.x_g8,↓MM.x_g9,↓MM.x_g10,↓MM.x_g11,↓MM.x_g12,↓MM.x_g13,MM.x_gvar,↓MM.x_gsub,↓MM.x_v0,↓MM.x_v1,↓MM.x_v2,↓MM.x_v3,↓MM.x_v4,↓MM.x_v5,↓MM.x_v6,↓MM.x_v7,↓MM.x_v8,↓MM.x_v9,↓MM.x_v10,↓MM.x_v11,↓MM.x_v12,↓MM.x_v13,MM.x_var,↓MM.x_con,↓MM.x_c1,↓MM.x_c2,↓MM.x_call,↓MM.x_nil,↓MM.x_cons,↓MM.x_tup,↓MM.x_disp,↓MM.x_keep,↓MM.x_tmp,↓MM.x_comp,↓MM.x_for,↓MM.x_rng,↓MM.x_iseq,↓MM.x_add,↓MM.x_sub,↓MM.x_mul,↓MM.x_div,↓MM.x_mod,↓MM.x_lt,↓MM.x_le,↓MM.x_gt,↓MM.x_ge,↓MM.x_eq,↓MM.x_ne,↓MM.x_subsT,↓MM.x_subsR,↓MM.x_lenT,↓MM.x_lenR,↓MM.x_intB,↓MM.x_retF,↓MM.wp_run,↓MM.wp_ret,↓MM.wp_chk,↓MM.wp_alloc,MM.y_dec,MM.y_rs,MM.y_rz,MM.y_js,MM.y_mc,MM.y_mn,MM.y_ca,MM.y_na,MM.y_g0,MM.y_gs,MM.y_s0,MM.y_ss,MM.y_lc,MM.y_ln,Nat.reduceAdd,Nat.reduceSub,Int.reduceLE,Int.reduceLT,MM.y_it,MM.y_if,MM.y_at,MM.y_ta,beq_iff_eq,↓MM.x_append,↓MM.x_clear,↓MM.x_pop,↓MM.x_tupleR,↓MM.x_eqStr,↓MM.x_isiL,↓MM.x_neg,↓MM.x_min2,↓MM.x_max2,↓MM.x_rng2,↓MM.x_addT,↓MM.x_tmpSub,MM.ite_f,MM.y_nt,MM.y_nf,↓MM.x_sliceT,↓MM.x_subsD,↓MM.x_setD,↓MM.x_ninDc,↓MM.x_dnew,↓MM.x_cdisp,↓MM.x_arev,↓MM.x_times,Nat.reduceLT,Nat.reduceLeDiff,$a,*])
namespace MM
open PySem
theorem Qio:∀ (N:Nat) (l:List Nat),l.Nodup->(∀ x∈l,x < N)->l.length<=N
 | 0,l,_,h=>by
  cases l with
  | nil=>exact Nat.le_refl _
  | cons x xs=>exact absurd (h x (by simp)) (Nat.not_lt_zero _)
 | N + 1,l,hn,h=>by
  by_cases hm:N∈l
  ·have h1 := Qio N (l.erase N) (hn.erase N) (fun x hx => by
     have hx':=(hn.mem_erase_iff).mp hx
     have:=h x hx'.2
     have:=hx'.1
     ac_nf)
   rw[List.length_erase_of_mem hm]at h1
   ac_nf
  ·have h1 := Qio N l hn (fun x hx => by
     have:=h x hx
     have:x≠N:=fun e=>hm (e ▸ hx)
     ac_nf)
   ac_nf
def enc (B:Nat):List Nat->Nat
 | []=>0
 | x::xs=>x * B ^ xs.length + enc B xs
theorem Qip {B:Nat}:∀ {xs:List Nat},(∀ x∈xs,x < B)->enc B xs < B ^ xs.length
 | [],_=>by simp[enc]
 | x::xs,h=>by
  have h1:=Qip (B:=B) (xs:=xs) fun y hy=>h y (by simp[hy])
  have h2:=h x (by simp)
  show x * B ^ xs.length + enc B xs < B ^ (xs.length + 1)
  rw[Nat.pow_succ,Nat.mul_comm (B ^ xs.length) B]
  have:(x + 1) * B ^ xs.length<=B * B ^ xs.length:=Nat.mul_le_mul_right _ h2
  rw[Nat.succ_mul]at this
  ac_nf
theorem Qiq {B:Nat}:∀ {xs ys:List Nat},xs.length=ys.length->(∀ x∈xs,x < B)->(∀ x∈ys,x < B)->enc B xs=enc B ys->xs=ys
 | [],[],_,_,_,_=>rfl
 | x::xs,y::ys,hl,hx,hy,e=>by
  have hl':xs.length=ys.length:=by simpa using hl
  have h1:=Qip (B:=B) (xs:=xs) fun z hz=>hx z (by simp[hz])
  have h2:=Qip (B:=B) (xs:=ys) fun z hz=>hy z (by simp[hz])
  have e':x * B ^ xs.length + enc B xs=y * B ^ ys.length + enc B ys:=e
  rw[<- hl']at e' h2
  have q:x=y/\enc B xs=enc B ys:=by
   generalize B ^ xs.length=p at e' h1 h2
   have hp:0 < p:=by ac_nf
   have a1:(x * p + enc B xs) / p=x:=by rw[Nat.mul_comm,Nat.mul_add_div hp,Nat.div_eq_of_lt h1];simp
   have a2:(y * p + enc B ys) / p=y:=by rw[Nat.mul_comm,Nat.mul_add_div hp,Nat.div_eq_of_lt h2];simp
   have exy:x=y:=by rw[<- a1,<- a2,e']
   subst exy
   exact⟨rfl,by ac_nf⟩
  rw[q.1,Qiq hl' (fun z hz=>hx z (by simp[hz])) (fun z hz=>hy z (by simp[hz])) q.2]
def pr:List Nat->Nat
 | []=>1
 | b::bs=>b * pr bs
def encS:List Nat->List Nat->Nat
 | b::bs,x::xs=>x * pr bs + encS bs xs
 | _,_=>0
theorem Qir:∀ {bs xs:List Nat},xs.length=bs.length->(∀ (i b x:Nat),bs[i]?=some b->xs[i]?=some x->x < b)->encS bs xs < pr bs
 | [],[],_,_=>by simp[encS,pr]
 | b::bs,x::xs,hl,h=>by
  have h1:=Qir (bs:=bs) (xs:=xs) (by simpa using hl) fun i b x hb hx=>h (i + 1) b x (by simpa using hb) (by simpa using hx)
  have h2:=h 0 b x rfl rfl
  show x * pr bs + encS bs xs < b * pr bs
  have:(x + 1) * pr bs<=b * pr bs:=Nat.mul_le_mul_right _ h2
  rw[Nat.succ_mul]at this
  ac_nf
theorem Qis:∀ {bs xs ys:List Nat},xs.length=bs.length->ys.length=bs.length->(∀ (i b x:Nat),bs[i]?=some b->xs[i]?=some x->x < b)->(∀ (i b x:Nat),bs[i]?=some b->ys[i]?=some x->x < b)->encS bs xs=encS bs ys->xs=ys
 | [],[],[],_,_,_,_,_=>rfl
 | b::bs,x::xs,y::ys,hl,hl2,hx,hy,e=>by
  have hx':∀ (i b x:Nat),bs[i]?=some b->xs[i]?=some x->x < b:=fun i b x hb h=>hx (i + 1) b x (by simpa using hb) (by simpa using h)
  have hy':∀ (i b x:Nat),bs[i]?=some b->ys[i]?=some x->x < b:=fun i b x hb h=>hy (i + 1) b x (by simpa using hb) (by simpa using h)
  have h1:=Qir (bs:=bs) (xs:=xs) (by simpa using hl) hx'
  have h2:=Qir (bs:=bs) (xs:=ys) (by simpa using hl2) hy'
  have e':x * pr bs + encS bs xs=y * pr bs + encS bs ys:=e
  have q:x=y/\encS bs xs=encS bs ys:=by
   generalize pr bs=p at e' h1 h2
   have hp:0 < p:=by ac_nf
   have a1:(x * p + encS bs xs) / p=x:=by rw[Nat.mul_comm,Nat.mul_add_div hp,Nat.div_eq_of_lt h1];simp
   have a2:(y * p + encS bs ys) / p=y:=by rw[Nat.mul_comm,Nat.mul_add_div hp,Nat.div_eq_of_lt h2];simp
   have exy:x=y:=by rw[<- a1,<- a2,e']
   subst exy
   exact⟨rfl,by ac_nf⟩
  rw[q.1,Qis (by simpa using hl) (by simpa using hl2) hx' hy' q.2]
theorem eqKs_nat:∀ (a b:List Nat),eqKs (a.map fun n:Nat=>.int n) (b.map fun n:Nat=>.int n)=decide (a=b)
 | [],[]=>by simp[eqKs]
 | [],_::_=>by simp[eqKs]
 | _::_,[]=>by simp[eqKs]
 | x::xs,y::ys=>by
  rw[List.map_cons,List.map_cons]
  show (eqK (.int x) (.int y) && eqKs _ _)=_
  rw[eqKs_nat xs ys]
  show (decide ((x:Int)=y) && _)=_
  have:decide ((x:Int)=y)=decide (x=y):=decide_eq_decide.mpr (by ac_nf)
  rw[this]
  simp[Bool.decide_and]
theorem Qit:∀ (a:List Nat),intsK (a.map fun n:Nat=>.int n)=some (a.map fun n:Nat=>(n:Int))
 | []=>rfl
 | x::xs=>by rw[List.map_cons,List.map_cons];unfold intsK;rw[Qit xs];rfl
theorem Qiu (a b:List Nat):kOk true (.tup [.tup (a.map fun n:Nat=>.int n),.tup (b.map fun n:Nat=>.int n)])=true:=by
 show (rowsK [.tup (a.map fun n:Nat=>.int n),.tup (b.map fun n:Nat=>.int n)]).isSome=true
 simp only[rowsK,Qit];rfl
theorem Qiv (a b c d:List Nat):eqK (.tup [.tup (a.map fun n:Nat=>.int n),.tup (b.map fun n:Nat=>.int n)]) (.tup [.tup (c.map fun n:Nat=>.int n),.tup (d.map fun n:Nat=>.int n)])=(decide (a=c) && decide (b=d)):=by
 show (eqKs (a.map _) (c.map _) && (eqKs (b.map _) (d.map _) && true))=_
 rw[eqKs_nat,eqKs_nat,Bool.and_true]
section
variable {Q:List D->Sto->Prop}{s:Sto}
theorem Qiw {g : CG} {t : CT} {e : CE} {same : Sto -> Prop} {l0 : Loc} (I : Loc -> Prop) (p : D -> Bool) (f : D -> D) (hs : same s) : ∀ (ds : List D) (l0 : Loc), I l0 -> (∀ d ∈ ds, ∀ l, I l -> ∃ l', (∀ G, wp (g d l) G s = G l' s) /\ I l' /\ (∀ T, wp (t l') T s = T (p d) s) /\ ∀ Q, wp (e l') Q s = Q (f d) s) ->
  ∀ Q,wp (collect g t e same ds l0) Q s=Q ((ds.filter p).map f) s
 | [],l0,_,_,Q=>by
  unfold collect
  rw[Qht]
  rw[show wp (chkS same) (fun a s'=>wp (ret []) Q s') s=Q [] s from by rw[Qhs];unfold chkS;rw[if_pos hs];exact wp_ret]
  rfl
 | d::ds,l0,h0,h,Q=>by
  obtain⟨l',q1,q2,q3,q4⟩:=h d (by simp) l0 h0
  have ih:=Qiw (l0:=l0) I p f hs ds l' q2 fun x hx=>h x (by simp[hx])
  unfold collect
  rw[Qht,show ∀ R:Unit->Sto->Prop,wp (chkS same) R s=R () s from fun R=>by rw[Qhs];unfold chkS;rw[if_pos hs],Qht,q1,Qht,q3]
  cases hp:p d with
  | true=>
   rw[if_pos rfl,Qht,q4,Qht,ih,wp_ret,List.filter_cons,if_pos hp]
   rfl
  | false=>rw[if_neg (by simp),ih,List.filter_cons,if_neg (by rw[hp];simp)]
end
end MM
namespace My
open PySem MM
def jG : CS :=
  (sSeq (sRet (c2 subsD (c2 subsD (c2 subsD (cVar 0) (cVar 1)) (cVar 2)) (cCon (.int 0))))
  sNext)
@[irreducible] def ji:List D->M D:=runDef 3 jG
def j3 : CS :=
  (sSeq (sRet (c2 subsD (c2 subsD (c2 subsD (cVar 0) (cVar 1)) (cVar 2)) (cCon (.int 1))))
  sNext)
@[irreducible] def jB:List D->M D:=runDef 3 j3
def jZ : CS :=
  (sSeq (sRet (c2 subsD (c2 subsD (c2 subsD (c2 subsD (cVar 0) (cCon (.int 1))) (cVar 2)) (cCon (.int 1))) (c2 subsD (c2 subsD (cVar 1) (cCon (.int 0))) (cVar 2))))
  sNext)
@[irreducible] def jw:List D->M D:=runDef 3 jZ
def jY : CS :=
  (sSeq (sRet (c2 addD (c2 addD (cSliceT (cVar 0) oNone (oSome (cVar 1))) (cTup (cCons (cVar 2) cNil))) (cSliceT (cVar 0) (oSome (c2 addD (cVar 1) (cCon (.int 1)))) oNone)))
  sNext)
@[irreducible] def jg:List D->M D:=runDef 3 jY
def j0 : CS :=
  (sSeq (sRet (cAnd (c2 eqD (c2 subsD (c2 subsD (cVar 0) (cCon (.int 0))) (cVar 2)) (c2 subsD (c2 subsD (cVar 1) (cCon (.int 0))) (cVar 2))) (c2 eqD (c2 subsD (cVar 0) (cCon (.int 1))) (c2 subsD (cVar 1) (cCon (.int 1))))))
  sNext)
@[irreducible] def jn:List D->M D:=runDef 3 j0
def jS : CS :=
  (sSeq (sAsg (gVar 2) (cKeep (aComp 1 [] (iTmp (aSlice (cVar 0) (oSome (cVar 1)) (oSome (cCon (.int 63))))) (gVar 0) tTrue (c2 max2D (cVar 0) (c2 subD (cCon (.int 0)) (cVar 0))))))
  (sSeq (sAsg (gVar 3) (c2 addD (cCon (.int 7919)) (cVar 1)))
  (sSeq (sFor (iSeq (cVar 2)) (gVar 4)
   (sSeq (sAsg (gVar 3) (c2 modD (c2 addD (c2 mulD (cVar 3) (cCon (.int 48271))) (c2 modD (cVar 4) (cCon (.int 2147483629)))) (cCon (.int 2147483647))))
   sNext))
  (sSeq (sRet (cDisp [.str "seed",.str "number",.str "left"] (cCons (cVar 3) (cCons (cCon (.int 0)) (cCons (cKeep (aRev (aComp 1 [] (iSeq (cVar 2)) (gVar 0) (tCmpB (c2 geD (cVar 0) (c2 powD (cCon (.int 10)) (cCon (.int 18))))) (cVar 0)))) cNil)))))
  sNext))))
@[irreducible] def jq:List D->M D:=runDef 5 jS
def jX : CS :=
  (sSeq (sWhile (tAndB (tCmpB (c2 eqD (c2 subsD (cVar 0) (cCon (.str "number"))) (cCon (.int 0)))) (tCmpB (c2 gtD (c1 lenD (c2 subsD (cVar 0) (cCon (.str "left")))) (cCon (.int 0)))))
   (sSeq (sAsg (gSubD (cVar 0) (cCon (.str "number"))) (cPop (c2 subsD (cVar 0) (cCon (.str "left")))))
   sNext))
  (sSeq (sAsg (gVar 2) (c2 subsD (cVar 0) (cCon (.str "number"))))
  (sSeq (sIf (tCmpB (c2 gtD (cVar 2) (cCon (.int 0))))
   (sSeq (sAsg (gSubD (cVar 0) (cCon (.str "number"))) (c2 fdivD (cVar 2) (cVar 1)))
   (sSeq (sRet (c2 modD (cVar 2) (cVar 1)))
   sNext))
   sNext)
  (sSeq (sAsg (gVar 3) (c2 modD (c2 addD (c2 mulD (c2 subsD (cVar 0) (cCon (.str "seed"))) (cCon (.int 48271))) (cCon (.int 7919))) (cCon (.int 2147483647))))
  (sSeq (sAsg (gSubD (cVar 0) (cCon (.str "seed"))) (c2 modD (c2 addD (c2 mulD (cVar 3) (cCon (.int 40692))) (cCon (.int 104729))) (cCon (.int 2147483399))))
  (sSeq (sAsg (gVar 4) (c2 modD (c2 mulD (c2 subsD (cVar 0) (cCon (.str "seed"))) (c2 subsD (cVar 0) (cCon (.str "seed")))) (cCon (.int 2147483563))))
  (sSeq (sRet (c2 modD (c2 addD (c2 mulD (c2 modD (c2 mulD (cVar 3) (cVar 3)) (cCon (.int 2147483629))) (cCon (.int 2147483563))) (cVar 4)) (cVar 1)))
  sNext)))))))
@[irreducible] def ja:List D->M D:=runDef 5 jX
def jP : CS :=
  (sSeq (sAsg (gVar 1) (cKeep (aDisp (cCons (cTmp tupL (aComp 1 [] (MM.iRng2 (cCon (.int 1)) (c2 addD (cVar 0) (cCon (.int 1)))) (gVar 0) tTrue (cTup (cCons (cVar 0) (cCons (cVar 0) cNil))))) cNil))))
  (sSeq (sRet (c1 tupleD (c2 addD (cVar 1) (cKeep (aComp 1 [0] (MM.iRng2 (cCon (.int 1)) (c2 addD (cVar 0) (cCon (.int 1)))) (gVar 0) tTrue (cTmp tupL (aTimes (aDisp (cCons (cTup (cCons (cVar 0) (cCons (cVar 0) cNil))) cNil)) (cVar 1))))))))
  sNext))
@[irreducible] def jl:List D->M D:=runDef 2 jP
def jM : CS :=
  (sSeq (sRet (cTmp tupL (aComp 1 [0] (MM.iRng1 (cVar 0)) (gVar 0) tTrue (c2 addD (cTup (cCons (cTup (cCons (cVar 0) (cCons (cVar 0) cNil))) cNil)) (cTmp tupL (aComp 1 [] (MM.iRng1 (cVar 1)) (gVar 0) tTrue (cTup (cCons (cVar 0) (cCons (cCon (.int 0)) cNil)))))))))
  sNext)
@[irreducible] def jj:List D->M D:=runDef 1 jM
def jV : CS :=
  (sSeq (sRet (cTmp tupL (aComp 1 [0] (MM.iRng1 (cVar 0)) (gVar 0) tTrue (cTmp tupL (aComp 1 [0] (MM.iRng1 (cVar 1)) (gVar 0) tTrue (cTup (cCons (cVar 0) (cCons (cVar 1) cNil))))))))
  sNext)
@[irreducible] def jp:List D->M D:=runDef 1 jV
def j2 : CS :=
  (sSeq (sRet (cTmp tupL (aComp 1 [0] (MM.iRng1 (cVar 0)) (gVar 0) tTrue (cTup (cCons (cTup (cCons (c2 modD (c2 addD (cVar 0) (cCon (.int 1))) (cVar 1)) (cCons (cVar 0) cNil))) cNil)))))
  sNext)
@[irreducible] def jy:List D->M D:=runDef 1 j2
def jE : CS :=
  (sSeq (sAsg (gVar 1) (c2 addD (cCon (.int 1)) (cCall ja (cCons (cVar 0) (cCons (cCon (.int 3)) cNil)))))
  (sSeq (sAsg (gVar 2) (c2 addD (cCon (.int 1)) (cCall ja (cCons (cVar 0) (cCons (cCon (.int 3)) cNil)))))
  (sSeq (sAsg (gVar 3) (cKeep (aDisp cNil)))
  (sSeq (sFor (MM.iRng1 (cVar 1)) (gVar 4)
   (sSeq (sExp (cAppend (cVar 3) (cTmp tupL (aComp 1 [0,1] (MM.iRng1 (cVar 2)) (gVar 0) tTrue (cTup (cCons (cCall ja (cCons (cVar 1) (cCons (cVar 2) cNil))) (cCons (cCall ja (cCons (cVar 1) (cCons (cCon (.int 4)) cNil))) cNil)))))))
   sNext))
  (sSeq (sRet (c1 tupleD (cVar 3)))
  sNext)))))
@[irreducible] def jf:List D->M D:=runDef 5 jE
def jC : CS :=
  (sSeq (sAsg (gVar 1) (c2 addD (cCon (.int 1)) (cCall ja (cCons (cVar 0) (cCons (cCon (.int 3)) cNil)))))
  (sSeq (sAsg (gVar 2) (cKeep (aComp 1 [] (MM.iRng1 (cVar 1)) (gVar 0) tTrue (cKeep (aDisp cNil)))))
  (sSeq (sFor (MM.iRng1 (c2 addD (cCon (.int 1)) (cCall ja (cCons (cVar 0) (cCons (cCon (.int 4)) cNil))))) (gVar 3)
   (sSeq (sAsg (gVar 4) (c2 eqD (cCall ja (cCons (cVar 0) (cCons (cCon (.int 2)) cNil))) (cCon (.int 0))))
   (sSeq (sAsg (gVar 5) (cCall ja (cCons (cVar 0) (cCons (cVar 1) cNil))))
   (sSeq (sFor (MM.iRng1 (cVar 1)) (gVar 6)
    (sSeq (sExp (cAppend (c2 subsD (cVar 2) (cVar 6)) (cTmpSub (aDisp (cCons (cTup (cCons (cVar 5) (cCons (cCon (.int 0)) cNil))) (cCons (cTup (cCons (cVar 6) (cCons (cCall ja (cCons (cVar 0) (cCons (cCon (.int 4)) cNil))) cNil))) cNil))) (c1 intD (cVar 4)))))
    sNext))
   sNext))))
  (sSeq (sRet (cTmp tupL (aComp 1 [] (iSeq (cVar 2)) (gVar 0) tTrue (c1 tupleD (cVar 0)))))
  sNext))))
@[irreducible] def jc:List D->M D:=runDef 7 jC
def jL : CS :=
  (sSeq (sAsg (gVar 2) (c2 subsD (cVar 1) (cCall ja (cCons (cVar 0) (cCons (c1 lenD (cVar 1)) cNil)))))
  (sSeq (sIf (tCmpB (c2 eqD (cVar 2) (cCon (.str "first"))))
   (sSeq (sRet (cCall jl (cCons (c2 addD (cCon (.int 1)) (cCall ja (cCons (cVar 0) (cCons (cCon (.int 3)) cNil)))) cNil)))
   sNext)
   sNext)
  (sSeq (sIf (tCmpB (c2 eqD (cVar 2) (cCon (.str "plain"))))
   (sSeq (sRet (cCall jj (cCons (c2 addD (cCon (.int 1)) (cCall ja (cCons (cVar 0) (cCons (cCon (.int 3)) cNil)))) cNil)))
   sNext)
   sNext)
  (sSeq (sIf (tCmpB (c2 eqD (cVar 2) (cCon (.str "swap"))))
   (sSeq (sRet (cCall jp (cCons (c2 addD (cCon (.int 1)) (cCall ja (cCons (cVar 0) (cCons (cCon (.int 3)) cNil)))) cNil)))
   sNext)
   sNext)
  (sSeq (sIf (tCmpB (c2 eqD (cVar 2) (cCon (.str "add"))))
   (sSeq (sRet (cCall jy (cCons (c2 addD (cCon (.int 1)) (cCall ja (cCons (cVar 0) (cCons (cCon (.int 4)) cNil)))) cNil)))
   sNext)
   sNext)
  (sSeq (sIf (tCmpB (c2 eqD (cVar 2) (cCon (.str "laid"))))
   (sSeq (sRet (cCall jc (cCons (cVar 0) cNil)))
   sNext)
   sNext)
  (sSeq (sRet (cCall jf (cCons (cVar 0) cNil)))
  sNext)))))))
@[irreducible] def jr:List D->M D:=runDef 3 jL
def jF : CS :=
  (sSeq (sRet (c2 addD (cCon (.int 1)) (cTmp maxD (aComp 1 [1] (iSeq (cVar 0)) (gVar 0) tTrue (c2 subsD (c2 subsD (cVar 0) (cVar 1)) (cCon (.int 1)))))))
  sNext)
@[irreducible] def je:List D->M D:=runDef 2 jF
def jW : CS :=
  (sSeq (sAsg (gVar 3) (c2 mulD (cCall ja (cCons (cVar 0) (cCons (c2 subD (cVar 2) (cCon (.int 1))) cNil))) (c1 intD (c2 gtD (c1 lenD (cVar 1)) (cCon (.int 0))))))
  (sSeq (sAsg (gVar 4) (cCall ja (cCons (cVar 0) (cCons (cCon (.int 4)) cNil))))
  (sSeq (sAsg (gVar 5) (cKeep (aDisp cNil)))
  (sSeq (sFor (MM.iRng1 (cVar 3)) (gVar 6)
   (sSeq (sAsg (gVar 7) (cCall ja (cCons (cVar 0) (cCons (c1 lenD (cVar 1)) cNil))))
   (sSeq (sAsg (gVar 8) (cCall ja (cCons (cVar 0) (cCons (c1 lenD (c2 subsD (c2 subsD (c2 subsD (cVar 1) (cVar 7)) (cCon (.int 0))) (cCon (.int 0)))) cNil))))
   (sSeq (sAsg (gVar 9) (cTmpSub (aDisp (cCons (c2 addD (cVar 6) (cCon (.int 1))) (cCons (c2 addD (cVar 6) (cCon (.int 1))) (cCons (c2 addD (cVar 6) (cCon (.int 1))) (cCons (cCon (.int 0)) cNil))))) (cVar 4)))
   (sSeq (sAsg (gVar 10) (cKeep (aDisp cNil)))
   (sSeq (sFor (MM.iRng1 (cCall je (cCons (c2 subsD (c2 subsD (cVar 1) (cVar 7)) (cCon (.int 0))) (cCons (cVar 8) cNil)))) (gVar 11)
    (sSeq (sExp (cAppend (cVar 10) (c2 addD (cVar 9) (cCall ja (cCons (cVar 0) (cCons (c2 subD (c2 addD (cVar 3) (cCon (.int 2))) (cVar 9)) cNil))))))
    sNext))
   (sSeq (sExp (cAppend (cVar 5) (cTup (cCons (cCon (.str "do")) (cCons (cVar 7) (cCons (cVar 8) (cCons (c1 tupleD (cVar 10)) cNil)))))))
   sNext)))))))
  (sSeq (sAsg (gVar 12) (cTmpSub (aDisp (cCons (cKeep (aDisp (cCons (cTup (cCons (cCon (.str "settle")) (cCons (cCon (.int 0)) cNil))) (cCons (cTup (cCons (cCon (.str "settle")) (cCons (cCon (.int 1)) cNil))) cNil)))) (cCons (cKeep (aDisp (cCons (cTup (cCons (cCon (.str "settle")) (cCons (cCon (.int 1)) cNil))) (cCons (cTup (cCons (cCon (.str "settle")) (cCons (cCon (.int 0)) cNil))) cNil)))) cNil))) (c1 intD (c2 eqD (cCall ja (cCons (cVar 0) (cCons (cCon (.int 6)) cNil))) (cCon (.int 1))))))
  (sSeq (sAsg (gVar 5) (c2 addD (cVar 5) (cVar 12)))
  (sSeq (sAsg (gVar 13) (cTmpSub (aDisp (cCons (cTup (cCons (cCon (.int 0)) (cCons (cCon (.int 0)) cNil))) (cCons (cTup (cCons (cCon (.int 0)) (cCons (c2 min2D (cCon (.int 1)) (cVar 3)) cNil))) (cCons (cTup (cCons (cCall ja (cCons (cVar 0) (cCons (c2 addD (cVar 3) (cCon (.int 1))) cNil))) (cCons (cCall ja (cCons (cVar 0) (cCons (c2 addD (cVar 3) (cCon (.int 1))) cNil))) cNil))) cNil)))) (cCall ja (cCons (cVar 0) (cCons (cCon (.int 3)) cNil)))))
  (sSeq (sIf (tCmpB (c2 eqD (cCall ja (cCons (cVar 0) (cCons (cCon (.int 12)) cNil))) (cCon (.int 1))))
   (sSeq (sAsg (gVar 13) (cTup (cCons (cCall ja (cCons (cVar 0) (cCons (c2 addD (cVar 3) (cCon (.int 2))) cNil))) (cCons (cCall ja (cCons (cVar 0) (cCons (c2 addD (cVar 3) (cCon (.int 2))) cNil))) cNil))))
   sNext)
   sNext)
  (sSeq (sRet (cTup (cCons (cVar 13) (cCons (c1 tupleD (cVar 5)) cNil))))
  sNext)))))))))
@[irreducible] def jz:List D->M D:=runDef 14 jW
def jN : CS :=
  (sSeq (sAsg (gVar 3) (cKeep (aDisp cNil)))
  (sSeq (sAsg (gVar 4) (c2 subsD (cTmpSub (aDisp (cCons (cKeep (aDisp (cCons (cCon (.int 6)) (cCons (cCon (.int 4)) cNil)))) (cCons (cKeep (aDisp (cCons (cCon (.int 8)) (cCons (cCon (.int 6)) cNil)))) cNil))) (c1 intD (c2 eqD (cCall ja (cCons (cVar 0) (cCons (cCon (.int 8)) cNil))) (cCon (.int 1))))) (c2 subD (cVar 1) (cCon (.int 2)))))
  (sSeq (sAsg (gVar 5) (c2 mulD (c2 mulD (cVar 4) (cVar 4)) (cTmpSub (aDisp (cCons (cCon (.int 1)) (cCons (cVar 4) cNil))) (c2 subD (cVar 1) (cCon (.int 2))))))
  (sSeq (sFor (MM.iRng1 (cCall ja (cCons (cVar 0) (cCons (c2 addD (cCon (.int 3)) (c2 mulD (cCon (.int 2)) (c1 intD (c2 eqD (cCall ja (cCons (cVar 0) (cCons (cCon (.int 4)) cNil))) (cCon (.int 0)))))) cNil)))) (gVar 6)
   (sSeq (sAsg (gVar 7) (cCall jr (cCons (cVar 0) (cCons (cVar 2) cNil))))
   (sSeq (sIf (tCmpB (c2 leD (c2 mulD (cVar 5) (c1 lenD (cVar 7))) (cCon (.int 300))))
    (sSeq (sAsg (gVar 5) (c2 mulD (cVar 5) (c1 lenD (cVar 7))))
    (sSeq (sExp (cAppend (cVar 3) (cTup (cCons (cVar 7) (cCons (cCall ja (cCons (cVar 0) (cCons (c1 lenD (cVar 7)) cNil))) cNil)))))
    sNext))
    sNext)
   sNext)))
  (sSeq (sAsg (gVar 8) (cKeep (aComp 1 [0,3,4] (MM.iRng1 (cVar 1)) (gVar 0) tTrue (cCall jz (cCons (cVar 1) (cCons (cVar 2) (cCons (cVar 3) cNil)))))))
  (sSeq (sIf (tCmpB (c2 eqD (cCall ja (cCons (cVar 0) (cCons (cCon (.int 3)) cNil))) (cCon (.int 0))))
   (sSeq (sAsg (gVar 8) (cKeep (aTimes (aDisp (cCons (c2 subsD (cVar 8) (cCon (.int 0))) cNil)) (cVar 1))))
   sNext)
   sNext)
  (sSeq (sRet (cTup (cCons (c1 tupleD (cVar 3)) (cCons (c1 tupleD (cVar 8)) cNil))))
  sNext)))))))
@[irreducible] def jk:List D->M D:=runDef 9 jN
def jU : CS :=
  (sSeq (sRet (cKeep (aComp 1 [0,1] (MM.iRng1 (c1 lenD (c2 subsD (cVar 0) (cCon (.int 1))))) (gVar 0) (tCmpB (c2 eqD (c2 subsD (c2 subsD (c2 subsD (c2 subsD (c2 subsD (cVar 1) (cCon (.int 1))) (cVar 0)) (cCon (.int 1))) (c2 subsD (c2 subsD (cVar 2) (cCon (.int 0))) (cVar 0))) (cCon (.int 0))) (cCon (.str "do")))) (cVar 0))))
  sNext)
@[irreducible] def jd:List D->M D:=runDef 2 jU
def jD : CS :=
  (sSeq (sAsg (gVar 3) (c2 subsD (c2 subsD (c2 subsD (c2 subsD (cVar 0) (cCon (.int 1))) (cVar 2)) (cCon (.int 1))) (c2 subsD (c2 subsD (cVar 1) (cCon (.int 0))) (cVar 2))))
  (sSeq (sIf (tCmpB (c2 eqD (c2 subsD (cVar 3) (cCon (.int 0))) (cCon (.str "settle"))))
   (sSeq (sRet (cVar 1))
   sNext)
   sNext)
  (sSeq (sAsg (gTupD 4 (gsCons (gVar 4) (gsCons (gVar 5) (gsCons (gVar 6) (gsCons (gVar 7) gsNil))))) (cVar 3))
  (sSeq (sAsg (gTupD 2 (gsCons (gVar 8) (gsCons (gVar 9) gsNil))) (c2 subsD (c2 subsD (c2 subsD (c2 subsD (c2 subsD (cVar 0) (cCon (.int 0))) (cVar 5)) (cCon (.int 0))) (c2 subsD (c2 subsD (cVar 1) (cCon (.int 1))) (cVar 5))) (cVar 6)))
  (sSeq (sAsg (gVar 10) (c2 addD (c2 addD (cSliceT (c2 subsD (cVar 1) (cCon (.int 0))) oNone (oSome (cVar 2))) (cTup (cCons (c2 subsD (cVar 7) (cVar 9)) cNil))) (cSliceT (c2 subsD (cVar 1) (cCon (.int 0))) (oSome (c2 addD (cVar 2) (cCon (.int 1)))) oNone)))
  (sSeq (sRet (cTup (cCons (cVar 10) (cCons (c2 addD (c2 addD (cSliceT (c2 subsD (cVar 1) (cCon (.int 1))) oNone (oSome (cVar 5))) (cTup (cCons (cVar 8) cNil))) (cSliceT (c2 subsD (cVar 1) (cCon (.int 1))) (oSome (c2 addD (cVar 5) (cCon (.int 1)))) oNone)) cNil))))
  sNext))))))
@[irreducible] def jb:List D->M D:=runDef 11 jD
def jO : CS :=
  (sSeq (sAsg (gVar 2) (cTmp tupL (aComp 1 [0,1] (MM.iRng1 (c1 lenD (cVar 1))) (gVar 0) tTrue (c2 subsD (c2 subsD (c2 subsD (c2 subsD (cVar 1) (cCon (.int 1))) (cVar 0)) (cCon (.int 0))) (c2 subsD (cVar 2) (cVar 0))))))
  (sSeq (sRet (cTup (cCons (cVar 2) (cCons (cTmp tupL (aComp 2 [] (iSeq (c2 subsD (cVar 0) (cCon (.int 0)))) (gTupD 2 (gsCons (gVar 0) (gsCons (gVar 1) gsNil))) tTrue (cVar 1))) cNil))))
  sNext))
@[irreducible] def jt:List D->M D:=runDef 3 jO
def jH : CS :=
  (sSeq (sAsg (gVar 1) (cKeep (aDisp (cCons (cTup cNil) cNil))))
  (sSeq (sFor (iSeq (c2 subsD (cVar 0) (cCon (.int 1)))) (gVar 2)
   (sSeq (sAsg (gVar 1) (c2 addD (cKeep (aComp 1 [] (iSeq (cVar 1)) (gVar 0) tTrue (c2 addD (cVar 0) (cTup (cCons (cCon (.int 0)) cNil))))) (cKeep (aComp 1 [] (iSeq (cVar 1)) (gVar 0) tTrue (c2 addD (cVar 0) (cTup (cCons (cCon (.int 1)) cNil)))))))
   sNext))
  (sSeq (sRet (c1 sortedD (cVar 1)))
  sNext)))
@[irreducible] def jm:List D->M D:=runDef 3 jH
def jR : CS :=
  (sSeq (sAsg (gVar 2) (cDNew true))
  (sSeq (sAsg (gVar 3) (cKeep (aDisp cNil)))
  (sSeq (sFor (iSeq (cVar 1)) (gVar 4)
   (sSeq (sIf (tCmpB (c2 ninD (cVar 4) (cVar 2)))
    (sSeq (sAsg (gSubD (cVar 2) (cVar 4)) (cTup cNil))
    (sSeq (sExp (cAppend (cVar 3) (cVar 4)))
    sNext))
    sNext)
   sNext))
  (sSeq (sAsg (gVar 5) (cCon (.int 0)))
  (sSeq (sWhile (tCmpB (c2 ltD (cVar 5) (c1 lenD (cVar 3))))
   (sSeq (sAsg (gVar 6) (c2 subsD (cVar 3) (cVar 5)))
   (sSeq (sAsg (gVar 5) (c2 addD (cVar 5) (cCon (.int 1))))
   (sSeq (sFor (iSeq (cCall jd (cCons (cVar 0) (cCons (cVar 6) cNil)))) (gVar 7)
    (sSeq (sAsg (gVar 8) (cCall jb (cCons (cVar 0) (cCons (cVar 6) (cCons (cVar 7) cNil)))))
    (sSeq (sIf (tCmpB (c2 ninD (cVar 8) (cVar 2)))
     (sSeq (sAsg (gSubD (cVar 2) (cVar 8)) (c2 addD (c2 subsD (cVar 2) (cVar 6)) (cTup (cCons (cVar 7) cNil))))
     (sSeq (sExp (cAppend (cVar 3) (cVar 8)))
     sNext))
     sNext)
    sNext)))
   sNext))))
  (sSeq (sRet (cTup (cCons (cVar 3) (cCons (cVar 2) cNil))))
  sNext))))))
@[irreducible] def jA:List D->M D:=runDef 9 jR
def jI : CS :=
  (sSeq (sRet (c2 subsD (cCall jA (cCons (cVar 0) (cCons (cKeep (aComp 1 [0] (iSeq (cCall jm (cCons (cVar 0) cNil))) (gVar 0) tTrue (cCall jt (cCons (cVar 1) (cCons (cVar 0) cNil))))) cNil))) (cCon (.int 0))))
  sNext)
@[irreducible] def jh:List D->M D:=runDef 1 jI
def jT : CS :=
  (sSeq (sRet (cKeep (aComp 1 [0,1] (MM.iRng1 (cVar 2)) (gVar 0) tTrue (c2 subsD (cVar 2) (cCall ja (cCons (cVar 1) (cCons (c1 lenD (cVar 2)) cNil)))))))
  sNext)
@[irreducible] def jo:List D->M D:=runDef 3 jT
def j1 : CS :=
  (sSeq (sAsg (gVar 4) (cDisp2 (cTup (cCons (cVar 2) cNil)) (cCall jb (cCons (cVar 0) (cCons (cVar 1) (cCons (cVar 2) cNil)))) (cTup (cCons (cVar 3) cNil)) (cCall jb (cCons (cVar 0) (cCons (cVar 1) (cCons (cVar 3) cNil))))))
  (sSeq (sAsg (gSubD (cVar 4) (cTup (cCons (cVar 2) (cCons (cVar 3) cNil)))) (cCall jb (cCons (cVar 0) (cCons (c2 subsD (cVar 4) (cTup (cCons (cVar 2) cNil))) (cCons (cVar 3) cNil)))))
  (sSeq (sAsg (gSubD (cVar 4) (cTup (cCons (cVar 3) (cCons (cVar 2) cNil)))) (cCall jb (cCons (cVar 0) (cCons (c2 subsD (cVar 4) (cTup (cCons (cVar 3) cNil))) (cCons (cVar 2) cNil)))))
  (sSeq (sAsg (gVar 5) (cKeep (aDisp cNil)))
  (sSeq (sFor (iSeq (cTup (cCons (cTup (cCons (cVar 2) cNil)) (cCons (cTup (cCons (cVar 2) (cCons (cVar 3) cNil))) cNil)))) (gVar 6)
   (sSeq (sFor (iSeq (cTup (cCons (cTup (cCons (cVar 3) cNil)) (cCons (cTup (cCons (cVar 3) (cCons (cVar 2) cNil))) cNil)))) (gVar 7)
    (sSeq (sAsg (gTupD 2 (gsCons (gVar 8) (gsCons (gVar 9) gsNil))) (cTup (cCons (c2 subsD (cVar 4) (cVar 6)) (cCons (c2 subsD (cVar 4) (cVar 7)) cNil))))
    (sSeq (sAsg (gVar 10) (cKeep (aComp 1 [8,9] (MM.iRng1 (c1 lenD (c2 subsD (cVar 0) (cCon (.int 1))))) (gVar 0) (tCmpB (c2 eqD (c2 subsD (c2 subsD (cVar 1) (cCon (.int 0))) (cVar 0)) (c2 subsD (c2 subsD (cVar 2) (cCon (.int 0))) (cVar 0)))) (cVar 0))))
    (sSeq (sIf (tCmpB (c2 eqD (c2 subsD (cVar 8) (cCon (.int 1))) (c2 subsD (cVar 9) (cCon (.int 1)))))
     (sSeq (sExp (cExtend (cVar 5) (cKeep (aComp 1 [6,7] (iSeq (cVar 10)) (gVar 0) tTrue (cTup (cCons (cVar 1) (cCons (cVar 2) (cCons (cVar 0) cNil))))))))
     sNext)
     sNext)
    sNext))))
   sNext))
  (sSeq (sRet (c1 (refL sortedTL) (cVar 5)))
  sNext))))))
@[irreducible] def jx:List D->M D:=runDef 11 j1
def jQ : CS :=
  (sSeq (sAsg (gVar 3) (cCall jw (cCons (cVar 0) (cCons (cVar 1) (cCons (cVar 2) cNil)))))
  (sSeq (sIf (tCmpB (c2 eqD (c2 subsD (cVar 3) (cCon (.int 0))) (cCon (.str "settle"))))
   (sSeq (sRet (cVar 1))
   sNext)
   sNext)
  (sSeq (sAsg (gVar 4) (c2 subsD (cVar 3) (cCon (.int 1))))
  (sSeq (sAsg (gVar 5) (c2 subsD (cVar 3) (cCon (.int 2))))
  (sSeq (sAsg (gVar 6) (c2 subsD (c2 subsD (c2 subsD (cVar 0) (cCon (.int 0))) (cVar 4)) (cCon (.int 0))))
  (sSeq (sAsg (gVar 7) (c2 subsD (c2 subsD (cVar 1) (cCon (.int 1))) (cVar 4)))
  (sSeq (sAsg (gVar 8) (c2 subsD (c2 subsD (cVar 3) (cCon (.int 3))) (cCall jB (cCons (cVar 6) (cCons (cVar 7) (cCons (cVar 5) cNil))))))
  (sSeq (sRet (cTup (cCons (cCall jg (cCons (c2 subsD (cVar 1) (cCon (.int 0))) (cCons (cVar 2) (cCons (cVar 8) cNil)))) (cCons (cCall jg (cCons (c2 subsD (cVar 1) (cCon (.int 1))) (cCons (cVar 4) (cCons (cCall ji (cCons (cVar 6) (cCons (cVar 7) (cCons (cVar 5) cNil)))) cNil)))) cNil))))
  sNext))))))))
@[irreducible] def ju:List D->M D:=runDef 9 jQ
def j5 : CS :=
  (sSeq (sAsg (gVar 3) (cKeep (aDisp (cCons (cVar 1) cNil))))
  (sSeq (sFor (iSeq (cVar 2)) (gVar 4)
   (sSeq (sExp (cAppend (cVar 3) (cCall ju (cCons (cVar 0) (cCons (c2 subsD (cVar 3) (c1 negD (cCon (.int 1)))) (cCons (cVar 4) cNil))))))
   sNext))
  (sSeq (sRet (cVar 3))
  sNext)))
@[irreducible] def jJ:List D->M D:=runDef 5 j5
def j4 : CS :=
  (sSeq (sAsg (gVar 4) (cKeep (aDisp cNil)))
  (sSeq (sFor (iSeq (cTup (cCons (cTup (cCons (cVar 2) cNil)) (cCons (cTup (cCons (cVar 2) (cCons (cVar 3) cNil))) cNil)))) (gVar 5)
   (sSeq (sFor (iSeq (cTup (cCons (cTup (cCons (cVar 3) cNil)) (cCons (cTup (cCons (cVar 3) (cCons (cVar 2) cNil))) cNil)))) (gVar 6)
    (sSeq (sAsg (gVar 7) (c2 subsD (cCall jJ (cCons (cVar 0) (cCons (cVar 1) (cCons (cVar 5) cNil)))) (c1 negD (cCon (.int 1)))))
    (sSeq (sAsg (gVar 8) (c2 subsD (cCall jJ (cCons (cVar 0) (cCons (cVar 1) (cCons (cVar 6) cNil)))) (c1 negD (cCon (.int 1)))))
    (sSeq (sExp (cExtend (cVar 4) (cKeep (aComp 1 [5,6,7,8] (MM.iRng1 (c1 lenD (c2 subsD (cVar 0) (cCon (.int 1))))) (gVar 0) (tVal (cCall jn (cCons (cVar 3) (cCons (cVar 4) (cCons (cVar 0) cNil))))) (cTup (cCons (cVar 1) (cCons (cVar 2) (cCons (cVar 0) cNil))))))))
    sNext))))
   sNext))
  (sSeq (sRet (cVar 4))
  sNext)))
@[irreducible] def jv:List D->M D:=runDef 9 j4
def j6 : CS :=
  (sSeq (sAsg (gVar 1) (cCall jq (cCons (cVar 0) (cCons (cCon (.int 0)) cNil))))
  (sSeq (sAsg (gVar 2) (cCall jk (cCons (cVar 1) (cCons (c2 addD (cCon (.int 2)) (cCall ja (cCons (cVar 1) (cCons (cCon (.int 2)) cNil)))) (cCons (cKeep (aDisp (cCons (cCon (.str "first")) (cCons (cCon (.str "plain")) (cCons (cCon (.str "swap")) (cCons (cCon (.str "add")) (cCons (cCon (.str "any")) (cCons (cCon (.str "laid")) cNil)))))))) cNil)))))
  (sSeq (sAsg (gVar 3) (cCall jh (cCons (cVar 2) cNil)))
  (sSeq (sAsg (gVar 4) (c2 addD (cKeep (aSlice (cVar 3) oNone (oSome (cCon (.int 2))))) (cCall jo (cCons (cVar 1) (cCons (cVar 3) (cCons (cCon (.int 4)) cNil))))))
  (sSeq (sFor (iTmp (aSlice (cVar 4) oNone (oSome (cCon (.int 4))))) (gVar 5)
   (sSeq (sAsg (gVar 6) (cCall ja (cCons (cVar 1) (cCons (c1 lenD (c2 subsD (cVar 2) (cCon (.int 1)))) cNil))))
   (sSeq (sAsg (gVar 7) (cCall ja (cCons (cVar 1) (cCons (c1 lenD (c2 subsD (c2 subsD (c2 subsD (cVar 2) (cCon (.int 1))) (cVar 6)) (cCon (.int 1)))) cNil))))
   (sSeq (sExp (cAppend (cVar 4) (cTup (cCons (c2 addD (c2 addD (cSliceT (c2 subsD (cVar 5) (cCon (.int 0))) oNone (oSome (cVar 6))) (cTup (cCons (cVar 7) cNil))) (cSliceT (c2 subsD (cVar 5) (cCon (.int 0))) (oSome (c2 addD (cVar 6) (cCon (.int 1)))) oNone)) (cCons (c2 subsD (cVar 5) (cCon (.int 1))) cNil)))))
   sNext))))
  (sSeq (sFor (iSeq (cVar 4)) (gVar 5)
   (sSeq (sAsg (gVar 8) (cCall jd (cCons (cVar 2) (cCons (cVar 5) cNil))))
   (sSeq (sFor (iSeq (cVar 8)) (gVar 9)
    (sSeq (sFor (iTmp (aComp 1 [9] (iSeq (cVar 8)) (gVar 0) (tCmpB (c2 neD (cVar 0) (cVar 1))) (cVar 0))) (gVar 10)
     (sSeq (sAsg (gVar 11) (cCall jx (cCons (cVar 2) (cCons (cVar 5) (cCons (cVar 9) (cCons (cVar 10) cNil))))))
     (sSeq (sAsg (gVar 12) (cCall jv (cCons (cVar 2) (cCons (cVar 5) (cCons (cVar 9) (cCons (cVar 10) cNil))))))
     (sSeq (sIf (tOrB (tNotB (tVal (c1 (isInst ["list"]) (cVar 12)))) (tCmpB (c2 neD (cVar 12) (cVar 11))))
      (sSeq (sRet (cCon (.bl false)))
      sNext)
      sNext)
     (sSeq (sExp (cClear (cVar 12)))
     (sSeq (sIf (tCmpB (c2 neD (cCall jv (cCons (cVar 2) (cCons (cVar 5) (cCons (cVar 9) (cCons (cVar 10) cNil))))) (cVar 11)))
      (sSeq (sRet (cCon (.bl false)))
      sNext)
      sNext)
     sNext))))))
    sNext))
   sNext)))
  (sSeq (sRet (cCon (.bl true)))
  sNext)))))))
@[irreducible] def jK:List D->M D:=runDef 13 j6
open PySem.Spec PyProof.Rows L2
def top (i:Nat):Stmt:=PySem.Challenge.pw_pactboards_k44_twins.main.body.getD i (.Pass ⟨0,0,0,0⟩)
set_option genInjectivity false in
structure Txt (K:PySem.W.Frag) (mg:Str->Option Value):Prop where
 f0:FnAt K mg "next_state" (top 1)
 f1:FnAt K mg "answer" (top 2)
 f2:FnAt K mg "line_at" (top 4)
 f3:FnAt K mg "replaced" (top 6)
 f4:FnAt K mg "same_to" (top 9)
 f5:FnAt K mg "_law_deal" (top 12)
 f6:FnAt K mg "_law_draw" (top 13)
 f7:FnAt K mg "_law_first" (top 14)
 f8:FnAt K mg "_law_plain" (top 15)
 f9:FnAt K mg "_law_swap" (top 16)
 f10:FnAt K mg "_law_add" (top 17)
 f11:FnAt K mg "_law_any_table" (top 18)
 f12:FnAt K mg "_law_plain_table" (top 19)
 f13:FnAt K mg "_law_table" (top 20)
 f14:FnAt K mg "_law_answers" (top 21)
 f15:FnAt K mg "_law_hand" (top 22)
 f16:FnAt K mg "_law_house" (top 23)
 f17:FnAt K mg "_law_free" (top 24)
 f18:FnAt K mg "_law_behind" (top 25)
 f19:FnAt K mg "_law_begin" (top 26)
 f20:FnAt K mg "_law_inputs" (top 27)
 f21:FnAt K mg "_law_from" (top 28)
 f22:FnAt K mg "_law_stands" (top 29)
 f23:FnAt K mg "_law_some" (top 31)
 f24:FnAt K mg "_law_due" (top 32)
 f25:FnAt K mg "behind" (top 5)
 f26:FnAt K mg "run" (top 7)
 f27:FnAt K mg "twins" (top 10)
 f28:FnAt K mg "law" (top 33)
 z:ZOk mg ["int","isinstance","len","list","max","min","range","reversed","sorted","tuple"]
 c:COk K mg []
section
variable {P:Program}{w:World}{K:PySem.W.Frag}{mg:Str->Option Value}{base:Heap}
def cm0:RuC:=rCmp .Lt ltD (fun _=>Qek)
def cm1:RuC:=rCmp .LtE leD (fun _=>Qel)
def cm2:RuC:=rCmp .Gt gtD (fun _=>Qem)
def cm3:RuC:=rCmp .GtE geD (fun _=>Qen)
def cm4:RuC:=rCmp .Eq eqD (fun h=>QfF h)
def cm5:RuC:=rCmp .NotEq neD (fun h=>QfG h)
def cm6:RuC:=rCmp .NotIn ninD (fun h=>QfS h)
def RR:Rules:=⟨[rVar,rInt,rStr,rBl,rCall,rCallK,rTmpSub,rSub,rTup,bMaxT,bTupT,rSorted3,bSorted,bLen,bInt,bTuple,bMin2,bMax2,bIsiList,mAppend,mExtend,mClear,mPop,rSliceT,rKeep,rOp .Add addD (fun _=>QfJ),rOp .Sub subD (fun _=>Qef),rOp .Mult mulD (fun _=>Qeg),rOp .FloorDiv fdivD (fun _=>Qeh),rOp .Mod modD (fun _=>Qei),rOp .Pow powD (fun _=>Qej),cm0.e,cm1.e,cm2.e,cm3.e,cm4.e,cm5.e,cm6.e,rAnd,rNeg,rDNew,rDisp,rDisp2],[lLst,lComp,lTimes,lSlice,lRev],[cm0.t,cm1.t,cm2.t,cm3.t,cm4.t,cm5.t,cm6.t,tAnd,tOr,tNot,tVl],[iRange1,iRange2,iTmpr,iSeqr],[gVr,gTupr,gSubr],[sNmr,sRetr,sIfr,sExpr,sForr,sWhiler,sCompr,sSubr,sTupr,sTupCell]⟩
abbrev hh:List (Nat × Nat × Nat):=[(20,11,1),(20,41,1),(134,17,1),(134,76,1),(135,24,1),(135,64,1),(145,16,2),(183,11,11),(192,31,1),(192,70,1)]
def ge0:List (Str × RF):=[]
theorem gk0 (T:Txt K mg):EnvOk P w K mg base ge0:=Qg5
def ge1:List (Str × RF):=("next_state",⟨3,1,["table","state","deed"],false,ji⟩)::ge0
theorem gk1 (T:Txt K mg):EnvOk P w K mg base ge1:=by
 unfold ge1 ji
 exact Qhb RR (r:=[]) (H:=hh) T.f0 (by nofun) (fun _ _ _ _ _ _=>le3 fun _ _ _=>rfl) (fun z=>nomatch z) (by kernel_rfl) (gk0 T) T.z T.c
def ge2:List (Str × RF):=("answer",⟨3,1,["table","state","deed"],false,jB⟩)::ge1
theorem gk2 (T:Txt K mg):EnvOk P w K mg base ge2:=by
 unfold ge2 jB
 exact Qhb RR (r:=[]) (H:=hh) T.f1 (by nofun) (fun _ _ _ _ _ _=>le3 fun _ _ _=>rfl) (fun z=>nomatch z) (by kernel_rfl) (gk1 T) T.z T.c
def ge3:List (Str × RF):=("line_at",⟨3,1,["house","stand","hand"],false,jw⟩)::ge2
theorem gk3 (T:Txt K mg):EnvOk P w K mg base ge3:=by
 unfold ge3 jw
 exact Qhb RR (r:=[]) (H:=hh) T.f2 (by nofun) (fun _ _ _ _ _ _=>le3 fun _ _ _=>rfl) (fun z=>nomatch z) (by kernel_rfl) (gk2 T) T.z T.c
def ge4:List (Str × RF):=("replaced",⟨3,1,["numbers","place","number"],false,jg⟩)::ge3
theorem gk4 (T:Txt K mg):EnvOk P w K mg base ge4:=by
 unfold ge4 jg
 exact Qhb RR (r:=[]) (H:=hh) T.f3 (by nofun) (fun _ _ _ _ _ _=>le3 fun _ _ _=>rfl) (fun z=>nomatch z) (by kernel_rfl) (gk3 T) T.z T.c
def ge5:List (Str × RF):=("same_to",⟨3,1,["one","other","hand"],false,jn⟩)::ge4
theorem gk5 (T:Txt K mg):EnvOk P w K mg base ge5:=by
 unfold ge5 jn
 exact Qhb RR (r:=[]) (H:=hh) T.f4 (by nofun) (fun _ _ _ _ _ _=>le3 fun _ _ _=>rfl) (fun z=>nomatch z) (by kernel_rfl) (gk4 T) T.z T.c
def ge6:List (Str × RF):=("_law_deal",⟨2,1,["_law_script","_law_base"],false,jq⟩)::ge5
theorem gk6 (T:Txt K mg):EnvOk P w K mg base ge6:=by
 unfold ge6 jq
 exact Qhb RR (r:=["_law_cells","_law_number","_law_cell"]) (H:=hh) T.f5 (by nofun) (fun _ _ _ _ _ _=>le2 fun _ _=>rfl) (fun z=>nomatch z) (by kernel_rfl) (gk5 T) T.z T.c
def ge7:List (Str × RF):=("_law_draw",⟨2,1,["_law_deal_here","_law_many"],false,ja⟩)::ge6
theorem gk7 (T:Txt K mg):EnvOk P w K mg base ge7:=by
 unfold ge7 ja
 exact Qhb RR (r:=["_law_number","_law_one","_law_other"]) (H:=hh) T.f6 (by nofun) (fun _ _ _ _ _ _=>le2 fun _ _=>rfl) (fun z=>nomatch z) (by kernel_rfl) (gk6 T) T.z T.c
def ge8:List (Str × RF):=("_law_first",⟨1,1,["_law_n"],false,jl⟩)::ge7
theorem gk8 (T:Txt K mg):EnvOk P w K mg base ge8:=by
 unfold ge8 jl
 exact Qhb RR (r:=["_law_found"]) (H:=hh) T.f7 (by nofun) (fun _ _ _ _ _ _=>le1 fun _=>rfl) (fun z=>nomatch z) (by kernel_rfl) (gk7 T) T.z T.c
def ge9:List (Str × RF):=("_law_plain",⟨1,1,["_law_n"],false,jj⟩)::ge8
theorem gk9 (T:Txt K mg):EnvOk P w K mg base ge9:=by
 unfold ge9 jj
 exact Qhb RR (r:=[]) (H:=hh) T.f8 (by nofun) (fun _ _ _ _ _ _=>le1 fun _=>rfl) (fun z=>nomatch z) (by kernel_rfl) (gk8 T) T.z T.c
def ge10:List (Str × RF):=("_law_swap",⟨1,1,["_law_n"],false,jp⟩)::ge9
theorem gk10 (T:Txt K mg):EnvOk P w K mg base ge10:=by
 unfold ge10 jp
 exact Qhb RR (r:=[]) (H:=hh) T.f9 (by nofun) (fun _ _ _ _ _ _=>le1 fun _=>rfl) (fun z=>nomatch z) (by kernel_rfl) (gk9 T) T.z T.c
def ge11:List (Str × RF):=("_law_add",⟨1,1,["_law_n"],false,jy⟩)::ge10
theorem gk11 (T:Txt K mg):EnvOk P w K mg base ge11:=by
 unfold ge11 jy
 exact Qhb RR (r:=[]) (H:=hh) T.f10 (by nofun) (fun _ _ _ _ _ _=>le1 fun _=>rfl) (fun z=>nomatch z) (by kernel_rfl) (gk10 T) T.z T.c
def ge12:List (Str × RF):=("_law_any_table",⟨1,2,["_law_deal_here"],false,jf⟩)::ge11
theorem gk12 (T:Txt K mg):EnvOk P w K mg base ge12:=by
 unfold ge12 jf
 exact Qhb RR (r:=["_law_states","_law_deeds","_law_found","_law_state"]) (H:=hh) T.f11 (by nofun) (fun _ _ _ _ _ _=>le1 fun _=>rfl) (fun z=>nomatch z) (by kernel_rfl) (gk11 T) T.z T.c
def ge13:List (Str × RF):=("_law_plain_table",⟨1,2,["_law_deal_here"],false,jc⟩)::ge12
theorem gk13 (T:Txt K mg):EnvOk P w K mg base ge13:=by
 unfold ge13 jc
 exact Qhb RR (r:=["_law_states","_law_rows","_law_deed","_law_looks","_law_laid","_law_state"]) (H:=hh) T.f12 (by nofun) (fun _ _ _ _ _ _=>le1 fun _=>rfl) (fun z=>nomatch z) (by kernel_rfl) (gk12 T) T.z T.c
def ge14:List (Str × RF):=("_law_table",⟨2,3,["_law_deal_here","_law_sorts"],false,jr⟩)::ge13
theorem gk14 (T:Txt K mg):EnvOk P w K mg base ge14:=by
 unfold ge14 jr
 exact Qhb RR (r:=["_law_sort"]) (H:=hh) T.f13 (by nofun) (fun _ _ _ _ _ _=>le2 fun _ _=>rfl) (fun z=>nomatch z) (by kernel_rfl) (gk13 T) T.z T.c
def ge15:List (Str × RF):=("_law_answers",⟨2,1,["_law_table_here","_law_deed"],false,je⟩)::ge14
theorem gk15 (T:Txt K mg):EnvOk P w K mg base ge15:=by
 unfold ge15 je
 exact Qhb RR (r:=[]) (H:=hh) T.f14 (by nofun) (fun _ _ _ _ _ _=>le2 fun _ _=>rfl) (fun z=>nomatch z) (by kernel_rfl) (gk14 T) T.z T.c
def ge16:List (Str × RF):=("_law_hand",⟨3,2,["_law_deal_here","_law_boards","_law_most"],false,jz⟩)::ge15
theorem gk16 (T:Txt K mg):EnvOk P w K mg base ge16:=by
 unfold ge16 jz
 exact Qhb RR (r:=["_law_ahead","_law_sort","_law_lines","_law_k","_law_b","_law_deed","_law_least","_law_goals","_law_told","_law_ends","_law_begins"]) (H:=hh) T.f15 (by nofun) (fun _ _ _ _ _ _=>le3 fun _ _ _=>rfl) (fun z=>nomatch z) (by kernel_rfl) (gk15 T) T.z T.c
def ge17:List (Str × RF):=("_law_house",⟨3,4,["_law_deal_here","_law_hands","_law_sorts"],false,jk⟩)::ge16
theorem gk17 (T:Txt K mg):EnvOk P w K mg base ge17:=by
 unfold ge17 jk
 exact Qhb RR (r:=["_law_boards","_law_most","_law_many","_law_k","_law_table_here","_law_row"]) (H:=hh) T.f16 (by nofun) (fun _ _ _ _ _ _=>le3 fun _ _ _=>rfl) (fun z=>nomatch z) (by kernel_rfl) (gk16 T) T.z T.c
def ge18:List (Str × RF):=("_law_free",⟨2,1,["_law_home","_law_spot"],false,jd⟩)::ge17
theorem gk18 (T:Txt K mg):EnvOk P w K mg base ge18:=by
 unfold ge18 jd
 exact Qhb RR (r:=[]) (H:=hh) T.f17 (by nofun) (fun _ _ _ _ _ _=>le2 fun _ _=>rfl) (fun z=>nomatch z) (by kernel_rfl) (gk17 T) T.z T.c
def ge19:List (Str × RF):=("_law_behind",⟨3,1,["_law_home","_law_spot","_law_hand_here"],false,jb⟩)::ge18
theorem gk19 (T:Txt K mg):EnvOk P w K mg base ge19:=by
 unfold ge19 jb
 exact Qhb RR (r:=["_law_line","_law_word","_law_b","_law_deed","_law_goals","_law_state","_law_told","_law_lines"]) (H:=hh) T.f18 (by nofun) (fun _ _ _ _ _ _=>le3 fun _ _ _=>rfl) (fun z=>nomatch z) (by kernel_rfl) (gk18 T) T.z T.c
def ge20:List (Str × RF):=("_law_begin",⟨2,1,["_law_home","_law_inputs_here"],false,jt⟩)::ge19
theorem gk20 (T:Txt K mg):EnvOk P w K mg base ge20:=by
 unfold ge20 jt
 exact Qhb RR (r:=["_law_lines"]) (H:=hh) T.f19 (by nofun) (fun _ _ _ _ _ _=>le2 fun _ _=>rfl) (fun z=>nomatch z) (by kernel_rfl) (gk19 T) T.z T.c
def ge21:List (Str × RF):=("_law_inputs",⟨1,1,["_law_home"],false,jm⟩)::ge20
theorem gk21 (T:Txt K mg):EnvOk P w K mg base ge21:=by
 unfold ge21 jm
 exact Qhb RR (r:=["_law_found","_law_hand_here"]) (H:=hh) T.f20 (by nofun) (fun _ _ _ _ _ _=>le1 fun _=>rfl) (fun z=>nomatch z) (by kernel_rfl) (gk20 T) T.z T.c
def ge22:List (Str × RF):=("_law_from",⟨2,2,["_law_home","_law_begins"],false,jA⟩)::ge21
theorem gk22 (T:Txt K mg):EnvOk P w K mg base ge22:=by
 unfold ge22 jA
 exact Qhb RR (r:=["_law_ways","_law_order","_law_spot","_law_at","_law_here","_law_hand_here","_law_there"]) (H:=hh) T.f21 (by nofun) (fun _ _ _ _ _ _=>le2 fun _ _=>rfl) (fun z=>nomatch z) (by kernel_rfl) (gk21 T) T.z T.c
def ge23:List (Str × RF):=("_law_stands",⟨1,3,["_law_home"],false,jh⟩)::ge22
theorem gk23 (T:Txt K mg):EnvOk P w K mg base ge23:=by
 unfold ge23 jh
 exact Qhb RR (r:=[]) (H:=hh) T.f22 (by nofun) (fun _ _ _ _ _ _=>le1 fun _=>rfl) (fun z=>nomatch z) (by kernel_rfl) (gk22 T) T.z T.c
def ge24:List (Str × RF):=("_law_some",⟨3,2,["_law_deal_here","_law_stands_here","_law_most"],false,jo⟩)::ge23
theorem gk24 (T:Txt K mg):EnvOk P w K mg base ge24:=by
 unfold ge24 jo
 exact Qhb RR (r:=[]) (H:=hh) T.f23 (by nofun) (fun _ _ _ _ _ _=>le3 fun _ _ _=>rfl) (fun z=>nomatch z) (by kernel_rfl) (gk23 T) T.z T.c
def ge25:List (Str × RF):=("_law_due",⟨4,2,["_law_home","_law_spot","_law_one_hand","_law_other_hand"],false,jx⟩)::ge24
theorem gk25 (T:Txt K mg):EnvOk P w K mg base ge25:=by
 unfold ge25 jx
 exact Qhb RR (r:=["_law_ones","_law_found","_law_one","_law_other","_law_here","_law_there","_law_alike"]) (H:=hh) T.f24 (by nofun) (fun _ _ _ _ _ _=>le4 fun _ _ _ _=>rfl) (fun z=>nomatch z) (by kernel_rfl) (gk24 T) T.z T.c
def ge26:List (Str × RF):=("behind",⟨3,2,["house","stand","hand"],false,ju⟩)::ge25
theorem gk26 (T:Txt K mg):EnvOk P w K mg base ge26:=by
 unfold ge26 ju
 exact Qhb RR (r:=["line","board","deed","table","state","goal"]) (H:=hh) T.f25 (by nofun) (fun _ _ _ _ _ _=>le3 fun _ _ _=>rfl) (fun z=>nomatch z) (by kernel_rfl) (gk25 T) T.z T.c
def ge27:List (Str × RF):=("run",⟨3,3,["house","stand","turns"],false,jJ⟩)::ge26
theorem gk27 (T:Txt K mg):EnvOk P w K mg base ge27:=by
 unfold ge27 jJ
 exact Qhb RR (r:=["stands","hand"]) (H:=hh) T.f26 (by nofun) (fun _ _ _ _ _ _=>le3 fun _ _ _=>rfl) (fun z=>nomatch z) (by kernel_rfl) (gk26 T) T.z T.c
def ge28:List (Str × RF):=("twins",⟨4,4,["house","stand","i","j"],true,jv⟩)::ge27
theorem gk28 (T:Txt K mg):EnvOk P w K mg base ge28:=by
 unfold ge28 jv
 exact Qhb RR (r:=["told","one","other","there","yonder"]) (H:=hh) T.f27 (by nofun) (fun _ _ _ _ _ _=>le4 fun _ _ _ _=>rfl) (fun _ _ _ _ _ _ _ _=>le4 fun _ _ _ _=>.of_eq rfl) (by kernel_rfl) (gk27 T) T.z T.c
theorem j7 {a:Addr}{fd:FuncData} (F:Fun K "law" "law" (top 33) a fd) (T:Txt K mg):FnOk P w K mg base CX0 5 a fd ["_law_script"] (spOf K 1 jK):=by
 unfold jK
 exact Qha RR (r:=["_law_deal_here","_law_home","_law_stands_here","_law_some_here","_law_spot","_law_k","_law_line","_law_hands","_law_one_hand","_law_other_hand","_law_due_here","_law_found"]) (H:=hh) F (by nofun) (by kernel_rfl) (gk28 T) T.z T.c rfl rfl
end
end My
namespace My
open MM
open PySem (Str)
theorem Qix {s:Sto}{n:Nat}{o:MO} (h:s[n]?=some o):n < s.length:=(List.getElem?_eq_some_iff.mp h).1
def dealK (x c:Int) (q:Nat):List (D × D):=[(.str "seed",.int x),(.str "number",.int c),(.str "left",.ref q)]
section
variable {x c y:Int}{q:Nat}
theorem Qiy:lkK (dealK x c q) (.str "seed")=some (.int x):=by simp[lkK,dealK,eqK]
theorem Qiz:lkK (dealK x c q) (.str "number")=some (.int c):=by
 have h:¬ (("seed":Str)="number"):=by decide
 simp[lkK,dealK,eqK,h]
theorem QiA:lkK (dealK x c q) (.str "left")=some (.ref q):=by
 have h:¬ (("seed":Str)="left"):=by decide
 have h2:¬ (("number":Str)="left"):=by decide
 simp[lkK,dealK,eqK,h,h2]
theorem QiB:ptK (dealK x c q) (.str "seed") (.int y)=dealK y c q:=by
 have h:¬ (("number":Str)="seed"):=by decide
 have h2:¬ (("left":Str)="seed"):=by decide
 simp[ptK,dealK,eqK,h,h2]
theorem QiC:ptK (dealK x c q) (.str "number") (.int y)=dealK x y q:=by
 have h:¬ (("seed":Str)="number"):=by decide
 have h2:¬ (("left":Str)="number"):=by decide
 simp[ptK,dealK,eqK,h,h2]
theorem QiD:mgK [] [(.str "seed",.int x),(.str "number",.int c),(.str "left",.ref q)]=dealK x c q:=by
 have h:¬ (("seed":Str)="number"):=by decide
 have h2:¬ (("seed":Str)="left"):=by decide
 have h3:¬ (("number":Str)="left"):=by decide
 simp[mgK,ptK,dealK,eqK,h,h2,h3]
theorem QiE:(dealK x c q).length < lim:=QhG (by simp[dealK])
end
structure PotAt (s:Sto) (p q:Nat):Prop where
 ne:p≠q
 ex:∃ (x c:Int) (cs:List D),s[p]?=some (.dct false (dealK x c q))/\s[q]?=some (.lst cs)/\0<=x/\x < 2147483648/\∀ d∈cs,∃ i:Int,d=.int i
structure Kept (p q:Nat) (s s':Sto):Prop where
 le:s.length<=s'.length
 at_:∀ n,n < s.length->n≠p->n≠q->s'[n]?=s[n]?
section
variable {p q:Nat}{s s1 s2:Sto}{Q:D->Sto->Prop}
theorem Kept.refl:Kept p q s s:=⟨Nat.le_refl _,fun _ _ _ _=>rfl⟩
theorem Kept.trans (h:Kept p q s s1) (k:Kept p q s1 s2):Kept p q s s2:=⟨Nat.le_trans h.le k.le,fun n hn hp hq=>(k.at_ n (Nat.lt_of_lt_of_le hn h.le) hp hq).trans (h.at_ n hn hp hq)⟩
theorem Kept.same {n:Nat}{o:MO} (h:Kept p q s s1) (hp:n≠p) (hq:n≠q) (g:s[n]?=some o):s1[n]?=some o:=(h.at_ n (Qix g) hp hq).trans g
theorem Kept.snoc {o:MO} (h:Kept p q s s1):Kept p q s (s1++[o]):=h.trans ⟨by simp,fun n hn _ _=>List.getElem?_append_left hn⟩
theorem Kept.put {n:Nat}{o:MO} (h:Kept p q s s1) (hn:s.length<=n):Kept p q s (s1.set n o):=
 ⟨by simp;exact h.le,fun m hm hp hq=>by rw[List.getElem?_set_ne (by ac_nf)];exact h.at_ m hm hp hq⟩
theorem PotAt.lt (h:PotAt s p q):p < s.length/\q < s.length:=by obtain⟨x,c,cs,a,b,_⟩:=h.ex;exact⟨Qix a,Qix b⟩
theorem PotAt.snoc {o:MO} (h:PotAt s p q):PotAt (s++[o]) p q:=by
 obtain⟨x,c,cs,a,b,r⟩:=h.ex
 exact⟨h.ne,x,c,cs,by rw[List.getElem?_append_left (Qix a)];exact a,by rw[List.getElem?_append_left (Qix b)];exact b,r⟩
theorem PotAt.put {n:Nat}{o:MO} (h:PotAt s p q) (hp:n≠p) (hq:n≠q):PotAt (s.set n o) p q:=by
 obtain⟨x,c,cs,a,b,r⟩:=h.ex
 exact⟨h.ne,x,c,cs,by rw[List.getElem?_set_ne hp];exact a,by rw[List.getElem?_set_ne hq];exact b,r⟩
theorem QiF {k:Int} (hp:PotAt s p q) (hk:0 < k) (hk2:k < 1073741824) (h:∀ r s',0<=r->r < k->PotAt s' p q->Kept p q s s'->Q (.int r) s'):wp (ja [.dic p,.int k]) Q s:=by
 obtain⟨x,c,cs,e1,e2,hx0,hx1,hcs⟩:=hp.ex
 have hne:=hp.ne
 (simp_arith [ja];simp_arith [jX])
 refine Qib (fun l s'=>l=[some (.dic p),some (.int k),none,none,none]/\∃ c cs,s'[p]?=some (.dct false (dealK x c q))/\s'[q]?=some (.lst cs)/\(∀ d∈cs,∃ i:Int,d=.int i)/\Kept p q s s')
  (fun l s'=>match s'[q]? with
   | some (.lst cs)=>cs.length
   | _=>0) ⟨rfl,c,cs,e1,e2,hcs,Kept.refl⟩ (fun l s' hZ0=>?_)
 obtain⟨el,c,cs,e1,e2,hcs,hk'⟩:=hZ0
 subst el
 have gs:∀ Q,wp (itemK p (.str "seed")) Q s'=Q (.int x) s':=fun Q=>Qie e1 rfl Qiy
 have gn:∀ Q,wp (itemK p (.str "number")) Q s'=Q (.int c) s':=fun Q=>Qie e1 rfl Qiz
 have gl:∀ Q,wp (itemK p (.str "left")) Q s'=Q (.ref q) s':=fun Q=>Qie e1 rfl QiA
 have g2:∀ Q,wp (getL q) Q s'=Q cs s':=fun Q=>Qhu e2
 simp_arith [↓gn,↓gl,↓g2]
 by_cases hc:c=0/\0 < cs.length
 ·obtain⟨hc0,hcl⟩:=hc
  subst hc0
  rw[if_pos rfl,if_pos (by ac_nf)]
  obtain⟨d,hd⟩:∃ d,cs.getLast?=some d:=⟨_,List.getLast?_eq_some_getLast (by intro e;rw[e]at hcl;simp at hcl)⟩
  obtain⟨i,ei⟩:=hcs d (List.mem_of_getLast? hd)
  subst ei
  have q2:∀ es Q,wp (putL q es) Q s'=Q () (s'.set q (.lst es)):=fun es Q=>Qhv e2
  have e3:(s'.set q (.lst cs.dropLast))[p]?=some (.dct false (dealK x 0 q)):=by rw[List.getElem?_set_ne (Ne.symm hne)];exact e1
  have e4:(s'.set q (.lst cs.dropLast))[q]?=some (.lst cs.dropLast):=List.getElem?_set_self (Qix e2)
  have q3:∀ v Q,wp (storeK p (.str "number") v) Q (s'.set q (.lst cs.dropLast))=Q () ((s'.set q (.lst cs.dropLast)).set p (.dct false (ptK (dealK x 0 q) (.str "number") v))):=fun v Q=>Qif e3 rfl QiE
  simp_arith [↓gl,↓g2,hd,↓q2,↓q3,QiC]
  have e5:((s'.set q (.lst cs.dropLast)).set p (.dct false (dealK x i q)))[p]?=some (.dct false (dealK x i q)):=List.getElem?_set_self (Qix e3)
  have e6:((s'.set q (.lst cs.dropLast)).set p (.dct false (dealK x i q)))[q]?=some (.lst cs.dropLast):=by rw[List.getElem?_set_ne hne];exact e4
  refine⟨⟨i,cs.dropLast,e5,e6,fun d hd=>hcs d (List.dropLast_subset _ hd),⟨by simp;exact hk'.le,fun n hn hp' hq'=>?_⟩⟩,?_⟩
  ·rw[List.getElem?_set_ne (Ne.symm hp'),List.getElem?_set_ne (Ne.symm hq')];exact hk'.at_ n hn hp' hq'
  ·rw[e6,e2]
   simp only[List.length_dropLast];ac_nf
 ·have fin : ∀ (A B : Prop), (if c = 0 then (if 0 < (cs.length : Int) then A else B) else B) = B := fun A B => by
    by_cases h1:c=0
    ·rw[if_pos h1,if_neg (by ac_nf)]
    ·rw[if_neg h1]
  rw[fin]
  have q3:∀ v Q,wp (storeK p (.str "number") v) Q s'=Q () (s'.set p (.dct false (ptK (dealK x c q) (.str "number") v))):=fun v Q=>Qif e1 rfl QiE
  have q4:∀ v Q,wp (storeK p (.str "seed") v) Q s'=Q () (s'.set p (.dct false (ptK (dealK x c q) (.str "seed") v))):=fun v Q=>Qif e1 rfl QiE
  have kp:∀ o,Kept p q s (s'.set p o):=fun o=>⟨by simp;exact hk'.le,fun n hn hp' hq'=>by rw[List.getElem?_set_ne (Ne.symm hp')];exact hk'.at_ n hn hp' hq'⟩
  have pt:∀ (x' c':Int),0<=x'->x' < 2147483648->PotAt (s'.set p (.dct false (dealK x' c' q))) p q:=fun x' c' h0 h1=>⟨hne,x',c',cs,List.getElem?_set_self (Qix e1),by rw[List.getElem?_set_ne hne];exact e2,h0,h1,hcs⟩
  have g5:∀ x' Q,wp (itemK p (.str "seed")) Q (s'.set p (.dct false (dealK x' c q)))=Q (.int x') (s'.set p (.dct false (dealK x' c q))):=fun x' Q=>Qie (List.getElem?_set_self (Qix e1)) rfl Qiy
  have m2:∀ a b:Int,0<=b->b < 10000000000->mulOk a b:=fun a b h1 h2=>.inr ⟨by ac_nf,by ac_nf⟩
  by_cases h0:0 < c
  ·rw[if_pos h0]
   simp_arith [↓q3,QiC]
   exact⟨⟨hk,hk2⟩,hk,h _ _ (Int.emod_nonneg _ (by ac_nf)) (Int.emod_lt_of_pos _ hk) (pt _ _ hx0 hx1) (kp _)⟩
  ·rw[if_neg h0]
   simp only[↓x_seq,↓x_asg,↓x_c2,↓x_var,↓x_con,↓x_subsD,↓gs,↓x_mul,↓x_add,↓x_mod,word_snoc]
   refine⟨m2 _ _ (by ac_nf) (by ac_nf),by ac_nf,?_⟩
   have one0:=Int.emod_nonneg (x * 48271 + 7919) (show (2147483647:Int)≠0 by ac_nf)
   have one1:=Int.emod_lt_of_pos (x * 48271 + 7919) (show (0:Int) < 2147483647 by ac_nf)
   generalize (x * 48271 + 7919) % 2147483647=one at one0 one1 ⊢
   have y0:=Int.emod_nonneg (one * 40692 + 104729) (show (2147483399:Int)≠0 by ac_nf)
   have y1:=Int.emod_lt_of_pos (one * 40692 + 104729) (show (0:Int) < 2147483399 by ac_nf)
   simp_arith [↓q4,QiB,↓g5]
   refine⟨m2 _ _ (by ac_nf) (by ac_nf),?_⟩
   generalize (one * 40692 + 104729) % 2147483399=y at y0 y1 ⊢
   refine⟨m2 _ _ (by ac_nf) (by ac_nf),m2 _ _ (by ac_nf) (by ac_nf),m2 _ _ (by ac_nf) (by ac_nf),hk,h _ _ (Int.emod_nonneg _ (by ac_nf)) (Int.emod_lt_of_pos _ hk) (pt _ _ y0 (by ac_nf)) (kp _)⟩
theorem QiG {ns:List Int} (h:∀ p q s',PotAt s' p q->s.length<=p->s.length<=q->Kept p q s s'->Q (.dic p) s'):wp (jq [.lit (ns.map D.int),.int 0]) Q s:=by
 have l0:0<=lim:=Nat.zero_le _
 have m2:∀ a b:Int,0<=b->b < 10000000000->mulOk a b:=fun a b h1 h2=>.inr ⟨by ac_nf,by ac_nf⟩
 have pw:∀ Q s,wp (powD (.int 10) (.int 18)) Q s=Q (.int 1000000000000000000) s:=fun Q s=>by unfold powD;rw[wp_chk,wp_ret];exact propext ⟨fun h=>h.2,fun h=>⟨by decide,h⟩⟩
 generalize (1000000000000000000:Int)=big at pw
 (simp_arith [jq];simp_arith [jS,capt])
 have hcut:∀ d∈cutD (ns.map D.int) (some 0) (some 63),∃ i:Int,d=.int i:=fun d hd=>by
  unfold cutD at hd
  obtain⟨i,_,e⟩:=List.mem_map.mp (List.mem_of_mem_drop (List.mem_of_mem_take hd))
  exact⟨i,e.symm⟩
 have hlen:(cutD (ns.map D.int) (some 0) (some 63)).length<=63:=by
  unfold cutD sIx;simp;ac_nf
 generalize cutD (ns.map D.int) (some 0) (some 63)=cells at hcut hlen
 refine⟨QhF (by ac_nf),?_⟩
 refine Qik (fun d=>∃ i:Int,d=.int i) (fun l=>l.length=1) (fun d=>∃ i:Int,d=.int i) (fun s'=>s=s') (fun _ _=>trivial) rfl rfl hcut (fun d l s' hZ0 hl es=>?_) fun out s' ho hP es=>?_
 ·obtain⟨i,ei⟩:=hZ0
  subst ei
  subst es
  match l,hl with
  | [x0],_=>simp_arith [];exact⟨_,rfl⟩
 ·subst es
  have g:∀ Q:List D->Sto->Prop,wp (getL s.length) Q (s++[.lst out])=Q out (s++[.lst out]):=fun Q=>Qhu (by simp)
  simp_arith [↓g]
  skip
  refine QhH (fun i l s'=>∃ x y4,l=[some (.lit (ns.map D.int)),some (.int 0),some (.ref s.length),some (.int x),y4]/\0<=x/\x < 2147483648/\s'=s++[.lst out]) (fun i l s' ⟨_,_,_,_,_,e⟩=>by subst e;show (s++[MO.lst out])[s.length]?=some (.lst out);simp) ⟨_,_,rfl,?_,?_,rfl⟩ (fun i d l s' hd hZ0=>?_) (fun l s' hZ0=>?_)
  ·ac_nf
  ·ac_nf
  ·obtain⟨x,y4,el,x0,x1,es⟩:=hZ0
   subst el es
   obtain⟨v,ev⟩:=hP d (List.mem_of_getElem? hd)
   subst ev
   simp_arith []
   exact⟨m2 _ _ (by ac_nf) (by ac_nf),_,_,rfl,Int.emod_nonneg _ (by ac_nf),Int.lt_trans (Int.emod_lt_of_pos _ (by ac_nf)) (by ac_nf)⟩
  ·obtain⟨x,y4,el,x0,x1,es⟩:=hZ0
   subst el es
   simp_arith [↓g,↓pw,capt]
   refine⟨QhF (by ac_nf),?_⟩
   refine Qin (fun d=>∃ i:Int,d=.int i) (fun l=>l.length=1) (fun d=>∃ i:Int,d=.int i) (fun s'=>s++[.lst out]=s') (fun s' es=>by subst es;show (s++[MO.lst out])[s.length]?=some (.lst out);simp) rfl rfl hP (fun d l s' hZ0 hl es=>?_) fun o s' hol ho es=>?_
   ·obtain⟨v,ev⟩:=hZ0
    subst ev
    subst es
    match l,hl with
    | [z],_=>
     simp_arith [↓pw]
     by_cases hb:big<=v
     ·rw[if_pos hb];exact⟨_,rfl⟩
     ·rw[if_neg hb];trivial
   ·subst es
    simp_arith [List.zip_cons_cons,List.zip_nil_right,QiD]
    refine h _ _ _ ⟨by simp,x,0,o.reverse,Qii,Qij Qii,x0,x1,fun d hd=>ho d (List.mem_reverse.mp hd)⟩ (by simp<;>ac_nf) (by simp) ((Kept.refl.snoc).snoc.snoc)
end
open PySem (Str)
def IsPr (S:Nat) (d:D):Prop:=∃ a b:Int,d=.tup [.int a,.int b]/\0<=a/\a < S/\0<=b/\b < 4
def IsRow (S n:Nat) (d:D):Prop:=∃ ps,d=.tup ps/\ps.length=n/\∀ p∈ps,IsPr S p
def IsTab (d:D):Prop:=∃ (S n:Nat) (rows:List D),d=.tup rows/\rows.length=S/\1<=S/\S<=4/\1<=n/\n<=4/\∀ r∈rows,IsRow S n r
def tabD (S dn:Nat) (nx un:Nat->Nat->Nat):D:=.tup (upto S fun s=>.tup (upto dn fun d=>.tup [.int (nx s d:Nat),.int (un s d:Nat)]))
def TabOk (S dn:Nat) (nx un:Nat->Nat->Nat):Prop:=1<=S/\S<=4/\1<=dn/\dn<=4/\∀ s d,s < S->d < dn->nx s d < S/\un s d < 4
theorem QiH {t:D} (h:IsTab t):∃ S dn nx un,t=tabD S dn nx un/\TabOk S dn nx un:=by
 obtain⟨S,dn,rows,et,hl,hS1,hS2,hd1,hd2,hr⟩:=h
 have key:∀ s:Nat,∃ p:Nat->Nat × Nat,s < S->rows[s]?=some (.tup (upto dn fun d=>.tup [.int ((p d).1:Nat),.int ((p d).2:Nat)]))/\∀ d,d < dn->(p d).1 < S/\(p d).2 < 4:=by
  intro s
  by_cases hs:s < S
  ·have hlt:s < rows.length:=by ac_nf
   obtain⟨ds,e,hdl,hp⟩:=hr rows[s] (List.getElem_mem hlt)
   have k2:∀ d:Nat,∃ p:Nat × Nat,d < dn->ds[d]?=some (.tup [.int (p.1:Nat),.int (p.2:Nat)])/\p.1 < S/\p.2 < 4:=by
    intro d
    by_cases hd:d < dn
    ·have hdt:d < ds.length:=by ac_nf
     obtain⟨g,u,e2,g0,g1,u0,u9⟩:=hp ds[d] (List.getElem_mem hdt)
     refine⟨(g.toNat,u.toNat),fun _=>⟨?_,by show g.toNat < S;ac_nf,by show u.toNat < 4;ac_nf⟩⟩
     rw[List.getElem?_eq_getElem hdt,e2,Int.toNat_of_nonneg g0,Int.toNat_of_nonneg u0]
    ·exact⟨(0,0),fun h=>(hd h).elim⟩
   refine⟨fun d=>Classical.choose (k2 d),fun _=>⟨?_,fun d hd=>(Classical.choose_spec (k2 d) hd).2⟩⟩
   rw[List.getElem?_eq_getElem hlt,e]
   congr 2
   exact QhW hdl fun d hd=>(Classical.choose_spec (k2 d) hd).1
  ·exact⟨fun _=>(0,0),fun h=>(hs h).elim⟩
 refine⟨S,dn,fun s d=>(Classical.choose (key s) d).1,fun s d=>(Classical.choose (key s) d).2,?_,hS1,hS2,hd1,hd2,fun s d hs hd=>(Classical.choose_spec (key s) hs).2 d hd⟩
 rw[et]
 unfold tabD
 congr 1
 exact QhW hl fun s hs=>(Classical.choose_spec (key s) hs).1
section
variable {p q:Nat}{s s1 s2:Sto}{Q:D->Sto->Prop}
def PK (p q:Nat) (s s':Sto):Prop:=PotAt s' p q/\Kept p q s s'
theorem PK.refl (h:PotAt s p q):PK p q s s:=⟨h,Kept.refl⟩
theorem QiI {k:Int} (hp:PK p q s s1) (hk:0 < k) (hk2:k < 1073741824) (h:∀ r s',0<=r->r < k->PK p q s s'->Kept p q s1 s'->Q (.int r) s'):wp (ja [.dic p,.int k]) Q s1:=
 QiF hp.1 hk hk2 fun r s' r0 r1 hp' k'=>h r s' r0 r1 ⟨hp',hp.2.trans k'⟩ k'
theorem PK.snoc {o:MO} (h:PK p q s s1):PK p q s (s1++[o]):=⟨h.1.snoc,h.2.snoc⟩
theorem PK.put {n:Nat}{o:MO} (h:PK p q s s1) (hn:s.length<=n) (hp:n≠p) (hq:n≠q):PK p q s (s1.set n o):=⟨h.1.put hp hq,h.2.put hn⟩
theorem rngb {m:Int} (h0:0<=m) (h:m<=1000):(-(2 ^ 62)<=m/\m < 2 ^ 62):=by ac_nf
end
open PySem (Str)
section
variable {p q:Nat}{s s1 s2:Sto}{Q:D->Sto->Prop}
theorem toN {r:Int} (h:0<=r):∃ n:Nat,r=n:=⟨r.toNat,(Int.toNat_of_nonneg h).symm⟩
def is1 (n:Nat) (d:D):Prop:=∃ i:Int,1<=i/\i<=n/\d=.int i
theorem QiJ {n:Nat}:∀ d∈rngD 1 n,is1 n d:=fun d hd=>by
 unfold rngD at hd
 obtain⟨i,hi,e⟩:=List.mem_map.mp hd
 have:=List.mem_range.mp hi
 exact⟨1 + (i:Int),by ac_nf,by ac_nf,e.symm⟩
theorem QiK {lo:Int}{n:Nat}:(rngD lo n).length=n:=by simp[rngD]
theorem QiL {n:Nat} (h1:1<=n) (h3:n<=3) (h:∀ t s',IsTab t->Ext s s'->Q t s'):wp (jl [.int n]) Q s:=by
 have e1:((n:Int) + 1 - 1).toNat=n:=by ac_nf
 have l2:2<=lim:=QhF (by ac_nf)
 have l1:1<=lim:=QhF (by ac_nf)
 (simp_arith [jl];simp_arith [jP,capt,e1,QiK])
 refine⟨⟨⟨by ac_nf,by ac_nf⟩,by ac_nf,by ac_nf⟩,QhF (by ac_nf),?_⟩
 refine Qil (is1 n) (IsPr (n + 1)) (fun s'=>s=s') (fun _ _=>trivial) rfl QiJ (fun d s' ⟨i,i1,i2,e⟩ es=>?_) (fun out s' ho hP es=>?_)
 ·subst e es
  simp_arith [l2]
  exact⟨i,i,rfl,by ac_nf,by ac_nf,by ac_nf,by ac_nf⟩
 subst es
 simp_arith [l1,capt,e1,QiK]
 refine⟨⟨⟨by ac_nf,by ac_nf⟩,by ac_nf,by ac_nf⟩,QhF (by ac_nf),?_⟩
 refine Qil (is1 n) (IsRow (n + 1) n) (fun s'=>s++[.lst [.tup out]]=s') (fun _ _=>trivial) rfl QiJ (fun d s' ⟨i,i1,i2,e⟩ es=>?_) (fun rows s' ho2 hP2 es=>?_)
 ·subst e es
  simp_arith [l2,l1,Int.toNat_natCast,Nat.one_mul]
  refine⟨⟨⟨by ac_nf,by ac_nf⟩,QhF (by ac_nf)⟩,_,rfl,by simp,fun x hx=>?_⟩
  have:x=.tup [.int i,.int i]:=by
   obtain⟨l,hl,hx⟩:=List.mem_flatten.mp hx
   rw[List.eq_of_mem_replicate hl]at hx
   exact List.mem_singleton.mp hx
  exact⟨i,i,this,by ac_nf,by ac_nf,by ac_nf,by ac_nf⟩
 subst es
 have ad:∀ Q:D->Sto->Prop,wp (addD (.ref s.length) (.ref (s++[MO.lst [.tup out]]).length)) Q (s++[MO.lst [.tup out]]++[MO.lst rows])=([D.tup out].length + rows.length<=lim/\Q (.ref (s++[MO.lst [.tup out]]++[MO.lst rows]).length) (s++[MO.lst [.tup out]]++[MO.lst rows]++[.lst ([.tup out]++rows)])):=fun Q=>QhK (by simp) (by simp)
 have g:∀ Q:List D->Sto->Prop,wp (getL (s++[MO.lst [D.tup out]]++[MO.lst rows]).length) Q (s++[MO.lst [.tup out]]++[MO.lst rows]++[.lst ([.tup out]++rows)])=Q ([.tup out]++rows) (s++[MO.lst [.tup out]]++[MO.lst rows]++[.lst ([.tup out]++rows)]):=fun Q=>Qhu (by simp)
 rw[QiK]at ho ho2
 simp_arith [↓ad,↓g]
 refine⟨QhF (by ac_nf),h _ _ ⟨n + 1,n,_,rfl,by simp[ho2],by ac_nf,by ac_nf,h1,by ac_nf,fun r hr=>?_⟩ ((((Ext.refl _).snoc _).snoc _).snoc _)⟩
 rcases List.mem_cons.mp hr with e | hr
 ·exact⟨out,e,ho,hP⟩
 ·exact hP2 r hr
theorem QiM {n:Nat} (h1:1<=n) (h3:n<=3) (h:∀ t,IsTab t->Q t s):wp (jj [.int n]) Q s:=by
 have l2:2<=lim:=QhF (by ac_nf)
 have l1:1<=lim:=QhF (by ac_nf)
 (simp_arith [jj];simp_arith [jM,capt,Int.toNat_natCast,QhE])
 refine⟨rngb (by ac_nf) (by ac_nf),QhF (by ac_nf),?_⟩
 refine Qil (isI n) (IsRow n (n + 1)) (fun s'=>s=s') (fun _ _=>trivial) rfl Qim (fun d s' hZ0 es=>?_) (fun rows s' ho hP es=>?_)
 ·obtain⟨i,hi,e⟩:=hZ0
  subst e es
  simp_arith [l2,l1,capt,Int.toNat_natCast,QhE]
  refine⟨rngb (by ac_nf) (by ac_nf),QhF (by ac_nf),?_⟩
  refine Qil (isI n) (IsPr n) (fun s'=>s=s') (fun _ _=>trivial) rfl Qim (fun d s' hZ0 es=>?_) (fun ps s' ho hP es=>?_)
  ·obtain⟨j,hj,e⟩:=hZ0
   subst e es
   simp_arith [l2]
   exact⟨j,0,rfl,by ac_nf,by ac_nf,by ac_nf,by ac_nf⟩
  ·subst es
   rw[QhE]at ho
   simp_arith []
   refine⟨QhF (by ac_nf),_,rfl,by simp[ho],fun x hx=>?_⟩
   rcases List.mem_cons.mp hx with e | hx
   ·exact⟨i,i,e,by ac_nf,by ac_nf,by ac_nf,by ac_nf⟩
   ·exact hP x hx
 ·subst es
  rw[QhE]at ho
  simp_arith []
  exact h _ ⟨n,n + 1,rows,rfl,ho,h1,by ac_nf,by ac_nf,by ac_nf,hP⟩
theorem QiN {n:Nat} (h1:1<=n) (h3:n<=3) (h:∀ t,IsTab t->Q t s):wp (jp [.int n]) Q s:=by
 have l2:2<=lim:=QhF (by ac_nf)
 (simp_arith [jp];simp_arith [jV,capt,Int.toNat_natCast,QhE])
 refine⟨rngb (by ac_nf) (by ac_nf),QhF (by ac_nf),?_⟩
 refine Qil (isI n) (IsRow n n) (fun s'=>s=s') (fun _ _=>trivial) rfl Qim (fun d s' hZ0 es=>?_) (fun rows s' ho hP es=>?_)
 ·obtain⟨i,hi,e⟩:=hZ0
  subst e es
  simp_arith [capt,Int.toNat_natCast,QhE]
  refine⟨rngb (by ac_nf) (by ac_nf),QhF (by ac_nf),?_⟩
  refine Qil (isI n) (IsPr n) (fun s'=>s=s') (fun _ _=>trivial) rfl Qim (fun d s' hZ0 es=>?_) (fun ps s' ho hP es=>?_)
  ·obtain⟨j,hj,e⟩:=hZ0
   subst e es
   simp_arith [l2]
   exact⟨j,i,rfl,by ac_nf,by ac_nf,by ac_nf,by ac_nf⟩
  ·subst es
   rw[QhE]at ho
   simp_arith []
   exact⟨ps,rfl,ho,hP⟩
 ·subst es
  rw[QhE]at ho
  simp_arith []
  exact h _ ⟨n,n,rows,rfl,ho,h1,by ac_nf,by ac_nf,by ac_nf,hP⟩
theorem QiO {n:Nat} (h1:1<=n) (h3:n<=4) (h:∀ t,IsTab t->Q t s):wp (jy [.int n]) Q s:=by
 have l2:2<=lim:=QhF (by ac_nf)
 have l1:1<=lim:=QhF (by ac_nf)
 (simp_arith [jy];simp_arith [j2,capt,Int.toNat_natCast,QhE])
 refine⟨rngb (by ac_nf) (by ac_nf),QhF (by ac_nf),?_⟩
 refine Qil (isI n) (IsRow n 1) (fun s'=>s=s') (fun _ _=>trivial) rfl Qim (fun d s' hZ0 es=>?_) (fun rows s' ho hP es=>?_)
 ·obtain⟨i,hi,e⟩:=hZ0
  subst e es
  simp_arith [l2,l1]
  refine⟨by ac_nf,_,rfl,rfl,fun x hx=>?_⟩
  exact⟨_,_,List.mem_singleton.mp hx,Int.emod_nonneg _ (by ac_nf),Int.emod_lt_of_pos _ (by ac_nf),by ac_nf,by ac_nf⟩
 ·subst es
  rw[QhE]at ho
  simp_arith []
  exact h _ ⟨n,1,rows,rfl,ho,h1,by ac_nf,by ac_nf,by ac_nf,hP⟩
theorem QiP (hp:PK p q s s1) (h:∀ t s',IsTab t->PK p q s s'->Kept p q s1 s'->Q t s'):wp (jf [.dic p]) Q s1:=by
 (simp_arith [jf];simp_arith [jE])
 refine QiI hp (by ac_nf) (by ac_nf) fun r1 t1 a0 a1 h1 w1=>?_
 simp_arith []
 refine QiI h1 (by ac_nf) (by ac_nf) fun r2 t2 b0 b1 h2 w2=>?_
 obtain⟨r1,rfl⟩:=toN a0
 obtain⟨r2,rfl⟩:=toN b0
 have e1:(1 + (r1:Int))=((1 + r1:Nat):Int):=by ac_nf
 have e2:(1 + (r2:Int))=((1 + r2:Nat):Int):=by ac_nf
 simp_arith [e1,e2]
 have m1:1<=1 + r1/\1 + r1<=3:=by ac_nf
 have n1:1<=1 + r2/\1 + r2<=3:=by ac_nf
 generalize 1 + r1=m at m1
 generalize 1 + r2=n at n1
 simp_arith [Nat.zero_le,Int.toNat_natCast]
 refine⟨rngb (by ac_nf) (by ac_nf),?_⟩
 have pl:=h2.1.lt
 have l3:=h2.2.le
 have l4:=hp.2.le
 have l5:=(w1.trans w2).le
 refine QhH (fun i l s'=>∃ rows y4,l=[some (.dic p),some (.int m),some (.int n),some (.ref t2.length),y4]/\s'[t2.length]?=some (.lst rows)/\rows.length=i/\(∀ r∈rows,IsRow m n r)/\PK p q s s'/\Kept p q s1 s') (fun _ _ _ _=>trivial) ⟨[],none,rfl,by simp,rfl,fun r hr=>absurd hr (by simp),h2.snoc,(w1.trans w2).snoc⟩ (fun i d l s' hd hZ0=>?_) (fun l s' hZ0=>?_)
 ·obtain⟨rows,y6,el,g,hl,hr,hk,w⟩:=hZ0
  subst el
  simp_arith [capt,Int.toNat_natCast,QhE]
  refine⟨rngb (by ac_nf) (by ac_nf),QhF (by ac_nf),?_⟩
  refine Qil (isI n) (IsPr m) (fun s'=>s'[t2.length]?=some (.lst rows)/\PK p q s s'/\Kept p q s1 s') (fun _ _=>trivial) ⟨g,hk,w⟩ Qim (fun d s' _ hZ0=>?_) (fun out s' ho hP hZ0=>?_)
  ·obtain⟨g,hk,w⟩:=hZ0
   have l2:2<=lim:=QhF (by ac_nf)
   simp_arith [l2]
   refine QiI hk (by ac_nf) (by ac_nf) fun a s2 a0 a1 hk2 w2=>?_
   simp_arith []
   refine QiI hk2 (by ac_nf) (by ac_nf) fun b s3 b0 b1 hk3 w3=>?_
   simp_arith [l2]
   exact⟨⟨a,b,rfl,a0,a1,b0,by ac_nf⟩,w3.same (by ac_nf) (by ac_nf) (w2.same (by ac_nf) (by ac_nf) g),hk3,(w.trans w2).trans w3⟩
  ·obtain⟨g,hk,w⟩:=hZ0
   have g1:∀ Q,wp (getL t2.length) Q s'=Q rows s':=fun Q=>Qhu g
   have g2:∀ es Q,wp (putL t2.length es) Q s'=Q () (s'.set t2.length (.lst es)):=fun es Q=>Qhv g
   simp_arith [↓g1,↓g2]
   have hi:=(List.getElem?_eq_some_iff.mp hd).1
   rw[QhE]at hi ho
   refine⟨QhG (by ac_nf),_,_,rfl,List.getElem?_set_self (Qix g),by simp[hl],fun r hr'=>?_,hk.put (by ac_nf) (by ac_nf) (by ac_nf),w.put (by ac_nf)⟩
   rcases List.mem_append.mp hr' with hr' | hr'
   ·exact hr r hr'
   ·exact⟨out,List.mem_singleton.mp hr',ho,hP⟩
 ·obtain⟨rows,y6,el,g,hl,hr,hk,w⟩:=hZ0
  subst el
  have g1:∀ Q,wp (getL t2.length) Q s'=Q rows s':=fun Q=>Qhu g
  simp_arith [↓g1]
  rw[QhE]at hl
  exact h _ _ ⟨m,n,rows,rfl,hl,m1.1,by ac_nf,n1.1,by ac_nf,hr⟩ hk w
theorem QiQ (hp:PK p q s s1) (h:∀ t s',IsTab t->PK p q s s'->Kept p q s1 s'->Q t s'):wp (jc [.dic p]) Q s1:=by
 simp_arith [jC,jc]
 refine QiI hp (by ac_nf) (by ac_nf) fun r1 t1 a0 a1 h1 w1=>?_
 obtain⟨r1,rfl⟩:=toN a0
 have e1:(1 + (r1:Int))=((1 + r1:Nat):Int):=by ac_nf
 simp_arith [e1]
 have m1:1<=1 + r1/\1 + r1<=3:=by ac_nf
 generalize 1 + r1=m at m1
 simp_arith [capt,Int.toNat_natCast,QhE]
 have pl:=h1.1.lt
 have l3:=h1.2.le
 have l4:=hp.2.le
 have l5:=w1.le
 refine⟨rngb (by ac_nf) (by ac_nf),QhF (by ac_nf),?_⟩
 refine QhB (fun i out s'=>out.length=i/\(∀ k,k < i->out[k]?=some (.ref (t1.length + k)))/\s'.length=t1.length + i/\(∀ k,k < i->s'[t1.length + k]?=some (.lst []))/\PK p q s s'/\Kept p q s1 s') (fun _ _ _ _=>trivial) ⟨rfl,fun k hk=>absurd hk (Nat.not_lt_zero _),rfl,fun k hk=>absurd hk (Nat.not_lt_zero _),h1,w1⟩ (fun i d out s' hd ⟨o1,o2,o3,o4,o5,o6⟩=>?_) (fun rl s' ⟨o1,o2,o3,o4,o5,o6⟩=>?_)
 ·simp_arith [Nat.zero_le]
  refine⟨by simp[o1],fun k hk=>?_,by simp[o3];ac_nf,fun k hk=>?_,o5.snoc,o6.snoc⟩
  ·by_cases e:k=i
   ·subst e;rw[<- o1,Qii,o1,o3]
   ·exact Qij (o2 k (by ac_nf))
  ·by_cases e:k=i
   ·subst e;rw[<- o3,Qii]
   ·exact Qij (o4 k (by ac_nf))
 rw[QhE]at o1 o2 o3 o4
 simp_arith []
 refine QiI o5.snoc (by ac_nf) (by ac_nf) fun r2 t2 b0 b1 h2 w2=>?_
 obtain⟨r2,rfl⟩:=toN b0
 have e2:(1 + (r2:Int))=((1 + r2:Nat):Int):=by ac_nf
 simp_arith [e2]
 have n1:1<=1 + r2/\1 + r2<=4:=by ac_nf
 generalize 1 + r2=n at n1
 simp_arith [Int.toNat_natCast]
 refine⟨rngb (by ac_nf) (by ac_nf),?_⟩
 have lt2:s'.length < t2.length:=by have:=w2.le;simp at this;ac_nf
 have start:t2[s'.length]?=some (.lst rl)/\(∀ k,k < m->∃ ps,t2[t1.length + k]?=some (.lst ps)/\ps.length=0/\∀ x∈ps,IsPr m x)/\PK p q s t2/\Kept p q s1 t2:=by
  have w3:Kept p q s1 t2:=(o6.snoc (o:=.lst rl)).trans w2
  exact⟨w2.same (by ac_nf) (by ac_nf) Qii,fun k hk=>⟨[],w2.same (by ac_nf) (by ac_nf) (Qij (o4 k hk)),rfl,fun x hx=>absurd hx (by simp)⟩,h2,w3⟩
 have up:∀ {j:Nat->Nat}{u v:Sto},(u[s'.length]?=some (.lst rl)/\(∀ k,k < m->∃ ps,u[t1.length + k]?=some (.lst ps)/\ps.length=j k/\∀ x∈ps,IsPr m x)/\PK p q s u/\Kept p q s1 u)->Kept p q u v->PotAt v p q->(v[s'.length]?=some (.lst rl)/\(∀ k,k < m->∃ ps,v[t1.length + k]?=some (.lst ps)/\ps.length=j k/\∀ x∈ps,IsPr m x)/\PK p q s v/\Kept p q s1 v):=fun pq112 w hp=>by obtain⟨a,b,c,d⟩:=pq112;exact⟨w.same (by ac_nf) (by ac_nf) a,fun k hk=>by
  obtain⟨ps,g,x⟩:=b k hk
  exact⟨ps,w.same (by ac_nf) (by ac_nf) g,x⟩,⟨hp,c.2.trans w⟩,d.trans w⟩
 have hnr:∀ k,k < m->t1.length + k≠s'.length:=fun k hk=>by ac_nf
 have hn1:s'.length≠p/\s'.length≠q:=by ac_nf
 generalize s'.length=nr at lt2 start up hnr hn1 ⊢
 clear w2 h2
 refine QhH (fun i l u=>∃ y3 y4 y5 y6,l=[some (.dic p),some (.int m),some (.ref nr),y3,y4,y5,y6]/\u[nr]?=some (.lst rl)/\(∀ k,k < m->∃ ps,u[t1.length + k]?=some (.lst ps)/\ps.length=(fun _=>i) k/\∀ x∈ps,IsPr m x)/\PK p q s u/\Kept p q s1 u) (fun _ _ _ _=>trivial) ⟨_,_,_,_,rfl,start⟩ (fun i d l u hd hZ0=>?_) (fun l u hZ0=>?_)
 ·obtain⟨y3,y4,y5,y6,el,hr⟩:=hZ0
  subst el
  have hi:=(List.getElem?_eq_some_iff.mp hd).1
  rw[QhE]at hi
  simp_arith []
  refine QiI hr.2.2.1 (by ac_nf) (by ac_nf) fun lk u2 c0 c1 hk2 w2=>?_
  have hr2:=up (j:=fun _=>i) hr w2 hk2.1
  simp_arith []
  refine QiI hr2.2.2.1 (by ac_nf) (by ac_nf) fun ld u3 d0 d1 hk3 w3=>?_
  have hr3:=up (j:=fun _=>i) hr2 w3 hk3.1
  simp_arith [Int.toNat_natCast]
  refine⟨rngb (by ac_nf) (by ac_nf),?_⟩
  generalize (lk == 0)=lb
  refine QhH (fun j l u=>∃ y6,l=[some (.dic p),some (.int m),some (.ref nr),some d,some (.bl lb),some (.int ld),y6]/\u[nr]?=some (.lst rl)/\(∀ k,k < m->∃ ps,u[t1.length + k]?=some (.lst ps)/\ps.length=(fun k=>if k < j then i + 1 else i) k/\∀ x∈ps,IsPr m x)/\PK p q s u/\Kept p q s1 u) (fun _ _ _ _=>trivial)
   ⟨_,rfl,hr3.1,fun k hk=>by obtain⟨ps,g,x⟩:=hr3.2.1 k hk;exact⟨ps,g,by simp;exact x.1,x.2⟩,hr3.2.2.1,hr3.2.2.2⟩ (fun j e l u hje hZ0=>?_) (fun l u hZ0=>?_)
  ·obtain⟨y6,el,ga,gb,gc,gd⟩:=hZ0
   subst el
   obtain⟨hj,ee⟩:=QhD hje
   subst ee
   have l2:2<=lim:=QhF (by ac_nf)
   have g1:∀ Q,wp (getL nr) Q u=Q rl u:=fun Q=>Qhu ga
   have g0:∀ Q:D->Sto->Prop,wp (itemD rl j) Q u=Q (.ref (t1.length + j)) u:=fun Q=>QhL (o2 j hj)
   simp_arith [↓g1,↓g0,l2]
   refine QiI gc (by ac_nf) (by ac_nf) fun an v f0 f1 hkv wv=>?_
   obtain⟨ps,g,x1,x2⟩:=gb j hj
   have x1':ps.length=i:=by simpa using x1
   have gv:=wv.same (by ac_nf) (by ac_nf) g
   have g3:∀ Q,wp (getL (t1.length + j)) Q v=Q ps v:=fun Q=>Qhu gv
   have g4:∀ es Q,wp (putL (t1.length + j) es) Q v=Q () (v.set (t1.length + j) (.lst es)):=fun es Q=>Qhv gv
   have fin:∀ x,IsPr m x->ps.length < lim/\(v.set (t1.length + j) (.lst (ps++[x])))[nr]?=some (.lst rl)/\(∀ k,k < m->∃ ps',(v.set (t1.length + j) (.lst (ps++[x])))[t1.length + k]?=some (.lst ps')/\ps'.length=(fun k=>if k < j + 1 then i + 1 else i) k/\∀ x∈ps',IsPr m x)/\PK p q s (v.set (t1.length + j) (.lst (ps++[x])))/\Kept p q s1 (v.set (t1.length + j) (.lst (ps++[x]))):=fun x hx=>by
    have hne:t1.length + j≠nr:=hnr j hj
    refine⟨QhG (by ac_nf),?_,fun k hk=>?_,hkv.put (by ac_nf) (by ac_nf) (by ac_nf),(gd.trans wv).put (by ac_nf)⟩
    ·rw[List.getElem?_set_ne hne];exact wv.same (by ac_nf) (by ac_nf) ga
    ·by_cases ek:k=j
     ·subst ek
      refine⟨_,List.getElem?_set_self (Qix gv),by simp[x1'],fun z hz=>?_⟩
      rcases List.mem_append.mp hz with hz | hz
      ·exact x2 z hz
      ·rw[List.mem_singleton.mp hz];exact hx
     ·obtain⟨ps',g',z1,z2⟩:=gb k hk
      refine⟨ps',by rw[List.getElem?_set_ne (by ac_nf)];exact wv.same (by ac_nf) (by ac_nf) g',?_,z2⟩
      rw[z1]
      dsimp only
      by_cases hkj:k < j
      ·rw[if_pos hkj,if_pos (by ac_nf)]
      ·rw[if_neg hkj,if_neg (by ac_nf)]
   cases lb with
   | false=>
    simp_arith [l2,↓g3,↓g4,Bool.false_eq_true]
    obtain⟨z1,z2⟩:=fin (.tup [.int ld,.int 0]) ⟨ld,0,rfl,d0,d1,by ac_nf,by ac_nf⟩
    exact⟨z1,_,rfl,z2⟩
   | true=>
    simp_arith [l2,↓g3,↓g4]
    obtain⟨z1,z2⟩:=fin (.tup [.int j,.int an]) ⟨j,an,rfl,by ac_nf,by ac_nf,f0,by ac_nf⟩
    exact⟨z1,_,rfl,z2⟩
  ·obtain⟨y6,el,ga,gb,gc,gd⟩:=hZ0
   subst el
   rw[QhE]at gb
   simp_arith []
   exact⟨_,_,_,_,rfl,ga,fun k hk=>by obtain⟨ps,g,x1,x2⟩:=gb k hk;exact⟨ps,g,by simpa [hk] using x1,x2⟩,gc,gd⟩
 ·obtain⟨y3,y4,y5,y6,el,hr⟩:=hZ0
  subst el
  rw[QhE]at hr
  obtain⟨ga,gb,gc,gd⟩:=hr
  have g1:∀ Q,wp (getL nr) Q u=Q rl u:=fun Q=>Qhu ga
  simp_arith [↓g1,capt,o1]
  refine⟨QhF (by ac_nf),?_⟩
  refine Qil (fun r=>∃ k,k < m/\r=.ref (t1.length + k)) (IsRow m n) (fun v=>u=v) (fun v e=>by subst e;exact ga) rfl (fun r hr=>by
   obtain⟨i,hi⟩:=List.getElem?_of_mem hr
   have hl:=(List.getElem?_eq_some_iff.mp hi).1
   rw[o2 i (by ac_nf)]at hi
   exact⟨i,by ac_nf,(Option.some.inj hi).symm⟩) (fun r v ⟨k,hk,e⟩ es=>?_) (fun out v ho hP es=>?_)
  ·subst e es
   obtain⟨ps,g,x1,x2⟩:=gb k hk
   have g2:∀ Q,wp (getL (t1.length + k)) Q u=Q ps u:=fun Q=>Qhu g
   simp_arith [↓g2]
   exact⟨ps,rfl,x1,x2⟩
  ·subst es
   simp_arith []
   exact h _ _ ⟨m,n,out,rfl,by ac_nf,m1.1,by ac_nf,n1.1,n1.2,hP⟩ gc gd
theorem Kept.ext {s1 s2:Sto} (h:Ext s1 s2):Kept p q s1 s2:=by
 obtain⟨t,e⟩:=h
 exact⟨by rw[e];simp,fun n hn _ _=>by rw[e,List.getElem?_append_left hn]⟩
theorem PotAt.ext {s1 s2:Sto} (h:Ext s1 s2) (k:PotAt s1 p q):PotAt s2 p q:=by
 obtain⟨x,c,cs,a,b,r⟩:=k.ex
 exact⟨k.ne,x,c,cs,h.at_ a,h.at_ b,r⟩
theorem QiR {nb:Nat}{sorts:List Str} (hp:PK p q s s1) (hg:s1[nb]?=some (.lst (sorts.map D.str))) (hnp:nb≠p) (hnq:nb≠q) (hl1:1<=sorts.length) (hl2:sorts.length<=100) (h:∀ t s',IsTab t->PK p q s s'->Kept p q s1 s'->Q t s'):wp (jr [.dic p,.ref nb]) Q s1:=by
 have g1:∀ Q,wp (getL nb) Q s1=Q (sorts.map D.str) s1:=fun Q=>Qhu hg
 (simp_arith [jr];simp_arith [jL,↓g1,List.length_map])
 refine QiI hp (by ac_nf) (by ac_nf) fun r t1 a0 a1 h1 w1=>?_
 obtain⟨r,rfl⟩:=toN a0
 have hr:r < sorts.length:=by ac_nf
 have g2:∀ Q,wp (getL nb) Q t1=Q (sorts.map D.str) t1:=fun Q=>Qhu (w1.same hnp hnq hg)
 have g3:∀ (Q:D->Sto->Prop) s,wp (itemD (sorts.map D.str) r) Q s=Q (.str sorts[r]) s:=fun Q s=>by rw[QhL (d:=.str sorts[r]) (by rw[List.getElem?_map,List.getElem?_eq_getElem hr];rfl)]
 simp_arith [↓g2,↓g3]
 generalize sorts[r]=x
 have go : ∀ (g : List D -> M D) (l : Loc) (k : Int), 0 < k -> k <= 4 -> (∀ (n : Nat) (R : D -> Sto -> Prop) s2, 1 <= n -> n <= k -> (∀ t s3, IsTab t -> Ext s2 s3 -> R t s3) -> wp (g [.int n]) R s2) ->
   wp (ja [.dic p,.int k]) (fun y s'=>wp (addD (.int 1) y) (fun x s'=>wp (cNil l) (fun xs s''=>wp (g (x::xs)) (fun d s'=>wp (flwD (.ret d)) Q s') s'') s') s') t1:=fun g l k k0 k1 hg=>by
  refine QiI h1 k0 (by ac_nf) fun r t2 b0 b1 h2 w2=>?_
  obtain⟨n,rfl⟩:=toN b0
  simp_arith []
  have e:(1:Int) + (n:Int)=((1 + n:Nat):Int):=by ac_nf
  rw[e]
  exact hg (1 + n) _ t2 (by ac_nf) (by ac_nf) fun t s3 ht hx=>by
   simp_arith []
   exact h t s3 ht ⟨h2.1.ext hx,h2.2.trans (Kept.ext hx)⟩ ((w1.trans w2).trans (Kept.ext hx))
 by_cases c1:x=("first":Str)
 ·rw[if_pos c1]
  exact go jl _ 3 (by ac_nf) (by ac_nf) fun n R s2 n0 n1 hR=>QiL n0 (by ac_nf) hR
 rw[if_neg c1]
 by_cases c2:x=("plain":Str)
 ·rw[if_pos c2]
  exact go jj _ 3 (by ac_nf) (by ac_nf) fun n R s2 n0 n1 hR=>QiM n0 (by ac_nf) fun t ht=>hR t s2 ht (Ext.refl _)
 rw[if_neg c2]
 by_cases c3:x=("swap":Str)
 ·rw[if_pos c3]
  exact go jp _ 3 (by ac_nf) (by ac_nf) fun n R s2 n0 n1 hR=>QiN n0 (by ac_nf) fun t ht=>hR t s2 ht (Ext.refl _)
 rw[if_neg c3]
 by_cases c4:x=("add":Str)
 ·rw[if_pos c4]
  exact go jy _ 4 (by ac_nf) (by ac_nf) fun n R s2 n0 n1 hR=>QiO n0 (by ac_nf) fun t ht=>hR t s2 ht (Ext.refl _)
 rw[if_neg c4]
 by_cases c5:x=("laid":Str)
 ·rw[if_pos c5]
  exact QiQ h1 fun t s' ht hk w=>by simp_arith [];exact h t s' ht hk (w1.trans w)
 rw[if_neg c5]
 exact QiP h1 fun t s' ht hk w=>by simp_arith [];exact h t s' ht hk (w1.trans w)
end
open PySem (Str)
structure Bd where
 S:Nat
 dn:Nat
 nx:Nat->Nat->Nat
 un:Nat->Nat->Nat
 st:Nat
inductive Ln where
 | settle (v:Nat)
 | act (b d:Nat) (gs:List Nat)
structure Hd where
 b0:Nat
 b1:Nat
 lines:List Ln
structure Hs where
 boards:List Bd
 hands:List Hd
structure Sd where
 ls:List Nat
 ss:List Nat
 deriving DecidableEq
def natD (n:Nat):D:=.int (n:Int)
def bdD (b:Bd):D:=.tup [tabD b.S b.dn b.nx b.un,natD b.st]
def lnD:Ln->D
 | .settle v=>.tup [.str "settle",natD v]
 | .act b d gs=>.tup [.str "do",natD b,natD d,.tup (gs.map natD)]
def hdD (h:Hd):D:=.tup [.tup [natD h.b0,natD h.b1],.tup (h.lines.map lnD)]
def hsD (h:Hs):D:=.tup [.tup (h.boards.map bdD),.tup (h.hands.map hdD)]
def sdD (s:Sd):D:=.tup [.tup (s.ls.map natD),.tup (s.ss.map natD)]
def BdOk (b:Bd):Prop:=TabOk b.S b.dn b.nx b.un/\b.st < b.S
def LnOk (bs:List Bd) (m:Nat):Ln->Prop
 | .settle v=>v < 2
 | .act b d gs=>∃ bd,bs[b]?=some bd/\d < bd.dn/\gs.length=1 + mx (bd.un · d) bd.S/\∀ g∈gs,g < m
def HdOk (bs:List Bd) (h:Hd):Prop:=h.b0 < h.lines.length/\h.b1 < h.lines.length/\h.lines.length<=12/\∀ l∈h.lines,LnOk bs h.lines.length l
def HsOk (h:Hs):Prop:=h.boards.length<=7/\(∀ b∈h.boards,BdOk b)/\2<=h.hands.length/\h.hands.length<=3/\∀ x∈h.hands,HdOk h.boards x
def SdOk (h:Hs) (s:Sd):Prop:=s.ls.length=h.hands.length/\s.ss.length=h.boards.length/\(∀ (k:Nat) hd l,h.hands[k]?=some hd->s.ls[k]?=some l->l < hd.lines.length)/\∀ (b:Nat) bd x,h.boards[b]?=some bd->s.ss[b]?=some x->x < bd.S
def sts:List Bd->Nat
 | []=>1
 | b::bs=>b.S * sts bs
theorem QiS:∀ (bs:List Bd) (b:Bd),sts (bs++[b])=sts bs * b.S
 | [],b=>by simp[sts]
 | c::bs,b=>by
  show c.S * sts (bs++[b])=c.S * sts bs * b.S
  rw[QiS bs b,Nat.mul_assoc]
section
variable {p q:Nat}{s s1 s2:Sto}{Q:D->Sto->Prop}
theorem QiT {S n:Nat}{nx un:Nat->Nat->Nat}:wp (lenD (tabD S n nx un)) Q s=Q (.int S) s:=by unfold tabD;rw[x_lenT,QhU]
theorem QiU {S n a:Nat}{nx un:Nat->Nat->Nat} (h:a < S):wp (subsD (tabD S n nx un) (.int a)) Q s=Q (.tup (upto n fun d=>.tup [.int (nx a d:Nat),.int (un a d:Nat)])) s:=by unfold tabD;rw[x_subsT,Qh2 h]
theorem QiV {S n:Nat}{nx un:Nat->Nat->Nat} (h:0 < S):wp (subsD (tabD S n nx un) (.int 0)) Q s=Q (.tup (upto n fun d=>.tup [.int (nx 0 d:Nat),.int (un 0 d:Nat)])) s:=by unfold tabD;rw[x_subsT,Qh3 h]
theorem QiW {S n d:Nat}{nx un:Nat->Nat->Nat} (ok:TabOk S n nx un) (hd:d < n):wp (je [tabD S n nx un,.int d]) Q s=Q (.int ((1 + mx (un · d) S:Nat):Int)) s:=by
 have hS:=ok.1
 have hS4:=ok.2.1
 have l1:S<=lim:=QhF (by ac_nf)
 have mu:∀ A s,wp (collect (gVar 0) tTrue (c2 subsD (c2 subsD (cVar 0) (cVar 1)) (cCon (.int 1))) anySt (upto S fun s=>.tup (upto n fun d=>D.tup [.int (nx s d:Nat),.int (un s d:Nat)])) [none,some (.int d)]) A s=A (upto S fun i=>.int (un i d:Nat)) s:=fun A s=>
  Qh5 Qh4 fun i hi Q=>by simp_arith [↓Qh2 hd]
 have m2:∀ (Q:D->Sto->Prop) s,wp (maxD (upto S fun i=>.int (un i d:Nat))) Q s=Q (.int (mx (un · d) S:Nat)) s:=fun Q s=>Qh8 (f:=(un · d)) (by ac_nf)
 have e:(1 + ((mx (un · d) S:Nat):Int))=((1 + mx (un · d) S:Nat):Int):=by ac_nf
 unfold tabD
 (simp_arith [je];simp_arith [jF,capt,QhU,l1,↓mu,↓m2,e])
end
open PySem (Str)
section
variable {p q:Nat}{s s1 s2:Sto}{Q:D->Sto->Prop}
def LnsOk (bs:List Bd) (m:Nat) (d:D):Prop:=∃ l,d=lnD l/\LnOk bs m l
theorem QiX {bs:List Bd}{m:Nat}:∀ {ds:List D},(∀ d∈ds,LnsOk bs m d)->∃ ls:List Ln,ds=ls.map lnD/\∀ l∈ls,LnOk bs m l
 | [],_=>⟨[],rfl,fun l h=>absurd h (by simp)⟩
 | d::ds,h=>by
  obtain⟨l,e,hl⟩:=h d (by simp)
  obtain⟨ls,e2,h2⟩:=QiX (ds:=ds) fun x hx=>h x (by simp[hx])
  refine⟨l::ls,by rw[e,e2];rfl,fun x hx=>?_⟩
  rcases List.mem_cons.mp hx with hx | hx
  ·rw[hx];exact hl
  ·exact h2 x hx
theorem QiY {P:Nat->Prop}:∀ {ds:List D},(∀ d∈ds,∃ n:Nat,d=natD n/\P n)->∃ ns:List Nat,ds=ns.map natD/\∀ n∈ns,P n
 | [],_=>⟨[],rfl,fun l h=>absurd h (by simp)⟩
 | d::ds,h=>by
  obtain⟨l,e,hl⟩:=h d (by simp)
  obtain⟨ls,e2,h2⟩:=QiY (ds:=ds) fun x hx=>h x (by simp[hx])
  refine⟨l::ls,by rw[e,e2];rfl,fun x hx=>?_⟩
  rcases List.mem_cons.mp hx with hx | hx
  ·rw[hx];exact hl
  ·exact h2 x hx
theorem QiZ {nb most : Nat} {bs : List Bd} (hp : PK p q s s1) (hg : s1[nb]? = some (.lst (bs.map bdD))) (hnp : nb ≠ p) (hnq : nb ≠ q) (hb : ∀ b ∈ bs, BdOk b) (hbl : bs.length <= 7) (hm1 : 2 <= most) (hm2 : most <= 12)
  (h:∀ hd s',HdOk bs hd->hd.lines.length<=most->PK p q s s'->Kept p q s1 s'->Q (hdD hd) s'):wp (jz [.dic p,.ref nb,.int most]) Q s1:=by
 have g1:∀ Q,wp (getL nb) Q s1=Q (bs.map bdD) s1:=fun Q=>Qhu hg
 simp_arith [jW,jz]
 refine QiI hp (by ac_nf) (by ac_nf) fun r t1 a0 a1 h1 w1=>?_
 have g2:∀ Q,wp (getL nb) Q t1=Q (bs.map bdD) t1:=fun Q=>Qhu (w1.same hnp hnq hg)
 simp_arith [↓g2,List.length_map]
 obtain⟨ah,hah,hah2,hah3⟩:∃ ah:Nat,(r * (if (0:Int) < (bs.length:Int) then 1 else 0))=(ah:Int)/\ah + 2<=most/\(0 < ah->0 < bs.length):=by
  by_cases hz:(0:Int) < (bs.length:Int)
  ·rw[if_pos hz];exact⟨r.toNat,by ac_nf,by ac_nf,fun _=>by ac_nf⟩
  ·rw[if_neg hz];exact⟨0,by ac_nf,by ac_nf,fun h=>by ac_nf⟩
 rw[hah]
 refine⟨.inr (by by_cases hz:(0:Int) < (bs.length:Int)<;>simp only[hz,if_true,if_false]<;>ac_nf),?_⟩
 refine QiI h1 (by ac_nf) (by ac_nf) fun so t2 b0 b1 h2 w2=>?_
 obtain⟨so,rfl⟩:=toN b0
 simp_arith [Nat.zero_le,Int.toNat_natCast]
 refine⟨rngb (by ac_nf) (by ac_nf),?_⟩
 have w12:=w1.trans w2
 have pl:=h2.1.lt
 have l2:=h2.2.le
 have ls1:=hp.2.le
 have lw:=w12.le
 have gb:=w12.same hnp hnq hg
 have lnb:=Qix hg
 refine QhH (fun i l s'=>∃ (rows:List D) (y6 y7 y8 y9 y10 y11:Option D),l=[some (.dic p),some (.ref nb),some (.int most),some (.int ah),some (.int so),some (.ref t2.length),y6,y7,y8,y9,y10,y11,none,none]/\s'[t2.length]?=some (.lst rows)/\rows.length=i/\(∀ r∈rows,LnsOk bs (ah + 2) r)/\PK p q s s'/\Kept p q s1 s') (fun _ _ _ _=>trivial)
  ⟨[],none,none,none,none,none,none,rfl,Qii,rfl,fun r hr=>absurd hr (by simp),h2.snoc,w12.snoc⟩ (fun i d l s' hd hZ0=>?_) (fun l s' hZ0=>?_)
 ·obtain⟨rows,y6,y7,y8,y9,y10,y11,el,g,hl,hr,hk,w⟩:=hZ0
  subst el
  obtain⟨hi,ed⟩:=QhD hd
  subst ed
  have hbp:=hah3 (by ac_nf)
  have q1:∀ Q,wp (getL nb) Q s'=Q (bs.map bdD) s':=fun Q=>Qhu (w.same hnp hnq hg)
  simp_arith [↓q1,List.length_map]
  refine QiI hk (by ac_nf) (by ac_nf) fun bi s2 bi0 bi1 hk2 v2=>?_
  obtain⟨b,rfl⟩:=toN bi0
  have hb1:b < bs.length:=by ac_nf
  have hat:bs[b]?=some bs[b]:=List.getElem?_eq_getElem hb1
  obtain⟨ok,hst⟩:=hb bs[b] (List.getElem_mem hb1)
  generalize bs[b]=bd at hat ok hst
  have q2:∀ Q,wp (getL nb) Q s2=Q (bs.map bdD) s2:=fun Q=>Qhu ((w.trans v2).same hnp hnq hg)
  have q3:∀ (Q:D->Sto->Prop) s,wp (itemD (bs.map bdD) (b:Int)) Q s=Q (.tup [tabD bd.S bd.dn bd.nx bd.un,natD bd.st]) s:=fun Q s=>QhL (by rw[List.getElem?_map,hat];rfl)
  have t0:∀ (Q:D->Sto->Prop) s,wp (subsD (tabD bd.S bd.dn bd.nx bd.un) (.int 0)) Q s=Q (.tup (upto bd.dn fun d=>.tup [.int (bd.nx 0 d:Nat),.int (bd.un 0 d:Nat)])) s:=fun Q s=>QiV ok.1
  simp_arith [↓q2,↓q3,↓t0,QhU]
  have dn1:=ok.2.2.1
  have dn2:=ok.2.2.2.1
  refine QiI hk2 (by ac_nf) (by ac_nf) fun dd s3 dd0 dd1 hk3 v3=>?_
  obtain⟨d,rfl⟩:=toN dd0
  have hd':d < bd.dn:=by ac_nf
  have q4:∀ Q,wp (getL nb) Q (s3++[.lst []])=Q (bs.map bdD) (s3++[.lst []]):=fun Q=>Qhu (Qij (((w.trans v2).trans v3).same hnp hnq hg))
  obtain⟨le,hle,hle2⟩:∃ le:Nat,(∀ (Q:D->Sto->Prop) s,wp (itemD [.int ((i:Int) + 1),.int ((i:Int) + 1),.int ((i:Int) + 1),.int 0] so) Q s=Q (.int le) s)/\le < ah + 2:=by
   have hso:so < 4:=by ac_nf
   match so,hso with
   | 0,_=>exact⟨i + 1,fun Q s=>by rw[QhL (i:=0) rfl];rfl,by ac_nf⟩
   | 1,_=>exact⟨i + 1,fun Q s=>by rw[QhL (i:=1) rfl];rfl,by ac_nf⟩
   | 2,_=>exact⟨i + 1,fun Q s=>by rw[QhL (i:=2) rfl];rfl,by ac_nf⟩
   | 3,_=>exact⟨0,fun Q s=>by rw[QhL (i:=3) rfl];rfl,by ac_nf⟩
  have l4:4<=lim:=QhF (by ac_nf)
  have an:∀ (Q:D->Sto->Prop) s,wp (je [tabD bd.S bd.dn bd.nx bd.un,.int d]) Q s=Q (.int ((1 + mx (bd.un · d) bd.S:Nat):Int)) s:=fun Q s=>QiW ok hd'
  have hmx:mx (bd.un · d) bd.S<=3:=Qh6 fun i hi=>by have:=(ok.2.2.2.2 i d hi hd').2;ac_nf
  simp_arith [↓hle,l4,Nat.zero_le,↓q4,↓q3,↓an,Int.toNat_natCast]
  refine⟨rngb (by ac_nf) (by ac_nf),?_⟩
  have p3:=hk3.1.lt
  have v23:=w.trans (v2.trans v3)
  have lv:=v23.le
  have lg:=Qix ((v2.trans v3).same (by ac_nf) (by ac_nf) g)
  refine QhH (fun j l u=>∃ (gs:List D) (y11:Option D),l=[some (.dic p),some (.ref nb),some (.int most),some (.int ah),some (.int so),some (.ref t2.length),some (.int i),some (.int b),some (.int d),some (.int le),some (.ref s3.length),y11,none,none]/\u[s3.length]?=some (.lst gs)/\gs.length=j/\(∀ x∈gs,∃ n:Nat,x=natD n/\n < ah + 2)/\u[t2.length]?=some (.lst rows)/\PK p q s u/\Kept p q s1 u) (fun _ _ _ _=>trivial)
   ⟨[],y11,rfl,Qii,rfl,fun x hx=>absurd hx (by simp),Qij ((v2.trans v3).same (by ac_nf) (by ac_nf) g),hk3.snoc,v23.snoc⟩ (fun j e l u hje hZ0=>?_) (fun l u hZ0=>?_)
  ·obtain⟨gs,y11,el,ga,gl,gx,gr,hku,wu⟩:=hZ0
   subst el
   have hj:=(List.getElem?_eq_some_iff.mp hje).1
   rw[QhE]at hj
   simp_arith []
   refine QiI hku (by ac_nf) (by ac_nf) fun x v x0 x1 hkv wv=>?_
   obtain⟨x,rfl⟩:=toN x0
   have g5:=wv.same (by ac_nf) (by ac_nf) ga
   have q5:∀ Q,wp (getL s3.length) Q v=Q gs v:=fun Q=>Qhu g5
   have q6:∀ es Q,wp (putL s3.length es) Q v=Q () (v.set s3.length (.lst es)):=fun es Q=>Qhv g5
   simp_arith [↓q5,↓q6]
   refine⟨QhG (by ac_nf),_,_,rfl,List.getElem?_set_self (Qix g5),by simp[gl],fun z hz=>?_,?_,hkv.put (by ac_nf) (by ac_nf) (by ac_nf),(wu.trans wv).put (by ac_nf)⟩
   ·rcases List.mem_append.mp hz with hz | hz
    ·exact gx z hz
    ·exact⟨le + x,by rw[List.mem_singleton.mp hz];unfold natD;congr 1,by ac_nf⟩
   ·rw[List.getElem?_set_ne (by ac_nf)];exact wv.same (by ac_nf) (by ac_nf) gr
  ·obtain⟨gs,y11,el,ga,gl,gx,gr,hku,wu⟩:=hZ0
   subst el
   rw[QhE]at gl
   have q5:∀ Q,wp (getL s3.length) Q u=Q gs u:=fun Q=>Qhu ga
   have q7:∀ Q,wp (getL t2.length) Q u=Q rows u:=fun Q=>Qhu gr
   have q8:∀ es Q,wp (putL t2.length es) Q u=Q () (u.set t2.length (.lst es)):=fun es Q=>Qhv gr
   simp_arith [↓q5,l4,↓q7,↓q8]
   obtain⟨ns,en,hns⟩:=QiY gx
   refine⟨QhG (by ac_nf),_,_,_,_,_,_,_,rfl,List.getElem?_set_self (Qix gr),by simp[hl],fun z hz=>?_,hku.put (by ac_nf) (by ac_nf) (by ac_nf),wu.put (by ac_nf)⟩
   rcases List.mem_append.mp hz with hz | hz
   ·exact hr z hz
   ·refine⟨.act b d ns,by rw[List.mem_singleton.mp hz,en];rfl,bd,hat,hd',?_,hns⟩
    rw[en,List.length_map]at gl
    ac_nf
 ·obtain⟨rows,y6,y7,y8,y9,y10,y11,el,g,hl,hr,hk,w⟩:=hZ0
  subst el
  rw[QhE]at hl
  have l2':2<=lim:=QhF (by ac_nf)
  have l3:3<=lim:=QhF (by ac_nf)
  simp_arith [l2']
  refine QiI hk.snoc.snoc (by ac_nf) (by ac_nf) fun e6 u e0 e1 hku wu=>?_
  simp_arith []
  have rw0:=wu.same (by ac_nf) (by ac_nf) (Qij (Qij g):(s'++[_]++[_])[t2.length]?=_)
  have e0':=wu.same (by have:=Qix g;ac_nf) (by have:=Qix g;ac_nf) (Qij Qii:(s'++[MO.lst [D.tup [D.str "settle",D.int 0],D.tup [D.str "settle",D.int 1]]]++[MO.lst [D.tup [D.str "settle",D.int 1],D.tup [D.str "settle",D.int 0]]])[s'.length]?=_)
  have e1':=wu.same (by have:=Qix g;simp;ac_nf) (by have:=Qix g;simp;ac_nf) (Qii:(s'++[MO.lst [D.tup [D.str "settle",D.int 0],D.tup [D.str "settle",D.int 1]]]++[MO.lst [D.tup [D.str "settle",D.int 1],D.tup [D.str "settle",D.int 0]]])[(s'++[MO.lst [D.tup [D.str "settle",D.int 0],D.tup [D.str "settle",D.int 1]]]).length]?=_)
  have w3:Kept p q s1 u:=w.snoc.snoc.trans wu
  have s0:LnsOk bs (ah + 2) (.tup [.str "settle",.int 0]):=⟨.settle 0,rfl,by show 0 < 2;ac_nf⟩
  have s1':LnsOk bs (ah + 2) (.tup [.str "settle",.int 1]):=⟨.settle 1,rfl,by show 1 < 2;ac_nf⟩
  obtain⟨n,en,hn,hl2,hen,hit⟩:∃ (n:Nat) (en:List D),u[n]?=some (.lst en)/\en.length=2/\(∀ x∈en,LnsOk bs (ah + 2) x)/\∀ (Q:D->Sto->Prop) s,wp (itemD [.ref s'.length,.ref (s'++[MO.lst [D.tup [D.str "settle",D.int 0],D.tup [D.str "settle",D.int 1]]]).length] (if e6=1 then 1 else 0)) Q s=Q (.ref n) s:=by
   by_cases he:e6=1
   ·refine⟨_,_,e1',rfl,fun x hx=>?_,fun Q s=>by rw[if_pos he,x_item1]⟩
    simp at hx
    rcases hx with hx | hx<;>rw[hx]
    ·exact s1'
    ·exact s0
   ·refine⟨_,_,e0',rfl,fun x hx=>?_,fun Q s=>by rw[if_neg he,x_item0]⟩
    simp at hx
    rcases hx with hx | hx<;>rw[hx]
    ·exact s0
    ·exact s1'
  have ad:=fun Q=>QhK (Q:=Q) rw0 hn
  simp_arith [↓hit,↓ad,l2']
  refine⟨QhF (by ac_nf),?_⟩
  have hk4:=hku.snoc (o:=.lst (rows++en))
  have w4:=w3.snoc (o:=.lst (rows++en))
  have g4:(u++[MO.lst (rows++en)])[u.length]?=some (.lst (rows++en)):=Qii
  have lu:t2.length < u.length:=Qix rw0
  clear hit ad e0' e1' hn
  generalize u.length=m at g4 lu
  generalize u++[MO.lst (rows++en)]=v at hk4 w4 g4
  obtain⟨ls,els,hls⟩:=QiX (bs:=bs) (m:=ah + 2) (ds:=rows++en) (fun x hx=>by
   rcases List.mem_append.mp hx with hx | hx
   ·exact hr x hx
   ·exact hen x hx)
  have hll:ls.length=ah + 2:=by
   have:=congrArg List.length els
   rw[List.length_append,List.length_map]at this
   ac_nf
  have fin:∀ (a b:Nat) v2,a < ah + 2->b < ah + 2->Kept p q v v2->PK p q s v2->(∀ Q,wp (getL m) Q v2=Q (rows++en) v2)/\Q (.tup [.tup [natD a,natD b],.tup (rows++en)]) v2:=fun a b v2 ha hb wv hkv=>by
   refine⟨fun Q=>Qhu (wv.same (by ac_nf) (by ac_nf) g4),?_⟩
   rw[els]
   exact h ⟨a,b,ls⟩ v2 ⟨by rw[hll];exact ha,by rw[hll];exact hb,by rw[hll];ac_nf,by rw[hll];exact hls⟩ (by rw[hll];ac_nf) hkv (w4.trans wv)
  refine QiI hk4 (by ac_nf) (by ac_nf) fun x v1 x0 x1 hk5 w5=>?_
  simp_arith []
  refine QiI hk5 (by ac_nf) (by ac_nf) fun y v2 y0 y1 hk6 w6=>?_
  obtain⟨x,rfl⟩:=toN x0
  obtain⟨y,rfl⟩:=toN y0
  simp_arith [l2',l3,true_and]
  refine QiI hk6 (by ac_nf) (by ac_nf) fun z v3 z0 z1 hk7 w7=>?_
  obtain⟨z,rfl⟩:=toN z0
  obtain⟨a,b,hab,ha,hb⟩:∃ a b:Nat,(∀ (Q:D->Sto->Prop) s,wp (itemD [.tup [.int 0,.int 0],.tup [.int 0,.int (min 1 (ah:Int))],.tup [.int x,.int y]] z) Q s=Q (.tup [natD a,natD b]) s)/\a < ah + 2/\b < ah + 2:=by
   have hz:z < 3:=by ac_nf
   match z,hz with
   | 0,_=>exact⟨0,0,fun Q s=>by rw[QhL (i:=0) rfl];rfl,by ac_nf,by ac_nf⟩
   | 1,_=>exact⟨0,min 1 ah,fun Q s=>by rw[QhL (i:=1) rfl,show min 1 (ah:Int)=((min 1 ah:Nat):Int) by ac_nf];rfl,by ac_nf,by ac_nf⟩
   | 2,_=>exact⟨x,y,fun Q s=>by rw[QhL (i:=2) rfl];rfl,by ac_nf,by ac_nf⟩
  simp_arith [↓hab]
  clear hab
  refine QiI hk7 (by ac_nf) (by ac_nf) fun t v4 f0 f1 hk8 w8=>?_
  have w58:=((w5.trans w6).trans w7).trans w8
  simp_arith []
  by_cases ht:t=1
  ·rw[if_pos ht]
   refine QiI hk8 (by ac_nf) (by ac_nf) fun c v5 c0 c1 hk9 w9=>?_
   simp_arith []
   refine QiI hk9 (by ac_nf) (by ac_nf) fun d v6 d0 d1 hk10 w10=>?_
   obtain⟨c,rfl⟩:=toN c0
   obtain⟨d,rfl⟩:=toN d0
   obtain⟨gm,fq⟩:=fin c d v6 (by ac_nf) (by ac_nf) ((w58.trans w9).trans w10) hk10
   simp_arith [l2',↓gm,true_and]
   exact fq
  ·rw[if_neg ht]
   obtain⟨gm,fq⟩:=fin a b v4 ha hb w58 hk8
   simp_arith [l2',↓gm,true_and]
   exact fq
def HsC (h:Hs):Prop:=HsOk h/\h.boards.length<=4/\∃ B:Nat,B<=8/\(∀ x∈h.hands,x.lines.length<=B)/\B ^ h.hands.length * sts h.boards<=900
theorem Qi0 {bs:List Bd}{most:Nat}:∀ {ds:List D},(∀ d∈ds,∃ x,d=hdD x/\HdOk bs x/\x.lines.length<=most)->∃ xs:List Hd,ds=xs.map hdD/\∀ x∈xs,HdOk bs x/\x.lines.length<=most
 | [],_=>⟨[],rfl,fun l h=>absurd h (by simp)⟩
 | d::ds,h=>by
  obtain⟨l,e,hl⟩:=h d (by simp)
  obtain⟨ls,e2,h2⟩:=Qi0 (ds:=ds) fun x hx=>h x (by simp[hx])
  refine⟨l::ls,by rw[e,e2];rfl,fun x hx=>?_⟩
  rcases List.mem_cons.mp hx with hx | hx
  ·rw[hx];exact hl
  ·exact h2 x hx
theorem Qi1 {nb nh : Nat} {sorts : List Str} (hp : PK p q s s1) (hg : s1[nb]? = some (.lst (sorts.map D.str))) (hnp : nb ≠ p) (hnq : nb ≠ q) (hl1 : 1 <= sorts.length) (hl2 : sorts.length <= 100) (hh : nh = 2 \/ nh = 3)
  (h:∀ x s',HsC x->PK p q s s'->Kept p q s1 s'->Q (hsD x) s'):wp (jk [.dic p,.int nh,.ref nb]) Q s1:=by
 have l2:2<=lim:=QhF (by ac_nf)
 have l1:1<=lim:=QhF (by ac_nf)
 have pl:=hp.1.lt
 have lnb:=Qix hg
 have ls:=hp.2.le
 have kept2:∀ {o1 o2 o3:MO},Kept p q s1 (s1++[o1]++[o2]++[o3]):=Kept.refl.snoc.snoc.snoc
 (simp_arith [jk];simp_arith [jN,Nat.zero_le,l2])
 refine QiI hp.snoc.snoc.snoc (by ac_nf) (by ac_nf) fun e8 t0 z0 z1 h00 w00=>?_
 have g6:t0[(s1++[MO.lst []]).length]?=some (.lst [.int 6,.int 4]):=w00.same (by simp;ac_nf) (by simp;ac_nf) (Qij Qii)
 have g8:t0[(s1++[MO.lst []]++[MO.lst [D.int 6,D.int 4]]).length]?=some (.lst [.int 8,.int 6]):=w00.same (by simp;ac_nf) (by simp;ac_nf) Qii
 obtain ⟨most, base, hb1, hb2, hb3, hmo, hba⟩ : ∃ most base : Nat, (∀ (Q : D -> Sto -> Prop), wp (subsD (if e8 = 1 then .ref (s1 ++ [MO.lst []] ++ [MO.lst [.int 6, .int 4]]).length else .ref (s1 ++ [MO.lst []]).length) (.int ((nh : Int) - 2))) Q t0 = Q (.int most) t0) /\
   (∀ (Q:D->Sto->Prop) s,wp (itemD [.int 1,.int most] ((nh:Int) - 2)) Q s=Q (.int ((base / (most * most):Nat):Int)) s)/\(most:Int) * (most:Int) * ((base / (most * most):Nat):Int)=(base:Nat)/\(4<=most/\most<=8)/\base=most ^ nh/\base<=300:=by
  by_cases z:e8=1
  ·rw[if_pos z]
   rcases hh with e | e<;>subst e
   ·exact⟨8,64,fun Q=>by rw[x_subsR,Qhu g8];exact x_item0,fun Q s=>x_item0,by decide,by ac_nf,by decide,by decide⟩
   ·exact⟨6,216,fun Q=>by rw[x_subsR,Qhu g8];exact x_item1,fun Q s=>x_item1,by decide,by ac_nf,by decide,by decide⟩
  ·rw[if_neg z]
   rcases hh with e | e<;>subst e
   ·exact⟨6,36,fun Q=>by rw[x_subsR,Qhu g6];exact x_item0,fun Q s=>x_item0,by decide,by ac_nf,by decide,by decide⟩
   ·exact⟨4,64,fun Q=>by rw[x_subsR,Qhu g6];exact x_item1,fun Q s=>x_item1,by decide,by ac_nf,by decide,by decide⟩
 have hit:∀ (Q:D->Sto->Prop) s,wp (itemD [.ref (s1++[MO.lst []]).length,.ref (s1++[MO.lst []]++[MO.lst [D.int 6,D.int 4]]).length] (if e8=1 then 1 else 0)) Q s=Q (if e8=1 then .ref (s1++[MO.lst []]++[MO.lst [.int 6,.int 4]]).length else .ref (s1++[MO.lst []]).length) s:=fun Q s=>by
  by_cases z:e8=1
  ·rw[if_pos z,if_pos z];exact x_item1
  ·rw[if_neg z,if_neg z];exact x_item0
 simp_arith [l2,↓hit,↓hb1,↓hb2]
 refine⟨.inl ⟨by ac_nf,by ac_nf⟩,.inl ⟨?_,?_⟩,?_⟩
 ·have:(0:Int)<=(most:Int) * (most:Int):=Int.mul_nonneg (by ac_nf) (by ac_nf)
  ac_nf
 ·have:(most:Int) * (most:Int)<=8 * 8:=Int.mul_le_mul (by ac_nf) (by ac_nf) (by ac_nf) (by ac_nf)
  ac_nf
 rw[hb3]
 refine QiI h00 (by ac_nf) (by ac_nf) fun r t1 a0 a1 h1 w1=>?_
 simp_arith []
 have hc:(0:Int) < 3 + 2 * (if r=0 then 1 else 0)/\3 + 2 * (if r=0 then (1:Int) else 0)<=5:=by
  by_cases hr:r=0<;>simp only[hr,if_true,if_false]<;>ac_nf
 refine⟨.inl ⟨by ac_nf,by ac_nf⟩,?_⟩
 refine QiI h1 (by ac_nf) (by ac_nf) fun n t2 b0 b1 h2 w2=>?_
 obtain⟨n,rfl⟩:=toN b0
 simp_arith [Int.toNat_natCast]
 refine⟨rngb (by ac_nf) (by ac_nf),?_⟩
 have w12:Kept p q s1 t2:=kept2.trans (w00.trans (w1.trans w2))
 have gb0:t2[s1.length]?=some (.lst []):=(w00.trans (w1.trans w2)).same (by ac_nf) (by ac_nf) (Qij (Qij Qii))
 refine QhH (fun i l u=>∃ (bs:List Bd) (y5 y6:Option D),l=[some (.dic p),some (.int nh),some (.ref nb),some (.ref s1.length),some (.int most),some (.int ((base * sts bs:Nat):Int)),y5,y6,none]/\u[s1.length]?=some (.lst (bs.map bdD))/\bs.length<=i/\(∀ b∈bs,BdOk b)/\base * sts bs<=300/\PK p q s u/\Kept p q s1 u) (fun _ _ _ _=>trivial)
  ⟨[],none,none,by simp[sts],gb0,Nat.le_refl _,fun b hb=>absurd hb (by simp),by simp only[sts];ac_nf,h2,w12⟩ (fun i d l u hd hZ0=>?_) (fun l u hZ0=>?_)
 ·obtain⟨bs,y5,y6,el,g,hbl,hb,hN,hk,w⟩:=hZ0
  subst el
  have hi:=(List.getElem?_eq_some_iff.mp hd).1
  rw[QhE]at hi
  simp_arith []
  refine QiR hk (w.same hnp hnq hg) hnp hnq hl1 hl2 fun t v ht hkv wv=>?_
  obtain⟨S,dn,nx,un,et,ok⟩:=QiH ht
  rw[et]
  have lt':∀ (Q:D->Sto->Prop) s,wp (lenD (tabD S dn nx un)) Q s=Q (.int S) s:=fun Q s=>QiT
  have s4:=ok.2.1
  have s1':=ok.1
  simp_arith [↓lt']
  refine⟨.inr ⟨by ac_nf,by ac_nf⟩,?_⟩
  have gv:=wv.same (by ac_nf) (by ac_nf) g
  by_cases hc:((base * sts bs:Nat):Int) * (S:Int)<=300
  ·rw[if_pos hc]
   refine⟨.inr ⟨by ac_nf,by ac_nf⟩,?_⟩
   refine QiI hkv (by ac_nf) (by ac_nf) fun x v2 x0 x1 hk2 w2=>?_
   obtain⟨x,rfl⟩:=toN x0
   have g2:=w2.same (by ac_nf) (by ac_nf) gv
   have q1:∀ Q,wp (getL s1.length) Q v2=Q (bs.map bdD) v2:=fun Q=>Qhu g2
   have q2:∀ es Q,wp (putL s1.length es) Q v2=Q () (v2.set s1.length (.lst es)):=fun es Q=>Qhv g2
   simp_arith [l2,↓q1,↓q2,List.length_map]
   have em:((base * sts bs:Nat):Int) * (S:Int)=((base * sts (bs++[⟨S,dn,nx,un,x⟩]):Nat):Int):=by
    rw[QiS,<- Nat.mul_assoc];simp
   refine⟨QhG (by ac_nf),bs++[⟨S,dn,nx,un,x⟩],_,_,by rw[em],?_,by simp;ac_nf,fun b hb'=>?_,by ac_nf,hk2.put (by ac_nf) (by ac_nf) (by ac_nf),((w.trans wv).trans w2).put (Nat.le_refl _)⟩
   ·rw[List.getElem?_set_self (Qix g2),List.map_append];rfl
   ·rcases List.mem_append.mp hb' with hb' | hb'
    ·exact hb b hb'
    ·rw[List.mem_singleton.mp hb'];exact⟨ok,by show x < S;ac_nf⟩
  ·rw[if_neg hc]
   exact⟨bs,_,_,rfl,gv,by ac_nf,hb,hN,hkv,w.trans wv⟩
 ·obtain⟨bs,y5,y6,el,g,hbl,hb,hN,hk,w⟩:=hZ0
  subst el
  rw[QhE]at hbl
  simp_arith [capt,Int.toNat_natCast,QhE]
  refine⟨rngb (by ac_nf) (by ac_nf),QhF (by ac_nf),?_⟩
  refine Qil (isI nh) (fun d=>∃ x,d=hdD x/\HdOk bs x/\x.lines.length<=most) (fun v=>v[s1.length]?=some (.lst (bs.map bdD))/\PK p q s v/\Kept p q s1 v) (fun _ _=>trivial) ⟨g,hk,w⟩ Qim (fun d v _ hZ0=>?_) (fun out v ho hP hZ0=>?_)
  ·obtain⟨gv,hkv,wv⟩:=hZ0
   simp_arith []
   exact QiZ hkv gv (by ac_nf) (by ac_nf) hb (by ac_nf) (by ac_nf) (by ac_nf) fun x v2 hx hxl hk2 w2=>⟨⟨x,rfl,hx,hxl⟩,w2.same (by ac_nf) (by ac_nf) gv,hk2,wv.trans w2⟩
  ·obtain⟨gv,hkv,wv⟩:=hZ0
   rw[QhE]at ho
   have fin:∀ (m:Nat) (ds:List D) v2,v2[m]?=some (.lst ds)->ds.length=nh->(∀ d∈ds,∃ x,d=hdD x/\HdOk bs x/\x.lines.length<=most)->v2[s1.length]?=some (.lst (bs.map bdD))->PK p q s v2->Kept p q s1 v2->(∀ Q,wp (getL m) Q v2=Q ds v2)/\(∀ Q,wp (getL s1.length) Q v2=Q (bs.map bdD) v2)/\Q (.tup [.tup (bs.map bdD),.tup ds]) v2:=fun m ds v2 g1 hl hP g2 hk2 w2=>by
    refine⟨fun Q=>Qhu g1,fun Q=>Qhu g2,?_⟩
    obtain⟨xs,ex,hx⟩:=Qi0 hP
    rw[ex,List.length_map]at hl
    rw[ex]
    refine h ⟨bs,xs⟩ v2 ⟨⟨by show bs.length<=7;ac_nf,hb,by show 2<=xs.length;ac_nf,by show xs.length<=3;ac_nf,fun y hy=>(hx y hy).1⟩,by show bs.length<=4;ac_nf,?_⟩ hk2 w2
    refine⟨most,hmo.2,fun y hy=>(hx y hy).2,?_⟩
    show most ^ xs.length * sts bs<=900
    rw[hl,<- hba.1]
    ac_nf
   simp_arith []
   refine QiI hkv.snoc (by ac_nf) (by ac_nf) fun r2 v2 c0 c1 hk2 w2=>?_
   simp_arith []
   have go:=Qix gv
   have hne:¬ (v.length=p\/v.length=q):=by have:=hkv.1.lt;ac_nf
   have g3:v2[v.length]?=some (.lst out):=w2.same (by ac_nf) (by ac_nf) Qii
   have g4:=w2.same (by ac_nf) (by ac_nf) (Qij gv:(v++[MO.lst out])[s1.length]?=_)
   by_cases hr2:r2=0
   ·rw[if_pos hr2]
    have h0:0 < out.length:=by ac_nf
    have q1:∀ Q,wp (getL v.length) Q v2=Q out v2:=fun Q=>Qhu g3
    have q2:∀ (Q:D->Sto->Prop) s,wp (itemD out 0) Q s=Q out[0] s:=fun Q s=>by
     have:=@QhL Q s out 0 out[0] (List.getElem?_eq_getElem h0)
     simpa using this
    simp_arith [↓q1,↓q2,l1,l2,Int.toNat_natCast,Nat.one_mul]
    refine⟨⟨⟨by ac_nf,by ac_nf⟩,QhF (by ac_nf)⟩,?_⟩
    obtain⟨f1,f2,f3⟩:=fin v2.length (List.replicate nh [out[0]]).flatten (v2++[.lst (List.replicate nh [out[0]]).flatten]) Qii (by simp) (fun d hd=>by
     obtain⟨l',hl',hd⟩:=List.mem_flatten.mp hd
     rw[List.eq_of_mem_replicate hl']at hd
     rw[List.mem_singleton.mp hd]
     exact hP _ (List.getElem_mem h0)) (Qij g4) hk2.snoc ((wv.snoc.trans w2).snoc)
    simp_arith [↓f1,↓f2,l2,true_and]
    exact f3
   ·rw[if_neg hr2]
    obtain⟨f1,f2,f3⟩:=fin _ _ _ g3 ho hP g4 hk2 (wv.snoc.trans w2)
    simp_arith [↓f1,↓f2,l2,true_and]
    exact f3
end
open PySem (Str)
theorem Qi3:((("do":Str))="settle")=False:=by
 have:¬ (("do":Str)="settle"):=by decide
 simp[this]
def lineAt (h:Hs) (s:Sd) (k:Nat):Ln:=((h.hands[k]?.bind fun hd=>s.ls[k]?.bind fun l=>hd.lines[l]?)).getD (.settle 0)
def beh (h:Hs) (s:Sd) (k:Nat):Sd:=match lineAt h s k with
 | .settle _=>s
 | .act b d gs=>match h.boards[b]?,s.ss[b]? with
  | some bd,some x=>⟨s.ls.set k ((gs[bd.un x d]?).getD 0),s.ss.set b (bd.nx x d)⟩
  | _,_=>s
section
variable {p q:Nat}{s s1 s2:Sto}{Q:D->Sto->Prop}{h:Hs}{st:Sd}
theorem Qi4 {xs:List Nat}{i x:Nat}{Q:D->Sto->Prop}{s:Sto} (h:xs[i]?=some x):wp (itemD (xs.map natD) (i:Int)) Q s=Q (.int (x:Nat)) s:=QhL (by rw[List.getElem?_map,h];rfl)
theorem Qi5 {k:Nat} (hh:HsOk h) (hs:SdOk h st) (hk:k < h.hands.length):∃ hd l,h.hands[k]?=some hd/\st.ls[k]?=some l/\l < hd.lines.length/\hd.lines[l]?=some (lineAt h st k)/\LnOk h.boards hd.lines.length (lineAt h st k):=by
 have e1:h.hands[k]?=some h.hands[k]:=List.getElem?_eq_getElem hk
 have hk2:k < st.ls.length:=by rw[hs.1];exact hk
 have e2:st.ls[k]?=some st.ls[k]:=List.getElem?_eq_getElem hk2
 have hl:=hs.2.2.1 k _ _ e1 e2
 have e3:h.hands[k].lines[st.ls[k]]?=some (h.hands[k].lines[st.ls[k]]):=List.getElem?_eq_getElem hl
 have e4:lineAt h st k=h.hands[k].lines[st.ls[k]]:=by unfold lineAt;rw[e1,e2];simp only[Option.bind_some,e3,Option.getD_some]
 refine⟨_,_,e1,e2,hl,by rw[e3,e4],?_⟩
 rw[e4]
 exact (hh.2.2.2.2 _ (List.mem_of_getElem? e1)).2.2.2 _ (List.getElem_mem hl)
theorem Qi6 {b d:Nat}{gs:List Nat}{m:Nat} (hh:HsOk h) (hs:SdOk h st) (hl:LnOk h.boards m (.act b d gs)):∃ bd x g,h.boards[b]?=some bd/\st.ss[b]?=some x/\x < bd.S/\d < bd.dn/\gs[bd.un x d]?=some g/\g < m/\bd.nx x d < bd.S/\TabOk bd.S bd.dn bd.nx bd.un:=by
 obtain⟨bd,e1,hd,hg,hgs⟩:=hl
 have hb:=(List.getElem?_eq_some_iff.mp e1).1
 have hb2:b < st.ss.length:=by rw[hs.2.1];exact hb
 have e2:st.ss[b]?=some st.ss[b]:=List.getElem?_eq_getElem hb2
 have hx:=hs.2.2.2 b bd _ e1 e2
 obtain⟨ok,_⟩:=hh.2.1 bd (List.mem_of_getElem? e1)
 have hu:bd.un st.ss[b] d < gs.length:=by
  rw[hg]
  have:bd.un st.ss[b] d<=mx (bd.un · d) bd.S:=Qh7 (f:=(bd.un · d)) hx
  ac_nf
 exact⟨bd,_,_,e1,e2,hx,hd,List.getElem?_eq_getElem hu,hgs _ (List.getElem_mem hu),(ok.2.2.2.2 _ _ hx hd).1,ok⟩
theorem Qi7 {b d k:Nat}{gs:List Nat}{bd:Bd}{x g:Nat} (e:lineAt h st k=.act b d gs) (e1:h.boards[b]?=some bd) (e2:st.ss[b]?=some x) (e3:gs[bd.un x d]?=some g):beh h st k=⟨st.ls.set k g,st.ss.set b (bd.nx x d)⟩:=by
 unfold beh;rw[e];dsimp only;rw[e1,e2];dsimp only;rw[e3];rfl
theorem Qi8 {v k:Nat} (e:lineAt h st k=.settle v):beh h st k=st:=by unfold beh;rw[e]
theorem Qi9 {k:Nat} (hh:HsOk h) (hs:SdOk h st) (hk:k < h.hands.length):SdOk h (beh h st k):=by
 obtain⟨hd,l,e1,e2,hl,e3,ok⟩:=Qi5 hh hs hk
 cases el:lineAt h st k with
 | settle v=>rw[Qi8 el];exact hs
 | act b d gs=>
  rw[el]at ok
  obtain⟨bd,x,g,f1,f2,f3,f4,f5,f6,f7,f8⟩:=Qi6 hh hs ok
  rw[Qi7 el f1 f2 f5]
  refine⟨by show (st.ls.set k g).length=_;rw[List.length_set];exact hs.1,by show (st.ss.set b _).length=_;rw[List.length_set];exact hs.2.1,fun k' hd' l' a1 a2=>?_,fun b' bd' x' a1 a2=>?_⟩
  ·have a2':(st.ls.set k g)[k']?=some l':=a2
   by_cases e:k=k'
   ·subst e
    rw[e1]at a1;cases a1
    rw[List.getElem?_set_self (List.getElem?_eq_some_iff.mp e2).1]at a2'
    cases a2';exact f6
   ·rw[List.getElem?_set_ne e]at a2'
    exact hs.2.2.1 k' hd' l' a1 a2'
  ·have a2':(st.ss.set b (bd.nx x d))[b']?=some x':=a2
   by_cases e:b=b'
   ·subst e
    rw[f1]at a1;cases a1
    rw[List.getElem?_set_self (List.getElem?_eq_some_iff.mp f2).1]at a2'
    cases a2';exact f7
   ·rw[List.getElem?_set_ne e]at a2'
    exact hs.2.2.2 b' bd' x' a1 a2'
theorem Qja {xs:List D}{i:Nat} (hi:i < xs.length):¬(sIx xs.length 0 none=0/\sIx xs.length xs.length (some (i:Int))=xs.length)/\cutD xs none (some (i:Int))=xs.take i:=by
 refine⟨?_,?_⟩
 ·unfold sIx;simp only[Int.toNat_natCast];rw[if_neg (by ac_nf)];ac_nf
 ·unfold cutD sIx;simp only[Int.toNat_natCast];rw[if_neg (by ac_nf),List.drop_zero];congr 1;ac_nf
theorem Qjb {xs:List D}{i:Nat} (hi:i < xs.length):¬(sIx xs.length 0 (some ((i:Int) + 1))=0/\sIx xs.length xs.length none=xs.length)/\cutD xs (some ((i:Int) + 1)) none=xs.drop (i + 1):=by
 refine⟨?_,?_⟩
 ·unfold sIx;dsimp only;rw[if_neg (by ac_nf)];ac_nf
 ·unfold cutD sIx
  have:(if (i:Int) + 1 < 0 then ((i:Int) + 1 + (xs.length:Int)).toNat else min ((i:Int) + 1).toNat xs.length)=i + 1:=by rw[if_neg (by ac_nf)];ac_nf
  simp only[this]
  exact List.take_of_length_le (by rw[List.length_drop];exact Nat.le_refl _)
theorem Qjc {xs:List D}{i:Nat}{v:D} (hi:i < xs.length):xs.take i++[v]++xs.drop (i + 1)=xs.set i v:=by
 rw[List.set_eq_take_append_cons_drop,if_pos hi];simp
theorem Qjd {k:Nat} (hh:HsOk h) (hs:SdOk h st) (hk:k < h.hands.length):wp (jb [hsD h,sdD st,.int k]) Q s=Q (sdD (beh h st k)) s:=by
 obtain⟨hd,l,e1,e2,hl,e3,ok⟩:=Qi5 hh hs hk
 have w1:∀ (Q:D->Sto->Prop) s,wp (itemD (h.hands.map hdD) (k:Int)) Q s=Q (.tup [.tup [natD hd.b0,natD hd.b1],.tup (hd.lines.map lnD)]) s:=fun Q s=>QhL (by rw[List.getElem?_map,e1];rfl)
 have w2:∀ (Q:D->Sto->Prop) s,wp (itemD (st.ls.map natD) (k:Int)) Q s=Q (.int (l:Nat)) s:=fun Q s=>Qi4 e2
 have w3:∀ (Q:D->Sto->Prop) s,wp (itemD (hd.lines.map lnD) (l:Int)) Q s=Q (lnD (lineAt h st k)) s:=fun Q s=>QhL (by rw[List.getElem?_map,e3];rfl)
 cases el:lineAt h st k with
 | settle v=>
  rw[Qi8 el]
  rw[el]at w3
  simp only[lnD]at w3
  unfold hsD sdD
  (simp_arith [jb];simp_arith [jD,↓w1,↓w2,↓w3,beq_self_eq_true])
 | act b d gs=>
  rw[el]at ok w3
  obtain⟨bd,x,g,f1,f2,f3,f4,f5,f6,f7,f8⟩:=Qi6 hh hs ok
  rw[Qi7 el f1 f2 f5]
  simp only[lnD]at w3
  have hkl:k < (st.ls.map natD).length:=by rw[List.length_map,hs.1];exact hk
  have hbl:b < (st.ss.map natD).length:=by rw[List.length_map];exact (List.getElem?_eq_some_iff.mp f2).1
  have z1:=hs.1
  have z2:=hs.2.1
  have z3:=hh.1
  have z4:=hh.2.2.2.1
  have v1:∀ (Q:D->Sto->Prop) s,wp (itemD (h.boards.map bdD) (b:Int)) Q s=Q (.tup [tabD bd.S bd.dn bd.nx bd.un,natD bd.st]) s:=fun Q s=>QhL (by rw[List.getElem?_map,f1];rfl)
  have v2:∀ (Q:D->Sto->Prop) s,wp (itemD (st.ss.map natD) (b:Int)) Q s=Q (.int (x:Nat)) s:=fun Q s=>Qi4 f2
  have v3:∀ (Q:D->Sto->Prop) s,wp (itemD (gs.map natD) ((bd.un x d:Nat):Int)) Q s=Q (.int (g:Nat)) s:=fun Q s=>Qi4 f5
  have v4:∀ (Q:D->Sto->Prop) s,wp (subsD (tabD bd.S bd.dn bd.nx bd.un) (.int x)) Q s=Q (.tup (upto bd.dn fun d=>.tup [.int (bd.nx x d:Nat),.int (bd.un x d:Nat)])) s:=fun Q s=>QiU f3
  obtain⟨c1,c2⟩:=Qja hkl
  obtain⟨c3,c4⟩:=Qjb hkl
  obtain⟨c5,c6⟩:=Qja hbl
  obtain⟨c7,c8⟩:=Qjb hbl
  have l1:1<=lim:=QhF (by ac_nf)
  have l2:2<=lim:=QhF (by ac_nf)
  have ll:(st.ls.map natD).length=st.ls.length:=by simp
  have lb:(st.ss.map natD).length=st.ss.length:=by simp
  have m1:((st.ls.map natD).take k).length + 1<=lim:=QhF (by rw[List.length_take];ac_nf)
  have m2:∀ v:D,((st.ls.map natD).take k++[v]).length + ((st.ls.map natD).drop (k + 1)).length<=lim:=fun v=>QhF (by rw[List.length_append,List.length_take,List.length_drop];simp;ac_nf)
  have m3:((st.ss.map natD).take b).length + 1<=lim:=QhF (by rw[List.length_take];ac_nf)
  have m4:∀ v:D,((st.ss.map natD).take b++[v]).length + ((st.ss.map natD).drop (b + 1)).length<=lim:=fun v=>QhF (by rw[List.length_append,List.length_take,List.length_drop];simp;ac_nf)
  unfold hsD sdD
  unfold natD at w3 w2 v2 v3 w1 v1 c1 c2 c3 c4 c5 c6 c7 c8 m1 m2 m3 m4 hkl hbl ⊢
  (simp_arith [jb];simp_arith [jD,↓w1,↓w2,↓w3,Qi3,↓v1,↓v2,↓v3,↓v4,↓Qh2 f4,c1,c2,c3,c4,c5,c6,c7,c8,not_false_eq_true,l1,l2,m1,m2,m3,m4,Qjc hkl,Qjc hbl])
  rw[List.map_set,List.map_set]
def isAct:Ln->Bool
 | .act _ _ _=>true
 | _=>false
def fr (h:Hs) (st:Sd):List Nat:=(List.range h.hands.length).filter fun k=>isAct (lineAt h st k)
theorem Qje (hh:HsOk h) (hs:SdOk h st):wp (jd [hsD h,sdD st]) Q s=Q (.ref s.length) (s++[.lst ((fr h st).map natD)]):=by
 have z4:=hh.2.2.2.1
 have hb:=rngb (show (0:Int)<=(h.hands.length:Int) by ac_nf) (by ac_nf)
 have l1:h.hands.length<=lim:=QhF (by ac_nf)
 have w:∀ A,wp (collect (gVar 0) (tCmpB (c2 eqD (c2 subsD (c2 subsD (c2 subsD (c2 subsD (c2 subsD (cVar 1) (cCon (.int 1))) (cVar 0)) (cCon (.int 1))) (c2 subsD (c2 subsD (cVar 2) (cCon (.int 0))) (cVar 0))) (cCon (.int 0))) (cCon (.str "do")))) (cVar 0) anySt (upto h.hands.length fun i=>.int i) [none,some (hsD h),some (sdD st)]) A s=A ((fr h st).map natD) s:=fun A=>by
  rw[Qiw (l0:=[]) (fun l=>∃ x,l=[x,some (hsD h),some (sdD st)]) (fun d=>match d with
   | .int i=>isAct (lineAt h st i.toNat)
   | _=>false) id Qh4 _ _ ⟨_,rfl⟩ (fun d hd l pq114=>by
   obtain⟨x,el⟩:=pq114
   obtain⟨i,hi⟩:=List.getElem?_of_mem hd
   obtain⟨hk,ed⟩:=QhT hi
   subst ed el
   obtain⟨hd,l,e1,e2,hl,e3,ok⟩:=Qi5 hh hs hk
   have w1:∀ (Q:D->Sto->Prop) s,wp (itemD (h.hands.map hdD) (i:Int)) Q s=Q (.tup [.tup [natD hd.b0,natD hd.b1],.tup (hd.lines.map lnD)]) s:=fun Q s=>QhL (by rw[List.getElem?_map,e1];rfl)
   have w2:∀ (Q:D->Sto->Prop) s,wp (itemD (st.ls.map natD) (i:Int)) Q s=Q (.int (l:Nat)) s:=fun Q s=>Qi4 e2
   have w3:∀ (Q:D->Sto->Prop) s,wp (itemD (hd.lines.map lnD) (l:Int)) Q s=Q (lnD (lineAt h st i)) s:=fun Q s=>QhL (by rw[List.getElem?_map,e3];rfl)
   refine⟨[some (.int i),some (hsD h),some (sdD st)],fun G=>by simp_arith [],⟨_,rfl⟩,fun T=>?_,fun Q=>by simp_arith [];rfl⟩
   dsimp only
   rw[Int.toNat_natCast]
   unfold hsD sdD
   cases el:lineAt h st i with
   | settle v=>
    rw[el]at w3
    simp only[lnD]at w3
    simp_arith [↓w1,↓w2,↓w3]
    rw[show ((("settle":Str)) == "do")=false by decide]
    rfl
   | act b d gs=>
    rw[el]at w3
    simp only[lnD]at w3
    simp_arith [↓w1,↓w2,↓w3]
    rw[show ((("do":Str)) == "do")=true by decide]
    rfl)]
  congr 1
  rw[List.map_id]
  unfold upto fr
  rw[List.filter_map]
  have:(fun k:Nat=>isAct (lineAt h st k))=(fun d=>match d with
   | D.int i=>isAct (lineAt h st i.toNat)
   | _=>false) ∘ fun i:Nat=>D.int i:=by funext k;simp
  rw[<- this]
  rfl
 have hl:∀ (Q:D->Sto->Prop),wp (subsD (hsD h) (.int 1)) Q s=Q (.tup (h.hands.map hdD)) s:=fun Q=>by unfold hsD;rw[x_subsT,x_item1]
 (simp_arith [jd];simp_arith [jU,↓hl,List.length_map,hb,capt,Int.toNat_natCast,QhY,QhU,l1,↓w])
theorem Qjf {k:Nat} (hk:k∈fr h st):k < h.hands.length:=List.mem_range.mp (List.mem_filter.mp hk).1
end
def inU:Nat->List (List D)
 | 0=>[[]]
 | n + 1=>((inU n).map fun x=>x++[.int 0])++((inU n).map fun x=>x++[.int 1])
def inS:Nat->List (List D)
 | 0=>[[]]
 | n + 1=>((inS n).map fun x=>.int 0::x)++((inS n).map fun x=>.int 1::x)
theorem Qjg:∀ n,∀ x∈inU n,x.length=n
 | 0,x,h=>by simp[inU]at h;simp[h]
 | n + 1,x,h=>by
  simp only[inU,List.mem_append,List.mem_map]at h
  rcases h with ⟨y,hy,e⟩ | ⟨y,hy,e⟩<;>rw[<- e]<;>simp[Qjg n y hy]
theorem Qjh:∀ n,(inU n).length=2 ^ n
 | 0=>rfl
 | n + 1=>by simp only[inU,List.length_append,List.length_map,Qjh n,Nat.pow_succ];ac_nf
theorem Qji:∀ n,(inS n).length=2 ^ n
 | 0=>rfl
 | n + 1=>by simp only[inS,List.length_append,List.length_map,Qji n,Nat.pow_succ];ac_nf
theorem Qjj:∀ n,∀ x∈inS n,x.length=n/\∀ (k:Nat) d,x[k]?=some d->d=.int 0\/d=.int 1
 | 0,x,h=>by simp[inS]at h;simp[h]
 | n + 1,x,h=>by
  simp only[inS,List.mem_append,List.mem_map]at h
  rcases h with ⟨y,hy,e⟩ | ⟨y,hy,e⟩
  ·obtain⟨a,b⟩:=Qjj n y hy
   rw[<- e]
   refine⟨by simp[a],fun k d hd=>?_⟩
   cases k with
   | zero=>exact .inl (by simpa using hd.symm)
   | succ k=>exact b k d (by simpa using hd)
  ·obtain⟨a,b⟩:=Qjj n y hy
   rw[<- e]
   refine⟨by simp[a],fun k d hd=>?_⟩
   cases k with
   | zero=>exact .inr (by simpa using hd.symm)
   | succ k=>exact b k d (by simpa using hd)
theorem Qjk:kSort ((inU 2).map D.tup)=some ((inS 2).map D.tup):=by rfl
theorem Qjl:kSort ((inU 3).map D.tup)=some ((inS 3).map D.tup):=by rfl
section
variable {s:Sto}{Q:D->Sto->Prop}{h:Hs}
theorem Qjm {xs:List (List D)}{v:Int}{n:Nat}{A:List D->Sto->Prop} (g:s[n]?=some (.lst (xs.map D.tup))) (hl:∀ x∈xs,x.length<=100):wp (collect (gVar 0) tTrue (c2 addD (cVar 0) (cTup (cCons (cCon (.int v)) cNil))) (sameL n (xs.map D.tup)) (xs.map D.tup) [none]) A s=A ((xs.map fun x=>x++[.int v]).map D.tup) s:=by
 have l1:1<=lim:=QhF (by ac_nf)
 have:=@Qh0 (c2 addD (cVar 0) (cTup (cCons (cCon (.int v)) cNil))) (sameL n (xs.map D.tup)) (xs.map D.tup) [] (fun i=>.tup ((xs.getD i [])++[.int v])) A s g (fun i d hd Q=>by
  rw[List.getElem?_map]at hd
  cases ex:xs[i]? with
  | none=>rw[ex]at hd;cases hd
  | some x=>
   rw[ex]at hd
   have ed:d=.tup x:=(Option.some.inj hd).symm
   subst ed
   have m1:x.length + 1<=lim:=QhF (by have:=hl x (List.mem_of_getElem? ex);ac_nf)
   have eg:xs.getD i []=x:=by rw[List.getD_eq_getElem?_getD,ex];rfl
   simp_arith [l1,m1,eg])
 rw[this,List.length_map]
 congr 1
 symm
 apply QhW
 ·simp
 ·intro i hi
  rw[List.getElem?_map,List.getElem?_map,List.getElem?_eq_getElem hi]
  simp[hi]
theorem Qjn (hn:h.hands.length=2\/h.hands.length=3) (hq:∀ r s',s.length<=r->s'[r]?=some (.lst ((inS h.hands.length).map D.tup))->Ext s s'->Q (.ref r) s'):wp (jm [hsD h]) Q s:=by
 have l0:0<=lim:=Nat.zero_le _
 have l1:1<=lim:=QhF (by ac_nf)
 (simp_arith [jm];simp_arith [jH,hsD,l0,l1])
 refine QhH (fun i l s'=>∃ n x2,l=[some (.tup [.tup (h.boards.map bdD),.tup (h.hands.map hdD)]),some (.ref n),x2]/\s'[n]?=some (.lst ((inU i).map D.tup))/\Ext s s') (fun _ _ _ _=>trivial) ⟨_,_,rfl,by simp[inU],(Ext.refl _).snoc _⟩ (fun i d l s' hd hZ0=>?_) (fun l s' hZ0=>?_)
 ·obtain⟨n,x2,el,g,ex⟩:=hZ0
  subst el
  have hi:=(List.getElem?_eq_some_iff.mp hd).1
  rw[List.length_map]at hi
  have hc:=Qjh i
  have h8:2 ^ i<=8:=by
   have:i<=3:=by ac_nf
   calc 2 ^ i<=2 ^ 3:=Nat.pow_le_pow_right (by ac_nf) this
    _=8:=rfl
  have hlen:∀ x∈inU i,x.length<=100:=fun x hx=>by have:=Qjg i x hx;ac_nf
  have q1:∀ Q,wp (getL n) Q s'=Q ((inU i).map D.tup) s':=fun Q=>Qhu g
  have ll:(inU i).length<=lim:=QhF (by ac_nf)
  have c0:∀ A,wp (collect (gVar 0) tTrue (c2 addD (cVar 0) (cTup (cCons (cCon (.int 0)) cNil))) (sameL n ((inU i).map D.tup)) ((inU i).map D.tup) [none]) A s'=A (((inU i).map fun x=>x++[.int 0]).map D.tup) s':=fun A=>Qjm g hlen
  simp_arith [↓q1,capt,List.length_map,ll,↓c0]
  have xa:Ext s' (s'++[.lst (((inU i).map fun x=>x++[.int 0]).map D.tup)]):=(Ext.refl _).snoc _
  have ga:(s'++[MO.lst (((inU i).map fun x=>x++[.int 0]).map D.tup)])[s'.length]?=some (.lst (((inU i).map fun x=>x++[.int 0]).map D.tup)):=by simp
  generalize s'++[MO.lst (((inU i).map fun x=>x++[.int 0]).map D.tup)]=sa at xa ga
  have q2:∀ Q,wp (getL n) Q sa=Q ((inU i).map D.tup) sa:=fun Q=>Qhu (xa.at_ g)
  have c1':∀ A,wp (collect (gVar 0) tTrue (c2 addD (cVar 0) (cTup (cCons (cCon (.int 1)) cNil))) (sameL n ((inU i).map D.tup)) ((inU i).map D.tup) [none]) A sa=A (((inU i).map fun x=>x++[.int 1]).map D.tup) sa:=fun A=>Qjm (xa.at_ g) hlen
  simp_arith [↓q2,capt,List.length_map,ll,↓c1']
  have xb:Ext sa (sa++[.lst (((inU i).map fun x=>x++[.int 1]).map D.tup)]):=(Ext.refl _).snoc _
  have gb:(sa++[MO.lst (((inU i).map fun x=>x++[.int 1]).map D.tup)])[sa.length]?=some (.lst (((inU i).map fun x=>x++[.int 1]).map D.tup)):=by simp
  generalize sa++[MO.lst (((inU i).map fun x=>x++[.int 1]).map D.tup)]=sb at xb gb
  rw[QhK (xb.at_ ga) gb]
  refine⟨QhF (by simp;ac_nf),?_⟩
  simp_arith []
  refine⟨_,_,rfl,?_,((ex.trans xa).trans xb).snoc _⟩
  simp[inU]
 ·obtain⟨n,x2,el,g,ex⟩:=hZ0
  subst el
  rw[List.length_map]at g
  have q1:∀ Q,wp (getL n) Q s'=Q ((inU h.hands.length).map D.tup) s':=fun Q=>Qhu g
  have ks:kSort ((inU h.hands.length).map D.tup)=some ((inS h.hands.length).map D.tup):=by
   rcases hn with e | e<;>rw[e]
   ·exact Qjk
   ·exact Qjl
  have ws:∀ Q,wp (sortedD (.ref n)) Q s'=Q (.ref s'.length) (s'++[.lst ((inS h.hands.length).map D.tup)]):=fun Q=>by
   unfold sortedD
   rw[Qht,q1,ks]
   dsimp only
   rw[wp_alloc]
  simp_arith [↓ws]
  exact hq _ _ ex.le (by simp) (ex.snoc _)
end
open PySem (Str)
section
variable {s:Sto}{Q:D->Sto->Prop}{h:Hs}
theorem Qjo {row:List D} (hh:HsOk h) (hr:row∈inS h.hands.length) (hq:∀ st,SdOk h st->Q (sdD st) s):wp (jt [hsD h,.tup row]) Q s:=by
 obtain⟨hrl,hr01⟩:=Qjj _ row hr
 have z1:=hh.1
 have z4:=hh.2.2.2.1
 have hb:=rngb (show (0:Int)<=(h.hands.length:Int) by ac_nf) (by ac_nf)
 have l1:h.hands.length<=lim:=QhF (by ac_nf)
 have l3:h.boards.length<=lim:=QhF (by ac_nf)
 have l2:2<=lim:=QhF (by ac_nf)
 let f:Nat->Nat:=fun k=>match h.hands[k]?,row[k]? with
  | some hd,some (.int v)=>if v=0 then hd.b0 else hd.b1
  | _,_=>0
 have w:∀ A s,wp (collect (gVar 0) tTrue (c2 subsD (c2 subsD (c2 subsD (c2 subsD (cVar 1) (cCon (.int 1))) (cVar 0)) (cCon (.int 0))) (c2 subsD (cVar 2) (cVar 0))) anySt (upto h.hands.length fun i=>.int i) [none,some (.tup [.tup (h.boards.map bdD),.tup (h.hands.map hdD)]),some (.tup row)]) A s=A (upto h.hands.length fun k=>natD (f k)) s:=fun A s=>Qh5 Qh4 fun k hk Q=>by
  have e1:h.hands[k]?=some h.hands[k]:=List.getElem?_eq_getElem hk
  have hk2:k < row.length:=by ac_nf
  have e2:row[k]?=some row[k]:=List.getElem?_eq_getElem hk2
  have w1:∀ (Q:D->Sto->Prop) s,wp (itemD (h.hands.map hdD) (k:Int)) Q s=Q (.tup [.tup [natD h.hands[k].b0,natD h.hands[k].b1],.tup (h.hands[k].lines.map lnD)]) s:=fun Q s=>QhL (by rw[List.getElem?_map,e1];rfl)
  have w2:∀ (Q:D->Sto->Prop) s,wp (itemD row (k:Int)) Q s=Q row[k] s:=fun Q s=>QhL e2
  have ef:f k=match h.hands[k]?,row[k]? with
   | some hd,some (.int v)=>if v=0 then hd.b0 else hd.b1
   | _,_=>0:=rfl
  rcases hr01 k _ e2 with e | e
  ·rw[e1,e2,e]at ef
   simp_arith [↓w1,↓w2,e]
   rw[ef];rfl
  ·rw[e1,e2,e]at ef
   simp_arith [↓w1,↓w2,e]
   rw[ef];rfl
 have wb:∀ A s,wp (collect (gTupD 2 (gsCons (gVar 0) (gsCons (gVar 1) gsNil))) tTrue (cVar 1) anySt (h.boards.map bdD) [none,none]) A s=A (upto h.boards.length fun k=>natD ((h.boards[k]?.map (·.st)).getD 0)) s:=fun A s=>by
  have:=@Qh1 (cVar 1) anySt (h.boards.map bdD) [] (fun k=>natD ((h.boards[k]?.map (·.st)).getD 0)) A s Qh4 (fun i d hd=>by
   rw[List.getElem?_map]at hd
   cases ex:h.boards[i]? with
   | none=>rw[ex]at hd;cases hd
   | some x=>
    rw[ex]at hd
    have ed:d=bdD x:=(Option.some.inj hd).symm
    subst ed
    exact⟨_,_,rfl,fun Q=>by simp_arith [Option.map_some,Option.getD_some]⟩)
  rw[this,List.length_map]
 (simp_arith [jt];simp_arith [jO,hsD,hrl,hb,capt,Int.toNat_natCast,QhY,QhU,l1,↓w,List.length_map,l3,↓wb,l2])
 have fin:=hq ⟨upto h.hands.length f,upto h.boards.length fun k=>(h.boards[k]?.map (·.st)).getD 0⟩ ⟨QhU,QhU,fun k hd l a1 a2=>?_,fun b bd x a1 a2=>?_⟩
 ·unfold sdD at fin
  dsimp only at fin
  rw[QhX,QhX]at fin
  exact fin
 ·obtain⟨hk,el⟩:=QhT a2
  obtain⟨y1,y2,_⟩:=hh.2.2.2.2 hd (List.mem_of_getElem? a1)
  have hk2:k < row.length:=by ac_nf
  have e2:row[k]?=some row[k]:=List.getElem?_eq_getElem hk2
  have ef:f k=match h.hands[k]?,row[k]? with
   | some hd,some (.int v)=>if v=0 then hd.b0 else hd.b1
   | _,_=>0:=rfl
  rw[el]
  rcases hr01 k _ e2 with e | e<;>rw[a1,e2,e]at ef<;>rw[ef]
  ·exact y1
  ·exact y2
 ·obtain⟨hk,el⟩:=QhT a2
  obtain⟨_,y2⟩:=hh.2.1 bd (List.mem_of_getElem? a1)
  rw[el,a1];exact y2
def numS (B:Nat) (h:Hs) (st:Sd):Nat:=enc B st.ls * sts h.boards + encS (h.boards.map (·.S)) st.ss
theorem Qjp:∀ bs:List Bd,pr (bs.map (·.S))=sts bs
 | []=>rfl
 | b::bs=>by show b.S * pr (bs.map (·.S))=b.S * sts bs;rw[Qjp bs]
theorem Qjq {B:Nat}{st:Sd} (hs:SdOk h st) (hB:∀ x∈h.hands,x.lines.length<=B):∀ x∈st.ls,x < B:=fun x hx=>by
 obtain⟨k,hk⟩:=List.getElem?_of_mem hx
 have hk2:=(List.getElem?_eq_some_iff.mp hk).1
 have hk3:k < h.hands.length:=by rw[<- hs.1];exact hk2
 have e:=List.getElem?_eq_getElem hk3
 have h1:=hs.2.2.1 k _ _ e hk
 have h2:=hB _ (List.getElem_mem hk3)
 ac_nf
theorem Qjr {st:Sd} (hs:SdOk h st):∀ (i b x:Nat),(h.boards.map (·.S))[i]?=some b->st.ss[i]?=some x->x < b:=fun i b x hb hx=>by
 rw[List.getElem?_map]at hb
 cases e:h.boards[i]? with
 | none=>rw[e]at hb;cases hb
 | some bd=>
  rw[e]at hb
  cases hb
  exact hs.2.2.2 i bd x e hx
theorem Qjs {B:Nat}{st:Sd} (hl:∀ x∈h.hands,x.lines.length<=B) (hn:B ^ h.hands.length * sts h.boards<=900) (hs:SdOk h st):numS B h st < 900:=by
 have h1:=Qip (Qjq hs hl)
 have h2:=Qir (by rw[List.length_map];exact hs.2.1) (Qjr hs)
 rw[Qjp]at h2
 unfold numS
 rw[hs.1]at h1
 have:(enc B st.ls + 1) * sts h.boards<=B ^ h.hands.length * sts h.boards:=Nat.mul_le_mul_right _ h1
 rw[Nat.succ_mul]at this
 ac_nf
theorem Qjt {B:Nat}{a b:Sd} (hl:∀ x∈h.hands,x.lines.length<=B) (ha:SdOk h a) (hb:SdOk h b) (e:numS B h a=numS B h b):a=b:=by
 have a1:=Qir (by rw[List.length_map];exact ha.2.1) (Qjr ha)
 have b1:=Qir (by rw[List.length_map];exact hb.2.1) (Qjr hb)
 rw[Qjp]at a1 b1
 unfold numS at e
 have q:enc B a.ls=enc B b.ls/\encS (h.boards.map (·.S)) a.ss=encS (h.boards.map (·.S)) b.ss:=by
  generalize sts h.boards=p at e a1 b1
  have hp:0 < p:=by ac_nf
  have x1:(enc B a.ls * p + encS (h.boards.map (·.S)) a.ss) / p=enc B a.ls:=by rw[Nat.mul_comm,Nat.mul_add_div hp,Nat.div_eq_of_lt a1];simp
  have x2:(enc B b.ls * p + encS (h.boards.map (·.S)) b.ss) / p=enc B b.ls:=by rw[Nat.mul_comm,Nat.mul_add_div hp,Nat.div_eq_of_lt b1];simp
  have:enc B a.ls=enc B b.ls:=by rw[<- x1,<- x2,e]
  rw[this]at e
  exact⟨this,by ac_nf⟩
 have e1:=Qiq (by rw[ha.1,hb.1]) (Qjq ha hl) (Qjq hb hl) q.1
 have e2:=Qis (by rw[List.length_map];exact ha.2.1) (by rw[List.length_map];exact hb.2.1) (Qjr ha) (Qjr hb) q.2
 cases a;cases b
 simp only at e1 e2
 rw[e1,e2]
theorem Qju {α β:Type}{f:α->β}:∀ {l:List α},l.Nodup->(∀ a∈l,∀ b∈l,f a=f b->a=b)->(l.map f).Nodup
 | [],_,_=>List.nodup_nil
 | x::xs,hn,hi=>by
  obtain⟨h1,h2⟩:=List.nodup_cons.mp hn
  rw[List.map_cons]
  refine List.nodup_cons.mpr ⟨fun hm=>?_,Qju h2 fun a ha b hb=>hi a (by simp[ha]) b (by simp[hb])⟩
  obtain⟨y,hy,e⟩:=List.mem_map.mp hm
  have:=hi y (by simp[hy]) x (by simp) e
  exact h1 (this ▸ hy)
theorem few {l:List Sd} (hc:HsC h) (hn:l.Nodup) (ho:∀ x∈l,SdOk h x):l.length<=900:=by
 obtain⟨B,_,hl,hB⟩:=hc.2.2
 have:=Qio 900 (l.map (numS B h)) (Qju hn fun a ha b hb e=>Qjt hl (ho a ha) (ho b hb) e) (fun x hx=>by
  obtain⟨a,ha,e⟩:=List.mem_map.mp hx
  rw[<- e];exact Qjs hl hB (ho a ha))
 rwa [List.length_map]at this
theorem Qjv (st:Sd):kOk true (sdD st)=true:=Qiu st.ls st.ss
theorem Qjw (a b:Sd):eqK (sdD a) (sdD b)=decide (a=b):=by
 have:=Qiv a.ls a.ss b.ls b.ss
 show eqK (sdD a) (sdD b)=_
 unfold sdD
 refine this.trans ?_
 cases a;cases b
 simp only[Sd.mk.injEq,Bool.decide_and]
structure Wy (kvs:List (D × D)) (order:List Sd):Prop where
 keys:kvs.map (·.1)=order.map sdD
 vals:∀ p∈kvs,∃ ps,p.2=.tup ps/\ps.length < order.length
theorem Qjx {order:List Sd}:∀ {kvs:List (D × D)},kvs.map (·.1)=order.map sdD->∀ st,(lkK kvs (sdD st)).isSome=decide (st∈order):=by
 induction order with
 | nil=>
  intro kvs hk st
  cases kvs with
  | nil=>rfl
  | cons p ps=>cases hk
 | cons x xs ih=>
  intro kvs hk st
  cases kvs with
  | nil=>cases hk
  | cons p ps=>
   rw[List.map_cons,List.map_cons]at hk
   obtain⟨h1,h2⟩:=List.cons.inj hk
   unfold lkK
   rw[List.find?_cons,h1,Qjw]
   by_cases e:x=st
   ·rw[decide_eq_true e];simp[e]
   ·rw[decide_eq_false e]
    have:=ih h2 st
    unfold lkK at this
    rw[this]
    have e':¬ st=x:=fun z=>e z.symm
    simp[e']
theorem Wy.len {kvs:List (D × D)}{order:List Sd} (w:Wy kvs order):kvs.length=order.length:=by
 have:=congrArg List.length w.keys
 simpa using this
theorem Wy.new {kvs:List (D × D)}{order:List Sd}{st:Sd}{ps:List D} (w:Wy kvs order) (hn:st∉order) (hl:ps.length < order.length + 1):Wy (ptK kvs (sdD st) (.tup ps)) (order++[st]):=by
 have h0:=Qjx w.keys st
 rw[decide_eq_false hn]at h0
 have h1:(kvs.any fun p=>eqK p.1 (sdD st))=false:=by
  cases e:kvs.any fun p=>eqK p.1 (sdD st) with
  | false=>rfl
  | true=>
   obtain⟨p,hp,hq⟩:=List.any_eq_true.mp e
   have:(kvs.find? fun p=>eqK p.1 (sdD st)).isSome=true:=List.find?_isSome.mpr ⟨p,hp,hq⟩
   unfold lkK at h0
   rw[Option.isSome_map,this]at h0
   cases h0
 unfold ptK
 rw[h1,if_neg (by simp)]
 refine⟨by rw[List.map_append,List.map_append,w.keys];rfl,fun p hp=>?_⟩
 rw[List.length_append]
 rcases List.mem_append.mp hp with hp | hp
 ·obtain⟨qs,e,hq⟩:=w.vals p hp
  exact⟨qs,e,by simp;ac_nf⟩
 ·rw[List.mem_singleton.mp hp];exact⟨ps,rfl,by simpa using hl⟩
theorem Wy.at_ {kvs:List (D × D)}{order:List Sd}{st:Sd} (w:Wy kvs order) (hm:st∈order):∃ ps,lkK kvs (sdD st)=some (.tup ps)/\ps.length < order.length:=by
 have h0:=Qjx w.keys st
 rw[decide_eq_true hm]at h0
 obtain⟨d,hd⟩:=Option.isSome_iff_exists.mp h0
 have h1:=hd
 unfold lkK at h1
 obtain⟨p,hp,e⟩:=Option.map_eq_some_iff.mp h1
 obtain⟨ps,e2,hl⟩:=w.vals p (List.mem_of_find?_eq_some hp)
 exact⟨ps,by rw[hd,<- e,e2],hl⟩
inductive Rch (h:Hs) (F:List Sd):Sd->Prop
 | base {x:Sd}:x∈F->Rch h F x
 | step {x:Sd}{k:Nat}:Rch h F x->k∈fr h x->Rch h F (beh h x k)
theorem Qjy {nf : Nat} {firsts : List Sd} (hc : HsC h) (hf : ∀ x ∈ firsts, SdOk h x) (hg : s[nf]? = some (.lst (firsts.map sdD))) (hfl : firsts.length <= 100)
  (hq:∀ (no nd:Nat) (order:List Sd) (s':Sto),(∀ x∈order,SdOk h x)->order.Nodup->(∀ x∈firsts,x∈order)->(∀ x,x∈order↔Rch h firsts x)->s'[no]?=some (.lst (order.map sdD))->s.length<=no->Ext s s'->Q (.tup [.ref no,.dic nd]) s'):wp (jA [hsD h,.ref nf]) Q s:=by
 have hh:=hc.1
 have g0:(s++[MO.dct true []]++[MO.lst []])[nf]?=some (.lst (firsts.map sdD)):=Qij (Qij hg)
 have q0:∀ Q,wp (getL nf) Q (s++[MO.dct true []]++[MO.lst []])=Q (firsts.map sdD) (s++[MO.dct true []]++[MO.lst []]):=fun Q=>Qhu g0
 (simp_arith [jA];simp_arith [jR,Nat.zero_le,↓q0])
 have lnf:=Qix hg
 have x0:Ext s (s++[MO.dct true []]++[MO.lst []]):=((Ext.refl _).snoc _).snoc _
 have gd:(s++[MO.dct true []]++[MO.lst []])[s.length]?=some (.dct true []):=Qij Qii
 have go:(s++[MO.dct true []]++[MO.lst []])[(s++[MO.dct true []]).length]?=some (.lst []):=Qii
 have lo:s.length < (s++[MO.dct true []]).length:=by simp
 have lnn:nf < (s++[MO.dct true []]).length:=by simp;ac_nf
 generalize (s++[MO.dct true []]).length=no at go lo lnn ⊢
 generalize s++[MO.dct true []]++[MO.lst []]=u0 at x0 gd go g0 ⊢
 let IV:List Sd->Sto->Prop:=fun order u=>∃ kvs,u[s.length]?=some (.dct true kvs)/\u[no]?=some (.lst (order.map sdD))/\Wy kvs order/\order.Nodup/\(∀ x∈order,SdOk h x/\Rch h firsts x)/\Ext s u
 have snoc : ∀ (order : List Sd) (u : Sto) (kvs : List (D × D)) (st : Sd) (ps : List D), u[s.length]? = some (.dct true kvs) -> u[no]? = some (.lst (order.map sdD)) -> Wy kvs order -> order.Nodup -> (∀ x ∈ order, SdOk h x /\ Rch h firsts x) -> Ext s u -> st ∉ order -> SdOk h st /\ Rch h firsts st -> ps.length < order.length + 1 ->
   IV (order++[st]) ((u.set s.length (.dct true (ptK kvs (sdD st) (.tup ps)))).set no (.lst (order.map sdD++[sdD st]))):=fun order u kvs st ps g1 g2 w nd hok hx hn hst hl=>by
  refine⟨_,by rw[List.getElem?_set_ne (by ac_nf),List.getElem?_set_self (Qix g1)],by rw[List.getElem?_set_self (by rw[List.length_set];exact Qix g2),List.map_append];rfl,w.new hn hl,?_,fun x hx=>?_,(hx.put (Nat.le_refl _)).put (by ac_nf)⟩
  ·exact List.nodup_append.mpr ⟨nd,by simp,fun a ha b hb=>by rw[List.mem_singleton.mp hb];exact fun e=>hn (e ▸ ha)⟩
  ·rcases List.mem_append.mp hx with hx | hx
   ·exact hok x hx
   ·rw[List.mem_singleton.mp hx];exact hst
 refine QhH (fun i l u=>∃ (order:List Sd) (y4:Option D),l=[some (hsD h),some (.ref nf),some (.dic s.length),some (.ref no),y4,none,none,none,none]/\u[nf]?=some (.lst (firsts.map sdD))/\(∀ x∈firsts.take i,x∈order)/\(∀ x∈order,x∈firsts)/\IV order u) (fun i l u pq115=>by obtain⟨_,_,_,g,_⟩:=pq115;exact g)
  ⟨[],none,rfl,g0,fun x hx=>absurd hx (by simp),fun x hx=>absurd hx (by simp),[],gd,go,⟨rfl,fun p hp=>absurd hp (by simp)⟩,List.nodup_nil,fun x hx=>absurd hx (by simp),x0⟩ (fun i d l u hd hZ0=>?_) (fun l u hZ0=>?_)
 ·obtain⟨order,y4,el,gf,hin,hsub,kvs,g1,g2,w,nd,hok,hx⟩:=hZ0
  subst el
  rw[List.getElem?_map]at hd
  cases ex:firsts[i]? with
  | none=>rw[ex]at hd;cases hd
  | some st=>
   rw[ex]at hd
   have ed:d=sdD st:=(Option.some.inj hd).symm
   subst ed
   have hst:=hf st (List.mem_of_getElem? ex)
   have hl:=few hc nd fun x hx=>(hok x hx).1
   have hi:=(List.getElem?_eq_some_iff.mp ex).1
   have tk:firsts.take (i + 1)=firsts.take i++[st]:=by
    rw[List.take_succ_eq_append_getElem hi,(List.getElem?_eq_some_iff.mp ex).2]
   have q1:∀ Q,wp (hasK s.length (sdD st)) Q u=Q (lkK kvs (sdD st)).isSome u:=fun Q=>Qig g1 (Qjv st)
   simp_arith [↓q1,Qjx w.keys]
   by_cases hm:st∈order
   ·rw[decide_eq_true hm]
    simp_arith [Bool.false_eq_true]
    exact⟨order,_,rfl,gf,fun x hx'=>by
     rw[tk]at hx'
     rcases List.mem_append.mp hx' with hx' | hx'
     ·exact hin x hx'
     ·rw[List.mem_singleton.mp hx'];exact hm,hsub,kvs,g1,g2,w,nd,hok,hx⟩
   ·rw[decide_eq_false hm]
    have q2:∀ v Q,wp (storeK s.length (sdD st) v) Q u=Q () (u.set s.length (.dct true (ptK kvs (sdD st) v))):=fun v Q=>Qif g1 (Qjv st) (QhG (by rw[w.len];ac_nf))
    have g3:∀ v,(u.set s.length (MO.dct true (ptK kvs (sdD st) v)))[no]?=some (.lst (order.map sdD)):=fun v=>by rw[List.getElem?_set_ne (by ac_nf)];exact g2
    have q3:∀ v Q,wp (getL no) Q (u.set s.length (MO.dct true (ptK kvs (sdD st) v)))=Q (order.map sdD) (u.set s.length (MO.dct true (ptK kvs (sdD st) v))):=fun v Q=>Qhu (g3 v)
    have q4:∀ v es Q,wp (putL no es) Q (u.set s.length (MO.dct true (ptK kvs (sdD st) v)))=Q () ((u.set s.length (MO.dct true (ptK kvs (sdD st) v))).set no (.lst es)):=fun v es Q=>Qhv (g3 v)
    simp_arith [Nat.zero_le,↓q2,↓q3,↓q4,List.length_map]
    refine⟨QhG (by ac_nf),order++[st],_,rfl,?_,fun x hx'=>?_,fun x hx'=>?_,snoc order u kvs st [] g1 g2 w nd hok hx hm ⟨hst,.base (List.mem_of_getElem? ex)⟩ (by simp)⟩
    ·rw[List.getElem?_set_ne (by ac_nf),List.getElem?_set_ne (by ac_nf)];exact gf
    ·rw[tk]at hx'
     rcases List.mem_append.mp hx' with hx' | hx'
     ·exact List.mem_append_left _ (hin x hx')
     ·exact List.mem_append_right _ hx'
    ·rcases List.mem_append.mp hx' with hx' | hx'
     ·exact hsub x hx'
     ·rw[List.mem_singleton.mp hx'];exact List.mem_of_getElem? ex
 ·obtain⟨order,y4,el,gf,hin,hsub,kvs,g1,g2,w,nd,hok,hx⟩:=hZ0
  subst el
  rw[List.length_map,List.take_length]at hin
  simp_arith []
  refine Qib (fun l u=>∃ (order:List Sd) (at_:Nat) (y4 y6 y7 y8:Option D),l=[some (hsD h),some (.ref nf),some (.dic s.length),some (.ref no),y4,some (.int at_),y6,y7,y8]/\at_<=order.length/\(∀ x∈firsts,x∈order)/\(∀ i x,i < at_->order[i]?=some x->∀ k∈fr h x,beh h x k∈order)/\IV order u)
   (fun (l:Loc) (_:Sto)=>match (l[5]?:Option (Option D)) with
    | some (some (D.int i))=>(1000 - i).toNat
    | _=>0) ⟨order,0,y4,none,none,none,rfl,Nat.zero_le _,hin,fun i x hi=>absurd hi (by ac_nf),kvs,g1,g2,w,nd,hok,hx⟩ (fun l u hZ0=>?_)
  obtain⟨order,at_,y4,y6,y7,y8,el,hat,hin,hcl,kvs,g1,g2,w,nd,hok,hx⟩:=hZ0
  subst el
  have hl:=few hc nd fun x hx=>(hok x hx).1
  have q1:∀ Q,wp (getL no) Q u=Q (order.map sdD) u:=fun Q=>Qhu g2
  simp_arith [↓q1,List.length_map]
  by_cases hlt:(at_:Int) < (order.length:Int)
  ·rw[if_pos hlt]
   have hlt':at_ < order.length:=by ac_nf
   have hm:order[at_]∈order:=List.getElem_mem hlt'
   have e1:order[at_]?=some order[at_]:=List.getElem?_eq_getElem hlt'
   generalize order[at_]=here at hm e1
   have hhere:=(hok here hm).1
   have q2:∀ (Q:D->Sto->Prop) s,wp (itemD (order.map sdD) (at_:Int)) Q s=Q (sdD here) s:=fun Q s=>QhL (by rw[List.getElem?_map,e1];rfl)
   have q3:∀ (Q:D->Sto->Prop) s,wp (jd [hsD h,sdD here]) Q s=Q (.ref s.length) (s++[.lst ((fr h here).map natD)]):=fun Q s=>Qje hh hhere
   have q4:∀ Q:List D->Sto->Prop,wp (getL u.length) Q (u++[MO.lst ((fr h here).map natD)])=Q ((fr h here).map natD) (u++[MO.lst ((fr h here).map natD)]):=fun Q=>Qhu Qii
   simp_arith [↓q2,↓q3,↓q4]
   have lu1:=Qix g1
   have lu2:=Qix g2
   refine QhH (fun i l v=>∃ (order':List Sd) (y7 y8:Option D),l=[some (hsD h),some (.ref nf),some (.dic s.length),some (.ref no),y4,some (.int ((at_:Int) + 1)),some (sdD here),y7,y8]/\v[u.length]?=some (.lst ((fr h here).map natD))/\here∈order'/\at_ + 1<=order'.length/\(∀ x∈firsts,x∈order')/\(∃ t,order'=order++t)/\(∀ k∈(fr h here).take i,beh h here k∈order')/\IV order' v) (fun i l v pq116=>by obtain⟨_,_,_,_,g,_⟩:=pq116;exact g)
    ⟨order,_,_,rfl,Qii,hm,by ac_nf,hin,⟨[],by simp⟩,by simp,kvs,Qij g1,Qij g2,w,nd,hok,hx.snoc _⟩ (fun i d l v hd hZ0=>?_) (fun l v hZ0=>?_)
   ·obtain⟨order',y7,y8,el,gv,hme,hat',hin',⟨tt,htt⟩,hdn,kvs',g1',g2',w',nd',hok',hx'⟩:=hZ0
    subst el
    rw[List.getElem?_map]at hd
    cases ek:(fr h here)[i]? with
    | none=>rw[ek]at hd;cases hd
    | some k=>
     rw[ek]at hd
     have ed:d=natD k:=(Option.some.inj hd).symm
     subst ed
     have hk:=Qjf (List.mem_of_getElem? ek)
     have hst:=Qi9 hh hhere hk
     have hl':=few hc nd' fun x hx=>(hok' x hx).1
     have hrc:=Rch.step (hok' here hme).2 (List.mem_of_getElem? ek)
     have hi':=(List.getElem?_eq_some_iff.mp ek).1
     have tk':(fr h here).take (i + 1)=(fr h here).take i++[k]:=by
      rw[List.take_succ_eq_append_getElem hi',(List.getElem?_eq_some_iff.mp ek).2]
     have q5:∀ (Q:D->Sto->Prop) s,wp (jb [hsD h,sdD here,natD k]) Q s=Q (sdD (beh h here k)) s:=fun Q s=>Qjd hh hhere hk
     have q6:∀ Q,wp (hasK s.length (sdD (beh h here k))) Q v=Q (lkK kvs' (sdD (beh h here k))).isSome v:=fun Q=>Qig g1' (Qjv _)
     simp_arith [↓q5,↓q6,Qjx w'.keys]
     generalize hstk:beh h here k=st at hst hrc ⊢
     by_cases hm':st∈order'
     ·rw[decide_eq_true hm']
      simp_arith [Bool.false_eq_true]
      exact⟨order',_,_,rfl,gv,hme,hat',hin',⟨tt,htt⟩,fun k' hk'=>by
       rw[tk']at hk'
       rcases List.mem_append.mp hk' with z | z
       ·exact hdn k' z
       ·rw[List.mem_singleton.mp z,hstk];exact hm',kvs',g1',g2',w',nd',hok',hx'⟩
     ·rw[decide_eq_false hm']
      obtain⟨ps,hps,hpl⟩:=w'.at_ hme
      have q7:∀ Q,wp (itemK s.length (sdD here)) Q v=Q (.tup ps) v:=fun Q=>Qie g1' (Qjv _) hps
      have q8:∀ z Q,wp (storeK s.length (sdD st) z) Q v=Q () (v.set s.length (.dct true (ptK kvs' (sdD st) z))):=fun z Q=>Qif g1' (Qjv st) (QhG (by rw[w'.len];ac_nf))
      have g3:∀ z,(v.set s.length (MO.dct true (ptK kvs' (sdD st) z)))[no]?=some (.lst (order'.map sdD)):=fun z=>by rw[List.getElem?_set_ne (by ac_nf)];exact g2'
      have q9:∀ z Q,wp (getL no) Q (v.set s.length (MO.dct true (ptK kvs' (sdD st) z)))=Q (order'.map sdD) (v.set s.length (MO.dct true (ptK kvs' (sdD st) z))):=fun z Q=>Qhu (g3 z)
      have q10:∀ z es Q,wp (putL no es) Q (v.set s.length (MO.dct true (ptK kvs' (sdD st) z)))=Q () ((v.set s.length (MO.dct true (ptK kvs' (sdD st) z))).set no (.lst es)):=fun z es Q=>Qhv (g3 z)
      have l1:1<=lim:=QhF (by ac_nf)
      have l2:ps.length + 1<=lim:=QhF (by ac_nf)
      simp_arith [l1,l2,↓q7,↓q8,↓q9,↓q10,List.length_map]
      refine⟨QhG (by ac_nf),order'++[st],_,_,rfl,?_,List.mem_append_left _ hme,by simp;ac_nf,fun x hx=>List.mem_append_left _ (hin' x hx),⟨tt++[st],by rw[htt,List.append_assoc]⟩,fun k' hk'=>by
       rw[tk']at hk'
       rcases List.mem_append.mp hk' with z | z
       ·exact List.mem_append_left _ (hdn k' z)
       ·rw[List.mem_singleton.mp z,hstk];exact List.mem_append_right _ (by simp),snoc order' v kvs' st (ps++[natD k]) g1' g2' w' nd' hok' hx' hm' ⟨hst,hrc⟩ (by simp;ac_nf)⟩
      rw[List.getElem?_set_ne (by ac_nf),List.getElem?_set_ne (by ac_nf)];exact gv
   ·obtain⟨order',y7,y8,el,gv,hme,hat',hin',⟨tt,htt⟩,hdn,hiv⟩:=hZ0
    subst el
    simp_arith []
    rw[List.length_map,List.take_length]at hdn
    refine⟨⟨order',at_ + 1,y4,_,_,_,rfl,hat',hin',fun i x hi e k hk=>?_,hiv⟩,?_⟩
    ·by_cases z:i=at_
     ·subst z
      rw[htt,List.getElem?_append_left hlt',e1]at e
      cases e
      exact hdn k hk
     ·rw[htt,List.getElem?_append_left (by ac_nf)]at e
      rw[htt]
      exact List.mem_append_left _ (hcl i x (by ac_nf) e k hk)
    ac_nf
  ·rw[if_neg hlt]
   have l2:2<=lim:=QhF (by ac_nf)
   simp_arith [l2]
   refine hq _ _ order u (fun x hx=>(hok x hx).1) nd hin (fun x=>⟨fun z=>(hok x z).2,fun z=>?_⟩) g2 (by ac_nf) hx
   induction z with
   | base z=>exact hin _ z
   | step _ hk ih=>
    obtain⟨i,hi⟩:=List.getElem?_of_mem ih
    exact hcl i _ (by have:=(List.getElem?_eq_some_iff.mp hi).1;ac_nf) hi _ hk
end
open PySem (Str)
theorem Qjz {f:D->D->Option Bool} (hf:∀ x y:Nat,f (natD x) (natD y)=some (decide (x=y))):∀ (a b:List Nat),allF f (a.map natD) (b.map natD)=some (decide (a=b))
 | [],[]=>by simp[allF]
 | [],_::_=>by simp[allF]
 | _::_,[]=>by simp[allF]
 | x::xs,y::ys=>by
  rw[List.map_cons,List.map_cons]
  unfold allF
  rw[hf x y,Qjz hf xs ys]
  by_cases e:x=y
  ·subst e
   rw[decide_eq_true rfl]
   simp
  ·rw[decide_eq_false e]
   simp[e]
theorem QjA {n x y:Nat}:eqF n (natD x) (natD y)=some (decide (x=y)):=by
 have h:((x:Int) == (y:Int))=decide (x=y):=by
  by_cases e:x=y
  ·subst e;simp
  ·rw[decide_eq_false e]
   have:¬ (x:Int)=y:=by ac_nf
   simp[this]
 cases n with
 | zero=>show some ((x:Int) == (y:Int))=_;rw[h]
 | succ n=>show some ((x:Int) == (y:Int))=_;rw[h]
theorem QjB {a b:List Nat}{Q:D->Sto->Prop}{s:Sto}:wp (eqD (.tup (a.map natD)) (.tup (b.map natD))) Q s=Q (.bl (decide (a=b))) s:=by
 have h:eqF 50 (.tup (a.map natD)) (.tup (b.map natD))=some (decide (a=b)):=by
  show allF (eqF 49) (a.map natD) (b.map natD)=_
  exact Qjz (fun x y=>QjA) a b
 unfold eqD eqB
 rw[Qht]
 dsimp only
 rw[h]
 dsimp only
 rw[wp_ret,wp_ret]
section
variable {p q:Nat}{s s1:Sto}{Q:D->Sto->Prop}{h:Hs}{st:Sd}
theorem QjC (hc:HsC h) (hq:∀ (no:Nat) (order:List Sd) (s':Sto),(∀ x∈order,SdOk h x)->order.Nodup->1<=order.length->order.length<=900->s'[no]?=some (.lst (order.map sdD))->s.length<=no->Ext s s'->Q (.ref no) s'):wp (jh [hsD h]) Q s:=by
 have hh:=hc.1
 have z4:=hh.2.2.2.1
 have z3:=hh.2.2.1
 (simp_arith [jh];simp_arith [jI])
 refine Qjn (by ac_nf) fun r s' hr hg hx=>?_
 have q1:∀ Q,wp (getL r) Q s'=Q ((inS h.hands.length).map D.tup) s':=fun Q=>Qhu hg
 have hcnt:=Qji h.hands.length
 have h8:2 ^ h.hands.length<=8:=by
  calc 2 ^ h.hands.length<=2 ^ 3:=Nat.pow_le_pow_right (by ac_nf) z4
   _=8:=rfl
 have h1:1<=2 ^ h.hands.length:=Nat.one_le_two_pow
 simp_arith [↓q1,capt,List.length_map]
 refine⟨QhF (by ac_nf),?_⟩
 refine Qil (fun d=>∃ row,row∈inS h.hands.length/\d=.tup row) (fun d=>∃ st,d=sdD st/\SdOk h st) (fun u=>s'=u) (fun u e=>by subst e;exact hg) rfl (fun d hd=>by
  obtain⟨row,hrow,e⟩:=List.mem_map.mp hd
  exact⟨row,hrow,e.symm⟩) (fun d u hZ0 es=>?_) (fun out u ho hP es=>?_)
 ·obtain⟨row,hrow,e⟩:=hZ0
  subst e es
  simp_arith []
  exact Qjo hh hrow fun st hst=>⟨⟨st,rfl,hst⟩,rfl⟩
 ·subst es
  rw[List.length_map]at ho
  have conv:∀ {ds:List D},(∀ d∈ds,∃ st,d=sdD st/\SdOk h st)->∃ xs:List Sd,ds=xs.map sdD/\∀ x∈xs,SdOk h x:=by
   intro ds
   induction ds with
   | nil=>intro _;exact⟨[],rfl,fun x hx=>absurd hx (by simp)⟩
   | cons d ds ih=>
    intro hP
    obtain⟨x,e,hx⟩:=hP d (by simp)
    obtain⟨xs,e2,h2⟩:=ih fun y hy=>hP y (by simp[hy])
    refine⟨x::xs,by rw[e,e2];rfl,fun y hy=>?_⟩
    rcases List.mem_cons.mp hy with hy | hy
    ·rw[hy];exact hx
    ·exact h2 y hy
  obtain⟨firsts,ef,hf⟩:=conv hP
  subst ef
  rw[List.length_map]at ho
  simp_arith []
  refine Qjy hc hf Qii (by ac_nf) fun no nd order v hok hnd hin _ hgo hle hxv=>?_
  simp_arith []
  have hl:=few hc hnd hok
  have h0:0 < order.length:=by
   cases firsts with
   | nil=>simp at ho;ac_nf
   | cons x xs=>exact List.length_pos_of_mem (hin x (by simp))
  have hle2:=hx.le
  have hx2:Ext s v:=(hx.snoc _).trans hxv
  refine hq no order v hok hnd h0 hl hgo ?_ hx2
  simp at hle
  ac_nf
theorem QjD {no n : Nat} {order : List Sd} (hp : PK p q s s1) (hg : s1[no]? = some (.lst (order.map sdD))) (hnp : no ≠ p) (hnq : no ≠ q) (h1 : 1 <= order.length) (h2 : order.length <= 1000) (hn : n <= 100) (hok : ∀ x ∈ order, SdOk h x)
  (hq:∀ (m:Nat) (xs:List Sd) (s':Sto),(∀ x∈xs,SdOk h x)->(∀ x∈xs,x∈order)->xs.length=n->s'[m]?=some (.lst (xs.map sdD))->s1.length<=m->PK p q s s'->Kept p q s1 s'->Q (.ref m) s'):wp (jo [.dic p,.ref no,.int n]) Q s1:=by
 (simp_arith [jo];simp_arith [jT,capt,Int.toNat_natCast,QhE])
 refine⟨rngb (by ac_nf) (by ac_nf),QhF (by ac_nf),?_⟩
 refine QhB (fun i out u=>∃ xs:List Sd,out=xs.map sdD/\xs.length=i/\(∀ x∈xs,x∈order)/\PK p q s u/\Kept p q s1 u) (fun _ _ _ _=>trivial) ⟨[],rfl,rfl,fun x hx=>absurd hx (by simp),hp,Kept.refl⟩ (fun i d out u hd hZ0=>?_) (fun out u hZ0=>?_)
 ·obtain⟨xs,eo,hl,hx,hk,w⟩:=hZ0
  have q1:∀ Q,wp (getL no) Q u=Q (order.map sdD) u:=fun Q=>Qhu (w.same hnp hnq hg)
  simp_arith [↓q1,List.length_map]
  refine QiI hk (by ac_nf) (by ac_nf) fun r v r0 r1 hkv wv=>?_
  obtain⟨r,rfl⟩:=toN r0
  have hr:r < order.length:=by ac_nf
  have q2:∀ Q,wp (getL no) Q v=Q (order.map sdD) v:=fun Q=>Qhu ((w.trans wv).same hnp hnq hg)
  have q3:∀ (Q:D->Sto->Prop) s,wp (itemD (order.map sdD) (r:Int)) Q s=Q (sdD order[r]) s:=fun Q s=>QhL (by rw[List.getElem?_map,List.getElem?_eq_getElem hr];rfl)
  simp_arith [↓q2,↓q3]
  refine⟨xs++[order[r]],by rw[eo,List.map_append];rfl,by simp[hl],fun x hx'=>?_,hkv,w.trans wv⟩
  rcases List.mem_append.mp hx' with hx' | hx'
  ·exact hx x hx'
  ·rw[List.mem_singleton.mp hx'];exact List.getElem_mem hr
 ·obtain⟨xs,eo,hl,hx,hk,w⟩:=hZ0
  rw[QhE]at hl
  subst eo
  simp_arith []
  exact hq _ xs _ (fun x hx'=>hok x (hx x hx')) hx hl Qii w.le hk.snoc w.snoc
end
open PySem (Str)
theorem QjE:((("settle":Str)) == "settle")=true:=by nofun
theorem QjF:((("do":Str)) == "settle")=false:=by nofun
section
variable {p q:Nat}{s s1 s2:Sto}{Q:D->Sto->Prop}{h:Hs}{st a b:Sd}
theorem QjG {k:Nat} (hh:HsOk h) (hs:SdOk h st) (hk:k < h.hands.length):wp (jw [hsD h,sdD st,.int k]) Q s=Q (lnD (lineAt h st k)) s:=by
 obtain⟨hd,l,e1,e2,hl,e3,_⟩:=Qi5 hh hs hk
 have w1:∀ Q s,wp (itemD (h.hands.map hdD) (k:Int)) Q s=Q (.tup [.tup [natD hd.b0,natD hd.b1],.tup (hd.lines.map lnD)]) s:=fun Q s=>QhL (by rw[List.getElem?_map,e1];rfl)
 have w2:∀ Q s,wp (itemD (st.ls.map natD) (k:Int)) Q s=Q (.int (l:Nat)) s:=fun Q s=>Qi4 e2
 have w3:∀ Q s,wp (itemD (hd.lines.map lnD) (l:Int)) Q s=Q (lnD (lineAt h st k)) s:=fun Q s=>QhL (by rw[List.getElem?_map,e3];rfl)
 (simp_arith [jw];simp_arith [jZ,hsD,sdD,↓w1,↓w2,↓w3])
theorem QjH {xs:List D}{i:Nat}{v:D} (hi:i < xs.length) (hl:xs.length<=100):wp (jg [.tup xs,.int i,v]) Q s=Q (.tup (xs.set i v)) s:=by
 have c1:¬(sIx xs.length 0 none=0/\sIx xs.length xs.length (some (i:Int))=xs.length):=by
  unfold sIx;simp only[Int.toNat_natCast];rw[if_neg (by ac_nf)];ac_nf
 have c2':¬(sIx xs.length 0 (some ((i:Int) + 1))=0/\sIx xs.length xs.length none=xs.length):=by
  unfold sIx;dsimp only;rw[if_neg (by ac_nf)];ac_nf
 have e1:cutD xs none (some (i:Int))=xs.take i:=by
  unfold cutD sIx;simp only[Int.toNat_natCast];rw[if_neg (by ac_nf),List.drop_zero];congr 1;ac_nf
 have e2:cutD xs (some ((i:Int) + 1)) none=xs.drop (i + 1):=by
  unfold cutD sIx
  have:(if (i:Int) + 1 < 0 then ((i:Int) + 1 + (xs.length:Int)).toNat else min ((i:Int) + 1).toNat xs.length)=i + 1:=by rw[if_neg (by ac_nf)];ac_nf
  simp only[this]
  exact List.take_of_length_le (by rw[List.length_drop];exact Nat.le_refl _)
 have l1:1<=lim:=QhF (by ac_nf)
 have l2:(xs.take i).length + 1<=lim:=QhF (by rw[List.length_take];ac_nf)
 have l3:(xs.take i++[v]).length + (xs.drop (i + 1)).length<=lim:=QhF (by rw[List.length_append,List.length_take,List.length_drop];simp;ac_nf)
 (simp_arith [jg];simp_arith [jY,c1,c2',not_false_eq_true,e1,e2,l1,l2])
 rw[List.set_eq_take_append_cons_drop,if_pos hi]
 have:xs.take i++[v]++xs.drop (i + 1)=xs.take i++v::xs.drop (i + 1):=by simp
 rw[this]
 exact propext ⟨fun z=>z.2,fun z=>⟨l3,z⟩⟩
theorem QjI {bd:Bd}{x d:Nat} (hx:x < bd.S) (hd:d < bd.dn):wp (ji [tabD bd.S bd.dn bd.nx bd.un,.int x,.int d]) Q s=Q (.int (bd.nx x d:Nat)) s:=by
 (simp_arith [ji];simp_arith [jG,tabD,↓Qh2 hx,↓Qh2 hd])
theorem QjJ {bd:Bd}{x d:Nat} (hx:x < bd.S) (hd:d < bd.dn):wp (jB [tabD bd.S bd.dn bd.nx bd.un,.int x,.int d]) Q s=Q (.int (bd.un x d:Nat)) s:=by
 (simp_arith [jB];simp_arith [j3,tabD,↓Qh2 hx,↓Qh2 hd])
theorem QjK {k:Nat} (hh:HsOk h) (hs:SdOk h st) (hk:k < h.hands.length):wp (ju [hsD h,sdD st,.int k]) Q s=Q (sdD (beh h st k)) s:=by
 obtain⟨hd,l,e1,e2,hl,e3,ok⟩:=Qi5 hh hs hk
 have w:∀ Q s,wp (jw [hsD h,sdD st,.int k]) Q s=Q (lnD (lineAt h st k)) s:=fun Q s=>QjG hh hs hk
 cases el:lineAt h st k with
 | settle v=>
  rw[Qi8 el]
  rw[el]at w
  simp only[lnD]at w
  (simp_arith [ju];simp_arith [jQ,↓w,QjE])
 | act b d gs=>
  rw[el]at ok w
  obtain⟨bd,x,g,f1,f2,f3,f4,f5,f6,f7,f8⟩:=Qi6 hh hs ok
  rw[Qi7 el f1 f2 f5]
  simp only[lnD]at w
  have hkl:k < (st.ls.map natD).length:=by rw[List.length_map,hs.1];exact hk
  have hbl:b < (st.ss.map natD).length:=by rw[List.length_map];exact (List.getElem?_eq_some_iff.mp f2).1
  have z1:=hs.1
  have z2:=hs.2.1
  have z3:=hh.1
  have z4:=hh.2.2.2.1
  have w1:∀ Q s,wp (itemD (h.boards.map bdD) (b:Int)) Q s=Q (.tup [tabD bd.S bd.dn bd.nx bd.un,natD bd.st]) s:=fun Q s=>QhL (by rw[List.getElem?_map,f1];rfl)
  have w2:∀ Q s,wp (itemD (st.ss.map natD) (b:Int)) Q s=Q (.int (x:Nat)) s:=fun Q s=>Qi4 f2
  have w3:∀ Q s,wp (itemD (gs.map natD) ((bd.un x d:Nat):Int)) Q s=Q (.int (g:Nat)) s:=fun Q s=>Qi4 f5
  have w4:∀ Q s,wp (jB [tabD bd.S bd.dn bd.nx bd.un,.int x,.int d]) Q s=Q (.int (bd.un x d:Nat)) s:=fun Q s=>QjJ f3 f4
  have w5:∀ Q s,wp (ji [tabD bd.S bd.dn bd.nx bd.un,.int x,.int d]) Q s=Q (.int (bd.nx x d:Nat)) s:=fun Q s=>QjI f3 f4
  have w6:∀ Q s,wp (jg [.tup (st.ls.map natD),.int k,.int g]) Q s=Q (.tup ((st.ls.map natD).set k (.int g))) s:=fun Q s=>QjH hkl (by rw[List.length_map];ac_nf)
  have w7:∀ Q s,wp (jg [.tup (st.ss.map natD),.int b,.int (bd.nx x d:Nat)]) Q s=Q (.tup ((st.ss.map natD).set b (.int (bd.nx x d:Nat)))) s:=fun Q s=>QjH hbl (by rw[List.length_map];ac_nf)
  have l2:2<=lim:=QhF (by ac_nf)
  unfold natD at w
  have nd:∀ n:Nat,D.int (n:Int)=natD n:=fun _=>rfl
  (simp_arith [ju];simp_arith [jQ,↓w,Qi3,QjF,Bool.false_eq_true,if_false])
  unfold hsD sdD
  unfold natD at w2 w3 w6 w7 ⊢
  simp_arith [↓w1,↓w2,↓w3,↓w4,↓w5,↓w6,↓w7,l2]
  rw[List.map_set,List.map_set]
def sm (a b:Sd) (k:Nat):Bool:=decide (a.ls[k]?=b.ls[k]?) && decide (a.ss=b.ss)
theorem QjL {k:Nat} (ha:SdOk h a) (hb:SdOk h b) (hk:k < h.hands.length):wp (jn [sdD a,sdD b,.int k]) Q s=Q (.bl (sm a b k)) s:=by
 have k1:k < a.ls.length:=by rw[ha.1];exact hk
 have k2:k < b.ls.length:=by rw[hb.1];exact hk
 have e1:=List.getElem?_eq_getElem k1
 have e2:=List.getElem?_eq_getElem k2
 have w1:∀ (Q:D->Sto->Prop) s,wp (itemD (a.ls.map natD) (k:Int)) Q s=Q (.int (a.ls[k]:Nat)) s:=fun Q s=>Qi4 e1
 have w2:∀ (Q:D->Sto->Prop) s,wp (itemD (b.ls.map natD) (k:Int)) Q s=Q (.int (b.ls[k]:Nat)) s:=fun Q s=>Qi4 e2
 have w3:∀ (Q:D->Sto->Prop) s,wp (eqD (.tup (a.ss.map natD)) (.tup (b.ss.map natD))) Q s=Q (.bl (decide (a.ss=b.ss))) s:=fun Q s=>QjB
 have es:sm a b k=(decide (a.ls[k]=b.ls[k]) && decide (a.ss=b.ss)):=by unfold sm;rw[e1,e2];simp
 have eb:((a.ls[k]:Int) == (b.ls[k]:Int))=decide (a.ls[k]=b.ls[k]):=by
  by_cases e:a.ls[k]=b.ls[k]
  ·rw[e];simp
  ·rw[decide_eq_false e]
   have:¬ (a.ls[k]:Int)=b.ls[k]:=by ac_nf
   simp[this]
 unfold sdD
 (simp_arith [jn];simp_arith [j0,↓w1,↓w2,↓w3,eb])
 rw[es]
 cases decide (a.ls[k]=b.ls[k])<;>simp[andB]
end
open PySem (Str)
section
variable {p q:Nat}{s s1 s2:Sto}{Q:D->Sto->Prop}{h:Hs}{st a b:Sd}{k n:Nat}
theorem QjM {xs:List D}{d:D}{Q:D->Sto->Prop}{s:Sto} (h:xs.getLast?=some d):wp (itemD xs (-1)) Q s=Q d s:=by
 have hl:xs≠[]:=by intro e;rw[e]at h;simp at h
 have hp:0 < xs.length:=List.length_pos_iff.mpr hl
 have e:itemD xs (-1)=ret d:=by
  unfold itemD MM.ixN
  rw[if_neg (by ac_nf),if_pos (by ac_nf)]
  dsimp only
  have:(-1 + (xs.length:Int)).toNat=xs.length - 1:=by ac_nf
  rw[this,<- List.getLast?_eq_getElem?,h]
 rw[e,wp_ret]
def aft (h:Hs) (st:Sd) (ts:List Nat):Sd:=ts.foldl (fun x k=>beh h x k) st
def TsOk (h:Hs) (ts:List Nat):Prop:=ts.length<=2/\∀ t∈ts,t < h.hands.length
theorem QjN (hh:HsOk h):∀ {ts:List Nat}{st:Sd},SdOk h st->(∀ t∈ts,t < h.hands.length)->SdOk h (aft h st ts)
 | [],_,hs,_=>hs
 | t::ts,st,hs,ht=>QjN hh (ts:=ts) (Qi9 hh hs (ht t (by simp))) fun x hx=>ht x (by simp[hx])
theorem QjO {ts:List Nat}{i t:Nat} (e:ts[i]?=some t):aft h st (ts.take (i + 1))=beh h (aft h st (ts.take i)) t:=by
 obtain⟨hi,e2⟩:=List.getElem?_eq_some_iff.mp e
 rw[List.take_succ_eq_append_getElem hi,e2]
 unfold aft
 rw[List.foldl_append]
 rfl
theorem QjP {ts:List Nat} (hh:HsOk h) (hs:SdOk h st) (ht:TsOk h ts) (hq:∀ r xs s',s'[r]?=some (.lst xs)->xs.getLast?=some (sdD (aft h st ts))->s.length<=r->Ext s s'->Q (.ref r) s'):wp (jJ [hsD h,sdD st,.tup (ts.map natD)]) Q s:=by
 have l1:1<=lim:=QhF (by ac_nf)
 have z:=ht.1
 (simp_arith [jJ];simp_arith [j5,l1])
 refine QhH (fun i l u=>∃ (xs:List D) (y:Option D),l=[some (hsD h),some (sdD st),some (.tup (ts.map natD)),some (.ref s.length),y]/\u[s.length]?=some (.lst xs)/\xs.length=i + 1/\xs.getLast?=some (sdD (aft h st (ts.take i)))/\Ext s u) (fun _ _ _ _=>trivial)
  ⟨_,none,rfl,Qii,rfl,rfl,(Ext.refl _).snoc _⟩ (fun i d l u hd hW=>?_) (fun l u hW=>?_)
 ·obtain⟨xs,y,el,g,hl,hx,ex⟩:=hW
  subst el
  rw[List.getElem?_map]at hd
  cases et:ts[i]? with
  | none=>rw[et]at hd;cases hd
  | some t=>
   rw[et]at hd
   have ed:d=natD t:=(Option.some.inj hd).symm
   subst ed
   have hi:=(List.getElem?_eq_some_iff.mp et).1
   have ho:SdOk h (aft h st (ts.take i)):=QjN hh hs fun x hx=>ht.2 x (List.mem_of_mem_take hx)
   have q1:∀ Q,wp (getL s.length) Q u=Q xs u:=fun Q=>Qhu g
   have q2:∀ es Q,wp (putL s.length es) Q u=Q () (u.set s.length (.lst es)):=fun es Q=>Qhv g
   have q3:∀ (Q:D->Sto->Prop) s,wp (itemD xs (-1)) Q s=Q (sdD (aft h st (ts.take i))) s:=fun Q s=>QjM hx
   have q4:∀ (Q:D->Sto->Prop) s,wp (ju [hsD h,sdD (aft h st (ts.take i)),natD t]) Q s=Q (sdD (beh h (aft h st (ts.take i)) t)) s:=fun Q s=>QjK hh ho (ht.2 t (List.mem_of_getElem? et))
   simp_arith [↓q1,↓q2,↓q3,↓q4]
   refine⟨QhG (by ac_nf),_,_,rfl,List.getElem?_set_self (Qix g),by simp[hl],?_,ex.put (Nat.le_refl _)⟩
   rw[QjO et]
   simp
 ·obtain⟨xs,y,el,g,hl,hx,ex⟩:=hW
  subst el
  rw[List.length_map,List.take_length]at hx
  simp_arith []
  exact hq _ xs u g hx (Nat.le_refl _) ex
theorem QjQ {a b : CE} {l : Loc} : wp (cExtend a b l) Q s = wp (a l) (fun x s1 => match x with
  | .ref n=>wp (b l) (fun y s2=>match y with
   | .ref m=>wp (getL n) (fun xs s3=>wp (getL m) (fun ys s4=>xs.length + ys.length<=lim/\wp (putL n (xs++ys)) (fun _ s5=>Q .non s5) s4) s3) s2
   | _=>False) s1
  | _=>False) s:=by
 unfold cExtend
 rw[Qht];congr 1;funext x s1
 cases x with
 | ref n=>
  dsimp only
  rw[Qht];congr 1;funext y s2
  cases y with
  | ref m=>
   dsimp only
   rw[Qht];congr 1;funext xs s3
   rw[Qht];congr 1;funext ys s4
   rw[wp_chk,Qht]
   congr 2;funext u s5
   exact wp_ret
  | _=>exact wp_no rfl
 | _=>exact wp_no rfl
def twR (h:Hs) (st:Sd) (one other:List Nat):List D:=((upto h.hands.length fun i=>D.int i).filter fun d=>match d with
 | .int k=>sm (aft h st one) (aft h st other) k.toNat
 | _=>false).map fun d=>.tup [.tup (one.map natD),.tup (other.map natD),d]
def twO (h:Hs) (st:Sd) (others:List (List Nat)) (one:List Nat):List D:=others.flatMap (twR h st one)
def twA (h:Hs) (st:Sd) (i j:Nat):List D:=([[i],[i,j]]:List (List Nat)).flatMap (twO h st [[j],[j,i]])
theorem QjR {i j:Nat} (hi:i < h.hands.length) (hj:j < h.hands.length) {m:Nat}{d:D} (e:[D.tup [.int i],D.tup [.int i,.int j]][m]?=some d):∃ ts,([[i],[i,j]]:List (List Nat))[m]?=some ts/\d=.tup (ts.map natD)/\TsOk h ts:=by
 match m,e with
 | 0,e=>cases e;exact⟨[i],rfl,rfl,by simp,by simpa using hi⟩
 | 1,e=>cases e;exact⟨[i,j],rfl,rfl,by simp,by simp[hi,hj]⟩
 | m + 2,e=>cases e
theorem QjS {α β:Type}{xs:List α}{m:Nat}{y:α}{f:α->List β} (e:xs[m]?=some y):(xs.take (m + 1)).flatMap f=(xs.take m).flatMap f++f y:=by
 rw[List.take_succ,e,List.flatMap_append];simp
theorem QjT {one other:List Nat} (hh:HsOk h):(twR h st one other).length<=3:=by
 unfold twR
 rw[List.length_map]
 refine Nat.le_trans (List.length_filter_le _ _) ?_
 rw[QhU];exact hh.2.2.2.1
theorem QjU {one:List Nat} (hh:HsOk h):∀ (os:List (List Nat)),(twO h st os one).length<=3 * os.length
 | []=>by simp[twO]
 | o::os=>by
  have a:=QjU (one:=one) hh os
  have b:=QjT (st:=st) (one:=one) (other:=o) hh
  unfold twO at a ⊢
  rw[List.flatMap_cons,List.length_append,List.length_cons];ac_nf
theorem QjV {i j:Nat} (hh:HsOk h):∀ (m:Nat),((([[i],[i,j]]:List (List Nat)).take m).flatMap (twO h st [[j],[j,i]])).length<=12:=fun m=>by
 have a:=QjU (st:=st) (one:=[i]) hh [[j],[j,i]]
 have b:=QjU (st:=st) (one:=[i,j]) hh [[j],[j,i]]
 simp only[List.length_cons,List.length_nil]at a b
 match m with
 | 0=>simp
 | 1=>simp;ac_nf
 | m + 2=>simp;ac_nf
theorem QjW {i j:Nat} (hh:HsOk h) (hs:SdOk h st) (hi:i < h.hands.length) (hj:j < h.hands.length) (hq:∀ r s',s'[r]?=some (.lst (twA h st i j))->s.length<=r->Ext s s'->Q (.ref r) s'):wp (jv [hsD h,sdD st,.int i,.int j]) Q s:=by
 have l1:1<=lim:=QhF (by ac_nf)
 have l2:2<=lim:=QhF (by ac_nf)
 have l3:3<=lim:=QhF (by ac_nf)
 have z4:=hh.2.2.2.1
 have hb:=rngb (show (0:Int)<=(h.hands.length:Int) by ac_nf) (by ac_nf)
 have ln:h.hands.length<=lim:=QhF (by ac_nf)
 (simp_arith [jv];simp_arith [j4,Nat.zero_le,l1,l2])
 refine QhH (fun m l u=>∃ (y5 y6 y7 y8:Option D),l=[some (hsD h),some (sdD st),some (.int i),some (.int j),some (.ref s.length),y5,y6,y7,y8]/\u[s.length]?=some (.lst ((([[i],[i,j]]:List (List Nat)).take m).flatMap (twO h st [[j],[j,i]])))/\Ext s u) (fun _ _ _ _=>trivial)
  ⟨none,none,none,none,rfl,Qii,(Ext.refl _).snoc _⟩ (fun m d l u hd hW=>?_) (fun l u hW=>?_)
 ·obtain⟨y5,y6,y7,y8,el,g,ex⟩:=hW
  subst el
  obtain⟨one,eo,ed,h1⟩:=QjR hi hj hd
  subst ed
  have hpl:=QjV (st:=st) (i:=i) (j:=j) hh m
  generalize hpre:(([[i],[i,j]]:List (List Nat)).take m).flatMap (twO h st [[j],[j,i]])=pre at g hpl
  simp_arith [l1,l2]
  refine QhH (fun m2 l u=>∃ (y6 y7 y8:Option D),l=[some (hsD h),some (sdD st),some (.int i),some (.int j),some (.ref s.length),some (.tup (one.map natD)),y6,y7,y8]/\u[s.length]?=some (.lst (pre++twO h st (([[j],[j,i]]:List (List Nat)).take m2) one))/\Ext s u) (fun _ _ _ _=>trivial)
   ⟨y6,y7,y8,rfl,by simpa [twO] using g,ex⟩ (fun m2 d l u hd hW=>?_) (fun l u hW=>?_)
  ·obtain⟨y6,y7,y8,el,g,ex⟩:=hW
   subst el
   obtain⟨other,eo2,ed,h2⟩:=QjR hj hi hd
   subst ed
   have o1:SdOk h (aft h st one):=QjN hh hs h1.2
   have o2:SdOk h (aft h st other):=QjN hh hs h2.2
   simp_arith []
   refine QjP hh hs h1 fun r xs u1 g1 x1 hr1 e1=>?_
   have q1:∀ Q,wp (getL r) Q u1=Q xs u1:=fun Q=>Qhu g1
   have q2:∀ (Q:D->Sto->Prop) s,wp (itemD xs (-1)) Q s=Q (sdD (aft h st one)) s:=fun Q s=>QjM x1
   simp_arith [↓q1,↓q2]
   refine QjP hh hs h2 fun r2 xs2 u2 g2 x2 hr2 e2=>?_
   have q3:∀ Q,wp (getL r2) Q u2=Q xs2 u2:=fun Q=>Qhu g2
   have q4:∀ (Q:D->Sto->Prop) s,wp (itemD xs2 (-1)) Q s=Q (sdD (aft h st other)) s:=fun Q s=>QjM x2
   have gu:=e2.at_ (e1.at_ g)
   have lh:∀ (Q:D->Sto->Prop) s,wp (subsD (hsD h) (.int 1)) Q s=Q (.tup (h.hands.map hdD)) s:=fun Q s=>by unfold hsD;rw[x_subsT,x_item1]
   have w:∀ A,wp (collect (gVar 0) (tVal (cCall jn (cCons (cVar 3) (cCons (cVar 4) (cCons (cVar 0) cNil))))) (cTup (cCons (cVar 1) (cCons (cVar 2) (cCons (cVar 0) cNil)))) anySt (upto h.hands.length fun i=>.int i) [none,some (.tup (one.map natD)),some (.tup (other.map natD)),some (sdD (aft h st one)),some (sdD (aft h st other))]) A u2=A (twR h st one other) u2:=fun A=>by
    rw[Qiw (l0:=[]) (fun l=>∃ x,l=[x,some (.tup (one.map natD)),some (.tup (other.map natD)),some (sdD (aft h st one)),some (sdD (aft h st other))]) (fun d=>match d with
     | .int k=>sm (aft h st one) (aft h st other) k.toNat
     | _=>false) (fun d=>.tup [.tup (one.map natD),.tup (other.map natD),d]) Qh4 _ _ ⟨_,rfl⟩ (fun d hd l hI=>by
     obtain⟨x,el⟩:=hI
     obtain⟨k,hk⟩:=List.getElem?_of_mem hd
     obtain⟨hk',ed⟩:=QhT hk
     subst ed el
     have ws:∀ (Q:D->Sto->Prop) s,wp (jn [sdD (aft h st one),sdD (aft h st other),.int k]) Q s=Q (.bl (sm (aft h st one) (aft h st other) k)) s:=fun Q s=>QjL o1 o2 hk'
     refine⟨[some (.int k),some (.tup (one.map natD)),some (.tup (other.map natD)),some (sdD (aft h st one)),some (sdD (aft h st other))],fun G=>by simp_arith [],⟨_,rfl⟩,fun T=>?_,fun Q=>by simp_arith [l3]⟩
     dsimp only
     rw[Int.toNat_natCast]
     simp_arith [↓ws])]
    rfl
   have hlen:=QjT (st:=st) (one:=one) (other:=other) hh
   have hlen2:=QjU (st:=st) (one:=one) hh (([[j],[j,i]]:List (List Nat)).take m2)
   have hl2:(([[j],[j,i]]:List (List Nat)).take m2).length<=2:=by rw[List.length_take];exact Nat.min_le_right _ _
   have et:twO h st (([[j],[j,i]]:List (List Nat)).take (m2 + 1)) one=twO h st (([[j],[j,i]]:List (List Nat)).take m2) one++twR h st one other:=QjS eo2
   generalize twR h st one other=more at w hlen et
   simp_arith [QjQ,↓q3,↓q4,↓lh,List.length_map,hb,capt,Int.toNat_natCast,QhY,QhU,ln,↓w]
   have g3:(u2++[MO.lst more])[s.length]?=_:=Qij gu
   have g4:(u2++[MO.lst more])[u2.length]?=some (.lst more):=Qii
   rw[Qhu g3,Qhu g4,Qhv g3]
   refine⟨QhF (by rw[List.length_append];ac_nf),?_⟩
   simp_arith []
   refine⟨_,_,_,rfl,?_,(((ex.trans e1).trans e2).snoc _).put (Nat.le_refl _)⟩
   rw[et,<- List.append_assoc]
   exact List.getElem?_set_self (Qix g3)
  ·obtain⟨y6,y7,y8,el,g,ex⟩:=hW
   subst el
   simp_arith []
   refine⟨_,_,_,_,rfl,?_,ex⟩
   rw[QjS eo,hpre]
   exact g
 ·obtain⟨y5,y6,y7,y8,el,g,ex⟩:=hW
  subst el
  simp_arith []
  exact hq _ u g (Nat.le_refl _) ex
end
open PySem (Str)
section
variable {s s1:Sto}{Q:D->Sto->Prop}{h:Hs}{st:Sd}{i j n:Nat}
abbrev T3:=List Nat × List Nat × Nat
def triD (t:T3):D:=.tup [.tup (t.1.map natD),.tup (t.2.1.map natD),natD t.2.2]
def triI (t:T3):List Int × List Int × Int:=(t.1.map (fun n:Nat=>(n:Int)),t.2.1.map (fun n:Nat=>(n:Int)),(t.2.2:Int))
def kR (h:Hs) (st:Sd) (one other:List Nat):List Nat:=(List.range h.hands.length).filter fun k=>sm (aft h st one) (aft h st other) k
def tR (h:Hs) (st:Sd) (one other:List Nat):List T3:=(kR h st one other).map fun k=>(one,other,k)
def tA (h:Hs) (st:Sd) (i j:Nat):List T3:=tR h st [i] [j]++tR h st [i] [j,i]++tR h st [i,j] [j]++tR h st [i,j] [j,i]
theorem QjX {one other:List Nat}:twR h st one other=(tR h st one other).map triD:=by
 unfold twR tR kR upto
 rw[List.filter_map,List.map_map,List.map_map]
 rfl
theorem QjY:twA h st i j=(tA h st i j).map triD:=by
 unfold twA twO tA
 simp only[List.flatMap_cons,List.flatMap_nil,List.append_nil,QjX,List.map_append,List.append_assoc]
theorem QjZ:∀ vs:List Nat,numsL (vs.map natD)=some (vs.map fun v:Nat=>(v:Int))
 | []=>rfl
 | v::vs=>by rw[List.map_cons];unfold natD numsL;rw[show vs.map (fun v:Nat=>D.int v)=vs.map natD from rfl,QjZ vs];rfl
theorem Qj0:∀ ts:List T3,trisD (ts.map triD)=some (ts.map triI)
 | []=>rfl
 | t::ts=>by
  have ih:=Qj0 ts
  rw[List.map_cons,List.map_cons]
  unfold triD at ih ⊢
  rw[show natD t.2.2=D.int (t.2.2:Nat) from rfl,trisD,QjZ,QjZ,ih]
  rfl
theorem Qj1:∀ {ps:List (List Int × List Int × Int)},ps.Pairwise (fun p q=>lexT3 q p=false)->upT ps=true
 | [],_=>rfl
 | [p],_=>rfl
 | p::q::r,hp=>by
  rw[List.pairwise_cons]at hp
  rw[upT,hp.1 q (by simp),Qj1 hp.2]
  rfl
theorem Qj2 (a b:Int):lexI [a,b] [a]=false:=by unfold lexI;simp[lexI]
theorem Qj3 {one other:List Nat}:((tR h st one other).map triI).Pairwise fun p q=>lexT3 q p=false:=by
 unfold tR kR
 rw[List.map_map,List.pairwise_map]
 refine (List.pairwise_lt_range.filter _).imp fun {a b} hab=>?_
 show lexT3 (_,_,(b:Int)) (_,_,(a:Int))=false
 unfold lexT3
 rw[if_pos rfl,if_pos rfl]
 simp;ac_nf
theorem Qj4 {one other:List Nat}{p:List Int × List Int × Int} (hp:p∈(tR h st one other).map triI):p.1=one.map (fun n:Nat=>(n:Int))/\p.2.1=other.map fun n:Nat=>(n:Int):=by
 obtain⟨t,ht,rfl⟩:=List.mem_map.mp hp
 unfold tR at ht
 obtain⟨k,_,rfl⟩:=List.mem_map.mp ht
 exact⟨rfl,rfl⟩
theorem Qj5 {one other one' other':List Nat}{p q:List Int × List Int × Int} (hp:p∈(tR h st one other).map triI) (hq:q∈(tR h st one' other').map triI) (hl:one'=one/\(∃ a b,other=[a]/\other'=[a,b])\/∃ a b,one=[a]/\one'=[a,b]):lexT3 q p=false:=by
 obtain⟨p1,p2⟩:=Qj4 hp
 obtain⟨q1,q2⟩:=Qj4 hq
 unfold lexT3
 rw[p1,p2,q1,q2]
 rcases hl with ⟨e,a,b,e1,e2⟩ | ⟨a,b,e1,e2⟩
 ·subst e e1 e2
  rw[if_pos rfl,if_neg (by simp)]
  exact Qj2 _ _
 ·subst e1 e2
  rw[if_neg (by simp)]
  exact Qj2 _ _
theorem Qj6:upT ((tA h st i j).map triI)=true:=by
 refine Qj1 ?_
 unfold tA
 rw[List.map_append,List.map_append,List.map_append,List.pairwise_append,List.pairwise_append,List.pairwise_append]
 refine⟨⟨⟨Qj3,Qj3,fun p hp q hq=>Qj5 hp hq (.inl ⟨rfl,_,_,rfl,rfl⟩)⟩,Qj3,fun p hp q hq=>?_⟩,Qj3,fun p hp q hq=>?_⟩
 ·rcases List.mem_append.mp hp with hp | hp
  ·exact Qj5 hp hq (.inr ⟨_,_,rfl,rfl⟩)
  ·exact Qj5 hp hq (.inr ⟨_,_,rfl,rfl⟩)
 ·rcases List.mem_append.mp hp with hp | hp
  ·rcases List.mem_append.mp hp with hp | hp
   ·exact Qj5 hp hq (.inr ⟨_,_,rfl,rfl⟩)
   ·exact Qj5 hp hq (.inr ⟨_,_,rfl,rfl⟩)
  ·exact Qj5 hp hq (.inl ⟨rfl,_,_,rfl,rfl⟩)
theorem Qj7 (hh:HsOk h):(twA h st i j).length<=12:=QjV (st:=st) (i:=i) (j:=j) hh 2
theorem Qj8 {r:Nat} (hh:HsOk h) (g:s[r]?=some (.lst (twA h st i j))):wp (refL sortedTL (.ref r)) Q s=Q (.ref s.length) (s++[.lst (twA h st i j)]):=by
 have hl:=Qj7 (st:=st) (i:=i) (j:=j) hh
 unfold refL
 dsimp only
 rw[Qht,Qhu g]
 unfold sortedTL
 rw[QjY]at hl ⊢
 rw[Qj0]
 dsimp only
 rw[wp_chk,wp_alloc]
 exact propext ⟨fun z=>z.2,fun z=>⟨⟨Qj6,by ac_nf⟩,z⟩⟩
end
open PySem (Str)
section
variable {s s1:Sto}{Q:D->Sto->Prop}{h:Hs}{st:Sd}{i j n:Nat}{l:Loc}
theorem Qj9 {f1 g1 f2 g2:CE}:wp (cDisp2 f1 g1 f2 g2 l) Q s=wp (f1 l) (fun a1 s1=>wp (g1 l) (fun b1 s2=>wp (f2 l) (fun a2 s3=>wp (g2 l) (fun b2 s4=>wp (storeT s.length a1 b1) (fun _ s5=>wp (storeT s.length a2 b2) (fun _ s6=>Q (.dic s.length) s6) s5) s4) s3) s2) s1) (s++[.dct true []]):=by
 have e:∀ {Q:D->Sto->Prop},wp (allocK true []) Q s=Q (.dic s.length) (s++[.dct true []]):=fun {Q}=>wp_eq rfl
 unfold cDisp2
 rw[Qht,e,Qht]
 refine wp_cg fun a1 s1=>?_
 rw[Qht]
 refine wp_cg fun b1 s2=>?_
 rw[Qht]
 refine wp_cg fun a2 s3=>?_
 rw[Qht]
 refine wp_cg fun b2 s4=>?_
 dsimp only
 rw[Qht]
 refine wp_cg fun _ s5=>?_
 rw[Qht]
 refine wp_cg fun _ s6=>?_
 rw[wp_ret]
theorem Qka {kvs:List (D × D)}{k v:D}{U:Unit->Sto->Prop} (g:s[n]?=some (.dct true kvs)) (hk:kOk true k=true) (hl:kvs.length < lim):wp (storeT n k v) U s=U () (s.set n (.dct true (ptK kvs k v))):=by
 unfold storeT
 rw[Qht,Qic g]
 dsimp only
 rw[wp_chk,Qid g]
 exact propext ⟨fun z=>z.2,fun z=>⟨⟨rfl,hk,hl⟩,z⟩⟩
def keyT (ts:List Nat):D:=.tup (ts.map natD)
theorem eqKs_nat:∀ a b:List Nat,eqKs (a.map natD) (b.map natD)=decide (a=b)
 | [],[]=>rfl
 | [],_::_=>rfl
 | _::_,[]=>rfl
 | x::xs,y::ys=>by
  rw[List.map_cons,List.map_cons]
  show (decide ((x:Int)=y) && eqKs _ _)=_
  rw[eqKs_nat xs ys,Bool.eq_iff_iff,Bool.and_eq_true,decide_eq_true_iff,decide_eq_true_iff,decide_eq_true_iff,List.cons.injEq]
  constructor
  ·rintro ⟨a,b⟩;exact⟨by ac_nf,b⟩
  ·rintro ⟨a,b⟩;exact⟨by ac_nf,b⟩
theorem Qkb {a b:List Nat}:eqK (keyT a) (keyT b)=decide (a=b):=eqKs_nat a b
theorem Qkc:∀ ts:List Nat,(rowsK (ts.map natD)).isSome=true
 | []=>rfl
 | t::ts=>by
  have:=Qkc ts
  rw[List.map_cons]
  show (Option.map _ (rowsK (ts.map natD))).isSome=true
  rw[Option.isSome_map];exact this
theorem Qkd {ts:List Nat}:kOk true (keyT ts)=true:=Qkc ts
def kvT (h:Hs) (st:Sd) (ks:List (List Nat)):List (D × D):=ks.map fun ts=>(keyT ts,sdD (aft h st ts))
theorem Qke {ts:List Nat}:∀ {ks:List (List Nat)},ts∈ks->lkK (kvT h st ks) (keyT ts)=some (sdD (aft h st ts))
 | k::ks,hm=>by
  unfold lkK kvT
  rw[List.map_cons,List.find?_cons]
  dsimp only
  rw[Qkb]
  by_cases e:k=ts
  ·subst e;rw[decide_eq_true rfl];rfl
  ·rw[decide_eq_false e]
   exact Qke (by rcases List.mem_cons.mp hm with z | z;exact absurd z.symm e;exact z)
theorem Qkf {ts:List Nat}{ks:List (List Nat)} (hm:ts∉ks):ptK (kvT h st ks) (keyT ts) (sdD (aft h st ts))=kvT h st (ks++[ts]):=by
 unfold ptK
 rw[if_neg]
 ·unfold kvT;rw[List.map_append];rfl
 ·rw[List.any_eq_true]
  rintro ⟨p,hp,e⟩
  obtain⟨k,hk,rfl⟩:=List.mem_map.mp hp
  rw[Qkb,decide_eq_true_iff]at e
  rw[e]at hk
  exact hm hk
theorem Qkg {ks:List (List Nat)} (hl:ks.length<=10):(kvT h st ks).length < lim:=QhG (by unfold kvT;rw[List.length_map];ac_nf)
end
open PySem (Str)
section
variable {s s1:Sto}{Q:D->Sto->Prop}{h:Hs}{st:Sd}{i j n:Nat}{l:Loc}
def lsB (a b:Sd) (k:Nat):Bool:=decide (a.ls[k]?=b.ls[k]?)
theorem Qkh {one other:List Nat} (e:(aft h st one).ss=(aft h st other).ss):kR h st one other=(List.range h.hands.length).filter (lsB (aft h st one) (aft h st other)):=by
 unfold kR
 congr 1
 funext k
 unfold sm lsB
 rw[decide_eq_true e,Bool.and_true]
theorem Qki {one other:List Nat} (e:¬ (aft h st one).ss=(aft h st other).ss):twR h st one other=[]:=by
 rw[QjX]
 unfold tR kR
 have:(List.range h.hands.length).filter (fun k=>sm (aft h st one) (aft h st other) k)=[]:=by
  rw[List.filter_eq_nil_iff]
  intro k _
  unfold sm
  rw[decide_eq_false e,Bool.and_false]
  exact Bool.false_ne_true
 rw[this]
 rfl
theorem Qkj {a b:Sd}{A:List D->Sto->Prop} (ha:SdOk h a) (hb:SdOk h b):wp (collect (gVar 0) (tCmpB (c2 eqD (c2 subsD (c2 subsD (cVar 1) (cCon (.int 0))) (cVar 0)) (c2 subsD (c2 subsD (cVar 2) (cCon (.int 0))) (cVar 0)))) (cVar 0) anySt (upto h.hands.length fun i=>D.int i) [none,some (sdD a),some (sdD b)]) A s=A (((List.range h.hands.length).filter (lsB a b)).map natD) s:=by
 rw[Qiw (l0:=[]) (fun l=>∃ x,l=[x,some (sdD a),some (sdD b)]) (fun d=>match d with
  | .int k=>lsB a b k.toNat
  | _=>false) id Qh4 _ _ ⟨_,rfl⟩ (fun d hd l hI=>by
  obtain⟨x,el⟩:=hI
  obtain⟨k,hk⟩:=List.getElem?_of_mem hd
  obtain⟨hk',ed⟩:=QhT hk
  subst ed el
  have k1:k < a.ls.length:=by rw[ha.1];exact hk'
  have k2:k < b.ls.length:=by rw[hb.1];exact hk'
  have e1:=List.getElem?_eq_getElem k1
  have e2:=List.getElem?_eq_getElem k2
  have w1:∀ (Q:D->Sto->Prop) s,wp (itemD (a.ls.map natD) (k:Int)) Q s=Q (.int (a.ls[k]:Nat)) s:=fun Q s=>Qi4 e1
  have w2:∀ (Q:D->Sto->Prop) s,wp (itemD (b.ls.map natD) (k:Int)) Q s=Q (.int (b.ls[k]:Nat)) s:=fun Q s=>Qi4 e2
  have eb:lsB a b k=((a.ls[k]:Int) == (b.ls[k]:Int)):=by
   unfold lsB
   rw[e1,e2]
   by_cases e:a.ls[k]=b.ls[k]
   ·rw[e];simp
   ·have:¬ (a.ls[k]:Int)=b.ls[k]:=by ac_nf
    simp[e,this]
  refine⟨[some (.int k),some (sdD a),some (sdD b)],fun G=>by simp_arith [],⟨_,rfl⟩,fun T=>?_,fun Q=>by simp_arith [];rfl⟩
  dsimp only
  rw[Int.toNat_natCast,eb]
  unfold sdD
  simp_arith [↓w1,↓w2])]
 unfold upto
 rw[List.filter_map,List.map_map]
 rfl
theorem Qkk {r:Nat}{one other ks:List Nat}{A:List D->Sto->Prop} (g:s[r]?=some (.lst (ks.map natD))):wp (collect (gVar 0) tTrue (cTup (cCons (cVar 1) (cCons (cVar 2) (cCons (cVar 0) cNil)))) (sameL r (ks.map natD)) (ks.map natD) [none,some (.tup (one.map natD)),some (.tup (other.map natD))]) A s=A ((ks.map fun k=>(one,other,k)).map triD) s:=by
 have l3:3<=lim:=QhF (by ac_nf)
 rw[Qiw (l0:=[]) (fun l=>∃ x,l=[x,some (.tup (one.map natD)),some (.tup (other.map natD))]) (fun _=>true) (fun d=>.tup [.tup (one.map natD),.tup (other.map natD),d]) g _ _ ⟨_,rfl⟩ (fun d hd l hI=>by
  obtain⟨x,el⟩:=hI
  subst el
  exact⟨[some d,some (.tup (one.map natD)),some (.tup (other.map natD))],fun G=>by simp_arith [],⟨_,rfl⟩,fun T=>wp_ret,fun Q=>by simp_arith [l3]⟩)]
 rw[List.filter_eq_self.mpr fun _ _=>rfl,List.map_map,List.map_map]
 rfl
theorem Qkl (hh:HsOk h) (hs:SdOk h st) (hi:i < h.hands.length) (hj:j < h.hands.length) (hij:i≠j) (hq:∀ r s',s'[r]?=some (.lst (twA h st i j))->s.length<=r->Ext s s'->Q (.ref r) s'):wp (jx [hsD h,sdD st,.int i,.int j]) Q s:=by
 have l1:1<=lim:=QhF (by ac_nf)
 have l2:2<=lim:=QhF (by ac_nf)
 have l3:3<=lim:=QhF (by ac_nf)
 have z4:=hh.2.2.2.1
 have hb:=rngb (show (0:Int)<=(h.hands.length:Int) by ac_nf) (by ac_nf)
 have ln:h.hands.length<=lim:=QhF (by ac_nf)
 have oi:SdOk h (aft h st [i]):=Qi9 hh hs hi
 have oj:SdOk h (aft h st [j]):=Qi9 hh hs hj
 have b1:∀ (Q:D->Sto->Prop) s,wp (jb [hsD h,sdD st,.int i]) Q s=Q (sdD (aft h st [i])) s:=fun Q s=>Qjd hh hs hi
 have b2:∀ (Q:D->Sto->Prop) s,wp (jb [hsD h,sdD st,.int j]) Q s=Q (sdD (aft h st [j])) s:=fun Q s=>Qjd hh hs hj
 have b3:∀ (Q:D->Sto->Prop) s,wp (jb [hsD h,sdD (aft h st [i]),.int j]) Q s=Q (sdD (aft h st [i,j])) s:=fun Q s=>Qjd hh oi hj
 have b4:∀ (Q:D->Sto->Prop) s,wp (jb [hsD h,sdD (aft h st [j]),.int i]) Q s=Q (sdD (aft h st [j,i])) s:=fun Q s=>Qjd hh oj hi
 have k1:D.tup [.int i]=keyT [i]:=rfl
 have k2:D.tup [.int j]=keyT [j]:=rfl
 have k3:D.tup [.int i,.int j]=keyT [i,j]:=rfl
 have k4:D.tup [.int j,.int i]=keyT [j,i]:=rfl
 have n1:∀ U,wp (storeT s.length (keyT [i]) (sdD (aft h st [i]))) U (s++[.dct true []])=U () ((s++[MO.dct true []]).set s.length (.dct true (kvT h st [[i]]))):=fun U=>by
  have:=Qka (U:=U) (v:=sdD (aft h st [i])) (k:=keyT [i]) (show (s++[MO.dct true []])[s.length]?=some (.dct true (kvT h st [])) from Qii) Qkd (Qkg (by simp))
  rw[Qkf (by simp)]at this
  exact this
 have g1:((s++[MO.dct true []]).set s.length (.dct true (kvT h st [[i]])))[s.length]?=some (.dct true (kvT h st [[i]])):=List.getElem?_set_self (by simp)
 have x1:Ext s ((s++[MO.dct true []]).set s.length (.dct true (kvT h st [[i]]))):=((Ext.refl _).snoc _).put (Nat.le_refl _)
 (simp_arith [jx];simp_arith [j1,↓Qj9,l1,l2,↓b1,↓b2,k1,k2,k3,k4,↓n1])
 clear n1
 generalize (s++[MO.dct true []]).set s.length (.dct true (kvT h st [[i]]))=u1 at g1 x1
 have n2:∀ U,wp (storeT s.length (keyT [j]) (sdD (aft h st [j]))) U u1=U () (u1.set s.length (.dct true (kvT h st [[i],[j]]))):=fun U=>by
  rw[Qka g1 Qkd (Qkg (by simp)),Qkf (by simpa using fun e=>hij e.symm)];rfl
 have g2:(u1.set s.length (.dct true (kvT h st [[i],[j]])))[s.length]?=some (.dct true (kvT h st [[i],[j]])):=List.getElem?_set_self (Qix g1)
 have x2:Ext s (u1.set s.length (.dct true (kvT h st [[i],[j]]))):=x1.put (Nat.le_refl _)
 simp_arith [↓n2]
 clear n2
 generalize u1.set s.length (.dct true (kvT h st [[i],[j]]))=u2 at g2 x2
 have q1:∀ Q,wp (itemK s.length (.tup [.int i])) Q u2=Q (sdD (aft h st [i])) u2:=fun Q=>Qie g2 (Qkd (ts:=[i])) (Qke (ts:=[i]) (by simp))
 have n3:∀ U,wp (storeK s.length (.tup [.int i,.int j]) (sdD (aft h st [i,j]))) U u2=U () (u2.set s.length (.dct true (kvT h st [[i],[j],[i,j]]))):=fun U=>by
  have:=Qif (U:=U) (v:=sdD (aft h st [i,j])) (k:=keyT [i,j]) g2 Qkd (Qkg (by simp))
  rw[Qkf (by simp)]at this
  exact this
 simp_arith [l1,l2,↓q1,↓b3,↓n3]
 have g3:(u2.set s.length (.dct true (kvT h st [[i],[j],[i,j]])))[s.length]?=some (.dct true (kvT h st [[i],[j],[i,j]])):=List.getElem?_set_self (Qix g2)
 have x3:Ext s (u2.set s.length (.dct true (kvT h st [[i],[j],[i,j]]))):=x2.put (Nat.le_refl _)
 clear q1 n3
 generalize u2.set s.length (.dct true (kvT h st [[i],[j],[i,j]]))=u3 at g3 x3
 have q1:∀ Q,wp (itemK s.length (.tup [.int j])) Q u3=Q (sdD (aft h st [j])) u3:=fun Q=>Qie g3 (Qkd (ts:=[j])) (Qke (ts:=[j]) (by simp))
 have n3:∀ U,wp (storeK s.length (.tup [.int j,.int i]) (sdD (aft h st [j,i]))) U u3=U () (u3.set s.length (.dct true (kvT h st [[i],[j],[i,j],[j,i]]))):=fun U=>by
  have:=Qif (U:=U) (v:=sdD (aft h st [j,i])) (k:=keyT [j,i]) g3 Qkd (Qkg (by simp))
  rw[Qkf (by simp;ac_nf)]at this
  exact this
 simp_arith [l1,l2,Nat.zero_le,↓q1,↓b4,↓n3]
 have g4:(u3.set s.length (.dct true (kvT h st [[i],[j],[i,j],[j,i]])))[s.length]?=some (.dct true (kvT h st [[i],[j],[i,j],[j,i]])):=List.getElem?_set_self (Qix g3)
 have x4:Ext s (u3.set s.length (.dct true (kvT h st [[i],[j],[i,j],[j,i]]))):=x3.put (Nat.le_refl _)
 clear q1 n3
 generalize u3.set s.length (.dct true (kvT h st [[i],[j],[i,j],[j,i]]))=u4 at g4 x4
 have lu:=x4.le
 have gf:(u4++[MO.lst []])[u4.length]?=some (.lst []):=Qii
 have gd:=Qij (b:=MO.lst []) g4
 have x5:=x4.snoc (MO.lst [])
 have lfd:=Qix g4
 generalize u4.length=nf at gf lu lfd
 generalize u4++[MO.lst []]=u5 at gf gd x5
 refine QhH (fun m l u=>∃ (y6 y7 y8 y9 y10:Option D),l=[some (hsD h),some (sdD st),some (.int i),some (.int j),some (.dic s.length),some (.ref nf),y6,y7,y8,y9,y10]/\u[nf]?=some (.lst ((([[i],[i,j]]:List (List Nat)).take m).flatMap (twO h st [[j],[j,i]])))/\u[s.length]?=some (.dct true (kvT h st [[i],[j],[i,j],[j,i]]))/\Ext s u) (fun _ _ _ _=>trivial)
  ⟨_,_,_,_,_,rfl,gf,gd,x5⟩ (fun m d l u hd hW=>?_) (fun l u hW=>?_)
 ·obtain⟨y6,y7,y8,y9,y10,el,g,gd,ex⟩:=hW
  subst el
  obtain⟨one,eo,ed,h1⟩:=QjR hi hj hd
  subst ed
  have o1:SdOk h (aft h st one):=QjN hh hs h1.2
  have m1:one∈([[i],[j],[i,j],[j,i]]:List (List Nat)):=by
   have:=List.mem_of_getElem? eo
   simp at this ⊢
   rcases this with e | e<;>simp[e]
  have hpl:=QjV (st:=st) (i:=i) (j:=j) hh m
  generalize hpre:(([[i],[i,j]]:List (List Nat)).take m).flatMap (twO h st [[j],[j,i]])=pre at g hpl
  simp_arith [l1,l2]
  refine QhH (fun m2 l u=>∃ (y7 y8 y9 y10:Option D),l=[some (hsD h),some (sdD st),some (.int i),some (.int j),some (.dic s.length),some (.ref nf),some (.tup (one.map natD)),y7,y8,y9,y10]/\u[nf]?=some (.lst (pre++twO h st (([[j],[j,i]]:List (List Nat)).take m2) one))/\u[s.length]?=some (.dct true (kvT h st [[i],[j],[i,j],[j,i]]))/\Ext s u) (fun _ _ _ _=>trivial)
   ⟨_,_,_,_,rfl,by simpa [twO] using g,gd,ex⟩ (fun m2 d l u hd hW=>?_) (fun l u hW=>?_)
  ·obtain⟨y7,y8,y9,y10,el,g,gd,ex⟩:=hW
   subst el
   obtain⟨other,eo2,ed,h2⟩:=QjR hj hi hd
   subst ed
   have o2:SdOk h (aft h st other):=QjN hh hs h2.2
   have m2':other∈([[i],[j],[i,j],[j,i]]:List (List Nat)):=by
    have:=List.mem_of_getElem? eo2
    simp at this ⊢
    rcases this with e | e<;>simp[e]
   have q1:∀ Q,wp (itemK s.length (.tup (one.map natD))) Q u=Q (sdD (aft h st one)) u:=fun Q=>Qie gd (Qkd (ts:=one)) (Qke (ts:=one) m1)
   have q2:∀ Q,wp (itemK s.length (.tup (other.map natD))) Q u=Q (sdD (aft h st other)) u:=fun Q=>Qie gd (Qkd (ts:=other)) (Qke (ts:=other) m2')
   have lh:∀ (Q:D->Sto->Prop) s,wp (subsD (hsD h) (.int 1)) Q s=Q (.tup (h.hands.map hdD)) s:=fun Q s=>by unfold hsD;rw[x_subsT,x_item1]
   have s0:∀ (a:Sd) (Q:D->Sto->Prop) s,wp (subsD (sdD a) (.int 0)) Q s=Q (.tup (a.ls.map natD)) s:=fun a Q s=>by unfold sdD;rw[x_subsT,x_item0]
   have s1:∀ (a:Sd) (Q:D->Sto->Prop) s,wp (subsD (sdD a) (.int 1)) Q s=Q (.tup (a.ss.map natD)) s:=fun a Q s=>by unfold sdD;rw[x_subsT,x_item1]
   have s0a:=s0 (aft h st one)
   have s0b:=s0 (aft h st other)
   have s1a:=s1 (aft h st one)
   have s1b:=s1 (aft h st other)
   simp_arith [l2,↓q1,↓q2,↓lh,List.length_map,hb,capt,Int.toNat_natCast,QhY,QhU,ln]
   rw[Qkj o1 o2]
   have hkl:((List.range h.hands.length).filter (lsB (aft h st one) (aft h st other))).length<=3:=Nat.le_trans (List.length_filter_le _ _) (by rw[List.length_range];exact z4)
   have ga:(u++[MO.lst (((List.range h.hands.length).filter (lsB (aft h st one) (aft h st other))).map natD)])[u.length]?=some (.lst (((List.range h.hands.length).filter (lsB (aft h st one) (aft h st other))).map natD)):=Qii
   have q5:∀ Q:List D->Sto->Prop,wp (getL u.length) Q (u++[MO.lst (((List.range h.hands.length).filter (lsB (aft h st one) (aft h st other))).map natD)])=Q (((List.range h.hands.length).filter (lsB (aft h st one) (aft h st other))).map natD) (u++[MO.lst (((List.range h.hands.length).filter (lsB (aft h st one) (aft h st other))).map natD)]):=fun Q=>Qhu ga
   have w5:∀ A,wp (collect (gVar 0) tTrue (cTup (cCons (cVar 1) (cCons (cVar 2) (cCons (cVar 0) cNil)))) (sameL u.length (((List.range h.hands.length).filter (lsB (aft h st one) (aft h st other))).map natD)) (((List.range h.hands.length).filter (lsB (aft h st one) (aft h st other))).map natD) [none,some (.tup (one.map natD)),some (.tup (other.map natD))]) A (u++[MO.lst (((List.range h.hands.length).filter (lsB (aft h st one) (aft h st other))).map natD)])=A ((((List.range h.hands.length).filter (lsB (aft h st one) (aft h st other))).map fun k=>(one,other,k)).map triD) (u++[MO.lst (((List.range h.hands.length).filter (lsB (aft h st one) (aft h st other))).map natD)]):=fun A=>Qkk ga
   have gu:=Qij (b:=MO.lst (((List.range h.hands.length).filter (lsB (aft h st one) (aft h st other))).map natD)) g
   have gdu:=Qij (b:=MO.lst (((List.range h.hands.length).filter (lsB (aft h st one) (aft h st other))).map natD)) gd
   have exu:=ex.snoc (MO.lst (((List.range h.hands.length).filter (lsB (aft h st one) (aft h st other))).map natD))
   have w3:∀ (Q:D->Sto->Prop) s,wp (eqD (.tup ((aft h st one).ss.map natD)) (.tup ((aft h st other).ss.map natD))) Q s=Q (.bl (decide ((aft h st one).ss=(aft h st other).ss))) s:=fun Q s=>QjB
   have et:twO h st (([[j],[j,i]]:List (List Nat)).take (m2 + 1)) one=twO h st (([[j],[j,i]]:List (List Nat)).take m2) one++twR h st one other:=QjS eo2
   have hlen2:=QjU (st:=st) (one:=one) hh (([[j],[j,i]]:List (List Nat)).take m2)
   have hl2:(([[j],[j,i]]:List (List Nat)).take m2).length<=2:=by rw[List.length_take];exact Nat.min_le_right _ _
   simp_arith [↓s1a,↓s1b,↓w3]
   by_cases hss:(aft h st one).ss=(aft h st other).ss
   ·have er:twR h st one other=(((List.range h.hands.length).filter (lsB (aft h st one) (aft h st other))).map fun k=>(one,other,k)).map triD:=by rw[QjX];unfold tR;rw[Qkh hss]
    rw[if_pos hss]
    generalize (List.range h.hands.length).filter (lsB (aft h st one) (aft h st other))=ks at *
    have lk:ks.length<=lim:=QhF (by ac_nf)
    simp_arith [QjQ,↓q5,capt,List.length_map,lk,↓w5]
    have g3:=Qij (b:=MO.lst ((ks.map fun k=>(one,other,k)).map triD)) gu
    have g4:(u++[MO.lst (ks.map natD)]++[MO.lst ((ks.map fun k=>(one,other,k)).map triD)])[(u++[MO.lst (ks.map natD)]).length]?=some (.lst ((ks.map fun k=>(one,other,k)).map triD)):=Qii
    rw[Qhu g3,Qhu g4,Qhv g3]
    refine⟨QhF (by rw[List.length_append,List.length_map,List.length_map];ac_nf),?_⟩
    simp_arith []
    refine⟨_,_,_,_,rfl,?_,?_,(exu.snoc _).put (by ac_nf)⟩
    ·rw[et,<- List.append_assoc,er]
     exact List.getElem?_set_self (Qix g3)
    ·rw[List.getElem?_set_ne (by ac_nf)];exact Qij gdu
   ·rw[if_neg hss]
    refine⟨_,_,_,_,rfl,?_,gdu,exu⟩
    rw[et,Qki hss,List.append_nil]
    exact gu
  ·obtain⟨y7,y8,y9,y10,el,g,gd,ex⟩:=hW
   subst el
   simp_arith []
   refine⟨_,_,_,_,_,rfl,?_,gd,ex⟩
   rw[QjS eo,hpre]
   exact g
 ·obtain⟨y6,y7,y8,y9,y10,el,g,gd,ex⟩:=hW
  subst el
  have w:∀ Q,wp (refL sortedTL (.ref nf)) Q u=Q (.ref u.length) (u++[.lst (twA h st i j)]):=fun Q=>Qj8 hh g
  simp_arith [↓w]
  exact hq _ _ Qii ex.le (ex.snoc _)
end
open PySem (Str)
@[irreducible] def morS:CS:=(sSeq (sAsg (gVar 6) (cCall ja (cCons (cVar 1) (cCons (c1 lenD (c2 subsD (cVar 2) (cCon (.int 1)))) cNil)))) (sSeq (sAsg (gVar 7) (cCall ja (cCons (cVar 1) (cCons (c1 lenD (c2 subsD (c2 subsD (c2 subsD (cVar 2) (cCon (.int 1))) (cVar 6)) (cCon (.int 1)))) cNil)))) (sSeq (sExp (cAppend (cVar 4) (cTup (cCons (c2 addD (c2 addD (cSliceT (c2 subsD (cVar 5) (cCon (.int 0))) oNone (oSome (cVar 6))) (cTup (cCons (cVar 7) cNil))) (cSliceT (c2 subsD (cVar 5) (cCon (.int 0))) (oSome (c2 addD (cVar 6) (cCon (.int 1)))) oNone)) (cCons (c2 subsD (cVar 5) (cCon (.int 1))) cNil))))) sNext)))
@[irreducible] def innS:CS:=(sSeq (sAsg (gVar 11) (cCall jx (cCons (cVar 2) (cCons (cVar 5) (cCons (cVar 9) (cCons (cVar 10) cNil)))))) (sSeq (sAsg (gVar 12) (cCall jv (cCons (cVar 2) (cCons (cVar 5) (cCons (cVar 9) (cCons (cVar 10) cNil)))))) (sSeq (sIf (tOrB (tNotB (tVal (c1 (isInst ["list"]) (cVar 12)))) (tCmpB (c2 neD (cVar 12) (cVar 11)))) (sSeq (sRet (cCon (.bl false))) sNext) sNext) (sSeq (sExp (cClear (cVar 12))) (sSeq (sIf (tCmpB (c2 neD (cCall jv (cCons (cVar 2) (cCons (cVar 5) (cCons (cVar 9) (cCons (cVar 10) cNil))))) (cVar 11))) (sSeq (sRet (cCon (.bl false))) sNext) sNext) sNext)))))
theorem Qkm:j6=(sSeq (sAsg (gVar 1) (cCall jq (cCons (cVar 0) (cCons (cCon (.int 0)) cNil)))) (sSeq (sAsg (gVar 2) (cCall jk (cCons (cVar 1) (cCons (c2 addD (cCon (.int 2)) (cCall ja (cCons (cVar 1) (cCons (cCon (.int 2)) cNil)))) (cCons (cKeep (aDisp (cCons (cCon (.str "first")) (cCons (cCon (.str "plain")) (cCons (cCon (.str "swap")) (cCons (cCon (.str "add")) (cCons (cCon (.str "any")) (cCons (cCon (.str "laid")) cNil)))))))) cNil))))) (sSeq (sAsg (gVar 3) (cCall jh (cCons (cVar 2) cNil))) (sSeq (sAsg (gVar 4) (c2 addD (cKeep (aSlice (cVar 3) oNone (oSome (cCon (.int 2))))) (cCall jo (cCons (cVar 1) (cCons (cVar 3) (cCons (cCon (.int 4)) cNil)))))) (sSeq (sFor (iTmp (aSlice (cVar 4) oNone (oSome (cCon (.int 4))))) (gVar 5) morS) (sSeq (sFor (iSeq (cVar 4)) (gVar 5) (sSeq (sAsg (gVar 8) (cCall jd (cCons (cVar 2) (cCons (cVar 5) cNil)))) (sSeq (sFor (iSeq (cVar 8)) (gVar 9) (sSeq (sFor (iTmp (aComp 1 [9] (iSeq (cVar 8)) (gVar 0) (tCmpB (c2 neD (cVar 0) (cVar 1))) (cVar 0))) (gVar 10) innS) sNext)) sNext))) (sSeq (sRet (cCon (.bl true))) sNext))))))):=by unfold morS innS;rfl
section
variable {p q:Nat}{s s1:Sto}{Q:D->Sto->Prop}{h:Hs}{st:Sd}{i j n:Nat}{l:Loc}
theorem allF_refl {f:D->D->Option Bool}:∀ (xs:List D),(∀ x∈xs,f x x=some true)->allF f xs xs=some true
 | [],_=>rfl
 | x::xs,hx=>by
  rw[allF,hx x (by simp)]
  exact allF_refl xs fun y hy=>hx y (by simp[hy])
theorem Qkn {n:Nat} (ts:List Nat):eqF (n + 1) (.tup (ts.map natD)) (.tup (ts.map natD))=some true:=by
 show allF (eqF n) _ _=_
 refine allF_refl _ fun x hx=>?_
 obtain⟨k,_,rfl⟩:=List.mem_map.mp hx
 rw[QjA,decide_eq_true rfl]
theorem Qko (t:T3):eqF 50 (triD t) (triD t)=some true:=by
 unfold triD
 show allF (eqF 49) _ _=_
 refine allF_refl _ fun x hx=>?_
 simp only[List.mem_cons,List.not_mem_nil,or_false]at hx
 rcases hx with rfl | rfl | rfl
 ·exact Qkn _
 ·exact Qkn _
 ·rw[QjA,decide_eq_true rfl]
theorem Qkp {a b:Nat} (ga:s[a]?=some (.lst (twA h st i j))) (gb:s[b]?=some (.lst (twA h st i j))):wp (neD (.ref a) (.ref b)) Q s=Q (.bl false) s:=by
 have e:allF (eqF 50) (twA h st i j) (twA h st i j)=some true:=by
  rw[QjY]
  refine allF_refl _ fun x hx=>?_
  obtain⟨t,_,rfl⟩:=List.mem_map.mp hx
  exact Qko t
 unfold neD eqB
 rw[Qht]
 dsimp only
 rw[Qht,Qhu ga,Qht,Qhu gb,if_pos rfl,e]
 dsimp only
 rw[wp_ret,wp_ret]
 rfl
theorem Qkq {y0 y1 y3 y4 y6 y7 y8 y11 y12 : Option D} {R : Flw -> Sto -> Prop} (hh : HsOk h) (hs : SdOk h st) (hi : i < h.hands.length) (hj : j < h.hands.length) (hij : i ≠ j)
  (hq:∀ y11 y12 u,Ext s u->R (.next [y0,y1,some (hsD h),y3,y4,some (sdD st),y6,y7,y8,some (.int i),some (.int j),y11,y12]) u):
  wp (innS [y0,y1,some (hsD h),y3,y4,some (sdD st),y6,y7,y8,some (.int i),some (.int j),y11,y12]) R s:=by
 unfold innS
 simp_arith []
 refine Qkl hh hs hi hj hij fun a s2 ga la ex2=>?_
 simp_arith []
 refine QjW hh hs hi hj fun b s3 gb lb ex3=>?_
 have q1:∀ Q,wp (neD (.ref b) (.ref a)) Q s3=Q (.bl false) s3:=fun Q=>Qkp gb (ex3.at_ ga)
 have q2:∀ Q,wp (getL b) Q s3=Q (twA h st i j) s3:=fun Q=>Qhu gb
 have q3:∀ es Q,wp (putL b es) Q s3=Q () (s3.set b (.lst es)):=fun es Q=>Qhv gb
 simp_arith [↓q1,↓q2,↓q3,Bool.not_true,Bool.false_eq_true,if_false]
 have la2:=Qix ga
 have ga3:(s3.set b (MO.lst []))[a]?=some (.lst (twA h st i j)):=by rw[List.getElem?_set_ne (by ac_nf)];exact ex3.at_ ga
 have ex4:Ext s (s3.set b (MO.lst [])):=(ex2.trans ex3).put (by have:=ex2.le;ac_nf)
 refine QjW hh hs hi hj fun c s4 gc lc ex5=>?_
 have q4:∀ Q,wp (neD (.ref c) (.ref a)) Q s4=Q (.bl false) s4:=fun Q=>Qkp gc (ex5.at_ ga3)
 simp_arith [↓q4,Bool.false_eq_true,if_false]
 exact hq _ _ _ (ex4.trans ex5)
theorem Qkr {y0 y3 y6 y7 y8 y9 y10 y11 y12 : Option D} {n4 : Nat} {ds : List D} {R : Flw -> Sto -> Prop} (hh : HsOk h) (hs : SdOk h st) (hp : PK p q s s1) (g : s1[n4]? = some (.lst ds)) (hnp : n4 ≠ p) (hnq : n4 ≠ q) (hle : s.length <= n4) (hl : ds.length <= 1000)
  (hq:∀ y6 y7 st' s',SdOk h st'->s'[n4]?=some (.lst (ds++[sdD st']))->PK p q s s'->R (.next [y0,some (.dic p),some (hsD h),y3,some (.ref n4),some (sdD st),y6,y7,y8,y9,y10,y11,y12]) s'):
  wp (morS [y0,some (.dic p),some (hsD h),y3,some (.ref n4),some (sdD st),y6,y7,y8,y9,y10,y11,y12]) R s1:=by
 unfold morS
 have lh:∀ (Q:D->Sto->Prop) s,wp (subsD (hsD h) (.int 1)) Q s=Q (.tup (h.hands.map hdD)) s:=fun Q s=>by unfold hsD;rw[x_subsT,x_item1]
 have z3:=hh.2.2.1
 have z4:=hh.2.2.2.1
 simp_arith [↓lh,List.length_map]
 refine QiI hp (by ac_nf) (by ac_nf) fun k v k0 k1 hkv wv=>?_
 obtain⟨k,rfl⟩:=toN k0
 have hk:k < h.hands.length:=by ac_nf
 have ek:=List.getElem?_eq_getElem hk
 have hx:=hh.2.2.2.2 _ (List.mem_of_getElem? ek)
 generalize h.hands[k]=hd at ek hx
 have w1:∀ Q s,wp (itemD (h.hands.map hdD) (k:Int)) Q s=Q (.tup [.tup [natD hd.b0,natD hd.b1],.tup (hd.lines.map lnD)]) s:=fun Q s=>QhL (by rw[List.getElem?_map,ek];rfl)
 have b0:=hx.1
 have b1:=hx.2.2.1
 simp_arith [↓lh,↓w1,List.length_map]
 refine QiI hkv (by ac_nf) (by ac_nf) fun t v2 t0 t1 hkv2 wv2=>?_
 obtain⟨t,rfl⟩:=toN t0
 have s0:∀ (Q:D->Sto->Prop) s,wp (subsD (sdD st) (.int 0)) Q s=Q (.tup (st.ls.map natD)) s:=fun Q s=>by unfold sdD;rw[x_subsT,x_item0]
 have s1':∀ (Q:D->Sto->Prop) s,wp (subsD (sdD st) (.int 1)) Q s=Q (.tup (st.ss.map natD)) s:=fun Q s=>by unfold sdD;rw[x_subsT,x_item1]
 have hlx:(st.ls.map natD).length=h.hands.length:=by rw[List.length_map,hs.1]
 have c1:¬(sIx (st.ls.map natD).length 0 none=0/\sIx (st.ls.map natD).length (st.ls.map natD).length (some (k:Int))=(st.ls.map natD).length):=by
  unfold sIx;simp only[Int.toNat_natCast];rw[if_neg (by ac_nf)];ac_nf
 have c2':¬(sIx (st.ls.map natD).length 0 (some ((k:Int) + 1))=0/\sIx (st.ls.map natD).length (st.ls.map natD).length none=(st.ls.map natD).length):=by
  unfold sIx;dsimp only;rw[if_neg (by ac_nf)];ac_nf
 have e1:cutD (st.ls.map natD) none (some (k:Int))=(st.ls.map natD).take k:=by
  unfold cutD sIx;simp only[Int.toNat_natCast];rw[if_neg (by ac_nf),List.drop_zero];congr 1;ac_nf
 have e2:cutD (st.ls.map natD) (some ((k:Int) + 1)) none=(st.ls.map natD).drop (k + 1):=by
  unfold cutD sIx
  have:(if (k:Int) + 1 < 0 then ((k:Int) + 1 + ((st.ls.map natD).length:Int)).toNat else min ((k:Int) + 1).toNat (st.ls.map natD).length)=k + 1:=by rw[if_neg (by ac_nf)];ac_nf
  simp only[this]
  exact List.take_of_length_le (by rw[List.length_drop];exact Nat.le_refl _)
 have l1:1<=lim:=QhF (by ac_nf)
 have l2:2<=lim:=QhF (by ac_nf)
 have l3:((st.ls.map natD).take k).length + 1<=lim:=QhF (by rw[List.length_take];ac_nf)
 have l4:((st.ls.map natD).take k++[D.int (t:Int)]).length + ((st.ls.map natD).drop (k + 1)).length<=lim:=QhF (by rw[List.length_append,List.length_take,List.length_drop,List.length_singleton];ac_nf)
 have g2:=(wv.trans wv2).same hnp hnq g
 have q2:∀ Q,wp (getL n4) Q v2=Q ds v2:=fun Q=>Qhu g2
 have q3:∀ es Q,wp (putL n4 es) Q v2=Q () (v2.set n4 (.lst es)):=fun es Q=>Qhv g2
 have es:(st.ls.map natD).take k++[D.int (t:Int)]++(st.ls.map natD).drop (k + 1)=(st.ls.set k t).map natD:=by
  rw[List.map_set,List.set_eq_take_append_cons_drop,if_pos (by ac_nf)];simp[natD]
 generalize hxs:st.ls.map natD=xs at *
 simp_arith [↓s0,↓s1',c1,c2',not_false_eq_true,e1,e2,l1,l2,l3,l4,es,↓q2,↓q3]
 refine⟨QhG (by ac_nf),hq _ _ ⟨st.ls.set k t,st.ss⟩ _ ⟨by rw[List.length_set];exact hs.1,hs.2.1,fun k' hd' l a1 a2=>?_,hs.2.2.2⟩ ?_ (hkv2.put (by ac_nf) (by ac_nf) (by ac_nf))⟩
 ·by_cases e:k=k'
  ·subst e
   rw[List.getElem?_set_self (by rw[hs.1];exact hk)]at a2
   rw[ek]at a1
   cases a1
   cases a2
   ac_nf
  ·rw[List.getElem?_set_ne e]at a2
   exact hs.2.2.1 k' hd' l a1 a2
 ·exact List.getElem?_set_self (Qix g2)
end
theorem PK.ext {p q:Nat}{s s1 x:Sto} (h:PK p q s s1) (e:Ext s1 x):PK p q s x:=⟨h.1.ext e,h.2.trans (Kept.ext e)⟩
theorem Qks (ns:List Int) (hn:ns.length<=63):wp (jK [.lit (ns.map D.int)]) (fun d _=>d=.bl true) []:=by
 simp_arith [jK,Qkm]
 refine QiG fun p q s0 hp _ _ _=>?_
 have h0:PK p q s0 s0:=PK.refl hp
 have l6:6<=lim:=QhF (by ac_nf)
 have l2:2<=lim:=QhF (by ac_nf)
 simp_arith []
 refine QiI h0 (by ac_nf) (by ac_nf) fun r' s3 r0' r1' h3 w3=>?_
 obtain⟨r',rfl⟩:=toN r0'
 have e2':(2:Int) + (r':Int)=((2 + r':Nat):Int):=by ac_nf
 simp_arith [e2',l6]
 have p3:=h3.1.lt
 refine Qi1 (nh:=2 + r') (sorts:=["first","plain","swap","add","any","laid"]) h3.snoc Qii (by ac_nf) (by ac_nf) (by simp) (by simp) (by ac_nf) fun h s4 hc h4 w4=>?_
 have hh:=hc.1
 simp_arith []
 refine QjC hc fun no order s5 hok hnd o1 o2 hg hle hx=>?_
 have h5:PK p q s0 s5:=h4.ext hx
 have p5:=h5.1.lt
 have p4:=h4.1.lt
 have q5:∀ Q:List D->Sto->Prop,wp (getL no) Q s5=Q (order.map sdD) s5:=fun Q=>Qhu hg
 simp_arith [↓q5]
 have hcm:∀ t∈cutD (order.map sdD) none (some 2),t∈order.map sdD:=fun t h=>by unfold cutD at h;exact List.mem_of_mem_drop (List.mem_of_mem_take h)
 have hcl:(cutD (order.map sdD) none (some 2)).length<=900:=by
  unfold cutD
  refine Nat.le_trans (by rw[List.length_take];exact Nat.min_le_right _ _) ?_
  rw[List.length_drop,List.length_map];ac_nf
 generalize cutD (order.map sdD) none (some 2)=cc at hcm hcl
 refine QjD (n:=4) (h:=h) h5.snoc (Qij hg) (by ac_nf) (by ac_nf) o1 (by ac_nf) (by ac_nf) hok fun m ys s7 hy1 hy2 hyl g7 hm h7 w7=>?_
 have ga:=w7.same (n:=s5.length) (by ac_nf) (by ac_nf) (Qii:(s5++[MO.lst cc])[s5.length]?=_)
 rw[QhK ga g7]
 refine⟨QhF (by rw[List.length_map];ac_nf),?_⟩
 have okx:∀ d∈cc++ys.map sdD,∃ a,SdOk h a/\sdD a=d:=fun d hd=>by
  rcases List.mem_append.mp hd with hd | hd
  ·obtain⟨a,ha,e⟩:=List.mem_map.mp (hcm d hd)
   exact⟨a,hok a ha,e⟩
  ·obtain⟨a,ha,e⟩:=List.mem_map.mp hd
   exact⟨a,hy1 a ha,e⟩
 have lx:(cc++ys.map sdD).length<=904:=by rw[List.length_append,List.length_map];ac_nf
 have g8:(s7++[MO.lst (cc++ys.map sdD)])[s7.length]?=some (.lst (cc++ys.map sdD)):=Qii
 have h8:PK p q s0 (s7++[MO.lst (cc++ys.map sdD)]):=h7.snoc
 have p7:=h7.1.lt
 have l07:s0.length<=s7.length:=h7.2.le
 generalize s7.length=n4 at g8 p7 l07
 generalize cc++ys.map sdD=ds at okx lx g8 h8
 generalize s7++[MO.lst ds]=s8 at g8 h8
 have q8:∀ Q:List D->Sto->Prop,wp (getL n4) Q s8=Q ds s8:=fun Q=>Qhu g8
 simp_arith [↓q8]
 have hcm4:∀ t∈cutD ds none (some 4),t∈ds:=fun t h=>by unfold cutD at h;exact List.mem_of_mem_drop (List.mem_of_mem_take h)
 have hcl4:(cutD ds none (some 4)).length<=4:=by unfold cutD sIx;rw[List.length_take];simp;ac_nf
 generalize cutD ds none (some 4)=dd at hcm4 hcl4
 refine QhH (fun i l u=>∃ (es:List D) (y5 y6 y7:Option D),l=[some (.lit (ns.map D.int)),some (.dic p),some (hsD h),some (.ref no),some (.ref n4),y5,y6,y7,none,none,none,none,none]/\u[n4]?=some (.lst es)/\es.length<=904 + i/\(∀ d∈es,∃ a,SdOk h a/\sdD a=d)/\PK p q s0 u) (fun _ _ _ _=>trivial)
  ⟨ds,_,_,_,rfl,g8,by ac_nf,okx,h8⟩ (fun i d l u hd hW=>?_) (fun l u hW=>?_)
 ·obtain⟨es,y5,y6,y7,el,g,hl,ok,hk⟩:=hW
  subst el
  have hi:=(List.getElem?_eq_some_iff.mp hd).1
  obtain⟨a,ha,ed⟩:=okx d (hcm4 d (List.mem_of_getElem? hd))
  subst ed
  simp_arith []
  refine Qkr hh ha hk g (by ac_nf) (by ac_nf) l07 (by ac_nf) fun y6 y7 b u2 hb g2 hk2=>⟨es++[sdD b],_,_,_,rfl,g2,by simp;ac_nf,fun d hd=>?_,hk2⟩
  rcases List.mem_append.mp hd with hd | hd
  ·exact ok d hd
  ·exact⟨b,hb,(List.mem_singleton.mp hd).symm⟩
 ·obtain⟨es,y5,y6,y7,el,g,hl,ok,hk⟩:=hW
  subst el
  have q9:∀ Q:List D->Sto->Prop,wp (getL n4) Q u=Q es u:=fun Q=>Qhu g
  simp_arith [↓q9]
  refine QhH (fun i l u=>∃ (y5 y8 y9 y10 y11 y12:Option D),l=[some (.lit (ns.map D.int)),some (.dic p),some (hsD h),some (.ref no),some (.ref n4),y5,y6,y7,y8,y9,y10,y11,y12]/\u[n4]?=some (.lst es)) (fun _ _ _ w=>by obtain⟨_,_,_,_,_,_,_,g⟩:=w;exact g)
   ⟨_,_,_,_,_,_,rfl,g⟩ (fun i d l u hd hW=>?_) (fun l u hW=>?_)
  ·obtain⟨y5,y8,y9,y10,y11,y12,el,g⟩:=hW
   subst el
   obtain⟨a,ha,ed⟩:=ok d (List.mem_of_getElem? hd)
   subst ed
   have q1:∀ (Q:D->Sto->Prop) s,wp (jd [hsD h,sdD a]) Q s=Q (.ref s.length) (s++[.lst ((fr h a).map natD)]):=fun Q s=>Qje hh ha
   have gh:(u++[MO.lst ((fr h a).map natD)])[u.length]?=some (.lst ((fr h a).map natD)):=Qii
   have gb:=Qij (b:=MO.lst ((fr h a).map natD)) g
   have q2:∀ Q:List D->Sto->Prop,wp (getL u.length) Q (u++[MO.lst ((fr h a).map natD)])=Q ((fr h a).map natD) (u++[MO.lst ((fr h a).map natD)]):=fun Q=>Qhu gh
   simp_arith [↓q1,↓q2]
   clear q1 q2
   generalize u.length=nh at gh
   generalize u++[MO.lst ((fr h a).map natD)]=u1 at gh gb
   refine QhH (fun i l u=>∃ (y9 y10 y11 y12:Option D),l=[some (.lit (ns.map D.int)),some (.dic p),some (hsD h),some (.ref no),some (.ref n4),some (sdD a),y6,y7,some (.ref nh),y9,y10,y11,y12]/\u[nh]?=some (.lst ((fr h a).map natD))/\u[n4]?=some (.lst es)) (fun _ _ _ w=>by obtain⟨_,_,_,_,_,g,_⟩:=w;exact g)
    ⟨_,_,_,_,rfl,gh,gb⟩ (fun m d l u hd hW=>?_) (fun l u hW=>?_)
   ·obtain⟨y9,y10,y11,y12,el,gh,gb⟩:=hW
    subst el
    obtain⟨i,hi,ed⟩:=List.mem_map.mp (List.mem_of_getElem? hd)
    subst ed
    have hi':=Qjf hi
    have qh:∀ Q:List D->Sto->Prop,wp (getL nh) Q u=Q ((fr h a).map natD) u:=fun Q=>Qhu gh
    have w : ∀ A, wp (collect (gVar 0) (tCmpB (c2 neD (cVar 0) (cVar 1))) (cVar 0) (sameL nh ((fr h a).map natD)) ((fr h a).map natD) [none, some (natD i)]) A u = A ((((fr h a).map natD).filter fun d => match d with
      | .int k => !(k == (i:Int))
      | _=>false).map id) u:=fun A=>by
     rw[Qiw (l0:=[]) (fun l=>∃ x,l=[x,some (natD i)]) (fun d=>match d with
      | .int k => !(k == (i:Int))
      | _=>false) id gh _ _ ⟨_,rfl⟩ (fun d hd l hI=>by
      obtain⟨x,el⟩:=hI
      obtain⟨k,hk,ed⟩:=List.mem_map.mp hd
      subst ed el
      refine⟨[some (natD k),some (natD i)],fun G=>by simp_arith [],⟨_,rfl⟩,fun T=>?_,fun Q=>by simp_arith [];rfl⟩
      unfold natD
      simp_arith [])]
    have hmem : ∀ d ∈ ((((fr h a).map natD).filter fun d => match d with
      | .int k => !(k == (i:Int))
      | _=>false).map id),∃ j,j∈fr h a/\i≠j/\d=.int j:=fun d hd=>by
     rw[List.map_id]at hd
     obtain⟨hd1,hd2⟩:=List.mem_filter.mp hd
     obtain⟨j,hj,ed⟩:=List.mem_map.mp hd1
     subst ed
     refine⟨j,hj,fun e=>?_,rfl⟩
     subst e
     simp[natD]at hd2
    have hfr:((fr h a).map natD).length<=lim:=QhF (by
     rw[List.length_map]
     have:=List.length_filter_le (fun k=>isAct (lineAt h a k)) (List.range h.hands.length)
     rw[List.length_range]at this
     have z4:=hh.2.2.2.1
     unfold fr
     ac_nf)
    generalize ((((fr h a).map natD).filter fun d => match d with
      | .int k => !(k == (i:Int))
      | _=>false).map id)=js at w hmem
    simp_arith [↓qh,capt,↓w,hfr]
    refine QhH (fun m' l u=>∃ y10 y11 y12,l=[some (.lit (ns.map D.int)),some (.dic p),some (hsD h),some (.ref no),some (.ref n4),some (sdD a),y6,y7,some (.ref nh),some (natD i),y10,y11,y12]/\u[nh]?=some (.lst ((fr h a).map natD))/\u[n4]?=some (.lst es)) (fun _ _ _ _=>trivial)
     ⟨_,_,_,rfl,gh,gb⟩ (fun m' d l u hd hW=>?_) (fun l u hW=>?_)
    ·obtain⟨y10,y11,y12,el,gh,gb⟩:=hW
     subst el
     obtain⟨j,hj,hij,ed⟩:=hmem d (List.mem_of_getElem? hd)
     subst ed
     have hj':=Qjf hj
     simp_arith []
     exact Qkq hh ha hi' hj' hij fun y11 y12 u2 ex=>⟨_,_,_,rfl,ex.at_ gh,ex.at_ gb⟩
    ·obtain⟨y10,y11,y12,el,gh,gb⟩:=hW
     subst el
     simp_arith []
     exact⟨_,_,_,_,rfl,gh,gb⟩
   ·obtain⟨y9,y10,y11,y12,el,gh,gb⟩:=hW
    subst el
    simp_arith []
    exact⟨_,_,_,_,_,_,rfl,gb⟩
  ·obtain⟨y5,y8,y9,y10,y11,y12,el,g⟩:=hW
   subst el
   simp_arith []
theorem law_true (ns:List Int) (hn:ns.length<=63):∃ st',jK [.lit (ns.map D.int)] []=.ok (.bl true) st':=Qih (Qks ns hn)
open PySem PySem.Spec PyProof.Rows L2
theorem walk {l : PySem.W.OpenLaw} {q : Program} {loose : List Str} {XP : (Str -> Option Value) -> Heap -> Prop} {YP : World -> Heap -> Prop} {d : DefRec} {K : Params -> PySem.W.Frag} (hn : l.most = some 63) (hdf : d.params.defaults = []) (hnm : d.name = "law")
  (hY:∀ (w:World) (h:Heap),YP w h->(K w.params).In h) (F:∀ (w:World) (mg:Str->Option Value) (h:Heap),(K w.params).In h->h.Ns mainGlobals mg->Txt (K w.params) mg):
  PySem.W.WalkO q loose XP YP l.row.toRowW d [] (fun f vs=>PySem.call f vs):=by
 refine L2.walk_ofK (n:=63) (k:=5) (x:="_law_script") (CX:=CX0) (K:=K) (sp:=fun K=>spOf K 1 jK) hn (by decide) hdf ⟨rfl,by decide,by decide⟩ hY (fun w mg fa h kin ns hmg=>?_) (fun K H a ns hl hO hS=>QgE hO hS (law_true ns hl)) (fun _ _ _ _ z=>z)
 have T:=F w mg h kin ns
 obtain⟨a,fd,L,m⟩:=T.f28
 rw[hnm,m]at hmg
 cases hmg
 refine⟨fd,fun s u=>?_,fun base _ _=>j7 L T⟩
 obtain⟨oc,od,kV,doc,pm,an,cdv,ct,osl,e,lk,hcd⟩:=L.ex
 rw[e]
 exact .of_eq rfl
end My
def PySem.W.Fast.tw11833716638973679581:PySem.Program:=PySem.Challenge.pw_pactboards_k44_twins
theorem PySem.W.Fast.te11833716638973679581:PySem.Challenge.pw_pactboards_k44_twins=PySem.W.Fast.tw11833716638973679581:=rfl
namespace PySem.W.Fast
def tw6283396535526046911:=0
def tw13165918396077986330:=0
def tw11066201607954512825:=0
def tw8795491636753906864:=0
def tw8324505065391944548:=0
def tw17556155303589890686:=0
def tw10510094013238354493:=0
def tw5484848906103579699:=0
def tw12573389995483704111:=0
def tw12862102121137480760:=0
def tw17629604827501909820:=0
def tw18236846941124750213:=0
def tw2841262643288070269:=0
def tw14671994702320945630:=0
def tw515249855574729397:=0
def tw7345913381689372901:=0
def tw13516597437565128081:=0
def tw7037519299306899501:=0
def tw10190779842922481170:=0
def tw7990307556913698093:=0
def tw1641598149455408347:=0
def tw8333210198994342667:=0
def tw40876770455803911:=0
def tw3036481693255141225:=0
def tw94139854313162018:=0
def tw13628594992196124991:=0
def tw5464485155069994494:=0
def tw12371061190251059858:=0
def tw3823450474943036487:=0
def tw8996158943563027918:=0
def tw1739819702054482637:=0
def tw3291182746279756720:=0
def tw714079564248373496:=0
def tw4315246046974550872:=0
def tw15690071455464882219:=0
def tw2145823913636805712:=0
def tw7310891851810357219:=0
def tw1902224257789644660:=0
def tw5369691272426710275:=0
def tw13509603763102057918:=0
def tw4694570661480186125:=0
def tw107640489260249034:=0
def tw16724953584251439688:=0
def tw10402210382047609714:=0
def tw12561274934296651055:=0
def tw16668181055895712824:=0
def tw14652234540087587044:=0
def tw13020459058574108561:=0
def tw5174907881271350879:=0
def tw8348333455987140868:=0
def tw5838761716541870042:=0
def tw15782602501467816994:=0
def tw9054660271696303196:=0
def tw10179457639925595016:=0
def tw4059891191667652009:=0
def tw2933572206886523209:=0
def tw7632336974881366957:=0
def tw7069595887355761799:=0
def tw8786517484148375377:=0
def tw15684422302392653883:=0
def tw3887359379594461177:=0
def tw18134827120716194314:=0
def tw7511313534169936569:=0
def tw1562458991416642287:=0
def tw14121473016091556046:=0
def tw12089871597779642349:=0
def tw10734582209299315754:=0
def tw12133697412234158306:=0
def tw10826257157354798180:=0
def tw9670780425982638178:=0
def tw5039901198528639543:=0
def tw10059636493575445145:=0
def tw14257010429516919841:=0
def tw3632866508604648962:=0
def tw15756145174644509607:=0
def tw11585762199511830045:=0
def tw5715253693992151484:=0
def tw6869368256445436767:=0
def tw4502288491658610538:=0
def tw17387977571144092526:=0
def tw14581590236125269044:=0
def tw7274823507290913239:=0
def tw9819958554386598110:=0
def tw9745388825255823463:=0
def tw11625623583352872573:=0
def tw11342282963875191938:=0
def tw11429897947660060463:=0
def tw15084770094975132440:=0
def tw7495533598385432667:=0
def tw13163967232997123802:=0
def tw13785539987710829065:=0
def tw18091573928067519355:=0
def tw6960019546428325646:=0
def tw16593647556178703932:=0
def tw540599199365694873:=0
def tw13988944865358626981:=0
def tw1132089895027879124:=0
def tw3253908148154965491:=0
def tw9387724393987430986:=0
def tw11723575420240082135:=0
end PySem.W.Fast
open PySem PySem.W PyProof.Rows
set_option maxHeartbeats 0 in
theorem PySem.Challenge.cw_pactboards_k44_twins_holds : PySem.Challenge.rw_pactboards_k44_twins.Holds := by
 w_on;o_law;k_head;(case hw=>w_witness2)
 k_fill
 refine My.walk (l:=PySem.Challenge.rw_pactboards_k44_twins) rfl rfl rfl (fun w h Y=>PySem.W.kIn_of Y) ?F
 case F=>
  intro w mg h KX G
  refine' My.Txt.mk (MM.fnat KX G ?a0 ?l0 ?c0 ?k0) (MM.fnat KX G ?a1 ?l1 ?c1 ?k1) (MM.fnat KX G ?a2 ?l2 ?c2 ?k2) (MM.fnat KX G ?a3 ?l3 ?c3 ?k3) (MM.fnat KX G ?a4 ?l4 ?c4 ?k4) (MM.fnat KX G ?a5 ?l5 ?c5 ?k5) (MM.fnat KX G ?a6 ?l6 ?c6 ?k6) (MM.fnat KX G ?a7 ?l7 ?c7 ?k7) (MM.fnat KX G ?a8 ?l8 ?c8 ?k8) (MM.fnat KX G ?a9 ?l9 ?c9 ?k9) (MM.fnat KX G ?a10 ?l10 ?c10 ?k10) (MM.fnat KX G ?a11 ?l11 ?c11 ?k11) (MM.fnat KX G ?a12 ?l12 ?c12 ?k12) (MM.fnat KX G ?a13 ?l13 ?c13 ?k13) (MM.fnat KX G ?a14 ?l14 ?c14 ?k14) (MM.fnat KX G ?a15 ?l15 ?c15 ?k15) (MM.fnat KX G ?a16 ?l16 ?c16 ?k16) (MM.fnat KX G ?a17 ?l17 ?c17 ?k17) (MM.fnat KX G ?a18 ?l18 ?c18 ?k18) (MM.fnat KX G ?a19 ?l19 ?c19 ?k19) (MM.fnat KX G ?a20 ?l20 ?c20 ?k20) (MM.fnat KX G ?a21 ?l21 ?c21 ?k21) (MM.fnat KX G ?a22 ?l22 ?c22 ?k22) (MM.fnat KX G ?a23 ?l23 ?c23 ?k23) (MM.fnat KX G ?a24 ?l24 ?c24 ?k24) (MM.fnat KX G ?a25 ?l25 ?c25 ?k25) (MM.fnat KX G ?a26 ?l26 ?c26 ?k26) (MM.fnat KX G ?a27 ?l27 ?c27 ?k27) (MM.fnat KX G ?a28 ?l28 ?c28 ?k28) (MM.z_cons (PySem.W.mg_none_of KX G ?z0) (MM.z_cons (PySem.W.mg_none_of KX G ?z1) (MM.z_cons (PySem.W.mg_none_of KX G ?z2) (MM.z_cons (PySem.W.mg_none_of KX G ?z3) (MM.z_cons (PySem.W.mg_none_of KX G ?z4) (MM.z_cons (PySem.W.mg_none_of KX G ?z5) (MM.z_cons (PySem.W.mg_none_of KX G ?z6) (MM.z_cons (PySem.W.mg_none_of KX G ?z7) (MM.z_cons (PySem.W.mg_none_of KX G ?z8) (MM.z_cons (PySem.W.mg_none_of KX G ?z9) MM.z_nil)))))))))) MM.c_nil
  case a0 | l0 | c0 | k0 | a1 | l1 | c1 | k1 | a2 | l2 | c2 | k2 | a3 | l3 | c3 | k3 | a4 | l4 | c4 | k4 | a5 | l5 | c5 | k5 | a6 | l6 | c6 | k6 | a7 | l7 | c7 | k7 | a8 | l8 | c8 | k8 | a9 | l9 | c9 | k9 | a10 | l10 | c10 | k10 | a11 | l11 | c11 | k11 | a12 | l12 | c12 | k12 | a13 | l13 | c13 | k13 | a14 | l14 | c14 | k14 | a15 | l15 | c15 | k15 | a16 | l16 | c16 | k16 | a17 | l17 | c17 | k17 | a18 | l18 | c18 | k18 | a19 | l19 | c19 | k19 | a20 | l20 | c20 | k20 | a21 | l21 | c21 | k21 | a22 | l22 | c22 | k22 | a23 | l23 | c23 | k23 | a24 | l24 | c24 | k24 | a25 | l25 | c25 | k25 | a26 | l26 | c26 | k26 | a27 | l27 | c27 | k27 | a28 | l28 | c28 | k28 | z0 | z1 | z2 | z3 | z4 | z5 | z6 | z7 | z8 | z9=>k_is