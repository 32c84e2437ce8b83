import PyProof.Rows.All
import Wide.All
import OpenK.AllK
import Wide.FinOn
import Lean
import PyProof.EqAt
import PyProof.EqKinds
import PyProof.TupleCall
import PySem.Str
import PyProof.NeKinds
import PyProof.IsRules
import PyProof.Rows.StrRev
import KE.KSortTup
import PyProof.Rows.ZipGen
import KE.KRevIter
import KE.KDictList
import KE.KIntText
import PyProof.Rows.StrNews
import PyProof.Rows.StrJoin2
import PyProof.Rows.FStr
import PyProof.StrWalks
import PyProof.StrLawsTight
import KE.KSort
import PyProof.Rows.SetFrom
import KE.KDictSum
import PyProof.ExcInit
import PyProof.ExcClass3
import PyProof.ExcBaseAll.ValueError
import PyProof.ExcAttrAll.ValueError
import PyProof.ExcArgsOwn
import PySem.SetOps
import PyProof.TupleOfGen
import PyProof.MinMaxWalk
import PyProof.FactsAll.tuple_2
import KE.KMinBuiltin
import PyProof.Rows.CallKwBuiltin
import PySem.Challenge.RW_pactboards_k26_whole_turns_in_another_or
local macro_rules | `(tactic| nofun)=>`(tactic| decide +kernel)
local macro_rules | `(tactic| ac_nf)=>`(tactic| first | lia | omega)
set_option genSizeOf false
set_option Elab.async false
set_option linter.all false
set_option maxRecDepth 100000
set_option maxHeartbeats 4000000
noncomputable section
namespace L2
open PySem PySem.Spec PyProof.Rows
abbrev Key:=Sum Int Str
def keyIs:Key->Value->Bool
 | .inl k,v=>Value.isInt k v
 | .inr x,v=>Value.isStrOf x v
def keyH (w:World):Key->Int
 | .inl k=>hashInt k
 | .inr x=>hashStr w x
theorem keyIs_shape:∀ {k:Key}{v:Value},keyIs k v=true->(∃ i t,k=Sum.inl i/\v=Value.int i t)\/(∃ x t,k=Sum.inr x/\v=Value.str x t)
 | .inl i,v,h=>by
  obtain⟨t,e⟩:=Value.isInt_shape (k:=i) (v:=v) h
  exact .inl ⟨i,t,rfl,e⟩
 | .inr x,v,h=>by
  obtain⟨t,e⟩:=Value.isStrOf_shape (x:=x) (v:=v) h
  exact .inr ⟨x,t,rfl,e⟩
theorem Qaa (i:Int) (t:Tok):keyIs (.inl i) (.int i t)=true:=by simp[keyIs,Value.isInt]
theorem Qab (x:Str) (t:Tok):keyIs (.inr x) (.str x t)=true:=by simp[keyIs,Value.isStrOf]
theorem Qac (a b:Int):decide ((Sum.inl a:Key)=Sum.inl b)=(a == b):=by
 by_cases e:a=b
 ·subst e;simp
 ·have h:¬ (Sum.inl a:Key)=Sum.inl b:=fun q=>e (Sum.inl.inj q)
  rw[decide_eq_false h]
  exact (beq_eq_false_iff_ne.mpr e).symm
theorem Qad (a b:Str):decide ((Sum.inr a:Key)=Sum.inr b)=decide (a=b):=by
 by_cases e:a=b
 ·subst e;simp
 ·have h:¬ (Sum.inr a:Key)=Sum.inr b:=fun q=>e (Sum.inr.inj q)
  rw[decide_eq_false h,decide_eq_false e]
theorem Qae (a:Int) (b:Str):decide ((Sum.inl a:Key)=Sum.inr b)=false:=decide_eq_false (fun q=>nomatch q)
theorem Qaf (a:Str) (b:Int):decide ((Sum.inr a:Key)=Sum.inl b)=false:=decide_eq_false (fun q=>nomatch q)
def mixKind (prog:Program) (w:World):PySem.KeyKind prog w Key where
 is:=keyIs
 hash:=keyH w
 inj:=fun v a b ha hb=>by
  rcases keyIs_shape ha with ⟨i,t,rfl,rfl⟩ | ⟨x,t,rfl,rfl⟩
  ·rcases keyIs_shape hb with ⟨j,u,rfl,e⟩ | ⟨y,u,rfl,e⟩
   ·injection e with e1 _;rw[e1]
   ·exact nomatch e
  ·rcases keyIs_shape hb with ⟨j,u,rfl,e⟩ | ⟨y,u,rfl,e⟩
   ·exact nomatch e
   ·injection e with e1 _;rw[e1]
 byValue:=fun k v h=>by
  rcases keyIs_shape h with ⟨i,t,rfl,rfl⟩ | ⟨x,t,rfl,rfl⟩<;>rfl
 pyHash:=fun hv h=>by
  rcases keyIs_shape hv with ⟨i,t,rfl,rfl⟩ | ⟨x,t,rfl,rfl⟩
  ·exact wpAny_pyHash_int h
  ·exact wpAny_pyHash_str h
 eqBool:=fun hu hv h=>by
  rcases keyIs_shape hu with ⟨i,t,rfl,rfl⟩ | ⟨x,t,rfl,rfl⟩
  ·rcases keyIs_shape hv with ⟨j,u,rfl,rfl⟩ | ⟨y,u,rfl,rfl⟩
   ·rw[Qac]at h;exact wpAny_eqBool_int h
   ·rw[Qae]at h;exact SeqAt.EqAt.int_str i t y u _ _ _ _ h
  ·rcases keyIs_shape hv with ⟨j,u,rfl,rfl⟩ | ⟨y,u,rfl,rfl⟩
   ·rw[Qaf]at h;exact SeqAt.EqAt.str_int x t j u _ _ _ _ h
   ·rw[Qad]at h;exact wpAny_eqBool_str h
 «strs»:=fun k x t v h=>by
  rcases keyIs_shape h with ⟨i,u,rfl,e⟩ | ⟨y,u,rfl,e⟩
  ·exact nomatch e
  ·injection e with e1 _
   subst e1
   cases v<;>rfl
theorem Qag (prog:Program) (w:World) (i:Int) (t:Tok):(mixKind prog w).is (.inl i) (.int i t)=true:=Qaa i t
theorem Qah (prog:Program) (w:World) (x:Str) (t:Tok):(mixKind prog w).is (.inr x) (.str x t)=true:=Qab x t
inductive V where
 | non | bl (b:Bool) | int (i:Int) | str (x:Str) | byt (b:Array UInt8) | flt (b:UInt64) | ref (a:Addr) | ty (n:String)
 deriving DecidableEq
def RelV:V->Value->Prop
 | .non,u=>u=Value.none
 | .bl b,u=>u=Value.bool b
 | .int i,u=>∃ t,u=Value.int i t
 | .str x,u=>∃ t,u=Value.str x t
 | .byt b,u=>∃ t,u=Value.bytes b t
 | .flt b,u=>∃ t,u=Value.float b t
 | .ref a,u=>u=Value.ref a
 | .ty n,u=>u=Value.type n
abbrev Vals:List V->List Value->Prop:=Paired RelV
theorem Vals.length {xs:List V}{us:List Value} (r:Vals xs us):xs.length=us.length:=Paired.length r
theorem Vals.get:∀ {xs:List V}{us:List Value}{i:Nat}{x:V},Vals xs us->xs[i]?=some x->∃ u,us[i]?=some u/\RelV x u
 | _,_,_,_,.nil,e=>by simp at e
 | _,_,0,_,.cons r _,e=>by simp at e;subst e;exact⟨_,rfl,r⟩
 | _,_,i + 1,x,.cons _ t,e=>by
  obtain⟨u,h1,h2⟩:=Vals.get (i:=i) (x:=x) t (by simpa using e)
  exact⟨u,by simpa using h1,h2⟩
theorem Vals.set {x:V}{u:Value} (r:RelV x u):∀ {xs:List V}{us:List Value} (i:Nat),Vals xs us->Vals (xs.set i x) (us.set i u)
 | _,_,_,.nil=>.nil
 | _,_,0,.cons _ t=>.cons r t
 | _,_,i + 1,.cons q t=>.cons q (Vals.set r i t)
theorem Vals.append:∀ {xs ys:List V}{us ws:List Value},Vals xs us->Vals ys ws->Vals (xs++ys) (us++ws)
 | _,_,_,_,.nil,s=>s
 | _,_,_,_,.cons r t,s=>.cons r (Vals.append t s)
theorem Vals.take:∀ {xs:List V}{us:List Value} (n:Nat),Vals xs us->Vals (xs.take n) (us.take n)
 | _,_,0,_=>.nil
 | _,_,_ + 1,.nil=>.nil
 | _,_,n + 1,.cons r t=>.cons r (Vals.take n t)
theorem Vals.drop:∀ {xs:List V}{us:List Value} (n:Nat),Vals xs us->Vals (xs.drop n) (us.drop n)
 | _,_,0,r=>r
 | _,_,_ + 1,.nil=>.nil
 | _,_,n + 1,.cons _ t=>Vals.drop n t
def RelO:Option V->Option Value->Prop
 | some v,some u=>RelV v u
 | none,none=>True
 | _,_=>False
def KV {κ:Type}:List (κ × V)->List (κ × Value)->Prop:=Paired fun (p:κ × V) (q:κ × Value)=>p.1=q.1/\RelV p.2 q.2
def kV:Key->V
 | .inl i=>.int i
 | .inr x=>.str x
inductive HO where
 | lst (xs:List V)
 | tup (xs:List V)
 | dK (kvs:List (Key × V)) | dT (kvs:List (List Key × V))
 | set (S:Int->Bool) (n:Nat)
 | ins (C dx:Addr) (fs:List (Str × V))
 | own (x:Addr)
 | xd (fs:List (Str × V))
 | met (f x:Addr)
 | rng (lo hi:Int)
 | frz (o:Obj) (u:HO)
 | tbl (ps:Array Value)
 | ext (φ:Heap->Prop)
abbrev Hp:=Addr->Option HO
def upd (H:Hp) (a:Addr) (o:HO):Hp:=fun b=>if b=a then some o else H b
theorem Qai {H:Hp}{a:Addr}{o:HO}:upd H a o a=some o:=by unfold upd;rw[if_pos rfl]
theorem Qaj {H:Hp}{a b:Addr}{o:HO} (h:b≠a):upd H a o b=H b:=by unfold upd;rw[if_neg h]
theorem Qak {H:Hp}{a b:Addr}{o u:HO} (h:H a=some o) (h':H b=some u) (d:o≠u):a≠b:=by
 intro e;subst e;rw[h]at h';exact d (Option.some.inj h')
theorem Qal {H:Hp}{a b:Addr}{o:HO} (h:H a=some o) (h':H b=none):a≠b:=by
 intro e;subst e;rw[h]at h';cases h'
section
variable (P:Program) (w:World)
def ObjOk (H:Hp) (h:Heap) (a:Addr):HO->Prop
 | .lst xs=>xs.length<=sizeLine/\∃ (its:List Value) (n:Nat),Vals xs its/\h.get? a=some { cls:=.type "list",data:=.seq its.toArray n }
 | .tup xs=>xs.length<=sizeLine/\∃ its:List Value,Vals xs its/\IsTup h a its.toArray
 | .dK kvs=>kvs.length<=sizeLine/\(a == sysModules)=false/\∃ vs,KV kvs vs/\h.DictOf (mixKind P w) a vs
 | .dT kvs => kvs.length <= sizeLine /\ (a == sysModules) = false /\ ∃ xs : List (List Key × Addr × Value),
   Paired (fun (p:List Key × V) (q:List Key × Addr × Value)=>p.1=q.1/\H q.2.1=some (.tup (p.1.map kV))/\RelV p.2 q.2.2) kvs xs /\
   ∃ o es ep,h.get? a=some o/\o.ExactDict/\o.data=.dict es ep/\es.toList=xs.map (entryOfKey (tupleKind (mixKind P w)))/\(xs.map (·.1)).Nodup
 | .set S n=>h.SetOf (intKind P w) a S n
 | .ins C dx fs => H dx = some (.own a) /\ fs.length <= 1000 /\ dx ≠ a /\ h.get? a = some (PySem.W.instObj C dx) /\
   ∃ mA,h.Ns1 dx mA/\(∀ f,RelO (fs.lookup f) (mA f))/\PySem.Within mA (fs.map (·.1))
 | .own _=>∃ o,h.get? a=some o
 | .xd fs=>∃ mA,h.Ns1 a mA/\∀ f,RelO (fs.lookup f) (mA f)
 | .rng lo hi=>∃ t u v,h.get? a=some { cls:=.type "range",data:=.fields #[.int lo t,.int hi u,.int 1 v] }
 | .frz o u=>h.get? a=some o/\ObjOk H h a u
 | .tbl ps=>h.get? a=some { cls:=.none,data:=.fields ps }
 | .met f x=>h.get? a=some (PySem.W.methodObj (.ref f) (.ref x))
 | .ext φ=>φ h/\(∃ o,h.get? a=some o)/\∀ h1 h2:Heap,φ h1->(∀ o,h1.get? a=some o->h2.get? a=some o)->φ h2
def HOk (H:Hp) (h:Heap):Prop:=∀ a o,H a=some o->ObjOk P w H h a o
end
section
variable {P:Program}{w:World}{H H':Hp}{h h':Heap}{a:Addr}{o:HO}
theorem ObjOk.lt (x:ObjOk P w H h a o):a < h.objs.size:=by
 cases o with
 | lst xs=>obtain⟨_,_,_,_,e⟩:=x;exact Heap.lt_size e
 | tup xs=>obtain⟨_,_,_,p⟩:=x;exact p.lt
 | dK kvs=>obtain⟨_,_,_,_,o,_,_,e,_⟩:=x;exact Heap.lt_size e
 | dT kvs=>obtain⟨_,_,_,_,o,_,_,e,_⟩:=x;exact Heap.lt_size e
 | set S n=>obtain⟨o,_,_,_,e,_⟩:=x;exact Heap.lt_size e
 | ins C dx fs=>obtain⟨_,_,_,e,_⟩:=x;exact Heap.lt_size e
 | own y=>obtain⟨_,e⟩:=x;exact Heap.lt_size e
 | xd fs=>obtain⟨_,⟨_,_,_,e,_⟩,_⟩:=x;exact Heap.lt_size e
 | rng lo hi=>obtain⟨_,_,_,e⟩:=x;exact Heap.lt_size e
 | frz ob u=>obtain⟨e,_⟩:=x;exact Heap.lt_size e
 | tbl ps=>exact Heap.lt_size (show h.get? a=some _ from x)
 | met f y=>exact Heap.lt_size (show h.get? a=some _ from x)
 | ext φ=>obtain⟨_,⟨_,e⟩,_⟩:=x;exact Heap.lt_size e
theorem Paired.mapP {α β:Type}{F G:α->β->Prop}:∀ {l₁:List α}{l₂:List β},Paired F l₁ l₂->(∀ a b,F a b->G a b)->Paired G l₁ l₂
 | _,_,.nil,_=>.nil
 | _,_,.cons r t,f=>.cons (f _ _ r) (Paired.mapP t f)
theorem Paired.imp' {α β:Type}{F G:α->β->Prop} (f:∀ a b,F a b->G a b) {l₁:List α}{l₂:List β} (r:Paired F l₁ l₂):Paired G l₁ l₂:=Paired.mapP r f
theorem ObjOk.stay (x : ObjOk P w H h a o) (k : ∀ b u, (b = a \/ H b = some (.own a)) -> h.get? b = some u -> h'.get? b = some u)
  (ho:∀ b,H b=some (.own a)->H' b=some (.own a)) (ht:∀ b xs,H b=some (.tup xs)->H' b=some (.tup xs)):ObjOk P w H' h' a o:=by
 induction o with
 | lst xs=>obtain⟨z,its,n,r,e⟩:=x;exact⟨z,its,n,r,k _ _ (.inl rfl) e⟩
 | tup xs=>obtain⟨z,its,r,ob,e,c⟩:=x;exact⟨z,its,r,ob,k _ _ (.inl rfl) e,c⟩
 | dK kvs=>obtain⟨z,y,vs,r,ob,es,ep,e,c⟩:=x;exact⟨z,y,vs,r,ob,es,ep,k _ _ (.inl rfl) e,c⟩
 | dT kvs=>
  obtain⟨z,y,xs,r,ob,es,ep,e,c⟩:=x
  exact⟨z,y,xs,Paired.mapP r fun p q z=>⟨z.1,ht _ _ z.2.1,z.2.2⟩,ob,es,ep,k _ _ (.inl rfl) e,c⟩
 | set S n=>obtain⟨ob,es,ep,t,e,c⟩:=x;exact⟨ob,es,ep,t,k _ _ (.inl rfl) e,c⟩
 | ins C dx fs=>
  obtain⟨d,z,ne,e,mA,⟨od,es,ep,e2,c⟩,r⟩:=x
  exact⟨ho _ d,z,ne,k _ _ (.inl rfl) e,mA,⟨od,es,ep,k _ _ (.inr d) e2,c⟩,r⟩
 | own y=>obtain⟨ob,e⟩:=x;exact⟨ob,k _ _ (.inl rfl) e⟩
 | xd fs=>obtain⟨mA,⟨od,es,ep,e,c⟩,r⟩:=x;exact⟨mA,⟨od,es,ep,k _ _ (.inl rfl) e,c⟩,r⟩
 | rng lo hi=>obtain⟨t,u,v,e⟩:=x;exact⟨t,u,v,k _ _ (.inl rfl) e⟩
 | frz ob u ih=>obtain⟨e,q⟩:=x;exact⟨k _ _ (.inl rfl) e,ih q⟩
 | tbl ps=>
  have e:h.get? a=some { cls:=.none,data:=.fields ps }:=x
  show h'.get? a=some { cls:=.none,data:=.fields ps }
  exact k a _ (.inl rfl) e
 | met f y=>
  have e:h.get? a=some (PySem.W.methodObj (.ref f) (.ref y)):=x
  show h'.get? a=some (PySem.W.methodObj (.ref f) (.ref y))
  exact k a _ (.inl rfl) e
 | ext φ=>obtain⟨p,⟨o,e⟩,st⟩:=x;exact⟨st _ _ p fun o q=>k _ _ (.inl rfl) q,⟨o,k _ _ (.inl rfl) e⟩,st⟩
theorem HOk.lt (x:HOk P w H h) (e:H a=some o):a < h.objs.size:=(x a o e).lt
theorem HOk.fresh (x:HOk P w H h) (e:h.objs.size<=a):H a=none:=by
 cases q:H a with
 | none=>rfl
 | some u=>exact absurd (Nat.lt_of_lt_of_le (x.lt q) e) (Nat.lt_irrefl _)
theorem HOk.kept (x:HOk P w H h) (k:∀ b u,h.get? b=some u->h'.get? b=some u):HOk P w H h':=fun a o e=>
 (x a o e).stay (fun b u _ q=>k b u q) (fun _ q=>q) fun _ _ q=>q
theorem HOk.laid (x:HOk P w H h) (k:∀ b u,h.get? b=some u->h'.get? b=some u) (hp:h.objs.size<=a) (new:ObjOk P w (upd H a o) h' a o):HOk P w (upd H a o) h':=fun b u e=>by
 have hn:=x.fresh hp
 by_cases hb:b=a
 ·subst hb;rw[Qai]at e;cases e;exact new
 ·rw[Qaj hb]at e
  exact (x b u e).stay (fun c v _ q=>k c v q) (fun c q=>by rw[Qaj (Qal q hn)];exact q) fun c xs q=>by rw[Qaj (Qal q hn)];exact q
end
def Rd (H:Hp) (a:Addr) (u:HO):Prop:=H a=some u\/∃ o,H a=some (.frz o u)
theorem Rd.ok {P:Program}{w:World}{H:Hp}{h:Heap}{a:Addr}{u:HO} (r:Rd H a u) (x:HOk P w H h):ObjOk P w H h a u:=by
 rcases r with r | ⟨o,r⟩
 ·exact x a u r
 ·obtain⟨_,q⟩:=x a _ r
  exact q
def Mut:Option HO->Prop
 | some (.lst _)=>True
 | some (.dK _)=>True
 | some (.dT _)=>True
 | some (.set _ _)=>True
 | some (.ins _ _ _)=>True
 | some (.ext _)=>True
 | _=>False
section
variable {P:Program}{w:World}{H:Hp}{h h':Heap}{x e:Addr}{o':HO}
theorem HOk.write (ok : HOk P w H h) (mu : Mut (H x)) (he : e = x \/ H e = some (.own x)) (k : ∀ b u, b ≠ e -> h.get? b = some u -> h'.get? b = some u) (heo : ∃ u, h'.get? e = some u)
  (new:ObjOk P w (upd H x o') h' x o'):HOk P w (upd H x o') h':=fun b u q=>by
 have nown:∀ c y,H c=some (.own y)->c≠x:=fun c y r z=>by subst z;rw[r]at mu;exact mu
 have ntup:∀ c xs,H c=some (.tup xs)->c≠x:=fun c xs r z=>by subst z;rw[r]at mu;exact mu
 by_cases hb:b=x
 ·subst hb;rw[Qai]at q;cases q;exact new
 ·rw[Qaj hb]at q
  by_cases hbe:b=e
  ·have q' : H b = some (.own x) := by
     rcases he with z | z
     ·exact absurd (hbe.trans z) hb
     ·rw[hbe];exact z
   rw[q]at q';cases q'
   obtain⟨v,hv⟩:=heo
   exact⟨v,by rw[hbe];exact hv⟩
  ·refine (ok b u q).stay (fun c v hc r=>k c v ?_ r) (fun c r=>by rw[Qaj (nown c b r)];exact r) fun c xs r=>by rw[Qaj (ntup c xs r)];exact r
   rcases hc with rfl | hc
   ·exact hbe
   ·rintro rfl
    rcases he with z | z
    ·exact nown c b hc z
    ·rw[hc]at z;cases z;exact hb rfl
end
structure Un (fs ex:List Addr) (H H':Hp) (h h':Heap):Prop where
 keep:∀ b o,h.get? b=some o->H b=none->b∉fs->b∉ex->h'.get? b=some o
 slot:∀ b o,h.get? b=some o->H b=none->b∈fs->b∉ex->∃ sl,h'.get? b=some { o with slots:=sl }
 free:∀ b o,h.get? b=some o->H b=none->b∉ex->H' b=none
 there:∀ b o,h.get? b=some o->b∉ex->∃ o',h'.get? b=some o'
 tups:∀ b xs,H b=some (.tup xs)->H' b=some (.tup xs)
 frzs:∀ b o u,H b=some (.frz o u)->H' b=some (.frz o u)
 tbls:∀ b ps,H b=some (.tbl ps)->∃ more,H' b=some (.tbl (ps++more))
section
variable {fs fs' ex ex':List Addr}{H H1 H2:Hp}{h h1 h2 h':Heap}{a x e:Addr}{o:HO}
theorem Un.any (u:Un fs ex H H1 h h1) {b:Addr}{ob:Obj} (q:h.get? b=some ob) (n:H b=none) (hx:b∉ex):∃ sl,h1.get? b=some { ob with slots:=sl }:=by
 by_cases hb:b∈fs
 ·exact u.slot b ob q n hb hx
 ·exact⟨ob.slots,u.keep b ob q n hb hx⟩
theorem Un.kept (k:∀ b u,h.get? b=some u->h'.get? b=some u):Un fs ex H H h h':=
 ⟨fun b ob q _ _ _=>k b ob q,fun b ob q _ _ _=>⟨ob.slots,k b ob q⟩,fun _ _ _ n _=>n,fun b ob q _=>⟨ob,k b ob q⟩,fun _ _ q=>q,fun _ _ _ q=>q,fun _ ps q=>⟨#[],by rw[q];simp⟩⟩
theorem Un.refl:Un fs ex H H h h:=Un.kept fun _ _ q=>q
theorem Un.laid (k:∀ b u,h.get? b=some u->h'.get? b=some u) (hp:h.objs.size<=a) (hn:H a=none):Un fs ex H (upd H a o) h h' where
 keep:=fun b u q _ _ _=>k b u q
 slot:=fun b u q _ _ _=>⟨u.slots,k b u q⟩
 free:=fun b u q n _=>by rw[Qaj (Nat.ne_of_lt (Nat.lt_of_lt_of_le (Heap.lt_size q) hp))];exact n
 there:=fun b u q _=>⟨u,k b u q⟩
 tups:=fun b xs q=>by rw[Qaj (Qal q hn)];exact q
 frzs:=fun b u xs q=>by rw[Qaj (Qal q hn)];exact q
 tbls:=fun b ps q=>⟨#[],by rw[Qaj (Qal q hn),q];simp⟩
theorem Un.write (mu:Mut (H x)) (he:e=x\/H e=some (.own x)) (k:∀ b u,b≠e->h.get? b=some u->h'.get? b=some u) (heo:∃ u,h'.get? e=some u):Un fs ex H (upd H x o) h h':=by
 have hx:∀ b,H b=none->b≠x:=fun b n z=>by subst z;rw[n]at mu;exact mu
 have hb:∀ b,H b=none->b≠e:=fun b n z=>by
  subst z
  rcases he with r | r
  ·exact hx b n r
  ·rw[n]at r;cases r
 have hm:∀ b u,H b=some u->¬ Mut (some u)->b≠x:=fun b u q nm z=>by subst z;rw[q]at mu;exact nm mu
 refine⟨fun b u q n _ _=>k b u (hb b n) q,fun b u q n _ _=>⟨u.slots,k b u (hb b n) q⟩,fun b u q n _=>by rw[Qaj (hx b n)];exact n,fun b u q _=>?_,
  fun b xs q=>by rw[Qaj (hm b _ q fun z=>z)];exact q,fun b u xs q=>by rw[Qaj (hm b _ q fun z=>z)];exact q,fun b ps q=>⟨#[],by rw[Qaj (hm b _ q fun z=>z),q];simp⟩⟩
 by_cases hbe:b=e
 ·subst hbe;exact heo
 ·exact⟨u,k b u hbe q⟩
end
def trk (h:Heap) (H:Hp):List Addr:=(List.range h.objs.size).filter fun a=>(H a).isSome
def hidT (h:Heap) (H:Hp):Heap:=PySem.W.hideAll h (trk h H)
theorem Qam (h:Heap) (H:Hp):(hidT h H).objs.size=h.objs.size:=PySem.W.hideAll_size _ _
theorem Qan {h:Heap}{H:Hp}{b:Addr}{o:Obj} (e:h.get? b=some o) (n:H b=none):(hidT h H).get? b=some o:=
 PySem.W.hideAll_get _ e fun hm=>by
  have q:(H b).isSome=true:=(List.mem_filter.mp hm).2
  rw[n]at q;simp at q
theorem Qao {h:Heap}{H:Hp}{b:Addr}{o:Obj} (e:(hidT h H).get? b=some o):h.get? b=some o/\H b=none:=by
 have e':h.get? b=some o:=PySem.W.of_hideAll (trk h H) e
 refine⟨e',?_⟩
 cases q:H b with
 | none=>rfl
 | some x=>
  have hm:b∈trk h H:=List.mem_filter.mpr ⟨List.mem_range.mpr (Heap.lt_size e'),by simp[q]⟩
  have z:(hidT h H).get? b=none:=PySem.W.hideAll_none (trk h H) hm
  rw[z]at e;cases e
def allNews (g h:Heap) (L:Addr):List (Addr × Obj):=(List.range h.objs.size).filterMap fun a=>if a=L\/(g.get? a).isSome=true then none else (h.get? a).map fun o=>(a,o)
def rest (g h:Heap) (L d:Addr):List (Addr × Obj):=(allNews g h L).filter fun p=>decide (p.1≠d)
structure Mod (K:PySem.W.Frag) (mg:Str->Option Value) (base:Heap):Prop where
 kin:K.In base
 glob:base.Ns mainGlobals mg
 blt:∃ mb,base.Ns builtinsNs mb/\∀ x:Str,x≠"__name__"->mb x=bootBuiltins x
 nolimit:base.NoLimit
structure Cx where
 prog:Program
 w:World
 K:PySem.W.Frag
 mg:Str->Option Value
 base:Heap
 A:Around
 N:List Str
 s₀:Shared
 H₀:Hp
 env:Env
 outer:List Env
 stack:List Env
 ex:List Addr
 fn:Str->Bool
 calm:Bool
 pn:List (Addr × Obj)
 xe:Value->Shared->Prop
def frs (l:List Env):List Addr:=l.filterMap (·.frame)
abbrev Cx.fs (X:Cx):List Addr:=frs X.outer
def Vis (sc:Scope) (x:Str):Prop:=sc.names.lookup x=some .local\/sc.names.lookup x=some .cell\/sc.names.lookup x=some .free
def Loc (sc:Scope) (x:Str):Prop:=sc.names.lookup x=some .local\/sc.names.lookup x=some .cell
def Look (env:Env) (h:Heap) (m:Str->Option Value) (x:Str) (u:Value):Prop:=
 (env.kindOf x=some .local/\m x=some u)\/((env.kindOf x=some .cell\/env.kindOf x=some .free)/\∃ c,env.cells.lookup x=some c/\h.IsCell c (some u))
structure Cx.Ok (X:Cx):Prop where
 mod:Mod X.K X.mg X.base
 kind:X.env.scope.kind=.function
 glob:X.env.globals=mainGlobals
 blt:X.env.builtins=builtinsNs
 above:X.s₀.heap.objs.size<=X.env.locals
 inj:∀ x y c,X.env.cells.lookup x=some c->X.env.cells.lookup y=some c->x=y
 has:∀ x,(X.env.kindOf x=some .cell\/X.env.kindOf x=some .free)->∃ c,X.env.cells.lookup x=some c
 cab:∀ x c,X.fn x=true->X.env.cells.lookup x=some c->X.s₀.heap.objs.size<=c
 hd:X.calm=true->X.A.handled=none
 frames:X.A.frames=some X.stack
 stk:X.stack=X.outer\/(X.stack=X.env::X.outer/\X.env.frame=some X.env.locals)
 exf:∀ b∈X.ex,b≠X.env.locals/\∀ x c,X.env.cells.lookup x=some c->c≠b
 bs:∀ b o,X.base.get? b=some o->X.s₀.heap.get? b=some o/\X.H₀ b=none
 bsz:X.base.objs.size<=X.s₀.heap.objs.size
 noex:∀ b o,X.base.get? b=some o->b∉X.ex
 exfs:∀ b∈X.ex,b∉X.fs
 funs:X.s₀.heap.FunFrames X.base X.outer
 frf:∀ b∈X.fs,X.H₀ b=none
structure Inv (X:Cx) (pins:List (Addr × Obj)) (σ:List (Option V)) (H:Hp) (s:Shared):Prop where
 ok:X.Ok
 os:s.os=X.s₀.os
 bare:AllBare s.gens
 base:Un X.fs X.ex X.H₀ H X.s₀.heap s.heap
 loc:∃ m,s.heap.Ns X.env.locals m/\∀ (i:Nat) (x:Str) (v:V),X.N[i]?=some x->σ[i]?=some (some v)->Vis X.env.scope x->∃ u,RelV v u/\Look X.env s.heap m x u
 cell:∀ x c,X.env.cells.lookup x=some c->∃ v,s.heap.IsCell c v
 free:H X.env.locals=none
 freeC:∀ x c,X.env.cells.lookup x=some c->H c=none
 pin:∀ p∈X.pn++pins,s.heap.get? p.1=some p.2/\H p.1=none/\p.1≠X.env.locals/\p.1∉X.fs/\∀ v,p.2.data≠.cell v
 hok:HOk X.prog X.w H s.heap
 len:σ.length=X.N.length
section
variable {X:Cx}{pins:List (Addr × Obj)}{σ:List (Option V)}{H H':Hp}{s:Shared}{h':Heap}
theorem Cx.Ok.nofr (ok:X.Ok) {b:Addr}{o:Obj} (e:X.base.get? b=some o):b∉X.fs:=fun hb=>by
 have:=(ok.funs.mem hb).1
 rw[e]at this;cases this
theorem Inv.bs (I:Inv X pins σ H s):∀ b o,X.base.get? b=some o->s.heap.get? b=some o/\H b=none:=fun b o e=>
 ⟨I.base.keep b o (I.ok.bs b o e).1 (I.ok.bs b o e).2 (I.ok.nofr e) (I.ok.noex b o e),I.base.free b o (I.ok.bs b o e).1 (I.ok.bs b o e).2 (I.ok.noex b o e)⟩
theorem Inv.bk (I:Inv X pins σ H s):∀ b o,X.base.get? b=some o->s.heap.get? b=some o:=fun b o e=>(I.bs b o e).1
theorem Inv.mod (I:Inv X pins σ H s):Mod X.K X.mg X.base:=I.ok.mod
theorem Inv.kIn (I:Inv X pins σ H s):X.K.In s.heap:=I.ok.mod.kin.keeps I.bk
theorem Inv.lt (I:Inv X pins σ H s):X.env.locals < s.heap.objs.size:=let ⟨_,hn,_⟩:=I.loc;hn.lt
theorem Inv.sz (I:Inv X pins σ H s):X.s₀.heap.objs.size<=s.heap.objs.size:=Nat.le_trans I.ok.above (Nat.le_of_lt I.lt)
theorem Inv.nofs (I:Inv X pins σ H s) {a:Addr} (h:s.heap.objs.size<=a):a∉X.fs:=fun hb=>by
 obtain⟨_,o,ho,_⟩:=I.ok.funs.mem hb
 exact absurd (Nat.lt_of_lt_of_le (Heap.lt_size ho) (Nat.le_trans I.sz h)) (Nat.lt_irrefl _)
theorem Inv.cne (I:Inv X pins σ H s):∀ x c,X.env.cells.lookup x=some c->c≠X.env.locals:=fun x c e z=>by
 obtain⟨v,o,ho,hd⟩:=I.cell x c e
 obtain⟨m,⟨o',es,ep,ho',hd',_⟩,_⟩:=I.loc
 rw[z,ho']at ho;cases ho;rw[hd']at hd;cases hd
theorem Inv.funs (I:Inv X pins σ H s):s.heap.FunFrames X.base X.outer:=by
 have all:∀ (l:List Env),(∀ b∈frs l,b∈X.fs)->X.s₀.heap.FunFrames X.base l->s.heap.FunFrames X.base l:=by
  intro l
  induction l with
  | nil=>intro _ _;trivial
  | cons env r ih=>
   intro hs hl
   obtain⟨hk,⟨L,o,hf,hn,ho,hd⟩,hr⟩:=hl
   have hL:L∈X.fs:=hs L (by unfold frs;rw[List.filterMap_cons,hf];exact List.mem_cons_self)
   obtain⟨sl,e⟩:=I.base.slot L o ho (I.ok.frf L hL) hL fun z=>I.ok.exfs L z hL
   exact⟨hk,⟨L,_,hf,hn,e,hd⟩,ih (fun b hb=>hs b (by unfold frs;rw[List.filterMap_cons,hf];exact List.mem_cons_of_mem _ hb)) hr⟩
 exact all X.outer (fun _ hb=>hb) I.ok.funs
theorem Inv.stack (I:Inv X pins σ H s):s.heap.FunFrames X.base X.stack:=by
 rcases I.ok.stk with e | ⟨e,hf⟩
 ·rw[e];exact I.funs
 ·rw[e]
  obtain⟨m,hn,_⟩:=I.loc
  refine .cons (by rw[I.ok.kind];decide) hf hn ?_ I.funs
  exact Heap.get?_none_of_le (Nat.le_trans I.ok.bsz I.ok.above)
theorem Inv.stkSub (I:Inv X pins σ H s):∀ b∈frs X.stack,b∈X.env.locals::X.fs:=fun b hb=>by
 rcases I.ok.stk with e | ⟨e,hf⟩
 ·rw[e]at hb;exact List.mem_cons_of_mem _ hb
 ·rw[e]at hb
  unfold frs at hb
  rw[List.filterMap_cons,hf]at hb
  exact hb
theorem Inv.stkFree (I:Inv X pins σ H s):∀ b∈frs X.stack,H b=none:=fun b hb=>by
 rcases List.mem_cons.mp (I.stkSub b hb) with e | hb
 ·rw[e];exact I.free
 ·obtain⟨_,o,ho,_⟩:=I.ok.funs.mem hb
  exact I.base.free b o ho (I.ok.frf b hb) fun z=>I.ok.exfs b z hb
theorem Inv.step {g' : Array GenState} {t' : Nat} {d' : Drawn} {ch : List Addr} (I : Inv X pins σ H s)
  (hch:∀ b∈ch,(b∈X.ex\/X.s₀.heap.objs.size<=b)/\b≠X.env.locals/\(∀ x c,X.env.cells.lookup x=some c->c≠b)/\∀ p∈X.pn++pins,p.1≠b)
  (keep:∀ b o,b≠X.env.locals->b∉X.fs->b∉ch->s.heap.get? b=some o->H b=none->h'.get? b=some o)
  (slot:∀ b o,b≠X.env.locals->b∈X.fs->b∉ch->s.heap.get? b=some o->H b=none->∃ sl,h'.get? b=some { o with slots:=sl }) (free:∀ b o,b∉ch->s.heap.get? b=some o->H b=none->H' b=none)
  (there:∀ b o,b∉ch->s.heap.get? b=some o->∃ o',h'.get? b=some o')
  (tups:∀ b xs,H b=some (.tup xs)->H' b=some (.tup xs)) (frzs:∀ b o u,H b=some (.frz o u)->H' b=some (.frz o u)) (tbls:∀ b ps,H b=some (.tbl ps)->∃ more,H' b=some (.tbl (ps++more)))
  (ns:∀ m,s.heap.Ns X.env.locals m->h'.Ns X.env.locals m) (hok:HOk X.prog X.w H' h') (hg:AllBare g'):
  Inv X pins σ H' { s with heap:=h',gens:=g',drawn:=d',toks:=t' }:=by
 have neL:∀ b o,X.s₀.heap.get? b=some o->b≠X.env.locals:=fun b o e=>Nat.ne_of_lt (Nat.lt_of_lt_of_le (Heap.lt_size e) I.ok.above)
 have neC:∀ b o,X.s₀.heap.get? b=some o->b∉X.ex->b∉ch:=fun b o e hx hb=>by
  rcases (hch b hb).1 with z | z
  ·exact hx z
  ·exact absurd (Nat.lt_of_lt_of_le (Heap.lt_size e) z) (Nat.lt_irrefl _)
 have cellK:∀ x c,X.env.cells.lookup x=some c->∀ v,s.heap.IsCell c v->h'.IsCell c v:=fun x c e v pq1=>by
  obtain⟨o,ho,hd⟩:=pq1
  have nch:c∉ch:=fun z=>(hch c z).2.2.1 x c e rfl
  by_cases hc:c∈X.fs
  ·obtain⟨sl,q⟩:=slot c o (I.cne x c e) hc nch ho (I.freeC x c e)
   exact⟨_,q,hd⟩
  ·exact⟨o,keep c o (I.cne x c e) hc nch ho (I.freeC x c e),hd⟩
 refine⟨I.ok,I.os,hg,⟨fun b o e n hb hx=>?_,fun b o e n hb hx=>?_,fun b o e n hx=>?_,fun b o e hx=>?_,fun b xs e=>tups b xs (I.base.tups b xs e),fun b o xs e=>frzs b o xs (I.base.frzs b o xs e),fun b ps e=>?_⟩,?_,fun x c e=>?_,?_,fun x c e=>?_,fun p hp=>?_,hok,I.len⟩
 ·exact keep b o (neL b o e) hb (neC b o e hx) (I.base.keep b o e n hb hx) (I.base.free b o e n hx)
 ·obtain⟨sl,e1⟩:=I.base.slot b o e n hb hx
  obtain⟨sl',e2⟩:=slot b _ (neL b o e) hb (neC b o e hx) e1 (I.base.free b o e n hx)
  exact⟨sl',e2⟩
 ·obtain⟨o',e1⟩:=I.base.there b o e hx
  exact free b o' (neC b o e hx) e1 (I.base.free b o e n hx)
 ·obtain⟨o',e1⟩:=I.base.there b o e hx
  exact there b o' (neC b o e hx) e1
 ·obtain⟨m1,e1⟩:=I.base.tbls b ps e
  obtain⟨m2,e2⟩:=tbls b _ e1
  exact⟨m1++m2,by rw[e2,Array.append_assoc]⟩
 ·obtain⟨m,hn,hl⟩:=I.loc
  refine⟨m,ns m hn,fun i x v e1 e2 e3=>?_⟩
  obtain⟨u,r,l⟩:=hl i x v e1 e2 e3
  refine⟨u,r,?_⟩
  rcases l with l | ⟨k,c,e,z⟩
  ·exact .inl l
  ·exact .inr ⟨k,c,e,cellK x c e _ z⟩
 ·obtain⟨v,z⟩:=I.cell x c e
  exact⟨v,cellK x c e v z⟩
 ·obtain⟨m,⟨o,_,_,ho,_⟩,_⟩:=I.loc
  exact free _ o (fun z=>(hch _ z).2.1 rfl) ho I.free
 ·obtain⟨v,o,ho,hd⟩:=I.cell x c e
  exact free c o (fun z=>(hch c z).2.2.1 x c e rfl) ho (I.freeC x c e)
 ·obtain⟨e,n,ne,nf,d⟩:=I.pin p hp
  have nch:p.1∉ch:=fun z=>(hch p.1 z).2.2.2 p hp rfl
  exact⟨keep p.1 p.2 ne nf nch e n,free p.1 p.2 nch e n,ne,nf,d⟩
theorem Inv.un {t':Nat} (I:Inv X pins σ H s) (u:Un X.fs [] H H' s.heap h') (hok:HOk X.prog X.w H' h'):Inv X pins σ H' { s with heap:=h',toks:=t' }:=by
 obtain⟨m,⟨o,es,ep,ho,r⟩,_⟩:=id I.loc
 obtain⟨sl,hL⟩:=u.any ho I.free (by simp)
 exact I.step (g':=s.gens) (d':=s.drawn) (ch:=[]) (fun _ z=>nomatch z) (fun b o _ hb _ e n=>u.keep b o e n hb (by simp)) (fun b o _ hb _ e n=>u.slot b o e n hb (by simp)) (fun b o _ e n=>u.free b o e n (by simp)) (fun b o _ e=>u.there b o e (by simp)) u.tups u.frzs u.tbls (fun m' hm=>by
  obtain⟨o',es',ep',ho',r'⟩:=hm
  rw[ho]at ho';cases ho'
  exact⟨_,es',ep',hL,r'⟩) hok I.bare
theorem Inv.call {g' : Array GenState} {t' : Nat} {d' : Drawn} {ch : List Addr} (I : Inv X pins σ H s) (u : Un (frs X.stack) ch H H' s.heap h') (hok : HOk X.prog X.w H' h') (hg : AllBare g')
  (hch:∀ b∈ch,(b∈X.ex\/X.s₀.heap.objs.size<=b)/\b≠X.env.locals/\(∀ x c,X.env.cells.lookup x=some c->c≠b)/\∀ p∈X.pn++pins,p.1≠b):
  Inv X pins σ H' { s with heap:=h',gens:=g',drawn:=d',toks:=t' }:=by
 obtain⟨m,⟨o,es,ep,ho,r⟩,_⟩:=id I.loc
 obtain⟨sl,hL⟩:=u.any ho I.free fun z=>(hch _ z).2.1 rfl
 exact I.step (ch:=ch) hch (fun b o hL hb hc e n=>u.keep b o e n (fun z=>(List.mem_cons.mp (I.stkSub b z)).elim hL hb) hc) (fun b o _ _ hc e n=>u.any e n hc) (fun b o hc e n=>u.free b o e n hc) (fun b o hc e=>u.there b o e hc) u.tups u.frzs u.tbls (fun m' hm=>by
  obtain⟨o',es',ep',ho',r'⟩:=hm
  rw[ho]at ho';cases ho'
  exact⟨_,es',ep',hL,r'⟩) hok hg
theorem Inv.turned {t' : Nat} {it : Addr} (I : Inv X pins σ H s) (k : ∀ b o, b ≠ it -> s.heap.get? b = some o -> h'.get? b = some o) (hn : H it = none) (hL : it ≠ X.env.locals)
  (h1:it∈X.ex\/X.s₀.heap.objs.size<=it) (h2:∀ x c,X.env.cells.lookup x=some c->c≠it) (h3:∀ p∈X.pn++pins,p.1≠it):Inv X pins σ H { s with heap:=h',toks:=t' }:=by
 have nit:∀ b u,H b=some u->b≠it:=fun b u e z=>by rw[z,hn]at e;cases e
 refine I.step (g':=s.gens) (d':=s.drawn) (ch:=[it]) (fun b hb=>?_) (fun b o _ _ hc e _=>k b o (fun z=>hc (by simp[z])) e) (fun b o _ _ hc e _=>⟨o.slots,k b o (fun z=>hc (by simp[z])) e⟩) (fun _ _ _ _ n=>n)
  (fun b o hc e=>⟨o,k b o (fun z=>hc (by simp[z])) e⟩) (fun _ _ e=>e) (fun _ _ _ e=>e) (fun b ps e=>⟨#[],by rw[e];simp⟩) (fun m hm=>?_) (fun b u e=>?_) I.bare
 ·have e:b=it:=by simpa using hb
  subst e
  exact⟨h1,hL,h2,h3⟩
 ·obtain⟨o,es,ep,ho,r⟩:=hm
  exact⟨o,es,ep,k _ o (Ne.symm hL) ho,r⟩
 ·refine (I.hok b u e).stay (fun c v hc q=>k c v ?_ q) (fun _ q=>q) fun _ _ q=>q
  rcases hc with z | z
  ·rw[z];exact nit b u e
  ·exact nit c _ z
theorem Inv.tok (I:Inv X pins σ H s) (t:Nat):Inv X pins σ H { s with toks:=t }:=I.un (h':=s.heap) (t':=t) Un.refl I.hok
theorem Inv.kept {t':Nat} (I:Inv X pins σ H s) (k:∀ b u,s.heap.get? b=some u->h'.get? b=some u):Inv X pins σ H { s with heap:=h',toks:=t' }:=I.un (Un.kept k) (I.hok.kept k)
theorem Inv.laid {a : Addr} {o : HO} {t' : Nat} (I : Inv X pins σ H s) (k : ∀ b u, s.heap.get? b = some u -> h'.get? b = some u) (hp : s.heap.objs.size <= a) (new : ObjOk X.prog X.w (upd H a o) h' a o) :
  Inv X pins σ (upd H a o) { s with heap:=h',toks:=t' }:=I.un (Un.laid k hp (I.hok.fresh hp)) (I.hok.laid k hp new)
theorem Inv.write {x e : Addr} {o : HO} {t' : Nat} (I : Inv X pins σ H s) (mu : Mut (H x)) (he : e = x \/ H e = some (.own x)) (k : ∀ b u, b ≠ e -> s.heap.get? b = some u -> h'.get? b = some u) (heo : ∃ u, h'.get? e = some u)
  (new:ObjOk X.prog X.w (upd H x o) h' x o):Inv X pins σ (upd H x o) { s with heap:=h',toks:=t' }:=I.un (Un.write mu he k heo) (I.hok.write mu he k heo new)
theorem Inv.pins_of {pins':List (Addr × Obj)} (I:Inv X pins σ H s) (h:∀ p∈pins',s.heap.get? p.1=some p.2/\H p.1=none/\p.1≠X.env.locals/\p.1∉X.fs/\∀ v,p.2.data≠.cell v):Inv X pins' σ H s:=
 ⟨I.ok,I.os,I.bare,I.base,I.loc,I.cell,I.free,I.freeC,fun p hp=>(List.mem_append.mp hp).elim (fun z=>I.pin p (List.mem_append_left _ z)) (h p),I.hok,I.len⟩
theorem Qap {N:List Str} (hN:N.Nodup) {i j:Nat}{x:Str} (a:N[i]?=some x) (b:N[j]?=some x):i=j:=by
 obtain⟨h1,e1⟩:=List.getElem?_eq_some_iff.mp a
 obtain⟨h2,e2⟩:=List.getElem?_eq_some_iff.mp b
 exact (List.getElem_inj hN).mp (e1.trans e2.symm)
theorem Qaq {M : Model} {A : Around} {E : Value -> Shared -> Prop} {i : Nat} {x : Str} {v : V} {u : Value} {Q : Unit -> Shared -> Prop} (I : Inv X pins σ H s) (hN : X.N.Nodup) (hi : X.N[i]? = some x) (hx : Loc X.env.scope x) (r : RelV v u)
  (h:∀ s',Inv X pins (σ.set i (some v)) H s'->(∃ a,Heap.SameBut a s.heap s'.heap/\(a=X.env.locals\/X.env.cells.lookup x=some a))->Q () s') (hf:X.fn x=true\/X.env.scope.names.lookup x=some .local:=by first | exact .inl rfl | exact .inr rfl | assumption):wpAny M A (storeName X.env x u) Q E s:=by
 obtain⟨m,hn,hl⟩:=id I.loc
 have hcls:(X.env.scope.kind == .class || (X.env.scope.kind == .module && X.env.locals != X.env.globals))=false:=by rw[I.ok.kind];rfl
 have hiσ:i < σ.length:=by rw[I.len];exact (List.getElem?_eq_some_iff.mp hi).1
 have cne:=I.cne
 have tracked:∀ {a:Addr}{h':Heap},(∃ o,s.heap.get? a=some o/\H a=none)->Heap.SameBut a s.heap h'->HOk X.prog X.w H h':=fun {a h'} ha hs b ob e=>by
  obtain⟨_,_,hfree⟩:=ha
  refine (I.hok b ob e).stay (fun c w' hc q=>(hs.2 c ?_).trans q) (fun _ q=>q) fun _ _ q=>q
  rintro rfl
  rcases hc with rfl | hc
  ·rw[hfree]at e;cases e
  ·rw[hfree]at hc;cases hc
 rcases hx with hk | hk
 ·refine wpAny_storeName_local hk hn (fun h' hn' hs=>?_) hcls
  obtain⟨oL,_,_,hoL,_⟩:=id hn
  refine h _ ⟨I.ok,I.os,I.bare,⟨fun b o e n hb hx=>?_,fun b o e n hb hx=>?_,I.base.free,fun b o e hx=>?_,I.base.tups,I.base.frzs,I.base.tbls⟩,⟨_,hn',fun j y v' e1 e2 e3=>?_⟩,fun y c e=>?_,I.free,I.freeC,fun p hp=>?_,tracked ⟨oL,hoL,I.free⟩ hs,by simpa using I.len⟩ ⟨_,hs,.inl rfl⟩
  ·exact (hs.2 b (Nat.ne_of_lt (Nat.lt_of_lt_of_le (Heap.lt_size e) I.ok.above))).trans (I.base.keep b o e n hb hx)
  ·obtain⟨sl,e1⟩:=I.base.slot b o e n hb hx
   exact⟨sl,(hs.2 b (Nat.ne_of_lt (Nat.lt_of_lt_of_le (Heap.lt_size e) I.ok.above))).trans e1⟩
  ·obtain⟨o',e1⟩:=I.base.there b o e hx
   exact⟨o',(hs.2 b (Nat.ne_of_lt (Nat.lt_of_lt_of_le (Heap.lt_size e) I.ok.above))).trans e1⟩
  ·by_cases hj:j=i
   ·subst hj
    rw[hi]at e1;cases e1
    rw[List.getElem?_set_self hiσ]at e2
    cases e2
    exact⟨u,r,.inl ⟨hk,by simp⟩⟩
   ·rw[List.getElem?_set_ne (Ne.symm hj)]at e2
    obtain⟨u',r',q⟩:=hl j y v' e1 e2 e3
    refine⟨u',r',?_⟩
    rcases q with ⟨k,e⟩ | ⟨k,c,e,z⟩
    ·refine .inl ⟨k,?_⟩
     have:y≠x:=fun e=>hj (Qap hN e1 (e ▸ hi))
     simp[this,e]
    ·exact .inr ⟨k,c,e,z.sameBut hs (cne y c e)⟩
  ·obtain⟨w',z⟩:=I.cell y c e
   exact⟨w',z.sameBut hs (cne y c e)⟩
  ·obtain⟨e,n,ne,nf,d⟩:=I.pin p hp
   exact⟨(hs.2 p.1 ne).trans e,n,ne,nf,d⟩
 ·have hfn : X.fn x = true := by
    rcases hf with z | z
    ·exact z
    ·rw[z]at hk;cases hk
  obtain⟨c,hc⟩:=I.ok.has x (.inl hk)
  obtain⟨w',z⟩:=I.cell x c hc
  refine wpAny_storeName_cell I.ok.kind hk hc z (fun h' hc' hs=>?_)
  obtain⟨oc,hoc,hocd⟩:=id z
  refine h { s with heap:=h' } ⟨I.ok,I.os,I.bare,⟨fun b o e n hb hx=>?_,fun b o e n hb hx=>?_,I.base.free,fun b o e hx=>?_,I.base.tups,I.base.frzs,I.base.tbls⟩,⟨m,hn.sameBut hs (Ne.symm (cne x c hc)),fun j y v' e1 e2 e3=>?_⟩,fun y c' e=>?_,I.free,I.freeC,fun p hp=>?_,tracked ⟨oc,hoc,I.freeC x c hc⟩ hs,by simpa using I.len⟩ ⟨c,hs,.inr hc⟩
  ·exact (hs.2 b (Nat.ne_of_lt (Nat.lt_of_lt_of_le (Heap.lt_size e) (I.ok.cab x c hfn hc)))).trans (I.base.keep b o e n hb hx)
  ·obtain⟨sl,e1⟩:=I.base.slot b o e n hb hx
   exact⟨sl,(hs.2 b (Nat.ne_of_lt (Nat.lt_of_lt_of_le (Heap.lt_size e) (I.ok.cab x c hfn hc)))).trans e1⟩
  ·obtain⟨o',e1⟩:=I.base.there b o e hx
   exact⟨o',(hs.2 b (Nat.ne_of_lt (Nat.lt_of_lt_of_le (Heap.lt_size e) (I.ok.cab x c hfn hc)))).trans e1⟩
  ·by_cases hj:j=i
   ·subst hj
    rw[hi]at e1;cases e1
    rw[List.getElem?_set_self hiσ]at e2
    cases e2
    exact⟨u,r,.inr ⟨.inl hk,c,hc,hc'⟩⟩
   ·rw[List.getElem?_set_ne (Ne.symm hj)]at e2
    obtain⟨u',r',q⟩:=hl j y v' e1 e2 e3
    refine⟨u',r',?_⟩
    rcases q with q | ⟨k,c',e,z'⟩
    ·exact .inl q
    ·refine .inr ⟨k,c',e,z'.sameBut hs ?_⟩
     rintro rfl
     exact hj (Qap hN e1 (I.ok.inj _ _ _ e hc ▸ hi))
  ·by_cases hcc:c'=c
   ·subst hcc;exact⟨_,hc'⟩
   ·obtain⟨w2,z2⟩:=I.cell y c' e
    exact⟨w2,z2.sameBut hs hcc⟩
  ·obtain⟨e,n,ne,nf,d⟩:=I.pin p hp
   refine⟨(hs.2 p.1 ?_).trans e,n,ne,nf,d⟩
   intro q
   rw[q,hoc]at e
   have q':oc=p.2:=Option.some.inj e
   exact d w' (by rw[<- q'];exact hocd)
theorem Qar {M : Model} {A : Around} {E : Value -> Shared -> Prop} {i : Nat} {x : Str} {v : V} {u : Value} {Q : Unit -> Shared -> Prop} (I : Inv X pins σ H s) (hN : X.N.Nodup) (hi : X.N[i]? = some x) (hx : Loc X.env.scope x) (r : RelV v u)
  (h:∀ s',Inv X pins (σ.set i (some v)) H s'->Q () s') (hf:X.fn x=true\/X.env.scope.names.lookup x=some .local:=by first | exact .inl rfl | exact .inr rfl | assumption):wpAny M A (storeName X.env x u) Q E s:=
 Qaq I hN hi hx r (fun s' I' _=>h s' I') hf
theorem Inv.call' {s' : Shared} {ch : List Addr} (I : Inv X pins σ H s) (ho : s'.os = s.os) (u : Un (frs X.stack) ch H H' s.heap s'.heap) (hok : HOk X.prog X.w H' s'.heap) (hg : AllBare s'.gens)
  (hch:∀ b∈ch,(b∈X.ex\/X.s₀.heap.objs.size<=b)/\b≠X.env.locals/\(∀ x c,X.env.cells.lookup x=some c->c≠b)/\∀ p∈X.pn++pins,p.1≠b):Inv X pins σ H' s':=by
 obtain⟨h',g',d',t',o'⟩:=s'
 have e:o'=s.os:=ho
 subst e
 exact I.call (g':=g') (t':=t') (d':=d') u hok hg hch
end
abbrev XK:=Value->Option Addr->Hp->Prop
abbrev St:=List (Option V)
abbrev VK:=V->Hp->Prop
abbrev TE:=St->Hp->VK->Prop
abbrev TT:=St->Hp->(Bool->Hp->Prop)->Prop
abbrev TA:=St->Hp->(List V->Hp->Prop)->Prop
structure Ends where
 nx:St->Hp->Prop
 rt:VK
 bk:St->Hp->Prop:=fun _ _=>False
 ct:St->Hp->Prop:=fun _ _=>False
abbrev TS:=Ends->St->Hp->Prop
def EP (X:Cx) (pins:List (Addr × Obj)) (σ:St) (Q:VK) (u:Value) (s':Shared):Prop:=∃ v H',Inv X pins σ H' s'/\RelV v u/\Q v H'
def TP (X:Cx) (pins:List (Addr × Obj)) (σ:St) (Q:Bool->Hp->Prop) (b:Bool) (s':Shared):Prop:=∃ H',Inv X pins σ H' s'/\Q b H'
def AP (X:Cx) (pins:List (Addr × Obj)) (σ:St) (Q:List V->Hp->Prop) (us:List Value) (s':Shared):Prop:=∃ vs H',Inv X pins σ H' s'/\Vals vs us/\Q vs H'
def SP (X:Cx) (pins:List (Addr × Obj)) (D:Ends) (f:Flow) (s':Shared):Prop:=
 match f with
 | .next=>∃ σ' H',Inv X pins σ' H' s'/\D.nx σ' H'
 | .brk=>∃ σ' H',Inv X pins σ' H' s'/\D.bk σ' H'
 | .cont=>∃ σ' H',Inv X pins σ' H' s'/\D.ct σ' H'
 | .ret u=>∃ v σ' H',Inv X pins σ' H' s'/\RelV v u/\D.rt v H'
def PE (X:Cx) (e:Expr) (t:TE):Prop:=
 ∀ (pins:List (Addr × Obj)) (s:Shared) (σ:St) (H:Hp) (Q:VK),Inv X pins σ H s->t σ H Q->wpAny (model X.prog X.w) X.A (eval e X.env) (EP X pins σ Q) X.xe s
def PT (X:Cx) (e:Expr) (t:TT):Prop:=
 ∀ (pins:List (Addr × Obj)) (s:Shared) (σ:St) (H:Hp) (Q:Bool->Hp->Prop),Inv X pins σ H s->t σ H Q->wpAny (model X.prog X.w) X.A (isTrue e X.env (eval e X.env)) (TP X pins σ Q) X.xe s
def PW (X:Cx) (e:Expr) (t:TT):Prop:=
 ∀ (whole:Sem Value) (pins:List (Addr × Obj)) (s:Shared) (σ:St) (H:Hp) (Q:Bool->Hp->Prop),Inv X pins σ H s->t σ H Q->wpAny (model X.prog X.w) X.A (isTrue e X.env whole) (TP X pins σ Q) X.xe s
theorem PW.pt {X:Cx}{e:Expr}{t:TT} (h:PW X e t):PT X e t:=h _
def PA (X:Cx) (es:List Expr) (t:TA):Prop:=
 ∀ (pos:Pos) (pins:List (Addr × Obj)) (s:Shared) (σ:St) (H:Hp) (Q:List V->Hp->Prop),Inv X pins σ H s->t σ H Q->wpAny (model X.prog X.w) X.A (spliced (backTo pos (starEach es X.env))) (AP X pins σ Q) X.xe s
def PS (X:Cx) (st:Stmt) (t:TS):Prop:=
 ∀ (pins:List (Addr × Obj)) (s:Shared) (σ:St) (H:Hp) (D:Ends),Inv X pins σ H s->t D σ H->wpAny (model X.prog X.w) X.A (exec st X.env) (SP X pins D) X.xe s
def PSs (X:Cx) (st:List Stmt) (t:TS):Prop:=
 ∀ (pins:List (Addr × Obj)) (s:Shared) (σ:St) (H:Hp) (D:Ends),Inv X pins σ H s->t D σ H->wpAny (model X.prog X.w) X.A (execs st X.env) (SP X pins D) X.xe s
theorem thn {α:Type}{t:Sem α}{Q Q':α->Shared->Prop}{M:Model}{A:Around}{E:Value->Shared->Prop}{s:Shared} (h:wpAny M A t Q E s) (hQ:∀ a s,Q a s->Q' a s):wpAny M A t Q' E s:=wpAny_mono h hQ fun _ _ x=>x
section
variable {X:Cx}
def tVar (i:Nat):TE:=fun σ H Q=>∃ v,σ[i]?=some (some v)/\Q v H
def tC (v:V):TE:=fun _ H Q=>Q v H
theorem Qas {i:Nat}{x:Str}{pos:Pos} (hN:X.N[i]?=some x) (hv:Vis X.env.scope x) (hd:(x == ("__debug__":Str))=false:=by decide) (hcd:(x == ("__classdict__":Str))=false:=by decide):PE X (.Name x pos) (tVar i):=by
 intro pins s σ H Q I h
 obtain⟨v,e,h⟩:=h
 obtain⟨m,hn,hl⟩:=I.loc
 obtain⟨u,r,l⟩:=hl i x v hN e hv
 have fin:EP X pins σ Q u s:=⟨v,H,I,r,h⟩
 rcases l with ⟨hk,hm⟩ | ⟨hk,c,hc,hcell⟩
 ·exact wpAny_Name (wpAny_loadName_local I.ok.kind hk hn hm fin) hd
 ·rcases hk with hk | hk
  ·exact wpAny_Name (wpAny_loadName_cell I.ok.kind hk hc hcell fin) hd
  ·exact wpAny_Name (wpAny_loadName_free I.ok.kind hk hc hcell fin hcd) hd
theorem Qat {i j pos}:PE X (.Constant (.int i) j pos) (tC (.int i)):=fun _ _ _ H _ I h=>wpAny_Constant_int ⟨.int i,H,I.tok _,⟨_,rfl⟩,h⟩
theorem Qau {b j pos}:PE X (.Constant (.bool b) j pos) (tC (.bl b)):=fun _ _ _ H _ I h=>Constant_bool ⟨.bl b,H,I,rfl,h⟩
theorem Qav {j pos}:PE X (.Constant .none j pos) (tC .non):=fun _ _ _ H _ I h=>Constant_none ⟨.non,H,I,rfl,h⟩
theorem Qaw {x j pos}:PE X (.Constant (.str x) j pos) (tC (.str x)):=fun _ _ _ H _ I h=>Calls.Constant_str ⟨.str x,H,I.tok _,⟨_,rfl⟩,h⟩
def Gl (X:Cx) (x:Str):Prop:=X.env.kindOf x=some .globalImplicit
theorem Qax {E : Value -> Shared -> Prop} {pins : List (Addr × Obj)} {s : Shared} {σ : St} {H : Hp} {x : Str} {u : Value} {pos : Pos} {Q : Value -> Shared -> Prop} (I : Inv X pins σ H s) (hg : Gl X x) (hm : X.mg x = some u) (h : Q u s)
  (hd:(x == ("__debug__":Str))=false:=by decide):wpAny (model X.prog X.w) X.A (eval (.Name x pos) X.env) Q E s:=
 Calls.Name_function_global I.ok.kind hg (Calls.loadGlobal_global (by rw[I.ok.glob];exact I.mod.glob.keeps I.bk) hm h) hd
theorem Qay {E : Value -> Shared -> Prop} {pins : List (Addr × Obj)} {s : Shared} {σ : St} {H : Hp} {x : Str} {u : Value} {pos : Pos} {Q : Value -> Shared -> Prop} (I : Inv X pins σ H s) (hg : Gl X x) (hm : X.mg x = none) (hv : bootBuiltins x = some u) (h : Q u s)
  (hn:x≠"__name__":=by decide) (hd:(x == ("__debug__":Str))=false:=by decide):wpAny (model X.prog X.w) X.A (eval (.Name x pos) X.env) Q E s:=by
 obtain⟨mb,h1,h2⟩:=I.mod.blt
 exact Calls.Name_function_global I.ok.kind hg (Calls.loadGlobal_builtin (by rw[I.ok.glob];exact I.mod.glob.keeps I.bk) hm (by rw[I.ok.blt];exact h1.keeps I.bk) ((h2 x hn).trans hv) h) hd
variable {a b:Expr}{ta tb:TE}{pos:Pos}
variable {tA tB':TT}{rest:List Expr}
def tAnd (t u:TT):TT:=fun σ H Q=>t σ H fun c H1=>if c=true then u σ H1 Q else Q false H1
def tOr (t u:TT):TT:=fun σ H Q=>t σ H fun c H1=>if c=true then Q true H1 else u σ H1 Q
theorem Qaz (ha:PT X a tA):PW X (.BoolOp .And [a] pos) tA:=by
 intro wh pins s σ H Q I h
 refine isTrue_and (thn (ha pins s σ H Q I h) fun c s1 e=>?_)
 cases c with
 | true=>exact isTrue_and_nil e
 | false=>exact e
theorem QaA (ha:PT X a tA):PW X (.BoolOp .Or [a] pos) tA:=by
 intro wh pins s σ H Q I h
 refine isTrue_or (thn (ha pins s σ H Q I h) fun c s1 e=>?_)
 cases c with
 | false=>exact isTrue_or_nil e
 | true=>exact e
theorem QaB (ha:PT X a tA) (hb:PW X (.BoolOp .And (b::rest) pos) tB'):PW X (.BoolOp .And (a::b::rest) pos) (tAnd tA tB'):=by
 intro wh pins s σ H Q I h
 refine isTrue_and (thn (ha pins s σ H _ I h) fun c s1 pq2=>?_)
 obtain⟨H1,I1,q1⟩:=pq2
 cases c with
 | true=>exact hb wh pins s1 σ H1 Q I1 q1
 | false=>exact⟨H1,I1,q1⟩
theorem QaC (ha:PT X a tA) (hb:PW X (.BoolOp .Or (b::rest) pos) tB'):PW X (.BoolOp .Or (a::b::rest) pos) (tOr tA tB'):=by
 intro wh pins s σ H Q I h
 refine isTrue_or (thn (ha pins s σ H _ I h) fun c s1 pq3=>?_)
 obtain⟨H1,I1,q1⟩:=pq3
 cases c with
 | true=>exact⟨H1,I1,q1⟩
 | false=>exact hb wh pins s1 σ H1 Q I1 q1
def tAndV (ta tb:TE):TE:=fun σ H Q=>ta σ H fun x H1=>∃ c,x=.bl c/\if c=true then tb σ H1 Q else Q (.bl false) H1
def tOrV (ta tb:TE):TE:=fun σ H Q=>ta σ H fun x H1=>∃ c,x=.bl c/\if c=true then Q (.bl true) H1 else tb σ H1 Q
theorem QaE {op}{t:TE} (h:PE X a t):PE X (.BoolOp op [a] pos) t:=fun pins s σ H Q I hw=>BoolOp_one (h pins s σ H Q I hw)
theorem QaF (ha:PE X a ta) (hb:PE X (.BoolOp .And (b::rest) pos) tb):PE X (.BoolOp .And (a::b::rest) pos) (tAndV ta tb):=by
 intro pins s σ H Q I h
 refine BoolOp_and (thn (ha pins s σ H _ I h) fun v s1 pq4=>?_)
 obtain⟨x,H1,I1,r1,q1⟩:=pq4
 obtain⟨c,rfl,q1⟩:=q1
 cases r1
 refine wpAny_truthy_bool ?_
 cases c with
 | true=>exact hb pins s1 σ H1 Q I1 q1
 | false=>exact⟨.bl false,H1,I1,rfl,q1⟩
theorem QaG (ha:PE X a ta) (hb:PE X (.BoolOp .Or (b::rest) pos) tb):PE X (.BoolOp .Or (a::b::rest) pos) (tOrV ta tb):=by
 intro pins s σ H Q I h
 refine BoolOp_or (thn (ha pins s σ H _ I h) fun v s1 pq5=>?_)
 obtain⟨x,H1,I1,r1,q1⟩:=pq5
 obtain⟨c,rfl,q1⟩:=q1
 cases r1
 refine wpAny_truthy_bool ?_
 cases c with
 | false=>exact hb pins s1 σ H1 Q I1 q1
 | true=>exact⟨.bl true,H1,I1,rfl,q1⟩
def tIf (t:TT) (ta tb:TE):TE:=fun σ H Q=>t σ H fun c H1=>if c=true then ta σ H1 Q else tb σ H1 Q
theorem QaH {c:Expr} (hc:PT X c tA) (ha:PE X a ta) (hb:PE X b tb):PE X (.IfExp c a b pos) (tIf tA ta tb):=by
 intro pins s σ H Q I h
 refine wpAny_IfExp (thn (hc pins s σ H _ I h) fun d s1 pq6=>?_)
 obtain⟨H1,I1,q1⟩:=pq6
 cases d with
 | true=>exact ha pins s1 σ H1 Q I1 q1
 | false=>exact hb pins s1 σ H1 Q I1 q1
end
def SqL (K:PySem.W.Frag) (H:Hp) (a:Addr) (xs:List V):Prop:=
 Rd H a (.lst xs) \/
  ∃ (o:Obj) (its:Array Value) (n:Nat),K.lookup a=some o/\o.cls=.type "list"/\o.dict=none/\o.data=.seq its n/\its.size<=sizeLine/\Vals xs its.toList
def SqT (K:PySem.W.Frag) (H:Hp) (a:Addr) (xs:List V):Prop:=
 Rd H a (.tup xs) \/
  ∃ (o:Obj) (its:Array Value) (n:Nat),K.lookup a=some o/\o.cls=.type "tuple"/\o.data=.seq its n/\its.size<=sizeLine/\Vals xs its.toList
def absV:Value->Option V
 | .none=>some .non
 | .bool b=>some (.bl b)
 | .int i _=>some (.int i)
 | .str x _=>some (.str x)
 | .bytes b _=>some (.byt b)
 | .float b _=>some (.flt b)
 | .ref a=>some (.ref a)
 | .type n=>some (.ty n)
 | _=>none
theorem RelV.abs {x:V}{u:Value} (r:RelV x u):absV u=some x:=by
 cases x with
 | non=>cases r;rfl
 | bl _=>cases r;rfl
 | int _=>obtain⟨t,rfl⟩:=r;rfl
 | str _=>obtain⟨t,rfl⟩:=r;rfl
 | byt _=>obtain⟨t,rfl⟩:=r;rfl
 | flt _=>obtain⟨t,rfl⟩:=r;rfl
 | ref _=>cases r;rfl
 | ty _=>cases r;rfl
theorem RelV.inj {x y:V}{u:Value} (r:RelV x u) (q:RelV y u):x=y:=Option.some.inj (r.abs.symm.trans q.abs)
theorem Vals.inj:∀ {xs ys:List V}{us:List Value},Vals xs us->Vals ys us->xs=ys
 | _,_,_,.nil,.nil=>rfl
 | _,_,_,.cons r t,.cons r' t'=>by rw[r.inj r',Vals.inj t t']
section
variable {X:Cx}{pins:List (Addr × Obj)}{σ:St}{H:Hp}{s:Shared}{a:Addr}{xs ys:List V}
theorem SqL.of {K:PySem.W.Frag} (h:H a=some (.lst xs)):SqL K H a xs:=.inl (.inl h)
theorem SqT.of {K:PySem.W.Frag} (h:H a=some (.tup xs)):SqT K H a xs:=.inl (.inl h)
theorem Inv.list (I:Inv X pins σ H s) (h:SqL X.K H a xs):∃ its:List Value,Vals xs its/\PlainL s.heap a its.toArray/\xs.length<=sizeLine:=by
 rcases h with h | ⟨o,its,n,hk,hc,hd,hs,hz,r⟩
 ·obtain⟨z,its,n,r,e⟩:=h.ok I.hok
  exact⟨its,r,⟨_,n,e,rfl,rfl,rfl⟩,z⟩
 ·refine⟨its.toList,r,⟨o,n,I.kIn a o hk,hc,hd,by simpa using hs⟩,?_⟩
  have e:=r.length
  simp only[Array.length_toList]at e
  ac_nf
theorem Inv.tuple (I:Inv X pins σ H s) (h:SqT X.K H a xs):∃ its:List Value,Vals xs its/\IsTup s.heap a its.toArray/\xs.length<=sizeLine:=by
 rcases h with h | ⟨o,its,n,hk,hc,hs,hz,r⟩
 ·obtain⟨z,its,r,p⟩:=h.ok I.hok
  exact⟨its,r,p,z⟩
 ·refine⟨its.toList,r,⟨o,I.kIn a o hk,hc,n,by simpa using hs⟩,?_⟩
  have e:=r.length
  simp only[Array.length_toList]at e
  ac_nf
theorem Inv.list_inj (I:Inv X pins σ H s) (h:SqL X.K H a xs) (h':SqL X.K H a ys):xs=ys:=by
 obtain⟨its,r,⟨o,n,e,_,_,d⟩,_⟩:=I.list h
 obtain⟨its',r',⟨o',n',e',_,_,d'⟩,_⟩:=I.list h'
 rw[e]at e';cases e'
 rw[d]at d'
 injection d' with d1 _
 have:its=its':=by simpa using congrArg Array.toList d1
 subst this
 exact r.inj r'
theorem Inv.tuple_inj (I:Inv X pins σ H s) (h:SqT X.K H a xs) (h':SqT X.K H a ys):xs=ys:=by
 obtain⟨its,r,⟨o,e,_,n,d⟩,_⟩:=I.tuple h
 obtain⟨its',r',⟨o',e',_,n',d'⟩,_⟩:=I.tuple h'
 rw[e]at e';cases e'
 rw[d]at d'
 injection d' with d1 _
 have:its=its':=by simpa using congrArg Array.toList d1
 subst this
 exact r.inj r'
end
abbrev Cx.wish (X:Cx) (E:Value->Shared->Prop):Cx:={ X with xe:=E }
abbrev Cx.nox (X:Cx):Cx:=X.wish fun _ _=>False
theorem Cx.Ok.wish {X:Cx} (ok:X.Ok) (E:Value->Shared->Prop):(X.wish E).Ok:=
 ⟨ok.mod,ok.kind,ok.glob,ok.blt,ok.above,ok.inj,ok.has,ok.cab,ok.hd,ok.frames,ok.stk,ok.exf,ok.bs,ok.bsz,ok.noex,ok.exfs,ok.funs,ok.frf⟩
theorem Cx.Ok.unwish {X:Cx}{E:Value->Shared->Prop} (ok:(X.wish E).Ok):X.Ok:=
 ⟨ok.mod,ok.kind,ok.glob,ok.blt,ok.above,ok.inj,ok.has,ok.cab,ok.hd,ok.frames,ok.stk,ok.exf,ok.bs,ok.bsz,ok.noex,ok.exfs,ok.funs,ok.frf⟩
section
variable {X:Cx}{pins:List (Addr × Obj)}{σ:St}{H:Hp}{s:Shared}{E:Value->Shared->Prop}
theorem Inv.wish (I:Inv X pins σ H s) (E:Value->Shared->Prop):Inv (X.wish E) pins σ H s:=⟨I.ok.wish E,I.os,I.bare,I.base,I.loc,I.cell,I.free,I.freeC,I.pin,I.hok,I.len⟩
theorem Inv.unwish (I:Inv (X.wish E) pins σ H s):Inv X pins σ H s:=⟨I.ok.unwish,I.os,I.bare,I.base,I.loc,I.cell,I.free,I.freeC,I.pin,I.hok,I.len⟩
theorem SP.unwish {D:Ends}{f:Flow}{s':Shared} (h:SP (X.wish E) pins D f s'):SP X pins D f s':=by
 cases f with
 | next=>obtain⟨σ',H',I,q⟩:=h;exact⟨σ',H',I.unwish,q⟩
 | brk=>obtain⟨σ',H',I,q⟩:=h;exact⟨σ',H',I.unwish,q⟩
 | cont=>obtain⟨σ',H',I,q⟩:=h;exact⟨σ',H',I.unwish,q⟩
 | ret u=>obtain⟨v,σ',H',I,r,q⟩:=h;exact⟨v,σ',H',I.unwish,r,q⟩
theorem PSs.nox {st:List Stmt}{t:TS} (h:PSs X.nox st t):PSs X st t:=fun pins s σ H D I hw=>
 wpAny_mono (h pins s σ H D (I.wish _) hw) (fun _ _ q=>q.unwish) fun _ _ z=>False.elim z
end
section
variable {X:Cx}{st:Stmt}{rest:List Stmt}{t u:TS}{e:Expr}{te:TE}{pos:Pos}
def tNext:TS:=fun D σ H=>D.nx σ H
def tSeq (t u:TS):TS:=fun D σ H=>t { D with nx:=u D } σ H
theorem QaI:PSs X [] tNext:=fun _ _ σ H _ I h=>wpAny_execs_nil ⟨σ,H,I,h⟩
theorem QaJ (h1:PS X st t) (h2:PSs X rest u):PSs X (st::rest) (tSeq t u):=by
 intro pins s σ H D I h
 refine wpAny_execs_cons (thn (h1 pins s σ H { D with nx:=u D } I h) fun f s1 q=>?_)
 cases f with
 | next=>
  obtain⟨σ',H',I',q⟩:=q
  exact h2 pins s1 σ' H' D I' q
 | ret v=>exact q
 | brk=>exact q
 | cont=>exact q
theorem Inv.quiet {pins:List (Addr × Obj)}{σ:St}{H:Hp}{s:Shared} (I:Inv X pins σ H s):interactive X.env=false:=by simp[interactive,I.ok.kind]
def tDrop (te:TE):TS:=fun D σ H=>te σ H fun _ H1=>D.nx σ H1
theorem QaK (he:PE X e te) (hs:swapsWith e none pos.line X.env=pure false:=by rfl):PS X (.Expr e pos) (tDrop te):=by
 intro pins s σ H D I h
 exact wpAny_Expr_any (thn (he pins s σ H _ I h) fun v s1 pq9=>by obtain⟨x,H1,I1,r1,q1⟩:=pq9;exact⟨σ,H1,I1,q1⟩) I.quiet hs
def tRet (te:TE):TS:=fun D σ H=>te σ H D.rt
theorem QaL (he:PE X e te):PS X (.Return (some e) pos) (tRet te):=by
 intro pins s σ H D I h
 exact wpAny_Return_some (thn (he pins s σ H _ I h) fun v s1 pq10=>by obtain⟨x,H1,I1,r1,q1⟩:=pq10;exact⟨x,σ,H1,I1,r1,q1⟩)
def tIfS (c:TT) (t u:TS):TS:=fun D σ H=>c σ H fun b H1=>if b=true then t D σ H1 else u D σ H1
theorem QaM {c:Expr}{a b:List Stmt}{tc:TT} (hc:PT X c tc) (ha:PSs X a t) (hb:PSs X b u):PS X (.If c a b pos) (tIfS tc t u):=by
 intro pins s σ H D I h
 refine wpAny_If (thn (hc pins s σ H _ I h) fun d s1 pq11=>?_)
 obtain⟨H1,I1,q1⟩:=pq11
 cases d with
 | true=>exact ha pins s1 σ H1 D I1 q1
 | false=>exact hb pins s1 σ H1 D I1 q1
end
abbrev TG:=V->St->Hp->(St->Hp->Prop)->Prop
abbrev TGs:=List V->St->Hp->(St->Hp->Prop)->Prop
def PG (X:Cx) (target:Expr) (t:TG):Prop:=
 ∀ (pins:List (Addr × Obj)) (s:Shared) (σ:St) (H:Hp) (v:V) (u:Value) (Q:St->Hp->Prop),Inv X pins σ H s->RelV v u->t v σ H Q ->
  wpAny (model X.prog X.w) X.A (assign target X.env u) (fun _ s'=>∃ σ' H',Inv X pins σ' H' s'/\Q σ' H') X.xe s
def PGs (X:Cx) (ts:List Expr) (t:TGs):Prop:=
 ∀ (pins:List (Addr × Obj)) (s:Shared) (σ:St) (H:Hp) (vs:List V) (us:List Value) (Q:St->Hp->Prop),Inv X pins σ H s->Vals vs us->t vs σ H Q ->
  wpAny (model X.prog X.w) X.A (assignInOrder ((assignEach ts X.env).map (·.2)) us) (fun _ s'=>∃ σ' H',Inv X pins σ' H' s'/\Q σ' H') X.xe s
abbrev TSet:=V->V->V->Hp->(Hp->Prop)->Prop
def PSet (X:Cx) (t:TSet):Prop:=
 ∀ (pins:List (Addr × Obj)) (s:Shared) (σ:St) (H:Hp) (o i v:V) (ov iv u:Value) (Q:Hp->Prop),Inv X pins σ H s->RelV o ov->RelV i iv->RelV v u->t o i v H Q ->
  wpAny (model X.prog X.w) X.A (setItem ov iv u) (fun _ s'=>∃ H',Inv X pins σ H' s'/\Q H') X.xe s
section
variable {X:Cx}{pos:Pos}
def gName (i:Nat):TG:=fun v σ H Q=>Q (σ.set i (some v)) H
theorem QaN {i:Nat}{x:Str} (hN:X.N.Nodup) (hi:X.N[i]?=some x) (hx:Loc X.env.scope x) (hf:X.fn x=true\/X.env.scope.names.lookup x=some .local:=by first | exact .inl rfl | exact .inr rfl | assumption):PG X (.Name x pos) (gName i):=by
 intro pins s σ H v u Q I r h
 exact wpAny_assign_Name (Qar I hN hi hx r (fun s' I'=>⟨_,H,I',h⟩) hf)
def gNil:TGs:=fun vs σ H Q=>vs=[]/\Q σ H
def gCons (t:TG) (u:TGs):TGs:=fun vs σ H Q=>∃ v r,vs=v::r/\t v σ H fun σ' H'=>u r σ' H' Q
theorem QaO:PGs X [] gNil:=by
 intro pins s σ H vs us Q I r h
 obtain⟨e,h⟩:=h
 subst e
 cases r
 exact assignInOrder_nil ⟨σ,H,I,h⟩
theorem QaP {e : Expr} {es : List Expr} {t : TG} {u : TGs} (h1 : PG X e t) (h2 : PGs X es u)
  (hs:(assignEach (e::es) X.env).map (·.2)=assign e X.env::(assignEach es X.env).map (·.2):=by rfl):PGs X (e::es) (gCons t u):=by
 intro pins s σ H vs us Q I r h
 obtain⟨v,vr,e1,h⟩:=h
 subst e1
 cases r with
 | cons r rr=>
  rw[hs]
  refine assignInOrder_cons (thn (h1 pins s σ H _ _ _ I r h) fun _ s1 pq12=>?_)
  obtain⟨σ1,H1,I1,q1⟩:=pq12
  exact h2 pins s1 σ1 H1 _ _ Q I1 rr q1
def gTup (K:PySem.W.Frag) (n:Nat) (t:TGs):TG:=fun v σ H Q=>∃ a xs,v=.ref a/\SqT K H a xs/\xs.length=n/\t xs σ H Q
theorem QaQ {es : List Expr} {k : Nat} {t : TGs} {n : Nat} (hc : X.calm = true) (h : PGs X es t)
  (hn:(assignEach es X.env).length=n:=by rfl) (hst:(assignEach es X.env).findIdx? (·.1)=none:=by rfl):PG X (.Tuple es k pos) (gTup X.K n t):=by
 intro pins s σ H v u Q I r hw
 obtain⟨a,xs,e1,hq,hl,hw⟩:=hw
 subst e1
 cases r
 obtain⟨its,rv,ht,hz⟩:=I.tuple hq
 refine assign_Tuple_tuple (I.ok.hd hc) ht (by simp[hn,<- hl,rv.length]) hst fun h' hx=>?_
 have I1:Inv X pins σ H { s with heap:=h' }:=I.kept (t':=s.toks) fun b o e=>hx b o (Nat.ne_of_lt (Heap.lt_size e)) e
 exact h pins _ σ H xs _ Q I1 (by simpa using rv) hw
def gSub (to ti:TE) (t:TSet):TG:=fun v σ H Q=>to σ H fun o H1=>ti σ H1 fun i H2=>t o i v H2 fun H3=>Q σ H3
theorem QaR {o i : Expr} {to ti : TE} {t : TSet} (ho : PE X o to) (hi : PE X i ti) (hs : PSet X t)
  (ha:∀ v,assign (.Subscript o i pos) X.env v=(do
   let ov <- holding [v] (eval o X.env)
   let iv <- holding [v,ov] (eval i X.env)
   standAt pos
   holding [v,ov,iv] (setItem ov iv v)
   release [v,ov,iv] []):=by intro _;rfl):PG X (.Subscript o i pos) (gSub to ti t):=by
 intro pins s σ H v u Q I r h
 rw[ha]
 refine wpAny_bind (wpAny_holding (thn (ho pins s σ H _ I h) fun ov s1 pq13=>?_))
 obtain⟨x,H1,I1,r1,q1⟩:=pq13
 refine wpAny_bind (wpAny_holding (thn (hi pins s1 σ H1 _ I1 q1) fun iv s2 pq14=>?_))
 obtain⟨y,H2,I2,r2,q2⟩:=pq14
 refine wpAny_bind (wpAny_standAt (wpAny_bind (wpAny_holding (thn (hs pins s2 σ H2 x y v ov iv u _ I2 r1 r2 r q2) fun _ s3 pq15=>?_))))
 obtain⟨H3,I3,q3⟩:=pq15
 exact wpAny_release ⟨σ,H3,I3,q3⟩
def tAsg (te:TE) (g:TG):TS:=fun D σ H=>te σ H fun x H1=>g x σ H1 D.nx
theorem QaS {tg e : Expr} {te : TE} {g : TG} (he : PE X e te) (hg : PG X tg g) (hs : swapsWithSole [tg] e pos.line X.env = pure false := by rfl) (hw : swappedStores [tg] e X.env = pure none := by rfl)
  (h1:(assignEach [tg] X.env).map (·.2)=[assign tg X.env]:=by rfl):PS X (.Assign [tg] e pos) (tAsg te g):=by
 intro pins s σ H D I h
 refine wpAny_Assign_stores (thn (he pins s σ H _ I h) fun v s1 ⟨x,H1,I1,r1,q1⟩=>?_) hs hw
 rw[h1]
 exact thn (hg pins s1 σ H1 x v _ I1 r1 q1) fun _ s2 q=>q
theorem QaT {i : Nat} {x : Str} {e : Expr} {te : TE} {pos' : Pos} (hN : X.N.Nodup) (hi : X.N[i]? = some x) (hx : Loc X.env.scope x) (he : PE X e te) (hs : swapsWith e (some (.Name x pos')) pos.line X.env = pure false := by rfl) (hf : X.fn x = true \/ X.env.scope.names.lookup x = some .local := by first | exact .inl rfl | exact .inr rfl | assumption) :
  PS X (.Assign [.Name x pos'] e pos) (tAsg te (gName i)):=by
 intro pins s σ H D I h
 refine wpAny_Assign_Name (thn (he pins s σ H _ I h) fun v s1 ⟨y,H1,I1,r1,q1⟩=>?_) hs
 exact Qar I1 hN hi hx r1 (fun s2 I2=>⟨_,H1,I2,q1⟩) hf
end
section
variable {X:Cx}{pos:Pos}
def tWhile (c:TT) (tb:TS):TS:=fun D σ H=>∃ W:Nat->St->Hp->Prop,(∃ m,W m σ H)/\∀ m σ H,W m σ H ->
 c σ H fun b H1=>if b=true then ∃ N:St->Hp->Prop,(∀ σ' H',N σ' H'->∃ m',m' < m/\W m' σ' H')/\tb { D with nx:=N,ct:=N,bk:=D.nx } σ H1 else D.nx σ H1
theorem QaU {c:Expr}{body:List Stmt}{tc:TT}{tb:TS} (hp:PassesOwn (model X.prog X.w) X.A X.env X.xe) (hc:PT X c tc) (hb:PSs X body tb):PS X (.While c body [] pos) (tWhile tc tb):=by
 intro pins s σ H D I h
 obtain⟨W,⟨m0,w0⟩,turn⟩:=h
 refine wpAny_While (codeAny_whileLoop (fun n s'=>∃ σ' H',Inv X pins σ' H' s'/\W n σ' H') ?_ m0 ⟨σ,H,I,w0⟩)
 rintro n s1 ⟨σ1,H1,I1,w1⟩
 refine wpAny_passesOwn hp (thn (hc pins s1 σ1 H1 _ I1 (turn n σ1 H1 w1)) fun b s2 pq18=>?_)
 obtain⟨H2,I2,q2⟩:=pq18
 cases b with
 | true=>
  obtain⟨N,hN,q2⟩:=q2
  rw[if_pos rfl]
  refine wpAny_passesOwn hp (thn (hb pins s2 σ1 H2 _ I2 q2) fun f s3 q3=>?_)
  cases f with
  | next=>
   obtain⟨σ3,H3,I3,n3⟩:=q3
   obtain⟨m',hm,w3⟩:=hN σ3 H3 n3
   exact⟨m',hm,σ3,H3,I3,w3⟩
  | cont=>
   obtain⟨σ3,H3,I3,n3⟩:=q3
   obtain⟨m',hm,w3⟩:=hN σ3 H3 n3
   exact⟨m',hm,σ3,H3,I3,w3⟩
  | brk=>exact q3
  | ret v=>exact q3
 | false=>
  rw[if_neg Bool.false_ne_true]
  exact wpAny_execs_nil ⟨σ1,H2,I2,q2⟩
end
structure It where
 go:Nat->Hp->Prop
 yld:Nat->Hp->V->Hp->Prop
 stop:Nat->Hp->Prop
def FpOk (X:Cx) (pins:List (Addr × Obj)) (H:Hp) (b:Addr):Prop:=
 H b=none/\b≠X.env.locals/\b∉X.fs/\(b∈X.ex\/X.s₀.heap.objs.size<=b)/\(∀ x c,X.env.cells.lookup x=some c->c≠b)/\∀ p∈X.pn++pins,p.1≠b
theorem Inv.fpOk {X:Cx}{pins:List (Addr × Obj)}{σ:St}{H H':Hp}{s:Shared}{b:Addr} (I:Inv X pins σ H s) (hb:s.heap.objs.size<=b) (hn:H' b=none):FpOk X pins H' b:=by
 refine⟨hn,Nat.ne_of_gt (Nat.lt_of_lt_of_le I.lt hb),I.nofs hb,.inr (Nat.le_trans I.sz hb),fun x c e z=>?_,fun p hp z=>?_⟩
 ·obtain⟨v,q⟩:=I.cell x c e
  exact absurd (Nat.lt_of_lt_of_le q.lt (by rw[z];exact hb)) (Nat.lt_irrefl _)
 ·exact absurd (Nat.lt_of_lt_of_le (Heap.lt_size (I.pin p hp).1) (by rw[z];exact hb)) (Nat.lt_irrefl _)
structure Turn (P:Program) (w:World) (K:PySem.W.Frag) (tg:Expr) (J:It) (fp:List Addr) (it:Addr) (tn:Nat->Heap->Prop):Prop where
 mem:it∈fp
 obj:∀ i h,tn i h->∀ b∈fp,∃ o,h.get? b=some o/\∀ v,o.data≠.cell v
 keep:∀ i h h',tn i h->(∀ b∈fp,∀ o,h.get? b=some o->h'.get? b=some o)->tn i h'
 item:∀ (X:Cx),X.prog=P->X.w=w->X.K=K->X.calm=true->∀ (i:Nat) (pins:List (Addr × Obj)) (s:Shared) (σ:St) (H:Hp) (E:Value->Shared->Prop),Inv X pins σ H s->(∀ b∈fp,FpOk X pins H b)->tn i s.heap->J.go i H ->
  wpAny (model P w) X.A (pyNext (.ref it)) (fun r s1=>∃ u,r=some u /\
   wpAny (model P w) X.A (letOwnedTupleGo tg (.ref it) u) (fun _ s2=>∃ x H',Inv X pins σ H' s2/\RelV x u/\J.yld i H x H'/\tn (i + 1) s2.heap/\∀ b∈fp,H' b=none) E s1) E s
 done:∀ (X:Cx),X.prog=P->X.w=w->X.K=K->X.calm=true->∀ (i:Nat) (pins:List (Addr × Obj)) (s:Shared) (σ:St) (H:Hp) (E:Value->Shared->Prop),Inv X pins σ H s->(∀ b∈fp,FpOk X pins H b)->tn i s.heap->J.stop i H ->
  wpAny (model P w) X.A (pyNext (.ref it)) (fun r s1=>r=none/\Inv X pins σ H s1) E s
 self:∀ (A:Around) (i:Nat) (s:Shared) (Q:Value->Shared->Prop) (E:Value->Shared->Prop),tn i s.heap->Q (.ref it) s->wpAny (model P w) A (pyIter (.ref it)) Q E s
abbrev TI:=St->Hp->(It->Hp->Prop)->Prop
def PIE (X:Cx) (pins:List (Addr × Obj)) (σ:St) (tg:Expr) (R:It->Hp->Prop) (itv:Value) (s2:Shared):Prop:=
 ∃ (it:Addr) (fp:List Addr) (tn:Nat->Heap->Prop) (J:It) (H':Hp),itv=.ref it/\Inv X pins σ H' s2/\Turn X.prog X.w X.K tg J fp it tn/\tn 0 s2.heap/\(∀ b∈fp,FpOk X pins H' b)/\R J H'
def PI (X:Cx) (tg iter:Expr) (wi:TI):Prop:=
 ∀ (pins:List (Addr × Obj)) (s:Shared) (σ:St) (H:Hp) (R:It->Hp->Prop),Inv X pins σ H s->wi σ H R ->
  wpAny (model X.prog X.w) X.A (eval iter X.env) (fun v s1=>wpAny (model X.prog X.w) X.A (pyIter v) (PIE X pins σ tg R) X.xe s1) X.xe s
theorem QaV {M : Model} {A : Around} {E : Value -> Shared -> Prop} {s : Shared} {tg : Expr} {it : Addr} {u : Value} {o : Obj} {n : String} {vs : Array Value} {Q : Unit -> Shared -> Prop} (ho : s.heap.get? it = some o) (hc : o.cls = .type n) (hd : o.data = .fields vs)
  (hn:["enumerate","zip","dict_itemiterator","dict_reverseitemiterator","odict_iterator","itertools.zip_longest","itertools.pairwise"].contains n=false) (hQ:Q () s):wpAny M A (letOwnedTupleGo tg (.ref it) u) Q E s:=by
 unfold letOwnedTupleGo
 cases tg<;>first
  | exact wpAny_pure hQ
  | (cases u <;> first
    | exact wpAny_pure hQ
    | (refine wpAny_bind (wpAny_load ho ?_)
       rw[hc,hd]
       show wpAny M A (if (["enumerate","zip","dict_itemiterator","dict_reverseitemiterator","odict_iterator","itertools.zip_longest","itertools.pairwise"].contains n && vs[0]? == some (rawInt _))=true then _ else _) Q E s
       rw[if_neg (by intro h;rw[hn,Bool.false_and]at h;cases h)]
       exact wpAny_pure hQ))
def Itl (K:PySem.W.Frag) (a:Addr):It:=
 ⟨fun i H=>∃ xs x,SqL K H a xs/\xs[i]?=some x,fun i H x H'=>H'=H/\∀ xs,SqL K H a xs->xs[i]?=some x,fun i H=>∃ xs,SqL K H a xs/\xs.length<=i⟩
def Itt (K:PySem.W.Frag) (a:Addr):It:=
 ⟨fun i H=>∃ xs x,SqT K H a xs/\xs[i]?=some x,fun i H x H'=>H'=H/\∀ xs,SqT K H a xs->xs[i]?=some x,fun i H=>∃ xs,SqT K H a xs/\xs.length<=i⟩
def Itr (lo:Int) (n:Nat):It:=⟨fun i _=>i < n,fun i H x H'=>H'=H/\x=.int (lo + i),fun i _=>n<=i⟩
theorem QaW {P:Program}{w:World}{K:PySem.W.Frag}{tg:Expr} (a it:Addr):Turn P w K tg (Itl K a) [it] it (fun i h=>h.IsListIter it a i) where
 mem:=by simp
 obj:=fun i h st b hb=>by
  have e:b=it:=by simpa using hb
  subst e
  obtain⟨o,e,c,d⟩:=st
  exact⟨o,e,fun v z=>by rw[d]at z;cases z⟩
 keep:=fun i h h' st k=>st.at fun o e=>k it (by simp) o e
 item:=by
  intro X hP hw hK hc i pins s σ H E I hf st hg
  subst hP hw hK
  obtain⟨xs,x,hq,hx⟩:=hg
  obtain⟨its,rv,p,hz⟩:=I.list hq
  obtain⟨u,hu,ru⟩:=rv.get hx
  obtain⟨f0,f1,f2,f3,f4,f5⟩:=hf it (by simp)
  refine wpAny_pyNext_list_item st p.isList (x:=u) (by simpa using hu) fun h' st' sb=>?_
  have I1:Inv X pins σ H { s with heap:=h' }:=I.turned (t':=s.toks) (fun b o hb e=>(sb.2 b hb).trans e) f0 f1 f3 f4 f5
  obtain⟨o,e,c,d⟩:=id st'
  exact⟨u,rfl,QaV (s:={ s with heap:=h' }) e c d (by decide) ⟨x,H,I1,ru,⟨rfl,fun ys hy=>by rw[I.list_inj hy hq];exact hx⟩,st',fun b hb=>(hf b hb).1⟩⟩
 done:=by
  intro X hP hw hK hc i pins s σ H E I hf st hg
  subst hP hw hK
  obtain⟨xs,hq,hx⟩:=hg
  obtain⟨its,rv,p,hz⟩:=I.list hq
  obtain⟨f0,f1,f2,f3,f4,f5⟩:=hf it (by simp)
  have hl:=rv.length
  exact wpAny_pyNext_list_end (I.ok.hd hc) st p.isList (by simp;ac_nf) fun h' eb=>⟨rfl,I.turned (t':=s.toks) (fun b o hb e=>eb b o hb e) f0 f1 f3 f4 f5⟩
 self:=fun _ _ _ _ _ st h=>wpAny_pyIter_listiter st h
theorem QaX {P:Program}{w:World}{K:PySem.W.Frag}{tg:Expr} (a it:Addr):Turn P w K tg (Itt K a) [it] it (fun i h=>h.IsTupleIter it a i) where
 mem:=by simp
 obj:=fun i h st b hb=>by
  have e:b=it:=by simpa using hb
  subst e
  obtain⟨o,e,c,d⟩:=st
  exact⟨o,e,fun v z=>by rw[d]at z;cases z⟩
 keep:=fun i h h' st k=>st.at fun o e=>k it (by simp) o e
 item:=by
  intro X hP hw hK hc i pins s σ H E I hf st hg
  subst hP hw hK
  obtain⟨xs,x,hq,hx⟩:=hg
  obtain⟨its,rv,p,hz⟩:=I.tuple hq
  obtain⟨u,hu,ru⟩:=rv.get hx
  obtain⟨f0,f1,f2,f3,f4,f5⟩:=hf it (by simp)
  refine wpAny_pyNext_tuple_item st (show s.heap.IsTuple a its.toArray from p) (x:=u) (by simpa using hu) fun h' st' sb=>?_
  have I1:Inv X pins σ H { s with heap:=h' }:=I.turned (t':=s.toks) (fun b o hb e=>(sb.2 b hb).trans e) f0 f1 f3 f4 f5
  obtain⟨o,e,c,d⟩:=id st'
  exact⟨u,rfl,QaV (s:={ s with heap:=h' }) e c d (by decide) ⟨x,H,I1,ru,⟨rfl,fun ys hy=>by rw[I.tuple_inj hy hq];exact hx⟩,st',fun b hb=>(hf b hb).1⟩⟩
 done:=by
  intro X hP hw hK hc i pins s σ H E I hf st hg
  subst hP hw hK
  obtain⟨xs,hq,hx⟩:=hg
  obtain⟨its,rv,p,hz⟩:=I.tuple hq
  obtain⟨f0,f1,f2,f3,f4,f5⟩:=hf it (by simp)
  have hl:=rv.length
  exact wpAny_pyNext_tuple_end (I.ok.hd hc) st (show s.heap.IsTuple a its.toArray from p) (by simp;ac_nf) fun h' eb=>⟨rfl,I.turned (t':=s.toks) (fun b o hb e=>eb b o hb e) f0 f1 f3 f4 f5⟩
 self:=fun _ _ _ _ _ st h=>wpAny_pyIter_tupleiter st h
theorem QaY {P:Program}{w:World}{K:PySem.W.Frag}{tg:Expr} (it:Addr) (lo:Int) (n:Nat):Turn P w K tg (Itr lo n) [it] it (fun i h=>IsRangeIter h it (lo + (i:Nat) * 1) ((n:Int) - (i:Nat)) 1) where
 mem:=by simp
 obj:=fun i h st b hb=>by
  have e:b=it:=by simpa using hb
  subst e
  exact⟨_,st,fun v z=>by
   have z':Data.fields _=Data.cell v:=z
   cases z'⟩
 keep:=fun i h h' st k=>k it (by simp) _ st
 item:=by
  intro X hP hw hK hc i pins s σ H E I hf st hg
  subst hP hw hK
  obtain⟨f0,f1,f2,f3,f4,f5⟩:=hf it (by simp)
  have W:=Walks.range (prog:=X.prog) (w:=X.w) (I.ok.hd hc) it lo 1 n
  refine W.item i s _ _ hg st fun v h' tk hv st' kk=>?_
  obtain⟨t,rfl⟩:=hv
  have I1:Inv X pins σ H { s with heap:=h',toks:=tk }:=I.turned (fun b o hb e=>kk b o (by simpa using hb) e) f0 f1 f3 f4 f5
  refine⟨_,rfl,QaV (s:={ s with heap:=h',toks:=tk }) (n:="range_iterator") st' rfl rfl (by decide) ⟨.int (lo + i),H,I1,⟨t,?_⟩,⟨rfl,rfl⟩,st',fun b hb=>(hf b hb).1⟩⟩
  rw[Int.mul_one]
 done:=by
  intro X hP hw hK hc i pins s σ H E I hf st hg
  subst hP hw hK
  obtain⟨f0,f1,f2,f3,f4,f5⟩:=hf it (by simp)
  exact wpAny_pyNext_range_end (I.ok.hd hc) st (by have:n<=i:=hg;ac_nf) fun h' eb=>⟨rfl,I.turned (t':=s.toks) (fun b o hb e=>eb b o hb e) f0 f1 f3 f4 f5⟩
 self:=fun _ _ _ _ _ st h=>wpAny_pyIter_rangeiter st h
section
variable {X:Cx}{tg:Expr}
def iList (K:PySem.W.Frag) (tl:TE):TI:=fun σ H R=>tl σ H fun x H1=>∃ a,x=.ref a/\(∃ xs,SqL K H1 a xs)/\R (Itl K a) H1
theorem QaZ {l:Expr}{tl:TE} (hl:PE X l tl):PI X tg l (iList X.K tl):=by
 intro pins s σ H R I h
 refine thn (hl pins s σ H _ I h) fun v s1 pq19=>?_
 obtain⟨x,H1,I1,r1,q1⟩:=pq19
 obtain⟨a,e,⟨xs,hq⟩,q⟩:=q1
 subst e
 cases r1
 obtain⟨its,rv,p,hz⟩:=I1.list hq
 refine wpAny_pyIter_list p.isList ?_
 refine⟨s1.heap.objs.size,[s1.heap.objs.size],_,_,H1,rfl,I1.kept (t':=s1.toks) fun b o e=>Heap.get?_push_of_some _ e,QaW a _,⟨_,Heap.get?_push_size _ rfl,rfl,rfl⟩,fun b hb=>?_,q⟩
 have e:b=s1.heap.objs.size:=by simpa using hb
 subst e
 exact I1.fpOk (Nat.le_refl _) (I1.hok.fresh (Nat.le_refl _))
theorem Qa0 {pins : List (Addr × Obj)} {σ : St} {H : Hp} {s : Shared} {R : It -> Hp -> Prop} {E : Value -> Shared -> Prop} {lo hi : Int} {t u v : Tok} {tk : Nat} (I : Inv X pins σ H s) (h1 : -(2 ^ 62) <= lo) (h2 : lo < 2 ^ 62) (h3 : -(2 ^ 62) <= hi) (h4 : hi < 2 ^ 62)
  (q:R (Itr lo (hi - lo).toNat) H):wpAny (model X.prog X.w) X.A (pyIter (.ref s.heap.objs.size)) (PIE X pins σ tg R) E { s with heap:=s.heap.push { cls:=.type "range",data:=.fields #[.int lo t,.int hi u,.int 1 v] },toks:=tk }:=by
 refine wpAny_pyIter_range (IsRange.new ..) (small_one h1 h2 h3 h4) ?_
 have I1:Inv X pins σ H { s with heap:=s.heap.push { cls:=.type "range",data:=.fields #[.int lo t,.int hi u,.int 1 v] },toks:=tk }:=I.kept fun b o e=>Heap.get?_push_of_some _ e
 refine⟨(s.heap.push { cls:=.type "range",data:=.fields #[.int lo t,.int hi u,.int 1 v] }).objs.size,[(s.heap.push { cls:=.type "range",data:=.fields #[.int lo t,.int hi u,.int 1 v] }).objs.size],_,_,H,rfl,
  I1.kept (t':=tk) fun b o e=>Heap.get?_push_of_some _ e,QaY _ lo (hi - lo).toNat,?_,fun b hb=>?_,q⟩
 ·have e1:lo + ((0:Nat):Int) * 1=lo:=by simp
  have e2:(((hi - lo).toNat:Nat):Int) - ((0:Nat):Int)=Builtin.Range.rangeSize lo hi 1:=by rw[rangeSize_one];split<;>ac_nf
  show IsRangeIter _ _ (lo + ((0:Nat):Int) * 1) ((((hi - lo).toNat:Nat):Int) - ((0:Nat):Int)) 1
  rw[e1,e2]
  exact Heap.get?_push_size _ rfl
 ·have e:b=(s.heap.push { cls:=.type "range",data:=.fields #[.int lo t,.int hi u,.int 1 v] }).objs.size:=by simpa using hb
  subst e
  exact I1.fpOk (Nat.le_refl _) (I1.hok.fresh (Nat.le_refl _))
def iRng1 (ta:TA):TI:=fun σ H R=>ta σ H fun vs H1=>∃ j:Int,vs=[.int j] /\ -(2 ^ 62)<=j/\j < 2 ^ 62/\R (Itr 0 j.toNat) H1
def iRng2 (ta:TA):TI:=fun σ H R=>ta σ H fun vs H1=>∃ i j:Int,vs=[.int i,.int j]/\(-(2 ^ 62)<=i/\i < 2 ^ 62 /\ -(2 ^ 62)<=j/\j < 2 ^ 62)/\R (Itr i (j - i).toNat) H1
theorem Qa1 {a:Expr}{ta:TA}{p pos:Pos} (hg:Gl X "range") (hm:X.mg "range"=none) (ha:PA X [a] ta) (hs:starEach [a] X.env=[(false,eval a X.env)]:=by rfl):PI X tg (.Call (.Name "range" p) [a] [] pos) (iRng1 ta):=by
 intro pins s σ H R I h
 refine Call_ (Qay I hg hm boot_range (PyProof.Rows.callWith_type1 (thn (ha pos pins s σ H _ I h) fun us s1 ⟨vs,H1,I1,r1,q1⟩=>?_) hs rfl))
 obtain⟨j,e,q1,q2,q⟩:=q1
 subst e
 cases r1 with
 | cons r rr=>
  cases rr
  obtain⟨t,rfl⟩:=r
  exact call_range_1 (Qa0 I1 (by ac_nf) (by ac_nf) q1 q2 (by simpa using q))
theorem Qa2 {a b : Expr} {ta : TA} {p pos : Pos} (hg : Gl X "range") (hm : X.mg "range" = none) (ha : PA X [a, b] ta) (hs : starEach [a, b] X.env = [(false, eval a X.env), (false, eval b X.env)] := by rfl) (hs2 : starEach [b] X.env = [(false, eval b X.env)] := by rfl) :
  PI X tg (.Call (.Name "range" p) [a,b] [] pos) (iRng2 ta):=by
 intro pins s σ H R I h
 refine Call_ (Qay I hg hm boot_range (PyProof.Rows.callWith_type1 (thn (ha pos pins s σ H _ I h) fun us s1 ⟨vs,H1,I1,r1,q1⟩=>?_) (by rw[hs,hs2]) (by rw[hs2];rfl)))
 obtain⟨i,j,e,⟨q1,q2,q3,q4⟩,q⟩:=q1
 subst e
 cases r1 with
 | cons r rr=>
  cases rr with
  | cons r' rr=>
   cases rr
   obtain⟨t,rfl⟩:=r
   obtain⟨t',rfl⟩:=r'
   exact call_range_2 (Qa0 I1 q1 q2 q3 q4 q)
def tFor (wi:TI) (g:TG) (tb:TS):TS:=fun D σ H=>wi σ H fun J H1=>∃ W:Nat->Nat->St->Hp->Prop,(∃ m,W 0 m σ H1)/\∀ i m σ H,W i m σ H ->
 (J.stop i H/\D.nx σ H)\/(J.go i H/\∃ N:St->Hp->Prop,(∀ σ' H',N σ' H'->∃ m',m' < m/\W (i + 1) m' σ' H')/\∀ x H',J.yld i H x H'->g x σ H' fun σ2 H2=>tb { D with nx:=N,ct:=N,bk:=D.nx } σ2 H2)
def pinsAt (fp:List Addr) (h:Heap):List (Addr × Obj):=fp.filterMap fun b=>(h.get? b).map fun o=>(b,o)
theorem Qa3 {fp:List Addr}{h:Heap}{b:Addr}{o:Obj} (hb:b∈fp) (e:h.get? b=some o):(b,o)∈pinsAt fp h:=List.mem_filterMap.mpr ⟨b,hb,by rw[e];rfl⟩
theorem Qa4 {fp:List Addr}{h:Heap}{p:Addr × Obj} (hp:p∈pinsAt fp h):p.1∈fp/\h.get? p.1=some p.2:=by
 obtain⟨b,hb,e⟩:=List.mem_filterMap.mp hp
 cases q:h.get? b with
 | none=>rw[q]at e;cases e
 | some o=>
  rw[q]at e
  have e':(b,o)=p:=Option.some.inj e
  subst e'
  exact⟨hb,q⟩
theorem Inv.pinned {pins:List (Addr × Obj)}{σ:St}{H:Hp}{s:Shared}{fp:List Addr} (I:Inv X pins σ H s) (hf:∀ b∈fp,FpOk X pins H b) (ho:∀ b∈fp,∃ o,s.heap.get? b=some o/\∀ v,o.data≠.cell v):Inv X (pins++pinsAt fp s.heap) σ H s:=
 I.pins_of fun p hp=>(List.mem_append.mp hp).elim (fun z=>I.pin p (List.mem_append_right _ z)) fun z=>by
  obtain⟨hb,e⟩:=Qa4 z
  obtain⟨f0,f1,f2,_⟩:=hf p.1 hb
  obtain⟨o,e',d⟩:=ho p.1 hb
  rw[e]at e';cases e'
  exact⟨e,f0,f1,f2,d⟩
theorem Inv.unpinned {pins pl:List (Addr × Obj)}{σ:St}{H:Hp}{s:Shared} (I:Inv X (pins++pl) σ H s):Inv X pins σ H s:=I.pins_of fun p hp=>I.pin p (List.mem_append_right _ (List.mem_append_left _ hp))
theorem Qa5 {iter : Expr} {body : List Stmt} {wi : TI} {g : TG} {tb : TS} {pos : Pos} (hp : PassesOwn (model X.prog X.w) X.A X.env X.xe) (hc : X.calm = true) (hi : PI X tg iter wi) (hg : PG X tg g) (hb : PSs X body tb)
  (hs:∀ x,foldedSetIterable iter X.env x=pure x:=by intro _;rfl):PS X (.For tg iter body [] pos) (tFor wi g tb):=by
 intro pins s σ H D I h
 refine wpAny_For (thn (hi pins s σ H _ I h) fun v s1 h1=>thn h1 fun itv s2 h2=>?_) hs
 obtain⟨it,fp,tn,J,H2,e,I2,T,st2,f2,W,⟨m0,w0⟩,turn⟩:=h2
 subst e
 have stat:∀ {H':Hp},(∀ b∈fp,H' b=none)->∀ b∈fp,FpOk X pins H' b:=fun hn b hb=>⟨hn b hb,(f2 b hb).2⟩
 refine codeAny_forLoop_any (fun n s'=>∃ i σ' H',Inv X pins σ' H' s'/\tn i s'.heap/\(∀ b∈fp,H' b=none)/\W i n σ' H') ?_ m0 ⟨0,σ,H2,I2,st2,fun b hb=>(f2 b hb).1,w0⟩
 rintro n s3 ⟨i,σ3,H3,I3,st3,fr3,w3⟩
 rcases turn i n σ3 H3 w3 with ⟨stop,qn⟩ | ⟨go,N,hN,step⟩
 ·refine wpAny_passesOwn hp (thn (T.done X rfl rfl rfl hc i pins s3 σ3 H3 X.xe I3 (stat fr3) st3 stop) fun r s4 pq22=>?_)
  obtain⟨hr,I4⟩:=pq22
  subst hr
  exact wpAny_execs_nil ⟨σ3,H3,I4,qn⟩
 ·refine wpAny_passesOwn hp (thn (T.item X rfl rfl rfl hc i pins s3 σ3 H3 X.xe I3 (stat fr3) st3 go) fun r s4 pq23=>?_)
  obtain⟨u,hr,h4⟩:=pq23
  subst hr
  refine wpAny_passesOwn hp (thn h4 fun _ s5 pq24=>?_)
  obtain⟨x,H5,I5,r5,y5,st5,fr5⟩:=pq24
  have I5':=I5.pinned (stat fr5) (T.obj _ _ st5)
  refine wpAny_passesOwn hp (thn (hg _ s5 σ3 H5 x u _ I5' r5 (step x H5 y5)) fun _ s6 pq25=>?_)
  obtain⟨σ6,H6,I6,q6⟩:=pq25
  refine wpAny_passesOwn hp (thn (hb _ s6 σ6 H6 _ I6 q6) fun f s7 q7=>?_)
  have again:∀ {σ7:St}{H7:Hp},Inv X (pins++pinsAt fp s5.heap) σ7 H7 s7->N σ7 H7->∃ m,m < n/\∃ i σ' H',Inv X pins σ' H' s7/\tn i s7.heap/\(∀ b∈fp,H' b=none)/\W i m σ' H':=fun {σ7 H7} I7 n7=>by
   obtain⟨m',hm,w7⟩:=hN σ7 H7 n7
   refine⟨m',hm,i + 1,σ7,H7,I7.unpinned,T.keep _ _ _ st5 fun b hb o e=>(I7.pin (b,o) (List.mem_append_right _ (List.mem_append_right _ (Qa3 hb e)))).1,fun b hb=>?_,w7⟩
   obtain⟨o,e,d⟩:=T.obj _ _ st5 b hb
   exact (I7.pin (b,o) (List.mem_append_right _ (List.mem_append_right _ (Qa3 hb e)))).2.1
  cases f with
  | next=>obtain⟨σ7,H7,I7,n7⟩:=q7;exact again I7 n7
  | cont=>obtain⟨σ7,H7,I7,n7⟩:=q7;exact again I7 n7
  | brk=>obtain⟨σ7,H7,I7,q7⟩:=q7;exact⟨σ7,H7,I7.unpinned,q7⟩
  | ret v=>obtain⟨x7,σ7,H7,I7,r7,q7⟩:=q7;exact⟨x7,σ7,H7,I7.unpinned,r7,q7⟩
end
abbrev R2:=V->V->Hp->VK->Prop
def OpR (X:Cx) (f:Value->Value->Sem Value) (r:R2):Prop:=
 ∀ (pins:List (Addr × Obj)) (s:Shared) (σ:St) (H:Hp) (x y:V) (v u:Value) (Q:VK),Inv X pins σ H s->RelV x v->RelV y u->r x y H Q ->
  wpAny (model X.prog X.w) X.A (f v u) (EP X pins σ Q) X.xe s
def UnR (X:Cx) (f:Value->Sem Value) (r:V->Hp->VK->Prop):Prop:=
 ∀ (pins:List (Addr × Obj)) (s:Shared) (σ:St) (H:Hp) (x:V) (v:Value) (Q:VK),Inv X pins σ H s->RelV x v->r x H Q ->
  wpAny (model X.prog X.w) X.A (f v) (EP X pins σ Q) X.xe s
def CallR (X:Cx) (f:Value) (r:List V->Hp->VK->Prop):Prop:=
 ∀ (pins:List (Addr × Obj)) (s:Shared) (σ:St) (H:Hp) (xs:List V) (us:List Value) (Q:VK),Inv X pins σ H s->Vals xs us->r xs H Q ->
  wpAny (model X.prog X.w) X.A (call f us) (EP X pins σ Q) X.xe s
def TruR (X:Cx) (r:V->Hp->(Bool->Hp->Prop)->Prop):Prop:=
 ∀ (pins:List (Addr × Obj)) (s:Shared) (σ:St) (H:Hp) (x:V) (v:Value) (Q:Bool->Hp->Prop),Inv X pins σ H s->RelV x v->r x H Q ->
  wpAny (model X.prog X.w) X.A (truthy v) (TP X pins σ Q) X.xe s
def tOp (r:R2) (ta tb:TE):TE:=fun σ H Q=>ta σ H fun x H1=>tb σ H1 fun y H2=>r x y H2 Q
def tUn (r:V->Hp->VK->Prop) (ta:TE):TE:=fun σ H Q=>ta σ H fun x H1=>r x H1 Q
def rI (C:Int->Int->Prop) (g:Int->Int->V):R2:=fun x y H Q=>∃ i j,x=.int i/\y=.int j/\C i j/\Q (g i j) H
def rI0 (g:Int->Int->V):R2:=fun x y H Q=>∃ i j,x=.int i/\y=.int j/\Q (g i j) H
def rU (g:Int->V):V->Hp->VK->Prop:=fun x H Q=>∃ i,x=.int i/\Q (g i) H
section
variable {X:Cx}{a b c:Expr}{ta tb tc:TE}{pos:Pos}
theorem binT (ha : PE X a ta) (hb : PE X b tb) {pins : List (Addr × Obj)} {s : Shared} {σ : St} {H : Hp} {R : V -> V -> Hp -> Prop} (I : Inv X pins σ H s)
  (h:ta σ H fun x H1=>tb σ H1 fun y H2=>R x y H2) {Q:Value->Shared->Prop}{f:Value->Value->Sem Value}
  (hf:∀ v u s2 x y H2,Inv X pins σ H2 s2->RelV x v->RelV y u->R x y H2->wpAny (model X.prog X.w) X.A (f v u) Q X.xe s2):
  wpAny (model X.prog X.w) X.A (eval a X.env) (fun v s₁=>wpAny (model X.prog X.w) X.A (eval b X.env) (fun u s₂=>wpAny (model X.prog X.w) X.A (f v u) Q X.xe s₂) X.xe s₁) X.xe s:=by
 refine thn (ha pins s σ H _ I h) fun v s1 pq26=>?_
 obtain⟨x,H1,I1,r1,q1⟩:=pq26
 refine thn (hb pins s1 σ H1 _ I1 q1) fun u s2 pq27=>?_
 obtain⟨y,H2,I2,r2,q2⟩:=pq27
 exact hf v u s2 x y H2 I2 r1 r2 q2
theorem Qa6 {op:Operator}{r:R2} (ho:OpR X (binaryOp op) r) (ha:PE X a ta) (hb:PE X b tb):PE X (.BinOp a op b pos) (tOp r ta tb):=by
 intro pins s σ H Q I h
 exact wpAny_BinOp (binT ha hb I h fun v u s2 x y H2 I2 rx ry q=>ho pins s2 σ H2 x y v u Q I2 rx ry q)
theorem Qa7 {op:UnaryOp}{r:V->Hp->VK->Prop} (ho:UnR X (unaryOp op) r) (ha:PE X a ta):PE X (.UnaryOp op a pos) (tUn r ta):=by
 intro pins s σ H Q I h
 exact UnaryOp_ (thn (ha pins s σ H _ I h) fun v s1 pq28=>by obtain⟨x,H1,I1,r1,q1⟩:=pq28;exact ho pins s1 σ H1 x v Q I1 r1 q1)
theorem opI {f : Value -> Value -> Sem Value} {C : Int -> Int -> Prop} {g : Int -> Int -> Int}
  (rule:∀ (i j:Int) (t u:Tok) (s:Shared) (Q:Value->Shared->Prop) (E:Value->Shared->Prop),C i j->Q (.int (g i j) s.toks) { s with toks:=s.toks + 1 }->wpAny (model X.prog X.w) X.A (f (.int i t) (.int j u)) Q E s):
  OpR X f (rI C fun i j=>.int (g i j)):=by
 intro pins s σ H x y v u Q I rx ry h
 obtain⟨i,j,rfl,rfl,hc,q⟩:=h
 obtain⟨t,rfl⟩:=rx
 obtain⟨t',rfl⟩:=ry
 exact rule i j t t' s _ _ hc ⟨.int (g i j),H,I.tok _,⟨_,rfl⟩,q⟩
theorem opI0 {f : Value -> Value -> Sem Value} {g : Int -> Int -> Int}
  (rule:∀ (i j:Int) (t u:Tok) (s:Shared) (Q:Value->Shared->Prop) (E:Value->Shared->Prop),Q (.int (g i j) s.toks) { s with toks:=s.toks + 1 }->wpAny (model X.prog X.w) X.A (f (.int i t) (.int j u)) Q E s):
  OpR X f (rI0 fun i j=>.int (g i j)):=by
 intro pins s σ H x y v u Q I rx ry h
 obtain⟨i,j,rfl,rfl,q⟩:=h
 obtain⟨t,rfl⟩:=rx
 obtain⟨t',rfl⟩:=ry
 exact rule i j t t' s _ _ ⟨.int (g i j),H,I.tok _,⟨_,rfl⟩,q⟩
theorem opB0 {f : Value -> Value -> Sem Value} {g : Int -> Int -> Bool}
  (rule:∀ (i j:Int) (t u:Tok) (s:Shared) (Q:Value->Shared->Prop) (E:Value->Shared->Prop),Q (.bool (g i j)) s->wpAny (model X.prog X.w) X.A (f (.int i t) (.int j u)) Q E s):
  OpR X f (rI0 fun i j=>.bl (g i j)):=by
 intro pins s σ H x y v u Q I rx ry h
 obtain⟨i,j,rfl,rfl,q⟩:=h
 obtain⟨t,rfl⟩:=rx
 obtain⟨t',rfl⟩:=ry
 exact rule i j t t' s _ _ ⟨.bl (g i j),H,I,rfl,q⟩
def CDiv (i j:Int):Prop:=0 < j/\j < 1073741824
def CPow (i j:Int):Prop:=0<=j/\j<=1000000/\i.natAbs < 2 ^ 64
def CMul (i j:Int):Prop:=(-(2 ^ 64) < i/\i < 2 ^ 64)\/(-(2 ^ 64) < j/\j < 2 ^ 64)
theorem CMul.ok {i j:Int} (h:CMul i j):IntMulOk i j:=by
 rcases h with ⟨h1,h2⟩ | ⟨h1,h2⟩
 ·exact .of_left (intBits_le_64 h1 h2)
 ·exact .of_right (intBits_le_64 h1 h2)
theorem Qa8:OpR X (binaryOp .Add) (rI0 fun i j=>.int (i + j)):=opI0 fun _ _ _ _ _ _ _ q=>add_int q
theorem Qa9:OpR X (binaryOp .Sub) (rI0 fun i j=>.int (i - j)):=opI0 fun _ _ _ _ _ _ _ q=>sub_int q
theorem Qba:OpR X (binaryOp .Mult) (rI CMul fun i j=>.int (i * j)):=opI fun _ _ _ _ _ _ _ hc q=>mul_int q hc.ok
theorem Qbb:OpR X (binaryOp .FloorDiv) (rI CDiv fun i j=>.int (i / j)):=opI fun i j _ _ _ _ _ hc q=>by
 have h1:(0:Int) < j:=hc.1
 have h2:j < 1073741824:=hc.2
 exact floordiv_int (by ac_nf) (by rw[Int.fdiv_eq_ediv_of_nonneg i (by ac_nf)];exact q) (.inl (PyProof.noPylong_small (by ac_nf)))
theorem Qbc:OpR X (binaryOp .Mod) (rI (fun _ j=>0 < j) fun i j=>.int (i % j)):=opI fun i j _ _ _ _ _ hc q=>by
 have h1:(0:Int) < j:=hc
 exact mod_int' (by ac_nf) (by rw[Int.fmod_eq_emod_of_nonneg i (by ac_nf)];exact q)
theorem Qbd:OpR X (binaryOp .Pow) (rI CPow fun i j=>.int (i ^ j.toNat)):=opI fun _ _ _ _ _ _ _ hc q=>pow_int_small hc.1 hc.2.1 hc.2.2 q
theorem unI {f : Value -> Sem Value} {g : Int -> Int}
  (rule:∀ (i:Int) (t:Tok) (s:Shared) (Q:Value->Shared->Prop) (E:Value->Shared->Prop),Q (.int (g i) s.toks) { s with toks:=s.toks + 1 }->wpAny (model X.prog X.w) X.A (f (.int i t)) Q E s):
  UnR X f (rU fun i=>.int (g i)):=by
 intro pins s σ H x v Q I rx h
 obtain⟨i,rfl,q⟩:=h
 obtain⟨t,rfl⟩:=rx
 exact rule i t s _ _ ⟨.int (g i),H,I.tok _,⟨_,rfl⟩,q⟩
theorem Qbe:UnR X (unaryOp .USub) (rU fun i=>.int (-i)):=unI fun _ _ _ _ _ q=>neg_int q
end
section
variable {X:Cx}{a b c:Expr}{ta tb tc:TE}{pos:Pos}
theorem Qbf {pins:List (Addr × Obj)}{σ:St}{H:Hp}{s:Shared}{Q:VK}{k k':Bool} (I:Inv X pins σ H s) (q:Q (.bl k) H) (e:k=k'):EP X pins σ Q (.bool k') s:=by
 subst e
 exact⟨.bl k,H,I,rfl,q⟩
theorem Qbg:OpR X (compareOp .Lt) (rI0 fun i j=>.bl (decide (i < j))):=opB0 fun _ _ _ _ _ _ _ q=>lt_int q
theorem Qbh:OpR X (compareOp .Gt) (rI0 fun i j=>.bl (decide (j < i))):=opB0 fun _ _ _ _ _ _ _ q=>gt_int q
theorem Qbi:OpR X (compareOp .GtE) (rI0 fun i j=>.bl (decide (j<=i))):=opB0 fun _ _ _ _ _ _ _ q=>ge_int q
theorem Qbj:OpR X (compareOp .Is) (fun x y H Q=>y=.non/\Q (.bl (decide (x=.non))) H):=by
 intro pins s σ H x y v u Q I rx ry h
 obtain⟨rfl,q⟩:=h
 cases ry
 refine is_none_gen (Qbf I q ?_)
 cases x<;>first
  | (cases rx;rfl)
  | (obtain⟨t,rfl⟩:=rx;rfl)
theorem Qbk:OpR X (compareOp .IsNot) (fun x y H Q=>y=.non/\Q (.bl (!decide (x=.non))) H):=by
 intro pins s σ H x y v u Q I rx ry h
 obtain⟨rfl,q⟩:=h
 cases ry
 refine isnot_none_gen (Qbf I q ?_)
 cases x<;>first
  | (cases rx;rfl)
  | (obtain⟨t,rfl⟩:=rx;rfl)
theorem Qbl (b:Expr) {op:CmpOp} (h:op≠.In:=by decide) (h2:op≠.NotIn:=by decide):behindInMarks op b=false:=by
 have e1:(op == CmpOp.In)=false:=by cases op<;>first | rfl | exact absurd rfl h
 have e2:(op == CmpOp.NotIn)=false:=by cases op<;>first | rfl | exact absurd rfl h2
 cases b<;>simp[behindInMarks,e1,e2]
theorem Qbm {op:CmpOp}{r:R2} (ho:OpR X (compareOp op) r) (ha:PE X a ta) (hb:PE X b tb) (hm:behindInMarks op b=false):PE X (.Compare a [op] [b] pos) (tOp r ta tb):=by
 intro pins s σ H Q I h
 exact wpAny_Compare1 (binT ha hb I h fun v u s2 x y H2 I2 rx ry q=>ho pins s2 σ H2 x y v u Q I2 rx ry q) hm
def tTest (t:TE):TT:=fun σ H Q=>t σ H fun x H'=>∃ k,x=.bl k/\Q k H'
theorem Qbn {op:CmpOp}{r:R2} (ho:OpR X (compareOp op) r) (ha:PE X a ta) (hb:PE X b tb) (hm:behindInMarks op b=false):PT X (.Compare a [op] [b] pos) (tTest (tOp r ta tb)):=by
 intro pins s σ H Q I h
 refine wpAny_isTrue_Compare1 (thn (ha pins s σ H _ I h) fun v s1 ⟨x,H1,I1,r1,q1⟩=>thn (hb pins s1 σ H1 _ I1 q1) fun u s2 ⟨y,H2,I2,r2,q2⟩=>
  thn (ho pins s2 σ H2 x y v u _ I2 r1 r2 q2) fun c s3 ⟨z,H3,I3,r3,k,e,q3⟩=>?_) hm
 subst e
 cases r3
 exact wpAny_truthy_bool ⟨H3,I3,q3⟩
def TruV (K:PySem.W.Frag) (x:V) (H:Hp) (k:Bool):Prop:=
 match x with
 | .non=>k=false
 | .bl b=>k=b
 | .int i=>k=(i != 0)
 | .str y=>y.length<=sizeLine/\k=((y.length:Int) != 0)
 | .byt y=>y.size<=sizeLine/\k=((y.size:Int) != 0)
 | .ref p=>(∃ xs,SqL K H p xs/\k = !xs.isEmpty)\/(∃ xs,SqT K H p xs/\k = !xs.isEmpty)\/∃ kvs,H p=some (.dK kvs)/\k = !kvs.isEmpty
 | _=>False
theorem Qbo {κ:Type}{kvs:List (κ × V)}{vs:List (κ × Value)} (r:KV kvs vs):(!vs.isEmpty) = !kvs.isEmpty:=by
 cases r<;>rfl
theorem Qbp {xs:List V}{its:List Value} (r:Vals xs its):(!its.toArray.isEmpty) = !xs.isEmpty:=by
 cases r<;>simp
theorem Qbq:(sizeLine:Nat) < 2 ^ 63:=by rw[sizeLine_eq];decide
theorem Qbr:TruR X (fun x H Q=>∃ k,TruV X.K x H k/\Q k H):=by
 intro pins s σ H x v Q I rx h
 obtain⟨k,e,q⟩:=h
 have hl:=Qbq
 have hs:sizeLine=16777216:=sizeLine_eq
 cases x with
 | non=>
  cases rx
  have e':k=false:=e
  subst e'
  exact truthy_none ⟨H,I,q⟩
 | bl b=>
  cases rx
  have e':k=b:=e
  subst e'
  exact wpAny_truthy_bool ⟨H,I,q⟩
 | int i=>
  obtain⟨t,rfl⟩:=rx
  have e':k=(i != 0):=e
  subst e'
  exact PySem.P.truthy_int ⟨H,I,q⟩
 | str y=>
  obtain⟨t,rfl⟩:=rx
  obtain⟨hy,e'⟩:y.length<=sizeLine/\k=((y.length:Int) != 0):=e
  subst e'
  exact PySem.P.truthy_str (by ac_nf) ⟨H,I.tok _,q⟩
 | byt y=>
  obtain⟨t,rfl⟩:=rx
  obtain⟨hy,e'⟩:y.size<=sizeLine/\k=((y.size:Int) != 0):=e
  subst e'
  exact PySem.W.truthy_bytes (by ac_nf) ⟨H,I.tok _,q⟩
 | ref p=>
  cases rx
  have e':(∃ xs,SqL X.K H p xs/\k = !xs.isEmpty)\/(∃ xs,SqT X.K H p xs/\k = !xs.isEmpty)\/∃ kvs,H p=some (.dK kvs)/\k = !kvs.isEmpty:=e
  rcases e' with ⟨xs,hx,e'⟩ | ⟨xs,hx,e'⟩ | ⟨kvs,hx,e'⟩
  ·subst e'
   obtain⟨its,r,pl,hz⟩:=I.list hx
   have hlen:=r.length
   exact wpAny_truthy_list pl.isList (by simp only[List.size_toArray];ac_nf) ⟨H,I.tok _,by rw[Qbp r];exact q⟩
  ·subst e'
   obtain⟨its,r,pl,hz⟩:=I.tuple hx
   have hlen:=r.length
   exact truthy_tuple pl (by simp only[List.size_toArray];ac_nf) ⟨H,I.tok _,by rw[Qbp r];exact q⟩
  ·subst e'
   obtain⟨hz,hS,vs,r,m⟩:kvs.length<=sizeLine/\(p == sysModules)=false/\∃ vs,KV kvs vs/\s.heap.DictOf (mixKind X.prog X.w) p vs:=I.hok p _ hx
   have hlen:kvs.length=vs.length:=Paired.length r
   exact wpAny_truthy_dict hS m (by ac_nf) ⟨H,I.tok _,by rw[Qbo r];exact q⟩
 | _=>exact (show False from e).elim
theorem Qbs (ha : PE X a ta) (he : ∀ whole, isTrue a X.env whole = (do let v <- whole; standAt a.pos; holding [v] (truthy v))) :
  PT X a (fun σ H Q=>ta σ H fun x H'=>∃ k,TruV X.K x H' k/\Q k H'):=by
 intro pins s σ H Q I h
 exact isTrue_plain (thn (ha pins s σ H _ I h) fun v s1 pq29=>by obtain⟨x,H1,I1,r1,q1⟩:=pq29;exact Qbr pins s1 σ H1 x v Q I1 r1 q1) (he _)
theorem Qbt:OpR X (binaryOp .Add) (fun x y H Q=>∃ i j,x=.str i/\y=.str j/\i.length + j.length<=sizeLine/\Q (.str (i++j)) H):=by
 intro pins s σ H x y v u Q I rx ry h
 obtain⟨i,j,rfl,rfl,hz,q⟩:=h
 obtain⟨t,rfl⟩:=rx
 obtain⟨t',rfl⟩:=ry
 exact add_str (fun t' tk=>⟨.str (i++j),H,I.tok _,⟨_,rfl⟩,q⟩) hz
theorem Qbu {x:V}{us:List Value} (r:Vals [x] us):∃ u,us=[u]/\RelV x u:=by
 cases r with
 | cons r1 r2=>cases r2;exact⟨_,rfl,r1⟩
theorem Qbv {x y:V}{us:List Value} (r:Vals [x,y] us):∃ u w',us=[u,w']/\RelV x u/\RelV y w':=by
 cases r with
 | cons r1 r2=>
  cases r2 with
  | cons r3 r4=>cases r4;exact⟨_,_,rfl,r1,r3⟩
theorem Qbw (hc:X.calm=true):CallR X (.builtin "min") (fun xs H Q=>∃ i j,xs=[.int i,.int j]/\Q (.int (if j < i then j else i)) H):=by
 intro pins s σ H xs us Q I r h
 obtain⟨i,j,rfl,q⟩:=h
 obtain⟨u,w',rfl,⟨t,rfl⟩,⟨t',rfl⟩⟩:=Qbv r
 refine min_two_ints (I.ok.hd hc) fun h' tk k=>⟨_,H,I.kept k,?_,q⟩
 by_cases hj:j < i
 ·rw[if_pos hj,if_pos hj];exact⟨_,rfl⟩
 ·rw[if_neg hj,if_neg hj];exact⟨_,rfl⟩
theorem Qbx:CallR X (.type "int") (fun xs H Q=>(∃ i,xs=[.int i]/\Q (.int i) H)\/∃ k,xs=[.bl k]/\Q (.int (if k then 1 else 0)) H):=by
 intro pins s σ H xs us Q I r h
 rcases h with ⟨i,rfl,q⟩ | ⟨k,rfl,q⟩
 ·obtain⟨u,rfl,t,rfl⟩:=Qbu r
  exact call_int_int ⟨.int i,H,I,⟨_,rfl⟩,q⟩
 ·obtain⟨u,rfl,r1⟩:=Qbu r
  cases r1
  exact call_int_bool ⟨.int (if k then 1 else 0),H,I.tok _,⟨_,rfl⟩,q⟩
end
theorem RelO.some_of {v:V}{o:Option Value} (r:RelO (some v) o):∃ u,o=some u/\RelV v u:=by
 cases o with
 | none=>exact (show False from r).elim
 | some u=>exact⟨u,rfl,r⟩
section
variable {X:Cx}{o e value:Expr}{f:Str}{pos pos' tpos:Pos}{ta tv:TE}
def rSub:V->V->Hp->VK->Prop:=fun x y H Q=>∃ i j,x=.int i/\y=.int j/\Q (.int (i - j)) H
end
structure Room (k:Nat) (A:Around):Prop where
 hd:A.handled=none
 dp:A.depth + 3 * k + 5 < recursionLimit
 un:A.units + 16 * k + 200 < cLine
theorem Room.mono {j k:Nat}{A:Around} (r:Room k A) (h:j<=k):Room j A:=⟨r.hd,by have:=r.dp;ac_nf,by have:=r.un;ac_nf⟩
theorem Room.deeper {k:Nat}{A:Around} (r:Room (k + 1) A) (env:Env):Room k (A.deeper env):=
 ⟨r.hd,by have:=r.dp;show A.depth + 1 + 3 * k + 5 < _;ac_nf,by have:=r.un;show A.units + 3 + 16 * k + 200 < _;ac_nf⟩
theorem Room.depth {k:Nat}{A:Around} (r:Room k A):A.depth < recursionLimit:=by have:=r.dp;ac_nf
theorem Room.units {k:Nat}{A:Around} (r:Room k A):A.units + 64 < cLine:=by have:=r.un;ac_nf
def tNil:TA:=fun _ H Q=>Q [] H
def tCons (ta:TE) (tr:TA):TA:=fun σ H Q=>ta σ H fun x H1=>tr σ H1 fun xs H2=>Q (x::xs) H2
section
variable {X:Cx}{e:Expr}{es:List Expr}{te:TE}{t:TA}{pos:Pos}
theorem QbA:PA X [] tNil:=fun _ _ _ _ H Q I h=>Calls.spliced_nil ⟨[],H,I,.nil,h⟩
theorem QbB (ha:PE X e te) (hr:PA X es t) (hs:starEach (e::es) X.env=(false,eval e X.env)::starEach es X.env:=by rfl):PA X (e::es) (tCons te t):=by
 intro pos pins s σ H Q I h
 rw[hs]
 show wpAny _ _ (spliced ((false,eval e X.env)::backTo pos (starEach es X.env))) _ _ s
 refine Calls.spliced_cons (thn (ha pins s σ H _ I h) fun u s1 pq30=>?_)
 obtain⟨x,H1,I1,r1,q1⟩:=pq30
 exact thn (hr pos pins s1 σ H1 _ I1 q1) fun us s2 pq31=>by obtain⟨xs,H2,I2,r2,q2⟩:=pq31;exact⟨x::xs,H2,I2,.cons r1 r2,q2⟩
def tTup (t:TA):TE:=fun σ H Q=>t σ H fun xs H1=>xs.length<=sizeLine/\∀ p,H1 p=none->Q (.ref p) (upd H1 p (.tup xs))
def tLst (t:TA):TE:=fun σ H Q=>t σ H fun xs H1=>xs.length<=sizeLine/\∀ p,H1 p=none->Q (.ref p) (upd H1 p (.lst xs))
theorem QbC {x1} (h:PA X es t):PE X (.Tuple es x1 pos) (tTup t):=by
 intro pins s σ H Q I hq
 refine wpAny_Tuple_spliced (thn (h pos pins s σ H _ I hq) fun us s1 ⟨xs,H1,I1,r,z,q⟩=>⟨by rw[<- r.length];exact z,?_⟩)
 have hf:H1 s1.heap.objs.size=none:=I1.hok.fresh (Nat.le_refl _)
 refine⟨.ref s1.heap.objs.size,upd H1 s1.heap.objs.size (.tup xs),I1.laid (t':=s1.toks) (fun b u e=>Heap.get?_push_of_some _ e) (Nat.le_refl _) ?_,rfl,q _ hf⟩
 exact⟨z,us,r,⟨_,Heap.get?_push_size _ rfl,rfl,_,rfl⟩⟩
theorem QbD (h:PA X es t):PE X (.List es pos) (tLst t):=by
 intro pins s σ H Q I hq
 refine wpAny_List_spliced (thn (h pos pins s σ H _ I hq) fun us s1 ⟨xs,H1,I1,r,z,q⟩=>⟨by rw[<- r.length];exact z,?_⟩)
 have hf:H1 s1.heap.objs.size=none:=I1.hok.fresh (Nat.le_refl _)
 refine⟨.ref s1.heap.objs.size,upd H1 s1.heap.objs.size (.lst xs),I1.laid (t':=s1.toks) (fun b u e=>Heap.get?_push_of_some _ e) (Nat.le_refl _) ?_,rfl,q _ hf⟩
 exact⟨z,us,0,r,Heap.get?_push_size _ rfl⟩
end
abbrev Sp:=List V->Hp->VK->XK->Prop
abbrev CXT:=List Env->Hp->Shared->XK->Value->Shared->Prop
structure Env0 (P:Program) (w:World) (K:PySem.W.Frag) (mg:Str->Option Value) (base:Heap) (A:Around) (outer:List Env) (s:Shared) (H:Hp):Prop where
 frames:A.frames=some outer
 mod:Mod K mg base
 bs:∀ b o,base.get? b=some o->s.heap.get? b=some o/\H b=none
 bsz:base.objs.size<=s.heap.objs.size
 funs:s.heap.FunFrames base outer
 frf:∀ b∈frs outer,H b=none
 hok:HOk P w H s.heap
 bare:AllBare s.gens
def CE (outer:List Env) (P:Program) (w:World) (H:Hp) (s:Shared) (Q:VK) (u:Value) (s':Shared):Prop:=
 ∃ v H',s'.os=s.os/\AllBare s'.gens/\Un (frs outer) [] H H' s.heap s'.heap/\HOk P w H' s'.heap/\RelV v u/\Q v H'
def CR (CX:CXT) (outer:List Env) (P:Program) (w:World) (H:Hp) (s:Shared) (Q:VK) (E:XK) (r:Result) (s':Shared):Prop:=
 match r with
 | .ok (.ret u)=>CE outer P w H s Q u s'
 | .ok _=>False
 | .error e=>CX outer H s E e s'
structure FnOk (P:Program) (w:World) (K:PySem.W.Frag) (mg:Str->Option Value) (base:Heap) (CX:CXT) (k:Nat) (f:Addr) (fd:FuncData) (ps:List Str) (sp:Sp):Prop where
 len:∀ vs H Q E,sp vs H Q E->vs.length=ps.length
 run:∀ (A:Around) (outer:List Env) (s:Shared) (H:Hp) (args:Args) (us:List Value) (vs:List V) (Q:VK) (E:XK),Room k A->Env0 P w K mg base A outer s H->BindsTo s fd args (ps.zip us)->Vals vs us->sp vs H Q E ->
  codeAny (model P w) A (.call (.ref f) args) (CR CX outer P w H s Q E) s
section
variable {X:Cx}{pins:List (Addr × Obj)}{σ:St}{H:Hp}{s s':Shared}
theorem Inv.env0 (I:Inv X pins σ H s):Env0 X.prog X.w X.K X.mg X.base X.A X.stack s H:=
 ⟨I.ok.frames,I.ok.mod,I.bs,Nat.le_trans I.ok.bsz I.sz,I.stack,I.stkFree,I.hok,I.bare⟩
theorem Inv.after {Q:VK}{u:Value} (I:Inv X pins σ H s) (h:CE X.stack X.prog X.w H s Q u s'):EP X pins σ Q u s':=by
 obtain⟨v,H',os,bare,un,hok,r,q⟩:=h
 obtain⟨hh,g,d,t,os'⟩:=s'
 obtain rfl:os'=s.os:=os
 exact⟨v,H',I.call (h':=hh) (g':=g) (d':=d) (t':=t) (ch:=[]) un hok bare (fun b z=>absurd z (by simp)),r,q⟩
end
def tCall (sp:Sp) (dvs:List V) (E:XK) (t:TA):TE:=fun σ H Q=>t σ H fun vs H1=>sp (vs++dvs) H1 Q E
def Binds (K:PySem.W.Frag) (fd:FuncData) (ps:List Str) (ds:List Value):Prop:=
 ∀ (s:Shared) (us:List Value),K.In s.heap->(us++ds).length=ps.length->BindsTo s fd ⟨us,[]⟩ (ps.zip (us++ds))
theorem Binds.all {K:PySem.W.Frag}{fd:FuncData}{ps:List Str} (h:∀ us:List Value,us.length=ps.length->bindArgs fd ⟨us,[]⟩=pure (ps.zip us)):Binds K fd ps []:=fun s us _ hl=>by
 rw[List.append_nil]at hl ⊢
 exact .of_eq (h us hl)
def Passes (CX:CXT) (X:Cx) (E:XK):Prop:=∀ (pins:List (Addr × Obj)) (σ:St) (H:Hp) (s:Shared) (e:Value) (s':Shared),Inv X pins σ H s->CX X.stack H s E e s'->X.xe e s'
section
variable {X:Cx}{CX:CXT}{k:Nat}{f C:Addr}{fd:FuncData}{ps:List Str}{sp:Sp}{dvs:List V}{ds:List Value}{E:XK}{x m:Str}{p pos apos:Pos}{e o:Expr}{es:List Expr}{ta:TE}{t:TA}
theorem QbE {pins : List (Addr × Obj)} {σ : St} {H : Hp} {s : Shared} {Q : VK} {us : List Value} {vs : List V} (F : FnOk X.prog X.w X.K X.mg X.base CX k f fd ps sp) (hr : Room k X.A) (hb : Binds X.K fd ps ds) (hd : Vals dvs ds) (hx : Passes CX X E)
  (I:Inv X pins σ H s) (r:Vals vs us) (h:sp (vs++dvs) H Q E):wpAny (model X.prog X.w) X.A (call (.ref f) us) (EP X pins σ Q) X.xe s:=by
 have r2:Vals (vs++dvs) (us++ds):=r.append hd
 have hl:(us++ds).length=ps.length:=by rw[<- r2.length];exact F.len _ _ _ _ h
 refine wpAny_call (codeAny_mono (F.run X.A X.stack s H ⟨us,[]⟩ (us++ds) (vs++dvs) Q E hr I.env0 (hb s us I.kIn hl) r2 h) fun r s' hq=>?_)
 cases r with
 | error e=>exact hx pins σ H s e s' I hq
 | ok fl=>
  cases fl with
  | ret u=>exact I.after hq
  | next=>exact False.elim hq
  | brk=>exact False.elim hq
  | cont=>exact False.elim hq
theorem QbF (F : FnOk X.prog X.w X.K X.mg X.base CX k f fd ps sp) (hr : Room k X.A) (hg : Gl X x) (hm : X.mg x = some (.ref f)) (hk : PySem.W.keepIn X.K (.ref f) = true) (hb : Binds X.K fd ps ds) (hd : Vals dvs ds) (hx : Passes CX X E)
  (ha:PA X (e::es) t) (hdb:(x == ("__debug__":Str))=false:=by decide) (he:starEach (e::es) X.env=(false,eval e X.env)::starEach es X.env:=by rfl) (hpl:(backTo pos (starEach es X.env)).any (·.1)=false:=by rfl):
  PE X (.Call (.Name x p) (e::es) [] pos) (tCall sp dvs E t):=by
 intro pins s σ H Q I h
 refine wpAny_Call_Name_kw (Qax I hg hm ?_ hdb)
 refine PySem.W.callWith_K (h₀:=X.base) I.ok.mod.kin hk (thn (ha pos pins s σ H _ I h) fun us s1 ⟨vs,H1,I1,r,q⟩=>⟨I1.kIn,?_⟩) he hpl
 exact QbE F hr hb hd hx I1 r q
end
section
variable {X:Cx}{CX:CXT}{k:Nat}{f C:Addr}{fd:FuncData}{ps ks:List Str}{sp:Sp}{E:XK}{x m:Str}{p pos apos kpos:Pos}{e o:Expr}{es:List Expr}{kws:List Keyword}{te ta:TE}{t tk:TA}{nm:Option Str}
variable {g:List Value->List Value->List Value}{gV:List V->List V->List V}
end
structure FnScope (N P:List Str) (sc:Scope):Prop where
 kind:sc.kind=.function
 co:sc.isCoroutine=false
 gen:sc.isGenerator=false
 nd:N.Nodup
 pre:N.take P.length=P
 par:∀ x∈P,sc.names.lookup x=some .local\/sc.names.lookup x=some .cell
 nofree:∀ y∈sc.names,y.2≠.free
theorem QbG {kindOf:Str->Option NameKind}{x:Str}:∀ {binds:List (Str × Value)}{m:Str->Option Value},(∀ v,(x,v)∉binds)->bindL kindOf binds m x=m x
 | [],_,_=>rfl
 | (n,v)::r,m,h=>by
  unfold bindL
  rw[QbG fun w hw=>h w (List.mem_cons_of_mem _ hw)]
  split
  ·have:x≠n:=by rintro rfl;exact h v List.mem_cons_self
   simp[this]
  ·rfl
theorem QbH {kindOf:Str->Option NameKind}{x:Str}:∀ {binds:List (Str × Value)}{m:Str->Option Value},(∀ v,(x,v)∉binds)->bindC kindOf binds m x=m x
 | [],_,_=>rfl
 | (n,v)::r,m,h=>by
  unfold bindC
  rw[QbH fun w hw=>h w (List.mem_cons_of_mem _ hw)]
  split
  ·rfl
  ·have:x≠n:=by rintro rfl;exact h v List.mem_cons_self
   simp[this]
theorem QbI {kindOf : Str -> Option NameKind} {x : Str} {v : Value} : ∀ {P : List Str} {vs : List Value} {i : Nat} {m : Str -> Option Value}, P.Nodup -> P[i]? = some x -> vs[i]? = some v -> kindOf x = some .local ->
  bindL kindOf (P.zip vs) m x=some v
 | [],_,_,_,_,h,_,_=>by simp at h
 | _::_,[],_,_,_,_,h,_=>by simp at h
 | p::P,w::vs,0,m,nd,h1,h2,hk=>by
  simp at h1 h2;subst h1;subst h2
  show bindL kindOf ((p,w)::P.zip vs) m p=_
  unfold bindL
  rw[QbG fun v hv=>(List.nodup_cons.mp nd).1 (List.of_mem_zip hv).1,if_pos hk]
  simp
 | p::P,w::vs,i + 1,m,nd,h1,h2,hk=>by
  show bindL kindOf ((p,w)::P.zip vs) m x=_
  unfold bindL
  exact QbI (i:=i) (List.nodup_cons.mp nd).2 (by simpa using h1) (by simpa using h2) hk
theorem QbJ {kindOf : Str -> Option NameKind} {x : Str} {v : Value} : ∀ {P : List Str} {vs : List Value} {i : Nat} {m : Str -> Option Value}, P.Nodup -> P[i]? = some x -> vs[i]? = some v -> kindOf x ≠ some .local ->
  bindC kindOf (P.zip vs) m x=some v
 | [],_,_,_,_,h,_,_=>by simp at h
 | _::_,[],_,_,_,_,h,_=>by simp at h
 | p::P,w::vs,0,m,nd,h1,h2,hk=>by
  simp at h1 h2;subst h1;subst h2
  show bindC kindOf ((p,w)::P.zip vs) m p=_
  unfold bindC
  rw[QbH fun v hv=>(List.nodup_cons.mp nd).1 (List.of_mem_zip hv).1,if_neg hk]
  simp
 | p::P,w::vs,i + 1,m,nd,h1,h2,hk=>by
  show bindC kindOf ((p,w)::P.zip vs) m x=_
  unfold bindC
  exact QbJ (i:=i) (List.nodup_cons.mp nd).2 (by simpa using h1) (by simpa using h2) hk
def start (N:List Str) (vs:List V):St:=vs.map some++List.replicate (N.length - vs.length) none
def cxOf (CX:CXT) (P:Program) (w:World) (K:PySem.W.Frag) (mg:Str->Option Value) (base:Heap) (N:List Str) (qual:Str) (scope:Scope) (f:Addr) (cd:Value) (A:Around) (outer:List Env) (s:Shared) (H:Hp) (E:XK):Cx where
 prog:=P
 w:=w
 K:=K
 mg:=mg
 base:=base
 A:=A.deeper (envOfC qual scope s.heap.objs.size f cd)
 N:=N
 s₀:=s
 H₀:=H
 env:=envOfC qual scope s.heap.objs.size f cd
 outer:=outer
 stack:=envOfC qual scope s.heap.objs.size f cd::outer
 ex:=[]
 calm:=true
 fn:=fun _=>true
 pn:=[]
 xe:=fun e s'=>wpAny (model P w) (A.deeper (envOfC qual scope s.heap.objs.size f cd)) (leaving (envOfC qual scope s.heap.objs.size f cd) e) (fun _ s''=>CX outer H s E e s'') (fun e' s''=>CX outer H s E e' s'') s'
theorem QbK {sc:Scope}{n:Nat}{x:Str} (h:sc.names.lookup x=some .cell):∃ c,(cellsFrom n sc.names []).lookup x=some c:=by
 have q:=PySem.W.cellsFrom_some sc.names n [] (.inl h)
 exact Option.isSome_iff_exists.mp q
theorem QbL {CX : CXT} {P : Program} {w : World} {K : PySem.W.Frag} {mg : Str -> Option Value} {base : Heap} {N ps : List Str} {qual : Str} {scope : Scope} {f : Addr} {cd : Value} {A : Around} {outer : List Env} {s s1 : Shared} {H : Hp} {E : XK} {us : List Value} {vs : List V}
  (S:FnScope N ps scope) (hd:A.handled=none) (e0:Env0 P w K mg base A outer s H) (hl:vs.length=ps.length) (r:Vals vs us)
  (x:InCallC s s.heap.objs.size (bindL (envOfC qual scope s.heap.objs.size f cd).kindOf (ps.zip us) fun _=>none) (cellsFrom (s.heap.objs.size + 1) scope.names []) (bindC (envOfC qual scope s.heap.objs.size f cd).kindOf (ps.zip us) fun _=>none) s1):
  Inv (cxOf CX P w K mg base N qual scope f cd A outer s H E) [] (start N vs) H s1:=by
 have hpl:ps.length<=N.length:=by have:=congrArg List.length S.pre;rw[List.length_take]at this;ac_nf
 obtain⟨h1,tk,rfl,hk⟩:=x.done
 have noA:∀ b:Addr,b∉(cxOf CX P w K mg base N qual scope f cd A outer s H E).ex:=fun b z=>absurd (show b∈([]:List Addr) from z) (by simp)
 refine⟨⟨e0.mod,S.kind,rfl,rfl,Nat.le_refl _,fun y z c h1 h2=>?_,fun y hy=>?_,fun y c _ h=>?_,fun _=>hd,Around.frames_deeper e0.frames,.inr ⟨rfl,rfl⟩,fun b z=>absurd z (noA b),e0.bs,e0.bsz,fun b _ _=>noA b,fun b z=>absurd z (noA b),e0.funs,e0.frf⟩,
  rfl,e0.bare,Un.kept hk,⟨_,x.toInCall.ns,fun i y v h1 h2 h3=>?_⟩,fun y c h=>⟨_,x.cell y c h⟩,e0.hok.fresh (Nat.le_refl _),fun y c h=>?_,fun p hp=>absurd (show p∈([]:List (Addr × Obj)) from hp) (by simp),e0.hok.kept hk,?_⟩
 ·exact name_of_addr x.apart (PySem.mem_of_lookup h1) (PySem.mem_of_lookup h2)
 ·have hy:scope.names.lookup y=some .cell\/scope.names.lookup y=some .free:=hy
  rcases hy with hy | hy
  ·exact QbK hy
  ·exact absurd rfl (S.nofree _ (PySem.mem_of_lookup hy))
 ·exact Nat.le_of_lt (x.above y c (PySem.mem_of_lookup h))
 ·have hi : i < vs.length := by
    unfold start at h2
    by_cases hi:i < vs.length
    ·exact hi
    ·rw[List.getElem?_append_right (by simpa using hi)]at h2
     rw[List.getElem?_replicate]at h2
     split at h2<;>cases h2
  have ha:vs[i]?=some v:=by
   unfold start at h2
   rw[List.getElem?_append_left (by simpa using hi),List.getElem?_map]at h2
   cases e:vs[i]? with
   | none=>rw[e]at h2;cases h2
   | some a=>rw[e]at h2;cases h2;rfl
  obtain⟨u,hu,rv⟩:=r.get ha
  have hp:ps[i]?=some y:=by
   rw[<- S.pre,List.getElem?_take_of_lt (by ac_nf)];exact h1
  have ndP:ps.Nodup:=by rw[<- S.pre];exact S.nd.sublist (List.take_sublist _ _)
  refine⟨u,rv,?_⟩
  rcases S.par y (List.mem_of_getElem? hp) with k | k
  ·exact .inl ⟨k,QbI ndP hp hu k⟩
  ·obtain⟨c,e⟩:=QbK (n:=s.heap.objs.size + 1) k
   refine .inr ⟨.inl k,c,e,?_⟩
   have q:=x.cell y c e
   rw[QbJ ndP hp hu (by show scope.names.lookup y≠_;rw[k];decide)]at q
   exact q
 ·exact e0.hok.fresh (Nat.le_of_lt (x.above y c (PySem.mem_of_lookup h)))
 ·unfold start
  show _=N.length
  rw[List.length_append,List.length_map,List.length_replicate]
  ac_nf
theorem QbM {CX : CXT} {P : Program} {w : World} {K : PySem.W.Frag} {mg : Str -> Option Value} {base : Heap} {k : Nat} {f : Addr} {name qual : Str} {params : Arguments} {body : List Stmt} {scope : Scope} {dV kV doc pm cdv ct oc : Value} {an od : Option Addr}
  {osl:Array (Option Value)}{N ps:List Str}{sp:Sp} (lk:K.lookup f=some ⟨oc,od,.func (PySem.W.fnOf name qual params body scope dV kV doc pm an cdv ct),osl⟩) (hcd:PySem.W.codeIn K cdv qual=true) (S:FnScope N ps scope)
  (len:∀ vs H Q E,sp vs H Q E->vs.length=ps.length)
  (hbody:∀ (A:Around) (outer:List Env) (s:Shared) (H:Hp) (vs:List V) (Q:VK) (E:XK),Room k (A.deeper (envOfC qual scope s.heap.objs.size f cdv))->sp vs H Q E ->
   ∃ t,PSs (cxOf CX P w K mg base N qual scope f cdv A outer s H E) body t/\t { nx:=fun _ H'=>Q .non H',rt:=Q } (start N vs) H):
  FnOk P w K mg base CX (k + 1) f (PySem.W.fnOf name qual params body scope dV kV doc pm an cdv ct) ps sp:=by
 refine⟨len,fun A outer s H args us vs Q E hr e0 hb r hsp=>?_⟩
 have hl:=len _ _ _ _ hsp
 have KX:K.In s.heap:=e0.mod.kin.keeps fun b o e=>(e0.bs b o e).1
 have lim:s.heap.NoLimit:=e0.mod.nolimit.keeps fun b o e=>(e0.bs b o e).1
 have hkind:∀ y∈ps.zip us,scope.names.lookup y.1=some .local\/(scope.names.lookup y.1=some .cell/\((cellsFrom (s.heap.objs.size + 1) scope.names []).lookup y.1).isSome=true):=fun pq35 hy=>by
  obtain⟨n,v⟩:=pq35
  rcases S.par n (List.of_mem_zip hy).1 with q | q
  ·exact .inl q
  ·exact .inr ⟨q,PySem.W.cellsFrom_some _ _ _ (.inl q)⟩
 refine codeAny_call_function hr.depth (KX _ _ lk) rfl S.co S.gen rfl (PySem.W.codeRec_of KX hcd) (hb _ _ _ _ ?_)
 refine wpAny_newFunctionEnv_cells S.kind hkind fun env he s1 x=>?_
 subst he
 refine⟨lim.keeps x.toInCall.keep,codeAny_func ?_⟩
 obtain⟨t,ht,hq⟩:=hbody A outer s H vs Q E (hr.deeper _) hsp
 have I:Inv (cxOf CX P w K mg base N qual scope f cdv A outer s H E) [] (start N vs) H s1:=QbL S hr.hd e0 hl r x
 refine wpAny_mono (ht [] s1 (start N vs) H _ I hq) (fun fl s' hs=>?_) fun e s' hs=>hs
 have fin:∀ {σ':St}{H':Hp}{v:V}{u:Value},Inv (cxOf CX P w K mg base N qual scope f cdv A outer s H E) [] σ' H' s'->RelV v u->Q v H'->CE outer P w H s Q u s':=
  fun {σ' H' v u} J rv q=>⟨v,H',J.os,J.bare,J.base,J.hok,rv,q⟩
 cases fl with
 | ret u=>
  obtain⟨v,σ',H',J,rv,q⟩:=hs
  exact fin J rv q
 | next=>
  obtain⟨σ',H',J,q⟩:=hs
  exact fin (v:=V.non) (u:=Value.none) J rfl q
 | brk=>
  obtain⟨_,_,_,q⟩:=hs
  exact False.elim q
 | cont=>
  obtain⟨_,_,_,q⟩:=hs
  exact False.elim q
section
variable {X:Cx}{x:Str}{p pos:Pos}{e:Expr}{es:List Expr}{t:TA}{id T:String}{r:List V->Hp->VK->Prop}
def tCB (r:List V->Hp->VK->Prop) (t:TA):TE:=fun σ H Q=>t σ H fun vs H1=>r vs H1 Q
theorem QbN (hc : CallR X (.builtin id) r) (hg : Gl X x) (hm : X.mg x = none) (hv : bootBuiltins x = some (.builtin id)) (ha : PA X (e :: es) t) (hn : x ≠ "__name__" := by decide) (hdb : (x == ("__debug__" : Str)) = false := by decide)
  (he:starEach (e::es) X.env=(false,eval e X.env)::starEach es X.env:=by rfl) (hpl:(backTo pos (starEach es X.env)).any (·.1)=false:=by rfl):PE X (.Call (.Name x p) (e::es) [] pos) (tCB r t):=by
 intro pins s σ H Q I h
 refine wpAny_Call_Name_kw (Qay I hg hm hv ?_ hn hdb)
 exact PyProof.Rows.callWith_builtin1 (thn (ha pos pins s σ H _ I h) fun us s1 pq36=>by obtain⟨vs,H1,I1,r1,q1⟩:=pq36;exact hc pins s1 σ H1 vs us Q I1 r1 q1) he hpl
theorem QbO (hc : CallR X (.type T) r) (hg : Gl X x) (hm : X.mg x = none) (hv : bootBuiltins x = some (.type T)) (ha : PA X (e :: es) t) (hn : x ≠ "__name__" := by decide) (hdb : (x == ("__debug__" : Str)) = false := by decide)
  (he:starEach (e::es) X.env=(false,eval e X.env)::starEach es X.env:=by rfl) (hpl:(backTo pos (starEach es X.env)).any (·.1)=false:=by rfl):PE X (.Call (.Name x p) (e::es) [] pos) (tCB r t):=by
 intro pins s σ H Q I h
 refine wpAny_Call_Name_kw (Qay I hg hm hv ?_ hn hdb)
 exact PyProof.Rows.callWith_type1 (thn (ha pos pins s σ H _ I h) fun us s1 pq37=>by obtain⟨vs,H1,I1,r1,q1⟩:=pq37;exact hc pins s1 σ H1 vs us Q I1 r1 q1) he hpl
end
end L2
namespace HT
open PySem PyProof.Rows
section
open PySem.SeqAt
open PySem.AutoSeq1 (wpAny_loadPart')
open PySem.MeetsSeq PySem.MeetsSeq2 PySem.MeetsSeq3
end
section
variable {prog:Program}{w:World}{A:Around}{E:Value->Shared->Prop}{s:Shared}
theorem cat_tup {t b : Addr} {vs ws : List Value} {Q : Value -> Shared -> Prop} (ht : IsTup s.heap t vs.toArray) (hb : IsTup s.heap b ws.toArray) (hv : vs ≠ [])
  (h1:ws=[]->Q (.ref t) s) (h2:ws≠[]->Q (.ref s.heap.objs.size) { s with heap:=s.heap.push { cls:=.type "tuple",data:=.seq (vs++ws).toArray } })
  (hsz:vs.length + ws.length<=sizeLine):wpAny (model prog w) A (binaryOp .Add (.ref t) (.ref b)) Q E s:=by
 obtain⟨⟨cls,dd,data,sl⟩,ho,hc,n,hd⟩:=id ht
 obtain⟨⟨cls2,dd2,data2,sl2⟩,ho2,hc2,n2,hd2⟩:=id hb
 simp only at hc hd hc2 hd2
 subst hc hd hc2 hd2
 have e:vs.toArray++ws.toArray=(vs++ws).toArray:=by simp
 by_cases hw:ws=[]
 ·exact concat_meets ⟨_, ho, rfl⟩ ⟨_, ho2, rfl⟩ noFill_tuple_add seq_tuple_add PySem.F.slot_tuple_add PySem.F.entry_tuple_add (PySem.F.args_tuple_add_2 _ _)
    (tuple_addW1 t b vs.toArray ws.toArray n n2 dd dd2 sl sl2 (by simpa using hv) (by simp[hw])) ⟨ho,ho2,h1 hw⟩
 ·refine concat_meets ⟨_, ho, rfl⟩ ⟨_, ho2, rfl⟩ noFill_tuple_add seq_tuple_add PySem.F.slot_tuple_add PySem.F.entry_tuple_add (PySem.F.args_tuple_add_2 _ _)
    (tuple_addW2 t b vs.toArray ws.toArray n n2 dd dd2 sl sl2 (by simpa using hv) (by simpa using hw) (by rw[List.size_toArray,List.size_toArray];exact hsz)) ⟨ho,ho2,?_⟩
  rw[e]
  exact h2 hw
def sIx (n d:Nat):Option Int->Nat
 | none=>d
 | some v=>if v < 0 then (v + (n:Int)).toNat else min v.toNat n
theorem QbP (n d:Nat) (hd:d<=n) (o:Option Int):sIx n d o<=n:=by
 cases o with
 | none=>exact hd
 | some v=>
  show (if v < 0 then (v + (n:Int)).toNat else min v.toNat n)<=n
  by_cases hv:v < 0
  ·rw[if_pos hv];ac_nf
  ·rw[if_neg hv];exact Nat.min_le_right _ _
theorem QbQ (v:Int) (n d:Nat):(if v < 0 then max (v + (n:Int)) 0 else min v (n:Int))=((sIx n d (some v):Nat):Int):=by
 show (if v < 0 then max (v + (n:Int)) 0 else min v (n:Int))=(((if v < 0 then (v + (n:Int)).toNat else min v.toNat n):Nat):Int)
 by_cases hv:v < 0
 ·simp only[if_pos hv];ac_nf
 ·simp only[if_neg hv];ac_nf
theorem QbR (lo hi:Option Int) (n:Nat):Builtin.Slice.sliceAdjust lo hi 1 (n:Int)=(((sIx n 0 lo:Nat):Int),((sIx n n hi:Nat):Int)):=by
 have h1:¬ ((1:Int) < 0):=by ac_nf
 unfold Builtin.Slice.sliceAdjust
 simp only[h1,if_false]
 refine Prod.ext ?_ ?_
 ·cases lo with
  | none=>rfl
  | some v=>exact QbQ v n 0
 ·cases hi with
  | none=>rfl
  | some v=>exact QbQ v n n
theorem QbS (i j:Nat):Builtin.Slice.slicePlaces (i:Int) (j:Int) 1=j - i:=by
 unfold Builtin.Slice.slicePlaces
 have h1:(1:Int) > 0:=by ac_nf
 simp only[h1,if_true,Int.ediv_one]
 split<;>ac_nf
theorem QbT {v:Value}{o:Option Int}{Q:Option Int->Shared->Prop} (p:IsPart v o) (h:Q o s):wpAny (model prog w) A (Builtin.Slice.slicePartIndex v) Q E s:=by
 cases p with
 | none=>exact slicePart_none h
 | int i t=>exact slicePart_int h
theorem QbU {sl : Addr} {vl vu : Value} {lo hi : Option Int} {n : Nat} {Q : Int × Int × Nat -> Shared -> Prop} (hs : s.heap.IsSliceOf sl vl vu .none) (pl : IsPart vl lo) (pu : IsPart vu hi)
  (h:Q (((sIx n 0 lo:Nat):Int),1,sIx n n hi - sIx n 0 lo) s):wpAny (model prog w) A (Builtin.Slice.sliceApplied (.ref sl) (pure (n:Int))) Q E s:=by
 obtain⟨os,hos,hcs,hds⟩:=id hs
 unfold Builtin.Slice.sliceApplied Builtin.Slice.sliceFields
 refine wpAny_bind (wpAny_bind (wpAny_field hos hds (x:=vl) rfl (wpAny_bind (wpAny_field hos hds (x:=vu) rfl (wpAny_bind (wpAny_field hos hds (x:=.none) rfl (wpAny_pure ?_)))))))
 refine wpAny_bind (slicePart_none ?_)
 show wpAny _ _ (if ((1:Int) == 0)=true then _ else _) _ _ s
 rw[if_neg (by decide)]
 refine wpAny_bind (QbT pl (wpAny_bind (QbT pu (wpAny_bind (wpAny_pure ?_)))))
 show wpAny _ _ (match Builtin.Slice.sliceAdjust lo hi 1 (n:Int) with | (lo,hi)=>pure (lo,(1:Int),Builtin.Slice.slicePlaces lo hi 1)) _ _ s
 rw[QbR lo hi n]
 show wpAny _ _ (pure (((sIx n 0 lo:Nat):Int),(1:Int),Builtin.Slice.slicePlaces ((sIx n 0 lo:Nat):Int) ((sIx n n hi:Nat):Int) 1)) _ _ s
 rw[QbS]
 exact wpAny_pure h
theorem QbV (xs:Array Value) (i k:Nat):((List.range k).filterMap fun (m:Nat)=>xs[((i:Int) + (m:Int) * 1).toNat]?).toArray=((xs.toList.drop i).take k).toArray:=by
 have e:(fun (m:Nat)=>xs[((i:Int) + (m:Int) * 1).toNat]?)=fun m=>xs[i + m]?:=by
  funext m
  have:((i:Int) + (m:Int) * 1).toNat=i + m:=by ac_nf
  rw[this]
 rw[e]
 have:=pick_run xs i k
 rw[List.filterMap_map]at this
 have e2:((fun x=>xs[x]?) ∘ fun x=>i + x)=fun m=>xs[i + m]?:=rfl
 rw[e2]at this
 rw[this]
theorem getItem_tuple_cut {t sl : Addr} {items : Array Value} {vl vu : Value} {lo hi : Option Int} {Q : Value -> Shared -> Prop} (ht : IsTup s.heap t items) (hs : s.heap.IsSliceOf sl vl vu .none) (pl : IsPart vl lo) (pu : IsPart vu hi)
  (hw:¬ (sIx items.size 0 lo=0/\sIx items.size items.size hi=items.size))
  (h:Q (.ref s.heap.objs.size) { s with heap:=s.heap.push { cls:=.type "tuple",data:=.seq ((items.toList.drop (sIx items.size 0 lo)).take (sIx items.size items.size hi - sIx items.size 0 lo)).toArray } })
  (hsz:items.size<=sizeLine):wpAny (model prog w) A (getItem (.ref t) (.ref sl)) Q E s:=by
 have htake:sizeOk (.seq ((items.toList.drop (sIx items.size 0 lo)).take (sIx items.size items.size hi - sIx items.size 0 lo)).toArray):=by
  show ((items.toList.drop (sIx items.size 0 lo)).take (sIx items.size items.size hi - sIx items.size 0 lo)).toArray.size<=sizeLine
  rw[List.size_toArray,List.length_take,List.length_drop,Array.length_toList]
  ac_nf
 have hj:sIx items.size items.size hi<=items.size:=QbP _ _ (Nat.le_refl _) hi
 obtain⟨os,hos,hcs,hds⟩:=id hs
 have hTs:s.TypeIs (.ref sl) "slice":=⟨os,hos,hcs⟩
 unfold getItem
 try with_reducible refine wpAny_holding ?_
 first | refine wpAny_bind (wpAny_pure ?_) | skip
 refine wpAny_bind (wpAny_sequenceKey ht.typeIs (by decide) ?_)
 refine wpAny_bind (wpAny_callSpecial?_slot (name:=Str.ofString "__getitem__") ht.typeIs PyProof.Rows.slot_tuple_getitem
  (wpAny_call_entry PyProof.Rows.slot_tuple_getitem ht.typeIs entry_tuple_getitem ?_ (args_tuple_getitem _ _)))
 show wpAny _ _ (Builtin.Tuple.tupleItemsOf (.ref t) >>= _) _ _ s
 refine wpAny_bind (tupleItemsOf_ ht ?_)
 refine wpAny_bind (wpAny_typeOf hTs ?_)
 rw[if_pos (by decide)]
 refine wpAny_bind (QbU hs pl pu ?_)
 have hno:¬ ((((sIx items.size 0 lo:Nat):Int) == 0 && (1:Int) == 1 && (sIx items.size items.size hi - sIx items.size 0 lo) == items.size)=true):=by
  intro q
  rw[Bool.and_eq_true,Bool.and_eq_true]at q
  have q1:((sIx items.size 0 lo:Nat):Int)=0:=eq_of_beq q.1.1
  have q2:sIx items.size items.size hi - sIx items.size 0 lo=items.size:=eq_of_beq q.2
  exact hw ⟨by ac_nf,by ac_nf⟩
 show wpAny _ _ (if (((sIx items.size 0 lo:Nat):Int) == 0 && (1:Int) == 1 && (sIx items.size items.size hi - sIx items.size 0 lo) == items.size)=true then _ else _) _ _ s
 rw[if_neg hno,QbV]
 first
  | exact wpAny_bind (m:=Builtin.Tuple.tupleExact _) (wpAny_newObj_type (wpAny_pure ⟨_,rfl,wpAny_pure h⟩) htake)
  | exact wpAny_bind (m:=Builtin.Tuple.tupleExact _) (wpAny_newObj_type (wpAny_bind (wpAny_pure (wpAny_pure ⟨_,rfl,wpAny_pure h⟩))) htake)
  | exact wpAny_bind (wpAny_bind (m:=Builtin.Tuple.tupleExact _) (wpAny_newObj_type (wpAny_pure (wpAny_pure ⟨_,rfl,wpAny_pure h⟩)) htake))
  | exact wpAny_bind (wpAny_bind (m:=Builtin.Tuple.tupleExact _) (wpAny_newObj_type (wpAny_pure ⟨_,rfl,wpAny_pure h⟩) htake))
end
end HT
namespace L2
open PySem PySem.Spec PyProof.Rows
abbrev TO:=St->Hp->(Option Int->Hp->Prop)->Prop
def PO (X:Cx) (e:Option Expr) (t:TO):Prop:=
 ∀ (pins:List (Addr × Obj)) (s:Shared) (σ:St) (H:Hp) (Q:Option Int->Hp->Prop),Inv X pins σ H s->t σ H Q ->
  wpAny (model X.prog X.w) X.A (evalPart e X.env) (fun u s'=>∃ o H',Inv X pins σ H' s'/\IsPart u o/\Q o H') X.xe s
def tNoPart:TO:=fun _ H Q=>Q none H
def tPart (t:TE):TO:=fun σ H Q=>t σ H fun x H1=>∃ i,x=.int i/\Q (some i) H1
theorem QbW {ns:List Int}:∀ {us:List Value},Vals (ns.map V.int) us->IntsAre us ns:=by
 induction ns with
 | nil=>intro us r;rw[List.map_nil]at r;cases r;exact .nil
 | cons n ns ih=>
  intro us r
  rw[List.map_cons]at r
  cases r with
  | cons r1 r2=>
   obtain⟨t,e⟩:=r1
   subst e
   exact .cons n t (ih r2)
section
variable {X:Cx}{e:Expr}{te:TE}{lo hi:Option Expr}{tl th:TO}{pos p2:Pos}
theorem QbX:PO X none tNoPart:=by
 intro pins s σ H Q I h
 rw[evalPart_none]
 exact wpAny_pure ⟨none,H,I,.none,h⟩
theorem QbY (h:PE X e te):PO X (some e) (tPart te):=by
 intro pins s σ H Q I hw
 rw[evalPart_some]
 refine thn (h pins s σ H _ I hw) fun u s1 pq38=>?_
 obtain⟨x,H1,I1,r1,q1⟩:=pq38
 obtain⟨i,rfl,q⟩:=q1
 obtain⟨t,rfl⟩:=r1
 exact⟨some i,H1,I1,.int i t,q⟩
def SlR (X:Cx) (r:V->Option Int->Option Int->Hp->VK->Prop):Prop:=
 ∀ (pins:List (Addr × Obj)) (s:Shared) (σ:St) (H:Hp) (x:V) (v vl vu:Value) (lo hi:Option Int) (sl:Addr) (Q:VK),Inv X pins σ H s->RelV x v->s.heap.IsSliceOf sl vl vu .none->IsPart vl lo->IsPart vu hi->r x lo hi H Q ->
  ∃ T id,typeLookup (.type T) "__getitem__"=pure (some (.builtin id))/\s.TypeIs v T/\wpAny (model X.prog X.w) X.A (getItem v (.ref sl)) (EP X pins σ Q) X.xe s
def tSl (r:V->Option Int->Option Int->Hp->VK->Prop) (te:TE) (tl th:TO):TE:=fun σ H Q=>te σ H fun x H1=>tl σ H1 fun l H2=>th σ H2 fun u H3=>r x l u H3 Q
theorem QbZ {r:V->Option Int->Option Int->Hp->VK->Prop} (hr:SlR X r) (he:PE X e te) (hl:PO X lo tl) (hu:PO X hi th):PE X (.Subscript e (.Slice lo hi none p2) pos) (tSl r te tl th):=by
 intro pins s σ H Q I h
 refine Subscript_ (thn (he pins s σ H _ I h) fun v s1 pq39=>?_)
 obtain⟨x,H1,I1,r1,q1⟩:=pq39
 refine wpAny_Slice (thn (hl pins s1 σ H1 _ I1 q1) fun vl s2 ⟨l,H2,I2,pl,q2⟩=>thn (hu pins s2 σ H2 _ I2 q2) fun vu s3 pq41=>?_)
 obtain⟨u,H3,I3,pu,q3⟩:=pq41
 rw[evalPart_none]
 refine wpAny_pure ?_
 have I4:Inv X pins σ H3 { s3 with heap:=s3.heap.push { cls:=.type "slice",data:=.fields #[vl,vu,.none] } }:=I3.kept (t':=s3.toks) fun b ob q=>Heap.get?_push_of_some _ q
 obtain⟨T,id,hT,ht,hg⟩:=hr pins { s3 with heap:=s3.heap.push { cls:=.type "slice",data:=.fields #[vl,vu,.none] } } σ H3 x v vl vu l u s3.heap.objs.size Q I4 r1 (Heap.IsSliceOf.new ..) pl pu q3
 show wpAny (model X.prog X.w) X.A (subscriptTail e (.Slice lo hi none p2) v (.ref s3.heap.objs.size)) (EP X pins σ Q) X.xe { s3 with heap:=s3.heap.push { cls:=.type "slice",data:=.fields #[vl,vu,.none] } }
 exact tail_any (ops:=[.ref s3.heap.objs.size,v]) ht hT hg (by with_unfolding_all rfl)
def cutV (xs:List V) (lo hi:Option Int):List V:=(xs.drop (HT.sIx xs.length 0 lo)).take (HT.sIx xs.length xs.length hi - HT.sIx xs.length 0 lo)
theorem Qb0 (xs:List V) (lo hi:Option Int):(cutV xs lo hi).length<=xs.length:=by
 unfold cutV
 rw[List.length_take,List.length_drop]
 ac_nf
def rSlT (K:PySem.W.Frag):V->Option Int->Option Int->Hp->VK->Prop:=fun x lo hi H Q=>∃ a xs,x=.ref a/\SqT K H a xs /\
 ¬ (HT.sIx xs.length 0 lo=0/\HT.sIx xs.length xs.length hi=xs.length)/\∀ p,H p=none->Q (.ref p) (upd H p (.tup (cutV xs lo hi)))
theorem Qb1:SlR X (rSlT X.K):=by
 intro pins s σ H x v vl vu lo hi sl Q I rx hs pl pu h
 obtain⟨a,xs,rfl,hx,hw,q⟩:=h
 cases rx
 obtain⟨its,r,ht,hz⟩:=I.tuple hx
 have hlen:its.toArray.size=xs.length:=by rw[List.size_toArray];exact r.length.symm
 refine⟨"tuple",_,PyProof.Rows.slot_tuple_getitem.lookup,ht.typeIs,?_⟩
 refine HT.getItem_tuple_cut ht hs pl pu (by rw[hlen];exact hw) ?_ (by rw[hlen];exact hz)
 rw[hlen]
 refine⟨.ref s.heap.objs.size,_,I.laid (t':=s.toks) (o:=.tup (cutV xs lo hi)) (fun b ob q=>Heap.get?_push_of_some _ q) (Nat.le_refl _) ?_,rfl,q _ (I.hok.fresh (Nat.le_refl _))⟩
 exact⟨Nat.le_trans (Qb0 xs lo hi) hz,_,(r.drop (HT.sIx xs.length 0 lo)).take (HT.sIx xs.length xs.length hi - HT.sIx xs.length 0 lo),IsTup.new _ _⟩
def rCatT (K:PySem.W.Frag):R2:=fun x y H Q=>∃ a b xs ys,x=.ref a/\y=.ref b/\SqT K H a xs/\SqT K H b ys/\xs≠[]/\xs.length + ys.length<=sizeLine /\
 (ys=[]->Q (.ref a) H)/\(ys≠[]->∀ p,H p=none->Q (.ref p) (upd H p (.tup (xs++ys))))
theorem Vals.nil_iff {xs:List V}{us:List Value} (r:Vals xs us):us=[]↔xs=[]:=by
 cases r with
 | nil=>simp
 | cons _ _=>simp
theorem Qb2:OpR X (binaryOp .Add) (rCatT X.K):=by
 intro pins s σ H x y v u Q I rx ry h
 obtain⟨a,b,xs,ys,rfl,rfl,ha,hb,hx,hz,q1,q2⟩:=h
 cases rx
 cases ry
 obtain⟨its,r1,p1,_⟩:=I.tuple ha
 obtain⟨its2,r2,p2,_⟩:=I.tuple hb
 refine HT.cat_tup p1 p2 (fun z=>hx (r1.nil_iff.mp z)) (fun z=>⟨.ref a,H,I,rfl,q1 (r2.nil_iff.mp z)⟩) (fun z=>?_) (by rw[<- r1.length,<- r2.length];exact hz)
 refine⟨.ref s.heap.objs.size,_,I.laid (t':=s.toks) (o:=.tup (xs++ys)) (fun b ob q=>Heap.get?_push_of_some _ q) (Nat.le_refl _) ?_,rfl,q2 (fun w=>z (r2.nil_iff.mpr w)) _ (I.hok.fresh (Nat.le_refl _))⟩
 exact⟨by rw[List.length_append];exact hz,_,r1.append r2,IsTup.new _ _⟩
end
def ixN (n:Nat) (i:Int):Option Nat:=if 0<=i then (if i < n then some i.toNat else none) else if -(n:Int)<=i then some (i + n).toNat else none
def atI {α:Type} (xs:List α) (i:Int):Option α:=(ixN xs.length i).bind fun j=>xs[j]?
theorem Qb3 {n:Nat}{i:Int}{j:Nat} (h:ixN n i=some j):seqIndex? i n=some j/\j < n /\ -(n:Int)<=i/\i < n:=by
 unfold ixN at h
 by_cases h0:0<=i
 ·rw[if_pos h0]at h
  by_cases h1:i < n
  ·rw[if_pos h1]at h
   have e:i.toNat=j:=Option.some.inj h
   exact⟨by rw[seqIndex_of h0 h1,e],by ac_nf,by ac_nf,h1⟩
  ·rw[if_neg h1]at h;cases h
 ·rw[if_neg h0]at h
  by_cases h1 : -(n:Int)<=i
  ·rw[if_pos h1]at h
   have e:(i + n).toNat=j:=Option.some.inj h
   exact⟨by rw[seqIndex_neg (by ac_nf) h1,e],by ac_nf,h1,by ac_nf⟩
  ·rw[if_neg h1]at h;cases h
theorem Qb4 {α:Type}{xs:List α}{i:Int}{v:α} (h:atI xs i=some v):∃ j,seqIndex? i xs.length=some j/\xs[j]?=some v/\j < xs.length /\ -(xs.length:Int)<=i/\i < xs.length:=by
 unfold atI at h
 cases e:ixN xs.length i with
 | none=>rw[e]at h;cases h
 | some j=>
  rw[e]at h
  obtain⟨h1,h2,h3,h4⟩:=Qb3 e
  exact⟨j,h1,h,h2,h3,h4⟩
def PlainIx (b:Expr):Prop:=∀ o i,subscripted b false o i=operate [o,i] (getItem o i)
def IxR (X:Cx) (r:R2):Prop:=
 ∀ (value slice:Expr) (pins:List (Addr × Obj)) (s:Shared) (σ:St) (H:Hp) (x y:V) (v u:Value) (Q:VK),Inv X pins σ H s->RelV x v->RelV y u->r x y H Q ->
  subscripted slice false v u=operate [v,u] (getItem v u)->wpAny (model X.prog X.w) X.A (subscriptTail value slice v u) (EP X pins σ Q) X.xe s
def MtR (X:Cx) (id:String) (r:V->List V->Hp->VK->Prop):Prop:=
 ∀ (pins:List (Addr × Obj)) (s:Shared) (σ:St) (H:Hp) (x:V) (xs:List V) (v:Value) (us:List Value) (Q:VK),Inv X pins σ H s->RelV x v->Vals xs us->r x xs H Q ->
  wpAny (model X.prog X.w) X.A (call (.builtin id) (v::us)) (EP X pins σ Q) X.xe s
section
variable {X:Cx}{a b:Expr}{ta tb:TE}{pos:Pos}
theorem IxR.or {r r':R2} (h:IxR X r) (h':IxR X r'):IxR X (fun x y H Q=>r x y H Q\/r' x y H Q):=by
 intro value slice pins s σ H x y v u Q I rx ry q hs
 rcases q with q | q
 ·exact h value slice pins s σ H x y v u Q I rx ry q hs
 ·exact h' value slice pins s σ H x y v u Q I rx ry q hs
theorem Qb5 {r:R2} (hr:IxR X r) (ha:PE X a ta) (hb:PE X b tb) (hs:PlainIx b):PE X (.Subscript a b pos) (tOp r ta tb):=by
 intro pins s σ H Q I h
 exact Subscript_ (binT ha hb I h fun v u s2 x y H2 I2 rx ry q=>hr a b pins s2 σ H2 x y v u Q I2 rx ry q (hs _ _))
def rIxL (K:PySem.W.Frag):R2:=fun x y H Q=>∃ p xs i v,x=.ref p/\y=.int i/\SqL K H p xs/\atI xs i=some v/\Q v H
def rIxT (K:PySem.W.Frag):R2:=fun x y H Q=>∃ p xs i v,x=.ref p/\y=.int i/\SqT K H p xs/\atI xs i=some v/\Q v H
def rIxS:R2:=fun x y H Q=>∃ z i c,x=.str z/\y=.int i/\z.length<=sizeLine/\atI z.cps.toList i=some c/\Q (.str ⟨#[c]⟩) H
theorem Qb6:IxR X (rIxL X.K):=by
 intro value slice pins s σ H x y v u Q I rx ry h hs
 obtain⟨p,xs,i,z,rfl,rfl,hq,he,q⟩:=h
 cases rx
 obtain⟨t,rfl⟩:=ry
 obtain⟨its,r,pl,hz⟩:=I.list hq
 obtain⟨j,h1,h2,h3,h4,h5⟩:=Qb4 he
 obtain⟨w,ew,rw'⟩:=r.get h2
 have hl:=r.length
 have hn:=Qbq
 have fin:EP X pins σ Q w s:=⟨z,H,I,rw',q⟩
 by_cases h0:0<=i
 ·have hj : i.toNat = j := by
    rw[seqIndex_of h0 h5]at h1
    exact Option.some.inj h1
  exact item_listR pl.isList h0 (by ac_nf) (by rw[hj];simpa using ew) fin hs
 ·have hj : (i + (its.toArray.size : Int)).toNat = j := by
    rw[seqIndex_neg (by ac_nf) h4]at h1
    rw[List.size_toArray,<- hl]
    exact Option.some.inj h1
  exact subscriptTail_builtinR (x:=w) pl.isList.typeIs slot_list_getitem.lookup
   (wpAny_getItem_list_neg (Q:=fun r s'=>r=w/\EP X pins σ Q r s') pl.isList (by ac_nf) (by rw[List.size_toArray]<;>ac_nf) (by ac_nf) (by rw[hj];simpa using ew) ⟨rfl,fin⟩) hs
theorem Qb7:IxR X (rIxT X.K):=by
 intro value slice pins s σ H x y v u Q I rx ry h hs
 obtain⟨p,xs,i,z,rfl,rfl,hq,he,q⟩:=h
 cases rx
 obtain⟨t,rfl⟩:=ry
 obtain⟨its,r,pl,hz⟩:=I.tuple hq
 obtain⟨j,h1,h2,h3,h4,h5⟩:=Qb4 he
 obtain⟨w,ew,rw'⟩:=r.get h2
 have hl:=r.length
 have hn:=Qbq
 have fin:EP X pins σ Q w s:=⟨z,H,I,rw',q⟩
 exact subscriptTail_builtinR (x:=w) pl.typeIs slot_tuple_getitem.lookup
  (getItem_tuple (j:=j) (Q:=fun r s'=>r=w/\EP X pins σ Q r s') pl (by ac_nf) (by ac_nf) (by rw[List.size_toArray,<- hl];exact h1) (by simpa using ew) ⟨rfl,fin⟩) hs
theorem Qb8:IxR X rIxS:=by
 intro value slice pins s σ H x y v u Q I rx ry h hs
 obtain⟨z,i,c,rfl,rfl,hz,he,q⟩:=h
 obtain⟨t,rfl⟩:=rx
 obtain⟨t',rfl⟩:=ry
 obtain⟨j,h1,h2,h3,h4,h5⟩:=Qb4 he
 have hl:z.cps.toList.length=z.length:=by simp[Str.length]
 rw[hl]at h1 h4 h5
 have hn:=Qbq
 exact tail_any (typeIs_str s z t) slot_str_getitem.lookup (getItem_str (c:=c) (by
  have e1:decide (i < -(2 ^ 63:Int))=false:=decide_eq_false (by ac_nf)
  have e2:decide (i ≥ 2 ^ 63)=false:=decide_eq_false (by ac_nf)
  rw[e1,e2,Bool.or_false]) (by rw[h1];simpa using h2) ⟨.str ⟨#[c]⟩,H,I.tok _,⟨_,rfl⟩,q⟩) hs
def rIx (K:PySem.W.Frag):R2:=fun x y H Q=>rIxL K x y H Q\/rIxT K x y H Q\/rIxS x y H Q
theorem Qb9:IxR X (rIx X.K):=Qb6.or (Qb7.or Qb8)
theorem Qca (its:List Value) (n j:Nat) (u:Value):Obj.mapSeq (·.setIfInBounds j u) { cls:=.type "list",data:=.seq its.toArray n }={ cls:=.type "list",data:=.seq (its.set j u).toArray n }:=by
 simp[Obj.mapSeq]
theorem Inv.lst {pins : List (Addr × Obj)} {σ : St} {H : Hp} {s : Shared} {p : Addr} {xs : List V} (I : Inv X pins σ H s) (h : H p = some (.lst xs)) :
  ∃ (its:List Value) (n:Nat),Vals xs its/\s.heap.get? p=some { cls:=.type "list",data:=.seq its.toArray n }/\xs.length<=sizeLine:=by
 obtain⟨z,its,n,r,e⟩:=I.hok p _ h
 exact⟨its,n,r,e,z⟩
theorem Inv.lstUpd {pins : List (Addr × Obj)} {σ : St} {H : Hp} {s : Shared} {p : Addr} {xs ys : List V} {its its' : List Value} {n n' : Nat} {f : Obj -> Obj} (I : Inv X pins σ H s) (h : H p = some (.lst xs))
  (ho:s.heap.get? p=some { cls:=.type "list",data:=.seq its.toArray n }) (hf:f { cls:=.type "list",data:=.seq its.toArray n }={ cls:=.type "list",data:=.seq its'.toArray n' }) (r:Vals ys its') (hz:ys.length<=sizeLine) (t:Nat):
  Inv X pins σ (upd H p (.lst ys)) { s with heap:=s.heap.update p f,toks:=t }:=by
 have e:(s.heap.update p f).get? p=some { cls:=.type "list",data:=.seq its'.toArray n' }:=by
  rw[Heap.get?_update_self f ho (by rw[hf]<;>rfl),hf]
 refine I.write (x:=p) (e:=p) (by rw[h];trivial) (.inl rfl) (fun b u hb q=>(Heap.get?_update_other _ _ (Ne.symm hb)).trans q) ⟨_,e⟩ ?_
 exact⟨hz,its',n',r,e⟩
def rSetL:V->V->V->Hp->(Hp->Prop)->Prop:=fun o i v H Q=>∃ p xs k j,o=.ref p/\i=.int k/\H p=some (.lst xs)/\ixN xs.length k=some j/\Q (upd H p (.lst (xs.set j v)))
theorem Qcb:PSet X rSetL:=by
 intro pins s σ H o i v ov iv u Q I ro ri rv h
 obtain⟨p,xs,k,j,rfl,rfl,hp,hj,q⟩:=h
 cases ro
 obtain⟨t,rfl⟩:=ri
 obtain⟨its,n,r,ho,hz⟩:=I.lst hp
 obtain⟨h1,h2,h3,h4⟩:=Qb3 hj
 have hl:=r.length
 have hn:=Qbq
 have I':Inv X pins σ (upd H p (.lst (xs.set j v))) { s with heap:=s.heap.update p (Obj.mapSeq (·.setIfInBounds j u)) }:=
  I.lstUpd hp ho (Qca its n j u) (r.set rv j) (by rw[List.length_set];exact hz) s.toks
 by_cases h0:0<=k
 ·have hk : k.toNat = j := by
    rw[seqIndex_of h0 h4]at h1
    exact Option.some.inj h1
  exact PySem.W.ki_setAt ho h0 (by ac_nf) (by rw[List.size_toArray,<- hl];exact h4) (by rw[hk];exact⟨_,I',q⟩)
 ·have hk : (k + (its.toArray.size : Int)).toNat = j := by
    rw[seqIndex_neg (by ac_nf) h3]at h1
    rw[List.size_toArray,<- hl]
    exact Option.some.inj h1
  exact PySem.W.ki_setBack ho (by ac_nf) (by rw[List.size_toArray,<- hl];exact h3) (by ac_nf) (by rw[hk];exact⟨_,I',q⟩)
theorem Qcc (lo hi:Option Int) (n:Nat):(sliceBounds lo hi none n).1=((HT.sIx n 0 lo:Nat):Int)/\(sliceBounds lo hi none n).2.1=((HT.sIx n n hi:Nat):Int)/\(sliceBounds lo hi none n).2.2=1:=by
 refine⟨?_,?_,rfl⟩
 ·cases lo with
  | none=>simp[sliceBounds,HT.sIx]
  | some i=>
   simp only[sliceBounds,HT.sIx,Option.getD_none,show (1:Int) > 0 by decide,if_true]
   by_cases h:i < 0
   ·simp only[h,if_true]<;>ac_nf
   ·simp only[h,if_false]<;>ac_nf
 ·cases hi with
  | none=>simp[sliceBounds,HT.sIx]
  | some i=>
   simp only[sliceBounds,HT.sIx,Option.getD_none,show (1:Int) > 0 by decide,if_true]
   by_cases h:i < 0
   ·simp only[h,if_true]<;>ac_nf
   ·simp only[h,if_false]<;>ac_nf
theorem Qcd (its:List Value) (lo hi:Option Int):slicePick its.toArray lo hi none=((its.drop (HT.sIx its.length 0 lo)).take (HT.sIx its.length its.length hi - HT.sIx its.length 0 lo)).toArray:=by
 obtain⟨h1,h2,h3⟩:=Qcc lo hi its.toArray.size
 unfold slicePick
 rw[h1,h2,h3]
 simp only[sliceRange_one,pick_run,List.size_toArray]<;>rfl
def rSlL (K:PySem.W.Frag):V->Option Int->Option Int->Hp->VK->Prop:=fun x lo hi H Q=>∃ a xs,x=.ref a/\SqL K H a xs/\∀ p,H p=none->Q (.ref p) (upd H p (.lst (cutV xs lo hi)))
theorem Qce:SlR X (rSlL X.K):=by
 intro pins s σ H x v vl vu lo hi sl Q I rx hs pl pu h
 obtain⟨a,xs,rfl,hx,q⟩:=h
 cases rx
 obtain⟨its,r,ht,hz⟩:=I.list hx
 have hlen:=r.length
 refine⟨"list",_,slot_list_getitem.lookup,ht.isList.typeIs,?_⟩
 refine wpAny_getItem_list_slice ht.isList hs pl pu .none (by simp) ?_ (by rw[List.size_toArray]<;>ac_nf)
 rw[Qcd,<- hlen]
 refine⟨.ref s.heap.objs.size,_,I.laid (t':=s.toks) (o:=.lst (cutV xs lo hi)) (fun b ob q=>Heap.get?_push_of_some _ q) (Nat.le_refl _) ?_,rfl,q _ (I.hok.fresh (Nat.le_refl _))⟩
 exact⟨Nat.le_trans (Qb0 xs lo hi) hz,_,0,(r.drop (HT.sIx xs.length 0 lo)).take (HT.sIx xs.length xs.length hi - HT.sIx xs.length 0 lo),Heap.get?_push_size _ rfl⟩
def flatV:V->Bool
 | .non=>true
 | .bl _=>true
 | .int _=>true
 | .str _=>true
 | _=>false
def eqV:V->V->Bool
 | .non,.non=>true
 | .bl a,.bl b=>a == b
 | .bl a,.int b=>(if a then 1 else 0) == b
 | .int a,.bl b=>a == (if b then 1 else 0)
 | .int a,.int b=>a == b
 | .str a,.str b=>a == b
 | _,_=>false
theorem Qcf {A:Around}{s:Shared}{y x:V}{u v:Value} (ry:RelV y u) (rx:RelV x v) (fy:flatV y=true) (fx:flatV x=true):SeqAt.EqAt A s u v (eqV y x):=by
 cases y with
 | non=>
  cases ry
  cases x with
  | non=>cases rx;exact SeqAt.EqAt.same _
  | bl b=>cases rx;exact SeqAt.EqAt.none_bool b
  | int b=>obtain⟨t,rfl⟩:=rx;exact SeqAt.EqAt.none_int b t
  | str b=>obtain⟨t,rfl⟩:=rx;exact SeqAt.EqAt.none_str b t
  | _=>exact absurd (show false=true from fx) Bool.false_ne_true
 | bl a=>
  cases ry
  cases x with
  | non=>cases rx;exact SeqAt.EqAt.bool_none a
  | bl b=>cases rx;exact SeqAt.EqAt.bool_bool a b
  | int b=>obtain⟨t,rfl⟩:=rx;exact SeqAt.EqAt.bool_int a b t
  | str b=>obtain⟨t,rfl⟩:=rx;exact SeqAt.EqAt.bool_str a b t
  | _=>exact absurd (show false=true from fx) Bool.false_ne_true
 | int a=>
  obtain⟨t',rfl⟩:=ry
  cases x with
  | non=>cases rx;exact SeqAt.EqAt.int_none a t'
  | bl b=>cases rx;exact SeqAt.EqAt.int_bool a t' b
  | int b=>obtain⟨t,rfl⟩:=rx;exact SeqAt.EqAt.int_int a t' b t
  | str b=>obtain⟨t,rfl⟩:=rx;exact SeqAt.EqAt.int_str a t' b t
  | _=>exact absurd (show false=true from fx) Bool.false_ne_true
 | str a=>
  obtain⟨t',rfl⟩:=ry
  cases x with
  | non=>cases rx;exact SeqAt.EqAt.str_none a t'
  | bl b=>cases rx;exact SeqAt.EqAt.str_bool a t' b
  | int b=>obtain⟨t,rfl⟩:=rx;exact SeqAt.EqAt.str_int a t' b t
  | str b=>obtain⟨t,rfl⟩:=rx;exact SeqAt.EqAt.str_str a t' b t
  | _=>exact absurd (show false=true from fx) Bool.false_ne_true
 | _=>exact absurd (show false=true from fy) Bool.false_ne_true
def eqU (x:V) (u:Value):Bool:=match u with
 | .none=>eqV .non x
 | .bool b=>eqV (.bl b) x
 | .int i _=>eqV (.int i) x
 | .str z _=>eqV (.str z) x
 | _=>false
theorem Qcg {x y:V}{u:Value} (r:RelV y u) (f:flatV y=true):eqU x u=eqV y x:=by
 cases y with
 | non=>cases r;rfl
 | bl b=>cases r;rfl
 | int i=>obtain⟨t,rfl⟩:=r;rfl
 | str z=>obtain⟨t,rfl⟩:=r;rfl
 | _=>exact absurd (show false=true from f) Bool.false_ne_true
theorem Qch {x:V}:∀ {xs:List V}{us:List Value},Vals xs us->xs.all flatV=true->us.any (eqU x)=xs.any fun y=>eqV y x
 | _,_,.nil,_=>rfl
 | y::xs,u::us,.cons r t,f=>by
  rw[List.all_cons,Bool.and_eq_true]at f
  rw[List.any_cons,List.any_cons,Qcg r f.1,Qch t f.2]
theorem Qci {A:Around}{s:Shared}{x:V}{v:Value} (rx:RelV x v) (fx:flatV x=true):∀ {xs:List V}{us:List Value},Vals xs us->xs.all flatV=true->∀ u∈us,SeqAt.EqAt A s u v (eqU x u)
 | _,_,.nil,_=>fun u hu=>by cases hu
 | y::xs,u::us,.cons r t,f=>fun u' hu=>by
  rw[List.all_cons,Bool.and_eq_true]at f
  rcases List.mem_cons.mp hu with rfl | hu
  ·rw[Qcg r f.1];exact Qcf r rx f.1 fx
  ·exact Qci rx fx t f.2 u' hu
def inV (x:V) (xs:List V):Bool:=xs.any fun y=>eqV y x
def rIn (K:PySem.W.Frag) (neg:Bool):R2:=fun x y H Q=>∃ p xs,y=.ref p/\(SqL K H p xs\/SqT K H p xs)/\flatV x=true/\xs.all flatV=true/\Q (.bl (if neg then !inV x xs else inV x xs)) H
theorem Qcj:OpR X (compareOp .In) (rIn X.K false):=by
 intro pins s σ H x y v u Q I rx ry h
 obtain⟨p,xs,rfl,hq,fx,fs,q⟩:=h
 cases ry
 rcases hq with hq | hq
 ·obtain⟨its,r,pl,hz⟩:=I.list hq
  refine SeqAt.in_listAt (eqU x) pl.isList (fun w hw=>Qci rx fx r fs w (by simpa using hw)) ⟨.bl _,H,I,rfl,?_⟩
  rw[show its.toArray.any (eqU x)=its.any (eqU x) by simp,Qch r fs]
  exact q
 ·obtain⟨its,r,pl,hz⟩:=I.tuple hq
  refine SeqAt.in_tupleAt (eqU x) pl (fun w hw=>Qci rx fx r fs w (by simpa using hw)) ⟨.bl _,H,I,rfl,?_⟩
  rw[show its.toArray.any (eqU x)=its.any (eqU x) by simp,Qch r fs]
  exact q
theorem Qck:OpR X (compareOp .NotIn) (rIn X.K true):=by
 intro pins s σ H x y v u Q I rx ry h
 obtain⟨p,xs,rfl,hq,fx,fs,q⟩:=h
 cases ry
 rcases hq with hq | hq
 ·obtain⟨its,r,pl,hz⟩:=I.list hq
  refine SeqAt.notIn_listAt (eqU x) pl.isList (fun w hw=>Qci rx fx r fs w (by simpa using hw)) ⟨.bl _,H,I,rfl,?_⟩
  rw[show its.toArray.any (eqU x)=its.any (eqU x) by simp,Qch r fs]
  exact q
 ·obtain⟨its,r,pl,hz⟩:=I.tuple hq
  refine SeqAt.notIn_tupleAt (eqU x) pl (fun w hw=>Qci rx fx r fs w (by simpa using hw)) ⟨.bl _,H,I,rfl,?_⟩
  rw[show its.toArray.any (eqU x)=its.any (eqU x) by simp,Qch r fs]
  exact q
theorem Qcl:CallR X (.builtin "len") (fun xs H Q=>∃ p ys,xs=[.ref p]/\(SqL X.K H p ys\/SqT X.K H p ys)/\Q (.int ys.length) H):=by
 intro pins s σ H xs us Q I r h
 obtain⟨p,ys,rfl,hq,q⟩:=h
 obtain⟨u,rfl,rx⟩:=Qbu r
 cases rx
 have hn:=Qbq
 rcases hq with hq | hq
 ·obtain⟨its,r',pl,hz⟩:=I.list hq
  have hlen:=r'.length
  exact Calls.call_len_list pl.isList (by simp only[List.size_toArray]<;>ac_nf) ⟨.int ys.length,H,I.tok _,⟨s.toks + 1,by rw[List.size_toArray,hlen]⟩,q⟩
 ·obtain⟨its,r',pl,hz⟩:=I.tuple hq
  have hlen:=r'.length
  exact len_tuple pl (by simp only[List.size_toArray]<;>ac_nf) ⟨.int ys.length,H,I.tok _,⟨s.toks + 1,by rw[List.size_toArray,hlen]⟩,q⟩
theorem Qcm:CallR X (.builtin "len") (fun xs H Q=>∃ z,xs=[.str z]/\z.length<=sizeLine/\Q (.int z.length) H):=by
 intro pins s σ H xs us Q I r h
 obtain⟨z,rfl,hz,q⟩:=h
 obtain⟨u,rfl,t,rfl⟩:=Qbu r
 have hn:=Qbq
 exact len_str (by ac_nf) ⟨.int z.length,H,I.tok _,⟨_,rfl⟩,q⟩
theorem CallR.or {f:Value}{r r':List V->Hp->VK->Prop} (h:CallR X f r) (h':CallR X f r'):CallR X f (fun xs H Q=>r xs H Q\/r' xs H Q):=by
 intro pins s σ H xs us Q I rs q
 rcases q with q | q
 ·exact h pins s σ H xs us Q I rs q
 ·exact h' pins s σ H xs us Q I rs q
theorem Qcn:CallR X (.type "list") (fun xs H Q=>∃ p ys,xs=[.ref p]/\(SqL X.K H p ys\/SqT X.K H p ys)/\∀ l,H l=none->Q (.ref l) (upd H l (.lst ys))):=by
 intro pins s σ H xs us Q I r h
 obtain⟨p,ys,rfl,hq,q⟩:=h
 obtain⟨u,rfl,rx⟩:=Qbu r
 cases rx
 have fin : ∀ (its : List Value), Vals ys its -> ys.length <= sizeLine -> ∀ (h' : Heap) (c' : Nat), (∀ b o', s.heap.get? b = some o' -> h'.get? b = some o') ->
   h'.get? s.heap.objs.size=some { cls:=.type "list",dict:=none,data:=.seq its.toArray c',slots:=#[] }->EP X pins σ Q (.ref s.heap.objs.size) { s with heap:=h' }:=fun its r' hz h' c' kp e=>
  ⟨.ref s.heap.objs.size,_,I.laid (t':=s.toks) kp (Nat.le_refl _) (show ObjOk X.prog X.w _ h' _ (.lst ys) from ⟨hz,its,c',r',e⟩),rfl,q _ (I.hok.fresh (Nat.le_refl _))⟩
 rcases hq with hq | hq
 ·obtain⟨its,r',pl,hz⟩:=I.list hq
  have hlen:=r'.length
  obtain⟨o,ho,hc,n,hd⟩:=pl.isList
  exact call_list_seq p (.inl rfl) ho hc hd (fun h' c' kp e=>fin its r' hz h' c' kp e) (by simp only[List.size_toArray]<;>ac_nf)
 ·obtain⟨its,r',pl,hz⟩:=I.tuple hq
  have hlen:=r'.length
  obtain⟨o,ho,hc,n,hd⟩:=pl
  exact call_list_seq p (.inr rfl) ho hc hd (fun h' c' kp e=>fin its r' hz h' c' kp e) (by simp only[List.size_toArray]<;>ac_nf)
theorem Qco:CallR X (.type "tuple") (fun xs H Q=>∃ p ys,xs=[.ref p]/\((SqL X.K H p ys/\∀ l,H l=none->Q (.ref l) (upd H l (.tup ys)))\/(SqT X.K H p ys/\Q (.ref p) H))):=by
 intro pins s σ H xs us Q I r h
 obtain⟨p,ys,rfl,h⟩:=h
 obtain⟨u,rfl,rx⟩:=Qbu r
 cases rx
 rcases h with ⟨hq,q⟩ | ⟨hq,q⟩
 ·obtain⟨its,r',pl,hz⟩:=I.list hq
  have hlen:=r'.length
  refine call_tuple_list pl.isList (fun h' kp=>?_) (by simp only[List.size_toArray]<;>ac_nf)
  have I1:Inv X pins σ H { s with heap:=h' }:=I.kept (t':=s.toks) kp
  have I2:Inv X pins σ (upd H h'.objs.size (.tup ys)) { s with heap:=h'.push { cls:=.type "tuple",data:=.seq its.toArray } }:=
   I1.laid (t':=s.toks) (fun b o e=>Heap.get?_push_of_some _ e) (Nat.le_refl _) (show ObjOk X.prog X.w _ _ _ (.tup ys) from ⟨hz,its,r',IsTup.new _ _⟩)
  exact⟨.ref h'.objs.size,_,I2,rfl,q _ (I1.hok.fresh (Nat.le_refl _))⟩
 ·obtain⟨its,r',pl,hz⟩:=I.tuple hq
  exact call_tuple_same pl ⟨.ref p,H,I,rfl,q⟩
def tyV (K:PySem.W.Frag) (T:String) (x:V) (H:Hp):Prop:=match x with
 | .str _=>T="str"
 | .int _=>T="int"
 | .ref p => (T = "list" /\ ∃ xs, SqL K H p xs) \/ (T = "tuple" /\ ∃ o, K.lookup p = some o /\ o.cls = .type "tuple" /\ o.dict = none) \/
   (T="dict"/\((∃ kvs,H p=some (.dK kvs))\/∃ kvs,H p=some (.dT kvs)))\/(T="set"/\∃ S n,H p=some (.set S n))
 | _=>False
theorem Qcp {pins : List (Addr × Obj)} {σ : St} {H : Hp} {s : Shared} {T : String} {x : V} {v : Value} (I : Inv X pins σ H s) (r : RelV x v) (ty : tyV X.K T x H) :
  s.TypeIs v T/\∀ a,v=.ref a->∃ ob,s.heap.get? a=some ob/\ob.dict=none:=by
 cases x with
 | str z=>
  obtain⟨t,rfl⟩:=r
  cases (show T="str" from ty)
  exact⟨typeIs_str s z t,fun _ e=>nomatch e⟩
 | int i=>
  obtain⟨t,rfl⟩:=r
  cases (show T="int" from ty)
  exact⟨typeIs_int s i t,fun _ e=>nomatch e⟩
 | ref p=>
  cases r
  rcases ty with ⟨rfl,xs,hq⟩ | ⟨rfl,o,hk,hc,hd⟩ | ⟨rfl,hk⟩ | ⟨rfl,S,n,hk⟩
  ·obtain⟨its,_,pl,_⟩:=I.list hq
   refine⟨pl.isList.typeIs,fun a e=>?_⟩
   cases e
   obtain⟨o,n,e,c,hd,_⟩:=pl
   exact⟨o,e,hd⟩
  ·refine⟨⟨o,I.kIn p o hk,hc⟩,fun a e=>?_⟩
   cases e
   exact⟨o,I.kIn _ o hk,hd⟩
  ·have z : ∃ o, s.heap.get? p = some o /\ o.ExactDict := by
     rcases hk with ⟨kvs,hk⟩ | ⟨kvs,hk⟩
     ·obtain⟨_,_,_,_,o,_,_,e,ex,_⟩:=I.hok p _ hk
      exact⟨o,e,ex⟩
     ·obtain⟨_,_,_,_,o,_,_,e,ex,_⟩:=I.hok p _ hk
      exact⟨o,e,ex⟩
   obtain⟨o,e,ex⟩:=z
   refine⟨⟨o,e,ex.1⟩,fun a e2=>?_⟩
   cases e2
   exact⟨o,e,ex.2.1⟩
  ·obtain⟨o,_,_,_,e,ex,_⟩:=I.hok p _ hk
   refine⟨⟨o,e,ex.1⟩,fun a e2=>?_⟩
   cases e2
   exact⟨o,e,ex.2.1⟩
 | _=>exact False.elim ty
def tBM0 (K:PySem.W.Frag) (T:String) (r:V->List V->Hp->VK->Prop) (to:TE):TE:=fun σ H Q=>to σ H fun x H1=>tyV K T x H1/\r x [] H1 Q
def tBM (K:PySem.W.Frag) (T:String) (r:V->List V->Hp->VK->Prop) (to:TE) (t:TA):TE:=fun σ H Q=>to σ H fun x H1=>tyV K T x H1/\t σ H1 fun xs H2=>r x xs H2 Q
variable {o e:Expr}{es:List Expr}{to:TE}{t:TA}{name:Str}{apos cpos:Pos}{T id:String}{r:V->List V->Hp->VK->Prop}
theorem Qcq (pa : PlainAttrs T) (slot : Slot T name id) (hty : typeOf (.builtin id) = pure (.type "method_descriptor")) (hm : MtR X id r) (ho : PE X o to)
  (hbase:attributeBase o name X.env (eval o X.env)=eval o X.env:=by rfl) (hline:(apos.endLine == cpos.line)=true:=by rfl):PE X (.Call (.Attribute o name apos) [] [] cpos) (tBM0 X.K T r to):=by
 intro pins s σ H Q I h
 refine wpAny_Call_method0_late hbase hline (thn (ho pins s σ H _ I h) fun v s1 pq42=>?_)
 obtain⟨x,H1,I1,r1,ty,q1⟩:=pq42
 obtain⟨h1,h2⟩:=Qcp I1 r1 ty
 exact⟨T,id,pa,slot,hty,h1,h2,Calls.callWith_builtin rfl (PySem.evalArgs_none (hm pins s1 σ H1 x [] v [] Q I1 r1 .nil q1))⟩
theorem Qcr (pa : PlainAttrs T) (slot : Slot T name id) (hty : typeOf (.builtin id) = pure (.type "method_descriptor")) (hm : MtR X id r) (ho : PE X o to) (ha : PA X (e :: es) t)
  (hbase:attributeBase o name X.env (eval o X.env)=eval o X.env:=by rfl)
  (hfew:((backTo cpos (starEach (e::es) X.env)).all (fun x => !x.1) && (backToKw cpos (keywordEach [] X.env)).all (fun x=>x.1.isSome)
   && decide ((e::es).length + ([]:List Keyword).length + (if ([]:List Keyword).isEmpty then 0 else 1) < 30))=true:=by rfl)
  (hline:(apos.endLine == cpos.line)=true:=by rfl) (hs:starEach (e::es) X.env=(false,eval e X.env)::starEach es X.env:=by rfl) (hplain:(backTo cpos (starEach es X.env)).any (·.1)=false:=by rfl):
  PE X (.Call (.Attribute o name apos) (e::es) [] cpos) (tBM X.K T r to t):=by
 intro pins s σ H Q I h
 refine wpAny_Call_method_late hbase hfew hline rfl (thn (ho pins s σ H _ I h) fun v s1 pq43=>?_)
 obtain⟨x,H1,I1,r1,ty,q1⟩:=pq43
 obtain⟨h1,h2⟩:=Qcp I1 r1 ty
 refine⟨T,id,pa,slot,hty,h1,h2,?_⟩
 have hA:=ha cpos pins s1 σ H1 _ I1 q1
 rw[hs]at hA ⊢
 refine Calls.callWith_builtin (by show (false || (backTo cpos (starEach es X.env)).any (·.1))=false;rw[hplain]<;>rfl) (Calls.evalArgs_plain ?_)
 exact thn hA fun us s2 pq44=>by obtain⟨vs,H2,I2,r2,q2⟩:=pq44;exact hm pins s2 σ H2 x vs v us Q I2 r1 r2 q2
end
def MtM (X:Cx) (id:String) (r:V->List V->Hp->VK->Prop):Prop:=
 ∀ (pins:List (Addr × Obj)) (s:Shared) (σ:St) (H:Hp) (x:V) (xs:List V) (v:Value) (us:List Value) (Q:VK),Inv X pins σ H s->RelV x v->Vals xs us->r x xs H Q ->
  wpAny (model X.prog X.w) X.A (call (.builtin id) (v::us)) (EP X pins σ Q) X.xe s
theorem Vals.one {x:V}{us:List Value} (h:Vals [x] us):∃ u,us=[u]/\RelV x u:=by
 cases h with
 | cons r h=>cases h;exact⟨_,rfl,r⟩
theorem Vals.zero:∀ {us:List Value},Vals [] us->us=[]
 | _,.nil=>rfl
theorem Vals.dropLast {xs:List V}{us:List Value} (h:Vals xs us):Vals xs.dropLast us.dropLast:=by
 induction h with
 | nil=>exact .nil
 | cons r t ih=>
  cases t with
  | nil=>exact .nil
  | cons q t'=>exact .cons r ih
theorem Vals.reverse {xs:List V}{us:List Value} (h:Vals xs us):Vals xs.reverse us.reverse:=by
 induction h with
 | nil=>exact .nil
 | cons r t ih=>rw[List.reverse_cons,List.reverse_cons];exact Vals.append ih (.cons r .nil)
theorem Vals.rep {xs:List V}{us:List Value} (h:Vals xs us):∀ k:Nat,Vals (List.replicate k xs).flatten (List.replicate k us).flatten
 | 0=>.nil
 | k + 1=>by
  rw[List.replicate_succ,List.replicate_succ,List.flatten_cons,List.flatten_cons]
  exact Vals.append h (Vals.rep h k)
theorem Qcs {α:Type} (l:List α):l.eraseIdx (l.length - 1)=l.dropLast:=by
 induction l with
 | nil=>rfl
 | cons a r ih=>
  cases r with
  | nil=>rfl
  | cons b r=>
   have e:(a::b::r).length - 1=((b::r).length - 1) + 1:=by
    have h1:(a::b::r).length=r.length + 2:=rfl
    have h2:(b::r).length=r.length + 1:=rfl
    ac_nf
   rw[e,List.eraseIdx_cons_succ,ih]
   all_goals rfl
theorem Qct (its : List Value) : ∀ (k : Nat) (acc : List Value),
  List.foldl (fun x1 x2=>x1++x2) acc.toArray (List.replicate k its.toArray)=(acc++(List.replicate k its).flatten).toArray
 | 0,acc=>by simp
 | k + 1,acc=>by
  have e:acc.toArray++its.toArray=(acc++its).toArray:=by simp
  have e2:(acc++its)++(List.replicate k its).flatten=acc++(List.replicate (k + 1) its).flatten:=by
   rw[List.replicate_succ,List.flatten_cons,List.append_assoc]
  rw[<- e2,<- Qct its k (acc++its),<- e,List.replicate_succ,List.foldl_cons]
section
variable {X:Cx}{pins:List (Addr × Obj)}{σ:St}{H:Hp}{s:Shared}{l b:Addr}{xs ys zs:List V}
theorem Inv.lset {its its' : List Value} {n : Nat} {f : Array Value -> Array Value} {t' : Nat} (I : Inv X pins σ H s) (hH : H l = some (.lst xs))
  (e:s.heap.get? l=some { cls:=.type "list",data:=.seq its.toArray n }) (hf:f its.toArray=its'.toArray) (hv:Vals ys its') (hz:ys.length<=sizeLine):
  Inv X pins σ (upd H l (.lst ys)) { s with heap:=s.heap.update l (Obj.mapSeq f),toks:=t' }:=by
 have q:=PySem.IsL.update e f
 rw[hf]at q
 refine I.write (x:=l) (e:=l) (by rw[hH];exact trivial) (.inl rfl) (fun b' u hb hu=>(Heap.get?_update_other s.heap (Obj.mapSeq f) (Ne.symm hb)).trans hu) ⟨_,q⟩ ?_
 exact⟨hz,its',_,hv,q⟩
theorem Inv.lnew {its : List Value} {t' : Nat} (I : Inv X pins σ H s) (hv : Vals ys its) (hz : ys.length <= sizeLine) :
  Inv X pins σ (upd H s.heap.objs.size (.lst ys)) { s with heap:=s.heap.push { cls:=.type "list",data:=.seq its.toArray },toks:=t' }:=
 I.laid (fun _ _ q=>Heap.get?_push_of_some _ q) (Nat.le_refl _) ⟨hz,its,0,hv,Heap.get?_push_size _ rfl⟩
theorem Inv.fresh (I:Inv X pins σ H s):H s.heap.objs.size=none:=I.hok.fresh (Nat.le_refl _)
theorem Inv.lstM (I:Inv X pins σ H s) (hH:H l=some (.lst xs)):xs.length<=sizeLine/\∃ (its:List Value) (n:Nat),Vals xs its/\xs.length=its.length/\s.heap.get? l=some { cls:=.type "list",data:=.seq its.toArray n }:=by
 obtain⟨z,its,n,r,e⟩:=I.hok l _ hH
 exact⟨z,its,n,r,r.length,e⟩
theorem Qcu {n:Nat} (h:n<=sizeLine):Builtin.List.listTooLong n=false:=by
 unfold Builtin.List.listTooLong
 exact decide_eq_false (by ac_nf)
end
section
variable {X:Cx}
def rAppend:V->List V->Hp->VK->Prop:=fun x vs H Q=>∃ l xs y,x=.ref l/\vs=[y]/\H l=some (.lst xs)/\xs.length < sizeLine/\Q .non (upd H l (.lst (xs++[y])))
theorem Qcv:MtM X "list.append" rAppend:=by
 intro pins s σ H x vs v us Q I rx rv h
 obtain⟨l,xs,y,rfl,rfl,hH,hz,q⟩:=h
 cases rx
 obtain⟨u,rfl,ru⟩:=rv.one
 obtain⟨z,its,n,r,hl,e⟩:=I.lstM hH
 refine call_meets F.slot_list_append ⟨_,e,rfl⟩ F.entry_list_append (F.args_list_append_2 _ _) (PySem.list_append l its.toArray n u (by rw[List.size_toArray];ac_nf)) ⟨e,?_⟩
 refine⟨.non,_,I.lset (its':=its++[u]) hH e (by simp) (r.append (.cons ru .nil)) ?_,rfl,q⟩
 rw[List.length_append,List.length_singleton]
 ac_nf
def rPop:V->List V->Hp->VK->Prop:=fun x vs H Q=>∃ l xs y,x=.ref l/\vs=[]/\H l=some (.lst xs)/\xs[xs.length - 1]?=some y/\Q y (upd H l (.lst xs.dropLast))
theorem Qcw:MtM X "list.pop" rPop:=by
 intro pins s σ H x vs v us Q I rx rv h
 obtain⟨l,xs,y,rfl,rfl,hH,hy,q⟩:=h
 cases rx
 have hus:=rv.zero
 subst hus
 obtain⟨z,its,n,r,hl,e⟩:=I.lstM hH
 obtain⟨u,hu,ru⟩:=r.get hy
 have hy':its.toArray[its.toArray.size - 1]?=some u:=by
  show its.toArray[its.length - 1]?=some u
  rw[<- Array.getElem?_toList,<- hl]
  exact hu
 refine call_meets F.slot_list_pop ⟨_,e,rfl⟩ F.entry_list_pop (F.args_list_pop_1 _) (MeetsSeq.list_pop_last l its.toArray n u hy' (by rw[List.size_toArray];ac_nf)) ⟨e,?_⟩
 refine⟨y,_,I.lset (its':=its.dropLast) hH e ?_ r.dropLast ?_,ru,q⟩
 ·show its.toArray.eraseIdxIfInBounds (its.toArray.size - 1)=its.dropLast.toArray
  rw[List.size_toArray,List.eraseIdxIfInBounds_toArray,Qcs]
 ·rw[List.length_dropLast]
  ac_nf
def rCat:R2:=fun x y H Q=>∃ l b xs zs,x=.ref l/\y=.ref b/\H l=some (.lst xs)/\H b=some (.lst zs)/\xs.length + zs.length<=sizeLine/\∀ p,H p=none->Q (.ref p) (upd H p (.lst (xs++zs)))
theorem Qcx:OpR X (binaryOp .Add) rCat:=by
 intro pins s σ H x y v u Q I rx ry h
 obtain⟨l,b,xs,zs,rfl,rfl,hH,hB,hz,q⟩:=h
 cases rx
 cases ry
 obtain⟨z,its,n,r,hl,e⟩:=I.lstM hH
 obtain⟨z2,its2,n2,r2,hl2,e2⟩:=I.lstM hB
 refine PySem.P.add_list e e2 ?_ (by rw[List.size_toArray,List.size_toArray];ac_nf)
 have ea:its.toArray++its2.toArray=(its++its2).toArray:=by simp
 rw[ea]
 exact⟨.ref _,_,I.lnew (t':=s.toks) (r.append r2) (by rw[List.length_append];ac_nf),rfl,q _ I.fresh⟩
def rRep:R2:=fun x y H Q=>∃ l k xs,x=.ref l/\y=.int k/\H l=some (.lst xs) /\ -(2 ^ 63)<=k/\k < 2 ^ 63/\xs.length * k.toNat<=sizeLine /\
 ∀ p,H p=none->Q (.ref p) (upd H p (.lst (List.replicate k.toNat xs).flatten))
theorem Qcy {α:Type} (xs:List α) (k:Nat):(List.replicate k xs).flatten.length=k * xs.length:=by
 induction k with
 | zero=>simp
 | succ k ih=>rw[List.replicate_succ,List.flatten_cons,List.length_append,ih,Nat.succ_mul,Nat.add_comm]
theorem Qcz:OpR X (binaryOp .Mult) rRep:=by
 intro pins s σ H x y v u Q I rx ry h
 obtain⟨l,k,xs,rfl,rfl,hH,h1,h2,hz,q⟩:=h
 cases rx
 obtain⟨t,rfl⟩:=ry
 obtain⟨z,its,n,r,hl,e⟩:=I.lstM hH
 have hlen:its.toArray.size * k.toNat<=sizeLine:=by rw[List.size_toArray,<- hl];exact hz
 have hcap:¬ its.toArray.size * k.toNat > (2 ^ 63 - 1) / 8:=by
  have:(sizeLine:Nat)<=(2 ^ 63 - 1) / 8:=by decide
  ac_nf
 have hfit:¬ (!Builtin.List.listFitsIndex k)=true:=by
  rw[fitsIndex_both h1 h2]
  exact Bool.false_ne_true
 have hlong:¬ Builtin.List.listTooLong (its.toArray.size * k.toNat)=true:=by
  rw[Qcu hlen]
  exact Bool.false_ne_true
 have hnew:List.foldl (fun x1 x2=>x1++x2) #[] (List.replicate (if its.toArray.isEmpty=true then 0 else k.toNat) its.toArray)=(List.replicate k.toNat its).flatten.toArray:=by
  have f0:∀ m:Nat,List.foldl (fun x1 x2=>x1++x2) #[] (List.replicate m its.toArray)=(List.replicate m its).flatten.toArray:=fun m=>by
   have:=Qct its m []
   rw[List.nil_append]at this
   exact this
  rw[f0]
  cases its with
  | nil=>simp
  | cons a r'=>rw[if_neg (by simp)]
 refine wpAny_binaryOp_repeat_ref (T:="list") (U:="int") (by decide) ⟨_,e,rfl⟩ (fun s'=>typeIs_int s' k t) noFill_list_mul F.fills_int_mul F.slot_int_rmul repeat_list F.slot_int_index.lookup
  (call_meets F.slot_int_rmul (typeIs_int s k t) F.entry_int_rmul (F.args_int_rmul_2 _ _) (int___rmul___int_list k t l its.toArray n)
   ⟨e,rfl,⟨_,e,rfl⟩,call_meets F.slot_list_mul ⟨_,e,rfl⟩ F.entry_list_mul (F.args_list_mul_2 _ _) (AutoListH.list___mul___list_int_3 l its.toArray n k t hfit hcap hlong) ⟨e,?_⟩⟩)
 rw[hnew]
 exact⟨.ref _,_,I.lnew (t':=s.toks) (r.rep k.toNat) (by rw[Qcy,Nat.mul_comm];exact hz),rfl,q _ I.fresh⟩
end
section
variable {prog:Program}{w:World}{A:Around}{E:Value->Shared->Prop}{s:Shared}
theorem QcA {a c n:Nat} (hac:a<=c) (hc:c<=n):sliceBounds (some (a:Int)) (some (c:Int)) none n=((a:Int),(c:Int),1):=by
 simp only[sliceBounds,Option.getD_none]
 have h1:¬ ((a:Int) < 0):=by ac_nf
 have h2:¬ ((c:Int) < 0):=by ac_nf
 simp only[h1,h2,if_false,show (1:Int) > 0 by decide,if_true]
 congr 1
 ·ac_nf
 ·congr 1;ac_nf
end
end L2
namespace Att
open PySem PySem.W PySem.Calls PyProof.Rows
theorem QcC {P:Params}{h:Heap}:∀ (ns:List Int) (vs:List Value),WellAll P h vs (ns.map WData.int)->IntsAre vs ns:=by
 intro ns
 induction ns with
 | nil=>
  intro vs w
  rw[List.map_nil]at w
  cases w
  exact .nil
 | cons n ns ih=>
  intro vs w
  rw[List.map_cons]at w
  cases w with
  | cons a b=>
   cases a
   exact .cons _ _ (ih _ b)
theorem QcD {l : OpenLaw} {n : Nat} (hn : l.most = some n) {P : Params} {h : Heap} {args : List WData} {vals : List Value}
  (hpre:l.row.toRowW.claim.pre args=true) (hwl:WellAll P h vals args):
  ∃ a vs ns,vals=[Value.ref a]/\args=[WData.list (ns.map WData.int)]/\h.get? a=some { cls:=.type "list",data:=.seq vs.toArray }/\IntsAre vs ns/\ns.length<=n:=by
 have hsh:WShape.hasAll [] args [.list .int]=true:=(pre_splitW hpre).1
 have hc:l.pre.holds [] { args:=args }=true:=(pre_splitW hpre).2
 obtain⟨d,r,rfl,h1,h2⟩:=hasAllW_cons hsh
 obtain rfl:=hasAllW_nil h2
 obtain⟨xs,rfl,h3⟩:=hasW_list h1
 obtain⟨ns,rfl⟩:=items_int h3
 have hlen:ns.length<=n:=by
  unfold OpenLaw.pre at hc
  have h4:(WTm.not (.lt (.lit (.int (n:Int))) (.len (.arg 0)))).holds [] { args:=[.list (ns.map .int)] }=true:=by
   have h4:=(holds_andW hc).1
   rw[hn]at h4
   exact h4
  have h5:=condW_of h4 (w_not (w_lt w_lit (w_len_list (w_arg rfl))))
  rw[List.length_map]at h5
  refine Nat.le_of_not_lt fun q=>?_
  have q':(n:Int) < ((ns.length:Nat):Int):=by ac_nf
  first
   | (rw[decide_eq_true q']at h5;exact absurd h5 (by decide))
   | (simp at h5;ac_nf)
 cases hwl with
 | cons w1 w2=>
  cases w2
  cases w1 with
  | list ho hall=>exact⟨_,_,ns,rfl,rfl,ho,QcC ns _ hall,hlen⟩
theorem QcE (l:OpenLaw) (args:List WData):l.row.toRowW.claim.post args (.bool true) args=true:=
 postW_of (r:=l.row.toRowW) (X:=(true == true))
  (show WShape.has [] (.bool true) .bool=true by first | rfl | decide | simp[WShape.has,WShape.arms,WShape.armsAll])
  (show (WTm.eq .res (.lit (.bool true))).value [] { args:=args,res:=some (.bool true),after:=args }=some (.bool (true == true)) from w_eq_bool (w_res rfl) w_lit) rfl
theorem attach_call {l : OpenLaw} {n : Nat} {q : Program} {loose : List Str} {XP : (Str -> Option Value) -> Heap -> Prop} {YP : World -> Heap -> Prop} {d : DefRec}
  (hn:l.most=some n) (hdf:d.params.defaults=[])
  (call:∀ (w:World) (s₀ s₁:Shared) (mg mb:Str->Option Value) (fa:Addr) (o:Obj) (pm cd doc:Value) (a:Addr) (vs:List Value) (ns:List Int),
   Ground q loose [] XP w s₀ mg mb s₁.heap->YP w s₁.heap ->
   s₁.heap.get? fa=some o->o.data=.func (docDef d.name d.params d.body d.scope pm cd doc)->s₁.heap.CodeRec cd d.name->mg d.name=some (.ref fa) ->
   s₁.heap.get? a=some { cls:=.type "list",data:=.seq vs.toArray }->IntsAre vs ns->ns.length<=n->s₁.gens=#[] ->
   codeAny (model l.prog w) callerA (.call (.ref fa) ⟨[.ref a],[]⟩) (fun r s'=>r=.ok (.ret (.bool true))/\OldK s₁.heap s'.heap/\s'.os=s₁.os/\AllBare s'.gens) s₁):
  WalkO q loose XP YP l.row.toRowW d [] (fun f vs=>PySem.call f vs):=by
 intro w s₀ s₁ mg mb G Y fa o pm cd doc dV kV ho hd hcd hD hmg hg args vals as hpre hlay hrd hwl hlo
 obtain rfl:dV=.none:=Dflts.none hD hdf
 obtain rfl:kV=.none:=Dflts.noKw hD
 obtain⟨a,vs,ns,rfl,rfl,hobj,hints,hlen⟩:=QcD hn hpre hwl
 refine enter_call (codeAny_mono (call w s₀ s₁ mg mb fa o pm cd doc a vs ns G Y ho (fd_plain hd) hcd hmg hobj hints hlen hg) fun r s' hq=>?_)
 obtain⟨rfl,h2,h3,h4⟩:=hq
 exact⟨.inl ⟨.bool true,.bool true,[],rfl,fun _=>rfl,.bool true,QcE l _,fun _=>⟨List.Pairwise.nil,fun _ hm=>(nomatch hm)⟩⟩,h2,h3,h4⟩
end Att
namespace L2
open PySem PySem.Spec PyProof.Rows
theorem QcF:∀ {vs:List Value}{ns:List Int},IntsAre vs ns->Vals (ns.map V.int) vs
 | _,_,.nil=>.nil
 | _,_,.cons n t h=>.cons ⟨t,rfl⟩ (QcF h)
def Only (H:Hp):Prop:=∀ b,H b=none\/∃ o xs,H b=some (.frz o (.lst xs))
theorem QcG {P : Program} {w : World} {K : PySem.W.Frag} {mg mb : Str -> Option Value} {CX : CXT} {k : Nat} {fa a : Addr} {fd : FuncData} {x : Str} {sp : Sp} {s₁ : Shared} {vs : List Value} {ns : List Int}
  (KX:K.In s₁.heap) (hns:s₁.heap.Ns mainGlobals mg) (hb:s₁.heap.Ns builtinsNs mb) (hbb:∀ x:Str,x≠"__name__"->mb x=bootBuiltins x) (hlim:s₁.heap.NoLimit) (hg:s₁.gens=#[])
  (ha:s₁.heap.get? a=some { cls:=.type "list",data:=.seq vs.toArray }) (hi:IntsAre vs ns) (hl:ns.length<=sizeLine) (hr:Room k callerA)
  (F:∀ base:Heap,K.In base->base.Ns mainGlobals mg->FnOk P w K mg base CX k fa fd [x] sp) (hbind:∀ (s:Shared) (u:Value),BindsTo s fd ⟨[u],[]⟩ [(x,u)])
  (hsp:∀ H:Hp,Only H->SqL K H a (ns.map V.int)->sp [.ref a] H (fun v _=>v=.bl true) fun _ _ _=>False)
  (hCX:∀ H e s',CX [] H s₁ (fun _ _ _=>False) e s'->False):
  codeAny (model P w) callerA (.call (.ref fa) ⟨[.ref a],[]⟩) (fun r s'=>r=.ok (.ret (.bool true))/\OldK s₁.heap s'.heap/\s'.os=s₁.os/\AllBare s'.gens) s₁:=by
 have rv:=QcF hi
 have lenV:=hi.length
 have core : ∀ H : Hp, Only H -> SqL K H a (ns.map V.int) -> HOk P w H s₁.heap -> (∀ b, H b ≠ none -> b = a) -> (H a ≠ none -> K.lookup a = none) ->
   codeAny (model P w) callerA (.call (.ref fa) ⟨[.ref a],[]⟩) (fun r s'=>r=.ok (.ret (.bool true))/\OldK s₁.heap s'.heap/\s'.os=s₁.os/\AllBare s'.gens) s₁:=by
  intro H hO hS hok hA hK
  have base_of:∀ {b:Addr}{o:Obj},s₁.heap.get? b=some o->H b=none->(hidT s₁.heap H).get? b=some o:=fun e n=>Qan e n
  have noA:∀ {b:Addr}{o:Obj}{es:Array DictEntry}{ep:Nat},s₁.heap.get? b=some o->o.data=.dict es ep->H b=none:=fun {b o es ep} e d=>by
   cases q:H b with
   | none=>rfl
   | some u=>
    have e':b=a:=hA b (by rw[q];simp)
    subst e'
    rw[ha]at e;cases e
    have d':Data.seq vs.toArray _=Data.dict es ep:=d
    cases d'
  have nsK:∀ {b:Addr}{m:Str->Option Value},s₁.heap.Ns b m->(hidT s₁.heap H).Ns b m:=fun {b m} pq45=>by obtain⟨o,es,ep,e,d,r⟩:=pq45;exact⟨o,es,ep,base_of e (noA e d),d,r⟩
  have hKb:K.In (hidT s₁.heap H):=fun b o e=>base_of (KX b o e) (by
   cases q:H b with
   | none=>rfl
   | some u=>
    have e':b=a:=hA b (by rw[q];simp)
    subst e'
    rw[hK (by rw[q];simp)]at e;cases e)
  have hM:Mod K mg (hidT s₁.heap H):=⟨hKb,nsK hns,⟨mb,nsK hb,hbb⟩,let ⟨mc,h1,h2⟩:=hlim;⟨mc,nsK h1,h2⟩⟩
  have e0:Env0 P w K mg (hidT s₁.heap H) callerA [] s₁ H:=⟨rfl,hM,fun b o e=>Qao e,Nat.le_of_eq (Qam _ _),trivial,fun b hb=>absurd (show b∈([]:List Addr) from hb) (by simp),hok,.of_eq hg⟩
  refine codeAny_mono ((F _ hKb (nsK hns)).run callerA [] s₁ H ⟨[.ref a],[]⟩ [.ref a] [.ref a] _ _ hr e0 (hbind s₁ (.ref a)) (.cons rfl .nil) (hsp H hO hS)) fun r s' h=>?_
  cases r with
  | error e=>exact (hCX H e s' h).elim
  | ok fl=>
   cases fl with
   | next=>exact False.elim h
   | brk=>exact False.elim h
   | cont=>exact False.elim h
   | ret u=>
    obtain⟨v,H',os,bare,un,hok',r',q⟩:=h
    have q':v=.bl true:=q
    subst q'
    obtain rfl:u=Value.bool true:=r'
    refine⟨rfl,OldK.of_keep fun b o e=>?_,os,bare⟩
    cases q:H b with
    | none=>exact un.keep b o e q (by intro z;exact absurd (show b∈([]:List Addr) from z) (by simp)) (by simp)
    | some u=>
     rcases hO b with z | ⟨ob,xs,z⟩
     ·rw[q]at z;cases z
     ·have z2:=un.frzs b ob _ z
      obtain⟨e1,_⟩:=hok b _ z
      obtain⟨e2,_⟩:=hok' b _ z2
      rw[e]at e1;cases e1
      exact e2
 cases hk:K.lookup a with
 | some o=>
  have e:=KX a o hk
  rw[ha]at e
  cases e
  refine core (fun _=>none) (fun _=>.inl rfl) (.inr ⟨_,vs.toArray,_,hk,rfl,rfl,rfl,by rw[List.size_toArray,lenV];exact hl,by simpa using rv⟩) (fun b u z=>by have z':(none:Option HO)=some u:=z;cases z') (fun b z=>absurd rfl z) fun z=>absurd rfl z
 | none=>
  refine core (fun b=>if b=a then some (.frz { cls:=.type "list",data:=.seq vs.toArray } (.lst (ns.map V.int))) else none) (fun b=>?_) (.inl (.inr ⟨{ cls:=.type "list",data:=.seq vs.toArray },if_pos rfl⟩)) (fun b u z=>?_) (fun b z=>?_) fun _=>hk
  ·by_cases hb:b=a
   ·exact .inr ⟨_,_,if_pos hb⟩
   ·exact .inl (if_neg hb)
  ·by_cases hb:b=a
   ·have z':=(if_pos hb).symm.trans z
    cases z'
    subst hb
    exact⟨ha,by rw[List.length_map];exact hl,vs,_,rv,ha⟩
   ·have z':=(if_neg hb).symm.trans z
    cases z'
  ·by_cases hb:b=a
   ·exact hb
   ·exact absurd (if_neg hb) z
theorem walk_of {l : PySem.W.OpenLaw} {n k : Nat} {q : Program} {loose : List Str} {XP : (Str -> Option Value) -> Heap -> Prop} {YP : World -> Heap -> Prop} {d : DefRec} {K : Params -> PySem.W.Frag} {CX : World -> CXT} {sp : World -> Sp} {x : Str}
  (hn:l.most=some n) (hn2:n<=sizeLine) (hdf:d.params.defaults=[]) (hr:Room k callerA)
  (hY:∀ (w:World) (h:Heap),YP w h->(K w.params).In h)
  (F:∀ (w:World) (mg:Str->Option Value) (fa:Addr) (h:Heap),(K w.params).In h->h.Ns mainGlobals mg->mg d.name=some (.ref fa) ->
   ∃ fd:FuncData,(∀ (s:Shared) (u:Value),BindsTo s fd ⟨[u],[]⟩ [(x,u)]) /\
    ∀ base:Heap,(K w.params).In base->base.Ns mainGlobals mg->FnOk l.prog w (K w.params) mg base (CX w) k fa fd [x] (sp w))
  (hsp:∀ (w:World) (H:Hp) (a:Addr) (ns:List Int),ns.length<=n->Only H->SqL (K w.params) H a (ns.map V.int)->sp w [.ref a] H (fun v _=>v=.bl true) fun _ _ _=>False)
  (hCX:∀ (w:World) (H:Hp) (s:Shared) (e:Value) (s':Shared),CX w [] H s (fun _ _ _=>False) e s'->False):
  PySem.W.WalkO q loose XP YP l.row.toRowW d [] (fun f vs=>PySem.call f vs):=by
 refine Att.attach_call hn hdf fun w s₀ s₁ mg mb fa o pm cd doc a vs ns G Y ho hd hcd hmg hobj hints hlen hg=>?_
 have KX:=hY w _ Y
 obtain⟨fd,hb,hF⟩:=F w mg fa _ KX G.T.g hmg
 exact QcG KX G.T.g G.T.b G.T.builtins G.T.nolimit hg hobj hints (Nat.le_trans hlen hn2) hr hF hb (fun H hO hS=>hsp w H a ns hlen hO hS) fun H e s'=>hCX w H s₁ e s'
theorem walk_ofK {l : PySem.W.OpenLaw} {n k : Nat} {q : Program} {loose : List Str} {XP : (Str -> Option Value) -> Heap -> Prop} {YP : World -> Heap -> Prop} {d : DefRec} {K : Params -> PySem.W.Frag} {CX : CXT} {sp : PySem.W.Frag -> Sp} {x : Str}
  (hn:l.most=some n) (hn2:n<=sizeLine) (hdf:d.params.defaults=[]) (hr:Room k callerA)
  (hY:∀ (w:World) (h:Heap),YP w h->(K w.params).In h)
  (F:∀ (w:World) (mg:Str->Option Value) (fa:Addr) (h:Heap),(K w.params).In h->h.Ns mainGlobals mg->mg d.name=some (.ref fa) ->
   ∃ fd:FuncData,(∀ (s:Shared) (u:Value),BindsTo s fd ⟨[u],[]⟩ [(x,u)]) /\
    ∀ base:Heap,(K w.params).In base->base.Ns mainGlobals mg->FnOk l.prog w (K w.params) mg base CX k fa fd [x] (sp (K w.params)))
  (hsp:∀ (K:PySem.W.Frag) (H:Hp) (a:Addr) (ns:List Int),ns.length<=n->Only H->SqL K H a (ns.map V.int)->sp K [.ref a] H (fun v _=>v=.bl true) fun _ _ _=>False)
  (hCX:∀ (H:Hp) (s:Shared) (e:Value) (s':Shared),CX [] H s (fun _ _ _=>False) e s'->False):
  PySem.W.WalkO q loose XP YP l.row.toRowW d [] (fun f vs=>PySem.call f vs):=
 walk_of (K:=K) (CX:=fun _=>CX) (sp:=fun w=>sp (K w.params)) hn hn2 hdf hr hY F (fun w H a ns h1 h2 h3=>hsp (K w.params) H a ns h1 h2 h3) fun _ H s e s'=>hCX H s e s'
def defArgs (s:Stmt):Arguments:=match s with
 | .FunctionDef _ a _ _ _ _ _ _ _ _=>a
 | _=>{ posonlyargs:=[],args:=[],vararg:=none,kwonlyargs:=[],kw_defaults:=[],kwarg:=none,defaults:=[] }
def defBody (s:Stmt):List Stmt:=match s with
 | .FunctionDef _ _ b _ _ _ _ _ _ _=>b
 | _=>[]
def defScope (s:Stmt):Scope:=match s with
 | .FunctionDef _ _ _ _ _ _ sc _ _ _=>sc
 | _=>{ kind:=.function,names:=[],isGenerator:=false,isCoroutine:=false }
abbrev CX0:CXT:=fun _ _ _ _ _ _=>False
abbrev E0:XK:=fun _ _ _=>False
theorem QcH {X:Cx}:Passes CX0 X E0:=fun _ _ _ _ _ _ _ h=>h.elim
structure Fun (K:PySem.W.Frag) (x qual:Str) (st:Stmt) (f:Addr) (fd:FuncData):Prop where
 ex:∃ (oc:Value) (od:Option Addr) (kV doc pm:Value) (an:Option Addr) (cdv ct:Value) (osl:Array (Option Value)),
  fd=PySem.W.fnOf x qual (defArgs st) (defBody st) (defScope st) .none kV doc pm an cdv ct/\K.lookup f=some ⟨oc,od,.func fd,osl⟩/\PySem.W.codeIn K cdv qual=true
 kp:PySem.W.keepIn K (.ref f)=true
section
variable {P:Program}{w:World}{K:PySem.W.Frag}{mg:Str->Option Value}{base:Heap}
theorem Fun.ok {x qual : Str} {st : Stmt} {f : Addr} {fd : FuncData} {N ps : List Str} {k : Nat} {sp : Sp} (F : Fun K x qual st f fd) (S : FnScope N ps (defScope st)) (len : ∀ vs H Q E, sp vs H Q E -> vs.length = ps.length)
  (hbody:∀ (cdv:Value) (A:Around) (outer:List Env) (s:Shared) (H:Hp) (vs:List V) (Q:VK) (E:XK),Room k (A.deeper (envOfC qual (defScope st) s.heap.objs.size f cdv))->sp vs H Q E ->
   ∃ t,PSs (cxOf CX0 P w K mg base N qual (defScope st) f cdv A outer s H E).nox (defBody st) t/\t { nx:=fun _ H'=>Q .non H',rt:=Q } (start N vs) H):FnOk P w K mg base CX0 (k + 1) f fd ps sp:=by
 obtain⟨oc,od,kV,doc,pm,an,cdv,ct,osl,rfl,lk,hcd⟩:=F.ex
 refine QbM lk hcd S len fun A outer s H vs Q E hr hsp=>?_
 obtain⟨t,h,q⟩:=hbody cdv A outer s H vs Q E hr hsp
 exact⟨t,h.nox,q⟩
theorem Fun.binds {x qual : Str} {st : Stmt} {f : Addr} {fd : FuncData} {ps : List Str} (F : Fun K x qual st f fd)
  (h:∀ (kV doc pm:Value) (an:Option Addr) (cdv ct:Value) (us:List Value),us.length=ps.length->bindArgs (PySem.W.fnOf x qual (defArgs st) (defBody st) (defScope st) .none kV doc pm an cdv ct) ⟨us,[]⟩=pure (ps.zip us)):Binds K fd ps []:=by
 obtain⟨oc,od,kV,doc,pm,an,cdv,ct,osl,rfl,lk,hcd⟩:=F.ex
 exact .all (h kV doc pm an cdv ct)
theorem QcI {x qual : Str} {st : Stmt} {f : Addr} {oc : Value} {od an : Option Addr} {osl : Array (Option Value)} {kV doc pm cdv ct : Value} (l : K.lookup f = some ⟨oc, od, .func (PySem.W.fnOf x qual (defArgs st) (defBody st) (defScope st) .none kV doc pm an cdv ct), osl⟩)
  (c:PySem.W.codeIn K cdv qual=true) (k:PySem.W.keepIn K (.ref f)=true):Fun K x qual st f (PySem.W.fnOf x qual (defArgs st) (defBody st) (defScope st) .none kV doc pm an cdv ct):=⟨⟨oc,od,kV,doc,pm,an,cdv,ct,osl,rfl,l,c⟩,k⟩
end
section
variable {κ:Type} [DecidableEq κ]
def valV (kvs:List (κ × V)) (k:κ):Option V:=(kvs.find? fun kv=>decide (kv.1=k)).map (·.2)
def putK (kvs:List (κ × V)) (k:κ) (v:V):List (κ × V):=
 if (kvs.any fun kv=>decide (kv.1=k))=true then kvs.map (fun kv=>if kv.1=k then (kv.1,v) else kv) else kvs++[(k,v)]
theorem QcJ {p:κ × V}{r:List (κ × V)}{k:κ} (e:p.1=k):valV (p::r) k=some p.2:=by simp[valV,List.find?_cons,e]
theorem QcK {p:κ × V}{r:List (κ × V)}{k:κ} (e:¬ p.1=k):valV (p::r) k=valV r k:=by simp[valV,List.find?_cons,e]
theorem QcL (k:κ):∀ kvs:List (κ × V),(kvs.any fun kv=>decide (kv.1=k))=(valV kvs k).isSome
 | []=>rfl
 | p::r=>by
  rw[List.any_cons]
  by_cases e:p.1=k
  ·simp only[QcJ e,decide_eq_true e,Bool.true_or,Option.isSome_some]
  ·rw[QcK e,decide_eq_false e,Bool.false_or];exact QcL k r
theorem QcM (kvs:List (κ × V)) (k:κ) (v:V):(putK kvs k v).length<=kvs.length + 1:=by
 unfold putK
 split
 ·rw[List.length_map];ac_nf
 ·rw[List.length_append,List.length_cons,List.length_nil];ac_nf
theorem RelO.isSome_eq {o:Option V}{u:Option Value} (r:RelO o u):o.isSome=u.isSome:=by
 cases o with
 | none=>cases u with
  | none=>rfl
  | some _=>exact (show False from r).elim
 | some _=>cases u with
  | none=>exact (show False from r).elim
  | some _=>rfl
theorem KV.val {kvs:List (κ × V)}{vs:List (κ × Value)} (r:KV kvs vs) (k:κ):RelO (valV kvs k) (valueAt vs k):=by
 unfold KV at r
 induction r with
 | nil=>exact True.intro
 | @cons p q ps qs h t ih=>
  obtain⟨h1,h2⟩:=h
  by_cases e:p.1=k
  ·have e':q.1=k:=h1.symm.trans e
   have b:valueAt (q::qs) k=some q.2:=by simp[valueAt,List.find?_cons,e']
   rw[QcJ e,b];exact h2
  ·have e':¬ q.1=k:=fun z=>e (h1.trans z)
   have b:valueAt (q::qs) k=valueAt qs k:=by simp[valueAt,List.find?_cons,e']
   rw[QcK e,b];exact ih
theorem KV.any {kvs:List (κ × V)}{vs:List (κ × Value)} (r:KV kvs vs) (k:κ):(kvs.any fun kv=>decide (kv.1=k))=vs.any fun kv=>decide (kv.1=k):=by
 unfold KV at r
 induction r with
 | nil=>rfl
 | cons h t ih=>rw[List.any_cons,List.any_cons,ih,h.1]
theorem KV.repl {kvs : List (κ × V)} {vs : List (κ × Value)} (r : KV kvs vs) (k : κ) {y : V} {u : Value} (ry : RelV y u) :
  KV (kvs.map fun kv=>if kv.1=k then (kv.1,y) else kv) (vs.map fun kv=>if kv.1=k then (kv.1,u) else kv):=by
 unfold KV at r ⊢
 induction r with
 | nil=>exact .nil
 | @cons p q ps qs h t ih=>
  rw[List.map_cons,List.map_cons]
  refine .cons ?_ ih
  obtain⟨h1,h2⟩:=h
  by_cases e:p.1=k
  ·rw[if_pos e,if_pos (h1.symm.trans e)];exact⟨h1,ry⟩
  ·rw[if_neg e,if_neg (fun z=>e (h1.trans z))];exact⟨h1,h2⟩
theorem KV.put {kvs:List (κ × V)}{vs:List (κ × Value)} (r:KV kvs vs) (k:κ) {y:V}{u:Value} (ry:RelV y u):KV (putK kvs k y) (stored vs k u):=by
 unfold putK stored
 rw[r.any k]
 by_cases e:(vs.any fun kv=>decide (kv.1=k))=true
 ·rw[if_pos e,if_pos e];exact r.repl k ry
 ·rw[if_neg e,if_neg e];exact Paired.snoc r ⟨rfl,ry⟩
theorem KV.length {kvs:List (κ × V)}{vs:List (κ × Value)} (r:KV kvs vs):kvs.length=vs.length:=Paired.length r
end
theorem QcN {P:Program}{w:World}{k:Key}{u:Value} (r:RelV (kV k) u):(mixKind P w).is k u=true:=by
 cases k with
 | inl i=>obtain⟨t,e⟩:=(show ∃ t,u=Value.int i t from r);subst e;exact Qag P w i t
 | inr x=>obtain⟨t,e⟩:=(show ∃ t,u=Value.str x t from r);subst e;exact Qah P w x t
theorem QcO {P:Program}{w:World}:∀ {ks:List Key}{us:List Value},Vals (ks.map kV) us->ItemsAre (mixKind P w) ks us
 | [],_,r=>by rw[List.map_nil]at r;cases r;exact .nil
 | k::ks,_,r=>by
  rw[List.map_cons]at r
  cases r with
  | cons h t=>exact .cons (QcN h) (QcO t)
abbrev KT (H:Hp):List (List Key × V)->List (List Key × Addr × Value)->Prop:=Paired fun p q=>p.1=q.1/\H q.2.1=some (.tup (p.1.map kV))/\RelV p.2 q.2.2
theorem KT.val {H:Hp}{kvs:List (List Key × V)}{xs:List (List Key × Addr × Value)} (r:KT H kvs xs) (k:List Key):RelO (valV kvs k) ((atKey xs k).map (·.2)):=by
 induction r with
 | nil=>exact True.intro
 | @cons p q ps qs h t ih=>
  obtain⟨h1,_,h2⟩:=h
  by_cases e:p.1=k
  ·have e':q.1=k:=h1.symm.trans e
   have b:atKey (q::qs) k=some q.2:=by simp[atKey,List.find?_cons,e']
   rw[QcJ e,b];exact h2
  ·have e':¬ q.1=k:=fun z=>e (h1.trans z)
   have b:atKey (q::qs) k=atKey qs k:=by simp[atKey,List.find?_cons,e']
   rw[QcK e,b];exact ih
theorem KT.repl {H : Hp} {kvs : List (List Key × V)} {xs : List (List Key × Addr × Value)} (r : KT H kvs xs) (k : List Key) {y : V} {u : Value} (ry : RelV y u) :
  KT H (kvs.map fun kv=>if kv.1=k then (kv.1,y) else kv) (xs.map (putAt k u)):=by
 induction r with
 | nil=>exact .nil
 | @cons p q ps qs h t ih=>
  rw[List.map_cons,List.map_cons]
  refine .cons ?_ ih
  obtain⟨h1,h2,h3⟩:=h
  unfold putAt
  by_cases e:p.1=k
  ·rw[if_pos e,if_pos (h1.symm.trans e)];exact⟨h1,h2,ry⟩
  ·rw[if_neg e,if_neg (fun z=>e (h1.trans z))];exact⟨h1,h2,h3⟩
theorem KT.put {H : Hp} {kvs : List (List Key × V)} {xs : List (List Key × Addr × Value)} (r : KT H kvs xs) (k : List Key) {b : Addr} {y : V} {u : Value} (hb : H b = some (.tup (k.map kV))) (ry : RelV y u) :
  KT H (putK kvs k y) (storedH xs k b u):=by
 have e:(kvs.any fun kv=>decide (kv.1=k))=(atKey xs k).isSome:=by
  rw[QcL,(r.val k).isSome_eq,Option.isSome_map]
 unfold putK storedH
 rw[e]
 by_cases q:(atKey xs k).isSome=true
 ·rw[if_pos q,if_pos q];exact r.repl k ry
 ·rw[if_neg q,if_neg q];exact Paired.snoc r ⟨rfl,hb,ry⟩
theorem KT.keeps {H H':Hp}{kvs:List (List Key × V)}{xs:List (List Key × Addr × Value)} (r:KT H kvs xs) (ht:∀ b ys,H b=some (.tup ys)->H' b=some (.tup ys)):KT H' kvs xs:=
 Paired.mapP r fun _ _ z=>⟨z.1,ht _ _ z.2.1,z.2.2⟩
section
variable {P:Program}{w:World}{H:Hp}{h:Heap}{a:Addr}
theorem QcP {u:HO} (ok:HOk P w H h) (e:Rd H a u):ObjOk P w H h a u:=e.ok ok
theorem QcQ {kvs:List (Key × V)} (ok:HOk P w H h) (e:Rd H a (.dK kvs)):kvs.length<=sizeLine/\(a == sysModules)=false/\∃ vs,KV kvs vs/\h.DictOf (mixKind P w) a vs:=
 show ObjOk P w H h a (.dK kvs) from QcP ok e
theorem QcR {kvs:List (Key × V)} (ok:HOk P w H h) (e:H a=some (.dK kvs)):kvs.length<=sizeLine/\(a == sysModules)=false/\∃ vs,KV kvs vs/\h.DictOf (mixKind P w) a vs:=QcQ ok (.inl e)
theorem QcS {ks:List Key} (ok:HOk P w H h) (e:H a=some (.tup (ks.map kV))):(tupleKind (mixKind P w)).is h ks a:=by
 obtain⟨_,its,r,o,h1,h2,n,h3⟩:=(show ObjOk P w H h a (.tup (ks.map kV)) from ok a _ e)
 exact⟨o,its.toArray,n,h1,h2,h3,by simpa using QcO r⟩
theorem QcT {kvs : List (List Key × V)} (ok : HOk P w H h) (e : Rd H a (.dT kvs)) : kvs.length <= sizeLine /\ (a == sysModules) = false /\
  ∃ xs,KT H kvs xs/\h.DictOfH (tupleKind (mixKind P w)) a xs:=by
 obtain⟨z,y,xs,r,o,es,ep,h1,h2,h3,h4,h5⟩:=(show ObjOk P w H h a (.dT kvs) from QcP ok e)
 refine⟨z,y,xs,r,o,es,ep,h1,h2,h3,h4,fun x hx=>?_,h5⟩
 have all:∀ {l:List (List Key × V)}{m:List (List Key × Addr × Value)},KT H l m->∀ x∈m,(tupleKind (mixKind P w)).is h x.1 x.2.1:=by
  intro l m q
  induction q with
  | nil=>intro x hx;exact nomatch hx
  | @cons p q ps qs hq t ih=>
   intro x hx
   rcases List.mem_cons.mp hx with e | hx
   ·subst e
    exact QcS ok (by rw[<- hq.1];exact hq.2.1)
   ·exact ih x hx
 exact all r x hx
theorem QcU {kvs : List (List Key × V)} (ok : HOk P w H h) (e : H a = some (.dT kvs)) : kvs.length <= sizeLine /\ (a == sysModules) = false /\
  ∃ xs,KT H kvs xs/\h.DictOfH (tupleKind (mixKind P w)) a xs:=QcT ok (.inl e)
end
def DGet (H:Hp) (a:Addr) (y:V) (r:Option V):Prop:=
 (∃ kvs k,Rd H a (.dK kvs)/\y=kV k/\r=valV kvs k)\/∃ kvs k b,Rd H a (.dT kvs)/\y=.ref b/\H b=some (.tup (k.map kV))/\r=valV kvs k
def DPut (H:Hp) (a:Addr) (y v:V) (H':Hp):Prop:=
 (∃ kvs k,H a=some (.dK kvs)/\y=kV k/\kvs.length < sizeLine/\H'=upd H a (.dK (putK kvs k v))) \/
 ∃ kvs k b,H a=some (.dT kvs)/\y=.ref b/\H b=some (.tup (k.map kV))/\kvs.length < sizeLine/\H'=upd H a (.dT (putK kvs k v))
theorem DGet.k {H:Hp}{a:Addr}{kvs:List (Key × V)}{k:Key} (e:H a=some (.dK kvs)):DGet H a (kV k) (valV kvs k):=.inl ⟨kvs,k,.inl e,rfl,rfl⟩
theorem DPut.k {H:Hp}{a:Addr}{kvs:List (Key × V)}{k:Key}{v:V} (e:H a=some (.dK kvs)) (hl:kvs.length < sizeLine):DPut H a (kV k) v (upd H a (.dK (putK kvs k v))):=.inl ⟨kvs,k,e,rfl,hl,rfl⟩
section
variable {X:Cx}{pins:List (Addr × Obj)}{σ:St}{H:Hp}{s:Shared}{a:Addr}{y v:V}{u r:Value}{o:Option V}{A:Around}{E:Value->Shared->Prop}
theorem Inv.big (I:Inv X pins σ H s):sysModules < s.heap.objs.size:=by
 have h:mainGlobals < s.heap.objs.size:=(I.mod.glob.keeps I.bk).lt
 exact Nat.lt_trans (by decide) h
theorem QcV {Q : Value -> Shared -> Prop} (hu : A.units + 1 < cLine) (I : Inv X pins σ H s) (g : DGet H a y (some v)) (ry : RelV y u) (h : ∀ w' s', Inv X pins σ H s' -> RelV v w' -> Q w' s') :
  wpAny (model X.prog X.w) A (getItem (.ref a) u) Q E s:=by
 rcases g with ⟨kvs,k,e,ey,l⟩ | ⟨kvs,k,b,e,ey,eb,l⟩
 ·subst ey
  obtain⟨z,hd,vs,rel,dd⟩:=QcQ I.hok e
  obtain⟨w',hw,rw'⟩:=RelO.some_of (v:=v) (o:=valueAt vs k) (by rw[l];exact rel.val k)
  exact wpAny_getItem_of (QcN ry) dd.mapOf hw (h w' _ (I.tok _) rw')
 ·subst ey
  cases (show u=Value.ref b from ry)
  obtain⟨z,hd,xs,rel,dd⟩:=QcT I.hok e
  obtain⟨w',hw,rw'⟩:=RelO.some_of (v:=v) (o:=(atKey xs k).map (·.2)) (by rw[l];exact rel.val k)
  obtain⟨p,hp,hp2⟩:=Option.map_eq_some_iff.mp hw
  refine wpAny_getItem_heap (tupleKind_room_in1 hu) (QcS I.hok eb) dd hp ?_
  rw[hp2]
  exact h w' _ (I.tok _) rw'
theorem QcW {Q : Value -> Shared -> Prop} (hu : A.units + 1 < cLine) (I : Inv X pins σ H s) (g : DGet H a y o) (ry : RelV y u) (h : ∀ s', Inv X pins σ H s' -> Q (.bool (!o.isSome)) s') :
  wpAny (model X.prog X.w) A (compareOp .NotIn u (.ref a)) Q E s:=by
 rcases g with ⟨kvs,k,e,ey,l⟩ | ⟨kvs,k,b,e,ey,eb,l⟩
 ·subst ey
  obtain⟨z,hd,vs,rel,dd⟩:=QcQ I.hok e
  refine wpAny_notIn_of (QcN ry) hd dd.mapOf ?_
  rw[<- (rel.val k).isSome_eq,<- l]
  exact h _ (I.tok _)
 ·subst ey
  cases (show u=Value.ref b from ry)
  obtain⟨z,hd,xs,rel,dd⟩:=QcT I.hok e
  refine wpAny_notIn_heap (tupleKind_room_in1 hu) (QcS I.hok eb) hd dd ?_
  have q:=(rel.val k).isSome_eq
  rw[Option.isSome_map]at q
  rw[<- q,<- l]
  exact h _ (I.tok _)
theorem QcX {h' : Heap} {t' : Nat} {ob : HO} (I : Inv X pins σ H s) (mu : Mut (H a)) (hs : Heap.SameBut a s.heap h') (he : ∃ q, h'.get? a = some q) (new : ObjOk X.prog X.w (upd H a ob) h' a ob) :
  Inv X pins σ (upd H a ob) { s with heap:=h',toks:=t' }:=
 I.write (x:=a) (e:=a) mu (.inl rfl) (fun b q hb z=>(hs.2 b hb).trans z) he new
theorem QcY {P : Program} {w : World} {H' : Hp} {h' : Heap} {kvs : List (Key × V)} {vs : List (Key × Value)} (z : kvs.length <= sizeLine) (hd : (a == sysModules) = false) (rel : KV kvs vs) (dd : h'.DictOf (mixKind P w) a vs) :
  ObjOk P w H' h' a (.dK kvs):=⟨z,hd,vs,rel,dd⟩
theorem QcZ {H' : Hp} {Q : Unit -> Shared -> Prop} (hu : A.units + 1 < cLine) (I : Inv X pins σ H s) (g : DPut H a y v H') (ry : RelV y u) (rv : RelV v r) (h : ∀ s', Inv X pins σ H' s' -> Q () s') :
  wpAny (model X.prog X.w) A (setItem (.ref a) u r) Q E s:=by
 rcases g with ⟨kvs,k,e,ey,l,eH⟩ | ⟨kvs,k,b,e,ey,eb,l,eH⟩
 ·subst ey eH
  obtain⟨z,hd,vs,rel,dd⟩:=QcR I.hok e
  have hz:vs.length<=sizeLine:=by rw[<- rel.length];exact z
  have hl:(putK kvs k v).length<=sizeLine:=by have:=QcM kvs k v;ac_nf
  refine wpAny_setItem_pairs (hsz:=hz) (QcN ry) dd fun h' dd' hs=>h _ ?_
  have he:∃ q,h'.get? a=some q:=let ⟨q,_,_,hq,_⟩:=dd';⟨q,hq⟩
  exact QcX I (by rw[e];exact True.intro) hs he (QcY hl hd (rel.put k rv) dd')
 ·subst ey eH
  cases (show u=Value.ref b from ry)
  obtain⟨z,hd,xs,rel,dd⟩:=QcU I.hok e
  have hz:xs.length<=sizeLine:=by rw[<- Paired.length rel];exact z
  have hl:(putK kvs k v).length<=sizeLine:=by have:=QcM kvs k v;ac_nf
  refine wpAny_setItem_heap (hsz:=hz) (tupleKind_room_in1 hu) (QcS I.hok eb) dd fun h' dd' hs=>h _ ?_
  obtain⟨q,es,ep,hq,h2,h3,h4,_,h5⟩:=dd'
  refine QcX I (by rw[e];exact True.intro) hs ⟨q,hq⟩ ⟨hl,hd,_,(rel.put k eb rv).keeps fun c ys ec=>?_,q,es,ep,hq,h2,h3,h4,h5⟩
  rw[Qaj (Qak ec e (fun z=>nomatch z))]
  exact ec
end
section
variable {X:Cx}{pins:List (Addr × Obj)}{σ:St}{H:Hp}{s:Shared}{a:Addr}{kvs:List (Key × V)}{k:Key}{u:Value}{A:Around}{E:Value->Shared->Prop}
theorem Qc0 {Q:Value->Shared->Prop} (I:Inv X pins σ H s) (e:Rd H a (.dK kvs)) (h:∀ t s',Inv X pins σ H s'->Q (.int kvs.length t) s'):wpAny (model X.prog X.w) A (call (.builtin "len") [.ref a]) Q E s:=by
 obtain⟨z,hd,vs,rel,dd⟩:=QcQ I.hok e
 refine call_len_dict hd dd (by rw[<- rel.length];rw[sizeLine_eq]at z;ac_nf) ?_
 rw[<- rel.length]
 exact h _ _ (I.tok _)
end
theorem Qc1 {P:Program}{w:World}{H:Hp} (h:Heap) (hb:sysModules < h.objs.size):ObjOk P w H (h.push { cls:=.type "dict",data:=.dict #[] }) h.objs.size (.dK []):=
 ⟨Nat.zero_le _,beq_eq_false_iff_ne.mpr (Ne.symm (Nat.ne_of_lt hb)),[],.nil,Heap.DictOf.new h⟩
def tDNewK:TE:=fun _ H Q=>∀ p,H p=none->Q (.ref p) (upd H p (.dK []))
section
variable {X:Cx}{pos:Pos}
theorem Qc2:PE X (.Dict [] [] pos) tDNewK:=fun pins s σ H Q I h=>
 wpAny_Dict_empty ⟨.ref s.heap.objs.size,_,I.laid (a:=s.heap.objs.size) (o:=.dK []) (t':=s.toks) (fun _ _ q=>Heap.get?_push_of_some _ q) (Nat.le_refl _) (Qc1 s.heap I.big),rfl,h _ (I.hok.fresh (Nat.le_refl _))⟩
end
structure M2 (X:Cx) (o:Expr) (m:Str) (apos:Pos) (e f:Expr) (cpos:Pos):Prop where
 base:attributeBase o m X.env (eval o X.env)=eval o X.env
 few:((backTo cpos (starEach [e,f] X.env)).all (fun x => !x.1) && (backToKw cpos (keywordEach [] X.env)).all (fun x=>x.1.isSome)
  && decide (([e,f]:List Expr).length + ([]:List Keyword).length + (if ([]:List Keyword).isEmpty then 0 else 1) < 30))=true
 line:(apos.endLine == cpos.line)=true
 trees:backTo cpos (starEach [e,f] X.env)=[(false,eval e X.env),(false,eval f X.env)]
end L2
namespace MM
open PySem PySem.Spec PyProof.Rows L2
abbrev KI:=Int ⊕ List Int
section
variable {prog:Program}{w:World}
variable (prog w) in
inductive TIt (h:Heap):KI->Value->Prop
 | one (i:Int) (t:Tok):TIt h (.inl i) (.int i t)
 | row {k:List Int}{b:Addr}:IsTupleKey (intKind prog w) h k b->TIt h (.inr k) (.ref b)
variable (prog w) in
inductive TIts (h:Heap):List KI->List Value->Prop
 | nil:TIts h [] []
 | cons {k:KI}{v:Value}{ks:List KI}{vs:List Value}:TIt prog w h k v->TIts h ks vs->TIts h (k::ks) (v::vs)
variable (prog w) in
def IsNestKey (h:Heap) (ks:List KI) (a:Addr):Prop:=∃ o items n,h.get? a=some o/\o.cls=.type "tuple"/\o.data=.seq items n/\TIts prog w h ks items.toList
theorem TIt.inj {h:Heap}{x y:KI}{v:Value} (a:TIt prog w h x v) (b:TIt prog w h y v):x=y:=by
 cases a with
 | one i t=>cases b;rfl
 | row a=>cases b with
  | row b=>rw[a.inj b]
theorem TIts.inj {h:Heap}{x y:List KI}{vs:List Value} (a:TIts prog w h x vs) (b:TIts prog w h y vs):x=y:=by
 induction a generalizing y with
 | nil=>cases b;rfl
 | cons a t ih=>cases b with
  | cons b u=>rw[a.inj b,ih u]
theorem IsNestKey.typeIs {s:Shared}{ks:List KI}{a:Addr} (x:IsNestKey prog w s.heap ks a):s.TypeIs (.ref a) "tuple":=let ⟨o,_,_,ho,hc,_⟩:=x;⟨o,ho,hc⟩
theorem IsNestKey.inj {h:Heap}{a:Addr}{x y:List KI} (hx:IsNestKey prog w h x a) (hy:IsNestKey prog w h y a):x=y:=by
 obtain⟨o,items,n,ho,_,hd,hi⟩:=hx
 obtain⟨o',items',n',ho',_,hd',hi'⟩:=hy
 cases ho.symm.trans ho'
 rw[hd]at hd'
 injection hd' with h1 _
 subst h1
 exact hi.inj hi'
theorem TIt.keeps {h h':Heap}{d:Addr}{o:Obj}{es ep} (ho:h.get? d=some o) (hd:o.data=.dict es ep) (hs:Heap.SameBut d h h'):∀ {x:KI}{v:Value},TIt prog w h x v->TIt prog w h' x v
 | _,_,.one i t=>.one i t
 | _,_,.row a=>.row (a.keeps ho hd hs)
theorem TIts.keeps {h h':Heap}{d:Addr}{o:Obj}{es ep} (ho:h.get? d=some o) (hd:o.data=.dict es ep) (hs:Heap.SameBut d h h'):∀ {x:List KI}{vs:List Value},TIts prog w h x vs->TIts prog w h' x vs
 | _,_,.nil=>.nil
 | _,_,.cons a t=>.cons (a.keeps ho hd hs) (TIts.keeps ho hd hs t)
theorem IsNestKey.keeps {h h' : Heap} {ks : List KI} {a d : Addr} {o : Obj} {es ep} (x : IsNestKey prog w h ks a) (ho : h.get? d = some o) (hd : o.data = .dict es ep) (hs : Heap.SameBut d h h') :
  IsNestKey prog w h' ks a:=by
 obtain⟨o',items,n,ho',hc,hd',hi⟩:=x
 have hne:a≠d:=by
  rintro rfl
  obtain rfl:o'=o:=Option.some.inj (ho'.symm.trans ho)
  rw[hd]at hd';exact nomatch hd'
 exact⟨o',items,n,(hs.2 a hne).trans ho',hc,hd',hi.keeps ho hd hs⟩
def itH:KI->Int
 | .inl i=>hashInt i
 | .inr r=>reduceHash (Builtin.Tuple.tupleHashOf (r.map hashInt))
def nestHash (ks:List KI):Int:=reduceHash (Builtin.Tuple.tupleHashOf (ks.map itH))
def itN:KI->Nat
 | .inl _=>1
 | .inr r=>r.length + 1
def nestDraws:List KI->Nat
 | []=>0
 | k::ks=>itN k + nestDraws ks
variable {A:Around}{E:Value->Shared->Prop}{s:Shared}
theorem Qc3 (k:KI):∀ (l:List KI),nestDraws (l++[k])=nestDraws l + itN k
 | []=>by simp[nestDraws]
 | x::l=>by simp[nestDraws,Qc3 k l];ac_nf
theorem Qc4 {k:KI}{v:Value}{Q:Int->Shared->Prop} (hu:A.units < cLine) (hk:TIt prog w s.heap k v) (h:Q (itH k) { s with toks:=s.toks + itN k }):wpAny (model prog w) A (pyHash v) Q E s:=by
 cases hk with
 | one i t=>exact wpAny_pyHash_int h
 | row hk=>exact wpAny_pyHash_tuple (knd:=intKind prog w) hu hk h
theorem Qc5 {x y:KI}{u v:Value}{Q:Bool->Shared->Prop} (hu:A.units < cLine) (hx:TIt prog w s.heap x u) (hy:TIt prog w s.heap y v) (h:Q (decide (x=y)) s):wpAny (model prog w) A (eqBool u v) Q E s:=by
 cases hx with
 | one i t=>
  cases hy with
  | one j t'=>
   refine wpAny_eqBool_int ?_
   have e:(i == j)=decide ((Sum.inl i:KI)=Sum.inl j):=by
    by_cases z:i=j
    ·subst z;simp
    ·have z2:¬ ((Sum.inl i:KI)=Sum.inl j):=fun q=>z (by injection q)
     rw[decide_eq_false z2];exact beq_eq_false_iff_ne.mpr z
   first | (rw[e];exact h) | (simpa [e] using h)
  | row h2=>
   obtain⟨o,items,n,ho,hc,hd,_⟩:=h2
   rw[decide_eq_false (by simp)]at h
   exact SeqAt.EqAt.int_tuple i t ⟨o,ho,hc,n,hd⟩ hu prog w E Q h
 | row h1=>
  cases hy with
  | one j t'=>
   obtain⟨o,items,n,ho,hc,hd,_⟩:=h1
   rw[decide_eq_false (by simp)]at h
   exact SeqAt.EqAt.tuple_int j t' ⟨o,ho,hc,n,hd⟩ hu prog w E Q h
  | @row k2 b h2=>
   refine wpAny_eqBool_tuple (knd:=intKind prog w) hu h1 h2 ?_
   simpa using h
theorem Qc6 {ks : List KI} {a : Addr} {Q : Int -> Shared -> Prop} (hu : A.units + 1 < cLine) (hk : IsNestKey prog w s.heap ks a) (h : Q (nestHash ks) { s with toks := s.toks + (nestDraws ks + 1) }) :
  wpAny (model prog w) A (pyHash (.ref a)) Q E s:=by
 have hT:=hk.typeIs
 obtain⟨o,items,n,ho,_,hd,hi⟩:=hk
 unfold pyHash
 first | unfold pyHashByItsType | skip
 first | refine wpAny_bind (wpAny_cRoomFor_or (.inr (by ac_nf)) ?_) | skip
 refine wpAny_bind (wpAny_specialOf hT F.slot_tuple_hash.lookup ?_)
 show wpAny _ _ (if (some (Value.builtin "tuple.__hash__") == some Value.none)=true then _ else _) Q E s
 rw[if_neg (by rw[beq_builtin_none];exact Bool.false_ne_true)]
 refine wpAny_bind (wpAny_specialOf hT F.slot_tuple_hash.lookup ?_)
 show wpAny _ _ (callSpecialIfBoundUnlessNone? (.ref a) "__hash__" _ >>= _) Q E s
 refine wpAny_bind (wpAny_callSpecialIfBoundUnlessNone?_slot hT F.slot_tuple_hash (wpAny_call_entry F.slot_tuple_hash hT F.entry_tuple_hash ?_ (F.args_tuple_hash_1 _)))
 show wpAny _ _ (Builtin.Tuple.tupleItemsOf (.ref a) >>= _) _ _ s
 refine wpAny_bind (wpAny_tupleItemsOf ho hd ?_)
 refine wpAny_bind ?_
 rw[<- Array.forIn_toList]
 refine wpAny_forIn_list _
  (fun rest (b:Array Int) s'=>∃ done left,ks=done++left/\TIts prog w s.heap left rest/\b.toList=done.map (itH)/\s'={ s with toks:=s.toks + nestDraws done })
  _ ?_ ?_ _ _ ⟨[],ks,rfl,hi,rfl,rfl⟩
 ·rintro x rest b s' ⟨done,left,rfl,hl,hb,rfl⟩
  cases hl with
  | @cons k b' ks' _ h1 hl'=>
   refine wpAny_bind (Qc4 (k:=k) hu h1 ?_)
   first
    | exact wpAny_pure ⟨done++[k],ks',by simp,hl',by simp[hb],by simp[Qc3,Nat.add_assoc]⟩
    | exact wpAny_bind (wpAny_pure (wpAny_pure ⟨done++[k],ks',by simp,hl',by simp[hb],by simp[Qc3,Nat.add_assoc]⟩))
 ·rintro b s' ⟨done,left,rfl,hl,hb,rfl⟩
  cases hl
  rw[List.append_nil]at h
  show wpAny _ _ (retInt (Builtin.Tuple.tupleHashOf b.toList)) _ _ _
  rw[hb]
  refine wpAny_ret_mkInt ?_
  show wpAny _ _ (if (decide (-(2:Int) ^ 63<=Builtin.Tuple.tupleHashOf (done.map (itH))) && decide (Builtin.Tuple.tupleHashOf (done.map (itH)) < 2 ^ 63))=true then _ else _) Q E _
  unfold nestHash reduceHash at h
  by_cases hr:(decide (-(2:Int) ^ 63<=Builtin.Tuple.tupleHashOf (done.map (itH))) && decide (Builtin.Tuple.tupleHashOf (done.map (itH)) < 2 ^ 63))=true
  ·rw[if_pos hr]
   rw[if_pos hr]at h
   exact wpAny_pure (by simpa [Nat.add_assoc] using h)
  ·rw[if_neg hr]
   rw[if_neg hr]at h
   exact wpAny_bind (wpAny_rule (wpAny_pure (by simpa [Nat.add_assoc] using h)))
theorem Qc7 {x y : List KI} {a b : Addr} {P : Fin -> Shared -> Prop} (hu : A.units < cLine) (hx : IsNestKey prog w s.heap x a) (hy : IsNestKey prog w s.heap y b) (h : P (.done (.ret (.bool (decide (x = y))))) s) :
  wpAny (model prog w) A (Builtin.«tuple.__eq__» ⟨[.ref a,.ref b],[]⟩) P E s:=by
 have hTb:=hy.typeIs
 obtain⟨oa,xs,na,hoa,_,hda,hia⟩:=hx
 obtain⟨ob,ys,nb,hob,_,hdb,hib⟩:=hy
 show wpAny _ _ (isInstance (.ref b) (.type "tuple") >>= _) _ _ s
 refine wpAny_bind (wpAny_isInstance hTb isSubtype_tuple_tuple ?_)
 simp only[Bool.not_true,Bool.false_eq_true,if_false]
 refine wpAny_bind (wpAny_tupleItemsOf hoa hda ?_)
 refine wpAny_bind (wpAny_tupleItemsOf hob hdb ?_)
 refine wpAny_bind ?_
 refine wpAny_forIn_list _
  (fun rest r s'=>r.1=none/\s'=s/\∃ x' y' xs' ys',rest=List.zip xs' ys'/\TIts prog w s.heap x' xs'/\TIts prog w s.heap y' ys'/\decide (x'=y')=decide (x=y)/\(xs'.length == ys'.length)=(xs.size == ys.size))
  _ ?_ ?_ _ _ ⟨rfl,rfl,x,y,xs.toList,ys.toList,rfl,hia,hib,rfl,by simp⟩
 ·rintro ⟨u,v⟩ rest r s' ⟨hr,rfl,x',y',xs',ys',hz,hx',hy',hdec,hlen⟩
  cases hx' with
  | nil=>simp at hz
  | @cons k1 u' x'' xs'' h1 hx''=>
   cases hy' with
   | nil=>simp at hz
   | @cons k2 v' y'' ys'' h2 hy''=>
    simp only[List.zip_cons_cons,List.cons.injEq,Prod.mk.injEq]at hz
    obtain⟨⟨rfl,rfl⟩,rfl⟩:=hz
    refine wpAny_bind (Qc5 (x:=k1) (y:=k2) hu h1 h2 ?_)
    by_cases hk:k1=k2
    ·subst hk
     rw[decide_eq_true rfl]
     simp only[Bool.not_true,Bool.false_eq_true,if_false]
     refine wpAny_pure ⟨rfl,rfl,x'',y'',xs'',ys'',rfl,hx'',hy'',?_,by simpa using hlen⟩
     rw[<- hdec]
     by_cases hxy:x''=y''
     ·simp[hxy]
     ·simp[hxy]
    ·rw[decide_eq_false hk]
     simp only[Bool.not_false,if_true]
     have hf:decide (x=y)=false:=by rw[<- hdec];simp[hk]
     rw[hf]at h
     exact wpAny_bind (wpAny_pure (wpAny_pure (wpAny_pure h)))
 ·rintro ⟨r1,r2⟩ s' ⟨hr,rfl,x',y',xs',ys',hz,hx',hy',hdec,hlen⟩
  simp only at hr
  subst hr
  refine wpAny_pure ?_
  have hfin:(xs.size == ys.size)=decide (x=y):=by
   rw[<- hdec,<- hlen]
   cases hx' with
   | nil=>
    cases hy' with
    | nil=>simp
    | cons _ _=>simp
   | cons _ _=>
    cases hy' with
    | nil=>simp
    | cons _ _=>simp at hz
  show P (.done (.ret (.bool (xs.size == ys.size)))) s'
  rw[hfin];exact h
theorem Qc8 {x y : List KI} {a b : Addr} {Q : Bool -> Shared -> Prop} (hu : A.units + 1 < cLine) (hx : IsNestKey prog w s.heap x a) (hy : IsNestKey prog w s.heap y b) (h : Q (decide (x = y)) s) :
  wpAny (model prog w) A (eqBool (.ref a) (.ref b)) Q E s:=by
 unfold eqBool
 try with_reducible refine wpAny_holding ?_
 show wpAny _ _ (if (Value.ref a == Value.ref b)=true then _ else _) Q E s
 by_cases hab:(Value.ref a == Value.ref b)=true
 ·rw[if_pos hab]
  have e:a=b:=by have:=eq_of_beq hab;injection this
  subst e
  obtain rfl:=hx.inj hy
  exact wpAny_bind (wpAny_rule (wpAny_pure (by simpa using h)))
 ·rw[if_neg hab]
  exact wpAny_bind (wpAny_richCompare_same_room (op:=.Eq) hx.typeIs hy.typeIs F.slot_tuple_eq
   (wpAny_call_entry F.slot_tuple_eq hx.typeIs F.entry_tuple_eq (Qc7 (by exact hu) hx hy ⟨_,rfl,(fun e=>nomatch e),wpAny_truthy_bool h⟩) (F.args_tuple_eq_2 _ _)) (by ac_nf))
theorem Qc9 {n:Nat}{ks:List Int}{a:Addr}{Q:Bool->Shared->Prop} (hk:IsTupleKey (intKind prog w) s.heap ks a) (h:Q true s):wpAny (model prog w) A (eqIsQuiet (n + 1) (.ref a)) Q E s:=by
 have hT:=hk.typeIs
 obtain⟨o,items,n,ho,_,hd,hi⟩:=hk
 unfold eqIsQuiet
 refine wpAny_bind (wpAny_specialOf hT F.slot_tuple_eq.lookup ?_)
 show wpAny _ _ (isInstance (.ref a) (.type "tuple") >>= _) _ _ s
 refine wpAny_bind (wpAny_isInstance hT isSubtype_tuple_tuple ?_)
 simp only[Bool.not_true,Bool.false_eq_true,if_false]
 refine wpAny_bind (wpAny_seqItems ho hd ?_)
 refine wpAny_bind ?_
 show wpAny _ _ (forIn items _ _) _ _ s
 rw[<- Array.forIn_toList]
 refine wpAny_forIn_list _ (fun rest r s'=>r.1=none/\s'=s/\∀ v∈rest,carriedByValue v=true) _ ?_ ?_ _ _ ⟨rfl,rfl,hi.byValue⟩
 ·rintro v rest r s' ⟨hr,rfl,hall⟩
  rw[eqIsQuiet_byValue _ (hall v List.mem_cons_self)]
  refine wpAny_bind (wpAny_pure ?_)
  simp only[Bool.not_true,Bool.false_eq_true,if_false]
  exact wpAny_pure ⟨rfl,rfl,fun u hu'=>hall u (List.mem_cons_of_mem _ hu')⟩
 ·rintro ⟨r1,r2⟩ s' ⟨hr,rfl,_⟩
  simp only at hr
  subst hr
  exact wpAny_pure h
theorem Qda {n:Nat}{k:KI}{v:Value}{Q:Bool->Shared->Prop} (hk:TIt prog w s.heap k v) (h:Q true s):wpAny (model prog w) A (eqIsQuiet (n + 1) v) Q E s:=by
 cases hk with
 | one i t=>rw[eqIsQuiet_byValue _ (show carriedByValue (Value.int i t)=true from rfl)];exact wpAny_pure h
 | row hk=>exact Qc9 hk h
theorem Qdb {ks:List KI}{a:Addr}{Q:Bool->Shared->Prop} (hk:IsNestKey prog w s.heap ks a) (h:Q true s):wpAny (model prog w) A (eqIsQuiet 8 (.ref a)) Q E s:=by
 have hT:=hk.typeIs
 obtain⟨o,items,n,ho,_,hd,hi⟩:=hk
 unfold eqIsQuiet
 refine wpAny_bind (wpAny_specialOf hT F.slot_tuple_eq.lookup ?_)
 show wpAny _ _ (isInstance (.ref a) (.type "tuple") >>= _) _ _ s
 refine wpAny_bind (wpAny_isInstance hT isSubtype_tuple_tuple ?_)
 simp only[Bool.not_true,Bool.false_eq_true,if_false]
 refine wpAny_bind (wpAny_seqItems ho hd ?_)
 refine wpAny_bind ?_
 show wpAny _ _ (forIn items _ _) _ _ s
 rw[<- Array.forIn_toList]
 refine wpAny_forIn_list _ (fun rest r s'=>r.1=none/\s'=s/\∃ left,TIts prog w s.heap left rest) _ ?_ ?_ _ _ ⟨rfl,rfl,ks,hi⟩
 ·rintro v rest r s' ⟨hr,rfl,left,hall⟩
  cases hall with
  | cons h1 hl=>
   refine wpAny_bind (Qda (n:=6) h1 ?_)
   simp only[Bool.not_true,Bool.false_eq_true,if_false]
   exact wpAny_pure ⟨rfl,rfl,_,hl⟩
 ·rintro ⟨r1,r2⟩ s' ⟨hr,rfl,_⟩
  simp only at hr
  subst hr
  exact wpAny_pure h
end
def nestKind (prog:Program) (w:World):HeapKind prog w (List KI) where
 is:=IsNestKey prog w
 hash:=nestHash
 draws:=fun ks=>nestDraws ks + 1
 room:=fun A=>A.units + 1 < cLine
 inj:=fun hx hy=>hx.inj hy
 keeps:=fun x ho hd hs=>x.keeps ho hd hs
 pyHash:=fun hu hk h=>Qc6 hu hk h
 eqBool:=fun hu hx hy h=>Qc8 hu hx hy h
 quiet:=fun hk h=>Qdb hk h
end MM
namespace MM
open PySem PyProof.Rows
def EpAt (h:Heap) (d:Addr) (n:Nat):Prop:=∃ o es,h.get? d=some o/\o.data=.dict es n
section
variable {prog:Program}{w:World}{K:Type} [DecidableEq K] {knd:HeapKind prog w K}{A:Around}{E:Value->Shared->Prop}{s:Shared}{d a:Addr}{k:K}{xs:List (K × Addr × Value)}
theorem Qdc {v : Value} {Q : Unit -> Shared -> Prop} (hu : knd.room A) (hkey : knd.is s.heap k a) (hm : s.heap.DictOfH knd d xs) (hp : EpAt s.heap d xs.length) (hsz : xs.length <= sizeLine)
  (h:∀ h',h'.DictOfH knd d (storedH xs k a v)->EpAt h' d (storedH xs k a v).length->Heap.SameBut d s.heap h'->Q () { s with heap:=h',toks:=s.toks + knd.draws k }):
  wpAny (model prog w) A (dictSet d (.ref a) v) Q E s:=by
 obtain⟨o,es,ep,ho,hc,hd,he,his,hn⟩:=id hm
 obtain⟨o',es',ho',hd'⟩:=hp
 rw[ho]at ho';cases ho'
 rw[hd]at hd';cases hd'
 unfold dictSet
 refine wpAny_holding (wpAny_bind (knd.pyHash hu hkey ?_))
 unfold dictSetHashed
 refine wpAny_holding (wpAny_bind (wpAny_dictFind_heap (s:={ s with toks:=s.toks + knd.draws k }) hu hkey ho hd he his hn (fun hno=>?_) fun j p hj=>?_))
 ·have hnot:k∉xs.map (·.1):=not_mem_keys_of_get hno
  have e0:=atKey_none_of_get hno
  have e1:=storedH_new (a:=a) (v:=v) e0
  have e2:=size_of_entries he
  refine wpAny_bind (wpAny_rule (wpAny_updateDictKeys (hz:=by ac_nf) (s:={ s with toks:=s.toks + knd.draws k }) ho hd
   (h _ ⟨_,_,_,Heap.get?_update_self _ ho (Obj.isFreed_of_dict (Obj.data_mapDictKeys hd _)),hc.mapDictKeys _,Obj.data_mapDictKeys hd _,?_,?_,?_⟩ ?_ (Heap.SameBut.update ..))))
  ·rw[e1];simp[he,entryOfKey]
  ·rw[e1]
   intro x hx
   rcases List.mem_append.mp hx with hx | hx
   ·exact knd.keeps (his x hx) ho hd (Heap.SameBut.update ..)
   ·cases List.mem_singleton.mp hx
    exact knd.keeps hkey ho hd (Heap.SameBut.update ..)
  ·rw[e1,List.map_append,List.nodup_append]
   refine⟨hn,by simp,fun x hx y hy=>?_⟩
   cases List.mem_singleton.mp hy
   exact fun e=>hnot ((show x=k from e) ▸ hx)
  ·rw[e1,List.length_append];exact⟨_,_,Heap.get?_update_self _ ho (Obj.isFreed_of_dict (Obj.data_mapDictKeys hd _)),Obj.data_mapDictKeys hd _⟩
 ·have e0:=atKey_of_get hn hj
  have e1:=storedH_old e0 a v
  have ej:j < es.size:=by
   rw[size_of_entries he];exact (List.getElem?_eq_some_iff.mp hj).1
  have hes:(es.modify j fun e=>{ hash:=e.hash,key:=e.key,val:=v }).toList=(xs.map (putAt k v)).map (entryOfKey knd):=by
   apply List.ext_getElem?
   intro i
   rw[Array.getElem?_toList,Array.getElem?_modify,List.getElem?_map,List.getElem?_map]
   have ei:es[i]?=(xs[i]?).map (entryOfKey knd):=by rw[<- Array.getElem?_toList,he,List.getElem?_map]
   rw[ei]
   by_cases z:j=i
   ·subst z
    rw[if_pos rfl,hj]
    simp[putAt,entryOfKey]
   ·rw[if_neg z]
    cases hx:xs[i]? with
    | none=>rfl
    | some x=>
     have nk:x.1≠k:=fun q=>by
      have a1:(xs.map (·.1))[i]?=some k:=by rw[List.getElem?_map,hx,<- q];rfl
      have a2:(xs.map (·.1))[j]?=some k:=by rw[List.getElem?_map,hj];rfl
      exact z ((List.getElem?_inj (by rw[List.length_map];exact (List.getElem?_eq_some_iff.mp hj).1) hn).mp (a2.trans a1.symm))
     simp[putAt,nk]
  refine wpAny_bind (wpAny_rule (wpAny_bind (wpAny_updateDict (s:={ s with toks:=s.toks + knd.draws k }) ho hd (wpAny_point
   (h _ ⟨_,_,_,Heap.get?_update_self _ ho (Obj.isFreed_of_dict (Obj.data_mapDict hd _)),hc.mapDict _,Obj.data_mapDict hd _,?_,?_,?_⟩ ?_ (Heap.SameBut.update ..))))))
  ·rw[e1];exact hes
  ·rw[e1]
   intro x hx
   obtain⟨y,hy,e⟩:=List.mem_map.mp hx
   have q:=knd.keeps (his y hy) ho hd (Heap.SameBut.update s.heap d (Obj.mapDict fun x=>x.modify j fun e=>{ hash:=e.hash,key:=e.key,val:=v }))
   rw[<- e]
   unfold putAt
   split
   ·exact q
   ·exact q
  ·rw[e1,List.map_map]
   have:(xs.map ((fun x=>x.1) ∘ putAt k v))=xs.map (·.1):=List.map_congr_left fun x _=>by
    show (putAt k v x).1=x.1
    unfold putAt
    split<;>rfl
   rw[this];exact hn
  ·rw[e1,List.length_map];exact⟨_,_,Heap.get?_update_self _ ho (Obj.isFreed_of_dict (Obj.data_mapDict hd _)),Obj.data_mapDict hd _⟩
theorem Qdd {v : Value} {Q : Unit -> Shared -> Prop} (hu : knd.room A.in1) (hkey : knd.is s.heap k a) (hm : s.heap.DictOfH knd d xs) (hp : EpAt s.heap d xs.length) (hsz : xs.length <= sizeLine)
  (h:∀ h',h'.DictOfH knd d (storedH xs k a v)->EpAt h' d (storedH xs k a v).length->Heap.SameBut d s.heap h'->Q () { s with heap:=h',toks:=s.toks + knd.draws k }):
  wpAny (model prog w) A (setItem (.ref d) (.ref a) v) Q E s:=by
 have T:=hm.typeIs
 unfold setItem
 refine wpAny_holding (wpAny_bind (wpAny_sequenceKey T (by decide) (wpAny_bind (wpAny_callSpecial?_slot T F.slot_dict_setitem (wpAny_call_entry F.slot_dict_setitem T F.entry_dict_setitem ?_ (F.args_dict_setitem_3 _ _ _))))))
 unfold Builtin.«dict.__setitem__»
 refine wpAny_bind (wpAny_notOrdered_dict T ?_)
 rw[if_neg (by simp)]
 show wpAny _ _ (dictSet d (.ref a) v >>= _) _ _ s
 refine wpAny_bind (Qdc hu hkey hm hp hsz fun h' a1 a2 a3=>wpAny_pure ⟨_,rfl,wpAny_pure (h h' a1 a2 a3)⟩)
end
end MM
namespace MM
open PySem
inductive D where
 | non | bl (b:Bool) | int (i:Int) | str (x:Str) | tup (ds:List D) | lit (ds:List D) | ref (n:Nat) | dic (n:Nat) | exn (x:Str) (ds:List D)
inductive MO where
 | lst (ds:List D) | dct (b:Bool) (kvs:List (D × D))
abbrev Sto:=List MO
abbrev Exn:=D
inductive Rs (α:Type) where
 | ok (a:α) (s:Sto) | exc (x:Exn) (s:Sto) | bad
def M (α:Type):=Sto->Rs α
section
variable {α β:Type}
def ret (a:α):M α:=fun s=>.ok a s
def bnd (m:M α) (f:α->M β):M β:=fun s=>match m s with
 | .ok a s'=>f a s'
 | .exc x s'=>.exc x s'
 | .bad=>.bad
def bad:M α:=fun _=>.bad
@[irreducible] def chk (c:Prop) [Decidable c] (m:M α):M α:=if c then m else bad
end
abbrev Loc:=List (Option D)
abbrev CE:=Loc->M D
abbrev CT:=Loc->M Bool
abbrev CA:=Loc->M (List D)
inductive Flw where
 | next (l:Loc) | ret (d:D) | brk (l:Loc) | cnt (l:Loc)
abbrev CS:=Loc->M Flw
def lim:Nat:=2 ^ 24
def alloc (o:MO):M D:=fun s=>.ok (.ref s.length) (s++[o])
def getL (n:Nat):M (List D):=fun s=>match s[n]? with
 | some (.lst ds)=>.ok ds s
 | _=>.bad
def putL (n:Nat) (ds:List D):M Unit:=fun s=>match s[n]? with
 | some (.lst _)=>.ok () (s.set n (.lst ds))
 | _=>.bad
def getDc (n:Nat):M (Bool × List (D × D)):=fun s=>match s[n]? with
 | some (.dct b kvs)=>.ok (b,kvs) s
 | _=>.bad
def putDc (n:Nat) (b:Bool) (kvs:List (D × D)):M Unit:=fun s=>match s[n]? with
 | some (.dct c _)=>if b=c then .ok () (s.set n (.dct b kvs)) else .bad
 | _=>.bad
mutual
def eqK:D->D->Bool
 | .int i,.int j=>decide (i=j)
 | .str x,.str y=>decide (x=y)
 | .tup xs,.tup ys=>eqKs xs ys
 | _,_=>false
def eqKs:List D->List D->Bool
 | [],[]=>true
 | x::xs,y::ys=>eqK x y && eqKs xs ys
 | _,_=>false
end
def intsK:List D->Option (List Int)
 | []=>some []
 | .int i::ds=>(intsK ds).map (i::·)
 | _=>none
def rowsK:List D->Option (List (Int ⊕ List Int))
 | []=>some []
 | .tup xs::ds=>match intsK xs,rowsK ds with
  | some r,some rs=>some (.inr r::rs)
  | _,_=>none
 | .int i::ds=>(rowsK ds).map (.inl i::·)
 | _=>none
def stK:D->Option (List (Int ⊕ List Int))
 | .tup ds=>rowsK ds
 | _=>none
def kOk:Bool->D->Bool
 | false,.int _=>true
 | false,.str _=>true
 | true,d=>(stK d).isSome
 | _,_=>false
def lkK (kvs:List (D × D)) (k:D):Option D:=(kvs.find? fun p=>eqK p.1 k).map (·.2)
def ptK (kvs:List (D × D)) (k v:D):List (D × D):=if (kvs.any fun p=>eqK p.1 k)=true then kvs.map fun p=>if eqK p.1 k=true then (p.1,v) else p else kvs++[(k,v)]
def itemK (n:Nat) (k:D):M D:=bnd (getDc n) fun p=>chk (kOk p.1 k=true) (match lkK p.2 k with
 | some d=>ret d
 | none=>bad)
def storeK (n:Nat) (k v:D):M Unit:=bnd (getDc n) fun p=>chk (kOk p.1 k=true/\p.2.length < lim) (putDc n p.1 (ptK p.2 k v))
def hasK (n:Nat) (k:D):M Bool:=bnd (getDc n) fun p=>chk (kOk p.1 k=true) (ret (lkK p.2 k).isSome)
def seqOf:D->M (List D)
 | .tup ds=>ret ds
 | .lit ds=>ret ds
 | .ref n=>getL n
 | _=>bad
def ixN (n:Nat) (i:Int):Option Nat:=if 0<=i then (if i < n then some i.toNat else none) else (if -(n:Int)<=i then some (i + n).toNat else none)
def addD:D->D->M D
 | .int i,.int j=>ret (.int (i + j))
 | .str x,.str y=>chk (x.length + y.length<=lim) (ret (.str (x++y)))
 | .tup x,.tup y=>chk (x.length + y.length<=lim) (ret (.tup (x++y)))
 | .ref a,.ref b=>bnd (getL a) fun x=>bnd (getL b) fun y=>chk (x.length + y.length<=lim) (alloc (.lst (x++y)))
 | _,_=>bad
def subD:D->D->M D
 | .int i,.int j=>ret (.int (i - j))
 | _,_=>bad
def mulOk (i j:Int):Prop:=(-(2 ^ 64) < i/\i < 2 ^ 64)\/(-(2 ^ 64) < j/\j < 2 ^ 64)
instance (i j:Int):Decidable (mulOk i j):=by unfold mulOk;infer_instance
def mulD:D->D->M D
 | .int i,.int j=>chk (mulOk i j) (ret (.int (i * j)))
 | _,_=>bad
def fdivD:D->D->M D
 | .int i,.int j=>chk (0 < j/\j < 1073741824) (ret (.int (i / j)))
 | _,_=>bad
def modD:D->D->M D
 | .int i,.int j=>chk (0 < j) (ret (.int (i % j)))
 | _,_=>bad
def powD:D->D->M D
 | .int i,.int j=>chk (0<=j/\j<=1000000/\i.natAbs < 2 ^ 64) (ret (.int (i ^ j.toNat)))
 | _,_=>bad
def negD:D->M D
 | .int i=>ret (.int (-i))
 | _=>bad
def cmpI (p:Int->Int->Bool):D->D->M D
 | .int i,.int j=>ret (.bl (p i j))
 | _,_=>bad
def ltD:=cmpI fun i j=>decide (i < j)
def gtD:=cmpI fun i j=>decide (j < i)
def geD:=cmpI fun i j=>decide (j<=i)
def allF (f:D->D->Option Bool):List D->List D->Option Bool
 | [],[]=>some true
 | x::xs,y::ys=>match f x y with
  | some true=>allF f xs ys
  | some false=>(allF f xs ys).map fun _=>false
  | none=>none
 | _::_,[]=>some false
 | [],_::_=>some false
def eqS (g:List D->List D->Option Bool):D->D->Option Bool
 | .non,.non=>some true
 | .non,.bl _=>some false
 | .non,.int _=>some false
 | .non,.str _=>some false
 | .non,.tup _=>some false
 | .bl _,.non=>some false
 | .bl a,.bl b=>some (a == b)
 | .bl a,.int b=>some ((if a then 1 else 0) == b)
 | .bl _,.str _=>some false
 | .bl _,.tup _=>some false
 | .int _,.non=>some false
 | .int a,.bl b=>some (a == (if b then 1 else 0))
 | .int a,.int b=>some (a == b)
 | .int _,.str _=>some false
 | .int _,.tup _=>some false
 | .str _,.non=>some false
 | .str _,.bl _=>some false
 | .str _,.int _=>some false
 | .str a,.str b=>some (a == b)
 | .str _,.tup _=>some false
 | .tup _,.non=>some false
 | .tup _,.bl _=>some false
 | .tup _,.int _=>some false
 | .tup _,.str _=>some false
 | .tup xs,.tup ys=>g xs ys
 | _,_=>none
def eqF:Nat->D->D->Option Bool
 | 0,d,e=>eqS (fun _ _=>none) d e
 | n + 1,d,e=>eqS (allF (eqF n)) d e
def eqB (d e:D):M Bool:=match d,e with
 | .ref a,.ref b=>bnd (getL a) fun x=>bnd (getL b) fun y=>match (if x.length=y.length then allF (eqF 50) x y else some false) with
  | some r=>ret r
  | none=>bad
 | .ref a,.non=>bnd (getL a) fun _=>ret false
 | .non,.ref a=>bnd (getL a) fun _=>ret false
 | d,e=>match eqF 50 d e with
  | some r=>ret r
  | none=>bad
def eqD (d e:D):M D:=bnd (eqB d e) fun b=>ret (.bl b)
def neD (d e:D):M D:=bnd (eqB d e) fun b=>ret (.bl !b)
def isND:D->M D
 | .non=>ret (.bl true)
 | _=>ret (.bl false)
def notND:D->M D
 | .non=>ret (.bl false)
 | _=>ret (.bl true)
def itemD (ds:List D) (i:Int):M D:=match ixN ds.length i with
 | some k=>match ds[k]? with
  | some d=>ret d
  | none=>bad
 | none=>bad
def subsD:D->D->M D
 | .tup ds,.int i=>itemD ds i
 | .lit ds,.int i=>itemD ds i
 | .ref n,.int i=>bnd (getL n) fun ds=>itemD ds i
 | .dic n,k=>itemK n k
 | .str x,.int i=>chk (x.length<=lim) (match ixN x.length i with
  | some k=>match x.cps.toList[k]? with
   | some c=>ret (.str ⟨#[c]⟩)
   | none=>bad
  | none=>bad)
 | _,_=>bad
def truD:D->M Bool
 | .non=>ret false
 | .bl b=>ret b
 | .int i=>ret (i != 0)
 | .str x=>chk (x.length<=lim) (ret ((x.length:Int) != 0))
 | .tup ds=>ret (!ds.isEmpty)
 | .lit ds=>ret (!ds.isEmpty)
 | .ref n=>bnd (getL n) fun ds=>ret (!ds.isEmpty)
 | .dic _=>bad
 | .exn _ _=>bad
def cVar (i:Nat):CE:=fun l=>match l[i]? with
 | some (some d)=>ret d
 | _=>bad
def cCon (d:D):CE:=fun _=>ret d
def c1 (g:D->M D) (a:CE):CE:=fun l=>bnd (a l) g
def c2 (g:D->D->M D) (a b:CE):CE:=fun l=>bnd (a l) fun x=>bnd (b l) fun y=>g x y
def cNil:CA:=fun _=>ret []
def cCons (a:CE) (r:CA):CA:=fun l=>bnd (a l) fun x=>bnd (r l) fun xs=>ret (x::xs)
def cTup (a:CA):CE:=fun l=>bnd (a l) fun xs=>chk (xs.length<=lim) (ret (.tup xs))
def cChain (f g:D->D->M D) (a b c:CE):CE:=fun l=>bnd (a l) fun x=>bnd (b l) fun y=>bnd (f x y) fun z=>match z with
 | .bl true=>bnd (c l) fun w=>g y w
 | .bl false=>ret (.bl false)
 | _=>bad
def cAnd (a b:CE):CE:=fun l=>bnd (a l) fun x=>match x with
 | .bl true=>b l
 | .bl false=>ret (.bl false)
 | _=>bad
def cOr (a b:CE):CE:=fun l=>bnd (a l) fun x=>match x with
 | .bl true=>ret (.bl true)
 | .bl false=>b l
 | _=>bad
def cNot (a:CE):CE:=fun l=>bnd (a l) fun x=>match x with
 | .bl b=>ret (.bl !b)
 | _=>bad
def cIfE (t:CT) (a b:CE):CE:=fun l=>bnd (t l) fun c=>if c=true then a l else b l
def cCall (g:List D->M D) (a:CA):CE:=fun l=>bnd (a l) g
def tVal (a:CE):CT:=fun l=>bnd (a l) truD
def tCmpB (a:CE):CT:=fun l=>bnd (a l) fun x=>match x with
 | .bl b=>ret b
 | _=>bad
def tAndB (a b:CT):CT:=fun l=>bnd (a l) fun c=>if c=true then b l else ret false
def tOrB (a b:CT):CT:=fun l=>bnd (a l) fun c=>if c=true then ret true else b l
structure Wk where
 ds:List D
 same:Sto->Prop
abbrev CI:=Loc->M Wk
open Classical in
def chkS (p:Sto->Prop):M Unit:=fun s=>if p s then .ok () s else .bad
def anySt:Sto->Prop:=fun _=>True
def sameL (n:Nat) (ds:List D):Sto->Prop:=fun s=>s[n]?=some (.lst ds)
def iSeq (a:CE):CI:=fun l=>bnd (a l) fun x=>match x with
 | .tup ds=>ret ⟨ds,anySt⟩
 | .lit ds=>ret ⟨ds,anySt⟩
 | .ref n=>bnd (getL n) fun ds=>ret ⟨ds,sameL n ds⟩
 | _=>bad
def rngD (lo:Int) (n:Nat):List D:=(List.range n).map fun k=>.int (lo + (k:Nat))
def iRng1 (a:CE):CI:=fun l=>bnd (a l) fun x=>match x with
 | .int j=>chk (-(2 ^ 62)<=j/\j < 2 ^ 62) (ret ⟨rngD 0 j.toNat,anySt⟩)
 | _=>bad
def iRng2 (a b:CE):CI:=fun l=>bnd (a l) fun x=>bnd (b l) fun y=>match x,y with
 | .int i,.int j=>chk ((-(2 ^ 62)<=i/\i < 2 ^ 62)/\(-(2 ^ 62)<=j/\j < 2 ^ 62)) (ret ⟨rngD i (j - i).toNat,anySt⟩)
 | _,_=>bad
def iTmp (a:CA):CI:=fun l=>bnd (a l) fun ds=>ret ⟨ds,anySt⟩
def iEnum (a:CE):CI:=fun l=>bnd (a l) fun x=>match x with
 | .tup ds=>ret ⟨(rngD 0 ds.length).zipWith (fun i d=>.tup [i,d]) ds,anySt⟩
 | _=>bad
abbrev CG:=D->Loc->M Loc
def gVar (i:Nat):CG:=fun d l=>ret (l.set i (some d))
def gsNil:List D->Loc->M Loc
 | [],l=>ret l
 | _,_=>bad
def gsCons (g:CG) (r:List D->Loc->M Loc):List D->Loc->M Loc
 | d::ds,l=>bnd (g d l) fun l'=>r ds l'
 | _,_=>bad
def gTupD (n:Nat) (r:List D->Loc->M Loc):CG:=fun d l=>match d with
 | .tup ds=>chk (ds.length=n) (r ds l)
 | _=>bad
def capt (n:Nat) (caps:List Nat) (l:Loc):Loc:=List.replicate n none++caps.map fun i=>(l[i]?).join
def collect (g:CG) (t:CT) (e:CE) (same:Sto->Prop):List D->Loc->M (List D)
 | [],_=>bnd (chkS same) fun _=>ret []
 | d::ds,l=>bnd (chkS same) fun _=>bnd (g d l) fun l'=>bnd (t l') fun b=>if b=true then bnd (e l') fun x=>bnd (collect g t e same ds l') fun xs=>ret (x::xs) else collect g t e same ds l'
def aComp (n:Nat) (caps:List Nat) (i:CI) (g:CG) (t:CT) (e:CE):CA:=fun l=>bnd (i l) fun w=>chk (w.ds.length<=lim) (collect g t e w.same w.ds (capt n caps l))
def sIx (n d:Nat):Option Int->Nat
 | none=>d
 | some v=>if v < 0 then (v + (n:Int)).toNat else min v.toNat n
def cutD (xs:List D) (lo hi:Option Int):List D:=(xs.drop (sIx xs.length 0 lo)).take (sIx xs.length xs.length hi - sIx xs.length 0 lo)
abbrev CO:=Loc->M (Option Int)
def oNone:CO:=fun _=>ret none
def oSome (a:CE):CO:=fun l=>bnd (a l) fun x=>match x with
 | .int i=>ret (some i)
 | _=>bad
def aSlice (a:CE) (lo hi:CO):CA:=fun l=>bnd (a l) fun x=>bnd (lo l) fun i=>bnd (hi l) fun j=>match x with
 | .lit ds=>ret (cutD ds i j)
 | .ref n=>bnd (getL n) fun ds=>ret (cutD ds i j)
 | _=>bad
def cSliceT (a:CE) (lo hi:CO):CE:=fun l=>bnd (a l) fun x=>bnd (lo l) fun i=>bnd (hi l) fun j=>match x with
 | .tup ds=>chk (¬(sIx ds.length 0 i=0/\sIx ds.length ds.length j=ds.length)) (ret (.tup (cutD ds i j)))
 | _=>bad
def tTrue:CT:=fun _=>ret true
def cKeep (a:CA):CE:=fun l=>bnd (a l) fun ds=>alloc (.lst ds)
def aDisp (a:CA):CA:=fun l=>bnd (a l) fun xs=>chk (xs.length<=lim) (ret xs)
def cTmpSub (a:CA) (b:CE):CE:=fun l=>bnd (a l) fun ds=>bnd (b l) fun i=>match i with
 | .int k=>itemD ds k
 | _=>bad
def cTmp (g:List D->M D) (a:CA):CE:=fun l=>bnd (a l) g
def sNext:CS:=fun l=>ret (.next l)
def sSeq (a b:CS):CS:=fun l=>bnd (a l) fun f=>match f with
 | .next l'=>b l'
 | f=>ret f
def sAsg (g:CG) (a:CE):CS:=fun l=>bnd (a l) fun d=>bnd (g d l) fun l'=>ret (.next l')
def sRet (a:CE):CS:=fun l=>bnd (a l) fun d=>ret (.ret d)
def sExp (a:CE):CS:=fun l=>bnd (a l) fun _=>ret (.next l)
def sIf (t:CT) (a b:CS):CS:=fun l=>bnd (t l) fun c=>if c=true then a l else b l
def forD (g:CG) (b:CS) (same:Sto->Prop):List D->CS
 | [],l=>bnd (chkS same) fun _=>ret (.next l)
 | d::ds,l=>bnd (chkS same) fun _=>bnd (g d l) fun l'=>bnd (b l') fun f=>match f with
  | .next l2=>forD g b same ds l2
  | .cnt l2=>forD g b same ds l2
  | .brk l2=>ret (.next l2)
  | .ret d=>ret (.ret d)
def sFor (i:CI) (g:CG) (b:CS):CS:=fun l=>bnd (i l) fun w=>forD g b w.same w.ds l
def flwD:Flw->M D
 | .ret d=>ret d
 | .next _=>ret .non
 | _=>bad
def runDef (n:Nat) (body:CS) (ds:List D):M D:=bnd (body (ds.map some++List.replicate (n - ds.length) none)) flwD
def setItemD (o i v:D):M Unit:=match o,i with
 | .ref n,.int k=>bnd (getL n) fun ds=>match ixN ds.length k with
  | some j=>putL n (ds.set j v)
  | none=>bad
 | .dic n,k=>storeK n k v
 | _,_=>bad
def gSubD (o i:CE):CG:=fun v l=>bnd (o l) fun y=>bnd (i l) fun z=>bnd (setItemD y z v) fun _=>ret l
def lenD:D->M D
 | .tup ds=>ret (.int ds.length)
 | .lit ds=>ret (.int ds.length)
 | .ref n=>bnd (getL n) fun ds=>ret (.int ds.length)
 | .str x=>chk (x.length<=lim) (ret (.int x.length))
 | .dic n=>bnd (getDc n) fun p=>ret (.int p.2.length)
 | _=>bad
def appendL (n:Nat) (v:D):M D:=bnd (getL n) fun ds=>chk (ds.length < lim) (bnd (putL n (ds++[v])) fun _=>ret .non)
def cAppend (a b:CE):CE:=fun l=>bnd (a l) fun x=>match x with
 | .ref n=>bnd (b l) fun v=>appendL n v
 | _=>bad
def intD:D->M D
 | .int i=>ret (.int i)
 | .bl b=>ret (.int (if b then 1 else 0))
 | _=>bad
def tupleD:D->M D
 | .tup ds=>ret (.tup ds)
 | .lit ds=>ret (.tup ds)
 | .ref n=>bnd (getL n) fun ds=>ret (.tup ds)
 | _=>bad
def numsL:List D->Option (List Int)
 | []=>some []
 | .int i::ds=>(numsL ds).map (i::·)
 | _=>none
def maxD (ds:List D):M D:=match numsL ds with
 | some (n::ns)=>ret (.int (ns.foldl max n))
 | _=>bad
def tupL (ds:List D):M D:=ret (.tup ds)
def isD:D->D->M D
 | .bl a,.bl b=>ret (.bl (a == b))
 | x,.non=>isND x
 | _,_=>bad
def isntD:D->D->M D
 | .bl a,.bl b=>ret (.bl !(a == b))
 | x,.non=>notND x
 | _,_=>bad
def flatD:D->Bool
 | .non=>true
 | .bl _=>true
 | .int _=>true
 | .str _=>true
 | _=>false
def eqFl:D->D->Bool
 | .non,.non=>true
 | .bl a,.bl b=>a == b
 | .bl a,.int b=>(if a then 1 else 0) == b
 | .int a,.bl b=>a == (if b then 1 else 0)
 | .int a,.int b=>a == b
 | .str a,.str b=>a == b
 | _,_=>false
def inL (x:D) (ds:List D):M D:=chk (flatD x=true/\ds.all flatD=true) (ret (.bl (ds.any fun d=>eqFl d x)))
def ninL (x:D) (ds:List D):M D:=chk (flatD x=true/\ds.all flatD=true) (ret (.bl !(ds.any fun d=>eqFl d x)))
def inD (x y:D):M D:=match y with
 | .dic n=>bnd (hasK n x) fun b=>ret (.bl b)
 | y=>bnd (seqOf y) (inL x)
def ninD (x y:D):M D:=match y with
 | .dic n=>bnd (hasK n x) fun b=>ret (.bl !b)
 | y=>bnd (seqOf y) (ninL x)
def allocK (b:Bool) (kvs:List (D × D)):M D:=fun s=>.ok (.dic s.length) (s++[.dct b kvs])
def cDNew (b:Bool):CE:=fun _=>allocK b []
def aTimes (a:CA) (b:CE):CA:=fun l=>bnd (a l) fun xs=>bnd (b l) fun k=>match k with
 | .int k=>chk ((-(2 ^ 63)<=k/\k < 2 ^ 63)/\xs.length * k.toNat<=lim) (ret (List.replicate k.toNat xs).flatten)
 | _=>bad
def cInTmp (g:D->List D->M D) (a:CE) (b:CA):CE:=fun l=>bnd (a l) fun x=>bnd (b l) fun ds=>g x ds
def min2D:D->D->M D
 | .int i,.int j=>ret (.int (min i j))
 | _,_=>bad
def listD (d:D):M D:=bnd (seqOf d) fun ds=>alloc (.lst ds)
def cPop (a:CE):CE:=fun l=>bnd (a l) fun x=>match x with
 | .ref n=>bnd (getL n) fun ds=>match ds.getLast? with
  | some d=>bnd (putL n ds.dropLast) fun _=>ret d
  | none=>bad
 | _=>bad
def aBack (a:CE):CA:=fun l=>bnd (a l) fun x=>match x with
 | .ref n=>getL n |> fun m=>bnd m fun ds=>ret ds.reverse
 | _=>bad
def whileN (t:CT) (b:CS):Nat->CS
 | 0=>fun _=>bad
 | n + 1 => fun l => bnd (t l) fun c => if c = true then bnd (b l) fun f => match f with
   | .next l2=>whileN t b n l2
   | .cnt l2=>whileN t b n l2
   | .brk l2=>ret (.next l2)
   | .ret d=>ret (.ret d) else ret (.next l)
open Classical in
def sWhile (t:CT) (b:CS):CS:=fun l s=>if h:∃ n,(∀ r,whileN t b n l s=r->r≠.bad) then whileN t b (choose h) l s else .bad
end MM
namespace MM
open PySem PySem.Spec PyProof.Rows L2
abbrev St:=L2.St
def FzL (K:PySem.W.Frag) (H:Hp) (a:Addr) (xs:List V):Prop:=
 (∃ o,H a=some (.frz o (.lst xs))) \/
  ∃ (o:Obj) (its:Array Value) (n:Nat),K.lookup a=some o/\o.cls=.type "list"/\o.dict=none/\o.data=.seq its n/\its.size<=sizeLine/\Vals xs its.toList
theorem FzL.seq {K:PySem.W.Frag}{H:Hp}{a:Addr}{xs:List V} (h:FzL K H a xs):SqL K H a xs:=by
 rcases h with ⟨o,h⟩ | h
 ·exact .inl (.inr ⟨o,h⟩)
 ·exact .inr h
def kO:HO->Nat
 | .lst _=>0
 | .dK _=>1
 | .ext _=>2
 | _=>3
abbrev NK:=List KI
def nH (k:NK):Int:=nestHash k
def nEnt (x:NK × Addr × Value):DictEntry:=⟨nH x.1,.ref x.2.1,x.2.2⟩
def NOk (a:Addr) (es:List (NK × Addr × V)) (h:Heap):Prop:=es.length<=sizeLine/\(a == sysModules)=false/\∃ xs:List (NK × Addr × Value),Paired (fun (p:NK × Addr × V) (q:NK × Addr × Value)=>p.1=q.1/\p.2.1=q.2.1/\RelV p.2.2 q.2.2) es xs /\
 ∃ o es' ep,h.get? a=some o/\o.ExactDict/\o.data=.dict es' ep/\es'.toList=xs.map nEnt/\(xs.map (·.1)).Nodup/\ep=xs.length
def nstO (a:Addr) (es:List (NK × Addr × V)):HO:=.ext (NOk a es)
def rowD (r:List Int):D:=.tup (r.map .int)
def itD:KI->D
 | .inl i=>.int i
 | .inr r=>rowD r
def stD (k:NK):D:=.tup (k.map itD)
def keyD:Key->D
 | .inl i=>.int i
 | .inr x=>.str x
mutual
inductive Rep (K:PySem.W.Frag) (ρ:List Addr) (H:Hp):V->D->Prop
 | non:Rep K ρ H .non .non
 | bl (b:Bool):Rep K ρ H (.bl b) (.bl b)
 | int (i:Int):Rep K ρ H (.int i) (.int i)
 | str (x:Str):Rep K ρ H (.str x) (.str x)
 | tup {a:Addr}{vs:List V}{ds:List D} (h:SqT K H a vs) (r:Reps K ρ H vs ds):Rep K ρ H (.ref a) (.tup ds)
 | lit {a:Addr}{vs:List V}{ds:List D} (h:FzL K H a vs) (r:Reps K ρ H vs ds):Rep K ρ H (.ref a) (.lit ds)
 | ref {a:Addr}{n:Nat} (k:∃ o,H a=some o/\kO o=0) (h:ρ[n]?=some a):Rep K ρ H (.ref a) (.ref n)
 | dic {a:Addr}{n:Nat} (k:∃ o,H a=some o/\(kO o=1\/kO o=2)) (h:ρ[n]?=some a):Rep K ρ H (.ref a) (.dic n)
 | exn0 {a C:Addr}{x:Str} (g:PySem.W.nsIn K mainGlobals x=some (some (.ref C))) (h:∃ o,H a=some (.frz o (.own a))/\o.cls=.ref C):Rep K ρ H (.ref a) (.exn x [])
 | exn {a C dx:Addr}{x f:Str}{v:V}{d:D} (g:PySem.W.nsIn K mainGlobals x=some (some (.ref C))) (h:∃ o,H a=some (.frz o (.own a))/\o.cls=.ref C/\o.dict=some dx/\∃ vs,o.data=.fields vs) (h2:H dx=some (.xd [(f,v)])) (r:Rep K ρ H v d):Rep K ρ H (.ref a) (.exn x [.str f,d])
inductive Reps (K:PySem.W.Frag) (ρ:List Addr) (H:Hp):List V->List D->Prop
 | nil:Reps K ρ H [] []
 | cons {v:V}{d:D}{vs:List V}{ds:List D} (r:Rep K ρ H v d) (t:Reps K ρ H vs ds):Reps K ρ H (v::vs) (d::ds)
end
def ObR (K:PySem.W.Frag) (ρ:List Addr) (H:Hp) (a:Addr):MO->Prop
 | .lst ds=>∃ vs,H a=some (.lst vs)/\Reps K ρ H vs ds
 | .dct false kvs=>∃ es,H a=some (.dK es)/\Paired (fun (p:Key × V) (q:D × D)=>keyD p.1=q.1/\Rep K ρ H p.2 q.2) es kvs
 | .dct true kvs=>∃ es,H a=some (nstO a es)/\Paired (fun (p:NK × Addr × V) (q:D × D)=>stD p.1=q.1/\Rep K ρ H (.ref p.2.1) q.1/\Rep K ρ H p.2.2 q.2) es kvs
structure SR (K:PySem.W.Frag) (ρ:List Addr) (H:Hp) (st:Sto):Prop where
 len:ρ.length=st.length
 nd:ρ.Nodup
 ob:∀ (n:Nat) (a:Addr) (o:MO),ρ[n]?=some a->st[n]?=some o->ObR K ρ H a o
def LR (K:PySem.W.Frag) (ρ:List Addr) (H:Hp) (σ:St) (l:Loc):Prop:=
 σ.length=l.length/\∀ (i:Nat) (d:D),l[i]?=some (some d)->∃ v,σ[i]?=some (some v)/\Rep K ρ H v d
structure Ex (ρ:List Addr) (H:Hp) (ρ':List Addr) (H':Hp):Prop where
 pre:∃ τ,ρ'=ρ++τ/\∀ a∈τ,H a=none
 fix:∀ a o,kO o=3->H a=some o->H' a=some o
 oth:∀ a o,a∉ρ->H a=some o->H' a=some o
 knd:∀ a o,H a=some o->∃ o',H' a=some o'/\kO o'=kO o
structure Up (ρ:List Addr) (H:Hp) (ρ':List Addr) (H':Hp):Prop where
 pre:∃ τ,ρ'=ρ++τ
 fix:∀ a o,kO o=3->H a=some o->H' a=some o
 knd:∀ a o,H a=some o->∃ o',H' a=some o'/\kO o'=kO o
section
variable {K:PySem.W.Frag}{ρ ρ1 ρ2:List Addr}{H H1 H2:Hp}{st st1:Sto}{v:V}{d:D}{vs:List V}{ds:List D}{a:Addr}
theorem Ex.lst (x:Ex ρ H ρ1 H1) (a:Addr) (xs:List V) (na:a∉ρ) (h:H a=some (.lst xs)):H1 a=some (.lst xs):=x.oth a _ na h
theorem Ex.trk (x:Ex ρ H ρ1 H1) (a:Addr) (o:HO) (h:H a=some o):H1 a≠none:=by
 obtain⟨o',e,_⟩:=x.knd a o h
 rw[e];exact fun z=>nomatch z
theorem Ex.up (x:Ex ρ H ρ1 H1):Up ρ H ρ1 H1:=⟨let ⟨τ,e,_⟩:=x.pre;⟨τ,e⟩,x.fix,x.knd⟩
theorem Up.grow {τ:List Addr}:Up ρ H (ρ++τ) H:=⟨⟨τ,rfl⟩,fun _ _ _ e=>e,fun _ o e=>⟨o,e,rfl⟩⟩
theorem Ex.refl:Ex ρ H ρ H:=⟨⟨[],by simp,by simp⟩,fun _ _ _ e=>e,fun _ _ _ e=>e,fun _ o e=>⟨o,e,rfl⟩⟩
theorem Ex.trans (x:Ex ρ H ρ1 H1) (y:Ex ρ1 H1 ρ2 H2):Ex ρ H ρ2 H2:=by
 obtain⟨τ1,rfl,f1⟩:=x.pre
 obtain⟨τ2,rfl,f2⟩:=y.pre
 refine⟨⟨τ1++τ2,by simp,fun a ha=>?_⟩,fun a o no e=>y.fix a o no (x.fix a o no e),fun a o na e=>?_,fun a o e=>?_⟩
 ·rcases List.mem_append.mp ha with ha | ha
  ·exact f1 a ha
  ·cases q:H a with
   | none=>rfl
   | some o=>exact absurd (f2 a ha) (x.trk a o q)
 ·refine y.oth a o (fun z=>?_) (x.oth a o na e)
  rcases List.mem_append.mp z with z | z
  ·exact na z
  ·rw[f1 a z]at e;cases e
 ·obtain⟨o1,e1,k1⟩:=x.knd a o e
  obtain⟨o2,e2,k2⟩:=y.knd a o1 e1
  exact⟨o2,e2,k2.trans k1⟩
theorem Ex.new {o:HO} (h:H a=none):Ex ρ H ρ (upd H a o):=
 ⟨⟨[],by simp,by simp⟩,fun b u _ e=>by rw[Qaj (Qal e h)];exact e,fun b u _ e=>by rw[Qaj (Qal e h)];exact e,
  fun b u e=>⟨u,by rw[Qaj (Qal e h)];exact e,rfl⟩⟩
theorem Ex.newO {o:HO} (h:H a=none):Ex ρ H (ρ++[a]) (upd H a o):=
 ⟨⟨[a],rfl,fun b hb=>by rw[List.mem_singleton]at hb;rw[hb];exact h⟩,(Ex.new (ρ:=ρ) h).fix,(Ex.new (ρ:=ρ) h).oth,(Ex.new (ρ:=ρ) h).knd⟩
theorem Ex.newL {vs:List V} (h:H a=none):Ex ρ H (ρ++[a]) (upd H a (.lst vs)):=Ex.newO h
theorem SqT.mono (x:Up ρ H ρ1 H1) (h:SqT K H a vs):SqT K H1 a vs:=by
 rcases h with h | h
 ·rcases h with h | ⟨o,h⟩
  ·exact .inl (.inl (x.fix a _ rfl h))
  ·exact .inl (.inr ⟨o,x.fix a _ rfl h⟩)
 ·exact .inr h
theorem FzL.mono (x:Up ρ H ρ1 H1) (h:FzL K H a vs):FzL K H1 a vs:=by
 rcases h with ⟨o,h⟩ | h
 ·exact .inl ⟨o,x.fix a _ rfl h⟩
 ·exact .inr h
theorem Qde {α:Type}{l τ:List α}{n:Nat}{a:α} (h:l[n]?=some a):(l++τ)[n]?=some a:=by
 rw[List.getElem?_append_left (List.getElem?_eq_some_iff.mp h).1];exact h
mutual
theorem Rep.up (x:Up ρ H ρ1 H1):∀ {v:V}{d:D},Rep K ρ H v d->Rep K ρ1 H1 v d
 | _,_,.non=>.non
 | _,_,.bl b=>.bl b
 | _,_,.int i=>.int i
 | _,_,.str y=>.str y
 | _,_,.tup h r=>.tup (SqT.mono x h) (Reps.up x r)
 | _,_,.lit h r=>.lit (FzL.mono x h) (Reps.up x r)
 | _,_,.ref ⟨o,ho,hk⟩ h=>by
  obtain⟨τ,e⟩:=x.pre
  obtain⟨o',ho',hk'⟩:=x.knd _ o ho
  exact .ref ⟨o',ho',hk'.trans hk⟩ (by rw[e];exact Qde h)
 | _,_,.dic ⟨o,ho,hk⟩ h=>by
  obtain⟨τ,e⟩:=x.pre
  obtain⟨o',ho',hk'⟩:=x.knd _ o ho
  exact .dic ⟨o',ho',by rw[hk'];exact hk⟩ (by rw[e];exact Qde h)
 | _,_,.exn0 g ⟨o,ho,hc⟩=>.exn0 g ⟨o,x.fix _ _ rfl ho,hc⟩
 | _,_,.exn g ⟨o,ho,hc⟩ h2 r=>.exn g ⟨o,x.fix _ _ rfl ho,hc⟩ (x.fix _ _ rfl h2) (Rep.up x r)
theorem Reps.up (x:Up ρ H ρ1 H1):∀ {vs:List V}{ds:List D},Reps K ρ H vs ds->Reps K ρ1 H1 vs ds
 | _,_,.nil=>.nil
 | _,_,.cons r t=>.cons (Rep.up x r) (Reps.up x t)
end
theorem Rep.mono (r:Rep K ρ H v d) (x:Ex ρ H ρ1 H1):Rep K ρ1 H1 v d:=r.up x.up
theorem Reps.mono (r:Reps K ρ H vs ds) (x:Ex ρ H ρ1 H1):Reps K ρ1 H1 vs ds:=r.up x.up
theorem Reps.length:∀ {vs:List V}{ds:List D},Reps K ρ H vs ds->vs.length=ds.length
 | _,_,.nil=>rfl
 | _,_,.cons _ t=>by simp[Reps.length t]
theorem Reps.get:∀ {vs:List V}{ds:List D}{i:Nat}{d:D},Reps K ρ H vs ds->ds[i]?=some d->∃ v,vs[i]?=some v/\Rep K ρ H v d
 | _,_,_,_,.nil,e=>by simp at e
 | _,_,0,_,.cons r _,e=>by simp at e;subst e;exact⟨_,rfl,r⟩
 | _,_,i + 1,_,.cons _ t,e=>by
  obtain⟨v,h1,h2⟩:=Reps.get (i:=i) t (by simpa using e)
  exact⟨v,by simpa using h1,h2⟩
theorem Reps.app:∀ {vs ws:List V}{ds es:List D},Reps K ρ H vs ds->Reps K ρ H ws es->Reps K ρ H (vs++ws) (ds++es)
 | _,_,_,_,.nil,s=>s
 | _,_,_,_,.cons r t,s=>.cons r (Reps.app t s)
theorem Reps.set:∀ {vs:List V}{ds:List D}{v:V}{d:D} (i:Nat),Reps K ρ H vs ds->Rep K ρ H v d->Reps K ρ H (vs.set i v) (ds.set i d)
 | _,_,_,_,_,.nil,_=>.nil
 | _,_,_,_,0,.cons _ t,r=>.cons r t
 | _,_,_,_,i + 1,.cons q t,r=>.cons q (Reps.set i t r)
theorem Reps.take:∀ {vs:List V}{ds:List D} (n:Nat),Reps K ρ H vs ds->Reps K ρ H (vs.take n) (ds.take n)
 | _,_,0,_=>.nil
 | _,_,_ + 1,.nil=>.nil
 | _,_,n + 1,.cons r t=>.cons r (Reps.take n t)
theorem Reps.drop:∀ {vs:List V}{ds:List D} (n:Nat),Reps K ρ H vs ds->Reps K ρ H (vs.drop n) (ds.drop n)
 | _,_,0,r=>r
 | _,_,_ + 1,.nil=>.nil
 | _,_,n + 1,.cons _ t=>Reps.drop n t
theorem LR.mono {σ:St}{l:Loc} (x:Ex ρ H ρ1 H1) (h:LR K ρ H σ l):LR K ρ1 H1 σ l:=
 ⟨h.1,fun i d e=>let ⟨v,e1,r⟩:=h.2 i d e;⟨v,e1,r.mono x⟩⟩
theorem SR.at (s:SR K ρ H st) {n:Nat}{o:MO} (e:st[n]?=some o):∃ a,ρ[n]?=some a/\ObR K ρ H a o:=by
 have hl:n < ρ.length:=by rw[s.len];exact (List.getElem?_eq_some_iff.mp e).1
 have q:ρ[n]?=some ρ[n]:=List.getElem?_eq_getElem hl
 exact⟨_,q,s.ob n _ o q e⟩
theorem SR.seq (s:SR K ρ H st) {n:Nat} (e:st[n]?=some (.lst ds)):∃ a vs,ρ[n]?=some a/\H a=some (.lst vs)/\Reps K ρ H vs ds:=by
 obtain⟨a,h,vs,q,r⟩:=s.at e
 exact⟨a,vs,h,q,r⟩
theorem ObR.ex {o:MO} (h:ObR K ρ H a o):∃ u,H a=some u:=by
 cases o with
 | lst ds=>obtain⟨vs,q,_⟩:=h;exact⟨_,q⟩
 | dct b kvs=>cases b<;>(obtain⟨vs,q,_⟩:=h;exact⟨_,q⟩)
theorem SR.fresh (s:SR K ρ H st) (h:H a=none):a∉ρ:=fun z=>by
 obtain⟨n,hn⟩:=List.getElem?_of_mem z
 have hl:n < st.length:=by rw[<- s.len];exact (List.getElem?_eq_some_iff.mp hn).1
 obtain⟨u,q⟩:=ObR.ex (s.ob n a _ hn (List.getElem?_eq_getElem hl))
 rw[h]at q;cases q
theorem Qdf {n:Nat}{xs:List D}{s':Sto} (h:getL n st=.ok xs s'):s'=st/\st[n]?=some (.lst xs):=by
 unfold getL at h
 cases e:st[n]? with
 | none=>rw[e]at h;cases h
 | some o=>
  rw[e]at h
  cases o with
  | lst ds=>cases h;exact⟨rfl,rfl⟩
  | dct _ _=>cases h
theorem Paired.mapS {α β:Type}{F G:α->β->Prop}:∀ {l₁:List α}{l₂:List β},Paired F l₁ l₂->(∀ a b,F a b->G a b)->Paired G l₁ l₂
 | _,_,.nil,_=>.nil
 | _,_,.cons r t,f=>.cons (f _ _ r) (Paired.mapS t f)
theorem ObR.mono {o:MO} (x:Up ρ H ρ1 H1) (h:ObR K ρ H a o) (hk:∀ u,H a=some u->H1 a=some u):ObR K ρ1 H1 a o:=by
 cases o with
 | lst ds=>
  obtain⟨vs,q,r⟩:=h
  exact⟨vs,hk _ q,r.up x⟩
 | dct b kvs=>
  cases b with
  | false=>
   obtain⟨es,q,r⟩:=h
   exact⟨es,hk _ q,Paired.mapS r fun p q z=>⟨z.1,z.2.up x⟩⟩
  | true=>
   obtain⟨es,q,r⟩:=h
   exact⟨es,hk _ q,Paired.mapS r fun p q z=>⟨z.1,z.2.1.up x,z.2.2.up x⟩⟩
theorem SR.new {o:HO} (s:SR K ρ H st) (h:H a=none):SR K ρ (upd H a o) st:=
 ⟨s.len,s.nd,fun n b ob e1 e2=>ObR.mono (o:=ob) (Ex.new (ρ:=ρ) h).up (s.ob n b ob e1 e2) fun vs q=>by rw[Qaj (Qal q h)];exact q⟩
theorem SR.keepO {o':MO} (s:SR K ρ H st) (na:a∉ρ) (r:ObR K ρ H a o'):SR K (ρ++[a]) H (st++[o']):=by
 have hl:=s.len
 have old:∀ (n:Nat) (b:Addr),(ρ++[a])[n]?=some b->(n < ρ.length/\ρ[n]?=some b)\/(n=ρ.length/\b=a):=fun n b e=>by
  by_cases hn:n < ρ.length
  ·rw[List.getElem?_append_left hn]at e;exact .inl ⟨hn,e⟩
  ·rw[List.getElem?_append_right (by ac_nf)]at e
   have hz:n - ρ.length=0:=by
    cases q:n - ρ.length with
    | zero=>rfl
    | succ k=>rw[q]at e;simp at e
   rw[hz]at e
   simp at e
   exact .inr ⟨by ac_nf,e.symm⟩
 refine⟨by simp[hl],List.nodup_append.mpr ⟨s.nd,by simp,fun x hx y hy=>?_⟩,fun n b o e1 e2=>?_⟩
 ·rw[List.mem_singleton]at hy
  subst hy
  exact fun z=>na (z ▸ hx)
 ·rcases old n b e1 with ⟨hn,f1⟩ | ⟨hn,f1⟩
  ·rw[List.getElem?_append_left (by ac_nf)]at e2
   exact ObR.mono (o:=o) Up.grow (s.ob n b o f1 e2) fun _ q=>q
  ·subst f1
   have:o=o':=by
    rw[hn,hl,List.getElem?_append_right (Nat.le_refl _)]at e2
    simp at e2;exact e2.symm
   subst this
   exact ObR.mono (o:=o) Up.grow r fun _ q=>q
theorem SR.keep (s:SR K ρ H st) (h:H a=some (.lst vs)) (na:a∉ρ) (r:Reps K ρ H vs ds):SR K (ρ++[a]) H (st++[.lst ds]):=s.keepO na ⟨vs,h,r⟩
theorem SR.putO (s : SR K ρ H st) {n : Nat} {o' : MO} {u u' : HO} (hl : n < st.length) (ha : ρ[n]? = some a) (hu : H a = some u) (k3 : kO u ≠ 3) (hk : kO u' = kO u) (r : ObR K ρ (upd H a u') a o') :
  SR K ρ (upd H a u') (st.set n o')/\Ex ρ H ρ (upd H a u'):=by
 have x:Ex ρ H ρ (upd H a u'):=by
  refine⟨⟨[],by simp,by simp⟩,fun b o no q=>?_,fun b xs nb q=>?_,fun b o q=>?_⟩
  ·have:b≠a:=fun z=>by subst z;rw[hu]at q;cases q;exact k3 no
   rw[Qaj this];exact q
  ·have:b≠a:=fun z=>by subst z;exact nb (List.mem_of_getElem? ha)
   rw[Qaj this];exact q
  ·by_cases z:b=a
   ·subst z;rw[hu]at q;cases q;exact⟨u',Qai,hk⟩
   ·exact⟨o,by rw[Qaj z];exact q,rfl⟩
 refine⟨⟨by simp[s.len],s.nd,fun m b o e1 e2=>?_⟩,x⟩
 by_cases z:m=n
 ·subst z
  rw[ha]at e1;cases e1
  rw[List.getElem?_set_self hl]at e2;cases e2
  exact r
 ·rw[List.getElem?_set_ne (Ne.symm z)]at e2
  refine ObR.mono (o:=o) x.up (s.ob m b o e1 e2) fun us q=>?_
  have:b≠a:=fun w=>by
   subst w
   exact z ((List.getElem?_inj (List.getElem?_eq_some_iff.mp e1).1 s.nd).mp (e1.trans ha.symm))
  rw[Qaj this];exact q
theorem SR.put (s : SR K ρ H st) {n : Nat} {ws : List V} (hl : n < st.length) (ha : ρ[n]? = some a) (hw : H a = some (.lst ws)) (r : Reps K ρ H vs ds) :
  SR K ρ (upd H a (.lst vs)) (st.set n (.lst ds))/\Ex ρ H ρ (upd H a (.lst vs)):=by
 have u:Up ρ H ρ (upd H a (.lst vs)):=by
  refine⟨⟨[],by simp⟩,fun b o no q=>?_,fun b o q=>?_⟩
  ·have:b≠a:=fun z=>by subst z;rw[hw]at q;cases q;exact nomatch no
   rw[Qaj this];exact q
  ·by_cases z:b=a
   ·subst z;rw[hw]at q;cases q;exact⟨_,Qai,rfl⟩
   ·exact⟨o,by rw[Qaj z];exact q,rfl⟩
 exact s.putO hl ha hw (by show (0:Nat)≠3;decide) rfl ⟨vs,Qai,r.up u⟩
theorem Qdg (k:∃ o,H a=some o/\kO o=0):∃ vs,H a=some (.lst vs):=by
 obtain⟨o,e,hk⟩:=k
 cases o with
 | lst vs=>exact⟨vs,e⟩
 | _=>exact nomatch hk
def Post {α:Type} (K:PySem.W.Frag) (ρ:List Addr) (H:Hp) (r:Rs α) (R:α->Sto->List Addr->Hp->Prop):Prop:=match r with
 | .ok a st=>∀ ρ' H',Ex ρ H ρ' H'->SR K ρ' H' st->R a st ρ' H'
 | _=>False
theorem Post.left {α:Type}{r:Rs α}{R:α->Sto->List Addr->Hp->Prop} (x:Ex ρ H ρ1 H1) (h:Post K ρ H r R):Post K ρ1 H1 r R:=by
 cases r with
 | ok a st=>exact fun ρ' H' y s=>h ρ' H' (x.trans y) s
 | exc _ _=>exact h
 | bad=>exact h
theorem Post.imp {α:Type}{r:Rs α}{R R':α->Sto->List Addr->Hp->Prop} (h:Post K ρ H r R) (f:∀ a st ρ' H',Ex ρ H ρ' H'->SR K ρ' H' st->R a st ρ' H'->R' a st ρ' H'):Post K ρ H r R':=by
 cases r with
 | ok a st=>exact fun ρ' H' y s=>f a st ρ' H' y s (h ρ' H' y s)
 | exc _ _=>exact h
 | bad=>exact h
theorem Post.bnd {α β:Type}{m:M α}{f:α->M β}{R:β->Sto->List Addr->Hp->Prop} (h:Post K ρ H (bnd m f st) R):Post K ρ H (m st) fun a st' ρ' H'=>Post K ρ' H' (f a st') R:=by
 unfold MM.bnd at h
 cases e:m st with
 | ok a s'=>
  rw[e]at h
  exact fun ρ' H' y s=>h.left y
 | exc _ _=>rw[e]at h;exact h
 | bad=>rw[e]at h;exact h
theorem Post.ret {α:Type}{a:α}{R:α->Sto->List Addr->Hp->Prop} (h:Post K ρ H (MM.ret a st) R) (s:SR K ρ H st):R a st ρ H:=h ρ H Ex.refl s
theorem Post.chk {α:Type}{c:Prop} [Decidable c] {m:M α}{R:α->Sto->List Addr->Hp->Prop} (h:Post K ρ H (MM.chk c m st) R):c/\Post K ρ H (m st) R:=by
 unfold MM.chk at h
 by_cases hc:c
 ·rw[if_pos hc]at h;exact⟨hc,h⟩
 ·rw[if_neg hc]at h;exact h.elim
theorem Post.getL {n:Nat}{R:List D->Sto->List Addr->Hp->Prop} (h:Post K ρ H (MM.getL n st) R) (s:SR K ρ H st):∃ xs,st[n]?=some (.lst xs)/\R xs st ρ H:=by
 cases e:MM.getL n st with
 | ok xs s'=>
  obtain⟨rfl,q⟩:=Qdf e
  rw[e]at h
  exact⟨xs,q,h ρ H Ex.refl s⟩
 | exc _ _=>rw[e]at h;exact h.elim
 | bad=>rw[e]at h;exact h.elim
def tOf (K:PySem.W.Frag) (f:CE):TE:=fun σ H Q=>∃ ρ l st,LR K ρ H σ l/\SR K ρ H st/\Post K ρ H (f l st) fun d _ ρ' H'=>∀ v,Rep K ρ' H' v d->Q v H'
def ttOf (K:PySem.W.Frag) (f:CT):TT:=fun σ H Q=>∃ ρ l st,LR K ρ H σ l/\SR K ρ H st/\Post K ρ H (f l st) fun b _ _ H'=>Q b H'
def taOf (K:PySem.W.Frag) (f:CA):TA:=fun σ H Q=>∃ ρ l st,LR K ρ H σ l/\SR K ρ H st/\Post K ρ H (f l st) fun ds _ ρ' H'=>∀ vs,Reps K ρ' H' vs ds->Q vs H'
def tlOf (K:PySem.W.Frag) (f:CA):TE:=fun σ H Q=>∃ ρ l st,LR K ρ H σ l/\SR K ρ H st/\Post K ρ H (f l st) fun ds _ ρ' H'=>∀ a vs,H a=none->a∉ρ'->H' a=some (.lst vs)->Reps K ρ' H' vs ds->Q (.ref a) H'
def tsOf (K:PySem.W.Frag) (c:CS):TS:=fun G σ H=>∃ ρ l st,LR K ρ H σ l/\SR K ρ H st/\Post K ρ H (c l st) fun f _ ρ' H'=>match f with
 | .next l'=>∀ σ',LR K ρ' H' σ' l'->G.nx σ' H'
 | .ret d=>∀ v,Rep K ρ' H' v d->G.rt v H'
 | .brk l'=>∀ σ',LR K ρ' H' σ' l'->G.bk σ' H'
 | .cnt l'=>∀ σ',LR K ρ' H' σ' l'->G.ct σ' H'
def tgOf (K:PySem.W.Frag) (g:CG):TG:=fun v σ H Q=>∃ ρ l st d,LR K ρ H σ l/\SR K ρ H st/\Rep K ρ H v d/\Post K ρ H (g d l st) fun l' _ ρ' H'=>∀ σ',LR K ρ' H' σ' l'->Q σ' H'
def tgsOf (K:PySem.W.Frag) (g:List D->Loc->M Loc):TGs:=fun vs σ H Q=>∃ ρ l st ds,LR K ρ H σ l/\SR K ρ H st/\Reps K ρ H vs ds/\Post K ρ H (g ds l st) fun l' _ ρ' H'=>∀ σ',LR K ρ' H' σ' l'->Q σ' H'
def rOf (K:PySem.W.Frag) (g:D->D->M D):R2:=fun x y H Q=>∃ ρ st d e,SR K ρ H st/\Rep K ρ H x d/\Rep K ρ H y e/\Post K ρ H (g d e st) fun r _ ρ' H'=>∀ v,Rep K ρ' H' v r->Q v H'
def uOf (K:PySem.W.Frag) (g:D->M D):V->Hp->VK->Prop:=fun x H Q=>∃ ρ st d,SR K ρ H st/\Rep K ρ H x d/\Post K ρ H (g d st) fun r _ ρ' H'=>∀ v,Rep K ρ' H' v r->Q v H'
def kOf (K:PySem.W.Frag) (g:List D->M D):List V->Hp->VK->Prop:=fun xs H Q=>∃ ρ st ds,SR K ρ H st/\Reps K ρ H xs ds/\Post K ρ H (g ds st) fun r _ ρ' H'=>∀ v,Rep K ρ' H' v r->Q v H'
def spOf (K:PySem.W.Frag) (n:Nat) (g:List D->M D):Sp:=fun vs H Q _=>vs.length=n/\kOf K g vs H Q
end
section
variable {X:Cx}{a b c:Expr}{pos:Pos}
abbrev SE (X:Cx) (e:Expr) (f:CE):Prop:=PE X e (tOf X.K f)
abbrev SL (X:Cx) (e:Expr) (f:CA):Prop:=PE X e (tlOf X.K f)
abbrev ST (X:Cx) (e:Expr) (f:CT):Prop:=PT X e (ttOf X.K f)
abbrev SA (X:Cx) (es:List Expr) (f:CA):Prop:=PA X es (taOf X.K f)
abbrev SS (X:Cx) (s:Stmt) (f:CS):Prop:=PS X s (tsOf X.K f)
abbrev SSs (X:Cx) (s:List Stmt) (f:CS):Prop:=PSs X s (tsOf X.K f)
theorem _root_.L2.PE.of {e:Expr}{t t':TE} (h:PE X e t) (f:∀ σ H Q,t' σ H Q->t σ H Q):PE X e t':=fun pins s σ H Q I q=>h pins s σ H Q I (f σ H Q q)
theorem _root_.L2.PT.of {e:Expr}{t t':TT} (h:PT X e t) (f:∀ σ H Q,t' σ H Q->t σ H Q):PT X e t':=fun pins s σ H Q I q=>h pins s σ H Q I (f σ H Q q)
theorem _root_.L2.PA.of {e:List Expr}{t t':TA} (h:PA X e t) (f:∀ σ H Q,t' σ H Q->t σ H Q):PA X e t':=fun pos pins s σ H Q I q=>h pos pins s σ H Q I (f σ H Q q)
theorem _root_.L2.PS.of {e:Stmt}{t t':TS} (h:PS X e t) (f:∀ D σ H,t' D σ H->t D σ H):PS X e t':=fun pins s σ H D I q=>h pins s σ H D I (f D σ H q)
theorem _root_.L2.PSs.of {e:List Stmt}{t t':TS} (h:PSs X e t) (f:∀ D σ H,t' D σ H->t D σ H):PSs X e t':=fun pins s σ H D I q=>h pins s σ H D I (f D σ H q)
theorem _root_.L2.PG.of {e:Expr}{t t':TG} (h:PG X e t) (f:∀ v σ H Q,t' v σ H Q->t v σ H Q):PG X e t':=fun pins s σ H v u Q I r q=>h pins s σ H v u Q I r (f v σ H Q q)
theorem _root_.L2.PGs.of {e:List Expr}{t t':TGs} (h:PGs X e t) (f:∀ v σ H Q,t' v σ H Q->t v σ H Q):PGs X e t':=fun pins s σ H v u Q I r q=>h pins s σ H v u Q I r (f v σ H Q q)
theorem _root_.L2.OpR.of {f:Value->Value->Sem Value}{r r':R2} (h:OpR X f r) (g:∀ x y H Q,r' x y H Q->r x y H Q):OpR X f r':=fun pins s σ H x y v u Q I rx ry q=>h pins s σ H x y v u Q I rx ry (g x y H Q q)
theorem _root_.L2.CallR.of {f:Value}{r r':List V->Hp->VK->Prop} (h:CallR X f r) (g:∀ x H Q,r' x H Q->r x H Q):CallR X f r':=fun pins s σ H x u Q I rx q=>h pins s σ H x u Q I rx (g x H Q q)
variable {fa fb fc:CE}
theorem Qdh (i:Nat) {x:Str} (h:PE X (.Name x pos) (tVar i)):SE X (.Name x pos) (cVar i):=h.of fun σ H Q pq46=>by
 obtain⟨ρ,l,st,lr,sr,p⟩:=pq46
 unfold cVar at p
 cases e:l[i]? with
 | none=>rw[e]at p;exact p.elim
 | some o=>
  rw[e]at p
  cases o with
  | none=>exact p.elim
  | some d=>
   obtain⟨v,e1,r⟩:=lr.2 i d e
   exact⟨v,e1,p.ret sr v r⟩
theorem Qdi {i:Int}{j:Nat}:SE X (.Constant (.int i) j pos) (cCon (.int i)):=(Qat (i:=i) (j:=j) (pos:=pos)).of fun σ H Q pq47=>by obtain⟨ρ,l,st,lr,sr,p⟩:=pq47;exact p.ret sr _ (.int i)
theorem Qdj {i:Bool}{j:Nat}:SE X (.Constant (.bool i) j pos) (cCon (.bl i)):=(Qau (b:=i) (j:=j) (pos:=pos)).of fun σ H Q pq48=>by obtain⟨ρ,l,st,lr,sr,p⟩:=pq48;exact p.ret sr _ (.bl i)
theorem Qdk {j:Nat}:SE X (.Constant .none j pos) (cCon .non):=(Qav (j:=j) (pos:=pos)).of fun σ H Q pq49=>by obtain⟨ρ,l,st,lr,sr,p⟩:=pq49;exact p.ret sr _ .non
theorem Qdl {i:Str}{j:Nat}:SE X (.Constant (.str i) j pos) (cCon (.str i)):=(Qaw (x:=i) (j:=j) (pos:=pos)).of fun σ H Q pq50=>by obtain⟨ρ,l,st,lr,sr,p⟩:=pq50;exact p.ret sr _ (.str i)
theorem Qdm {g:D->D->M D}{r:R2} (hr:∀ x y H Q,rOf X.K g x y H Q->r x y H Q):∀ σ H Q,tOf X.K (c2 g fa fb) σ H Q->tOp r (tOf X.K fa) (tOf X.K fb) σ H Q:=fun σ H Q pq51=>
 by obtain⟨ρ,l,st,lr,sr,p⟩:=pq51;exact⟨ρ,l,st,lr,sr,p.bnd.imp fun d st1 ρ1 H1 x1 s1 p1 v rv=>⟨ρ1,l,st1,lr.mono x1,s1,p1.bnd.imp fun e st2 ρ2 H2 x2 s2 p2 u ru=>hr _ _ _ _ ⟨ρ2,st2,d,e,s2,rv.mono x2,ru,p2⟩⟩⟩
theorem Qdn {op:Operator}{g:D->D->M D} (ho:OpR X (binaryOp op) (rOf X.K g)) (ha:SE X a fa) (hb:SE X b fb):SE X (.BinOp a op b pos) (c2 g fa fb):=
 (Qa6 ho ha hb).of (Qdm fun _ _ _ _ h=>h)
theorem Qdo {op:CmpOp}{g:D->D->M D} (ho:OpR X (compareOp op) (rOf X.K g)) (ha:SE X a fa) (hb:SE X b fb) (hm:behindInMarks op b=false):SE X (.Compare a [op] [b] pos) (c2 g fa fb):=
 (Qbm ho ha hb hm).of (Qdm fun _ _ _ _ h=>h)
end
theorem _root_.Exists.el {α β γ:Type}{A B C:α->β->γ->Prop}{G:Prop} (h:∃ a b c,A a b c/\B a b c/\C a b c) (k:∀ a b c,A a b c->B a b c->C a b c->G):G:=by
 obtain⟨ρ,l,st,a,b,c⟩:=h;exact k ρ l st a b c
theorem tOf.el {K:PySem.W.Frag}{f:CE}{σ:St}{H:Hp}{Q:VK}{C:Prop} (h:tOf K f σ H Q) (k:∀ ρ l st,LR K ρ H σ l->SR K ρ H st->Post K ρ H (f l st) (fun d _ ρ' H'=>∀ v,Rep K ρ' H' v d->Q v H')->C):C:=by
 obtain⟨ρ,l,st,a,b,c⟩:=h;exact k ρ l st a b c
theorem ttOf.el {K:PySem.W.Frag}{f:CT}{σ:St}{H:Hp}{Q:Bool->Hp->Prop}{C:Prop} (h:ttOf K f σ H Q) (k:∀ ρ l st,LR K ρ H σ l->SR K ρ H st->Post K ρ H (f l st) (fun b _ _ H'=>Q b H')->C):C:=by
 obtain⟨ρ,l,st,a,b,c⟩:=h;exact k ρ l st a b c
theorem tsOf.el {K:PySem.W.Frag}{c:CS}{σ:St}{H:Hp}{G:Ends}{C:Prop} (h:tsOf K c G σ H) (k:∀ ρ l st,LR K ρ H σ l->SR K ρ H st->Post K ρ H (c l st) (fun f _ ρ' H'=>match f with
 | .next l'=>∀ σ',LR K ρ' H' σ' l'->G.nx σ' H'
 | .ret d=>∀ v,Rep K ρ' H' v d->G.rt v H'
 | .brk l'=>∀ σ',LR K ρ' H' σ' l'->G.bk σ' H'
 | .cnt l'=>∀ σ',LR K ρ' H' σ' l'->G.ct σ' H')->C):C:=by
 obtain⟨ρ,l,st,a,b,c⟩:=h;exact k ρ l st a b c
end MM
namespace MM
open PySem PySem.Spec PyProof.Rows L2
theorem Qdp:∀ (a b:List Int),eqKs (a.map .int) (b.map .int)=decide (a=b)
 | [],[]=>by simp[eqKs]
 | [],_::_=>by simp[eqKs]
 | _::_,[]=>by simp[eqKs]
 | x::xs,y::ys=>by
  rw[List.map_cons,List.map_cons]
  show (eqK (.int x) (.int y) && eqKs _ _)=_
  rw[Qdp xs ys]
  show (decide (x=y) && _)=_
  simp[Bool.decide_and]
theorem Qdq:∀ (a b:KI),eqK (itD a) (itD b)=decide (a=b)
 | .inl i,.inl j=>by
  show decide (i=j)=_
  by_cases z:i=j
  ·subst z;simp
  ·rw[decide_eq_false z,decide_eq_false (fun q=>z (by injection q))]
 | .inl i,.inr r=>by rw[decide_eq_false (by simp)];rfl
 | .inr r,.inl i=>by rw[decide_eq_false (by simp)];rfl
 | .inr r,.inr q=>by
  show eqKs (r.map .int) (q.map .int)=_
  rw[Qdp]
  by_cases z:r=q
  ·subst z;simp
  ·rw[decide_eq_false z,decide_eq_false (fun q=>z (by injection q))]
theorem Qdr:∀ (a b:List KI),eqKs (a.map itD) (b.map itD)=decide (a=b)
 | [],[]=>by simp[eqKs]
 | [],_::_=>by simp[eqKs]
 | _::_,[]=>by simp[eqKs]
 | x::xs,y::ys=>by
  rw[List.map_cons,List.map_cons]
  show (eqK (itD x) (itD y) && eqKs _ _)=_
  rw[Qdr xs ys,Qdq]
  simp[Bool.decide_and]
theorem Qds (a b:NK):eqK (stD a) (stD b)=decide (a=b):=Qdr a b
theorem Qdt (a b:Key):eqK (keyD a) (keyD b)=decide (a=b):=by
 cases a<;>cases b<;>simp[keyD,eqK]
theorem Qdu:∀ {ds:List D}{r:List Int},intsK ds=some r->ds=r.map .int
 | [],r,h=>by simp[intsK]at h;subst h;rfl
 | d::ds,r,h=>by
  cases d with
  | int i=>
   unfold intsK at h
   cases e:intsK ds with
   | none=>rw[e]at h;cases h
   | some q=>
    rw[e]at h
    cases h
    rw[List.map_cons,Qdu e]
  | _=>cases h
theorem Qdv:∀ {ds:List D}{r:NK},rowsK ds=some r->ds=r.map itD
 | [],r,h=>by simp[rowsK]at h;subst h;rfl
 | d::ds,r,h=>by
  cases d with
  | tup xs=>
   unfold rowsK at h
   cases e:intsK xs with
   | none=>rw[e]at h;cases h
   | some q=>
    cases e2:rowsK ds with
    | none=>rw[e,e2]at h;cases h
    | some q2=>
     rw[e,e2]at h
     cases h
     rw[List.map_cons,<- Qdv e2]
     show _=D.tup (q.map .int)::ds
     rw[<- Qdu e]
  | int i=>
   unfold rowsK at h
   cases e2:rowsK ds with
   | none=>rw[e2]at h;cases h
   | some q2=>
    rw[e2]at h
    cases h
    rw[List.map_cons,<- Qdv e2];rfl
  | _=>cases h
theorem Qdw {d:D}{r:NK} (h:stK d=some r):d=stD r:=by
 cases d with
 | tup ds=>show D.tup ds=D.tup _;rw[Qdv h]
 | _=>cases h
theorem Qdx {d:D} (h:kOk true d=true):∃ k,d=stD k:=by
 cases e:stK d with
 | none=>
  have:kOk true d=(stK d).isSome:=by cases d<;>rfl
  rw[this,e]at h;cases h
 | some k=>exact⟨k,Qdw e⟩
theorem Qdy {d:D} (h:kOk false d=true):∃ k,d=keyD k:=by
 cases d with
 | int i=>exact⟨.inl i,rfl⟩
 | str x=>exact⟨.inr x,rfl⟩
 | _=>cases h
section
variable {X:Cx}{K:PySem.W.Frag}{ρ:List Addr}{H:Hp}{st:Sto}{pins:List (Addr × Obj)}{σ:St}{s:Shared}{a b:Addr}
theorem Qdz {k:Key}{v:V} (r:Rep K ρ H v (keyD k)):v=kV k:=by
 cases k with
 | inl i=>cases r;rfl
 | inr x=>cases r;rfl
abbrev KR (K:PySem.W.Frag) (ρ:List Addr) (H:Hp):List (Key × V)->List (D × D)->Prop:=Paired fun (p:Key × V) (q:D × D)=>keyD p.1=q.1/\Rep K ρ H p.2 q.2
def RO (K:PySem.W.Frag) (ρ:List Addr) (H:Hp):Option V->Option D->Prop
 | some v,some d=>Rep K ρ H v d
 | none,none=>True
 | _,_=>False
theorem RO.some_of {o:Option V}{d:D} (h:RO K ρ H o (some d)):∃ v,o=some v/\Rep K ρ H v d:=by
 cases o with
 | none=>exact h.elim
 | some v=>exact⟨v,rfl,h⟩
theorem RO.isSome_eq {o:Option V}{d:Option D} (h:RO K ρ H o d):o.isSome=d.isSome:=by
 cases o<;>cases d<;>first | rfl | exact h.elim
theorem KR.val {es:List (Key × V)}{kvs:List (D × D)} (r:KR K ρ H es kvs) (k:Key):RO K ρ H (valV es k) (lkK kvs (keyD k)):=by
 induction r with
 | nil=>exact True.intro
 | @cons p q ps qs h t ih=>
  obtain⟨h1,h2⟩:=h
  unfold lkK
  rw[List.find?_cons,<- h1,Qdt]
  by_cases e:p.1=k
  ·rw[QcJ e,decide_eq_true e];exact h2
  ·rw[QcK e,decide_eq_false e];exact ih
theorem KR.any {es:List (Key × V)}{kvs:List (D × D)} (r:KR K ρ H es kvs) (k:Key):(es.any fun kv=>decide (kv.1=k))=kvs.any fun p=>eqK p.1 (keyD k):=by
 induction r with
 | nil=>rfl
 | @cons p q ps qs h t ih=>rw[List.any_cons,List.any_cons,ih,<- h.1,Qdt]
theorem KR.put {es:List (Key × V)}{kvs:List (D × D)} (r:KR K ρ H es kvs) (k:Key) {v:V}{d:D} (rv:Rep K ρ H v d):KR K ρ H (L2.putK es k v) (ptK kvs (keyD k) d):=by
 unfold L2.putK ptK
 rw[r.any k]
 by_cases e:(kvs.any fun p=>eqK p.1 (keyD k))=true
 ·rw[if_pos e,if_pos e]
  clear e
  induction r with
  | nil=>exact .nil
  | @cons p q ps qs h t ih=>
   rw[List.map_cons,List.map_cons]
   refine .cons ?_ ih
   rw[<- h.1,Qdt]
   by_cases e:p.1=k
   ·rw[if_pos e,if_pos (decide_eq_true e)];exact⟨rfl,rv⟩
   ·rw[if_neg e,if_neg (by rw[decide_eq_false e];exact Bool.false_ne_true)];exact h
 ·rw[if_neg e,if_neg e]
  exact Paired.snoc r ⟨rfl,rv⟩
theorem KR.up {ρ1:List Addr}{H1:Hp} (x:Up ρ H ρ1 H1) {es:List (Key × V)}{kvs:List (D × D)} (r:KR K ρ H es kvs):KR K ρ1 H1 es kvs:=Paired.mapS r fun _ _ z=>⟨z.1,z.2.up x⟩
theorem KR.length {es:List (Key × V)}{kvs:List (D × D)} (r:KR K ρ H es kvs):es.length=kvs.length:=Paired.length r
abbrev NR (K:PySem.W.Frag) (ρ:List Addr) (H:Hp):List (NK × Addr × V)->List (D × D)->Prop:=Paired fun (p:NK × Addr × V) (q:D × D)=>stD p.1=q.1/\Rep K ρ H (.ref p.2.1) q.1/\Rep K ρ H p.2.2 q.2
abbrev NX:List (NK × Addr × V)->List (NK × Addr × Value)->Prop:=Paired fun (p:NK × Addr × V) (q:NK × Addr × Value)=>p.1=q.1/\p.2.1=q.2.1/\RelV p.2.2 q.2.2
abbrev nkd (X:Cx):HeapKind X.prog X.w NK:=nestKind X.prog X.w
theorem QdA {P:Program}{w:World}:∀ {r:List Int}{vs:List V}{us:List Value},Reps K ρ H vs (r.map .int)->Vals vs us->ItemsAre (intKind P w) r us
 | [],_,_,h,g=>by cases h;cases g;exact .nil
 | i::r,_,_,h,g=>by
  cases h with
  | cons h1 ht=>
   cases h1
   cases g with
   | cons g1 gt=>
    obtain⟨t,e⟩:=g1
    subst e
    exact .cons (by show Value.isInt i (Value.int i t)=true;simp[Value.isInt]) (QdA ht gt)
theorem QdB {r:List Int}{v:V}{u:Value} (I:Inv X pins σ H s) (h:Rep X.K ρ H v (rowD r)) (g:RelV v u):∃ b,u=.ref b/\IsTupleKey (intKind X.prog X.w) s.heap r b:=by
 cases h with
 | @tup b vs ds h q=>
  have e:u=Value.ref b:=g
  subst e
  obtain⟨its,rv,⟨o,h1,h2,n,h3⟩,_⟩:=I.tuple h
  exact⟨b,rfl,o,its.toArray,n,h1,h2,h3,by simpa using QdA q rv⟩
theorem QdC (I:Inv X pins σ H s):∀ {k:NK}{vs:List V}{us:List Value},Reps X.K ρ H vs (k.map itD)->Vals vs us->TIts X.prog X.w s.heap k us
 | [],_,_,h,g=>by cases h;cases g;exact .nil
 | r::k,_,_,h,g=>by
  cases h with
  | cons h1 ht=>
   cases g with
   | cons g1 gt=>
    refine .cons ?_ (QdC I ht gt)
    cases r with
    | inl i=>
     cases (show Rep X.K ρ H _ (.int i) from h1)
     obtain⟨t,e⟩:=g1
     subst e
     exact .one i t
    | inr r=>
     obtain⟨b,e,hb⟩:=QdB I h1 g1
     subst e
     exact .row hb
theorem QdD {k:NK}{v:V}{u:Value} (I:Inv X pins σ H s) (h:Rep X.K ρ H v (stD k)) (g:RelV v u):∃ b,v=.ref b/\u=.ref b/\(nkd X).is s.heap k b:=by
 cases h with
 | @tup b vs ds h q=>
  have e:u=Value.ref b:=g
  subst e
  obtain⟨its,rv,⟨o,h1,h2,n,h3⟩,_⟩:=I.tuple h
  exact⟨b,rfl,rfl,o,its.toArray,n,h1,h2,h3,by simpa using QdC I q rv⟩
theorem QdE {es : List (NK × Addr × V)} {kvs : List (D × D)} (I : Inv X pins σ H s) (e : H a = some (nstO a es)) (r : NR X.K ρ H es kvs) :
  es.length<=sizeLine/\(a == sysModules)=false/\∃ xs,NX es xs/\s.heap.DictOfH (nkd X) a xs/\EpAt s.heap a xs.length:=by
 obtain⟨⟨z,y,xs,rx,o,es',ep,h1,h2,h3,h4,h5,h6⟩,w1,w2⟩:=(show ObjOk X.prog X.w H s.heap a (nstO a es) from I.hok a _ e)
 subst h6
 refine⟨z,y,xs,rx,⟨o,es',_,h1,h2,h3,h4,?_,h5⟩,⟨o,es',h1,h3⟩⟩
 clear h1 h2 h3 h4 h5 e z y w1 w2
 induction rx generalizing kvs with
 | nil=>intro x hx;exact nomatch hx
 | @cons p q ps qs h t ih=>
  cases r with
  | cons g gt=>
   intro x hx
   rcases List.mem_cons.mp hx with e | hx
   ·subst e
    obtain⟨b,e1,_,hb⟩:=QdD I (by rw[g.1];exact g.2.1) (show RelV (.ref p.2.1) (.ref p.2.1) from rfl)
    cases e1
    rw[<- h.1,<- h.2.1]
    exact hb
   ·exact ih gt x hx
theorem QdF {H' : Hp} {h' : Heap} {P : Program} {w : World} {es : List (NK × Addr × V)} {xs : List (NK × Addr × Value)} (z : es.length <= sizeLine) (y : (a == sysModules) = false) (r : NX es xs) (dd : h'.DictOfH (nestKind P w) a xs) (de : EpAt h' a xs.length) :
  ObjOk P w H' h' a (nstO a es):=by
 obtain⟨o,es',ep,h1,h2,h3,h4,_,h5⟩:=dd
 obtain⟨o2,es2,g1,g3⟩:=de
 rw[h1]at g1;cases g1
 rw[h3]at g3;cases g3
 refine⟨⟨z,y,xs,r,o,es',_,h1,h2,h3,h4,h5,rfl⟩,⟨o,h1⟩,?_⟩
 rintro g1 g2 ⟨z,y,xs,r,o,es',ep,h1,h2⟩ k
 exact⟨z,y,xs,r,o,es',ep,k o h1,h2⟩
def valN (es:List (NK × Addr × V)) (k:NK):Option V:=(es.find? fun p=>decide (p.1=k)).map (·.2.2)
def putN (es:List (NK × Addr × V)) (k:NK) (b:Addr) (v:V):List (NK × Addr × V):=if (es.any fun p=>decide (p.1=k))=true then es.map (fun p=>if p.1=k then (p.1,p.2.1,v) else p) else es++[(k,b,v)]
theorem NR.val {es:List (NK × Addr × V)}{kvs:List (D × D)} (r:NR K ρ H es kvs) (k:NK):RO K ρ H (valN es k) (lkK kvs (stD k)):=by
 induction r with
 | nil=>exact True.intro
 | @cons p q ps qs h t ih=>
  obtain⟨h1,_,h2⟩:=h
  unfold lkK valN
  rw[List.find?_cons,List.find?_cons,<- h1,Qds]
  by_cases e:p.1=k
  ·rw[decide_eq_true e];exact h2
  ·rw[decide_eq_false e];exact ih
theorem NX.val {es:List (NK × Addr × V)}{xs:List (NK × Addr × Value)} (r:NX es xs) (k:NK):RelO (valN es k) ((atKey xs k).map (·.2)):=by
 induction r with
 | nil=>exact True.intro
 | @cons p q ps qs h t ih=>
  obtain⟨h1,_,h2⟩:=h
  unfold atKey valN
  rw[List.find?_cons,List.find?_cons,<- h1]
  by_cases e:p.1=k
  ·rw[decide_eq_true e];exact h2
  ·rw[decide_eq_false e];exact ih
theorem NX.put {es:List (NK × Addr × V)}{xs:List (NK × Addr × Value)} (r:NX es xs) (k:NK) (b:Addr) {v:V}{u:Value} (rv:RelV v u):NX (putN es k b v) (storedH xs k b u):=by
 have e:(es.any fun p=>decide (p.1=k))=(atKey xs k).isSome:=by
  clear rv
  induction r with
  | nil=>rfl
  | @cons p q ps qs h t ih=>
   rw[List.any_cons,ih]
   unfold atKey
   rw[List.find?_cons,<- h.1]
   by_cases e:p.1=k
   ·rw[decide_eq_true e];rfl
   ·rw[decide_eq_false e];rfl
 unfold putN storedH
 rw[e]
 by_cases q:(atKey xs k).isSome=true
 ·rw[if_pos q,if_pos q]
  clear q e
  induction r with
  | nil=>exact .nil
  | @cons p q ps qs h t ih=>
   rw[List.map_cons,List.map_cons]
   refine .cons ?_ ih
   unfold putAt
   by_cases e:p.1=k
   ·rw[if_pos e,if_pos (h.1.symm.trans e)];exact⟨h.1,h.2.1,rv⟩
   ·rw[if_neg e,if_neg (fun z=>e (h.1.trans z))];exact h
 ·rw[if_neg q,if_neg q];exact Paired.snoc r ⟨rfl,rfl,rv⟩
theorem NR.put {es:List (NK × Addr × V)}{kvs:List (D × D)} (r:NR K ρ H es kvs) (k:NK) (b:Addr) {v:V}{d:D} (rk:Rep K ρ H (.ref b) (stD k)) (rv:Rep K ρ H v d):NR K ρ H (putN es k b v) (ptK kvs (stD k) d):=by
 have e:(es.any fun p=>decide (p.1=k))=kvs.any fun p=>eqK p.1 (stD k):=by
  clear rk rv
  induction r with
  | nil=>rfl
  | @cons p q ps qs h t ih=>rw[List.any_cons,List.any_cons,ih,<- h.1,Qds]
 unfold putN ptK
 rw[e]
 clear e
 by_cases e:(kvs.any fun p=>eqK p.1 (stD k))=true
 ·rw[if_pos e,if_pos e]
  clear e
  induction r with
  | nil=>exact .nil
  | @cons p q ps qs h t ih=>
   rw[List.map_cons,List.map_cons]
   refine .cons ?_ ih
   by_cases e:p.1=k
   ·have z:eqK q.1 (stD k)=true:=by rw[<- h.1,Qds];exact decide_eq_true e
    rw[if_pos e,if_pos z];exact⟨h.1,h.2.1,rv⟩
   ·have z:¬ eqK q.1 (stD k)=true:=by rw[<- h.1,Qds,decide_eq_false e];exact Bool.false_ne_true
    rw[if_neg e,if_neg z];exact h
 ·rw[if_neg e,if_neg e]
  exact Paired.snoc r ⟨rfl,rk,rv⟩
theorem NR.up {ρ1:List Addr}{H1:Hp} (x:Up ρ H ρ1 H1) {es:List (NK × Addr × V)}{kvs:List (D × D)} (r:NR K ρ H es kvs):NR K ρ1 H1 es kvs:=Paired.mapS r fun _ _ z=>⟨z.1,z.2.1.up x,z.2.2.up x⟩
theorem NR.length {es:List (NK × Addr × V)}{kvs:List (D × D)} (r:NR K ρ H es kvs):es.length=kvs.length:=Paired.length r
theorem QdG (es:List (NK × Addr × V)) (k:NK) (b:Addr) (v:V):(putN es k b v).length<=es.length + 1:=by
 unfold putN
 split
 ·rw[List.length_map];ac_nf
 ·rw[List.length_append,List.length_cons,List.length_nil];ac_nf
theorem QdH {n:Nat}{p:Bool × List (D × D)}{s':Sto} (h:getDc n st=.ok p s'):s'=st/\st[n]?=some (.dct p.1 p.2):=by
 unfold getDc at h
 cases e:st[n]? with
 | none=>rw[e]at h;cases h
 | some o=>
  rw[e]at h
  cases o with
  | lst ds=>cases h
  | dct b kvs=>cases h;exact⟨rfl,rfl⟩
theorem Post.getDc {n:Nat}{R:Bool × List (D × D)->Sto->List Addr->Hp->Prop} (h:Post K ρ H (MM.getDc n st) R) (s:SR K ρ H st):∃ b kvs,st[n]?=some (.dct b kvs)/\R (b,kvs) st ρ H:=by
 cases e:MM.getDc n st with
 | ok xs s'=>
  obtain⟨rfl,q⟩:=QdH e
  rw[e]at h
  exact⟨xs.1,xs.2,q,h ρ H Ex.refl s⟩
 | exc _ _=>rw[e]at h;exact h.elim
 | bad=>rw[e]at h;exact h.elim
theorem QdI {b : Bool} {kvs : List (D × D)} {k d : D} {y : V} {u : Value} {Q : Value -> Shared -> Prop} {E : Value -> Shared -> Prop} {A : Around} (hu : A.units + 2 < cLine) (I : Inv X pins σ H s) (g : ObR X.K ρ H a (.dct b kvs)) (rk : Rep X.K ρ H y k) (hk : kOk b k = true) (hl : lkK kvs k = some d) (ry : RelV y u)
  (h:∀ v w' s',Inv X pins σ H s'->Rep X.K ρ H v d->RelV v w'->Q w' s'):wpAny (model X.prog X.w) A (getItem (.ref a) u) Q E s:=by
 cases b with
 | false=>
  obtain⟨es,e,r⟩:=g
  obtain⟨k,rfl⟩:=Qdy hk
  cases Qdz rk
  have q:=KR.val r k
  rw[hl]at q
  obtain⟨v,e1,rv⟩:=q.some_of
  exact QcV (by ac_nf) I (by have:=DGet.k (k:=k) e;rw[e1]at this;exact this) ry fun w' s' I' rw'=>h v w' s' I' rv rw'
 | true=>
  obtain⟨es,e,r⟩:=g
  obtain⟨k,rfl⟩:=Qdx hk
  have q:=NR.val r k
  rw[hl]at q
  obtain⟨v,e1,rv⟩:=q.some_of
  obtain⟨_,hd,xs,rx,dd,de⟩:=QdE I e r
  obtain⟨c,e2,e3,hc⟩:=QdD I rk ry
  subst e3
  obtain⟨w',hw,rw'⟩:=RelO.some_of (v:=v) (o:=(atKey xs k).map (·.2)) (by rw[<- e1];exact NX.val rx k)
  obtain⟨p,hp,hp2⟩:=Option.map_eq_some_iff.mp hw
  refine wpAny_getItem_heap (knd:=nkd X) (show A.in1.units + 1 < cLine from hu) hc dd hp ?_
  rw[hp2]
  exact h v w' _ (I.tok _) rv rw'
theorem QdJ {b : Bool} {kvs : List (D × D)} {k : D} {y : V} {u : Value} {Q : Value -> Shared -> Prop} {E : Value -> Shared -> Prop} {A : Around} (hu : A.units + 2 < cLine) (I : Inv X pins σ H s) (g : ObR X.K ρ H a (.dct b kvs)) (rk : Rep X.K ρ H y k) (hk : kOk b k = true) (ry : RelV y u)
  (h:∀ s',Inv X pins σ H s'->Q (.bool (!(lkK kvs k).isSome)) s'):wpAny (model X.prog X.w) A (compareOp .NotIn u (.ref a)) Q E s:=by
 cases b with
 | false=>
  obtain⟨es,e,r⟩:=g
  obtain⟨k,rfl⟩:=Qdy hk
  cases Qdz rk
  rw[<- (KR.val r k).isSome_eq]at h
  exact QcW (by ac_nf) I (DGet.k (k:=k) e) ry h
 | true=>
  obtain⟨es,e,r⟩:=g
  obtain⟨k,rfl⟩:=Qdx hk
  rw[<- (NR.val r k).isSome_eq]at h
  obtain⟨_,hd,xs,rx,dd,de⟩:=QdE I e r
  obtain⟨c,e2,e3,hc⟩:=QdD I rk ry
  subst e3
  refine wpAny_notIn_heap (knd:=nkd X) (show A.in1.units + 1 < cLine from hu) hc hd dd ?_
  have q:=(NX.val rx k).isSome_eq
  rw[Option.isSome_map]at q
  rw[<- q]
  exact h _ (I.tok _)
theorem QdK {n : Nat} {b : Bool} {kvs : List (D × D)} {k d : D} {y v : V} {u r' : Value} {Q : Unit -> Shared -> Prop} {E : Value -> Shared -> Prop} {A : Around} (hu : A.units + 2 < cLine) (I : Inv X pins σ H s) (sr : SR X.K ρ H st) (ha : ρ[n]? = some a) (hn : st[n]? = some (.dct b kvs))
  (rk:Rep X.K ρ H y k) (hk:kOk b k=true) (hl:kvs.length < sizeLine) (rv:Rep X.K ρ H v d) (ry:RelV y u) (rr:RelV v r')
  (h:∀ H' s',Inv X pins σ H' s'->SR X.K ρ H' (st.set n (.dct b (ptK kvs k d)))->Ex ρ H ρ H'->Q () s'):wpAny (model X.prog X.w) A (setItem (.ref a) u r') Q E s:=by
 have hlt:=(List.getElem?_eq_some_iff.mp hn).1
 have g:=sr.ob n a _ ha hn
 cases b with
 | false=>
  obtain⟨es,e,r⟩:=g
  obtain⟨k,rfl⟩:=Qdy hk
  cases Qdz rk
  have w:=sr.putO (o':=.dct false (ptK kvs (keyD k) d)) (u':=.dK (L2.putK es k v)) hlt ha e (by show (1:Nat)≠3;decide) rfl ⟨_,Qai,(KR.put r k rv).up ?_⟩
  ·exact QcZ (by ac_nf) I (DPut.k (k:=k) e (by rw[KR.length r];exact hl)) ry rr fun s' I'=>h _ s' I' w.1 w.2
  ·refine⟨⟨[],by simp⟩,fun c o no q=>?_,fun c o q=>?_⟩
   ·rw[Qaj fun z=>by subst z;rw[e]at q;cases q;exact nomatch no];exact q
   ·by_cases z:c=a
    ·subst z;rw[e]at q;cases q;exact⟨_,Qai,rfl⟩
    ·exact⟨o,by rw[Qaj z];exact q,rfl⟩
 | true=>
  obtain⟨es,e,r⟩:=g
  obtain⟨k,rfl⟩:=Qdx hk
  obtain⟨_,hd,xs,rx,dd,de⟩:=QdE I e r
  obtain⟨c,e2,e3,hc⟩:=QdD I rk ry
  subst e2 e3
  have w:=sr.putO (o':=.dct true (ptK kvs (stD k) d)) (u':=nstO a (putN es k c v)) hlt ha e (by show (2:Nat)≠3;decide) rfl ⟨_,Qai,(NR.put r k c rk rv).up ?_⟩
  ·have hz : xs.length <= sizeLine := by
     rw[<- Paired.length rx,NR.length r];ac_nf
   refine Qdd (knd:=nkd X) (show A.in1.units + 1 < cLine from hu) hc dd de hz fun h' dd' de' hs=>h _ _ ?_ w.1 w.2
   have he:∃ q,h'.get? a=some q:=let ⟨q,_,_,hq,_⟩:=dd';⟨q,hq⟩
   refine QcX I (by rw[e];exact True.intro) hs he (QdF ?_ hd (NX.put rx k c rr) dd' de')
   have:=QdG es k c v
   rw[NR.length r]at this
   ac_nf
  ·refine⟨⟨[],by simp⟩,fun c o no q=>?_,fun c o q=>?_⟩
   ·rw[Qaj fun z=>by subst z;rw[e]at q;cases q;exact nomatch no];exact q
   ·by_cases z:c=a
    ·subst z;rw[e]at q;cases q;exact⟨_,Qai,rfl⟩
    ·exact⟨o,by rw[Qaj z];exact q,rfl⟩
end
abbrev NoE:Value->Shared->Prop:=fun _ _=>False
def tests (ifs:List Expr) (env:Env):Sem Bool:=forIn ifs true fun c r=>if r=true then do let ok <- isTrue c env (eval c env);pure (ForInStep.yield ok) else pure (ForInStep.yield r)
section
variable {prog:Program}{w:World}{A:Around}{R:Result->Shared->Prop}{s:Shared}
theorem QdL {elt target iter : Expr} {ifs : List Expr} {scope : Scope} {pos : Pos} {it acc : Value} {env : Env} (I : Nat -> Shared -> Prop)
  (turn:∀ n s,I n s->wpAny (model prog w) A (pyNext it) (fun r s₁=>match r with
   | none=>R (.ok .next) s₁
   | some v => wpAny (model prog w) A (letOwnedTupleGo target it v) (fun _ s₁' => wpAny (model prog w) A (assign target env v) (fun _ s₂ =>
     wpAny (model prog w) A (tests ifs env) (fun ok s₃=>
      if ok=true then wpAny (model prog w) A (eval elt env) (fun x s₄=>
       wpAny (model prog w) A (call (.builtin "list.append") [acc,x]) (fun _ s₅=>∃ m,m < n/\I m s₅) NoE s₄) NoE s₃
      else ∃ m,m < n/\I m s₃) NoE s₂) NoE s₁') NoE s₁) NoE s)
  (n:Nat) (h:I n s):codeAny (model prog w) A (.compLoop (.ListComp elt [⟨target,iter,ifs,0⟩] scope pos) 0 it acc env) R s:=by
 refine codeAny_loop rfl I (fun n s hI=>?_) n h
 show wpAny _ A ((compTurn (.ListComp elt [⟨target,iter,ifs,0⟩] scope pos) 0 it acc env).onRaise (fun x=>do noteFrame x env;theTreesLotGoes x)) _ _ s
 refine wpAny_noted ?_
 rw[compTurn_list]
 refine wpAny_bind (wpAny_standAt (wpAny_bind (wpAny_mono (turn n s hI) (fun r s₁ h₁=>?_) fun _ _ h'=>h'.elim)))
 cases r with
 | none=>exact wpAny_pure h₁
 | some v=>
  refine wpAny_bind (wpAny_mono h₁ (fun _ s₁' h₁'=>?_) fun _ _ h'=>h'.elim)
  refine wpAny_bind (wpAny_mono h₁' (fun _ s₂ h₂=>wpAny_bind (wpAny_mono h₂ (fun ok s₃ h₃=>?_) fun _ _ h'=>h'.elim)) fun _ _ h'=>h'.elim)
  cases ok with
  | false=>exact wpAny_pure ⟨rfl,h₃⟩
  | true=>
   exact wpAny_bind (wpAny_bind (wpAny_mono h₃ (fun x s₄ h₄=>wpAny_bind (wpAny_mono h₄ (fun _ s₅ h₅=>wpAny_pure (wpAny_pure ⟨rfl,h₅⟩)) fun _ _ h'=>h'.elim)) fun _ _ h'=>h'.elim))
end
def clOf:List (Str × NameKind)->List (Str × Addr)->List (Str × Addr)->List (Str × Addr)
 | [],_,acc=>acc
 | (n,k)::r,cells,acc=>clOf r cells (if k == .free then (match cells.lookup n with | some c=>(n,c)::acc | none=>acc) else acc)
theorem QdM {env : Env} : ∀ (names : List (Str × NameKind)) (acc : List (Str × Addr)), (∀ x, (x, NameKind.free) ∈ names -> ∃ c, env.cells.lookup x = some c) ->
  (forIn names acc fun (x:Str × NameKind) r=>if (x.2 == NameKind.free)=true then (do let a <- cellOf env x.1;pure (ForInStep.yield ((x.1,a)::r)):Sem _) else pure (ForInStep.yield r))=(pure (clOf names env.cells acc):Sem _)
 | [],acc,_=>rfl
 | (n,k)::r,acc,h=>by
  rw[List.forIn_cons]
  by_cases hk:(k == NameKind.free)=true
  ·have e:k=.free:=by simpa using hk
   subst e
   obtain⟨c,hc⟩:=h n List.mem_cons_self
   have q:cellOf env n=pure c:=by unfold cellOf;rw[hc]
   simp only[beq_self_eq_true,if_true,q]
   unfold clOf
   simp only[beq_self_eq_true,if_true,hc]
   exact QdM r ((n,c)::acc) fun x hx=>h x (List.mem_cons_of_mem _ hx)
  ·simp only[hk,if_false]
   unfold clOf
   simp only[hk,if_false]
   exact QdM r acc fun x hx=>h x (List.mem_cons_of_mem _ hx)
theorem QdN {scope:Scope}{env:Env} (h:∀ x,(x,NameKind.free)∈scope.names->∃ c,env.cells.lookup x=some c):closureFor scope env=pure (clOf scope.names env.cells []):=by
 have q:=QdM (env:=env) scope.names [] h
 simp only[closureFor]
 exact congrArg (fun m=>m >>= fun cs=>pure cs) q
theorem QdO {α:Type}{x y:Str}{v:α}{r:List (Str × α)} (h:x≠y):List.lookup x ((y,v)::r)=r.lookup x:=by
 rw[List.lookup_cons]
 have:(x == y)=false:=beq_eq_false_iff_ne.mpr h
 rw[this]
theorem lookup_cons_self {α:Type}{x:Str}{v:α}{r:List (Str × α)}:List.lookup x ((x,v)::r)=some v:=by
 rw[List.lookup_cons,beq_self_eq_true]
theorem clOf_of {cells:List (Str × Addr)}{x:Str}{c:Addr}:∀ (names:List (Str × NameKind)) (acc:List (Str × Addr)),(clOf names cells acc).lookup x=some c->cells.lookup x=some c\/acc.lookup x=some c
 | [],acc,h=>.inr h
 | (n,k)::r,acc,h=>by
  unfold clOf at h
  rcases clOf_of r _ h with q | q
  ·exact .inl q
  ·split at q
   ·split at q
    ·rename_i c' hc
     by_cases hx:x=n
     ·subst hx
      rw[lookup_cons_self]at q
      cases q
      exact .inl hc
     ·rw[QdO hx]at q;exact .inr q
    ·exact .inr q
   ·exact .inr q
theorem QdP {cells:List (Str × Addr)}{x:Str}{c:Addr} (hc:cells.lookup x=some c):∀ (names:List (Str × NameKind)) (acc:List (Str × Addr)),((x,NameKind.free)∈names\/acc.lookup x=some c)->(∀ d,acc.lookup x=some d->d=c)->(clOf names cells acc).lookup x=some c
 | [],acc,h,_=>by
  rcases h with h | h
  ·cases h
  ·exact h
 | (n,k)::r,acc,h,ha=>by
  unfold clOf
  by_cases hx:x=n
  ·subst hx
   by_cases hk:(k == NameKind.free)=true
   ·rw[if_pos hk,hc]
    exact QdP hc r _ (.inr lookup_cons_self) fun d hd=>by rw[lookup_cons_self]at hd;cases hd;rfl
   ·rw[if_neg hk]
    refine QdP hc r _ ?_ ha
    rcases h with h | h
    ·rcases List.mem_cons.mp h with e | e
     ·cases e;exact absurd rfl hk
     ·exact .inl e
    ·exact .inr h
  ·have step : ∀ acc', acc'.lookup x = acc.lookup x -> (clOf r cells acc').lookup x = some c := fun acc' e => by
     refine QdP hc r acc' ?_ (by rw[e];exact ha)
     rcases h with h | h
     ·rcases List.mem_cons.mp h with z | z
      ·cases z;exact absurd rfl hx
      ·exact .inl z
     ·exact .inr (by rw[e];exact h)
   refine step _ ?_
   split
   ·split
    ·exact QdO hx
    ·rfl
   ·rfl
theorem cellsFrom_of {x:Str}{c:Addr}:∀ (names:List (Str × NameKind)) (n:Nat) (acc:List (Str × Addr)),(cellsFrom n names acc).lookup x=some c->n<=c\/acc.lookup x=some c
 | [],_,_,h=>.inr h
 | (y,k)::r,n,acc,h=>by
  unfold cellsFrom at h
  split at h
  ·rcases cellsFrom_of r (n + 1) _ h with q | q
   ·exact .inl (by ac_nf)
   ·by_cases hx:x=y
    ·subst hx;rw[lookup_cons_self]at q;cases q;exact .inl (Nat.le_refl _)
    ·rw[QdO hx]at q;exact .inr q
  ·exact cellsFrom_of r n acc h
theorem QdQ : ∀ (names : List (Str × NameKind)) (n : Nat) (acc : List (Str × Addr)), (∀ x y c, acc.lookup x = some c -> acc.lookup y = some c -> x = y) -> (∀ x c, acc.lookup x = some c -> c < n) ->
  ∀ x y c,(cellsFrom n names acc).lookup x=some c->(cellsFrom n names acc).lookup y=some c->x=y
 | [],_,_,hi,_=>hi
 | (z,k)::r,n,acc,hi,hb=>by
  unfold cellsFrom
  split
  ·refine QdQ r (n + 1) _ (fun x y c h1 h2=>?_) (fun x c h=>?_)
   ·by_cases hx:x=z
    ·subst hx
     rw[lookup_cons_self]at h1;cases h1
     by_cases hy:y=x
     ·exact hy.symm
     ·rw[QdO hy]at h2
      exact absurd (hb y _ h2) (Nat.lt_irrefl _)
    ·rw[QdO hx]at h1
     by_cases hy:y=z
     ·subst hy
      rw[lookup_cons_self]at h2;cases h2
      exact absurd (hb x _ h1) (Nat.lt_irrefl _)
     ·rw[QdO hy]at h2;exact hi x y c h1 h2
   ·by_cases hx:x=z
    ·subst hx;rw[lookup_cons_self]at h;cases h;exact Nat.lt_succ_self _
    ·rw[QdO hx]at h;exact Nat.lt_succ_of_lt (hb x c h)
  ·exact QdQ r n acc hi hb
theorem cellsFrom_cell {x:Str}{c:Addr}:∀ (names:List (Str × NameKind)) (h:Heap) (acc:List (Str × Addr)),(cellsFrom h.objs.size names acc).lookup x=some c->acc.lookup x=some c\/((pushCells h names).IsCell c none/\h.objs.size<=c)
 | [],_,_,q=>.inl q
 | (y,k)::r,h,acc,q=>by
  unfold cellsFrom at q
  unfold pushCells
  split at q
  ·rename_i hk
   rw[if_pos hk]
   rw[<- Heap.size_push h { cls:=.type "cell",data:=.cell none }]at q
   rcases cellsFrom_cell r _ _ q with z | z
   ·by_cases hx:x=y
    ·subst hx;rw[lookup_cons_self]at z;cases z
     refine .inr ⟨?_,Nat.le_refl _⟩
     refine⟨{ cls:=.type "cell",data:=.cell none },pushCells_keeps r _ _ _ (Heap.get?_push_size _ rfl),rfl⟩
    ·rw[QdO hx]at z;exact .inl z
   ·refine .inr ⟨z.1,?_⟩
    have:=z.2
    rw[Heap.size_push]at this
    ac_nf
  ·rename_i hk
   rw[if_neg hk]
   exact cellsFrom_cell r h acc q
theorem QdR {x:Str}:∀ (names:List (Str × NameKind)) (n:Nat) (acc:List (Str × Addr)),(x,NameKind.cell)∉names->(cellsFrom n names acc).lookup x=acc.lookup x
 | [],_,_,_=>rfl
 | (y,k)::r,n,acc,h=>by
  unfold cellsFrom
  split
  ·rename_i hk
   have e:k=.cell:=by simpa using hk
   subst e
   have hx:x≠y:=fun z=>h (by rw[z];exact List.mem_cons_self)
   rw[QdR r (n + 1) _ fun z=>h (List.mem_cons_of_mem _ z),QdO hx]
  ·exact QdR r n acc fun z=>h (List.mem_cons_of_mem _ z)
theorem QdS {α β:Type} (f:Str->α->β) (x:Str):∀ (l:List (Str × α)),(l.map fun p=>(p.1,f p.1 p.2)).lookup x=(l.lookup x).map (f x)
 | []=>rfl
 | (y,v)::r=>by
  by_cases hx:x=y
  ·subst hx
   rw[List.map_cons,lookup_cons_self,lookup_cons_self];rfl
  ·rw[List.map_cons,QdO hx,QdO hx];exact QdS f x r
theorem QdT (scope : Scope) (env : Env) (x : Str) :
  (relabel scope env).names.lookup x=(scope.names.lookup x).map fun k=>if (k == NameKind.free && env.scope.kind == .function && env.kindOf x == some .cell)=true then .cell else k:=by
 have e:(relabel scope env).names=scope.names.map fun p=>(p.1,(fun (n:Str) k=>if (k == NameKind.free && env.scope.kind == .function && env.kindOf n == some .cell)=true then NameKind.cell else k) p.1 p.2):=by
  show scope.names.map _=_
  congr 1
  funext p
  obtain⟨n,k⟩:=p
  dsimp only
  split<;>rfl
 rw[e]
 exact QdS (fun (n:Str) k=>if (k == NameKind.free && env.scope.kind == .function && env.kindOf n == some .cell)=true then NameKind.cell else k) x scope.names
theorem QdU {M : Model} {A : Around} {E : Value -> Shared -> Prop} {s : Shared} {scope : Scope} {globals : Addr} {cl : List (Str × Addr)} {qual : Str} {env : Env} {Q : Env -> Shared -> Prop}
  (h:Q { scope:=scope,locals:=s.heap.objs.size,globals:=globals,cells:=cellsFrom (s.heap.objs.size + 1) scope.names cl,qual:=qual,func:=none,code:=env.code,frame:=env.frame,builtins:=env.builtins }
   { s with heap:=pushCells (s.heap.push { cls:=.type "dict",data:=.dict #[] }) scope.names }):wpAny M A (newFunctionEnv scope globals cl [] qual none .none (some env)) Q E s:=by
 simp only[newFunctionEnv,Option.isSome_some,if_true]
 refine wpAny_bind (wpAny_alloc ?_)
 refine wpAny_bind (wpAny_layCells _ (fun name kind cells=>by cases hkc:kind == NameKind.cell<;>simp[hkc]) _ _ _ _ ?_)
 rw[show ({ s with heap:=s.heap.push { cls:=.type "dict",data:=.dict #[] } }:Shared).heap.objs.size=s.heap.objs.size + 1 from Heap.size_push ..]
 exact wpAny_bind (wpAny_pure (wpAny_pure h))
def cxC (X:Cx) (N:List Str) (scope:Scope) (fp:List Addr) (s:Shared) (H:Hp):Cx where
 prog:=X.prog
 w:=X.w
 K:=X.K
 mg:=X.mg
 base:=X.base
 A:=X.A
 N:=N
 s₀:=s
 H₀:=H
 env:=compEnvC scope (cellsFrom (s.heap.objs.size + 1) scope.names (clOf scope.names X.env.cells [])) s.heap.objs.size X.env
 outer:=X.stack
 stack:=X.stack
 ex:=fp
 fn:=fun x=>decide (scope.names.lookup x=some .local\/scope.names.lookup x=some .cell)
 calm:=X.calm
 pn:=[]
 xe:=NoE
structure CompScope (X:Cx) (scope:Scope):Prop where
 kind:scope.kind=.function
 names:∀ x∈scope.names,x.2=.local->scope.names.lookup x.1=some .local
 free:∀ x,(x,NameKind.free)∈scope.names->X.env.kindOf x=some .cell\/X.env.kindOf x=some .free
 once:∀ x,(x,NameKind.free)∈scope.names->(x,NameKind.cell)∉scope.names
 own:∀ x,(x,NameKind.free)∈scope.names->scope.names.lookup x≠some .local
def capV (n:Nat) (ix:List Nat) (σ:St):St:=List.replicate n none++ix.map fun i=>(σ[i]?).join
structure CompNames (X:Cx) (scope:Scope) (N:List Str) (n:Nat) (ix:List Nat):Prop where
 len:N.length=n + ix.length
 cap:∀ (j i:Nat) (x:Str),ix[j]?=some i->N[n + j]?=some x->X.N[i]?=some x/\scope.names.lookup x=some .free
theorem clOf_mem {cells:List (Str × Addr)}{x:Str}{c:Addr}:∀ (names:List (Str × NameKind)) (acc:List (Str × Addr)),(clOf names cells acc).lookup x=some c->(x,NameKind.free)∈names\/acc.lookup x=some c
 | [],acc,h=>.inr h
 | (n,k)::r,acc,h=>by
  unfold clOf at h
  rcases clOf_mem r _ h with q | q
  ·exact .inl (List.mem_cons_of_mem _ q)
  ·split at q
   ·rename_i hk
    have e:k=.free:=by simpa using hk
    subst e
    split at q
    ·by_cases hx:x=n
     ·subst hx;exact .inl List.mem_cons_self
     ·rw[QdO hx]at q;exact .inr q
    ·exact .inr q
   ·exact .inr q
theorem QdV {X:Cx}{scope:Scope}{cells:List (Str × Addr)}{x:Str}{c:Addr} (h:(clOf scope.names cells []).lookup x=some c) (hf:scope.names.lookup x=some .local\/scope.names.lookup x=some .cell) (S:CompScope X scope):False:=by
 rcases clOf_mem _ _ h with q | q
 ·rcases hf with z | z
  ·exact S.own x q z
  ·exact S.once x q (PySem.mem_of_lookup z)
 ·cases q
section
variable {X:Cx}{pins:List (Addr × Obj)}{σ:St}{H:Hp}{s:Shared}{scope:Scope}{N:List Str}{fp:List Addr}
theorem QdW (I:Inv X pins σ H s) {x:Str}{c:Addr} (h:(clOf scope.names X.env.cells []).lookup x=some c):X.env.cells.lookup x=some c/\c < s.heap.objs.size/\(∃ v,s.heap.IsCell c v)/\H c=none:=by
 rcases clOf_of _ _ h with q | q
 ·obtain⟨v,z⟩:=I.cell x c q
  exact⟨q,z.lt,⟨v,z⟩,I.freeC x c q⟩
 ·cases q
theorem QdX (I:Inv X pins σ H s) (S:CompScope X scope) (hfp:∀ b∈fp,FpOk X pins H b) (hlt:∀ b∈fp,b < s.heap.objs.size):(cxC X N scope fp s H).Ok:=by
 have inj:∀ x y c,(cellsFrom (s.heap.objs.size + 1) scope.names (clOf scope.names X.env.cells [])).lookup x=some c->(cellsFrom (s.heap.objs.size + 1) scope.names (clOf scope.names X.env.cells [])).lookup y=some c->x=y:=
  QdQ scope.names _ _ (fun x y c h1 h2=>I.ok.inj x y c (QdW I h1).1 (QdW I h2).1) fun x c h=>Nat.lt_succ_of_lt (QdW I h).2.1
 refine⟨I.ok.mod,S.kind,I.ok.glob,I.ok.blt,Nat.le_refl _,inj,fun x hx=>?_,fun x c hf hc=>?_,I.ok.hd,I.ok.frames,.inl rfl,fun b hb=>?_,I.bs,Nat.le_trans I.ok.bsz I.sz,fun b o e hb=>?_,fun b hb z=>?_,I.stack,I.stkFree⟩
 ·have hx':(relabel scope X.env).names.lookup x=some .cell\/(relabel scope X.env).names.lookup x=some .free:=hx
  rw[QdT]at hx'
  cases e:scope.names.lookup x with
  | none=>rw[e]at hx';rcases hx' with z | z<;>cases z
  | some k=>
   refine Option.isSome_iff_exists.mp (PySem.W.cellsFrom_some scope.names _ _ ?_)
   cases k with
   | cell=>exact .inl e
   | free=>
    have hm:=PySem.mem_of_lookup e
    obtain⟨c,hc⟩:=I.ok.has x (S.free x hm)
    exact .inr (by rw[QdP hc scope.names [] (.inl hm) fun d hd=>by cases hd];rfl)
   | _=>
    rw[e]at hx'
    rcases hx' with z | z<;>(simp at z)
 ·have hc':(cellsFrom (s.heap.objs.size + 1) scope.names (clOf scope.names X.env.cells [])).lookup x=some c:=hc
  rcases cellsFrom_of _ _ _ hc' with q | q
  ·exact Nat.le_of_succ_le q
  ·exfalso
   have hf':scope.names.lookup x=some .local\/scope.names.lookup x=some .cell:=of_decide_eq_true hf
   exact QdV q hf' S
 ·obtain⟨f0,f1,f2,f3,f4,f5⟩:=hfp b hb
  refine⟨Nat.ne_of_lt (hlt b hb),fun x c hc z=>?_⟩
  have hc':(cellsFrom (s.heap.objs.size + 1) scope.names (clOf scope.names X.env.cells [])).lookup x=some c:=hc
  rcases cellsFrom_of _ _ _ hc' with q | q
  ·rw[z]at q
   exact absurd (Nat.lt_of_lt_of_le (Nat.lt_succ_of_lt (hlt b hb)) q) (Nat.lt_irrefl _)
  ·exact f4 x c (QdW I q).1 z
 ·obtain⟨f0,f1,f2,f3,f4,f5⟩:=hfp b hb
  rcases f3 with z | z
  ·exact I.ok.noex b o e z
  ·exact absurd (Nat.lt_of_lt_of_le (Nat.lt_of_lt_of_le (Heap.lt_size e) I.ok.bsz) z) (Nat.lt_irrefl _)
 ·obtain⟨f0,f1,f2,f3,f4,f5⟩:=hfp b hb
  rcases List.mem_cons.mp (I.stkSub b z) with q | q
  ·exact f1 q
  ·exact f2 q
abbrev heapC (h:Heap) (scope:Scope):Heap:=pushCells (h.push { cls:=.type "dict",data:=.dict #[] }) scope.names
theorem QdY (h:Heap) (scope:Scope):∀ b o,h.get? b=some o->(heapC h scope).get? b=some o:=fun b o e=>pushCells_keeps _ _ b o (Heap.get?_push_of_some _ e)
theorem QdZ {n : Nat} {ix : List Nat} (I : Inv X pins σ H s) (S : CompScope X scope) (T : CompNames X scope N n ix) (hfp : ∀ b ∈ fp, FpOk X pins H b) (hlt : ∀ b ∈ fp, b < s.heap.objs.size) :
  Inv (cxC X N scope fp s H) [] (capV n ix σ) H { s with heap:=heapC s.heap scope }:=by
 have kp:=QdY s.heap scope
 have hns:(heapC s.heap scope).Ns s.heap.objs.size fun _=>none:=(Heap.Ns.new s.heap (.type "dict")).keeps (pushCells_keeps _ _)
 have cells : ∀ x c, (cellsFrom (s.heap.objs.size + 1) scope.names (clOf scope.names X.env.cells [])).lookup x = some c ->
   (∃ v,(heapC s.heap scope).IsCell c v)/\H c=none:=fun x c h=>by
  have h':(cellsFrom (s.heap.push { cls:=.type "dict",data:=.dict #[] }).objs.size scope.names (clOf scope.names X.env.cells [])).lookup x=some c:=by rw[Heap.size_push];exact h
  rcases cellsFrom_cell _ _ _ h' with q | ⟨q,z⟩
  ·obtain⟨_,_,⟨v,hv⟩,hn⟩:=QdW I q
   exact⟨⟨v,hv.keeps kp⟩,hn⟩
  ·refine⟨⟨none,q⟩,I.hok.fresh ?_⟩
   rw[Heap.size_push]at z
   ac_nf
 refine⟨QdX I S hfp hlt,rfl,I.bare,Un.kept kp,⟨_,hns,fun i x v h1 h2 h3=>?_⟩,fun x c h=>(cells x c h).1,I.hok.fresh (Nat.le_refl _),fun x c h=>(cells x c h).2,fun p hp=>absurd (show p∈([]:List (Addr × Obj)) from hp) (by simp),I.hok.kept kp,?_⟩
 ·have h1':N[i]?=some x:=h1
  have h2':(List.replicate n none++ix.map fun i=>(σ[i]?).join)[i]?=some (some v):=h2
  have hi:n<=i:=Nat.le_of_not_lt fun z=>by
   rw[List.getElem?_append_left (by simpa using z),List.getElem?_replicate]at h2'
   split at h2'<;>cases h2'
  rw[List.getElem?_append_right (by simpa using hi),List.length_replicate,List.getElem?_map]at h2'
  cases e:ix[i - n]? with
  | none=>rw[e]at h2';cases h2'
  | some k=>
   rw[e]at h2'
   have hj:(σ[k]?).join=some v:=Option.some.inj h2'
   have hk:σ[k]?=some (some v):=by
    cases q:σ[k]? with
    | none=>rw[q]at hj;cases hj
    | some o=>rw[q]at hj;exact congrArg some hj
   obtain⟨hN,hfr⟩:=T.cap (i - n) k x e (by rw[show n + (i - n)=i by ac_nf];exact h1')
   have hm:=PySem.mem_of_lookup hfr
   have kx:=S.free x hm
   obtain⟨m,hn,hl⟩:=I.loc
   obtain⟨u,ru,lk⟩:=hl k x v hN hk (by
    rcases kx with z | z
    ·exact .inr (.inl z)
    ·exact .inr (.inr z))
   have lk2:∃ c,X.env.cells.lookup x=some c/\s.heap.IsCell c (some u):=by
    rcases lk with ⟨z,_⟩ | ⟨_,c,hc,q⟩
    ·rcases kx with y | y<;>(rw[y]at z;cases z)
    ·exact⟨c,hc,q⟩
   obtain⟨c,hc,q⟩:=lk2
   refine⟨u,ru,.inr ⟨?_,c,?_,q.keeps kp⟩⟩
   ·show (relabel scope X.env).names.lookup x=some .cell\/(relabel scope X.env).names.lookup x=some .free
    rw[QdT,hfr,Option.map_some]
    by_cases hq:(NameKind.free == NameKind.free && X.env.scope.kind == .function && X.env.kindOf x == some .cell)=true
    ·rw[if_pos hq];exact .inl rfl
    ·rw[if_neg hq];exact .inr rfl
   ·show (cellsFrom (s.heap.objs.size + 1) scope.names (clOf scope.names X.env.cells [])).lookup x=some c
    rw[QdR _ _ _ (S.once x hm)]
    exact QdP hc scope.names [] (.inl hm) fun d hd=>by cases hd
 ·show (List.replicate n none++ix.map fun i=>(σ[i]?).join).length=N.length
  rw[List.length_append,List.length_replicate,List.length_map,T.len]
def tComp (wi:TI) (n:Nat) (ix:List Nat) (g:TG) (tt:TT) (te:TE):TE:=fun σ H Q=>wi σ H fun J H1=>∀ l,H1 l=none->∃ W:Nat->Nat->St->Hp->Prop,(∃ m,W 0 m (capV n ix σ) (upd H1 l (.lst []))) /\
 ∀ i m σ' H',W i m σ' H'->(J.stop i H'/\Q (.ref l) H')\/(J.go i H'/\∀ x H2,J.yld i H' x H2->g x σ' H2 fun σ2 H3=>tt σ2 H3 fun b H4=>
  if b=true then te σ2 H4 fun v H5=>∃ ys,H5 l=some (.lst ys)/\ys.length < sizeLine/\∃ m',m' < m/\W (i + 1) m' σ2 (upd H5 l (.lst (ys++[v]))) else ∃ m',m' < m/\W (i + 1) m' σ2 H4)
def PIfs (X:Cx) (ifs:List Expr) (tt:TT):Prop:=
 ∀ (pins:List (Addr × Obj)) (s:Shared) (σ:St) (H:Hp) (Q:Bool->Hp->Prop),Inv X pins σ H s->tt σ H Q->wpAny (model X.prog X.w) X.A (tests ifs X.env) (TP X pins σ Q) X.xe s
theorem Qd0:PIfs X [] (fun _ H Q=>Q true H):=fun pins s σ H Q I h=>wpAny_tests_nil ⟨H,I,h⟩
theorem Qd1 {c:Expr}{tt:TT} (h:PT X c tt):PIfs X [c] tt:=fun pins s σ H Q I q=>wpAny_tests_one (h pins s σ H Q I q)
structure CFree (X:Cx) (pins:List (Addr × Obj)) (C:Addr) (H:Hp) (s:Shared):Prop where
 ns:∃ m,s.heap.Ns C m
 free:H C=none
 loc:C≠X.env.locals
 cell:∀ x c,X.env.cells.lookup x=some c->c≠C
 sz:X.s₀.heap.objs.size<=C
 pin:∀ p∈X.pn++pins,p.1≠C
theorem CFree.go {C:Addr}{h':Heap} (c:CFree X pins C H s) (I:Inv X pins σ H s) (hs:Heap.SameBut C s.heap h'):Inv X pins σ H { s with heap:=h' }:=
 I.turned (t':=s.toks) (fun b o hb e=>(hs.2 b hb).trans e) c.free c.loc (.inr c.sz) c.cell c.pin
theorem Qd2 {elt target iter : Expr} {ifs : List Expr} {pos : Pos} {n : Nat} {ix : List Nat} {wi : TI} {g : TG} {tt : TT} {te : TE} {use : Option (Value -> Sem Unit)} {Q : Value -> Shared -> Prop} {QH : VK}
  (hc:X.calm=true) (S:CompScope X scope) (T:CompNames X scope N n ix) (hi:PI X target iter wi)
  (blk:∀ (fp:List Addr) (s:Shared) (H:Hp),PG (cxC X N scope fp s H) target g/\PIfs (cxC X N scope fp s H) ifs tt/\PE (cxC X N scope fp s H) elt te)
  (hs:∀ x,foldedSetIterable iter X.env x=pure x) (I:Inv X pins σ H s) (h:tComp wi n ix g tt te σ H QH)
  (fin:∀ (l C:Addr) (H':Hp) (s':Shared),Inv X pins σ H' s'->QH (.ref l) H'->CFree X pins C H' s'->compPost (model X.prog X.w) X.A X.xe use Q (.ref l) C (.ok .next) s'):
  wpAny (model X.prog X.w) X.A (comprehension (.ListComp elt [⟨target,iter,ifs,0⟩] scope pos) scope X.env (firstIterPos [⟨target,iter,ifs,0⟩] pos) (newList []) false (eval iter X.env) use) Q X.xe s:=by
 have hclos:closureFor scope X.env=pure (clOf scope.names X.env.cells []):=QdN fun x hx=>I.ok.has x (S.free x hx)
 refine wpAny_comprehension_free rfl hs hclos S.kind S.names ?_
 refine thn (hi pins s σ H _ I h) fun v s1 h1=>thn h1 fun itv s2 h2=>?_
 obtain⟨it,fp,tn,J,H2,rfl,I2,TT,st2,f2,rest⟩:=h2
 refine wpAny_newObj_type (hd:=by size_fits) ?_
 have hf2:H2 s2.heap.objs.size=none:=I2.hok.fresh (Nat.le_refl _)
 obtain⟨W,⟨m0,w0⟩,turn⟩:=rest _ hf2
 have fl:∀ b∈fp,b < s2.heap.objs.size:=fun b hb=>by
  obtain⟨o,e,_⟩:=TT.obj _ _ st2 b hb
  exact Heap.lt_size e
 have f3:∀ b∈fp,FpOk X pins (upd H2 s2.heap.objs.size (.lst [])) b:=fun b hb=>by
  obtain⟨f0,fr⟩:=f2 b hb
  refine⟨?_,fr⟩
  rw[Qaj (Nat.ne_of_lt (fl b hb))]
  exact f0
 have I3:Inv X pins σ (upd H2 s2.heap.objs.size (.lst [])) { s2 with heap:=s2.heap.push { cls:=.type "list",dict:=none,data:=.seq ([]:List Value).toArray } }:=
  I2.laid (t':=s2.toks) (fun b o e=>Heap.get?_push_of_some _ e) (Nat.le_refl _) ⟨Nat.zero_le _,[],0,.nil,Heap.get?_push_size _ rfl⟩
 have tn3:tn 0 (s2.heap.push { cls:=.type "list",dict:=none,data:=.seq ([]:List Value).toArray }):=TT.keep _ _ _ st2 fun b hb o e=>Heap.get?_push_of_some _ e
 have fl3:∀ b∈fp,b < (s2.heap.push { cls:=.type "list",dict:=none,data:=.seq ([]:List Value).toArray }).objs.size:=fun b hb=>by
  rw[Heap.size_push];exact Nat.lt_succ_of_lt (fl b hb)
 generalize s2.heap.objs.size=l at *
 generalize hs3:({ s2 with heap:=s2.heap.push { cls:=.type "list",dict:=none,data:=.seq ([]:List Value).toArray } }:Shared)=s3 at *
 have e3:s2.heap.push { cls:=.type "list",dict:=none,data:=.seq ([]:List Value).toArray }=s3.heap:=by rw[<- hs3]
 rw[e3]at tn3 fl3
 generalize upd H2 l (.lst [])=H3 at *
 refine QdU ?_
 have I4:=QdZ (N:=N) (n:=n) (ix:=ix) I3 S T f3 fl3
 obtain⟨bg,bt,be⟩:=blk fp s3 H3
 have tn4:tn 0 (heapC s3.heap scope):=TT.keep _ _ _ tn3 fun b hb o e=>QdY _ _ _ _ e
 have fr4:∀ b∈fp,H3 b=none:=fun b hb=>(f3 b hb).1
 show codeAny (model X.prog X.w) X.A (.compStart (.ListComp elt [⟨target,iter,ifs,0⟩] scope pos) 0 (.ref it) (.ref l) (cxC X N scope fp s3 H3).env) (compPost (model X.prog X.w) X.A X.xe use Q (.ref l) s3.heap.objs.size) { s3 with heap:=heapC s3.heap scope }
 have fpx:∀ {σ':St}{H':Hp}{s':Shared},Inv (cxC X N scope fp s3 H3) [] σ' H' s'->(∀ b∈fp,H' b=none)->∀ b∈fp,FpOk (cxC X N scope fp s3 H3) [] H' b:=fun I' hn b hb=>by
  have q:=I'.ok.exf b hb
  exact⟨hn b hb,q.1,I'.ok.exfs b hb,.inl hb,q.2,fun p hp=>absurd (show p∈([]:List (Addr × Obj)) from hp) (by simp)⟩
 have hc':(cxC X N scope fp s3 H3).calm=true:=hc
 have loop:codeAny (model X.prog X.w) X.A (.compLoop (.ListComp elt [⟨target,iter,ifs,0⟩] scope pos) 0 (.ref it) (.ref l) (cxC X N scope fp s3 H3).env) (compPost (model X.prog X.w) X.A X.xe use Q (.ref l) s3.heap.objs.size) { s3 with heap:=heapC s3.heap scope }:=by
  refine QdL (fun k s'=>∃ i σ' H',Inv (cxC X N scope fp s3 H3) [] σ' H' s'/\tn i s'.heap/\(∀ b∈fp,H' b=none)/\W i k σ' H') ?_ m0 ⟨0,_,H3,I4,tn4,fr4,w0⟩
  rintro k s5 ⟨i,σ5,H5,I5,tn5,fr5,w5⟩
  rcases turn i k σ5 H5 w5 with ⟨stop,q⟩ | ⟨go,step⟩
  ·refine thn (TT.done (cxC X N scope fp s3 H3) rfl rfl rfl hc' i [] s5 σ5 H5 NoE I5 (fpx I5 fr5) tn5 stop) fun r s6 pq52=>?_
   obtain⟨hr,I6⟩:=pq52
   subst hr
   have J6:Inv X pins σ H5 s6:=I3.call' I6.os I6.base I6.hok I6.bare fun b hb=>by
    obtain⟨g0,g1,g2,g3,g4,g5⟩:=f3 b hb
    exact⟨g3,g1,g4,g5⟩
   obtain⟨m,hn,_⟩:=I6.loc
   refine fin l s3.heap.objs.size H5 s6 J6 q ⟨⟨m,hn⟩,I6.free,Nat.ne_of_gt I3.lt,fun x c e=>?_,I3.sz,fun p hp=>?_⟩
   ·obtain⟨v,z⟩:=I3.cell x c e
    exact Nat.ne_of_lt z.lt
   ·exact Nat.ne_of_lt (Heap.lt_size (I3.pin p hp).1)
  ·refine thn (TT.item (cxC X N scope fp s3 H3) rfl rfl rfl hc' i [] s5 σ5 H5 NoE I5 (fpx I5 fr5) tn5 go) fun r s6 pq53=>?_
   obtain⟨u,hr,h6⟩:=pq53
   subst hr
   refine thn h6 fun _ s7 pq54=>?_
   obtain⟨x,H7,I7,r7,y7,tn7,fr7⟩:=pq54
   have I7':=I7.pinned (fpx I7 fr7) (TT.obj _ _ tn7)
   refine thn (bg _ s7 σ5 H7 x u _ I7' r7 (step x H7 y7)) fun _ s8 pq55=>?_
   obtain⟨σ8,H8,I8,q8⟩:=pq55
   refine thn (bt _ s8 σ8 H8 _ I8 q8) fun ok s9 pq56=>?_
   obtain⟨H9,I9,q9⟩:=pq56
   have again : ∀ {s' : Shared} {H' : Hp}, Inv (cxC X N scope fp s3 H3) ([] ++ pinsAt fp s7.heap) σ8 H' s' -> (∃ m', m' < k /\ W (i + 1) m' σ8 H') ->
     ∃ m,m < k/\∃ i σ' H',Inv (cxC X N scope fp s3 H3) [] σ' H' s'/\tn i s'.heap/\(∀ b∈fp,H' b=none)/\W i m σ' H':=fun {s' H'} I' pq57=>by
    obtain⟨m',hm,w'⟩:=pq57
    refine⟨m',hm,i + 1,σ8,H',I'.unpinned,TT.keep _ _ _ tn7 fun b hb o e=>(I'.pin (b,o) (List.mem_append_right _ (List.mem_append_right _ (Qa3 hb e)))).1,fun b hb=>?_,w'⟩
    obtain⟨o,e,d⟩:=TT.obj _ _ tn7 b hb
    exact (I'.pin (b,o) (List.mem_append_right _ (List.mem_append_right _ (Qa3 hb e)))).2.1
   cases ok with
   | false=>exact again I9 q9
   | true=>
    refine thn (be _ s9 σ8 H9 _ I9 q9) fun xv s10 pq58=>?_
    obtain⟨v,H10,I10,r10,ys,hy,hz,q10⟩:=pq58
    refine thn (Qcv (X:=cxC X N scope fp s3 H3) _ s10 σ8 H10 (.ref l) [v] (.ref l) [xv] (fun _ H'=>H'=upd H10 l (.lst (ys++[v]))) I10 rfl (.cons r10 .nil) ⟨l,ys,v,rfl,rfl,hy,hz,rfl⟩) fun _ s11 pq59=>?_
    obtain⟨_,H11,I11,_,e⟩:=pq59
    subst e
    exact again I11 q10
 exact codeAny_compStart_list loop (TT.self _ 0 _ _ _ tn4 loop)
theorem Qd3 {elt target iter : Expr} {ifs : List Expr} {pos : Pos} {n : Nat} {ix : List Nat} {wi : TI} {g : TG} {tt : TT} {te : TE}
  (hc:X.calm=true) (S:CompScope X scope) (T:CompNames X scope N n ix) (hi:PI X target iter wi)
  (blk:∀ (fp:List Addr) (s:Shared) (H:Hp),PG (cxC X N scope fp s H) target g/\PIfs (cxC X N scope fp s H) ifs tt/\PE (cxC X N scope fp s H) elt te)
  (hs:∀ x,foldedSetIterable iter X.env x=pure x:=by intro _;rfl):PE X (.ListComp elt [⟨target,iter,ifs,0⟩] scope pos) (tComp wi n ix g tt te):=by
 intro pins s σ H Q I h
 rw[eval_ListComp]
 refine Qd2 (use:=none) hc S T hi blk hs I h fun l C H' s' I' q c=>?_
 obtain⟨m,hn⟩:=c.ns
 exact⟨m,hn,fun h' hs'=>⟨.ref l,H',c.go I' hs',rfl,q⟩⟩
theorem Qd4 {elt target iter : Expr} {ifs : List Expr} {pos pos' spos : Pos} {n i : Nat} {ix : List Nat} {wi : TI} {g : TG} {tt : TT} {te : TE} {x : Str}
  (hN:X.N.Nodup) (hi':X.N[i]?=some x) (hx:L2.Loc X.env.scope x) (hf:X.fn x=true\/X.env.scope.names.lookup x=some .local)
  (hc:X.calm=true) (S:CompScope X scope) (T:CompNames X scope N n ix) (hi:PI X target iter wi)
  (blk:∀ (fp:List Addr) (s:Shared) (H:Hp),PG (cxC X N scope fp s H) target g/\PIfs (cxC X N scope fp s H) ifs tt/\PE (cxC X N scope fp s H) elt te)
  (hsw:swapsWith (.ListComp elt [⟨target,iter,ifs,0⟩] scope pos) (some (.Name x pos')) spos.line X.env=pure true)
  (hs:∀ x,foldedSetIterable iter X.env x=pure x:=by intro _;rfl):PS X (.Assign [.Name x pos'] (.ListComp elt [⟨target,iter,ifs,0⟩] scope pos) spos) (tAsg (tComp wi n ix g tt te) (gName i)):=by
 intro pins s σ H D I h
 rw[exec_Assign_Name_used _ _ _ _ hsw]
 refine wpAny_bind (wpAny_standAt (wpAny_bind ?_))
 show wpAny _ _ (comprehension (.ListComp elt [⟨target,iter,ifs,0⟩] scope pos) scope X.env _ (newList []) false (eval iter X.env) (some (assign (.Name x pos') X.env)) >>= fun _=>pure ()) _ _ s
 refine wpAny_bind (wpAny_mono (Qd2 (use:=some (assign (.Name x pos') X.env)) (Q:=fun _ s'=>SP X pins D .next s') hc S T hi blk hs I h fun l C H' s' I' q c=>?_) (fun _ s' hq=>wpAny_pure (wpAny_pure hq)) fun _ _ e=>e)
 obtain⟨m,hn⟩:=c.ns
 refine wpAny_assign_Name (Qaq I' hN hi' hx (v:=.ref l) rfl (fun s2 I2 ⟨b,hb,hb2⟩=>?_) hf)
 have hbC:b≠C:=by
  rcases hb2 with z | z
  ·rw[z];exact c.loc.symm
  ·exact c.cell x b z
 refine⟨m,hn.sameBut hb hbC.symm,fun h' hs'=>⟨_,H',?_,q⟩⟩
 exact CFree.go ⟨⟨m,hn.sameBut hb hbC.symm⟩,c.free,c.loc,c.cell,c.sz,c.pin⟩ I2 hs'
end
section
variable {X:Cx}{a b c e:Expr}{es:List Expr}{pos:Pos}{fa fb fc:CE}{ca cb:CA}{K:PySem.W.Frag}{ρ:List Addr}{H:Hp}{st:Sto}
theorem Qd5 {K : PySem.W.Frag} {g : D -> D -> M D} {x y : V} {H : Hp} {Q : VK} (hg : ∀ d e, (∃ i j, d = D.int i /\ e = D.int j) \/ g d e = bad) (h : rOf K g x y H Q) :
  ∃ (i j:Int) (ρ:List Addr) (st:Sto),x=.int i/\y=.int j/\SR K ρ H st/\Post K ρ H (g (.int i) (.int j) st) (fun r _ ρ' H'=>∀ v,Rep K ρ' H' v r->Q v H'):=by
 obtain⟨ρ,st,d,e,sr,rx,ry,p⟩:=h
 rcases hg d e with ⟨i,j,e1,e2⟩ | hb
 ·subst e1 e2;cases rx;cases ry;exact⟨_,_,ρ,st,rfl,rfl,sr,p⟩
 ·rw[hb]at p;exact p.elim
theorem Qd6:OpR X (binaryOp .Sub) (rOf X.K subD):=Qa9.of fun x y H Q h=>by
 obtain⟨i,j,ρ,st,rfl,rfl,sr,p⟩:=Qd5 (by intro d e;cases d<;>cases e<;>first | exact .inl ⟨_,_,rfl,rfl⟩ | exact .inr rfl) h
 exact⟨_,_,rfl,rfl,p.ret sr _ (.int _)⟩
theorem Qd7:OpR X (binaryOp .Mult) (rOf X.K mulD):=Qba.of fun x y H Q h=>by
 obtain⟨i,j,ρ,st,rfl,rfl,sr,p⟩:=Qd5 (by intro d e;cases d<;>cases e<;>first | exact .inl ⟨_,_,rfl,rfl⟩ | exact .inr rfl) h
 exact⟨_,_,rfl,rfl,p.chk.1,p.chk.2.ret sr _ (.int _)⟩
theorem Qd8:OpR X (binaryOp .FloorDiv) (rOf X.K fdivD):=Qbb.of fun x y H Q h=>by
 obtain⟨i,j,ρ,st,rfl,rfl,sr,p⟩:=Qd5 (by intro d e;cases d<;>cases e<;>first | exact .inl ⟨_,_,rfl,rfl⟩ | exact .inr rfl) h
 exact⟨_,_,rfl,rfl,p.chk.1,p.chk.2.ret sr _ (.int _)⟩
theorem Qd9:OpR X (binaryOp .Mod) (rOf X.K modD):=Qbc.of fun x y H Q h=>by
 obtain⟨i,j,ρ,st,rfl,rfl,sr,p⟩:=Qd5 (by intro d e;cases d<;>cases e<;>first | exact .inl ⟨_,_,rfl,rfl⟩ | exact .inr rfl) h
 exact⟨_,_,rfl,rfl,p.chk.1,p.chk.2.ret sr _ (.int _)⟩
theorem Qea:OpR X (binaryOp .Pow) (rOf X.K powD):=Qbd.of fun x y H Q h=>by
 obtain⟨i,j,ρ,st,rfl,rfl,sr,p⟩:=Qd5 (by intro d e;cases d<;>cases e<;>first | exact .inl ⟨_,_,rfl,rfl⟩ | exact .inr rfl) h
 exact⟨_,_,rfl,rfl,p.chk.1,p.chk.2.ret sr _ (.int _)⟩
theorem Qeb:OpR X (compareOp .Lt) (rOf X.K ltD):=Qbg.of fun x y H Q h=>by
 obtain⟨i,j,ρ,st,rfl,rfl,sr,p⟩:=Qd5 (by intro d e;cases d<;>cases e<;>first | exact .inl ⟨_,_,rfl,rfl⟩ | exact .inr rfl) h
 exact⟨_,_,rfl,rfl,p.ret sr _ (.bl _)⟩
theorem Qec:OpR X (compareOp .Gt) (rOf X.K gtD):=Qbh.of fun x y H Q h=>by
 obtain⟨i,j,ρ,st,rfl,rfl,sr,p⟩:=Qd5 (by intro d e;cases d<;>cases e<;>first | exact .inl ⟨_,_,rfl,rfl⟩ | exact .inr rfl) h
 exact⟨_,_,rfl,rfl,p.ret sr _ (.bl _)⟩
theorem Qed:OpR X (compareOp .GtE) (rOf X.K geD):=Qbi.of fun x y H Q h=>by
 obtain⟨i,j,ρ,st,rfl,rfl,sr,p⟩:=Qd5 (by intro d e;cases d<;>cases e<;>first | exact .inl ⟨_,_,rfl,rfl⟩ | exact .inr rfl) h
 exact⟨_,_,rfl,rfl,p.ret sr _ (.bl _)⟩
theorem Qee:SA X [] cNil:=QbA.of fun σ H Q h_=>h_.el fun ρ l st lr sr p=>p.ret sr [] .nil
theorem Qef (ha:SE X e fa) (hr:SA X es ca) (hs:starEach (e::es) X.env=(false,eval e X.env)::starEach es X.env:=by rfl):SA X (e::es) (cCons fa ca):=
 (QbB ha hr hs).of fun σ H Q h_=>h_.el fun ρ l st lr sr p=>⟨ρ,l,st,lr,sr,p.bnd.imp fun d st1 ρ1 H1 x1 s1 p1 v rv=>⟨ρ1,l,st1,lr.mono x1,s1,p1.bnd.imp fun ds st2 ρ2 H2 x2 s2 p2 vs rvs=>p2.ret s2 _ (.cons (rv.mono x2) rvs)⟩⟩
theorem Qeg {k:Nat} (h:SA X es ca):SE X (.Tuple es k pos) (cTup ca):=(QbC h).of fun σ H Q h_=>h_.el fun ρ l st lr sr p=>⟨ρ,l,st,lr,sr,p.bnd.imp fun ds st1 ρ1 H1 x1 s1 p1 vs rvs=>by
 obtain⟨hl,p2⟩:=p1.chk
 refine⟨by rw[rvs.length];exact hl,fun q hq=>?_⟩
 exact p2 ρ1 _ (Ex.new hq) (s1.new hq) _ (.tup (SqT.of Qai) (rvs.mono (Ex.new hq)))⟩
theorem Qeh (h:SA X es ca):SL X (.List es pos) (aDisp ca):=(QbD h).of fun σ H Q h_=>h_.el fun ρ l st lr sr p=>⟨ρ,l,st,lr,sr,p.bnd.imp fun ds st1 ρ1 H1 x1 s1 p1 vs rvs=>by
 obtain⟨hl,p2⟩:=p1.chk
 refine⟨by rw[rvs.length];exact hl,fun q hq=>?_⟩
 have hn:H q=none:=by
  cases z:H q with
  | none=>rfl
  | some o=>exact absurd hq (x1.trk q o z)
 exact p2 ρ1 _ (Ex.new hq) (s1.new hq) q vs hn (s1.fresh hq) Qai (rvs.mono (Ex.new hq))⟩
theorem Post.bnd0 {α β:Type}{m:M α}{f:α->M β}{R:β->Sto->List Addr->Hp->Prop} (h:Post K ρ H (MM.bnd m f st) R):Post K ρ H (m st) fun a st' _ _=>Post K ρ H (f a st') R:=by
 unfold MM.bnd at h
 cases e:m st with
 | ok a s'=>
  rw[e]at h
  exact fun ρ' H' y s=>h
 | exc _ _=>rw[e]at h;exact h
 | bad=>rw[e]at h;exact h
theorem Qei (h:SL X e ca):SE X e (cKeep ca):=h.of fun σ H Q h_=>h_.el fun ρ l st lr sr p=>⟨ρ,l,st,lr,sr,p.bnd0.imp fun ds st1 ρ1 H1 x1 s1 p1 a vs ha na hv rvs=>by
 have x:Ex ρ H (ρ1++[a]) H1:=by
  obtain⟨τ,e,f⟩:=x1.pre
  refine⟨⟨τ++[a],by rw[e,List.append_assoc],fun b hb=>?_⟩,x1.fix,x1.oth,x1.knd⟩
  rcases List.mem_append.mp hb with hb | hb
  ·exact f b hb
  ·rw[List.mem_singleton]at hb;rw[hb];exact ha
 refine p1 (ρ1++[a]) H1 x (s1.keep hv na rvs) _ (.ref ⟨_,hv,rfl⟩ ?_)
 rw[<- s1.len];simp⟩
theorem _root_.L2.IxR.of {r r':R2} (h:IxR X r) (g:∀ x y H Q,r' x y H Q->r x y H Q):IxR X r':=fun value slice pins s σ H x y v u Q I rx ry q hs=>h value slice pins s σ H x y v u Q I rx ry (g x y H Q q) hs
theorem Post.item {ds:List D}{i:Int}{R:D->Sto->List Addr->Hp->Prop} (h:Post K ρ H (itemD ds i st) R) (s:SR K ρ H st):∃ k d,L2.ixN ds.length i=some k/\ds[k]?=some d/\R d st ρ H:=by
 unfold itemD at h
 cases e:MM.ixN ds.length i with
 | none=>rw[e]at h;exact h.elim
 | some k=>
  rw[e]at h
  cases e2:ds[k]? with
  | none=>dsimp only at h;rw[e2]at h;exact h.elim
  | some d=>dsimp only at h;rw[e2]at h;exact⟨k,d,e,e2,h.ret s⟩
theorem Qej {vs:List V}{ds:List D}{i:Int}{k:Nat}{d:D} (r:Reps K ρ H vs ds) (h1:L2.ixN ds.length i=some k) (h2:ds[k]?=some d):∃ v,atI vs i=some v/\Rep K ρ H v d:=by
 obtain⟨v,e,rv⟩:=r.get h2
 refine⟨v,?_,rv⟩
 unfold atI
 rw[r.length,h1]
 exact e
theorem Post.itemK {n:Nat}{k:D}{R:D->Sto->List Addr->Hp->Prop} (h:Post K ρ H (MM.itemK n k st) R) (s:SR K ρ H st):∃ b kvs d,st[n]?=some (.dct b kvs)/\kOk b k=true/\lkK kvs k=some d/\R d st ρ H:=by
 obtain⟨b,kvs,e,p1⟩:=Post.getDc (Post.bnd h) s
 obtain⟨hk,p2⟩:=Post.chk p1
 cases e2:lkK kvs k with
 | none=>dsimp only at p2;rw[e2]at p2;exact p2.elim
 | some d=>dsimp only at p2;rw[e2]at p2;exact⟨b,kvs,d,e,hk,e2,p2.ret s⟩
theorem ObR.dictIs {X:Cx}{pins:List (Addr × Obj)}{σ:St}{s:Shared}{a:Addr}{b:Bool}{kvs:List (D × D)} (I:Inv X pins σ H s) (g:ObR X.K ρ H a (.dct b kvs)):s.TypeIs (.ref a) "dict":=by
 cases b with
 | false=>
  obtain⟨es,e,r⟩:=g
  obtain⟨_,_,vs,_,dd⟩:=QcR I.hok e
  exact dd.typeIs
 | true=>
  obtain⟨es,e,r⟩:=g
  obtain⟨_,_,xs,_,dd,_⟩:=QdE I e r
  exact dd.typeIs
theorem Qek (hu:X.A.units + 60 < cLine):IxR X (fun x y H Q=>∃ (ρ:List Addr) (st:Sto) (n:Nat) (a:Addr) (b:Bool) (kvs:List (D × D)) (k d:D),x=.ref a/\SR X.K ρ H st/\ρ[n]?=some a/\st[n]?=some (.dct b kvs)/\Rep X.K ρ H y k/\kOk b k=true/\lkK kvs k=some d/\∀ v,Rep X.K ρ H v d->Q v H):=by
 intro value slice pins s σ H x y v u Q I rx ry pq136 hs;obtain⟨ρ,st,n,a,b,kvs,k,d,ex,sr,ha,hn,rk,hk,hl,q⟩:=pq136
 subst ex
 cases rx
 have g:=sr.ob n a _ ha hn
 exact tail_any (ObR.dictIs I g) PySem.F.slot_dict_getitem.lookup (QdI (by ac_nf) I g rk hk hl ry fun v w' s' I' rv rw'=>⟨v,H,I',rw',q v rv⟩) hs
theorem Qel {x y:V}{d e:D}{Q:VK} (sr:SR K ρ H st) (rx:Rep K ρ H x d) (ry:Rep K ρ H y e) (hd:∀ n,d≠.dic n) (p:Post K ρ H (subsD d e st) fun r _ ρ' H'=>∀ v,Rep K ρ' H' v r->Q v H'):rIx K x y H Q:=by
 cases ry with
 | int i=>
  cases rx with
  | dic _ _=>exact absurd rfl (hd _)
  | tup h r=>
   obtain⟨k,d,h1,h2,q⟩:=Post.item p sr
   obtain⟨v,h3,rv⟩:=Qej r h1 h2
   exact .inr (.inl ⟨_,_,i,v,rfl,rfl,h,h3,q v rv⟩)
  | lit h r=>
   obtain⟨k,d,h1,h2,q⟩:=Post.item p sr
   obtain⟨v,h3,rv⟩:=Qej r h1 h2
   exact .inl ⟨_,_,i,v,rfl,rfl,h.seq,h3,q v rv⟩
  | ref _ h=>
   obtain⟨xs,e,p1⟩:=Post.getL (Post.bnd p) sr
   obtain⟨a,vs,ha,hv,r⟩:=sr.seq e
   rw[h]at ha;cases ha
   obtain⟨k,d,h1,h2,q⟩:=Post.item p1 sr
   obtain⟨v,h3,rv⟩:=Qej r h1 h2
   exact .inl ⟨_,_,i,v,rfl,rfl,SqL.of hv,h3,q v rv⟩
  | str z=>
   obtain⟨hz,p1⟩:=Post.chk p
   cases e:MM.ixN z.length i with
   | none=>rw[e]at p1;exact p1.elim
   | some k=>
    rw[e]at p1
    cases e2:z.cps.toList[k]? with
    | none=>dsimp only at p1;rw[e2]at p1;exact p1.elim
    | some c=>
     dsimp only at p1
     rw[e2]at p1
     refine .inr (.inr ⟨z,i,c,rfl,rfl,hz,?_,p1.ret sr _ (.str _)⟩)
     unfold atI
     rw[show z.cps.toList.length=z.length by simp[Str.length]]
     show (L2.ixN z.length i).bind _=_
     rw[show L2.ixN z.length i=some k from e]
     exact e2
  | _=>exact p.elim
 | _=>cases rx<;>first | exact absurd rfl (hd _) | exact p.elim
theorem ixd (hu:X.A.units + 60 < cLine):IxR X (rOf X.K subsD):=(Qb9.or (Qek hu)).of fun x y H Q pq61=>by
 obtain⟨ρ,st,d,e,sr,rx,ry,p⟩:=pq61
 by_cases hd:∃ n,d=.dic n
 ·obtain⟨n,rfl⟩:=hd
  cases rx with
  | @dic a n _ h=>
   have p':Post X.K ρ H (itemK n e st) fun r _ ρ' H'=>∀ (v:V),Rep X.K ρ' H' v r->Q v H':=by cases ry<;>exact p
   obtain⟨b,kvs,d,e1,hk,hl,q⟩:=Post.itemK p' sr
   exact .inr ⟨ρ,st,n,a,b,kvs,e,d,rfl,sr,h,e1,ry,hk,hl,q⟩
 ·exact .inl (Qel sr rx ry (fun n z=>hd ⟨n,z⟩) p)
theorem Qem (hu:X.A.units + 60 < cLine) (ha:SE X a fa) (hb:SE X b fb) (hs:PlainIx b):SE X (.Subscript a b pos) (c2 subsD fa fb):=(Qb5 (ixd hu) ha hb hs).of (Qdm fun _ _ _ _ h=>h)
theorem Qen (ha:SL X a ca) (hb:SE X b fb) (hs:PlainIx b):SE X (.Subscript a b pos) (cTmpSub ca fb):=(Qb5 Qb6 ha hb hs).of fun σ H Q h_=>h_.el fun ρ l st lr sr p=>
 ⟨ρ,l,st,lr,sr,p.bnd.imp fun ds st1 ρ1 H1 x1 s1 p1 a vs ha na hv rvs=>⟨ρ1,l,st1,lr.mono x1,s1,p1.bnd.imp fun e st2 ρ2 H2 x2 s2 p2 u ru=>by
  cases ru with
  | int i=>
   obtain⟨k,d,h1,h2,q⟩:=Post.item p2 s2
   obtain⟨v,h3,rv⟩:=Qej (rvs.mono x2) h1 h2
   exact⟨a,vs,i,v,rfl,rfl,SqL.of (x2.lst a vs na hv),h3,q v rv⟩
  | _=>exact p2.elim⟩⟩
theorem Qeo {CX : CXT} {k n : Nat} {f : Addr} {fd : FuncData} {ps : List Str} {g : List D -> M D} {x : Str} {p : Pos} (F : FnOk X.prog X.w X.K X.mg X.base CX k f fd ps (spOf X.K n g)) (hr : Room k X.A) (hg : Gl X x) (hm : X.mg x = some (.ref f))
  (hk:PySem.W.keepIn X.K (.ref f)=true) (hb:Binds X.K fd ps []) (hx:Passes CX X E0) (ha:SA X (e::es) ca) (hn:∀ l st ds st',ca l st=.ok ds st'->ds.length=n) (hdb:(x == ("__debug__":Str))=false:=by decide)
  (he:starEach (e::es) X.env=(false,eval e X.env)::starEach es X.env:=by rfl) (hpl:(backTo pos (starEach es X.env)).any (·.1)=false:=by rfl):SE X (.Call (.Name x p) (e::es) [] pos) (cCall g ca):=
 (QbF F hr hg hm hk hb .nil hx ha hdb he hpl).of fun σ H Q h_=>h_.el fun ρ l st lr sr p=>⟨ρ,l,st,lr,sr,by
  have q:=Post.bnd p
  cases ec:ca l st with
  | bad=>rw[ec]at q;exact q
  | exc _ _=>rw[ec]at q;exact q
  | ok ds st1=>
   rw[ec]at q
   intro ρ1 H1 x1 s1 vs rvs
   refine⟨by rw[List.append_nil,rvs.length];exact hn l st ds st1 ec,ρ1,st1,ds,s1,by rw[List.append_nil];exact rvs,q ρ1 H1 x1 s1⟩⟩
variable {ta tb:CT}
theorem Qep {d:D}{v:V}{R:Bool->Sto->List Addr->Hp->Prop} (p:Post K ρ H (truD d st) R) (sr:SR K ρ H st) (rv:Rep K ρ H v d):∃ k,TruV K v H k/\R k st ρ H:=by
 cases rv with
 | non=>exact⟨false,rfl,p.ret sr⟩
 | bl b=>exact⟨b,rfl,p.ret sr⟩
 | int i=>exact⟨_,rfl,p.ret sr⟩
 | str x=>exact⟨_,⟨(Post.chk p).1,rfl⟩,(Post.chk p).2.ret sr⟩
 | @tup a vs ds h r=>
  refine⟨!vs.isEmpty,.inr (.inl ⟨vs,h,rfl⟩),?_⟩
  have:vs.isEmpty=ds.isEmpty:=by
   have:=r.length
   cases vs<;>cases ds<;>simp_all
  rw[this];exact p.ret sr
 | @lit a vs ds h r=>
  refine⟨!vs.isEmpty,.inl ⟨vs,h.seq,rfl⟩,?_⟩
  have:vs.isEmpty=ds.isEmpty:=by
   have:=r.length
   cases vs<;>cases ds<;>simp_all
  rw[this];exact p.ret sr
 | ref _ h=>
  obtain⟨ds,e,p1⟩:=Post.getL (Post.bnd p) sr
  obtain⟨a,vs,ha,hv,r⟩:=sr.seq e
  rw[h]at ha;cases ha
  refine⟨!vs.isEmpty,.inl ⟨vs,SqL.of hv,rfl⟩,?_⟩
  have:vs.isEmpty=ds.isEmpty:=by
   have:=r.length
   cases vs<;>cases ds<;>simp_all
  rw[this];exact p1.ret sr
 | dic _ _=>exact p.elim
 | exn0 _ _=>exact p.elim
 | exn _ _ _ _=>exact p.elim
theorem Qeq (ha:SE X a fa) (he:∀ whole,isTrue a X.env whole=(do let v <- whole;standAt a.pos;holding [v] (truthy v)):=by intro _;rfl):ST X a (tVal fa):=
 (Qbs ha he).of fun σ H Q h_=>h_.el fun ρ l st lr sr p=>⟨ρ,l,st,lr,sr,p.bnd.imp fun d st1 ρ1 H1 x1 s1 p1 v rv=>Qep p1 s1 rv⟩
theorem Qer {op:CmpOp}{g:D->D->M D} (ho:OpR X (compareOp op) (rOf X.K g)) (ha:SE X a fa) (hb:SE X b fb) (hm:behindInMarks op b=false):ST X (.Compare a [op] [b] pos) (tCmpB (c2 g fa fb)):=
 (Qbn ho ha hb hm).of fun σ H Q h_=>h_.el fun ρ l st lr sr p=>Qdm (X:=X) (fun _ _ _ _ h=>h) _ _ _ ⟨ρ,l,st,lr,sr,p.bnd.imp fun d st1 ρ1 H1 x1 s1 p1 v rv=>by
  cases rv with
  | bl k=>exact⟨k,rfl,p1.ret s1⟩
  | _=>exact p1.elim⟩
theorem Qes (ha:ST X a ta):PW X (.BoolOp .And [a] pos) (ttOf X.K ta):=Qaz ha
theorem Qet (ha:ST X a ta):PW X (.BoolOp .Or [a] pos) (ttOf X.K ta):=QaA ha
theorem _root_.L2.PW.of {e:Expr}{t t':TT} (h:PW X e t) (f:∀ σ H Q,t' σ H Q->t σ H Q):PW X e t':=fun whole pins s σ H Q I q=>h whole pins s σ H Q I (f σ H Q q)
theorem Qeu {rest:List Expr} (ha:ST X a ta) (hb:PW X (.BoolOp .And (b::rest) pos) (ttOf X.K tb)):PW X (.BoolOp .And (a::b::rest) pos) (ttOf X.K (tAndB ta tb)):=
 (QaB ha hb).of fun σ H Q h_=>h_.el fun ρ l st lr sr p=>⟨ρ,l,st,lr,sr,p.bnd.imp fun c st1 ρ1 H1 x1 s1 p1=>by
  cases c with
  | true=>exact⟨ρ1,l,st1,lr.mono x1,s1,p1⟩
  | false=>exact p1.ret s1⟩
theorem Qev {rest:List Expr} (ha:ST X a ta) (hb:PW X (.BoolOp .Or (b::rest) pos) (ttOf X.K tb)):PW X (.BoolOp .Or (a::b::rest) pos) (ttOf X.K (tOrB ta tb)):=
 (QaC ha hb).of fun σ H Q h_=>h_.el fun ρ l st lr sr p=>⟨ρ,l,st,lr,sr,p.bnd.imp fun c st1 ρ1 H1 x1 s1 p1=>by
  cases c with
  | true=>exact p1.ret s1
  | false=>exact⟨ρ1,l,st1,lr.mono x1,s1,p1⟩⟩
theorem Qex {op:BoolOp} (h:SE X a fa):SE X (.BoolOp op [a] pos) fa:=QaE h
theorem Qey {rest:List Expr} (ha:SE X a fa) (hb:SE X (.BoolOp .And (b::rest) pos) fb):SE X (.BoolOp .And (a::b::rest) pos) (cAnd fa fb):=
 (QaF ha hb).of fun σ H Q h_=>h_.el fun ρ l st lr sr p=>⟨ρ,l,st,lr,sr,p.bnd.imp fun d st1 ρ1 H1 x1 s1 p1 v rv=>by
  cases rv with
  | bl c=>
   refine⟨c,rfl,?_⟩
   cases c with
   | true=>exact⟨ρ1,l,st1,lr.mono x1,s1,p1⟩
   | false=>exact p1.ret s1 _ (.bl false)
  | _=>exact p1.elim⟩
theorem Qez {rest:List Expr} (ha:SE X a fa) (hb:SE X (.BoolOp .Or (b::rest) pos) fb):SE X (.BoolOp .Or (a::b::rest) pos) (cOr fa fb):=
 (QaG ha hb).of fun σ H Q h_=>h_.el fun ρ l st lr sr p=>⟨ρ,l,st,lr,sr,p.bnd.imp fun d st1 ρ1 H1 x1 s1 p1 v rv=>by
  cases rv with
  | bl c=>
   refine⟨c,rfl,?_⟩
   cases c with
   | true=>exact p1.ret s1 _ (.bl true)
   | false=>exact⟨ρ1,l,st1,lr.mono x1,s1,p1⟩
  | _=>exact p1.elim⟩
theorem QeA (hc : ST X c ta) (ha : SE X a fa) (hb : SE X b fb) : SE X (.IfExp c a b pos) (cIfE ta fa fb) := (QaH hc ha hb).of fun σ H Q h_ => h_.el fun ρ l st lr sr p => ⟨ρ, l, st, lr, sr, p.bnd.imp fun k st1 ρ1 H1 x1 s1 p1 => by
  cases k with
  | true=>exact⟨ρ1,l,st1,lr.mono x1,s1,p1⟩
  | false=>exact⟨ρ1,l,st1,lr.mono x1,s1,p1⟩⟩
end
theorem LR.set {K:PySem.W.Frag}{ρ:List Addr}{H:Hp}{σ:St}{l:Loc}{v:V}{d:D} (h:LR K ρ H σ l) (i:Nat) (r:Rep K ρ H v d):LR K ρ H (σ.set i (some v)) (l.set i (some d)):=by
 refine⟨by simp[h.1],fun j e q=>?_⟩
 by_cases z:i=j
 ·subst z
  by_cases hl:i < l.length
  ·rw[List.getElem?_set_self hl]at q
   cases q
   exact⟨v,by rw[List.getElem?_set_self (by rw[h.1];exact hl)],r⟩
  ·rw[List.getElem?_eq_none (by simp;ac_nf)]at q;cases q
 ·rw[List.getElem?_set_ne z]at q
  obtain⟨w,e1,r1⟩:=h.2 j e q
  exact⟨w,by rw[List.getElem?_set_ne z];exact e1,r1⟩
theorem LR.start {K:PySem.W.Frag}{ρ:List Addr}{H:Hp}{N:List Str}{vs:List V}{ds:List D} (r:Reps K ρ H vs ds):LR K ρ H (L2.start N vs) (ds.map some++List.replicate (N.length - ds.length) none):=by
 have hl:=r.length
 unfold L2.start
 refine⟨by simp[hl],fun i d e=>?_⟩
 by_cases hi:i < ds.length
 ·rw[List.getElem?_append_left (by simpa using hi),List.getElem?_map]at e
  cases q:ds[i]? with
  | none=>rw[q]at e;cases e
  | some d'=>
   rw[q]at e
   have e':d'=d:=Option.some.inj (Option.some.inj e)
   subst e'
   obtain⟨v,hv,rv⟩:=r.get q
   refine⟨v,?_,rv⟩
   rw[List.getElem?_append_left (by simp;ac_nf),List.getElem?_map,hv];rfl
 ·rw[List.getElem?_append_right (by simpa using hi),List.getElem?_replicate]at e
  split at e<;>cases e
section
variable {X:Cx}{a b c e tg:Expr}{es:List Expr}{s:Stmt}{ss:List Stmt}{pos:Pos}{fa fb fc:CE}{ca cb:CA}{ta tb:CT}{cs cr:CS}{K:PySem.W.Frag}{ρ:List Addr}{H:Hp}{st:Sto}
abbrev SG (X:Cx) (e:Expr) (g:CG):Prop:=PG X e (tgOf X.K g)
abbrev SGs (X:Cx) (e:List Expr) (g:List D->Loc->M Loc):Prop:=PGs X e (tgsOf X.K g)
theorem QeB {i:Nat}{x:Str} (h:PG X (.Name x pos) (gName i)):SG X (.Name x pos) (gVar i):=h.of fun v σ H Q pq62=>by obtain⟨ρ,l,st,d,lr,sr,rv,p⟩:=pq62;exact p.ret sr _ (lr.set i rv)
theorem QeC:SGs X [] gsNil:=QaO.of fun vs σ H Q pq63=>by
 obtain⟨ρ,l,st,ds,lr,sr,rvs,p⟩:=pq63
 cases rvs with
 | nil=>exact⟨rfl,p.ret sr σ lr⟩
 | cons _ _=>exact p.elim
theorem QeD {g:CG}{r:List D->Loc->M Loc} (h1:SG X e g) (h2:SGs X es r) (hs:(assignEach (e::es) X.env).map (·.2)=assign e X.env::(assignEach es X.env).map (·.2):=by rfl):SGs X (e::es) (gsCons g r):=
 (QaP h1 h2 hs).of fun vs σ H Q pq64=>by
  obtain⟨ρ,l,st,ds,lr,sr,rvs,p⟩:=pq64
  cases rvs with
  | nil=>exact p.elim
  | cons rv rt=>exact⟨_,_,rfl,ρ,l,st,_,lr,sr,rv,(Post.bnd p).imp fun l1 st1 ρ1 H1 x1 s1 p1 σ1 lr1=>⟨ρ1,l1,st1,_,lr1,s1,rt.mono x1,p1⟩⟩
theorem QeE {k n:Nat}{r:List D->Loc->M Loc} (hc:X.calm=true) (h:SGs X es r) (hn:(assignEach es X.env).length=n:=by rfl) (hst:(assignEach es X.env).findIdx? (·.1)=none:=by rfl):SG X (.Tuple es k pos) (gTupD n r):=
 (QaQ hc h hn hst).of fun v σ H Q pq65=>by
  obtain⟨ρ,l,st,d,lr,sr,rv,p⟩:=pq65
  cases rv with
  | tup h r=>exact⟨_,_,rfl,h,by rw[r.length];exact (Post.chk p).1,ρ,l,st,_,lr,sr,r,(Post.chk p).2⟩
  | _=>exact p.elim
theorem QeF:SSs X [] sNext:=QaI.of fun G σ H h_=>h_.el fun ρ l st lr sr p=>p.ret sr σ lr
theorem QeG (h1:SS X s cs) (h2:SSs X ss cr):SSs X (s::ss) (sSeq cs cr):=(QaJ h1 h2).of fun G σ H h_=>h_.el fun ρ l st lr sr p=>⟨ρ,l,st,lr,sr,p.bnd.imp fun f st1 ρ1 H1 x1 s1 p1=>by
 cases f with
 | next l'=>exact fun σ' lr'=>⟨ρ1,l',st1,lr',s1,p1⟩
 | ret d=>exact p1.ret s1
 | brk l'=>exact p1.ret s1
 | cnt l'=>exact p1.ret s1⟩
theorem QeH (h:SE X e fa):SS X (.Return (some e) pos) (sRet fa):=(QaL h).of fun G σ H h_=>h_.el fun ρ l st lr sr p=>⟨ρ,l,st,lr,sr,p.bnd.imp fun d st1 ρ1 H1 x1 s1 p1 v rv=>p1.ret s1 v rv⟩
theorem QeI (h:SE X e fa) (hs:swapsWith e none pos.line X.env=pure false:=by rfl):SS X (.Expr e pos) (sExp fa):=(QaK h hs).of fun G σ H h_=>h_.el fun ρ l st lr sr p=>
 ⟨ρ,l,st,lr,sr,p.bnd.imp fun d st1 ρ1 H1 x1 s1 p1 v rv=>p1.ret s1 σ (lr.mono x1)⟩
theorem QeJ (hc:ST X c ta) (ha:SSs X ss cs) {sr:List Stmt} (hb:SSs X sr cr):SS X (.If c ss sr pos) (sIf ta cs cr):=(QaM hc ha hb).of fun G σ H h_=>h_.el fun ρ l st lr sr p=>
 ⟨ρ,l,st,lr,sr,p.bnd.imp fun k st1 ρ1 H1 x1 s1 p1=>by
  cases k with
  | true=>exact⟨ρ1,l,st1,lr.mono x1,s1,p1⟩
  | false=>exact⟨ρ1,l,st1,lr.mono x1,s1,p1⟩⟩
theorem QeK {g:CG}{te:TE}{tg:TG} (he:∀ σ H Q,tOf X.K fa σ H Q->te σ H Q) (hg:∀ v σ H Q,tgOf X.K g v σ H Q->tg v σ H Q):∀ G σ H,tsOf X.K (sAsg g fa) G σ H->tAsg te tg G σ H:=fun G σ H h_=>h_.el fun ρ l st lr sr p=>
 he _ _ _ ⟨ρ,l,st,lr,sr,p.bnd.imp fun d st1 ρ1 H1 x1 s1 p1 v rv=>hg _ _ _ _ ⟨ρ1,l,st1,d,lr.mono x1,s1,rv,p1.bnd.imp fun l2 st2 ρ2 H2 x2 s2 p2 σ2 lr2=>p2.ret s2 σ2 lr2⟩⟩
theorem QeL {i:Nat}:∀ v σ H Q,tgOf X.K (gVar i) v σ H Q->gName i v σ H Q:=fun v σ H Q pq66=>by obtain⟨ρ,l,st,d,lr,sr,rv,p⟩:=pq66;exact p.ret sr _ (lr.set i rv)
theorem QeM {i : Nat} {x : Str} {pos' : Pos} (hN : X.N.Nodup) (hi : X.N[i]? = some x) (hx : L2.Loc X.env.scope x) (he : SE X e fa) (hs : swapsWith e (some (.Name x pos')) pos.line X.env = pure false := by rfl)
  (hf:X.fn x=true\/X.env.scope.names.lookup x=some .local:=by first | exact .inl rfl | exact .inr rfl | assumption):SS X (.Assign [.Name x pos'] e pos) (sAsg (gVar i) fa):=
 (QaT hN hi hx he hs hf).of (QeK (fun _ _ _ h=>h) QeL)
theorem QeN {g : CG} (he : SE X e fa) (hg : SG X tg g) (hs : swapsWithSole [tg] e pos.line X.env = pure false := by rfl) (hw : swappedStores [tg] e X.env = pure none := by rfl)
  (h1:(assignEach [tg] X.env).map (·.2)=[assign tg X.env]:=by rfl):SS X (.Assign [tg] e pos) (sAsg g fa):=(QaS he hg hs hw h1).of (QeK (fun _ _ _ h=>h) fun _ _ _ _ h=>h)
theorem Post.storeK {n:Nat}{k v:D}{R:Unit->Sto->List Addr->Hp->Prop} (h:Post K ρ H (MM.storeK n k v st) R) (s:SR K ρ H st):∃ b kvs,st[n]?=some (.dct b kvs)/\kOk b k=true/\kvs.length < lim/\Post K ρ H (.ok () (st.set n (.dct b (ptK kvs k v)))) R:=by
 obtain⟨b,kvs,e,p1⟩:=Post.getDc (Post.bnd h) s
 obtain⟨⟨hk,hl⟩,p2⟩:=Post.chk p1
 refine⟨b,kvs,e,hk,hl,?_⟩
 unfold putDc at p2
 rw[e]at p2
 simpa using p2
def rSetD (X:Cx):V->V->V->Hp->(Hp->Prop)->Prop:=fun o i v H Q=>∃ (ρ:List Addr) (st:Sto) (n:Nat) (a:Addr) (b:Bool) (kvs:List (D × D)) (k d:D),o=.ref a/\SR X.K ρ H st/\ρ[n]?=some a/\st[n]?=some (.dct b kvs)/\Rep X.K ρ H i k/\kOk b k=true/\kvs.length < sizeLine/\Rep X.K ρ H v d /\
 ∀ H',SR X.K ρ H' (st.set n (.dct b (ptK kvs k d)))->Ex ρ H ρ H'->Q H'
theorem QeO (hu:X.A.units + 60 < cLine):PSet X (rSetD X):=by
 intro pins s σ H o i v ov iv u Q I ro ri rv pq137;obtain⟨ρ,st,n,a,b,kvs,k,d,eo,sr,ha,hn,rk,hk,hl,rd,q⟩:=pq137
 subst eo
 cases ro
 exact QdK (by ac_nf) I sr ha hn rk hk hl rd ri rv fun H' s' I' s3 x3=>⟨H',I',q H' s3 x3⟩
theorem _root_.L2.PSet.or {t t':TSet} (h:PSet X t) (h':PSet X t'):PSet X (fun o i v H Q=>t o i v H Q\/t' o i v H Q):=by
 intro pins s σ H o i v ov iv u Q I ro ri rv q
 rcases q with q | q
 ·exact h pins s σ H o i v ov iv u Q I ro ri rv q
 ·exact h' pins s σ H o i v ov iv u Q I ro ri rv q
theorem QeP {to ti : CE} {o i : Expr} (hu : X.A.units + 60 < cLine) (ho : SE X o to) (hi : SE X i ti)
  (ha:∀ v,assign (.Subscript o i pos) X.env v=(do
   let ov <- holding [v] (eval o X.env)
   let iv <- holding [v,ov] (eval i X.env)
   standAt pos
   holding [v,ov,iv] (setItem ov iv v)
   release [v,ov,iv] []):=by intro _;rfl):SG X (.Subscript o i pos) (gSubD to ti):=
 (QaR ho hi (Qcb.or (QeO hu)) ha).of fun v σ H Q pq67=>by obtain⟨ρ,l,st,d,lr,sr,rv,p⟩:=pq67;exact⟨ρ,l,st,lr,sr,p.bnd.imp fun y st1 ρ1 H1 x1 s1 p1 u ru=>⟨ρ1,l,st1,lr.mono x1,s1,p1.bnd.imp fun z st2 ρ2 H2 x2 s2 p2 w rw'=>by
  have ru2:=ru.mono x2
  have rd:Rep X.K ρ2 H2 v d:=(rv.mono x1).mono x2
  cases ru2 with
  | ref _ h=>
   cases rw' with
   | int k=>
    obtain⟨ds,e,p3⟩:=Post.getL (Post.bnd (Post.bnd p2)) s2
    obtain⟨a,vs,ha,hv,r⟩:=s2.seq e
    rw[h]at ha;cases ha
    cases e2:MM.ixN ds.length k with
    | none=>rw[e2]at p3;exact p3.elim
    | some j=>
     rw[e2]at p3
     have hl:=(List.getElem?_eq_some_iff.mp e).1
     obtain⟨s3,x3⟩:=s2.put hl h hv (r.set j rd)
     refine .inl ⟨_,vs,k,j,rfl,rfl,hv,by rw[r.length];exact e2,?_⟩
     have p4:Post X.K ρ2 H2 (putL _ (ds.set j d) st2) _:=p3
     unfold putL at p4
     rw[e]at p4
     exact (p4 ρ2 _ x3 s3).ret s3 σ (((lr.mono x1).mono x2).mono x3)
   | _=>exact (Post.bnd p2).elim
  | @dic a n _ h=>
   have p':Post X.K ρ2 H2 (storeK n z d st2) fun a st' ρ' H'=>Post X.K ρ' H' (MM.ret l st') fun l' _ ρ' H'=>∀ σ',LR X.K ρ' H' σ' l'->Q σ' H':=by cases rw'<;>exact Post.bnd p2
   obtain⟨b,kvs,e1,hk,hl,q⟩:=Post.storeK p' s2
   exact .inr ⟨ρ2,st2,n,a,b,kvs,z,d,rfl,s2,h,e1,rw',hk,hl,rd,fun H3 s3 x3=>(q ρ2 H3 x3 s3).ret s3 σ (((lr.mono x1).mono x2).mono x3)⟩
  | _=>exact (Post.bnd p2).elim⟩⟩
theorem QeQ {P : Program} {w : World} {K : PySem.W.Frag} {mg : Str -> Option Value} {base : Heap} {x qual : Str} {sd : Stmt} {f : Addr} {fd : FuncData} {N ps : List Str} {k : Nat} {body : CS} (F : Fun K x qual sd f fd) (S : FnScope N ps (defScope sd))
  (hbody:∀ (cdv:Value) (A:Around) (outer:List Env) (s:Shared) (H:Hp) (E:XK),Room k (A.deeper (envOfC qual (defScope sd) s.heap.objs.size f cdv))->SSs (cxOf CX0 P w K mg base N qual (defScope sd) f cdv A outer s H E).nox (defBody sd) body):
  FnOk P w K mg base CX0 (k + 1) f fd ps (spOf K ps.length (runDef N.length body)):=by
 refine F.ok S (fun vs H Q E h=>h.1) (fun cdv A outer s H vs Q E hr h=>⟨_,hbody cdv A outer s H E hr,?_⟩)
 obtain⟨hl,ρ,st,ds,sr,rvs,p⟩:=h
 refine⟨ρ,_,st,LR.start rvs,sr,?_⟩
 unfold runDef at p
 exact p.bnd.imp fun f st1 ρ1 H1 x1 s1 p1=>by
  cases f with
  | next l=>exact fun σ' _=>p1.ret s1 _ .non
  | ret d=>exact fun v rv=>p1.ret s1 v rv
  | brk l=>exact p1.elim
  | cnt l=>exact p1.elim
def ItR (K:PySem.W.Frag) (ρ0:List Addr) (H0:Hp) (w:Wk) (J:It):Prop:=∀ ρ H st,Ex ρ0 H0 ρ H->SR K ρ H st->w.same st->J.stop w.ds.length H/\∀ (i:Nat) (d:D),w.ds[i]?=some d->J.go i H/\∀ x H',J.yld i H x H'->Ex ρ H ρ H'/\SR K ρ H' st/\Rep K ρ H' x d
def tiOf (K:PySem.W.Frag) (f:CI):TI:=fun σ H R=>∃ ρ l st,LR K ρ H σ l/\SR K ρ H st/\Post K ρ H (f l st) fun w _ ρ' H'=>∀ J,ItR K ρ' H' w J->R J H'
abbrev SI (X:Cx) (tg e:Expr) (f:CI):Prop:=PI X tg e (tiOf X.K f)
theorem _root_.L2.PI.of {tg e:Expr}{t t':TI} (h:PI X tg e t) (f:∀ σ H R,t' σ H R->t σ H R):PI X tg e t':=fun pins s σ H R I q=>h pins s σ H R I (f σ H R q)
theorem QeR {ρ0:List Addr}{H0:Hp}{ds:List D}{p:Sto->Prop}{a:Addr} (h:∀ ρ H st,Ex ρ0 H0 ρ H->SR K ρ H st->p st->∃ vs,SqL K H a vs/\Reps K ρ H vs ds):ItR K ρ0 H0 ⟨ds,p⟩ (Itl K a):=fun ρ H st x s q=>by
 obtain⟨vs,hv,r⟩:=h ρ H st x s q
 refine⟨⟨vs,hv,by rw[r.length];exact Nat.le_refl _⟩,fun i d e=>?_⟩
 obtain⟨v,e1,rv⟩:=r.get e
 refine⟨⟨vs,v,hv,e1⟩,fun y H' pq68=>?_⟩
 obtain⟨e2,e3⟩:=pq68
 subst e2
 have:=e3 vs hv
 rw[e1]at this;cases this
 exact⟨Ex.refl,s,rv⟩
theorem QeS {ρ0:List Addr}{H0:Hp}{ds:List D}{p:Sto->Prop}{a:Addr} (h:∀ ρ H st,Ex ρ0 H0 ρ H->SR K ρ H st->p st->∃ vs,SqT K H a vs/\Reps K ρ H vs ds):ItR K ρ0 H0 ⟨ds,p⟩ (Itt K a):=fun ρ H st x s q=>by
 obtain⟨vs,hv,r⟩:=h ρ H st x s q
 refine⟨⟨vs,hv,by rw[r.length];exact Nat.le_refl _⟩,fun i d e=>?_⟩
 obtain⟨v,e1,rv⟩:=r.get e
 refine⟨⟨vs,v,hv,e1⟩,fun y H' pq69=>?_⟩
 obtain⟨e2,e3⟩:=pq69
 subst e2
 have:=e3 vs hv
 rw[e1]at this;cases this
 exact⟨Ex.refl,s,rv⟩
theorem QeT {ρ0:List Addr}{H0:Hp}{lo:Int}{n:Nat}:ItR K ρ0 H0 ⟨rngD lo n,anySt⟩ (Itr lo n):=fun ρ H st x s _=>by
 refine⟨by show n<=(rngD lo n).length;unfold rngD;simp,fun i d e=>?_⟩
 have hi:i < n:=by
  have:=(List.getElem?_eq_some_iff.mp e).1
  simpa [rngD] using this
 refine⟨hi,fun y H' pq70=>?_⟩
 obtain⟨e2,e3⟩:=pq70
 subst e2 e3
 have:d=.int (lo + (i:Nat)):=by
  unfold rngD at e
  rw[List.getElem?_map,List.getElem?_range hi]at e
  exact (Option.some.inj e).symm
 subst this
 exact⟨Ex.refl,s,.int _⟩
theorem QeU {l:Expr}{tl:TE} (hl:PE X l tl):PI X tg l (fun σ H R=>tl σ H fun x H1=>∃ a,x=.ref a/\((∃ xs,SqL X.K H1 a xs)/\R (Itl X.K a) H1\/(∃ xs,SqT X.K H1 a xs)/\R (Itt X.K a) H1)):=by
 intro pins s σ H R I h
 refine thn (hl pins s σ H _ I h) fun v s1 pq71=>?_
 obtain⟨x,H1,I1,r1,a,e,q⟩:=pq71
 subst e
 cases r1
 rcases q with ⟨⟨xs,hq⟩,q⟩ | ⟨⟨xs,hq⟩,q⟩
 ·obtain⟨its,rv,p,hz⟩:=I1.list hq
  refine wpAny_pyIter_list p.isList ?_
  refine⟨s1.heap.objs.size,[s1.heap.objs.size],_,_,H1,rfl,I1.kept (t':=s1.toks) fun b o e=>Heap.get?_push_of_some _ e,QaW a _,⟨_,Heap.get?_push_size _ rfl,rfl,rfl⟩,fun b hb=>?_,q⟩
  have e:b=s1.heap.objs.size:=by simpa using hb
  subst e
  exact I1.fpOk (Nat.le_refl _) (I1.hok.fresh (Nat.le_refl _))
 ·obtain⟨its,rv,p,hz⟩:=I1.tuple hq
  refine wpAny_pyIter_tuple (show s1.heap.IsTuple a its.toArray from p) ?_
  refine⟨s1.heap.objs.size,[s1.heap.objs.size],_,_,H1,rfl,I1.kept (t':=s1.toks) fun b o e=>Heap.get?_push_of_some _ e,QaX a _,⟨_,Heap.get?_push_size _ rfl,rfl,rfl⟩,fun b hb=>?_,q⟩
  have e:b=s1.heap.objs.size:=by simpa using hb
  subst e
  exact I1.fpOk (Nat.le_refl _) (I1.hok.fresh (Nat.le_refl _))
theorem QeV (h:SE X e fa):SI X tg e (iSeq fa):=(QeU h).of fun σ H R h_=>h_.el fun ρ l st lr sr p=>⟨ρ,l,st,lr,sr,p.bnd.imp fun d st1 ρ1 H1 x1 s1 p1 v rv=>by
 cases rv with
 | @tup a vs ds h r=>exact⟨a,rfl,.inr ⟨⟨vs,h⟩,p1.ret s1 _ (QeS fun ρ H st x s _=>⟨vs,SqT.mono x.up h,r.mono x⟩)⟩⟩
 | @lit a vs ds h r=>exact⟨a,rfl,.inl ⟨⟨vs,h.seq⟩,p1.ret s1 _ (QeR fun ρ H st x s _=>⟨vs,(FzL.mono x.up h).seq,r.mono x⟩)⟩⟩
 | @ref a n _ h=>
  obtain⟨ds,e,p2⟩:=Post.getL (Post.bnd p1) s1
  obtain⟨a',vs,ha,hv,r⟩:=s1.seq e
  rw[h]at ha;cases ha
  refine⟨a,rfl,.inl ⟨⟨vs,SqL.of hv⟩,p2.ret s1 _ (QeR fun ρ H st x s q=>?_)⟩⟩
  obtain⟨a2,ws,ha2,hw,rw'⟩:=s.seq q
  obtain⟨τ,eτ,_⟩:=x.pre
  rw[eτ,Qde h]at ha2;cases ha2
  exact⟨ws,SqL.of hw,rw'⟩
 | _=>exact p1.elim⟩
theorem QeW (h:SL X e ca):SI X tg e (iTmp ca):=(QaZ h).of fun σ H R h_=>h_.el fun ρ l st lr sr p=>⟨ρ,l,st,lr,sr,p.bnd.imp fun ds st1 ρ1 H1 x1 s1 p1 a vs ha na hv rvs=>
 ⟨a,rfl,⟨vs,SqL.of hv⟩,p1.ret s1 _ (QeR fun ρ H st x s _=>⟨vs,SqL.of (x.lst a vs na hv),rvs.mono x⟩)⟩⟩
theorem QeX {p:Pos} (hg:Gl X "range") (hm:X.mg "range"=none) (h:SE X a fa) (hs:starEach [a] X.env=[(false,eval a X.env)]:=by rfl):SI X tg (.Call (.Name "range" p) [a] [] pos) (MM.iRng1 fa):=
 (Qa1 (tg:=tg) (p:=p) (pos:=pos) hg hm (Qef h Qee hs) hs).of fun σ H R h_=>h_.el fun ρ l st lr sr p=>⟨ρ,l,st,lr,sr,by
  have q:=Post.bnd p
  unfold cCons
  show Post X.K ρ H (bnd (fa l) _ st) _
  unfold MM.bnd
  cases e:fa l st with
  | bad=>rw[e]at q;exact q
  | exc _ _=>rw[e]at q;exact q
  | ok d st1=>
   rw[e]at q
   show ∀ ρ' H',Ex ρ H ρ' H'->SR X.K ρ' H' st1->_
   intro ρ1 H1 x1 s1 vs rvs
   have p1:=q ρ1 H1 x1 s1
   cases rvs with
   | cons rv rt=>
    cases rt
    cases rv with
    | int j=>
     obtain⟨⟨h1,h2⟩,p2⟩:=Post.chk p1
     exact⟨j,rfl,h1,h2,p2.ret s1 _ QeT⟩
    | _=>exact p1.elim⟩
theorem Post.chkS {p:Sto->Prop}{R:Unit->Sto->List Addr->Hp->Prop} (h:Post K ρ H (MM.chkS p st) R) (s:SR K ρ H st):p st/\R () st ρ H:=by
 unfold MM.chkS at h
 by_cases hp:p st
 ·rw[if_pos hp]at h;exact⟨hp,h ρ H Ex.refl s⟩
 ·rw[if_neg hp]at h;exact h.elim
theorem QeY {iter : Expr} {body : List Stmt} {ci : CI} {g : CG} {cb : CS} (hp : PassesOwn (model X.prog X.w) X.A X.env X.xe) (hc : X.calm = true) (hi : SI X tg iter ci) (hg : SG X tg g) (hb : SSs X body cb)
  (hs:∀ x,foldedSetIterable iter X.env x=pure x:=by intro _;rfl):SS X (.For tg iter body [] pos) (sFor ci g cb):=(Qa5 hp hc hi hg hb hs).of fun G σ H h_=>h_.el fun ρ l st lr sr p=>
 ⟨ρ,l,st,lr,sr,p.bnd.imp fun w st1 ρ1 H1 x1 s1 p1 J hJ=>by
  refine⟨fun i m σ' H'=>m=w.ds.length - i/\i<=w.ds.length/\∃ ρ' l' st',Ex ρ1 H1 ρ' H'/\LR X.K ρ' H' σ' l'/\SR X.K ρ' H' st'/\Post X.K ρ' H' (forD g cb w.same (w.ds.drop i) l' st') fun f _ ρ' H'=>match f with
   | .next l'=>∀ σ',LR X.K ρ' H' σ' l'->G.nx σ' H'
   | .ret d=>∀ v,Rep X.K ρ' H' v d->G.rt v H'
   | .brk l'=>∀ σ',LR X.K ρ' H' σ' l'->G.bk σ' H'
   | .cnt l'=>∀ σ',LR X.K ρ' H' σ' l'->G.ct σ' H',⟨w.ds.length,by simp,Nat.zero_le _,ρ1,l,st1,Ex.refl,lr.mono x1,s1,p1⟩,?_⟩
  rintro i m σ2 H2 ⟨rfl,hi,ρ2,l2,st2,x2,lr2,s2,p2⟩
  by_cases hlt:i < w.ds.length
  ·have ed:w.ds.drop i=w.ds[i]::w.ds.drop (i + 1):=List.drop_eq_getElem_cons hlt
   rw[ed]at p2
   unfold forD at p2
   obtain⟨sm,p3⟩:=Post.chkS (Post.bnd p2) s2
   obtain⟨_,go⟩:=hJ ρ2 H2 st2 x2 s2 sm
   obtain⟨g1,g2⟩:=go i w.ds[i] (List.getElem?_eq_getElem hlt)
   refine .inr ⟨g1,fun σ3 H3=>∃ ρ3 l3 st3,Ex ρ1 H1 ρ3 H3/\LR X.K ρ3 H3 σ3 l3/\SR X.K ρ3 H3 st3/\Post X.K ρ3 H3 (forD g cb w.same (w.ds.drop (i + 1)) l3 st3) fun f _ ρ' H'=>match f with
    | .next l'=>∀ σ',LR X.K ρ' H' σ' l'->G.nx σ' H'
    | .ret d=>∀ v,Rep X.K ρ' H' v d->G.rt v H'
    | .brk l'=>∀ σ',LR X.K ρ' H' σ' l'->G.bk σ' H'
    | .cnt l'=>∀ σ',LR X.K ρ' H' σ' l'->G.ct σ' H',fun σ3 H3 q=>⟨_,by ac_nf,rfl,hlt,q⟩,fun y H3 hy=>?_⟩
   obtain⟨x3,s3,rv⟩:=g2 y H3 hy
   refine⟨ρ2,l2,st2,_,lr2.mono x3,s3,rv,(Post.left x3 (Post.bnd p3)).imp fun l4 st4 ρ4 H4 x4 s4 p4 σ4 lr4=>⟨ρ4,l4,st4,lr4,s4,(Post.bnd p4).imp fun f st5 ρ5 H5 x5 s5 p5=>?_⟩⟩
   have x5':Ex ρ1 H1 ρ5 H5:=(x2.trans x3).trans (x4.trans x5)
   cases f with
   | next l5=>exact fun σ5 lr5=>⟨ρ5,l5,st5,x5',lr5,s5,p5⟩
   | cnt l5=>exact fun σ5 lr5=>⟨ρ5,l5,st5,x5',lr5,s5,p5⟩
   | brk l5=>exact fun σ5 lr5=>p5.ret s5 σ5 lr5
   | ret d=>exact fun v rv=>p5.ret s5 v rv
  ·have e:i=w.ds.length:=by ac_nf
   subst e
   rw[List.drop_length]at p2
   unfold forD at p2
   obtain⟨sm,p3⟩:=Post.chkS (Post.bnd p2) s2
   obtain⟨g1,_⟩:=hJ ρ2 H2 st2 x2 s2 sm
   exact .inl ⟨g1,p3.ret s2 σ2 lr2⟩⟩
end
section
variable {X:Cx}{a b c e tg:Expr}{es:List Expr}{pos:Pos}{fa fb fc:CE}{ca cb:CA}{ta tb:CT}{K:PySem.W.Frag}{ρ:List Addr}{H:Hp}{st:Sto}{x:Str}{p:Pos}{id T:String}
theorem QeZ {n:Nat}{ix:List Nat}{σ:St}{l:Loc} (h:LR K ρ H σ l):LR K ρ H (capV n ix σ) (capt n ix l):=by
 unfold capV capt
 refine⟨by simp,fun i d e=>?_⟩
 have hi:n<=i:=Nat.le_of_not_lt fun z=>by
  rw[List.getElem?_append_left (by simpa using z),List.getElem?_replicate]at e
  split at e<;>cases e
 rw[List.getElem?_append_right (by simpa using hi),List.length_replicate,List.getElem?_map]at e
 cases q:ix[i - n]? with
 | none=>rw[q]at e;cases e
 | some k=>
  rw[q]at e
  have hj:(l[k]?).join=some d:=Option.some.inj e
  have hk:l[k]?=some (some d):=by
   cases z:l[k]? with
   | none=>rw[z]at hj;cases hj
   | some o=>rw[z]at hj;exact congrArg some hj
  obtain⟨v,hv,rv⟩:=h.2 k d hk
  refine⟨v,?_,rv⟩
  rw[List.getElem?_append_right (by simpa using hi),List.length_replicate,List.getElem?_map,q]
  show some ((σ[k]?).join)=some (some v)
  rw[hv];rfl
abbrev SIfs (X:Cx) (ifs:List Expr) (t:CT):Prop:=PIfs X ifs (ttOf X.K t)
theorem Qe0:SIfs X [] tTrue:=fun pins s σ H Q I h_=>h_.el fun ρ l st lr sr p=>Qd0 pins s σ H Q I (p.ret sr)
theorem Qe1 (h:ST X c ta):SIfs X [c] ta:=Qd1 h
theorem Ex.own {ρ':List Addr}{H':Hp}{q:Addr}{ws:List V} (x:Ex ρ H ρ' H') (h:H q=none):Ex ρ H ρ' (upd H' q (.lst ws)):=by
 have ne:∀ b o,H b=some o->b≠q:=fun b o e z=>by rw[z,h]at e;cases e
 exact⟨x.pre,fun b o no e=>by rw[Qaj (ne b o e)];exact x.fix b o no e,fun b xs nb e=>by rw[Qaj (ne b _ e)];exact x.oth b xs nb e,fun b o e=>by rw[Qaj (ne b o e)];exact x.knd b o e⟩
theorem Up.own {ρ':List Addr}{H':Hp}{q:Addr}{vs ws:List V} (h:H' q=some (.lst vs)):Up ρ' H' ρ' (upd H' q (.lst ws)):=
 ⟨⟨[],by simp⟩,fun b o no e=>by rw[Qaj fun z=>by subst z;rw[h]at e;cases e;exact nomatch no];exact e,
  fun b o e=>by
   by_cases z:b=q
   ·subst z;rw[h]at e;cases e;exact⟨_,Qai,rfl⟩
   ·exact⟨o,by rw[Qaj z];exact e,rfl⟩⟩
theorem LR.up {ρ':List Addr}{H':Hp}{σ:St}{l:Loc} (x:Up ρ H ρ' H') (h:LR K ρ H σ l):LR K ρ' H' σ l:=⟨h.1,fun i d e=>let ⟨v,e1,r⟩:=h.2 i d e;⟨v,e1,r.up x⟩⟩
theorem SR.own {q:Addr}{vs ws:List V} (s:SR K ρ H st) (h:H q=some (.lst vs)) (nq:q∉ρ):SR K ρ (upd H q (.lst ws)) st:=
 ⟨s.len,s.nd,fun n b o e1 e2=>ObR.mono (o:=o) (Up.own h) (s.ob n b o e1 e2) fun us e=>by rw[Qaj (fun (z:b=q)=>nq (by rw[<- z];exact List.mem_of_getElem? e1))];exact e⟩
theorem Qe2 {ci:CI}{g:CG}{n:Nat}{ix:List Nat}:∀ σ H Q,tlOf K (aComp n ix ci g ta fa) σ H Q->tComp (tiOf K ci) n ix (tgOf K g) (ttOf K ta) (tOf K fa) σ H Q:=fun σ H Q h_=>h_.el fun ρ l st lr sr p=>
 ⟨ρ,l,st,lr,sr,p.bnd0.imp fun w st1 ρ1 H1 x1 s1 p1 J hJ q hq=>by
  obtain⟨hz,p2⟩:=Post.chk p1
  have hn:H q=none:=by
   cases z:H q with
   | none=>rfl
   | some o=>exact absurd hq (x1.trk q o z)
  refine⟨fun i m σ' H'=>m=w.ds.length - i/\i<=w.ds.length/\∃ ρ' l' st' done vs,Ex ρ H ρ' H'/\Ex ρ1 H1 ρ' H'/\LR K ρ' H' σ' l'/\SR K ρ' H' st'/\q∉ρ'/\H' q=some (.lst vs)/\Reps K ρ' H' vs done/\done.length<=i /\
   Post K ρ H (collect g ta fa w.same (w.ds.drop i) l' st') (fun rest st2 ρ2 H2=>∀ a ws,H a=none->a∉ρ2->H2 a=some (.lst ws)->Reps K ρ2 H2 ws (done++rest)->Q (.ref a) H2),
   ⟨w.ds.length,by simp,Nat.zero_le _,ρ1,capt n ix l,st1,[],[],x1.trans (Ex.new hq),Ex.new hq,QeZ ((lr.mono x1).mono (Ex.new hq)),s1.new hq,s1.fresh hq,Qai,.nil,Nat.zero_le _,p2⟩,?_⟩
  rintro i m σ2 H2 ⟨rfl,hi,ρ2,l2,st2,done,vs,x2,y2,lr2,s2,nq,hv,rvs,hd,p3⟩
  by_cases hlt:i < w.ds.length
  ·have ed:w.ds.drop i=w.ds[i]::w.ds.drop (i + 1):=List.drop_eq_getElem_cons hlt
   rw[ed]at p3
   unfold collect at p3
   obtain⟨sm,p4⟩:=Post.chkS (p3.bnd0.left x2) s2
   obtain⟨_,go⟩:=hJ ρ2 H2 st2 y2 s2 sm
   obtain⟨g1,g2⟩:=go i w.ds[i] (List.getElem?_eq_getElem hlt)
   refine .inr ⟨g1,fun y H3 hy=>?_⟩
   obtain⟨x3,s3,rv⟩:=g2 y H3 hy
   refine⟨ρ2,l2,st2,_,lr2.mono x3,s3,rv,(p4.bnd0.left (x2.trans x3)).imp fun l4 st4 ρ4 H4 x4 s4 p5 σ4 lr4=>⟨ρ4,l4,st4,lr4,s4,(p5.bnd0.left (x2.trans (x3.trans x4))).imp fun b st5 ρ5 H5 x5 s5 p6=>?_⟩⟩
   have y5:Ex ρ2 H2 ρ5 H5:=x3.trans (x4.trans x5)
   have out:∀ {ρ':List Addr}{H':Hp},Ex ρ2 H2 ρ' H'->q∉ρ':=fun z hm=>by
    obtain⟨τ,e,f⟩:=z.pre
    rw[e]at hm
    rcases List.mem_append.mp hm with hm | hm
    ·exact nq hm
    ·rw[f q hm]at hv;cases hv
   cases b with
   | false=>exact⟨_,by ac_nf,rfl,hlt,ρ5,l4,st5,done,vs,x2.trans y5,y2.trans y5,lr4.mono x5,s5,out y5,y5.lst q vs nq hv,rvs.mono y5,Nat.le_succ_of_le hd,p6⟩
   | true=>
    refine⟨ρ5,l4,st5,lr4.mono x5,s5,(p6.bnd0.left (x2.trans y5)).imp fun d st6 ρ6 H6 x6 s6 p7 v rv6=>?_⟩
    have y6:Ex ρ2 H2 ρ6 H6:=y5.trans x6
    have hv6:=y6.lst q vs nq hv
    have u6:Up ρ6 H6 ρ6 (upd H6 q (.lst (vs++[v]))):=Up.own hv6
    refine⟨vs,hv6,?_,_,by ac_nf,rfl,hlt,ρ6,l4,st6,done++[d],vs++[v],(x2.trans y6).own hn,(y2.trans y6).own hq,LR.up u6 ((lr4.mono x5).mono x6),s6.own hv6 (out y6),out y6,Qai,
     Reps.app ((rvs.mono y6).up u6) (.cons (rv6.up u6) .nil),by simp;ac_nf,?_⟩
    ·have e1:=rvs.length
     have e2:w.ds.length<=sizeLine:=hz
     ac_nf
    ·refine p7.bnd0.imp fun rest st8 ρ8 H8 x8 s8 p8 a ws ha na hw rws=>?_
     exact p8 ρ8 H8 x8 s8 a ws ha na hw (by rw[List.append_cons];exact rws)
  ·have e:i=w.ds.length:=by ac_nf
   subst e
   rw[List.drop_length]at p3
   unfold collect at p3
   obtain⟨sm,p4⟩:=Post.chkS (p3.bnd0.left x2) s2
   obtain⟨g1,_⟩:=hJ ρ2 H2 st2 y2 s2 sm
   refine .inl ⟨g1,p4 ρ2 H2 x2 s2 q vs hn nq hv (by rw[List.append_nil];exact rvs)⟩⟩
theorem Qe3 {scope : Scope} {N : List Str} {ifs : List Expr} {n : Nat} {ix : List Nat} {ci : CI} {g : CG} (hc : X.calm = true) (S : CompScope X scope) (T : CompNames X scope N n ix) (hi : SI X tg b ci)
  (blk:∀ (fp:List Addr) (s:Shared) (H:Hp),SG (cxC X N scope fp s H) tg g/\SIfs (cxC X N scope fp s H) ifs ta/\SE (cxC X N scope fp s H) e fa)
  (hs:∀ x,foldedSetIterable b X.env x=pure x:=by intro _;rfl):SL X (.ListComp e [⟨tg,b,ifs,0⟩] scope pos) (aComp n ix ci g ta fa):=(Qd3 hc S T hi blk hs).of Qe2
theorem Qe4 {scope : Scope} {N : List Str} {ifs : List Expr} {n i : Nat} {ix : List Nat} {ci : CI} {g : CG} {y : Str} {pos' spos : Pos}
  (hN:X.N.Nodup) (hi':X.N[i]?=some y) (hy:L2.Loc X.env.scope y) (hf:X.fn y=true\/X.env.scope.names.lookup y=some .local)
  (hc:X.calm=true) (S:CompScope X scope) (T:CompNames X scope N n ix) (hi:SI X tg b ci)
  (blk:∀ (fp:List Addr) (s:Shared) (H:Hp),SG (cxC X N scope fp s H) tg g/\SIfs (cxC X N scope fp s H) ifs ta/\SE (cxC X N scope fp s H) e fa)
  (hsw:swapsWith (.ListComp e [⟨tg,b,ifs,0⟩] scope pos) (some (.Name y pos')) spos.line X.env=pure true)
  (hs:∀ x,foldedSetIterable b X.env x=pure x:=by intro _;rfl):SS X (.Assign [.Name y pos'] (.ListComp e [⟨tg,b,ifs,0⟩] scope pos) spos) (sAsg (gVar i) (cKeep (aComp n ix ci g ta fa))):=
 (Qd4 hN hi' hy hf hc S T hi blk hsw hs).of (QeK (fun σ H Q h_=>h_.el fun ρ l st lr sr p=>Qe2 _ _ _ ⟨ρ,l,st,lr,sr,p.bnd0.imp fun ds st1 ρ1 H1 x1 s1 p1 a vs ha na hv rvs=>by
  have x:Ex ρ H (ρ1++[a]) H1:=by
   obtain⟨τ,e,f⟩:=x1.pre
   refine⟨⟨τ++[a],by rw[e,List.append_assoc],fun b hb=>?_⟩,x1.fix,x1.oth,x1.knd⟩
   rcases List.mem_append.mp hb with hb | hb
   ·exact f b hb
   ·rw[List.mem_singleton]at hb;rw[hb];exact ha
  refine p1 (ρ1++[a]) H1 x (s1.keep hv na rvs) _ (.ref ⟨_,hv,rfl⟩ ?_)
  rw[<- s1.len];simp⟩) QeL)
theorem Qe5 {g : D -> M D} (hc : CallR X (.builtin id) (fun xs H Q => ∃ v, xs = [v] /\ uOf X.K g v H Q)) (hg : Gl X x) (hm : X.mg x = none) (hv : bootBuiltins x = some (.builtin id)) (ha : SE X e fa) (hn : x ≠ "__name__" := by decide) (hdb : (x == ("__debug__" : Str)) = false := by decide)
  (he:starEach [e] X.env=[(false,eval e X.env)]:=by rfl):SE X (.Call (.Name x p) [e] [] pos) (c1 g fa):=
 (QbN hc hg hm hv (QbB ha QbA he) hn hdb he rfl).of fun σ H Q h_=>h_.el fun ρ l st lr sr p=>⟨ρ,l,st,lr,sr,p.bnd.imp fun d st1 ρ1 H1 x1 s1 p1 v rv=>⟨v,rfl,ρ1,st1,d,s1,rv,p1⟩⟩
theorem Qe6 {g : D -> M D} (hc : CallR X (.type T) (fun xs H Q => ∃ v, xs = [v] /\ uOf X.K g v H Q)) (hg : Gl X x) (hm : X.mg x = none) (hv : bootBuiltins x = some (.type T)) (ha : SE X e fa) (hn : x ≠ "__name__" := by decide) (hdb : (x == ("__debug__" : Str)) = false := by decide)
  (he:starEach [e] X.env=[(false,eval e X.env)]:=by rfl):SE X (.Call (.Name x p) [e] [] pos) (c1 g fa):=
 (QbO hc hg hm hv (QbB ha QbA he) hn hdb he rfl).of fun σ H Q h_=>h_.el fun ρ l st lr sr p=>⟨ρ,l,st,lr,sr,p.bnd.imp fun d st1 ρ1 H1 x1 s1 p1 v rv=>⟨v,rfl,ρ1,st1,d,s1,rv,p1⟩⟩
def lOf (K:PySem.W.Frag) (g:List D->M D):List V->Hp->VK->Prop:=fun xs H Q=>∃ a vs ρ st ds,xs=[.ref a]/\SqL K H a vs/\SR K ρ H st/\Reps K ρ H vs ds/\Post K ρ H (g ds st) fun r _ ρ' H'=>∀ v,Rep K ρ' H' v r->Q v H'
theorem Qe7 {g : List D -> M D} (hc : CallR X (.builtin id) (lOf X.K g)) (hg : Gl X x) (hm : X.mg x = none) (hv : bootBuiltins x = some (.builtin id)) (ha : SL X e ca) (hn : x ≠ "__name__" := by decide) (hdb : (x == ("__debug__" : Str)) = false := by decide)
  (he:starEach [e] X.env=[(false,eval e X.env)]:=by rfl):SE X (.Call (.Name x p) [e] [] pos) (cTmp g ca):=
 (QbN hc hg hm hv (QbB ha QbA he) hn hdb he rfl).of fun σ H Q h_=>h_.el fun ρ l st lr sr p=>⟨ρ,l,st,lr,sr,p.bnd.imp fun ds st1 ρ1 H1 x1 s1 p1 a vs ha na hv rvs=>⟨a,vs,ρ1,st1,ds,rfl,SqL.of hv,s1,rvs,p1⟩⟩
theorem Qe8 {g : List D -> M D} (hc : CallR X (.type T) (lOf X.K g)) (hg : Gl X x) (hm : X.mg x = none) (hv : bootBuiltins x = some (.type T)) (ha : SL X e ca) (hn : x ≠ "__name__" := by decide) (hdb : (x == ("__debug__" : Str)) = false := by decide)
  (he:starEach [e] X.env=[(false,eval e X.env)]:=by rfl):SE X (.Call (.Name x p) [e] [] pos) (cTmp g ca):=
 (QbO hc hg hm hv (QbB ha QbA he) hn hdb he rfl).of fun σ H Q h_=>h_.el fun ρ l st lr sr p=>⟨ρ,l,st,lr,sr,p.bnd.imp fun ds st1 ρ1 H1 x1 s1 p1 a vs ha na hv rvs=>⟨a,vs,ρ1,st1,ds,rfl,SqL.of hv,s1,rvs,p1⟩⟩
theorem Qe9 {prog : Program} {w : World} {A : Around} {E : Value -> Shared -> Prop} {s : Shared} {K : Type} [DecidableEq K] {knd : HeapKind prog w K} {d : Addr} {xs : List (K × Addr × Value)} {Q : Value -> Shared -> Prop} (hd : (d == sysModules) = false) (hm : s.heap.DictOfH knd d xs) (hfit : (xs.length : Int) < 2 ^ 63)
  (h:Q (.int xs.length (s.toks + 1)) { s with toks:=s.toks + 1 + 1 }):wpAny (model prog w) A (call (.builtin "len") [.ref d]) Q E s:=by
 refine Calls.call_function_entry kind_len plain_len entry_len (args_len1 _) ?_
 unfold Builtin.«len»
 have meet:MeetsIn prog w (Builtin.«dict.__len__» ⟨[.ref d],[]⟩) (fun _ R s=>∃ xs,s.heap.DictOfH knd d xs/\R (.ok (.ret (.int xs.length s.toks))) { s with toks:=s.toks + 1 }):=.of_wp fun A R s pq72=>by
  obtain⟨xs,hm,h⟩:=pq72
  obtain⟨o,es,ep,ho,hc,hdat,he,_,hn⟩:=hm
  show wpAny _ _ (dictSize d >>= _) _ _ s
  unfold dictSize
  refine wpAny_bind (wpAny_bind (wpAny_dictEntries ho hdat (wpAny_pure ?_)))
  show wpAny _ _ (Builtin.Dict.pendingCount d >>= _) _ _ s
  refine wpAny_bind (wpAny_pendingCount_other hd ?_)
  refine wpAny_ret_mkInt ?_
  rw[Nat.add_zero,size_of_entries he];exact h
 refine wpAny_bind (m:=oneArg "len" _) (wpAny_pure ?_)
 refine wpAny_bind (m:=callSpecial? (.ref d) (Str.ofString "__len__")) (wpAny_callSpecial?_slot (name:=Str.ofString "__len__") hm.typeIs F.slot_dict_len
  (call_meetsIn F.slot_dict_len hm.typeIs F.entry_dict_len (F.args_dict_len_1 _) meet ⟨xs,hm,?_⟩))
 show wpAny _ _ _ _ _ { s with toks:=s.toks + 1 }
 refine wpAny_bind (wpAny_holding (wpAny_pure ?_))
 refine wpAny_bind (wpAny_letGo ?_)
 show wpAny _ _ (if ((xs.length:Nat):Int) < 0 then _ else _) _ _ _
 rw[if_neg (by ac_nf)]
 show wpAny _ _ (if ((xs.length:Nat):Int) ≥ 2 ^ 63 then _ else _) _ _ _
 rw[if_neg (by ac_nf)]
 exact wpAny_bind (wpAny_mkInt (wpAny_pure ⟨_,rfl,h⟩))
theorem Qfa:CallR X (.builtin "len") (fun xs H Q=>∃ (ρ:List Addr) (st:Sto) (n:Nat) (a:Addr) (b:Bool) (kvs:List (D × D)),xs=[.ref a]/\SR X.K ρ H st/\ρ[n]?=some a/\st[n]?=some (.dct b kvs)/\Q (.int kvs.length) H):=by
 intro pins s σ H xs us Q I r pq138;obtain⟨ρ,st,n,a,b,kvs,e,sr,ha,hn,q⟩:=pq138
 subst e
 obtain⟨u,rfl,ru⟩:=Qbu r
 cases ru
 have g:=sr.ob n a _ ha hn
 cases b with
 | false=>
  obtain⟨es,e,r⟩:=g
  rw[<- KR.length r]at q
  exact Qc0 I (.inl e) fun t s' I'=>⟨.int es.length,H,I',⟨t,rfl⟩,q⟩
 | true=>
  obtain⟨es,e,r⟩:=g
  obtain⟨z,hd,xs,rx,dd,_⟩:=QdE I e r
  rw[<- NR.length r,Paired.length rx]at q
  have hz:xs.length<=sizeLine:=by rw[<- Paired.length rx];exact z
  exact Qe9 hd dd (by rw[sizeLine_eq]at hz;ac_nf) ⟨.int xs.length,H,I.tok _,⟨_,rfl⟩,q⟩
theorem Qfb:CallR X (.builtin "len") (fun xs H Q=>∃ v,xs=[v]/\uOf X.K lenD v H Q):=((Qcl.or Qcm).or Qfa).of fun xs H Q pq73=>by
 obtain⟨v,e,ρ,st,d,sr,rv,p⟩:=pq73
 cases rv with
 | @tup a vs ds h r=>exact .inl (.inl ⟨a,vs,e,.inr h,by rw[r.length];exact p.ret sr _ (.int _)⟩)
 | @lit a vs ds h r=>exact .inl (.inl ⟨a,vs,e,.inl h.seq,by rw[r.length];exact p.ret sr _ (.int _)⟩)
 | @ref a n _ h=>
  obtain⟨ds,e2,p1⟩:=Post.getL (Post.bnd p) sr
  obtain⟨a',vs,ha,hv,r⟩:=sr.seq e2
  rw[h]at ha;cases ha
  exact .inl (.inl ⟨a,vs,e,.inl (SqL.of hv),by rw[r.length];exact p1.ret sr _ (.int _)⟩)
 | str z=>exact .inl (.inr ⟨z,e,(Post.chk p).1,(Post.chk p).2.ret sr _ (.int _)⟩)
 | @dic a n _ h=>
  obtain⟨b,kvs,e2,p1⟩:=Post.getDc (Post.bnd p) sr
  exact .inr ⟨ρ,st,n,a,b,kvs,e,sr,h,e2,p1.ret sr _ (.int _)⟩
 | _=>exact p.elim
theorem Qfc:CallR X (.type "int") (fun xs H Q=>∃ v,xs=[v]/\uOf X.K intD v H Q):=Qbx.of fun xs H Q pq74=>by
 obtain⟨v,e,ρ,st,d,sr,rv,p⟩:=pq74
 cases rv with
 | int i=>exact .inl ⟨i,e,p.ret sr _ (.int _)⟩
 | bl k=>exact .inr ⟨k,e,p.ret sr _ (.int _)⟩
 | _=>exact p.elim
theorem Qfd:CallR X (.type "tuple") (fun xs H Q=>∃ v,xs=[v]/\uOf X.K tupleD v H Q):=Qco.of fun xs H Q pq75=>by
 obtain⟨v,e,ρ,st,d,sr,rv,p⟩:=pq75
 cases rv with
 | @tup a vs ds h r=>exact⟨a,vs,e,.inr ⟨h,p.ret sr _ (.tup h r)⟩⟩
 | @lit a vs ds h r=>exact⟨a,vs,e,.inl ⟨h.seq,fun l hl=>p ρ _ (Ex.new hl) (sr.new hl) _ (.tup (SqT.of Qai) (r.mono (Ex.new hl)))⟩⟩
 | @ref a n _ h=>
  obtain⟨ds,e2,p1⟩:=Post.getL (Post.bnd p) sr
  obtain⟨a',vs,ha,hv,r⟩:=sr.seq e2
  rw[h]at ha;cases ha
  exact⟨a,vs,e,.inl ⟨SqL.of hv,fun l hl=>p1 ρ _ (Ex.new hl) (sr.new hl) _ (.tup (SqT.of Qai) (r.mono (Ex.new hl)))⟩⟩
 | _=>exact p.elim
theorem Qfe:CallR X (.type "tuple") (lOf X.K tupL):=Qco.of fun xs H Q pq76=>
 by obtain⟨a,vs,ρ,st,ds,e,hv,sr,r,p⟩:=pq76;exact⟨a,vs,e,.inl ⟨hv,fun l hl=>p ρ _ (Ex.new hl) (sr.new hl) _ (.tup (SqT.of Qai) (r.mono (Ex.new hl)))⟩⟩
end
section
variable {X:Cx}{a b c e tg:Expr}{es:List Expr}{pos:Pos}{fa fb fc:CE}{ca cb:CA}{ta tb:CT}{K:PySem.W.Frag}{ρ:List Addr}{H:Hp}{st:Sto}{x:Str}{p:Pos}{T:String}
theorem Qff {ds:List D}{ns:List Int}{vs:List V} (h:numsL ds=some ns) (g:Reps K ρ H vs ds):vs=ns.map V.int:=by
 induction ds generalizing ns vs with
 | nil=>cases g;cases h;rfl
 | cons d ds ih=>
  cases g with
  | cons r t=>
   cases r with
   | int i=>
    unfold numsL at h
    cases q:numsL ds with
    | none=>rw[q]at h;cases h
    | some ms=>
     rw[q]at h
     have h':i::ms=_:=Option.some.inj h
     subst h'
     rw[ih q t];rfl
   | _=>cases h
theorem Qfg:∀ (ns:List Int) (n:Int),ns.foldl max n∈n::ns/\∀ a∈n::ns,a<=ns.foldl max n
 | [],n=>⟨by simp,by simp⟩
 | m::ns,n=>by
  obtain⟨h1,h2⟩:=Qfg ns (max n m)
  rw[List.foldl_cons]
  refine⟨?_,fun a ha=>?_⟩
  ·rcases List.mem_cons.mp h1 with e | e
   ·rw[e]
    by_cases hm:n<=m
    ·rw[Int.max_eq_right hm];simp
    ·rw[Int.max_eq_left (by ac_nf)];simp
   ·exact List.mem_cons_of_mem _ (List.mem_cons_of_mem _ e)
  ·have hx:=h2 (max n m) List.mem_cons_self
   rcases List.mem_cons.mp ha with e | e
   ·subst e;exact Int.le_trans (Int.le_max_left ..) hx
   ·rcases List.mem_cons.mp e with e | e
    ·subst e;exact Int.le_trans (Int.le_max_right ..) hx
    ·exact h2 a (List.mem_cons_of_mem _ e)
theorem Qfh {vs:List Value}{ns:List Int} (hi:IntsAre vs ns):∃ xs,vs.toArray=intItems xs/\ns=xs.toList.map (·.1):=by
 obtain⟨xs,e⟩:=hi.allInts.items
 exact⟨xs,e,by rw[<- hi.numsOf,<- nums_intItems,<- e]⟩
theorem Qfi (hc:X.calm=true):CallR X (.builtin "max") (fun xs H Q=>∃ (l:Addr) (n:Int) (ns:List Int),xs=[.ref l]/\SqL X.K H l ((n::ns).map V.int)/\Q (.int (ns.foldl max n)) H):=by
 intro pins s σ H xs us Q I r h
 obtain⟨l,n,ns,rfl,hq,q⟩:=h
 obtain⟨u,rfl,rx⟩:=Qbu r
 cases rx
 obtain⟨its,rv,pl,hz⟩:=I.list hq
 obtain⟨ys,e,en⟩:=Qfh (QbW rv)
 have hl:=pl.isList
 rw[e]at hl
 have hsz:ys.size=ns.length + 1:=by have:=congrArg List.length en;simpa using this.symm
 refine max_intList (I.ok.hd hc) hl (by ac_nf) fun v h' tk hv hk=>?_
 obtain⟨t,rfl⟩:=intItems_at hv
 obtain⟨b1,b2⟩:=argBest_gt (numAt ys) (ys.size - 1)
 obtain⟨f1,f2⟩:=Qfg ns n
 generalize argBest (fun i j=>decide (numAt ys i > numAt ys j)) (ys.size - 1)=k at b1 b2 ⊢
 have hin:numAt ys k∈n::ns:=by
  rw[en,numAt_eq]
  exact getD_mem (by rw[<- en];simp;ac_nf)
 have hge:ns.foldl max n<=numAt ys k:=by
  rw[en]at f1
  obtain⟨j,hj,ej⟩:=mem_getD f1
  rw[<- ej,<- numAt_eq]
  exact b2 j (by rw[<- en]at hj;simp at hj;ac_nf)
 have hM:numAt ys k=ns.foldl max n:=Int.le_antisymm (f2 _ hin) hge
 rw[hM]
 exact⟨.int _,H,I.kept (t':=tk) hk,⟨t,rfl⟩,q⟩
theorem Qfj (hc:X.calm=true):CallR X (.builtin "max") (lOf X.K maxD):=(Qfi hc).of fun xs H Q pq77=>by
 obtain⟨a,vs,ρ,st,ds,e,hv,sr,r,p⟩:=pq77
 unfold maxD at p
 cases q:numsL ds with
 | none=>rw[q]at p;exact p.elim
 | some ns=>
  rw[q]at p
  have:=Qff q r
  subst this
  cases ns with
  | nil=>exact p.elim
  | cons n ns=>exact⟨a,n,ns,e,hv,p.ret sr _ (.int _)⟩
end
section
variable {X:Cx}{K:PySem.W.Frag}{ρ:List Addr}{H:Hp}{st:Sto}{pins:List (Addr × Obj)}{σ:St}{s:Shared}
theorem Qfk {f:D->D->Option Bool}:∀ {xs ys:List D}{r:Bool},allF f xs ys=some r->∀ (j:Nat) (x y:D),xs[j]?=some x->ys[j]?=some y->∃ k,f x y=some k
 | [],_,_,_,j,x,y,h,_=>by cases j<;>cases h
 | _::_,[],_,_,j,x,y,_,h=>by cases j<;>cases h
 | a::xs,b::ys,r,h,j,x,y,hx,hy=>by
  unfold allF at h
  cases e:f a b with
  | none=>rw[e]at h;cases h
  | some k=>
   cases j with
   | zero=>cases hx;cases hy;exact⟨k,e⟩
   | succ j=>
    rw[e]at h
    have hx':xs[j]?=some x:=hx
    have hy':ys[j]?=some y:=hy
    cases k with
    | true=>exact Qfk h j x y hx' hy'
    | false=>
     cases e2:allF f xs ys with
     | none=>rw[e2]at h;cases h
     | some r'=>exact Qfk e2 j x y hx' hy'
def itE (f:D->D->Option Bool) (xs ys:List D) (j:Nat):Bool:=match xs[j]?,ys[j]? with
 | some x,some y=>(f x y).getD false
 | _,_=>true
theorem Qfl {f:D->D->Option Bool}:∀ {xs ys:List D}{r:Bool},allF f xs ys=some r->r=((List.range (min xs.length ys.length)).all (itE f xs ys) && xs.length == ys.length)
 | [],[],_,h=>by cases h;rfl
 | _::_,[],_,h=>by cases h;simp
 | [],_::_,_,h=>by cases h;simp
 | a::xs,b::ys,r,h=>by
  have step:(List.range (min (a::xs).length (b::ys).length)).all (itE f (a::xs) (b::ys))=((f a b).getD false && (List.range (min xs.length ys.length)).all (itE f xs ys)):=by
   have e:min (a::xs).length (b::ys).length=min xs.length ys.length + 1:=by simp only[List.length_cons];ac_nf
   rw[e,List.range_succ_eq_map,List.all_cons,List.all_map]
   rfl
  rw[step]
  unfold allF at h
  cases e:f a b with
  | none=>rw[e]at h;cases h
  | some k=>
   rw[e]at h
   cases k with
   | true=>
    have:=Qfl h
    simp only[Option.getD_some,Bool.true_and,List.length_cons]
    rw[this]
    congr 1
    rw[Bool.eq_iff_iff];simp
   | false=>
    simp only[Option.getD_some,Bool.false_and]
    cases e2:allF f xs ys with
    | none=>rw[e2]at h;cases h
    | some r'=>rw[e2]at h;cases h;rfl
theorem Vals.at {vs:List V}{us:List Value}{j:Nat}{u:Value} (r:Vals vs us) (h:us[j]?=some u):∃ v,vs[j]?=some v/\RelV v u:=by
 have hl:=r.length
 have hj:j < vs.length:=by rw[hl];exact (List.getElem?_eq_some_iff.mp h).1
 obtain⟨u',e,ru⟩:=r.get (List.getElem?_eq_getElem hj)
 rw[h]at e;cases e
 exact⟨_,List.getElem?_eq_getElem hj,ru⟩
theorem Reps.at {vs:List V}{ds:List D}{j:Nat}{v:V} (r:Reps K ρ H vs ds) (h:vs[j]?=some v):∃ d,ds[j]?=some d/\Rep K ρ H v d:=by
 have hl:=r.length
 have hj:j < ds.length:=by rw[<- hl];exact (List.getElem?_eq_some_iff.mp h).1
 obtain⟨v',e,rv⟩:=r.get (List.getElem?_eq_getElem hj)
 rw[h]at e;cases e
 exact⟨_,List.getElem?_eq_getElem hj,rv⟩
theorem Qfm {g:List D->List D->Option Bool}{v:V}{d e:D}{r:Bool} (I:Inv X pins σ H s) (hg:∀ xs ys vs k,Reps X.K ρ H vs xs->Reps X.K ρ H vs ys->g xs ys=some k->k=true) (h:eqS g d e=some r) (r1:Rep X.K ρ H v d) (r2:Rep X.K ρ H v e):r=true:=by
 cases r1 with
 | non=>cases r2;cases h;rfl
 | bl b=>cases r2;cases h;simp
 | int b=>cases r2;cases h;simp
 | str b=>cases r2;cases h;simp
 | tup h1 q1=>
  cases r2 with
  | tup h2 q2=>
   have:=I.tuple_inj h1 h2
   subst this
   exact hg _ _ _ _ q1 q2 h
  | _=>cases h
 | lit _ _=>cases r2<;>cases h
 | ref _ _=>cases r2<;>cases h
 | dic _ _=>cases r2<;>cases h
 | exn0 _ _=>cases r2<;>cases h
 | exn _ _ _ _=>cases r2<;>cases h
theorem Qfn {f:D->D->Option Bool} (hf:∀ v d e k,Rep K ρ H v d->Rep K ρ H v e->f d e=some k->k=true) {xs ys:List D}{vs:List V}{k:Bool} (h1:Reps K ρ H vs xs) (h2:Reps K ρ H vs ys) (h:allF f xs ys=some k):k=true:=by
 induction xs generalizing ys vs k with
 | nil=>cases h1;cases h2;cases h;rfl
 | cons x xs ih=>
  cases h1 with
  | cons a b=>cases h2 with
   | cons c d=>
    unfold allF at h
    cases e:f _ _ with
    | none=>rw[e]at h;cases h
    | some k=>
     rw[e]at h
     have:=hf _ _ _ _ a c e
     subst this
     exact ih b d h
theorem Qfo (I:Inv X pins σ H s):∀ (n:Nat) {v:V}{d e:D}{r:Bool},eqF n d e=some r->Rep X.K ρ H v d->Rep X.K ρ H v e->r=true
 | 0,_,_,_,_,h,r1,r2=>Qfm I (fun _ _ _ _ _ _ z=>by cases z) h r1 r2
 | n + 1,_,_,_,_,h,r1,r2=>Qfm I (fun xs ys vs k q1 q2 z=>Qfn (fun v d e k a b c=>Qfo I n c a b) q1 q2 z) h r1 r2
open SeqAt in
theorem Qfp {g : List D -> List D -> Option Bool} {A : Around} {v w : V} {u1 u2 : Value} {d e : D} {r : Bool} (I : Inv X pins σ H s) (hu : A.units < cLine)
  (hg:∀ xs ys k,g xs ys=some k->∀ vs ws its its2,Reps X.K ρ H vs xs->Reps X.K ρ H ws ys->Vals vs its->Vals ws its2 ->
   ∃ e:Nat->Bool,k=((List.range (min its.length its2.length)).all e && its.length == its2.length)/\∀ (j:Nat) x y,its[j]?=some x->its2[j]?=some y->EqAt A.in1 s x y (e j))
  (hs:∀ xs ys vs k,Reps X.K ρ H vs xs->Reps X.K ρ H vs ys->g xs ys=some k->k=true)
  (h:eqS g d e=some r) (r1:Rep X.K ρ H v d) (r2:Rep X.K ρ H w e) (v1:RelV v u1) (v2:RelV w u2):RcAt A s u1 u2 r/\RcNeAt A s u1 u2 (!r)/\EqAt A s u1 u2 r:=by
 cases r1 with
 | lit _ _=>cases r2<;>cases h
 | ref _ _=>cases r2<;>cases h
 | dic _ _=>cases r2<;>cases h
 | exn0 _ _=>cases r2<;>cases h
 | exn _ _ _ _=>cases r2<;>cases h
 | non=>
  cases (show u1=Value.none from v1)
  cases r2 with
  | non=>cases (show u2=Value.none from v2);cases h;exact⟨.none_none,.none_none,.same _⟩
  | bl b=>cases (show u2=Value.bool b from v2);cases h;exact⟨.none_bool b,.none_bool b,.none_bool b⟩
  | int b=>obtain⟨t,rfl⟩:=(show ∃ t,u2=Value.int b t from v2);cases h;exact⟨.none_int b t,.none_int b t,.none_int b t⟩
  | str b=>obtain⟨t,rfl⟩:=(show ∃ t,u2=Value.str b t from v2);cases h;exact⟨.none_str b t,.none_str b t,.none_str b t⟩
  | tup h2 q2=>cases (show u2=Value.ref _ from v2);cases h;obtain⟨_,_,p,_⟩:=I.tuple h2;exact⟨.none_tuple p hu,.none_tuple p hu,.none_tuple p hu⟩
  | _=>cases h
 | bl a=>
  cases (show u1=Value.bool a from v1)
  cases r2 with
  | non=>cases (show u2=Value.none from v2);cases h;exact⟨.bool_none a,.bool_none a,.bool_none a⟩
  | bl b=>cases (show u2=Value.bool b from v2);cases h;exact⟨.bool_bool a b,.bool_bool a b,.bool_bool a b⟩
  | int b=>obtain⟨t,rfl⟩:=(show ∃ t,u2=Value.int b t from v2);cases h;exact⟨.bool_int a b t,.bool_int a b t,.bool_int a b t⟩
  | str b=>obtain⟨t,rfl⟩:=(show ∃ t,u2=Value.str b t from v2);cases h;exact⟨.bool_str a b t,.bool_str a b t,.bool_str a b t⟩
  | tup h2 q2=>cases (show u2=Value.ref _ from v2);cases h;obtain⟨_,_,p,_⟩:=I.tuple h2;exact⟨.bool_tuple a p hu,.bool_tuple a p hu,.bool_tuple a p hu⟩
  | _=>cases h
 | int a=>
  obtain⟨t1,rfl⟩:=(show ∃ t,u1=Value.int a t from v1)
  cases r2 with
  | non=>cases (show u2=Value.none from v2);cases h;exact⟨.int_none a t1,.int_none a t1,.int_none a t1⟩
  | bl b=>cases (show u2=Value.bool b from v2);cases h;exact⟨.int_bool a t1 b,.int_bool a t1 b,.int_bool a t1 b⟩
  | int b=>obtain⟨t,rfl⟩:=(show ∃ t,u2=Value.int b t from v2);cases h;exact⟨.int_int a t1 b t,.int_int a t1 b t,.int_int a t1 b t⟩
  | str b=>obtain⟨t,rfl⟩:=(show ∃ t,u2=Value.str b t from v2);cases h;exact⟨.int_str a t1 b t,.int_str a t1 b t,.int_str a t1 b t⟩
  | tup h2 q2=>cases (show u2=Value.ref _ from v2);cases h;obtain⟨_,_,p,_⟩:=I.tuple h2;exact⟨.int_tuple a t1 p hu,.int_tuple a t1 p hu,.int_tuple a t1 p hu⟩
  | _=>cases h
 | str a=>
  obtain⟨t1,rfl⟩:=(show ∃ t,u1=Value.str a t from v1)
  cases r2 with
  | non=>cases (show u2=Value.none from v2);cases h;exact⟨.str_none a t1,.str_none a t1,.str_none a t1⟩
  | bl b=>cases (show u2=Value.bool b from v2);cases h;exact⟨.str_bool a t1 b,.str_bool a t1 b,.str_bool a t1 b⟩
  | int b=>obtain⟨t,rfl⟩:=(show ∃ t,u2=Value.int b t from v2);cases h;exact⟨.str_int a t1 b t,.str_int a t1 b t,.str_int a t1 b t⟩
  | str b=>obtain⟨t,rfl⟩:=(show ∃ t,u2=Value.str b t from v2);cases h;exact⟨.str_str a t1 b t,.str_str a t1 b t,.str_str a t1 b t⟩
  | tup h2 q2=>cases (show u2=Value.ref _ from v2);cases h;obtain⟨_,_,p,_⟩:=I.tuple h2;exact⟨.str_tuple a t1 p hu,.str_tuple a t1 p hu,.str_tuple a t1 p hu⟩
  | _=>cases h
 | @tup l1 vs xs h1 q1=>
  cases (show u1=Value.ref _ from v1)
  obtain⟨its,rv,p,_⟩:=I.tuple h1
  cases r2 with
  | non=>cases (show u2=Value.none from v2);cases h;exact⟨.tuple_none p hu,.tuple_none p hu,.tuple_none p hu⟩
  | bl b=>cases (show u2=Value.bool b from v2);cases h;exact⟨.tuple_bool b p hu,.tuple_bool b p hu,.tuple_bool b p hu⟩
  | int b=>obtain⟨t,rfl⟩:=(show ∃ t,u2=Value.int b t from v2);cases h;exact⟨.tuple_int b t p hu,.tuple_int b t p hu,.tuple_int b t p hu⟩
  | str b=>obtain⟨t,rfl⟩:=(show ∃ t,u2=Value.str b t from v2);cases h;exact⟨.tuple_str b t p hu,.tuple_str b t p hu,.tuple_str b t p hu⟩
  | @tup l2 ws ys h2 q2=>
   cases (show u2=Value.ref _ from v2)
   obtain⟨its2,rw',p2,_⟩:=I.tuple h2
   obtain⟨ef,ek,he⟩:=hg xs ys r h vs ws its its2 q1 q2 rv rw'
   have hit:∀ j (a1:j < its.toArray.size) (a2:j < its2.toArray.size),EqAt A.in1 s its.toArray[j] its2.toArray[j] (ef j):=fun j a1 a2=>
    he j _ _ (by rw[List.getElem_toArray];exact List.getElem?_eq_getElem (by simpa using a1)) (by rw[List.getElem_toArray];exact List.getElem?_eq_getElem (by simpa using a2))
   have k1:=RcAt.tuples (A:=A) (s:=s) p p2 hu hit
   have k2:=RcNeAt.tuples (A:=A) (s:=s) p p2 hu hit
   simp only[List.size_toArray]at k1 k2
   rw[<- ek]at k1 k2
   refine⟨k1,k2,?_⟩
   by_cases hl:l1=l2
   ·subst hl
    have:=I.tuple_inj h1 h2
    subst this
    rw[hs xs ys vs r q1 q2 h]
    exact .same _
   ·exact .of_refs hl k1
  | _=>cases h
open SeqAt in
theorem Qfq {n : Nat} {A : Around} (I : Inv X pins σ H s)
  (ih:∀ {v w:V}{u1 u2:Value}{d e:D}{r:Bool},eqF n d e=some r->Rep X.K ρ H v d->Rep X.K ρ H w e->RelV v u1->RelV w u2->EqAt A s u1 u2 r)
  {xs ys:List D}{k:Bool} (h:allF (eqF n) xs ys=some k) {vs ws:List V}{its its2:List Value} (q1:Reps X.K ρ H vs xs) (q2:Reps X.K ρ H ws ys) (rv:Vals vs its) (rw':Vals ws its2):
  ∃ e:Nat->Bool,k=((List.range (min its.length its2.length)).all e && its.length == its2.length)/\∀ (j:Nat) x y,its[j]?=some x->its2[j]?=some y->EqAt A s x y (e j):=by
 refine⟨itE (eqF n) xs ys,?_,fun j x y hx hy=>?_⟩
 ·have l1:=rv.length
  have l2:=rw'.length
  have l3:=q1.length
  have l4:=q2.length
  rw[<- l1,<- l2,l3,l4]
  exact Qfl h
 ·obtain⟨v,hv,ru⟩:=Vals.at rv hx
  obtain⟨w,hw,rw2⟩:=Vals.at rw' hy
  obtain⟨d,hd,rd⟩:=Reps.at q1 hv
  obtain⟨e,he,re⟩:=Reps.at q2 hw
  obtain⟨r,hr⟩:=Qfk h j d e hd he
  have:itE (eqF n) xs ys j=r:=by unfold itE;rw[hd,he];dsimp only;rw[hr];rfl
  rw[this]
  exact ih hr rd re ru rw2
open SeqAt in
theorem Qfr (I:Inv X pins σ H s):∀ (n:Nat) {A:Around}{v w:V}{u1 u2:Value}{d e:D}{r:Bool},A.units + n < cLine->eqF n d e=some r->Rep X.K ρ H v d->Rep X.K ρ H w e->RelV v u1->RelV w u2->RcAt A s u1 u2 r/\RcNeAt A s u1 u2 (!r)/\EqAt A s u1 u2 r
 | 0,_,_,_,_,_,_,_,_,hu,h,r1,r2,v1,v2=>Qfp I hu (fun _ _ _ z=>by cases z) (fun _ _ _ _ _ _ z=>by cases z) h r1 r2 v1 v2
 | n + 1, A, _, _, _, _, _, _, _, hu, h, r1, r2, v1, v2 => Qfp I (by ac_nf)
   (fun xs ys k z vs ws its its2 q1 q2 rv rw'=>Qfq I (fun h r1 r2 v1 v2=>(Qfr I n (A:=A.in1) (by show A.units + 1 + n < cLine;ac_nf) h r1 r2 v1 v2).2.2) z q1 q2 rv rw')
   (fun xs ys vs k q1 q2 z=>Qfn (fun v d e k a b c=>Qfo I n c a b) q1 q2 z) h r1 r2 v1 v2
end
section
variable {X:Cx}{K:PySem.W.Frag}{ρ:List Addr}{H:Hp}{st:Sto}{pins:List (Addr × Obj)}{σ:St}{s:Shared}
open SeqAt in
theorem Qfs (hu : X.A.units + 60 < cLine) (I : Inv X pins σ H s) (sr : SR X.K ρ H st) {d e : D} {x y : V} {v u : Value} {R : Bool -> Sto -> List Addr -> Hp -> Prop} (r1 : Rep X.K ρ H x d) (r2 : Rep X.K ρ H y e) (rx : RelV x v) (ry : RelV y u)
  (p:Post X.K ρ H (eqB d e st) R):∃ r,R r st ρ H/\RcAt X.A s v u r/\RcNeAt X.A s v u (!r):=by
 have hu':X.A.units < cLine:=by ac_nf
 have gen:Post X.K ρ H ((match eqF 50 d e with | some r=>ret r | none=>bad:M Bool) st) R->∃ r,R r st ρ H/\RcAt X.A s v u r/\RcNeAt X.A s v u (!r):=fun q=>by
  cases h:eqF 50 d e with
  | none=>rw[h]at q;exact q.elim
  | some r=>
   rw[h]at q
   obtain⟨k1,k2,_⟩:=Qfr I 50 (A:=X.A) (by ac_nf) h r1 r2 rx ry
   exact⟨r,q.ret sr,k1,k2⟩
 cases r1 with
 | non=>
  cases r2 with
  | @ref a n _ h=>
   obtain⟨ds,e2,p1⟩:=Post.getL (Post.bnd p) sr
   obtain⟨a',vs,ha,hv,r⟩:=sr.seq e2
   rw[h]at ha;cases ha
   cases (show v=Value.none from rx)
   cases (show u=Value.ref a from ry)
   obtain⟨_,_,pl,_⟩:=I.list (SqL.of hv)
   exact⟨false,p1.ret sr,.none_list pl.isList hu',.none_list pl.isList hu'⟩
  | _=>exact gen p
 | @ref a n _ h=>
  cases r2 with
  | non=>
   obtain⟨ds,e2,p1⟩:=Post.getL (Post.bnd p) sr
   obtain⟨a',vs,ha,hv,r⟩:=sr.seq e2
   rw[h]at ha;cases ha
   cases (show u=Value.none from ry)
   cases (show v=Value.ref a from rx)
   obtain⟨_,_,pl,_⟩:=I.list (SqL.of hv)
   exact⟨false,p1.ret sr,.list_none pl.isList hu',.list_none pl.isList hu'⟩
  | @ref b m _ h'=>
   obtain⟨xs,e2,p1⟩:=Post.getL (Post.bnd p) sr
   obtain⟨ys,e3,p2⟩:=Post.getL (Post.bnd p1) sr
   obtain⟨a',vs,ha,hv,q1⟩:=sr.seq e2
   obtain⟨b',ws,hb,hw,q2⟩:=sr.seq e3
   rw[h]at ha;cases ha
   rw[h']at hb;cases hb
   cases (show v=Value.ref a from rx)
   cases (show u=Value.ref b from ry)
   obtain⟨its,rv,pl,_⟩:=I.list (SqL.of hv)
   obtain⟨its2,rw',pl2,_⟩:=I.list (SqL.of hw)
   have l1:=rv.length
   have l2:=rw'.length
   have l3:=q1.length
   have l4:=q2.length
   by_cases hl:xs.length=ys.length
   ·rw[if_pos hl]at p2
    cases h2:allF (eqF 50) xs ys with
    | none=>rw[h2]at p2;exact p2.elim
    | some r=>
     rw[h2]at p2
     obtain⟨ef,ek,he⟩:=Qfq (A:=X.A.in1) I (fun h r1 r2 v1 v2=>(Qfr I 50 (A:=X.A.in1) (by show X.A.units + 1 + 50 < cLine;ac_nf) h r1 r2 v1 v2).2.2) h2 q1 q2 rv rw'
     have hsz:its.toArray.size=its2.toArray.size:=by rw[List.size_toArray,List.size_toArray];ac_nf
     have hit:∀ j (a1:j < its.toArray.size) (a2:j < its2.toArray.size),EqAt X.A.in1 s its.toArray[j] its2.toArray[j] (ef j):=fun j a1 a2=>
      he j _ _ (by rw[List.getElem_toArray];exact List.getElem?_eq_getElem (by simpa using a1)) (by rw[List.getElem_toArray];exact List.getElem?_eq_getElem (by simpa using a2))
     have ek2:(List.range its.toArray.size).all ef=r:=by
      rw[ek,List.size_toArray]
      have:its.length=its2.length:=by ac_nf
      rw[this];simp
     have k1:=RcAt.lists (A:=X.A) (s:=s) pl.isList pl2.isList hsz hu' hit
     have k2:=RcNeAt.lists (A:=X.A) (s:=s) pl.isList pl2.isList hsz hu' hit
     rw[ek2]at k1 k2
     exact⟨r,p2.ret sr,k1,k2⟩
   ·rw[if_neg hl]at p2
    have hne:(its.toArray.size != its2.toArray.size)=true:=by
     rw[List.size_toArray,List.size_toArray]
     simp
     ac_nf
    exact⟨false,p2.ret sr,.lists_lengths pl.isList pl2.isList hne hu',.lists_lengths pl.isList pl2.isList hne hu'⟩
  | _=>exact gen p
 | _=>cases r2<;>exact gen p
theorem Qft (hu:X.A.units + 60 < cLine):OpR X (compareOp .Eq) (rOf X.K eqD):=by
 intro pins s σ H x y v u Q I rx ry pq139;obtain⟨ρ,st,d,e,sr,r1,r2,p⟩:=pq139
 obtain⟨r,q,k1,_⟩:=Qfs hu I sr r1 r2 rx ry p.bnd
 exact k1 _ _ _ _ ⟨.bl r,H,I,rfl,q.ret sr _ (.bl _)⟩
theorem Qfu (hu:X.A.units + 60 < cLine):OpR X (compareOp .NotEq) (rOf X.K neD):=by
 intro pins s σ H x y v u Q I rx ry pq140;obtain⟨ρ,st,d,e,sr,r1,r2,p⟩:=pq140
 obtain⟨r,q,_,k2⟩:=Qfs hu I sr r1 r2 rx ry p.bnd
 exact k2 _ _ _ _ ⟨.bl (!r),H,I,rfl,q.ret sr _ (.bl _)⟩
end
section
variable {X:Cx}{a b c e o tg:Expr}{es:List Expr}{pos apos cpos:Pos}{fa fb fc:CE}{ca cb:CA}{ta tb:CT}{K:PySem.W.Frag}{ρ:List Addr}{H:Hp}{st:Sto}{x:Str}{p:Pos}{T:String}
theorem Qfv (ho : SE X o fa) (ha : SE X e fb) (hbase : attributeBase o "append" X.env (eval o X.env) = eval o X.env := by rfl)
  (hfew:((backTo cpos (starEach [e] X.env)).all (fun x => !x.1) && (backToKw cpos (keywordEach [] X.env)).all (fun x=>x.1.isSome)
   && decide ([e].length + ([]:List Keyword).length + (if ([]:List Keyword).isEmpty then 0 else 1) < 30))=true:=by rfl)
  (hline:(apos.endLine == cpos.line)=true:=by rfl) (hs:starEach [e] X.env=(false,eval e X.env)::starEach [] X.env:=by rfl) (hplain:(backTo cpos (starEach [] X.env)).any (·.1)=false:=by rfl):
  SE X (.Call (.Attribute o "append" apos) [e] [] cpos) (cAppend fa fb):=
 (Qcr PySem.F.plainAttrs_list PySem.F.slot_list_append PySem.F.type_list_append Qcv ho (QbB ha QbA hs) hbase hfew hline hs hplain).of fun σ H Q h_=>h_.el fun ρ l st lr sr p=>⟨ρ,l,st,lr,sr,p.bnd.imp fun d st1 ρ1 H1 x1 s1 p1 v rv=>by
  cases rv with
  | @ref a n kk h=>
   have hl:n < st1.length:=by rw[<- s1.len];exact (List.getElem?_eq_some_iff.mp h).1
   obtain⟨vs0,hv0⟩:=Qdg kk
   refine⟨.inl ⟨rfl,vs0,SqL.of hv0⟩,ρ1,l,st1,lr.mono x1,s1,(Post.bnd p1).imp fun y st2 ρ2 H2 x2 s2 p2 w rw'=>?_⟩
   have h2:ρ2[n]?=some a:=by
    obtain⟨τ,e,_⟩:=x2.pre
    rw[e];exact Qde h
   obtain⟨ds,e2,p3⟩:=Post.getL (Post.bnd p2) s2
   obtain⟨a',vs,ha,hv,r⟩:=s2.seq e2
   rw[h2]at ha;cases ha
   obtain⟨hz,p4⟩:=Post.chk p3
   obtain⟨s3,x3⟩:=s2.put (List.getElem?_eq_some_iff.mp e2).1 h2 hv (Reps.app r (.cons rw' .nil))
   have p5:=Post.bnd p4
   unfold putL at p5
   rw[e2]at p5
   exact⟨a,vs,w,rfl,rfl,hv,by rw[r.length];exact hz,(p5 ρ2 _ x3 s3).ret s3 _ .non⟩
  | _=>exact p1.elim⟩
theorem Qfw:OpR X (binaryOp .Add) (rOf X.K addD):=by
 intro pins s σ H x y v u Q I rx ry pq141;obtain⟨ρ,st,d,e,sr,r1,r2,p⟩:=pq141
 cases r1 with
 | int i=>
  cases r2 with
  | int j=>exact Qa8 pins s σ H _ _ v u Q I rx ry ⟨i,j,rfl,rfl,p.ret sr _ (.int _)⟩
  | _=>exact p.elim
 | str i=>
  cases r2 with
  | str j=>exact Qbt pins s σ H _ _ v u Q I rx ry ⟨i,j,rfl,rfl,(Post.chk p).1,(Post.chk p).2.ret sr _ (.str _)⟩
  | _=>exact p.elim
 | ref _ h=>
  cases r2 with
  | ref _ h'=>
   obtain⟨xs,e2,p1⟩:=Post.getL (Post.bnd p) sr
   obtain⟨ys,e3,p2⟩:=Post.getL (Post.bnd p1) sr
   obtain⟨a',vs,ha,hv,q1⟩:=sr.seq e2
   obtain⟨b',ws,hb,hw,q2⟩:=sr.seq e3
   rw[h]at ha;cases ha
   rw[h']at hb;cases hb
   obtain⟨hz,p3⟩:=Post.chk p2
   refine Qcx pins s σ H _ _ v u Q I rx ry ⟨_,_,vs,ws,rfl,rfl,hv,hw,by rw[q1.length,q2.length];exact hz,fun q hq=>?_⟩
   have nq:=sr.fresh hq
   have x1:Ex ρ H (ρ++[q]) (upd H q (.lst (vs++ws))):=Ex.newL hq
   refine p3 _ _ x1 ((sr.new hq).keep Qai nq ((Reps.app q1 q2).mono (Ex.new hq))) _ (.ref ⟨_,Qai,rfl⟩ ?_)
   rw[<- sr.len];simp
  | _=>exact p.elim
 | tup h1 q1=>
  cases r2 with
  | tup h2 q2=>
   obtain⟨hz,p2⟩:=Post.chk p
   rename_i a1 vs xs b1 ws ys
   by_cases hx:vs=[]
   ·subst hx
    cases q1
    obtain⟨its,v1,ht,_⟩:=I.tuple h1
    obtain⟨its2,v2,hb,_⟩:=I.tuple h2
    cases v1
    have ev:v=Value.ref a1:=rx
    have eu:u=Value.ref b1:=ry
    subst ev eu
    obtain⟨⟨cls,dd,data,sl⟩,ho,hc,n,hd⟩:=ht
    obtain⟨⟨cls2,dd2,data2,sl2⟩,ho2,hc2,n2,hd2⟩:=hb
    simp only at hc hd hc2 hd2
    subst hc hd hc2 hd2
    refine concat_meets (E:=X.xe) ⟨_,ho,rfl⟩ ⟨_,ho2,rfl⟩ noFill_tuple_add seq_tuple_add PySem.F.slot_tuple_add PySem.F.entry_tuple_add (PySem.F.args_tuple_add_2 _ _) (tuple_addW0 a1 b1 _ _ n n2 dd dd2 sl sl2 (by simp)) ⟨ho,ho2,?_⟩
    exact⟨.ref b1,H,I,rfl,p2.ret sr _ (.tup h2 q2)⟩
   ·refine Qb2 pins s σ H _ _ v u Q I rx ry ⟨_,_,vs,ws,rfl,rfl,h1,h2,hx,by rw[q1.length,q2.length];exact hz,fun he=>?_,fun _ q hq=>?_⟩
    ·subst he
     cases q2
     rw[List.append_nil]at p2
     exact p2.ret sr _ (.tup h1 q1)
    ·exact p2 _ _ (Ex.new hq) (sr.new hq) _ (.tup (SqT.of Qai) ((Reps.app q1 q2).mono (Ex.new hq)))
  | _=>exact p.elim
 | _=>cases r2<;>exact p.elim
def toOf (K:PySem.W.Frag) (f:CO):TO:=fun σ H Q=>∃ ρ l st,LR K ρ H σ l/\SR K ρ H st/\Post K ρ H (f l st) fun o _ _ H'=>Q o H'
abbrev SO (X:Cx) (e:Option Expr) (f:CO):Prop:=PO X e (toOf X.K f)
theorem Qfx:SO X none oNone:=fun pins s σ H Q I h_=>h_.el fun ρ l st lr sr p=>QbX pins s σ H Q I (p.ret sr)
theorem Qfy (h:SE X e fa):SO X (some e) (oSome fa):=fun pins s σ H Q I h_=>h_.el fun ρ l st lr sr p=>QbY h pins s σ H Q I ⟨ρ,l,st,lr,sr,p.bnd.imp fun d st1 ρ1 H1 x1 s1 p1 v rv=>by
 cases rv with
 | int i=>exact⟨i,rfl,p1.ret s1⟩
 | _=>exact p1.elim⟩
theorem Reps.cut {vs:List V}{ds:List D} (r:Reps K ρ H vs ds) (lo hi:Option Int):Reps K ρ H (cutV vs lo hi) (cutD ds lo hi):=by
 unfold cutV cutD
 have e:∀ n d o,HT.sIx n d o=MM.sIx n d o:=fun n d o=>by cases o<;>rfl
 rw[e,e,r.length]
 exact (r.drop _).take _
theorem Qfz {lo hi:Option Expr}{fl fh:CO}{p2:Pos} (h:SE X e fa) (hl:SO X lo fl) (hh:SO X hi fh):SL X (.Subscript e (.Slice lo hi none p2) pos) (aSlice fa fl fh):=
 (QbZ Qce h hl hh).of fun σ H Q h_=>h_.el fun ρ l st lr sr p=>⟨ρ,l,st,lr,sr,p.bnd0.imp fun d st1 ρ1 H1 x1 s1 p1 v rv=>⟨ρ1,l,st1,lr.mono x1,s1,(p1.bnd0.left x1).imp fun i st2 ρ2 H2 x2 s2 p2=>⟨ρ2,l,st2,(lr.mono x1).mono x2,s2,(p2.bnd0.left (x1.trans x2)).imp fun j st3 ρ3 H3 x3 s3 p3=>by
  have rv3:=(rv.mono x2).mono x3
  have x03:=x1.trans (x2.trans x3)
  have fin:∀ {a:Addr}{vs:List V}{ds:List D},SqL X.K H3 a vs->Reps X.K ρ3 H3 vs ds->Post X.K ρ H (ret (cutD ds i j) st3) (fun ds _ ρ' H'=>∀ a vs,H a=none->a∉ρ'->H' a=some (.lst vs)->Reps X.K ρ' H' vs ds->Q (.ref a) H')->rSlL X.K (.ref a) i j H3 Q:=fun {a vs ds} hs r q=>
   ⟨a,vs,rfl,hs,fun q1 hq1=>by
    have hn:H q1=none:=by
     cases z:H q1 with
     | none=>rfl
     | some o=>exact absurd hq1 (x03.trk q1 o z)
    exact q ρ3 _ (x03.trans (Ex.new hq1)) (s3.new hq1) q1 _ hn (s3.fresh hq1) Qai ((Reps.cut r i j).mono (Ex.new hq1))⟩
  cases rv3 with
  | lit h r=>exact fin h.seq r p3
  | ref _ h=>
   obtain⟨ds,e2,p4⟩:=Post.getL (p3.bnd0.left x03) s3
   obtain⟨a',vs,ha,hv,r⟩:=s3.seq e2
   rw[h]at ha;cases ha
   exact fin (SqL.of hv) r p4
  | _=>exact p3.elim⟩⟩⟩
end
open PySem.AutoSeq1 (wpAny_loadPart')
theorem QfA (l : Addr) (items : Array Value) (n : Nat) (dct : Option Addr) (sl : Array (Option Value)) :
  Meets (Builtin.«enumerate.__new__» ⟨[.type "enumerate",.ref l],[]⟩) (fun _ R s=>s.heap.get? l=some { cls:=.type "tuple",dict:=dct,data:=.seq items n,slots:=sl } /\
   R (.ok (.ret (.ref (s.heap.push { cls:=.type "tuple_iterator",data:=.fields #[.ref l,.int 0 0] }).objs.size)))
    { s with heap:=(s.heap.push { cls:=.type "tuple_iterator",data:=.fields #[.ref l,.int 0 0] }).push { cls:=.type "enumerate",data:=.fields #[.none,.bool false,.ref s.heap.objs.size,rawInt 0,.none,.none] } }):=
 .of_wp fun prog w A R s h=>by
  obtain⟨hp,g,d,tk,os⟩:=s;obtain⟨hl,h⟩:=h;have hsub:=sub_enumerate
  have hT:Heap.IsTuple (Shared.heap ⟨hp,g,d,tk,os⟩) l items:=⟨_,hl,rfl,n,rfl⟩
  wp_walk using wpAny_loadPart' hl;refine wpAny_stack_any fun st=>wpAny_pure ?_;split
  ·rename_i c _ _ _ _ _;cases (c == Value.type "enumerate")<;>(wp_walk using wpAny_loadPart' hl,wpAny_pyIter_tuple hT;exact⟨_,rfl,h⟩)
  ·wp_walk using wpAny_loadPart' hl,wpAny_pyIter_tuple hT;exact⟨_,rfl,h⟩
section
variable {prog:Program}{w:World}{A:Around}{E:Value->Shared->Prop}{s:Shared}
theorem QfB {l : Addr} {items : Array Value} {Q : Value -> Shared -> Prop} (hL : s.heap.IsTuple l items)
  (h:∀ h',IsEnum h' (s.heap.objs.size + 1) s.heap.objs.size 0 .none->h'.IsTupleIter s.heap.objs.size l 0->h'.objs.size=s.heap.objs.size + 2->(∀ b o,s.heap.get? b=some o->h'.get? b=some o)->Q (.ref (s.heap.objs.size + 1)) { s with heap:=h' }):
  wpAny (model prog w) A (call (.type "enumerate") [.ref l]) Q E s:=by
 obtain⟨⟨c,dct,dt,sl⟩,hl,hc,n,hd⟩:=hL
 replace hc:c=.type "tuple":=hc
 replace hd:dt=.seq items n:=hd
 subst hc hd
 refine callType_new F.called_enumerate (by decide) (F.typeCall_enumerate_1 _) (F.newCall_enumerate_1 _) (fun obj=>F.args_object_init_2 obj _) F.entry_enumerate_new (QfA l items n dct sl) ⟨hl,?_⟩
 have hz:(s.heap.push { cls:=.type "tuple_iterator",data:=.fields #[.ref l,.int 0 0] }).objs.size=s.heap.objs.size + 1:=Heap.size_push ..
 show _/\_;rw[hz]
 have he:IsEnum ((s.heap.push { cls:=.type "tuple_iterator",data:=.fields #[.ref l,.int 0 0] }).push { cls:=.type "enumerate",data:=.fields #[.none,.bool false,.ref s.heap.objs.size,rawInt 0,.none,.none] }) (s.heap.objs.size + 1) s.heap.objs.size 0 .none:=by
  have q:=Heap.get?_push_size (s.heap.push { cls:=.type "tuple_iterator",data:=.fields #[.ref l,.int 0 0] }) (o:={ cls:=.type "enumerate",data:=.fields #[.none,.bool false,.ref s.heap.objs.size,rawInt 0,.none,.none] }) rfl
  rw[hz]at q;exact q
 exact⟨⟨_,he,rfl⟩,h _ he ⟨_,Heap.get?_push_of_some _ (Heap.get?_push_size _ rfl),rfl,rfl⟩ (by rw[Heap.size_push,hz]) fun b o x=>Heap.get?_push_of_some _ (Heap.get?_push_of_some _ x)⟩
theorem QfC {it l : Addr} {i : Nat} {items} {x : Value} {Q : Value -> Shared -> Prop} (hit : s.heap.IsTupleIter it l i) (hl : s.heap.IsTuple l items) (hx : items[i]? = some x)
  (hQ:∀ h',h'.IsTupleIter it l (i + 1)->Heap.SameBut it s.heap h'->Q x { s with heap:=h' }):wpAny (model prog w) A (Builtin.SmallTypes.nextOf (.ref it)) Q E s:=by
 obtain⟨o,ho,hc,hd⟩:=id hit;obtain⟨ol,hol,_,nl,hdl⟩:=hl
 unfold Builtin.SmallTypes.nextOf
 refine wpAny_bind (wpAny_callSpecial?_slot (name:=Str.ofString "__next__") hit.typeIs F.slot_tuple_iterator_next (wpAny_call_entry F.slot_tuple_iterator_next hit.typeIs F.entry_tuple_iterator_next ?_ (F.args_tuple_iterator_next_1 _)))
 show wpAny _ _ (field (.ref it) 0 >>= _) _ _ s;refine wpAny_bind (wpAny_field ho hd (x:=.ref l) rfl ?_)
 show wpAny _ _ (if (Value.ref l == Value.none)=true then _ else _) _ _ s;rw[if_neg (show ¬ ((Value.ref l == Value.none)=true) from Bool.false_ne_true)]
 show wpAny _ _ (field (.ref it) 1 >>= _) _ _ s;refine wpAny_bind (wpAny_field ho hd (x:=.int i 0) rfl ?_)
 show wpAny _ _ (seqItems? (.ref l) >>= _) _ _ s;refine wpAny_bind (wpAny_seqItems hol hdl ?_);simp only[Int.toNat_natCast,hx]
 refine wpAny_bind (wpAny_setField ho hd (by simp) (wpAny_pure ⟨x,rfl,wpAny_pure (hQ _ ⟨_,Heap.get?_update_self _ ho (Obj.isFreed_of_fields (Obj.data_mapFields hd _)),(Obj.cls_mapFields ..).trans hc,?_⟩ (Heap.SameBut.update ..))⟩))
 rw[Obj.data_mapFields hd];simp[rawInt]
theorem QfD {it l : Addr} {i : Nat} {items} {Q : Value -> Shared -> Prop} (hh : A.handled = none) (hit : s.heap.IsTupleIter it l i) (hl : s.heap.IsTuple l items) (hx : items[i]? = none)
  (hE:∀ h' e,Heap.ExtBut it s.heap h'->(∃ o,h'.get? e=some o/\o.cls=.type "StopIteration")->E (.ref e) { s with heap:=h' }):wpAny (model prog w) A (Builtin.SmallTypes.nextOf (.ref it)) Q E s:=by
 obtain⟨o,ho,hc,hd⟩:=id hit;obtain⟨ol,hol,_,nl,hdl⟩:=hl
 unfold Builtin.SmallTypes.nextOf
 refine wpAny_bind (wpAny_callSpecial?_slot (name:=Str.ofString "__next__") hit.typeIs F.slot_tuple_iterator_next (wpAny_call_entry F.slot_tuple_iterator_next hit.typeIs F.entry_tuple_iterator_next ?_ (F.args_tuple_iterator_next_1 _)))
 show wpAny _ _ (field (.ref it) 0 >>= _) _ _ s;refine wpAny_bind (wpAny_field ho hd (x:=.ref l) rfl ?_)
 show wpAny _ _ (if (Value.ref l == Value.none)=true then _ else _) _ _ s;rw[if_neg (show ¬ ((Value.ref l == Value.none)=true) from Bool.false_ne_true)]
 show wpAny _ _ (field (.ref it) 1 >>= _) _ _ s;refine wpAny_bind (wpAny_field ho hd (x:=.int i 0) rfl ?_)
 show wpAny _ _ (seqItems? (.ref l) >>= _) _ _ s;refine wpAny_bind (wpAny_seqItems hol hdl ?_);simp only[Int.toNat_natCast,hx]
 refine wpAny_bind (wpAny_rule (wpAny_bind (wpAny_setField ho hd (by simp) ?_)));show wpAny _ _ (newExc (.type "StopIteration") [] >>= _) _ _ _
 refine wpAny_bind ?_;simp only[newExc,newTuple];refine wpAny_bind (wpAny_newObj_type ?_ (by size_fits))
 refine wpAny_bind (m:=firstArgMember _ _) (wpAny_of_eq (a:=Value.none) (by first | rfl | (simp only[firstArgMember];rfl)) (wpAny_newObj_type ?_ (by size_fits)))
 simp only[raiseNew];refine wpAny_bind (wpAny_handled ?_);first | rw[show A.in1.handled=none from hh] | rw[hh]
 exact wpAny_bind (wpAny_pure (wpAny_throw (hE _ _ (((Heap.SameBut.update ..).extBut.push _).push _) ⟨_,Heap.get?_push_size _ rfl,rfl⟩)))
end
theorem QfE {prog : Program} {w : World} {A : Around} (hh : A.handled = none) (it l : Addr) (hne : l ≠ it) (items : Array Value) :
  Draws prog w A it [it,l] items.size (fun i v=>items[i]?=some v) (fun i h=>h.IsTupleIter it l i/\h.IsTuple l items) where
 live:=fun _ _ st=>let ⟨o,ho,_⟩:=st.1;⟨o,ho⟩
 frame:=fun _ _ _ st hk=>⟨let ⟨o,e,r⟩:=st.1;⟨o,hk it (by simp) o e,r⟩,let ⟨o,e,r⟩:=st.2;⟨o,hk l (by simp) o e,r⟩⟩
 item:=fun i s Q E hi st hQ=>QfC st.1 st.2 (x:=items[i]) (by simp[hi]) fun h' hit' hs'=>hQ _ h' s.toks (by simp[hi]) ⟨hit',st.2.extBut hs'.extBut hne⟩ hs'
 done:=fun s Q E st hE=>QfD hh st.1 st.2 (by simp) hE
def Ite (K:PySem.W.Frag) (a:Addr):It:=
 ⟨fun i H=>∃ xs x,SqT K H a xs/\xs[i]?=some x,fun i H x H'=>∃ T v,x=.ref T/\H T=none/\(∀ xs,SqT K H a xs->xs[i]?=some v)/\H'=upd H T (.tup [.int i,v]),fun i H=>∃ xs,SqT K H a xs/\xs.length<=i⟩
section
variable {X:Cx}{tg:Expr}{es:List Expr}{pos:Pos}{fa:CE}{K:PySem.W.Frag}{ρ:List Addr}{H:Hp}{st:Sto}
theorem QfF {P:Program}{w:World}{k:Nat} (a e it:Addr) (hei:e≠it):Turn P w K (.Tuple es k pos) (Ite K a) [e,it] e (fun i h=>(∃ old,IsEnum h e it i old)/\h.IsTupleIter it a i) where
 mem:=by simp
 obj:=fun i h pq78 b hb=>by
  obtain⟨⟨old,he⟩,hit⟩:=pq78
  rcases List.mem_cons.mp hb with z | z
  ·subst z;exact⟨_,he,fun v q=>by cases q⟩
  ·have z':b=it:=by simpa using z
   subst z'
   obtain⟨o,e,c,d⟩:=hit
   exact⟨o,e,fun v q=>by rw[d]at q;cases q⟩
 keep:=fun i h h' pq79 kp=>by obtain⟨⟨old,he⟩,hit⟩:=pq79;exact⟨⟨old,kp e (by simp) _ he⟩,let ⟨o,x,r⟩:=hit;⟨o,kp it (by simp) o x,r⟩⟩
 item:=by
  intro X hP hw hK hc i pins s σ H E I hf pq142 hg;obtain⟨⟨old,he⟩,hit⟩:=pq142
  subst hP hw hK
  obtain⟨xs,x,hq,hx⟩:=hg
  obtain⟨its,rv,p,hz⟩:=I.tuple hq
  obtain⟨u,hu,ru⟩:=rv.get hx
  have hlt:i < its.toArray.size:=by rw[List.size_toArray];exact (List.getElem?_eq_some_iff.mp hu).1
  obtain⟨f0,f1,f2,f3,f4,f5⟩:=hf e (by simp)
  obtain⟨g0,g1,g2,g3,g4,g5⟩:=hf it (by simp)
  have hai:a≠it:=fun z=>by
   obtain⟨o,e1,c,_⟩:=hit
   obtain⟨o',e2,c',_⟩:=p
   rw[z,e1]at e2;cases e2;rw[c]at c';exact absurd (Value.type.inj c') (by decide)
  have hae:a≠e:=fun z=>by
   obtain⟨o',e2,c',_⟩:=p
   rw[z,he]at e2;cases e2;exact absurd (Value.type.inj c') (by decide)
  have D:=QfE (prog:=X.prog) (w:=X.w) (A:=X.A.in1) (I.ok.hd hc) it a hai its.toArray
  refine wpAny_pyNext_enum_itemD D he ⟨hit,p⟩ hlt hei (by simp;exact⟨hei,hae.symm⟩) fun y h' tk hP ho hst hT hsz hk=>?_
  have ey:y=u:=by
   have:its.toArray[i]?=some u:=by simpa using hu
   rw[this]at hP;cases hP;rfl
  subst ey
  refine⟨_,rfl,wpAny_letOwnedTupleGo_enum ho fun h2 he2 hs2=>?_⟩
  have helt:e < s.heap.objs.size:=Heap.lt_size he
  have hTn:H s.heap.objs.size=none:=I.hok.fresh (Nat.le_refl _)
  have keep:∀ b o,b≠e->b≠it->s.heap.get? b=some o->h2.get? b=some o:=fun b o hb1 hb2 e1=>(hs2.2 b hb1).trans (hk b o hb1 hb2 e1)
  have hT2:h2.get? s.heap.objs.size=some { cls:=.type "tuple",data:=.seq #[.int i tk,y] }:=(hs2.2 _ (Nat.ne_of_gt helt)).trans hT
  have I2:Inv X pins σ (upd H s.heap.objs.size (.tup [.int i,x])) { s with heap:=h2,toks:=tk + 1 }:=by
   have ne:∀ b o,H b=some o->b≠e/\b≠it:=fun b o q=>⟨fun z=>(by rw[z,f0]at q;cases q),fun z=>(by rw[z,g0]at q;cases q)⟩
   refine I.step (g':=s.gens) (d':=s.drawn) (ch:=[e,it]) (fun b hb=>?_) (fun b o _ _ hc' e1 _=>keep b o (fun z=>hc' (by simp[z])) (fun z=>hc' (by simp[z])) e1)
    (fun b o _ _ hc' e1 _=>⟨o.slots,keep b o (fun z=>hc' (by simp[z])) (fun z=>hc' (by simp[z])) e1⟩) (fun b o hc' e1 n1=>by rw[Qaj (Nat.ne_of_lt (Heap.lt_size e1))];exact n1) (fun b o hc' e1=>⟨o,keep b o (fun z=>hc' (by simp[z])) (fun z=>hc' (by simp[z])) e1⟩)
    (fun b ys q=>by rw[Qaj (Qal q hTn)];exact q) (fun b o ys q=>by rw[Qaj (Qal q hTn)];exact q) (fun b ps q=>⟨#[],by rw[Qaj (Qal q hTn),q];simp⟩) (fun m hm=>?_) ?_ I.bare
   ·rcases List.mem_cons.mp hb with z | z
    ·subst z;exact⟨f3,f1,f4,f5⟩
    ·have z':b=it:=by simpa using z
     subst z';exact⟨g3,g1,g4,g5⟩
   ·obtain⟨o,es',ep,e1,r⟩:=hm
    exact⟨o,es',ep,keep _ o f1.symm g1.symm e1,r⟩
   ·intro b o q
    by_cases hb:b=s.heap.objs.size
    ·subst hb
     rw[Qai]at q;cases q
     exact⟨by show 2<=sizeLine;decide,[.int i tk,y],.cons ⟨tk,rfl⟩ (.cons ru .nil),⟨_,hT2,rfl,_,rfl⟩⟩
    ·rw[Qaj hb]at q
     have:=ne b o q
     refine (I.hok b o q).stay (fun c v hc' r=>keep c v ?_ ?_ r) (fun c q'=>by rw[Qaj (Qal q' hTn)];exact q') fun c ys q'=>by rw[Qaj (Qal q' hTn)];exact q'
     ·rcases hc' with z | z
      ·rw[z];exact this.1
      ·exact (ne c _ z).1
     ·rcases hc' with z | z
      ·rw[z];exact this.2
      ·exact (ne c _ z).2
  refine⟨.ref s.heap.objs.size,_,I2,rfl,⟨_,x,rfl,hTn,fun ys hy=>by rw[I.tuple_inj hy hq];exact hx,rfl⟩,⟨⟨y,by simpa using he2⟩,let ⟨o,x1,r⟩:=hst.1;⟨o,(hs2.2 it hei.symm).trans x1,r⟩⟩,fun b hb=>?_⟩
  rw[Qaj]
  ·exact (hf b hb).1
  ·intro z
   have:b < s.heap.objs.size:=by
    rcases List.mem_cons.mp hb with q | q
    ·rw[q];exact helt
    ·have q':b=it:=by simpa using q
     rw[q'];obtain⟨o,x1,_⟩:=hit;exact Heap.lt_size x1
   exact absurd this (by rw[z];exact Nat.lt_irrefl _)
 done:=by
  intro X hP hw hK hc i pins s σ H E I hf pq143 hg;obtain⟨⟨old,he⟩,hit⟩:=pq143
  subst hP hw hK
  obtain⟨xs,hq,hx⟩:=hg
  obtain⟨its,rv,p,hz⟩:=I.tuple hq
  obtain⟨g0,g1,g2,g3,g4,g5⟩:=hf it (by simp)
  have hl:=rv.length
  have hT:s.TypeIs (.ref e) "enumerate":=⟨_,he,rfl⟩
  unfold pyNext
  refine wpAny_bind (wpAny_attempt (wpAny_callSpecial?_slot (name:=Str.ofString "__next__") hT F.slot_enumerate_next (wpAny_call_entry F.slot_enumerate_next hT F.entry_enumerate_next ?_ (F.args_enumerate_next_1 _))))
  show wpAny _ _ (field (.ref e) 2 >>= _) _ _ _;refine wpAny_bind (wpAny_field he rfl (x:=.ref it) rfl ?_)
  refine wpAny_bind (QfD (A:=X.A.in1) (I.ok.hd hc) hit p (by simp;ac_nf) fun h' x he' pq80=>?_)
  obtain⟨o,ho,hc'⟩:=pq80
  exact wpAny_bind (wpAny_isInstance (T:="StopIteration") (b:=true) ⟨o,ho,hc'⟩ isSubtype_stop (wpAny_pure ⟨rfl,I.turned (t':=s.toks) (fun b o hb e=>he' b o hb e) g0 g1 g3 g4 g5⟩))
 self:=fun _ _ _ _ _ pq81 h=>by obtain⟨⟨old,he⟩,_⟩:=pq81;exact wpAny_pyIter_enum he h
theorem QfG {b : Expr} {p tpos : Pos} {k : Nat} (hg : Gl X "enumerate") (hm : X.mg "enumerate" = none) (h : SE X b fa) (hs : starEach [b] X.env = [(false, eval b X.env)] := by rfl) :
  SI X (.Tuple es k tpos) (.Call (.Name "enumerate" p) [b] [] pos) (iEnum fa):=by
 intro pins s σ H R I pq144;obtain⟨ρ,l,st,lr,sr,q⟩:=pq144
 refine Call_ (Qay I hg hm boot_enumerate (PyProof.Rows.callWith_type1 (thn (Qef h Qee hs pos pins s σ H (fun vs H1=>∃ a xs,vs=[.ref a]/\SqT X.K H1 a xs/\R (Ite X.K a) H1) I ⟨ρ,l,st,lr,sr,?_⟩) fun us s1 ⟨vs,H1,I1,r1,q1⟩=>?_) hs rfl))
 ·have q':=Post.bnd q
  show Post X.K ρ H (MM.bnd (fa l) _ st) _
  unfold MM.bnd
  cases e:fa l st with
  | bad=>rw[e]at q';exact q'
  | exc _ _=>rw[e]at q';exact q'
  | ok d st1=>
   rw[e]at q'
   show ∀ ρ' H',Ex ρ H ρ' H'->SR X.K ρ' H' st1->_
   intro ρ1 H1 x1 s1 vs rvs
   have p1:=q' ρ1 H1 x1 s1
   cases rvs with
   | cons rv rt=>
    cases rt
    cases rv with
    | @tup a ws ds ht r=>
     refine⟨a,ws,rfl,ht,p1.ret s1 _ ?_⟩
     intro ρ2 H2 st2 x2 s2 _
     have hl:=r.length
     have ht2:SqT X.K H2 a ws:=SqT.mono x2.up ht
     have len:((rngD 0 ds.length).zipWith (fun i d=>D.tup [i,d]) ds).length=ds.length:=by simp[rngD]
     refine⟨⟨ws,ht2,by rw[len,hl];exact Nat.le_refl _⟩,fun i d e1=>?_⟩
     have hi:i < ds.length:=by rw[<- len];exact (List.getElem?_eq_some_iff.mp e1).1
     have ed:d=.tup [.int i,ds[i]]:=by
      rw[List.getElem?_zipWith,rngD,List.getElem?_map,List.getElem?_range hi,List.getElem?_eq_getElem hi]at e1
      have:=Option.some.inj e1
      rw[<- this];simp
     subst ed
     obtain⟨v,hv,rv⟩:=(r.mono x2).get (List.getElem?_eq_getElem hi)
     refine⟨⟨ws,v,ht2,hv⟩,fun y H3 pq83=>?_⟩
     obtain⟨T,w,ey,hn,hw,eH⟩:=pq83
     subst ey eH
     have ew:=hw ws ht2
     rw[hv]at ew;cases ew
     have x3:Ex ρ2 H2 ρ2 (upd H2 T (.tup [.int i,v])):=Ex.new hn
     exact⟨x3,s2.new hn,.tup (SqT.of Qai) (.cons (.int _) (.cons (rv.mono x3) .nil))⟩
    | _=>exact p1.elim
 ·obtain⟨a,xs,e,hq,hR⟩:=q1
  subst e
  obtain⟨u,rfl,ru⟩:=Qbu r1
  cases ru
  obtain⟨its,rv,p1,hz⟩:=I1.tuple hq
  refine QfB p1 fun h' he hit hsz kp=>wpAny_pyIter_enum he ?_
  have I2:Inv X pins σ H1 { s1 with heap:=h' }:=I1.kept (t':=s1.toks) kp
  refine⟨s1.heap.objs.size + 1,[s1.heap.objs.size + 1,s1.heap.objs.size],_,Ite X.K a,H1,rfl,I2,QfF a (s1.heap.objs.size + 1) s1.heap.objs.size (Nat.succ_ne_self _),⟨⟨_,he⟩,hit⟩,fun b hb=>?_,hR⟩
  have hle:s1.heap.objs.size<=b:=by
   rcases List.mem_cons.mp hb with z | z
   ·rw[z];exact Nat.le_succ _
   ·have z':b=s1.heap.objs.size:=by simpa using z
    rw[z'];exact Nat.le_refl _
  exact I1.fpOk hle (I1.hok.fresh hle)
end
section
variable {X:Cx}{K:PySem.W.Frag}{ρ:List Addr}{H:Hp}{st:Sto}
theorem QfH:OpR X (compareOp .Is) (rOf X.K isD):=by
 intro pins s σ H x y v u Q I rx ry pq145;obtain⟨ρ,st,d,e,sr,r1,r2,p⟩:=pq145
 cases r2 with
 | non=>
  refine Qbj pins s σ H x .non v u Q I rx ry ⟨rfl,?_⟩
  cases r1 with
  | non=>exact p.ret sr _ (.bl true)
  | bl b=>exact p.ret sr _ (.bl false)
  | int b=>exact p.ret sr _ (.bl false)
  | str b=>exact p.ret sr _ (.bl false)
  | tup h r=>exact p.ret sr _ (.bl false)
  | lit h r=>exact p.ret sr _ (.bl false)
  | ref _ h=>exact p.ret sr _ (.bl false)
  | dic _ h=>exact p.ret sr _ (.bl false)
  | exn0 _ h=>exact p.ret sr _ (.bl false)
  | exn _ h _ _=>exact p.ret sr _ (.bl false)
 | bl b=>
  cases r1 with
  | bl a=>
   cases (show v=Value.bool a from rx)
   cases (show u=Value.bool b from ry)
   refine wpAny_is_plain rfl ⟨.bl (a == b),H,I,?_,p.ret sr _ (.bl _)⟩
   cases a<;>cases b<;>rfl
  | _=>exact p.elim
 | _=>cases r1<;>exact p.elim
theorem QfI:OpR X (compareOp .IsNot) (rOf X.K isntD):=by
 intro pins s σ H x y v u Q I rx ry pq146;obtain⟨ρ,st,d,e,sr,r1,r2,p⟩:=pq146
 cases r2 with
 | non=>
  refine Qbk pins s σ H x .non v u Q I rx ry ⟨rfl,?_⟩
  cases r1 with
  | non=>exact p.ret sr _ (.bl false)
  | bl b=>exact p.ret sr _ (.bl true)
  | int b=>exact p.ret sr _ (.bl true)
  | str b=>exact p.ret sr _ (.bl true)
  | tup h r=>exact p.ret sr _ (.bl true)
  | lit h r=>exact p.ret sr _ (.bl true)
  | ref _ h=>exact p.ret sr _ (.bl true)
  | dic _ h=>exact p.ret sr _ (.bl true)
  | exn0 _ h=>exact p.ret sr _ (.bl true)
  | exn _ h _ _=>exact p.ret sr _ (.bl true)
 | bl b=>
  cases r1 with
  | bl a=>
   cases (show v=Value.bool a from rx)
   cases (show u=Value.bool b from ry)
   refine wpAny_isNot_plain rfl ⟨.bl (!(a == b)),H,I,?_,p.ret sr _ (.bl _)⟩
   cases a<;>cases b<;>rfl
  | _=>exact p.elim
 | _=>cases r1<;>exact p.elim
theorem QfJ {v:V}{d:D} (r:Rep K ρ H v d) (h:flatD d=true):flatV v=true:=by
 cases r<;>first | rfl | cases h
theorem QfK:∀ {vs:List V}{ds:List D},Reps K ρ H vs ds->ds.all flatD=true->vs.all flatV=true
 | _,_,.nil,_=>rfl
 | _,_,.cons r t,h=>by
  rw[List.all_cons,Bool.and_eq_true]at h
  rw[List.all_cons,Bool.and_eq_true]
  exact⟨QfJ r h.1,QfK t h.2⟩
theorem QfL {v w:V}{d e:D} (r:Rep K ρ H v d) (q:Rep K ρ H w e) (h:flatD d=true) (h':flatD e=true):eqV v w=eqFl d e:=by
 cases r<;>first | (cases q<;>first | rfl | cases h') | cases h
theorem QfM {w:V}{e:D} (q:Rep K ρ H w e) (h':flatD e=true):∀ {vs:List V}{ds:List D},Reps K ρ H vs ds->ds.all flatD=true->inV w vs=ds.any fun d=>eqFl d e
 | _,_,.nil,_=>rfl
 | _,_,.cons r t,h=>by
  rw[List.all_cons,Bool.and_eq_true]at h
  have:=QfM q h' t h.2
  unfold inV at this ⊢
  rw[List.any_cons,List.any_cons,this,QfL r q h.1 h']
theorem Post.hasK {n:Nat}{k:D}{R:Bool->Sto->List Addr->Hp->Prop} (h:Post K ρ H (MM.hasK n k st) R) (s:SR K ρ H st):∃ b kvs,st[n]?=some (.dct b kvs)/\kOk b k=true/\R (lkK kvs k).isSome st ρ H:=by
 obtain⟨b,kvs,e,p1⟩:=Post.getDc (Post.bnd h) s
 obtain⟨hk,p2⟩:=Post.chk p1
 exact⟨b,kvs,e,hk,p2.ret s⟩
theorem _root_.L2.OpR.orO {f:Value->Value->Sem Value}{r r':R2} (h:OpR X f r) (h':OpR X f r'):OpR X f (fun x y H Q=>r x y H Q\/r' x y H Q):=by
 intro pins s σ H x y v u Q I rx ry q
 rcases q with q | q
 ·exact h pins s σ H x y v u Q I rx ry q
 ·exact h' pins s σ H x y v u Q I rx ry q
theorem QfN (hu:X.A.units + 60 < cLine):OpR X (compareOp .NotIn) (fun x y H Q=>∃ (ρ:List Addr) (st:Sto) (n:Nat) (a:Addr) (b:Bool) (kvs:List (D × D)) (k:D),y=.ref a/\SR X.K ρ H st/\ρ[n]?=some a/\st[n]?=some (.dct b kvs)/\Rep X.K ρ H x k/\kOk b k=true/\Q (.bl (!(lkK kvs k).isSome)) H):=by
 intro pins s σ H x y v u Q I rx ry pq147;obtain⟨ρ,st,n,a,b,kvs,k,e,sr,ha,hn,rk,hk,q⟩:=pq147
 subst e
 cases ry
 exact QdJ (by ac_nf) I (sr.ob n a _ ha hn) rk hk rx fun s' I'=>⟨.bl _,H,I',rfl,q⟩
theorem QfO (hu:X.A.units + 60 < cLine):OpR X (compareOp .NotIn) (rOf X.K ninD):=(Qck.orO (QfN hu)).of fun x y H Q pq84=>by
 obtain⟨ρ,st,d,e,sr,r1,r2,p⟩:=pq84
 have fin:∀ {a:Addr}{vs:List V}{ds:List D} (hq:SqL X.K H a vs\/SqT X.K H a vs) (r:Reps X.K ρ H vs ds) (p1:Post X.K ρ H (ninL d ds st) fun r _ ρ' H'=>∀ v,Rep X.K ρ' H' v r->Q v H'),rIn X.K true x (.ref a) H Q:=fun hq r p1=>by
  obtain⟨⟨h1,h2⟩,p2⟩:=Post.chk p1
  refine⟨_,_,rfl,hq,QfJ r1 h1,QfK r h2,?_⟩
  rw[if_pos rfl,QfM r1 h1 r h2]
  exact p2.ret sr _ (.bl _)
 cases r2 with
 | tup h r=>exact .inl (fin (.inr h) r ((Post.bnd p).ret sr))
 | lit h r=>exact .inl (fin (.inl h.seq) r ((Post.bnd p).ret sr))
 | ref _ h=>
  obtain⟨ds,e2,p1⟩:=Post.getL (Post.bnd p) sr
  obtain⟨a',vs,ha,hv,r⟩:=sr.seq e2
  rw[h]at ha;cases ha
  exact .inl (fin (.inl (SqL.of hv)) r p1)
 | @dic a n _ h=>
  obtain⟨b,kvs,e1,hk,q⟩:=Post.hasK (Post.bnd p) sr
  exact .inr ⟨ρ,st,n,a,b,kvs,d,rfl,sr,h,e1,r1,hk,(q.ret sr) _ (.bl _)⟩
 | _=>exact (show False from p).elim
theorem QfP:UnR X (unaryOp .USub) (uOf X.K negD):=by
 intro pins s σ H x v Q I rx pq148;obtain⟨ρ,st,d,sr,r1,p⟩:=pq148
 cases r1 with
 | int i=>exact Qbe pins s σ H _ v Q I rx ⟨i,rfl,p.ret sr _ (.int _)⟩
 | _=>exact p.elim
end
section
variable {X:Cx}{a b c e o tg:Expr}{es:List Expr}{pos apos cpos:Pos}{fa fb fc:CE}{ca cb:CA}{ta tb:CT}{K:PySem.W.Frag}{ρ:List Addr}{H:Hp}{st:Sto}{x:Str}{p:Pos}{T id:String}{body:List Stmt}{cs:CS}
theorem QfQ {op:UnaryOp}{g:D->M D} (ho:UnR X (unaryOp op) (uOf X.K g)) (ha:SE X a fa):SE X (.UnaryOp op a pos) (c1 g fa):=
 (Qa7 ho ha).of fun σ H Q h_=>h_.el fun ρ l st lr sr p=>⟨ρ,l,st,lr,sr,p.bnd.imp fun d st1 ρ1 H1 x1 s1 p1 v rv=>⟨ρ1,st1,d,s1,rv,p1⟩⟩
theorem QfR (ha:SE X a fa) (hb:SL X b cb) (hm:behindInMarks .In b=false):SE X (.Compare a [.In] [b] pos) (cInTmp inL fa cb):=
 (Qbm Qcj ha hb hm).of fun σ H Q h_=>h_.el fun ρ l st lr sr p=>⟨ρ,l,st,lr,sr,p.bnd.imp fun d st1 ρ1 H1 x1 s1 p1 v rv=>⟨ρ1,l,st1,lr.mono x1,s1,p1.bnd.imp fun ds st2 ρ2 H2 x2 s2 p2 a vs ha na hv rvs=>by
  obtain⟨⟨h1,h2⟩,p3⟩:=Post.chk p2
  have r1:=rv.mono x2
  refine⟨_,_,rfl,.inl (SqL.of hv),QfJ r1 h1,QfK rvs h2,?_⟩
  rw[if_neg (by simp),QfM r1 h1 rvs h2]
  exact p3.ret s2 _ (.bl _)⟩⟩
theorem QfS (ha:SE X a fa) (hb:SL X b cb) (hm:behindInMarks .NotIn b=false):SE X (.Compare a [.NotIn] [b] pos) (cInTmp ninL fa cb):=
 (Qbm Qck ha hb hm).of fun σ H Q h_=>h_.el fun ρ l st lr sr p=>⟨ρ,l,st,lr,sr,p.bnd.imp fun d st1 ρ1 H1 x1 s1 p1 v rv=>⟨ρ1,l,st1,lr.mono x1,s1,p1.bnd.imp fun ds st2 ρ2 H2 x2 s2 p2 a vs ha na hv rvs=>by
  obtain⟨⟨h1,h2⟩,p3⟩:=Post.chk p2
  have r1:=rv.mono x2
  refine⟨_,_,rfl,.inl (SqL.of hv),QfJ r1 h1,QfK rvs h2,?_⟩
  rw[if_pos rfl,QfM r1 h1 rvs h2]
  exact p3.ret s2 _ (.bl _)⟩⟩
theorem QfT (ha:SE X a fa) (hb:SL X b cb) (hm:behindInMarks .In b=false):ST X (.Compare a [.In] [b] pos) (tCmpB (cInTmp inL fa cb)):=
 (Qbn Qcj ha hb hm).of fun σ H Q h_=>h_.el fun ρ l st lr sr p=>⟨ρ,l,st,lr,sr,p.bnd.bnd.imp fun d st1 ρ1 H1 x1 s1 p1 v rv=>⟨ρ1,l,st1,lr.mono x1,s1,p1.bnd.imp fun ds st2 ρ2 H2 x2 s2 p2 a vs ha na hv rvs=>by
  obtain⟨⟨h1,h2⟩,p3⟩:=Post.chk p2
  have r1:=rv.mono x2
  refine⟨_,_,rfl,.inl (SqL.of hv),QfJ r1 h1,QfK rvs h2,?_⟩
  rw[if_neg (by simp),QfM r1 h1 rvs h2]
  exact⟨_,rfl,(p3.ret s2).ret s2⟩⟩⟩
theorem QfU (ha:SE X a fa) (hb:SL X b cb) (hm:behindInMarks .NotIn b=false):ST X (.Compare a [.NotIn] [b] pos) (tCmpB (cInTmp ninL fa cb)):=
 (Qbn Qck ha hb hm).of fun σ H Q h_=>h_.el fun ρ l st lr sr p=>⟨ρ,l,st,lr,sr,p.bnd.bnd.imp fun d st1 ρ1 H1 x1 s1 p1 v rv=>⟨ρ1,l,st1,lr.mono x1,s1,p1.bnd.imp fun ds st2 ρ2 H2 x2 s2 p2 a vs ha na hv rvs=>by
  obtain⟨⟨h1,h2⟩,p3⟩:=Post.chk p2
  have r1:=rv.mono x2
  refine⟨_,_,rfl,.inl (SqL.of hv),QfJ r1 h1,QfK rvs h2,?_⟩
  rw[if_pos rfl,QfM r1 h1 rvs h2]
  exact⟨_,rfl,(p3.ret s2).ret s2⟩⟩⟩
theorem QfV:CallR X (.type "list") (fun xs H Q=>∃ v,xs=[v]/\uOf X.K listD v H Q):=Qcn.of fun xs H Q pq85=>by
 obtain⟨v,e,ρ,st,d,sr,rv,p⟩:=pq85
 have fin:∀ {ds:List D}{vs:List V}{l:Addr} (r:Reps X.K ρ H vs ds) (hl:H l=none) (p1:Post X.K ρ H (alloc (.lst ds) st) fun r _ ρ' H'=>∀ v,Rep X.K ρ' H' v r->Q v H'),Q (.ref l) (upd H l (.lst vs)):=fun {ds vs l} r hl p1=>by
  have nl:=sr.fresh hl
  have s2:SR X.K (ρ++[l]) (upd H l (.lst vs)) (st++[.lst ds]):=(sr.new hl).keep Qai nl (r.mono (Ex.new hl))
  refine p1 _ _ (Ex.newL hl) s2 _ (.ref ⟨_,Qai,rfl⟩ ?_)
  rw[<- sr.len];simp
 cases rv with
 | @tup a vs ds h r=>exact⟨a,vs,e,.inr h,fun l hl=>fin r hl ((Post.bnd p).ret sr)⟩
 | @lit a vs ds h r=>exact⟨a,vs,e,.inl h.seq,fun l hl=>fin r hl ((Post.bnd p).ret sr)⟩
 | @ref a n _ h=>
  obtain⟨ds,e2,p1⟩:=Post.getL (Post.bnd p) sr
  obtain⟨a',vs,ha,hv,r⟩:=sr.seq e2
  rw[h]at ha;cases ha
  exact⟨a,vs,e,.inl (SqL.of hv),fun l hl=>fin r hl p1⟩
 | _=>exact (Post.bnd p).elim
theorem QfW {g : D -> D -> M D} (hc : CallR X (.builtin id) (fun xs H Q => ∃ v w, xs = [v, w] /\ rOf X.K g v w H Q)) (hg : Gl X x) (hm : X.mg x = none) (hv : bootBuiltins x = some (.builtin id)) (ha : SE X a fa) (hb : SE X b fb) (hn : x ≠ "__name__" := by decide) (hdb : (x == ("__debug__" : Str)) = false := by decide)
  (he1:starEach [a,b] X.env=(false,eval a X.env)::starEach [b] X.env:=by rfl) (he2:starEach [b] X.env=(false,eval b X.env)::starEach [] X.env:=by rfl) (hpl:(backTo pos (starEach [b] X.env)).any (fun x=>x.fst)=false:=by rfl):SE X (.Call (.Name x p) [a,b] [] pos) (c2 g fa fb):=
 (QbN hc hg hm hv (QbB ha (QbB hb QbA he2) he1) hn hdb he1 hpl).of fun σ H Q h_=>h_.el fun ρ l st lr sr p=>⟨ρ,l,st,lr,sr,p.bnd.imp fun d st1 ρ1 H1 x1 s1 p1 v rv=>⟨ρ1,l,st1,lr.mono x1,s1,p1.bnd.imp fun e st2 ρ2 H2 x2 s2 p2 w rw'=>⟨v,w,rfl,ρ2,st2,d,e,s2,rv.mono x2,rw',p2⟩⟩⟩
theorem QfX (hc:X.calm=true):CallR X (.builtin "min") (fun xs H Q=>∃ v w,xs=[v,w]/\rOf X.K min2D v w H Q):=(Qbw hc).of fun xs H Q pq86=>by
 obtain⟨v,w,e,ρ,st,d1,d2,sr,r1,r2,p⟩:=pq86
 cases r1 with
 | int i=>
  cases r2 with
  | int j=>
   refine⟨i,j,e,?_⟩
   have:(if j < i then j else i)=min i j:=by ac_nf
   rw[this];exact p.ret sr _ (.int _)
  | _=>exact p.elim
 | _=>exact p.elim
theorem QfY (ho:SE X o fa) (hbase:attributeBase o "pop" X.env (eval o X.env)=eval o X.env:=by rfl) (hline:(apos.endLine == cpos.line)=true:=by rfl):SE X (.Call (.Attribute o "pop" apos) [] [] cpos) (cPop fa):=
 (Qcq PySem.F.plainAttrs_list PySem.F.slot_list_pop PySem.F.type_list_pop Qcw ho hbase hline).of fun σ H Q h_=>h_.el fun ρ l st lr sr p=>⟨ρ,l,st,lr,sr,p.bnd.imp fun d st1 ρ1 H1 x1 s1 p1 v rv=>by
  cases rv with
  | @ref a n _ h=>
   obtain⟨ds,e2,p2⟩:=Post.getL (Post.bnd p1) s1
   obtain⟨a',vs,ha,hv,r⟩:=s1.seq e2
   rw[h]at ha;cases ha
   cases e3:ds.getLast? with
   | none=>rw[e3]at p2;exact p2.elim
   | some d=>
    rw[e3]at p2
    have hl:=(List.getElem?_eq_some_iff.mp e2).1
    have e4:ds[ds.length - 1]?=some d:=by rw[<- List.getLast?_eq_getElem?];exact e3
    obtain⟨y,hy,ry⟩:=r.get e4
    have rd:Reps X.K ρ1 H1 vs.dropLast ds.dropLast:=by
     rw[List.dropLast_eq_take,List.dropLast_eq_take,r.length];exact r.take _
    obtain⟨s3,x3⟩:=s1.put hl h hv rd
    refine⟨.inl ⟨rfl,vs,SqL.of hv⟩,a,vs,y,rfl,rfl,hv,by rw[r.length];exact hy,?_⟩
    have p5:=Post.bnd p2
    unfold putL at p5
    rw[e2]at p5
    exact (p5 ρ1 _ x3 s3).ret s3 _ (ry.mono x3)
  | _=>exact p1.elim⟩
theorem Reps.rev:∀ {vs:List V}{ds:List D},Reps K ρ H vs ds->Reps K ρ H vs.reverse ds.reverse
 | _,_,.nil=>.nil
 | _,_,.cons r t=>by
  rw[List.reverse_cons,List.reverse_cons];exact Reps.app (Reps.rev t) (.cons r .nil)
theorem QfZ {p : Pos} (hg : Gl X "range") (hm : X.mg "range" = none) (h : SE X a fa) (h' : SE X b fb) (he1 : starEach [a, b] X.env = (false, eval a X.env) :: starEach [b] X.env := by rfl) (he2 : starEach [b] X.env = (false, eval b X.env) :: starEach [] X.env := by rfl)
  (hs:starEach [a,b] X.env=[(false,eval a X.env),(false,eval b X.env)]:=by rfl) (hs2:starEach [b] X.env=[(false,eval b X.env)]:=by rfl):SI X tg (.Call (.Name "range" p) [a,b] [] pos) (MM.iRng2 fa fb):=
 (Qa2 (tg:=tg) (p:=p) (pos:=pos) hg hm (QbB h (QbB h' QbA he2) he1) hs hs2).of fun σ H R h_=>h_.el fun ρ l st lr sr p=>⟨ρ,l,st,lr,sr,p.bnd.imp fun d st1 ρ1 H1 x1 s1 p1 v rv=>⟨ρ1,l,st1,lr.mono x1,s1,p1.bnd.imp fun e st2 ρ2 H2 x2 s2 p2 w rw'=>by
  have rv2:=rv.mono x2
  cases rv2 with
  | int i=>
   cases rw' with
   | int j=>
    obtain⟨⟨⟨h1,h2⟩,h3,h4⟩,p3⟩:=Post.chk p2
    exact⟨i,j,rfl,⟨h1,h2,h3,h4⟩,p3.ret s2 _ QeT⟩
   | _=>exact p2.elim
  | _=>cases rw'<;>exact p2.elim⟩⟩
theorem Qf0 (hp:PassesOwn (model X.prog X.w) X.A X.env X.xe) (hc:ST X c ta) (hb:SSs X body cs):SS X (.While c body [] pos) (sWhile ta cs):=(QaU hp hc hb).of fun G σ H h_=>h_.el fun ρ l st lr sr p=>by
 unfold sWhile at p
 by_cases h:∃ n,∀ r,whileN ta cs n l st=r->r≠.bad
 ·rw[dif_pos h]at p
  generalize Classical.choose h=n at p
  refine⟨fun m σ H=>∃ ρ l st,LR X.K ρ H σ l/\SR X.K ρ H st/\Post X.K ρ H (whileN ta cs m l st) fun f _ ρ' H'=>match f with
   | .next l'=>∀ σ',LR X.K ρ' H' σ' l'->G.nx σ' H'
   | .ret d=>∀ v,Rep X.K ρ' H' v d->G.rt v H'
   | .brk l'=>∀ σ',LR X.K ρ' H' σ' l'->G.bk σ' H'
   | .cnt l'=>∀ σ',LR X.K ρ' H' σ' l'->G.ct σ' H',⟨n,ρ,l,st,lr,sr,p⟩,?_⟩
  intro m σ1 H1 pq149;obtain⟨ρ1,l1,st1,lr1,sr1,p1⟩:=pq149
  cases m with
  | zero=>exact p1.elim
  | succ m=>
   refine⟨ρ1,l1,st1,lr1,sr1,(Post.bnd p1).imp fun k st2 ρ2 H2 x2 s2 p2=>?_⟩
   cases k with
   | false=>exact p2.ret s2 _ (lr1.mono x2)
   | true=>
    refine⟨fun σ' H'=>∃ ρ l st,LR X.K ρ H' σ' l/\SR X.K ρ H' st/\Post X.K ρ H' (whileN ta cs m l st) _,fun σ' H' q=>⟨m,Nat.lt_succ_self m,q⟩,ρ2,l1,st2,lr1.mono x2,s2,(Post.bnd p2).imp fun f st3 ρ3 H3 x3 s3 p3=>?_⟩
    cases f with
    | next l'=>exact fun σ' lr'=>⟨ρ3,l',st3,lr',s3,p3⟩
    | ret d=>exact p3.ret s3
    | brk l'=>exact p3.ret s3
    | cnt l'=>exact fun σ' lr'=>⟨ρ3,l',st3,lr',s3,p3⟩
 ·rw[dif_neg h]at p;exact p.elim
end
theorem Qf1 (its:List Value):slicePick its.toArray none none (some (-1))=its.reverse.toArray:=by
 unfold slicePick
 have e:sliceRange (sliceBounds none none (some (-1)) its.toArray.size).1 (sliceBounds none none (some (-1)) its.toArray.size).2.1 (sliceBounds none none (some (-1)) its.toArray.size).2.2=(List.range its.toArray.size).map fun k=>its.toArray.size - 1 - k:=picked_rev its.toArray.size
 rw[e]
 congr 1
 rw[List.size_toArray]
 have key:∀ n,n<=its.length->((List.range n).map fun k=>its.length - 1 - k).filterMap (fun i=>its.toArray[i]?)=(its.drop (its.length - n)).reverse:=by
  intro n
  induction n with
  | zero=>intro _;simp
  | succ n ih=>
   intro hn
   rw[List.range_succ,List.map_append,List.filterMap_append,ih (by ac_nf)]
   have hlt:its.length - 1 - n < its.length:=by ac_nf
   have:its.drop (its.length - (n + 1))=its[its.length - 1 - n]::its.drop (its.length - n):=by
    have e1:its.length - (n + 1)=its.length - 1 - n:=by ac_nf
    have e2:its.length - n=its.length - 1 - n + 1:=by ac_nf
    rw[e1,e2];exact List.drop_eq_getElem_cons hlt
   rw[this,List.reverse_cons]
   congr 1
   simp[hlt]
 have:=key its.length (Nat.le_refl _)
 rw[Nat.sub_self,List.drop_zero]at this
 exact this
section
variable {X:Cx}{e st:Expr}{pos p2 p3 p4:Pos}{fa:CE}{te:TE}{j:Nat}
def rBack (K:PySem.W.Frag):V->Hp->VK->Prop:=fun x H Q=>∃ a xs,x=.ref a/\SqL K H a xs/\∀ p,H p=none->Q (.ref p) (upd H p (.lst xs.reverse))
theorem Qf2 (he:PE X e te):PE X (.Subscript e (.Slice none none (some (.UnaryOp .USub (.Constant (.int 1) j p3) p4)) p2) pos) (fun σ H Q=>te σ H fun x H1=>rBack X.K x H1 Q):=by
 intro pins s σ H Q I h
 refine Subscript_ (thn (he pins s σ H _ I h) fun v s1 pq87=>?_)
 obtain⟨x,H1,I1,r1,q1⟩:=pq87
 refine wpAny_Slice ?_
 rw[evalPart_none]
 refine wpAny_pure (wpAny_pure ?_)
 have hst:PE X (.UnaryOp .USub (.Constant (.int 1) j p3) p4) (tUn (rU fun i=>.int (-i)) (tC (.int 1))):=Qa7 Qbe Qat
 refine thn (QbY hst pins s1 σ H1 (fun o H'=>o=some (-1)/\H'=H1) I1 ⟨1,rfl,-1,rfl,rfl,rfl⟩) fun vs s2 pq88=>?_
 obtain⟨o,H2,I2,ps,eo,eH⟩:=pq88
 subst eo eH
 obtain⟨a,xs,rfl,hx,q⟩:=q1
 cases r1
 have I4:Inv X pins σ H2 { s2 with heap:=s2.heap.push { cls:=.type "slice",data:=.fields #[.none,.none,vs] } }:=I2.kept (t':=s2.toks) fun b ob q=>Heap.get?_push_of_some _ q
 obtain⟨its,r,ht,hz⟩:=I4.list hx
 have hlen:=r.length
 show wpAny (model X.prog X.w) X.A (subscriptTail e _ (.ref a) (.ref s2.heap.objs.size)) (EP X pins σ Q) X.xe { s2 with heap:=s2.heap.push { cls:=.type "slice",data:=.fields #[.none,.none,vs] } }
 refine tail_any (ops:=[.ref a,.ref s2.heap.objs.size]) ht.isList.typeIs slot_list_getitem.lookup ?_ (by with_unfolding_all rfl)
 refine wpAny_getItem_list_slice ht.isList (Heap.IsSliceOf.new ..) .none .none ps (by simp) ?_ (by rw[List.size_toArray]<;>ac_nf)
 rw[Qf1]
 refine⟨.ref _,_,I4.laid (t':=s2.toks) (o:=.lst xs.reverse) (fun b ob q=>Heap.get?_push_of_some _ q) (Nat.le_refl _) ?_,rfl,q _ (I4.hok.fresh (Nat.le_refl _))⟩
 exact⟨by rw[List.length_reverse];exact hz,_,0,r.reverse,Heap.get?_push_size _ rfl⟩
theorem Qf3 (h:SE X e fa):SL X (.Subscript e (.Slice none none (some (.UnaryOp .USub (.Constant (.int 1) j p3) p4)) p2) pos) (aBack fa):=
 (Qf2 h).of fun σ H Q h_=>h_.el fun ρ l st lr sr p=>⟨ρ,l,st,lr,sr,p.bnd0.imp fun d st1 ρ1 H1 x1 s1 p1 v rv=>by
  cases rv with
  | @ref a n _ h=>
   obtain⟨ds,e2,p2⟩:=Post.getL (p1.bnd0.left x1) s1
   obtain⟨a',vs,ha,hv,r⟩:=s1.seq e2
   rw[h]at ha;cases ha
   refine⟨a,vs,rfl,SqL.of hv,fun q hq=>?_⟩
   have hn:H q=none:=by
    cases z:H q with
    | none=>rfl
    | some o=>exact absurd hq (x1.trk q o z)
   exact p2 ρ1 _ (x1.trans (Ex.new hq)) (s1.new hq) q _ hn (s1.fresh hq) Qai ((Reps.rev r).mono (Ex.new hq))
  | _=>exact p1.elim⟩
theorem Qf4 {lo hi:Option Expr}{fl fh:CO}{p2:Pos} (h:SE X e fa) (hl:SO X lo fl) (hh:SO X hi fh):SE X (.Subscript e (.Slice lo hi none p2) pos) (cSliceT fa fl fh):=
 (QbZ Qb1 h hl hh).of fun σ H Q h_=>h_.el fun ρ l st lr sr p=>⟨ρ,l,st,lr,sr,p.bnd.imp fun d st1 ρ1 H1 x1 s1 p1 v rv=>⟨ρ1,l,st1,lr.mono x1,s1,p1.bnd.imp fun i st2 ρ2 H2 x2 s2 p2=>⟨ρ2,l,st2,(lr.mono x1).mono x2,s2,p2.bnd.imp fun j st3 ρ3 H3 x3 s3 p3=>by
  have rv3:=(rv.mono x2).mono x3
  have e:∀ n d o,HT.sIx n d o=MM.sIx n d o:=fun n d o=>by cases o<;>rfl
  cases rv3 with
  | @tup a vs ds h r=>
   obtain⟨hw,p4⟩:=Post.chk p3
   exact⟨a,vs,rfl,h,by rw[e,e,r.length];exact hw,fun q hq=>p4 ρ3 _ (Ex.new hq) (s3.new hq) _ (.tup (SqT.of Qai) ((Reps.cut r i j).mono (Ex.new hq)))⟩
  | _=>exact p3.elim⟩⟩⟩
end
section
variable {X:Cx}{K:PySem.W.Frag}{ρ:List Addr}{H:Hp}{st:Sto}
theorem Reps.pick:∀ {vs:List V}{ds:List D} (i:Nat),Reps K ρ H vs ds->Rep K ρ H (vs.getD i .non) (ds.getD i .non)
 | _,_,_,.nil=>by simp;exact .non
 | _,_,0,.cons r t=>by simpa using r
 | _,_,i + 1,.cons r t=>by simpa using Reps.pick i t
theorem Reps.picks {vs:List V}{ds:List D} (r:Reps K ρ H vs ds):∀ (p:List Nat),Reps K ρ H (p.map fun i=>vs.getD i .non) (p.map fun i=>ds.getD i .non)
 | []=>.nil
 | i::p=>.cons (Reps.pick i r) (Reps.picks r p)
end
section
variable {X:Cx}{tg:Expr}{es:List Expr}{pos:Pos}{fa fb:CE}{K:PySem.W.Frag}{ρ:List Addr}{H:Hp}{st:Sto}
theorem atI {h h':Heap}{it l:Addr}{k:Nat} (x:h.IsTupleIter it l k) (e:∀ o,h.get? it=some o->h'.get? it=some o):h'.IsTupleIter it l k:=let ⟨o,e1,r⟩:=x;⟨o,e o e1,r⟩
end
theorem Vals.reverse:∀ {xs:List V}{us:List Value},Vals xs us->Vals xs.reverse us.reverse
 | _,_,.nil=>.nil
 | _,_,.cons r t=>by
  rw[List.reverse_cons,List.reverse_cons];exact L2.Vals.append (Vals.reverse t) (.cons r .nil)
section
variable {X:Cx}{a b c e o tg:Expr}{es:List Expr}{pos pos' apos cpos p p':Pos}{fa fb fc:CE}{ca cb:CA}{K:PySem.W.Frag}{ρ:List Addr}{H:Hp}{st:Sto}{te:TE}
theorem Reps.rep {vs:List V}{ds:List D} (h:Reps K ρ H vs ds):∀ k:Nat,Reps K ρ H (List.replicate k vs).flatten (List.replicate k ds).flatten
 | 0=>.nil
 | k + 1=>by
  rw[List.replicate_succ,List.replicate_succ,List.flatten_cons,List.flatten_cons]
  exact Reps.app h (Reps.rep h k)
theorem Qf5 (ha:SL X a ca) (hb:SE X b fb):SL X (.BinOp a .Mult b pos) (aTimes ca fb):=
 (Qa6 Qcz ha hb).of fun σ H Q h_=>h_.el fun ρ l st lr sr p=>⟨ρ,l,st,lr,sr,p.bnd0.imp fun ds st1 ρ1 H1 x1 s1 p1 a vs ha na hv rvs=>⟨ρ1,l,st1,lr.mono x1,s1,((p1.bnd0.left x1)).imp fun e st2 ρ2 H2 x2 s2 p2 u ru=>by
  cases ru with
  | int k=>
   obtain⟨⟨⟨h1,h2⟩,h3⟩,p3⟩:=Post.chk p2
   refine⟨a,k,vs,rfl,rfl,x2.lst a vs na hv,h1,h2,by rw[rvs.length];exact h3,fun q hq=>?_⟩
   have x02:=x1.trans x2
   have hn:H q=none:=by
    cases z:H q with
    | none=>rfl
    | some o=>exact absurd hq (x02.trk q o z)
   exact p3 ρ2 _ (x02.trans (Ex.new hq)) (s2.new hq) q _ hn (s2.fresh hq) Qai ((Reps.rep (rvs.mono x2) k.toNat).mono (Ex.new hq))
  | _=>exact p2.elim⟩⟩
theorem Qf6:SE X (.Dict [] [] pos) (cDNew false):=Qc2.of fun σ H Q pq89 q hq=>by
 obtain⟨ρ,l,st,lr,sr,p⟩:=pq89
 have p':∀ ρ' H',Ex ρ H ρ' H'->SR X.K ρ' H' (st++[.dct false []])->∀ v,Rep X.K ρ' H' v (.dic st.length)->Q v H':=p
 refine p' (ρ++[q]) _ (Ex.newO hq) ((sr.new hq).keepO (sr.fresh hq) ⟨[],Qai,.nil⟩) _ (.dic ⟨_,Qai,.inl rfl⟩ ?_)
 rw[<- sr.len];simp
def tDNewN (X:Cx):TE:=fun _ H Q=>∀ p,H p=none->Q (.ref p) (upd H p (nstO p []))
theorem Qf7:PE X (.Dict [] [] pos) (tDNewN X):=fun pins s σ H Q I h=>
 wpAny_Dict_empty ⟨.ref s.heap.objs.size,_,I.laid (a:=s.heap.objs.size) (o:=nstO s.heap.objs.size []) (t':=s.toks) (fun _ _ q=>Heap.get?_push_of_some _ q) (Nat.le_refl _)
  (QdF (P:=X.prog) (w:=X.w) (xs:=[]) (Nat.zero_le _) (beq_eq_false_iff_ne.mpr (Ne.symm (Nat.ne_of_lt I.big))) .nil (Heap.DictOfH.new s.heap) ⟨_,_,Heap.get?_push_size _ rfl,rfl⟩),rfl,h _ (I.hok.fresh (Nat.le_refl _))⟩
theorem Qf8:SE X (.Dict [] [] pos) (cDNew true):=Qf7.of fun σ H Q pq90 q hq=>by
 obtain⟨ρ,l,st,lr,sr,p⟩:=pq90
 have p':∀ ρ' H',Ex ρ H ρ' H'->SR X.K ρ' H' (st++[.dct true []])->∀ v,Rep X.K ρ' H' v (.dic st.length)->Q v H':=p
 refine p' (ρ++[q]) _ (Ex.newO hq) ((sr.new hq).keepO (sr.fresh hq) ⟨[],Qai,.nil⟩) _ (.dic ⟨_,Qai,.inr rfl⟩ ?_)
 rw[<- sr.len];simp
end
mutual
theorem Qf9:∀ {a b c:D},eqK a b=true->eqK b c=true->eqK a c=true
 | .int i,b,c,h1,h2=>by
  obtain⟨j,rfl⟩:∃ j,b=.int j:=by cases b<;>simp[eqK]at h1 ⊢
  obtain⟨k,rfl⟩:∃ j,c=.int j:=by cases c<;>simp[eqK]at h2 ⊢
  simp[eqK]at h1 h2 ⊢;ac_nf
 | .str i,b,c,h1,h2=>by
  obtain⟨j,rfl⟩:∃ j,b=.str j:=by cases b<;>simp[eqK]at h1 ⊢
  obtain⟨k,rfl⟩:∃ j,c=.str j:=by cases c<;>simp[eqK]at h2 ⊢
  simp[eqK]at h1 h2 ⊢;rw[h1,h2]
 | .tup xs,b,c,h1,h2=>by
  obtain⟨ys,rfl⟩:∃ j,b=.tup j:=by cases b<;>simp[eqK]at h1 ⊢
  obtain⟨zs,rfl⟩:∃ j,c=.tup j:=by cases c<;>simp[eqK]at h2 ⊢
  rw[eqK]at h1 h2 ⊢
  exact eqKs_trans h1 h2
 | .non,_,_,h1,_=>by simp[eqK]at h1
 | .bl _,_,_,h1,_=>by simp[eqK]at h1
 | .lit _,_,_,h1,_=>by simp[eqK]at h1
 | .ref _,_,_,h1,_=>by simp[eqK]at h1
 | .dic _,_,_,h1,_=>by simp[eqK]at h1
theorem eqKs_trans:∀ {a b c:List D},eqKs a b=true->eqKs b c=true->eqKs a c=true
 | [],b,c,h1,h2=>by
  cases b with
  | nil=>exact h2
  | cons _ _=>simp[eqKs]at h1
 | x::xs,b,c,h1,h2=>by
  cases b with
  | nil=>simp[eqKs]at h1
  | cons y ys=>
   cases c with
   | nil=>simp[eqKs]at h2
   | cons z zs=>
    rw[eqKs,Bool.and_eq_true]at h1 h2 ⊢
    exact⟨Qf9 h1.1 h2.1,eqKs_trans h1.2 h2.2⟩
end
end MM
namespace MM
open PySem PyProof.Rows L2
section
open PySem.Builtin.Str
variable {prog:Program}{w:World}{A:Around}{E:Value->Shared->Prop}{s:Shared}
end
abbrev CF:=Str->Loc->M D
end MM
namespace MM
def sv (m:Nat):List Nat:=(List.range 4).filter fun i=>m.testBit i
open PySem PySem.W PyProof.Rows L2
def tb (led:Bool) (m:Nat):SetTable:=⟨7,(sv m).toArray,#[],0,led,0,true⟩
theorem free_ok:∀ led:Bool,∀ m:Nat,m < 16->∀ v:Nat,v < 4->m.testBit v=false->(tb led m).freeSlot (v:Int)=some (v,false):=by nofun
theorem Qga:∀ led:Bool,∀ m:Nat,m < 16->(tb led m).fits (sv m).length=true/\(tb led m).tooFull=false/\(sv m).length<=4:=by nofun
theorem Qgb (led:Bool):SetTable.fresh 0 0 led=tb led 0:=by cases led<;>rfl
theorem Paired.memL {α β:Type}{F:α->β->Prop}:∀ {l₁:List α}{l₂:List β},Paired F l₁ l₂->∀ a∈l₁,∃ b∈l₂,F a b
 | _,_,.nil,a,h=>by cases h
 | _,_,.cons r t,a,h=>by
  rcases List.mem_cons.mp h with e | e
  ·subst e;exact⟨_,by simp,r⟩
  ·obtain⟨b,hb,q⟩:=Paired.memL t a e;exact⟨b,by simp[hb],q⟩
theorem Paired.ins {α β:Type}{F:α->β->Prop}{a:α}{b:β} (r:F a b):∀ {l₁:List α}{l₂:List β} (p:Nat),Paired F l₁ l₂->Paired F (l₁.take p++a::l₁.drop p) (l₂.take p++b::l₂.drop p)
 | _,_,0,t=>.cons r t
 | _,_,p + 1,.nil=>.cons r .nil
 | _,_,p + 1,.cons q t=>.cons q (Paired.ins r p t)
section
variable {prog:Program}{w:World}{A:Around}{E:Value->Shared->Prop}{s:Shared}{a:Addr}{led:Bool}{m v:Nat}
theorem Qgc {b : Value} {Q₁ : Value -> Shared -> Prop}
  (h:Q₁ (.ref s.heap.objs.size) { s with heap:=s.heap.push { cls:=.type "set",data:=.set #[] 0 (tb (!w.params.followText "set-order") 0) } }):
  codeAny (model prog w) A (Code.call (.builtin "set.__new__") { pos:=[.type "set",b] }) (wants Q₁ E) s:=by
 refine codeAny_call_builtin F.plain_set_new F.entry_set_new ?_
 rw[F.newCall_set_1]
 refine wpAny_pure ?_
 unfold Builtin.«set.__new__»
 refine wpAny_bind ?_
 unfold Builtin.Frozenset.newClass
 dsimp only
 refine wpAny_bind (wpAny_pure ?_)
 rw[if_neg (by decide),sub_set_self]
 refine wpAny_bind (wpAny_pure ?_)
 rw[if_neg (by decide)]
 refine wpAny_pure (wpAny_bind ?_)
 unfold newSet setsByText
 refine wpAny_bind (wpAny_bind (wpAny_askSetting (wpAny_pure ?_)))
 dsimp only
 rw[Qgb]
 refine wpAny_newObj_type ?_ (by size_fits)
 exact wpAny_pure h
end
end MM
namespace MM
open PySem PySem.Spec PyProof.Rows L2
structure NameOk (x:Str):Prop where
 d:(x == ("__debug__":Str))=false
 c:(x == ("__classdict__":Str))=false
 n:x≠"__name__"
theorem nok {x:Str} (h:((x == ("__debug__":Str)) || (x == ("__classdict__":Str)) || decide (x=("__name__":Str)))=false):NameOk x:=by
 rw[Bool.or_eq_false_iff,Bool.or_eq_false_iff]at h
 exact⟨h.1.1,h.1.2,of_decide_eq_false h.2⟩
structure Sc (X:Cx) (sc:Scope):Prop where
 vis:∀ x k,sc.names.lookup x=some k->(k=.local\/k=.cell\/k=.free)->Vis X.env.scope x
 cel:∀ x,(sc.names.lookup x=some .cell\/sc.names.lookup x=some .free)->(X.env.kindOf x=some .cell\/X.env.kindOf x=some .free)
 glo:∀ x,sc.names.lookup x=some .globalImplicit->Gl X x
 loc:∀ x k,sc.names.lookup x=some k->(k=.local\/k=.cell)->L2.Loc X.env.scope x/\(X.fn x=true\/X.env.scope.names.lookup x=some .local)
 calm:X.calm=true
theorem Qgd {P : Program} {w : World} {K : PySem.W.Frag} {mg : Str -> Option Value} {base : Heap} {N : List Str} {qual : Str} {sc : Scope} {f : Addr} {cdv : Value} {A : Around} {outer : List Env} {s : Shared} {H : Hp} {E : XK} :
  Sc (cxOf CX0 P w K mg base N qual sc f cdv A outer s H E).nox sc where
 vis:=fun x k h hk=>by
  rcases hk with z | z | z<;>subst z
  ·exact .inl h
  ·exact .inr (.inl h)
  ·exact .inr (.inr h)
 cel:=fun x h=>h
 glo:=fun x h=>h
 loc:=fun x k h hk=>⟨by rcases hk with z | z<;>subst z;exact .inl h;exact .inr h,.inl rfl⟩
 calm:=rfl
theorem Qge {X:Cx}{N:List Str}{scope:Scope}{fp:List Addr}{s:Shared}{H:Hp} (hc:X.calm=true):Sc (cxC X N scope fp s H) scope where
 vis:=fun x k h hk=>by
  show (relabel scope X.env).names.lookup x=_\/(relabel scope X.env).names.lookup x=_\/(relabel scope X.env).names.lookup x=_
  rw[QdT,h,Option.map_some]
  rcases hk with z | z | z<;>subst z
  ·exact .inl rfl
  ·exact .inr (.inl rfl)
  ·by_cases hq:(NameKind.free == NameKind.free && X.env.scope.kind == .function && X.env.kindOf x == some .cell)=true
   ·rw[if_pos hq];exact .inr (.inl rfl)
   ·rw[if_neg hq];exact .inr (.inr rfl)
 cel:=fun x h=>by
  show (relabel scope X.env).names.lookup x=_\/(relabel scope X.env).names.lookup x=_
  rcases h with h | h<;>rw[QdT,h,Option.map_some]
  ·exact .inl rfl
  ·by_cases hq:(NameKind.free == NameKind.free && X.env.scope.kind == .function && X.env.kindOf x == some .cell)=true
   ·rw[if_pos hq];exact .inl rfl
   ·rw[if_neg hq];exact .inr rfl
 glo:=fun x h=>by
  show (relabel scope X.env).names.lookup x=_
  rw[QdT,h,Option.map_some];rfl
 loc:=fun x k h hk=>by
  refine⟨?_,.inl ?_⟩
  ·show (relabel scope X.env).names.lookup x=_\/(relabel scope X.env).names.lookup x=_
   rw[QdT,h,Option.map_some]
   rcases hk with z | z<;>subst z
   ·exact .inl rfl
   ·exact .inr rfl
  ·show decide (scope.names.lookup x=some .local\/scope.names.lookup x=some .cell)=true
   rw[h]
   rcases hk with z | z<;>subst z<;>decide
 calm:=hc
def compChk (sc scope:Scope):Bool:=
 (scope.kind == .function) && scope.names.all (fun p=>p.2 != .local || scope.names.lookup p.1 == some .local) &&
 scope.names.all (fun p=>p.2 != .free || ((sc.names.lookup p.1 == some .cell || sc.names.lookup p.1 == some .free) && !scope.names.contains (p.1,.cell) && scope.names.lookup p.1 != some .local))
theorem Qgf {X:Cx}{sc scope:Scope} (S:Sc X sc) (h:compChk sc scope=true):CompScope X scope:=by
 unfold compChk at h
 rw[Bool.and_eq_true,Bool.and_eq_true]at h
 obtain⟨⟨h1,h2⟩,h3⟩:=h
 rw[List.all_eq_true]at h2 h3
 have fr:∀ x,(x,NameKind.free)∈scope.names->(sc.names.lookup x=some .cell\/sc.names.lookup x=some .free)/\(x,NameKind.cell)∉scope.names/\scope.names.lookup x≠some .local:=fun x hx=>by
  have q:=h3 _ hx
  simp only[bne_self_eq_false,Bool.false_or,Bool.and_eq_true,Bool.or_eq_true,beq_iff_eq,Bool.not_eq_true',bne_iff_ne,ne_eq]at q
  obtain⟨⟨q1,q2⟩,q3⟩:=q
  refine⟨q1,fun z=>?_,q3⟩
  have:scope.names.contains (x,NameKind.cell)=true:=List.contains_iff_mem.mpr z
  rw[this]at q2;cases q2
 refine⟨by simpa using h1,fun p hp hl=>?_,fun x hx=>S.cel x (fr x hx).1,fun x hx=>(fr x hx).2.1,fun x hx=>(fr x hx).2.2⟩
 have q:=h2 p hp
 rw[hl]at q
 simpa using q
def namesChk (N0:List Str) (scope:Scope) (N:List Str) (n:Nat) (ix:List Nat):Bool:=
 N.length == n + ix.length && (List.range ix.length).all fun j=>match ix[j]?,N[n + j]? with
  | some i,some x=>N0[i]? == some x && scope.names.lookup x == some .free
  | _,_=>false
theorem Qgg {X:Cx}{N0:List Str}{scope:Scope}{N:List Str}{n:Nat}{ix:List Nat} (hX:X.N=N0) (h:namesChk N0 scope N n ix=true):CompNames X scope N n ix:=by
 unfold namesChk at h
 rw[Bool.and_eq_true,List.all_eq_true]at h
 refine⟨by simpa using h.1,fun j i x hj hx=>?_⟩
 have q:=h.2 j (List.mem_range.mpr (List.getElem?_eq_some_iff.mp hj).1)
 rw[hj,hx]at q
 simp only[Bool.and_eq_true,beq_iff_eq]at q
 rw[hX]
 exact q
section
variable {X:Cx}{sc:Scope}{a b c e o tg:Expr}{es:List Expr}{pos p:Pos}{fa fb fc:CE}{ca cb:CA}{x:Str}{T id:String}
theorem Qgh (S:Sc X sc) (i:Nat) (hN:X.N[i]?=some x) {k:NameKind} (h:sc.names.lookup x=some k) (n:NameOk x) (hk:k=.local\/k=.cell\/k=.free:=by decide):SE X (.Name x pos) (cVar i):=Qdh i (Qas hN (S.vis x k h hk) n.d n.c)
theorem Qgi (S:Sc X sc) (i:Nat) (nd:X.N.Nodup) (hN:X.N[i]?=some x) {k:NameKind} (h:sc.names.lookup x=some k) (hk:k=.local\/k=.cell:=by decide):SG X (.Name x pos) (gVar i):=
 QeB (QaN nd hN (S.loc x k h hk).1 (S.loc x k h hk).2)
theorem Qgj (S : Sc X sc) (i : Nat) (nd : X.N.Nodup) (hN : X.N[i]? = some x) {k : NameKind} (h : sc.names.lookup x = some k) {pos' : Pos} (he : SE X e fa) (hk : k = .local \/ k = .cell := by decide) (hs : swapsWith e (some (.Name x pos')) pos.line X.env = pure false := by rfl) :
  SS X (.Assign [.Name x pos'] e pos) (sAsg (gVar i) fa):=QeM nd hN (S.loc x k h hk).1 he hs (S.loc x k h hk).2
theorem Qgk {n:Nat} (h:∀ l st ds st',ca l st=.ok ds st'->ds.length=n):∀ l st ds st',cCons fa ca l st=.ok ds st'->ds.length=n + 1:=fun l st ds st' e=>by
 unfold cCons bnd at e
 cases q:fa l st with
 | ok d s1=>
  rw[q]at e
  dsimp only at e
  cases q2:ca l s1 with
  | ok es s2=>
   rw[q2]at e
   have:=h l s1 es s2 q2
   cases e
   simp[this]
  | exc _ _=>rw[q2]at e;cases e
  | bad=>rw[q2]at e;cases e
 | exc _ _=>rw[q]at e;cases e
 | bad=>rw[q]at e;cases e
theorem Qgl:∀ l st ds st',cNil l st=.ok ds st'->ds.length=0:=fun l st ds st' e=>by cases e;rfl
def KwBinds (K:PySem.W.Frag) (fd:FuncData) (ps:List Str):Prop:=∀ (s:Shared) (ws:List Value),ws.length=ps.length->BindsTo s fd ⟨[],ps.zip ws⟩ (ps.zip ws)
theorem Qgm {k n : Nat} {f : Addr} {fd : FuncData} {ps : List Str} {g : List D -> M D} (S : Sc X sc) (h : sc.names.lookup x = some .globalImplicit) (F : FnOk X.prog X.w X.K X.mg X.base CX0 k f fd ps (spOf X.K n g)) (hr : Room k X.A) (hm : X.mg x = some (.ref f))
  (hk:PySem.W.keepIn X.K (.ref f)=true) (hb:Binds X.K fd ps []) (nk:NameOk x) (ha:SA X (e::es) ca) (hn:∀ l st ds st',ca l st=.ok ds st'->ds.length=n)
  (he:starEach (e::es) X.env=(false,eval e X.env)::starEach es X.env:=by rfl) (hpl:(backTo pos (starEach es X.env)).any (·.1)=false:=by rfl):SE X (.Call (.Name x p) (e::es) [] pos) (cCall g ca):=
 Qeo F hr (S.glo x h) hm hk hb QcH ha hn nk.d he hpl
end
theorem Qgn {k:Nat}{X:Cx} (h:Room k X.A):X.A.units + 60 < cLine:=by have:=h.units;ac_nf
theorem Qgo {P : Program} {w : World} {K : PySem.W.Frag} {mg : Str -> Option Value} {base : Heap} {x qual : Str} {sd : Stmt} {f : Addr} {fd : FuncData} {N ps : List Str} {k n m : Nat} {body : CS} (F : Fun K x qual sd f fd) (S : FnScope N ps (defScope sd)) (hn : ps.length = n) (hm : N.length = m)
  (hbody:∀ (cdv:Value) (A:Around) (outer:List Env) (s:Shared) (H:Hp) (E:XK),Room k (A.deeper (envOfC qual (defScope sd) s.heap.objs.size f cdv))->SSs (cxOf CX0 P w K mg base N qual (defScope sd) f cdv A outer s H E).nox (defBody sd) body):
  FnOk P w K mg base CX0 (k + 1) f fd ps (spOf K n (runDef m body)):=by
 subst hn hm
 exact QeQ F S hbody
theorem Qgp {K:PySem.W.Frag}{ρ:List Addr}{H:Hp}:∀ (ns:List Int),Reps K ρ H (ns.map V.int) (ns.map D.int)
 | []=>.nil
 | n::ns=>.cons (.int n) (Qgp ns)
theorem Qgq {K : PySem.W.Frag} {H : Hp} {a : Addr} {ns : List Int} {g : List D -> M D} (hO : Only H) (hS : SqL K H a (ns.map V.int)) (h : ∃ st', g [.lit (ns.map D.int)] [] = .ok (.bl true) st') :
  spOf K 1 g [.ref a] H (fun v _=>v=.bl true) fun _ _ _=>False:=by
 obtain⟨st',e⟩:=h
 have fz:FzL K H a (ns.map V.int):=by
  rcases hS with (h | ⟨o,h⟩) | h
  ·rcases hO a with z | ⟨ob,xs,z⟩<;>(rw[z]at h;cases h)
  ·exact .inl ⟨o,h⟩
  ·exact .inr h
 refine⟨rfl,[],[],_,⟨rfl,List.nodup_nil,fun n b o z=>by cases z⟩,.cons (.lit fz (Qgp ns)) .nil,?_⟩
 rw[e]
 intro ρ' H' _ _ v rv
 cases rv
 rfl
@[elab_as_elim] theorem le1 {A:Type}{P:List A->Prop} (h:∀ a,P [a]) (us:List A) (hl:us.length=1):P us:=by
 cases us with
 | nil=>cases hl
 | cons a t=>cases t with
  | nil=>exact h a
  | cons b u=>simp at hl
@[elab_as_elim] theorem le2 {A:Type}{P:List A->Prop} (h:∀ a0 a1,P [a0,a1]) (us:List A) (hl:us.length=2):P us:=by
 cases us with
 | nil=>cases hl
 | cons a t=>exact le1 (P:=fun t=>P (a::t)) (h a) t (Nat.succ.inj hl)
@[elab_as_elim] theorem le3 {A:Type}{P:List A->Prop} (h:∀ a0 a1 a2,P [a0,a1,a2]) (us:List A) (hl:us.length=3):P us:=by
 cases us with
 | nil=>cases hl
 | cons a t=>exact le2 (P:=fun t=>P (a::t)) (h a) t (Nat.succ.inj hl)
@[elab_as_elim] theorem le4 {A:Type}{P:List A->Prop} (h:∀ a0 a1 a2 a3,P [a0,a1,a2,a3]) (us:List A) (hl:us.length=4):P us:=by
 cases us with
 | nil=>cases hl
 | cons a t=>exact le3 (P:=fun t=>P (a::t)) (h a) t (Nat.succ.inj hl)
@[elab_as_elim] theorem le5 {A:Type}{P:List A->Prop} (h:∀ a0 a1 a2 a3 a4,P [a0,a1,a2,a3,a4]) (us:List A) (hl:us.length=5):P us:=by
 cases us with
 | nil=>cases hl
 | cons a t=>exact le4 (P:=fun t=>P (a::t)) (h a) t (Nat.succ.inj hl)
def Kt (h h':Heap):Prop:=∀ c o,h.get? c=some o->o.cls=.type "tuple"->h'.get? c=some o
structure TKd (prog:Program) (w:World) (K:Type) [DecidableEq K] where
 is:Heap->K->Addr->Prop
 hash:K->Int
 draws:K->Nat
 keep:∀ {h h':Heap}{k:K}{b:Addr},Kt h h'->is h k b->is h' k b
 hashes:∀ {A:Around}{E:Value->Shared->Prop}{s:Shared}{k:K}{b:Addr}{Q:Int->Shared->Prop},A.units + 1 < cLine->is s.heap k b->Q (hash k) { s with toks:=s.toks + draws k }->wpAny (model prog w) A (pyHash (.ref b)) Q E s
 eqs:∀ {A:Around}{E:Value->Shared->Prop}{s:Shared}{x y:K}{a b:Addr}{Q:Bool->Shared->Prop},A.units + 1 < cLine->is s.heap x a->is s.heap y b->Q (decide (x=y)) s->wpAny (model prog w) A (eqBool (.ref a) (.ref b)) Q E s
 quiet:∀ {A:Around}{E:Value->Shared->Prop}{s:Shared}{k:K}{b:Addr}{Q:Bool->Shared->Prop},is s.heap k b->Q true s->wpAny (model prog w) A (eqIsQuiet 8 (.ref b)) Q E s
 cls:∀ {A:Around}{E:Value->Shared->Prop}{s:Shared}{k:K}{b:Addr}{Q:Bool->Shared->Prop},is s.heap k b->Q false s->wpAny (model prog w) A (ofAClassStatement 8 (.ref b)) Q E s
 byv:∀ {A:Around}{E:Value->Shared->Prop}{s:Shared}{k:K}{b:Addr}{Q:Bool->Shared->Prop},is s.heap k b->Q true s->wpAny (model prog w) A (hashByValue 8 (.ref b)) Q E s
section
variable {prog:Program}{w:World}{K:Type} [DecidableEq K] (T:TKd prog w K)
def EnT (h:Heap) (e:Int × Value) (k:K):Prop:=e.1=T.hash k/\∃ b,e.2=.ref b/\T.is h k b
variable {T}
variable {A:Around}{E:Value->Shared->Prop}{s:Shared}{a:Addr}{led:Bool}{m:Nat}{key:Nat->K}{es:Array (Int × Value)}
theorem Paired.get {α β:Type}{F:α->β->Prop}:∀ {l₁:List α}{l₂:List β},Paired F l₁ l₂->∀ (i:Nat) (b:β),l₂[i]?=some b->∃ a,l₁[i]?=some a/\F a b
 | _,_,.nil,i,b,h=>by simp at h
 | _,_,.cons r t,0,b,h=>by simp at h;subst h;exact⟨_,rfl,r⟩
 | _,_,.cons r t,i + 1,b,h=>by simpa using Paired.get t i b (by simpa using h)
theorem Qgr {x:Addr}{k:K}{Q:Bool->Shared->Prop} (hx:T.is s.heap k x) (q:Q false s):∀ (ys:List Value),(∀ y∈ys,∃ b k',y=.ref b/\T.is s.heap k' b)->wpAny (model prog w) A (searchCouldBeSeen (.ref x) ys) Q E s:=by
 intro ys hy
 unfold searchCouldBeSeen
 refine wpAny_bind ?_
 refine wpAny_forIn_list _ (fun rest (b:Option Bool × Unit) s'=>s'=s/\b=(none,())/\∀ y∈rest,∃ b k',y=Value.ref b/\T.is s.heap k' b) _ ?_ ?_ _ _ ⟨rfl,rfl,hy⟩
 ·rintro y rest b s' ⟨rfl,rfl,hr⟩
  obtain⟨c,k',rfl,hc⟩:=hr y (by simp)
  have hr':∀ y∈rest,∃ b k',y=Value.ref b/\T.is s'.heap k' b:=fun y h=>hr y (by simp[h])
  dsimp only
  by_cases hv:(x == c)=true
  ·rw[hv]
   exact wpAny_pure ⟨rfl,rfl,hr'⟩
  ·have hv':(x == c)=false:=by simpa using hv
   rw[hv']
   rw[if_neg (by simp[carriedByValue])]
   refine wpAny_bind (T.quiet hx ?_)
   rw[if_neg (by decide)]
   refine wpAny_bind (T.quiet hc ?_)
   rw[if_neg (by decide)]
   refine wpAny_bind (T.cls hx ?_)
   rw[if_neg (by decide)]
   refine wpAny_bind (T.cls hc ?_)
   rw[if_neg (by decide)]
   exact wpAny_pure ⟨rfl,rfl,hr'⟩
 ·rintro b s' ⟨rfl,rfl,_⟩
  exact wpAny_pure q
theorem Paired.imp' {α β:Type}{F G:α->β->Prop} (f:∀ a b,F a b->G a b):∀ {l₁:List α}{l₂:List β},Paired F l₁ l₂->Paired G l₁ l₂
 | _,_,.nil=>.nil
 | _,_,.cons r t=>.cons (f _ _ r) (Paired.imp' f t)
def onto (acc:List K) (k:K):List K:=if k∈acc then acc else acc++[k]
theorem Qgs {o:Obj}{h h':Heap} (g:h.get? a=some o) (c:o.ExactSet) (sb:Heap.SameBut a h h'):Kt h h':=fun b o' e hc=>by
 by_cases z:b=a
 ·subst z
  rw[g]at e;cases e
  rw[c.1]at hc
  exact absurd hc (by decide)
 ·rw[sb.2 b z];exact e
end
section
variable {prog:Program}{w:World}{K:Type} [DecidableEq K] {T:TKd prog w K}{A:Around}{E:Value->Shared->Prop}{s:Shared}{a:Addr}{led:Bool}{m:Nat}{key:Nat->K}
theorem Qgt (acc:List K) (k:K):(onto acc k).length<=acc.length + 1:=by
 unfold onto
 split
 ·ac_nf
 ·simp
end
section
variable {prog:Program}{w:World}{A:Around}{E:Value->Shared->Prop}{s:Shared}
theorem Qgu {d:Nat}{i:Int}{t:Tok}:ofAClassStatement d (.int i t)=pure false:=by cases d<;>rfl
theorem Qgv {d:Nat}{i:Int}{t:Tok}:hashByValue d (.int i t)=pure true:=by cases d<;>rfl
theorem items_int {k:List Int}{vs:List Value} (h:ItemsAre (intKind prog w) k vs):∀ v∈vs,∃ i t,v=Value.int i t:=by
 induction h with
 | nil=>simp
 | cons h1 h2 ih=>
  intro v hv
  rcases List.mem_cons.mp hv with z | z
  ·subst z
   cases v with
   | int i t=>exact⟨i,t,rfl⟩
   | _=>exact nomatch h1
  ·exact ih v z
end
structure RF where
 n:Nat
 k:Nat
 ps:List Str
 kw:Bool
 g:List D->M D
structure RC where
 sc:Scope
 N:List Str
 k:Nat
 G:List (Str × RF)
 Z:List Str
 C:List (Str × D)
 H:List (Nat × Nat × Nat)
 top:Bool
def RC.tag (c:RC) (p:Pos) (t:Nat):Bool:=c.H.contains (p.line,p.col,t)
def RC.glo (c:RC) (x:Str):Bool:=c.sc.names.lookup x == some .globalImplicit
def nokB (x:Str):Bool := !((x == ("__debug__":Str)) || (x == ("__classdict__":Str)) || decide (x=("__name__":Str)))
theorem Qgw {x:Str} (h:nokB x=true):NameOk x:=nok (by unfold nokB at h;simpa only[Bool.not_eq_true'] using h)
structure GF (P:Program) (w:World) (K:PySem.W.Frag) (mg:Str->Option Value) (base:Heap) (x:Str) (r:RF):Prop where
 ex:∃ f fd,mg x=some (.ref f)/\FnOk P w K mg base CX0 r.k f fd r.ps (spOf K r.n r.g)/\PySem.W.keepIn K (.ref f)=true/\Binds K fd r.ps []/\(r.kw=true->KwBinds K fd r.ps)
structure Good (X:Cx) (c:RC):Prop where
 S:Sc X c.sc
 N:X.N=c.N
 nd:X.N.Nodup
 hr:Room c.k X.A
 G:∀ x r,c.G.lookup x=some r->GF X.prog X.w X.K X.mg X.base x r
 Z:∀ x,c.Z.contains x=true->X.mg x=none
 C:∀ x d,c.C.lookup x=some d->∃ v u,X.mg x=some u/\RelV v u/\∀ ρ H,Rep X.K ρ H v d
 ps:PassesOwn (model X.prog X.w) X.A X.env X.xe
 kd:c.top=true->X.env.blockKind=.function/\∀ x,X.env.kindOf x=c.sc.names.lookup x
theorem Good.hu {X:Cx}{c:RC} (g:Good X c):X.A.units + 60 < cLine:=Qgn g.hr
structure Rec where
 e:RC->Expr->Option CE
 l:RC->Expr->Option CA
 t:RC->Expr->Option CT
 i:RC->Expr->Expr->Option CI
 g:RC->Expr->Option CG
 s:RC->Stmt->Option CS
structure RecOk (q:Rec):Prop where
 e:∀ {X c},Good X c->∀ {x r},q.e c x=some r->SE X x r
 l:∀ {X c},Good X c->∀ {x r},q.l c x=some r->SL X x r
 t:∀ {X c},Good X c->∀ {x r},q.t c x=some r->ST X x r
 i:∀ {X c},Good X c->∀ {tg x r},q.i c tg x=some r->SI X tg x r
 g:∀ {X c},Good X c->∀ {x r},q.g c x=some r->SG X x r
 s:∀ {X c},Good X c->∀ {x r},q.s c x=some r->SS X x r
structure RuE where
 f:Rec->RC->Expr->Option CE
 ok:∀ {q},RecOk q->∀ {X c},Good X c->∀ {x r},f q c x=some r->SE X x r
structure RuL where
 f:Rec->RC->Expr->Option CA
 ok:∀ {q},RecOk q->∀ {X c},Good X c->∀ {x r},f q c x=some r->SL X x r
structure RuT where
 f:Rec->RC->Expr->Option CT
 ok:∀ {q},RecOk q->∀ {X c},Good X c->∀ {x r},f q c x=some r->ST X x r
structure RuI where
 f:Rec->RC->Expr->Expr->Option CI
 ok:∀ {q},RecOk q->∀ {X c},Good X c->∀ {tg x r},f q c tg x=some r->SI X tg x r
structure RuG where
 f:Rec->RC->Expr->Option CG
 ok:∀ {q},RecOk q->∀ {X c},Good X c->∀ {x r},f q c x=some r->SG X x r
structure RuS where
 f:Rec->RC->Stmt->Option CS
 ok:∀ {q},RecOk q->∀ {X c},Good X c->∀ {x r},f q c x=some r->SS X x r
structure Rules where
 e:List RuE
 l:List RuL
 t:List RuT
 i:List RuI
 g:List RuG
 s:List RuS
def fst1 {α β:Type} (f:α->Option β):List α->Option β
 | []=>none
 | a::as=>match f a with
  | some b=>some b
  | none=>fst1 f as
theorem Qgx {α β:Type}{f:α->Option β}{r:β}:∀ {l:List α},fst1 f l=some r->∃ a,f a=some r
 | [],h=>nomatch h
 | a::as,h=>by
  unfold fst1 at h
  cases e:f a with
  | some b=>rw[e]at h;exact⟨a,by rw[e];exact h⟩
  | none=>rw[e]at h;exact Qgx h
def recN (R:Rules):Nat->Rec
 | 0=>⟨fun _ _=>none,fun _ _=>none,fun _ _=>none,fun _ _ _=>none,fun _ _=>none,fun _ _=>none⟩
 | n + 1 => ⟨fun c x => fst1 (fun r => r.f (recN R n) c x) R.e, fun c x => fst1 (fun r => r.f (recN R n) c x) R.l, fun c x => fst1 (fun r => r.f (recN R n) c x) R.t,
   fun c tg x=>fst1 (fun r=>r.f (recN R n) c tg x) R.i,fun c x=>fst1 (fun r=>r.f (recN R n) c x) R.g,fun c x=>fst1 (fun r=>r.f (recN R n) c x) R.s⟩
theorem Qgy (R:Rules):∀ n,RecOk (recN R n)
 | 0=>⟨fun _ _ _ h=>(nomatch h),fun _ _ _ h=>(nomatch h),fun _ _ _ h=>(nomatch h),fun _ _ _ _ h=>(nomatch h),fun _ _ _ h=>(nomatch h),fun _ _ _ h=>(nomatch h)⟩
 | n + 1=>by
  have ih:=Qgy R n
  exact⟨fun g _ _ h=>let ⟨a,q⟩:=Qgx h;a.ok ih g q,fun g _ _ h=>let ⟨a,q⟩:=Qgx h;a.ok ih g q,fun g _ _ h=>let ⟨a,q⟩:=Qgx h;a.ok ih g q,
   fun g _ _ _ h=>let ⟨a,q⟩:=Qgx h;a.ok ih g q,fun g _ _ h=>let ⟨a,q⟩:=Qgx h;a.ok ih g q,fun g _ _ h=>let ⟨a,q⟩:=Qgx h;a.ok ih g q⟩
def plE:Expr->Bool
 | .Starred .. => false
 | _=>true
theorem Qgz {e:Expr}{es:List Expr}{env:Env} (h:plE e=true):starEach (e::es) env=(false,eval e env)::starEach es env:=by
 cases e<;>first | rfl | exact nomatch h
theorem QgA {env:Env}{pos:Pos}:∀ {es:List Expr},es.all plE=true->(backTo pos (starEach es env)).any (·.1)=false
 | [],_=>rfl
 | e::es,h=>by
  rw[List.all_cons,Bool.and_eq_true]at h
  rw[Qgz h.1]
  exact QgA h.2
theorem QgB {env:Env}{pos:Pos}:∀ {es:List Expr},es.all plE=true->(backTo pos (starEach es env)).all (fun x => !x.1)=true
 | [],_=>rfl
 | e::es,h=>by
  rw[List.all_cons,Bool.and_eq_true]at h
  rw[Qgz h.1]
  exact QgB h.2
def ncE:Expr->Bool
 | .ListComp .. => false
 | .SetComp .. => false
 | .DictComp .. => false
 | _=>true
theorem QgC {e:Expr}{t:Option Expr}{n:Nat}{env:Env} (h:ncE e=true):swapsWith e t n env=pure false:=by
 cases e<;>first | rfl | exact nomatch h
def nsE:Expr->Bool
 | .Set .. => false
 | _=>true
theorem QgD {e:Expr}{env:Env} (h:nsE e=true) (x:Value):foldedSetIterable e env x=pure x:=by
 cases e<;>first | rfl | exact nomatch h
theorem QgE {op:CmpOp}{e:Expr} (h:nsE e=true):behindInMarks op e=false:=by
 cases e<;>first | rfl | exact nomatch h
def baE:Expr->Bool
 | .Call _ [] _ _=>false
 | _=>true
theorem QgF {e:Expr}{x:Str}{env:Env}{w:Sem Value} (h:baE e=true):attributeBase e x env w=w:=by
 cases e with
 | Call f as ks p=>
  cases as with
  | nil=>exact nomatch h
  | cons a as=>unfold attributeBase;cases f<;>rfl
 | _=>rfl
def slE:Expr->Bool
 | .Slice .. => false
 | _=>true
theorem plix {e:Expr} (h:slE e=true):PlainIx e:=by
 intro o i
 cases e<;>first | rfl | exact nomatch h
def tvE:Expr->Bool
 | .Compare .. => false
 | .BoolOp .. => false
 | .UnaryOp .. => false
 | .IfExp .. => false
 | _=>true
theorem tv0 {e:Expr}{env:Env} (h:tvE e=true) (w:Sem Value):PySem.isTrue e env w=(do let v <- w;standAt e.pos;holding [v] (truthy v)):=by
 cases e<;>first | rfl | exact nomatch h
def argC (q:Rec) (c:RC):List Expr->Option CA
 | []=>some cNil
 | e::es=>if plE e=true then (q.e c e).bind fun fa=>(argC q c es).bind fun ca=>some (cCons fa ca) else none
theorem QgG {q:Rec} (hq:RecOk q) {X:Cx}{c:RC} (g:Good X c):∀ {es:List Expr}{ca:CA},argC q c es=some ca->SA X es ca/\es.all plE=true/\∀ l st ds st',ca l st=.ok ds st'->ds.length=es.length
 | [],ca,h=>by
  cases h;exact⟨Qee,rfl,Qgl⟩
 | e::es,ca,h=>by
  unfold argC at h
  rw[Option.ite_none_right_eq_some]at h
  obtain⟨hp,h⟩:=h
  rw[Option.bind_eq_some_iff]at h
  obtain⟨fa,ha,h⟩:=h
  rw[Option.bind_eq_some_iff]at h
  obtain⟨cb,hb,h⟩:=h
  cases h
  obtain⟨x,y,z⟩:=QgG hq g hb
  exact⟨Qef (hq.e g ha) x (Qgz hp),by rw[List.all_cons,hp,y];rfl,Qgk z⟩
def optC (q:Rec) (c:RC):Option Expr->Option CO
 | none=>some oNone
 | some e=>(q.e c e).bind fun f=>some (oSome f)
theorem QgH {q:Rec} (hq:RecOk q) {X:Cx}{c:RC} (g:Good X c) {e:Option Expr}{f:CO} (h:optC q c e=some f):SO X e f:=by
 cases e with
 | none=>cases h;exact Qfx
 | some e=>
  unfold optC at h
  rw[Option.bind_eq_some_iff]at h
  obtain⟨fa,ha,h⟩:=h
  cases h
  exact Qfy (hq.e g ha)
def blkC (q:Rec) (c:RC):List Stmt->Option CS
 | []=>some sNext
 | s::ss=>(q.s c s).bind fun a=>(blkC q c ss).bind fun b=>some (sSeq a b)
theorem QgI {q:Rec} (hq:RecOk q) {X:Cx}{c:RC} (g:Good X c):∀ {ss:List Stmt}{f:CS},blkC q c ss=some f->SSs X ss f
 | [],f,h=>by cases h;exact QeF
 | s::ss,f,h=>by
  unfold blkC at h
  rw[Option.bind_eq_some_iff]at h
  obtain⟨fa,ha,h⟩:=h
  rw[Option.bind_eq_some_iff]at h
  obtain⟨cb,hb,h⟩:=h
  cases h
  exact QeG (hq.s g ha) (QgI hq g hb)
def varC (c:RC) (x:Str):Option Nat:=if c.N[c.N.idxOf x]?=some x/\(c.sc.names.lookup x=some .local\/c.sc.names.lookup x=some .cell\/c.sc.names.lookup x=some .free)/\nokB x=true then some (c.N.idxOf x) else none
def rVar:RuE:=⟨fun _ c e=>match e with
 | .Name x _=>(varC c x).bind fun i=>some (cVar i)
 | _=>none,fun {q} hq {X c} g {e r} h=>by
 split at h
 ·rename_i x p
  rw[Option.bind_eq_some_iff]at h
  obtain⟨i,hi,h⟩:=h
  cases h
  unfold varC at hi
  rw[Option.ite_none_right_eq_some]at hi
  obtain⟨⟨h1,h2,h3⟩,h4⟩:=hi
  cases h4
  have h1:X.N[c.N.idxOf x]?=some x:=by rw[g.N];exact h1
  rcases h2 with h2 | h2 | h2
  ·exact Qgh g.S _ h1 h2 (Qgw h3) (.inl rfl)
  ·exact Qgh g.S _ h1 h2 (Qgw h3) (.inr (.inl rfl))
  ·exact Qgh g.S _ h1 h2 (Qgw h3) (.inr (.inr rfl))
 ·cases h⟩
def rInt:RuE:=⟨fun _ _ e=>match e with
 | .Constant (.int i) _ _=>some (cCon (.int i))
 | _=>none,fun {q} hq {X c} g {e r} h=>by
 split at h
 ·cases h;exact Qdi
 ·cases h⟩
def rStr:RuE:=⟨fun _ _ e=>match e with
 | .Constant (.str i) _ _=>some (cCon (.str i))
 | _=>none,fun {q} hq {X c} g {e r} h=>by
 split at h
 ·cases h;exact Qdl
 ·cases h⟩
def rBl:RuE:=⟨fun _ _ e=>match e with
 | .Constant (.bool i) _ _=>some (cCon (.bl i))
 | _=>none,fun {q} hq {X c} g {e r} h=>by
 split at h
 ·cases h;exact Qdj
 ·cases h⟩
def rNon:RuE:=⟨fun _ _ e=>match e with
 | .Constant .none _ _=>some (cCon .non)
 | _=>none,fun {q} hq {X c} g {e r} h=>by
 split at h
 ·cases h;exact Qdk
 ·cases h⟩
def rKeep:RuE:=⟨fun q c e=>(q.l c e).bind fun a=>some (cKeep a),fun {q} hq {X c} g {e r} h=>by
 rw[Option.bind_eq_some_iff]at h
 obtain⟨a,ha,h⟩:=h
 cases h
 exact Qei (hq.l g ha)⟩
abbrev OpU (op:Operator) (f:D->D->M D):Prop:=∀ {X:Cx},X.A.units + 60 < cLine->OpR X (binaryOp op) (rOf X.K f)
abbrev CmU (op:CmpOp) (f:D->D->M D):Prop:=∀ {X:Cx},X.A.units + 60 < cLine->OpR X (compareOp op) (rOf X.K f)
def rOp (o:Operator) (f:D->D->M D) (h:OpU o f):RuE:=⟨fun q c e=>match e with
 | .BinOp a op b _=>if op=o then (q.e c a).bind fun fa=>(q.e c b).bind fun fb=>some (c2 f fa fb) else none
 | _=>none,fun {q} hq {X c} g {e r} z=>by
 split at z
 ·simp only[Option.ite_none_right_eq_some,Option.bind_eq_some_iff]at z
  obtain⟨rfl,fa,ha,fb,hb,z⟩:=z
  cases z
  exact Qdn (h g.hu) (hq.e g ha) (hq.e g hb)
 ·cases z⟩
structure RuC where
 f:Rec->RC->Expr->Option CE
 ok:∀ {q},RecOk q->∀ {X c},Good X c->∀ {x r},f q c x=some r->SE X x r/\ST X x (tCmpB r)
def RuC.e (r:RuC):RuE:=⟨r.f,fun hq _ _ g _ _ h=>(r.ok hq g h).1⟩
def RuC.t (r:RuC):RuT:=⟨fun q c e=>(r.f q c e).bind fun f=>some (tCmpB f),fun {q} hq {X c} g {e x} h=>by
 rw[Option.bind_eq_some_iff]at h
 obtain⟨f,hf,h⟩:=h
 cases h
 exact (r.ok hq g hf).2⟩
def rCmp (o:CmpOp) (f:D->D->M D) (h:CmU o f):RuC:=⟨fun q c e=>match e with
 | .Compare a [op] [b] _=>if op=o/\nsE b=true then (q.e c a).bind fun fa=>(q.e c b).bind fun fb=>some (c2 f fa fb) else none
 | _=>none,fun {q} hq {X c} g {e r} z=>by
 split at z
 ·simp only[Option.ite_none_right_eq_some,Option.bind_eq_some_iff]at z
  obtain⟨⟨rfl,hb0⟩,fa,ha,fb,hb,z⟩:=z
  cases z
  exact⟨Qdo (h g.hu) (hq.e g ha) (hq.e g hb) (QgE hb0),Qer (h g.hu) (hq.e g ha) (hq.e g hb) (QgE hb0)⟩
 ·cases z⟩
def rInTmp:RuC:=⟨fun q c e=>match e with
 | .Compare a [.In] [b] _=>if nsE b=true then (q.l c b).bind fun fb=>(q.e c a).bind fun fa=>some (cInTmp inL fa fb) else none
 | _=>none,fun {q} hq {X c} g {e r} z=>by
 split at z
 ·simp only[Option.ite_none_right_eq_some,Option.bind_eq_some_iff]at z
  obtain⟨hb0,fb,hb,fa,ha,z⟩:=z
  cases z
  exact⟨QfR (hq.e g ha) (hq.l g hb) (QgE hb0),QfT (hq.e g ha) (hq.l g hb) (QgE hb0)⟩
 ·cases z⟩
def rNinTmp:RuC:=⟨fun q c e=>match e with
 | .Compare a [.NotIn] [b] _=>if nsE b=true then (q.l c b).bind fun fb=>(q.e c a).bind fun fa=>some (cInTmp ninL fa fb) else none
 | _=>none,fun {q} hq {X c} g {e r} z=>by
 split at z
 ·simp only[Option.ite_none_right_eq_some,Option.bind_eq_some_iff]at z
  obtain⟨hb0,fb,hb,fa,ha,z⟩:=z
  cases z
  exact⟨QfS (hq.e g ha) (hq.l g hb) (QgE hb0),QfU (hq.e g ha) (hq.l g hb) (QgE hb0)⟩
 ·cases z⟩
def rAnd:RuE:=⟨fun q c e=>match e with
 | .BoolOp .And [a,b] _=>(q.e c a).bind fun fa=>(q.e c b).bind fun fb=>some (cAnd fa fb)
 | .BoolOp .And (a::b::d::r) p=>(q.e c a).bind fun fa=>(q.e c (.BoolOp .And (b::d::r) p)).bind fun fb=>some (cAnd fa fb)
 | _=>none,fun {q} hq {X c} g {e r} z=>by
 split at z
 ·simp only[Option.bind_eq_some_iff]at z
  obtain⟨fa,ha,fb,hb,z⟩:=z
  cases z
  exact Qey (hq.e g ha) (Qex (hq.e g hb))
 ·simp only[Option.bind_eq_some_iff]at z
  obtain⟨fa,ha,fb,hb,z⟩:=z
  cases z
  exact Qey (hq.e g ha) (hq.e g hb)
 ·cases z⟩
def rOr:RuE:=⟨fun q c e=>match e with
 | .BoolOp .Or [a,b] _=>(q.e c a).bind fun fa=>(q.e c b).bind fun fb=>some (cOr fa fb)
 | .BoolOp .Or (a::b::d::r) p=>(q.e c a).bind fun fa=>(q.e c (.BoolOp .Or (b::d::r) p)).bind fun fb=>some (cOr fa fb)
 | _=>none,fun {q} hq {X c} g {e r} z=>by
 split at z
 ·simp only[Option.bind_eq_some_iff]at z
  obtain⟨fa,ha,fb,hb,z⟩:=z
  cases z
  exact Qez (hq.e g ha) (Qex (hq.e g hb))
 ·simp only[Option.bind_eq_some_iff]at z
  obtain⟨fa,ha,fb,hb,z⟩:=z
  cases z
  exact Qez (hq.e g ha) (hq.e g hb)
 ·cases z⟩
def rNeg:RuE:=⟨fun q c e=>match e with
 | .UnaryOp .USub a _=>(q.e c a).bind fun fa=>some (c1 negD fa)
 | _=>none,fun {q} hq {X c} g {e r} z=>by
 split at z
 ·simp only[Option.bind_eq_some_iff]at z
  obtain⟨fa,ha,z⟩:=z
  cases z
  exact QfQ QfP (hq.e g ha)
 ·cases z⟩
def rIfE:RuE:=⟨fun q c e=>match e with
 | .IfExp t a b _=>(q.t c t).bind fun ft=>(q.e c a).bind fun fa=>(q.e c b).bind fun fb=>some (cIfE ft fa fb)
 | _=>none,fun {q} hq {X c} g {e r} z=>by
 split at z
 ·simp only[Option.bind_eq_some_iff]at z
  obtain⟨ft,ht,fa,ha,fb,hb,z⟩:=z
  cases z
  exact QeA (hq.t g ht) (hq.e g ha) (hq.e g hb)
 ·cases z⟩
def rTup:RuE:=⟨fun q c e=>match e with
 | .Tuple es _ _=>(argC q c es).bind fun ca=>some (cTup ca)
 | _=>none,fun {q} hq {X c} g {e r} z=>by
 split at z
 ·simp only[Option.bind_eq_some_iff]at z
  obtain⟨ca,ha,z⟩:=z
  cases z
  exact Qeg (QgG hq g ha).1
 ·cases z⟩
def rSliceT:RuE:=⟨fun q c e=>match e with
 | .Subscript a (.Slice lo hi none _) p=>if c.tag p 1=true then (q.e c a).bind fun fa=>(optC q c lo).bind fun fl=>(optC q c hi).bind fun fh=>some (cSliceT fa fl fh) else none
 | _=>none,fun {q} hq {X c} g {e r} z=>by
 split at z
 ·simp only[Option.ite_none_right_eq_some,Option.bind_eq_some_iff]at z
  obtain⟨_,fa,ha,fl,hl,fh,hh,z⟩:=z
  cases z
  exact Qf4 (hq.e g ha) (QgH hq g hl) (QgH hq g hh)
 ·cases z⟩
def rTmpSub:RuE:=⟨fun q c e=>match e with
 | .Subscript a b _=>if slE b=true then (q.l c a).bind fun fa=>(q.e c b).bind fun fb=>some (cTmpSub fa fb) else none
 | _=>none,fun {q} hq {X c} g {e r} z=>by
 split at z
 ·simp only[Option.ite_none_right_eq_some,Option.bind_eq_some_iff]at z
  obtain⟨hs,fa,ha,fb,hb,z⟩:=z
  cases z
  exact Qen (hq.l g ha) (hq.e g hb) (plix hs)
 ·cases z⟩
def rSub:RuE:=⟨fun q c e=>match e with
 | .Subscript a b _=>if slE b=true then (q.e c a).bind fun fa=>(q.e c b).bind fun fb=>some (c2 subsD fa fb) else none
 | _=>none,fun {q} hq {X c} g {e r} z=>by
 split at z
 ·simp only[Option.ite_none_right_eq_some,Option.bind_eq_some_iff]at z
  obtain⟨hs,fa,ha,fb,hb,z⟩:=z
  cases z
  exact Qem g.hu (hq.e g ha) (hq.e g hb) (plix hs)
 ·cases z⟩
def rDNew:RuE:=⟨fun q c e=>match e with
 | .Dict [] [] p=>some (cDNew (c.tag p 2))
 | _=>none,fun {q} hq {X c} g {e r} z=>by
 split at z
 ·cases z
  rename_i p
  cases c.tag p 2
  ·exact Qf6
  ·exact Qf8
 ·cases z⟩
def meth0 (x:String) (f:CE->CE) (h:∀ {X:Cx}{o:Expr}{fa:CE}{apos cpos:Pos},SE X o fa->attributeBase o (Str.ofString x) X.env (eval o X.env)=eval o X.env->(apos.endLine == cpos.line)=true->SE X (.Call (.Attribute o (Str.ofString x) apos) [] [] cpos) (f fa)):RuE:=
 ⟨fun q c e=>match e with
 | .Call (.Attribute o y ap) [] [] cp=>if y=Str.ofString x/\baE o=true/\(ap.endLine == cp.line)=true then (q.e c o).bind fun fa=>some (f fa) else none
 | _=>none,fun {q} hq {X c} g {e r} z=>by
 split at z
 ·simp only[Option.ite_none_right_eq_some,Option.bind_eq_some_iff]at z
  obtain⟨⟨rfl,hb,hl⟩,fa,ha,z⟩:=z
  cases z
  exact h (hq.e g ha) (QgF hb) hl
 ·cases z⟩
abbrev Few (X:Cx) (cpos:Pos) (es:List Expr):Prop:=((backTo cpos (starEach es X.env)).all (fun x => !x.1) && (backToKw cpos (keywordEach [] X.env)).all (fun x=>x.1.isSome) && decide (es.length + ([]:List Keyword).length + (if ([]:List Keyword).isEmpty then 0 else 1) < 30))=true
theorem few1 {X:Cx}{cpos:Pos}{es:List Expr} (h:es.all plE=true) (hl:es.length < 30):Few X cpos es:=by
 unfold Few
 rw[QgB h]
 exact (Bool.and_eq_true _ _).mpr ⟨rfl,decide_eq_true hl⟩
def meth1 (x : String) (f : CE -> CE -> CE) (ok : RC -> Pos -> Bool) (h : ∀ {X : Cx} {o e : Expr} {fa fb : CE} {apos cpos : Pos}, X.A.units + 60 < cLine -> SE X o fa -> SE X e fb -> attributeBase o (Str.ofString x) X.env (eval o X.env) = eval o X.env -> Few X cpos [e] -> (apos.endLine == cpos.line) = true ->
  starEach [e] X.env=(false,eval e X.env)::starEach [] X.env->(backTo cpos (starEach [] X.env)).any (·.1)=false->SE X (.Call (.Attribute o (Str.ofString x) apos) [e] [] cpos) (f fa fb)):RuE:=
 ⟨fun q c e=>match e with
 | .Call (.Attribute o y ap) [a] [] cp=>if y=Str.ofString x/\baE o=true/\plE a=true/\ok c cp=true/\(ap.endLine == cp.line)=true then (q.e c o).bind fun fa=>(q.e c a).bind fun fb=>some (f fa fb) else none
 | _=>none,fun {q} hq {X c} g {e r} z=>by
 split at z
 ·simp only[Option.ite_none_right_eq_some,Option.bind_eq_some_iff]at z
  obtain⟨⟨rfl,hb,hp,_,hl⟩,fa,ha,fb,hb',z⟩:=z
  cases z
  exact h g.hu (hq.e g ha) (hq.e g hb') (QgF hb) (few1 (by simp[hp]) (by simp)) hl (Qgz hp) rfl
 ·cases z⟩
def rCall:RuE:=⟨fun q c e=>match e with
 | .Call (.Name x _) (a::as) [] _=>(c.G.lookup x).bind fun r=>if c.glo x=true/\nokB x=true/\r.k<=c.k/\r.n=(a::as).length then (argC q c (a::as)).bind fun ca=>some (cCall r.g ca) else none
 | _=>none,fun {q} hq {X c} g {e r} z=>by
 split at z
 ·simp only[Option.ite_none_right_eq_some,Option.bind_eq_some_iff]at z
  obtain⟨rf,hf,⟨h1,h2,h3,h4⟩,ca,ha,z⟩:=z
  cases z
  obtain⟨f,fd,m,F,kp,B,_⟩:=(g.G _ _ hf).ex
  obtain⟨x,y,l⟩:=QgG hq g ha
  rw[List.all_cons,Bool.and_eq_true]at y
  exact Qgm g.S (beq_iff_eq.mp h1) F (g.hr.mono h3) m kp B (Qgw h2) x (by rw[h4];exact l) (Qgz y.1) (QgA y.2)
 ·cases z⟩
def RC.bl (c:RC) (x:Str):Bool:=c.glo x && c.Z.contains x
theorem Good.gl {X:Cx}{c:RC} (g:Good X c) {x:Str} (h:c.bl x=true):Gl X x/\X.mg x=none:=by
 unfold RC.bl at h
 rw[Bool.and_eq_true]at h
 exact⟨g.S.glo _ (beq_iff_eq.mp h.1),g.Z _ h.2⟩
def bltTmp (x:String) (f:List D->M D) (h:∀ {X:Cx}{e:Expr}{ca:CA}{p pos:Pos},X.calm=true->Gl X (Str.ofString x)->X.mg (Str.ofString x)=none->SL X e ca->starEach [e] X.env=[(false,eval e X.env)]->SE X (.Call (.Name (Str.ofString x) p) [e] [] pos) (cTmp f ca)):RuE:=
 ⟨fun q c e=>match e with
 | .Call (.Name y _) [a] [] _=>if y=Str.ofString x/\c.bl y=true/\plE a=true then (q.l c a).bind fun fa=>some (cTmp f fa) else none
 | _=>none,fun {q} hq {X c} g {e r} z=>by
 split at z
 ·simp only[Option.ite_none_right_eq_some,Option.bind_eq_some_iff]at z
  obtain⟨⟨rfl,hb,hp⟩,fa,ha,z⟩:=z
  cases z
  exact h g.S.calm (g.gl hb).1 (g.gl hb).2 (hq.l g ha) (Qgz hp)
 ·cases z⟩
def blt1 (x:String) (ok:RC->Pos->Bool) (f:D->M D) (h:∀ {X:Cx}{e:Expr}{fa:CE}{p pos:Pos},X.calm=true->Gl X (Str.ofString x)->X.mg (Str.ofString x)=none->SE X e fa->starEach [e] X.env=[(false,eval e X.env)]->SE X (.Call (.Name (Str.ofString x) p) [e] [] pos) (c1 f fa)):RuE:=
 ⟨fun q c e=>match e with
 | .Call (.Name y _) [a] [] p=>if y=Str.ofString x/\c.bl y=true/\plE a=true/\ok c p=true then (q.e c a).bind fun fa=>some (c1 f fa) else none
 | _=>none,fun {q} hq {X c} g {e r} z=>by
 split at z
 ·simp only[Option.ite_none_right_eq_some,Option.bind_eq_some_iff]at z
  obtain⟨⟨rfl,hb,hp,_⟩,fa,ha,z⟩:=z
  cases z
  exact h g.S.calm (g.gl hb).1 (g.gl hb).2 (hq.e g ha) (Qgz hp)
 ·cases z⟩
def blt2 (x : String) (f : D -> D -> M D) (h : ∀ {X : Cx} {a b : Expr} {fa fb : CE} {p pos : Pos}, X.calm = true -> Gl X (Str.ofString x) -> X.mg (Str.ofString x) = none -> SE X a fa -> SE X b fb -> starEach [a, b] X.env = (false, eval a X.env) :: starEach [b] X.env -> starEach [b] X.env = (false, eval b X.env) :: starEach [] X.env ->
  (backTo pos (starEach [b] X.env)).any (·.1)=false->SE X (.Call (.Name (Str.ofString x) p) [a,b] [] pos) (c2 f fa fb)):RuE:=
 ⟨fun q c e=>match e with
 | .Call (.Name y _) [a,b] [] p=>if y=Str.ofString x/\c.bl y=true/\plE a=true/\plE b=true then (q.e c a).bind fun fa=>(q.e c b).bind fun fb=>some (c2 f fa fb) else none
 | _=>none,fun {q} hq {X c} g {e r} z=>by
 split at z
 ·simp only[Option.ite_none_right_eq_some,Option.bind_eq_some_iff]at z
  obtain⟨⟨rfl,hb,hp,hp2⟩,fa,ha,fb,hb',z⟩:=z
  cases z
  exact h g.S.calm (g.gl hb).1 (g.gl hb).2 (hq.e g ha) (hq.e g hb') (Qgz hp) (Qgz hp2) (QgA (by simp[hp2]))
 ·cases z⟩
section
def lLst:RuL:=⟨fun q c e=>match e with
 | .List es _=>(argC q c es).bind fun ca=>some (aDisp ca)
 | _=>none,fun {q} hq {X c} g {e r} z=>by
 split at z
 ·simp only[Option.bind_eq_some_iff]at z
  obtain⟨ca,ha,z⟩:=z
  cases z
  exact Qeh (QgG hq g ha).1
 ·cases z⟩
def lTimes:RuL:=⟨fun q c e=>match e with
 | .BinOp a .Mult b _=>(q.l c a).bind fun fa=>(q.e c b).bind fun fb=>some (aTimes fa fb)
 | _=>none,fun {q} hq {X c} g {e r} z=>by
 split at z
 ·simp only[Option.bind_eq_some_iff]at z
  obtain⟨fa,ha,fb,hb,z⟩:=z
  cases z
  exact Qf5 (hq.l g ha) (hq.e g hb)
 ·cases z⟩
def lBack:RuL:=⟨fun q c e=>match e with
 | .Subscript a (.Slice none none (some (.UnaryOp .USub (.Constant (.int i) _ _) _)) _) _=>if i=1 then (q.e c a).bind fun fa=>some (aBack fa) else none
 | _=>none,fun {q} hq {X c} g {e r} z=>by
 split at z
 ·simp only[Option.ite_none_right_eq_some,Option.bind_eq_some_iff]at z
  obtain⟨rfl,fa,ha,z⟩:=z
  cases z
  exact Qf3 (hq.e g ha)
 ·cases z⟩
def lSlice:RuL:=⟨fun q c e=>match e with
 | .Subscript a (.Slice lo hi none _) p=>if c.tag p 1=false then (q.e c a).bind fun fa=>(optC q c lo).bind fun fl=>(optC q c hi).bind fun fh=>some (aSlice fa fl fh) else none
 | _=>none,fun {q} hq {X c} g {e r} z=>by
 split at z
 ·simp only[Option.ite_none_right_eq_some,Option.bind_eq_some_iff]at z
  obtain⟨_,fa,ha,fl,hl,fh,hh,z⟩:=z
  cases z
  exact Qfz (hq.e g ha) (QgH hq g hl) (QgH hq g hh)
 ·cases z⟩
def tgN:Nat->Expr->List Str
 | _,.Name x _=>[x]
 | n + 1,.Tuple es _ _=>es.flatMap (tgN n)
 | _,_=>[]
def ifsC (q:Rec) (c:RC):List Expr->Option CT
 | []=>some tTrue
 | [t]=>q.t c t
 | _=>none
theorem QgJ {q:Rec} (hq:RecOk q) {X:Cx}{c:RC} (g:Good X c) {es:List Expr}{f:CT} (h:ifsC q c es=some f):SIfs X es f:=by
 unfold ifsC at h
 split at h
 ·cases h;exact Qe0
 ·exact Qe1 (hq.t g h)
 ·cases h
def RC.inn (c:RC) (sc:Scope) (own:List Str):RC:={ c with sc:=sc,N:=own++c.N.filter fun x=>sc.names.lookup x == some .free,top:=false }
def RC.ix (c:RC) (sc:Scope):List Nat:=(c.N.filter fun x=>sc.names.lookup x == some .free).map c.N.idxOf
def RC.cok (c:RC) (sc:Scope) (own:List Str) (b:Expr):Prop:=compChk c.sc sc=true/\namesChk c.N sc (c.inn sc own).N own.length (c.ix sc)=true/\(c.inn sc own).N.Nodup/\nsE b=true
instance (c:RC) (sc:Scope) (own:List Str) (b:Expr):Decidable (c.cok sc own b):=by unfold RC.cok;infer_instance
theorem Good.inn {X:Cx}{c:RC} (g:Good X c) {sc:Scope}{own:List Str}{b:Expr} (h:c.cok sc own b) (fp:List Addr) (s:Shared) (H:Hp):Good (cxC X (c.inn sc own).N sc fp s H) (c.inn sc own):=
 ⟨Qge g.S.calm,rfl,h.2.2.1,g.hr,fun x r z=>⟨(g.G x r z).ex⟩,g.Z,g.C,PassesOwn.never,fun z=>nomatch z⟩
def cmpC (q:Rec) (c:RC):Expr->Option (Nat × List Nat × CI × CG × CT × CE)
 | .ListComp e [⟨tg,b,ifs,0⟩] sc _=>
  if c.cok sc (tgN 8 tg).eraseDups b then
   (q.i c tg b).bind fun ci=>(q.g (c.inn sc (tgN 8 tg).eraseDups) tg).bind fun g=>(ifsC q (c.inn sc (tgN 8 tg).eraseDups) ifs).bind fun t=>(q.e (c.inn sc (tgN 8 tg).eraseDups) e).bind fun f=>
    some ((tgN 8 tg).eraseDups.length,c.ix sc,ci,g,t,f)
  else none
 | _=>none
def lComp:RuL:=⟨fun q c e=>(cmpC q c e).bind fun p=>some (aComp p.1 p.2.1 p.2.2.1 p.2.2.2.1 p.2.2.2.2.1 p.2.2.2.2.2),fun {q} hq {X c} g {e r} z=>by
 rw[Option.bind_eq_some_iff]at z
 obtain⟨p,hp,z⟩:=z
 cases z
 unfold cmpC at hp
 split at hp
 ·simp only[Option.ite_none_right_eq_some,Option.bind_eq_some_iff]at hp
  obtain⟨hk,ci,hi,gg,hg,t,ht,f,hf,z⟩:=hp
  cases z
  exact Qe3 g.S.calm (Qgf g.S hk.1) (Qgg g.N hk.2.1) (hq.i g hi) (fun fp s H=>⟨hq.g (g.inn hk fp s H) hg,QgJ hq (g.inn hk fp s H) ht,hq.e (g.inn hk fp s H) hf⟩) (QgD hk.2.2.2)
 ·cases hp⟩
def tAnds (q:Rec) (c:RC):List Expr->Option CT
 | []=>none
 | [a]=>q.t c a
 | a::b::r=>(q.t c a).bind fun fa=>(tAnds q c (b::r)).bind fun fb=>some (tAndB fa fb)
theorem QgK {q:Rec} (hq:RecOk q) {X:Cx}{c:RC} (g:Good X c) {pos:Pos}:∀ {es:List Expr}{f:CT},tAnds q c es=some f->PW X (.BoolOp .And es pos) (ttOf X.K f)
 | [],f,h=>nomatch h
 | [a],f,h=>Qes (hq.t g h)
 | a::b::r,f,h=>by
  unfold tAnds at h
  simp only[Option.bind_eq_some_iff]at h
  obtain⟨fa,ha,fb,hb,z⟩:=h
  cases z
  exact Qeu (hq.t g ha) (QgK hq g hb)
def tOrs (q:Rec) (c:RC):List Expr->Option CT
 | []=>none
 | [a]=>q.t c a
 | a::b::r=>(q.t c a).bind fun fa=>(tOrs q c (b::r)).bind fun fb=>some (tOrB fa fb)
theorem QgL {q:Rec} (hq:RecOk q) {X:Cx}{c:RC} (g:Good X c) {pos:Pos}:∀ {es:List Expr}{f:CT},tOrs q c es=some f->PW X (.BoolOp .Or es pos) (ttOf X.K f)
 | [],f,h=>nomatch h
 | [a],f,h=>Qet (hq.t g h)
 | a::b::r,f,h=>by
  unfold tOrs at h
  simp only[Option.bind_eq_some_iff]at h
  obtain⟨fa,ha,fb,hb,z⟩:=h
  cases z
  exact Qev (hq.t g ha) (QgL hq g hb)
def tAnd:RuT:=⟨fun q c e=>match e with
 | .BoolOp .And es _=>tAnds q c es
 | _=>none,fun {q} hq {X c} g {e r} z=>by
 split at z
 ·exact L2.PW.pt (QgK hq g z)
 ·cases z⟩
def tOr:RuT:=⟨fun q c e=>match e with
 | .BoolOp .Or es _=>tOrs q c es
 | _=>none,fun {q} hq {X c} g {e r} z=>by
 split at z
 ·exact L2.PW.pt (QgL hq g z)
 ·cases z⟩
def tVl:RuT:=⟨fun q c e=>if tvE e=true then (q.e c e).bind fun f=>some (tVal f) else none,fun {q} hq {X c} g {e r} z=>by
 simp only[Option.ite_none_right_eq_some,Option.bind_eq_some_iff]at z
 obtain⟨hv,fa,ha,z⟩:=z
 cases z
 exact Qeq (hq.e g ha) (tv0 hv)⟩
def iRange1:RuI:=⟨fun q c tg e=>match e with
 | .Call (.Name x _) [a] [] _=>if x=Str.ofString "range"/\c.bl x=true/\plE a=true then (q.e c a).bind fun f=>some (MM.iRng1 f) else none
 | _=>none,fun {q} hq {X c} g {tg e r} z=>by
 split at z
 ·simp only[Option.ite_none_right_eq_some,Option.bind_eq_some_iff]at z
  obtain⟨⟨rfl,h1,hp⟩,fa,ha,z⟩:=z
  cases z
  exact QeX (g.gl h1).1 (g.gl h1).2 (hq.e g ha) (Qgz hp)
 ·cases z⟩
def iRange2:RuI:=⟨fun q c tg e=>match e with
 | .Call (.Name x _) [a,b] [] _=>if x=Str.ofString "range"/\c.bl x=true/\plE a=true/\plE b=true then (q.e c a).bind fun f=>(q.e c b).bind fun h=>some (MM.iRng2 f h) else none
 | _=>none,fun {q} hq {X c} g {tg e r} z=>by
 split at z
 ·simp only[Option.ite_none_right_eq_some,Option.bind_eq_some_iff]at z
  obtain⟨⟨rfl,h1,hp,hp2⟩,fa,ha,fb,hb,z⟩:=z
  cases z
  exact QfZ (g.gl h1).1 (g.gl h1).2 (hq.e g ha) (hq.e g hb) (Qgz hp) (Qgz hp2) (by rw[Qgz hp,Qgz hp2];rfl) (Qgz hp2)
 ·cases z⟩
def iEnumr:RuI:=⟨fun q c tg e=>match tg,e with
 | .Tuple _ _ _,.Call (.Name x _) [a] [] _=>if x=Str.ofString "enumerate"/\c.bl x=true/\plE a=true then (q.e c a).bind fun f=>some (iEnum f) else none
 | _,_=>none,fun {q} hq {X c} g {tg e r} z=>by
 split at z
 ·simp only[Option.ite_none_right_eq_some,Option.bind_eq_some_iff]at z
  obtain⟨⟨rfl,h1,hp⟩,fa,ha,z⟩:=z
  cases z
  exact QfG (g.gl h1).1 (g.gl h1).2 (hq.e g ha) (Qgz hp)
 ·cases z⟩
def iTmpr:RuI:=⟨fun q c tg e=>(q.l c e).bind fun f=>some (iTmp f),fun {q} hq {X c} g {tg e r} z=>by
 rw[Option.bind_eq_some_iff]at z
 obtain⟨fa,ha,z⟩:=z
 cases z
 exact QeW (hq.l g ha)⟩
def iSeqr:RuI:=⟨fun q c tg e=>(q.e c e).bind fun f=>some (iSeq f),fun {q} hq {X c} g {tg e r} z=>by
 rw[Option.bind_eq_some_iff]at z
 obtain⟨fa,ha,z⟩:=z
 cases z
 exact QeV (hq.e g ha)⟩
def tgC (c:RC) (x:Str):Option Nat:=if c.N[c.N.idxOf x]?=some x/\(c.sc.names.lookup x=some .local\/c.sc.names.lookup x=some .cell) then some (c.N.idxOf x) else none
theorem QgM {X:Cx}{c:RC} (g:Good X c) {x:Str}{i:Nat} (h:tgC c x=some i):X.N[i]?=some x/\∃ k,c.sc.names.lookup x=some k/\(k=.local\/k=.cell):=by
 unfold tgC at h
 rw[Option.ite_none_right_eq_some]at h
 obtain⟨⟨h1,h2⟩,h4⟩:=h
 cases h4
 refine⟨by rw[g.N];exact h1,?_⟩
 rcases h2 with h2 | h2
 ·exact⟨_,h2,.inl rfl⟩
 ·exact⟨_,h2,.inr rfl⟩
def gVr:RuG:=⟨fun q c e=>match e with
 | .Name x _=>(tgC c x).bind fun i=>some (gVar i)
 | _=>none,fun {q} hq {X c} g {e r} z=>by
 split at z
 ·rw[Option.bind_eq_some_iff]at z
  obtain⟨i,hi,z⟩:=z
  cases z
  obtain⟨h1,k,h2,h3⟩:=QgM g hi
  exact Qgi g.S _ g.nd h1 h2 h3
 ·cases z⟩
def tgs (q:Rec) (c:RC):List Expr->Option (List D->Loc->M Loc)
 | []=>some gsNil
 | e::es=>if plE e=true then (q.g c e).bind fun a=>(tgs q c es).bind fun b=>some (gsCons a b) else none
theorem QgN {q:Rec} (hq:RecOk q) {X:Cx}{c:RC} (g:Good X c):∀ {es:List Expr}{f:List D->Loc->M Loc},tgs q c es=some f->SGs X es f/\(assignEach es X.env).length=es.length/\(assignEach es X.env).findIdx? (·.1)=none
 | [],f,h=>by cases h;exact⟨QeC,rfl,rfl⟩
 | e::es,f,h=>by
  unfold tgs at h
  simp only[Option.ite_none_right_eq_some,Option.bind_eq_some_iff]at h
  obtain⟨hp,fa,ha,fb,hb,z⟩:=h
  cases z
  obtain⟨a,b,d⟩:=QgN hq g hb
  have eq:assignEach (e::es) X.env=(false,assign e X.env)::assignEach es X.env:=by
   cases e<;>first | rfl | exact nomatch hp
  refine⟨QeD (hq.g g ha) a (by rw[eq];rfl),by rw[eq];exact congrArg (· + 1) b,?_⟩
  rw[eq,List.findIdx?_cons,d]
  rfl
def gTupr:RuG:=⟨fun q c e=>match e with
 | .Tuple es _ _=>(tgs q c es).bind fun f=>some (gTupD es.length f)
 | _=>none,fun {q} hq {X c} g {e r} z=>by
 split at z
 ·rw[Option.bind_eq_some_iff]at z
  obtain⟨f,hf,z⟩:=z
  cases z
  obtain⟨a,b,d⟩:=QgN hq g hf
  exact QeE g.S.calm a b d
 ·cases z⟩
def gSubr:RuG:=⟨fun q c e=>match e with
 | .Subscript o i _=>if slE i=true then (q.e c o).bind fun f=>(q.e c i).bind fun h=>some (gSubD f h) else none
 | _=>none,fun {q} hq {X c} g {e r} z=>by
 split at z
 ·simp only[Option.ite_none_right_eq_some,Option.bind_eq_some_iff]at z
  obtain⟨hs,fa,ha,fb,hb,z⟩:=z
  cases z
  rename_i o i p
  exact QeP g.hu (hq.e g ha) (hq.e g hb) (fun v=>by cases i<;>first | rfl | exact nomatch hs)
 ·cases z⟩
def sRetr:RuS:=⟨fun q c e=>match e with
 | .Return (some a) _=>(q.e c a).bind fun f=>some (sRet f)
 | _=>none,fun {q} hq {X c} g {e r} z=>by
 split at z
 ·rw[Option.bind_eq_some_iff]at z
  obtain⟨f,hf,z⟩:=z
  cases z
  exact QeH (hq.e g hf)
 ·cases z⟩
def sExpr:RuS:=⟨fun q c e=>match e with
 | .Expr a _=>if ncE a=true then (q.e c a).bind fun f=>some (sExp f) else none
 | _=>none,fun {q} hq {X c} g {e r} z=>by
 split at z
 ·simp only[Option.ite_none_right_eq_some,Option.bind_eq_some_iff]at z
  obtain⟨hn,f,hf,z⟩:=z
  cases z
  exact QeI (hq.e g hf) (QgC hn)
 ·cases z⟩
def sIfr:RuS:=⟨fun q c e=>match e with
 | .If t a b _=>(q.t c t).bind fun ft=>(blkC q c a).bind fun fa=>(blkC q c b).bind fun fb=>some (sIf ft fa fb)
 | _=>none,fun {q} hq {X c} g {e r} z=>by
 split at z
 ·simp only[Option.bind_eq_some_iff]at z
  obtain⟨ft,ht,fa,ha,fb,hb,z⟩:=z
  cases z
  exact QeJ (hq.t g ht) (QgI hq g ha) (QgI hq g hb)
 ·cases z⟩
def sWhiler:RuS:=⟨fun q c e=>match e with
 | .While t a [] _=>(q.t c t).bind fun ft=>(blkC q c a).bind fun fa=>some (sWhile ft fa)
 | _=>none,fun {q} hq {X c} g {e r} z=>by
 split at z
 ·simp only[Option.bind_eq_some_iff]at z
  obtain⟨ft,ht,fa,ha,z⟩:=z
  cases z
  exact Qf0 g.ps (hq.t g ht) (QgI hq g ha)
 ·cases z⟩
def sForr:RuS:=⟨fun q c e=>match e with
 | .For tg it a [] _=>if nsE it=true then (q.i c tg it).bind fun fi=>(q.g c tg).bind fun fg=>(blkC q c a).bind fun fa=>some (sFor fi fg fa) else none
 | _=>none,fun {q} hq {X c} g {e r} z=>by
 split at z
 ·simp only[Option.ite_none_right_eq_some,Option.bind_eq_some_iff]at z
  obtain⟨hn,fi,hi,fg,hg,fa,ha,z⟩:=z
  cases z
  exact QeY g.ps g.S.calm (hq.i g hi) (hq.g g hg) (QgI hq g ha) (QgD hn)
 ·cases z⟩
def sNmr:RuS:=⟨fun q c e=>match e with
 | .Assign [.Name x _] a _=>if ncE a=true\/(c.top=true/\c.sc.names.lookup x=some .cell) then (tgC c x).bind fun i=>(q.e c a).bind fun f=>some (sAsg (gVar i) f) else none
 | _=>none,fun {q} hq {X c} g {e r} z=>by
 split at z
 ·simp only[Option.ite_none_right_eq_some,Option.bind_eq_some_iff]at z
  obtain⟨hn,i,hi,f,hf,z⟩:=z
  cases z
  obtain⟨h1,k,h2,h3⟩:=QgM g hi
  refine Qgj g.S _ g.nd h1 h2 (hq.e g hf) h3 ?_
  rcases hn with hn | ⟨ht,hc⟩
  ·exact QgC hn
  ·rename_i x p a s
   have e:(X.env.kindOf x == some NameKind.local)=false:=by rw[(g.kd ht).2 x,hc];rfl
   cases a<;>first | rfl | (unfold swapsWith;simp only[e,Bool.and_false,Bool.false_and])
 ·cases z⟩
theorem QgO {X : Cx} {c : RC} (g : Good X c) {e : Expr} {gs : List Comprehension} {sc : Scope} {p p' : Pos} {y : Str} {n : Nat} (ht : c.top = true) (hl : c.sc.names.lookup y = some .local) (hp : (p'.line == p.line) = true) (ha : (sc.names.any fun z => z.1 == y && (z.2 == .local || z.2 == .cell)) = false) :
  swapsWith (.ListComp e gs sc p) (some (.Name y p')) n X.env=pure true:=by
 have e1:(X.env.kindOf y == some NameKind.local)=true:=by rw[(g.kd ht).2 y,hl];rfl
 have e2:(X.env.blockKind == ScopeKind.function)=true:=by rw[(g.kd ht).1];rfl
 show (pure (X.env.blockKind == ScopeKind.function && X.env.kindOf y == some NameKind.local && p'.line == p.line && !(sc.names.any fun z=>z.1 == y && (z.2 == .local || z.2 == .cell))):Sem Bool)=pure true
 rw[e1,e2,hp,ha]
 rfl
def sCompr:RuS:=⟨fun q c s=>match s with
 | .Assign [.Name y p'] (.ListComp e gs sc p) _ => if c.top = true /\ c.sc.names.lookup y = some .local /\ (p'.line == p.line) = true /\ (sc.names.any fun z => z.1 == y && (z.2 == .local || z.2 == .cell)) = false then
   (tgC c y).bind fun i=>(cmpC q c (.ListComp e gs sc p)).bind fun r=>some (sAsg (gVar i) (cKeep (aComp r.1 r.2.1 r.2.2.1 r.2.2.2.1 r.2.2.2.2.1 r.2.2.2.2.2))) else none
 | _=>none,fun {q} hq {X c} g {s r} z=>by
 split at z
 ·simp only[Option.ite_none_right_eq_some,Option.bind_eq_some_iff]at z
  obtain⟨⟨ht,hl,hp,ha⟩,i,hi,w,hw,z⟩:=z
  cases z
  obtain⟨h1,k,h2,h3⟩:=QgM g hi
  unfold cmpC at hw
  split at hw
  ·rename_i he
   cases he
   simp only[Option.ite_none_right_eq_some,Option.bind_eq_some_iff]at hw
   obtain⟨hk,ci,hi',gg,hg,t,ht',f,hf,z⟩:=hw
   cases z
   refine Qe4 g.nd h1 (g.S.loc _ _ h2 h3).1 (g.S.loc _ _ h2 h3).2 g.S.calm (Qgf g.S hk.1) (Qgg g.N hk.2.1) (hq.i g hi') (fun fp s H=>⟨hq.g (g.inn hk fp s H) hg,QgJ hq (g.inn hk fp s H) ht',hq.e (g.inn hk fp s H) hf⟩) ?_ (QgD hk.2.2.2)
   exact QgO g ht hl hp ha
  ·cases hw
 ·cases z⟩
def sSubr:RuS:=⟨fun q c s=>match s with
 | .Assign [.Subscript o i p] a _=>(q.e c a).bind fun f=>(q.g c (.Subscript o i p)).bind fun h=>some (sAsg h f)
 | _=>none,fun {q} hq {X c} g {s r} z=>by
 split at z
 ·simp only[Option.bind_eq_some_iff]at z
  obtain⟨f,hf,h,hh,z⟩:=z
  cases z
  rename_i o i p a s
  exact QeN (hq.e g hf) (hq.g g hh) (by cases a<;>rfl) (by cases a<;>rfl) rfl
 ·cases z⟩
def ntE:Expr->Bool
 | .Tuple _ _ _=>false
 | _=>true
def sTupr:RuS:=⟨fun q c s=>match s with
 | .Assign [.Tuple es k p] a _=>if ntE a=true then (q.e c a).bind fun f=>(q.g c (.Tuple es k p)).bind fun h=>some (sAsg h f) else none
 | _=>none,fun {q} hq {X c} g {s r} z=>by
 split at z
 ·simp only[Option.ite_none_right_eq_some,Option.bind_eq_some_iff]at z
  obtain⟨hn,f,hf,h,hh,z⟩:=z
  cases z
  rename_i o i p a s
  exact QeN (hq.e g hf) (hq.g g hh) (by cases a<;>rfl) (by cases a<;>first | rfl | exact nomatch hn) rfl
 ·cases z⟩
section
variable {P:Program}{w:World}{K:PySem.W.Frag}{mg:Str->Option Value}{base:Heap}
variable (P w K mg base) in
def EnvOk (l:List (Str × RF)):Prop:=∀ x r,l.lookup x=some r->GF P w K mg base x r
theorem QgP:EnvOk P w K mg base []:=fun _ _ h=>nomatch h
theorem QgQ {l : List (Str × RF)} {x : Str} {r : RF} {f : Addr} {fd : FuncData} (m : mg x = some (.ref f)) (F : FnOk P w K mg base CX0 r.k f fd r.ps (spOf K r.n r.g)) (kp : PySem.W.keepIn K (.ref f) = true) (b : Binds K fd r.ps []) (kb : r.kw = true -> KwBinds K fd r.ps) (h : EnvOk P w K mg base l) :
  EnvOk P w K mg base ((x,r)::l):=fun y s z=>by
 by_cases e:y=x
 ·subst e
  rw[List.lookup_cons_self]at z
  cases z
  exact⟨f,fd,m,F,kp,b,kb⟩
 ·rw[QdO e]at z
  exact h y s z
theorem QgR (R : Rules) (j : Nat) {x qual : Str} {sd : Stmt} {f : Addr} {fd : FuncData} {N ps : List Str} {k n m : Nat} {body : CS} {G : List (Str × RF)} {Z : List Str} {C : List (Str × D)} {H : List (Nat × Nat × Nat)} (F : Fun K x qual sd f fd) (S : FnScope N ps (defScope sd)) (hn : ps.length = n) (hm : N.length = m)
  (hG:EnvOk P w K mg base G) (hZ:∀ x,Z.contains x=true->mg x=none) (hC:∀ x d,C.lookup x=some d->∃ v u,mg x=some u/\RelV v u/\∀ ρ H,Rep K ρ H v d)
  (hb:blkC (recN R j) ⟨defScope sd,N,k,G,Z,C,H,true⟩ (defBody sd)=some body):FnOk P w K mg base CX0 (k + 1) f fd ps (spOf K n (runDef m body)):=
 Qgo F S hn hm fun cdv A outer s Hp E hr=>QgI (c:=⟨defScope sd,N,k,G,Z,C,H,true⟩) (Qgy R j) ⟨Qgd,rfl,S.nd,hr,hG,hZ,hC,PassesOwn.never,fun _=>⟨by show (if (defScope sd).kind.isAnnotationScope=true then _ else (defScope sd).kind)=_;rw[S.kind];rfl,fun _=>rfl⟩⟩ hb
end
end
section
variable {K:PySem.W.Frag}{mg:Str->Option Value}
def ZOk (mg:Str->Option Value) (Z:List Str):Prop:=∀ x,Z.contains x=true->mg x=none
theorem z_nil:ZOk mg []:=fun _ h=>nomatch h
theorem z_cons {a:Str}{l:List Str} (h:mg a=none) (t:ZOk mg l):ZOk mg (a::l):=fun x z=>by
 rw[List.contains_cons,Bool.or_eq_true]at z
 rcases z with z | z
 ·rw[beq_iff_eq.mp z];exact h
 ·exact t x z
def COk (K:PySem.W.Frag) (mg:Str->Option Value) (C:List (Str × D)):Prop:=∀ x d,C.lookup x=some d->∃ v u,mg x=some u/\RelV v u/\∀ ρ H,Rep K ρ H v d
theorem c_nil:COk K mg []:=fun _ _ h=>nomatch h
end
section
theorem QgS {x:Str} (h:nokB x=true):x≠"__name__":=(Qgw h).n
def bMaxT:RuE:=bltTmp "max" maxD fun c g m a s=>Qe7 (Qfj c) g m (by nofun) a (QgS (by nofun)) (by nofun) s
def bTupT:RuE:=bltTmp "tuple" tupL fun _ g m a s=>Qe8 Qfe g m (by nofun) a (QgS (by nofun)) (by nofun) s
abbrev noTag:RC->Pos->Bool:=fun _ _=>true
def bLen:RuE:=blt1 "len" noTag lenD fun _ g m a s=>Qe5 Qfb g m (by nofun) a (QgS (by nofun)) (by nofun) s
def bInt:RuE:=blt1 "int" noTag intD fun _ g m a s=>Qe6 Qfc g m (by nofun) a (QgS (by nofun)) (by nofun) s
def bTuple:RuE:=blt1 "tuple" noTag tupleD fun _ g m a s=>Qe6 Qfd g m (by nofun) a (QgS (by nofun)) (by nofun) s
def bList:RuE:=blt1 "list" noTag listD fun _ g m a s=>Qe6 QfV g m (by nofun) a (QgS (by nofun)) (by nofun) s
def bMin2:RuE:=blt2 "min" min2D fun c g m a b s1 s2 s3=>QfW (QfX c) g m (by nofun) a b (QgS (by nofun)) (by nofun) s1 s2 s3
def mAppend:RuE:=meth1 "append" cAppend noTag fun _ o a b f l s p=>Qfv o a b f l s p
def mPop:RuE:=meth0 "pop" cPop fun o b l=>QfY o b l
end
section
variable {P:Program}{w:World}{K:PySem.W.Frag}{mg:Str->Option Value}{base:Heap}
def FnAt (K:PySem.W.Frag) (mg:Str->Option Value) (x:Str) (sd:Stmt):Prop:=∃ a fd,Fun K x x sd a fd/\mg x=some (.ref a)
theorem fnat {h : Heap} {x : Str} {sd : Stmt} {f : Addr} {od an : Option Addr} {sl : Array (Option Value)} {oc kV dc pm cd ct : Value} (X : K.In h) (G : h.Ns mainGlobals mg) (a : PySem.W.nsIn K mainGlobals x = some (some (.ref f)))
  (l:K.lookup f=some ⟨oc,od,.func (PySem.W.fnOf x x (defArgs sd) (defBody sd) (defScope sd) .none kV dc pm an cd ct),sl⟩) (c:PySem.W.codeIn K cd x=true) (k:PySem.W.keepIn K (.ref f)=true):FnAt K mg x sd:=
 ⟨f,_,QcI (st:=sd) l c k,PySem.W.mg_of X G a⟩
def fscB (N P:List Str) (sc:Scope):Bool:=(sc.kind == .function) && (sc.isCoroutine == false) && (sc.isGenerator == false) && decide N.Nodup && (N.take P.length == P) && (P.all fun x=>sc.names.lookup x == some .local || sc.names.lookup x == some .cell) && (sc.names.all fun y=>y.2 != .free)
theorem QgT {N P:List Str}{sc:Scope} (h:fscB N P sc=true):FnScope N P sc:=by
 unfold fscB at h
 simp only[Bool.and_eq_true,beq_iff_eq,decide_eq_true_eq,List.all_eq_true,Bool.or_eq_true,bne_iff_ne,ne_eq]at h
 obtain⟨⟨⟨⟨⟨⟨h1,h2⟩,h3⟩,h4⟩,h5⟩,h6⟩,h7⟩:=h
 exact⟨h1,h2,h3,h4,h5,h6,h7⟩
theorem QgU (R : Rules) {r : List Str} {x : Str} {sd : Stmt} {f : Addr} {fd : FuncData} {ps : List Str} {k n m : Nat} {body : CS} {G : List (Str × RF)} {Z : List Str} {C : List (Str × D)} {H : List (Nat × Nat × Nat)} (F : Fun K x x sd f fd) (S : fscB (ps ++ r) ps (defScope sd) = true)
  (hb:blkC (recN R 40) ⟨defScope sd,ps++r,k,G,Z,C,H,true⟩ (defBody sd)=some body) (hG:EnvOk P w K mg base G) (hZ:ZOk mg Z) (hC:COk K mg C) (hn:ps.length=n) (hm:(ps++r).length=m):FnOk P w K mg base CX0 (k + 1) f fd ps (spOf K n (runDef m body)):=
 QgR R 40 F (QgT S) hn hm hG hZ hC hb
theorem QgV (R : Rules) {r : List Str} {x : Str} {sd : Stmt} {ps : List Str} {k n m : Nat} {kw : Bool} {body : CS} {G : List (Str × RF)} {Z : List Str} {C : List (Str × D)} {H : List (Nat × Nat × Nat)} (F : FnAt K mg x sd) (S : fscB (ps ++ r) ps (defScope sd) = true)
  (b:∀ (kV doc pm:Value) (an:Option Addr) (cdv ct:Value) (us:List Value),us.length=ps.length->bindArgs (PySem.W.fnOf x x (defArgs sd) (defBody sd) (defScope sd) .none kV doc pm an cdv ct) { pos:=us }=pure (ps.zip us))
  (kb:kw=true->∀ (kV doc pm:Value) (an:Option Addr) (cdv ct:Value) (s:Shared) (ws:List Value),ws.length=ps.length->BindsTo s (PySem.W.fnOf x x (defArgs sd) (defBody sd) (defScope sd) .none kV doc pm an cdv ct) ⟨[],ps.zip ws⟩ (ps.zip ws))
  (hb:blkC (recN R 40) ⟨defScope sd,ps++r,k,G,Z,C,H,true⟩ (defBody sd)=some body) (hG:EnvOk P w K mg base G) (hZ:ZOk mg Z) (hC:COk K mg C) (hn:ps.length=n:=by rfl) (hm:(ps++r).length=m:=by rfl):EnvOk P w K mg base ((x,⟨n,k + 1,ps,kw,runDef m body⟩)::G):=by
 obtain⟨f,fd,F,hm'⟩:=F
 refine QgQ hm' (QgU R F S hb hG hZ hC hn hm) F.kp (F.binds b) (fun z=>?_) hG
 obtain⟨oc,od,kV,doc,pm,an,cdv,ct,osl,e,lk,hcd⟩:=F.ex
 intro s ws hl
 rw[e]
 exact kb z kV doc pm an cdv ct s ws hl
end
end MM
namespace PySem.SeqAt
open AutoSeq1 (wpAny_loadPart')
open MeetsSeq MeetsSeq2 MeetsSeq3 SeqRoads2
end PySem.SeqAt
namespace MM
open PySem
abbrev At {α:Type} (_:α->Sto->Prop):Type:=Sto
inductive wp {α:Type} (m:M α) (Q:α->Sto->Prop) (s:At Q):Prop
 | intro (a:α) (s':Sto) (h:m s=.ok a s') (q:Q a s'):wp m Q s
theorem QgX {α:Type}{m:M α}{Q:α->Sto->Prop}{s:Sto}:wp m Q s=(match m s with
 | .ok a s'=>Q a s'
 | _=>False):=by
 apply propext
 constructor
 ·rintro ⟨a,s',h,q⟩;rw[h];exact q
 ·intro h
  cases e:m s with
  | ok a s'=>rw[e]at h;exact⟨a,s',e,h⟩
  | exc _ _=>rw[e]at h;exact h.elim
  | bad=>rw[e]at h;exact h.elim
section
variable {α β:Type}{Q:α->Sto->Prop}{s:Sto}
theorem wp_eq {m:M α}{a:α}{s':Sto} (h:m s=.ok a s'):wp m Q s=Q a s':=by rw[QgX,h]
theorem wp_no {m:M α} (h:m s=.bad):wp m Q s=False:=by rw[QgX,h]
theorem wp_cg {m:M β}{Q Q':β->Sto->Prop}{s:Sto} (h:∀ a s',Q a s'=Q' a s'):wp m Q s=wp m Q' s:=by
 rw[show Q=Q' from funext fun a=>funext fun t=>h a t]
theorem wp_ret {a:α}:wp (ret a) Q s=Q a s:=wp_eq rfl
theorem wp_bad:wp (bad:M α) Q s=False:=wp_no rfl
theorem QgY {m:M β}{f:β->M α}:wp (bnd m f) Q s=wp m (fun a s'=>wp (f a) Q s') s:=by
 simp only[QgX]
 unfold bnd
 cases m s<;>rfl
theorem wp_chk {c:Prop} [Decidable c] {m:M α}:wp (chk c m) Q s=(c/\wp m Q s):=by
 unfold chk
 by_cases h:c
 ·simp[h]
 ·simp[h,wp_bad]
theorem wp_alloc {o:MO}{Q:D->Sto->Prop}:wp (alloc o) Q s=Q (.ref s.length) (s++[o]):=wp_eq rfl
theorem QgZ {n:Nat}{ds:List D}{Q:List D->Sto->Prop} (h:s[n]?=some (.lst ds)):wp (getL n) Q s=Q ds s:=by
 rw[QgX];unfold getL;rw[h]
theorem Qg0 {n:Nat}{ds es:List D}{Q:Unit->Sto->Prop} (h:s[n]?=some (.lst ds)):wp (putL n es) Q s=Q () (s.set n (.lst es)):=by
 rw[QgX];unfold putL;rw[h]
theorem Qg1 {m:M α}{Q':α->Sto->Prop} (h:wp m Q s) (f:∀ a s',Q a s'->Q' a s'):wp m Q' s:=by
 simp only[QgX]at *
 cases e:m s with
 | ok a s'=>rw[e]at h;exact f a s' h
 | exc _ _=>rw[e]at h;exact h
 | bad=>rw[e]at h;exact h
theorem Qg2 {c:Prop} [Decidable c] {m n:M α}:wp (if c then m else n) Q s=if c then wp m Q s else wp n Q s:=by split<;>rfl
end
theorem Qg3 {ds:List D}{i:Int}{d:D} (h0:0<=i) (h:ds[i.toNat]?=some d):itemD ds i=ret d:=by
 have hl:i.toNat < ds.length:=(List.getElem?_eq_some_iff.mp h).1
 unfold itemD MM.ixN
 rw[if_pos h0,if_pos (by ac_nf)]
 dsimp only
 rw[h]
theorem wp_run {n:Nat}{b:CS}{ds:List D}{Q:D->Sto->Prop}{s:Sto}:wp (runDef n b ds) Q s=wp (b (ds.map some++List.replicate (n - ds.length) none)) (fun f s'=>wp (flwD f) Q s') s:=by
 unfold runDef;rw[QgY]
theorem Qg4 {g : CG} {b : CS} {same : Sto -> Prop} {Q : Flw -> Sto -> Prop} (W : List D -> Loc -> Sto -> Prop)
  (hend:∀ l s,W [] l s->wp (chkS same) (fun _ s'=>Q (.next l) s') s)
  (hstep:∀ d ds l s,W (d::ds) l s->wp (chkS same) (fun _ s1=>wp (g d l) (fun l1 s2=>wp (b l1) (fun f s3=>match f with
   | .next l2=>W ds l2 s3
   | .cnt l2=>W ds l2 s3
   | .brk l2=>Q (.next l2) s3
   | .ret d=>Q (.ret d) s3) s2) s1) s):∀ ds l s,W ds l s->wp (forD g b same ds l) Q s:=by
 intro ds
 induction ds with
 | nil=>
  intro l s h
  unfold forD
  rw[QgY]
  exact Qg1 (hend l s h) fun _ s' q=>by rw[wp_ret];exact q
 | cons d ds ih=>
  intro l s h
  unfold forD
  rw[QgY]
  refine Qg1 (hstep d ds l s h) fun _ s1 q=>?_
  rw[QgY]
  refine Qg1 q fun l1 s2 q=>?_
  rw[QgY]
  refine Qg1 q fun f s3 q=>?_
  cases f with
  | next l2=>exact ih l2 s3 q
  | cnt l2=>exact ih l2 s3 q
  | brk l2=>show wp (ret _) _ _;rw[wp_ret];exact q
  | ret d=>show wp (ret _) _ _;rw[wp_ret];exact q
theorem Qg5 {g : CG} {t : CT} {e : CE} {same : Sto -> Prop} {Q : List D -> Sto -> Prop} (W : List D -> List D -> Loc -> Sto -> Prop)
  (hend:∀ out l s,W out [] l s->wp (chkS same) (fun _ s'=>Q out s') s)
  (hstep:∀ out d ds l s,W out (d::ds) l s->wp (chkS same) (fun _ s1=>wp (g d l) (fun l1 s2=>wp (t l1) (fun b s3=>if b=true then wp (e l1) (fun x s4=>W (out++[x]) ds l1 s4) s3 else W out ds l1 s3) s2) s1) s):
  ∀ ds out l s,W out ds l s->wp (collect g t e same ds l) (fun xs s'=>Q (out++xs) s') s:=by
 intro ds
 induction ds with
 | nil=>
  intro out l s h
  unfold collect
  rw[QgY]
  exact Qg1 (hend out l s h) fun _ s' q=>by rw[wp_ret,List.append_nil];exact q
 | cons d ds ih=>
  intro out l s h
  unfold collect
  rw[QgY]
  refine Qg1 (hstep out d ds l s h) fun _ s1 q=>?_
  rw[QgY]
  refine Qg1 q fun l1 s2 q=>?_
  rw[QgY]
  refine Qg1 q fun b s3 q=>?_
  cases b with
  | false=>exact ih out l1 s3 q
  | true=>
   show wp (bnd (e l1) _) _ s3
   rw[QgY]
   refine Qg1 q fun x s4 q=>?_
   rw[QgY]
   refine Qg1 (ih (out++[x]) l1 s4 q) fun xs s5 q=>?_
   rw[wp_ret]
   rw[List.append_assoc]at q
   exact q
theorem Qg6 {e : CE} {xs : List D} {same : Sto -> Prop} {caps : Loc} {s : Sto} {Q : List D -> Sto -> Prop} (W : Nat -> List D -> Sto -> Prop) (hs : ∀ i out s, W i out s -> same s) (h0 : W 0 [] s)
  (hstep:∀ (i:Nat) d out s,xs[i]?=some d->W i out s->wp (e (some d::caps)) (fun x s'=>W (i + 1) (out++[x]) s') s) (hend:∀ out s,W xs.length out s->Q out s):
  wp (collect (gVar 0) tTrue e same xs (none::caps)) Q s:=by
 have chk:∀ {s:Sto}{R:Unit->Sto->Prop},same s->R () s->wp (chkS same) R s:=fun h r=>by rw[QgX];unfold chkS;rw[if_pos h];exact r
 refine Qg5 (Q:=Q) (fun out ds l s=>∃ i x0,ds=xs.drop i/\i<=xs.length/\l=x0::caps/\W i out s) (fun out l s ⟨i,x0,e1,hi,_,w⟩=>?_) (fun out d ds l s ⟨i,x0,e1,hi,el,w⟩=>?_) xs [] _ s ⟨0,none,by simp,Nat.zero_le _,rfl,h0⟩
 ·have : i = xs.length := by
    have:=congrArg List.length e1
    simp at this;ac_nf
  subst this
  exact chk (hs _ _ _ w) (hend out s w)
 ·subst el
  have hlt:i < xs.length:=by
   have:=congrArg List.length e1
   simp at this;ac_nf
  rw[List.drop_eq_getElem_cons hlt]at e1
  obtain⟨e2,e3⟩:=List.cons.inj e1
  refine chk (hs _ _ _ w) ?_
  show wp (ret _) _ s
  rw[wp_ret]
  show wp (ret true) _ s
  rw[wp_ret]
  show wp (e (some d::caps)) _ s
  exact Qg1 (hstep i d out s (by rw[e2];exact List.getElem?_eq_getElem hlt) w) fun x s' q=>⟨i + 1,some d,e3,hlt,rfl,q⟩
theorem Qg7 {n i:Nat} (h:i < n):(rngD 0 n)[i]?=some (.int i):=by
 unfold rngD
 rw[List.getElem?_map,List.getElem?_range h];simp
theorem Qg8 (n:Nat):(rngD 0 n).length=n:=by simp[rngD]
theorem Qg9 {n:Nat} (h:n<=1000):n<=lim:=Nat.le_trans h (by decide)
theorem Qha {n:Nat} (h:n<=1000):n < lim:=Nat.lt_of_le_of_lt h (by decide)
theorem Qhb {g : CG} {b : CS} {same : Sto -> Prop} {xs : List D} {l : Loc} {s : Sto} {Q : Flw -> Sto -> Prop} (W : Nat -> Loc -> Sto -> Prop) (hs : ∀ i l s, W i l s -> same s) (h0 : W 0 l s)
  (hstep:∀ (i:Nat) d l s,xs[i]?=some d->W i l s->wp (g d l) (fun l1 s2=>wp (b l1) (fun f s3=>match f with
   | .next l2=>W (i + 1) l2 s3
   | .cnt l2=>W (i + 1) l2 s3
   | .brk l2=>Q (.next l2) s3
   | .ret d=>Q (.ret d) s3) s2) s) (hend:∀ l s,W xs.length l s->Q (.next l) s):wp (forD g b same xs l) Q s:=by
 have chk:∀ {s:Sto}{R:Unit->Sto->Prop},same s->R () s->wp (chkS same) R s:=fun h r=>by rw[QgX];unfold chkS;rw[if_pos h];exact r
 refine Qg4 (fun ds l s=>∃ i,ds=xs.drop i/\i<=xs.length/\W i l s) (fun l s ⟨i,e1,hi,w⟩=>?_) (fun d ds l s ⟨i,e1,hi,w⟩=>?_) xs l s ⟨0,by simp,Nat.zero_le _,h0⟩
 ·have : i = xs.length := by
    have:=congrArg List.length e1
    simp at this;ac_nf
  subst this
  exact chk (hs _ _ _ w) (hend l s w)
 ·have hlt : i < xs.length := by
    have:=congrArg List.length e1
    simp at this;ac_nf
  rw[List.drop_eq_getElem_cons hlt]at e1
  obtain⟨e2,e3⟩:=List.cons.inj e1
  refine chk (hs _ _ _ w) ?_
  refine Qg1 (hstep i d l s (by rw[e2];exact List.getElem?_eq_getElem hlt) w) fun l1 s2 q=>Qg1 q fun f s3 q=>?_
  cases f with
  | next l2=>exact⟨i + 1,e3,hlt,q⟩
  | cnt l2=>exact⟨i + 1,e3,hlt,q⟩
  | brk l2=>exact q
  | ret d=>exact q
end MM
local macro_rules | `(tactic| bv_omega)=>`(tactic| first | rfl | exact MM.wp_eq rfl | exact MM.wp_no rfl)
local macro_rules | `(tactic| ac_rfl)=>`(tactic| first | rfl | simp only[MM.wp_ret,MM.wp_alloc,MM.wp_bad] | (refine MM.wp_cg fun _ _=>?_;simp only[MM.wp_ret,MM.wp_alloc,MM.wp_bad]))
namespace MM
open PySem
theorem nr {α:Sort u}{a b:α} (h:a=b):a=b:=h
section
variable {Q:D->Sto->Prop}{R:Flw->Sto->Prop}{T:Bool->Sto->Prop}{A:List D->Sto->Prop}{G:Loc->Sto->Prop}{I:Wk->Sto->Prop}{s:Sto}{l:Loc}
theorem x_seq {a b : CS} : wp (sSeq a b l) R s = wp (a l) (fun f s' => match f with
  | .next l'=>wp (b l') R s'
  | .ret d=>R (.ret d) s'
  | .brk l'=>R (.brk l') s'
  | .cnt l'=>R (.cnt l') s') s:=by
 unfold sSeq;rw[QgY];congr 1;funext f s';cases f<;>first | bv_omega
theorem x_next:wp (sNext l) R s=R (.next l) s:=wp_eq rfl
theorem x_asg {g:CG}{a:CE}:wp (sAsg g a l) R s=wp (a l) (fun d s'=>wp (g d l) (fun l' s''=>R (.next l') s'') s') s:=by
 unfold sAsg;rw[QgY];congr 1;funext d s';rw[QgY];ac_rfl
theorem x_ret {a:CE}:wp (sRet a l) R s=wp (a l) (fun d s'=>R (.ret d) s') s:=by
 unfold sRet;rw[QgY];ac_rfl
theorem x_exp {a:CE}:wp (sExp a l) R s=wp (a l) (fun d s'=>R (.next l) s') s:=by
 unfold sExp;rw[QgY];ac_rfl
theorem x_if {t:CT}{a b:CS}:wp (sIf t a b l) R s=wp (t l) (fun c s'=>if c=true then wp (a l) R s' else wp (b l) R s') s:=by
 unfold sIf;rw[QgY];congr 1;funext c s';rw[Qg2]
theorem x_cmp {a : CE} : wp (tCmpB a l) T s = wp (a l) (fun x s' => match x with
  | .bl b=>T b s'
  | _=>False) s:=by
 unfold tCmpB;rw[QgY];congr 1;funext x s';cases x<;>first | bv_omega
theorem x_val {a:CE}:wp (tVal a l) T s=wp (a l) (fun x s'=>wp (truD x) T s') s:=by unfold tVal;rw[QgY]
theorem x_and {a b:CT}:wp (tAndB a b l) T s=wp (a l) (fun c s'=>if c=true then wp (b l) T s' else T false s') s:=by
 unfold tAndB;rw[QgY];congr 1;funext c s';rw[Qg2];ac_rfl
theorem x_or {a b:CT}:wp (tOrB a b l) T s=wp (a l) (fun c s'=>if c=true then T true s' else wp (b l) T s') s:=by
 unfold tOrB;rw[QgY];congr 1;funext c s';rw[Qg2];ac_rfl
theorem x_gvar {i:Nat}{d:D}:wp (gVar i d l) G s=G (l.set i (some d)) s:=wp_eq rfl
theorem x_g1 {a0:Option D}{d:D}{b:Option D}{r:Loc}{Q:Loc->Sto->Prop}:wp (gVar 1 d (a0::b::r)) Q s=Q (a0::some d::r) s:=x_gvar
theorem x_g2 {a0 a1:Option D}{d:D}{b:Option D}{r:Loc}{Q:Loc->Sto->Prop}:wp (gVar 2 d (a0::a1::b::r)) Q s=Q (a0::a1::some d::r) s:=x_gvar
theorem x_g3 {a0 a1 a2:Option D}{d:D}{b:Option D}{r:Loc}{Q:Loc->Sto->Prop}:wp (gVar 3 d (a0::a1::a2::b::r)) Q s=Q (a0::a1::a2::some d::r) s:=x_gvar
theorem x_g4 {a0 a1 a2 a3:Option D}{d:D}{b:Option D}{r:Loc}{Q:Loc->Sto->Prop}:wp (gVar 4 d (a0::a1::a2::a3::b::r)) Q s=Q (a0::a1::a2::a3::some d::r) s:=x_gvar
theorem x_g5 {a0 a1 a2 a3 a4:Option D}{d:D}{b:Option D}{r:Loc}{Q:Loc->Sto->Prop}:wp (gVar 5 d (a0::a1::a2::a3::a4::b::r)) Q s=Q (a0::a1::a2::a3::a4::some d::r) s:=x_gvar
theorem x_g6 {a0 a1 a2 a3 a4 a5:Option D}{d:D}{b:Option D}{r:Loc}{Q:Loc->Sto->Prop}:wp (gVar 6 d (a0::a1::a2::a3::a4::a5::b::r)) Q s=Q (a0::a1::a2::a3::a4::a5::some d::r) s:=x_gvar
theorem x_g7 {a0 a1 a2 a3 a4 a5 a6:Option D}{d:D}{b:Option D}{r:Loc}{Q:Loc->Sto->Prop}:wp (gVar 7 d (a0::a1::a2::a3::a4::a5::a6::b::r)) Q s=Q (a0::a1::a2::a3::a4::a5::a6::some d::r) s:=x_gvar
theorem x_g8 {a0 a1 a2 a3 a4 a5 a6 a7:Option D}{d:D}{b:Option D}{r:Loc}{Q:Loc->Sto->Prop}:wp (gVar 8 d (a0::a1::a2::a3::a4::a5::a6::a7::b::r)) Q s=Q (a0::a1::a2::a3::a4::a5::a6::a7::some d::r) s:=x_gvar
theorem x_g9 {a0 a1 a2 a3 a4 a5 a6 a7 a8:Option D}{d:D}{b:Option D}{r:Loc}{Q:Loc->Sto->Prop}:wp (gVar 9 d (a0::a1::a2::a3::a4::a5::a6::a7::a8::b::r)) Q s=Q (a0::a1::a2::a3::a4::a5::a6::a7::a8::some d::r) s:=x_gvar
theorem x_g10 {a0 a1 a2 a3 a4 a5 a6 a7 a8 a9:Option D}{d:D}{b:Option D}{r:Loc}{Q:Loc->Sto->Prop}:wp (gVar 10 d (a0::a1::a2::a3::a4::a5::a6::a7::a8::a9::b::r)) Q s=Q (a0::a1::a2::a3::a4::a5::a6::a7::a8::a9::some d::r) s:=x_gvar
theorem x_g11 {a0 a1 a2 a3 a4 a5 a6 a7 a8 a9 a10:Option D}{d:D}{b:Option D}{r:Loc}{Q:Loc->Sto->Prop}:wp (gVar 11 d (a0::a1::a2::a3::a4::a5::a6::a7::a8::a9::a10::b::r)) Q s=Q (a0::a1::a2::a3::a4::a5::a6::a7::a8::a9::a10::some d::r) s:=x_gvar
theorem x_gsub {o i:CE}{d:D}:wp (gSubD o i d l) G s=wp (o l) (fun y s1=>wp (i l) (fun z s2=>wp (setItemD y z d) (fun _ s3=>G l s3) s2) s1) s:=by
 unfold gSubD;rw[QgY];congr 1;funext y s1;rw[QgY];congr 1;funext z s2;rw[QgY];ac_rfl
theorem x_var {i : Nat} : wp (cVar i l) Q s = match l[i]? with
  | some (some d)=>Q d s
  | _=>False:=by
 unfold cVar;rcases l[i]? with _ | _ | d<;>first | bv_omega
theorem x_v0 {d:D}{r:Loc}:wp (cVar 0 (some d::r)) Q s=Q d s:=x_var
theorem x_v1 {a0:Option D}{d:D}{r:Loc}:wp (cVar 1 (a0::some d::r)) Q s=Q d s:=x_var
theorem x_v2 {a0 a1:Option D}{d:D}{r:Loc}:wp (cVar 2 (a0::a1::some d::r)) Q s=Q d s:=x_var
theorem x_v3 {a0 a1 a2:Option D}{d:D}{r:Loc}:wp (cVar 3 (a0::a1::a2::some d::r)) Q s=Q d s:=x_var
theorem x_v4 {a0 a1 a2 a3:Option D}{d:D}{r:Loc}:wp (cVar 4 (a0::a1::a2::a3::some d::r)) Q s=Q d s:=x_var
theorem x_v5 {a0 a1 a2 a3 a4:Option D}{d:D}{r:Loc}:wp (cVar 5 (a0::a1::a2::a3::a4::some d::r)) Q s=Q d s:=x_var
theorem x_v6 {a0 a1 a2 a3 a4 a5:Option D}{d:D}{r:Loc}:wp (cVar 6 (a0::a1::a2::a3::a4::a5::some d::r)) Q s=Q d s:=x_var
theorem x_v7 {a0 a1 a2 a3 a4 a5 a6:Option D}{d:D}{r:Loc}:wp (cVar 7 (a0::a1::a2::a3::a4::a5::a6::some d::r)) Q s=Q d s:=x_var
theorem x_v8 {a0 a1 a2 a3 a4 a5 a6 a7:Option D}{d:D}{r:Loc}:wp (cVar 8 (a0::a1::a2::a3::a4::a5::a6::a7::some d::r)) Q s=Q d s:=x_var
theorem x_v9 {a0 a1 a2 a3 a4 a5 a6 a7 a8:Option D}{d:D}{r:Loc}:wp (cVar 9 (a0::a1::a2::a3::a4::a5::a6::a7::a8::some d::r)) Q s=Q d s:=x_var
theorem x_v10 {a0 a1 a2 a3 a4 a5 a6 a7 a8 a9:Option D}{d:D}{r:Loc}:wp (cVar 10 (a0::a1::a2::a3::a4::a5::a6::a7::a8::a9::some d::r)) Q s=Q d s:=x_var
theorem x_v11 {a0 a1 a2 a3 a4 a5 a6 a7 a8 a9 a10:Option D}{d:D}{r:Loc}:wp (cVar 11 (a0::a1::a2::a3::a4::a5::a6::a7::a8::a9::a10::some d::r)) Q s=Q d s:=x_var
theorem x_con {d:D}:wp (cCon d l) Q s=Q d s:=wp_eq rfl
theorem x_c1 {g:D->M D}{a:CE}:wp (c1 g a l) Q s=wp (a l) (fun x s'=>wp (g x) Q s') s:=by unfold c1;rw[QgY]
theorem x_c2 {g:D->D->M D}{a b:CE}:wp (c2 g a b l) Q s=wp (a l) (fun x s'=>wp (b l) (fun y s''=>wp (g x y) Q s'') s') s:=by
 unfold c2;rw[QgY];congr 1;funext x s';rw[QgY]
theorem x_call {g:List D->M D}{a:CA}:wp (cCall g a l) Q s=wp (a l) (fun x s'=>wp (g x) Q s') s:=by unfold cCall;rw[QgY]
theorem x_nil:wp (cNil l) A s=A [] s:=wp_eq rfl
theorem x_cons {a:CE}{r:CA}:wp (cCons a r l) A s=wp (a l) (fun x s'=>wp (r l) (fun xs s''=>A (x::xs) s'') s') s:=by
 unfold cCons;rw[QgY];congr 1;funext x s';rw[QgY];ac_rfl
theorem x_tup {a:CA}:wp (cTup a l) Q s=wp (a l) (fun xs s'=>xs.length<=lim/\Q (.tup xs) s') s:=by
 unfold cTup;rw[QgY];congr 1;funext x s';rw[wp_chk];ac_rfl
theorem x_disp {a:CA}:wp (aDisp a l) A s=wp (a l) (fun xs s'=>xs.length<=lim/\A xs s') s:=by
 unfold aDisp;rw[QgY];congr 1;funext x s';rw[wp_chk];ac_rfl
theorem x_keep {a:CA}:wp (cKeep a l) Q s=wp (a l) (fun xs s'=>Q (.ref s'.length) (s'++[.lst xs])) s:=by
 unfold cKeep;rw[QgY];ac_rfl
theorem x_tmp {g:List D->M D}{a:CA}:wp (cTmp g a l) Q s=wp (a l) (fun x s'=>wp (g x) Q s') s:=by unfold cTmp;rw[QgY]
theorem x_comp {n:Nat}{caps:List Nat}{i:CI}{g:CG}{t:CT}{e:CE}:wp (aComp n caps i g t e l) A s=wp (i l) (fun w s'=>w.ds.length<=lim/\wp (collect g t e w.same w.ds (capt n caps l)) A s') s:=by
 unfold aComp;rw[QgY];congr 1;funext x s';rw[wp_chk]
theorem x_for {i:CI}{g:CG}{b:CS}:wp (sFor i g b l) R s=wp (i l) (fun w s'=>wp (forD g b w.same w.ds l) R s') s:=by
 unfold sFor;rw[QgY]
theorem x_rng {a : CE} : wp (MM.iRng1 a l) I s = wp (a l) (fun x s' => match x with
  | .int j=>(-(2 ^ 62)<=j/\j < 2 ^ 62)/\I ⟨rngD 0 j.toNat,anySt⟩ s'
  | _=>False) s:=by
 unfold MM.iRng1;rw[QgY];congr 1;funext x s';cases x<;>first | bv_omega | (dsimp only;rw[wp_chk];ac_rfl)
theorem x_iseq {a : CE} : wp (iSeq a l) I s = wp (a l) (fun x s' => match x with
  | .tup ds=>I ⟨ds,anySt⟩ s'
  | .lit ds=>I ⟨ds,anySt⟩ s'
  | .ref n=>wp (getL n) (fun ds s''=>I ⟨ds,sameL n ds⟩ s'') s'
  | _=>False) s:=by
 unfold iSeq;rw[QgY];congr 1;funext x s';cases x<;>first | bv_omega | (dsimp only;rw[QgY];ac_rfl)
theorem x_add {i j:Int}:wp (addD (.int i) (.int j)) Q s=Q (.int (i + j)) s:=wp_eq rfl
theorem x_sub {i j:Int}:wp (subD (.int i) (.int j)) Q s=Q (.int (i - j)) s:=wp_eq rfl
theorem x_mul {i j:Int}:wp (mulD (.int i) (.int j)) Q s=(mulOk i j/\Q (.int (i * j)) s):=by unfold mulD;rw[wp_chk];ac_rfl
theorem x_div {i j:Int}:wp (fdivD (.int i) (.int j)) Q s=((0 < j/\j < 1073741824)/\Q (.int (i / j)) s):=by unfold fdivD;rw[wp_chk];ac_rfl
theorem x_mod {i j:Int}:wp (modD (.int i) (.int j)) Q s=(0 < j/\Q (.int (i % j)) s):=by unfold modD;rw[wp_chk];ac_rfl
theorem x_lt {i j:Int}:wp (ltD (.int i) (.int j)) Q s=Q (.bl (decide (i < j))) s:=wp_eq rfl
theorem x_gt {i j:Int}:wp (gtD (.int i) (.int j)) Q s=Q (.bl (decide (j < i))) s:=wp_eq rfl
theorem x_ge {i j:Int}:wp (geD (.int i) (.int j)) Q s=Q (.bl (decide (j<=i))) s:=wp_eq rfl
theorem x_eq {i j:Int}:wp (eqD (.int i) (.int j)) Q s=Q (.bl (i == j)) s:=wp_eq rfl
theorem x_ne {i j:Int}:wp (neD (.int i) (.int j)) Q s=Q (.bl !(i == j)) s:=wp_eq rfl
theorem x_subsT {ds:List D}{i:Int}:wp (subsD (.tup ds) (.int i)) Q s=wp (itemD ds i) Q s:=nr rfl
theorem x_subsR {n:Nat}{i:Int}:wp (subsD (.ref n) (.int i)) Q s=wp (getL n) (fun ds s'=>wp (itemD ds i) Q s') s:=by
 unfold subsD;rw[QgY]
theorem x_lenT {ds:List D}:wp (lenD (.tup ds)) Q s=Q (.int ds.length) s:=wp_eq rfl
theorem x_lenR {n:Nat}:wp (lenD (.ref n)) Q s=wp (getL n) (fun ds s'=>Q (.int ds.length) s') s:=by unfold lenD;rw[QgY];ac_rfl
theorem x_intB {b:Bool}:wp (intD (.bl b)) Q s=Q (.int (if b then 1 else 0)) s:=wp_eq rfl
theorem x_setR {n : Nat} {i : Int} {v : D} {U : Unit -> Sto -> Prop} : wp (setItemD (.ref n) (.int i) v) U s = wp (getL n) (fun ds s' => wp (match MM.ixN ds.length i with
  | some j=>putL n (ds.set j v)
  | none=>bad) U s') s:=by
 unfold setItemD;rw[QgY]<;>congr 1
theorem x_retF {d:D}:wp (flwD (.ret d)) Q s=Q d s:=wp_eq rfl
end
theorem x_slice {a : CE} {lo hi : CO} {A : List D -> Sto -> Prop} {s : Sto} {l : Loc} : wp (aSlice a lo hi l) A s = wp (a l) (fun x s1 => wp (lo l) (fun i s2 => wp (hi l) (fun j s3 => match x with
  | .lit ds=>A (cutD ds i j) s3
  | .ref n=>wp (getL n) (fun ds s4=>A (cutD ds i j) s4) s3
  | _=>False) s2) s1) s:=by
 unfold aSlice;rw[QgY];congr 1;funext x s1;rw[QgY];congr 1;funext i s2;rw[QgY];congr 1;funext j s3;cases x<;>first | bv_omega | (dsimp only;rw[QgY];ac_rfl)
theorem x_none {A:Option Int->Sto->Prop}{s:Sto}{l:Loc}:wp (oNone l) A s=A none s:=wp_eq rfl
theorem x_some {a : CE} {A : Option Int -> Sto -> Prop} {s : Sto} {l : Loc} : wp (oSome a l) A s = wp (a l) (fun x s1 => match x with
  | .int i=>A (some i) s1
  | _=>False) s:=by
 unfold oSome;rw[QgY];congr 1;funext x s1;cases x<;>first | bv_omega
theorem x_enum {a : CE} {I : Wk -> Sto -> Prop} {s : Sto} {l : Loc} : wp (iEnum a l) I s = wp (a l) (fun x s' => match x with
  | .tup ds=>I ⟨(rngD 0 ds.length).zipWith (fun i d=>.tup [i,d]) ds,anySt⟩ s'
  | _=>False) s:=by
 unfold iEnum;rw[QgY];congr 1;funext x s';cases x<;>first | bv_omega
theorem x_gtup {n:Nat}{r:List D->Loc->M Loc}{ds:List D}{G:Loc->Sto->Prop}{s:Sto}{l:Loc}:wp (gTupD n r (.tup ds) l) G s=(ds.length=n/\wp (r ds l) G s):=by
 unfold gTupD;rw[wp_chk]
theorem x_gcons {g:CG}{r:List D->Loc->M Loc}{d:D}{ds:List D}{G:Loc->Sto->Prop}{s:Sto}{l:Loc}:wp (gsCons g r (d::ds) l) G s=wp (g d l) (fun l' s'=>wp (r ds l') G s') s:=by
 unfold gsCons;rw[QgY]
theorem x_gnil {G:Loc->Sto->Prop}{s:Sto}{l:Loc}:wp (gsNil [] l) G s=G l s:=wp_eq rfl
def Ext (s s':Sto):Prop:=∃ t,s'=s++t
theorem Ext.refl (s:Sto):Ext s s:=⟨[],by simp⟩
theorem Ext.snoc {s s':Sto} (h:Ext s s') (o:MO):Ext s (s'++[o]):=by obtain⟨t,e⟩:=h;exact⟨t++[o],by rw[e];simp⟩
theorem Ext.trans {s s' s2:Sto} (h:Ext s s') (k:Ext s' s2):Ext s s2:=by obtain⟨t,e⟩:=h;obtain⟨u,f⟩:=k;exact⟨t++u,by rw[f,e];simp⟩
theorem Ext.at_ {s s':Sto}{n:Nat}{o:MO} (h:Ext s s') (k:s[n]?=some o):s'[n]?=some o:=by
 obtain⟨t,e⟩:=h
 rw[e,List.getElem?_append_left (List.getElem?_eq_some_iff.mp k).1];exact k
theorem Qhc {α:Type} (f:α->Int) (xs:List α):numsL (xs.map fun x=>.int (f x))=some (xs.map f):=by
 induction xs with
 | nil=>rfl
 | cons x xs ih=>simp only[List.map_cons,numsL,ih];ac_rfl
theorem Qhd {α:Type}{m:M α}{v:α}{s:Sto}{Q:α->Sto->Prop} (h:wp m (fun a s'=>a=v/\s'=s) s):wp m Q s=Q v s:=by
 simp only[QgX]at *
 cases e:m s with
 | ok a s'=>rw[e]at h;obtain⟨h1,h2⟩:=h;subst h1;subst h2;ac_rfl
 | exc _ _=>rw[e]at h;exact h.elim
 | bad=>rw[e]at h;exact h.elim
theorem Qhe {a b:Nat}{x y:List D}{Q:D->Sto->Prop}{s:Sto} (h1:s[a]?=some (.lst x)) (h2:s[b]?=some (.lst y)):wp (addD (.ref a) (.ref b)) Q s=(x.length + y.length<=lim/\Q (.ref s.length) (s++[.lst (x++y)])):=by
 unfold addD;rw[QgY,QgZ h1,QgY,QgZ h2,wp_chk];ac_rfl
def andB (x:D) (p q:Prop):Prop:=match x with
 | .bl true=>p
 | .bl false=>q
 | _=>False
theorem andB_t {p q:Prop}:andB (.bl true) p q=p:=nr rfl
theorem andB_f {p q:Prop}:andB (.bl false) p q=q:=nr rfl
section
variable {Q:D->Sto->Prop}{T:Bool->Sto->Prop}{R:Flw->Sto->Prop}{s:Sto}{l:Loc}
theorem x_andE {a b:CE}:wp (cAnd a b l) Q s=wp (a l) (fun x s'=>andB x (wp (b l) Q s') (Q (.bl false) s')) s:=by
 unfold cAnd;rw[QgY];congr 1;funext x s';rcases x with _ | b | _ | _ | _ | _ | _ | _<;>first | bv_omega | (cases b<;>first | bv_omega)
theorem x_orE {a b:CE}:wp (cOr a b l) Q s=wp (a l) (fun x s'=>andB x (Q (.bl true) s') (wp (b l) Q s')) s:=by
 unfold cOr;rw[QgY];congr 1;funext x s';rcases x with _ | b | _ | _ | _ | _ | _ | _<;>first | bv_omega | (cases b<;>first | bv_omega)
theorem x_ifE {t:CT}{a b:CE}:wp (cIfE t a b l) Q s=wp (t l) (fun c s'=>if c=true then wp (a l) Q s' else wp (b l) Q s') s:=by
 unfold cIfE;rw[QgY];congr 1;funext c s';rw[Qg2]
theorem x_truB {b:Bool}:wp (truD (.bl b)) T s=T b s:=wp_eq rfl
theorem x_tupL {ds:List D}:wp (tupL ds) Q s=Q (.tup ds) s:=wp_eq rfl
theorem x_item0 {d:D}{ds:List D}:wp (itemD (d::ds) 0) Q s=Q d s:=by
 rw[Qg3 (d:=d) (by ac_nf) rfl,wp_ret]
theorem x_item1 {d e:D}{ds:List D}:wp (itemD (d::e::ds) 1) Q s=Q e s:=by
 rw[Qg3 (d:=e) (by ac_nf) rfl,wp_ret]
theorem x_item2 {d e f:D}{ds:List D}:wp (itemD (d::e::f::ds) 2) Q s=Q f s:=by
 rw[Qg3 (d:=f) (by ac_nf) rfl,wp_ret]
theorem x_item3 {d e f g:D}{ds:List D}:wp (itemD (d::e::f::g::ds) 3) Q s=Q g s:=by
 rw[Qg3 (d:=g) (by ac_nf) rfl,wp_ret]
theorem Qhf {ds:List D}{i:Nat}{d:D} (h:ds[i]?=some d):wp (itemD ds i) Q s=Q d s:=by
 rw[Qg3 (d:=d) (by ac_nf) (by simpa using h),wp_ret]
theorem x_iTmp {a:CA}{I:Wk->Sto->Prop}:wp (iTmp a l) I s=wp (a l) (fun ds s'=>I ⟨ds,anySt⟩ s') s:=by unfold iTmp;rw[QgY];ac_rfl
end
def upto {α:Type} (n:Nat) (f:Nat->α):List α:=(List.range n).map f
theorem Qhm {α:Type}{n i:Nat}{f:Nat->α} (h:i < n):(upto n f)[i]?=some (f i):=by unfold upto;rw[List.getElem?_map,List.getElem?_range h];ac_rfl
theorem Qhn {α:Type}{n i:Nat}{f:Nat->α}{x:α} (h:(upto n f)[i]?=some x):i < n/\x=f i:=by
 have hi:i < n:=by
  have:=(List.getElem?_eq_some_iff.mp h).1
  simpa [upto] using this
 rw[Qhm hi]at h;cases h;exact⟨hi,rfl⟩
theorem Qho {α:Type}{n:Nat}{f:Nat->α}:(upto n f).length=n:=by simp[upto]
theorem Qhp {α:Type}{n:Nat}{f:Nat->α}:upto (n + 1) f=upto n f++[f n]:=by unfold upto;rw[List.range_succ,List.map_append];ac_rfl
theorem Qhq {α:Type}{n:Nat}{xs:List α}{f:Nat->α} (hl:xs.length=n) (h:∀ i,i < n->xs[i]?=some (f i)):xs=upto n f:=by
 apply List.ext_getElem?
 intro i
 by_cases hi:i < n
 ·rw[h i hi,Qhm hi]
 ·rw[List.getElem?_eq_none (by ac_nf),List.getElem?_eq_none (by rw[Qho];ac_nf)]
theorem Qhr {α:Type}{n:Nat}{f g:Nat->α} (h:∀ i,i < n->f i=g i):upto n f=upto n g:=
 Qhq Qho fun i hi=>by rw[Qhm hi,h i hi]
theorem Qhs {n:Nat}:rngD 0 n=upto n fun i=>.int i:=by unfold rngD upto;congr 1;funext k;simp
theorem Qht {g : CG} {e : CE} {same : Sto -> Prop} {ds : List D} {l0 : Loc} {f : Nat -> D} {Q : List D -> Sto -> Prop} {s : Sto} (I : Loc -> Prop) (hs : same s) (h0 : I l0)
  (h:∀ i d l,ds[i]?=some d->I l->∃ l',(∀ G,wp (g d l) G s=G l' s)/\I l'/\∀ Q,wp (e l') Q s=Q (f i) s):
  wp (collect g tTrue e same ds l0) Q s=Q (upto ds.length f) s:=by
 have chk:∀ {R:Unit->Sto->Prop},R () s->wp (chkS same) R s:=fun r=>by rw[QgX];unfold chkS;rw[if_pos hs];exact r
 apply Qhd
 refine Qg5 (Q:=fun out s'=>out=upto ds.length f/\s'=s) (fun out xs l s'=>∃ i,xs=ds.drop i/\i<=ds.length/\I l/\out=upto i f/\s'=s) (fun out l s' ⟨i,e1,hi,_,e2,es⟩=>?_) (fun out d xs l s' ⟨i,e1,hi,hI,e2,es⟩=>?_) ds [] _ s ⟨0,by simp,Nat.zero_le _,h0,rfl,rfl⟩
 ·have : i = ds.length := by
    have:=congrArg List.length e1
    simp at this;ac_nf
  subst this
  subst es
  exact chk ⟨e2,rfl⟩
 ·have hlt : i < ds.length := by
    have:=congrArg List.length e1
    simp at this;ac_nf
  rw[List.drop_eq_getElem_cons hlt]at e1
  obtain⟨e3,e4⟩:=List.cons.inj e1
  obtain⟨l',q1,q2,q3⟩:=h i d l (by rw[e3];exact List.getElem?_eq_getElem hlt) hI
  subst es
  refine chk ?_
  rw[q1]
  show wp (ret true) _ s'
  rw[wp_ret]
  show wp (e l') _ s'
  rw[q3]
  exact⟨i + 1,e4,hlt,q2,by rw[e2,Qhp],rfl⟩
theorem Qhu {e : CE} {same : Sto -> Prop} {ds : List D} {caps : Loc} {f : Nat -> D} {Q : List D -> Sto -> Prop} {s : Sto} (hs : same s) (h : ∀ i d, ds[i]? = some d -> ∀ Q, wp (e (some d :: caps)) Q s = Q (f i) s) :
  wp (collect (gVar 0) tTrue e same ds (none::caps)) Q s=Q (upto ds.length f) s:=
 Qht (fun l=>∃ x,l=x::caps) hs ⟨none,rfl⟩ fun i d l hd pq98=>by obtain⟨x,el⟩:=pq98;exact⟨some d::caps,fun G=>by rw[el,x_gvar];rfl,⟨_,rfl⟩,h i d hd⟩
section
variable {n:Nat}{f:Nat->D}{Q:D->Sto->Prop}{s:Sto}
theorem Qhv {i:Nat} (h:i < n):wp (itemD (upto n f) (i:Int)) Q s=Q (f i) s:=Qhf (Qhm h)
theorem Qhw (h:0 < n):wp (itemD (upto n f) 0) Q s=Q (f 0) s:=by
 have:=@Qhf Q s (upto n f) 0 (f 0) (Qhm h);simpa using this
end
theorem Qhx {s:Sto}:anySt s:=trivial
theorem Qhy {g : CG} {b : CS} {same : Sto -> Prop} {n : Nat} {f : Nat -> D} {l : Loc} {s : Sto} {Q : Flw -> Sto -> Prop} (W : Nat -> Loc -> Sto -> Prop) (hs : ∀ i l s, W i l s -> same s) (h0 : W 0 l s)
  (hstep:∀ (i:Nat) l s,i < n->W i l s->wp (g (f i) l) (fun l1 s2=>wp (b l1) (fun f s3=>match f with
   | .next l2=>W (i + 1) l2 s3
   | .cnt l2=>W (i + 1) l2 s3
   | .brk l2=>Q (.next l2) s3
   | .ret d=>Q (.ret d) s3) s2) s) (hend:∀ l s,W n l s->Q (.next l) s):wp (forD g b same (upto n f) l) Q s:=
 Qhb W hs h0 (fun i d l s hd w=>by obtain⟨hi,e⟩:=Qhn hd;subst e;exact hstep i l s hi w) (fun l s w=>hend l s (by rw[Qho]at w;exact w))
theorem Qhz {e : CE} {n : Nat} {f : Nat -> D} {same : Sto -> Prop} {caps : Loc} {s : Sto} {Q : List D -> Sto -> Prop} (W : Nat -> List D -> Sto -> Prop) (hs : ∀ i out s, W i out s -> same s) (h0 : W 0 [] s)
  (hstep:∀ (i:Nat) out s,i < n->W i out s->wp (e (some (f i)::caps)) (fun x s'=>W (i + 1) (out++[x]) s') s) (hend:∀ out s,W n out s->Q out s):
  wp (collect (gVar 0) tTrue e same (upto n f) (none::caps)) Q s:=
 Qg6 W hs h0 (fun i d out s hd w=>by obtain⟨hi,e⟩:=Qhn hd;subst e;exact hstep i out s hi w) (fun out s w=>hend out s (by rw[Qho]at w;exact w))
theorem QhA {e : CE} {same : Sto -> Prop} {n : Nat} {g : Nat -> D} {caps : Loc} {f : Nat -> D} {Q : List D -> Sto -> Prop} {s : Sto} (hs : same s) (h : ∀ i, i < n -> ∀ Q, wp (e (some (g i) :: caps)) Q s = Q (f i) s) :
  wp (collect (gVar 0) tTrue e same (upto n g) (none::caps)) Q s=Q (upto n f) s:=by
 rw[Qhu (f:=f) hs (fun i d hd=>by obtain⟨hi,e⟩:=Qhn hd;subst e;exact h i hi),Qho]
theorem QhB {n:Nat}{f:Nat->D}:(rngD 0 n).zipWith (fun i d=>D.tup [i,d]) (upto n f)=upto n fun i=>.tup [.int i,f i]:=by
 apply Qhq
 ·simp[rngD,upto]
 ·intro i hi
  rw[List.getElem?_zipWith,Qg7 hi,Qhm hi]
section
variable {Q:D->Sto->Prop}{T:Bool->Sto->Prop}{R:Flw->Sto->Prop}{A:List D->Sto->Prop}{s:Sto}{l:Loc}
theorem x_append {a b : CE} : wp (cAppend a b l) Q s = wp (a l) (fun x s1 => match x with
  | .ref n=>wp (b l) (fun v s2=>wp (getL n) (fun ds s3=>ds.length < lim/\wp (putL n (ds++[v])) (fun _ s4=>Q .non s4) s3) s2) s1
  | _=>False) s:=by
 unfold cAppend;rw[QgY];congr 1;funext x s1
 cases x<;>first | bv_omega | (dsimp only;rw[QgY];congr 1;funext v s2;unfold appendL;rw[QgY];congr 1;funext ds s3;rw[wp_chk,QgY];first | ac_rfl | (refine congrArg _ ?_;refine wp_cg fun _ _=>?_;simp only[wp_ret,wp_alloc,wp_bad]))
theorem x_pop {a : CE} : wp (cPop a l) Q s = wp (a l) (fun x s1 => match x with
  | .ref n=>wp (getL n) (fun ds s2=>match ds.getLast? with
   | some d=>wp (putL n ds.dropLast) (fun _ s4=>Q d s4) s2
   | none=>False) s1
  | _=>False) s:=by
 unfold cPop;rw[QgY];congr 1;funext x s1
 cases x<;>first | bv_omega | (dsimp only;rw[QgY];congr 1;funext ds s2;cases ds.getLast?<;>first | bv_omega | (dsimp only;rw[QgY];first | ac_rfl | (refine congrArg _ ?_;refine wp_cg fun _ _=>?_;simp only[wp_ret,wp_alloc,wp_bad])))
theorem x_back {a : CE} : wp (aBack a l) A s = wp (a l) (fun x s1 => match x with
  | .ref n=>wp (getL n) (fun ds s2=>A ds.reverse s2) s1
  | _=>False) s:=by
 unfold aBack;rw[QgY];congr 1;funext x s1
 cases x<;>first | bv_omega | (dsimp only;rw[QgY];first | ac_rfl | (refine congrArg _ ?_;refine wp_cg fun _ _=>?_;simp only[wp_ret,wp_alloc,wp_bad]))
theorem x_listR {n:Nat}:wp (listD (.ref n)) Q s=wp (getL n) (fun ds s1=>Q (.ref s1.length) (s1++[.lst ds])) s:=by unfold listD seqOf;rw[QgY];(try dsimp only);(try rw[QgY]);refine wp_cg fun _ _=>?_;simp only[wp_ret,wp_alloc,wp_bad]
theorem x_tupleR {n:Nat}:wp (tupleD (.ref n)) Q s=wp (getL n) (fun ds s1=>Q (.tup ds) s1) s:=by unfold tupleD;rw[QgY];(try dsimp only);(try rw[QgY]);refine wp_cg fun _ _=>?_;simp only[wp_ret,wp_alloc,wp_bad]
theorem x_eqStr {a b:Str}:wp (eqD (.str a) (.str b)) Q s=Q (.bl (a == b)) s:=wp_eq rfl
theorem x_neg {i:Int}:wp (negD (.int i)) Q s=Q (.int (-i)) s:=wp_eq rfl
theorem x_min2 {i j:Int}:wp (min2D (.int i) (.int j)) Q s=Q (.int (min i j)) s:=wp_eq rfl
theorem x_rng2 {a b : CE} {I : Wk -> Sto -> Prop} : wp (MM.iRng2 a b l) I s = wp (a l) (fun x s1 => wp (b l) (fun y s2 => match x, y with
  | .int i,.int j=>((-(2 ^ 62)<=i/\i < 2 ^ 62)/\(-(2 ^ 62)<=j/\j < 2 ^ 62))/\I ⟨rngD i (j - i).toNat,anySt⟩ s2
  | _,_=>False) s1) s:=by
 unfold MM.iRng2;rw[QgY];congr 1;funext x s1;rw[QgY];congr 1;funext y s2
 cases x<;>cases y<;>first | bv_omega | (dsimp only;rw[wp_chk];first | ac_rfl | (refine congrArg _ ?_;refine wp_cg fun _ _=>?_;simp only[wp_ret,wp_alloc,wp_bad]))
theorem x_addT {x y:List D}:wp (addD (.tup x) (.tup y)) Q s=(x.length + y.length<=lim/\Q (.tup (x++y)) s):=by unfold addD;rw[wp_chk];first | ac_rfl | (refine congrArg _ ?_;refine wp_cg fun _ _=>?_;simp only[wp_ret,wp_alloc,wp_bad])
theorem x_tmpSub {a : CA} {b : CE} : wp (cTmpSub a b l) Q s = wp (a l) (fun ds s1 => wp (b l) (fun i s2 => match i with
  | .int k=>wp (itemD ds k) Q s2
  | _=>False) s1) s:=by
 unfold cTmpSub;rw[QgY];congr 1;funext ds s1;rw[QgY];congr 1;funext i s2;cases i<;>first | bv_omega
theorem x_inTmp {g:D->List D->M D}{a:CE}{b:CA}:wp (cInTmp g a b l) Q s=wp (a l) (fun x s1=>wp (b l) (fun ds s2=>wp (g x ds) Q s2) s1) s:=by
 unfold cInTmp;rw[QgY];congr 1;funext x s1;rw[QgY]
end
theorem ite_f {p q:Prop}:(if false=true then p else q)=q:=if_neg (by simp)
def mx (f:Nat->Nat):Nat->Nat
 | 0=>0
 | n + 1=>max (mx f n) (f n)
theorem QhC {f:Nat->Nat}{n m:Nat} (h:∀ i,i < n->f i<=m):mx f n<=m:=by
 induction n with
 | zero=>exact Nat.zero_le _
 | succ n ih=>unfold mx;exact Nat.max_le.mpr ⟨ih fun i hi=>h i (by ac_nf),h n (by ac_nf)⟩
theorem QhD {f:Nat->Nat}{n i:Nat} (h:i < n):f i<=mx f n:=by
 induction n with
 | zero=>ac_nf
 | succ n ih=>
  unfold mx
  by_cases e:i=n
  ·subst e;exact Nat.le_max_right _ _
  ·exact Nat.le_trans (ih (by ac_nf)) (Nat.le_max_left _ _)
theorem QhE {f:Nat->Nat}{n:Nat}{Q:D->Sto->Prop}{s:Sto} (hn:0 < n):wp (maxD (upto n fun i=>.int (f i:Nat))) Q s=Q (.int (mx f n:Nat)) s:=by
 obtain⟨k,rfl⟩:∃ k,n=k + 1:=⟨n - 1,by ac_nf⟩
 have hm:∀ (k:Nat),(((List.range k).map (· + 1)).map fun (i:Nat)=>((f i:Nat):Int)).foldl max ((f 0:Nat):Int)=((mx f (k + 1):Nat):Int):=by
  intro k
  induction k with
  | zero=>show ((f 0:Nat):Int)=((max 0 (f 0):Nat):Int);ac_nf
  | succ k ih=>
   rw[List.range_succ,List.map_append,List.map_append,List.foldl_append,ih]
   show max ((mx f (k + 1):Nat):Int) ((f (k + 1):Nat):Int)=((max (mx f (k + 1)) (f (k + 1)):Nat):Int)
   ac_nf
 unfold maxD upto
 rw[Qhc (fun i=>((f i:Nat):Int)),List.range_succ_eq_map,List.map_cons]
 dsimp only
 rw[wp_ret,<- hm k]
theorem Ext.put {s s':Sto}{n:Nat}{o:MO} (h:Ext s s') (hn:s.length<=n):Ext s (s'.set n o):=by
 obtain⟨t,e⟩:=h
 exact⟨t.set (n - s.length) o,by rw[e,List.set_append_right _ _ hn]⟩
theorem QhF {t:CT}{b:CS}:∀ (n:Nat) (l:Loc) (s:Sto),whileN t b n l s≠.bad->whileN t b (n + 1) l s=whileN t b n l s
 | 0,l,s,h=>(h rfl).elim
 | n + 1,l,s,h=>by
  have e1:∀ k,whileN t b (k + 1) l s=(match t l s with
   | .ok true s1=>(match b l s1 with
    | .ok (.next l2) s2=>whileN t b k l2 s2
    | .ok (.cnt l2) s2=>whileN t b k l2 s2
    | .ok (.brk l2) s2=>.ok (.next l2) s2
    | .ok (.ret d) s2=>.ok (.ret d) s2
    | .exc x s2=>.exc x s2
    | .bad=>.bad)
   | .ok false s1=>.ok (.next l) s1
   | .exc x s1=>.exc x s1
   | .bad=>.bad):=fun k=>by
   show bnd (t l) _ s=_
   unfold bnd
   cases t l s with
   | exc x s1=>rfl
   | bad=>rfl
   | ok c s1=>
    cases c with
    | false=>rfl
    | true=>
     show (bnd (b l) _) s1=_
     unfold bnd
     dsimp only
     cases b l s1 with
     | exc x s2=>rfl
     | bad=>rfl
     | ok f s2=>cases f<;>first | bv_omega
  rw[e1 (n + 1),e1 n]
  rw[e1 n]at h
  cases et:t l s with
  | exc x s1=>rfl
  | bad=>rfl
  | ok c s1=>
   rw[et]at h
   cases c with
   | false=>rfl
   | true=>
    dsimp only at h ⊢
    cases eb:b l s1 with
    | exc x s2=>rfl
    | bad=>rfl
    | ok f s2=>
     rw[eb]at h
     cases f with
     | next l2=>exact QhF n l2 s2 h
     | cnt l2=>exact QhF n l2 s2 h
     | brk l2=>rfl
     | ret d=>rfl
theorem QhG {t:CT}{b:CS}{n m:Nat}{l:Loc}{s:Sto} (h:whileN t b n l s≠.bad) (hm:n<=m):whileN t b m l s=whileN t b n l s:=by
 induction m with
 | zero => have : n = 0 := by ac_nf
           subst this;ac_rfl
 | succ m ih=>
  by_cases e:n=m + 1
  ·subst e;ac_rfl
  ·have:=ih (by ac_nf)
   rw[QhF m l s (by rw[this];exact h),this]
theorem QhH {t : CT} {b : CS} {Q : Flw -> Sto -> Prop} {l : Loc} {s : Sto} (W : Loc -> Sto -> Prop) (μ : Loc -> Sto -> Nat) (h0 : W l s)
  (hs:∀ l s,W l s->wp (t l) (fun c s1=>if c=true then wp (b l) (fun f s2=>match f with
   | .next l2=>W l2 s2/\μ l2 s2 < μ l s
   | .cnt l2=>W l2 s2/\μ l2 s2 < μ l s
   | .brk l2=>Q (.next l2) s2
   | .ret d=>Q (.ret d) s2) s1 else Q (.next l) s1) s):wp (sWhile t b l) Q s:=by
 have key:∀ (k:Nat) (l:Loc) (s:Sto),μ l s < k->W l s->∃ n,wp (whileN t b n l) Q s:=by
  intro k
  induction k with
  | zero=>intro l s h;ac_nf
  | succ k ih=>
   intro l s hk w
   have h1:=hs l s w
   rw[QgX]at h1
   cases et:t l s with
   | exc x s1=>rw[et]at h1;exact h1.elim
   | bad=>rw[et]at h1;exact h1.elim
   | ok c s1=>
    rw[et]at h1
    cases c with
    | false=>
     refine⟨1,?_⟩
     show wp (bnd (t l) _) Q s
     rw[QgY,wp_eq et]
     show wp (ret _) _ _
     rw[wp_ret]
     exact h1
    | true=>
     have h2:wp (b l) _ s1:=h1
     rw[QgX]at h2
     cases eb:b l s1 with
     | exc x s2=>rw[eb]at h2;exact h2.elim
     | bad=>rw[eb]at h2;exact h2.elim
     | ok f s2=>
      rw[eb]at h2
      have go:∀ (n:Nat),wp (match f with
       | .next l2=>whileN t b n l2
       | .cnt l2=>whileN t b n l2
       | .brk l2=>ret (.next l2)
       | .ret d=>ret (.ret d)) Q s2->wp (whileN t b (n + 1) l) Q s:=fun n q=>by
       show wp (bnd (t l) _) Q s
       rw[QgY,wp_eq et,if_pos rfl,QgY,wp_eq eb]
       exact q
      cases f with
      | next l2=>obtain⟨n,hn⟩:=ih l2 s2 (by have:=h2.2;ac_nf) h2.1;exact⟨n + 1,go n hn⟩
      | cnt l2=>obtain⟨n,hn⟩:=ih l2 s2 (by have:=h2.2;ac_nf) h2.1;exact⟨n + 1,go n hn⟩
      | brk l2=>exact⟨1,go 0 (by show wp (ret _) _ _;rw[wp_ret];exact h2)⟩
      | ret d=>exact⟨1,go 0 (by show wp (ret _) _ _;rw[wp_ret];exact h2)⟩
 obtain⟨n,hn⟩:=key (μ l s + 1) l s (Nat.lt_succ_self _) h0
 have nb:whileN t b n l s≠.bad:=fun e=>by rw[QgX]at hn;rw[e]at hn;exact hn
 have ex:∃ n,∀ r,whileN t b n l s=r->r≠.bad:=⟨n,fun r e=>e ▸ nb⟩
 rw[QgX];unfold sWhile
 rw[dif_pos ex]
 have hc:whileN t b (Classical.choose ex) l s≠.bad:=Classical.choose_spec ex _ rfl
 have e:whileN t b (Classical.choose ex) l s=whileN t b n l s:=by
  rw[<- QhG hc (Nat.le_max_left (Classical.choose ex) n),<- QhG nb (Nat.le_max_right (Classical.choose ex) n)]
 rw[e]
 rw[QgX]at hn
 exact hn
section
variable {Q:D->Sto->Prop}{s:Sto}{l:Loc}
theorem x_sliceT {a : CE} {lo hi : CO} : wp (cSliceT a lo hi l) Q s = wp (a l) (fun x s1 => wp (lo l) (fun i s2 => wp (hi l) (fun j s3 => match x with
  | .tup ds=>¬(sIx ds.length 0 i=0/\sIx ds.length ds.length j=ds.length)/\Q (.tup (cutD ds i j)) s3
  | _=>False) s2) s1) s:=by
 unfold cSliceT;rw[QgY];congr 1;funext x s1;rw[QgY];congr 1;funext i s2;rw[QgY];congr 1;funext j s3;cases x<;>first | bv_omega | (dsimp only;rw[wp_chk];ac_rfl)
inductive Pd:Nat->D->Prop
 | non {n}:Pd n .non
 | bl {n} (b):Pd n (.bl b)
 | int {n} (i):Pd n (.int i)
 | str {n} (x):Pd n (.str x)
 | tup {n}{ds:List D} (h:∀ d∈ds,Pd n d):Pd (n + 1) (.tup ds)
theorem Pd.up {n:Nat}{d:D} (h:Pd n d):Pd (n + 1) d:=by
 induction h with
 | non=>exact .non
 | bl b=>exact .bl b
 | int i=>exact .int i
 | str x=>exact .str x
 | tup h ih=>exact .tup ih
theorem QhI {f:D->D->Option Bool}:∀ {ds:List D},(∀ d∈ds,f d d=some true)->allF f ds ds=some true
 | [],_=>rfl
 | d::ds,h=>by
  unfold allF
  rw[h d (by simp)]
  exact QhI fun x hx=>h x (by simp[hx])
theorem Pd.eq {n:Nat}{d:D} (h:Pd n d):eqF n d d=some true:=by
 induction h with
 | @non n=>cases n<;>first | bv_omega
 | @bl n b=>cases n<;>exact congrArg some (beq_self_eq_true b)
 | @int n i=>cases n<;>exact congrArg some (beq_self_eq_true i)
 | @str n x=>cases n<;>exact congrArg some (beq_self_eq_true x)
 | @tup n ds h ih=>exact QhI ih
theorem Pd.le {n m:Nat}{d:D} (h:Pd n d) (hm:n<=m):Pd m d:=by
 induction m with
 | zero => have : n = 0 := by ac_nf
           subst this;exact h
 | succ m ih=>
  by_cases e:n=m + 1
  ·subst e;exact h
  ·exact (ih (by ac_nf)).up
theorem QhJ {n:Nat}{ds:List D} (h:Pd n (.tup ds)) (hn:n<=50):wp (eqD (.tup ds) (.tup ds)) Q s=Q (.bl true) s:=by
 have:=(h.le hn).eq
 unfold eqD eqB
 rw[QgY]
 dsimp only
 rw[this]
 first | rfl | exact wp_eq rfl | exact (wp_eq rfl).trans wp_ret | (simp only[wp_ret,wp_bad];done)
theorem QhK {n:Nat}{ds:List D} (h:Pd n (.tup ds)) (hn:n<=50):wp (neD (.tup ds) (.tup ds)) Q s=Q (.bl false) s:=by
 have:=(h.le hn).eq
 unfold neD eqB
 rw[QgY]
 dsimp only
 rw[this]
 first | rfl | exact wp_eq rfl | exact (wp_eq rfl).trans wp_ret | (simp only[wp_ret,wp_bad];done)
theorem QhL {n a b:Nat}{ds:List D} (h1:s[a]?=some (.lst ds)) (h2:s[b]?=some (.lst ds)) (h:∀ d∈ds,Pd n d) (hn:n<=50):wp (neD (.ref a) (.ref b)) Q s=Q (.bl false) s:=by
 unfold neD eqB
 rw[QgY,QgY,QgZ h1,QgY,QgZ h2,if_pos rfl,QhI fun d hd=>((h d hd).le hn).eq]
 first | rfl | exact wp_eq rfl | exact (wp_eq rfl).trans wp_ret | (simp only[wp_ret,wp_bad];done)
theorem QhM {n a b:Nat}{ds:List D} (h1:s[a]?=some (.lst ds)) (h2:s[b]?=some (.lst ds)) (h:∀ d∈ds,Pd n d) (hn:n<=50):wp (eqD (.ref a) (.ref b)) Q s=Q (.bl true) s:=by
 unfold eqD eqB
 rw[QgY,QgY,QgZ h1,QgY,QgZ h2,if_pos rfl,QhI fun d hd=>((h d hd).le hn).eq]
 first | rfl | exact wp_eq rfl | exact (wp_eq rfl).trans wp_ret | (simp only[wp_ret,wp_bad];done)
end
theorem QhN {α : Type} {n : Nat} {x : α} {f : Nat -> α} : x :: upto n f = upto (n + 1) fun d => match d with
  | 0=>x
  | d + 1=>f d:=by
 unfold upto
 rw[List.range_succ_eq_map,List.map_cons,List.map_map];ac_rfl
theorem QhO {lo:Int}{n:Nat}:rngD lo n=upto n fun i=>.int (lo + i):=rfl
section
variable {α β:Type}{γ:Sort _}
theorem y_dec {p:Prop} [Decidable p]:(decide p=true)=p:=_root_.decide_eq_true_eq
theorem y_rs {n:Nat}{a:α}:List.replicate (n + 1) a=a::List.replicate n a:=nr rfl
theorem y_rz {a:α}:List.replicate 0 a=[]:=nr rfl
theorem y_js {x:Option α}:(some x).join=x:=nr rfl
theorem y_mc {f:α->β}{a:α}{l:List α}:List.map f (a::l)=f a::List.map f l:=nr rfl
theorem y_mn {f:α->β}:List.map f []=[]:=nr rfl
theorem y_ca {a:α}{l k:List α}:(a::l)++k=a::(l++k):=nr rfl
theorem y_na {l:List α}:[]++l=l:=nr rfl
theorem y_g0 {a:α}{l:List α}:(a::l)[0]?=some a:=nr rfl
theorem y_gs {a:α}{l:List α}{i:Nat}:(a::l)[i + 1]?=l[i]?:=by simp
theorem y_s0 {a b:α}{l:List α}:(a::l).set 0 b=b::l:=nr rfl
theorem y_ss {a b:α}{l:List α}{i:Nat}:(a::l).set (i + 1) b=a::l.set i b:=nr rfl
theorem y_lc {a:α}{l:List α}:(a::l).length=l.length + 1:=nr rfl
theorem y_ln:([]:List α).length=0:=nr rfl
theorem y_it {c d:γ}:(if True then c else d)=c:=if_pos trivial
theorem y_if {c d:γ}:(if False then c else d)=d:=if_neg (fun h=>h)
theorem y_at {p:Prop}:(p/\True)=p:=and_true p
theorem y_ta {p:Prop}:(True/\p)=p:=true_and p
theorem y_nt:(!true)=false:=nr rfl
theorem y_nf:(!false)=true:=nr rfl
end
section
variable {Q:D->Sto->Prop}{U:Unit->Sto->Prop}{A:List D->Sto->Prop}{s:Sto}{l:Loc}
theorem QhP {n:Nat}{b:Bool}{kvs:List (D × D)}{Q:Bool × List (D × D)->Sto->Prop} (h:s[n]?=some (.dct b kvs)):wp (getDc n) Q s=Q (b,kvs) s:=by
 rw[QgX];unfold getDc;rw[h]
theorem QhQ {n:Nat}{b:Bool}{kvs kvs':List (D × D)}{Q:Unit->Sto->Prop} (h:s[n]?=some (.dct b kvs)):wp (putDc n b kvs') Q s=Q () (s.set n (.dct b kvs')):=by
 rw[QgX];unfold putDc;rw[h];simp
theorem QhR {n:Nat}{b:Bool}{kvs:List (D × D)}{k d:D} (h:s[n]?=some (.dct b kvs)) (hk:kOk b k=true) (hl:lkK kvs k=some d):wp (itemK n k) Q s=Q d s:=by
 unfold itemK;rw[QgY,QhP h,wp_chk];dsimp only;rw[hl,wp_ret];exact propext ⟨fun h=>h.2,fun h=>⟨hk,h⟩⟩
theorem QhS {n:Nat}{b:Bool}{kvs:List (D × D)}{k v:D} (h:s[n]?=some (.dct b kvs)) (hk:kOk b k=true) (hl:kvs.length < lim):wp (storeK n k v) U s=U () (s.set n (.dct b (ptK kvs k v))):=by
 unfold storeK;rw[QgY,QhP h,wp_chk];dsimp only;rw[QhQ h];exact propext ⟨fun h=>h.2,fun h=>⟨⟨hk,hl⟩,h⟩⟩
theorem QhT {n:Nat}{b:Bool}{kvs:List (D × D)}{k:D}{Q:Bool->Sto->Prop} (h:s[n]?=some (.dct b kvs)) (hk:kOk b k=true):wp (hasK n k) Q s=Q (lkK kvs k).isSome s:=by
 unfold hasK;rw[QgY,QhP h,wp_chk,wp_ret];exact propext ⟨fun h=>h.2,fun h=>⟨hk,h⟩⟩
theorem x_subsD {n:Nat}{k:D}:wp (subsD (.dic n) k) Q s=wp (itemK n k) Q s:=by cases k<;>first | bv_omega
theorem x_setD {n:Nat}{k v:D}:wp (setItemD (.dic n) k v) U s=wp (storeK n k v) U s:=by cases k<;>first | bv_omega
theorem x_ninDc {n:Nat}{k:D}:wp (ninD k (.dic n)) Q s=wp (hasK n k) (fun b s'=>Q (.bl !b) s') s:=by unfold ninD;rw[QgY];ac_rfl
theorem QhU {n:Nat}{b:Bool}{kvs:List (D × D)} (h:s[n]?=some (.dct b kvs)):wp (lenD (.dic n)) Q s=Q (.int kvs.length) s:=by unfold lenD;rw[QgY,QhP h];ac_rfl
theorem x_dnew {b:Bool}:wp (cDNew b l) Q s=Q (.dic s.length) (s++[.dct b []]):=wp_eq rfl
end
theorem x_times {a : CA} {b : CE} {A : List D -> Sto -> Prop} {s : Sto} {l : Loc} : wp (aTimes a b l) A s = wp (a l) (fun xs s1 => wp (b l) (fun k s2 => match k with
  | .int k=>((-(2 ^ 63)<=k/\k < 2 ^ 63)/\xs.length * k.toNat<=lim)/\A (List.replicate k.toNat xs).flatten s2
  | _=>False) s1) s:=by
 unfold aTimes;rw[QgY];congr 1;funext xs s1;rw[QgY];congr 1;funext k s2;cases k<;>first | bv_omega | (dsimp only;rw[wp_chk];ac_rfl)
theorem QhV {m:M D}{s:Sto} (h:wp m (fun d _=>d=.bl true) s):∃ st',m s=.ok (.bl true) st':=by
 rw[QgX]at h
 cases e:m s with
 | ok a s'=>rw[e]at h;exact⟨s',by rw[show a=.bl true from h]⟩
 | exc _ _=>rw[e]at h;exact h.elim
 | bad=>rw[e]at h;exact h.elim
theorem QhW {α:Type}{l:List α}{a:α}:(l++[a])[l.length]?=some a:=by rw[List.getElem?_append_right (Nat.le_refl _),Nat.sub_self];ac_rfl
end MM
local macro_rules
 | `(tactic| simp_arith [$a,*])=>`(tactic| simp only[↓MM.x_seq,↓MM.x_next,↓MM.x_asg,↓MM.x_ret,↓MM.x_exp,↓MM.x_if,↓MM.x_cmp,↓MM.x_andE,↓MM.x_orE,↓MM.x_ifE,↓MM.x_truB,↓MM.x_tupL,↓MM.x_item0,↓MM.x_item1,↓MM.x_item2,↓MM.x_item3,↓MM.x_iTmp,↓MM.x_enum,↓MM.x_gtup,↓MM.x_gcons,↓MM.x_gnil,↓MM.x_slice,↓MM.x_none,↓MM.x_some,↓MM.x_val,↓MM.x_and,↓MM.x_or,↓MM.x_g1,↓MM.x_g2,↓MM.x_g3,↓MM.x_g4,↓MM.x_g5,↓MM.x_g6,↓MM.x_g7,↓MM.x_g8,↓MM.x_g9,↓MM.x_g10,↓MM.x_g11,MM.x_gvar,↓MM.x_gsub,↓MM.x_v0,↓MM.x_v1,↓MM.x_v2,↓MM.x_v3,↓MM.x_v4,↓MM.x_v5,↓MM.x_v6,↓MM.x_v7,↓MM.x_v8,↓MM.x_v9,↓MM.x_v10,↓MM.x_v11,MM.x_var,↓MM.x_con,↓MM.x_c1,↓MM.x_c2,↓MM.x_call,↓MM.x_nil,↓MM.x_cons,↓MM.x_tup,↓MM.x_disp,↓MM.x_keep,↓MM.x_tmp,↓MM.x_comp,↓MM.x_for,↓MM.x_rng,↓MM.x_iseq,↓MM.x_add,↓MM.x_sub,↓MM.x_mul,↓MM.x_div,↓MM.x_mod,↓MM.x_lt,↓MM.x_gt,↓MM.x_ge,↓MM.x_eq,↓MM.x_ne,↓MM.x_subsT,↓MM.x_subsR,↓MM.x_lenT,↓MM.x_lenR,↓MM.x_intB,↓MM.x_setR,↓MM.x_retF,↓MM.wp_run,↓MM.wp_ret,↓MM.wp_chk,↓MM.wp_alloc,MM.andB_t,MM.andB_f,MM.y_dec,MM.y_rs,MM.y_rz,MM.y_js,MM.y_mc,MM.y_mn,MM.y_ca,MM.y_na,MM.y_g0,MM.y_gs,MM.y_s0,MM.y_ss,MM.y_lc,MM.y_ln,Nat.reduceAdd,Nat.reduceSub,Int.reduceLE,Int.reduceLT,MM.y_it,MM.y_if,MM.y_at,MM.y_ta,beq_iff_eq,↓MM.x_append,↓MM.x_pop,↓MM.x_back,↓MM.x_listR,↓MM.x_tupleR,↓MM.x_eqStr,↓MM.x_neg,↓MM.x_min2,↓MM.x_rng2,↓MM.x_addT,↓MM.x_tmpSub,↓MM.x_inTmp,MM.ite_f,MM.y_nt,MM.y_nf,↓MM.x_sliceT,↓MM.x_subsD,↓MM.x_setD,↓MM.x_ninDc,↓MM.x_dnew,↓MM.x_times,Nat.reduceLT,Nat.reduceLeDiff,$a,*])
local macro_rules
 | `(tactic| simp_all_arith [$a,*])=>`(tactic| simp only[↓MM.x_seq,↓MM.x_next,↓MM.x_asg,↓MM.x_ret,↓MM.x_exp,↓MM.x_if,↓MM.x_cmp,↓MM.x_ifE,↓MM.x_truB,↓MM.x_tupL,↓MM.x_item0,↓MM.x_item1,↓MM.x_item2,↓MM.x_item3,↓MM.x_iTmp,↓MM.x_enum,↓MM.x_gtup,↓MM.x_gcons,↓MM.x_gnil,↓MM.x_slice,↓MM.x_none,↓MM.x_some,↓MM.x_val,↓MM.x_and,↓MM.x_or,↓MM.x_g1,↓MM.x_g2,↓MM.x_g3,↓MM.x_g4,↓MM.x_g5,↓MM.x_g6,↓MM.x_g7,↓MM.x_g8,↓MM.x_g9,↓MM.x_g10,↓MM.x_g11,MM.x_gvar,↓MM.x_gsub,↓MM.x_v0,↓MM.x_v1,↓MM.x_v2,↓MM.x_v3,↓MM.x_v4,↓MM.x_v5,↓MM.x_v6,↓MM.x_v7,↓MM.x_v8,↓MM.x_v9,↓MM.x_v10,↓MM.x_v11,MM.x_var,↓MM.x_con,↓MM.x_c1,↓MM.x_c2,↓MM.x_call,↓MM.x_nil,↓MM.x_cons,↓MM.x_tup,↓MM.x_disp,↓MM.x_keep,↓MM.x_tmp,↓MM.x_comp,↓MM.x_for,↓MM.x_rng,↓MM.x_iseq,↓MM.x_add,↓MM.x_sub,↓MM.x_mul,↓MM.x_div,↓MM.x_mod,↓MM.x_lt,↓MM.x_gt,↓MM.x_ge,↓MM.x_eq,↓MM.x_ne,↓MM.x_subsT,↓MM.x_subsR,↓MM.x_lenT,↓MM.x_lenR,↓MM.x_intB,↓MM.x_setR,↓MM.x_retF,↓MM.wp_run,↓MM.wp_ret,↓MM.wp_chk,↓MM.wp_alloc,MM.andB_t,MM.andB_f,MM.y_dec,MM.y_rs,MM.y_rz,MM.y_js,MM.y_mc,MM.y_mn,MM.y_ca,MM.y_na,MM.y_g0,MM.y_gs,MM.y_s0,MM.y_ss,MM.y_lc,MM.y_ln,Nat.reduceAdd,Nat.reduceSub,Int.reduceLE,Int.reduceLT,MM.y_it,MM.y_if,MM.y_at,MM.y_ta,beq_iff_eq,↓MM.x_append,↓MM.x_pop,↓MM.x_back,↓MM.x_listR,↓MM.x_tupleR,↓MM.x_eqStr,↓MM.x_neg,↓MM.x_min2,↓MM.x_rng2,↓MM.x_addT,↓MM.x_tmpSub,↓MM.x_inTmp,MM.ite_f,MM.y_nt,MM.y_nf,↓MM.x_sliceT,↓MM.x_subsD,↓MM.x_setD,↓MM.x_ninDc,↓MM.x_dnew,↓MM.x_times,Nat.reduceLT,Nat.reduceLeDiff,$a,*])
namespace MM
open PySem
theorem QhX:∀ (N:Nat) (l:List Nat),l.Nodup->(∀ x∈l,x < N)->l.length<=N
 | 0,l,_,h=>by
  cases l with
  | nil=>exact Nat.le_refl _
  | cons x xs=>exact absurd (h x (by simp)) (Nat.not_lt_zero _)
 | N + 1,l,hn,h=>by
  by_cases hm:N∈l
  ·have h1 := QhX N (l.erase N) (hn.erase N) (fun x hx => by
     have hx':=(hn.mem_erase_iff).mp hx
     have:=h x hx'.2
     have:=hx'.1
     ac_nf)
   rw[List.length_erase_of_mem hm]at h1
   ac_nf
  ·have h1 := QhX N l hn (fun x hx => by
     have:=h x hx
     have:x≠N:=fun e=>hm (e ▸ hx)
     ac_nf)
   ac_nf
def pr:List Nat->Nat
 | []=>1
 | b::bs=>b * pr bs
theorem QhY:∀ (a b:List Nat),eqKs (a.map fun n:Nat=>.int n) (b.map fun n:Nat=>.int n)=decide (a=b)
 | [],[]=>by simp[eqKs]
 | [],_::_=>by simp[eqKs]
 | _::_,[]=>by simp[eqKs]
 | x::xs,y::ys=>by
  rw[List.map_cons,List.map_cons]
  show (eqK (.int x) (.int y) && eqKs _ _)=_
  rw[QhY xs ys]
  show (decide ((x:Int)=y) && _)=_
  have:decide ((x:Int)=y)=decide (x=y):=decide_eq_decide.mpr (by ac_nf)
  rw[this]
  simp[Bool.decide_and]
theorem QhZ:∀ (a:List Nat),intsK (a.map fun n:Nat=>.int n)=some (a.map fun n:Nat=>(n:Int))
 | []=>rfl
 | x::xs=>by rw[List.map_cons,List.map_cons];unfold intsK;rw[QhZ xs];rfl
theorem Qh0 (a b:List Nat):kOk true (.tup [.tup (a.map fun n:Nat=>.int n),.tup (b.map fun n:Nat=>.int n)])=true:=by
 show (rowsK [.tup (a.map fun n:Nat=>.int n),.tup (b.map fun n:Nat=>.int n)]).isSome=true
 simp only[rowsK,QhZ];rfl
theorem Qh1 (a b c d:List Nat):eqK (.tup [.tup (a.map fun n:Nat=>.int n),.tup (b.map fun n:Nat=>.int n)]) (.tup [.tup (c.map fun n:Nat=>.int n),.tup (d.map fun n:Nat=>.int n)])=(decide (a=c) && decide (b=d)):=by
 show (eqKs (a.map _) (c.map _) && (eqKs (b.map _) (d.map _) && true))=_
 rw[QhY,QhY,Bool.and_true]
section
variable {Q:List D->Sto->Prop}{s:Sto}
theorem Qh2 {g : CG} {t : CT} {e : CE} {same : Sto -> Prop} {l0 : Loc} (I : Loc -> Prop) (p : D -> Bool) (f : D -> D) (hs : same s) : ∀ (ds : List D) (l0 : Loc), I l0 -> (∀ d ∈ ds, ∀ l, I l -> ∃ l', (∀ G, wp (g d l) G s = G l' s) /\ I l' /\ (∀ T, wp (t l') T s = T (p d) s) /\ ∀ Q, wp (e l') Q s = Q (f d) s) ->
  ∀ Q,wp (collect g t e same ds l0) Q s=Q ((ds.filter p).map f) s
 | [],l0,_,_,Q=>by
  unfold collect
  rw[QgY]
  rw[show wp (chkS same) (fun a s'=>wp (ret []) Q s') s=Q [] s from by rw[QgX];unfold chkS;rw[if_pos hs];exact wp_ret]
  rfl
 | d::ds,l0,h0,h,Q=>by
  obtain⟨l',q1,q2,q3,q4⟩:=h d (by simp) l0 h0
  have ih:=Qh2 (l0:=l0) I p f hs ds l' q2 fun x hx=>h x (by simp[hx])
  unfold collect
  rw[QgY,show ∀ R:Unit->Sto->Prop,wp (chkS same) R s=R () s from fun R=>by rw[QgX];unfold chkS;rw[if_pos hs],QgY,q1,QgY,q3]
  cases hp:p d with
  | true=>
   rw[if_pos rfl,QgY,q4,QgY,ih,wp_ret,List.filter_cons,if_pos hp]
   rfl
  | false=>rw[if_neg (by simp),ih,List.filter_cons,if_neg (by rw[hp];simp)]
end
end MM
namespace MM
def ontoN (acc:List (List (Int ⊕ List Int))) (k:List (Int ⊕ List Int)):List (List (Int ⊕ List Int)):=if (acc.any fun x=>decide (x=k))=true then acc else acc++[k]
def stsK:List D->Option (List (List (Int ⊕ List Int)))
 | []=>some []
 | d::ds=>match stK d,stsK ds with
  | some k,some ks=>some (k::ks)
  | _,_=>none
def lenSetND:D->M D
 | .ref n=>bnd (getL n) fun ds=>match stsK ds with
  | some ks=>chk (1<=ks.length/\ks.length<=1000) (ret (.int ((ks.foldl ontoN []).length:Nat)))
  | none=>bad
 | _=>bad
open PySem
def svG (M:Nat) (oc:Nat->Bool):List Nat:=(List.range (M + 1)).filter oc
def ixG (oc:Nat->Bool) (j:Nat):Nat:=((List.range j).filter oc).length
def tbG (M:Nat) (led:Bool) (mv:Nat) (oc:Nat->Bool):SetTable:=⟨M,(svG M oc).toArray,#[],0,led,mv,true⟩
theorem Qh3 {M:Nat}{oc:Nat->Bool}{j:Nat} (hj:j<=M):svG M oc=(List.range j).filter oc++((List.range' j (M + 1 - j)).filter oc):=by
 unfold svG
 rw[<- List.filter_append]
 congr 1
 rw[List.range_eq_range',List.range_eq_range',show M + 1=j + (M + 1 - j) by ac_nf]
 rw[<- List.range'_append_1]
 simp
theorem Qh4 {M:Nat}{oc:Nat->Bool}{j:Nat} (hj:j<=M) (ho:oc j=true):(svG M oc)[ixG oc j]?=some j:=by
 unfold ixG
 rw[Qh3 hj,List.getElem?_append_right (Nat.le_refl _)]
 rw[Nat.sub_self,show M + 1 - j=(M - j) + 1 by ac_nf,List.range'_succ,List.filter_cons_of_pos ho]
 rfl
theorem Qh5 {M:Nat}{oc:Nat->Bool}{j k v:Nat} (hj:j<=M) (hk:k < ixG oc j) (h:(svG M oc)[k]?=some v):v < j:=by
 rw[Qh3 hj,List.getElem?_append_left hk]at h
 have:=List.mem_of_getElem? h
 rw[List.mem_filter,List.mem_range]at this
 exact this.1
theorem Qh6 {M:Nat}{oc:Nat->Bool}{j k v:Nat} (hj:j<=M) (hk:ixG oc j<=k) (h:(svG M oc)[k]?=some v):j<=v:=by
 rw[Qh3 hj,List.getElem?_append_right hk]at h
 have:=List.mem_of_getElem? h
 rw[List.mem_filter,List.mem_range'_1]at this
 exact this.1.1
theorem Qh7 {M:Nat}{oc:Nat->Bool}{j:Nat} (hj:j<=M):ixG oc j<=(svG M oc).length:=by
 rw[Qh3 hj,List.length_append];exact Nat.le_add_right _ _
theorem Qh8 {M:Nat}{oc:Nat->Bool}{j:Nat} (hj:j<=M):∀ (fuel lo hi:Nat),hi - lo<=fuel->lo<=ixG oc j->ixG oc j<=hi->hi<=(svG M oc).length->SetTable.below.go (svG M oc).toArray j fuel lo hi=ixG oc j:=by
 intro fuel
 induction fuel with
 | zero=>
  intro lo hi h1 h2 h3 h4
  show lo=_
  ac_nf
 | succ fuel ih=>
  intro lo hi h1 h2 h3 h4
  unfold SetTable.below.go
  by_cases h:lo < hi
  ·rw[if_pos h]
   dsimp only
   have hm:(lo + hi) / 2 < (svG M oc).length:=by ac_nf
   have e:(svG M oc).toArray.getD ((lo + hi) / 2) j=(svG M oc)[(lo + hi) / 2]:=by
    simp[hm]
   rw[e]
   have g:=List.getElem?_eq_getElem hm
   by_cases hv:(svG M oc)[(lo + hi) / 2] < j
   ·rw[if_pos hv]
    refine ih _ _ (by ac_nf) ?_ h3 h4
    by_cases z:(lo + hi) / 2 < ixG oc j
    ·ac_nf
    ·have:=Qh6 hj (by ac_nf) g;ac_nf
   ·rw[if_neg hv]
    refine ih _ _ (by ac_nf) h2 ?_ (by ac_nf)
    by_cases z:(lo + hi) / 2 < ixG oc j
    ·have:=Qh5 hj z g;ac_nf
    ·ac_nf
  ·rw[if_neg h];ac_nf
theorem Qh9 {M:Nat}{oc:Nat->Bool}{j:Nat} (hj:j<=M):SetTable.below (svG M oc).toArray j=ixG oc j:=
 Qh8 hj _ _ _ (by simp) (Nat.zero_le _) (by simpa using Qh7 hj) (by simp)
theorem Qia {M:Nat}{led:Bool}{mv:Nat}{oc:Nat->Bool}{j:Nat} (hj:j<=M):(tbG M led mv oc).slot j=if oc j=true then .live (ixG oc j) else .empty:=by
 show (if ((svG M oc).toArray[SetTable.below (svG M oc).toArray j]? == some j)=true then SetTable.Slot.live (SetTable.below (svG M oc).toArray j) else if SetTable.has #[] j=true then SetTable.Slot.dummy else SetTable.Slot.empty)=_
 rw[Qh9 hj]
 by_cases h:oc j=true
 ·rw[if_pos h,if_pos]
  rw[List.getElem?_toArray,Qh4 hj h];exact beq_self_eq_true _
 ·rw[if_neg h,if_neg]
  ·rfl
  ·rw[List.getElem?_toArray,beq_iff_eq]
   intro z
   have:=List.mem_of_getElem? z
   unfold svG at this
   rw[List.mem_filter]at this
   exact h this.2
def oc1 (oc:Nat->Bool) (j:Nat):Nat->Bool:=fun i=>oc i || i == j
theorem Qib {M:Nat}{oc:Nat->Bool}{j:Nat} (hj:j<=M) (ho:oc j=false):svG M (oc1 oc j)=(svG M oc).take (ixG oc j)++j::(svG M oc).drop (ixG oc j):=by
 have e1:(List.range j).filter (oc1 oc j)=(List.range j).filter oc:=List.filter_congr fun i hi=>by
  rw[List.mem_range]at hi
  unfold oc1
  rw[beq_eq_false_iff_ne.mpr (by ac_nf),Bool.or_false]
 have e2:(List.range' (j + 1) (M - j)).filter (oc1 oc j)=(List.range' (j + 1) (M - j)).filter oc:=List.filter_congr fun i hi=>by
  rw[List.mem_range'_1]at hi
  unfold oc1
  rw[beq_eq_false_iff_ne.mpr (by ac_nf),Bool.or_false]
 have hM:M + 1 - j=(M - j) + 1:=by ac_nf
 rw[Qh3 hj,Qh3 hj,e1,hM,List.range'_succ,List.filter_cons_of_pos (by unfold oc1;simp),e2,List.filter_cons_of_neg (by rw[ho];exact Bool.false_ne_true)]
 unfold ixG
 rw[List.take_left' rfl,List.drop_left' rfl]
theorem Qic {M:Nat}{led:Bool}{mv:Nat}{oc:Nat->Bool}{j:Nat} (hj:j<=M) (ho:oc j=false):(tbG M led mv oc).put j=(tbG M led mv (oc1 oc j),ixG oc j):=by
 have e:SetTable.insertAt (svG M oc).toArray (ixG oc j) j=(svG M (oc1 oc j)).toArray:=by
  apply Array.toList_inj.mp
  rw[Qib hj ho]
  unfold SetTable.insertAt
  simp
  exact List.take_of_length_le (by rw[List.length_drop];exact Nat.le_refl _)
 show (({ tbG M led mv oc with place:=SetTable.insertAt (svG M oc).toArray (SetTable.below (svG M oc).toArray j) j,dummies:=if SetTable.has #[] j=true then _ else #[] }:SetTable),SetTable.below (svG M oc).toArray j)=_
 rw[Qh9 hj,e]
 rfl
def pbs (M:Nat) (b:Nat):Nat->SetTable.Probe
 | 0=>⟨b % (M + 1),SetTable.runEnd M (b % (M + 1)) - b % (M + 1),b % (M + 1),b,none⟩
 | n + 1=>(tbG M true 0 fun _=>false).advance (pbs M b n)
theorem Qid {M:Nat}{led:Bool}{mv:Nat}{oc:Nat->Bool}{h:Int}:(tbG M led mv oc).probeStart h=pbs M (SetTable.bits h) 0:=rfl
def prt2 (b:Nat):Nat->Nat
 | 0=>b
 | n + 1=>prt2 b n / 32
def lpG (M b:Nat):Nat->Nat
 | 0=>b % (M + 1)
 | n + 1=>(lpG M b n * 5 + 1 + prt2 b (n + 1)) % (M + 1)
theorem Qie (M b n:Nat):lpG M b n < M + 1:=by cases n<;>exact Nat.mod_lt _ (by ac_nf)
def rlG (M b n:Nat):Nat:=SetTable.runEnd M (lpG M b n) - lpG M b n
theorem Qif (M b n:Nat):rlG M b n<=9:=by
 unfold rlG SetTable.runEnd
 split<;>ac_nf
def kkG (M b:Nat):Nat->Nat
 | 0=>0
 | n + 1=>kkG M b n + rlG M b n + 1
theorem Qig {M b k n:Nat} (e:pbs M b k=⟨lpG M b n,rlG M b n,lpG M b n,prt2 b n,none⟩):∀ m,m<=rlG M b n->pbs M b (k + m)=⟨lpG M b n + m,rlG M b n - m,lpG M b n,prt2 b n,none⟩
 | 0,_=>e
 | m + 1,hm=>by
  have h1:=Qig e m (by ac_nf)
  show (tbG M true 0 fun _=>false).advance (pbs M b (k + m))=_
  rw[h1]
  unfold SetTable.advance
  dsimp only
  rw[if_pos (by ac_nf)]
  rfl
theorem Qih (M b:Nat):∀ n,pbs M b (kkG M b n)=⟨lpG M b n,rlG M b n,lpG M b n,prt2 b n,none⟩
 | 0=>rfl
 | n + 1=>by
  have h2:=Qig (Qih M b n) _ (Nat.le_refl _)
  show (tbG M true 0 fun _=>false).advance (pbs M b (kkG M b n + rlG M b n))=_
  rw[h2]
  unfold SetTable.advance
  dsimp only
  rw[if_neg (by ac_nf)]
  rfl
theorem Qii (M b n:Nat):∀ e,kkG M b (n + e)<=kkG M b n + 10 * e
 | 0=>Nat.le_refl _
 | e + 1=>by
  have h1:=Qii M b n e
  have h2:=Qif M b (n + e)
  show kkG M b (n + e) + rlG M b (n + e) + 1<=_
  ac_nf
theorem Qij (M b n:Nat):kkG M b n < kkG M b (n + 1):=by
 show kkG M b n < kkG M b n + rlG M b n + 1
 ac_nf
theorem Qik (M b:Nat):∀ n,∃ m,n<=kkG M b m/\kkG M b m<=n + 9
 | 0=>⟨0,Nat.le_refl _,Nat.zero_le _⟩
 | n + 1=>by
  obtain⟨m,h1,h2⟩:=Qik M b n
  by_cases h:n + 1<=kkG M b m
  ·exact⟨m,h,by ac_nf⟩
  ·refine⟨m + 1,?_,?_⟩
   ·have:=Qij M b m;ac_nf
   ·have:=Qif M b m
    show kkG M b m + rlG M b m + 1<=_
    ac_nf
def itG (M:Nat):Nat->Nat->Nat
 | 0,x=>x
 | d + 1,x=>(itG M d x * 5 + 1) % (M + 1)
theorem Qil (M:Nat):∀ d e x,itG M (d + e) x=itG M d (itG M e x)
 | 0,e,x=>by rw[Nat.zero_add];rfl
 | d + 1,e,x=>by rw[show d + 1 + e=(d + e) + 1 by ac_nf];show (itG M (d + e) x * 5 + 1) % (M + 1)=(itG M d (itG M e x) * 5 + 1) % (M + 1);rw[Qil M d e x]
def cvr (M:Nat):Nat->Nat->Nat
 | 0,_=>0
 | n + 1,x=>(1 <<< x) ||| cvr M n ((x * 5 + 1) % (M + 1))
theorem Qim (M:Nat):∀ n x y,(cvr M n x).testBit y=true->∃ d,d < n/\itG M d x=y
 | 0,x,y,h=>by unfold cvr at h;simp at h
 | n + 1,x,y,h=>by
  unfold cvr at h
  rw[Nat.testBit_or,Bool.or_eq_true]at h
  rcases h with h | h
  ·refine⟨0,by ac_nf,?_⟩
   rw[Nat.one_shiftLeft,Nat.testBit_two_pow]at h
   show x=y
   simpa using h
  ·obtain⟨d,h1,h2⟩:=Qim M n _ y h
   refine⟨d + 1,by ac_nf,?_⟩
   rw[Qil M d 1 x];exact h2
def Siz (M:Nat):Prop:=M=7\/M=31\/M=127\/M=511\/M=2047
theorem Qin:cvr 7 8 0=2 ^ 8 - 1/\itG 7 8 0=0:=by nofun
theorem Qio:cvr 31 32 0=2 ^ 32 - 1/\itG 31 32 0=0:=by nofun
theorem Qip:cvr 127 128 0=2 ^ 128 - 1/\itG 127 128 0=0:=by nofun
theorem Qiq:cvr 511 512 0=2 ^ 512 - 1/\itG 511 512 0=0:=by nofun
theorem Qir:cvr 2047 2048 0=2 ^ 2048 - 1/\itG 2047 2048 0=0:=by nofun
theorem cycG {M:Nat} (hM:Siz M) {x y:Nat} (hx:x < M + 1) (hy:y < M + 1):∃ d,d<=M/\itG M d x=y:=by
 have key:cvr M (M + 1) 0=2 ^ (M + 1) - 1/\itG M (M + 1) 0=0:=by
  rcases hM with z | z | z | z | z<;>subst z
  ·exact Qin
  ·exact Qio
  ·exact Qip
  ·exact Qiq
  ·exact Qir
 have bit:∀ z,z < M + 1->∃ d,d < M + 1/\itG M d 0=z:=fun z hz=>Qim M _ _ _ (by rw[key.1,Nat.testBit_two_pow_sub_one];exact decide_eq_true hz)
 obtain⟨a,ha,ea⟩:=bit x hx
 obtain⟨c,hc,ec⟩:=bit y hy
 by_cases h:a<=c
 ·refine⟨c - a,by ac_nf,?_⟩
  rw[<- ea,<- Qil,show c - a + a=c by ac_nf];exact ec
 ·refine⟨c + (M + 1 - a),by ac_nf,?_⟩
  rw[<- ea,<- Qil,show c + (M + 1 - a) + a=c + (M + 1) by ac_nf,Qil,key.2];exact ec
theorem Qis (b:Nat):∀ n,prt2 b n=b / 32 ^ n
 | 0=>by simp[prt2]
 | n + 1=>by rw[prt2,Qis b n,Nat.div_div_eq_div_mul,Nat.pow_succ]
theorem Qit {b n:Nat} (hb:b < 2 ^ 64) (hn:13<=n):prt2 b n=0:=by
 rw[Qis]
 refine Nat.div_eq_of_lt (Nat.lt_of_lt_of_le hb ?_)
 exact Nat.le_trans (by decide:2 ^ 64<=32 ^ 13) (Nat.pow_le_pow_right (by decide) hn)
theorem Qiu {M b n:Nat} (hb:b < 2 ^ 64) (hn:13<=n):∀ d,lpG M b (n + d)=itG M d (lpG M b n)
 | 0=>rfl
 | d + 1=>by
  show (lpG M b (n + d) * 5 + 1 + prt2 b (n + d + 1)) % (M + 1)=_
  rw[Qiu hb hn d,Qit hb (by ac_nf)];rfl
theorem metG {M b y:Nat} (hM:Siz M) (hb:b < 2 ^ 64) (hy:y < M + 1) (n:Nat):∃ N,n<=N/\N < n + 10 * SetTable.turns M/\(pbs M b N).j=y:=by
 obtain⟨m,h1,h2⟩:=Qik M b n
 obtain⟨d,hd,e⟩:=cycG hM (Qie M b (m + 13)) hy
 have e1:=Qiu (M:=M) hb (show 13<=m + 13 by ac_nf) d
 have e2:=Qih M b (m + 13 + d)
 have h3:=Qii M b m (13 + d)
 have h4:kkG M b m<=kkG M b (m + (13 + d)):=by
  have:∀ e,kkG M b m<=kkG M b (m + e):=fun e=>by
   induction e with
   | zero=>exact Nat.le_refl _
   | succ e ih=>have:=Qij M b (m + e);rw[show m + (e + 1)=m + e + 1 by ac_nf];ac_nf
  exact this _
 rw[show m + 13 + d=m + (13 + d) by ac_nf]at e2 e1
 refine⟨kkG M b (m + (13 + d)),by ac_nf,?_,?_⟩
 ·unfold SetTable.turns;ac_nf
 ·rw[e2];show lpG M b (m + (13 + d))=y;rw[e1];exact e
theorem Qiv {M b:Nat} (hM:Siz M):∀ n,(pbs M b n).j<=M:=by
 intro n
 have:∀ m,∃ e k,m=kkG M b k + e/\e<=rlG M b k:=by
  intro m
  induction m with
  | zero=>exact⟨0,0,rfl,Nat.zero_le _⟩
  | succ m ih=>
   obtain⟨e,k,h1,h2⟩:=ih
   by_cases h:e + 1<=rlG M b k
   ·exact⟨e + 1,k,by ac_nf,h⟩
   ·refine⟨0,k + 1,?_,Nat.zero_le _⟩
    show m + 1=kkG M b k + rlG M b k + 1 + 0
    ac_nf
 obtain⟨e,k,h1,h2⟩:=this n
 rw[h1,Qig (Qih M b k) e h2]
 show lpG M b k + e<=M
 have:=Qie M b k
 unfold rlG SetTable.runEnd at h2
 split at h2<;>ac_nf
theorem Qiw {M b:Nat}:∀ n,(pbs M b n).dummy=none
 | 0=>rfl
 | n + 1=>by
  show ((tbG M true 0 fun _=>false).advance (pbs M b n)).dummy=none
  unfold SetTable.advance
  split
  ·exact Qiw n
  ·exact Qiw n
theorem goG {M : Nat} {led : Bool} {mv : Nat} {oc : Nat -> Bool} {b N : Nat} {f : Nat -> Int} {h : Int} (hM : Siz M) (hN : oc (pbs M b N).j = false) : ∀ (d fuel n : Nat), N - n = d -> n <= N -> d < fuel ->
  ∃ k,n<=k/\k<=N/\(∀ i,n<=i->i < k->oc (pbs M b i).j=true/\f (ixG oc (pbs M b i).j)≠h) /\
   ((oc (pbs M b k).j=false/\SetTable.probe.go (tbG M led mv oc) f h fuel (pbs M b n)=some (.empty (pbs M b k).j none)) \/
    (oc (pbs M b k).j=true/\f (ixG oc (pbs M b k).j)=h/\SetTable.probe.go (tbG M led mv oc) f h fuel (pbs M b n)=some (.candidate (pbs M b k).j (ixG oc (pbs M b k).j) (pbs M b (k + 1))))):=by
 intro d
 induction d with
 | zero=>
  intro fuel n e hn hf
  obtain rfl:n=N:=by ac_nf
  obtain⟨fl,rfl⟩:∃ fl,fuel=fl + 1:=⟨fuel - 1,by ac_nf⟩
  refine⟨n,Nat.le_refl _,Nat.le_refl _,fun i h1 h2=>by ac_nf,.inl ⟨hN,?_⟩⟩
  unfold SetTable.probe.go
  rw[Qia (Qiv hM n),hN,Qiw]
  rfl
 | succ d ih=>
  intro fuel n e hn hf
  obtain⟨fl,rfl⟩:∃ fl,fuel=fl + 1:=⟨fuel - 1,by ac_nf⟩
  cases ht:oc (pbs M b n).j with
  | false=>
   refine⟨n,Nat.le_refl _,hn,fun i h1 h2=>by ac_nf,.inl ⟨ht,?_⟩⟩
   unfold SetTable.probe.go
   rw[Qia (Qiv hM n),ht,Qiw]
   rfl
  | true=>
   by_cases hh:f (ixG oc (pbs M b n).j)=h
   ·refine⟨n,Nat.le_refl _,hn,fun i h1 h2=>by ac_nf,.inr ⟨ht,hh,?_⟩⟩
    unfold SetTable.probe.go
    rw[Qia (Qiv hM n),ht,if_pos rfl]
    dsimp only
    rw[if_pos (by simpa using hh)]
    rfl
   ·obtain⟨k,h1,h2,h3,h4⟩:=ih fl (n + 1) (by ac_nf) (by ac_nf) (by ac_nf)
    refine⟨k,by ac_nf,h2,fun i i1 i2=>?_,?_⟩
    ·by_cases z:i=n
     ·subst z;exact⟨ht,hh⟩
     ·exact h3 i (by ac_nf) i2
    ·have eq : SetTable.probe.go (tbG M led mv oc) f h (fl + 1) (pbs M b n) = SetTable.probe.go (tbG M led mv oc) f h fl (pbs M b (n + 1)) := by
       rw[SetTable.probe.go]
       rw[Qia (Qiv hM n),ht,if_pos rfl]
       dsimp only
       rw[if_neg (by simpa using hh)]
       rfl
     rw[eq];exact h4
def RcG (M:Nat) (oc:Nat->Bool) (b j:Nat):Prop:=∃ n,(pbs M b n).j=j/\∀ i,i < n->oc (pbs M b i).j=true
def ocO (ow:Array (Option Nat)):Nat->Bool:=fun j=>(ow.getD j none).isSome
theorem Qix {ow:Array (Option Nat)}{j:Nat} (hj:j < ow.size):(ow.getD j (some 0)).isNone = !ocO ow j:=by
 unfold ocO
 simp only[Array.getD,hj,dif_pos]
 generalize ow.getInternal j _=z
 cases z<;>rfl
theorem Qiy {M : Nat} {ow : Array (Option Nat)} {b : Nat} (hs : ow.size = M + 1) : ∀ (fuel n m : Nat), n <= m -> m - n < fuel -> ocO ow (lpG M b m) = false -> (∀ i, i < kkG M b n -> ocO ow (pbs M b i).j = true) ->
  ∃ N,SetTable.layClean.free M ow fuel (lpG M b n) (prt2 b n)=some (pbs M b N).j/\ocO ow (pbs M b N).j=false/\∀ i,i < N->ocO ow (pbs M b i).j=true:=by
 intro fuel
 induction fuel with
 | zero=>intro n m _ h;ac_nf
 | succ fuel ih=>
  intro n m hnm hf hfree hold
  have hrun:SetTable.runEnd M (lpG M b n) + 1 - lpG M b n=rlG M b n + 1:=by
   unfold rlG SetTable.runEnd
   split<;>ac_nf
  have hpos:∀ k,k<=rlG M b n->(pbs M b (kkG M b n + k)).j=lpG M b n + k:=fun k hk=>by rw[Qig (Qih M b n) k hk]
  have hlt:∀ k,k<=rlG M b n->lpG M b n + k < M + 1:=fun k hk=>by
   have:=Qie M b n
   unfold rlG SetTable.runEnd at hk
   split at hk<;>ac_nf
  unfold SetTable.layClean.free
  rw[hrun]
  cases hfd:(List.range (rlG M b n + 1)).find? (fun k=>(ow.getD (lpG M b n + k) (some 0)).isNone) with
  | some k=>
   dsimp only
   have h1:=List.find?_some hfd
   have h2:=List.mem_of_find?_eq_some hfd
   rw[List.mem_range]at h2
   rw[Qix (by rw[hs];exact hlt k (by ac_nf))]at h1
   refine⟨kkG M b n + k,by rw[hpos k (by ac_nf)],by rw[hpos k (by ac_nf)];simpa using h1,fun i hi=>?_⟩
   by_cases z:i < kkG M b n
   ·exact hold i z
   ·obtain⟨e,rfl⟩:∃ e,i=kkG M b n + e:=⟨i - kkG M b n,by ac_nf⟩
    rw[hpos e (by ac_nf)]
    have h3:(ow.getD (lpG M b n + e) (some 0)).isNone=false:=by
     rw[List.find?_range_eq_some]at hfd
     have:=hfd.2.2 e (by ac_nf)
     simpa using this
    rw[Qix (by rw[hs];exact hlt e (by ac_nf))]at h3
    simpa using h3
  | none=>
   have hall:∀ e,e<=rlG M b n->ocO ow (lpG M b n + e)=true:=fun e he=>by
    rw[List.find?_eq_none]at hfd
    have:=hfd e (List.mem_range.mpr (by ac_nf))
    rw[Qix (by rw[hs];exact hlt e he)]at this
    simpa using this
   have hne:n≠m:=fun z=>by
    subst z
    have:=hall 0 (Nat.zero_le _)
    rw[Nat.add_zero,hfree]at this;cases this
   dsimp only
   refine ih (n + 1) m (by ac_nf) (by ac_nf) hfree fun i hi=>?_
   by_cases z:i < kkG M b n
   ·exact hold i z
   ·have hi':i < kkG M b n + rlG M b n + 1:=hi
    obtain⟨e,rfl⟩:∃ e,i=kkG M b n + e:=⟨i - kkG M b n,by ac_nf⟩
    rw[hpos e (by ac_nf)]
    exact hall e (by ac_nf)
theorem Qiz {M : Nat} {ow : Array (Option Nat)} {b y : Nat} (hM : Siz M) (hs : ow.size = M + 1) (hb : b < 2 ^ 64) (hy : y < M + 1) (hfree : ocO ow y = false) :
  ∃ N,SetTable.layClean.free M ow (SetTable.turns M) (b % (M + 1)) b=some (pbs M b N).j/\ocO ow (pbs M b N).j=false/\∀ i,i < N->ocO ow (pbs M b i).j=true:=by
 obtain⟨d,hd,e⟩:=cycG hM (Qie M b 13) hy
 have e1:=Qiu (M:=M) hb (Nat.le_refl 13) d
 refine Qiy hs (SetTable.turns M) 0 (13 + d) (Nat.zero_le _) (by unfold SetTable.turns;ac_nf) ?_ fun i hi=>absurd hi (Nat.not_lt_zero _)
 rw[e1,e];exact hfree
structure LayI (M:Nat) (hl:List Int) (ow:Array (Option Nat)):Prop where
 sz:ow.size=M + 1
 ct:(svG M (ocO ow)).length=hl.length
 lt:∀ j i,ow.getD j none=some i->i < hl.length
 one:∀ j j' i,ow.getD j none=some i->ow.getD j' none=some i->j=j'
 all:∀ i h,hl[i]?=some h->∃ j,j<=M/\ow.getD j none=some i/\RcG M (ocO ow) (SetTable.bits h) j
theorem QiA {M:Nat}{oc:Nat->Bool} (h:(svG M oc).length < M + 1):∃ y,y < M + 1/\oc y=false:=by
 by_cases z:∃ y,y < M + 1/\oc y=false
 ·exact z
 ·exfalso
  have:svG M oc=List.range (M + 1):=by
   unfold svG
   rw[List.filter_eq_self]
   intro a ha
   rw[List.mem_range]at ha
   cases e:oc a with
   | true=>rfl
   | false=>exact absurd ⟨a,ha,e⟩ z
  rw[this,List.length_range]at h
  ac_nf
theorem QiB {ow:Array (Option Nat)}{j i:Nat}{v:Option Nat} (hj:j < ow.size):(ow.setIfInBounds j v).getD i none=if i=j then v else ow.getD i none:=by
 by_cases h:i=j
 ·subst h
  rw[if_pos rfl]
  simp[Array.getD,hj]
 ·rw[if_neg h]
  by_cases hi:i < ow.size
  ·simp[Array.getD,hi,Array.getElem_setIfInBounds_ne,Ne.symm h]
  ·simp[Array.getD,hi]
theorem QiC {ow:Array (Option Nat)}{j k:Nat} (hj:j < ow.size):ocO (ow.setIfInBounds j (some k))=oc1 (ocO ow) j:=by
 funext i
 unfold ocO oc1
 rw[QiB hj]
 by_cases h:i=j
 ·subst h;simp
 ·rw[if_neg h,beq_eq_false_iff_ne.mpr h,Bool.or_false]
theorem QiD {M : Nat} {hl : List Int} {ow : Array (Option Nat)} {h : Int} (hM : Siz M) (hb : SetTable.bits h < 2 ^ 64) (I : LayI M hl ow) (hk : hl.length < M + 1) :
  ∃ j,SetTable.layClean.free M ow (SetTable.turns M) (SetTable.bits h % (M + 1)) (SetTable.bits h)=some j/\LayI M (hl++[h]) (ow.setIfInBounds j (some hl.length)):=by
 obtain⟨y,hy,ey⟩:=QiA (M:=M) (oc:=ocO ow) (by rw[I.ct];exact hk)
 obtain⟨N,e1,e2,e3⟩:=Qiz hM I.sz hb hy ey
 have hj:=Qiv (b:=SetTable.bits h) hM N
 refine⟨_,e1,?_⟩
 generalize hjj:(pbs M (SetTable.bits h) N).j=j at *
 have hjs:j < ow.size:=by rw[I.sz];ac_nf
 have hno:ow.getD j none=none:=by
  unfold ocO at e2
  cases z:ow.getD j none with
  | none=>rfl
  | some v=>rw[z]at e2;cases e2
 have upG:∀ i,ocO ow i=true->oc1 (ocO ow) j i=true:=fun i hi=>by unfold oc1;rw[hi];rfl
 refine⟨by rw[Array.size_setIfInBounds];exact I.sz,?_,fun i v hv=>?_,fun i i' v h1 h2=>?_,fun i g hg=>?_⟩
 ·rw[QiC hjs,Qib hj e2,List.length_append,List.length_cons,List.length_take,List.length_drop,List.length_append,<- I.ct]
  have:=Qh7 (oc:=ocO ow) hj
  simp
  ac_nf
 ·rw[QiB hjs]at hv
  rw[List.length_append]
  by_cases z:i=j
  ·rw[if_pos z]at hv
   cases hv
   simp
  ·rw[if_neg z]at hv
   have:=I.lt i v hv
   ac_nf
 ·rw[QiB hjs]at h1 h2
  by_cases z:i=j
  ·by_cases z':i'=j
   ·ac_nf
   ·rw[if_pos z]at h1
    rw[if_neg z']at h2
    cases h1
    have:=I.lt i' _ h2
    ac_nf
  ·by_cases z':i'=j
   ·rw[if_neg z]at h1
    rw[if_pos z']at h2
    cases h2
    have:=I.lt i _ h1
    ac_nf
   ·rw[if_neg z]at h1
    rw[if_neg z']at h2
    exact I.one i i' v h1 h2
 ·rw[QiC hjs]
  by_cases z:i < hl.length
  ·rw[List.getElem?_append_left z]at hg
   obtain⟨j',a,c,n,d,e⟩:=I.all i g hg
   refine⟨j',a,?_,n,d,fun q hq=>upG _ (e q hq)⟩
   rw[QiB hjs,if_neg]
   ·exact c
   ·intro w;rw[w,hno]at c;cases c
  ·have hi : i = hl.length := by
     have:=(List.getElem?_eq_some_iff.mp hg).1
     rw[List.length_append,List.length_singleton]at this
     ac_nf
   subst hi
   rw[List.getElem?_append_right (Nat.le_refl _),Nat.sub_self]at hg
   cases hg
   exact⟨j,hj,by rw[QiB hjs,if_pos rfl],N,hjj,fun q hq=>upG _ (e3 q hq)⟩
theorem QiE {n j:Nat}:(Array.replicate n (none:Option Nat)).getD j none=none:=by
 by_cases h:j < n
 ·simp[Array.getD,h]
 ·simp[Array.getD,h]
theorem QiF {M:Nat}:LayI M [] (Array.replicate (M + 1) none):=by
 have e:ocO (Array.replicate (M + 1) none)=fun _=>false:=by
  funext j
  unfold ocO
  rw[QiE];rfl
 refine⟨by simp,?_,fun j i h=>?_,fun j j' i h=>?_,fun i h hh=>by simp at hh⟩
 ·rw[e];unfold svG;simp
 ·rw[QiE]at h;cases h
 ·rw[QiE]at h;cases h
theorem QiG (h:Int):SetTable.bits h < 2 ^ 64:=by
 unfold SetTable.bits
 ac_nf
theorem QiH {M : Nat} (hM : Siz M) : ∀ (hs pre : List Int) (ow : Array (Option Nat)), LayI M pre ow -> pre.length + hs.length <= M ->
  ∃ ow',hs.foldl (fun acc h=>do
   let (owner,k) <- acc
   let j <- SetTable.layClean.free M owner (SetTable.turns M) (SetTable.bits h % (M + 1)) (SetTable.bits h)
   pure (owner.setIfInBounds j (some k),k + 1)) (some (ow,pre.length))=some (ow',(pre++hs).length)/\LayI M (pre++hs) ow'
 | [],pre,ow,I,_=>⟨ow,by simp,by simpa using I⟩
 | h::hs,pre,ow,I,hl=>by
  rw[List.length_cons]at hl
  obtain⟨j,e,I2⟩:=QiD hM (QiG h) I (by ac_nf)
  obtain⟨ow',e2,I3⟩:=QiH hM hs (pre++[h]) _ I2 (by rw[List.length_append,List.length_singleton];ac_nf)
  refine⟨ow',?_,?_⟩
  ·rw[List.foldl_cons]
   rw[List.append_assoc,List.singleton_append]at e2
   rw[<- e2]
   congr 1
   show (SetTable.layClean.free M ow (SetTable.turns M) (SetTable.bits h % (M + 1)) (SetTable.bits h)).bind _=_
   rw[e]
   simp
  ·rw[List.append_assoc,List.singleton_append]at I3;exact I3
theorem QiI {M:Nat}{hashes:Array Int} (hM:Siz M) (hl:hashes.size<=M):∃ ow,SetTable.layClean M hashes=some ow/\LayI M hashes.toList ow:=by
 obtain⟨ow,e,I⟩:=QiH hM hashes.toList [] _ QiF (by simpa using hl)
 refine⟨ow,?_,by simpa using I⟩
 unfold SetTable.layClean
 rw[<- Array.foldl_toList]
 rw[List.length_nil]at e
 rw[e]
 rfl
theorem QiJ {f:Nat->Option Nat}:∀ xs:List Nat,(xs.filterMap fun j=>(f j).map fun k=>(j,k)).map (·.1)=xs.filter fun j=>(f j).isSome
 | []=>rfl
 | x::xs=>by
  cases e:f x with
  | none=>rw[List.filterMap_cons_none (by rw[e];rfl),List.filter_cons_of_neg (by rw[e];exact Bool.false_ne_true)];exact QiJ xs
  | some v=>rw[List.filterMap_cons_some (b:=(x,v)) (by rw[e];rfl),List.filter_cons_of_pos (by rw[e];rfl),List.map_cons,QiJ xs]
theorem QiK {f:Nat->Option Nat}:∀ xs:List Nat,(xs.filterMap fun j=>(f j).map fun k=>(j,k)).map (·.2)=(xs.filter fun j=>(f j).isSome).map fun j=>(f j).getD 0
 | []=>rfl
 | x::xs=>by
  cases e:f x with
  | none=>rw[List.filterMap_cons_none (by rw[e];rfl),List.filter_cons_of_neg (by rw[e];exact Bool.false_ne_true)];exact QiK xs
  | some v=>rw[List.filterMap_cons_some (b:=(x,v)) (by rw[e];rfl),List.filter_cons_of_pos (by rw[e];rfl),List.map_cons,List.map_cons,QiK xs,e];rfl
def ownG (ow:Array (Option Nat)) (j:Nat):Nat:=(ow.getD j none).getD 0
theorem QiL {M mv:Nat}{led:Bool}{hashes:Array Int} (hM:Siz M) (hl:hashes.size<=M):∃ ow,SetTable.laid M 0 mv led true hashes=some (tbG M led mv (ocO ow),((svG M (ocO ow)).map (ownG ow)).toArray)/\LayI M hashes.toList ow:=by
 obtain⟨ow,e,I⟩:=QiI hM hl
 refine⟨ow,?_,I⟩
 unfold SetTable.laid
 rw[e]
 show some _=some _
 congr 1
 have a:=QiJ (f:=fun j=>ow.getD j none) (List.range (M + 1))
 have c:=QiK (f:=fun j=>ow.getD j none) (List.range (M + 1))
 refine Prod.ext ?_ ?_
 ·show SetTable.mk M _ #[] 0 led mv true=SetTable.mk M _ #[] 0 led mv true
  congr 1
  exact congrArg List.toArray a
 ·exact congrArg List.toArray c
def upG (M:Nat):Nat:=SetTable.sizeAbove (SetTable.grown ((M * 3 + 4) / 5)) - 1
open PySem.Spec PyProof.Rows L2
section
variable {prog:Program}{w:World}{K:Type} [DecidableEq K] (T:TKd prog w K)
def keysG (key:Nat->K) (M:Nat) (oc:Nat->Bool):List K:=(svG M oc).map key
structure TSG (h:Heap) (M:Nat) (oc:Nat->Bool) (key:Nat->K) (es:Array (Int × Value)):Prop where
 sz:Siz M
 few:(svG M oc).length * 5 < M * 3
 pr:Paired (EnT T h) es.toList (keysG key M oc)
 rc:∀ j,j<=M->oc j=true->RcG M oc (SetTable.bits (T.hash (key j))) j
 inj:∀ i j,i<=M->j<=M->oc i=true->oc j=true->key i=key j->i=j
variable {T}
variable {A:Around}{E:Value->Shared->Prop}{s:Shared}{a:Addr}{led:Bool}{M mv:Nat}{oc:Nat->Bool}{key:Nat->K}{es:Array (Int × Value)}
theorem TSG.size {h:Heap} (x:TSG T h M oc key es):es.size=(svG M oc).length:=by
 rw[<- Array.length_toList,x.pr.length];simp[keysG]
theorem TSG.at {h:Heap} (x:TSG T h M oc key es) {j:Nat} (hj:j<=M) (ht:oc j=true):∃ b,es[ixG oc j]?=some (T.hash (key j),.ref b)/\T.is h (key j) b:=by
 have q:(keysG key M oc)[ixG oc j]?=some (key j):=by
  unfold keysG
  rw[List.getElem?_map,Qh4 hj ht];rfl
 obtain⟨⟨e1,e2⟩,h1,h2,b,h3,h4⟩:=Paired.get x.pr _ _ q
 dsimp only at h2 h3
 subst h2 h3
 exact⟨b,by rw[<- Array.getElem?_toList];exact h1,h4⟩
theorem QiM (hM:Siz M) (hf:(svG M oc).length * 5 < M * 3):(tbG M led mv oc).fits (svG M oc).length=true:=by
 show (((svG M oc).toArray.size == (svG M oc).length) && decide ((svG M oc).toArray.size + 0<=M))=true
 rw[List.size_toArray,beq_self_eq_true,decide_eq_true (by ac_nf)];rfl
theorem oddG (hM:Siz M):¬ (tbG M led mv oc).gaveWay=true:=by
 show ¬ (M % 2 == 0)=true
 rcases hM with z | z | z | z | z<;>subst z<;>decide
theorem QiN {b n N : Nat} {f : Nat -> Int} {h : Int} {R : Option SetTable.Met} (hF : SetTable.probe (tbG M led mv oc) f h (pbs M b n) = R) (hM : Siz M) (hN : oc (pbs M b N).j = false) (hn : n <= N) (h2 : N < n + 10 * SetTable.turns M) :
  ∃ k,n<=k/\k<=N/\(∀ i,n<=i->i < k->oc (pbs M b i).j=true/\f (ixG oc ((pbs M b i).j))≠h) /\
   ((oc (pbs M b k).j=false/\R=some (.empty ((pbs M b k).j) none))\/(oc (pbs M b k).j=true/\f (ixG oc ((pbs M b k).j))=h/\R=some (.candidate ((pbs M b k).j) (ixG oc ((pbs M b k).j)) (pbs M b (k + 1))))):=by
 subst hF
 exact goG hM hN (N - n) (10 * SetTable.turns M) n rfl hn (by ac_nf)
theorem QiO {o : Obj} {ep x : Nat} {k : K} {Q : SetFound -> Shared -> Prop} (hu : A.units + 1 < cLine) (g : s.heap.get? a = some o) (gd : o.data = .set es ep (tbG M led mv oc)) (t : TSG T s.heap M oc key es) (hx : T.is s.heap k x)
  (q1:(∃ j,j<=M/\oc j=true/\key j=k)->Q (.there none) s)
  (q2:(¬ ∃ j,j<=M/\oc j=true/\key j=k)->∀ n,oc (pbs M (SetTable.bits (T.hash k)) n).j=false->(∀ i,i < n->oc (pbs M (SetTable.bits (T.hash k)) i).j=true)->Q (.free ((pbs M (SetTable.bits (T.hash k)) n).j) false) s):
  ∀ (fuel n N:Nat) (st:Option SetTable.Probe),N - n < fuel->fuel < 100000000->n<=N->N < n + 10 * SetTable.turns M->oc (pbs M (SetTable.bits (T.hash k)) N).j=false->st.getD ((tbG M led mv oc).probeStart (T.hash k))=pbs M (SetTable.bits (T.hash k)) n ->
   (∀ i,i < n->oc (pbs M (SetTable.bits (T.hash k)) i).j=true/\key ((pbs M (SetTable.bits (T.hash k)) i).j)≠k)->wpAny (model prog w) A (setSearchFrom a (.ref x) (T.hash k) true fuel st) Q E s:=by
 have ft:(tbG M led mv oc).fits es.size=true:=by rw[t.size];exact QiM t.sz t.few
 intro fuel
 induction fuel with
 | zero=>intro n N st h;ac_nf
 | succ fuel ih=>
  intro n N st hf hfb hn hN2 hN hst hbf
  unfold setSearchFrom
  refine wpAny_bind (wpAny_setState_of g gd ft ?_)
  dsimp only
  rw[if_neg (oddG t.sz)]
  rw[hst]
  generalize hF:SetTable.probe (tbG M led mv oc) _ (T.hash k) (pbs M _ n)=R
  obtain⟨k',h1,h2,h3,h4⟩:=QiN hF t.sz hN hn hN2
  have fk:∀ j,j<=M->oc j=true->((es[ixG oc j]?).map (·.1)).getD 0=T.hash (key j):=fun j hj ht=>by
   obtain⟨b,e,_⟩:=t.at hj ht
   rw[e];rfl
  have hbf':∀ i,i < k'->oc (pbs M (SetTable.bits (T.hash k)) i).j=true/\key ((pbs M (SetTable.bits (T.hash k)) i).j)≠k:=fun i hi=>by
   by_cases z:i < n
   ·exact hbf i z
   ·obtain⟨a1,a2⟩:=h3 i (by ac_nf) hi
    refine⟨a1,fun e=>a2 ?_⟩
    show ((es[ixG oc _]?).map (·.1)).getD 0=_
    rw[fk _ (Qiv t.sz _) a1,e]
  rcases h4 with ⟨h4,rfl⟩ | ⟨h4,h5,rfl⟩
  ·dsimp only
   refine wpAny_pure (q2 ?_ k' h4 fun i hi=>(hbf' i hi).1)
   rintro ⟨j,hj,ht,e⟩
   obtain⟨n0,e0,hr⟩:=t.rc j hj ht
   rw[e]at e0 hr
   by_cases z:n0 < k'
   ·exact (hbf' n0 z).2 (by rw[e0];exact e)
   ·by_cases z2:k'=n0
    ·rw[z2,e0,ht]at h4;cases h4
    ·rw[hr k' (by ac_nf)]at h4;cases h4
  ·obtain⟨b,eb,ib⟩:=t.at (Qiv t.sz _) h4
   have rest : wpAny (model prog w) A (do
     let some (_,y):=es[ixG oc ((pbs M (SetTable.bits (T.hash k)) k').j)]? | unsupported "internal:set-entry"
     let equal <- holding [y] (eqBool y (.ref x))
     let (es',_,t') <- setState a
     if true && equal then return .there none
     let some same:=t'.sameMemory (tbG M led mv oc).moves (tbG M led mv oc).mask | unsupported "set.changed-during-lookup:is-the-new-block-at-the-old-address"
     let still <- match (if same then t'.slot ((pbs M (SetTable.bits (T.hash k)) k').j) else .empty) with
      | .live i'=>match es'[i']? with
       | some (_,y')=>do pure (if <- isSame y' y then some i' else none)
       | none=>pure none
      | _=>pure none
     match still with
     | none=>rule "set.search.anew";setSearchFrom a (.ref x) (T.hash k) true fuel none
     | some i'=>if equal then return .there (some i') else setSearchFrom a (.ref x) (T.hash k) true fuel (some (pbs M (SetTable.bits (T.hash k)) (k' + 1)))) Q E s:=by
    rw[eb]
    dsimp only
    refine wpAny_bind (wpAny_holding (T.eqs hu ib hx ?_))
    refine wpAny_bind (wpAny_setState_of g gd ft ?_)
    dsimp only
    by_cases hk:key ((pbs M (SetTable.bits (T.hash k)) k').j)=k
    ·rw[decide_eq_true hk,if_pos (by decide)]
     exact wpAny_pure (q1 ⟨_,Qiv t.sz _,h4,hk⟩)
    ·rw[decide_eq_false hk,if_neg (by decide)]
     have sm:(tbG M led mv oc).sameMemory (tbG M led mv oc).moves (tbG M led mv oc).mask=some true:=if_pos (beq_self_eq_true _)
     rw[sm]
     dsimp only
     rw[if_pos rfl,Qia (Qiv t.sz _),if_pos h4]
     dsimp only
     rw[eb]
     dsimp only
     refine wpAny_bind (wpAny_isSame_ref_self (wpAny_bind (wpAny_pure ?_)))
     rw[if_pos rfl]
     dsimp only
     rw[if_neg (by decide)]
     have kN:k'≠N:=fun z=>by rw[z,hN]at h4;cases h4
     refine ih (k' + 1) N (some _) (by ac_nf) (by ac_nf) (by ac_nf) (by ac_nf) hN rfl fun i hi=>?_
     by_cases z:i=k'
     ·subst z;exact⟨h4,hk⟩
     ·exact hbf' i (by ac_nf)
   dsimp only
   by_cases hl:(!(tbG M led mv oc).led)=true
   ·rw[if_pos hl]
    refine wpAny_bind (Qgr hx ?_ _ fun y hy=>?_)
    ·rw[if_neg (by decide)]
     exact rest
    ·rw[List.mem_map]at hy
     obtain⟨e,he,rfl⟩:=hy
     rw[Array.mem_toList_iff,Array.mem_filter]at he
     obtain⟨k2,hk2,hE⟩:=Paired.memL t.pr e (Array.mem_toList_iff.mpr he.1)
     obtain⟨_,b2,e2,i2⟩:=hE
     exact⟨b2,k2,e2,i2⟩
   ·rw[if_neg hl]
    exact rest
end
section
variable {prog:Program}{w:World}{K:Type} [DecidableEq K]
def TAG (T:TKd prog w K) (led:Bool) (h:Heap) (a:Addr) (M mv:Nat) (oc:Nat->Bool) (key:Nat->K):Prop:=∃ o es ep,h.get? a=some o/\o.ExactSet/\o.data=.set es ep (tbG M led mv oc)/\TSG T h M oc key es
variable {T:TKd prog w K}
variable {A:Around}{E:Value->Shared->Prop}{s:Shared}{a:Addr}{led:Bool}{M mv:Nat}{oc:Nat->Bool}{key:Nat->K}{es:Array (Int × Value)}
theorem TSG.keep {h h':Heap} (kt:Kt h h') (t:TSG T h M oc key es):TSG T h' M oc key es:=
 ⟨t.sz,t.few,Paired.imp' (fun e k pq99=>by obtain⟨h1,b,h2,h3⟩:=pq99;exact⟨h1,b,h2,T.keep kt h3⟩) t.pr,t.rc,t.inj⟩
def HasG (M:Nat) (oc:Nat->Bool) (key:Nat->K) (acc:List K):Prop:=(svG M oc).length=acc.length/\∀ k,k∈acc↔∃ j,j<=M/\oc j=true/\key j=k
theorem memG {j:Nat}:j∈svG M oc↔j<=M/\oc j=true:=by
 unfold svG
 rw[List.mem_filter,List.mem_range]
 exact⟨fun h=>⟨by ac_nf,h.2⟩,fun h=>⟨by ac_nf,h.2⟩⟩
structure TPG (T:TKd prog w K) (h:Heap) (M:Nat) (oc:Nat->Bool) (key:Nat->K) (es:Array (Int × Value)):Prop where
 pr:Paired (EnT T h) es.toList (keysG key M oc)
 rc:∀ j,j<=M->oc j=true->RcG M oc (SetTable.bits (T.hash (key j))) j
 inj:∀ i j,i<=M->j<=M->oc i=true->oc j=true->key i=key j->i=j
theorem QiP {p i:Nat}:oc1 oc p i=(oc i || decide (i=p)):=by
 unfold oc1
 congr 1
theorem TPG.add {h h' : Heap} {x : Addr} {k : K} {n p : Nat} {acc : List K} (t : TPG T h M oc key es) (hM : Siz M) (kt : Kt h h') (hx : T.is h' k x) (hp : (pbs M (SetTable.bits (T.hash k)) n).j = p) (hn : oc p = false) (hr : ∀ i, i < n -> oc (pbs M (SetTable.bits (T.hash k)) i).j = true)
  (hno:¬ ∃ j,j<=M/\oc j=true/\key j=k) (hk:HasG M oc key acc):
  TPG T h' M (oc1 oc p) (fun j=>if j=p then k else key j) (SetTable.insertAt es (ixG oc p) (T.hash k,Value.ref x))/\HasG M (oc1 oc p) (fun j=>if j=p then k else key j) (acc++[k]):=by
 have pl:p<=M:=by rw[<- hp];exact Qiv hM n
 have s1:=Qib pl hn
 have old:∀ i,i<=M->oc i=true->i≠p:=fun i _ h1 z=>by rw[z,hn]at h1;cases h1
 refine⟨⟨?_,?_,?_⟩,?_,fun k'=>?_⟩
 ·rw[SetTable.toList_insertAt]
  have e1:keysG (fun j=>if j=p then k else key j) M (oc1 oc p)=(keysG key M oc).take (ixG oc p)++k::(keysG key M oc).drop (ixG oc p):=by
   unfold keysG
   rw[s1,List.map_append,List.map_cons,if_pos rfl,<- List.map_take,<- List.map_drop]
   have e2:∀ l:List Nat,(∀ i∈l,i∈svG M oc)->l.map (fun j=>if j=p then k else key j)=l.map key:=fun l hl=>List.map_congr_left fun i hi=>if_neg (old i (memG.mp (hl i hi)).1 (memG.mp (hl i hi)).2)
   rw[e2 _ fun i hi=>List.mem_of_mem_take hi,e2 _ fun i hi=>List.mem_of_mem_drop hi]
  rw[e1]
  exact Paired.ins ⟨rfl,x,rfl,hx⟩ _ (Paired.imp' (fun e k pq100=>by obtain⟨h1,b,h2,h3⟩:=pq100;exact⟨h1,b,h2,T.keep kt h3⟩) t.pr)
 ·intro j hj ht
  by_cases z:j=p
  ·rw[if_pos z,z]
   refine⟨n,hp,fun i hi=>?_⟩
   rw[QiP,hr i hi];rfl
  ·rw[if_neg z]
   rw[QiP,decide_eq_false z,Bool.or_false]at ht
   obtain⟨n',e',hr'⟩:=t.rc j hj ht
   exact⟨n',e',fun i hi=>by rw[QiP,hr' i hi];rfl⟩
 ·intro i j hi hj h1 h2 e
  rw[QiP]at h1 h2
  by_cases z1:i=p<;>by_cases z2:j=p
  ·rw[z1,z2]
  ·rw[if_pos z1,if_neg z2]at e
   rw[decide_eq_false z2,Bool.or_false]at h2
   exact absurd ⟨j,hj,h2,e.symm⟩ hno
  ·rw[if_neg z1,if_pos z2]at e
   rw[decide_eq_false z1,Bool.or_false]at h1
   exact absurd ⟨i,hi,h1,e⟩ hno
  ·rw[if_neg z1,if_neg z2]at e
   rw[decide_eq_false z1,Bool.or_false]at h1
   rw[decide_eq_false z2,Bool.or_false]at h2
   exact t.inj i j hi hj h1 h2 e
 ·rw[s1,List.length_append,List.length_cons,List.length_take,List.length_drop,List.length_append,<- hk.1]
  have:=Qh7 (oc:=oc) pl
  simp
  ac_nf
 ·rw[List.mem_append,List.mem_singleton,hk.2 k']
  constructor
  ·rintro (⟨j,hj,h1,h2⟩ | rfl)
   ·exact⟨j,hj,by rw[QiP,h1];rfl,(if_neg (old j hj h1)).trans h2⟩
   ·exact⟨p,pl,by rw[QiP];simp,if_pos rfl⟩
  ·rintro ⟨j,hj,h1,h2⟩
   by_cases z:j=p
   ·exact .inr ((if_pos z).symm.trans h2).symm
   ·have h2:=(if_neg z).symm.trans h2
    rw[QiP,decide_eq_false z,Bool.or_false]at h1
    exact .inl ⟨j,hj,h1,h2⟩
theorem QiQ {F:Int × Value->K->Prop}{ks:List K}{k0:K} (pr:Paired F es.toList ks):∀ I:List Nat,(∀ i∈I,i < ks.length)->Paired F (I.filterMap (es[·]?)) (I.map fun i=>ks.getD i k0)
 | [],_=>.nil
 | i::I,h=>by
  have hi:=h i List.mem_cons_self
  have e:=List.getElem?_eq_getElem hi
  obtain⟨x,hx,fx⟩:=Paired.get pr i _ e
  rw[Array.getElem?_toList]at hx
  rw[List.filterMap_cons_some hx,List.map_cons]
  refine .cons ?_ (QiQ pr I fun j hj=>h j (List.mem_cons_of_mem _ hj))
  rw[List.getD_eq_getElem?_getD,e];exact fx
theorem QiR (t:TPG T s.heap M oc key es):(keysG key M oc).Nodup:=by
 unfold keysG
 have hn:(svG M oc).Nodup:=List.Nodup.sublist List.filter_sublist List.nodup_range
 refine List.Pairwise.map _ ?_ (List.Pairwise.and_mem.mp hn)
 intro i j pq150 e;obtain⟨hi,hj,hne⟩:=pq150
 exact hne (t.inj i j (memG.mp hi).1 (memG.mp hj).1 (memG.mp hi).2 (memG.mp hj).2 e)
theorem TPG.relay {M' : Nat} {ow : Array (Option Nat)} {acc : List K} {k0 : K} (t : TPG T s.heap M oc key es) (hk : HasG M oc key acc) (I : LayI M' (es.map (·.1)).toList ow) :
  TPG T s.heap M' (ocO ow) (fun j=>(keysG key M oc).getD (ownG ow j) k0) (((svG M' (ocO ow)).map (ownG ow)).toArray.filterMap (es[·]?))/\HasG M' (ocO ow) (fun j=>(keysG key M oc).getD (ownG ow j) k0) acc:=by
 have hlen:(es.map (·.1)).toList.length=(keysG key M oc).length:=by
  rw[Array.length_toList,Array.size_map,<- Array.length_toList,t.pr.length]
 have ownE:∀ j,ocO ow j=true->ow.getD j none=some (ownG ow j):=fun j hj=>by
  unfold ocO at hj
  unfold ownG
  cases e:ow.getD j none with
  | none=>rw[e]at hj;cases hj
  | some v=>rfl
 have ownL:∀ j,ocO ow j=true->ownG ow j < (keysG key M oc).length:=fun j hj=>by rw[<- hlen];exact I.lt j _ (ownE j hj)
 have nd:=QiR t
 have gd:∀ i,i < (keysG key M oc).length->(keysG key M oc)[i]?=some ((keysG key M oc).getD i k0):=fun i hi=>by
  rw[List.getD_eq_getElem?_getD,List.getElem?_eq_getElem hi];rfl
 have hsh:∀ i,i < (keysG key M oc).length->(es.map (·.1)).toList[i]?=some (T.hash ((keysG key M oc).getD i k0)):=fun i hi=>by
  obtain⟨x,hx,fx⟩:=Paired.get t.pr i _ (gd i hi)
  rw[Array.toList_map,List.getElem?_map,hx]
  exact congrArg some fx.1
 refine⟨⟨?_,fun j hj ho=>?_,fun i j hi hj h1 h2 e=>?_⟩,?_,fun k=>?_⟩
 ·have e:(((svG M' (ocO ow)).map (ownG ow)).toArray.filterMap (es[·]?)).toList=((svG M' (ocO ow)).map (ownG ow)).filterMap (es[·]?):=by simp
  rw[e]
  have:=QiQ (k0:=k0) t.pr ((svG M' (ocO ow)).map (ownG ow)) fun i hi=>by
   obtain⟨j,hj,rfl⟩:=List.mem_map.mp hi
   exact ownL j (memG.mp hj).2
  rw[List.map_map]at this
  exact this
 ·obtain⟨j',a,c,r⟩:=I.all _ _ (hsh _ (ownL j ho))
  have:j'=j:=I.one j' j _ c (ownE j ho)
  rw[this]at r
  exact r
 ·have h3:ownG ow i=ownG ow j:=(List.getElem?_inj (ownL i h1) nd).mp (by rw[gd _ (ownL i h1),gd _ (ownL j h2)];exact congrArg some e)
  exact I.one i j (ownG ow i) (ownE i h1) (by rw[h3];exact ownE j h2)
 ·rw[I.ct,hlen];unfold keysG;rw[List.length_map];exact hk.1
 ·rw[hk.2 k]
  constructor
  ·rintro ⟨j,hj,ho,e⟩
   have hm:key j∈keysG key M oc:=List.mem_map.mpr ⟨j,memG.mpr ⟨hj,ho⟩,rfl⟩
   obtain⟨i,hi,e2⟩:=List.mem_iff_getElem.mp hm
   obtain⟨j',a,c,r⟩:=I.all i _ (hsh i hi)
   have ho':ocO ow j'=true:=by unfold ocO;rw[c];rfl
   have eo:ownG ow j'=i:=by unfold ownG;rw[c];rfl
   refine⟨j',a,ho',?_⟩
   dsimp only
   rw[eo,List.getD_eq_getElem?_getD,List.getElem?_eq_getElem hi]
   exact e2.trans e
  ·rintro ⟨j,hj,ho,e⟩
   have hl:=ownL j ho
   dsimp only at e
   rw[List.getD_eq_getElem?_getD,List.getElem?_eq_getElem hl]at e
   have hm:k∈keysG key M oc:=by rw[<- e];exact List.getElem_mem hl
   obtain⟨j',hj',e'⟩:=List.mem_map.mp hm
   exact⟨j',(memG.mp hj').1,(memG.mp hj').2,e'⟩
theorem QiS (hM:Siz M) {n:Nat} (hn:n<=1000) (h1:¬ n * 5 < M * 3) (h2:(n - 1) * 5 < M * 3) (h0:0 < n):Siz (SetTable.sizeAbove (SetTable.grown n) - 1)/\n<=SetTable.sizeAbove (SetTable.grown n) - 1/\n * 5 < (SetTable.sizeAbove (SetTable.grown n) - 1) * 3/\¬ SetTable.sizeAbove (SetTable.grown n) > sizeLine:=by
 have key:n=5\/n=19\/n=77\/n=307:=by
  rcases hM with z | z | z | z | z<;>subst z<;>ac_nf
 have d5:SetTable.sizeAbove (SetTable.grown 5)=32:=by nofun
 have d19:SetTable.sizeAbove (SetTable.grown 19)=128:=by nofun
 have d77:SetTable.sizeAbove (SetTable.grown 77)=512:=by nofun
 have d307:SetTable.sizeAbove (SetTable.grown 307)=2048:=by nofun
 have sl:sizeLine=16777216:=by decide
 unfold Siz
 rcases key with z | z | z | z<;>subst z
 ·rw[d5,sl];ac_nf
 ·rw[d19,sl];ac_nf
 ·rw[d77,sl];ac_nf
 ·rw[d307,sl];ac_nf
theorem QiT {x : Addr} {k : K} {acc : List K} {Q : Bool -> Shared -> Prop} (hu : A.units + 1 < cLine) (hx : T.is s.heap k x) (y : TAG T led s.heap a M mv oc key) (hk : HasG M oc key acc) (h4 : (onto acc k).length <= 1000)
  (q:∀ h' tk M' mv' oc' key' b,TAG T led h' a M' mv' oc' key'->HasG M' oc' key' (onto acc k)->Heap.SameBut a s.heap h'->Q b { s with heap:=h',toks:=tk }):wpAny (model prog w) A (setAdd a (.ref x)) Q E s:=by
 obtain⟨o,es,ep,g,c,gd,t⟩:=y
 have hM:=t.sz
 have ft:(tbG M led mv oc).fits es.size=true:=by rw[t.size];exact QiM t.sz t.few
 unfold setAdd
 refine wpAny_holding (wpAny_bind (T.hashes hu hx ?_))
 unfold setAddHashed
 refine wpAny_holding ?_
 rw[setAddHashedIn.eq_def]
 dsimp only
 refine wpAny_bind (wpAny_setState_of (s:={ s with toks:=s.toks + T.draws k }) g gd ft ?_)
 dsimp only
 rw[if_neg (by unfold byScan;simp[Value.scannable])]
 obtain⟨y0,hy0,ey0⟩:=QiA (M:=M) (oc:=oc) (by have:=t.few;ac_nf)
 obtain⟨N,n1,n2,n3⟩:=metG (b:=SetTable.bits (T.hash k)) hM (QiG _) hy0 0
 have n3:oc (pbs M (SetTable.bits (T.hash k)) N).j=false:=by rw[n3];exact ey0
 have tl:10 * SetTable.turns M<=20620:=by
  unfold SetTable.turns
  rcases hM with z | z | z | z | z<;>subst z<;>ac_nf
 refine wpAny_bind ?_
 unfold setSearch
 refine QiO (s:={ s with toks:=s.toks + T.draws k }) (T:=T) hu g gd t hx (fun hj=>?_) (fun hno n hn hr=>?_) 100000 0 N none (by ac_nf) (by decide) (by ac_nf) (by ac_nf) n3 Qid fun i hi=>by ac_nf
 ·dsimp only
  have hm:k∈acc:=(hk.2 k).mpr hj
  exact wpAny_pure (q s.heap _ M mv oc key false ⟨o,es,ep,g,c,gd,t⟩ (by unfold onto;rw[if_pos hm];exact hk) ⟨rfl,fun _ _=>rfl⟩)
 ·dsimp only
  have hm:k∉acc:=fun z=>hno ((hk.2 k).mp z)
  have ha:onto acc k=acc++[k]:=by unfold onto;rw[if_neg hm]
  have pl:=Qiv (b:=SetTable.bits (T.hash k)) hM n
  generalize hp:(pbs M (SetTable.bits (T.hash k)) n).j=p at hn pl ⊢
  have s1:=Qib pl hn
  refine wpAny_bind (wpAny_setState_of (s:={ s with toks:=s.toks + T.draws k }) g gd ft ?_)
  dsimp only
  rw[Qic pl hn]
  dsimp only
  rw[if_pos (show (tbG M led mv (oc1 oc p)).plain=true from rfl)]
  refine wpAny_bind (T.byv (s:={ s with toks:=s.toks + T.draws k }) hx ?_)
  rw[if_pos rfl]
  have s3:(svG M (oc1 oc p)).length=(svG M oc).length + 1:=by
   rw[s1,List.length_append,List.length_cons,List.length_take,List.length_drop]
   have:=Qh7 (oc:=oc) pl
   ac_nf
  have sz:(SetTable.insertAt es (ixG oc p) (T.hash k,Value.ref x)).size=(svG M (oc1 oc p)).length:=by
   rw[<- Array.length_toList,SetTable.toList_insertAt,s1]
   have:=t.size
   rw[<- Array.length_toList]at this
   simp[this]
  have l4:(svG M (oc1 oc p)).length<=1000:=by rw[s3,hk.1];rw[ha]at h4;simpa using h4
  have sl:(SetTable.insertAt es (ixG oc p) (T.hash k,Value.ref x)).size<=sizeLine:=by
   rw[sz];exact Nat.le_trans l4 (show 1000<=2 ^ 24 by ac_nf)
  refine wpAny_bind (wpAny_storeSet_of (s:={ s with toks:=s.toks + T.draws k }) g gd ?_ sl)
  have upd:(s.heap.update a (Obj.putSet (SetTable.insertAt es (ixG oc p) (T.hash k,Value.ref x)) (tbG M led mv (oc1 oc p)))).get? a=some { cls:=o.cls,dict:=o.dict,data:=.set (SetTable.insertAt es (ixG oc p) (T.hash k,Value.ref x)) (ep + 1) (tbG M led mv (oc1 oc p)),slots:=o.slots }:=by
   obtain⟨oc,od,oo,os⟩:=o
   cases gd
   exact Heap.get?_update_self _ g rfl
  have sb:=Heap.SameBut.update s.heap a (Obj.putSet (SetTable.insertAt es (ixG oc p) (T.hash k,Value.ref x)) (tbG M led mv (oc1 oc p)))
  have kt:=Qgs g c sb
  obtain⟨tp,hk1⟩:=TPG.add (T:=T) (h':=s.heap.update a (Obj.putSet (SetTable.insertAt es (ixG oc p) (T.hash k,Value.ref x)) (tbG M led mv (oc1 oc p)))) (x:=x) ⟨t.pr,t.rc,t.inj⟩ hM kt (T.keep kt hx) hp hn hr hno hk
  generalize s.heap.update a (Obj.putSet (SetTable.insertAt es (ixG oc p) (T.hash k,Value.ref x)) (tbG M led mv (oc1 oc p)))=h1 at *
  rw[<- ha]at hk1
  have tf:(!false && (tbG M led mv (oc1 oc p)).tooFull)=decide (M * 3<=(svG M (oc1 oc p)).length * 5):=rfl
  rw[tf]
  by_cases hf:(svG M (oc1 oc p)).length * 5 < M * 3
  ·rw[if_neg (by rw[decide_eq_false (by ac_nf)];exact Bool.false_ne_true)]
   exact wpAny_pure (q _ _ M mv _ _ _ ⟨_,_,_,upd,c,rfl,⟨hM,hf,tp.pr,tp.rc,tp.inj⟩⟩ hk1 sb)
  ·rw[if_pos (by rw[decide_eq_true (by ac_nf)])]
   have n0:es.size + 1=(svG M (oc1 oc p)).length:=by rw[s3,t.size]
   obtain⟨f1,f2,f3,f4⟩:=QiS hM l4 hf (by rw[s3];have:=t.few;ac_nf) (by ac_nf)
   rw[n0]
   have ft1:(tbG M led mv (oc1 oc p)).fits (SetTable.insertAt es (ixG oc p) (T.hash k,Value.ref x)).size=true:=by
    rw[sz]
    show (((svG M (oc1 oc p)).toArray.size == (svG M (oc1 oc p)).length) && decide ((svG M (oc1 oc p)).toArray.size + 0<=M))=true
    rw[List.size_toArray,beq_self_eq_true,decide_eq_true (by have:=t.few;ac_nf)];rfl
   generalize hes1:SetTable.insertAt es (ixG oc p) (T.hash k,Value.ref x)=es1 at *
   generalize hnn:(svG M (oc1 oc p)).length=nn at *
   refine wpAny_bind ?_
   unfold setRelay
   refine wpAny_bind (wpAny_setState_of (s:={ s with heap:=h1,toks:=s.toks + T.draws k }) upd rfl ft1 ?_)
   dsimp only
   rw[if_neg f4]
   obtain⟨ow,el,I⟩:=QiL (M:=SetTable.sizeAbove (SetTable.grown nn) - 1) (mv:=(tbG M led mv (oc1 oc p)).movedTo (SetTable.sizeAbove (SetTable.grown nn) - 1)) (led:=led) (hashes:=es1.map (·.1)) f1 (by rw[Array.size_map,sz];exact f2)
   have er:(tbG M led mv (oc1 oc p)).relaid (es1.map (·.1)) (SetTable.grown nn)=_:=el
   obtain⟨tp2,hk2⟩:=TPG.relay (s:={ s with heap:=h1,toks:=s.toks + T.draws k }) (k0:=k) tp hk1 I
   rw[er]
   generalize SetTable.sizeAbove (SetTable.grown nn) - 1=M2 at *
   generalize (tbG M led mv (oc1 oc p)).movedTo M2=mv2 at *
   generalize hes2:((svG M2 (ocO ow)).map (ownG ow)).toArray.filterMap (es1[·]?)=es2 at *
   have z2:es2.size=(svG M2 (ocO ow)).length:=by
    rw[<- Array.length_toList,tp2.pr.length];unfold keysG;rw[List.length_map]
   have z3:es2.size=es1.size:=by rw[z2,I.ct,Array.length_toList,Array.size_map]
   have sl2:es2.size<=sizeLine:=by rw[z3];exact sl
   refine wpAny_bind ?_
   show wpAny _ _ (if ((((svG M2 (ocO ow)).map (ownG ow)).toArray.filterMap (es1[·]?)).size != es1.size)=true then _ else _) _ _ _
   rw[hes2,if_neg (by rw[z3];simp)]
   refine wpAny_pure (wpAny_storeSet_of (s:={ s with heap:=h1,toks:=s.toks + T.draws k }) upd rfl (wpAny_pure ?_) sl2)
   have upd2:(h1.update a (Obj.putSet es2 (tbG M2 led mv2 (ocO ow)))).get? a=some { cls:=o.cls,dict:=o.dict,data:=.set es2 (ep + 1 + 1) (tbG M2 led mv2 (ocO ow)),slots:=o.slots }:=Heap.get?_update_self _ upd rfl
   have sb2:=Heap.SameBut.update h1 a (Obj.putSet es2 (tbG M2 led mv2 (ocO ow)))
   have kt2:=Qgs upd c sb2
   have n5:(svG M2 (ocO ow)).length * 5 < M2 * 3:=by rw[<- z2,z3,sz];exact f3
   exact q _ _ M2 mv2 _ _ _ ⟨_,_,_,upd2,c,rfl,TSG.keep kt2 ⟨f1,n5,tp2.pr,tp2.rc,tp2.inj⟩⟩ hk2 ⟨sb2.1.trans sb.1,fun b hb=>(sb2.2 b hb).trans (sb.2 b hb)⟩
end
section
variable {prog:Program}{w:World}{K:Type} [DecidableEq K] {T:TKd prog w K}{A:Around}{E:Value->Shared->Prop}{s:Shared}{a:Addr}{led:Bool}{M mv:Nat}{oc:Nat->Bool}{key:Nat->K}
theorem TAG.keep {h h':Heap} (x:TAG T led h a M mv oc key) (kt:Kt h h') (k:∀ o,h.get? a=some o->h'.get? a=some o):TAG T led h' a M mv oc key:=by
 obtain⟨o,es,ep,g,c,gd,t⟩:=x
 exact⟨o,es,ep,k o g,c,gd,t.keep kt⟩
theorem QiU {S I l : Addr} {items : Array Value} {ks : List K} {R : Result -> Shared -> Prop} (hh : A.handled = none) (hu : A.units + 3 < cLine) (nI : S ≠ I) (nl : l ≠ S) (il : l ≠ I) (hl : ks.length = items.size) (h4 : ks.length <= 1000) :
  ∀ (d i:Nat) (s:Shared) (M mv:Nat) (oc:Nat->Bool) (key:Nat->K) (acc:List K),items.size - i=d->s.heap.IsListIter I l i->s.heap.IsList l items->TAG T led s.heap S M mv oc key->HasG M oc key acc->acc.length<=i ->
   (∀ (j:Nat) (x:Value),items[j]?=some x->∃ b k,x=.ref b/\T.is s.heap k b/\ks[j]?=some k) ->
   (∀ h' tk M' mv' oc' key',TAG T led h' S M' mv' oc' key'->HasG M' oc' key' ((ks.drop i).foldl onto acc)->(∀ b o,b≠S->b≠I->s.heap.get? b=some o->h'.get? b=some o)->R (.ok (.ret .none)) { s with heap:=h',toks:=tk }) ->
   codeAny (model prog w) A (.builtin "set.update.loop" ⟨[.ref S,.ref I],[]⟩) R s:=by
 intro d
 induction d with
 | zero=>
  intro i s M mv oc key acc e z x y hk ha hi q
  refine codeAny_builtin F.entry_set_update_loop ?_
  unfold Builtin.«set.update.loop»
  dsimp only
  have ktI:∀ h',(∀ b o,b≠I->s.heap.get? b=some o->h'.get? b=some o)->Kt s.heap h':=fun h' he b o g hc=>he b o (fun zz=>by
   subst zz
   obtain⟨o',g',c',_⟩:=z
   rw[g]at g';cases g'
   rw[hc]at c'
   exact absurd c' (by decide)) g
  refine wpAny_bind (wpAny_pyNext_list_end (by first | exact hh | simpa using hh) z x (by simp;ac_nf) fun h' he=>?_)
  dsimp only
  refine wpAny_pure (q h' _ M mv oc key ?_ ?_ fun b o h1 h2 g=>he b o h2 g)
  ·exact y.keep (ktI h' he) fun o g=>he S o nI g
  ·rw[List.drop_eq_nil_of_le (by ac_nf)];exact hk
 | succ d ih=>
  intro i s M mv oc key acc e z x y hk ha hi q
  have hlt:i < items.size:=by ac_nf
  obtain⟨b,k,ex,hb,hn⟩:=hi i items[i] (Array.getElem?_eq_getElem hlt)
  refine codeAny_builtin F.entry_set_update_loop ?_
  unfold Builtin.«set.update.loop»
  dsimp only
  refine wpAny_bind (wpAny_pyNext_list_item z x (Array.getElem?_eq_getElem hlt) fun h' z' sb=>?_)
  have kt1:Kt s.heap h':=fun c o g hc=>by
   by_cases zz:c=I
   ·subst zz
    obtain⟨o',g',c',_⟩:=z
    rw[g]at g';cases g'
    rw[hc]at c'
    exact absurd c' (by decide)
   ·rw[sb.2 c zz];exact g
  dsimp only
  rw[ex]
  have y':TAG T led h' S M mv oc key:=y.keep kt1 fun o g=>by rw[sb.2 S nI];exact g
  have hS:=y'
  obtain⟨oS,_,_,gS,cS,_⟩:=hS
  refine wpAny_bind (wpAny_holding (QiT (s:={ s with heap:=h' }) (acc:=acc) (T:=T) ?_ (T.keep kt1 hb) y' hk (by have:=Qgt acc k;ac_nf) fun h2 tk M2 mv2 oc2 key2 bb y2 hk2 sb2=>?_))
  ·simp only[Around.under_plainId F.plain_set_update_loop]
   show A.units + 1 + 1 < cLine
   ac_nf
  have kt2:Kt h' h2:=Qgs gS cS sb2
  have dr:ks.drop i=k::ks.drop (i + 1):=by
   rw[List.drop_eq_getElem_cons (by ac_nf)]
   have:=List.getElem?_eq_getElem (l:=ks) (i:=i) (by ac_nf)
   rw[hn]at this
   rw[<- Option.some.inj this]
  refine wpAny_pure ⟨plainId_quiet F.plain_set_update_loop _,ih (i + 1) _ M2 mv2 oc2 key2 (onto acc k) (by ac_nf) (z'.at fun o g=>by rw[sb2.2 I (Ne.symm nI)];exact g) ?_ y2 hk2 (by have:=Qgt acc k;ac_nf) ?_ fun h3 tk' M3 mv3 oc3 key3 y3 hk3 kp=>?_⟩
  ·obtain⟨o,g,r⟩:=x
   exact⟨o,by show h2.get? l=_;rw[sb2.2 l nl,sb.2 l il];exact g,r⟩
  ·intro j v hv
   obtain⟨c,k',e1,e2,e3⟩:=hi j v hv
   exact⟨c,k',e1,T.keep kt2 (T.keep kt1 e2),e3⟩
  ·refine q h3 tk' M3 mv3 oc3 key3 y3 ?_ fun c o h1 h2' g=>kp c o h1 h2' ?_
   ·rw[dr];exact hk3
   ·show h2.get? c=_
    rw[sb2.2 c h1,sb.2 c h2']
    exact g
theorem QiV {l : Addr} {items : Array Value} {ks : List K} {Q : Value -> Shared -> Prop} (hh : A.handled = none) (hu : A.units + 20 < cLine) (x : s.heap.IsList l items)
  (hi:∀ (j:Nat) (x:Value),items[j]?=some x->∃ b k,x=.ref b/\T.is s.heap k b/\ks[j]?=some k) (hl:ks.length=items.size) (h4:ks.length<=1000) (hne:ks≠[])
  (q:∀ h' tk M mv oc key,TAG T (!w.params.followText "set-order") h' s.heap.objs.size M mv oc key->HasG M oc key (ks.foldl onto [])->(∀ (b:Nat) (o:Obj),b < s.heap.objs.size->s.heap.get? b=some o->h'.get? b=some o)->Q (.ref s.heap.objs.size) { s with heap:=h',toks:=tk }):
  wpAny (model prog w) A (call (.type "set") [.ref l]) Q E s:=by
 obtain⟨k0,hk0⟩:∃ k0,k0∈ks:=List.exists_mem_of_ne_nil ks hne
 let key0:Nat->K:=fun _=>k0
 have F0:=F.called_set
 refine wpAny_call (codeAny_of_tree ?_)
 show wpAny _ _ (pure (Fin.again _)) _ _ _
 refine wpAny_pure ⟨Code.quiet_builtin _ (by nofun),codeAny_builtin entry_typeCall ?_⟩
 unfold Builtin.«type.__call__»
 dsimp only
 rw[if_neg (by rw[F0.notType];decide),if_neg (by rw[F0.canCreate];decide),F.typeCall_set_1]
 refine wpAny_bind (wpAny_pure ?_)
 rw[F.mro_set]
 refine wpAny_bind (wpAny_pure ?_)
 rw[if_neg (by decide),F0.made]
 refine wpAny_bind (wpAny_pure ?_)
 dsimp only
 refine wpAny_bind (wpAny_pure (wpAny_bind (wpAny_holding (wpAny_call (Qgc (s:=s) ?_)))))
 have g0:(s.heap.push { cls:=.type "set",data:=.set #[] 0 (tb (!w.params.followText "set-order") 0) }).get? s.heap.objs.size=some { cls:=.type "set",data:=.set #[] 0 (tb (!w.params.followText "set-order") 0) }:=Heap.get?_push_size _ rfl
 have T0:({ s with heap:=s.heap.push { cls:=.type "set",data:=.set #[] 0 (tb (!w.params.followText "set-order") 0) } }:Shared).TypeIs (.ref s.heap.objs.size) "set":=⟨_,g0,rfl⟩
 refine wpAny_bind (wpAny_isInstance T0 sub_set_self ?_)
 rw[if_neg (by decide)]
 refine wpAny_bind (wpAny_holding (wpAny_callSpecial?_slot T0 F0.init (wpAny_call (codeAny_call_builtin (by nofun) F.entry_set_init (check_set_init_1 T0 ?_)))))
 unfold Builtin.«set.__init__»
 refine wpAny_bind ?_
 unfold noKeywords
 rw[if_pos (show ({ pos:=[Value.ref s.heap.objs.size,Value.ref l] }:Args).kw.isEmpty=true from rfl)]
 refine wpAny_pure ?_
 dsimp only
 refine wpAny_bind ?_
 unfold typeNameOfCut shownTypeOf
 refine wpAny_bind (wpAny_bind (wpAny_typeOf T0 ?_))
 rw[if_neg (by decide)]
 refine wpAny_pure ?_
 unfold typeNameCut
 dsimp only
 show wpAny _ _ (pure "set") _ _ _
 refine wpAny_pure (wpAny_bind ?_)
 show wpAny _ _ (pure ()) _ _ _
 refine wpAny_pure (wpAny_bind (wpAny_pure (wpAny_bind ?_)))
 unfold setUsed
 refine wpAny_bind (wpAny_setState_of (s:={ s with heap:=s.heap.push { cls:=.type "set",data:=.set #[] 0 (tb (!w.params.followText "set-order") 0) } }) g0 rfl (by exact (Qga _ 0 (by decide)).1) (wpAny_pure ?_))
 dsimp only
 rw[if_neg (by cases w.params.followText "set-order"<;>decide)]
 refine wpAny_bind ?_
 unfold Builtin.Frozenset.updateFrom
 have L1:({ s with heap:=s.heap.push { cls:=.type "set",data:=.set #[] 0 (tb (!w.params.followText "set-order") 0) } }:Shared).TypeIs (.ref l) "list":=by
  obtain⟨o,g,c,_⟩:=x
  exact⟨o,Heap.get?_push_of_some _ g,c⟩
 refine wpAny_bind ?_
 unfold Builtin.Frozenset.isAnySet orM
 refine wpAny_bind (wpAny_isInstance L1 F.sub_list_set ?_)
 dsimp only[toBool]
 refine wpAny_isInstance L1 F.sub_list_frozenset ?_
 rw[if_neg (by decide)]
 refine wpAny_bind (wpAny_typeOf L1 ?_)
 rw[if_neg (by decide)]
 have hlt:l < s.heap.objs.size:=by
  obtain⟨o,g,_⟩:=x
  exact Heap.lt_size g
 have X1:(s.heap.push { cls:=.type "set",data:=.set #[] 0 (tb (!w.params.followText "set-order") 0) }).IsList l items:=by
  obtain⟨o,g,r⟩:=x
  exact⟨o,Heap.get?_push_of_some _ g,r⟩
 refine wpAny_bind (wpAny_pyIter_list (s:={ s with heap:=s.heap.push { cls:=.type "set",data:=.set #[] 0 (tb (!w.params.followText "set-order") 0) } }) X1 (wpAny_bind (wpAny_runValue ?_)))
 have sz1:(s.heap.push { cls:=.type "set",data:=.set #[] 0 (tb (!w.params.followText "set-order") 0) }).objs.size=s.heap.objs.size + 1:=by simp[Heap.push]
 refine QiU (T:=T) (led := !w.params.followText "set-order") (ks:=ks) (by exact hh) (by show A.units + 1 + 1 + 3 < cLine;ac_nf) (Nat.ne_of_lt (by rw[sz1];exact Nat.lt_succ_self _)) (Nat.ne_of_lt hlt) (Nat.ne_of_lt (by rw[sz1];exact Nat.lt_succ_of_lt hlt)) hl h4 _ 0 _ 7 0 (fun _=>false) key0 [] rfl ⟨_,Heap.get?_push_size _ rfl,rfl,rfl⟩ ?_ ?_ ⟨rfl,fun k=>⟨fun z=>(nomatch z),fun ⟨j,hj,hb,_⟩=>by simp at hb⟩⟩ (Nat.le_refl _) ?_ fun h' tk M mv oc key y hk kp=>?_
 ·obtain⟨o,g,r⟩:=X1
  exact⟨o,Heap.get?_push_of_some _ g,r⟩
 ·exact⟨_,_,_,Heap.get?_push_of_some _ g0,⟨rfl,rfl,rfl⟩,rfl,⟨.inl rfl,by decide,.nil,fun j hj hb=>by simp at hb,fun i j _ _ hb=>by simp at hb⟩⟩
 ·intro j v hv
  obtain⟨b,k,e1,e2,e3⟩:=hi j v hv
  exact⟨b,k,e1,T.keep (fun c o g _=>Heap.get?_push_of_some _ (Heap.get?_push_of_some _ g)) e2,e3⟩
 ·refine wpAny_pure (wpAny_pure ?_)
  dsimp only
  rw[if_neg (by decide)]
  exact wpAny_pure (q h' tk M mv oc key y hk fun b o hb g=>kp b o (Nat.ne_of_lt hb) (Nat.ne_of_lt (by rw[sz1];exact Nat.lt_succ_of_lt hb)) (Heap.get?_push_of_some _ (Heap.get?_push_of_some _ g)))
end
section
variable {prog:Program}{w:World}{A:Around}{E:Value->Shared->Prop}{s:Shared}
theorem QiW {h h':Heap}{k:List Int}{b:Addr} (kt:Kt h h'):IsTupleKey (intKind prog w) h k b->IsTupleKey (intKind prog w) h' k b:=fun pq102=>by obtain⟨o,items,n,g,c,d,i⟩:=pq102;exact⟨o,items,n,kt _ _ g c,c,d,i⟩
theorem QiX {h h':Heap} (kt:Kt h h'):∀ {k:KI}{v:Value},TIt prog w h k v->TIt prog w h' k v
 | _,_,.one i t=>.one i t
 | _,_,.row a=>.row (QiW kt a)
theorem QiY {h h':Heap} (kt:Kt h h'):∀ {k:List KI}{v:List Value},TIts prog w h k v->TIts prog w h' k v
 | _,_,.nil=>.nil
 | _,_,.cons a t=>.cons (QiX kt a) (QiY kt t)
theorem QiZ {d:Nat}{k:List Int}{b:Addr}{Q:Bool->Shared->Prop} (hk:IsTupleKey (intKind prog w) s.heap k b) (q:Q false s):wpAny (model prog w) A (ofAClassStatement (d + 1) (.ref b)) Q E s:=by
 obtain⟨o,items,n,ho,hc,hd,hi⟩:=hk
 have hT:s.TypeIs (.ref b) "tuple":=⟨o,ho,hc⟩
 unfold ofAClassStatement
 refine wpAny_bind (wpAny_typeOf hT ?_)
 dsimp only
 rw[if_pos (by decide)]
 refine wpAny_bind (wpAny_pure ?_)
 rw[if_neg (by decide)]
 refine wpAny_bind (wpAny_seqItems ho hd ?_)
 dsimp only
 refine wpAny_bind ?_
 rw[<- Array.forIn_toList]
 refine wpAny_forIn_list _ (fun rest (b:Option Bool × Unit) s'=>s'=s/\b=(none,())/\∀ v∈rest,∃ i t,v=Value.int i t) _ ?_ ?_ _ _ ⟨rfl,rfl,items_int hi⟩
 ·rintro y rest b s' ⟨rfl,rfl,hr⟩
  obtain⟨i,t,rfl⟩:=hr y (by simp)
  rw[Qgu]
  refine wpAny_bind (wpAny_pure ?_)
  rw[if_neg (by decide)]
  exact wpAny_pure ⟨rfl,rfl,fun v hv=>hr v (by simp[hv])⟩
 ·rintro b s' ⟨rfl,rfl,_⟩
  exact wpAny_pure q
theorem Qi0 {d:Nat}{k:List Int}{b:Addr}{Q:Bool->Shared->Prop} (hk:IsTupleKey (intKind prog w) s.heap k b) (q:Q true s):wpAny (model prog w) A (hashByValue (d + 1) (.ref b)) Q E s:=by
 obtain⟨o,items,n,ho,hc,hd,hi⟩:=hk
 have hT:s.TypeIs (.ref b) "tuple":=⟨o,ho,hc⟩
 unfold hashByValue
 refine wpAny_bind (wpAny_specialOf hT F.slot_tuple_hash.lookup ?_)
 show wpAny _ _ (seqItems? (.ref b) >>= _) _ _ s
 refine wpAny_bind (wpAny_seqItems ho hd ?_)
 dsimp only[Option.getD]
 refine wpAny_bind ?_
 rw[<- Array.forIn_toList]
 refine wpAny_forIn_list _ (fun rest (b:Option Bool × Unit) s'=>s'=s/\b=(none,())/\∀ v∈rest,∃ i t,v=Value.int i t) _ ?_ ?_ _ _ ⟨rfl,rfl,items_int hi⟩
 ·rintro y rest b s' ⟨rfl,rfl,hr⟩
  obtain⟨i,t,rfl⟩:=hr y (by simp)
  rw[Qgv]
  refine wpAny_bind (wpAny_pure ?_)
  rw[if_neg (by decide)]
  exact wpAny_pure ⟨rfl,rfl,fun v hv=>hr v (by simp[hv])⟩
 ·rintro b s' ⟨rfl,rfl,_⟩
  exact wpAny_pure q
def nestTK:TKd prog w NK where
 is:=IsNestKey prog w
 hash:=nestHash
 draws:=fun ks=>nestDraws ks + 1
 keep:=fun kt pq103=>by obtain⟨o,items,n,g,c,d,i⟩:=pq103;exact⟨o,items,n,kt _ _ g c,c,d,QiY kt i⟩
 hashes:=fun hu hk q=>Qc6 hu hk q
 eqs:=fun hu hx hy q=>Qc8 hu hx hy q
 quiet:=fun hk q=>Qdb hk q
 cls:=fun {A E s k b Q} hk q=>by
  obtain⟨o,items,n,ho,hc,hd,hi⟩:=hk
  have hT:s.TypeIs (.ref b) "tuple":=⟨o,ho,hc⟩
  unfold ofAClassStatement
  refine wpAny_bind (wpAny_typeOf hT ?_)
  dsimp only
  rw[if_pos (by decide)]
  refine wpAny_bind (wpAny_pure ?_)
  rw[if_neg (by decide)]
  refine wpAny_bind (wpAny_seqItems ho hd ?_)
  dsimp only
  refine wpAny_bind ?_
  rw[<- Array.forIn_toList]
  refine wpAny_forIn_list _ (fun rest (b:Option Bool × Unit) s'=>s'=s/\b=(none,())/\∃ left,TIts prog w s.heap left rest) _ ?_ ?_ _ _ ⟨rfl,rfl,k,hi⟩
  ·rintro y rest b s' ⟨rfl,rfl,left,hr⟩
   cases hr with
   | cons h1 hl=>
    cases h1 with
    | one i t=>
     rw[Qgu]
     refine wpAny_bind (wpAny_pure ?_)
     rw[if_neg (by decide)]
     exact wpAny_pure ⟨rfl,rfl,_,hl⟩
    | row hk=>
     refine wpAny_bind (QiZ (d:=6) hk ?_)
     rw[if_neg (by decide)]
     exact wpAny_pure ⟨rfl,rfl,_,hl⟩
  ·rintro b s' ⟨rfl,rfl,_⟩
   exact wpAny_pure q
 byv:=fun {A E s k b Q} hk q=>by
  obtain⟨o,items,n,ho,hc,hd,hi⟩:=hk
  have hT:s.TypeIs (.ref b) "tuple":=⟨o,ho,hc⟩
  unfold hashByValue
  refine wpAny_bind (wpAny_specialOf hT F.slot_tuple_hash.lookup ?_)
  show wpAny _ _ (seqItems? (.ref b) >>= _) _ _ s
  refine wpAny_bind (wpAny_seqItems ho hd ?_)
  dsimp only[Option.getD]
  refine wpAny_bind ?_
  rw[<- Array.forIn_toList]
  refine wpAny_forIn_list _ (fun rest (b:Option Bool × Unit) s'=>s'=s/\b=(none,())/\∃ left,TIts prog w s.heap left rest) _ ?_ ?_ _ _ ⟨rfl,rfl,k,hi⟩
  ·rintro y rest b s' ⟨rfl,rfl,left,hr⟩
   cases hr with
   | cons h1 hl=>
    cases h1 with
    | one i t=>
     rw[Qgv]
     refine wpAny_bind (wpAny_pure ?_)
     rw[if_neg (by decide)]
     exact wpAny_pure ⟨rfl,rfl,_,hl⟩
    | row hk=>
     refine wpAny_bind (Qi0 (d:=6) hk ?_)
     rw[if_neg (by decide)]
     exact wpAny_pure ⟨rfl,rfl,_,hl⟩
  ·rintro b s' ⟨rfl,rfl,_⟩
   exact wpAny_pure q
end
def SzN (h:Heap) (a:Addr) (n:Nat):Prop:=∃ o es ep t,h.get? a=some o/\o.ExactSet/\o.data=.set es ep t/\t.fits es.size=true/\es.size=n/\n<=3000
def setG (a:Addr) (n:Nat):HO:=.ext fun h=>SzN h a n
theorem Qi1:(onto:List NK->NK->List NK)=ontoN:=by
 funext acc k
 unfold onto ontoN
 have e:(acc.any fun x=>decide (x=k))=true↔k∈acc:=by
  rw[List.any_eq_true]
  exact⟨fun pq104=>by obtain⟨x,h1,h2⟩:=pq104;rw[<- of_decide_eq_true h2];exact h1,fun h=>⟨k,h,decide_eq_true rfl⟩⟩
 by_cases h:k∈acc
 ·rw[if_pos h,if_pos (e.mpr h)]
 ·rw[if_neg h,if_neg fun z=>h (e.mp z)]
theorem Qi2:∀ {ds:List D}{ks:List NK},stsK ds=some ks->ds.length=ks.length/\∀ (j:Nat) (d:D),ds[j]?=some d->∃ k,ks[j]?=some k/\d=stD k
 | [],ks,h=>by cases h;exact⟨rfl,fun j d hd=>by simp at hd⟩
 | d::ds,ks,h=>by
  unfold stsK at h
  cases e1:stK d with
  | none=>rw[e1]at h;cases h
  | some k=>
   cases e2:stsK ds with
   | none=>rw[e1,e2]at h;cases h
   | some ks'=>
    rw[e1,e2]at h
    cases h
    obtain⟨a,b⟩:=Qi2 e2
    refine⟨by simp[a],fun j d' hd=>?_⟩
    cases j with
    | zero=>simp at hd;subst hd;exact⟨k,rfl,Qdw e1⟩
    | succ j=>simpa using b j d' (by simpa using hd)
section
variable {X:Cx}
theorem Qi3 (hc : X.calm = true) (hu : X.A.units + 60 < cLine) : CallR X (.type "set") (fun xs H Q => ∃ (l : Addr) (vs : List V) (ρ : List Addr) (ds : List D) (ks : List NK), xs = [.ref l] /\ SqL X.K H l vs /\ Reps X.K ρ H vs ds /\ stsK ds = some ks /\ 1 <= ks.length /\ ks.length <= 1000 /\
  ∀ q,H q=none->Q (.ref q) (upd H q (setG q (ks.foldl ontoN []).length))):=by
 intro pins s σ H xs us Q I r h
 obtain⟨l,vs,ρ,ds,ks,rfl,hq,rr,hks,h1,h4,q⟩:=h
 obtain⟨u,rfl,rx⟩:=Qbu r
 cases rx
 obtain⟨its,rv,pl,hz⟩:=I.list hq
 have l1:=rv.length
 have l2:=rr.length
 obtain⟨hkl,hit⟩:=Qi2 hks
 refine QiV (T:=nestTK) (ks:=ks) (I.ok.hd hc) (by ac_nf) pl.isList (fun j x hx=>?_) (by simp;ac_nf) h4 (by intro z;rw[z]at h1;simp at h1) fun h' tk M mv oc key y hk kp=>?_
 ·rw[List.getElem?_toArray]at hx
  have hj:j < ds.length:=by have:=(List.getElem?_eq_some_iff.mp hx).1;ac_nf
  obtain⟨k,hk,e⟩:=hit j _ (List.getElem?_eq_getElem hj)
  obtain⟨v,hv,rep⟩:=rr.get (List.getElem?_eq_getElem hj)
  obtain⟨u,hu',ru⟩:=rv.get hv
  rw[hx]at hu'
  cases hu'
  rw[e]at rep
  obtain⟨b,_,e2,hb⟩:=QdD I rep ru
  exact⟨b,k,e2,hb,hk⟩
 ·have kp':∀ (b:Addr) (o:Obj),s.heap.get? b=some o->h'.get? b=some o:=fun b o e=>kp b o (Heap.lt_size e) e
  obtain⟨o,es,ep,g,c,gd,t⟩:=y
  have e0:ks.foldl onto []=ks.foldl ontoN []:=by rw[Qi1]
  have sz:es.size=(ks.foldl ontoN []).length:=by rw[t.size,hk.1,e0]
  have hM:M<=3000:=by rcases t.sz with z | z | z | z | z<;>ac_nf
  have S:SzN h' s.heap.objs.size (ks.foldl ontoN []).length:=⟨o,es,ep,_,g,c,gd,by rw[t.size];exact QiM t.sz t.few,sz,by rw[<- sz,t.size];have:=t.few;ac_nf⟩
  exact⟨.ref s.heap.objs.size,_,I.laid (t':=tk) kp' (Nat.le_refl _) (show ObjOk X.prog X.w _ h' _ (setG _ _) from ⟨S,⟨o,g⟩,fun h1 h2 y1 k=>by
   obtain⟨o,es,ep,t,g,r⟩:=y1
   exact⟨o,es,ep,t,k _ g,r⟩⟩),rfl,q _ (I.hok.fresh (Nat.le_refl _))⟩
theorem Qi4:CallR X (.builtin "len") (fun xs H Q=>∃ (a:Addr) (n:Nat),xs=[.ref a]/\H a=some (setG a n)/\Q (.int (n:Nat)) H):=by
 intro pins s σ H xs us Q I r h
 obtain⟨a,n,rfl,hq,q⟩:=h
 obtain⟨u,rfl,rx⟩:=Qbu r
 cases rx
 obtain⟨y,_,_⟩:=(show ObjOk X.prog X.w H s.heap a (setG a n) from I.hok a _ hq)
 obtain⟨o,es,ep,t,g,c,gd,f,sz,n4⟩:=y
 exact call_len_set g c gd f (by ac_nf) ⟨.int (n:Nat),H,I.tok _,⟨_,by rw[sz]⟩,q⟩
theorem Qi5 {e : Expr} {fa : CE} {p1 p2 pos2 pos : Pos} (hc : X.calm = true) (hu : X.A.units + 60 < cLine) (hg1 : Gl X "len") (hm1 : X.mg "len" = none) (hg2 : Gl X "set") (hm2 : X.mg "set" = none) (ha : SE X e fa)
  (he:starEach [e] X.env=[(false,eval e X.env)]:=by rfl)
  (he2:starEach [Expr.Call (.Name "set" p2) [e] [] pos2] X.env=[(false,eval (.Call (.Name "set" p2) [e] [] pos2) X.env)]:=by rfl):SE X (.Call (.Name "len" p1) [.Call (.Name "set" p2) [e] [] pos2] [] pos) (c1 lenSetND fa):=
 (QbN Qi4 hg1 hm1 rfl (QbB (QbO (Qi3 hc hu) hg2 hm2 rfl (QbB ha QbA he) (by decide) (by decide) he rfl) QbA he2) (by decide) (by decide) he2 rfl).of fun σ H Q h_=>h_.el fun ρ l st lr sr p=>⟨ρ,l,st,lr,sr,p.bnd.imp fun d st1 ρ1 H1 x1 s1 p1 v rv=>by
  cases rv with
  | @ref a n _ h=>
   obtain⟨ds,e2,p2⟩:=Post.getL (Post.bnd p1) s1
   obtain⟨a',vs,ha,hv,r⟩:=s1.seq e2
   rw[h]at ha;cases ha
   cases e1:stsK ds with
   | none=>rw[e1]at p2;exact p2.elim
   | some ks=>
    rw[e1]at p2
    obtain⟨⟨h1,h4⟩,p3⟩:=Post.chk p2
    exact⟨a,vs,ρ1,ds,ks,rfl,SqL.of hv,r,e1,h1,h4,fun q hq=>⟨q,_,rfl,Qai,p3 _ _ (Ex.new hq) (s1.new hq) _ (.int _)⟩⟩
  | _=>exact p1.elim⟩
end
section
def rLensG:RuE:=⟨fun q c e=>match e with
 | .Call (.Name x _) [.Call (.Name y _) [a] [] _] [] p=>if x=Str.ofString "len"/\y=Str.ofString "set"/\c.bl x=true/\c.bl y=true/\plE a=true/\c.tag p 12=true then (q.e c a).bind fun fa=>some (c1 lenSetND fa) else none
 | _=>none,fun {q} hq {X c} g {e r} z=>by
 split at z
 ·simp only[Option.ite_none_right_eq_some,Option.bind_eq_some_iff]at z
  obtain⟨⟨rfl,rfl,h1,h2,hp,_⟩,fa,ha,z⟩:=z
  cases z
  exact Qi5 g.S.calm g.hu (g.gl h1).1 (g.gl h1).2 (g.gl h2).1 (g.gl h2).2 (hq.e g ha) (Qgz hp) rfl
 ·cases z⟩
end
end MM
namespace My
open PySem MM
def jx : CS :=
  (sSeq (sRet (c2 subsD (c2 subsD (c2 subsD (cVar 0) (cVar 1)) (cVar 2)) (cCon (.int 0))))
  sNext)
@[irreducible] def jj:List D->M D:=runDef 3 jx
def jJ : CS :=
  (sSeq (sRet (c2 subsD (c2 subsD (c2 subsD (cVar 0) (cVar 1)) (cVar 2)) (cCon (.int 1))))
  sNext)
@[irreducible] def jo:List D->M D:=runDef 3 jJ
def jF : CS :=
  (sSeq (sRet (c2 subsD (c2 subsD (c2 subsD (c2 subsD (cVar 0) (cCon (.int 1))) (cVar 2)) (cCon (.int 1))) (c2 subsD (c2 subsD (cVar 1) (cCon (.int 0))) (cVar 2))))
  sNext)
@[irreducible] def jd:List D->M D:=runDef 3 jF
def jC : CS :=
  (sSeq (sRet (c2 addD (c2 addD (cSliceT (cVar 0) oNone (oSome (cVar 1))) (cTup (cCons (cVar 2) cNil))) (cSliceT (cVar 0) (oSome (c2 addD (cVar 1) (cCon (.int 1)))) oNone)))
  sNext)
@[irreducible] def jf:List D->M D:=runDef 3 jC
def jw : CS :=
  (sSeq (sRet (cIfE (tCmpB (c2 eqD (c2 subsD (cVar 0) (cCon (.int 0))) (cCon (.str "settle")))) (c2 subsD (cVar 0) (cCon (.int 1))) (cCon .non)))
  sNext)
@[irreducible] def jh:List D->M D:=runDef 1 jw
def jG : CS :=
  (sSeq (sAsg (gVar 2) (c2 addD (c2 mulD (cCon (.int 7919)) (cVar 1)) (cCon (.int 104729))))
  (sSeq (sAsg (gVar 3) (cKeep (aDisp cNil)))
  (sSeq (sFor (iTmp (aSlice (cVar 0) (oSome (cVar 1)) (oSome (cCon (.int 63))))) (gVar 4)
   (sSeq (sAsg (gVar 2) (c2 modD (c2 addD (c2 addD (c2 mulD (cVar 2) (cCon (.int 48271))) (c2 modD (cVar 4) (cCon (.int 2147483629)))) (cCon (.int 1))) (cCon (.int 2147483647))))
   (sSeq (sIf (tCmpB (c2 geD (cVar 4) (c2 powD (cCon (.int 10)) (cCon (.int 18)))))
    (sSeq (sExp (cAppend (cVar 3) (cVar 4)))
    sNext)
    sNext)
   sNext)))
  (sSeq (sRet (cKeep (aDisp (cCons (cVar 2) (cCons (cCon (.int 0)) (cCons (cKeep (aBack (cVar 3))) cNil))))))
  sNext))))
@[irreducible] def jq:List D->M D:=runDef 5 jG
def jD : CS :=
  (sSeq (sWhile (tAndB (tCmpB (c2 eqD (c2 subsD (cVar 0) (cCon (.int 1))) (cCon (.int 0)))) (tCmpB (c2 gtD (c1 lenD (c2 subsD (cVar 0) (cCon (.int 2)))) (cCon (.int 0)))))
   (sSeq (sAsg (gSubD (cVar 0) (cCon (.int 1))) (cPop (c2 subsD (cVar 0) (cCon (.int 2)))))
   sNext))
  (sSeq (sIf (tCmpB (c2 gtD (c2 subsD (cVar 0) (cCon (.int 1))) (cCon (.int 0))))
   (sSeq (sAsg (gVar 2) (c2 modD (c2 subsD (cVar 0) (cCon (.int 1))) (cVar 1)))
   (sSeq (sAsg (gSubD (cVar 0) (cCon (.int 1))) (c2 fdivD (c2 subsD (cVar 0) (cCon (.int 1))) (cVar 1)))
   (sSeq (sRet (cVar 2))
   sNext)))
   sNext)
  (sSeq (sAsg (gVar 3) (c2 modD (c2 addD (c2 mulD (c2 subsD (cVar 0) (cCon (.int 0))) (cCon (.int 48271))) (cCon (.int 7919))) (cCon (.int 2147483647))))
  (sSeq (sAsg (gSubD (cVar 0) (cCon (.int 0))) (c2 addD (c2 modD (c2 addD (c2 mulD (cVar 3) (cCon (.int 40692))) (cCon (.int 12345))) (cCon (.int 2147483399))) (cCon (.int 1))))
  (sSeq (sRet (c2 modD (c2 fdivD (c2 addD (c2 mulD (c2 modD (c2 mulD (cVar 3) (cVar 3)) (cCon (.int 2147483629))) (cCon (.int 31))) (c2 subsD (cVar 0) (cCon (.int 0)))) (cCon (.int 64))) (cVar 1)))
  sNext)))))
@[irreducible] def ja:List D->M D:=runDef 4 jD
def jz : CS :=
  (sSeq (sAsg (gVar 2) (cCall ja (cCons (cVar 0) (cCons (cCon (.int 6)) cNil))))
  (sSeq (sAsg (gVar 3) (c2 addD (cCon (.int 1)) (cCall ja (cCons (cVar 0) (cCons (cVar 1) cNil)))))
  (sSeq (sIf (tCmpB (c2 eqD (cVar 2) (cCon (.int 0))))
   (sSeq (sAsg (gVar 3) (c2 min2D (cVar 3) (cCon (.int 3))))
   (sSeq (sRet (cTmp tupL (aComp 1 [3] (MM.iRng1 (cVar 3)) (gVar 0) tTrue (c2 addD (cTup (cCons (cTup (cCons (cVar 0) (cCons (cVar 0) cNil))) cNil)) (cTmp tupL (aComp 1 [] (MM.iRng1 (cVar 1)) (gVar 0) tTrue (cTup (cCons (cVar 0) (cCons (cCon (.int 0)) cNil)))))))))
   sNext))
   sNext)
  (sSeq (sIf (tCmpB (c2 eqD (cVar 2) (cCon (.int 1))))
   (sSeq (sRet (cTmp tupL (aComp 1 [3] (MM.iRng1 (cVar 3)) (gVar 0) tTrue (cTmp tupL (aComp 1 [0] (MM.iRng1 (cVar 1)) (gVar 0) tTrue (cTup (cCons (cVar 0) (cCons (cVar 1) cNil))))))))
   sNext)
   sNext)
  (sSeq (sIf (tCmpB (c2 eqD (cVar 2) (cCon (.int 2))))
   (sSeq (sRet (cTmp tupL (aComp 1 [3] (MM.iRng1 (cVar 3)) (gVar 0) tTrue (cTup (cCons (cTup (cCons (c2 modD (c2 addD (cVar 0) (cCon (.int 1))) (cVar 1)) (cCons (cVar 0) cNil))) cNil)))))
   sNext)
   sNext)
  (sSeq (sIf (tAndB (tCmpB (c2 eqD (cVar 2) (cCon (.int 3)))) (tCmpB (c2 gtD (cVar 3) (cCon (.int 1)))))
   (sSeq (sAsg (gVar 4) (cKeep (aComp 1 [3] (MM.iRng2 (cCon (.int 1)) (cVar 3)) (gVar 0) tTrue (cTmp tupL (aComp 1 [0] (MM.iRng2 (cCon (.int 1)) (cVar 1)) (gVar 0) tTrue (cTup (cCons (cVar 1) (cCons (cVar 1) cNil))))))))
   (sSeq (sRet (c2 addD (cTup (cCons (cTmp tupL (aComp 1 [] (MM.iRng2 (cCon (.int 1)) (cVar 3)) (gVar 0) tTrue (cTup (cCons (cVar 0) (cCons (cVar 0) cNil))))) cNil)) (c1 tupleD (cVar 4))))
   sNext))
   sNext)
  (sSeq (sAsg (gVar 5) (c2 addD (cCon (.int 1)) (cCall ja (cCons (cVar 0) (cCons (cCon (.int 4)) cNil)))))
  (sSeq (sRet (cTmp tupL (aComp 1 [0,3,5] (MM.iRng1 (cVar 3)) (gVar 0) tTrue (cTmp tupL (aComp 1 [1,2] (MM.iRng1 (cVar 3)) (gVar 0) tTrue (cTup (cCons (cCall ja (cCons (cVar 1) (cCons (cVar 2) cNil))) (cCons (cCall ja (cCons (cVar 1) (cCons (cCon (.int 4)) cNil))) cNil))))))))
  sNext))))))))
@[irreducible] def jm:List D->M D:=runDef 6 jz
def jE : CS :=
  (sSeq (sIf (tOrB (tCmpB (c2 eqD (c1 lenD (cVar 1)) (cCon (.int 0)))) (tOrB (tAndB (tVal (cVar 4)) (tCmpB (c2 eqD (cVar 3) (c2 subD (cVar 2) (cCon (.int 1)))))) (tCmpB (c2 eqD (cCall ja (cCons (cVar 0) (cCons (cCon (.int 5)) cNil))) (cCon (.int 0))))))
   (sSeq (sRet (cTup (cCons (cCon (.str "settle")) (cCons (cCall ja (cCons (cVar 0) (cCons (cCon (.int 2)) cNil))) cNil))))
   sNext)
   sNext)
  (sSeq (sAsg (gVar 5) (cCall ja (cCons (cVar 0) (cCons (c1 lenD (cVar 1)) cNil))))
  (sSeq (sAsg (gVar 6) (c2 subsD (c2 subsD (cVar 1) (cVar 5)) (cCon (.int 0))))
  (sSeq (sAsg (gVar 7) (cCall ja (cCons (cVar 0) (cCons (c1 lenD (c2 subsD (cVar 6) (cCon (.int 0)))) cNil))))
  (sSeq (sAsg (gVar 8) (cKeep (aDisp cNil)))
  (sSeq (sFor (MM.iRng1 (c2 addD (cCon (.int 1)) (cTmp maxD (aComp 1 [7] (iSeq (cVar 6)) (gVar 0) tTrue (c2 subsD (c2 subsD (cVar 0) (cVar 1)) (cCon (.int 1))))))) (gVar 9)
   (sSeq (sIf (tVal (cVar 4))
    (sSeq (sExp (cAppend (cVar 8) (c2 addD (c2 addD (cVar 3) (cCon (.int 1))) (cCall ja (cCons (cVar 0) (cCons (c2 subD (c2 subD (cVar 2) (cVar 3)) (cCon (.int 1))) cNil))))))
    sNext)
    (sSeq (sExp (cAppend (cVar 8) (cCall ja (cCons (cVar 0) (cCons (cVar 2) cNil)))))
    sNext))
   sNext))
  (sSeq (sRet (cTup (cCons (cCon (.str "do")) (cCons (cVar 5) (cCons (cVar 7) (cCons (c1 tupleD (cVar 8)) cNil))))))
  sNext)))))))
@[irreducible] def jl:List D->M D:=runDef 10 jE
def jA : CS :=
  (sSeq (sAsg (gVar 1) (cKeep (aDisp cNil)))
  (sSeq (sAsg (gVar 2) (cTmpSub (aDisp (cCons (cCon (.int 0)) (cCons (cCon (.int 1)) (cCons (cCon (.int 1)) (cCons (cCon (.int 2)) (cCons (cCon (.int 2)) (cCons (cCon (.int 3)) (cCons (cCon (.int 1)) (cCons (cCon (.int 4)) cNil))))))))) (cCall ja (cCons (cVar 0) (cCons (cCon (.int 8)) cNil)))))
  (sSeq (sFor (MM.iRng1 (cVar 2)) (gVar 3)
   (sSeq (sAsg (gVar 4) (cCall jm (cCons (cVar 0) (cCons (cTmpSub (aDisp (cCons (cCon (.int 4)) (cCons (cCon (.int 4)) (cCons (cCon (.int 4)) (cCons (cCon (.int 2)) (cCons (cCon (.int 2)) cNil)))))) (cVar 2)) cNil))))
   (sSeq (sExp (cAppend (cVar 1) (cTup (cCons (cVar 4) (cCons (cCall ja (cCons (cVar 0) (cCons (c1 lenD (cVar 4)) cNil))) cNil)))))
   sNext)))
  (sSeq (sAsg (gVar 5) (cKeep (aDisp cNil)))
  (sSeq (sAsg (gVar 6) (c2 addD (cCon (.int 2)) (c1 intD (c2 eqD (cCall ja (cCons (cVar 0) (cCons (cCon (.int 3)) cNil))) (cCon (.int 0))))))
  (sSeq (sAsg (gVar 7) (cCall ja (cCons (cVar 0) (cCons (cCon (.int 4)) cNil))))
  (sSeq (sFor (MM.iRng1 (cVar 6)) (gVar 3)
   (sSeq (sAsg (gVar 8) (c2 addD (cCon (.int 1)) (cCall ja (cCons (cVar 0) (cCons (cCon (.int 8)) cNil)))))
   (sSeq (sAsg (gVar 9) (cOr (c2 ltD (cVar 7) (cCon (.int 2))) (cAnd (c2 eqD (cVar 7) (cCon (.int 2))) (c2 gtD (cVar 3) (cCon (.int 0))))))
   (sSeq (sAsg (gVar 10) (cTmp tupL (aComp 1 [0,1,8,9] (MM.iRng1 (cVar 8)) (gVar 0) tTrue (cCall jl (cCons (cVar 1) (cCons (cVar 2) (cCons (cVar 3) (cCons (cVar 0) (cCons (cVar 4) cNil)))))))))
   (sSeq (sAsg (gVar 11) (cTup (cCons (cCon (.int 0)) (cCons (cCall ja (cCons (cVar 0) (cCons (cVar 8) cNil))) cNil))))
   (sSeq (sIf (tCmpB (c2 eqD (cCall ja (cCons (cVar 0) (cCons (cCon (.int 2)) cNil))) (cCon (.int 1))))
    (sSeq (sAsg (gVar 11) (cTup (cCons (cCall ja (cCons (cVar 0) (cCons (cVar 8) cNil))) (cCons (cCall ja (cCons (cVar 0) (cCons (cVar 8) cNil))) cNil))))
    sNext)
    sNext)
   (sSeq (sExp (cAppend (cVar 5) (cTup (cCons (cVar 11) (cCons (cVar 10) cNil)))))
   sNext)))))))
  (sSeq (sIf (tCmpB (c2 eqD (cCall ja (cCons (cVar 0) (cCons (cCon (.int 4)) cNil))) (cCon (.int 0))))
   (sSeq (sAsg (gSubD (cVar 5) (c1 negD (cCon (.int 1)))) (c2 subsD (cVar 5) (cCon (.int 0))))
   sNext)
   sNext)
  (sSeq (sRet (cTup (cCons (c1 tupleD (cVar 1)) (cCons (c1 tupleD (cVar 5)) cNil))))
  sNext)))))))))
@[irreducible] def jn:List D->M D:=runDef 12 jA
def jI : CS :=
  (sSeq (sRet (c2 subsD (c2 subsD (c2 subsD (c2 subsD (cVar 0) (cCon (.int 1))) (cVar 2)) (cCon (.int 1))) (c2 subsD (c2 subsD (cVar 1) (cCon (.int 0))) (cVar 2))))
  sNext)
@[irreducible] def ji:List D->M D:=runDef 3 jI
def js : CS :=
  (sSeq (sAsg (gVar 2) (cTmp tupL (aComp 1 [0] (iSeq (c2 subsD (cVar 1) (cCon (.int 1)))) (gVar 0) tTrue (cCall ja (cCons (cVar 1) (cCons (c1 lenD (c2 subsD (cVar 0) (cCon (.int 1)))) cNil))))))
  (sSeq (sRet (cTup (cCons (cVar 2) (cCons (cTmp tupL (aComp 1 [0] (iSeq (c2 subsD (cVar 1) (cCon (.int 0)))) (gVar 0) tTrue (cCall ja (cCons (cVar 1) (cCons (c1 lenD (c2 subsD (cVar 0) (cCon (.int 0)))) cNil))))) cNil))))
  sNext))
@[irreducible] def jg:List D->M D:=runDef 3 js
def jB : CS :=
  (sSeq (sAsg (gVar 3) (cCall jd (cCons (cVar 0) (cCons (cVar 1) (cCons (cVar 2) cNil)))))
  (sSeq (sIf (tCmpB (c2 eqD (c2 subsD (cVar 3) (cCon (.int 0))) (cCon (.str "settle"))))
   (sSeq (sRet (cVar 1))
   sNext)
   sNext)
  (sSeq (sAsg (gVar 4) (c2 subsD (cVar 3) (cCon (.int 1))))
  (sSeq (sAsg (gVar 5) (c2 subsD (cVar 3) (cCon (.int 2))))
  (sSeq (sAsg (gVar 6) (c2 subsD (c2 subsD (c2 subsD (cVar 0) (cCon (.int 0))) (cVar 4)) (cCon (.int 0))))
  (sSeq (sAsg (gVar 7) (c2 subsD (c2 subsD (cVar 1) (cCon (.int 1))) (cVar 4)))
  (sSeq (sAsg (gVar 8) (c2 subsD (c2 subsD (cVar 3) (cCon (.int 3))) (cCall jo (cCons (cVar 6) (cCons (cVar 7) (cCons (cVar 5) cNil))))))
  (sSeq (sRet (cTup (cCons (cCall jf (cCons (c2 subsD (cVar 1) (cCon (.int 0))) (cCons (cVar 2) (cCons (cVar 8) cNil)))) (cCons (cCall jf (cCons (c2 subsD (cVar 1) (cCon (.int 1))) (cCons (cVar 4) (cCons (cCall jj (cCons (cVar 6) (cCons (cVar 7) (cCons (cVar 5) cNil)))) cNil)))) cNil))))
  sNext))))))))
@[irreducible] def jb:List D->M D:=runDef 9 jB
def jM : CS :=
  (sSeq (sAsg (gVar 3) (cKeep (aDisp (cCons (cVar 1) cNil))))
  (sSeq (sFor (iSeq (cVar 2)) (gVar 4)
   (sSeq (sExp (cAppend (cVar 3) (cCall jb (cCons (cVar 0) (cCons (c2 subsD (cVar 3) (c1 negD (cCon (.int 1)))) (cCons (cVar 4) cNil))))))
   sNext))
  (sSeq (sRet (cVar 3))
  sNext)))
@[irreducible] def jp:List D->M D:=runDef 5 jM
def jH : CS :=
  (sSeq (sRet (cTmp tupL (aComp 1 [0,1] (MM.iRng1 (c1 lenD (c2 subsD (cVar 0) (cCon (.int 1))))) (gVar 0) tTrue (cCall jh (cCons (cCall jd (cCons (cVar 1) (cCons (cVar 2) (cCons (cVar 0) cNil)))) cNil)))))
  sNext)
@[irreducible] def jc:List D->M D:=runDef 2 jH
def jL : CS :=
  (sSeq (sRet (cKeep (aComp 2 [] (iEnum (cCall jc (cCons (cVar 0) (cCons (cVar 1) cNil)))) (gTupD 2 (gsCons (gVar 0) (gsCons (gVar 1) gsNil))) (tCmpB (c2 isD (cVar 1) (cCon .non))) (cVar 0))))
  sNext)
@[irreducible] def ju:List D->M D:=runDef 2 jL
def jK : CS :=
  (sSeq (sAsg (gVar 3) (cDNew true))
  (sSeq (sAsg (gVar 4) (cVar 1))
  (sSeq (sWhile (tCmpB (c2 ninD (cVar 4) (cVar 3)))
   (sSeq (sAsg (gVar 5) (cCall jd (cCons (cVar 0) (cCons (cVar 4) (cCons (cVar 2) cNil)))))
   (sSeq (sIf (tCmpB (c2 eqD (c2 subsD (cVar 5) (cCon (.int 0))) (cCon (.str "settle"))))
    (sSeq (sRet (cTup (cCons (cCon (.str "settles")) (cCons (c2 subsD (cVar 5) (cCon (.int 1))) (cCons (c1 lenD (cVar 3)) cNil)))))
    sNext)
    sNext)
   (sSeq (sAsg (gSubD (cVar 3) (cVar 4)) (c1 lenD (cVar 3)))
   (sSeq (sAsg (gVar 4) (cCall jb (cCons (cVar 0) (cCons (cVar 4) (cCons (cVar 2) cNil)))))
   sNext)))))
  (sSeq (sRet (cTup (cCons (cCon (.str "round")) (cCons (c2 subsD (cVar 3) (cVar 4)) (cCons (c2 subD (c1 lenD (cVar 3)) (c2 subsD (cVar 3) (cVar 4))) cNil)))))
  sNext))))
@[irreducible] def jt:List D->M D:=runDef 6 jK
def jy : CS :=
  (sSeq (sAsg (gVar 2) (cCall ju (cCons (cVar 0) (cCons (cVar 1) cNil))))
  (sSeq (sFor (iSeq (cVar 2)) (gVar 3)
   (sSeq (sAsg (gVar 4) (cKeep (aComp 1 [0,1,3] (iSeq (cVar 2)) (gVar 0) (tCmpB (c2 neD (c2 subsD (cCall ji (cCons (cVar 1) (cCons (cVar 2) (cCons (cVar 0) cNil)))) (cCon (.int 1))) (c2 subsD (cCall ji (cCons (cVar 1) (cCons (cVar 2) (cCons (cVar 3) cNil)))) (cCon (.int 1))))) (cVar 0))))
   (sSeq (sFor (iSeq (cVar 4)) (gVar 5)
    (sSeq (sAsg (gVar 6) (cCall jb (cCons (cVar 0) (cCons (cCall jb (cCons (cVar 0) (cCons (cVar 1) (cCons (cVar 3) cNil)))) (cCons (cVar 5) cNil)))))
    (sSeq (sAsg (gVar 7) (cCall jb (cCons (cVar 0) (cCons (cCall jb (cCons (cVar 0) (cCons (cVar 1) (cCons (cVar 5) cNil)))) (cCons (cVar 3) cNil)))))
    (sSeq (sIf (tCmpB (c2 neD (cVar 6) (cVar 7)))
     (sSeq (sRet (cCon (.bl false)))
     sNext)
     sNext)
    sNext))))
   sNext)))
  (sSeq (sRet (cCon (.bl true)))
  sNext)))
@[irreducible] def jk:List D->M D:=runDef 8 jy
def jr : CS :=
  (sSeq (sAsg (gVar 3) (cCall jt (cCons (cVar 0) (cCons (cVar 1) (cCons (cVar 2) cNil)))))
  (sSeq (sIf (tCmpB (c2 eqD (c2 subsD (cVar 3) (cCon (.int 0))) (cCon (.str "settles"))))
   (sSeq (sAsg (gVar 4) (cCall jp (cCons (cVar 0) (cCons (cVar 1) (cCons (cKeep (aTimes (aDisp (cCons (cVar 2) cNil)) (c2 subsD (cVar 3) (cCon (.int 2))))) cNil)))))
   (sSeq (sAsg (gVar 5) (cKeep (aComp 1 [0,2] (iSeq (cVar 4)) (gVar 0) tTrue (c2 subsD (cCall jc (cCons (cVar 1) (cCons (cVar 0) cNil))) (cVar 2)))))
   (sSeq (sRet (c2 eqD (cVar 5) (c2 addD (cKeep (aTimes (aDisp (cCons (cCon .non) cNil)) (c2 subsD (cVar 3) (cCon (.int 2))))) (cKeep (aDisp (cCons (c2 subsD (cVar 3) (cCon (.int 1))) cNil))))))
   sNext)))
   sNext)
  (sSeq (sAsg (gVar 4) (cCall jp (cCons (cVar 0) (cCons (cVar 1) (cCons (cKeep (aTimes (aDisp (cCons (cVar 2) cNil)) (c2 addD (c2 subsD (cVar 3) (cCon (.int 1))) (c2 subsD (cVar 3) (cCon (.int 2)))))) cNil)))))
  (sSeq (sIf (tCmpB (cInTmp inL (cCon (.bl true)) (aComp 1 [0,2] (iSeq (cVar 4)) (gVar 0) tTrue (c2 isntD (c2 subsD (cCall jc (cCons (cVar 1) (cCons (cVar 0) cNil))) (cVar 2)) (cCon .non)))))
   (sSeq (sRet (cCon (.bl false)))
   sNext)
   sNext)
  (sSeq (sRet (cAnd (c2 eqD (c2 subsD (cVar 4) (c1 negD (cCon (.int 1)))) (c2 subsD (cVar 4) (c2 subsD (cVar 3) (cCon (.int 1))))) (cAnd (c2 eqD (c1 lenSetND (cVar 4)) (c2 subD (c1 lenD (cVar 4)) (cCon (.int 1)))) (c2 gtD (c2 subsD (cVar 3) (cCon (.int 2))) (cCon (.int 0))))))
  sNext)))))
@[irreducible] def je:List D->M D:=runDef 6 jr
def jN : CS :=
  (sSeq (sAsg (gVar 1) (cCall jq (cCons (cVar 0) (cCons (cCon (.int 0)) cNil))))
  (sSeq (sAsg (gVar 2) (cCall jn (cCons (cVar 1) cNil)))
  (sSeq (sAsg (gVar 3) (cCall jg (cCons (cVar 1) (cCons (cVar 2) cNil))))
  (sSeq (sAsg (gVar 4) (cKeep (aComp 1 [1,2] (MM.iRng1 (cCall ja (cCons (cVar 1) (cCons (cCon (.int 21)) cNil)))) (gVar 0) tTrue (cCall ja (cCons (cVar 1) (cCons (c1 lenD (c2 subsD (cVar 2) (cCon (.int 1)))) cNil))))))
  (sSeq (sAsg (gVar 5) (cCall jp (cCons (cVar 2) (cCons (cVar 3) (cCons (cVar 4) cNil)))))
  (sSeq (sAsg (gVar 6) (cCall ja (cCons (cVar 1) (cCons (c1 lenD (cVar 5)) cNil))))
  (sSeq (sAsg (gVar 7) (c2 subsD (cVar 5) (cVar 6)))
  (sSeq (sAsg (gVar 8) (c1 listD (cVar 4)))
  (sSeq (sFor (MM.iRng1 (c1 lenD (c2 subsD (cVar 2) (cCon (.int 1))))) (gVar 9)
   (sSeq (sIf (tCmpB (c2 isntD (c2 subsD (cCall jc (cCons (cVar 2) (cCons (cVar 7) cNil))) (cVar 9)) (cCon .non)))
    (sSeq (sAsg (gVar 8) (c2 addD (c2 addD (cKeep (aSlice (cVar 4) oNone (oSome (cVar 6)))) (cKeep (aTimes (aDisp (cCons (cVar 9) cNil)) (c2 addD (cCon (.int 1)) (c2 modD (cVar 9) (cCon (.int 2))))))) (cKeep (aSlice (cVar 4) (oSome (cVar 6)) oNone))))
    sNext)
    sNext)
   sNext))
  (sSeq (sIf (tOrB (tCmpB (c2 neD (c2 subsD (cCall jp (cCons (cVar 2) (cCons (cVar 3) (cCons (cVar 8) cNil)))) (c1 negD (cCon (.int 1)))) (c2 subsD (cVar 5) (c1 negD (cCon (.int 1)))))) (tCmpB (c2 neD (cCall jp (cCons (cVar 2) (cCons (cVar 7) (cCons (cKeep (aSlice (cVar 4) (oSome (cVar 6)) oNone)) cNil)))) (cKeep (aSlice (cVar 5) (oSome (cVar 6)) oNone)))))
   (sSeq (sRet (cCon (.bl false)))
   sNext)
   sNext)
  (sSeq (sIf (tCmpB (cInTmp inL (cCon (.bl false)) (aComp 1 [2] (iSeq (cVar 5)) (gVar 0) tTrue (cCall jk (cCons (cVar 1) (cCons (cVar 0) cNil))))))
   (sSeq (sRet (cCon (.bl false)))
   sNext)
   sNext)
  (sSeq (sRet (cInTmp ninL (cCon (.bl false)) (aComp 1 [2,7] (MM.iRng1 (c1 lenD (c2 subsD (cVar 2) (cCon (.int 1))))) (gVar 0) tTrue (cCall je (cCons (cVar 1) (cCons (cVar 2) (cCons (cVar 0) cNil)))))))
  sNext))))))))))))
@[irreducible] def jv:List D->M D:=runDef 10 jN
open PySem.Spec PyProof.Rows L2
def top (i:Nat):Stmt:=PySem.Challenge.pw_pactboards_k26_whole_turns_in_another_or.main.body.getD i (.Pass ⟨0,0,0,0⟩)
set_option genInjectivity false in
structure Txt (K:PySem.W.Frag) (mg:Str->Option Value):Prop where
 f0:FnAt K mg "next_state" (top 1)
 f1:FnAt K mg "answer" (top 2)
 f2:FnAt K mg "line_at" (top 4)
 f3:FnAt K mg "replaced" (top 6)
 f4:FnAt K mg "value_at" (top 9)
 f5:FnAt K mg "_law_pot" (top 14)
 f6:FnAt K mg "_law_draw" (top 15)
 f7:FnAt K mg "_law_table" (top 16)
 f8:FnAt K mg "_law_line" (top 17)
 f9:FnAt K mg "_law_house" (top 18)
 f10:FnAt K mg "_law_at" (top 21)
 f11:FnAt K mg "_law_any_stand" (top 24)
 f12:FnAt K mg "behind" (top 5)
 f13:FnAt K mg "run" (top 7)
 f14:FnAt K mg "settled" (top 8)
 f15:FnAt K mg "free" (top 10)
 f16:FnAt K mg "alone" (top 12)
 f17:FnAt K mg "_law_unlike" (top 25)
 f18:FnAt K mg "_law_alone_right" (top 26)
 f19:FnAt K mg "law" (top 27)
 z:ZOk mg ["enumerate","int","len","list","max","min","range","set","tuple"]
 c:COk K mg []
section
variable {P:Program}{w:World}{K:PySem.W.Frag}{mg:Str->Option Value}{base:Heap}
def cm0:RuC:=rInTmp
def cm1:RuC:=rNinTmp
def cm2:RuC:=rCmp .Lt ltD (fun _=>Qeb)
def cm3:RuC:=rCmp .Gt gtD (fun _=>Qec)
def cm4:RuC:=rCmp .GtE geD (fun _=>Qed)
def cm5:RuC:=rCmp .Eq eqD (fun h=>Qft h)
def cm6:RuC:=rCmp .NotEq neD (fun h=>Qfu h)
def cm7:RuC:=rCmp .Is isD (fun _=>QfH)
def cm8:RuC:=rCmp .IsNot isntD (fun _=>QfI)
def cm9:RuC:=rCmp .NotIn ninD (fun h=>QfO h)
def RR:Rules:=⟨[rVar,rInt,rStr,rBl,rNon,rCall,rTmpSub,rSub,rTup,rLensG,bMaxT,bTupT,bLen,bInt,bTuple,bList,bMin2,mAppend,mPop,rSliceT,rKeep,rOp .Add addD (fun _=>Qfw),rOp .Sub subD (fun _=>Qd6),rOp .Mult mulD (fun _=>Qd7),rOp .FloorDiv fdivD (fun _=>Qd8),rOp .Mod modD (fun _=>Qd9),rOp .Pow powD (fun _=>Qea),cm0.e,cm1.e,cm2.e,cm3.e,cm4.e,cm5.e,cm6.e,cm7.e,cm8.e,cm9.e,rAnd,rOr,rNeg,rIfE,rDNew],[lLst,lComp,lTimes,lBack,lSlice],[cm0.t,cm1.t,cm2.t,cm3.t,cm4.t,cm5.t,cm6.t,cm7.t,cm8.t,cm9.t,tAnd,tOr,tVl],[iRange1,iRange2,iEnumr,iTmpr,iSeqr],[gVr,gTupr,gSubr],[sNmr,sRetr,sIfr,sExpr,sForr,sWhiler,sCompr,sSubr,sTupr]⟩
abbrev hh:List (Nat × Nat × Nat):=[(20,11,1),(20,41,1),(34,14,2),(159,57,12)]
def ge0:List (Str × RF):=[]
theorem gk0 (T:Txt K mg):EnvOk P w K mg base ge0:=QgP
def ge1:List (Str × RF):=("next_state",⟨3,1,["table","state","deed"],false,jj⟩)::ge0
theorem gk1 (T:Txt K mg):EnvOk P w K mg base ge1:=by
 unfold ge1 jj
 exact QgV RR (r:=[]) (H:=hh) T.f0 (by nofun) (fun _ _ _ _ _ _=>le3 fun _ _ _=>rfl) (fun z=>nomatch z) (by kernel_rfl) (gk0 T) T.z T.c
def ge2:List (Str × RF):=("answer",⟨3,1,["table","state","deed"],false,jo⟩)::ge1
theorem gk2 (T:Txt K mg):EnvOk P w K mg base ge2:=by
 unfold ge2 jo
 exact QgV RR (r:=[]) (H:=hh) T.f1 (by nofun) (fun _ _ _ _ _ _=>le3 fun _ _ _=>rfl) (fun z=>nomatch z) (by kernel_rfl) (gk1 T) T.z T.c
def ge3:List (Str × RF):=("line_at",⟨3,1,["house","stand","hand"],false,jd⟩)::ge2
theorem gk3 (T:Txt K mg):EnvOk P w K mg base ge3:=by
 unfold ge3 jd
 exact QgV RR (r:=[]) (H:=hh) T.f2 (by nofun) (fun _ _ _ _ _ _=>le3 fun _ _ _=>rfl) (fun z=>nomatch z) (by kernel_rfl) (gk2 T) T.z T.c
def ge4:List (Str × RF):=("replaced",⟨3,1,["numbers","place","number"],false,jf⟩)::ge3
theorem gk4 (T:Txt K mg):EnvOk P w K mg base ge4:=by
 unfold ge4 jf
 exact QgV RR (r:=[]) (H:=hh) T.f3 (by nofun) (fun _ _ _ _ _ _=>le3 fun _ _ _=>rfl) (fun z=>nomatch z) (by kernel_rfl) (gk3 T) T.z T.c
def ge5:List (Str × RF):=("value_at",⟨1,1,["line"],false,jh⟩)::ge4
theorem gk5 (T:Txt K mg):EnvOk P w K mg base ge5:=by
 unfold ge5 jh
 exact QgV RR (r:=[]) (H:=hh) T.f4 (by nofun) (fun _ _ _ _ _ _=>le1 fun _=>rfl) (fun z=>nomatch z) (by kernel_rfl) (gk4 T) T.z T.c
def ge6:List (Str × RF):=("_law_pot",⟨2,1,["_law_script","_law_base"],false,jq⟩)::ge5
theorem gk6 (T:Txt K mg):EnvOk P w K mg base ge6:=by
 unfold ge6 jq
 exact QgV RR (r:=["_law_seed","_law_left","_law_cell"]) (H:=hh) T.f5 (by nofun) (fun _ _ _ _ _ _=>le2 fun _ _=>rfl) (fun z=>nomatch z) (by kernel_rfl) (gk5 T) T.z T.c
def ge7:List (Str × RF):=("_law_draw",⟨2,1,["_law_pot_here","_law_many"],false,ja⟩)::ge6
theorem gk7 (T:Txt K mg):EnvOk P w K mg base ge7:=by
 unfold ge7 ja
 exact QgV RR (r:=["_law_digit","_law_one"]) (H:=hh) T.f6 (by nofun) (fun _ _ _ _ _ _=>le2 fun _ _=>rfl) (fun z=>nomatch z) (by kernel_rfl) (gk6 T) T.z T.c
def ge8:List (Str × RF):=("_law_table",⟨2,2,["_law_pot_here","_law_most"],false,jm⟩)::ge7
theorem gk8 (T:Txt K mg):EnvOk P w K mg base ge8:=by
 unfold ge8 jm
 exact QgV RR (r:=["_law_kind","_law_many","_law_kept","_law_deeds"]) (H:=hh) T.f7 (by nofun) (fun _ _ _ _ _ _=>le2 fun _ _=>rfl) (fun z=>nomatch z) (by kernel_rfl) (gk7 T) T.z T.c
def ge9:List (Str × RF):=("_law_line",⟨5,2,["_law_pot_here","_law_boards","_law_many","_law_k","_law_onward"],false,jl⟩)::ge8
theorem gk9 (T:Txt K mg):EnvOk P w K mg base ge9:=by
 unfold ge9 jl
 exact QgV RR (r:=["_law_b","_law_table_here","_law_d","_law_goals","_law_answer_told"]) (H:=hh) T.f8 (by nofun) (fun _ _ _ _ _ _=>le5 fun _ _ _ _ _=>rfl) (fun z=>nomatch z) (by kernel_rfl) (gk8 T) T.z T.c
def ge10:List (Str × RF):=("_law_house",⟨1,3,["_law_pot_here"],false,jn⟩)::ge9
theorem gk10 (T:Txt K mg):EnvOk P w K mg base ge10:=by
 unfold ge10 jn
 exact QgV RR (r:=["_law_boards","_law_count","_law_k","_law_table_here","_law_hands","_law_hands_many","_law_way","_law_many","_law_onward","_law_lines","_law_begins"]) (H:=hh) T.f9 (by nofun) (fun _ _ _ _ _ _=>le1 fun _=>rfl) (fun z=>nomatch z) (by kernel_rfl) (gk9 T) T.z T.c
def ge11:List (Str × RF):=("_law_at",⟨3,1,["_law_house_here","_law_stand","_law_hand"],false,ji⟩)::ge10
theorem gk11 (T:Txt K mg):EnvOk P w K mg base ge11:=by
 unfold ge11 ji
 exact QgV RR (r:=[]) (H:=hh) T.f10 (by nofun) (fun _ _ _ _ _ _=>le3 fun _ _ _=>rfl) (fun z=>nomatch z) (by kernel_rfl) (gk10 T) T.z T.c
def ge12:List (Str × RF):=("_law_any_stand",⟨2,2,["_law_pot_here","_law_house_here"],false,jg⟩)::ge11
theorem gk12 (T:Txt K mg):EnvOk P w K mg base ge12:=by
 unfold ge12 jg
 exact QgV RR (r:=["_law_lines"]) (H:=hh) T.f11 (by nofun) (fun _ _ _ _ _ _=>le2 fun _ _=>rfl) (fun z=>nomatch z) (by kernel_rfl) (gk11 T) T.z T.c
def ge13:List (Str × RF):=("behind",⟨3,2,["house","stand","hand"],false,jb⟩)::ge12
theorem gk13 (T:Txt K mg):EnvOk P w K mg base ge13:=by
 unfold ge13 jb
 exact QgV RR (r:=["line","board","deed","table","state","goal"]) (H:=hh) T.f12 (by nofun) (fun _ _ _ _ _ _=>le3 fun _ _ _=>rfl) (fun z=>nomatch z) (by kernel_rfl) (gk12 T) T.z T.c
def ge14:List (Str × RF):=("run",⟨3,3,["house","stand","turns"],false,jp⟩)::ge13
theorem gk14 (T:Txt K mg):EnvOk P w K mg base ge14:=by
 unfold ge14 jp
 exact QgV RR (r:=["stands","hand"]) (H:=hh) T.f13 (by nofun) (fun _ _ _ _ _ _=>le3 fun _ _ _=>rfl) (fun z=>nomatch z) (by kernel_rfl) (gk13 T) T.z T.c
def ge15:List (Str × RF):=("settled",⟨2,2,["house","stand"],false,jc⟩)::ge14
theorem gk15 (T:Txt K mg):EnvOk P w K mg base ge15:=by
 unfold ge15 jc
 exact QgV RR (r:=[]) (H:=hh) T.f14 (by nofun) (fun _ _ _ _ _ _=>le2 fun _ _=>rfl) (fun z=>nomatch z) (by kernel_rfl) (gk14 T) T.z T.c
def ge16:List (Str × RF):=("free",⟨2,3,["house","stand"],false,ju⟩)::ge15
theorem gk16 (T:Txt K mg):EnvOk P w K mg base ge16:=by
 unfold ge16 ju
 exact QgV RR (r:=[]) (H:=hh) T.f15 (by nofun) (fun _ _ _ _ _ _=>le2 fun _ _=>rfl) (fun z=>nomatch z) (by kernel_rfl) (gk15 T) T.z T.c
def ge17:List (Str × RF):=("alone",⟨3,3,["house","stand","hand"],false,jt⟩)::ge16
theorem gk17 (T:Txt K mg):EnvOk P w K mg base ge17:=by
 unfold ge17 jt
 exact QgV RR (r:=["numbers","here","line"]) (H:=hh) T.f16 (by nofun) (fun _ _ _ _ _ _=>le3 fun _ _ _=>rfl) (fun z=>nomatch z) (by kernel_rfl) (gk16 T) T.z T.c
def ge18:List (Str × RF):=("_law_unlike",⟨2,4,["_law_house_here","_law_stand"],false,jk⟩)::ge17
theorem gk18 (T:Txt K mg):EnvOk P w K mg base ge18:=by
 unfold ge18 jk
 exact QgV RR (r:=["_law_hands","_law_i","_law_boards","_law_j","_law_one","_law_other"]) (H:=hh) T.f17 (by nofun) (fun _ _ _ _ _ _=>le2 fun _ _=>rfl) (fun z=>nomatch z) (by kernel_rfl) (gk17 T) T.z T.c
def ge19:List (Str × RF):=("_law_alone_right",⟨3,4,["_law_house_here","_law_stand","_law_hand"],false,je⟩)::ge18
theorem gk19 (T:Txt K mg):EnvOk P w K mg base ge19:=by
 unfold ge19 je
 exact QgV RR (r:=["_law_told_so","_law_row","_law_values"]) (H:=hh) T.f18 (by nofun) (fun _ _ _ _ _ _=>le3 fun _ _ _=>rfl) (fun z=>nomatch z) (by kernel_rfl) (gk18 T) T.z T.c
theorem jO {a:Addr}{fd:FuncData} (F:Fun K "law" "law" (top 27) a fd) (T:Txt K mg):FnOk P w K mg base CX0 5 a fd ["_law_script"] (spOf K 1 jv):=by
 unfold jv
 exact QgU RR (r:=["_law_pot_here","_law_house_here","_law_stand","_law_turns","_law_row","_law_at_here","_law_here","_law_more","_law_k"]) (H:=hh) F (by nofun) (by kernel_rfl) (gk19 T) T.z T.c rfl rfl
end
end My
namespace My
open MM
open PySem (Str)
theorem Qi6 {s:Sto}{n:Nat}{o:MO} (h:s[n]?=some o):n < s.length:=(List.getElem?_eq_some_iff.mp h).1
structure PotAt (s:Sto) (p q:Nat):Prop where
 ne:p≠q
 ex:∃ (x c:Int) (cs:List D),s[p]?=some (.lst [.int x,.int c,.ref q])/\s[q]?=some (.lst cs)/\0<=x/\x < 2147483648/\∀ d∈cs,∃ i:Int,d=.int i
structure Kept (p q:Nat) (s s':Sto):Prop where
 le:s.length<=s'.length
 at_:∀ n,n < s.length->n≠p->n≠q->s'[n]?=s[n]?
section
variable {p q:Nat}{s s1 s2:Sto}{Q:D->Sto->Prop}
theorem Kept.refl:Kept p q s s:=⟨Nat.le_refl _,fun _ _ _ _=>rfl⟩
theorem Kept.trans (h:Kept p q s s1) (k:Kept p q s1 s2):Kept p q s s2:=⟨Nat.le_trans h.le k.le,fun n hn hp hq=>(k.at_ n (Nat.lt_of_lt_of_le hn h.le) hp hq).trans (h.at_ n hn hp hq)⟩
theorem Kept.same {n:Nat}{o:MO} (h:Kept p q s s1) (hp:n≠p) (hq:n≠q) (g:s[n]?=some o):s1[n]?=some o:=(h.at_ n (Qi6 g) hp hq).trans g
theorem Kept.snoc {o:MO} (h:Kept p q s s1):Kept p q s (s1++[o]):=h.trans ⟨by simp,fun n hn _ _=>List.getElem?_append_left hn⟩
theorem Kept.put {n:Nat}{o:MO} (h:Kept p q s s1) (hn:s.length<=n):Kept p q s (s1.set n o):=
 ⟨by simp;exact h.le,fun m hm hp hq=>by rw[List.getElem?_set_ne (by ac_nf)];exact h.at_ m hm hp hq⟩
theorem PotAt.lt (h:PotAt s p q):p < s.length/\q < s.length:=by obtain⟨x,c,cs,a,b,_⟩:=h.ex;exact⟨Qi6 a,Qi6 b⟩
theorem PotAt.snoc {o:MO} (h:PotAt s p q):PotAt (s++[o]) p q:=by
 obtain⟨x,c,cs,a,b,r⟩:=h.ex
 exact⟨h.ne,x,c,cs,by rw[List.getElem?_append_left (Qi6 a)];exact a,by rw[List.getElem?_append_left (Qi6 b)];exact b,r⟩
theorem PotAt.put {n:Nat}{o:MO} (h:PotAt s p q) (hp:n≠p) (hq:n≠q):PotAt (s.set n o) p q:=by
 obtain⟨x,c,cs,a,b,r⟩:=h.ex
 exact⟨h.ne,x,c,cs,by rw[List.getElem?_set_ne hp];exact a,by rw[List.getElem?_set_ne hq];exact b,r⟩
def PotIs (s:Sto) (p q:Nat) (x c:Int) (cs:List D):Prop:=s[p]?=some (.lst [.int x,.int c,.ref q])/\s[q]?=some (.lst cs)
theorem Qi7 {k:Int} (hp:PotAt s p q) (hk:0 < k) (hk2:k < 1073741824) (h:∀ r s',0<=r->r < k->PotAt s' p q->Kept p q s s'->Q (.int r) s'):wp (ja [.ref p,.int k]) Q s:=by
 obtain⟨x,c,cs,e1,e2,hx0,hx1,hcs⟩:=hp.ex
 have hne:=hp.ne
 have i3:MM.ixN [D.int x,D.int c,D.ref q].length 1=some 1:=rfl
 (simp_arith [ja];simp_arith [jD])
 refine QhH (fun l s'=>l=[some (.ref p),some (.int k),none,none]/\∃ c cs,PotIs s' p q x c cs/\(∀ d∈cs,∃ i:Int,d=.int i)/\Kept p q s s')
  (fun l s'=>match s'[q]? with
   | some (.lst cs)=>cs.length
   | _=>0) ⟨rfl,c,cs,⟨e1,e2⟩,hcs,Kept.refl⟩ (fun l s' ⟨el,c,cs,⟨e1,e2⟩,hcs,hk'⟩=>?_)
 subst el
 have g1:∀ Q,wp (getL p) Q s'=Q [.int x,.int c,.ref q] s':=fun Q=>QgZ e1
 have g2:∀ Q,wp (getL q) Q s'=Q cs s':=fun Q=>QgZ e2
 simp_arith [↓g1,↓g2]
 by_cases hc:c=0/\0 < cs.length
 ·obtain⟨hc0,hcl⟩:=hc
  subst hc0
  have b1:decide ((0:Int) < (cs.length:Nat))=true:=decide_eq_true (by ac_nf)
  rw[if_pos rfl,if_pos (by ac_nf)]
  obtain⟨d,hd⟩:∃ d,cs.getLast?=some d:=⟨_,List.getLast?_eq_some_getLast (by intro e;rw[e]at hcl;simp at hcl)⟩
  obtain⟨i,ei⟩:=hcs d (List.mem_of_getLast? hd)
  subst ei
  have q2:∀ es Q,wp (putL q es) Q s'=Q () (s'.set q (.lst es)):=fun es Q=>Qg0 e2
  have e3:(s'.set q (.lst cs.dropLast))[p]?=some (.lst [.int x,.int 0,.ref q]):=by rw[List.getElem?_set_ne (Ne.symm hne)];exact e1
  have e4:(s'.set q (.lst cs.dropLast))[q]?=some (.lst cs.dropLast):=List.getElem?_set_self (Qi6 e2)
  have g3:∀ Q,wp (getL p) Q (s'.set q (.lst cs.dropLast))=Q [.int x,.int 0,.ref q] (s'.set q (.lst cs.dropLast)):=fun Q=>QgZ e3
  have q3:∀ es Q,wp (putL p es) Q (s'.set q (.lst cs.dropLast))=Q () ((s'.set q (.lst cs.dropLast)).set p (.lst es)):=fun es Q=>Qg0 e3
  have i3:MM.ixN 3 1=some 1:=rfl
  simp_arith [↓g1,↓g2,hd,↓q2,↓x_setR,↓g3,i3,↓q3]
  have e5:((s'.set q (.lst cs.dropLast)).set p (.lst [.int x,.int i,.ref q]))[p]?=some (.lst [.int x,.int i,.ref q]):=List.getElem?_set_self (Qi6 e3)
  have e6:((s'.set q (.lst cs.dropLast)).set p (.lst [.int x,.int i,.ref q]))[q]?=some (.lst cs.dropLast):=by rw[List.getElem?_set_ne hne];exact e4
  refine⟨⟨i,cs.dropLast,⟨e5,e6⟩,fun d hd=>hcs d (List.dropLast_subset _ hd),⟨by simp;exact hk'.le,fun n hn hp' hq'=>?_⟩⟩,?_⟩
  ·rw[List.getElem?_set_ne (Ne.symm hp'),List.getElem?_set_ne (Ne.symm hq')];exact hk'.at_ n hn hp' hq'
  ·rw[e6,e2]
   simp only[List.length_dropLast];ac_nf
 ·have fin : ∀ (A B : Prop), (if c = 0 then (if 0 < (cs.length : Int) then A else B) else B) = B := fun A B => by
    by_cases h1:c=0
    ·rw[if_pos h1,if_neg (by ac_nf)]
    ·rw[if_neg h1]
  rw[fin]
  have q3:∀ es Q,wp (putL p es) Q s'=Q () (s'.set p (.lst es)):=fun es Q=>Qg0 e1
  have i3:MM.ixN 3 1=some 1:=rfl
  have i4:MM.ixN 3 0=some 0:=rfl
  have kp:∀ o,Kept p q s (s'.set p o):=fun o=>⟨by simp;exact hk'.le,fun n hn hp' hq'=>by rw[List.getElem?_set_ne (Ne.symm hp')];exact hk'.at_ n hn hp' hq'⟩
  have pt:∀ (x' c':Int),0<=x'->x' < 2147483648->PotAt (s'.set p (.lst [.int x',.int c',.ref q])) p q:=fun x' c' h0 h1=>⟨hne,x',c',cs,List.getElem?_set_self (Qi6 e1),by rw[List.getElem?_set_ne hne];exact e2,h0,h1,hcs⟩
  have g5:∀ ds Q,wp (getL p) Q (s'.set p (.lst ds))=Q ds (s'.set p (.lst ds)):=fun ds Q=>QgZ (List.getElem?_set_self (Qi6 e1))
  have m2:∀ a b:Int,0<=b->b < 10000000->mulOk a b:=fun a b h1 h2=>.inr ⟨by ac_nf,by ac_nf⟩
  by_cases h0:0 < c
  ·rw[if_pos h0]
   simp_arith [i3,↓q3]
   exact⟨hk,⟨hk,hk2⟩,h _ _ (Int.emod_nonneg _ (by ac_nf)) (Int.emod_lt_of_pos _ hk) (pt _ _ hx0 hx1) (kp _)⟩
  ·rw[if_neg h0]
   have o1:0<=(x * 48271 + 7919) % 2147483647:=Int.emod_nonneg _ (by ac_nf)
   have o2:(x * 48271 + 7919) % 2147483647 < 2147483647:=Int.emod_lt_of_pos _ (by ac_nf)
   generalize (x * 48271 + 7919) % 2147483647=one at o1 o2 ⊢
   have o3:0<=(one * 40692 + 12345) % 2147483399 + 1:=by have:=Int.emod_nonneg (one * 40692 + 12345) (show (2147483399:Int)≠0 by ac_nf);ac_nf
   have o4:(one * 40692 + 12345) % 2147483399 + 1 < 2147483648:=by have:=Int.emod_lt_of_pos (one * 40692 + 12345) (show (0:Int) < 2147483399 by ac_nf);ac_nf
   generalize (one * 40692 + 12345) % 2147483399 + 1=x' at o3 o4 ⊢
   have d64:((0:Int) < 64/\(64:Int) < 1073741824):=by ac_nf
   simp_arith [i4,↓q3,↓g5,d64]
   exact⟨m2 _ _ (by ac_nf) (by ac_nf),m2 _ _ (by ac_nf) (by ac_nf),.inl ⟨by ac_nf,by ac_nf⟩,m2 _ _ (by ac_nf) (by ac_nf),hk,h _ _ (Int.emod_nonneg _ (by ac_nf)) (Int.emod_lt_of_pos _ hk) (pt _ _ o3 o4) (kp _)⟩
theorem Qi8 {ns:List Int} (h:∀ p q s',PotAt s' p q->s.length<=p->s.length<=q->Q (.ref p) s'):wp (jq [.lit (ns.map D.int),.int 0]) Q s:=by
 have l0:0<=lim:=Nat.zero_le _
 have l3:3<=lim:=Qg9 (by ac_nf)
 have m0:mulOk 7919 0:=.inl ⟨by ac_nf,by ac_nf⟩
 have m2:∀ a b:Int,0<=b->b < 10000000->mulOk a b:=fun a b h1 h2=>.inr ⟨by ac_nf,by ac_nf⟩
 have pw:∀ Q s,wp (powD (.int 10) (.int 18)) Q s=Q (.int 1000000000000000000) s:=fun Q s=>by unfold powD;rw[wp_chk,wp_ret];exact propext ⟨fun h=>h.2,fun h=>⟨by decide,h⟩⟩
 generalize (1000000000000000000:Int)=big at pw
 (simp_arith [jq];simp_arith [jG,l0,m0])
 have hcut:∀ d∈cutD (ns.map D.int) (some 0) (some 63),∃ i:Int,d=.int i:=fun d hd=>by
  unfold cutD at hd
  obtain⟨i,_,e⟩:=List.mem_map.mp (List.mem_of_mem_drop (List.mem_of_mem_take hd))
  exact⟨i,e.symm⟩
 have hlen:(cutD (ns.map D.int) (some 0) (some 63)).length<=63:=by
  unfold cutD sIx;simp;ac_nf
 generalize cutD (ns.map D.int) (some 0) (some 63)=cells at hcut hlen
 refine Qhb (fun i l s'=>∃ x y4 cs,l=[some (.lit (ns.map D.int)),some (.int 0),some (.int x),some (.ref s.length),y4]/\(i=0\/(0<=x/\x < 2147483648))/\(i=0->x=104729)/\s'[s.length]?=some (.lst cs)/\s'.length=s.length + 1/\cs.length<=i/\∀ d∈cs,∃ i:Int,d=.int i) (fun _ _ _ _=>trivial) ⟨_,_,[],rfl,.inl rfl,fun _=>rfl,by simp,by simp,Nat.le_refl _,by simp⟩ (fun i d l s' hd hW=>?_) (fun l s' hW=>?_)
 ·obtain⟨x,y4,cs,el,hx,hx',g,hsl,hl,hcs⟩:=hW
  subst el
  obtain⟨v,ev⟩:=hcut d (List.mem_of_getElem? hd)
  subst ev
  have hi:=(List.getElem?_eq_some_iff.mp hd).1
  have q2:∀ Q,wp (getL s.length) Q s'=Q cs s':=fun Q=>QgZ g
  have q3:∀ es Q,wp (putL s.length es) Q s'=Q () (s'.set s.length (.lst es)):=fun es Q=>Qg0 g
  have c1:(0:Int) < 2147483629:=by ac_nf
  have c2:(0:Int) < 2147483647:=by ac_nf
  have o1:0<=(x * 48271 + v % 2147483629 + 1) % 2147483647:=Int.emod_nonneg _ (by ac_nf)
  have o2:(x * 48271 + v % 2147483629 + 1) % 2147483647 < 2147483647:=Int.emod_lt_of_pos _ (by ac_nf)
  have m3:mulOk x 48271:=m2 _ _ (by ac_nf) (by ac_nf)
  have l4:cs.length < lim:=Qha (by ac_nf)
  simp_arith [↓pw,↓q2,↓q3,m3,c1,c2,l4]
  generalize (x * 48271 + v % 2147483629 + 1) % 2147483647=x' at o1 o2 ⊢
  by_cases hb:big<=v
  ·rw[if_pos hb]
   refine⟨_,_,_,rfl,.inr ⟨o1,by ac_nf⟩,fun h=>by ac_nf,List.getElem?_set_self (Qi6 g),by simp[hsl],by simp;ac_nf,fun d hd=>?_⟩
   rcases List.mem_append.mp hd with hd | hd
   ·exact hcs d hd
   ·exact⟨v,List.mem_singleton.mp hd⟩
  ·rw[if_neg hb]
   exact⟨_,_,_,rfl,.inr ⟨o1,by ac_nf⟩,fun h=>by ac_nf,g,hsl,by ac_nf,hcs⟩
 ·obtain⟨x,y4,cs,el,hx,hx',g,hsl,hl,hcs⟩:=hW
  subst el
  have q2:∀ Q,wp (getL s.length) Q s'=Q cs s':=fun Q=>QgZ g
  simp_arith [↓q2,l3]
  have hx2:0<=x/\x < 2147483648:=by
   rcases hx with h | h
   ·have:=hx' h;ac_nf
   ·exact h
  refine h _ s'.length _ ⟨by simp,x,0,cs.reverse,by simp,by simp,hx2.1,hx2.2,fun d hd=>hcs d (List.mem_reverse.mp hd)⟩ (by simp;ac_nf) (by ac_nf)
end
open PySem (Str)
def tabD (S dn:Nat) (nx un:Nat->Nat->Nat):D:=.tup (upto S fun s=>.tup (upto dn fun d=>.tup [.int (nx s d:Nat),.int (un s d:Nat)]))
def TabOk (S dn:Nat) (nx un:Nat->Nat->Nat):Prop:=1<=S/\S<=4/\1<=dn/\dn<=4/\∀ s d,s < S->d < dn->nx s d < S/\un s d < 4
section
variable {p q:Nat}{s s1 s2:Sto}{Q:D->Sto->Prop}
theorem Qi9 {m:Nat} (h:m<=100):(-(2 ^ 62)<=(m:Int)/\(m:Int) < 2 ^ 62):=by ac_nf
theorem Qja {m n : Nat} {A : List D -> Sto -> Prop} (hp : PotAt s p q) (h1 : 1 <= m) (h2 : m <= 4) (h : ∀ (f g : Nat -> Nat) s', (∀ i, i < n -> f i < m /\ g i < 4) -> PotAt s' p q -> Kept p q s s' -> A (upto n fun i => .tup [.int (f i : Nat), .int (g i : Nat)]) s') :
  wp (collect (gVar 0) tTrue (cTup (cCons (cCall ja (cCons (cVar 1) (cCons (cVar 2) cNil))) (cCons (cCall ja (cCons (cVar 1) (cCons (cCon (.int 4)) cNil))) cNil))) anySt (upto n fun i=>.int i) [none,some (.ref p),some (.int m)]) A s:=by
 refine Qhz (fun i out s'=>∃ f g:Nat->Nat,out=(upto i fun i=>.tup [.int (f i:Nat),.int (g i:Nat)])/\(∀ j,j < i->f j < m/\g j < 4)/\PotAt s' p q/\Kept p q s s') (fun _ _ _ _=>trivial) ⟨fun _=>0,fun _=>0,rfl,fun j hj=>absurd hj (Nat.not_lt_zero _),hp,Kept.refl⟩ (fun i out s1 hi hW=>?_) (fun out s1 pq106=>by obtain⟨f,g,eo,hfg,hp1,k1⟩:=pq106;rw[eo];exact h f g s1 hfg hp1 k1)
 obtain⟨f,g,eo,hfg,hp1,k1⟩:=hW
 have l2:2<=lim:=Qg9 (by ac_nf)
 simp_arith [l2]
 refine Qi7 hp1 (by ac_nf) (by ac_nf) fun a s2 a0 a1 hp2 k2=>?_
 try simp_arith []
 refine Qi7 hp2 (by ac_nf) (by ac_nf) fun b s3 b0 b1 hp3 k3=>?_
 try simp_arith [l2]
 refine⟨fun j=>if j=i then a.toNat else f j,fun j=>if j=i then b.toNat else g j,?_,fun j hj=>?_,hp3,(k1.trans k2).trans k3⟩
 ·rw[Qhp,eo]
  congr 1
  ·exact Qhr fun j hj=>by dsimp only;rw[if_neg (by ac_nf),if_neg (by ac_nf)]
  ·dsimp only;rw[if_pos rfl,if_pos rfl,Int.toNat_of_nonneg a0,Int.toNat_of_nonneg b0]
 ·dsimp only
  by_cases e:j=i
  ·rw[if_pos e,if_pos e];ac_nf
  ·rw[if_neg e,if_neg e];exact hfg j (by ac_nf)
theorem Qjb {m n : Nat} {A : List D -> Sto -> Prop} (hp : PotAt s p q) (h1 : 1 <= m) (h2 : m <= 4) (h3 : 1 <= n) (h4 : n <= 4) (h : ∀ (nx un : Nat -> Nat -> Nat) s', TabOk m n nx un -> PotAt s' p q -> Kept p q s s' -> A (upto m fun s => .tup (upto n fun d => .tup [.int (nx s d : Nat), .int (un s d : Nat)])) s') :
  wp (collect (gVar 0) tTrue (cTmp tupL (aComp 1 [1,2] (MM.iRng1 (cVar 3)) (gVar 0) tTrue (cTup (cCons (cCall ja (cCons (cVar 1) (cCons (cVar 2) cNil))) (cCons (cCall ja (cCons (cVar 1) (cCons (cCon (.int 4)) cNil))) cNil))))) anySt (upto m fun i=>.int i) [none,some (.ref p),some (.int m),some (.int n)]) A s:=by
 refine Qhz (fun i out s'=>∃ nx un:Nat->Nat->Nat,out=(upto i fun s=>.tup (upto n fun d=>.tup [.int (nx s d:Nat),.int (un s d:Nat)]))/\(∀ s d,s < i->d < n->nx s d < m/\un s d < 4)/\PotAt s' p q/\Kept p q s s') (fun _ _ _ _=>trivial) ⟨fun _ _=>0,fun _ _=>0,rfl,fun j d hj=>absurd hj (Nat.not_lt_zero _),hp,Kept.refl⟩ (fun i out s1 hi hW=>?_) (fun out s1 pq107=>by obtain⟨nx,un,eo,hfg,hp1,k1⟩:=pq107;rw[eo];exact h nx un s1 ⟨h1,h2,h3,h4,hfg⟩ hp1 k1)
 obtain⟨nx,un,eo,hfg,hp1,k1⟩:=hW
 have hb:=Qi9 (show n<=100 by ac_nf)
 have hl:n<=lim:=Qg9 (by ac_nf)
 simp_arith [hb,capt,Int.toNat_natCast,Qhs,Qho,hl]
 refine Qja hp1 h1 h2 fun f g s2 hf hp2 k2=>?_
 try simp_arith []
 refine⟨fun j d=>if j=i then f d else nx j d,fun j d=>if j=i then g d else un j d,?_,fun j d hj hd=>?_,hp2,k1.trans k2⟩
 ·rw[Qhp,eo]
  congr 1
  ·exact Qhr fun j hj => by
     congr 1
     exact Qhr fun d hd=>by dsimp only;rw[if_neg (by ac_nf),if_neg (by ac_nf)]
  ·congr 2
   exact Qhr fun d hd=>by dsimp only;rw[if_pos rfl,if_pos rfl]
 ·dsimp only
  by_cases e:j=i
  ·rw[if_pos e,if_pos e];exact hf d hd
  ·rw[if_neg e,if_neg e];exact hfg j d (by ac_nf) hd
theorem Qjc {k:Nat}{A:List D->Sto->Prop} (hk3:k<=3):wp (collect (gVar 0) tTrue (c2 addD (cTup (cCons (cTup (cCons (cVar 0) (cCons (cVar 0) cNil))) cNil)) (cTmp tupL (aComp 1 [] (MM.iRng1 (cVar 1)) (gVar 0) tTrue (cTup (cCons (cVar 0) (cCons (cCon (.int 0)) cNil)))))) anySt (upto k fun i=>.int i) [none,some (.int k)]) A s=A (upto k fun v=>.tup (.tup [.int (v:Nat),.int (v:Nat)]::upto k fun v=>.tup [.int (v:Nat),.int 0])) s:=QhA Qhx fun v hv Q=>by
 have l1:1<=lim:=Qg9 (by ac_nf)
 have l2:2<=lim:=Qg9 (by ac_nf)
 have hb:=Qi9 (show k<=100 by ac_nf)
 have hl:k<=lim:=Qg9 (by ac_nf)
 have hl2:1 + k<=lim:=Qg9 (by ac_nf)
 have w0:∀ Q s,wp (collect (gVar 0) tTrue (cTup (cCons (cVar 0) (cCons (cCon (.int 0)) cNil))) anySt (upto k fun i=>.int i) [none]) Q s=Q (upto k fun v=>.tup [.int (v:Nat),.int 0]) s:=fun Q s=>QhA Qhx fun v hv Q=>by
  simp_arith [l2]
 simp_arith [l1,l2,hb,capt,Int.toNat_natCast,Qhs,Qho,hl,↓w0,hl2]
theorem Qjd {k : Nat} : D.tup (upto k fun v => .tup (.tup [.int (v : Nat), .int (v : Nat)] :: upto k fun v => .tup [.int (v : Nat), .int 0])) = tabD k (k + 1) (fun s d => match d with
    | 0=>s
    | d + 1=>d) (fun s d=>match d with
    | 0=>s
    | _ + 1=>0):=by
 unfold tabD
 congr 1
 exact Qhr fun v hv=>by
  rw[QhN]
  congr 1
  exact Qhr fun d hd=>by cases d<;>rfl
theorem Qje {m:Nat}{A:List D->Sto->Prop} (hm:m<=4):wp (collect (gVar 0) tTrue (cTmp tupL (aComp 1 [0] (MM.iRng1 (cVar 1)) (gVar 0) tTrue (cTup (cCons (cVar 0) (cCons (cVar 1) cNil))))) anySt (upto m fun i=>.int i) [none,some (.int m)]) A s=A (upto m fun s=>.tup (upto m fun v=>.tup [.int (v:Nat),.int (s:Nat)])) s:=QhA Qhx fun v hv Q=>by
 have l2:2<=lim:=Qg9 (by ac_nf)
 have hb:=Qi9 (show m<=100 by ac_nf)
 have hl:m<=lim:=Qg9 (by ac_nf)
 have w0:∀ Q s,wp (collect (gVar 0) tTrue (cTup (cCons (cVar 0) (cCons (cVar 1) cNil))) anySt (upto m fun i=>.int i) [none,some (.int v)]) Q s=Q (upto m fun u=>.tup [.int (u:Nat),.int (v:Nat)]) s:=fun Q s=>QhA Qhx fun u hu Q=>by
  simp_arith [l2]
 simp_arith [hb,capt,Int.toNat_natCast,Qhs,Qho,hl,↓w0]
theorem Qjf {m:Nat}{A:List D->Sto->Prop} (hm1:1<=m):wp (collect (gVar 0) tTrue (cTup (cCons (cTup (cCons (c2 modD (c2 addD (cVar 0) (cCon (.int 1))) (cVar 1)) (cCons (cVar 0) cNil))) cNil)) anySt (upto m fun i=>.int i) [none,some (.int m)]) A s=A (upto m fun s=>.tup [.tup [.int (((s + 1) % m:Nat):Int),.int (s:Nat)]]) s:=QhA Qhx fun v hv Q=>by
 have l1:1<=lim:=Qg9 (by ac_nf)
 have l2:2<=lim:=Qg9 (by ac_nf)
 have hm0:(0:Int) < (m:Nat):=by ac_nf
 have ev:((v:Int) + 1) % (m:Int)=(((v + 1) % m:Nat):Int):=by simp
 simp_arith [l1,l2,hm0,ev]
theorem Qjg {m:Nat}{A:List D->Sto->Prop} (hm:m<=4):wp (collect (gVar 0) tTrue (cTmp tupL (aComp 1 [0] (MM.iRng2 (cCon (.int 1)) (cVar 1)) (gVar 0) tTrue (cTup (cCons (cVar 1) (cCons (cVar 1) cNil))))) anySt (upto (m - 1) fun i=>.int (1 + (i:Int))) [none,some (.int m)]) A s=A (upto (m - 1) fun s=>.tup (upto (m - 1) fun v=>.tup [.int (1 + (s:Int)),.int (1 + (s:Int))])) s:=QhA Qhx fun v hv Q=>by
 have l2:2<=lim:=Qg9 (by ac_nf)
 have hb:=Qi9 (show m<=100 by ac_nf)
 have e1:((m:Int) - 1).toNat=m - 1:=by ac_nf
 have hl1:m - 1<=lim:=Qg9 (by ac_nf)
 have b1:(-(2 ^ 62)<=(1:Int)/\(1:Int) < 2 ^ 62):=by ac_nf
 have w0:∀ Q s,wp (collect (gVar 0) tTrue (cTup (cCons (cVar 1) (cCons (cVar 1) cNil))) anySt (upto (m - 1) fun i=>.int (1 + (i:Int))) [none,some (.int (1 + (v:Int)))]) Q s=Q (upto (m - 1) fun u=>.tup [.int (1 + (v:Int)),.int (1 + (v:Int))]) s:=fun Q s=>QhA Qhx fun u hu Q=>by
  simp_arith [l2]
 simp_arith [b1,hb,capt,e1,QhO,Qho,hl1,↓w0]
theorem Qjh {m:Nat}{A:List D->Sto->Prop}:wp (collect (gVar 0) tTrue (cTup (cCons (cVar 0) (cCons (cVar 0) cNil))) anySt (upto (m - 1) fun i=>.int (1 + (i:Int))) [none]) A s=A (upto (m - 1) fun v=>.tup [.int (1 + (v:Int)),.int (1 + (v:Int))]) s:=QhA Qhx fun u hu Q=>by
 have l2:2<=lim:=Qg9 (by ac_nf)
 simp_arith [l2]
theorem Qji {n : Nat} : D.tup (.tup (upto n fun v => .tup [.int (1 + (v : Int)), .int (1 + (v : Int))]) :: upto n fun s => .tup (upto n fun v => .tup [.int (1 + (s : Int)), .int (1 + (s : Int))])) = tabD (n + 1) n (fun s d => match s with
     | 0=>d + 1
     | s + 1=>s + 1) (fun s d=>match s with
     | 0=>d + 1
     | s + 1=>s + 1):=by
 unfold tabD
 rw[QhN]
 congr 1
 exact Qhr fun s hs=>by
  cases s with
  | zero=>
   dsimp only
   congr 1
   exact Qhr fun d hd=>by rw[show (1 + (d:Int))=((d + 1:Nat):Int) by ac_nf]
  | succ s=>
   dsimp only
   congr 1
   exact Qhr fun d hd=>by rw[show (1 + (s:Int))=((s + 1:Nat):Int) by ac_nf]
theorem Qjj {mo:Int} (mo1:1<=mo) (mo4:mo<=4) (hp:PotAt s p q) (h:∀ S dn nx un s',TabOk S dn nx un->(S:Int)<=mo->PotAt s' p q->Kept p q s s'->Q (tabD S dn nx un) s'):wp (jm [.ref p,.int mo]) Q s:=by
 (simp_arith [jm];simp_arith [jz])
 refine Qi7 hp (by ac_nf) (by ac_nf) fun kind s1 kd0 kd1 hp1 k1=>?_
 try simp_arith []
 refine Qi7 hp1 (by ac_nf) (by ac_nf) fun r s2 r0 r1 hp2 k2=>?_
 have k12:=k1.trans k2
 have hr:r=((r.toNat:Nat):Int):=(Int.toNat_of_nonneg r0).symm
 generalize r.toNat=rn at hr
 subst hr
 have hm:(1 + (rn:Int))=((1 + rn:Nat):Int):=by ac_nf
 have hm1:1<=1 + rn:=by ac_nf
 have hm4:1 + rn<=4:=by ac_nf
 have hmo:((1 + rn:Nat):Int)<=mo:=by ac_nf
 simp_arith [hm]
 try rw[hm]
 generalize 1 + rn=m at hm1 hm4 hmo
 have l1:1<=lim:=Qg9 (by ac_nf)
 by_cases c0:kind=0
 ·rw[if_pos c0]
  have em:min (m:Int) 3=((min m 3:Nat):Int):=by ac_nf
  have hk1:1<=min m 3:=by ac_nf
  have hk3:min m 3<=3:=by ac_nf
  have hkm:min m 3<=m:=by ac_nf
  rw[em]
  generalize min m 3=k at hk1 hk3 hkm
  have hb:=Qi9 (show k<=100 by ac_nf)
  have hl:k<=lim:=Qg9 (by ac_nf)
  have w1:∀ A s,wp (collect (gVar 0) tTrue (c2 addD (cTup (cCons (cTup (cCons (cVar 0) (cCons (cVar 0) cNil))) cNil)) (cTmp tupL (aComp 1 [] (MM.iRng1 (cVar 1)) (gVar 0) tTrue (cTup (cCons (cVar 0) (cCons (cCon (.int 0)) cNil)))))) anySt (upto k fun i=>.int i) [none,some (.int k)]) A s=A (upto k fun v=>.tup (.tup [.int (v:Nat),.int (v:Nat)]::upto k fun v=>.tup [.int (v:Nat),.int 0])) s:=fun A s=>Qjc hk3
  simp_arith [hb,capt,Int.toNat_natCast,Qhs,Qho,hl,↓w1]
  rw[Qjd]
  refine h _ _ _ _ _ ⟨hk1,by ac_nf,by ac_nf,by ac_nf,fun s d hs hd=>?_⟩ (by ac_nf) hp2 k12
  cases d with
  | zero=>exact⟨hs,by dsimp only;ac_nf⟩
  | succ d=>exact⟨by dsimp only;ac_nf,by dsimp only;ac_nf⟩
 rw[if_neg c0]
 have hb:=Qi9 (show m<=100 by ac_nf)
 have hl:m<=lim:=Qg9 (by ac_nf)
 by_cases c1:kind=1
 ·rw[if_pos c1]
  have w1:∀ A s,wp (collect (gVar 0) tTrue (cTmp tupL (aComp 1 [0] (MM.iRng1 (cVar 1)) (gVar 0) tTrue (cTup (cCons (cVar 0) (cCons (cVar 1) cNil))))) anySt (upto m fun i=>.int i) [none,some (.int m)]) A s=A (upto m fun s=>.tup (upto m fun v=>.tup [.int (v:Nat),.int (s:Nat)])) s:=fun A s=>Qje hm4
  simp_arith [hb,capt,Int.toNat_natCast,Qhs,Qho,hl,↓w1]
  exact h m m (fun s d=>d) (fun s d=>s) _ ⟨hm1,hm4,hm1,hm4,fun s d hs hd=>⟨hd,by dsimp only;ac_nf⟩⟩ (by ac_nf) hp2 k12
 rw[if_neg c1]
 by_cases c2':kind=2
 ·rw[if_pos c2']
  have w1:∀ A s,wp (collect (gVar 0) tTrue (cTup (cCons (cTup (cCons (c2 modD (c2 addD (cVar 0) (cCon (.int 1))) (cVar 1)) (cCons (cVar 0) cNil))) cNil)) anySt (upto m fun i=>.int i) [none,some (.int m)]) A s=A (upto m fun s=>.tup [.tup [.int (((s + 1) % m:Nat):Int),.int (s:Nat)]]) s:=fun A s=>Qjf hm1
  simp_arith [hb,capt,Int.toNat_natCast,Qhs,Qho,hl,↓w1]
  exact h m 1 (fun s d=>(s + 1) % m) (fun s d=>s) _ ⟨hm1,hm4,by ac_nf,by ac_nf,fun s d hs hd=>⟨Nat.mod_lt _ (by ac_nf),by dsimp only;ac_nf⟩⟩ (by ac_nf) hp2 k12
 rw[if_neg c2']
 by_cases c3:kind=3
 ·rw[if_pos c3]
  by_cases c4:(1:Int) < (m:Nat)
  ·rw[if_pos c4]
   have e1:((m:Int) - 1).toNat=m - 1:=by ac_nf
   have hl1:m - 1<=lim:=Qg9 (by ac_nf)
   have hlm:1 + (m - 1)<=lim:=Qg9 (by ac_nf)
   have b1:(-(2 ^ 62)<=(1:Int)/\(1:Int) < 2 ^ 62):=by ac_nf
   have w1:∀ A s,wp (collect (gVar 0) tTrue (cTmp tupL (aComp 1 [0] (MM.iRng2 (cCon (.int 1)) (cVar 1)) (gVar 0) tTrue (cTup (cCons (cVar 1) (cCons (cVar 1) cNil))))) anySt (upto (m - 1) fun i=>.int (1 + (i:Int))) [none,some (.int m)]) A s=A (upto (m - 1) fun s=>.tup (upto (m - 1) fun v=>.tup [.int (1 + (s:Int)),.int (1 + (s:Int))])) s:=fun A s=>Qjg hm4
   have w2:∀ A s,wp (collect (gVar 0) tTrue (cTup (cCons (cVar 0) (cCons (cVar 0) cNil))) anySt (upto (m - 1) fun i=>.int (1 + (i:Int))) [none]) A s=A (upto (m - 1) fun v=>.tup [.int (1 + (v:Int)),.int (1 + (v:Int))]) s:=fun A s=>Qjh
   have g:∀ (ds:List D) Q,wp (getL s2.length) Q (s2++[MO.lst ds])=Q ds (s2++[MO.lst ds]):=fun ds Q=>QgZ (by simp)
   simp_arith [b1,hb,capt,e1,QhO,Qho,hl1,↓w1,↓w2,↓g,l1,hlm]
   rw[Qji]
   refine h _ _ _ _ _ ⟨by ac_nf,by ac_nf,by ac_nf,by ac_nf,fun s d hs hd=>?_⟩ (by ac_nf) hp2.snoc k12.snoc
   cases s with
   | zero=>dsimp only;ac_nf
   | succ s=>dsimp only;ac_nf
  ·rw[if_neg c4]
   refine Qi7 hp2 (by ac_nf) (by ac_nf) fun r s3 r0 r1 hp3 k3=>?_
   have hr:r=((r.toNat:Nat):Int):=(Int.toNat_of_nonneg r0).symm
   generalize r.toNat=rn at hr
   subst hr
   have hm:(1 + (rn:Int))=((1 + rn:Nat):Int):=by ac_nf
   simp_arith [hm,hb,capt,Int.toNat_natCast,Qhs,Qho,hl]
   try rw[hm]
   refine Qjb hp3 hm1 hm4 (by ac_nf) (by ac_nf) fun nx un s4 ok hp4 k4=>?_
   simp_arith []
   exact h _ _ _ _ _ ok (by ac_nf) hp4 ((k12.trans k3).trans k4)
 ·rw[if_neg c3]
  refine Qi7 hp2 (by ac_nf) (by ac_nf) fun r s3 r0 r1 hp3 k3=>?_
  have hr:r=((r.toNat:Nat):Int):=(Int.toNat_of_nonneg r0).symm
  generalize r.toNat=rn at hr
  subst hr
  have hm:(1 + (rn:Int))=((1 + rn:Nat):Int):=by ac_nf
  simp_arith [hm,hb,capt,Int.toNat_natCast,Qhs,Qho,hl]
  try rw[hm]
  refine Qjb hp3 hm1 hm4 (by ac_nf) (by ac_nf) fun nx un s4 ok hp4 k4=>?_
  simp_arith []
  exact h _ _ _ _ _ ok (by ac_nf) hp4 ((k12.trans k3).trans k4)
end
open PySem (Str)
structure Bd where
 S:Nat
 dn:Nat
 nx:Nat->Nat->Nat
 un:Nat->Nat->Nat
 st:Nat
inductive Ln where
 | settle (v:Nat)
 | act (b d:Nat) (gs:List Nat)
structure Hd where
 b0:Nat
 b1:Nat
 lines:List Ln
structure Hs where
 boards:List Bd
 hands:List Hd
structure Sd where
 ls:List Nat
 ss:List Nat
 deriving DecidableEq
def natD (n:Nat):D:=.int (n:Int)
def bdD (b:Bd):D:=.tup [tabD b.S b.dn b.nx b.un,natD b.st]
def lnD:Ln->D
 | .settle v=>.tup [.str "settle",natD v]
 | .act b d gs=>.tup [.str "do",natD b,natD d,.tup (gs.map natD)]
def hdD (h:Hd):D:=.tup [.tup [natD h.b0,natD h.b1],.tup (h.lines.map lnD)]
def hsD (h:Hs):D:=.tup [.tup (h.boards.map bdD),.tup (h.hands.map hdD)]
def sdD (s:Sd):D:=.tup [.tup (s.ls.map natD),.tup (s.ss.map natD)]
def BdOk (b:Bd):Prop:=TabOk b.S b.dn b.nx b.un/\b.st < b.S
def LnOk (bs:List Bd) (m:Nat):Ln->Prop
 | .settle v=>v < 2
 | .act b d gs=>∃ bd,bs[b]?=some bd/\d < bd.dn/\gs.length=1 + mx (bd.un · d) bd.S/\∀ g∈gs,g < m
def HdOk (bs:List Bd) (h:Hd):Prop:=h.b0 < h.lines.length/\h.b1 < h.lines.length/\h.lines.length<=12/\∀ l∈h.lines,LnOk bs h.lines.length l
def HsOk (h:Hs):Prop:=h.boards.length<=7/\(∀ b∈h.boards,BdOk b)/\2<=h.hands.length/\h.hands.length<=3/\∀ x∈h.hands,HdOk h.boards x
def SdOk (h:Hs) (s:Sd):Prop:=s.ls.length=h.hands.length/\s.ss.length=h.boards.length/\(∀ (k:Nat) hd l,h.hands[k]?=some hd->s.ls[k]?=some l->l < hd.lines.length)/\∀ (b:Nat) bd x,h.boards[b]?=some bd->s.ss[b]?=some x->x < bd.S
theorem Qjk {r:Int} (h:0<=r):∃ n:Nat,r=(n:Int):=⟨r.toNat,(Int.toNat_of_nonneg h).symm⟩
section
variable {p q:Nat}{s s1 s2:Sto}{Q:D->Sto->Prop}
theorem Qjl {b:Bd}{d:Nat}{Q:D->Sto->Prop}{s:Sto} (h:TabOk b.S b.dn b.nx b.un) (hd:d < b.dn):wp (collect (gVar 0) tTrue (c2 subsD (c2 subsD (cVar 0) (cVar 1)) (cCon (.int 1))) anySt (upto b.S fun s=>.tup (upto b.dn fun d=>D.tup [.int (b.nx s d:Nat),.int (b.un s d:Nat)])) [none,some (.int d)]) (fun x s'=>wp (maxD x) Q s') s=Q (.int (mx (b.un · d) b.S:Nat)) s:=by
 rw[QhA (f:=fun i=>.int (b.un i d:Nat)) Qhx (fun i hi Q=>by simp_arith [↓Qhv hd])]
 exact QhE (f:=(b.un · d)) (by have:=h.1;ac_nf)
theorem Qjm {nb : Nat} {bs : List Bd} {m k : Nat} {on : Bool} {T : Bool -> Sto -> Prop} (hp : PotAt s p q) (hg : s[nb]? = some (.lst (bs.map bdD))) (hk : k < m) (h1 : ∀ s1, PotAt s1 p q -> Kept p q s s1 -> T true s1) (h2 : ∀ s1, (on = true -> k + 1 < m) -> 0 < bs.length -> PotAt s1 p q -> Kept p q s s1 -> T false s1) :
  wp (tOrB (tCmpB (c2 eqD (c1 lenD (cVar 1)) (cCon (.int 0)))) (tOrB (tAndB (tVal (cVar 4)) (tCmpB (c2 eqD (cVar 3) (c2 subD (cVar 2) (cCon (.int 1)))))) (tCmpB (c2 eqD (cCall ja (cCons (cVar 0) (cCons (cCon (.int 5)) cNil))) (cCon (.int 0))))) [some (.ref p),some (.ref nb),some (.int m),some (.int k),some (.bl on),none,none,none,none,none]) T s:=by
 have q1:∀ Q,wp (getL nb) Q s=Q (bs.map bdD) s:=fun Q=>QgZ hg
 simp_arith [↓q1,List.length_map]
 by_cases hz:bs.length=0
 ·rw[if_pos (by ac_nf)]
  exact h1 s hp Kept.refl
 rw[if_neg (by ac_nf)]
 have go:∀ (hon:on=true->k + 1 < m) (R:D->Sto->Prop) (hR:∀ (r:Int) s',R (.int r) s'=T (r == 0) s'),wp (ja [.ref p,.int 5]) R s:=fun hon R hR=>by
  refine Qi7 hp (by ac_nf) (by ac_nf) fun r s1 r0 r1 hp1 k1=>?_
  rw[hR]
  by_cases hr:r=0
  ·have:(r == 0)=true:=by simp[hr]
   rw[this];exact h1 s1 hp1 k1
  ·have:(r == 0)=false:=by simp[hr]
   rw[this];exact h2 s1 hon (by ac_nf) hp1 k1
 cases on with
 | false=>
  simp only[Bool.false_eq_true,if_false]
  exact go (fun h=>by cases h) _ fun r s'=>by simp_arith []
 | true=>
  simp only[if_true]
  by_cases hkm:k + 1 < m
  ·rw[if_neg (by ac_nf)]
   exact go (fun _=>hkm) _ fun r s'=>by simp_arith []
  ·rw[if_pos (by ac_nf)]
   exact h1 s hp Kept.refl
theorem Qjn {nb : Nat} {bs : List Bd} {m k : Nat} {on : Bool} (hp : PotAt s p q) (hg : s[nb]? = some (.lst (bs.map bdD))) (hnp : nb ≠ p) (hnq : nb ≠ q) (hbl : bs.length <= 7) (hbd : ∀ x ∈ bs, BdOk x) (hk : k < m) (hm : m <= 12)
  (h:∀ ln s',LnOk bs m ln->PotAt s' p q->Kept p q s s'->Q (lnD ln) s'):wp (jl [.ref p,.ref nb,.int m,.int k,.bl on]) Q s:=by
 have l0:0<=lim:=Nat.zero_le _
 have l2:2<=lim:=Qg9 (by ac_nf)
 have l4:4<=lim:=Qg9 (by ac_nf)
 simp only[jl,jE,↓wp_run,↓x_seq,↓x_if,List.map_cons,List.map_nil,List.cons_append,List.nil_append,List.length_cons,List.length_nil,Nat.reduceAdd,Nat.reduceSub,List.replicate_succ,List.replicate_zero]
 refine Qjm hp hg hk (fun s1 hp1 k1=>?_) (fun s1 hon hz hp1 k1=>?_)
 ·simp_arith [l2]
  refine Qi7 hp1 (by ac_nf) (by ac_nf) fun v s2 v0 v1 b2 k2=>?_
  obtain⟨n,e⟩:=Qjk v0
  subst e
  simp_arith [l2]
  exact h (.settle n) _ (by show n < 2;ac_nf) b2 (k1.trans k2)
 ·have q2:∀ Q,wp (getL nb) Q s1=Q (bs.map bdD) s1:=fun Q=>QgZ (k1.same hnp hnq hg)
  simp_arith [↓q2,List.length_map,Bool.false_eq_true,if_false]
  refine Qi7 hp1 (by ac_nf) (by ac_nf) fun bi s2 bi0 bi1 hp2 k2=>?_
  obtain⟨b,eb⟩:=Qjk bi0
  subst eb
  have hb:b < bs.length:=by ac_nf
  have hat:bs[b]?=some bs[b]:=List.getElem?_eq_getElem hb
  obtain⟨ok,hst⟩:=hbd bs[b] (List.getElem_mem hb)
  generalize bs[b]=bd at hat ok hst
  have q3:∀ Q,wp (getL nb) Q s2=Q (bs.map bdD) s2:=fun Q=>QgZ ((k1.trans k2).same hnp hnq hg)
  have q4:∀ Q s,wp (itemD (bs.map bdD) (b:Int)) Q s=Q (.tup [tabD bd.S bd.dn bd.nx bd.un,natD bd.st]) s:=fun Q s=>Qhf (by rw[List.getElem?_map,hat];rfl)
  have ok0:=ok
  obtain⟨o1,o2,o3,o4,o5⟩:=ok
  have tb:wp (subsD (tabD bd.S bd.dn bd.nx bd.un) (.int 0))=fun Q s=>Q (D.tup (upto bd.dn fun d=>D.tup [.int (bd.nx 0 d:Nat),.int (bd.un 0 d:Nat)])) s:=by
   funext Q s;unfold tabD;rw[x_subsT,Qhw (by ac_nf)]
  simp_arith [↓q3,↓q4,↓tb,Qho]
  refine Qi7 hp2 (by ac_nf) (by ac_nf) fun dd s3 dd0 dd1 hp3 k3=>?_
  obtain⟨d,ed⟩:=Qjk dd0
  subst ed
  have hd:d < bd.dn:=by ac_nf
  have hS:bd.S<=lim:=Qg9 (by ac_nf)
  have mu:∀ Q s,wp (collect (gVar 0) tTrue (c2 subsD (c2 subsD (cVar 0) (cVar 1)) (cCon (.int 1))) anySt (upto bd.S fun s=>.tup (upto bd.dn fun d=>D.tup [.int (bd.nx s d:Nat),.int (bd.un s d:Nat)])) [none,some (.int d)]) (fun x s'=>wp (maxD x) Q s') s=Q (.int (mx (bd.un · d) bd.S:Nat)) s:=fun Q s=>Qjl ok0 hd
  have hmx:mx (bd.un · d) bd.S<=3:=QhC fun i hi=>by have:=(o5 i d hi hd).2;ac_nf
  have hm1:(1 + ((mx (bd.un · d) bd.S:Nat):Int))=((1 + mx (bd.un · d) bd.S:Nat):Int):=by ac_nf
  have hb1:=Qi9 (show 1 + mx (bd.un · d) bd.S<=100 by ac_nf)
  simp_arith [l0,tabD,capt,Qho,hS,↓mu,hm1,hb1,Int.toNat_natCast,Qhs]
  have k123:=(k1.trans k2).trans k3
  have hp4:PotAt (s3++[.lst []]) p q:=hp3.snoc
  have k4:Kept p q s (s3++[.lst []]):=k123.snoc
  have g4:(s3++[MO.lst []])[s3.length]?=some (.lst []):=by simp
  have hlp:=hp3.lt
  have hs3:s.length<=s3.length:=k123.le
  generalize s3++[MO.lst []]=s4 at hp4 k4 g4
  refine Qhy (n:=1 + mx (bd.un · d) bd.S) (fun i l s'=>∃ x9 gs,l=[some (.ref p),some (.ref nb),some (.int m),some (.int k),some (.bl on),some (.int b),some (.tup (upto bd.S fun s=>.tup (upto bd.dn fun d=>D.tup [.int (bd.nx s d:Nat),.int (bd.un s d:Nat)]))),some (.int d),some (.ref s3.length),x9]/\s'[s3.length]?=some (.lst (gs.map natD))/\gs.length=i/\(∀ g∈gs,g < m)/\PotAt s' p q/\Kept p q s s') (fun _ _ _ _=>trivial) ⟨_,[],rfl,g4,rfl,by simp,hp4,k4⟩ (fun i l s' hi hW=>?_) (fun l s' hW=>?_)
  ·obtain⟨x9,gs,el,g,hl,hgs,hp',hk'⟩:=hW
   subst el
   have app:∀ v s5,v < m->PotAt s5 p q->Kept p q s' s5->∃ gs':List Nat,(s5.set s3.length (.lst (gs.map natD++[natD v])))[s3.length]?=some (.lst (gs'.map natD))/\gs'.length=i + 1/\(∀ g∈gs',g < m)/\PotAt (s5.set s3.length (.lst (gs.map natD++[natD v]))) p q/\Kept p q s (s5.set s3.length (.lst (gs.map natD++[natD v]))):=fun v s5 hv hp5 k5=>by
    have g5:s5[s3.length]?=some (.lst (gs.map natD)):=k5.same (by ac_nf) (by ac_nf) g
    refine⟨gs++[v],by rw[List.getElem?_set_self (Qi6 g5)];simp,by simp[hl],fun x hx=>?_,hp5.put (by ac_nf) (by ac_nf),(hk'.trans k5).put hs3⟩
    rcases List.mem_append.mp hx with hx | hx
    ·exact hgs x hx
    ·rw[List.mem_singleton]at hx;rw[hx];exact hv
   have l3:gs.length < lim:=Qha (by ac_nf)
   cases on with
   | true=>
    have hkm:=hon rfl
    simp_arith [if_true]
    refine Qi7 hp' (by ac_nf) (by ac_nf) fun r s5 r0 r1 hp5 k5=>?_
    obtain⟨v,ev⟩:=Qjk r0
    subst ev
    have g5:s5[s3.length]?=some (.lst (gs.map natD)):=k5.same (by ac_nf) (by ac_nf) g
    have q5:∀ Q,wp (getL s3.length) Q s5=Q (gs.map natD) s5:=fun Q=>QgZ g5
    have q6:∀ es Q,wp (putL s3.length es) Q s5=Q () (s5.set s3.length (.lst es)):=fun es Q=>Qg0 g5
    have ev:D.int ((k:Int) + 1 + (v:Int))=natD (k + 1 + v):=by unfold natD;congr 1
    simp_arith [↓q5,↓q6,List.length_map,l3,ev]
    obtain⟨gs',z⟩:=app (k + 1 + v) s5 (by ac_nf) hp5 k5
    exact⟨_,gs',rfl,z⟩
   | false=>
    simp_arith [Bool.false_eq_true,if_false]
    refine Qi7 hp' (by ac_nf) (by ac_nf) fun r s5 r0 r1 hp5 k5=>?_
    obtain⟨v,ev⟩:=Qjk r0
    subst ev
    have g5:s5[s3.length]?=some (.lst (gs.map natD)):=k5.same (by ac_nf) (by ac_nf) g
    have q5:∀ Q,wp (getL s3.length) Q s5=Q (gs.map natD) s5:=fun Q=>QgZ g5
    have q6:∀ es Q,wp (putL s3.length es) Q s5=Q () (s5.set s3.length (.lst es)):=fun es Q=>Qg0 g5
    simp_arith [↓q5,↓q6,List.length_map,l3]
    obtain⟨gs',z⟩:=app v s5 (by ac_nf) hp5 k5
    exact⟨_,gs',rfl,z⟩
  ·obtain⟨x9,gs,el,g,hl,hgs,hp',hk'⟩:=hW
   subst el
   have q5:∀ Q,wp (getL s3.length) Q s'=Q (gs.map natD) s':=fun Q=>QgZ g
   simp_arith [↓q5,l4]
   exact h (.act b d gs) _ ⟨bd,hat,hd,hl,hgs⟩ hp' hk'
end
open PySem (Str)
section
variable {p q:Nat}{s s1 s2:Sto}{Q:D->Sto->Prop}
theorem Qjo {nb : Nat} {bs : List Bd} {m : Nat} {on : Bool} {A : List D -> Sto -> Prop} (hp : PotAt s p q) (hg : s[nb]? = some (.lst (bs.map bdD))) (hnp : nb ≠ p) (hnq : nb ≠ q) (hbl : bs.length <= 7) (hbd : ∀ x ∈ bs, BdOk x) (hm : m <= 12)
  (h:∀ (ls:List Ln) s',ls.length=m->(∀ l∈ls,LnOk bs m l)->PotAt s' p q->Kept p q s s'->A (ls.map lnD) s'):
  wp (collect (gVar 0) tTrue (cCall jl (cCons (cVar 1) (cCons (cVar 2) (cCons (cVar 3) (cCons (cVar 0) (cCons (cVar 4) cNil)))))) anySt (upto m fun i=>.int i) [none,some (.ref p),some (.ref nb),some (.int m),some (.bl on)]) A s:=by
 refine Qhz (fun i out s'=>∃ ls:List Ln,out=ls.map lnD/\ls.length=i/\(∀ l∈ls,LnOk bs m l)/\PotAt s' p q/\Kept p q s s') (fun _ _ _ _=>trivial) ⟨[],rfl,rfl,by simp,hp,Kept.refl⟩ (fun i out s1 hi ⟨ls,eo,hl,hls,hp1,k1⟩=>?_) (fun out s1 pq109=>by obtain⟨ls,eo,hl,hls,hp1,k1⟩:=pq109;rw[eo];exact h ls s1 hl hls hp1 k1)
 simp_arith []
 refine Qjn hp1 (k1.same hnp hnq hg) hnp hnq hbl hbd hi hm fun ln s2 hln hp2 k2=>?_
 refine⟨ls++[ln],by rw[eo];simp,by simp[hl],fun l hl'=>?_,hp2,k1.trans k2⟩
 rcases List.mem_append.mp hl' with hl' | hl'
 ·exact hls l hl'
 ·rw[List.mem_singleton]at hl';rw[hl'];exact hln
theorem Qjp {r:Nat} (h:r < 8) {Q:D->Sto->Prop}{s:Sto} (hq:∀ n:Nat,n<=4->Q (.int n) s):wp (itemD [.int 0,.int 1,.int 1,.int 2,.int 2,.int 3,.int 1,.int 4] (r:Int)) Q s:=by
 have:r=0\/r=1\/r=2\/r=3\/r=4\/r=5\/r=6\/r=7:=by ac_nf
 rcases this with e | e | e | e | e | e | e | e<;>subst e<;>rw[Qhf (i:=_) rfl]<;>first | exact hq 0 (by ac_nf) | exact hq 1 (by ac_nf) | exact hq 2 (by ac_nf) | exact hq 3 (by ac_nf) | exact hq 4 (by ac_nf)
theorem Qjq {r:Nat} (h:r<=4) {Q:D->Sto->Prop}{s:Sto} (hq:∀ n:Int,1<=n->n<=4->(3<=r->n<=2)->Q (.int n) s):wp (itemD [.int 4,.int 4,.int 4,.int 2,.int 2] (r:Int)) Q s:=by
 have:r=0\/r=1\/r=2\/r=3\/r=4:=by ac_nf
 rcases this with e | e | e | e | e<;>subst e<;>rw[Qhf (i:=_) rfl]<;>exact hq _ (by ac_nf) (by ac_nf) (by ac_nf)
theorem Qjr {w k:Int}{l:Loc}{Q:D->Sto->Prop}{s:Sto} (h7:l[7]?=some (some (.int w))) (h3:l[3]?=some (some (.int k))) (h:∀ b,Q (.bl b) s):wp (cOr (c2 ltD (cVar 7) (cCon (.int 2))) (cAnd (c2 eqD (cVar 7) (cCon (.int 2))) (c2 gtD (cVar 3) (cCon (.int 0)))) l) Q s:=by
 simp_arith [h7,h3]
 by_cases a:w < 2
 ·have:decide (w < 2)=true:=decide_eq_true a
  rw[this];simp only[andB_t];exact h _
 ·have:decide (w < 2)=false:=decide_eq_false a
  rw[this];simp only[andB_f]
  by_cases b:w=2
  ·have:(w == 2)=true:=by simp[b]
   rw[this];simp only[andB_t];exact h _
  ·have:(w == 2)=false:=by simp[b]
   rw[this];simp only[andB_f];exact h _
def HsB (x:Hs):Prop:=HsOk x/\x.boards.length<=4/\(3<=x.boards.length->∀ b∈x.boards,b.S<=2)
theorem Qjs (hp:PotAt s p q) (h:∀ x s',HsB x->PotAt s' p q->Kept p q s s'->Q (hsD x) s'):wp (jn [.ref p]) Q s:=by
 have l0:0<=lim:=Nat.zero_le _
 have l2:2<=lim:=Qg9 (by ac_nf)
 have l8:8<=lim:=Qg9 (by ac_nf)
 (simp_arith [jn];simp_arith [jA,l0,l8])
 have hp1:PotAt (s++[.lst []]) p q:=hp.snoc
 have k1:Kept p q s (s++[.lst []]):=Kept.refl.snoc
 have g1:(s++[MO.lst []])[s.length]?=some (.lst []):=by simp
 have hlt:=hp.lt
 generalize s++[MO.lst []]=s1 at hp1 k1 g1
 refine Qi7 hp1 (by ac_nf) (by ac_nf) fun r s2 r0 r1 hp2 k2=>?_
 obtain⟨rn,er⟩:=Qjk r0
 subst er
 have g2:s2[s.length]?=some (.lst []):=k2.same (by ac_nf) (by ac_nf) g1
 have k12:=k1.trans k2
 simp_arith []
 refine Qjp (by ac_nf) fun cnt hcnt=>?_
 have hb:=Qi9 (show cnt<=100 by ac_nf)
 simp_arith [hb,Int.toNat_natCast,Qhs]
 refine Qhy (n:=cnt) (fun i l s'=>∃ x3 x4 bs,l=[some (.ref p),some (.ref s.length),some (.int cnt),x3,x4,none,none,none,none,none,none,none]/\s'[s.length]?=some (.lst (bs.map bdD))/\bs.length=i/\(∀ x∈bs,BdOk x/\(3<=cnt->x.S<=2))/\PotAt s' p q/\Kept p q s s') (fun _ _ _ _=>trivial) ⟨_,_,[],rfl,g2,rfl,by simp,hp2,k12⟩ (fun i l s' hi ⟨x3,x4,bs,el,g,hl,hbs,hp',hk'⟩=>?_) (fun l s' ⟨x3,x4,bs,el,g,hl,hbs,hp',hk'⟩=>?_)
 ·subst el
  simp_arith []
  refine⟨Qg9 (by ac_nf),Qjq (by ac_nf) fun mo mo1 mo4 mo2=>?_⟩
  try simp_arith []
  refine Qjj mo1 mo4 hp' fun S dn nx un s3 ok hSm hp3 k3=>?_
  have w1:wp (lenD (tabD S dn nx un))=fun Q s=>Q (.int S) s:=by
   funext Q s;unfold tabD;rw[x_lenT,Qho]
  simp_arith [↓w1]
  have o1:=ok.1
  have o2:=ok.2.1
  refine Qi7 hp3 (by ac_nf) (by ac_nf) fun st s4 st0 st1 hp4 k4=>?_
  obtain⟨stn,est⟩:=Qjk st0
  subst est
  have g4:s4[s.length]?=some (.lst (bs.map bdD)):=(k3.trans k4).same (by ac_nf) (by ac_nf) g
  have q1:∀ Q,wp (getL s.length) Q s4=Q (bs.map bdD) s4:=fun Q=>QgZ g4
  have q2:∀ es Q,wp (putL s.length es) Q s4=Q () (s4.set s.length (.lst es)):=fun es Q=>Qg0 g4
  have l3:bs.length < lim:=Qha (by ac_nf)
  simp_arith [↓q1,↓q2,l2,l3,List.length_map]
  refine⟨_,_,bs++[⟨S,dn,nx,un,stn⟩],rfl,by rw[List.getElem?_set_self (Qi6 g4)];simp[bdD,natD],by simp[hl],fun x hx=>?_,hp4.put (by ac_nf) (by ac_nf),((hk'.trans k3).trans k4).put (Nat.le_refl _)⟩
  rcases List.mem_append.mp hx with hx | hx
  ·exact hbs x hx
  ·rw[List.mem_singleton]at hx;rw[hx];exact⟨⟨ok,by show stn < S;ac_nf⟩,fun z=>by show S<=2;have:=mo2 z;ac_nf⟩
 ·subst el
  simp_arith [l0]
  have hp3:PotAt (s'++[.lst []]) p q:=hp'.snoc
  have k3:Kept p q s (s'++[.lst []]):=hk'.snoc
  have g3:(s'++[MO.lst []])[s'.length]?=some (.lst []):=by simp
  have g3':(s'++[MO.lst []])[s.length]?=some (.lst (bs.map bdD)):=by rw[List.getElem?_append_left (Qi6 g)];exact g
  have hlt':=hp'.lt
  have hs':=hk'.le
  have hgl:=Qi6 g
  generalize s'++[MO.lst []]=s3 at hp3 k3 g3 g3'
  refine Qi7 hp3 (by ac_nf) (by ac_nf) fun r3 s4 r30 r31 hp4 k4=>?_
  have hn:∃ n:Nat,(n=2\/n=3)/\(2 + (if r3=0 then (1:Int) else 0))=(n:Int):=by
   by_cases e:r3=0
   ·exact⟨3,.inr rfl,by simp[e]⟩
   ·exact⟨2,.inl rfl,by simp[e]⟩
  obtain⟨n,hn23,en⟩:=hn
  have hb:=Qi9 (show n<=100 by ac_nf)
  simp_all_arith [en,hb,Int.toNat_natCast,Qhs]
  refine Qi7 hp4 (by ac_nf) (by ac_nf) fun way s5 w0 w1 hp5 k5=>?_
  try simp_all_arith [en,hb,Int.toNat_natCast,Qhs]
  have g5:s5[s'.length]?=some (.lst []):=(k4.trans k5).same (by ac_nf) (by ac_nf) g3
  have g5':s5[s.length]?=some (.lst (bs.map bdD)):=(k4.trans k5).same (by ac_nf) (by ac_nf) g3'
  have k35:=(k3.trans k4).trans k5
  refine Qhy (n:=n) (fun i l s''=>∃ x3 x8 x9 x10 x11 hs,l=[some (.ref p),some (.ref s.length),some (.int cnt),x3,x4,some (.ref s'.length),some (.int n),some (.int way),x8,x9,x10,x11]/\s''[s'.length]?=some (.lst (hs.map hdD))/\s''[s.length]?=some (.lst (bs.map bdD))/\hs.length=i/\(∀ x∈hs,HdOk bs x)/\PotAt s'' p q/\Kept p q s s'') (fun _ _ _ _=>trivial) ⟨_,_,_,_,_,[],rfl,g5,g5',rfl,by simp,hp5,k35⟩ (fun i l s6 hi ⟨x3,x8,x9,x10,x11,hs,el,ga,gb,hl2,hhs,hp6,k6⟩=>?_) (fun l s6 ⟨x3,x8,x9,x10,x11,hs,el,ga,gb,hl2,hhs,hp6,k6⟩=>?_)
  ·subst el
   try simp_all_arith []
   refine Qi7 hp6 (by ac_nf) (by ac_nf) fun r s7 r0 r1 hp7 k7=>?_
   obtain⟨rn,er⟩:=Qjk r0
   subst er
   have hm:(1 + (rn:Int))=((1 + rn:Nat):Int):=by ac_nf
   simp_all_arith [hm]
   have hm1:1<=1 + rn:=by ac_nf
   have hm8:1 + rn<=8:=by ac_nf
   try rw[hm]
   generalize 1 + rn=m at hm1 hm8 ⊢
   refine Qjr rfl rfl fun on=>?_
   have hbm:=Qi9 (show m<=100 by ac_nf)
   have hlm:m<=lim:=Qg9 (by ac_nf)
   simp_all_arith [hbm,Int.toNat_natCast,Qhs,Qho,hlm,capt]
   refine Qjo hp7 (k7.same (by ac_nf) (by ac_nf) gb) (by ac_nf) (by ac_nf) (by ac_nf) (fun x hx=>(hbs x hx).1) (by ac_nf) fun ls s8 hll hls hp8 k8=>?_
   try simp_all_arith []
   refine Qi7 hp8 (by ac_nf) (by ac_nf) fun v1 s9 v10 v11 hp9 k9=>?_
   obtain⟨b1,eb1⟩:=Qjk v10
   subst eb1
   simp_all_arith [l2]
   refine Qi7 hp9 (by ac_nf) (by ac_nf) fun t sa t0 t1 hpa ka=>?_
   have l3:hs.length < lim:=Qha (by ac_nf)
   have app:∀ (b0 b1:Nat) sb,b0 < m->b1 < m->PotAt sb p q->Kept p q s6 sb->∃ hs':List Hd,(sb.set s'.length (.lst (hs.map hdD++[.tup [.tup [.int b0,.int b1],.tup (ls.map lnD)]])))[s'.length]?=some (.lst (hs'.map hdD))/\(sb.set s'.length (.lst (hs.map hdD++[.tup [.tup [.int b0,.int b1],.tup (ls.map lnD)]])))[s.length]?=some (.lst (bs.map bdD))/\hs'.length=i + 1/\(∀ x∈hs',HdOk bs x)/\PotAt (sb.set s'.length (.lst (hs.map hdD++[.tup [.tup [.int b0,.int b1],.tup (ls.map lnD)]]))) p q/\Kept p q s (sb.set s'.length (.lst (hs.map hdD++[.tup [.tup [.int b0,.int b1],.tup (ls.map lnD)]]))):=fun b0 b1 sb h0 h1 hpb kb=>by
    have gc:sb[s'.length]?=some (.lst (hs.map hdD)):=kb.same (by ac_nf) (by ac_nf) ga
    refine⟨hs++[⟨b0,b1,ls⟩],by rw[List.getElem?_set_self (Qi6 gc)];simp[hdD,natD],by rw[List.getElem?_set_ne (by ac_nf)];exact kb.same (by ac_nf) (by ac_nf) gb,by simp[hl2],fun x hx=>?_,hpb.put (by ac_nf) (by ac_nf),(k6.trans kb).put hs'⟩
    rcases List.mem_append.mp hx with hx | hx
    ·exact hhs x hx
    ·rw[List.mem_singleton]at hx;rw[hx]
     exact⟨by show b0 < ls.length;ac_nf,by show b1 < ls.length;ac_nf,by show ls.length<=12;ac_nf,by show ∀ l∈ls,LnOk bs ls.length l;rw[hll];exact hls⟩
   have k69:=((k7.trans k8).trans k9).trans ka
   by_cases ht:t=1
   ·subst ht
    simp_all_arith [l2,if_true]
    refine Qi7 hpa (by ac_nf) (by ac_nf) fun v2 sb v20 v21 hpb kb=>?_
    obtain⟨b2,eb2⟩:=Qjk v20
    subst eb2
    try simp_all_arith [l2]
    refine Qi7 hpb (by ac_nf) (by ac_nf) fun v3 sc v30 v31 hpc kc=>?_
    obtain⟨b3,eb3⟩:=Qjk v30
    subst eb3
    have gc:sc[s'.length]?=some (.lst (hs.map hdD)):=((k69.trans kb).trans kc).same (by ac_nf) (by ac_nf) ga
    have q5:∀ Q,wp (getL s'.length) Q sc=Q (hs.map hdD) sc:=fun Q=>QgZ gc
    have q6:∀ es Q,wp (putL s'.length es) Q sc=Q () (sc.set s'.length (.lst es)):=fun es Q=>Qg0 gc
    simp_all_arith [l2,↓q5,↓q6,List.length_map,l3]
    obtain⟨hs',z⟩:=app b2 b3 sc (by ac_nf) (by ac_nf) hpc ((k69.trans kb).trans kc)
    exact⟨_,_,_,_,_,hs',rfl,z⟩
   ·have gc:sa[s'.length]?=some (.lst (hs.map hdD)):=k69.same (by ac_nf) (by ac_nf) ga
    have q5:∀ Q,wp (getL s'.length) Q sa=Q (hs.map hdD) sa:=fun Q=>QgZ gc
    have q6:∀ es Q,wp (putL s'.length es) Q sa=Q () (sa.set s'.length (.lst es)):=fun es Q=>Qg0 gc
    simp_all_arith [l2,↓q5,↓q6,List.length_map,l3]
    rw[if_neg ht]
    obtain⟨hs',z⟩:=app 0 b1 sa (by ac_nf) (by ac_nf) hpa k69
    exact⟨_,_,_,_,_,hs',rfl,z⟩
  ·subst el
   try simp_all_arith []
   refine Qi7 hp6 (by ac_nf) (by ac_nf) fun t s7 t0 t1 hp7 k7=>?_
   have gc:s7[s'.length]?=some (.lst (hs.map hdD)):=k7.same (by ac_nf) (by ac_nf) ga
   have gd:s7[s.length]?=some (.lst (bs.map bdD)):=k7.same (by ac_nf) (by ac_nf) gb
   have q5:∀ Q,wp (getL s'.length) Q s7=Q (hs.map hdD) s7:=fun Q=>QgZ gc
   have q6:∀ es Q,wp (putL s'.length es) Q s7=Q () (s7.set s'.length (.lst es)):=fun es Q=>Qg0 gc
   have q7:∀ Q,wp (getL s.length) Q s7=Q (bs.map bdD) s7:=fun Q=>QgZ gd
   by_cases ht:t=0
   ·subst ht
    obtain⟨h0,hs0,eh⟩:∃ h0 hs0,hs=h0::hs0:=by
     cases hs with
     | nil=>simp at hl2;ac_nf
     | cons a b=>exact⟨a,b,rfl⟩
    have q8:∀ Q s,wp (itemD (hs.map hdD) 0) Q s=Q (hdD h0) s:=fun Q s=>by rw[eh,List.map_cons,x_item0]
    have ix:MM.ixN (hs.map hdD).length (-1)=some (hs.length - 1):=by
     unfold MM.ixN
     rw[List.length_map,if_neg (by ac_nf),if_pos (by ac_nf)]
     congr 1;ac_nf
    have e9:(hs.map hdD).set (hs.length - 1) (hdD h0)=(hs.set (hs.length - 1) h0).map hdD:=by rw[List.map_set]
    have ge:∀ es,(s7.set s'.length (MO.lst es))[s.length]?=some (.lst (bs.map bdD)):=fun es=>by rw[List.getElem?_set_ne (by ac_nf)];exact gd
    have gf:∀ es,(s7.set s'.length (MO.lst es))[s'.length]?=some (.lst es):=fun es=>List.getElem?_set_self (Qi6 gc)
    have qe:∀ es Q,wp (getL s.length) Q (s7.set s'.length (MO.lst es))=Q (bs.map bdD) (s7.set s'.length (MO.lst es)):=fun es Q=>QgZ (ge es)
    have qf:∀ es Q,wp (getL s'.length) Q (s7.set s'.length (MO.lst es))=Q es (s7.set s'.length (MO.lst es)):=fun es Q=>QgZ (gf es)
    simp_all_arith [if_true,↓q5,↓q8,↓x_setR,ix,↓q6,e9,↓qe,↓qf,l2]
    refine h ⟨bs,hs.set (hs.length - 1) h0⟩ _ ⟨⟨by show bs.length<=7;ac_nf,fun x hx=>(hbs x hx).1,by show 2<=(hs.set (hs.length - 1) h0).length;rw[List.length_set];ac_nf,by show (hs.set (hs.length - 1) h0).length<=3;rw[List.length_set];ac_nf,fun x hx=>?_⟩,by show bs.length<=4;ac_nf,fun z x hx=>(hbs x hx).2 (by rw[<- hl];exact z)⟩ (hp7.put (by ac_nf) (by ac_nf)) ((k6.trans k7).put hs')
    rcases List.mem_or_eq_of_mem_set hx with hx | hx
    ·exact hhs x hx
    ·rw[hx];exact hhs h0 (by rw[eh];simp)
   ·simp_all_arith [↓q5,↓q7,l2]
    rw[if_neg ht]
    exact h ⟨bs,hs⟩ _ ⟨⟨by show bs.length<=7;ac_nf,fun x hx=>(hbs x hx).1,by show 2<=hs.length;ac_nf,by show hs.length<=3;ac_nf,hhs⟩,by show bs.length<=4;ac_nf,fun z x hx=>(hbs x hx).2 (by rw[<- hl];exact z)⟩ hp7 (k6.trans k7)
end
open PySem (Str)
theorem Qjt:((("settle":Str)) == "settle")=true:=by nofun
theorem Qju:((("do":Str)) == "settle")=false:=by nofun
def lineAt (h:Hs) (s:Sd) (k:Nat):Ln:=((h.hands[k]?.bind fun hd=>s.ls[k]?.bind fun l=>hd.lines[l]?)).getD (.settle 0)
def beh (h:Hs) (s:Sd) (k:Nat):Sd:=match lineAt h s k with
 | .settle _=>s
 | .act b d gs=>match h.boards[b]?,s.ss[b]? with
  | some bd,some x=>⟨s.ls.set k ((gs[bd.un x d]?).getD 0),s.ss.set b (bd.nx x d)⟩
  | _,_=>s
section
variable {p q:Nat}{s s1 s2:Sto}{Q:D->Sto->Prop}{h:Hs}{st:Sd}
theorem Qjv {xs:List Nat}{i x:Nat}{Q:D->Sto->Prop}{s:Sto} (h:xs[i]?=some x):wp (itemD (xs.map natD) (i:Int)) Q s=Q (.int (x:Nat)) s:=Qhf (by rw[List.getElem?_map,h];rfl)
theorem Qjw (hh:HsOk h) (hp:PotAt s p q) (hq:∀ st s',SdOk h st->PotAt s' p q->Kept p q s s'->Q (sdD st) s'):wp (jg [.ref p,hsD h]) Q s:=by
 obtain⟨hb1,hb2,hn1,hn2,hh1⟩:=hh
 have l2:2<=lim:=Qg9 (by ac_nf)
 have e1:h.hands.length<=lim:=Qg9 (by ac_nf)
 have e2:h.boards.length<=lim:=Qg9 (by ac_nf)
 (simp_arith [jg];simp_arith [js,hsD,capt,List.length_map,e1,e2,l2])
 refine Qg6 (fun i out s'=>∃ ls:List Nat,out=ls.map natD/\ls.length=i/\(∀ (k:Nat) hd l,h.hands[k]?=some hd->ls[k]?=some l->l < hd.lines.length)/\PotAt s' p q/\Kept p q s s') (fun _ _ _ _=>trivial) ⟨[],rfl,rfl,by simp,hp,Kept.refl⟩ (fun i d out s1 hd ⟨ls,eo,hl,hls,hp1,k1⟩=>?_) (fun out s1 ⟨ls,eo,hl,hls,hp1,k1⟩=>?_)
 ·rw[List.getElem?_map]at hd
  cases ex:h.hands[i]? with
  | none=>rw[ex]at hd;cases hd
  | some x=>
   rw[ex]at hd
   have ed:d=hdD x:=(Option.some.inj hd).symm
   subst ed
   obtain⟨z1,z2,z3,z4⟩:=hh1 x (List.mem_of_getElem? ex)
   simp_arith [hdD,List.length_map]
   refine Qi7 hp1 (by ac_nf) (by ac_nf) fun v s2 v0 v1 hp2 k2=>?_
   obtain⟨n,en⟩:=Qjk v0
   subst en
   refine⟨ls++[n],by rw[eo];simp[natD],by simp[hl],fun k hd l hk hl'=>?_,hp2,k1.trans k2⟩
   by_cases e:k < ls.length
   ·rw[List.getElem?_append_left e]at hl';exact hls k hd l hk hl'
   ·rw[List.getElem?_append_right (by ac_nf)]at hl'
    have hk0:k - ls.length=0:=by
     cases z:k - ls.length with
     | zero=>rfl
     | succ j=>rw[z]at hl';simp at hl'
    rw[hk0]at hl'
    have ekl:k=i:=by ac_nf
    subst ekl
    rw[ex]at hk
    cases hk
    have:n=l:=by simpa using hl'
    ac_nf
 ·rw[List.length_map]at hl
  try simp_arith []
  have lbb:(h.boards.map bdD).length<=lim:=by rw[List.length_map];exact Qg9 (by ac_nf)
  try refine⟨lbb,?_⟩
  try simp only[capt]
  refine Qg6 (fun i out s'=>∃ ss:List Nat,out=ss.map natD/\ss.length=i/\(∀ (k:Nat) bd x,h.boards[k]?=some bd->ss[k]?=some x->x < bd.S)/\PotAt s' p q/\Kept p q s s') (fun _ _ _ _=>trivial) ⟨[],rfl,rfl,by simp,hp1,k1⟩ (fun i d out' s1 hd ⟨ss,eo',hl',hls',hp1,k1⟩=>?_) (fun out' s2 ⟨ss,eo',hl',hls',hp2,k2⟩=>?_)
  ·rw[List.getElem?_map]at hd
   cases ex:h.boards[i]? with
   | none=>rw[ex]at hd;cases hd
   | some x=>
    rw[ex]at hd
    have ed:d=bdD x:=(Option.some.inj hd).symm
    subst ed
    obtain⟨⟨z1,z2,z3,z4,z5⟩,z6⟩:=hb2 x (List.mem_of_getElem? ex)
    have w1:wp (lenD (tabD x.S x.dn x.nx x.un))=fun Q s=>Q (.int x.S) s:=by
     funext Q s;unfold tabD;rw[x_lenT,Qho]
    simp_arith [bdD,↓w1]
    refine Qi7 hp1 (by ac_nf) (by ac_nf) fun v s2 v0 v1 hp2 k2=>?_
    obtain⟨n,en⟩:=Qjk v0
    subst en
    refine⟨ss++[n],by rw[eo'];simp[natD],by simp[hl'],fun k hd l hk hl2=>?_,hp2,k1.trans k2⟩
    by_cases e:k < ss.length
    ·rw[List.getElem?_append_left e]at hl2;exact hls' k hd l hk hl2
    ·rw[List.getElem?_append_right (by ac_nf)]at hl2
     have hk0:k - ss.length=0:=by
      cases z:k - ss.length with
      | zero=>rfl
      | succ j=>rw[z]at hl2;simp at hl2
     rw[hk0]at hl2
     have ekl:k=i:=by ac_nf
     subst ekl
     rw[ex]at hk
     cases hk
     have:n=l:=by simpa using hl2
     ac_nf
  ·rw[List.length_map]at hl'
   simp_arith [eo,eo']
   exact⟨l2,hq ⟨ls,ss⟩ _ ⟨hl,hl',hls,hls'⟩ hp2 k2⟩
theorem Qjx {k:Nat} (hh:HsOk h) (hs:SdOk h st) (hk:k < h.hands.length):∃ hd l,h.hands[k]?=some hd/\st.ls[k]?=some l/\l < hd.lines.length/\hd.lines[l]?=some (lineAt h st k)/\LnOk h.boards hd.lines.length (lineAt h st k):=by
 have e1:h.hands[k]?=some h.hands[k]:=List.getElem?_eq_getElem hk
 have hk2:k < st.ls.length:=by rw[hs.1];exact hk
 have e2:st.ls[k]?=some st.ls[k]:=List.getElem?_eq_getElem hk2
 have hl:=hs.2.2.1 k _ _ e1 e2
 have e3:h.hands[k].lines[st.ls[k]]?=some (h.hands[k].lines[st.ls[k]]):=List.getElem?_eq_getElem hl
 have e4:lineAt h st k=h.hands[k].lines[st.ls[k]]:=by unfold lineAt;rw[e1,e2];simp only[Option.bind_some,e3,Option.getD_some]
 refine⟨_,_,e1,e2,hl,by rw[e3,e4],?_⟩
 rw[e4]
 exact (hh.2.2.2.2 _ (List.mem_of_getElem? e1)).2.2.2 _ (List.getElem_mem hl)
theorem Qjy {k:Nat} (hh:HsOk h) (hs:SdOk h st) (hk:k < h.hands.length):wp (jd [hsD h,sdD st,.int k]) Q s=Q (lnD (lineAt h st k)) s:=by
 obtain⟨hd,l,e1,e2,hl,e3,_⟩:=Qjx hh hs hk
 have w1:∀ Q s,wp (itemD (h.hands.map hdD) (k:Int)) Q s=Q (.tup [.tup [natD hd.b0,natD hd.b1],.tup (hd.lines.map lnD)]) s:=fun Q s=>Qhf (by rw[List.getElem?_map,e1];rfl)
 have w2:∀ Q s,wp (itemD (st.ls.map natD) (k:Int)) Q s=Q (.int (l:Nat)) s:=fun Q s=>Qjv e2
 have w3:∀ Q s,wp (itemD (hd.lines.map lnD) (l:Int)) Q s=Q (lnD (lineAt h st k)) s:=fun Q s=>Qhf (by rw[List.getElem?_map,e3];rfl)
 (simp_arith [jd];simp_arith [jF,hsD,sdD,↓w1,↓w2,↓w3])
theorem Qjz {k:Nat} (hh:HsOk h) (hs:SdOk h st) (hk:k < h.hands.length):wp (ji [hsD h,sdD st,.int k]) Q s=Q (lnD (lineAt h st k)) s:=by
 obtain⟨hd,l,e1,e2,hl,e3,_⟩:=Qjx hh hs hk
 have w1:∀ Q s,wp (itemD (h.hands.map hdD) (k:Int)) Q s=Q (.tup [.tup [natD hd.b0,natD hd.b1],.tup (hd.lines.map lnD)]) s:=fun Q s=>Qhf (by rw[List.getElem?_map,e1];rfl)
 have w2:∀ Q s,wp (itemD (st.ls.map natD) (k:Int)) Q s=Q (.int (l:Nat)) s:=fun Q s=>Qjv e2
 have w3:∀ Q s,wp (itemD (hd.lines.map lnD) (l:Int)) Q s=Q (lnD (lineAt h st k)) s:=fun Q s=>Qhf (by rw[List.getElem?_map,e3];rfl)
 (simp_arith [ji];simp_arith [jI,hsD,sdD,↓w1,↓w2,↓w3])
theorem QjA {b d:Nat}{gs:List Nat}{m:Nat} (hh:HsOk h) (hs:SdOk h st) (hl:LnOk h.boards m (.act b d gs)):∃ bd x g,h.boards[b]?=some bd/\st.ss[b]?=some x/\x < bd.S/\d < bd.dn/\gs[bd.un x d]?=some g/\g < m/\bd.nx x d < bd.S/\TabOk bd.S bd.dn bd.nx bd.un:=by
 obtain⟨bd,e1,hd,hg,hgs⟩:=hl
 have hb:=(List.getElem?_eq_some_iff.mp e1).1
 have hb2:b < st.ss.length:=by rw[hs.2.1];exact hb
 have e2:st.ss[b]?=some st.ss[b]:=List.getElem?_eq_getElem hb2
 have hx:=hs.2.2.2 b bd _ e1 e2
 obtain⟨ok,_⟩:=hh.2.1 bd (List.mem_of_getElem? e1)
 have hu:bd.un st.ss[b] d < gs.length:=by
  rw[hg]
  have:bd.un st.ss[b] d<=mx (bd.un · d) bd.S:=QhD (f:=(bd.un · d)) hx
  ac_nf
 exact⟨bd,_,_,e1,e2,hx,hd,List.getElem?_eq_getElem hu,hgs _ (List.getElem_mem hu),(ok.2.2.2.2 _ _ hx hd).1,ok⟩
theorem QjB {xs:List D}{i:Nat}{v:D} (hi:i < xs.length) (hl:xs.length<=100):wp (jf [.tup xs,.int i,v]) Q s=Q (.tup (xs.set i v)) s:=by
 have c1:¬(sIx xs.length 0 none=0/\sIx xs.length xs.length (some (i:Int))=xs.length):=by
  unfold sIx;simp only[Int.toNat_natCast];rw[if_neg (by ac_nf)];ac_nf
 have c2':¬(sIx xs.length 0 (some ((i:Int) + 1))=0/\sIx xs.length xs.length none=xs.length):=by
  unfold sIx;dsimp only;rw[if_neg (by ac_nf)];ac_nf
 have e1:cutD xs none (some (i:Int))=xs.take i:=by
  unfold cutD sIx;simp only[Int.toNat_natCast];rw[if_neg (by ac_nf),List.drop_zero];congr 1;ac_nf
 have e2:cutD xs (some ((i:Int) + 1)) none=xs.drop (i + 1):=by
  unfold cutD sIx
  have:(if (i:Int) + 1 < 0 then ((i:Int) + 1 + (xs.length:Int)).toNat else min ((i:Int) + 1).toNat xs.length)=i + 1:=by rw[if_neg (by ac_nf)];ac_nf
  simp only[this]
  exact List.take_of_length_le (by rw[List.length_drop];exact Nat.le_refl _)
 have l1:1<=lim:=Qg9 (by ac_nf)
 have l2:(xs.take i).length + 1<=lim:=Qg9 (by rw[List.length_take];ac_nf)
 have l3:(xs.take i++[v]).length + (xs.drop (i + 1)).length<=lim:=Qg9 (by rw[List.length_append,List.length_take,List.length_drop];simp;ac_nf)
 (simp_arith [jf];simp_arith [jC,c1,c2',not_false_eq_true,e1,e2,l1,l2])
 rw[List.set_eq_take_append_cons_drop,if_pos hi]
 have:xs.take i++[v]++xs.drop (i + 1)=xs.take i++v::xs.drop (i + 1):=by simp
 rw[this]
 exact propext ⟨fun z=>z.2,fun z=>⟨l3,z⟩⟩
theorem QjC {b d k:Nat}{gs:List Nat}{bd:Bd}{x g:Nat} (e:lineAt h st k=.act b d gs) (e1:h.boards[b]?=some bd) (e2:st.ss[b]?=some x) (e3:gs[bd.un x d]?=some g):beh h st k=⟨st.ls.set k g,st.ss.set b (bd.nx x d)⟩:=by
 unfold beh;rw[e];dsimp only;rw[e1,e2];dsimp only;rw[e3];rfl
theorem QjD {v k:Nat} (e:lineAt h st k=.settle v):beh h st k=st:=by unfold beh;rw[e]
theorem QjE {k:Nat} (hh:HsOk h) (hs:SdOk h st) (hk:k < h.hands.length):SdOk h (beh h st k):=by
 obtain⟨hd,l,e1,e2,hl,e3,ok⟩:=Qjx hh hs hk
 cases el:lineAt h st k with
 | settle v=>rw[QjD el];exact hs
 | act b d gs=>
  rw[el]at ok
  obtain⟨bd,x,g,f1,f2,f3,f4,f5,f6,f7,f8⟩:=QjA hh hs ok
  rw[QjC el f1 f2 f5]
  refine⟨by show (st.ls.set k g).length=_;rw[List.length_set];exact hs.1,by show (st.ss.set b _).length=_;rw[List.length_set];exact hs.2.1,fun k' hd' l' a1 a2=>?_,fun b' bd' x' a1 a2=>?_⟩
  ·have a2':(st.ls.set k g)[k']?=some l':=a2
   by_cases e:k=k'
   ·subst e
    rw[e1]at a1;cases a1
    rw[List.getElem?_set_self (List.getElem?_eq_some_iff.mp e2).1]at a2'
    cases a2';exact f6
   ·rw[List.getElem?_set_ne e]at a2'
    exact hs.2.2.1 k' hd' l' a1 a2'
  ·have a2':(st.ss.set b (bd.nx x d))[b']?=some x':=a2
   by_cases e:b=b'
   ·subst e
    rw[f1]at a1;cases a1
    rw[List.getElem?_set_self (List.getElem?_eq_some_iff.mp f2).1]at a2'
    cases a2';exact f7
   ·rw[List.getElem?_set_ne e]at a2'
    exact hs.2.2.2 b' bd' x' a1 a2'
theorem QjF {bd:Bd}{x d:Nat} (hx:x < bd.S) (hd:d < bd.dn):wp (jj [tabD bd.S bd.dn bd.nx bd.un,.int x,.int d]) Q s=Q (.int (bd.nx x d:Nat)) s:=by
 (simp_arith [jj];simp_arith [jx,tabD,↓Qhv hx,↓Qhv hd])
theorem QjG {bd:Bd}{x d:Nat} (hx:x < bd.S) (hd:d < bd.dn):wp (jo [tabD bd.S bd.dn bd.nx bd.un,.int x,.int d]) Q s=Q (.int (bd.un x d:Nat)) s:=by
 (simp_arith [jo];simp_arith [jJ,tabD,↓Qhv hx,↓Qhv hd])
theorem QjH {k:Nat} (hh:HsOk h) (hs:SdOk h st) (hk:k < h.hands.length):wp (jb [hsD h,sdD st,.int k]) Q s=Q (sdD (beh h st k)) s:=by
 obtain⟨hd,l,e1,e2,hl,e3,ok⟩:=Qjx hh hs hk
 have w:∀ Q s,wp (jd [hsD h,sdD st,.int k]) Q s=Q (lnD (lineAt h st k)) s:=fun Q s=>Qjy hh hs hk
 cases el:lineAt h st k with
 | settle v=>
  rw[QjD el]
  rw[el]at w
  simp only[lnD]at w
  (simp_arith [jb];simp_arith [jB,↓w,Qjt])
 | act b d gs=>
  rw[el]at ok w
  obtain⟨bd,x,g,f1,f2,f3,f4,f5,f6,f7,f8⟩:=QjA hh hs ok
  rw[QjC el f1 f2 f5]
  simp only[lnD]at w
  have hkl:k < (st.ls.map natD).length:=by rw[List.length_map,hs.1];exact hk
  have hbl:b < (st.ss.map natD).length:=by rw[List.length_map];exact (List.getElem?_eq_some_iff.mp f2).1
  have z1:=hs.1
  have z2:=hs.2.1
  have z3:=hh.1
  have z4:=hh.2.2.2.1
  have w1:∀ Q s,wp (itemD (h.boards.map bdD) (b:Int)) Q s=Q (.tup [tabD bd.S bd.dn bd.nx bd.un,natD bd.st]) s:=fun Q s=>Qhf (by rw[List.getElem?_map,f1];rfl)
  have w2:∀ Q s,wp (itemD (st.ss.map natD) (b:Int)) Q s=Q (.int (x:Nat)) s:=fun Q s=>Qjv f2
  have w3:∀ Q s,wp (itemD (gs.map natD) ((bd.un x d:Nat):Int)) Q s=Q (.int (g:Nat)) s:=fun Q s=>Qjv f5
  have w4:∀ Q s,wp (jo [tabD bd.S bd.dn bd.nx bd.un,.int x,.int d]) Q s=Q (.int (bd.un x d:Nat)) s:=fun Q s=>QjG f3 f4
  have w5:∀ Q s,wp (jj [tabD bd.S bd.dn bd.nx bd.un,.int x,.int d]) Q s=Q (.int (bd.nx x d:Nat)) s:=fun Q s=>QjF f3 f4
  have w6:∀ Q s,wp (jf [.tup (st.ls.map natD),.int k,.int g]) Q s=Q (.tup ((st.ls.map natD).set k (.int g))) s:=fun Q s=>QjB hkl (by rw[List.length_map];ac_nf)
  have w7:∀ Q s,wp (jf [.tup (st.ss.map natD),.int b,.int (bd.nx x d:Nat)]) Q s=Q (.tup ((st.ss.map natD).set b (.int (bd.nx x d:Nat)))) s:=fun Q s=>QjB hbl (by rw[List.length_map];ac_nf)
  have l2:2<=lim:=Qg9 (by ac_nf)
  unfold natD at w
  have nd:∀ n:Nat,D.int (n:Int)=natD n:=fun _=>rfl
  (simp_arith [jb];simp_arith [jB,↓w,Qju,Bool.false_eq_true,if_false])
  unfold hsD sdD
  unfold natD at w2 w3 w6 w7 ⊢
  simp_arith [↓w1,↓w2,↓w3,↓w4,↓w5,↓w6,↓w7,l2]
  rw[List.map_set,List.map_set]
theorem QjI {s:Sd}:Pd 2 (sdD s):=.tup fun d hd=>by
 have nat:∀ (xs:List Nat),Pd 1 (.tup (xs.map natD)):=fun xs=>.tup fun d hd=>by
  obtain⟨n,_,e⟩:=List.mem_map.mp hd
  rw[<- e];exact .int _
 simp at hd
 rcases hd with e | e<;>rw[e]<;>exact nat _
end
open PySem (Str)
theorem QjJ {g : CG} {t : CT} {e : CE} {same : Sto -> Prop} {ds : List D} {l0 : Loc} {f : Nat -> D} {p : Nat -> Bool} {Q : List D -> Sto -> Prop} {s : Sto} (I : Loc -> Prop) (hs : same s) (h0 : I l0)
  (h:∀ i d l,ds[i]?=some d->I l->∃ l',(∀ G,wp (g d l) G s=G l' s)/\I l'/\(∀ T,wp (t l') T s=T (p i) s)/\∀ Q,wp (e l') Q s=Q (f i) s):
  wp (collect g t e same ds l0) Q s=Q (((List.range ds.length).filter p).map f) s:=by
 have chk:∀ {R:Unit->Sto->Prop},R () s->wp (chkS same) R s:=fun r=>by rw[QgX];unfold chkS;rw[if_pos hs];exact r
 apply Qhd
 refine Qg5 (Q:=fun out s'=>out=((List.range ds.length).filter p).map f/\s'=s) (fun out xs l s'=>∃ i,xs=ds.drop i/\i<=ds.length/\I l/\out=((List.range i).filter p).map f/\s'=s) (fun out l s' hW=>?_) (fun out d xs l s' hW=>?_) ds [] _ s ⟨0,by simp,Nat.zero_le _,h0,rfl,rfl⟩
 ·obtain⟨i,e1,hi,_,e2,es⟩:=hW
  have:i=ds.length:=by
   have:=congrArg List.length e1
   simp at this;ac_nf
  subst this
  subst es
  exact chk ⟨e2,rfl⟩
 ·obtain⟨i,e1,hi,hI,e2,es⟩:=hW
  have hlt:i < ds.length:=by
   have:=congrArg List.length e1
   simp at this;ac_nf
  rw[List.drop_eq_getElem_cons hlt]at e1
  obtain⟨e3,e4⟩:=List.cons.inj e1
  obtain⟨l',q1,q2,q4,q3⟩:=h i d l (by rw[e3];exact List.getElem?_eq_getElem hlt) hI
  subst es
  refine chk ?_
  rw[q1,q4]
  cases hp:p i with
  | true=>
   rw[if_pos rfl,q3]
   exact⟨i + 1,e4,hlt,q2,by rw[e2,List.range_succ,List.filter_append,List.map_append];simp[hp],rfl⟩
  | false=>
   rw[if_neg (by simp)]
   exact⟨i + 1,e4,hlt,q2,by rw[e2,List.range_succ,List.filter_append,List.map_append];simp[hp],rfl⟩
def valD:Ln->D
 | .settle v=>natD v
 | .act _ _ _=>.non
def isAct:Ln->Bool
 | .settle _=>false
 | .act _ _ _=>true
def setV (h:Hs) (st:Sd):List D:=upto h.hands.length fun k=>valD (lineAt h st k)
def freeL (h:Hs) (st:Sd) (n:Nat):List D:=((List.range n).filter fun k=>isAct (lineAt h st k)).map fun k=>.int (k:Nat)
section
variable {s:Sto}{Q:D->Sto->Prop}{h:Hs}{st:Sd}
theorem QjK {ln:Ln}:wp (jh [lnD ln]) Q s=Q (valD ln) s:=by
 cases ln with
 | settle v=>(simp_arith [jh];simp_arith [jw,lnD,valD,Qjt,if_true])
 | act b d gs=>(simp_arith [jh];simp_arith [jw,lnD,valD,Qju,Bool.false_eq_true,if_false])
theorem QjL {Q:D->Sto->Prop}{s:Sto}:wp (subsD (hsD h) (.int 1)) Q s=Q (.tup (h.hands.map hdD)) s:=by unfold hsD;rw[x_subsT,x_item1]
theorem QjM (hh:HsOk h) (hs:SdOk h st):wp (jc [hsD h,sdD st]) Q s=Q (.tup (setV h st)) s:=by
 have z4:=hh.2.2.2.1
 have hb:=Qi9 (show h.hands.length<=100 by ac_nf)
 have l1:h.hands.length<=lim:=Qg9 (by ac_nf)
 have lh:∀ Q s,wp (subsD (hsD h) (.int 1)) Q s=Q (.tup (h.hands.map hdD)) s:=fun Q s=>QjL
 have w:∀ A s,wp (collect (gVar 0) tTrue (cCall jh (cCons (cCall jd (cCons (cVar 1) (cCons (cVar 2) (cCons (cVar 0) cNil)))) cNil)) anySt (upto h.hands.length fun i=>.int i) [none,some (hsD h),some (sdD st)]) A s=A (setV h st) s:=fun A s=>QhA Qhx fun k hk Q=>by
  have w1:∀ Q s,wp (jd [hsD h,sdD st,.int k]) Q s=Q (lnD (lineAt h st k)) s:=fun Q s=>Qjy hh hs hk
  have w2:∀ Q s,wp (jh [lnD (lineAt h st k)]) Q s=Q (valD (lineAt h st k)) s:=fun Q s=>QjK
  simp_arith [↓w1,↓w2]
 (simp_arith [jc];simp_arith [jH,↓lh,List.length_map,hb,capt,Int.toNat_natCast,Qhs,Qho,l1,↓w])
theorem QjN {ln : Ln} {T : Bool -> Sto -> Prop} : wp (isD (valD ln) .non) (fun x s' => match x with
  | .bl b=>T b s'
  | _=>False) s=T (isAct ln) s:=by
 cases ln<;>(unfold valD isAct natD isD isND;rw[wp_ret])
theorem free_ok (hh:HsOk h) (hs:SdOk h st):wp (ju [hsD h,sdD st]) Q s=Q (.ref s.length) (s++[.lst (freeL h st h.hands.length)]):=by
 have z4:=hh.2.2.2.1
 have l1:h.hands.length<=lim:=Qg9 (by ac_nf)
 have ws:∀ Q s,wp (jc [hsD h,sdD st]) Q s=Q (.tup (upto h.hands.length fun k=>valD (lineAt h st k))) s:=fun Q s=>QjM hh hs
 have w:∀ A s,wp (collect (gTupD 2 (gsCons (gVar 0) (gsCons (gVar 1) gsNil))) (tCmpB (c2 isD (cVar 1) (cCon .non))) (cVar 0) anySt (upto h.hands.length fun i=>.tup [.int i,valD (lineAt h st i)]) [none,none]) A s=A (freeL h st h.hands.length) s:=fun A s=>by
  rw[QjJ (f:=fun k=>.int (k:Nat)) (p:=fun k=>isAct (lineAt h st k)) (fun l=>∃ x y,l=[x,y]) Qhx ⟨_,_,rfl⟩ (fun i d l hd pq118=>by
   obtain⟨x,y,el⟩:=pq118
   obtain⟨hi,ed⟩:=Qhn hd
   refine⟨[some (.int i),some (valD (lineAt h st i))],fun G=>?_,⟨_,_,rfl⟩,fun T=>?_,fun Q=>?_⟩
   ·rw[ed,el,x_gtup,x_gcons,x_gvar,x_gcons,x_gvar,x_gnil]
    exact propext ⟨fun h=>h.2,fun h=>⟨rfl,h⟩⟩
   ·simp only[↓x_cmp,↓x_c2,↓x_var,↓x_con,List.getElem?_cons_zero,List.getElem?_cons_succ]
    exact QjN
   ·simp only[↓x_var,List.getElem?_cons_zero]),Qho]
  rfl
 (simp_arith [ju];simp_arith [jL,↓ws,Qho,QhB,capt,l1,↓w])
end
open PySem (Str)
theorem QjO (st:Sd):kOk true (sdD st)=true:=Qh0 st.ls st.ss
instance decSd:DecidableEq Sd:=fun a b=>decidable_of_iff (a.ls=b.ls/\a.ss=b.ss) (by cases a;cases b;simp)
theorem QjP (a b:Sd):eqK (sdD a) (sdD b)=decide (a=b):=by
 have:=Qh1 a.ls a.ss b.ls b.ss
 show eqK (sdD a) (sdD b)=_
 unfold sdD
 refine this.trans ?_
 rw[<- Bool.decide_and]
 exact decide_eq_decide.mpr (by cases a;cases b;simp)
theorem QjQ {α β:Type}{f:α->β}:∀ {l:List α},l.Nodup->(∀ a∈l,∀ b∈l,f a=f b->a=b)->(l.map f).Nodup
 | [],_,_=>List.nodup_nil
 | x::xs,hn,hi=>by
  obtain⟨h1,h2⟩:=List.nodup_cons.mp hn
  rw[List.map_cons]
  refine List.nodup_cons.mpr ⟨fun hm=>?_,QjQ h2 fun a ha b hb=>hi a (by simp[ha]) b (by simp[hb])⟩
  obtain⟨y,hy,e⟩:=List.mem_map.mp hm
  have:=hi y (by simp[hy]) x (by simp) e
  exact h1 (this ▸ hy)
def enc4:List Nat->Nat
 | []=>0
 | x::xs=>x + 4 * enc4 xs
theorem QjR:∀ {xs:List Nat},(∀ x∈xs,x < 4)->enc4 xs < 4 ^ xs.length
 | [],_=>by simp[enc4]
 | x::xs,h=>by
  have h1:=QjR (xs:=xs) fun y hy=>h y (by simp[hy])
  have h2:=h x (by simp)
  rw[enc4,List.length_cons,Nat.pow_succ]
  ac_nf
theorem QjS:∀ {xs ys:List Nat},xs.length=ys.length->(∀ x∈xs,x < 4)->(∀ x∈ys,x < 4)->enc4 xs=enc4 ys->xs=ys
 | [],[],_,_,_,_=>rfl
 | [],_::_,h,_,_,_=>by simp at h
 | _::_,[],h,_,_,_=>by simp at h
 | x::xs,y::ys,hl,h1,h2,e=>by
  have a:=h1 x (by simp)
  have b:=h2 y (by simp)
  rw[enc4,enc4]at e
  have e1:xs=ys:=QjS (by simpa using hl) (fun z hz=>h1 z (by simp[hz])) (fun z hz=>h2 z (by simp[hz])) (by ac_nf)
  have e2:x=y:=by ac_nf
  rw[e1,e2]
def wlk (h:Hs) (k:Nat) (st:Sd):Nat->Sd
 | 0=>st
 | n + 1=>beh h (wlk h k st n) k
section
variable {h:Hs}{st:Sd}{k n:Nat}{s u:Sto}{Q:D->Sto->Prop}
theorem QjT (hh:HsOk h) (hs:SdOk h st) (hk:k < h.hands.length):∀ n,SdOk h (wlk h k st n)
 | 0=>hs
 | n + 1=>QjE hh (QjT hh hs hk n) hk
theorem QjU:∀ {xs:List Nat}{k:Nat},xs.set k (xs.getD k 0)=xs
 | [],_=>rfl
 | x::xs,0=>rfl
 | x::xs,k + 1=>by
  have:=QjU (xs:=xs) (k:=k)
  simp only[List.set_cons_succ,List.getD_cons_succ]
  rw[this]
theorem QjV:∀ n,∃ g,(wlk h k st n).ls=st.ls.set k g
 | 0=>⟨_,QjU.symm⟩
 | n + 1=>by
  obtain⟨g,e⟩:=QjV n
  show ∃ g,(beh h (wlk h k st n) k).ls=_
  unfold beh
  cases lineAt h (wlk h k st n) k with
  | settle v=>exact⟨g,e⟩
  | act b d gs=>
   dsimp only
   cases h.boards[b]? with
   | none=>exact⟨g,e⟩
   | some bd=>
    cases (wlk h k st n).ss[b]? with
    | none=>exact⟨g,e⟩
    | some x=>exact⟨_,by dsimp only;rw[e,List.set_set]⟩
def code (k:Nat) (x:Sd):Nat:=x.ls.getD k 0 + 12 * enc4 x.ss
theorem QjW {x:Sd} (hh:HsOk h) (hs:SdOk h x) (hk:k < h.hands.length):x.ls.getD k 0 < 12/\(∀ y∈x.ss,y < 4)/\enc4 x.ss < 16384:=by
 obtain⟨a1,a2,a3,a4⟩:=hs
 obtain⟨b1,b2,b3,b4,b5⟩:=hh
 have hk':k < x.ls.length:=by ac_nf
 have e1:h.hands[k]?=some h.hands[k]:=List.getElem?_eq_getElem hk
 have e2:x.ls[k]?=some x.ls[k]:=List.getElem?_eq_getElem hk'
 have c1:=a3 k _ _ e1 e2
 have c2:=(b5 _ (List.getElem_mem hk)).2.2.1
 have c4:∀ y∈x.ss,y < 4:=fun y hy=>by
  obtain⟨j,hj⟩:=List.getElem?_of_mem hy
  have hj':j < h.boards.length:=by have:=(List.getElem?_eq_some_iff.mp hj).1;ac_nf
  have:=a4 j _ _ (List.getElem?_eq_getElem hj') hj
  have:=(b2 _ (List.getElem_mem hj')).1.2.1
  ac_nf
 refine⟨?_,c4,?_⟩
 ·rw[List.getD_eq_getElem?_getD,e2,Option.getD_some];ac_nf
 ·have h1:=QjR c4
  have h2:4 ^ x.ss.length<=4 ^ 7:=Nat.pow_le_pow_right (by ac_nf) (by ac_nf)
  have h3:(4:Nat) ^ 7=16384:=by decide
  ac_nf
theorem QjX (hh:HsOk h) (hs:SdOk h st) (hk:k < h.hands.length) (inj:∀ i j,i < n->j < n->wlk h k st i=wlk h k st j->i=j):n<=196608:=by
 have:=QhX 196608 ((List.range n).map fun i=>code k (wlk h k st i)) (QjQ List.nodup_range fun i hi j hj e=>?_) fun x hx=>?_
 ·simpa using this
 ·have oi:=QjT hh hs hk i
  have oj:=QjT hh hs hk j
  obtain⟨p1,p2,p3⟩:=QjW hh oi hk
  obtain⟨q1,q2,q3⟩:=QjW hh oj hk
  unfold code at e
  refine inj i j (List.mem_range.mp hi) (List.mem_range.mp hj) ?_
  have z1:enc4 (wlk h k st i).ss=enc4 (wlk h k st j).ss:=by ac_nf
  have z2:(wlk h k st i).ls.getD k 0=(wlk h k st j).ls.getD k 0:=by ac_nf
  have z3:=QjS (by rw[oi.2.1,oj.2.1]) p2 q2 z1
  obtain⟨g,eg⟩:=QjV (h:=h) (k:=k) (st:=st) i
  obtain⟨g',eg'⟩:=QjV (h:=h) (k:=k) (st:=st) j
  have hl:k < st.ls.length:=by rw[hs.1];exact hk
  rw[eg,eg']at z2
  have w1:∀ g,(st.ls.set k g).getD k 0=g:=fun g=>by rw[List.getD_eq_getElem?_getD,List.getElem?_set_self hl];rfl
  rw[w1,w1]at z2
  have z4:(wlk h k st i).ls=(wlk h k st j).ls:=by rw[eg,eg',z2]
  cases ea:wlk h k st i
  cases eb:wlk h k st j
  rw[ea,eb]at z3 z4
  simp only at z3 z4
  rw[z3,z4]
 ·obtain⟨i,hi,e⟩:=List.mem_map.mp hx
  obtain⟨p1,p2,p3⟩:=QjW hh (QjT hh hs hk i) hk
  rw[<- e];unfold code;ac_nf
def IsRes (h:Hs) (st:Sd) (k:Nat) (d:D):Prop:=∃ n:Nat,(∀ i,i < n->isAct (lineAt h (wlk h k st i) k)=true)/\(∀ i j,i < n->j < n->wlk h k st i=wlk h k st j->i=j) /\
 ((∃ j:Nat,j < n/\wlk h k st j=wlk h k st n/\d=.tup [.str "round",.int j,.int ((n:Int) - j)])\/((∀ j,j < n->wlk h k st j≠wlk h k st n)/\∃ v:Nat,lineAt h (wlk h k st n) k=.settle v/\d=.tup [.str "settles",.int v,.int n]))
def kv (w:Nat->Sd) (n:Nat):List (D × D):=upto n fun i=>(sdD (w i),D.int i)
theorem QjY {w:Nat->Sd}{x:Sd}:lkK (kv w n) (sdD x)=((List.range n).find? fun i=>decide (w i=x)).map fun i:Nat=>D.int i:=by
 unfold lkK kv upto
 rw[List.find?_map,Option.map_map]
 have:((fun p:D × D=>eqK p.1 (sdD x)) ∘ fun i:Nat=>(sdD (w i),D.int i))=fun i=>decide (w i=x):=by
  funext i;exact QjP _ _
 rw[this]
 rfl
theorem QjZ {w:Nat->Sd} (hn:∀ j,j < n->w j≠w n):ptK (kv w n) (sdD (w n)) (.int n)=kv w (n + 1):=by
 unfold ptK
 have:((kv w n).any fun p=>eqK p.1 (sdD (w n)))=false:=by
  rw[List.any_eq_false]
  intro p hp
  obtain⟨i,hi,e⟩:=List.mem_map.mp hp
  rw[<- e,QjP]
  simpa using hn i (List.mem_range.mp hi)
 rw[this,if_neg (by simp)]
 unfold kv
 rw[Qhp]
theorem Qj0 {w:Nat->Sd}:(kv w n).length=n:=Qho
theorem Qj1 {n:Nat} (h:n<=196608):n < lim:=Nat.lt_of_le_of_lt h (by decide)
theorem Qj2 {w:Nat->Sd} (inj:∀ i j,i < n->j < n->w i=w j->i=j) (hn:∀ j,j < n->w j≠w n):∀ i j,i < n + 1->j < n + 1->w i=w j->i=j:=fun i j hi hj e=>by
 by_cases a:i=n
 ·by_cases b:j=n
  ·ac_nf
  ·subst a;exact absurd e.symm (hn j (by ac_nf))
 ·by_cases b:j=n
  ·subst b;exact absurd e (hn i (by ac_nf))
  ·exact inj i j (by ac_nf) (by ac_nf) e
end
open PySem (Str)
section
variable {h:Hs}{st:Sd}{k n:Nat}{s u:Sto}{Q:D->Sto->Prop}
theorem Qj3 (hh:HsOk h) (hs:SdOk h st) (hk:k < h.hands.length) (hq:∀ d s',IsRes h st k d->Ext s s'->Q d s'):wp (jt [hsD h,sdD st,.int k]) Q s:=by
 have l3:3<=lim:=Qg9 (by ac_nf)
 (simp_arith [jt];simp_arith [jK])
 refine QhH (fun l u=>∃ (n:Nat) (y:Option D),l=[some (hsD h),some (sdD st),some (.int k),some (.dic s.length),some (sdD (wlk h k st n)),y]/\u[s.length]?=some (.dct true (kv (wlk h k st) n))/\(∀ i,i < n->isAct (lineAt h (wlk h k st i) k)=true)/\(∀ i j,i < n->j < n->wlk h k st i=wlk h k st j->i=j)/\Ext s u)
  (fun (_:Loc) (u:Sto)=>match u[s.length]? with
   | some (.dct _ kvs)=>200000 - kvs.length
   | _=>0) ⟨0,none,rfl,QhW,fun i hi=>by ac_nf,fun i j hi=>by ac_nf,(Ext.refl _).snoc _⟩ (fun l u hW=>?_)
 obtain⟨n,y,el,g,ha,inj,hx⟩:=hW
 subst el
 have few:=QjX hh hs hk inj
 have ho:=QjT hh hs hk n
 have q1:∀ Q,wp (hasK s.length (sdD (wlk h k st n))) Q u=Q (lkK (kv (wlk h k st) n) (sdD (wlk h k st n))).isSome u:=fun Q=>QhT g (QjO _)
 have q2:∀ Q,wp (lenD (.dic s.length)) Q u=Q (.int n) u:=fun Q=>by rw[QhU g,Qj0]
 simp_arith [↓q1]
 cases ef:(List.range n).find? fun i=>decide (wlk h k st i=wlk h k st n) with
 | some j=>
  have hl:lkK (kv (wlk h k st) n) (sdD (wlk h k st n))=some (.int j):=by rw[QjY,ef];rfl
  have q3:∀ Q,wp (itemK s.length (sdD (wlk h k st n))) Q u=Q (.int j) u:=fun Q=>QhR g (QjO _) hl
  rw[hl]
  simp_arith [↓q2,↓q3,l3,Option.isSome_some,Bool.not_true,Bool.false_eq_true,if_false]
  have e1:=List.find?_some ef
  have e2:=List.mem_of_find?_eq_some ef
  exact hq _ _ ⟨n,ha,inj,.inl ⟨j,List.mem_range.mp e2,by simpa using e1,rfl⟩⟩ hx
 | none=>
  have hl:lkK (kv (wlk h k st) n) (sdD (wlk h k st n))=none:=by rw[QjY,ef];rfl
  have hne:∀ j,j < n->wlk h k st j≠wlk h k st n:=fun j hj=>by
   have:=List.find?_eq_none.mp ef j (List.mem_range.mpr hj)
   simpa using this
  have w:∀ Q s,wp (jd [hsD h,sdD (wlk h k st n),.int k]) Q s=Q (lnD (lineAt h (wlk h k st n) k)) s:=fun Q s=>Qjy hh ho hk
  have w2:∀ Q s,wp (jb [hsD h,sdD (wlk h k st n),.int k]) Q s=Q (sdD (beh h (wlk h k st n) k)) s:=fun Q s=>QjH hh ho hk
  rw[hl]
  cases el:lineAt h (wlk h k st n) k with
  | settle v=>
   rw[el]at w
   simp only[lnD]at w
   simp_arith [↓w,↓q2,l3,Qjt,Option.isSome_none,Bool.not_false,if_true]
   exact hq _ _ ⟨n,ha,inj,.inr ⟨hne,v,el,rfl⟩⟩ hx
  | act b d gs=>
   rw[el]at w
   simp only[lnD]at w
   have q4:∀ v Q,wp (storeK s.length (sdD (wlk h k st n)) v) Q u=Q () (u.set s.length (.dct true (ptK (kv (wlk h k st) n) (sdD (wlk h k st n)) v))):=fun v Q=>QhS g (QjO _) (Qj1 (by rw[Qj0];exact few))
   simp_arith [↓w,↓w2,↓q2,↓q4,l3,Qju,Option.isSome_none,Bool.not_false,if_true,Bool.false_eq_true,if_false]
   rw[QjZ hne]
   have g2:(u.set s.length (MO.dct true (kv (wlk h k st) (n + 1))))[s.length]?=some (.dct true (kv (wlk h k st) (n + 1))):=List.getElem?_set_self (Qi6 g)
   refine⟨⟨n + 1,_,rfl,g2,fun i hi=>?_,Qj2 inj hne,hx.put (Nat.le_refl _)⟩,?_⟩
   ·by_cases e:i=n
    ·subst e;rw[el];rfl
    ·exact ha i (by ac_nf)
   ·rw[g2,g]
    simp only[Qj0]
    ac_nf
end
open PySem (Str)
section
variable {s:Sto}{Q:D->Sto->Prop}{h:Hs}{st:Sd}
def endS (h:Hs) (st:Sd) (ts:List Nat):Sd:=ts.foldl (fun x k=>beh h x k) st
theorem Qj4 (hh:HsOk h):∀ {ts:List Nat}{st:Sd},SdOk h st->(∀ t∈ts,t < h.hands.length)->SdOk h (endS h st ts)
 | [],st,hs,_=>hs
 | t::ts,st,hs,ht=>Qj4 hh (ts:=ts) (QjE hh hs (ht t List.mem_cons_self)) fun x hx=>ht x (List.mem_cons_of_mem _ hx)
def rowS (h:Hs) (st:Sd) (ts:List Nat) (n:Nat):List D:=upto n fun i=>sdD (endS h st (ts.take i))
theorem Qj5 {n:Nat}{f:Nat->D}:wp (itemD (upto (n + 1) f) (-1)) Q s=Q (f n) s:=by
 unfold itemD MM.ixN
 rw[Qho,if_neg (by ac_nf)]
 rw[if_pos (by ac_nf),show (-1 + ((n + 1:Nat):Int)).toNat=n by ac_nf]
 dsimp only
 rw[Qhm (Nat.lt_succ_self n)]
 dsimp only
 rw[wp_ret]
theorem Qj6 {m : Nat} {ts : List Nat} (hh : HsOk h) (hs : SdOk h st) (g : s[m]? = some (.lst (ts.map natD))) (ht : ∀ t ∈ ts, t < h.hands.length) (hl : ts.length <= 900)
  (hq:∀ r s',s.length<=r->s'[r]?=some (.lst (rowS h st ts (ts.length + 1)))->Ext s s'->Q (.ref r) s'):wp (jp [hsD h,sdD st,.ref m]) Q s:=by
 have l1:1<=lim:=Qg9 (by ac_nf)
 have gm:=Qi6 g
 have g1:∀ o:MO,(s++[o])[m]?=some (.lst (ts.map natD)):=fun o=>(Ext.snoc (Ext.refl _) _).at_ g
 have q1:∀ (o:MO) Q,wp (getL m) Q (s++[o])=Q (ts.map natD) (s++[o]):=fun o Q=>QgZ (g1 o)
 (simp_arith [jp];simp_arith [jM,l1,↓q1])
 refine Qhb (fun i l s'=>∃ x4,l=[some (hsD h),some (sdD st),some (.ref m),some (.ref s.length),x4]/\s'[m]?=some (.lst (ts.map natD))/\s'[s.length]?=some (.lst (rowS h st ts (i + 1)))/\Ext s s') (fun _ _ _ ⟨_,_,a,_,_⟩=>a) ⟨_,rfl,g1 _,by simp[rowS,upto,endS],(Ext.refl _).snoc _⟩ (fun i d l s' hd ⟨x4,el,a1,a2,a3⟩=>?_) (fun l s' ⟨x4,el,a1,a2,a3⟩=>?_)
 ·subst el
  rw[List.getElem?_map]at hd
  cases hx:ts[i]? with
  | none=>rw[hx]at hd;cases hd
  | some t=>
   rw[hx]at hd
   have ed:d=.int (t:Nat):=(Option.some.inj hd).symm
   subst ed
   have hi:=(List.getElem?_eq_some_iff.mp hx).1
   have q2:∀ Q,wp (getL s.length) Q s'=Q (rowS h st ts (i + 1)) s':=fun Q=>QgZ a2
   have q3:∀ es Q,wp (putL s.length es) Q s'=Q () (s'.set s.length (.lst es)):=fun es Q=>Qg0 a2
   have e1:∀ Q s,wp (itemD (rowS h st ts (i + 1)) (-1)) Q s=Q (sdD (endS h st (ts.take i))) s:=fun Q s=>Qj5
   have sdi:SdOk h (endS h st (ts.take i)):=Qj4 hh hs fun x hx=>ht x (List.mem_of_mem_take hx)
   have qb:∀ Q s,wp (jb [hsD h,sdD (endS h st (ts.take i)),.int t]) Q s=Q (sdD (beh h (endS h st (ts.take i)) t)) s:=fun Q s=>QjH hh sdi (ht t (List.mem_of_getElem? hx))
   have l2:(rowS h st ts (i + 1)).length < lim:=Qha (by unfold rowS;rw[Qho];ac_nf)
   simp_arith [↓q2,↓e1,↓qb,↓q3,l2]
   refine⟨_,rfl,by rw[List.getElem?_set_ne (by ac_nf)];exact a1,?_,a3.put (Nat.le_refl _)⟩
   rw[List.getElem?_set_self (Qi6 a2)]
   have e2:endS h st (ts.take (i + 1))=beh h (endS h st (ts.take i)) t:=by
    rw[List.take_add_one,hx];unfold endS;rw[List.foldl_append];rfl
   have e3:=@Qhp D (i + 1) (fun i=>sdD (endS h st (ts.take i)))
   rw[e2]at e3
   unfold rowS
   rw[e3]
 ·subst el
  rw[List.length_map]at a2
  simp_arith []
  exact hq _ s' (Nat.le_refl _) a2 a3
end
open PySem (Str)
section
variable {s:Sto}{Q:D->Sto->Prop}{h:Hs}{st:Sd}{k n:Nat}
def encC (c:Nat):List Nat->Nat
 | []=>0
 | x::xs=>x + c * encC c xs
theorem Qj7 {c:Nat}:∀ {xs:List Nat},(∀ x∈xs,x < c)->encC c xs < c ^ xs.length
 | [],_=>by simp[encC]
 | x::xs,h=>by
  have h1:=Qj7 (xs:=xs) fun y hy=>h y (by simp[hy])
  have h2:=h x (by simp)
  rw[encC,List.length_cons,Nat.pow_succ]
  have h3:c * (encC c xs + 1)<=c * c ^ xs.length:=Nat.mul_le_mul_left c h1
  rw[Nat.mul_add,Nat.mul_one]at h3
  rw[Nat.mul_comm (c ^ xs.length) c]
  ac_nf
theorem Qj8 {c:Nat} (hc:0 < c):∀ {xs ys:List Nat},xs.length=ys.length->(∀ x∈xs,x < c)->(∀ x∈ys,x < c)->encC c xs=encC c ys->xs=ys
 | [],[],_,_,_,_=>rfl
 | [],_::_,h,_,_,_=>by simp at h
 | _::_,[],h,_,_,_=>by simp at h
 | x::xs,y::ys,hl,h1,h2,e=>by
  have a:=h1 x (by simp)
  have b:=h2 y (by simp)
  rw[encC,encC]at e
  have m1:(x + c * encC c xs) % c=x:=by rw[Nat.add_mul_mod_self_left,Nat.mod_eq_of_lt a]
  have m2:(y + c * encC c ys) % c=y:=by rw[Nat.add_mul_mod_self_left,Nat.mod_eq_of_lt b]
  have e2:x=y:=by rw[<- m1,e,m2]
  have e3:encC c xs=encC c ys:=by
   subst e2
   exact Nat.eq_of_mul_eq_mul_left hc (by ac_nf)
  rw[e2,Qj8 hc (by simpa using hl) (fun z hz=>h1 z (by simp[hz])) (fun z hz=>h2 z (by simp[hz])) e3]
theorem Qj9 (hb:HsB h):∃ c,0 < c/\∀ x,SdOk h x->(∀ y∈x.ss,y < c)/\encC c x.ss < 16:=by
 obtain⟨hh,b4,b2⟩:=hb
 obtain⟨c1,c2,c3,c4,c5⟩:=hh
 have lt:∀ c,(∀ b∈h.boards,b.S<=c)->∀ x,SdOk h x->∀ y∈x.ss,y < c:=fun c hc x hs y hy=>by
  obtain⟨a1,a2,a3,a4⟩:=hs
  obtain⟨j,hj⟩:=List.getElem?_of_mem hy
  have hj':j < h.boards.length:=by have:=(List.getElem?_eq_some_iff.mp hj).1;ac_nf
  have:=a4 j _ _ (List.getElem?_eq_getElem hj') hj
  have:=hc _ (List.getElem_mem hj')
  ac_nf
 by_cases z:3<=h.boards.length
 ·refine⟨2,by ac_nf,fun x hs=>?_⟩
  have l:=lt 2 (b2 z) x hs
  refine⟨l,?_⟩
  have h1:=Qj7 l
  have h2:2 ^ x.ss.length<=2 ^ 4:=Nat.pow_le_pow_right (by ac_nf) (by rw[hs.2.1];exact b4)
  have h3:(2:Nat) ^ 4=16:=by decide
  ac_nf
 ·refine⟨4,by ac_nf,fun x hs=>?_⟩
  have l:=lt 4 (fun b hb=>(c2 b hb).1.2.1) x hs
  refine⟨l,?_⟩
  have h1:=Qj7 l
  have h2:4 ^ x.ss.length<=4 ^ 2:=Nat.pow_le_pow_right (by ac_nf) (by rw[hs.2.1];ac_nf)
  have h3:(4:Nat) ^ 2=16:=by decide
  ac_nf
theorem Qka (hb:HsB h) (hs:SdOk h st) (hk:k < h.hands.length) (inj:∀ i j,i < n->j < n->wlk h k st i=wlk h k st j->i=j):n<=192:=by
 have hh:=hb.1
 obtain⟨c,hc,few⟩:=Qj9 hb
 have:=QhX 192 ((List.range n).map fun i=>(wlk h k st i).ls.getD k 0 + 12 * encC c (wlk h k st i).ss) (QjQ List.nodup_range fun i hi j hj e=>?_) fun x hx=>?_
 ·simpa using this
 ·have oi:=QjT hh hs hk i
  have oj:=QjT hh hs hk j
  have p1:=(QjW hh oi hk).1
  have q1:=(QjW hh oj hk).1
  obtain⟨p2,p3⟩:=few _ oi
  obtain⟨q2,q3⟩:=few _ oj
  refine inj i j (List.mem_range.mp hi) (List.mem_range.mp hj) ?_
  have z1:encC c (wlk h k st i).ss=encC c (wlk h k st j).ss:=by ac_nf
  have z2:(wlk h k st i).ls.getD k 0=(wlk h k st j).ls.getD k 0:=by ac_nf
  have z3:=Qj8 hc (by rw[oi.2.1,oj.2.1]) p2 q2 z1
  obtain⟨g,eg⟩:=QjV (h:=h) (k:=k) (st:=st) i
  obtain⟨g',eg'⟩:=QjV (h:=h) (k:=k) (st:=st) j
  have hl:k < st.ls.length:=by rw[hs.1];exact hk
  rw[eg,eg']at z2
  have w1:∀ g,(st.ls.set k g).getD k 0=g:=fun g=>by rw[List.getD_eq_getElem?_getD,List.getElem?_set_self hl];rfl
  rw[w1,w1]at z2
  have z4:(wlk h k st i).ls=(wlk h k st j).ls:=by rw[eg,eg',z2]
  cases ea:wlk h k st i
  cases eb:wlk h k st j
  rw[ea,eb]at z3 z4
  simp only at z3 z4
  rw[z3,z4]
 ·obtain⟨i,hi,e⟩:=List.mem_map.mp hx
  have p1:=(QjW hh (QjT hh hs hk i) hk).1
  have p3:=(few _ (QjT hh hs hk i)).2
  rw[<- e];ac_nf
theorem Qkb:∀ i,endS h st (List.replicate i k)=wlk h k st i
 | 0=>rfl
 | i + 1=>by
  rw[List.replicate_succ',endS,List.foldl_append]
  show beh h (endS h st (List.replicate i k)) k=_
  rw[Qkb i];rfl
end
open PySem (Str)
section
variable {s:Sto}{Q:D->Sto->Prop}{h:Hs}{st:Sd}{k n:Nat}
def keyN (x:Sd):List (Int ⊕ List Int):=[.inr (x.ls.map fun n:Nat=>(n:Int)),.inr (x.ss.map fun n:Nat=>(n:Int))]
theorem Qkc {a b:List Nat} (h:(a.map fun n:Nat=>(n:Int))=b.map fun n:Nat=>(n:Int)):a=b:=by
 refine List.map_inj_right (fun x y e=>?_) |>.mp h
 exact Int.ofNat.inj e
theorem Qkd {x y:Sd} (e:keyN x=keyN y):x=y:=by
 unfold keyN at e
 injection e with e1 e2
 injection e2 with e2 _
 injection e1 with e1
 injection e2 with e2
 have a:=Qkc e1
 have b:=Qkc e2
 cases x
 cases y
 simp only at a b
 rw[a,b]
theorem Qke (x:Sd):stK (sdD x)=some (keyN x):=by
 show rowsK [.tup (x.ls.map fun n:Nat=>.int n),.tup (x.ss.map fun n:Nat=>.int n)]=_
 simp only[rowsK,QhZ];rfl
theorem Qkf:∀ {xs:List Sd},stsK (xs.map sdD)=some (xs.map keyN)
 | []=>rfl
 | x::xs=>by
  rw[List.map_cons]
  unfold stsK
  rw[Qke,Qkf]
  rfl
theorem Qkg {acc:List (List (Int ⊕ List Int))}{k:List (Int ⊕ List Int)} (h:k∉acc):ontoN acc k=acc++[k]:=by
 unfold ontoN
 rw[if_neg]
 intro z
 rw[List.any_eq_true]at z
 obtain⟨x,h1,h2⟩:=z
 exact h (by rw[<- of_decide_eq_true h2];exact h1)
theorem Qkh {acc:List (List (Int ⊕ List Int))}{k:List (Int ⊕ List Int)} (h:k∈acc):ontoN acc k=acc:=by
 unfold ontoN
 rw[if_pos (List.any_eq_true.mpr ⟨k,h,decide_eq_true rfl⟩)]
theorem Qki:∀ {xs acc:List (List (Int ⊕ List Int))},(acc++xs).Nodup->xs.foldl ontoN acc=acc++xs
 | [],acc,_=>by simp
 | x::xs,acc,h=>by
  rw[List.foldl_cons,Qkg,Qki]
  ·simp
  ·simpa using h
  ·intro z
   rw[List.nodup_append]at h
   exact h.2.2 x z x List.mem_cons_self rfl
theorem Qkj {m j:Nat}{w:Nat->Sd} (g:s[m]?=some (.lst (upto (n + 1) fun i=>sdD (w i)))) (hn:n<=900) (inj:∀ i j,i < n->j < n->w i=w j->i=j) (hj:j < n) (e:w j=w n):wp (lenSetND (.ref m)) Q s=Q (.int (n:Nat)) s:=by
 have e1:(upto (n + 1) fun i=>sdD (w i))=((List.range (n + 1)).map w).map sdD:=by unfold upto;rw[List.map_map];rfl
 have nd:((List.range n).map fun i=>keyN (w i)).Nodup:=QjQ List.nodup_range fun i hi j hj e=>inj i j (List.mem_range.mp hi) (List.mem_range.mp hj) (Qkd e)
 have e2:(((List.range (n + 1)).map w).map keyN).foldl ontoN []=(List.range n).map fun i=>keyN (w i):=by
  have e3:((List.range n).map fun i=>keyN (w i)).foldl ontoN []=(List.range n).map fun i=>keyN (w i):=Qki (acc:=[]) (by simpa using nd)
  rw[List.range_succ,List.map_append,List.map_append,List.foldl_append,List.map_map]
  show ontoN (((List.range n).map fun i=>keyN (w i)).foldl ontoN []) (keyN (w n))=_
  rw[e3,Qkh]
  rw[<- e]
  exact List.mem_map.mpr ⟨j,List.mem_range.mpr hj,rfl⟩
 unfold lenSetND
 rw[QgY,QgZ g,e1,Qkf]
 dsimp only
 have e4:((List.range n).map fun i=>keyN (w i)).length=n:=by simp
 rw[wp_chk,e2,e4,wp_ret]
 exact propext ⟨fun z=>z.2,fun z=>⟨⟨by simp,by simp;ac_nf⟩,z⟩⟩
end
open PySem (Str)
section
variable {s:Sto}{Q:D->Sto->Prop}{h:Hs}{st:Sd}{k n:Nat}
theorem Qkk:((("settles":Str)) == "settles")=true:=by nofun
theorem Qkl:((("round":Str)) == "settles")=false:=by nofun
theorem Qkm:rowS h st (List.replicate n k) (n + 1)=upto (n + 1) fun i=>sdD (wlk h k st i):=by
 unfold rowS
 refine Qhr fun i hi=>?_
 rw[List.take_replicate,show min i n=i by ac_nf,Qkb]
theorem Qkn:wp (isntD .non .non) Q s=Q (.bl false) s:=wp_eq rfl
theorem Qko {n:Nat}:wp (inL (.bl true) (upto n fun _=>.bl false)) Q s=Q (.bl false) s:=by
 unfold inL
 rw[wp_chk,wp_ret]
 have e1:(upto n fun _=>D.bl false).all flatD=true:=by
  rw[List.all_eq_true]
  intro d hd
  unfold upto at hd
  obtain⟨i,_,rfl⟩:=List.mem_map.mp hd
  rfl
 have e2:((upto n fun _=>D.bl false).any fun d=>eqFl d (.bl true))=false:=by
  rw[Bool.eq_false_iff]
  intro z
  rw[List.any_eq_true]at z
  obtain⟨d,hd,e⟩:=z
  unfold upto at hd
  obtain⟨i,_,rfl⟩:=List.mem_map.mp hd
  cases e
 rw[e2]
 exact propext ⟨fun z=>z.2,fun z=>⟨⟨rfl,e1⟩,z⟩⟩
theorem Qkp (hb:HsB h) (hs:SdOk h st) (hk:k < h.hands.length) (hq:∀ s',Ext s s'->Q (.bl true) s'):wp (je [hsD h,sdD st,.int k]) Q s:=by
 have hh:=hb.1
 have l1:1<=lim:=Qg9 (by ac_nf)
 (simp_arith [je];simp_arith [jr])
 refine Qj3 hh hs hk fun d s1 pq122 x1=>?_
 obtain⟨n,act,inj,hc⟩:=pq122
 have n4:=Qka hb hs hk inj
 have hrep:∀ m,(List.replicate m (D.int (k:Nat)))=(List.replicate m k).map natD:=fun m=>by rw[List.map_replicate];rfl
 have flat:∀ m:Nat,(List.replicate m [D.int (k:Nat)]).flatten=(List.replicate m k).map natD:=fun m=>by rw[<- hrep];simp
 have tk:∀ t∈List.replicate n k,t < h.hands.length:=fun t ht=>by rw[List.eq_of_mem_replicate ht];exact hk
 have run:∀ (R:D->Sto->Prop),(∀ r s',s1.length + 1<=r->s'[r]?=some (.lst (upto (n + 1) fun i=>sdD (wlk h k st i)))->Ext s s'->R (.ref r) s')->wp (jp [hsD h,sdD st,.ref s1.length]) R (s1++[.lst ((List.replicate n k).map natD)]):=fun R hR=>by
  refine Qj6 hh hs (ts:=List.replicate n k) (by simp) tk (by rw[List.length_replicate];ac_nf) fun r s' h1 h2 h3=>?_
  rw[List.length_replicate,Qkm]at h2
  exact hR r s' (by simpa using h1) h2 ((x1.snoc _).trans h3)
 have sdw:∀ i,SdOk h (wlk h k st i):=fun i=>QjT hh hs hk i
 rcases hc with ⟨j,hj,ej,rfl⟩ | ⟨_,v,hv,rfl⟩
 ·simp_arith [Qkl,l1]
  have en:((j:Int) + ((n:Int) - (j:Int))).toNat=n:=by ac_nf
  rw[en,flat]
  refine⟨⟨⟨by ac_nf,by ac_nf⟩,Qg9 (by ac_nf)⟩,?_⟩
  refine run _ fun r s2 hr g2 x2=>?_
  have q1:∀ Q,wp (getL r) Q s2=Q (upto (n + 1) fun i=>sdD (wlk h k st i)) s2:=fun Q=>QgZ g2
  have ln:n + 1<=lim:=Qg9 (by ac_nf)
  have actn:∀ i,i < n + 1->isAct (lineAt h (wlk h k st i) k)=true:=fun i hi=>by
   by_cases z:i < n
   ·exact act i z
   ·obtain rfl:i=n:=by ac_nf
    rw[<- ej];exact act j hj
  have w:∀ (Q:List D->Sto->Prop),wp (collect (gVar 0) tTrue (c2 isntD (c2 subsD (cCall jc (cCons (cVar 1) (cCons (cVar 0) cNil))) (cVar 2)) (cCon .non)) (sameL r (upto (n + 1) fun i=>sdD (wlk h k st i))) (upto (n + 1) fun i=>sdD (wlk h k st i)) [none,some (hsD h),some (.int k)]) Q s2=Q (upto (n + 1) fun _=>.bl false) s2:=fun Q=>QhA g2 fun i hi Q=>by
   have qs:∀ Q s,wp (jc [hsD h,sdD (wlk h k st i)]) Q s=Q (.tup (setV h (wlk h k st i))) s:=fun Q s=>QjM hh (sdw i)
   have vn:valD (lineAt h (wlk h k st i) k)=.non:=by
    have:=actn i hi
    cases z:lineAt h (wlk h k st i) k with
    | settle v=>rw[z]at this;cases this
    | act a b c=>rfl
   have qi:∀ Q s,wp (itemD (setV h (wlk h k st i)) (k:Int)) Q s=Q .non s:=fun Q s=>by
    unfold setV
    rw[Qhv hk,vn]
   simp_arith [↓qs,↓qi,↓Qkn]
  simp_arith [↓q1,capt,Qho,ln]
  rw[w,Qko]
  have ls:=Qkj (Q:=Q) g2 (by ac_nf) inj hj ej
  have il:∀ Q s,wp (itemD (upto (n + 1) fun i=>sdD (wlk h k st i)) (-1)) Q s=Q (sdD (wlk h k st n)) s:=fun Q s=>Qj5
  have ij:∀ Q s,wp (itemD (upto (n + 1) fun i=>sdD (wlk h k st i)) (j:Int)) Q s=Q (sdD (wlk h k st n)) s:=fun Q s=>by rw[Qhv (by ac_nf),ej]
  have lq:∀ Q,wp (lenSetND (.ref r)) Q s2=Q (.int (n:Nat)) s2:=fun Q=>Qkj g2 (by ac_nf) inj hj ej
  have eqs:∀ Q s,wp (eqD (sdD (wlk h k st n)) (sdD (wlk h k st n))) Q s=Q (.bl true) s:=fun Q s=>QhJ (n:=2) QjI (by ac_nf)
  simp_arith [↓q1,↓il,↓ij,↓lq,↓eqs,Qho]
  have e7:(((n:Nat):Int) == ((n + 1:Nat):Int) - 1)=true:=beq_iff_eq.mpr (by ac_nf)
  have e8:decide ((0:Int) < (n:Int) - (j:Int))=true:=decide_eq_true (by ac_nf)
  simp_arith [e7,e8]
  exact hq s2 x2
 ·simp_arith [Qkk,l1,Int.toNat_natCast]
  rw[flat]
  refine⟨⟨⟨by ac_nf,by ac_nf⟩,Qg9 (by ac_nf)⟩,?_⟩
  refine run _ fun r s2 hr g2 x2=>?_
  have q1:∀ Q,wp (getL r) Q s2=Q (upto (n + 1) fun i=>sdD (wlk h k st i)) s2:=fun Q=>QgZ g2
  have ln:n + 1<=lim:=Qg9 (by ac_nf)
  have w:∀ (Q:List D->Sto->Prop),wp (collect (gVar 0) tTrue (c2 subsD (cCall jc (cCons (cVar 1) (cCons (cVar 0) cNil))) (cVar 2)) (sameL r (upto (n + 1) fun i=>sdD (wlk h k st i))) (upto (n + 1) fun i=>sdD (wlk h k st i)) [none,some (hsD h),some (.int k)]) Q s2=Q (upto (n + 1) fun i=>valD (lineAt h (wlk h k st i) k)) s2:=fun Q=>QhA g2 fun i hi Q=>by
   have qs:∀ Q s,wp (jc [hsD h,sdD (wlk h k st i)]) Q s=Q (.tup (setV h (wlk h k st i))) s:=fun Q s=>QjM hh (sdw i)
   have qi:∀ Q s,wp (itemD (setV h (wlk h k st i)) (k:Int)) Q s=Q (valD (lineAt h (wlk h k st i) k)) s:=fun Q s=>by
    unfold setV
    rw[Qhv hk]
   simp_arith [↓qs,↓qi]
  have ev:(upto (n + 1) fun i=>valD (lineAt h (wlk h k st i) k))=List.replicate n .non++[.int (v:Nat)]:=by
   rw[Qhp,hv]
   congr 1
   have:(upto n fun i=>valD (lineAt h (wlk h k st i) k))=upto n fun _=>D.non:=Qhr fun i hi=>by
    have:=act i hi
    cases z:lineAt h (wlk h k st i) k with
    | settle v=>rw[z]at this;cases this
    | act a b c=>rfl
   rw[this]
   unfold upto
   rw[List.map_const',List.length_range]
  rw[ev]at w
  simp_arith [↓q1,capt,Qho,ln]
  rw[w]
  simp_arith [l1,Int.toNat_natCast]
  rw[show (List.replicate n [D.non]).flatten=List.replicate n D.non by simp]
  refine⟨⟨⟨by ac_nf,by ac_nf⟩,Qg9 (by ac_nf)⟩,?_⟩
  have ga:(s2++[MO.lst (List.replicate n D.non++[D.int (v:Nat)])]++[MO.lst (List.replicate n D.non)]++[MO.lst [D.int (v:Nat)]])[(s2++[MO.lst (List.replicate n D.non++[D.int (v:Nat)])]).length]?=some (.lst (List.replicate n D.non)):=by simp
  have gb:(s2++[MO.lst (List.replicate n D.non++[D.int (v:Nat)])]++[MO.lst (List.replicate n D.non)]++[MO.lst [D.int (v:Nat)]])[(s2++[MO.lst (List.replicate n D.non++[D.int (v:Nat)])]++[MO.lst (List.replicate n D.non)]).length]?=some (.lst [D.int (v:Nat)]):=by simp
  have g0:(s2++[MO.lst (List.replicate n D.non++[D.int (v:Nat)])]++[MO.lst (List.replicate n D.non)]++[MO.lst [D.int (v:Nat)]])[s2.length]?=some (.lst (List.replicate n D.non++[D.int (v:Nat)])):=by simp
  have x3:Ext s (s2++[MO.lst (List.replicate n D.non++[D.int (v:Nat)])]++[MO.lst (List.replicate n D.non)]++[MO.lst [D.int (v:Nat)]]):=((x2.snoc _).snoc _).snoc _
  rw[Qhe ga gb]
  refine⟨Qg9 (by simp;ac_nf),?_⟩
  generalize s2++[MO.lst (List.replicate n D.non++[D.int (v:Nat)])]++[MO.lst (List.replicate n D.non)]++[MO.lst [D.int (v:Nat)]]=s3 at *
  have g1:(s3++[MO.lst (List.replicate n D.non++[D.int (v:Nat)])])[s2.length]?=some (.lst (List.replicate n D.non++[D.int (v:Nat)])):=(Ext.snoc (Ext.refl _) _).at_ g0
  have g9:(s3++[MO.lst (List.replicate n D.non++[D.int (v:Nat)])])[s3.length]?=some (.lst (List.replicate n D.non++[D.int (v:Nat)])):=by simp
  rw[QhM (n:=0) g1 g9 (fun d hd=>?_) (by ac_nf)]
  ·simp_arith []
   exact hq _ (x3.snoc _)
  ·rcases List.mem_append.mp hd with z | z
   ·rw[List.eq_of_mem_replicate z];exact .non
   ·rw[List.mem_singleton]at z;rw[z];exact .int _
end
open PySem (Str)
section
variable {s:Sto}{Q:D->Sto->Prop}{h:Hs}{st:Sd}{k n:Nat}
theorem Qkq {i j b1 d1 b2 d2:Nat}{g1 g2:List Nat} (hh:HsOk h) (hs:SdOk h st) (hi:i < h.hands.length) (hj:j < h.hands.length) (e1:lineAt h st i=.act b1 d1 g1) (e2:lineAt h st j=.act b2 d2 g2) (hb:b1≠b2):beh h (beh h st i) j=beh h (beh h st j) i:=by
 have hij:i≠j:=fun z=>by subst z;rw[e1]at e2;injection e2 with z;exact hb z
 obtain⟨hd1,m1,z1,z2,z3,z4,z5⟩:=Qjx hh hs hi
 obtain⟨hd2,m2,y1,y2,y3,y4,y5⟩:=Qjx hh hs hj
 rw[e1]at z5
 rw[e2]at y5
 obtain⟨bd1,x1,l1,a1,a2,a3,a4,a5,a6,a7,a8⟩:=QjA hh hs z5
 obtain⟨bd2,x2,l2,c1,c2,c3,c4,c5,c6,c7,c8⟩:=QjA hh hs y5
 have oth:∀ {i j b1 b2 d2 X1 l1:Nat}{g2:List Nat},i≠j->lineAt h st j=.act b2 d2 g2->lineAt h ⟨st.ls.set i l1,st.ss.set b1 X1⟩ j=.act b2 d2 g2:=fun {i j b1 b2 d2 X1 l1 g2} hij e=>by
  unfold lineAt at e ⊢
  dsimp only
  rw[List.getElem?_set_ne hij]
  exact e
 rw[QjC e1 a1 a2 a5,QjC e2 c1 c2 c5]
 rw[QjC (oth hij e2) c1 (show (st.ss.set b1 _)[b2]?=some x2 by rw[List.getElem?_set_ne hb];exact c2) c5,QjC (oth (Ne.symm hij) e1) a1 (show (st.ss.set b2 _)[b1]?=some x1 by rw[List.getElem?_set_ne (Ne.symm hb)];exact a2) a5]
 dsimp only
 rw[List.set_comm _ _ hij,List.set_comm _ _ hb]
end
open PySem (Str)
section
variable {s:Sto}{Q:D->Sto->Prop}{h:Hs}{st:Sd}{k n:Nat}
def bOf (h:Hs) (st:Sd) (d:D):Int:=match d with
 | .int j=>(match lineAt h st j.toNat with
  | .act b _ _=>(b:Int)
  | _=>0)
 | _=>0
theorem Qkr {d:D} (hd:d∈freeL h st n):∃ j b dd gs,d=.int (j:Nat)/\j < n/\lineAt h st j=.act b dd gs:=by
 unfold freeL at hd
 obtain⟨j,hj,rfl⟩:=List.mem_map.mp hd
 rw[List.mem_filter,List.mem_range]at hj
 cases e:lineAt h st j with
 | settle v=>rw[e]at hj;cases hj.2
 | act b dd gs=>exact⟨j,b,dd,gs,rfl,hj.1,e⟩
theorem Qks (hh:HsOk h) (hs:SdOk h st) (hq:∀ s',Ext s s'->Q (.bl true) s'):wp (jk [hsD h,sdD st]) Q s:=by
 have z4:=hh.2.2.2.1
 have qf:∀ Q s,wp (ju [hsD h,sdD st]) Q s=Q (.ref s.length) (s++[.lst (freeL h st h.hands.length)]):=fun Q s=>free_ok hh hs
 have fl:(freeL h st h.hands.length).length<=3:=by
  unfold freeL
  rw[List.length_map]
  exact Nat.le_trans (List.length_filter_le _ _) (by rw[List.length_range];ac_nf)
 (simp_arith [jk];simp_arith [jy,↓qf])
 have x1:Ext s (s++[.lst (freeL h st h.hands.length)]):=(Ext.refl _).snoc _
 have g1:(s++[MO.lst (freeL h st h.hands.length)])[s.length]?=some (.lst (freeL h st h.hands.length)):=by simp
 generalize s++[MO.lst (freeL h st h.hands.length)]=s1 at *
 have q1:∀ Q,wp (getL s.length) Q s1=Q (freeL h st h.hands.length) s1:=fun Q=>QgZ g1
 simp_arith [↓q1]
 refine Qhb (fun i l s'=>∃ x3 x4 x5 x6 x7,l=[some (hsD h),some (sdD st),some (.ref s.length),x3,x4,x5,x6,x7]/\s'[s.length]?=some (.lst (freeL h st h.hands.length))/\Ext s s') (fun _ _ _ ⟨_,_,_,_,_,_,a,_⟩=>a) ⟨_,_,_,_,_,rfl,g1,x1⟩ (fun i d l s' hd ⟨x3,x4,x5,x6,x7,el,g,ex⟩=>?_) (fun l s' ⟨x3,x4,x5,x6,x7,el,g,ex⟩=>?_)
 ·subst el
  obtain⟨ii,b1,d1,gs1,rfl,hi,e1⟩:=Qkr (List.mem_of_getElem? hd)
  have q2:∀ Q,wp (getL s.length) Q s'=Q (freeL h st h.hands.length) s':=fun Q=>QgZ g
  have l3:(freeL h st h.hands.length).length<=lim:=Qg9 (by ac_nf)
  have ai:∀ Q s,wp (ji [hsD h,sdD st,.int (ii:Nat)]) Q s=Q (.tup [.str "do",.int (b1:Nat),.int (d1:Nat),.tup (gs1.map natD)]) s:=fun Q s=>by rw[Qjz hh hs hi,e1];rfl
  have w:∀ Q,wp (collect (gVar 0) (tCmpB (c2 neD (c2 subsD (cCall ji (cCons (cVar 1) (cCons (cVar 2) (cCons (cVar 0) cNil)))) (cCon (.int 1))) (c2 subsD (cCall ji (cCons (cVar 1) (cCons (cVar 2) (cCons (cVar 3) cNil)))) (cCon (.int 1))))) (cVar 0) (sameL s.length (freeL h st h.hands.length)) (freeL h st h.hands.length) [none,some (hsD h),some (sdD st),some (.int (ii:Nat))]) Q s'=Q (((freeL h st h.hands.length).filter fun d => !(bOf h st d == (b1:Int))).map id) s':=fun Q=>
   Qh2 (l0:=[]) (fun l=>∃ x,l=[x,some (hsD h),some (sdD st),some (.int (ii:Nat))]) (fun d => !(bOf h st d == (b1:Int))) id g _ _ ⟨none,rfl⟩ (fun d hd l pq126=>by
    obtain⟨x,el⟩:=pq126
    subst el
    obtain⟨j,b2,d2,gs2,rfl,hj,e2⟩:=Qkr hd
    have aj:∀ Q s,wp (ji [hsD h,sdD st,.int (j:Nat)]) Q s=Q (.tup [.str "do",.int (b2:Nat),.int (d2:Nat),.tup (gs2.map natD)]) s:=fun Q s=>by rw[Qjz hh hs hj,e2];rfl
    have bj:bOf h st (.int (j:Nat))=(b2:Int):=by show (match lineAt h st ((j:Nat):Int).toNat with | .act b _ _=>(b:Int) | _=>0)=_;rw[Int.toNat_natCast,e2]
    refine⟨[some (.int (j:Nat)),some (hsD h),some (sdD st),some (.int (ii:Nat))],fun G=>by rw[x_gvar];rfl,⟨_,rfl⟩,fun T=>?_,fun Q=>by simp_arith [];rfl⟩
    simp_arith [↓ai,↓aj,bj]) Q
  simp_arith [↓q2,capt,l3]
  rw[w,List.map_id]
  have hmem:∀ d∈(freeL h st h.hands.length).filter (fun d => !(bOf h st d == (b1:Int))),∃ j b2 d2 gs2,d=.int (j:Nat)/\j < h.hands.length/\lineAt h st j=.act b2 d2 gs2/\b1≠b2:=fun d hd=>by
   rw[List.mem_filter]at hd
   obtain⟨j,b2,d2,gs2,rfl,hj,e2⟩:=Qkr hd.1
   have bj:bOf h st (.int (j:Nat))=(b2:Int):=by show (match lineAt h st ((j:Nat):Int).toNat with | .act b _ _=>(b:Int) | _=>0)=_;rw[Int.toNat_natCast,e2]
   refine⟨j,b2,d2,gs2,rfl,hj,e2,fun z=>?_⟩
   have:=hd.2
   rw[bj,z]at this
   simp at this
  have g2:∀ o:MO,(s'++[o])[s.length]?=some (.lst (freeL h st h.hands.length)):=fun o=>(Ext.snoc (Ext.refl _) _).at_ g
  generalize (freeL h st h.hands.length).filter (fun d => !(bOf h st d == (b1:Int)))=us at *
  have g3:(s'++[MO.lst us])[s'.length]?=some (.lst us):=by simp
  have g2:=g2 (.lst us)
  have ex2:Ext s (s'++[MO.lst us]):=ex.snoc _
  try simp_arith []
  generalize s'++[MO.lst us]=s2 at *
  have q3:∀ Q,wp (getL s'.length) Q s2=Q us s2:=fun Q=>QgZ g3
  simp_arith [↓q3]
  refine Qhb (fun i l s3=>∃ x5 x6 x7,l=[some (hsD h),some (sdD st),some (.ref s.length),some (.int (ii:Nat)),some (.ref s'.length),x5,x6,x7]/\s3=s2) (fun _ _ _ ⟨_,_,_,_,e⟩=>by rw[e];exact g3) ⟨_,_,_,rfl,rfl⟩ (fun i d l s3 hd2 ⟨x5,x6,x7,el,es⟩=>?_) (fun l s3 ⟨x5,x6,x7,el,es⟩=>?_)
  ·subst el
   subst es
   obtain⟨j,b2,d2,gs2,rfl,hj,e2,hb⟩:=hmem d (List.mem_of_getElem? hd2)
   have bi:∀ Q s,wp (jb [hsD h,sdD st,.int (ii:Nat)]) Q s=Q (sdD (beh h st ii)) s:=fun Q s=>QjH hh hs hi
   have bj:∀ Q s,wp (jb [hsD h,sdD st,.int (j:Nat)]) Q s=Q (sdD (beh h st j)) s:=fun Q s=>QjH hh hs hj
   have bij:∀ Q s,wp (jb [hsD h,sdD (beh h st ii),.int (j:Nat)]) Q s=Q (sdD (beh h (beh h st ii) j)) s:=fun Q s=>QjH hh (QjE hh hs hi) hj
   have bji:∀ Q s,wp (jb [hsD h,sdD (beh h st j),.int (ii:Nat)]) Q s=Q (sdD (beh h (beh h st ii) j)) s:=fun Q s=>by rw[QjH hh (QjE hh hs hj) hi,Qkq hh hs hi hj e1 e2 hb]
   have nq:∀ Q s,wp (neD (sdD (beh h (beh h st ii) j)) (sdD (beh h (beh h st ii) j))) Q s=Q (.bl false) s:=fun Q s=>QhK (n:=2) QjI (by ac_nf)
   simp_arith [↓bi,↓bj,↓bij,↓bji,↓nq]
   exact⟨_,_,_,rfl⟩
  ·subst el
   subst es
   simp_arith []
   exact⟨_,_,_,_,_,rfl,g2,ex2⟩
 ·subst el
  simp_arith []
  exact hq _ ex
end
open PySem (Str)
section
variable {s:Sto}{Q:D->Sto->Prop}{h:Hs}{st:Sd}{k n:Nat}
theorem Qkt {a b:List Nat}:endS h st (a++b)=endS h (endS h st a) b:=by unfold endS;rw[List.foldl_append]
theorem Qku {v:Nat} (e:lineAt h st k=.settle v):∀ m,endS h st (List.replicate m k)=st
 | 0=>rfl
 | m + 1=>by
  rw[List.replicate_succ]
  show endS h (beh h st k) (List.replicate m k)=st
  rw[QjD e]
  exact Qku e m
theorem Qkv {n:Nat}:(List.replicate n (D.bl true)).all flatD=true/\((List.replicate n (D.bl true)).any fun d=>eqFl d (.bl false))=false:=by
 constructor
 ·rw[List.all_eq_true]
  intro d hd
  rw[List.eq_of_mem_replicate hd];rfl
 ·rw[Bool.eq_false_iff]
  intro z
  rw[List.any_eq_true]at z
  obtain⟨d,hd,e⟩:=z
  rw[List.eq_of_mem_replicate hd]at e
  cases e
theorem Qkw {n:Nat}:wp (inL (.bl false) (List.replicate n (.bl true))) Q s=Q (.bl false) s:=by
 unfold inL
 rw[wp_chk,wp_ret,Qkv.2]
 exact propext ⟨fun z=>z.2,fun z=>⟨⟨rfl,Qkv.1⟩,z⟩⟩
theorem Qkx {n:Nat}:wp (ninL (.bl false) (List.replicate n (.bl true))) Q s=Q (.bl true) s:=by
 unfold ninL
 rw[wp_chk,wp_ret,Qkv.2]
 exact propext ⟨fun z=>z.2,fun z=>⟨⟨rfl,Qkv.1⟩,z⟩⟩
theorem Qky {ts:List Nat}{a:Nat} (ha:a<=ts.length):(rowS h st ts (ts.length + 1)).drop a=rowS h (endS h st (ts.take a)) (ts.drop a) ((ts.drop a).length + 1):=by
 unfold rowS
 apply List.ext_getElem?
 intro i
 rw[List.getElem?_drop]
 by_cases hi:a + i < ts.length + 1
 ·rw[Qhm hi,Qhm (by rw[List.length_drop];ac_nf)]
  congr 2
  rw[<- Qkt,List.take_add]
 ·rw[List.getElem?_eq_none (by rw[Qho];ac_nf),List.getElem?_eq_none (by rw[Qho,List.length_drop];ac_nf)]
end
open PySem (Str)
section
variable {s:Sto}{Q:D->Sto->Prop}{h:Hs}{st:Sd}{k n:Nat}
theorem Qkz {p q N m : Nat} {A : List D -> Sto -> Prop} (hp : PotAt s p q) (hm : 0 < m) (hm2 : m <= 3) (hA : ∀ (ts : List Nat) s', ts.length = N -> (∀ t ∈ ts, t < m) -> PotAt s' p q -> Kept p q s s' -> A (ts.map natD) s') (hl : h.hands.length = m) :
  wp (collect (gVar 0) tTrue (cCall ja (cCons (cVar 1) (cCons (c1 lenD (c2 subsD (cVar 2) (cCon (.int 1)))) cNil))) anySt (rngD 0 N) [none,some (.ref p),some (hsD h)]) A s:=by
 refine Qg6 (fun i out s'=>∃ ts:List Nat,out=ts.map natD/\ts.length=i/\(∀ t∈ts,t < m)/\PotAt s' p q/\Kept p q s s') (fun _ _ s _=>trivial) ⟨[],rfl,rfl,fun _ z=>(nomatch z),hp,Kept.refl⟩ (fun i d out s1 _ ⟨ts,a0,a1,a2,a3,a4⟩=>?_) (fun out s1 pq131=>by obtain⟨ts,a0,a1,a2,a3,a4⟩:=pq131;rw[a0];exact hA ts s1 (by rw[a1,Qg8]) a2 a3 a4)
 simp_arith [hsD,List.length_map,hl]
 refine Qi7 a3 (by ac_nf) (by ac_nf) fun r s2 r0 r1 b2 k2=>?_
 obtain⟨t,rfl⟩:=Qjk r0
 refine⟨ts++[t],by rw[a0];simp[natD],by simp[a1],fun x hx=>?_,b2,a4.trans k2⟩
 rcases List.mem_append.mp hx with z | z
 ·exact a2 x z
 ·rw[List.mem_singleton]at z;rw[z];ac_nf
theorem QkA {xs:List Nat}{a:Nat} (ha:a<=xs.length):cutD (xs.map natD) none (some (a:Int))=(xs.take a).map natD:=by
 unfold cutD sIx
 have:(if (a:Int) < 0 then ((a:Int) + ((xs.map natD).length:Int)).toNat else min (a:Int).toNat (xs.map natD).length)=a:=by rw[if_neg (by ac_nf),List.length_map];ac_nf
 simp only[this]
 rw[List.drop_zero,<- List.map_take,Nat.sub_zero]
theorem QkB {α:Type}{F:α->D}{xs:List α}{a:Nat} (ha:a<=xs.length):cutD (xs.map F) (some (a:Int)) none=(xs.drop a).map F:=by
 unfold cutD sIx
 have:(if (a:Int) < 0 then ((a:Int) + ((xs.map F).length:Int)).toNat else min (a:Int).toNat (xs.map F).length)=a:=by rw[if_neg (by ac_nf),List.length_map];ac_nf
 simp only[this]
 rw[List.take_of_length_le (by rw[List.length_drop];exact Nat.le_refl _),<- List.map_drop]
theorem QkC {v:Nat}:wp (isntD (natD v) .non) Q s=Q (.bl true) s:=wp_eq rfl
theorem QkD (ns:List Int) (hn:ns.length<=63) (s0:Sto):wp (jv [.lit (ns.map D.int)]) (fun d _=>d=.bl true) s0:=by
 (simp_arith [jv];simp_arith [jN])
 refine Qi8 fun p q s1 hp1 _ _=>?_
 try simp_arith []
 refine Qjs hp1 fun h s2 hb hp2 k2=>?_
 have hh:=hb.1
 have z3:=hh.2.2.1
 have z4:=hh.2.2.2.1
 try simp_arith []
 refine Qjw hh hp2 fun st s3 hs hp3 k3=>?_
 try simp_arith []
 refine Qi7 hp3 (by ac_nf) (by ac_nf) fun N s4 N0 N1 hp4 k4=>?_
 obtain⟨N,rfl⟩:=Qjk N0
 have hbN:=Qi9 (show N<=100 by ac_nf)
 have lN:N<=lim:=Qg9 (by ac_nf)
 simp_arith [hbN,Int.toNat_natCast,capt,Qg8,lN]
 refine Qkz hp4 (m:=h.hands.length) (by ac_nf) (by ac_nf) (fun ts s5 hl5 ht hp5 k5=>?_) rfl
 simp_arith []
 have g6:(s5++[MO.lst (ts.map natD)])[s5.length]?=some (.lst (ts.map natD)):=by simp
 have hp6:PotAt (s5++[.lst (ts.map natD)]) p q:=hp5.snoc
 generalize s5++[MO.lst (ts.map natD)]=s6 at *
 have lt5:=hp5.lt
 have lt6:=hp6.lt
 have sz6:=Qi6 g6
 refine Qj6 hh hs g6 ht (by ac_nf) fun r s7 hr g7 x7=>?_
 have hp7:PotAt s7 p q:=by
  obtain⟨y1,⟨y2,y3,y4,y5,y6,y7⟩⟩:=hp6
  exact⟨y1,⟨y2,y3,y4,x7.at_ y5,x7.at_ y6,y7⟩⟩
 have g67:s7[s5.length]?=some (.lst (ts.map natD)):=x7.at_ g6
 have rl:(rowS h st ts (ts.length + 1)).length=ts.length + 1:=Qho
 have q7:∀ Q,wp (getL r) Q s7=Q (rowS h st ts (ts.length + 1)) s7:=fun Q=>QgZ g7
 simp_arith [↓q7,rl]
 refine Qi7 hp7 (by ac_nf) (by ac_nf) fun at_ s8 a0 a1 hp8 k8=>?_
 obtain⟨a,rfl⟩:=Qjk a0
 have ha:a<=ts.length:=by ac_nf
 have g8:s8[r]?=some (.lst (rowS h st ts (ts.length + 1))):=k8.same (by ac_nf) (by ac_nf) g7
 have g8t:s8[s5.length]?=some (.lst (ts.map natD)):=k8.same (by ac_nf) (by ac_nf) g67
 have q8:∀ Q,wp (getL r) Q s8=Q (rowS h st ts (ts.length + 1)) s8:=fun Q=>QgZ g8
 have q8t:∀ Q,wp (getL s5.length) Q s8=Q (ts.map natD) s8:=fun Q=>QgZ g8t
 have ih:∀ Q s,wp (itemD (rowS h st ts (ts.length + 1)) (a:Int)) Q s=Q (sdD (endS h st (ts.take a))) s:=fun Q s=>Qhv (by ac_nf)
 have sda:SdOk h (endS h st (ts.take a)):=Qj4 hh hs fun x hx=>ht x (List.mem_of_mem_take hx)
 have lt20:ts.length<=lim:=Qg9 (by ac_nf)
 have hbh:=Qi9 (show h.hands.length<=100 by ac_nf)
 have lh:wp (subsD (hsD h) (.int 1))=fun Q s=>Q (.tup (h.hands.map hdD)) s:=by funext Q s;exact QjL
 simp_arith [↓q8,↓ih,↓q8t,↓lh,List.length_map,lt20,hbh,Int.toNat_natCast,Qhs]
 refine Qhy (n:=h.hands.length) (fun i l s'=>∃ x9,∃ mr:Nat,∃ ms:List Nat,l=[some (.lit (ns.map D.int)),some (.ref p),some (hsD h),some (sdD st),some (.ref s5.length),some (.ref r),some (.int (a:Nat)),some (sdD (endS h st (ts.take a))),some (.ref mr),x9]/\s'[mr]?=some (.lst (ms.map natD))/\(∀ t∈ms,t < h.hands.length)/\ms.length<=30/\endS h st ms=endS h st ts/\s'[s5.length]?=some (.lst (ts.map natD))/\s'[r]?=some (.lst (rowS h st ts (ts.length + 1)))) (fun _ _ _ _=>trivial) ⟨_,_,ts,rfl,by simp,ht,by ac_nf,rfl,(Ext.snoc (Ext.refl _) _).at_ g8t,(Ext.snoc (Ext.refl _) _).at_ g8⟩ (fun i l s' hi ⟨x9,mr,ms,el,m1,m2,m3,m4,m5,m6⟩=>?_) (fun l s' ⟨x9,mr,ms,el,m1,m2,m3,m4,m5,m6⟩=>?_)
 ·subst el
  have qs:∀ Q s,wp (jc [hsD h,sdD (endS h st (ts.take a))]) Q s=Q (.tup (setV h (endS h st (ts.take a)))) s:=fun Q s=>QjM hh sda
  have qi:∀ Q s,wp (itemD (setV h (endS h st (ts.take a))) (i:Int)) Q s=Q (valD (lineAt h (endS h st (ts.take a)) i)) s:=fun Q s=>by
   unfold setV
   rw[Qhv hi]
  simp_arith [↓qs,↓qi]
  cases hl:lineAt h (endS h st (ts.take a)) i with
  | act b d gs=>
   simp only[valD,↓Qkn]
   simp_arith []
   exact⟨_,mr,ms,rfl,m1,m2,m3,m4,m5,m6⟩
  | settle v=>
   have q5:∀ Q,wp (getL s5.length) Q s'=Q (ts.map natD) s':=fun Q=>QgZ m5
   have l1:1<=lim:=Qg9 (by ac_nf)
   have em:(1 + (i:Int) % 2)=((1 + i % 2:Nat):Int):=by ac_nf
   have h2:(0:Int) < 2:=by ac_nf
   simp only[valD,↓QkC]
   simp_arith [↓q5,QkA ha,l1,h2]
   rw[em,Int.toNat_natCast]
   have er:(List.replicate (1 + i % 2) [D.int (i:Nat)]).flatten=(List.replicate (1 + i % 2) i).map natD:=by rw[List.map_replicate];simp[natD]
   rw[er]
   generalize hA:(ts.take a).map natD=A
   generalize hB:(List.replicate (1 + i % 2) i).map natD=B
   have lA:A.length<=21:=by rw[<- hA,List.length_map,List.length_take];ac_nf
   have lB:B.length<=2:=by rw[<- hB,List.length_map,List.length_replicate];ac_nf
   have gA:(s'++[MO.lst A]++[MO.lst B])[s'.length]?=some (.lst A):=by simp
   have gB:(s'++[MO.lst A]++[MO.lst B])[(s'++[MO.lst A]).length]?=some (.lst B):=by simp
   have m5':(s'++[MO.lst A]++[MO.lst B])[s5.length]?=some (.lst (ts.map natD)):=(((Ext.refl _).snoc _).snoc _).at_ m5
   have m6':(s'++[MO.lst A]++[MO.lst B])[r]?=some (.lst (rowS h st ts (ts.length + 1))):=(((Ext.refl _).snoc _).snoc _).at_ m6
   refine⟨⟨⟨by ac_nf,by ac_nf⟩,Qg9 (by ac_nf)⟩,?_⟩
   rw[Qhe gA gB]
   refine⟨Qg9 (by ac_nf),?_⟩
   generalize s'++[MO.lst A]++[MO.lst B]=s9 at *
   have m5a:(s9++[MO.lst (A++B)])[s5.length]?=some (.lst (ts.map natD)):=((Ext.refl _).snoc _).at_ m5'
   have q9:∀ Q,wp (getL s5.length) Q (s9++[MO.lst (A++B)])=Q (ts.map natD) (s9++[MO.lst (A++B)]):=fun Q=>QgZ m5a
   simp_arith [↓q9]
   rw[QkB ha]
   generalize hC:(ts.drop a).map natD=C
   have lC:C.length<=21:=by rw[<- hC,List.length_map,List.length_drop];ac_nf
   have gAB:(s9++[MO.lst (A++B)]++[MO.lst C])[s9.length]?=some (.lst (A++B)):=by simp
   have gC:(s9++[MO.lst (A++B)]++[MO.lst C])[(s9++[MO.lst (A++B)]).length]?=some (.lst C):=by simp
   rw[Qhe gAB gC]
   refine⟨Qg9 (by rw[List.length_append];ac_nf),?_⟩
   simp_arith []
   refine⟨_,_,ts.take a++List.replicate (1 + i % 2) i++ts.drop a,rfl,by rw[<- hA,<- hB,<- hC];simp,fun t htt=>?_,?_,?_,(((Ext.refl _).snoc _).snoc _).snoc _ |>.at_ m5',(((Ext.refl _).snoc _).snoc _).snoc _ |>.at_ m6'⟩
   ·rcases List.mem_append.mp htt with z | z
    ·rcases List.mem_append.mp z with z | z
     ·exact ht t (List.mem_of_mem_take z)
     ·rw[List.eq_of_mem_replicate z];exact hi
    ·exact ht t (List.mem_of_mem_drop z)
   ·rw[List.length_append,List.length_append,List.length_take,List.length_drop,List.length_replicate];ac_nf
   ·rw[Qkt,Qkt,Qku hl,<- Qkt,List.take_append_drop]
 ·subst el
  simp_arith []
  refine Qj6 hh hs m1 m2 (by ac_nf) fun r2 sa hr2 ga xa=>?_
  have qa:∀ Q,wp (getL r2) Q sa=Q (rowS h st ms (ms.length + 1)) sa:=fun Q=>QgZ ga
  have ma5:sa[s5.length]?=some (.lst (ts.map natD)):=xa.at_ m5
  have ma6:sa[r]?=some (.lst (rowS h st ts (ts.length + 1))):=xa.at_ m6
  have qr:∀ Q,wp (getL r) Q sa=Q (rowS h st ts (ts.length + 1)) sa:=fun Q=>QgZ ma6
  have qt:∀ Q,wp (getL s5.length) Q sa=Q (ts.map natD) sa:=fun Q=>QgZ ma5
  have il:∀ Q s,wp (itemD (rowS h st ms (ms.length + 1)) (-1)) Q s=Q (sdD (endS h st ts)) s:=fun Q s=>by
   rw[show rowS h st ms (ms.length + 1)=upto (ms.length + 1) _ from rfl,Qj5,List.take_length,m4]
  have ir:∀ Q s,wp (itemD (rowS h st ts (ts.length + 1)) (-1)) Q s=Q (sdD (endS h st ts)) s:=fun Q s=>by
   rw[show rowS h st ts (ts.length + 1)=upto (ts.length + 1) _ from rfl,Qj5,List.take_length]
  have nq:∀ Q s,wp (neD (sdD (endS h st ts)) (sdD (endS h st ts))) Q s=Q (.bl false) s:=fun Q s=>QhK (n:=2) QjI (by ac_nf)
  simp_arith [↓qa,↓qr,↓il,↓ir,↓nq,↓qt]
  rw[QkB ha]
  have gd:(sa++[MO.lst ((ts.drop a).map natD)])[sa.length]?=some (.lst ((ts.drop a).map natD)):=by simp
  have mb6:(sa++[MO.lst ((ts.drop a).map natD)])[r]?=some (.lst (rowS h st ts (ts.length + 1))):=((Ext.refl _).snoc _).at_ ma6
  generalize sa++[MO.lst ((ts.drop a).map natD)]=sb at *
  refine Qj6 hh sda gd (fun t htt=>ht t (List.mem_of_mem_drop htt)) (by rw[List.length_drop];ac_nf) fun r3 sc hr3 gc xc=>?_
  have mc6:sc[r]?=some (.lst (rowS h st ts (ts.length + 1))):=xc.at_ mb6
  have qr2:∀ Q,wp (getL r) Q sc=Q (rowS h st ts (ts.length + 1)) sc:=fun Q=>QgZ mc6
  have ec:cutD (rowS h st ts (ts.length + 1)) (some (a:Int)) none=rowS h (endS h st (ts.take a)) (ts.drop a) ((ts.drop a).length + 1):=by
   rw[<- Qky ha]
   have:=@QkB D id (rowS h st ts (ts.length + 1)) a (by rw[rl];ac_nf)
   rw[List.map_id,List.map_id]at this
   exact this
  simp_arith [↓qr2]
  rw[ec]
  generalize hR:rowS h (endS h st (ts.take a)) (ts.drop a) ((ts.drop a).length + 1)=R at *
  have pdR:∀ d∈R,Pd 2 d:=fun d hd=>by
   rw[<- hR]at hd
   unfold rowS upto at hd
   obtain⟨t,_,rfl⟩:=List.mem_map.mp hd
   exact QjI
  have gc2:(sc++[MO.lst R])[r3]?=some (.lst R):=((Ext.refl _).snoc _).at_ gc
  have gc3:(sc++[MO.lst R])[sc.length]?=some (.lst R):=by simp
  have md6:(sc++[MO.lst R])[r]?=some (.lst (rowS h st ts (ts.length + 1))):=((Ext.refl _).snoc _).at_ mc6
  rw[QhL (n:=2) gc2 gc3 pdR (by ac_nf)]
  generalize sc++[MO.lst R]=sd at *
  have qd:∀ Q,wp (getL r) Q sd=Q (rowS h st ts (ts.length + 1)) sd:=fun Q=>QgZ md6
  have lr:ts.length + 1<=lim:=Qg9 (by ac_nf)
  simp_arith [↓qd,capt,rl,lr]
  refine Qg6 (fun i out s'=>out=List.replicate i (.bl true)/\Ext sd s') (fun _ _ s' h=>h.2.at_ md6) ⟨rfl,Ext.refl _⟩ (fun i d out s' hd ⟨a1,a2⟩=>?_) (fun out s' ⟨a1,a2⟩=>?_)
  ·unfold rowS at hd
   obtain⟨hi,ed⟩:=Qhn hd
   subst ed
   simp_arith []
   refine Qks hh (Qj4 hh hs fun x hx=>ht x (List.mem_of_mem_take hx)) fun s3 x3=>?_
   exact⟨by rw[a1,<- List.replicate_succ'],a2.trans x3⟩
  ·rw[a1,Qkw]
   have lh2:h.hands.length<=lim:=Qg9 (by ac_nf)
   simp_arith [↓lh,List.length_map,hbh,Int.toNat_natCast,Qhs,Qho,capt,lh2]
   refine Qhz (fun i out s'=>out=List.replicate i (.bl true)) (fun _ _ _ _=>trivial) rfl (fun i out s' hi a3=>?_) (fun out s' a3=>?_)
   ·simp_arith []
    refine Qkp hb sda hi fun s3 x3=>?_
    rw[a3,<- List.replicate_succ']
   ·rw[a3,Qkx]
    simp_arith []
theorem QkE (ns:List Int) (hn:ns.length<=63):wp (jv [.lit (ns.map D.int)]) (fun d _=>d=.bl true) []:=QkD ns hn []
theorem law_true (ns:List Int) (hn:ns.length<=63):∃ st',jv [.lit (ns.map D.int)] []=.ok (.bl true) st':=QhV (QkE ns hn)
end
open PySem PySem.Spec PyProof.Rows L2
theorem walk {l : PySem.W.OpenLaw} {q : Program} {loose : List Str} {XP : (Str -> Option Value) -> Heap -> Prop} {YP : World -> Heap -> Prop} {d : DefRec} {K : Params -> PySem.W.Frag} (hn : l.most = some 63) (hdf : d.params.defaults = []) (hnm : d.name = "law")
  (hY:∀ (w:World) (h:Heap),YP w h->(K w.params).In h) (F:∀ (w:World) (mg:Str->Option Value) (h:Heap),(K w.params).In h->h.Ns mainGlobals mg->Txt (K w.params) mg):
  PySem.W.WalkO q loose XP YP l.row.toRowW d [] (fun f vs=>PySem.call f vs):=by
 refine L2.walk_ofK (n:=63) (k:=5) (x:="_law_script") (CX:=CX0) (K:=K) (sp:=fun K=>spOf K 1 jv) hn (by decide) hdf ⟨rfl,by decide,by decide⟩ hY (fun w mg fa h kin ns hmg=>?_) (fun K H a ns hl hO hS=>Qgq hO hS (law_true ns hl)) (fun _ _ _ _ z=>z)
 have T:=F w mg h kin ns
 obtain⟨a,fd,L,m⟩:=T.f19
 rw[hnm,m]at hmg
 cases hmg
 refine⟨fd,fun s u=>?_,fun base _ _=>jO L T⟩
 obtain⟨oc,od,kV,doc,pm,an,cdv,ct,osl,e,lk,hcd⟩:=L.ex
 rw[e]
 exact .of_eq rfl
end My
def PySem.W.Fast.tw16576254365843951202:PySem.Program:=PySem.Challenge.pw_pactboards_k26_whole_turns_in_another_or
theorem PySem.W.Fast.te16576254365843951202:PySem.Challenge.pw_pactboards_k26_whole_turns_in_another_or=PySem.W.Fast.tw16576254365843951202:=rfl
namespace PySem.W.Fast
def tw9384736928056395339:=0
def tw13878190315320338694:=0
def tw12607852399127749665:=0
def tw13675002006970360246:=0
def tw13690047332487867601:=0
def tw774248772457707362:=0
def tw12088103313499142464:=0
def tw1112961884950255475:=0
def tw2650613216268762072:=0
def tw1468321321421398925:=0
def tw9206570084983590427:=0
def tw5523244534580682271:=0
def tw10724321276379006107:=0
def tw9545160591745235107:=0
def tw16556999625912265198:=0
def tw17402158378269938110:=0
def tw1959741516379393872:=0
def tw3708296239064021133:=0
def tw4603890040564087791:=0
def tw10132098402097974625:=0
def tw2516851969680304843:=0
def tw5648274983833639352:=0
def tw7567156215193813010:=0
def tw4458757432242637844:=0
def tw4055682658751219316:=0
def tw4154167566098318770:=0
def tw14949146440208973639:=0
def tw15178226517708941863:=0
def tw17841240400304228026:=0
def tw8254729477511559141:=0
def tw14649639589573489659:=0
def tw8658775190251770957:=0
def tw14924095232478284670:=0
def tw176069485017919584:=0
def tw7094488371389743254:=0
def tw13540956468074035688:=0
def tw16736979454197451672:=0
def tw6977722613603921618:=0
def tw14034266909958838419:=0
def tw1496306912015832724:=0
def tw2342371714753493334:=0
def tw12240688804281006102:=0
def tw9487884120103863213:=0
def tw2251069939566694687:=0
def tw4205344998028377039:=0
def tw11536647123138741498:=0
def tw14247160663680119570:=0
def tw13366023195319928246:=0
def tw7506009435038163966:=0
def tw3434321198196722728:=0
def tw4254601825047162960:=0
def tw14920450794916051549:=0
def tw947336827367227608:=0
def tw11956664854079312585:=0
def tw2627713842743671445:=0
def tw16070723124126257438:=0
def tw9134500890325115235:=0
def tw13227149101622703065:=0
def tw13364278955194847343:=0
def tw6965979599792272080:=0
def tw8593247207654712238:=0
def tw17149391102582072950:=0
def tw18194496230222298329:=0
def tw7492989868656465532:=0
def tw11744368079677552653:=0
def tw9707559619188618697:=0
def tw686627239372925979:=0
def tw17185305574136341993:=0
def tw2103264669762040132:=0
def tw12850982040166949044:=0
def tw1969771565833762883:=0
def tw5724838210409768994:=0
def tw2414119724139618654:=0
def tw14288038606416877376:=0
def tw9017043872763043742:=0
def tw6478840574491436381:=0
def tw11194413066799197457:=0
def tw5940641892951115014:=0
def tw15247077638688305430:=0
def tw6394982278620902204:=0
def tw9547303253722347903:=0
def tw2252196169337465827:=0
def tw14967809246419590683:=0
def tw10930852850540064701:=0
def tw12681506513585897530:=0
def tw8520160489160188886:=0
def tw15417269403677833871:=0
def tw6282740149000375476:=0
def tw5910914443562799059:=0
def tw9183123028422124739:=0
def tw969145109354277418:=0
def tw8596057964185885911:=0
def tw8526955873178232183:=0
def tw6309677724838433016:=0
def tw12879102144281547027:=0
def tw11780053157849824331:=0
def tw13066262088233266945:=0
def tw18430584008419168578:=0
def tw10823132512951505349:=0
def tw11376341303889878104:=0
end PySem.W.Fast
open PySem PySem.W PyProof.Rows
set_option maxHeartbeats 0 in
theorem PySem.Challenge.cw_pactboards_k26_whole_turns_in_another_or_holds : PySem.Challenge.rw_pactboards_k26_whole_turns_in_another_or.Holds := by
 w_on;o_law;k_head;(case hw=>w_witness2)
 k_fill
 refine My.walk (l:=PySem.Challenge.rw_pactboards_k26_whole_turns_in_another_or) rfl rfl rfl (fun w h Y=>PySem.W.kIn_of Y) ?F
 case F=>
  intro w mg h KX G
  refine' My.Txt.mk (MM.fnat KX G ?a0 ?l0 ?c0 ?k0) (MM.fnat KX G ?a1 ?l1 ?c1 ?k1) (MM.fnat KX G ?a2 ?l2 ?c2 ?k2) (MM.fnat KX G ?a3 ?l3 ?c3 ?k3) (MM.fnat KX G ?a4 ?l4 ?c4 ?k4) (MM.fnat KX G ?a5 ?l5 ?c5 ?k5) (MM.fnat KX G ?a6 ?l6 ?c6 ?k6) (MM.fnat KX G ?a7 ?l7 ?c7 ?k7) (MM.fnat KX G ?a8 ?l8 ?c8 ?k8) (MM.fnat KX G ?a9 ?l9 ?c9 ?k9) (MM.fnat KX G ?a10 ?l10 ?c10 ?k10) (MM.fnat KX G ?a11 ?l11 ?c11 ?k11) (MM.fnat KX G ?a12 ?l12 ?c12 ?k12) (MM.fnat KX G ?a13 ?l13 ?c13 ?k13) (MM.fnat KX G ?a14 ?l14 ?c14 ?k14) (MM.fnat KX G ?a15 ?l15 ?c15 ?k15) (MM.fnat KX G ?a16 ?l16 ?c16 ?k16) (MM.fnat KX G ?a17 ?l17 ?c17 ?k17) (MM.fnat KX G ?a18 ?l18 ?c18 ?k18) (MM.fnat KX G ?a19 ?l19 ?c19 ?k19) (MM.z_cons (PySem.W.mg_none_of KX G ?z0) (MM.z_cons (PySem.W.mg_none_of KX G ?z1) (MM.z_cons (PySem.W.mg_none_of KX G ?z2) (MM.z_cons (PySem.W.mg_none_of KX G ?z3) (MM.z_cons (PySem.W.mg_none_of KX G ?z4) (MM.z_cons (PySem.W.mg_none_of KX G ?z5) (MM.z_cons (PySem.W.mg_none_of KX G ?z6) (MM.z_cons (PySem.W.mg_none_of KX G ?z7) (MM.z_cons (PySem.W.mg_none_of KX G ?z8) MM.z_nil))))))))) MM.c_nil
  case a0 | l0 | c0 | k0 | a1 | l1 | c1 | k1 | a2 | l2 | c2 | k2 | a3 | l3 | c3 | k3 | a4 | l4 | c4 | k4 | a5 | l5 | c5 | k5 | a6 | l6 | c6 | k6 | a7 | l7 | c7 | k7 | a8 | l8 | c8 | k8 | a9 | l9 | c9 | k9 | a10 | l10 | c10 | k10 | a11 | l11 | c11 | k11 | a12 | l12 | c12 | k12 | a13 | l13 | c13 | k13 | a14 | l14 | c14 | k14 | a15 | l15 | c15 | k15 | a16 | l16 | c16 | k16 | a17 | l17 | c17 | k17 | a18 | l18 | c18 | k18 | a19 | l19 | c19 | k19 | z0 | z1 | z2 | z3 | z4 | z5 | z6 | z7 | z8=>k_is