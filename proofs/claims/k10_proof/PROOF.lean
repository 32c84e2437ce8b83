import PyProof.Rows.All
import Wide.All
import OpenK.AllK
import Wide.FinOn
import Lean
import PyProof.EqAt
import PyProof.EqKinds
import PyProof.TupleCall
import PySem.Str
import PyProof.NeKinds
import PyProof.IsRules
import PyProof.Rows.StrRev
import KE.KSortTup
import PyProof.Rows.ZipGen
import KE.KRevIter
import KE.KDictList
import KE.KIntText
import PyProof.Rows.StrNews
import PyProof.Rows.StrJoin2
import PyProof.Rows.FStr
import PyProof.StrWalks
import PyProof.StrLawsTight
import KE.KSort
import PyProof.Rows.SetFrom
import KE.KDictSum
import PyProof.ExcInit
import PyProof.ExcClass3
import PyProof.ExcBaseAll.ValueError
import PyProof.ExcAttrAll.ValueError
import PyProof.ExcArgsOwn
import PySem.Challenge.RW_pactboards_k10_refusals
local macro_rules | `(tactic| nofun) => `(tactic| decide +kernel)
local macro_rules | `(tactic| ac_nf) => `(tactic| first | lia | omega)
set_option genSizeOf false
set_option Elab.async false
set_option linter.all false
set_option maxRecDepth 100000
set_option maxHeartbeats 4000000
namespace L2
open PySem PySem.Spec PyProof.Rows
noncomputable abbrev Key := Sum Int Str
noncomputable def keyIs : Key → Value → Bool
 | .inl k, v => Value.isInt k v
 | .inr x, v => Value.isStrOf x v
noncomputable def keyH (w : World) : Key → Int
 | .inl k => hashInt k
 | .inr x => hashStr w x
theorem keyIs_shape : ∀ {k : Key} {v : Value}, keyIs k v = true → (∃ i t, k = Sum.inl i ∧ v = Value.int i t) ∨ (∃ x t, k = Sum.inr x ∧ v = Value.str x t)
 | .inl i, v, h => by
  obtain ⟨t, e⟩ := Value.isInt_shape (k := i) (v := v) h
  exact .inl ⟨i, t, rfl, e⟩
 | .inr x, v, h => by
  obtain ⟨t, e⟩ := Value.isStrOf_shape (x := x) (v := v) h
  exact .inr ⟨x, t, rfl, e⟩
theorem Qaa (i : Int) (t : Tok) : keyIs (.inl i) (.int i t) = true := by simp [keyIs, Value.isInt]
theorem Qab (x : Str) (t : Tok) : keyIs (.inr x) (.str x t) = true := by simp [keyIs, Value.isStrOf]
theorem Qac (a b : Int) : decide ((Sum.inl a : Key) = Sum.inl b) = (a == b) := by
 by_cases e : a = b
 ·subst e; simp
 ·have h : ¬ (Sum.inl a : Key) = Sum.inl b := fun q => e (Sum.inl.inj q)
  rw [decide_eq_false h]
  exact (beq_eq_false_iff_ne.mpr e).symm
theorem Qad (a b : Str) : decide ((Sum.inr a : Key) = Sum.inr b) = decide (a = b) := by
 by_cases e : a = b
 ·subst e; simp
 ·have h : ¬ (Sum.inr a : Key) = Sum.inr b := fun q => e (Sum.inr.inj q)
  rw [decide_eq_false h, decide_eq_false e]
theorem Qae (a : Int) (b : Str) : decide ((Sum.inl a : Key) = Sum.inr b) = false := decide_eq_false (fun q => nomatch q)
theorem Qaf (a : Str) (b : Int) : decide ((Sum.inr a : Key) = Sum.inl b) = false := decide_eq_false (fun q => nomatch q)
noncomputable def mixKind (prog : Program) (w : World) : PySem.KeyKind prog w Key where
 is := keyIs
 hash := keyH w
 inj := fun v a b ha hb => by
  rcases keyIs_shape ha with ⟨i, t, rfl, rfl⟩ | ⟨x, t, rfl, rfl⟩
  ·rcases keyIs_shape hb with ⟨j, u, rfl, e⟩ | ⟨y, u, rfl, e⟩
   ·injection e with e1 _; rw [e1]
   ·exact nomatch e
  ·rcases keyIs_shape hb with ⟨j, u, rfl, e⟩ | ⟨y, u, rfl, e⟩
   ·exact nomatch e
   ·injection e with e1 _; rw [e1]
 byValue := fun k v h => by
  rcases keyIs_shape h with ⟨i, t, rfl, rfl⟩ | ⟨x, t, rfl, rfl⟩ <;> rfl
 pyHash := fun hv h => by
  rcases keyIs_shape hv with ⟨i, t, rfl, rfl⟩ | ⟨x, t, rfl, rfl⟩
  ·exact wpAny_pyHash_int h
  ·exact wpAny_pyHash_str h
 eqBool := fun hu hv h => by
  rcases keyIs_shape hu with ⟨i, t, rfl, rfl⟩ | ⟨x, t, rfl, rfl⟩
  ·rcases keyIs_shape hv with ⟨j, u, rfl, rfl⟩ | ⟨y, u, rfl, rfl⟩
   ·rw [Qac] at h; exact wpAny_eqBool_int h
   ·rw [Qae] at h; exact SeqAt.EqAt.int_str i t y u _ _ _ _ h
  ·rcases keyIs_shape hv with ⟨j, u, rfl, rfl⟩ | ⟨y, u, rfl, rfl⟩
   ·rw [Qaf] at h; exact SeqAt.EqAt.str_int x t j u _ _ _ _ h
   ·rw [Qad] at h; exact wpAny_eqBool_str h
 «strs» := fun k x t v h => by
  rcases keyIs_shape h with ⟨i, u, rfl, e⟩ | ⟨y, u, rfl, e⟩
  ·exact nomatch e
  ·injection e with e1 _
   subst e1
   cases v <;> rfl
theorem Qag (prog : Program) (w : World) (i : Int) (t : Tok) : (mixKind prog w).is (.inl i) (.int i t) = true := Qaa i t
theorem Qah (prog : Program) (w : World) (x : Str) (t : Tok) : (mixKind prog w).is (.inr x) (.str x t) = true := Qab x t
end L2
namespace L2
open PySem PySem.Spec PyProof.Rows
inductive V where
 | non | bl (b : Bool) | int (i : Int) | str (x : Str) | byt (b : Array UInt8) | flt (b : UInt64) | ref (a : Addr) | ty (n : String)
 deriving DecidableEq
noncomputable def RelV : V → Value → Prop
 | .non, u => u = Value.none
 | .bl b, u => u = Value.bool b
 | .int i, u => ∃ t, u = Value.int i t
 | .str x, u => ∃ t, u = Value.str x t
 | .byt b, u => ∃ t, u = Value.bytes b t
 | .flt b, u => ∃ t, u = Value.float b t
 | .ref a, u => u = Value.ref a
 | .ty n, u => u = Value.type n
noncomputable abbrev Vals : List V → List Value → Prop := Paired RelV
theorem Vals.length {xs : List V} {us : List Value} (r : Vals xs us) : xs.length = us.length := Paired.length r
theorem Vals.get : ∀ {xs : List V} {us : List Value} {i : Nat} {x : V}, Vals xs us → xs[i]? = some x → ∃ u, us[i]? = some u ∧ RelV x u
 | _, _, _, _, .nil, e => by simp at e
 | _, _, 0, _, .cons r _, e => by simp at e; subst e; exact ⟨_, rfl, r⟩
 | _, _, i + 1, x, .cons _ t, e => by
  obtain ⟨u, h1, h2⟩ := Vals.get (i := i) (x := x) t (by simpa using e)
  exact ⟨u, by simpa using h1, h2⟩
theorem Vals.set {x : V} {u : Value} (r : RelV x u) : ∀ {xs : List V} {us : List Value} (i : Nat), Vals xs us → Vals (xs.set i x) (us.set i u)
 | _, _, _, .nil => .nil
 | _, _, 0, .cons _ t => .cons r t
 | _, _, i + 1, .cons q t => .cons q (Vals.set r i t)
theorem Vals.append : ∀ {xs ys : List V} {us ws : List Value}, Vals xs us → Vals ys ws → Vals (xs ++ ys) (us ++ ws)
 | _, _, _, _, .nil, s => s
 | _, _, _, _, .cons r t, s => .cons r (Vals.append t s)
theorem Vals.take : ∀ {xs : List V} {us : List Value} (n : Nat), Vals xs us → Vals (xs.take n) (us.take n)
 | _, _, 0, _ => .nil
 | _, _, _ + 1, .nil => .nil
 | _, _, n + 1, .cons r t => .cons r (Vals.take n t)
theorem Vals.drop : ∀ {xs : List V} {us : List Value} (n : Nat), Vals xs us → Vals (xs.drop n) (us.drop n)
 | _, _, 0, r => r
 | _, _, _ + 1, .nil => .nil
 | _, _, n + 1, .cons _ t => Vals.drop n t
theorem Vals.none_of : ∀ {xs : List V} {us : List Value} {i : Nat}, Vals xs us → xs[i]? = none → us[i]? = none := fun {xs us i} r e => by
 have h1 := r.length
 have h2 : xs.length ≤ i := List.getElem?_eq_none_iff.mp e
 exact List.getElem?_eq_none_iff.mpr (by ac_nf)
noncomputable def RelO : Option V → Option Value → Prop
 | some v, some u => RelV v u
 | none, none => True
 | _, _ => False
noncomputable def KV {κ : Type} : List (κ × V) → List (κ × Value) → Prop := Paired fun (p : κ × V) (q : κ × Value) => p.1 = q.1 ∧ RelV p.2 q.2
noncomputable def kV : Key → V
 | .inl i => .int i
 | .inr x => .str x
inductive HO where
 | lst (xs : List V)
 | tup (xs : List V)
 | dK (kvs : List (Key × V)) | dT (kvs : List (List Key × V))
 | set (S : Int → Bool) (n : Nat)
 | ins (C dx : Addr) (fs : List (Str × V))
 | own (x : Addr)
 | xd (fs : List (Str × V))
 | met (f x : Addr)
 | rng (lo hi : Int)
 | frz (o : Obj) (u : HO)
 | tbl (ps : Array Value)
 | ext (φ : Heap → Prop)
noncomputable abbrev Hp := Addr → Option HO
noncomputable def upd (H : Hp) (a : Addr) (o : HO) : Hp := fun b => if b = a then some o else H b
theorem Qai {H : Hp} {a : Addr} {o : HO} : upd H a o a = some o := by unfold upd; rw [if_pos rfl]
theorem Qaj {H : Hp} {a b : Addr} {o : HO} (h : b ≠ a) : upd H a o b = H b := by unfold upd; rw [if_neg h]
theorem Qak {H : Hp} {a b : Addr} {o u : HO} (h : H a = some o) (h' : H b = some u) (d : o ≠ u) : a ≠ b := by
 intro e; subst e; rw [h] at h'; exact d (Option.some.inj h')
theorem Qal {H : Hp} {a b : Addr} {o : HO} (h : H a = some o) (h' : H b = none) : a ≠ b := by
 intro e; subst e; rw [h] at h'; cases h'
section
variable (P : Program) (w : World)
noncomputable def ObjOk (H : Hp) (h : Heap) (a : Addr) : HO → Prop
 | .lst xs => xs.length ≤ sizeLine ∧ ∃ (its : List Value) (n : Nat), Vals xs its ∧ h.get? a = some { cls := .type "list", data := .seq its.toArray n }
 | .tup xs => xs.length ≤ sizeLine ∧ ∃ its : List Value, Vals xs its ∧ IsTup h a its.toArray
 | .dK kvs => kvs.length ≤ sizeLine ∧ (a == sysModules) = false ∧ ∃ vs, KV kvs vs ∧ h.DictOf (mixKind P w) a vs
 | .dT kvs => kvs.length ≤ sizeLine ∧ (a == sysModules) = false ∧ ∃ xs : List (List Key × Addr × Value),
   Paired (fun (p : List Key × V) (q : List Key × Addr × Value) => p.1 = q.1 ∧ H q.2.1 = some (.tup (p.1.map kV)) ∧ RelV p.2 q.2.2) kvs xs ∧
   ∃ o es ep, h.get? a = some o ∧ o.ExactDict ∧ o.data = .dict es ep ∧ es.toList = xs.map (entryOfKey (tupleKind (mixKind P w))) ∧ (xs.map (·.1)).Nodup
 | .set S n => h.SetOf (intKind P w) a S n
 | .ins C dx fs => H dx = some (.own a) ∧ fs.length ≤ 1000 ∧ dx ≠ a ∧ h.get? a = some (PySem.W.instObj C dx) ∧
   ∃ mA, h.Ns1 dx mA ∧ (∀ f, RelO (fs.lookup f) (mA f)) ∧ PySem.Within mA (fs.map (·.1))
 | .own _ => ∃ o, h.get? a = some o
 | .xd fs => ∃ mA, h.Ns1 a mA ∧ ∀ f, RelO (fs.lookup f) (mA f)
 | .rng lo hi => ∃ t u v, h.get? a = some { cls := .type "range", data := .fields #[.int lo t, .int hi u, .int 1 v] }
 | .frz o u => h.get? a = some o ∧ ObjOk H h a u
 | .tbl ps => h.get? a = some { cls := .none, data := .fields ps }
 | .met f x => h.get? a = some (PySem.W.methodObj (.ref f) (.ref x))
 | .ext φ => φ h ∧ (∃ o, h.get? a = some o) ∧ ∀ h1 h2 : Heap, φ h1 → (∀ o, h1.get? a = some o → h2.get? a = some o) → φ h2
def HOk (H : Hp) (h : Heap) : Prop := ∀ a o, H a = some o → ObjOk P w H h a o
end
section
variable {P : Program} {w : World} {H H' : Hp} {h h' : Heap} {a : Addr} {o : HO}
theorem ObjOk.lt (x : ObjOk P w H h a o) : a < h.objs.size := by
 cases o with
 | lst xs => obtain ⟨_, _, _, _, e⟩ := x; exact Heap.lt_size e
 | tup xs => obtain ⟨_, _, _, p⟩ := x; exact p.lt
 | dK kvs => obtain ⟨_, _, _, _, o, _, _, e, _⟩ := x; exact Heap.lt_size e
 | dT kvs => obtain ⟨_, _, _, _, o, _, _, e, _⟩ := x; exact Heap.lt_size e
 | set S n => obtain ⟨o, _, _, _, e, _⟩ := x; exact Heap.lt_size e
 | ins C dx fs => obtain ⟨_, _, _, e, _⟩ := x; exact Heap.lt_size e
 | own y => obtain ⟨_, e⟩ := x; exact Heap.lt_size e
 | xd fs => obtain ⟨_, ⟨_, _, _, e, _⟩, _⟩ := x; exact Heap.lt_size e
 | rng lo hi => obtain ⟨_, _, _, e⟩ := x; exact Heap.lt_size e
 | frz ob u => obtain ⟨e, _⟩ := x; exact Heap.lt_size e
 | tbl ps => exact Heap.lt_size (show h.get? a = some _ from x)
 | met f y => exact Heap.lt_size (show h.get? a = some _ from x)
 | ext φ => obtain ⟨_, ⟨_, e⟩, _⟩ := x; exact Heap.lt_size e
theorem Paired.mapP {α β : Type} {F G : α → β → Prop} : ∀ {l₁ : List α} {l₂ : List β}, Paired F l₁ l₂ → (∀ a b, F a b → G a b) → Paired G l₁ l₂
 | _, _, .nil, _ => .nil
 | _, _, .cons r t, f => .cons (f _ _ r) (Paired.mapP t f)
theorem ObjOk.stay (x : ObjOk P w H h a o) (k : ∀ b u, (b = a ∨ H b = some (.own a)) → h.get? b = some u → h'.get? b = some u)
  (ho : ∀ b, H b = some (.own a) → H' b = some (.own a)) (ht : ∀ b xs, H b = some (.tup xs) → H' b = some (.tup xs)) : ObjOk P w H' h' a o := by
 induction o with
 | lst xs => obtain ⟨z, its, n, r, e⟩ := x; exact ⟨z, its, n, r, k _ _ (.inl rfl) e⟩
 | tup xs => obtain ⟨z, its, r, ob, e, c⟩ := x; exact ⟨z, its, r, ob, k _ _ (.inl rfl) e, c⟩
 | dK kvs => obtain ⟨z, y, vs, r, ob, es, ep, e, c⟩ := x; exact ⟨z, y, vs, r, ob, es, ep, k _ _ (.inl rfl) e, c⟩
 | dT kvs =>
  obtain ⟨z, y, xs, r, ob, es, ep, e, c⟩ := x
  exact ⟨z, y, xs, Paired.mapP r fun p q z => ⟨z.1, ht _ _ z.2.1, z.2.2⟩, ob, es, ep, k _ _ (.inl rfl) e, c⟩
 | set S n => obtain ⟨ob, es, ep, t, e, c⟩ := x; exact ⟨ob, es, ep, t, k _ _ (.inl rfl) e, c⟩
 | ins C dx fs =>
  obtain ⟨d, z, ne, e, mA, ⟨od, es, ep, e2, c⟩, r⟩ := x
  exact ⟨ho _ d, z, ne, k _ _ (.inl rfl) e, mA, ⟨od, es, ep, k _ _ (.inr d) e2, c⟩, r⟩
 | own y => obtain ⟨ob, e⟩ := x; exact ⟨ob, k _ _ (.inl rfl) e⟩
 | xd fs => obtain ⟨mA, ⟨od, es, ep, e, c⟩, r⟩ := x; exact ⟨mA, ⟨od, es, ep, k _ _ (.inl rfl) e, c⟩, r⟩
 | rng lo hi => obtain ⟨t, u, v, e⟩ := x; exact ⟨t, u, v, k _ _ (.inl rfl) e⟩
 | frz ob u ih => obtain ⟨e, q⟩ := x; exact ⟨k _ _ (.inl rfl) e, ih q⟩
 | tbl ps =>
  have e : h.get? a = some { cls := .none, data := .fields ps } := x
  show h'.get? a = some { cls := .none, data := .fields ps }
  exact k a _ (.inl rfl) e
 | met f y =>
  have e : h.get? a = some (PySem.W.methodObj (.ref f) (.ref y)) := x
  show h'.get? a = some (PySem.W.methodObj (.ref f) (.ref y))
  exact k a _ (.inl rfl) e
 | ext φ => obtain ⟨p, ⟨o, e⟩, st⟩ := x; exact ⟨st _ _ p fun o q => k _ _ (.inl rfl) q, ⟨o, k _ _ (.inl rfl) e⟩, st⟩
theorem HOk.lt (x : HOk P w H h) (e : H a = some o) : a < h.objs.size := (x a o e).lt
theorem HOk.fresh (x : HOk P w H h) (e : h.objs.size ≤ a) : H a = none := by
 cases q : H a with
 | none => rfl
 | some u => exact absurd (Nat.lt_of_lt_of_le (x.lt q) e) (Nat.lt_irrefl _)
theorem HOk.kept (x : HOk P w H h) (k : ∀ b u, h.get? b = some u → h'.get? b = some u) : HOk P w H h' := fun a o e =>
 (x a o e).stay (fun b u _ q => k b u q) (fun _ q => q) fun _ _ q => q
theorem HOk.laid (x : HOk P w H h) (k : ∀ b u, h.get? b = some u → h'.get? b = some u) (hp : h.objs.size ≤ a) (new : ObjOk P w (upd H a o) h' a o) : HOk P w (upd H a o) h' := fun b u e => by
 have hn := x.fresh hp
 by_cases hb : b = a
 ·subst hb; rw [Qai] at e; cases e; exact new
 ·rw [Qaj hb] at e
  exact (x b u e).stay (fun c v _ q => k c v q) (fun c q => by rw [Qaj (Qal q hn)]; exact q) fun c xs q => by rw [Qaj (Qal q hn)]; exact q
end
def Rd (H : Hp) (a : Addr) (u : HO) : Prop := H a = some u ∨ ∃ o, H a = some (.frz o u)
theorem Rd.of {H : Hp} {a : Addr} {u : HO} (h : H a = some u) : Rd H a u := .inl h
theorem Rd.ok {P : Program} {w : World} {H : Hp} {h : Heap} {a : Addr} {u : HO} (r : Rd H a u) (x : HOk P w H h) : ObjOk P w H h a u := by
 rcases r with r | ⟨o, r⟩
 ·exact x a u r
 ·obtain ⟨_, q⟩ := x a _ r
  exact q
noncomputable def Mut : Option HO → Prop
 | some (.lst _) => True
 | some (.dK _) => True
 | some (.dT _) => True
 | some (.set _ _) => True
 | some (.ins _ _ _) => True
 | some (.ext _) => True
 | _ => False
section
variable {P : Program} {w : World} {H : Hp} {h h' : Heap} {x e : Addr} {o' : HO}
theorem HOk.write (ok : HOk P w H h) (mu : Mut (H x)) (he : e = x ∨ H e = some (.own x)) (k : ∀ b u, b ≠ e → h.get? b = some u → h'.get? b = some u) (heo : ∃ u, h'.get? e = some u)
  (new : ObjOk P w (upd H x o') h' x o') : HOk P w (upd H x o') h' := fun b u q => by
 have nown : ∀ c y, H c = some (.own y) → c ≠ x := fun c y r z => by subst z; rw [r] at mu; exact mu
 have ntup : ∀ c xs, H c = some (.tup xs) → c ≠ x := fun c xs r z => by subst z; rw [r] at mu; exact mu
 by_cases hb : b = x
 ·subst hb; rw [Qai] at q; cases q; exact new
 ·rw [Qaj hb] at q
  by_cases hbe : b = e
  ·have q' : H b = some (.own x) := by
     rcases he with z | z
     ·exact absurd (hbe.trans z) hb
     ·rw [hbe]; exact z
   rw [q] at q'; cases q'
   obtain ⟨v, hv⟩ := heo
   exact ⟨v, by rw [hbe]; exact hv⟩
  ·refine (ok b u q).stay (fun c v hc r => k c v ?_ r) (fun c r => by rw [Qaj (nown c b r)]; exact r) fun c xs r => by rw [Qaj (ntup c xs r)]; exact r
   rcases hc with rfl | hc
   ·exact hbe
   ·rintro rfl
    rcases he with z | z
    ·exact nown c b hc z
    ·rw [hc] at z; cases z; exact hb rfl
end
structure Un (fs ex : List Addr) (H H' : Hp) (h h' : Heap) : Prop where
 keep : ∀ b o, h.get? b = some o → H b = none → b ∉ fs → b ∉ ex → h'.get? b = some o
 slot : ∀ b o, h.get? b = some o → H b = none → b ∈ fs → b ∉ ex → ∃ sl, h'.get? b = some { o with slots := sl }
 free : ∀ b o, h.get? b = some o → H b = none → b ∉ ex → H' b = none
 there : ∀ b o, h.get? b = some o → b ∉ ex → ∃ o', h'.get? b = some o'
 tups : ∀ b xs, H b = some (.tup xs) → H' b = some (.tup xs)
 frzs : ∀ b o u, H b = some (.frz o u) → H' b = some (.frz o u)
 tbls : ∀ b ps, H b = some (.tbl ps) → ∃ more, H' b = some (.tbl (ps ++ more))
section
variable {fs fs' ex ex' : List Addr} {H H1 H2 : Hp} {h h1 h2 h' : Heap} {a x e : Addr} {o : HO}
theorem Un.any (u : Un fs ex H H1 h h1) {b : Addr} {ob : Obj} (q : h.get? b = some ob) (n : H b = none) (hx : b ∉ ex) : ∃ sl, h1.get? b = some { ob with slots := sl } := by
 by_cases hb : b ∈ fs
 ·exact u.slot b ob q n hb hx
 ·exact ⟨ob.slots, u.keep b ob q n hb hx⟩
theorem Un.trans (a : Un fs ex H H1 h h1) (b : Un fs ex H1 H2 h1 h2) : Un fs ex H H2 h h2 where
 keep := fun c ob q n hc hx => b.keep c ob (a.keep c ob q n hc hx) (a.free c ob q n hx) hc hx
 slot := fun c ob q n hc hx => by
  obtain ⟨sl, e1⟩ := a.slot c ob q n hc hx
  obtain ⟨sl', e2⟩ := b.slot c _ e1 (a.free c ob q n hx) hc hx
  exact ⟨sl', e2⟩
 free := fun c ob q n hx => by
  obtain ⟨o', e1⟩ := a.there c ob q hx
  exact b.free c o' e1 (a.free c ob q n hx) hx
 there := fun c ob q hx => by
  obtain ⟨o', e1⟩ := a.there c ob q hx
  exact b.there c o' e1 hx
 tups := fun c xs q => b.tups c xs (a.tups c xs q)
 frzs := fun c ob xs q => b.frzs c ob xs (a.frzs c ob xs q)
 tbls := fun c ps q => by
  obtain ⟨m1, e1⟩ := a.tbls c ps q
  obtain ⟨m2, e2⟩ := b.tbls c _ e1
  exact ⟨m1 ++ m2, by rw [e2, Array.append_assoc]⟩
theorem Un.kept (k : ∀ b u, h.get? b = some u → h'.get? b = some u) : Un fs ex H H h h' :=
 ⟨fun b ob q _ _ _ => k b ob q, fun b ob q _ _ _ => ⟨ob.slots, k b ob q⟩, fun _ _ _ n _ => n, fun b ob q _ => ⟨ob, k b ob q⟩, fun _ _ q => q, fun _ _ _ q => q, fun _ ps q => ⟨#[], by rw [q]; simp⟩⟩
theorem Un.refl : Un fs ex H H h h := Un.kept fun _ _ q => q
theorem Un.laid (k : ∀ b u, h.get? b = some u → h'.get? b = some u) (hp : h.objs.size ≤ a) (hn : H a = none) : Un fs ex H (upd H a o) h h' where
 keep := fun b u q _ _ _ => k b u q
 slot := fun b u q _ _ _ => ⟨u.slots, k b u q⟩
 free := fun b u q n _ => by rw [Qaj (Nat.ne_of_lt (Nat.lt_of_lt_of_le (Heap.lt_size q) hp))]; exact n
 there := fun b u q _ => ⟨u, k b u q⟩
 tups := fun b xs q => by rw [Qaj (Qal q hn)]; exact q
 frzs := fun b u xs q => by rw [Qaj (Qal q hn)]; exact q
 tbls := fun b ps q => ⟨#[], by rw [Qaj (Qal q hn), q]; simp⟩
theorem Un.write (mu : Mut (H x)) (he : e = x ∨ H e = some (.own x)) (k : ∀ b u, b ≠ e → h.get? b = some u → h'.get? b = some u) (heo : ∃ u, h'.get? e = some u) : Un fs ex H (upd H x o) h h' := by
 have hx : ∀ b, H b = none → b ≠ x := fun b n z => by subst z; rw [n] at mu; exact mu
 have hb : ∀ b, H b = none → b ≠ e := fun b n z => by
  subst z
  rcases he with r | r
  ·exact hx b n r
  ·rw [n] at r; cases r
 have hm : ∀ b u, H b = some u → ¬ Mut (some u) → b ≠ x := fun b u q nm z => by subst z; rw [q] at mu; exact nm mu
 refine ⟨fun b u q n _ _ => k b u (hb b n) q, fun b u q n _ _ => ⟨u.slots, k b u (hb b n) q⟩, fun b u q n _ => by rw [Qaj (hx b n)]; exact n, fun b u q _ => ?_,
  fun b xs q => by rw [Qaj (hm b _ q fun z => z)]; exact q, fun b u xs q => by rw [Qaj (hm b _ q fun z => z)]; exact q, fun b ps q => ⟨#[], by rw [Qaj (hm b _ q fun z => z), q]; simp⟩⟩
 by_cases hbe : b = e
 ·subst hbe; exact heo
 ·exact ⟨u, k b u hbe q⟩
theorem Un.mono (u : Un fs ex H H1 h h1) (hs : ∀ b ∈ fs, b ∈ fs') (hx : ∀ b ∈ ex, b ∈ ex') : Un fs' ex' H H1 h h1 :=
 ⟨fun b ob q n hb he => u.keep b ob q n (fun z => hb (hs b z)) fun z => he (hx b z), fun _ _ q n _ he => u.any q n fun z => he (hx _ z), fun b ob q n he => u.free b ob q n fun z => he (hx b z), fun b ob q he => u.there b ob q fun z => he (hx b z), u.tups, u.frzs, u.tbls⟩
end
noncomputable def trk (h : Heap) (H : Hp) : List Addr := (List.range h.objs.size).filter fun a => (H a).isSome
noncomputable def hidT (h : Heap) (H : Hp) : Heap := PySem.W.hideAll h (trk h H)
theorem Qam (h : Heap) (H : Hp) : (hidT h H).objs.size = h.objs.size := PySem.W.hideAll_size _ _
theorem Qan {h : Heap} {H : Hp} {b : Addr} {o : Obj} (e : h.get? b = some o) (n : H b = none) : (hidT h H).get? b = some o :=
 PySem.W.hideAll_get _ e fun hm => by
  have q : (H b).isSome = true := (List.mem_filter.mp hm).2
  rw [n] at q; simp at q
theorem Qao {h : Heap} {H : Hp} {b : Addr} {o : Obj} (e : (hidT h H).get? b = some o) : h.get? b = some o ∧ H b = none := by
 have e' : h.get? b = some o := PySem.W.of_hideAll (trk h H) e
 refine ⟨e', ?_⟩
 cases q : H b with
 | none => rfl
 | some x =>
  have hm : b ∈ trk h H := List.mem_filter.mpr ⟨List.mem_range.mpr (Heap.lt_size e'), by simp [q]⟩
  have z : (hidT h H).get? b = none := PySem.W.hideAll_none (trk h H) hm
  rw [z] at e; cases e
noncomputable def allNews (g h : Heap) (L : Addr) : List (Addr × Obj) := (List.range h.objs.size).filterMap fun a => if a = L ∨ (g.get? a).isSome = true then none else (h.get? a).map fun o => (a, o)
noncomputable def rest (g h : Heap) (L d : Addr) : List (Addr × Obj) := (allNews g h L).filter fun p => decide (p.1 ≠ d)
end L2
namespace L2
open PySem PySem.Spec PyProof.Rows
structure Mod (K : PySem.W.Frag) (mg : Str → Option Value) (base : Heap) : Prop where
 kin : K.In base
 glob : base.Ns mainGlobals mg
 blt : ∃ mb, base.Ns builtinsNs mb ∧ ∀ x : Str, x ≠ "__name__" → mb x = bootBuiltins x
 nolimit : base.NoLimit
structure Cx where
 prog : Program
 w : World
 K : PySem.W.Frag
 mg : Str → Option Value
 base : Heap
 A : Around
 N : List Str
 s₀ : Shared
 H₀ : Hp
 env : Env
 outer : List Env
 stack : List Env
 ex : List Addr
 fn : Str → Bool
 calm : Bool
 pn : List (Addr × Obj)
 xe : Value → Shared → Prop
noncomputable def frs (l : List Env) : List Addr := l.filterMap (·.frame)
noncomputable abbrev Cx.fs (X : Cx) : List Addr := frs X.outer
def Vis (sc : Scope) (x : Str) : Prop := sc.names.lookup x = some .local ∨ sc.names.lookup x = some .cell ∨ sc.names.lookup x = some .free
def Loc (sc : Scope) (x : Str) : Prop := sc.names.lookup x = some .local ∨ sc.names.lookup x = some .cell
def Look (env : Env) (h : Heap) (m : Str → Option Value) (x : Str) (u : Value) : Prop :=
 (env.kindOf x = some .local ∧ m x = some u) ∨ ((env.kindOf x = some .cell ∨ env.kindOf x = some .free) ∧ ∃ c, env.cells.lookup x = some c ∧ h.IsCell c (some u))
structure Cx.Ok (X : Cx) : Prop where
 mod : Mod X.K X.mg X.base
 kind : X.env.scope.kind = .function
 glob : X.env.globals = mainGlobals
 blt : X.env.builtins = builtinsNs
 above : X.s₀.heap.objs.size ≤ X.env.locals
 inj : ∀ x y c, X.env.cells.lookup x = some c → X.env.cells.lookup y = some c → x = y
 has : ∀ x, (X.env.kindOf x = some .cell ∨ X.env.kindOf x = some .free) → ∃ c, X.env.cells.lookup x = some c
 cab : ∀ x c, X.fn x = true → X.env.cells.lookup x = some c → X.s₀.heap.objs.size ≤ c
 hd : X.calm = true → X.A.handled = none
 frames : X.A.frames = some X.stack
 stk : X.stack = X.outer ∨ (X.stack = X.env :: X.outer ∧ X.env.frame = some X.env.locals)
 exf : ∀ b ∈ X.ex, b ≠ X.env.locals ∧ ∀ x c, X.env.cells.lookup x = some c → c ≠ b
 bs : ∀ b o, X.base.get? b = some o → X.s₀.heap.get? b = some o ∧ X.H₀ b = none
 bsz : X.base.objs.size ≤ X.s₀.heap.objs.size
 noex : ∀ b o, X.base.get? b = some o → b ∉ X.ex
 exfs : ∀ b ∈ X.ex, b ∉ X.fs
 funs : X.s₀.heap.FunFrames X.base X.outer
 frf : ∀ b ∈ X.fs, X.H₀ b = none
structure Inv (X : Cx) (pins : List (Addr × Obj)) (σ : List (Option V)) (H : Hp) (s : Shared) : Prop where
 ok : X.Ok
 os : s.os = X.s₀.os
 bare : AllBare s.gens
 base : Un X.fs X.ex X.H₀ H X.s₀.heap s.heap
 loc : ∃ m, s.heap.Ns X.env.locals m ∧ ∀ (i : Nat) (x : Str) (v : V), X.N[i]? = some x → σ[i]? = some (some v) → Vis X.env.scope x → ∃ u, RelV v u ∧ Look X.env s.heap m x u
 cell : ∀ x c, X.env.cells.lookup x = some c → ∃ v, s.heap.IsCell c v
 free : H X.env.locals = none
 freeC : ∀ x c, X.env.cells.lookup x = some c → H c = none
 pin : ∀ p ∈ X.pn ++ pins, s.heap.get? p.1 = some p.2 ∧ H p.1 = none ∧ p.1 ≠ X.env.locals ∧ p.1 ∉ X.fs ∧ ∀ v, p.2.data ≠ .cell v
 hok : HOk X.prog X.w H s.heap
 len : σ.length = X.N.length
section
variable {X : Cx} {pins : List (Addr × Obj)} {σ : List (Option V)} {H H' : Hp} {s : Shared} {h' : Heap}
theorem Cx.Ok.nofr (ok : X.Ok) {b : Addr} {o : Obj} (e : X.base.get? b = some o) : b ∉ X.fs := fun hb => by
 have := (ok.funs.mem hb).1
 rw [e] at this; cases this
theorem Inv.bs (I : Inv X pins σ H s) : ∀ b o, X.base.get? b = some o → s.heap.get? b = some o ∧ H b = none := fun b o e =>
 ⟨I.base.keep b o (I.ok.bs b o e).1 (I.ok.bs b o e).2 (I.ok.nofr e) (I.ok.noex b o e), I.base.free b o (I.ok.bs b o e).1 (I.ok.bs b o e).2 (I.ok.noex b o e)⟩
theorem Inv.bk (I : Inv X pins σ H s) : ∀ b o, X.base.get? b = some o → s.heap.get? b = some o := fun b o e => (I.bs b o e).1
theorem Inv.mod (I : Inv X pins σ H s) : Mod X.K X.mg X.base := I.ok.mod
theorem Inv.kIn (I : Inv X pins σ H s) : X.K.In s.heap := I.ok.mod.kin.keeps I.bk
theorem Inv.nolimit (I : Inv X pins σ H s) : s.heap.NoLimit := I.ok.mod.nolimit.keeps I.bk
theorem Inv.fr (I : Inv X pins σ H s) : ∃ m, Fr X.base X.env.locals s.heap m :=
 let ⟨m, hn, _⟩ := I.loc
 ⟨m, hn, I.bk, Nat.le_trans I.ok.bsz I.ok.above⟩
theorem Inv.lt (I : Inv X pins σ H s) : X.env.locals < s.heap.objs.size := let ⟨_, hn, _⟩ := I.loc; hn.lt
theorem Inv.sz (I : Inv X pins σ H s) : X.s₀.heap.objs.size ≤ s.heap.objs.size := Nat.le_trans I.ok.above (Nat.le_of_lt I.lt)
theorem Inv.nofs (I : Inv X pins σ H s) {a : Addr} (h : s.heap.objs.size ≤ a) : a ∉ X.fs := fun hb => by
 obtain ⟨_, o, ho, _⟩ := I.ok.funs.mem hb
 exact absurd (Nat.lt_of_lt_of_le (Heap.lt_size ho) (Nat.le_trans I.sz h)) (Nat.lt_irrefl _)
theorem Inv.cne (I : Inv X pins σ H s) : ∀ x c, X.env.cells.lookup x = some c → c ≠ X.env.locals := fun x c e z => by
 obtain ⟨v, o, ho, hd⟩ := I.cell x c e
 obtain ⟨m, ⟨o', es, ep, ho', hd', _⟩, _⟩ := I.loc
 rw [z, ho'] at ho; cases ho; rw [hd'] at hd; cases hd
theorem Inv.funs (I : Inv X pins σ H s) : s.heap.FunFrames X.base X.outer := by
 have all : ∀ (l : List Env), (∀ b ∈ frs l, b ∈ X.fs) → X.s₀.heap.FunFrames X.base l → s.heap.FunFrames X.base l := by
  intro l
  induction l with
  | nil => intro _ _; trivial
  | cons env r ih =>
   intro hs hl
   obtain ⟨hk, ⟨L, o, hf, hn, ho, hd⟩, hr⟩ := hl
   have hL : L ∈ X.fs := hs L (by unfold frs; rw [List.filterMap_cons, hf]; exact List.mem_cons_self)
   obtain ⟨sl, e⟩ := I.base.slot L o ho (I.ok.frf L hL) hL fun z => I.ok.exfs L z hL
   exact ⟨hk, ⟨L, _, hf, hn, e, hd⟩, ih (fun b hb => hs b (by unfold frs; rw [List.filterMap_cons, hf]; exact List.mem_cons_of_mem _ hb)) hr⟩
 exact all X.outer (fun _ hb => hb) I.ok.funs
theorem Inv.stack (I : Inv X pins σ H s) : s.heap.FunFrames X.base X.stack := by
 rcases I.ok.stk with e | ⟨e, hf⟩
 ·rw [e]; exact I.funs
 ·rw [e]
  obtain ⟨m, hn, _⟩ := I.loc
  refine .cons (by rw [I.ok.kind]; decide) hf hn ?_ I.funs
  exact Heap.get?_none_of_le (Nat.le_trans I.ok.bsz I.ok.above)
theorem Inv.stkSub (I : Inv X pins σ H s) : ∀ b ∈ frs X.stack, b ∈ X.env.locals :: X.fs := fun b hb => by
 rcases I.ok.stk with e | ⟨e, hf⟩
 ·rw [e] at hb; exact List.mem_cons_of_mem _ hb
 ·rw [e] at hb
  unfold frs at hb
  rw [List.filterMap_cons, hf] at hb
  exact hb
theorem Inv.stkFree (I : Inv X pins σ H s) : ∀ b ∈ frs X.stack, H b = none := fun b hb => by
 rcases List.mem_cons.mp (I.stkSub b hb) with e | hb
 ·rw [e]; exact I.free
 ·obtain ⟨_, o, ho, _⟩ := I.ok.funs.mem hb
  exact I.base.free b o ho (I.ok.frf b hb) fun z => I.ok.exfs b z hb
theorem Inv.step {g' : Array GenState} {t' : Nat} {d' : Drawn} {ch : List Addr} (I : Inv X pins σ H s)
  (hch : ∀ b ∈ ch, (b ∈ X.ex ∨ X.s₀.heap.objs.size ≤ b) ∧ b ≠ X.env.locals ∧ (∀ x c, X.env.cells.lookup x = some c → c ≠ b) ∧ ∀ p ∈ X.pn ++ pins, p.1 ≠ b)
  (keep : ∀ b o, b ≠ X.env.locals → b ∉ X.fs → b ∉ ch → s.heap.get? b = some o → H b = none → h'.get? b = some o)
  (slot : ∀ b o, b ≠ X.env.locals → b ∈ X.fs → b ∉ ch → s.heap.get? b = some o → H b = none → ∃ sl, h'.get? b = some { o with slots := sl }) (free : ∀ b o, b ∉ ch → s.heap.get? b = some o → H b = none → H' b = none)
  (there : ∀ b o, b ∉ ch → s.heap.get? b = some o → ∃ o', h'.get? b = some o')
  (tups : ∀ b xs, H b = some (.tup xs) → H' b = some (.tup xs)) (frzs : ∀ b o u, H b = some (.frz o u) → H' b = some (.frz o u)) (tbls : ∀ b ps, H b = some (.tbl ps) → ∃ more, H' b = some (.tbl (ps ++ more)))
  (ns : ∀ m, s.heap.Ns X.env.locals m → h'.Ns X.env.locals m) (hok : HOk X.prog X.w H' h') (hg : AllBare g') :
  Inv X pins σ H' { s with heap := h', gens := g', drawn := d', toks := t' } := by
 have neL : ∀ b o, X.s₀.heap.get? b = some o → b ≠ X.env.locals := fun b o e => Nat.ne_of_lt (Nat.lt_of_lt_of_le (Heap.lt_size e) I.ok.above)
 have neC : ∀ b o, X.s₀.heap.get? b = some o → b ∉ X.ex → b ∉ ch := fun b o e hx hb => by
  rcases (hch b hb).1 with z | z
  ·exact hx z
  ·exact absurd (Nat.lt_of_lt_of_le (Heap.lt_size e) z) (Nat.lt_irrefl _)
 have cellK : ∀ x c, X.env.cells.lookup x = some c → ∀ v, s.heap.IsCell c v → h'.IsCell c v := fun x c e v pq1 => by
  obtain ⟨o, ho, hd⟩ := pq1
  have nch : c ∉ ch := fun z => (hch c z).2.2.1 x c e rfl
  by_cases hc : c ∈ X.fs
  ·obtain ⟨sl, q⟩ := slot c o (I.cne x c e) hc nch ho (I.freeC x c e)
   exact ⟨_, q, hd⟩
  ·exact ⟨o, keep c o (I.cne x c e) hc nch ho (I.freeC x c e), hd⟩
 refine ⟨I.ok, I.os, hg, ⟨fun b o e n hb hx => ?_, fun b o e n hb hx => ?_, fun b o e n hx => ?_, fun b o e hx => ?_, fun b xs e => tups b xs (I.base.tups b xs e), fun b o xs e => frzs b o xs (I.base.frzs b o xs e), fun b ps e => ?_⟩, ?_, fun x c e => ?_, ?_, fun x c e => ?_, fun p hp => ?_, hok, I.len⟩
 ·exact keep b o (neL b o e) hb (neC b o e hx) (I.base.keep b o e n hb hx) (I.base.free b o e n hx)
 ·obtain ⟨sl, e1⟩ := I.base.slot b o e n hb hx
  obtain ⟨sl', e2⟩ := slot b _ (neL b o e) hb (neC b o e hx) e1 (I.base.free b o e n hx)
  exact ⟨sl', e2⟩
 ·obtain ⟨o', e1⟩ := I.base.there b o e hx
  exact free b o' (neC b o e hx) e1 (I.base.free b o e n hx)
 ·obtain ⟨o', e1⟩ := I.base.there b o e hx
  exact there b o' (neC b o e hx) e1
 ·obtain ⟨m1, e1⟩ := I.base.tbls b ps e
  obtain ⟨m2, e2⟩ := tbls b _ e1
  exact ⟨m1 ++ m2, by rw [e2, Array.append_assoc]⟩
 ·obtain ⟨m, hn, hl⟩ := I.loc
  refine ⟨m, ns m hn, fun i x v e1 e2 e3 => ?_⟩
  obtain ⟨u, r, l⟩ := hl i x v e1 e2 e3
  refine ⟨u, r, ?_⟩
  rcases l with l | ⟨k, c, e, z⟩
  ·exact .inl l
  ·exact .inr ⟨k, c, e, cellK x c e _ z⟩
 ·obtain ⟨v, z⟩ := I.cell x c e
  exact ⟨v, cellK x c e v z⟩
 ·obtain ⟨m, ⟨o, _, _, ho, _⟩, _⟩ := I.loc
  exact free _ o (fun z => (hch _ z).2.1 rfl) ho I.free
 ·obtain ⟨v, o, ho, hd⟩ := I.cell x c e
  exact free c o (fun z => (hch c z).2.2.1 x c e rfl) ho (I.freeC x c e)
 ·obtain ⟨e, n, ne, nf, d⟩ := I.pin p hp
  have nch : p.1 ∉ ch := fun z => (hch p.1 z).2.2.2 p hp rfl
  exact ⟨keep p.1 p.2 ne nf nch e n, free p.1 p.2 nch e n, ne, nf, d⟩
theorem Inv.un {t' : Nat} (I : Inv X pins σ H s) (u : Un X.fs [] H H' s.heap h') (hok : HOk X.prog X.w H' h') : Inv X pins σ H' { s with heap := h', toks := t' } := by
 obtain ⟨m, ⟨o, es, ep, ho, r⟩, _⟩ := id I.loc
 obtain ⟨sl, hL⟩ := u.any ho I.free (by simp)
 exact I.step (g' := s.gens) (d' := s.drawn) (ch := []) (fun _ z => nomatch z) (fun b o _ hb _ e n => u.keep b o e n hb (by simp)) (fun b o _ hb _ e n => u.slot b o e n hb (by simp)) (fun b o _ e n => u.free b o e n (by simp)) (fun b o _ e => u.there b o e (by simp)) u.tups u.frzs u.tbls (fun m' hm => by
  obtain ⟨o', es', ep', ho', r'⟩ := hm
  rw [ho] at ho'; cases ho'
  exact ⟨_, es', ep', hL, r'⟩) hok I.bare
theorem Inv.call {g' : Array GenState} {t' : Nat} {d' : Drawn} {ch : List Addr} (I : Inv X pins σ H s) (u : Un (frs X.stack) ch H H' s.heap h') (hok : HOk X.prog X.w H' h') (hg : AllBare g')
  (hch : ∀ b ∈ ch, (b ∈ X.ex ∨ X.s₀.heap.objs.size ≤ b) ∧ b ≠ X.env.locals ∧ (∀ x c, X.env.cells.lookup x = some c → c ≠ b) ∧ ∀ p ∈ X.pn ++ pins, p.1 ≠ b) :
  Inv X pins σ H' { s with heap := h', gens := g', drawn := d', toks := t' } := by
 obtain ⟨m, ⟨o, es, ep, ho, r⟩, _⟩ := id I.loc
 obtain ⟨sl, hL⟩ := u.any ho I.free fun z => (hch _ z).2.1 rfl
 exact I.step (ch := ch) hch (fun b o hL hb hc e n => u.keep b o e n (fun z => (List.mem_cons.mp (I.stkSub b z)).elim hL hb) hc) (fun b o _ _ hc e n => u.any e n hc) (fun b o hc e n => u.free b o e n hc) (fun b o hc e => u.there b o e hc) u.tups u.frzs u.tbls (fun m' hm => by
  obtain ⟨o', es', ep', ho', r'⟩ := hm
  rw [ho] at ho'; cases ho'
  exact ⟨_, es', ep', hL, r'⟩) hok hg
theorem Inv.turned {t' : Nat} {it : Addr} (I : Inv X pins σ H s) (k : ∀ b o, b ≠ it → s.heap.get? b = some o → h'.get? b = some o) (hn : H it = none) (hL : it ≠ X.env.locals)
  (h1 : it ∈ X.ex ∨ X.s₀.heap.objs.size ≤ it) (h2 : ∀ x c, X.env.cells.lookup x = some c → c ≠ it) (h3 : ∀ p ∈ X.pn ++ pins, p.1 ≠ it) : Inv X pins σ H { s with heap := h', toks := t' } := by
 have nit : ∀ b u, H b = some u → b ≠ it := fun b u e z => by rw [z, hn] at e; cases e
 refine I.step (g' := s.gens) (d' := s.drawn) (ch := [it]) (fun b hb => ?_) (fun b o _ _ hc e _ => k b o (fun z => hc (by simp [z])) e) (fun b o _ _ hc e _ => ⟨o.slots, k b o (fun z => hc (by simp [z])) e⟩) (fun _ _ _ _ n => n)
  (fun b o hc e => ⟨o, k b o (fun z => hc (by simp [z])) e⟩) (fun _ _ e => e) (fun _ _ _ e => e) (fun b ps e => ⟨#[], by rw [e]; simp⟩) (fun m hm => ?_) (fun b u e => ?_) I.bare
 ·have e : b = it := by simpa using hb
  subst e
  exact ⟨h1, hL, h2, h3⟩
 ·obtain ⟨o, es, ep, ho, r⟩ := hm
  exact ⟨o, es, ep, k _ o (Ne.symm hL) ho, r⟩
 ·refine (I.hok b u e).stay (fun c v hc q => k c v ?_ q) (fun _ q => q) fun _ _ q => q
  rcases hc with z | z
  ·rw [z]; exact nit b u e
  ·exact nit c _ z
theorem Inv.tok (I : Inv X pins σ H s) (t : Nat) : Inv X pins σ H { s with toks := t } := I.un (h' := s.heap) (t' := t) Un.refl I.hok
theorem Inv.kept {t' : Nat} (I : Inv X pins σ H s) (k : ∀ b u, s.heap.get? b = some u → h'.get? b = some u) : Inv X pins σ H { s with heap := h', toks := t' } := I.un (Un.kept k) (I.hok.kept k)
theorem Inv.laid {a : Addr} {o : HO} {t' : Nat} (I : Inv X pins σ H s) (k : ∀ b u, s.heap.get? b = some u → h'.get? b = some u) (hp : s.heap.objs.size ≤ a) (new : ObjOk X.prog X.w (upd H a o) h' a o) :
  Inv X pins σ (upd H a o) { s with heap := h', toks := t' } := I.un (Un.laid k hp (I.hok.fresh hp)) (I.hok.laid k hp new)
theorem Inv.write {x e : Addr} {o : HO} {t' : Nat} (I : Inv X pins σ H s) (mu : Mut (H x)) (he : e = x ∨ H e = some (.own x)) (k : ∀ b u, b ≠ e → s.heap.get? b = some u → h'.get? b = some u) (heo : ∃ u, h'.get? e = some u)
  (new : ObjOk X.prog X.w (upd H x o) h' x o) : Inv X pins σ (upd H x o) { s with heap := h', toks := t' } := I.un (Un.write mu he k heo) (I.hok.write mu he k heo new)
theorem Inv.pins_of {pins' : List (Addr × Obj)} (I : Inv X pins σ H s) (h : ∀ p ∈ pins', s.heap.get? p.1 = some p.2 ∧ H p.1 = none ∧ p.1 ≠ X.env.locals ∧ p.1 ∉ X.fs ∧ ∀ v, p.2.data ≠ .cell v) : Inv X pins' σ H s :=
 ⟨I.ok, I.os, I.bare, I.base, I.loc, I.cell, I.free, I.freeC, fun p hp => (List.mem_append.mp hp).elim (fun z => I.pin p (List.mem_append_left _ z)) (h p), I.hok, I.len⟩
theorem Qap {N : List Str} (hN : N.Nodup) {i j : Nat} {x : Str} (a : N[i]? = some x) (b : N[j]? = some x) : i = j := by
 obtain ⟨h1, e1⟩ := List.getElem?_eq_some_iff.mp a
 obtain ⟨h2, e2⟩ := List.getElem?_eq_some_iff.mp b
 exact (List.getElem_inj hN).mp (e1.trans e2.symm)
theorem Qaq {M : Model} {A : Around} {E : Value → Shared → Prop} {i : Nat} {x : Str} {v : V} {u : Value} {Q : Unit → Shared → Prop} (I : Inv X pins σ H s) (hN : X.N.Nodup) (hi : X.N[i]? = some x) (hx : Loc X.env.scope x) (r : RelV v u)
  (h : ∀ s', Inv X pins (σ.set i (some v)) H s' → (∃ a, Heap.SameBut a s.heap s'.heap ∧ (a = X.env.locals ∨ X.env.cells.lookup x = some a)) → Q () s') (hf : X.fn x = true ∨ X.env.scope.names.lookup x = some .local := by first | exact .inl rfl | exact .inr rfl | assumption) : wpAny M A (storeName X.env x u) Q E s := by
 obtain ⟨m, hn, hl⟩ := id I.loc
 have hcls : (X.env.scope.kind == .class || (X.env.scope.kind == .module && X.env.locals != X.env.globals)) = false := by rw [I.ok.kind]; rfl
 have hiσ : i < σ.length := by rw [I.len]; exact (List.getElem?_eq_some_iff.mp hi).1
 have cne := I.cne
 have tracked : ∀ {a : Addr} {h' : Heap}, (∃ o, s.heap.get? a = some o ∧ H a = none) → Heap.SameBut a s.heap h' → HOk X.prog X.w H h' := fun {a h'} ha hs b ob e => by
  obtain ⟨_, _, hfree⟩ := ha
  refine (I.hok b ob e).stay (fun c w' hc q => (hs.2 c ?_).trans q) (fun _ q => q) fun _ _ q => q
  rintro rfl
  rcases hc with rfl | hc
  ·rw [hfree] at e; cases e
  ·rw [hfree] at hc; cases hc
 rcases hx with hk | hk
 ·refine wpAny_storeName_local hk hn (fun h' hn' hs => ?_) hcls
  obtain ⟨oL, _, _, hoL, _⟩ := id hn
  refine h _ ⟨I.ok, I.os, I.bare, ⟨fun b o e n hb hx => ?_, fun b o e n hb hx => ?_, I.base.free, fun b o e hx => ?_, I.base.tups, I.base.frzs, I.base.tbls⟩, ⟨_, hn', fun j y v' e1 e2 e3 => ?_⟩, fun y c e => ?_, I.free, I.freeC, fun p hp => ?_, tracked ⟨oL, hoL, I.free⟩ hs, by simpa using I.len⟩ ⟨_, hs, .inl rfl⟩
  ·exact (hs.2 b (Nat.ne_of_lt (Nat.lt_of_lt_of_le (Heap.lt_size e) I.ok.above))).trans (I.base.keep b o e n hb hx)
  ·obtain ⟨sl, e1⟩ := I.base.slot b o e n hb hx
   exact ⟨sl, (hs.2 b (Nat.ne_of_lt (Nat.lt_of_lt_of_le (Heap.lt_size e) I.ok.above))).trans e1⟩
  ·obtain ⟨o', e1⟩ := I.base.there b o e hx
   exact ⟨o', (hs.2 b (Nat.ne_of_lt (Nat.lt_of_lt_of_le (Heap.lt_size e) I.ok.above))).trans e1⟩
  ·by_cases hj : j = i
   ·subst hj
    rw [hi] at e1; cases e1
    rw [List.getElem?_set_self hiσ] at e2
    cases e2
    exact ⟨u, r, .inl ⟨hk, by simp⟩⟩
   ·rw [List.getElem?_set_ne (Ne.symm hj)] at e2
    obtain ⟨u', r', q⟩ := hl j y v' e1 e2 e3
    refine ⟨u', r', ?_⟩
    rcases q with ⟨k, e⟩ | ⟨k, c, e, z⟩
    ·refine .inl ⟨k, ?_⟩
     have : y ≠ x := fun e => hj (Qap hN e1 (e ▸ hi))
     simp [this, e]
    ·exact .inr ⟨k, c, e, z.sameBut hs (cne y c e)⟩
  ·obtain ⟨w', z⟩ := I.cell y c e
   exact ⟨w', z.sameBut hs (cne y c e)⟩
  ·obtain ⟨e, n, ne, nf, d⟩ := I.pin p hp
   exact ⟨(hs.2 p.1 ne).trans e, n, ne, nf, d⟩
 ·have hfn : X.fn x = true := by
    rcases hf with z | z
    ·exact z
    ·rw [z] at hk; cases hk
  obtain ⟨c, hc⟩ := I.ok.has x (.inl hk)
  obtain ⟨w', z⟩ := I.cell x c hc
  refine wpAny_storeName_cell I.ok.kind hk hc z (fun h' hc' hs => ?_)
  obtain ⟨oc, hoc, hocd⟩ := id z
  refine h { s with heap := h' } ⟨I.ok, I.os, I.bare, ⟨fun b o e n hb hx => ?_, fun b o e n hb hx => ?_, I.base.free, fun b o e hx => ?_, I.base.tups, I.base.frzs, I.base.tbls⟩, ⟨m, hn.sameBut hs (Ne.symm (cne x c hc)), fun j y v' e1 e2 e3 => ?_⟩, fun y c' e => ?_, I.free, I.freeC, fun p hp => ?_, tracked ⟨oc, hoc, I.freeC x c hc⟩ hs, by simpa using I.len⟩ ⟨c, hs, .inr hc⟩
  ·exact (hs.2 b (Nat.ne_of_lt (Nat.lt_of_lt_of_le (Heap.lt_size e) (I.ok.cab x c hfn hc)))).trans (I.base.keep b o e n hb hx)
  ·obtain ⟨sl, e1⟩ := I.base.slot b o e n hb hx
   exact ⟨sl, (hs.2 b (Nat.ne_of_lt (Nat.lt_of_lt_of_le (Heap.lt_size e) (I.ok.cab x c hfn hc)))).trans e1⟩
  ·obtain ⟨o', e1⟩ := I.base.there b o e hx
   exact ⟨o', (hs.2 b (Nat.ne_of_lt (Nat.lt_of_lt_of_le (Heap.lt_size e) (I.ok.cab x c hfn hc)))).trans e1⟩
  ·by_cases hj : j = i
   ·subst hj
    rw [hi] at e1; cases e1
    rw [List.getElem?_set_self hiσ] at e2
    cases e2
    exact ⟨u, r, .inr ⟨.inl hk, c, hc, hc'⟩⟩
   ·rw [List.getElem?_set_ne (Ne.symm hj)] at e2
    obtain ⟨u', r', q⟩ := hl j y v' e1 e2 e3
    refine ⟨u', r', ?_⟩
    rcases q with q | ⟨k, c', e, z'⟩
    ·exact .inl q
    ·refine .inr ⟨k, c', e, z'.sameBut hs ?_⟩
     rintro rfl
     exact hj (Qap hN e1 (I.ok.inj _ _ _ e hc ▸ hi))
  ·by_cases hcc : c' = c
   ·subst hcc; exact ⟨_, hc'⟩
   ·obtain ⟨w2, z2⟩ := I.cell y c' e
    exact ⟨w2, z2.sameBut hs hcc⟩
  ·obtain ⟨e, n, ne, nf, d⟩ := I.pin p hp
   refine ⟨(hs.2 p.1 ?_).trans e, n, ne, nf, d⟩
   intro q
   rw [q, hoc] at e
   have q' : oc = p.2 := Option.some.inj e
   exact d w' (by rw [← q']; exact hocd)
theorem Qar {M : Model} {A : Around} {E : Value → Shared → Prop} {i : Nat} {x : Str} {v : V} {u : Value} {Q : Unit → Shared → Prop} (I : Inv X pins σ H s) (hN : X.N.Nodup) (hi : X.N[i]? = some x) (hx : Loc X.env.scope x) (r : RelV v u)
  (h : ∀ s', Inv X pins (σ.set i (some v)) H s' → Q () s') (hf : X.fn x = true ∨ X.env.scope.names.lookup x = some .local := by first | exact .inl rfl | exact .inr rfl | assumption) : wpAny M A (storeName X.env x u) Q E s :=
 Qaq I hN hi hx r (fun s' I' _ => h s' I') hf
theorem Inv.call' {s' : Shared} {ch : List Addr} (I : Inv X pins σ H s) (ho : s'.os = s.os) (u : Un (frs X.stack) ch H H' s.heap s'.heap) (hok : HOk X.prog X.w H' s'.heap) (hg : AllBare s'.gens)
  (hch : ∀ b ∈ ch, (b ∈ X.ex ∨ X.s₀.heap.objs.size ≤ b) ∧ b ≠ X.env.locals ∧ (∀ x c, X.env.cells.lookup x = some c → c ≠ b) ∧ ∀ p ∈ X.pn ++ pins, p.1 ≠ b) : Inv X pins σ H' s' := by
 obtain ⟨h', g', d', t', o'⟩ := s'
 have e : o' = s.os := ho
 subst e
 exact I.call (g' := g') (t' := t') (d' := d') u hok hg hch
end
noncomputable abbrev XK := Value → Option Addr → Hp → Prop
noncomputable abbrev St := List (Option V)
noncomputable abbrev VK := V → Hp → Prop
noncomputable abbrev TE := St → Hp → VK → Prop
noncomputable abbrev TT := St → Hp → (Bool → Hp → Prop) → Prop
noncomputable abbrev TA := St → Hp → (List V → Hp → Prop) → Prop
structure Ends where
 nx : St → Hp → Prop
 rt : VK
 bk : St → Hp → Prop := fun _ _ => False
 ct : St → Hp → Prop := fun _ _ => False
noncomputable abbrev TS := Ends → St → Hp → Prop
def EP (X : Cx) (pins : List (Addr × Obj)) (σ : St) (Q : VK) (u : Value) (s' : Shared) : Prop := ∃ v H', Inv X pins σ H' s' ∧ RelV v u ∧ Q v H'
def TP (X : Cx) (pins : List (Addr × Obj)) (σ : St) (Q : Bool → Hp → Prop) (b : Bool) (s' : Shared) : Prop := ∃ H', Inv X pins σ H' s' ∧ Q b H'
def AP (X : Cx) (pins : List (Addr × Obj)) (σ : St) (Q : List V → Hp → Prop) (us : List Value) (s' : Shared) : Prop := ∃ vs H', Inv X pins σ H' s' ∧ Vals vs us ∧ Q vs H'
def SP (X : Cx) (pins : List (Addr × Obj)) (D : Ends) (f : Flow) (s' : Shared) : Prop :=
 match f with
 | .next => ∃ σ' H', Inv X pins σ' H' s' ∧ D.nx σ' H'
 | .brk => ∃ σ' H', Inv X pins σ' H' s' ∧ D.bk σ' H'
 | .cont => ∃ σ' H', Inv X pins σ' H' s' ∧ D.ct σ' H'
 | .ret u => ∃ v σ' H', Inv X pins σ' H' s' ∧ RelV v u ∧ D.rt v H'
def PE (X : Cx) (e : Expr) (t : TE) : Prop :=
 ∀ (pins : List (Addr × Obj)) (s : Shared) (σ : St) (H : Hp) (Q : VK), Inv X pins σ H s → t σ H Q → wpAny (model X.prog X.w) X.A (eval e X.env) (EP X pins σ Q) X.xe s
def PT (X : Cx) (e : Expr) (t : TT) : Prop :=
 ∀ (pins : List (Addr × Obj)) (s : Shared) (σ : St) (H : Hp) (Q : Bool → Hp → Prop), Inv X pins σ H s → t σ H Q → wpAny (model X.prog X.w) X.A (isTrue e X.env (eval e X.env)) (TP X pins σ Q) X.xe s
def PW (X : Cx) (e : Expr) (t : TT) : Prop :=
 ∀ (whole : Sem Value) (pins : List (Addr × Obj)) (s : Shared) (σ : St) (H : Hp) (Q : Bool → Hp → Prop), Inv X pins σ H s → t σ H Q → wpAny (model X.prog X.w) X.A (isTrue e X.env whole) (TP X pins σ Q) X.xe s
theorem PW.pt {X : Cx} {e : Expr} {t : TT} (h : PW X e t) : PT X e t := h _
def PA (X : Cx) (es : List Expr) (t : TA) : Prop :=
 ∀ (pos : Pos) (pins : List (Addr × Obj)) (s : Shared) (σ : St) (H : Hp) (Q : List V → Hp → Prop), Inv X pins σ H s → t σ H Q → wpAny (model X.prog X.w) X.A (spliced (backTo pos (starEach es X.env))) (AP X pins σ Q) X.xe s
def PS (X : Cx) (st : Stmt) (t : TS) : Prop :=
 ∀ (pins : List (Addr × Obj)) (s : Shared) (σ : St) (H : Hp) (D : Ends), Inv X pins σ H s → t D σ H → wpAny (model X.prog X.w) X.A (exec st X.env) (SP X pins D) X.xe s
def PSs (X : Cx) (st : List Stmt) (t : TS) : Prop :=
 ∀ (pins : List (Addr × Obj)) (s : Shared) (σ : St) (H : Hp) (D : Ends), Inv X pins σ H s → t D σ H → wpAny (model X.prog X.w) X.A (execs st X.env) (SP X pins D) X.xe s
theorem thn {α : Type} {t : Sem α} {Q Q' : α → Shared → Prop} {M : Model} {A : Around} {E : Value → Shared → Prop} {s : Shared} (h : wpAny M A t Q E s) (hQ : ∀ a s, Q a s → Q' a s) : wpAny M A t Q' E s := wpAny_mono h hQ fun _ _ x => x
end L2
namespace L2
open PySem PySem.Spec PyProof.Rows
section
variable {X : Cx}
noncomputable def tVar (i : Nat) : TE := fun σ H Q => ∃ v, σ[i]? = some (some v) ∧ Q v H
noncomputable def tC (v : V) : TE := fun _ H Q => Q v H
theorem Qas {i : Nat} {x : Str} {pos : Pos} (hN : X.N[i]? = some x) (hv : Vis X.env.scope x) (hd : (x == ("__debug__" : Str)) = false := by decide) (hcd : (x == ("__classdict__" : Str)) = false := by decide) : PE X (.Name x pos) (tVar i) := by
 intro pins s σ H Q I h
 obtain ⟨v, e, h⟩ := h
 obtain ⟨m, hn, hl⟩ := I.loc
 obtain ⟨u, r, l⟩ := hl i x v hN e hv
 have fin : EP X pins σ Q u s := ⟨v, H, I, r, h⟩
 rcases l with ⟨hk, hm⟩ | ⟨hk, c, hc, hcell⟩
 ·exact wpAny_Name (wpAny_loadName_local I.ok.kind hk hn hm fin) hd
 ·rcases hk with hk | hk
  ·exact wpAny_Name (wpAny_loadName_cell I.ok.kind hk hc hcell fin) hd
  ·exact wpAny_Name (wpAny_loadName_free I.ok.kind hk hc hcell fin hcd) hd
theorem Qat {i j pos} : PE X (.Constant (.int i) j pos) (tC (.int i)) := fun _ _ _ H _ I h => wpAny_Constant_int ⟨.int i, H, I.tok _, ⟨_, rfl⟩, h⟩
theorem Qau {b j pos} : PE X (.Constant (.bool b) j pos) (tC (.bl b)) := fun _ _ _ H _ I h => Constant_bool ⟨.bl b, H, I, rfl, h⟩
theorem Qav {x j pos} : PE X (.Constant (.str x) j pos) (tC (.str x)) := fun _ _ _ H _ I h => Calls.Constant_str ⟨.str x, H, I.tok _, ⟨_, rfl⟩, h⟩
def Gl (X : Cx) (x : Str) : Prop := X.env.kindOf x = some .globalImplicit
theorem Qaw {E : Value → Shared → Prop} {pins : List (Addr × Obj)} {s : Shared} {σ : St} {H : Hp} {x : Str} {u : Value} {pos : Pos} {Q : Value → Shared → Prop} (I : Inv X pins σ H s) (hg : Gl X x) (hm : X.mg x = some u) (h : Q u s)
  (hd : (x == ("__debug__" : Str)) = false := by decide) : wpAny (model X.prog X.w) X.A (eval (.Name x pos) X.env) Q E s :=
 Calls.Name_function_global I.ok.kind hg (Calls.loadGlobal_global (by rw [I.ok.glob]; exact I.mod.glob.keeps I.bk) hm h) hd
theorem Qax {E : Value → Shared → Prop} {pins : List (Addr × Obj)} {s : Shared} {σ : St} {H : Hp} {x : Str} {u : Value} {pos : Pos} {Q : Value → Shared → Prop} (I : Inv X pins σ H s) (hg : Gl X x) (hm : X.mg x = none) (hv : bootBuiltins x = some u) (h : Q u s)
  (hn : x ≠ "__name__" := by decide) (hd : (x == ("__debug__" : Str)) = false := by decide) : wpAny (model X.prog X.w) X.A (eval (.Name x pos) X.env) Q E s := by
 obtain ⟨mb, h1, h2⟩ := I.mod.blt
 exact Calls.Name_function_global I.ok.kind hg (Calls.loadGlobal_builtin (by rw [I.ok.glob]; exact I.mod.glob.keeps I.bk) hm (by rw [I.ok.blt]; exact h1.keeps I.bk) ((h2 x hn).trans hv) h) hd
theorem Qay {x : Str} {v : V} {u : Value} {pos : Pos} (hg : Gl X x) (hm : X.mg x = some u) (r : RelV v u) (hd : (x == ("__debug__" : Str)) = false := by decide) : PE X (.Name x pos) (tC v) :=
 fun _ _ _ H _ I h => Qaw I hg hm ⟨v, H, I, r, h⟩ hd
theorem Qaz {x : Str} {v : V} {u : Value} {pos : Pos} (hg : Gl X x) (hm : X.mg x = none) (hv : bootBuiltins x = some u) (r : RelV v u) (hn : x ≠ "__name__" := by decide) (hd : (x == ("__debug__" : Str)) = false := by decide) : PE X (.Name x pos) (tC v) :=
 fun _ _ _ H _ I h => Qax I hg hm hv ⟨v, H, I, r, h⟩ hn hd
variable {a b : Expr} {ta tb : TE} {pos : Pos}
variable {tA tB' : TT} {rest : List Expr}
noncomputable def tAnd (t u : TT) : TT := fun σ H Q => t σ H fun c H1 => if c = true then u σ H1 Q else Q false H1
noncomputable def tOr (t u : TT) : TT := fun σ H Q => t σ H fun c H1 => if c = true then Q true H1 else u σ H1 Q
noncomputable def tNot (t : TT) : TT := fun σ H Q => t σ H fun c H1 => Q (!c) H1
theorem QaA (ha : PT X a tA) : PW X (.BoolOp .And [a] pos) tA := by
 intro wh pins s σ H Q I h
 refine isTrue_and (thn (ha pins s σ H Q I h) fun c s1 e => ?_)
 cases c with
 | true => exact isTrue_and_nil e
 | false => exact e
theorem QaB (ha : PT X a tA) : PW X (.BoolOp .Or [a] pos) tA := by
 intro wh pins s σ H Q I h
 refine isTrue_or (thn (ha pins s σ H Q I h) fun c s1 e => ?_)
 cases c with
 | false => exact isTrue_or_nil e
 | true => exact e
theorem QaC (ha : PT X a tA) (hb : PW X (.BoolOp .And (b :: rest) pos) tB') : PW X (.BoolOp .And (a :: b :: rest) pos) (tAnd tA tB') := by
 intro wh pins s σ H Q I h
 refine isTrue_and (thn (ha pins s σ H _ I h) fun c s1 pq2 => ?_)
 obtain ⟨H1, I1, q1⟩ := pq2
 cases c with
 | true => exact hb wh pins s1 σ H1 Q I1 q1
 | false => exact ⟨H1, I1, q1⟩
theorem QaD (ha : PT X a tA) (hb : PW X (.BoolOp .Or (b :: rest) pos) tB') : PW X (.BoolOp .Or (a :: b :: rest) pos) (tOr tA tB') := by
 intro wh pins s σ H Q I h
 refine isTrue_or (thn (ha pins s σ H _ I h) fun c s1 pq3 => ?_)
 obtain ⟨H1, I1, q1⟩ := pq3
 cases c with
 | true => exact ⟨H1, I1, q1⟩
 | false => exact hb wh pins s1 σ H1 Q I1 q1
theorem QaE (ha : PT X a tA) : PT X (.UnaryOp .Not a pos) (tNot tA) := by
 intro pins s σ H Q I h
 exact isTrue_not (ha pins s σ H (fun c H1 => Q (!c) H1) I h)
end
end L2
namespace L2
open PySem PySem.Spec PyProof.Rows
def SqL (K : PySem.W.Frag) (H : Hp) (a : Addr) (xs : List V) : Prop :=
 Rd H a (.lst xs) ∨
  ∃ (o : Obj) (its : Array Value) (n : Nat), K.lookup a = some o ∧ o.cls = .type "list" ∧ o.dict = none ∧ o.data = .seq its n ∧ its.size ≤ sizeLine ∧ Vals xs its.toList
def SqT (K : PySem.W.Frag) (H : Hp) (a : Addr) (xs : List V) : Prop :=
 Rd H a (.tup xs) ∨
  ∃ (o : Obj) (its : Array Value) (n : Nat), K.lookup a = some o ∧ o.cls = .type "tuple" ∧ o.data = .seq its n ∧ its.size ≤ sizeLine ∧ Vals xs its.toList
noncomputable def absV : Value → Option V
 | .none => some .non
 | .bool b => some (.bl b)
 | .int i _ => some (.int i)
 | .str x _ => some (.str x)
 | .bytes b _ => some (.byt b)
 | .float b _ => some (.flt b)
 | .ref a => some (.ref a)
 | .type n => some (.ty n)
 | _ => none
theorem RelV.abs {x : V} {u : Value} (r : RelV x u) : absV u = some x := by
 cases x with
 | non => cases r; rfl
 | bl _ => cases r; rfl
 | int _ => obtain ⟨t, rfl⟩ := r; rfl
 | str _ => obtain ⟨t, rfl⟩ := r; rfl
 | byt _ => obtain ⟨t, rfl⟩ := r; rfl
 | flt _ => obtain ⟨t, rfl⟩ := r; rfl
 | ref _ => cases r; rfl
 | ty _ => cases r; rfl
theorem RelV.inj {x y : V} {u : Value} (r : RelV x u) (q : RelV y u) : x = y := Option.some.inj (r.abs.symm.trans q.abs)
theorem Vals.inj : ∀ {xs ys : List V} {us : List Value}, Vals xs us → Vals ys us → xs = ys
 | _, _, _, .nil, .nil => rfl
 | _, _, _, .cons r t, .cons r' t' => by rw [r.inj r', Vals.inj t t']
section
variable {X : Cx} {pins : List (Addr × Obj)} {σ : St} {H : Hp} {s : Shared} {a : Addr} {xs ys : List V}
theorem SqL.of {K : PySem.W.Frag} (h : H a = some (.lst xs)) : SqL K H a xs := .inl (.inl h)
theorem SqT.of {K : PySem.W.Frag} (h : H a = some (.tup xs)) : SqT K H a xs := .inl (.inl h)
theorem Inv.list (I : Inv X pins σ H s) (h : SqL X.K H a xs) : ∃ its : List Value, Vals xs its ∧ PlainL s.heap a its.toArray ∧ xs.length ≤ sizeLine := by
 rcases h with h | ⟨o, its, n, hk, hc, hd, hs, hz, r⟩
 ·obtain ⟨z, its, n, r, e⟩ := h.ok I.hok
  exact ⟨its, r, ⟨_, n, e, rfl, rfl, rfl⟩, z⟩
 ·refine ⟨its.toList, r, ⟨o, n, I.kIn a o hk, hc, hd, by simpa using hs⟩, ?_⟩
  have e := r.length
  simp only [Array.length_toList] at e
  ac_nf
theorem Inv.tuple (I : Inv X pins σ H s) (h : SqT X.K H a xs) : ∃ its : List Value, Vals xs its ∧ IsTup s.heap a its.toArray ∧ xs.length ≤ sizeLine := by
 rcases h with h | ⟨o, its, n, hk, hc, hs, hz, r⟩
 ·obtain ⟨z, its, r, p⟩ := h.ok I.hok
  exact ⟨its, r, p, z⟩
 ·refine ⟨its.toList, r, ⟨o, I.kIn a o hk, hc, n, by simpa using hs⟩, ?_⟩
  have e := r.length
  simp only [Array.length_toList] at e
  ac_nf
theorem Inv.list_inj (I : Inv X pins σ H s) (h : SqL X.K H a xs) (h' : SqL X.K H a ys) : xs = ys := by
 obtain ⟨its, r, ⟨o, n, e, _, _, d⟩, _⟩ := I.list h
 obtain ⟨its', r', ⟨o', n', e', _, _, d'⟩, _⟩ := I.list h'
 rw [e] at e'; cases e'
 rw [d] at d'
 injection d' with d1 _
 have : its = its' := by simpa using congrArg Array.toList d1
 subst this
 exact r.inj r'
theorem Inv.tuple_inj (I : Inv X pins σ H s) (h : SqT X.K H a xs) (h' : SqT X.K H a ys) : xs = ys := by
 obtain ⟨its, r, ⟨o, e, _, n, d⟩, _⟩ := I.tuple h
 obtain ⟨its', r', ⟨o', e', _, n', d'⟩, _⟩ := I.tuple h'
 rw [e] at e'; cases e'
 rw [d] at d'
 injection d' with d1 _
 have : its = its' := by simpa using congrArg Array.toList d1
 subst this
 exact r.inj r'
end
noncomputable abbrev Cx.wish (X : Cx) (E : Value → Shared → Prop) : Cx := { X with xe := E }
noncomputable abbrev Cx.nox (X : Cx) : Cx := X.wish fun _ _ => False
theorem Cx.Ok.wish {X : Cx} (ok : X.Ok) (E : Value → Shared → Prop) : (X.wish E).Ok :=
 ⟨ok.mod, ok.kind, ok.glob, ok.blt, ok.above, ok.inj, ok.has, ok.cab, ok.hd, ok.frames, ok.stk, ok.exf, ok.bs, ok.bsz, ok.noex, ok.exfs, ok.funs, ok.frf⟩
theorem Cx.Ok.unwish {X : Cx} {E : Value → Shared → Prop} (ok : (X.wish E).Ok) : X.Ok :=
 ⟨ok.mod, ok.kind, ok.glob, ok.blt, ok.above, ok.inj, ok.has, ok.cab, ok.hd, ok.frames, ok.stk, ok.exf, ok.bs, ok.bsz, ok.noex, ok.exfs, ok.funs, ok.frf⟩
section
variable {X : Cx} {pins : List (Addr × Obj)} {σ : St} {H : Hp} {s : Shared} {E : Value → Shared → Prop}
theorem Inv.wish (I : Inv X pins σ H s) (E : Value → Shared → Prop) : Inv (X.wish E) pins σ H s := ⟨I.ok.wish E, I.os, I.bare, I.base, I.loc, I.cell, I.free, I.freeC, I.pin, I.hok, I.len⟩
theorem Inv.unwish (I : Inv (X.wish E) pins σ H s) : Inv X pins σ H s := ⟨I.ok.unwish, I.os, I.bare, I.base, I.loc, I.cell, I.free, I.freeC, I.pin, I.hok, I.len⟩
theorem SP.unwish {D : Ends} {f : Flow} {s' : Shared} (h : SP (X.wish E) pins D f s') : SP X pins D f s' := by
 cases f with
 | next => obtain ⟨σ', H', I, q⟩ := h; exact ⟨σ', H', I.unwish, q⟩
 | brk => obtain ⟨σ', H', I, q⟩ := h; exact ⟨σ', H', I.unwish, q⟩
 | cont => obtain ⟨σ', H', I, q⟩ := h; exact ⟨σ', H', I.unwish, q⟩
 | ret u => obtain ⟨v, σ', H', I, r, q⟩ := h; exact ⟨v, σ', H', I.unwish, r, q⟩
theorem PE.nox {e : Expr} {t : TE} (h : PE X.nox e t) : PE X e t := fun pins s σ H Q I hw =>
 wpAny_mono (h pins s σ H Q (I.wish _) hw) (fun _ _ pq4 => by obtain ⟨v, H', I', r, q⟩ := pq4; exact ⟨v, H', I'.unwish, r, q⟩) fun _ _ z => False.elim z
theorem PT.nox {e : Expr} {t : TT} (h : PT X.nox e t) : PT X e t := fun pins s σ H Q I hw =>
 wpAny_mono (h pins s σ H Q (I.wish _) hw) (fun _ _ pq5 => by obtain ⟨H', I', q⟩ := pq5; exact ⟨H', I'.unwish, q⟩) fun _ _ z => False.elim z
theorem PSs.nox {st : List Stmt} {t : TS} (h : PSs X.nox st t) : PSs X st t := fun pins s σ H D I hw =>
 wpAny_mono (h pins s σ H D (I.wish _) hw) (fun _ _ q => q.unwish) fun _ _ z => False.elim z
end
section
variable {X : Cx} {st : Stmt} {rest : List Stmt} {t u : TS} {e : Expr} {te : TE} {pos : Pos}
noncomputable def tNext : TS := fun D σ H => D.nx σ H
noncomputable def tSeq (t u : TS) : TS := fun D σ H => t { D with nx := u D } σ H
theorem QaF : PSs X [] tNext := fun _ _ σ H _ I h => wpAny_execs_nil ⟨σ, H, I, h⟩
theorem QaG (h1 : PS X st t) (h2 : PSs X rest u) : PSs X (st :: rest) (tSeq t u) := by
 intro pins s σ H D I h
 refine wpAny_execs_cons (thn (h1 pins s σ H { D with nx := u D } I h) fun f s1 q => ?_)
 cases f with
 | next =>
  obtain ⟨σ', H', I', q⟩ := q
  exact h2 pins s1 σ' H' D I' q
 | ret v => exact q
 | brk => exact q
 | cont => exact q
theorem Inv.quiet {pins : List (Addr × Obj)} {σ : St} {H : Hp} {s : Shared} (I : Inv X pins σ H s) : interactive X.env = false := by simp [interactive, I.ok.kind]
noncomputable def tRet (te : TE) : TS := fun D σ H => te σ H D.rt
theorem QaH (he : PE X e te) : PS X (.Return (some e) pos) (tRet te) := by
 intro pins s σ H D I h
 exact wpAny_Return_some (thn (he pins s σ H _ I h) fun v s1 pq6 => by obtain ⟨x, H1, I1, r1, q1⟩ := pq6; exact ⟨x, σ, H1, I1, r1, q1⟩)
noncomputable def tIfS (c : TT) (t u : TS) : TS := fun D σ H => c σ H fun b H1 => if b = true then t D σ H1 else u D σ H1
theorem QaI {c : Expr} {a b : List Stmt} {tc : TT} (hc : PT X c tc) (ha : PSs X a t) (hb : PSs X b u) : PS X (.If c a b pos) (tIfS tc t u) := by
 intro pins s σ H D I h
 refine wpAny_If (thn (hc pins s σ H _ I h) fun d s1 pq7 => ?_)
 obtain ⟨H1, I1, q1⟩ := pq7
 cases d with
 | true => exact ha pins s1 σ H1 D I1 q1
 | false => exact hb pins s1 σ H1 D I1 q1
end
noncomputable abbrev TG := V → St → Hp → (St → Hp → Prop) → Prop
noncomputable abbrev TGs := List V → St → Hp → (St → Hp → Prop) → Prop
def PG (X : Cx) (target : Expr) (t : TG) : Prop :=
 ∀ (pins : List (Addr × Obj)) (s : Shared) (σ : St) (H : Hp) (v : V) (u : Value) (Q : St → Hp → Prop), Inv X pins σ H s → RelV v u → t v σ H Q →
  wpAny (model X.prog X.w) X.A (assign target X.env u) (fun _ s' => ∃ σ' H', Inv X pins σ' H' s' ∧ Q σ' H') X.xe s
def PGs (X : Cx) (ts : List Expr) (t : TGs) : Prop :=
 ∀ (pins : List (Addr × Obj)) (s : Shared) (σ : St) (H : Hp) (vs : List V) (us : List Value) (Q : St → Hp → Prop), Inv X pins σ H s → Vals vs us → t vs σ H Q →
  wpAny (model X.prog X.w) X.A (assignInOrder ((assignEach ts X.env).map (·.2)) us) (fun _ s' => ∃ σ' H', Inv X pins σ' H' s' ∧ Q σ' H') X.xe s
noncomputable abbrev TSet := V → V → V → Hp → (Hp → Prop) → Prop
def PSet (X : Cx) (t : TSet) : Prop :=
 ∀ (pins : List (Addr × Obj)) (s : Shared) (σ : St) (H : Hp) (o i v : V) (ov iv u : Value) (Q : Hp → Prop), Inv X pins σ H s → RelV o ov → RelV i iv → RelV v u → t o i v H Q →
  wpAny (model X.prog X.w) X.A (setItem ov iv u) (fun _ s' => ∃ H', Inv X pins σ H' s' ∧ Q H') X.xe s
section
variable {X : Cx} {pos : Pos}
noncomputable def gName (i : Nat) : TG := fun v σ H Q => Q (σ.set i (some v)) H
theorem QaJ {i : Nat} {x : Str} (hN : X.N.Nodup) (hi : X.N[i]? = some x) (hx : Loc X.env.scope x) (hf : X.fn x = true ∨ X.env.scope.names.lookup x = some .local := by first | exact .inl rfl | exact .inr rfl | assumption) : PG X (.Name x pos) (gName i) := by
 intro pins s σ H v u Q I r h
 exact wpAny_assign_Name (Qar I hN hi hx r (fun s' I' => ⟨_, H, I', h⟩) hf)
noncomputable def gSub (to ti : TE) (t : TSet) : TG := fun v σ H Q => to σ H fun o H1 => ti σ H1 fun i H2 => t o i v H2 fun H3 => Q σ H3
theorem QaK {o i : Expr} {to ti : TE} {t : TSet} (ho : PE X o to) (hi : PE X i ti) (hs : PSet X t)
  (ha : ∀ v, assign (.Subscript o i pos) X.env v = (do
   let ov ← holding [v] (eval o X.env)
   let iv ← holding [v, ov] (eval i X.env)
   standAt pos
   holding [v, ov, iv] (setItem ov iv v)
   release [v, ov, iv] []) := by intro _; rfl) : PG X (.Subscript o i pos) (gSub to ti t) := by
 intro pins s σ H v u Q I r h
 rw [ha]
 refine wpAny_bind (wpAny_holding (thn (ho pins s σ H _ I h) fun ov s1 pq8 => ?_))
 obtain ⟨x, H1, I1, r1, q1⟩ := pq8
 refine wpAny_bind (wpAny_holding (thn (hi pins s1 σ H1 _ I1 q1) fun iv s2 pq9 => ?_))
 obtain ⟨y, H2, I2, r2, q2⟩ := pq9
 refine wpAny_bind (wpAny_standAt (wpAny_bind (wpAny_holding (thn (hs pins s2 σ H2 x y v ov iv u _ I2 r1 r2 r q2) fun _ s3 pq10 => ?_))))
 obtain ⟨H3, I3, q3⟩ := pq10
 exact wpAny_release ⟨σ, H3, I3, q3⟩
noncomputable def tAsg (te : TE) (g : TG) : TS := fun D σ H => te σ H fun x H1 => g x σ H1 D.nx
theorem QaL {tg e : Expr} {te : TE} {g : TG} (he : PE X e te) (hg : PG X tg g) (hs : swapsWithSole [tg] e pos.line X.env = pure false := by rfl) (hw : swappedStores [tg] e X.env = pure none := by rfl)
  (h1 : (assignEach [tg] X.env).map (·.2) = [assign tg X.env] := by rfl) : PS X (.Assign [tg] e pos) (tAsg te g) := by
 intro pins s σ H D I h
 refine wpAny_Assign_stores (thn (he pins s σ H _ I h) fun v s1 ⟨x, H1, I1, r1, q1⟩ => ?_) hs hw
 rw [h1]
 exact thn (hg pins s1 σ H1 x v _ I1 r1 q1) fun _ s2 q => q
theorem QaM {i : Nat} {x : Str} {e : Expr} {te : TE} {pos' : Pos} (hN : X.N.Nodup) (hi : X.N[i]? = some x) (hx : Loc X.env.scope x) (he : PE X e te) (hs : swapsWith e (some (.Name x pos')) pos.line X.env = pure false := by rfl) (hf : X.fn x = true ∨ X.env.scope.names.lookup x = some .local := by first | exact .inl rfl | exact .inr rfl | assumption) :
  PS X (.Assign [.Name x pos'] e pos) (tAsg te (gName i)) := by
 intro pins s σ H D I h
 refine wpAny_Assign_Name (thn (he pins s σ H _ I h) fun v s1 ⟨y, H1, I1, r1, q1⟩ => ?_) hs
 exact Qar I1 hN hi hx r1 (fun s2 I2 => ⟨_, H1, I2, q1⟩) hf
end
section
variable {X : Cx} {pos : Pos}
noncomputable def tWhile (c : TT) (tb : TS) : TS := fun D σ H => ∃ W : Nat → St → Hp → Prop, (∃ m, W m σ H) ∧ ∀ m σ H, W m σ H →
 c σ H fun b H1 => if b = true then ∃ N : St → Hp → Prop, (∀ σ' H', N σ' H' → ∃ m', m' < m ∧ W m' σ' H') ∧ tb { D with nx := N, ct := N, bk := D.nx } σ H1 else D.nx σ H1
theorem QaN {c : Expr} {body : List Stmt} {tc : TT} {tb : TS} (hp : PassesOwn (model X.prog X.w) X.A X.env X.xe) (hc : PT X c tc) (hb : PSs X body tb) : PS X (.While c body [] pos) (tWhile tc tb) := by
 intro pins s σ H D I h
 obtain ⟨W, ⟨m0, w0⟩, turn⟩ := h
 refine wpAny_While (codeAny_whileLoop (fun n s' => ∃ σ' H', Inv X pins σ' H' s' ∧ W n σ' H') ?_ m0 ⟨σ, H, I, w0⟩)
 rintro n s1 ⟨σ1, H1, I1, w1⟩
 refine wpAny_passesOwn hp (thn (hc pins s1 σ1 H1 _ I1 (turn n σ1 H1 w1)) fun b s2 pq13 => ?_)
 obtain ⟨H2, I2, q2⟩ := pq13
 cases b with
 | true =>
  obtain ⟨N, hN, q2⟩ := q2
  rw [if_pos rfl]
  refine wpAny_passesOwn hp (thn (hb pins s2 σ1 H2 _ I2 q2) fun f s3 q3 => ?_)
  cases f with
  | next =>
   obtain ⟨σ3, H3, I3, n3⟩ := q3
   obtain ⟨m', hm, w3⟩ := hN σ3 H3 n3
   exact ⟨m', hm, σ3, H3, I3, w3⟩
  | cont =>
   obtain ⟨σ3, H3, I3, n3⟩ := q3
   obtain ⟨m', hm, w3⟩ := hN σ3 H3 n3
   exact ⟨m', hm, σ3, H3, I3, w3⟩
  | brk => exact q3
  | ret v => exact q3
 | false =>
  rw [if_neg Bool.false_ne_true]
  exact wpAny_execs_nil ⟨σ1, H2, I2, q2⟩
end
structure It where
 go : Nat → Hp → Prop
 yld : Nat → Hp → V → Hp → Prop
 stop : Nat → Hp → Prop
def FpOk (X : Cx) (pins : List (Addr × Obj)) (H : Hp) (b : Addr) : Prop :=
 H b = none ∧ b ≠ X.env.locals ∧ b ∉ X.fs ∧ (b ∈ X.ex ∨ X.s₀.heap.objs.size ≤ b) ∧ (∀ x c, X.env.cells.lookup x = some c → c ≠ b) ∧ ∀ p ∈ X.pn ++ pins, p.1 ≠ b
theorem Inv.fpOk {X : Cx} {pins : List (Addr × Obj)} {σ : St} {H H' : Hp} {s : Shared} {b : Addr} (I : Inv X pins σ H s) (hb : s.heap.objs.size ≤ b) (hn : H' b = none) : FpOk X pins H' b := by
 refine ⟨hn, Nat.ne_of_gt (Nat.lt_of_lt_of_le I.lt hb), I.nofs hb, .inr (Nat.le_trans I.sz hb), fun x c e z => ?_, fun p hp z => ?_⟩
 ·obtain ⟨v, q⟩ := I.cell x c e
  exact absurd (Nat.lt_of_lt_of_le q.lt (by rw [z]; exact hb)) (Nat.lt_irrefl _)
 ·exact absurd (Nat.lt_of_lt_of_le (Heap.lt_size (I.pin p hp).1) (by rw [z]; exact hb)) (Nat.lt_irrefl _)
structure Turn (P : Program) (w : World) (K : PySem.W.Frag) (tg : Expr) (J : It) (fp : List Addr) (it : Addr) (tn : Nat → Heap → Prop) : Prop where
 mem : it ∈ fp
 obj : ∀ i h, tn i h → ∀ b ∈ fp, ∃ o, h.get? b = some o ∧ ∀ v, o.data ≠ .cell v
 keep : ∀ i h h', tn i h → (∀ b ∈ fp, ∀ o, h.get? b = some o → h'.get? b = some o) → tn i h'
 item : ∀ (X : Cx), X.prog = P → X.w = w → X.K = K → X.calm = true → ∀ (i : Nat) (pins : List (Addr × Obj)) (s : Shared) (σ : St) (H : Hp) (E : Value → Shared → Prop), Inv X pins σ H s → (∀ b ∈ fp, FpOk X pins H b) → tn i s.heap → J.go i H →
  wpAny (model P w) X.A (pyNext (.ref it)) (fun r s1 => ∃ u, r = some u ∧
   wpAny (model P w) X.A (letOwnedTupleGo tg (.ref it) u) (fun _ s2 => ∃ x H', Inv X pins σ H' s2 ∧ RelV x u ∧ J.yld i H x H' ∧ tn (i + 1) s2.heap ∧ ∀ b ∈ fp, H' b = none) E s1) E s
 done : ∀ (X : Cx), X.prog = P → X.w = w → X.K = K → X.calm = true → ∀ (i : Nat) (pins : List (Addr × Obj)) (s : Shared) (σ : St) (H : Hp) (E : Value → Shared → Prop), Inv X pins σ H s → (∀ b ∈ fp, FpOk X pins H b) → tn i s.heap → J.stop i H →
  wpAny (model P w) X.A (pyNext (.ref it)) (fun r s1 => r = none ∧ Inv X pins σ H s1) E s
 self : ∀ (A : Around) (i : Nat) (s : Shared) (Q : Value → Shared → Prop) (E : Value → Shared → Prop), tn i s.heap → Q (.ref it) s → wpAny (model P w) A (pyIter (.ref it)) Q E s
noncomputable abbrev TI := St → Hp → (It → Hp → Prop) → Prop
def PIE (X : Cx) (pins : List (Addr × Obj)) (σ : St) (tg : Expr) (R : It → Hp → Prop) (itv : Value) (s2 : Shared) : Prop :=
 ∃ (it : Addr) (fp : List Addr) (tn : Nat → Heap → Prop) (J : It) (H' : Hp), itv = .ref it ∧ Inv X pins σ H' s2 ∧ Turn X.prog X.w X.K tg J fp it tn ∧ tn 0 s2.heap ∧ (∀ b ∈ fp, FpOk X pins H' b) ∧ R J H'
def PI (X : Cx) (tg iter : Expr) (wi : TI) : Prop :=
 ∀ (pins : List (Addr × Obj)) (s : Shared) (σ : St) (H : Hp) (R : It → Hp → Prop), Inv X pins σ H s → wi σ H R →
  wpAny (model X.prog X.w) X.A (eval iter X.env) (fun v s1 => wpAny (model X.prog X.w) X.A (pyIter v) (PIE X pins σ tg R) X.xe s1) X.xe s
theorem QaO {M : Model} {A : Around} {E : Value → Shared → Prop} {s : Shared} {tg : Expr} {it : Addr} {u : Value} {o : Obj} {n : String} {vs : Array Value} {Q : Unit → Shared → Prop} (ho : s.heap.get? it = some o) (hc : o.cls = .type n) (hd : o.data = .fields vs)
  (hn : ["enumerate", "zip", "dict_itemiterator", "dict_reverseitemiterator", "odict_iterator", "itertools.zip_longest", "itertools.pairwise"].contains n = false) (hQ : Q () s) : wpAny M A (letOwnedTupleGo tg (.ref it) u) Q E s := by
 unfold letOwnedTupleGo
 cases tg <;> first
  | exact wpAny_pure hQ
  | (cases u <;> first
    | exact wpAny_pure hQ
    | (refine wpAny_bind (wpAny_load ho ?_)
       rw [hc, hd]
       show wpAny M A (if (["enumerate", "zip", "dict_itemiterator", "dict_reverseitemiterator", "odict_iterator", "itertools.zip_longest", "itertools.pairwise"].contains n && vs[0]? == some (rawInt _)) = true then _ else _) Q E s
       rw [if_neg (by intro h; rw [hn, Bool.false_and] at h; cases h)]
       exact wpAny_pure hQ))
noncomputable def Itl (K : PySem.W.Frag) (a : Addr) : It :=
 ⟨fun i H => ∃ xs x, SqL K H a xs ∧ xs[i]? = some x, fun i H x H' => H' = H ∧ ∀ xs, SqL K H a xs → xs[i]? = some x, fun i H => ∃ xs, SqL K H a xs ∧ xs.length ≤ i⟩
noncomputable def Itt (K : PySem.W.Frag) (a : Addr) : It :=
 ⟨fun i H => ∃ xs x, SqT K H a xs ∧ xs[i]? = some x, fun i H x H' => H' = H ∧ ∀ xs, SqT K H a xs → xs[i]? = some x, fun i H => ∃ xs, SqT K H a xs ∧ xs.length ≤ i⟩
noncomputable def Itr (lo : Int) (n : Nat) : It := ⟨fun i _ => i < n, fun i H x H' => H' = H ∧ x = .int (lo + i), fun i _ => n ≤ i⟩
theorem QaP {P : Program} {w : World} {K : PySem.W.Frag} {tg : Expr} (a it : Addr) : Turn P w K tg (Itl K a) [it] it (fun i h => h.IsListIter it a i) where
 mem := by simp
 obj := fun i h st b hb => by
  have e : b = it := by simpa using hb
  subst e
  obtain ⟨o, e, c, d⟩ := st
  exact ⟨o, e, fun v z => by rw [d] at z; cases z⟩
 keep := fun i h h' st k => st.at fun o e => k it (by simp) o e
 item := by
  intro X hP hw hK hc i pins s σ H E I hf st hg
  subst hP hw hK
  obtain ⟨xs, x, hq, hx⟩ := hg
  obtain ⟨its, rv, p, hz⟩ := I.list hq
  obtain ⟨u, hu, ru⟩ := rv.get hx
  obtain ⟨f0, f1, f2, f3, f4, f5⟩ := hf it (by simp)
  refine wpAny_pyNext_list_item st p.isList (x := u) (by simpa using hu) fun h' st' sb => ?_
  have I1 : Inv X pins σ H { s with heap := h' } := I.turned (t' := s.toks) (fun b o hb e => (sb.2 b hb).trans e) f0 f1 f3 f4 f5
  obtain ⟨o, e, c, d⟩ := id st'
  exact ⟨u, rfl, QaO (s := { s with heap := h' }) e c d (by decide) ⟨x, H, I1, ru, ⟨rfl, fun ys hy => by rw [I.list_inj hy hq]; exact hx⟩, st', fun b hb => (hf b hb).1⟩⟩
 done := by
  intro X hP hw hK hc i pins s σ H E I hf st hg
  subst hP hw hK
  obtain ⟨xs, hq, hx⟩ := hg
  obtain ⟨its, rv, p, hz⟩ := I.list hq
  obtain ⟨f0, f1, f2, f3, f4, f5⟩ := hf it (by simp)
  have hl := rv.length
  exact wpAny_pyNext_list_end (I.ok.hd hc) st p.isList (by simp; ac_nf) fun h' eb => ⟨rfl, I.turned (t' := s.toks) (fun b o hb e => eb b o hb e) f0 f1 f3 f4 f5⟩
 self := fun _ _ _ _ _ st h => wpAny_pyIter_listiter st h
theorem QaQ {P : Program} {w : World} {K : PySem.W.Frag} {tg : Expr} (a it : Addr) : Turn P w K tg (Itt K a) [it] it (fun i h => h.IsTupleIter it a i) where
 mem := by simp
 obj := fun i h st b hb => by
  have e : b = it := by simpa using hb
  subst e
  obtain ⟨o, e, c, d⟩ := st
  exact ⟨o, e, fun v z => by rw [d] at z; cases z⟩
 keep := fun i h h' st k => st.at fun o e => k it (by simp) o e
 item := by
  intro X hP hw hK hc i pins s σ H E I hf st hg
  subst hP hw hK
  obtain ⟨xs, x, hq, hx⟩ := hg
  obtain ⟨its, rv, p, hz⟩ := I.tuple hq
  obtain ⟨u, hu, ru⟩ := rv.get hx
  obtain ⟨f0, f1, f2, f3, f4, f5⟩ := hf it (by simp)
  refine wpAny_pyNext_tuple_item st (show s.heap.IsTuple a its.toArray from p) (x := u) (by simpa using hu) fun h' st' sb => ?_
  have I1 : Inv X pins σ H { s with heap := h' } := I.turned (t' := s.toks) (fun b o hb e => (sb.2 b hb).trans e) f0 f1 f3 f4 f5
  obtain ⟨o, e, c, d⟩ := id st'
  exact ⟨u, rfl, QaO (s := { s with heap := h' }) e c d (by decide) ⟨x, H, I1, ru, ⟨rfl, fun ys hy => by rw [I.tuple_inj hy hq]; exact hx⟩, st', fun b hb => (hf b hb).1⟩⟩
 done := by
  intro X hP hw hK hc i pins s σ H E I hf st hg
  subst hP hw hK
  obtain ⟨xs, hq, hx⟩ := hg
  obtain ⟨its, rv, p, hz⟩ := I.tuple hq
  obtain ⟨f0, f1, f2, f3, f4, f5⟩ := hf it (by simp)
  have hl := rv.length
  exact wpAny_pyNext_tuple_end (I.ok.hd hc) st (show s.heap.IsTuple a its.toArray from p) (by simp; ac_nf) fun h' eb => ⟨rfl, I.turned (t' := s.toks) (fun b o hb e => eb b o hb e) f0 f1 f3 f4 f5⟩
 self := fun _ _ _ _ _ st h => wpAny_pyIter_tupleiter st h
theorem QaR {P : Program} {w : World} {K : PySem.W.Frag} {tg : Expr} (it : Addr) (lo : Int) (n : Nat) : Turn P w K tg (Itr lo n) [it] it (fun i h => IsRangeIter h it (lo + (i : Nat) * 1) ((n : Int) - (i : Nat)) 1) where
 mem := by simp
 obj := fun i h st b hb => by
  have e : b = it := by simpa using hb
  subst e
  exact ⟨_, st, fun v z => by
   have z' : Data.fields _ = Data.cell v := z
   cases z'⟩
 keep := fun i h h' st k => k it (by simp) _ st
 item := by
  intro X hP hw hK hc i pins s σ H E I hf st hg
  subst hP hw hK
  obtain ⟨f0, f1, f2, f3, f4, f5⟩ := hf it (by simp)
  have W := Walks.range (prog := X.prog) (w := X.w) (I.ok.hd hc) it lo 1 n
  refine W.item i s _ _ hg st fun v h' tk hv st' kk => ?_
  obtain ⟨t, rfl⟩ := hv
  have I1 : Inv X pins σ H { s with heap := h', toks := tk } := I.turned (fun b o hb e => kk b o (by simpa using hb) e) f0 f1 f3 f4 f5
  refine ⟨_, rfl, QaO (s := { s with heap := h', toks := tk }) (n := "range_iterator") st' rfl rfl (by decide) ⟨.int (lo + i), H, I1, ⟨t, ?_⟩, ⟨rfl, rfl⟩, st', fun b hb => (hf b hb).1⟩⟩
  rw [Int.mul_one]
 done := by
  intro X hP hw hK hc i pins s σ H E I hf st hg
  subst hP hw hK
  obtain ⟨f0, f1, f2, f3, f4, f5⟩ := hf it (by simp)
  exact wpAny_pyNext_range_end (I.ok.hd hc) st (by have : n ≤ i := hg; ac_nf) fun h' eb => ⟨rfl, I.turned (t' := s.toks) (fun b o hb e => eb b o hb e) f0 f1 f3 f4 f5⟩
 self := fun _ _ _ _ _ st h => wpAny_pyIter_rangeiter st h
end L2
namespace L2
open PySem PySem.Spec PyProof.Rows
section
variable {X : Cx} {tg : Expr}
noncomputable def iList (K : PySem.W.Frag) (tl : TE) : TI := fun σ H R => tl σ H fun x H1 => ∃ a, x = .ref a ∧ (∃ xs, SqL K H1 a xs) ∧ R (Itl K a) H1
theorem QaS {l : Expr} {tl : TE} (hl : PE X l tl) : PI X tg l (iList X.K tl) := by
 intro pins s σ H R I h
 refine thn (hl pins s σ H _ I h) fun v s1 pq14 => ?_
 obtain ⟨x, H1, I1, r1, q1⟩ := pq14
 obtain ⟨a, e, ⟨xs, hq⟩, q⟩ := q1
 subst e
 cases r1
 obtain ⟨its, rv, p, hz⟩ := I1.list hq
 refine wpAny_pyIter_list p.isList ?_
 refine ⟨s1.heap.objs.size, [s1.heap.objs.size], _, _, H1, rfl, I1.kept (t' := s1.toks) fun b o e => Heap.get?_push_of_some _ e, QaP a _, ⟨_, Heap.get?_push_size _ rfl, rfl, rfl⟩, fun b hb => ?_, q⟩
 have e : b = s1.heap.objs.size := by simpa using hb
 subst e
 exact I1.fpOk (Nat.le_refl _) (I1.hok.fresh (Nat.le_refl _))
theorem QaT {pins : List (Addr × Obj)} {σ : St} {H : Hp} {s : Shared} {R : It → Hp → Prop} {E : Value → Shared → Prop} {lo hi : Int} {t u v : Tok} {tk : Nat} (I : Inv X pins σ H s) (h1 : -(2 ^ 62) ≤ lo) (h2 : lo < 2 ^ 62) (h3 : -(2 ^ 62) ≤ hi) (h4 : hi < 2 ^ 62)
  (q : R (Itr lo (hi - lo).toNat) H) : wpAny (model X.prog X.w) X.A (pyIter (.ref s.heap.objs.size)) (PIE X pins σ tg R) E { s with heap := s.heap.push { cls := .type "range", data := .fields #[.int lo t, .int hi u, .int 1 v] }, toks := tk } := by
 refine wpAny_pyIter_range (IsRange.new ..) (small_one h1 h2 h3 h4) ?_
 have I1 : Inv X pins σ H { s with heap := s.heap.push { cls := .type "range", data := .fields #[.int lo t, .int hi u, .int 1 v] }, toks := tk } := I.kept fun b o e => Heap.get?_push_of_some _ e
 refine ⟨(s.heap.push { cls := .type "range", data := .fields #[.int lo t, .int hi u, .int 1 v] }).objs.size, [(s.heap.push { cls := .type "range", data := .fields #[.int lo t, .int hi u, .int 1 v] }).objs.size], _, _, H, rfl,
  I1.kept (t' := tk) fun b o e => Heap.get?_push_of_some _ e, QaR _ lo (hi - lo).toNat, ?_, fun b hb => ?_, q⟩
 ·have e1 : lo + ((0 : Nat) : Int) * 1 = lo := by simp
  have e2 : (((hi - lo).toNat : Nat) : Int) - ((0 : Nat) : Int) = Builtin.Range.rangeSize lo hi 1 := by rw [rangeSize_one]; split <;> ac_nf
  show IsRangeIter _ _ (lo + ((0 : Nat) : Int) * 1) ((((hi - lo).toNat : Nat) : Int) - ((0 : Nat) : Int)) 1
  rw [e1, e2]
  exact Heap.get?_push_size _ rfl
 ·have e : b = (s.heap.push { cls := .type "range", data := .fields #[.int lo t, .int hi u, .int 1 v] }).objs.size := by simpa using hb
  subst e
  exact I1.fpOk (Nat.le_refl _) (I1.hok.fresh (Nat.le_refl _))
noncomputable def iRng1 (ta : TA) : TI := fun σ H R => ta σ H fun vs H1 => ∃ j : Int, vs = [.int j] ∧ -(2 ^ 62) ≤ j ∧ j < 2 ^ 62 ∧ R (Itr 0 j.toNat) H1
noncomputable def iRng2 (ta : TA) : TI := fun σ H R => ta σ H fun vs H1 => ∃ i j : Int, vs = [.int i, .int j] ∧ (-(2 ^ 62) ≤ i ∧ i < 2 ^ 62 ∧ -(2 ^ 62) ≤ j ∧ j < 2 ^ 62) ∧ R (Itr i (j - i).toNat) H1
theorem QaU {a : Expr} {ta : TA} {p pos : Pos} (hg : Gl X "range") (hm : X.mg "range" = none) (ha : PA X [a] ta) (hs : starEach [a] X.env = [(false, eval a X.env)] := by rfl) : PI X tg (.Call (.Name "range" p) [a] [] pos) (iRng1 ta) := by
 intro pins s σ H R I h
 refine Call_ (Qax I hg hm boot_range (PyProof.Rows.callWith_type1 (thn (ha pos pins s σ H _ I h) fun us s1 ⟨vs, H1, I1, r1, q1⟩ => ?_) hs rfl))
 obtain ⟨j, e, q1, q2, q⟩ := q1
 subst e
 cases r1 with
 | cons r rr =>
  cases rr
  obtain ⟨t, rfl⟩ := r
  exact call_range_1 (QaT I1 (by ac_nf) (by ac_nf) q1 q2 (by simpa using q))
noncomputable def tFor (wi : TI) (g : TG) (tb : TS) : TS := fun D σ H => wi σ H fun J H1 => ∃ W : Nat → Nat → St → Hp → Prop, (∃ m, W 0 m σ H1) ∧ ∀ i m σ H, W i m σ H →
 (J.stop i H ∧ D.nx σ H) ∨ (J.go i H ∧ ∃ N : St → Hp → Prop, (∀ σ' H', N σ' H' → ∃ m', m' < m ∧ W (i + 1) m' σ' H') ∧ ∀ x H', J.yld i H x H' → g x σ H' fun σ2 H2 => tb { D with nx := N, ct := N, bk := D.nx } σ2 H2)
noncomputable def pinsAt (fp : List Addr) (h : Heap) : List (Addr × Obj) := fp.filterMap fun b => (h.get? b).map fun o => (b, o)
theorem QaV {fp : List Addr} {h : Heap} {b : Addr} {o : Obj} (hb : b ∈ fp) (e : h.get? b = some o) : (b, o) ∈ pinsAt fp h := List.mem_filterMap.mpr ⟨b, hb, by rw [e]; rfl⟩
theorem QaW {fp : List Addr} {h : Heap} {p : Addr × Obj} (hp : p ∈ pinsAt fp h) : p.1 ∈ fp ∧ h.get? p.1 = some p.2 := by
 obtain ⟨b, hb, e⟩ := List.mem_filterMap.mp hp
 cases q : h.get? b with
 | none => rw [q] at e; cases e
 | some o =>
  rw [q] at e
  have e' : (b, o) = p := Option.some.inj e
  subst e'
  exact ⟨hb, q⟩
theorem Inv.pinned {pins : List (Addr × Obj)} {σ : St} {H : Hp} {s : Shared} {fp : List Addr} (I : Inv X pins σ H s) (hf : ∀ b ∈ fp, FpOk X pins H b) (ho : ∀ b ∈ fp, ∃ o, s.heap.get? b = some o ∧ ∀ v, o.data ≠ .cell v) : Inv X (pins ++ pinsAt fp s.heap) σ H s :=
 I.pins_of fun p hp => (List.mem_append.mp hp).elim (fun z => I.pin p (List.mem_append_right _ z)) fun z => by
  obtain ⟨hb, e⟩ := QaW z
  obtain ⟨f0, f1, f2, _⟩ := hf p.1 hb
  obtain ⟨o, e', d⟩ := ho p.1 hb
  rw [e] at e'; cases e'
  exact ⟨e, f0, f1, f2, d⟩
theorem Inv.unpinned {pins pl : List (Addr × Obj)} {σ : St} {H : Hp} {s : Shared} (I : Inv X (pins ++ pl) σ H s) : Inv X pins σ H s := I.pins_of fun p hp => I.pin p (List.mem_append_right _ (List.mem_append_left _ hp))
theorem QaX {iter : Expr} {body : List Stmt} {wi : TI} {g : TG} {tb : TS} {pos : Pos} (hp : PassesOwn (model X.prog X.w) X.A X.env X.xe) (hc : X.calm = true) (hi : PI X tg iter wi) (hg : PG X tg g) (hb : PSs X body tb)
  (hs : ∀ x, foldedSetIterable iter X.env x = pure x := by intro _; rfl) : PS X (.For tg iter body [] pos) (tFor wi g tb) := by
 intro pins s σ H D I h
 refine wpAny_For (thn (hi pins s σ H _ I h) fun v s1 h1 => thn h1 fun itv s2 h2 => ?_) hs
 obtain ⟨it, fp, tn, J, H2, e, I2, T, st2, f2, W, ⟨m0, w0⟩, turn⟩ := h2
 subst e
 have stat : ∀ {H' : Hp}, (∀ b ∈ fp, H' b = none) → ∀ b ∈ fp, FpOk X pins H' b := fun hn b hb => ⟨hn b hb, (f2 b hb).2⟩
 refine codeAny_forLoop_any (fun n s' => ∃ i σ' H', Inv X pins σ' H' s' ∧ tn i s'.heap ∧ (∀ b ∈ fp, H' b = none) ∧ W i n σ' H') ?_ m0 ⟨0, σ, H2, I2, st2, fun b hb => (f2 b hb).1, w0⟩
 rintro n s3 ⟨i, σ3, H3, I3, st3, fr3, w3⟩
 rcases turn i n σ3 H3 w3 with ⟨stop, qn⟩ | ⟨go, N, hN, step⟩
 ·refine wpAny_passesOwn hp (thn (T.done X rfl rfl rfl hc i pins s3 σ3 H3 X.xe I3 (stat fr3) st3 stop) fun r s4 pq16 => ?_)
  obtain ⟨hr, I4⟩ := pq16
  subst hr
  exact wpAny_execs_nil ⟨σ3, H3, I4, qn⟩
 ·refine wpAny_passesOwn hp (thn (T.item X rfl rfl rfl hc i pins s3 σ3 H3 X.xe I3 (stat fr3) st3 go) fun r s4 pq17 => ?_)
  obtain ⟨u, hr, h4⟩ := pq17
  subst hr
  refine wpAny_passesOwn hp (thn h4 fun _ s5 pq18 => ?_)
  obtain ⟨x, H5, I5, r5, y5, st5, fr5⟩ := pq18
  have I5' := I5.pinned (stat fr5) (T.obj _ _ st5)
  refine wpAny_passesOwn hp (thn (hg _ s5 σ3 H5 x u _ I5' r5 (step x H5 y5)) fun _ s6 pq19 => ?_)
  obtain ⟨σ6, H6, I6, q6⟩ := pq19
  refine wpAny_passesOwn hp (thn (hb _ s6 σ6 H6 _ I6 q6) fun f s7 q7 => ?_)
  have again : ∀ {σ7 : St} {H7 : Hp}, Inv X (pins ++ pinsAt fp s5.heap) σ7 H7 s7 → N σ7 H7 → ∃ m, m < n ∧ ∃ i σ' H', Inv X pins σ' H' s7 ∧ tn i s7.heap ∧ (∀ b ∈ fp, H' b = none) ∧ W i m σ' H' := fun {σ7 H7} I7 n7 => by
   obtain ⟨m', hm, w7⟩ := hN σ7 H7 n7
   refine ⟨m', hm, i + 1, σ7, H7, I7.unpinned, T.keep _ _ _ st5 fun b hb o e => (I7.pin (b, o) (List.mem_append_right _ (List.mem_append_right _ (QaV hb e)))).1, fun b hb => ?_, w7⟩
   obtain ⟨o, e, d⟩ := T.obj _ _ st5 b hb
   exact (I7.pin (b, o) (List.mem_append_right _ (List.mem_append_right _ (QaV hb e)))).2.1
  cases f with
  | next => obtain ⟨σ7, H7, I7, n7⟩ := q7; exact again I7 n7
  | cont => obtain ⟨σ7, H7, I7, n7⟩ := q7; exact again I7 n7
  | brk => obtain ⟨σ7, H7, I7, q7⟩ := q7; exact ⟨σ7, H7, I7.unpinned, q7⟩
  | ret v => obtain ⟨x7, σ7, H7, I7, r7, q7⟩ := q7; exact ⟨x7, σ7, H7, I7.unpinned, r7, q7⟩
end
end L2
namespace L2
open PySem PySem.Spec PyProof.Rows
noncomputable abbrev R2 := V → V → Hp → VK → Prop
def OpR (X : Cx) (f : Value → Value → Sem Value) (r : R2) : Prop :=
 ∀ (pins : List (Addr × Obj)) (s : Shared) (σ : St) (H : Hp) (x y : V) (v u : Value) (Q : VK), Inv X pins σ H s → RelV x v → RelV y u → r x y H Q →
  wpAny (model X.prog X.w) X.A (f v u) (EP X pins σ Q) X.xe s
def CallR (X : Cx) (f : Value) (r : List V → Hp → VK → Prop) : Prop :=
 ∀ (pins : List (Addr × Obj)) (s : Shared) (σ : St) (H : Hp) (xs : List V) (us : List Value) (Q : VK), Inv X pins σ H s → Vals xs us → r xs H Q →
  wpAny (model X.prog X.w) X.A (call f us) (EP X pins σ Q) X.xe s
def TruR (X : Cx) (r : V → Hp → (Bool → Hp → Prop) → Prop) : Prop :=
 ∀ (pins : List (Addr × Obj)) (s : Shared) (σ : St) (H : Hp) (x : V) (v : Value) (Q : Bool → Hp → Prop), Inv X pins σ H s → RelV x v → r x H Q →
  wpAny (model X.prog X.w) X.A (truthy v) (TP X pins σ Q) X.xe s
noncomputable def tOp (r : R2) (ta tb : TE) : TE := fun σ H Q => ta σ H fun x H1 => tb σ H1 fun y H2 => r x y H2 Q
noncomputable def rI (C : Int → Int → Prop) (g : Int → Int → V) : R2 := fun x y H Q => ∃ i j, x = .int i ∧ y = .int j ∧ C i j ∧ Q (g i j) H
noncomputable def rI0 (g : Int → Int → V) : R2 := fun x y H Q => ∃ i j, x = .int i ∧ y = .int j ∧ Q (g i j) H
section
variable {X : Cx} {a b c : Expr} {ta tb tc : TE} {pos : Pos}
theorem binT (ha : PE X a ta) (hb : PE X b tb) {pins : List (Addr × Obj)} {s : Shared} {σ : St} {H : Hp} {R : V → V → Hp → Prop} (I : Inv X pins σ H s)
  (h : ta σ H fun x H1 => tb σ H1 fun y H2 => R x y H2) {Q : Value → Shared → Prop} {f : Value → Value → Sem Value}
  (hf : ∀ v u s2 x y H2, Inv X pins σ H2 s2 → RelV x v → RelV y u → R x y H2 → wpAny (model X.prog X.w) X.A (f v u) Q X.xe s2) :
  wpAny (model X.prog X.w) X.A (eval a X.env) (fun v s₁ => wpAny (model X.prog X.w) X.A (eval b X.env) (fun u s₂ => wpAny (model X.prog X.w) X.A (f v u) Q X.xe s₂) X.xe s₁) X.xe s := by
 refine thn (ha pins s σ H _ I h) fun v s1 pq20 => ?_
 obtain ⟨x, H1, I1, r1, q1⟩ := pq20
 refine thn (hb pins s1 σ H1 _ I1 q1) fun u s2 pq21 => ?_
 obtain ⟨y, H2, I2, r2, q2⟩ := pq21
 exact hf v u s2 x y H2 I2 r1 r2 q2
theorem QaY {op : Operator} {r : R2} (ho : OpR X (binaryOp op) r) (ha : PE X a ta) (hb : PE X b tb) : PE X (.BinOp a op b pos) (tOp r ta tb) := by
 intro pins s σ H Q I h
 exact wpAny_BinOp (binT ha hb I h fun v u s2 x y H2 I2 rx ry q => ho pins s2 σ H2 x y v u Q I2 rx ry q)
theorem opI {f : Value → Value → Sem Value} {C : Int → Int → Prop} {g : Int → Int → Int}
  (rule : ∀ (i j : Int) (t u : Tok) (s : Shared) (Q : Value → Shared → Prop) (E : Value → Shared → Prop), C i j → Q (.int (g i j) s.toks) { s with toks := s.toks + 1 } → wpAny (model X.prog X.w) X.A (f (.int i t) (.int j u)) Q E s) :
  OpR X f (rI C fun i j => .int (g i j)) := by
 intro pins s σ H x y v u Q I rx ry h
 obtain ⟨i, j, rfl, rfl, hc, q⟩ := h
 obtain ⟨t, rfl⟩ := rx
 obtain ⟨t', rfl⟩ := ry
 exact rule i j t t' s _ _ hc ⟨.int (g i j), H, I.tok _, ⟨_, rfl⟩, q⟩
theorem opI0 {f : Value → Value → Sem Value} {g : Int → Int → Int}
  (rule : ∀ (i j : Int) (t u : Tok) (s : Shared) (Q : Value → Shared → Prop) (E : Value → Shared → Prop), Q (.int (g i j) s.toks) { s with toks := s.toks + 1 } → wpAny (model X.prog X.w) X.A (f (.int i t) (.int j u)) Q E s) :
  OpR X f (rI0 fun i j => .int (g i j)) := by
 intro pins s σ H x y v u Q I rx ry h
 obtain ⟨i, j, rfl, rfl, q⟩ := h
 obtain ⟨t, rfl⟩ := rx
 obtain ⟨t', rfl⟩ := ry
 exact rule i j t t' s _ _ ⟨.int (g i j), H, I.tok _, ⟨_, rfl⟩, q⟩
theorem opB0 {f : Value → Value → Sem Value} {g : Int → Int → Bool}
  (rule : ∀ (i j : Int) (t u : Tok) (s : Shared) (Q : Value → Shared → Prop) (E : Value → Shared → Prop), Q (.bool (g i j)) s → wpAny (model X.prog X.w) X.A (f (.int i t) (.int j u)) Q E s) :
  OpR X f (rI0 fun i j => .bl (g i j)) := by
 intro pins s σ H x y v u Q I rx ry h
 obtain ⟨i, j, rfl, rfl, q⟩ := h
 obtain ⟨t, rfl⟩ := rx
 obtain ⟨t', rfl⟩ := ry
 exact rule i j t t' s _ _ ⟨.bl (g i j), H, I, rfl, q⟩
def CDiv (i j : Int) : Prop := 0 < j ∧ j < 1073741824
def CPow (i j : Int) : Prop := 0 ≤ j ∧ j ≤ 1000000 ∧ i.natAbs < 2 ^ 64
def CMul (i j : Int) : Prop := (-(2 ^ 64) < i ∧ i < 2 ^ 64) ∨ (-(2 ^ 64) < j ∧ j < 2 ^ 64)
theorem CMul.ok {i j : Int} (h : CMul i j) : IntMulOk i j := by
 rcases h with ⟨h1, h2⟩ | ⟨h1, h2⟩
 ·exact .of_left (intBits_le_64 h1 h2)
 ·exact .of_right (intBits_le_64 h1 h2)
theorem QaZ : OpR X (binaryOp .Add) (rI0 fun i j => .int (i + j)) := opI0 fun _ _ _ _ _ _ _ q => add_int q
theorem Qa0 : OpR X (binaryOp .Sub) (rI0 fun i j => .int (i - j)) := opI0 fun _ _ _ _ _ _ _ q => sub_int q
theorem Qa1 : OpR X (binaryOp .Mult) (rI CMul fun i j => .int (i * j)) := opI fun _ _ _ _ _ _ _ hc q => mul_int q hc.ok
theorem Qa2 : OpR X (binaryOp .FloorDiv) (rI CDiv fun i j => .int (i / j)) := opI fun i j _ _ _ _ _ hc q => by
 have h1 : (0 : Int) < j := hc.1
 have h2 : j < 1073741824 := hc.2
 exact floordiv_int (by ac_nf) (by rw [Int.fdiv_eq_ediv_of_nonneg i (by ac_nf)]; exact q) (.inl (PyProof.noPylong_small (by ac_nf)))
theorem Qa3 : OpR X (binaryOp .Mod) (rI (fun _ j => 0 < j) fun i j => .int (i % j)) := opI fun i j _ _ _ _ _ hc q => by
 have h1 : (0 : Int) < j := hc
 exact mod_int' (by ac_nf) (by rw [Int.fmod_eq_emod_of_nonneg i (by ac_nf)]; exact q)
theorem Qa4 : OpR X (binaryOp .Pow) (rI CPow fun i j => .int (i ^ j.toNat)) := opI fun _ _ _ _ _ _ _ hc q => pow_int_small hc.1 hc.2.1 hc.2.2 q
end
section
variable {X : Cx} {a b c : Expr} {ta tb tc : TE} {pos : Pos}
theorem Qa5 : OpR X (compareOp .Gt) (rI0 fun i j => .bl (decide (j < i))) := opB0 fun _ _ _ _ _ _ _ q => gt_int q
theorem Qa6 : OpR X (compareOp .GtE) (rI0 fun i j => .bl (decide (j ≤ i))) := opB0 fun _ _ _ _ _ _ _ q => ge_int q
theorem OpR.or {f : Value → Value → Sem Value} {r r' : R2} (h : OpR X f r) (h' : OpR X f r') : OpR X f (fun x y H Q => r x y H Q ∨ r' x y H Q) := by
 intro pins s σ H x y v u Q I rx ry q
 rcases q with q | q
 ·exact h pins s σ H x y v u Q I rx ry q
 ·exact h' pins s σ H x y v u Q I rx ry q
theorem Qa7 (b : Expr) {op : CmpOp} (h : op ≠ .In := by decide) (h2 : op ≠ .NotIn := by decide) : behindInMarks op b = false := by
 have e1 : (op == CmpOp.In) = false := by cases op <;> first | rfl | exact absurd rfl h
 have e2 : (op == CmpOp.NotIn) = false := by cases op <;> first | rfl | exact absurd rfl h2
 cases b <;> simp [behindInMarks, e1, e2]
theorem Qa8 {op : CmpOp} {r : R2} (ho : OpR X (compareOp op) r) (ha : PE X a ta) (hb : PE X b tb) (hm : behindInMarks op b = false) : PE X (.Compare a [op] [b] pos) (tOp r ta tb) := by
 intro pins s σ H Q I h
 exact wpAny_Compare1 (binT ha hb I h fun v u s2 x y H2 I2 rx ry q => ho pins s2 σ H2 x y v u Q I2 rx ry q) hm
noncomputable def tTest (t : TE) : TT := fun σ H Q => t σ H fun x H' => ∃ k, x = .bl k ∧ Q k H'
theorem Qa9 {op : CmpOp} {r : R2} (ho : OpR X (compareOp op) r) (ha : PE X a ta) (hb : PE X b tb) (hm : behindInMarks op b = false) : PT X (.Compare a [op] [b] pos) (tTest (tOp r ta tb)) := by
 intro pins s σ H Q I h
 refine wpAny_isTrue_Compare1 (thn (ha pins s σ H _ I h) fun v s1 ⟨x, H1, I1, r1, q1⟩ => thn (hb pins s1 σ H1 _ I1 q1) fun u s2 ⟨y, H2, I2, r2, q2⟩ =>
  thn (ho pins s2 σ H2 x y v u _ I2 r1 r2 q2) fun c s3 ⟨z, H3, I3, r3, k, e, q3⟩ => ?_) hm
 subst e
 cases r3
 exact wpAny_truthy_bool ⟨H3, I3, q3⟩
def TruV (K : PySem.W.Frag) (x : V) (H : Hp) (k : Bool) : Prop :=
 match x with
 | .non => k = false
 | .bl b => k = b
 | .int i => k = (i != 0)
 | .str y => y.length ≤ sizeLine ∧ k = ((y.length : Int) != 0)
 | .byt y => y.size ≤ sizeLine ∧ k = ((y.size : Int) != 0)
 | .ref p => (∃ xs, SqL K H p xs ∧ k = !xs.isEmpty) ∨ (∃ xs, SqT K H p xs ∧ k = !xs.isEmpty) ∨ ∃ kvs, H p = some (.dK kvs) ∧ k = !kvs.isEmpty
 | _ => False
theorem Qba {κ : Type} {kvs : List (κ × V)} {vs : List (κ × Value)} (r : KV kvs vs) : (!vs.isEmpty) = !kvs.isEmpty := by
 cases r <;> rfl
theorem Qbb {xs : List V} {its : List Value} (r : Vals xs its) : (!its.toArray.isEmpty) = !xs.isEmpty := by
 cases r <;> simp
theorem Qbc : (sizeLine : Nat) < 2 ^ 63 := by rw [sizeLine_eq]; decide
theorem Qbd : TruR X (fun x H Q => ∃ k, TruV X.K x H k ∧ Q k H) := by
 intro pins s σ H x v Q I rx h
 obtain ⟨k, e, q⟩ := h
 have hl := Qbc
 have hs : sizeLine = 16777216 := sizeLine_eq
 cases x with
 | non =>
  cases rx
  have e' : k = false := e
  subst e'
  exact truthy_none ⟨H, I, q⟩
 | bl b =>
  cases rx
  have e' : k = b := e
  subst e'
  exact wpAny_truthy_bool ⟨H, I, q⟩
 | int i =>
  obtain ⟨t, rfl⟩ := rx
  have e' : k = (i != 0) := e
  subst e'
  exact PySem.P.truthy_int ⟨H, I, q⟩
 | str y =>
  obtain ⟨t, rfl⟩ := rx
  obtain ⟨hy, e'⟩ : y.length ≤ sizeLine ∧ k = ((y.length : Int) != 0) := e
  subst e'
  exact PySem.P.truthy_str (by ac_nf) ⟨H, I.tok _, q⟩
 | byt y =>
  obtain ⟨t, rfl⟩ := rx
  obtain ⟨hy, e'⟩ : y.size ≤ sizeLine ∧ k = ((y.size : Int) != 0) := e
  subst e'
  exact PySem.W.truthy_bytes (by ac_nf) ⟨H, I.tok _, q⟩
 | ref p =>
  cases rx
  have e' : (∃ xs, SqL X.K H p xs ∧ k = !xs.isEmpty) ∨ (∃ xs, SqT X.K H p xs ∧ k = !xs.isEmpty) ∨ ∃ kvs, H p = some (.dK kvs) ∧ k = !kvs.isEmpty := e
  rcases e' with ⟨xs, hx, e'⟩ | ⟨xs, hx, e'⟩ | ⟨kvs, hx, e'⟩
  ·subst e'
   obtain ⟨its, r, pl, hz⟩ := I.list hx
   have hlen := r.length
   exact wpAny_truthy_list pl.isList (by simp only [List.size_toArray]; ac_nf) ⟨H, I.tok _, by rw [Qbb r]; exact q⟩
  ·subst e'
   obtain ⟨its, r, pl, hz⟩ := I.tuple hx
   have hlen := r.length
   exact truthy_tuple pl (by simp only [List.size_toArray]; ac_nf) ⟨H, I.tok _, by rw [Qbb r]; exact q⟩
  ·subst e'
   obtain ⟨hz, hS, vs, r, m⟩ : kvs.length ≤ sizeLine ∧ (p == sysModules) = false ∧ ∃ vs, KV kvs vs ∧ s.heap.DictOf (mixKind X.prog X.w) p vs := I.hok p _ hx
   have hlen : kvs.length = vs.length := Paired.length r
   exact wpAny_truthy_dict hS m (by ac_nf) ⟨H, I.tok _, by rw [Qba r]; exact q⟩
 | _ => exact (show False from e).elim
theorem Qbe (ha : PE X a ta) (he : ∀ whole, isTrue a X.env whole = (do let v ← whole; standAt a.pos; holding [v] (truthy v))) :
  PT X a (fun σ H Q => ta σ H fun x H' => ∃ k, TruV X.K x H' k ∧ Q k H') := by
 intro pins s σ H Q I h
 exact isTrue_plain (thn (ha pins s σ H _ I h) fun v s1 pq22 => by obtain ⟨x, H1, I1, r1, q1⟩ := pq22; exact Qbd pins s1 σ H1 x v Q I1 r1 q1) (he _)
theorem Qbf : OpR X (binaryOp .Add) (fun x y H Q => ∃ i j, x = .str i ∧ y = .str j ∧ i.length + j.length ≤ sizeLine ∧ Q (.str (i ++ j)) H) := by
 intro pins s σ H x y v u Q I rx ry h
 obtain ⟨i, j, rfl, rfl, hz, q⟩ := h
 obtain ⟨t, rfl⟩ := rx
 obtain ⟨t', rfl⟩ := ry
 exact add_str (fun t' tk => ⟨.str (i ++ j), H, I.tok _, ⟨_, rfl⟩, q⟩) hz
theorem Qbg {x : V} {us : List Value} (r : Vals [x] us) : ∃ u, us = [u] ∧ RelV x u := by
 cases r with
 | cons r1 r2 => cases r2; exact ⟨_, rfl, r1⟩
theorem Qbh {x y : V} {us : List Value} (r : Vals [x, y] us) : ∃ u w', us = [u, w'] ∧ RelV x u ∧ RelV y w' := by
 cases r with
 | cons r1 r2 =>
  cases r2 with
  | cons r3 r4 => cases r4; exact ⟨_, _, rfl, r1, r3⟩
theorem Qbi (hc : X.calm = true) : CallR X (.builtin "max") (fun xs H Q => ∃ i j, xs = [.int i, .int j] ∧ Q (.int (if j > i then j else i)) H) := by
 intro pins s σ H xs us Q I r h
 obtain ⟨i, j, rfl, q⟩ := h
 obtain ⟨u, w', rfl, ⟨t, rfl⟩, ⟨t', rfl⟩⟩ := Qbh r
 refine max_two_ints (I.ok.hd hc) fun h' tk k => ⟨_, H, I.kept k, ?_, q⟩
 by_cases hj : j > i
 ·rw [if_pos hj, if_pos hj]; exact ⟨_, rfl⟩
 ·rw [if_neg hj, if_neg hj]; exact ⟨_, rfl⟩
end
end L2
namespace L2
open PySem PySem.Spec PyProof.Rows
structure ObjM (h : Heap) (x dx C : Addr) (mA : Str → Option Value) : Prop where
 obj : h.get? x = some (PySem.W.instObj C dx)
 ns : h.Ns1 dx mA
 ne : dx ≠ x
section
variable {prog : Program} {w : World} {A : Around} {E : Value → Shared → Prop} {s : Shared} {K : PySem.W.Frag} {x dx C f : Addr} {mA : Str → Option Value} {name : Str} {v : Value}
end
theorem RelO.some_of {v : V} {o : Option Value} (r : RelO (some v) o) : ∃ u, o = some u ∧ RelV v u := by
 cases o with
 | none => exact (show False from r).elim
 | some u => exact ⟨u, rfl, r⟩
theorem RelO.none_of {o : Option Value} (r : RelO none o) : o = none := by
 cases o with
 | none => rfl
 | some u => exact (show False from r).elim
section
variable {P : Program} {w : World} {H H' : Hp} {h h' : Heap} {a C dx : Addr} {fs fs' : List (Str × V)}
end
structure Cls (K : PySem.W.Frag) (C : Addr) : Prop where
 pg : PySem.W.plainGet K C Str.empty = true
 hd : PySem.W.hasDictIn K C = true
 po : PySem.W.plainOver K C = true
 sa : PySem.W.findIn K (.ref C) "__setattr__" = some (some (.builtin "object.__setattr__"))
theorem Cls.get {K : PySem.W.Frag} {C : Addr} (c : Cls K C) (f : Str) : PySem.W.plainGet K C f = true := c.pg
structure Con (K : PySem.W.Frag) (C : Addr) (f : Str) (v : V) (u : Value) : Prop where
 at_ : PySem.W.findIn K (.ref C) f = some (some u)
 rel : RelV v u
 get : PySem.W.specialIn K u "__get__" = some none
 cp : PySem.W.copiedNames.contains f = false
structure Meth (K : PySem.W.Frag) (C : Addr) (m : Str) (f : Addr) : Prop where
 at_ : PySem.W.findIn K (.ref C) m = some (some (.ref f))
 fn : PySem.W.isFn K (.ref f) = true
 kp : PySem.W.keepIn K (.ref f) = true
section
variable {X : Cx} {pins : List (Addr × Obj)} {σ : St} {H : Hp} {s : Shared} {a C dx : Addr} {fs : List (Str × V)} {f : Str} {v : V} {A : Around} {E : Value → Shared → Prop}
theorem Inv.made (I : Inv X pins σ H s) : Inv X pins σ (upd (upd H s.heap.objs.size (.own (s.heap.objs.size + 1))) (s.heap.objs.size + 1) (.ins C s.heap.objs.size []))
  { s with heap := (s.heap.push PySem.W.emptyDict).push (PySem.W.instObj C s.heap.objs.size) } := by
 have e1 : (s.heap.push PySem.W.emptyDict).get? s.heap.objs.size = some PySem.W.emptyDict := Heap.get?_push_size s.heap rfl
 have e2 : ((s.heap.push PySem.W.emptyDict).push (PySem.W.instObj C s.heap.objs.size)).get? (s.heap.objs.size + 1) = some (PySem.W.instObj C s.heap.objs.size) := by
  have := Heap.get?_push_size (s.heap.push PySem.W.emptyDict) (o := PySem.W.instObj C s.heap.objs.size) rfl
  rwa [Heap.size_push] at this
 have e3 : (s.heap.push PySem.W.emptyDict).Ns s.heap.objs.size (fun _ => none) := ⟨PySem.W.emptyDict, #[], _, e1, rfl, (fun e he => absurd he (by simp)), fun _ => rfl⟩
 have I1 := I.laid (a := s.heap.objs.size) (o := .own (s.heap.objs.size + 1)) (h' := s.heap.push PySem.W.emptyDict) (t' := s.toks) (fun b u q => Heap.get?_push_of_some _ q) (Nat.le_refl _) ⟨_, e1⟩
 refine I1.laid (a := s.heap.objs.size + 1) (o := .ins C s.heap.objs.size []) (t' := s.toks) (fun b u q => Heap.get?_push_of_some _ q) (Nat.le_of_eq (Heap.size_push _ _)) ?_
 have ne : s.heap.objs.size ≠ s.heap.objs.size + 1 := Nat.ne_of_lt (Nat.lt_succ_self _)
 refine ⟨by rw [Qaj ne, Qai], Nat.zero_le _, ne, e2, fun _ => none, (Heap.Ns1.of_empty e3).at fun o q => Heap.get?_push_of_some _ q, fun _ => True.intro, fun y hy => absurd rfl hy⟩
theorem Qbj {prog : Program} {w : World} {env : Env} {e : Expr} {f : Str} {pos : Pos} {s : Shared} {Q : Value → Shared → Prop} (hb : attributeBase e f env (eval e env) = eval e env)
  (h : wpAny (model prog w) A (eval e env) (fun o s₁ => wpAny (model prog w) A (getAttr o f true) Q E s₁) E s) : wpAny (model prog w) A (eval (.Attribute e f pos) env) Q E s :=
 Attribute_any_ h (by rw [arm_eval_Attribute, hb])
end
section
variable {X : Cx} {o e value : Expr} {f : Str} {pos pos' tpos : Pos} {ta tv : TE}
end
section
variable {X : Cx} {pins : List (Addr × Obj)} {σ : St} {H : Hp} {s : Shared} {A : Around} {E : Value → Shared → Prop} {Q : Value → Shared → Prop} {c : Value} {b : Bool}
inductive TyOf (K : PySem.W.Frag) (H : Hp) : V → Value → Prop where
 | non : TyOf K H .non (.type "NoneType")
 | bl (x : Bool) : TyOf K H (.bl x) (.type "bool")
 | int (i : Int) : TyOf K H (.int i) (.type "int")
 | str (x : Str) : TyOf K H (.str x) (.type "str")
 | flt (x : UInt64) : TyOf K H (.flt x) (.type "float")
 | lst {a : Addr} {xs : List V} (e : H a = some (.lst xs)) : TyOf K H (.ref a) (.type "list")
 | frz {a : Addr} {o : Obj} {xs : List V} (e : H a = some (.frz o (.lst xs))) : TyOf K H (.ref a) (.type "list")
 | tup {a : Addr} {xs : List V} (e : H a = some (.tup xs)) : TyOf K H (.ref a) (.type "tuple")
 | dK {a : Addr} {kvs : List (Key × V)} (e : H a = some (.dK kvs)) : TyOf K H (.ref a) (.type "dict")
 | dT {a : Addr} {kvs : List (List Key × V)} (e : H a = some (.dT kvs)) : TyOf K H (.ref a) (.type "dict")
 | ins {a C dx : Addr} {fs : List (Str × V)} (e : H a = some (.ins C dx fs)) (cl : Cls K C) (ha : PySem.W.findIn K (.ref C) "__class__" = some (some (.builtin "object.__class__")))
   (hn : PySem.W.specialIn K (.builtin "object.__class__") "__get__" = some (some (.builtin "getset_descriptor.__get__"))) (htk : PySem.W.takesIn K (.builtin "object.__class__") = some true)
   (hm : PySem.W.mroIn K C (.type "object") = some true) : TyOf K H (.ref a) (.ref C)
end
end L2
namespace L2
open PySem PySem.Spec PyProof.Rows
structure Room (k : Nat) (A : Around) : Prop where
 hd : A.handled = none
 dp : A.depth + 3 * k + 5 < recursionLimit
 un : A.units + 16 * k + 200 < cLine
theorem Room.mono {j k : Nat} {A : Around} (r : Room k A) (h : j ≤ k) : Room j A := ⟨r.hd, by have := r.dp; ac_nf, by have := r.un; ac_nf⟩
theorem Room.deeper {k : Nat} {A : Around} (r : Room (k + 1) A) (env : Env) : Room k (A.deeper env) :=
 ⟨r.hd, by have := r.dp; show A.depth + 1 + 3 * k + 5 < _; ac_nf, by have := r.un; show A.units + 3 + 16 * k + 200 < _; ac_nf⟩
theorem Room.in1 {k : Nat} {A : Around} (r : Room (k + 1) A) : Room k A.in1 :=
 ⟨r.hd, by have := r.dp; show A.depth + 3 * k + 5 < _; ac_nf, by have := r.un; show A.units + 1 + 16 * k + 200 < _; ac_nf⟩
theorem Qbk {A : Around} {C : Addr} {us : List Value} {kw : List (Str × Value)} : (A.under (.builtin "type.__call__" ⟨.ref C :: us, kw⟩)).depth = A.depth + 1 := by
 first | rfl | simp [Around.under, Code.weight, Code.isCreation, Code.isGuard, Code.isCaller, Code.frames, Code.isFrame, guardIds]
theorem Qbl {A : Around} {C : Addr} {us : List Value} {kw : List (Str × Value)} : (A.under (.builtin "type.__call__" ⟨.ref C :: us, kw⟩)).units = A.units + 1 := by
 first | rfl | simp [Around.under, Code.cUnits, Code.frames, Code.isFrame]
theorem Room.make {k : Nat} {A : Around} (r : Room (k + 1) A) (C : Addr) (us : List Value) (kw : List (Str × Value)) : Room k (A.under (.builtin "type.__call__" ⟨.ref C :: us, kw⟩)) :=
 ⟨r.hd, by have := r.dp; rw [Qbk]; ac_nf, by have := r.un; rw [Qbl]; ac_nf⟩
theorem Room.depth {k : Nat} {A : Around} (r : Room k A) : A.depth < recursionLimit := by have := r.dp; ac_nf
theorem Room.units {k : Nat} {A : Around} (r : Room k A) : A.units + 64 < cLine := by have := r.un; ac_nf
noncomputable def tNil : TA := fun _ H Q => Q [] H
noncomputable def tCons (ta : TE) (tr : TA) : TA := fun σ H Q => ta σ H fun x H1 => tr σ H1 fun xs H2 => Q (x :: xs) H2
section
variable {X : Cx} {e : Expr} {es : List Expr} {te : TE} {t : TA} {pos : Pos}
theorem Qbm : PA X [] tNil := fun _ _ _ _ H Q I h => Calls.spliced_nil ⟨[], H, I, .nil, h⟩
theorem Qbn (ha : PE X e te) (hr : PA X es t) (hs : starEach (e :: es) X.env = (false, eval e X.env) :: starEach es X.env := by rfl) : PA X (e :: es) (tCons te t) := by
 intro pos pins s σ H Q I h
 rw [hs]
 show wpAny _ _ (spliced ((false, eval e X.env) :: backTo pos (starEach es X.env))) _ _ s
 refine Calls.spliced_cons (thn (ha pins s σ H _ I h) fun u s1 pq23 => ?_)
 obtain ⟨x, H1, I1, r1, q1⟩ := pq23
 exact thn (hr pos pins s1 σ H1 _ I1 q1) fun us s2 pq24 => by obtain ⟨xs, H2, I2, r2, q2⟩ := pq24; exact ⟨x :: xs, H2, I2, .cons r1 r2, q2⟩
noncomputable def tTup (t : TA) : TE := fun σ H Q => t σ H fun xs H1 => xs.length ≤ sizeLine ∧ ∀ p, H1 p = none → Q (.ref p) (upd H1 p (.tup xs))
noncomputable def tLst (t : TA) : TE := fun σ H Q => t σ H fun xs H1 => xs.length ≤ sizeLine ∧ ∀ p, H1 p = none → Q (.ref p) (upd H1 p (.lst xs))
theorem Qbo {x1} (h : PA X es t) : PE X (.Tuple es x1 pos) (tTup t) := by
 intro pins s σ H Q I hq
 refine wpAny_Tuple_spliced (thn (h pos pins s σ H _ I hq) fun us s1 ⟨xs, H1, I1, r, z, q⟩ => ⟨by rw [← r.length]; exact z, ?_⟩)
 have hf : H1 s1.heap.objs.size = none := I1.hok.fresh (Nat.le_refl _)
 refine ⟨.ref s1.heap.objs.size, upd H1 s1.heap.objs.size (.tup xs), I1.laid (t' := s1.toks) (fun b u e => Heap.get?_push_of_some _ e) (Nat.le_refl _) ?_, rfl, q _ hf⟩
 exact ⟨z, us, r, ⟨_, Heap.get?_push_size _ rfl, rfl, _, rfl⟩⟩
theorem Qbp (h : PA X es t) : PE X (.List es pos) (tLst t) := by
 intro pins s σ H Q I hq
 refine wpAny_List_spliced (thn (h pos pins s σ H _ I hq) fun us s1 ⟨xs, H1, I1, r, z, q⟩ => ⟨by rw [← r.length]; exact z, ?_⟩)
 have hf : H1 s1.heap.objs.size = none := I1.hok.fresh (Nat.le_refl _)
 refine ⟨.ref s1.heap.objs.size, upd H1 s1.heap.objs.size (.lst xs), I1.laid (t' := s1.toks) (fun b u e => Heap.get?_push_of_some _ e) (Nat.le_refl _) ?_, rfl, q _ hf⟩
 exact ⟨z, us, 0, r, Heap.get?_push_size _ rfl⟩
end
noncomputable abbrev Sp := List V → Hp → VK → XK → Prop
noncomputable abbrev CXT := List Env → Hp → Shared → XK → Value → Shared → Prop
structure Env0 (P : Program) (w : World) (K : PySem.W.Frag) (mg : Str → Option Value) (base : Heap) (A : Around) (outer : List Env) (s : Shared) (H : Hp) : Prop where
 frames : A.frames = some outer
 mod : Mod K mg base
 bs : ∀ b o, base.get? b = some o → s.heap.get? b = some o ∧ H b = none
 bsz : base.objs.size ≤ s.heap.objs.size
 funs : s.heap.FunFrames base outer
 frf : ∀ b ∈ frs outer, H b = none
 hok : HOk P w H s.heap
 bare : AllBare s.gens
def CE (outer : List Env) (P : Program) (w : World) (H : Hp) (s : Shared) (Q : VK) (u : Value) (s' : Shared) : Prop :=
 ∃ v H', s'.os = s.os ∧ AllBare s'.gens ∧ Un (frs outer) [] H H' s.heap s'.heap ∧ HOk P w H' s'.heap ∧ RelV v u ∧ Q v H'
def CR (CX : CXT) (outer : List Env) (P : Program) (w : World) (H : Hp) (s : Shared) (Q : VK) (E : XK) (r : Result) (s' : Shared) : Prop :=
 match r with
 | .ok (.ret u) => CE outer P w H s Q u s'
 | .ok _ => False
 | .error e => CX outer H s E e s'
structure FnOk (P : Program) (w : World) (K : PySem.W.Frag) (mg : Str → Option Value) (base : Heap) (CX : CXT) (k : Nat) (f : Addr) (fd : FuncData) (ps : List Str) (sp : Sp) : Prop where
 len : ∀ vs H Q E, sp vs H Q E → vs.length = ps.length
 run : ∀ (A : Around) (outer : List Env) (s : Shared) (H : Hp) (args : Args) (us : List Value) (vs : List V) (Q : VK) (E : XK), Room k A → Env0 P w K mg base A outer s H → BindsTo s fd args (ps.zip us) → Vals vs us → sp vs H Q E →
  codeAny (model P w) A (.call (.ref f) args) (CR CX outer P w H s Q E) s
theorem FnOk.mono {P : Program} {w : World} {K : PySem.W.Frag} {mg : Str → Option Value} {base : Heap} {CX : CXT} {j k : Nat} {f : Addr} {fd : FuncData} {ps : List Str} {sp : Sp} (F : FnOk P w K mg base CX j f fd ps sp) (h : j ≤ k) :
  FnOk P w K mg base CX k f fd ps sp := ⟨F.len, fun A outer s H args us vs Q E hr => F.run A outer s H args us vs Q E (hr.mono h)⟩
theorem FnOk.imp {P : Program} {w : World} {K : PySem.W.Frag} {mg : Str → Option Value} {base : Heap} {CX : CXT} {k : Nat} {f : Addr} {fd : FuncData} {ps : List Str} {sp sp' : Sp} (F : FnOk P w K mg base CX k f fd ps sp)
  (h : ∀ vs H Q E, sp' vs H Q E → sp vs H Q E) : FnOk P w K mg base CX k f fd ps sp' :=
 ⟨fun vs H Q E q => F.len vs H Q E (h _ _ _ _ q), fun A outer s H args us vs Q E hr he hb hv hs => F.run A outer s H args us vs Q E hr he hb hv (h _ _ _ _ hs)⟩
theorem Env0.make {P : Program} {w : World} {K : PySem.W.Frag} {mg : Str → Option Value} {base : Heap} {A : Around} {outer : List Env} {s : Shared} {H : Hp} (e : Env0 P w K mg base A outer s H) (C : Addr) (us : List Value) (kw : List (Str × Value)) :
  Env0 P w K mg base (A.under (.builtin "type.__call__" ⟨.ref C :: us, kw⟩)) outer s H := ⟨by first | exact e.frames | (simpa [Around.under, Code.envs, Code.isFrame, pushEnvs] using e.frames), e.mod, e.bs, e.bsz, e.funs, e.frf, e.hok, e.bare⟩
theorem Env0.in1 {P : Program} {w : World} {K : PySem.W.Frag} {mg : Str → Option Value} {base : Heap} {A : Around} {outer : List Env} {s : Shared} {H : Hp} (e : Env0 P w K mg base A outer s H) :
  Env0 P w K mg base A.in1 outer s H := ⟨e.frames, e.mod, e.bs, e.bsz, e.funs, e.frf, e.hok, e.bare⟩
section
variable {X : Cx} {pins : List (Addr × Obj)} {σ : St} {H : Hp} {s s' : Shared}
theorem Inv.env0 (I : Inv X pins σ H s) : Env0 X.prog X.w X.K X.mg X.base X.A X.stack s H :=
 ⟨I.ok.frames, I.ok.mod, I.bs, Nat.le_trans I.ok.bsz I.sz, I.stack, I.stkFree, I.hok, I.bare⟩
theorem Inv.after {Q : VK} {u : Value} (I : Inv X pins σ H s) (h : CE X.stack X.prog X.w H s Q u s') : EP X pins σ Q u s' := by
 obtain ⟨v, H', os, bare, un, hok, r, q⟩ := h
 obtain ⟨hh, g, d, t, os'⟩ := s'
 obtain rfl : os' = s.os := os
 exact ⟨v, H', I.call (h' := hh) (g' := g) (d' := d) (t' := t) (ch := []) un hok bare (fun b z => absurd z (by simp)), r, q⟩
end
noncomputable def tCall (sp : Sp) (dvs : List V) (E : XK) (t : TA) : TE := fun σ H Q => t σ H fun vs H1 => sp (vs ++ dvs) H1 Q E
def Binds (K : PySem.W.Frag) (fd : FuncData) (ps : List Str) (ds : List Value) : Prop :=
 ∀ (s : Shared) (us : List Value), K.In s.heap → (us ++ ds).length = ps.length → BindsTo s fd ⟨us, []⟩ (ps.zip (us ++ ds))
theorem Binds.all {K : PySem.W.Frag} {fd : FuncData} {ps : List Str} (h : ∀ us : List Value, us.length = ps.length → bindArgs fd ⟨us, []⟩ = pure (ps.zip us)) : Binds K fd ps [] := fun s us _ hl => by
 rw [List.append_nil] at hl ⊢
 exact .of_eq (h us hl)
def Passes (CX : CXT) (X : Cx) (E : XK) : Prop := ∀ (pins : List (Addr × Obj)) (σ : St) (H : Hp) (s : Shared) (e : Value) (s' : Shared), Inv X pins σ H s → CX X.stack H s E e s' → X.xe e s'
section
variable {X : Cx} {CX : CXT} {k : Nat} {f C : Addr} {fd : FuncData} {ps : List Str} {sp : Sp} {dvs : List V} {ds : List Value} {E : XK} {x m : Str} {p pos apos : Pos} {e o : Expr} {es : List Expr} {ta : TE} {t : TA}
theorem Qbq {pins : List (Addr × Obj)} {σ : St} {H : Hp} {s : Shared} {Q : VK} {us : List Value} {vs : List V} (F : FnOk X.prog X.w X.K X.mg X.base CX k f fd ps sp) (hr : Room k X.A) (hb : Binds X.K fd ps ds) (hd : Vals dvs ds) (hx : Passes CX X E)
  (I : Inv X pins σ H s) (r : Vals vs us) (h : sp (vs ++ dvs) H Q E) : wpAny (model X.prog X.w) X.A (call (.ref f) us) (EP X pins σ Q) X.xe s := by
 have r2 : Vals (vs ++ dvs) (us ++ ds) := r.append hd
 have hl : (us ++ ds).length = ps.length := by rw [← r2.length]; exact F.len _ _ _ _ h
 refine wpAny_call (codeAny_mono (F.run X.A X.stack s H ⟨us, []⟩ (us ++ ds) (vs ++ dvs) Q E hr I.env0 (hb s us I.kIn hl) r2 h) fun r s' hq => ?_)
 cases r with
 | error e => exact hx pins σ H s e s' I hq
 | ok fl =>
  cases fl with
  | ret u => exact I.after hq
  | next => exact False.elim hq
  | brk => exact False.elim hq
  | cont => exact False.elim hq
theorem Qbr (F : FnOk X.prog X.w X.K X.mg X.base CX k f fd ps sp) (hr : Room k X.A) (hg : Gl X x) (hm : X.mg x = some (.ref f)) (hk : PySem.W.keepIn X.K (.ref f) = true) (hb : Binds X.K fd ps ds) (hd : Vals dvs ds) (hx : Passes CX X E)
  (ha : PA X (e :: es) t) (hdb : (x == ("__debug__" : Str)) = false := by decide) (he : starEach (e :: es) X.env = (false, eval e X.env) :: starEach es X.env := by rfl) (hpl : (backTo pos (starEach es X.env)).any (·.1) = false := by rfl) :
  PE X (.Call (.Name x p) (e :: es) [] pos) (tCall sp dvs E t) := by
 intro pins s σ H Q I h
 refine wpAny_Call_Name_kw (Qaw I hg hm ?_ hdb)
 refine PySem.W.callWith_K (h₀ := X.base) I.ok.mod.kin hk (thn (ha pos pins s σ H _ I h) fun us s1 ⟨vs, H1, I1, r, q⟩ => ⟨I1.kIn, ?_⟩) he hpl
 exact Qbq F hr hb hd hx I1 r q
structure Mk (K : PySem.W.Frag) (C f : Addr) : Prop where
 makes : PySem.W.makesIn K C = true
 init : PySem.W.findIn K (.ref C) "__init__" = some (some (.ref f))
 fn : PySem.W.isFn K (.ref f) = true
 kp : PySem.W.keepIn K (.ref C) = true
end
section
variable {X : Cx} {CX : CXT} {k : Nat} {f C : Addr} {fd : FuncData} {ps ks : List Str} {sp : Sp} {E : XK} {x m : Str} {p pos apos kpos : Pos} {e o : Expr} {es : List Expr} {kws : List Keyword} {te ta : TE} {t tk : TA} {nm : Option Str}
structure KBinds (K : PySem.W.Frag) (fd : FuncData) (ps ks : List Str) (g : List Value → List Value → List Value) (gV : List V → List V → List V) : Prop where
 to : ∀ (s : Shared) (us ws : List Value), K.In s.heap → (g us ws).length = ps.length → BindsTo s fd ⟨us, ks.zip ws⟩ (ps.zip (g us ws))
 rel : ∀ {vs : List V} {us : List Value} {zs : List V} {ws : List Value}, Vals vs us → Vals zs ws → Vals (gV vs zs) (g us ws)
variable {g : List Value → List Value → List Value} {gV : List V → List V → List V}
end
structure FnScope (N P : List Str) (sc : Scope) : Prop where
 kind : sc.kind = .function
 co : sc.isCoroutine = false
 gen : sc.isGenerator = false
 nd : N.Nodup
 pre : N.take P.length = P
 par : ∀ x ∈ P, sc.names.lookup x = some .local ∨ sc.names.lookup x = some .cell
 nofree : ∀ y ∈ sc.names, y.2 ≠ .free
theorem Qbs {kindOf : Str → Option NameKind} {x : Str} : ∀ {binds : List (Str × Value)} {m : Str → Option Value}, (∀ v, (x, v) ∉ binds) → bindL kindOf binds m x = m x
 | [], _, _ => rfl
 | (n, v) :: r, m, h => by
  unfold bindL
  rw [Qbs fun w hw => h w (List.mem_cons_of_mem _ hw)]
  split
  ·have : x ≠ n := by rintro rfl; exact h v List.mem_cons_self
   simp [this]
  ·rfl
theorem Qbt {kindOf : Str → Option NameKind} {x : Str} : ∀ {binds : List (Str × Value)} {m : Str → Option Value}, (∀ v, (x, v) ∉ binds) → bindC kindOf binds m x = m x
 | [], _, _ => rfl
 | (n, v) :: r, m, h => by
  unfold bindC
  rw [Qbt fun w hw => h w (List.mem_cons_of_mem _ hw)]
  split
  ·rfl
  ·have : x ≠ n := by rintro rfl; exact h v List.mem_cons_self
   simp [this]
theorem Qbu {kindOf : Str → Option NameKind} {x : Str} {v : Value} : ∀ {P : List Str} {vs : List Value} {i : Nat} {m : Str → Option Value}, P.Nodup → P[i]? = some x → vs[i]? = some v → kindOf x = some .local →
  bindL kindOf (P.zip vs) m x = some v
 | [], _, _, _, _, h, _, _ => by simp at h
 | _ :: _, [], _, _, _, _, h, _ => by simp at h
 | p :: P, w :: vs, 0, m, nd, h1, h2, hk => by
  simp at h1 h2; subst h1; subst h2
  show bindL kindOf ((p, w) :: P.zip vs) m p = _
  unfold bindL
  rw [Qbs fun v hv => (List.nodup_cons.mp nd).1 (List.of_mem_zip hv).1, if_pos hk]
  simp
 | p :: P, w :: vs, i + 1, m, nd, h1, h2, hk => by
  show bindL kindOf ((p, w) :: P.zip vs) m x = _
  unfold bindL
  exact Qbu (i := i) (List.nodup_cons.mp nd).2 (by simpa using h1) (by simpa using h2) hk
theorem Qbv {kindOf : Str → Option NameKind} {x : Str} {v : Value} : ∀ {P : List Str} {vs : List Value} {i : Nat} {m : Str → Option Value}, P.Nodup → P[i]? = some x → vs[i]? = some v → kindOf x ≠ some .local →
  bindC kindOf (P.zip vs) m x = some v
 | [], _, _, _, _, h, _, _ => by simp at h
 | _ :: _, [], _, _, _, _, h, _ => by simp at h
 | p :: P, w :: vs, 0, m, nd, h1, h2, hk => by
  simp at h1 h2; subst h1; subst h2
  show bindC kindOf ((p, w) :: P.zip vs) m p = _
  unfold bindC
  rw [Qbt fun v hv => (List.nodup_cons.mp nd).1 (List.of_mem_zip hv).1, if_neg hk]
  simp
 | p :: P, w :: vs, i + 1, m, nd, h1, h2, hk => by
  show bindC kindOf ((p, w) :: P.zip vs) m x = _
  unfold bindC
  exact Qbv (i := i) (List.nodup_cons.mp nd).2 (by simpa using h1) (by simpa using h2) hk
noncomputable def start (N : List Str) (vs : List V) : St := vs.map some ++ List.replicate (N.length - vs.length) none
noncomputable def cxOf (CX : CXT) (P : Program) (w : World) (K : PySem.W.Frag) (mg : Str → Option Value) (base : Heap) (N : List Str) (qual : Str) (scope : Scope) (f : Addr) (cd : Value) (A : Around) (outer : List Env) (s : Shared) (H : Hp) (E : XK) : Cx where
 prog := P
 w := w
 K := K
 mg := mg
 base := base
 A := A.deeper (envOfC qual scope s.heap.objs.size f cd)
 N := N
 s₀ := s
 H₀ := H
 env := envOfC qual scope s.heap.objs.size f cd
 outer := outer
 stack := envOfC qual scope s.heap.objs.size f cd :: outer
 ex := []
 calm := true
 fn := fun _ => true
 pn := []
 xe := fun e s' => wpAny (model P w) (A.deeper (envOfC qual scope s.heap.objs.size f cd)) (leaving (envOfC qual scope s.heap.objs.size f cd) e) (fun _ s'' => CX outer H s E e s'') (fun e' s'' => CX outer H s E e' s'') s'
theorem Qbw {sc : Scope} {n : Nat} {x : Str} (h : sc.names.lookup x = some .cell) : ∃ c, (cellsFrom n sc.names []).lookup x = some c := by
 have q := PySem.W.cellsFrom_some sc.names n [] (.inl h)
 exact Option.isSome_iff_exists.mp q
theorem Qbx {CX : CXT} {P : Program} {w : World} {K : PySem.W.Frag} {mg : Str → Option Value} {base : Heap} {N ps : List Str} {qual : Str} {scope : Scope} {f : Addr} {cd : Value} {A : Around} {outer : List Env} {s s1 : Shared} {H : Hp} {E : XK} {us : List Value} {vs : List V}
  (S : FnScope N ps scope) (hd : A.handled = none) (e0 : Env0 P w K mg base A outer s H) (hl : vs.length = ps.length) (r : Vals vs us)
  (x : InCallC s s.heap.objs.size (bindL (envOfC qual scope s.heap.objs.size f cd).kindOf (ps.zip us) fun _ => none) (cellsFrom (s.heap.objs.size + 1) scope.names []) (bindC (envOfC qual scope s.heap.objs.size f cd).kindOf (ps.zip us) fun _ => none) s1) :
  Inv (cxOf CX P w K mg base N qual scope f cd A outer s H E) [] (start N vs) H s1 := by
 have hpl : ps.length ≤ N.length := by have := congrArg List.length S.pre; rw [List.length_take] at this; ac_nf
 obtain ⟨h1, tk, rfl, hk⟩ := x.done
 have noA : ∀ b : Addr, b ∉ (cxOf CX P w K mg base N qual scope f cd A outer s H E).ex := fun b z => absurd (show b ∈ ([] : List Addr) from z) (by simp)
 refine ⟨⟨e0.mod, S.kind, rfl, rfl, Nat.le_refl _, fun y z c h1 h2 => ?_, fun y hy => ?_, fun y c _ h => ?_, fun _ => hd, Around.frames_deeper e0.frames, .inr ⟨rfl, rfl⟩, fun b z => absurd z (noA b), e0.bs, e0.bsz, fun b _ _ => noA b, fun b z => absurd z (noA b), e0.funs, e0.frf⟩,
  rfl, e0.bare, Un.kept hk, ⟨_, x.toInCall.ns, fun i y v h1 h2 h3 => ?_⟩, fun y c h => ⟨_, x.cell y c h⟩, e0.hok.fresh (Nat.le_refl _), fun y c h => ?_, fun p hp => absurd (show p ∈ ([] : List (Addr × Obj)) from hp) (by simp), e0.hok.kept hk, ?_⟩
 ·exact name_of_addr x.apart (PySem.mem_of_lookup h1) (PySem.mem_of_lookup h2)
 ·have hy : scope.names.lookup y = some .cell ∨ scope.names.lookup y = some .free := hy
  rcases hy with hy | hy
  ·exact Qbw hy
  ·exact absurd rfl (S.nofree _ (PySem.mem_of_lookup hy))
 ·exact Nat.le_of_lt (x.above y c (PySem.mem_of_lookup h))
 ·have hi : i < vs.length := by
    unfold start at h2
    by_cases hi : i < vs.length
    ·exact hi
    ·rw [List.getElem?_append_right (by simpa using hi)] at h2
     rw [List.getElem?_replicate] at h2
     split at h2 <;> cases h2
  have ha : vs[i]? = some v := by
   unfold start at h2
   rw [List.getElem?_append_left (by simpa using hi), List.getElem?_map] at h2
   cases e : vs[i]? with
   | none => rw [e] at h2; cases h2
   | some a => rw [e] at h2; cases h2; rfl
  obtain ⟨u, hu, rv⟩ := r.get ha
  have hp : ps[i]? = some y := by
   rw [← S.pre, List.getElem?_take_of_lt (by ac_nf)]; exact h1
  have ndP : ps.Nodup := by rw [← S.pre]; exact S.nd.sublist (List.take_sublist _ _)
  refine ⟨u, rv, ?_⟩
  rcases S.par y (List.mem_of_getElem? hp) with k | k
  ·exact .inl ⟨k, Qbu ndP hp hu k⟩
  ·obtain ⟨c, e⟩ := Qbw (n := s.heap.objs.size + 1) k
   refine .inr ⟨.inl k, c, e, ?_⟩
   have q := x.cell y c e
   rw [Qbv ndP hp hu (by show scope.names.lookup y ≠ _; rw [k]; decide)] at q
   exact q
 ·exact e0.hok.fresh (Nat.le_of_lt (x.above y c (PySem.mem_of_lookup h)))
 ·unfold start
  show _ = N.length
  rw [List.length_append, List.length_map, List.length_replicate]
  ac_nf
theorem Qby {CX : CXT} {P : Program} {w : World} {K : PySem.W.Frag} {mg : Str → Option Value} {base : Heap} {k : Nat} {f : Addr} {name qual : Str} {params : Arguments} {body : List Stmt} {scope : Scope} {dV kV doc pm cdv ct oc : Value} {an od : Option Addr}
  {osl : Array (Option Value)} {N ps : List Str} {sp : Sp} (lk : K.lookup f = some ⟨oc, od, .func (PySem.W.fnOf name qual params body scope dV kV doc pm an cdv ct), osl⟩) (hcd : PySem.W.codeIn K cdv qual = true) (S : FnScope N ps scope)
  (len : ∀ vs H Q E, sp vs H Q E → vs.length = ps.length)
  (hbody : ∀ (A : Around) (outer : List Env) (s : Shared) (H : Hp) (vs : List V) (Q : VK) (E : XK), Room k (A.deeper (envOfC qual scope s.heap.objs.size f cdv)) → sp vs H Q E →
   ∃ t, PSs (cxOf CX P w K mg base N qual scope f cdv A outer s H E) body t ∧ t { nx := fun _ H' => Q .non H', rt := Q } (start N vs) H) :
  FnOk P w K mg base CX (k + 1) f (PySem.W.fnOf name qual params body scope dV kV doc pm an cdv ct) ps sp := by
 refine ⟨len, fun A outer s H args us vs Q E hr e0 hb r hsp => ?_⟩
 have hl := len _ _ _ _ hsp
 have KX : K.In s.heap := e0.mod.kin.keeps fun b o e => (e0.bs b o e).1
 have lim : s.heap.NoLimit := e0.mod.nolimit.keeps fun b o e => (e0.bs b o e).1
 have hkind : ∀ y ∈ ps.zip us, scope.names.lookup y.1 = some .local ∨ (scope.names.lookup y.1 = some .cell ∧ ((cellsFrom (s.heap.objs.size + 1) scope.names []).lookup y.1).isSome = true) := fun pq28 hy => by
  obtain ⟨n, v⟩ := pq28
  rcases S.par n (List.of_mem_zip hy).1 with q | q
  ·exact .inl q
  ·exact .inr ⟨q, PySem.W.cellsFrom_some _ _ _ (.inl q)⟩
 refine codeAny_call_function hr.depth (KX _ _ lk) rfl S.co S.gen rfl (PySem.W.codeRec_of KX hcd) (hb _ _ _ _ ?_)
 refine wpAny_newFunctionEnv_cells S.kind hkind fun env he s1 x => ?_
 subst he
 refine ⟨lim.keeps x.toInCall.keep, codeAny_func ?_⟩
 obtain ⟨t, ht, hq⟩ := hbody A outer s H vs Q E (hr.deeper _) hsp
 have I : Inv (cxOf CX P w K mg base N qual scope f cdv A outer s H E) [] (start N vs) H s1 := Qbx S hr.hd e0 hl r x
 refine wpAny_mono (ht [] s1 (start N vs) H _ I hq) (fun fl s' hs => ?_) fun e s' hs => hs
 have fin : ∀ {σ' : St} {H' : Hp} {v : V} {u : Value}, Inv (cxOf CX P w K mg base N qual scope f cdv A outer s H E) [] σ' H' s' → RelV v u → Q v H' → CE outer P w H s Q u s' :=
  fun {σ' H' v u} J rv q => ⟨v, H', J.os, J.bare, J.base, J.hok, rv, q⟩
 cases fl with
 | ret u =>
  obtain ⟨v, σ', H', J, rv, q⟩ := hs
  exact fin J rv q
 | next =>
  obtain ⟨σ', H', J, q⟩ := hs
  exact fin (v := V.non) (u := Value.none) J rfl q
 | brk =>
  obtain ⟨_, _, _, q⟩ := hs
  exact False.elim q
 | cont =>
  obtain ⟨_, _, _, q⟩ := hs
  exact False.elim q
end L2
namespace L2
open PySem PySem.Spec PyProof.Rows
section
variable {X : Cx} {x : Str} {p pos : Pos} {e : Expr} {es : List Expr} {t : TA} {id T : String} {r : List V → Hp → VK → Prop}
noncomputable def tCB (r : List V → Hp → VK → Prop) (t : TA) : TE := fun σ H Q => t σ H fun vs H1 => r vs H1 Q
theorem Qbz (hc : CallR X (.builtin id) r) (hg : Gl X x) (hm : X.mg x = none) (hv : bootBuiltins x = some (.builtin id)) (ha : PA X (e :: es) t) (hn : x ≠ "__name__" := by decide) (hdb : (x == ("__debug__" : Str)) = false := by decide)
  (he : starEach (e :: es) X.env = (false, eval e X.env) :: starEach es X.env := by rfl) (hpl : (backTo pos (starEach es X.env)).any (·.1) = false := by rfl) : PE X (.Call (.Name x p) (e :: es) [] pos) (tCB r t) := by
 intro pins s σ H Q I h
 refine wpAny_Call_Name_kw (Qax I hg hm hv ?_ hn hdb)
 exact PyProof.Rows.callWith_builtin1 (thn (ha pos pins s σ H _ I h) fun us s1 pq29 => by obtain ⟨vs, H1, I1, r1, q1⟩ := pq29; exact hc pins s1 σ H1 vs us Q I1 r1 q1) he hpl
end
end L2
namespace HT
open PySem PyProof.Rows
section
open PySem.SeqAt
open PySem.AutoSeq1 (wpAny_loadPart')
open PySem.MeetsSeq PySem.MeetsSeq2 PySem.MeetsSeq3
end
section
variable {prog : Program} {w : World} {A : Around} {E : Value → Shared → Prop} {s : Shared}
theorem cat_tup {t b : Addr} {vs ws : List Value} {Q : Value → Shared → Prop} (ht : IsTup s.heap t vs.toArray) (hb : IsTup s.heap b ws.toArray) (hv : vs ≠ [])
  (h1 : ws = [] → Q (.ref t) s) (h2 : ws ≠ [] → Q (.ref s.heap.objs.size) { s with heap := s.heap.push { cls := .type "tuple", data := .seq (vs ++ ws).toArray } })
  (hsz : vs.length + ws.length ≤ sizeLine) : wpAny (model prog w) A (binaryOp .Add (.ref t) (.ref b)) Q E s := by
 obtain ⟨⟨cls, dd, data, sl⟩, ho, hc, n, hd⟩ := id ht
 obtain ⟨⟨cls2, dd2, data2, sl2⟩, ho2, hc2, n2, hd2⟩ := id hb
 simp only at hc hd hc2 hd2
 subst hc hd hc2 hd2
 have e : vs.toArray ++ ws.toArray = (vs ++ ws).toArray := by simp
 by_cases hw : ws = []
 ·exact concat_meets ⟨_, ho, rfl⟩ ⟨_, ho2, rfl⟩ noFill_tuple_add seq_tuple_add PySem.F.slot_tuple_add PySem.F.entry_tuple_add (PySem.F.args_tuple_add_2 _ _)
    (tuple_addW1 t b vs.toArray ws.toArray n n2 dd dd2 sl sl2 (by simpa using hv) (by simp [hw])) ⟨ho, ho2, h1 hw⟩
 ·refine concat_meets ⟨_, ho, rfl⟩ ⟨_, ho2, rfl⟩ noFill_tuple_add seq_tuple_add PySem.F.slot_tuple_add PySem.F.entry_tuple_add (PySem.F.args_tuple_add_2 _ _)
    (tuple_addW2 t b vs.toArray ws.toArray n n2 dd dd2 sl sl2 (by simpa using hv) (by simpa using hw) (by rw [List.size_toArray, List.size_toArray]; exact hsz)) ⟨ho, ho2, ?_⟩
  rw [e]
  exact h2 hw
noncomputable def sIx (n d : Nat) : Option Int → Nat
 | none => d
 | some v => if v < 0 then (v + (n : Int)).toNat else min v.toNat n
end
end HT
namespace L2
open PySem PySem.Spec PyProof.Rows
noncomputable abbrev TO := St → Hp → (Option Int → Hp → Prop) → Prop
def PO (X : Cx) (e : Option Expr) (t : TO) : Prop :=
 ∀ (pins : List (Addr × Obj)) (s : Shared) (σ : St) (H : Hp) (Q : Option Int → Hp → Prop), Inv X pins σ H s → t σ H Q →
  wpAny (model X.prog X.w) X.A (evalPart e X.env) (fun u s' => ∃ o H', Inv X pins σ H' s' ∧ IsPart u o ∧ Q o H') X.xe s
noncomputable def tPart (t : TE) : TO := fun σ H Q => t σ H fun x H1 => ∃ i, x = .int i ∧ Q (some i) H1
section
variable {X : Cx} {e : Expr} {te : TE} {lo hi : Option Expr} {tl th : TO} {pos p2 : Pos}
theorem QbA (h : PE X e te) : PO X (some e) (tPart te) := by
 intro pins s σ H Q I hw
 rw [evalPart_some]
 refine thn (h pins s σ H _ I hw) fun u s1 pq30 => ?_
 obtain ⟨x, H1, I1, r1, q1⟩ := pq30
 obtain ⟨i, rfl, q⟩ := q1
 obtain ⟨t, rfl⟩ := r1
 exact ⟨some i, H1, I1, .int i t, q⟩
def SlR (X : Cx) (r : V → Option Int → Option Int → Hp → VK → Prop) : Prop :=
 ∀ (pins : List (Addr × Obj)) (s : Shared) (σ : St) (H : Hp) (x : V) (v vl vu : Value) (lo hi : Option Int) (sl : Addr) (Q : VK), Inv X pins σ H s → RelV x v → s.heap.IsSliceOf sl vl vu .none → IsPart vl lo → IsPart vu hi → r x lo hi H Q →
  ∃ T id, typeLookup (.type T) "__getitem__" = pure (some (.builtin id)) ∧ s.TypeIs v T ∧ wpAny (model X.prog X.w) X.A (getItem v (.ref sl)) (EP X pins σ Q) X.xe s
theorem SlR.or {r r' : V → Option Int → Option Int → Hp → VK → Prop} (h : SlR X r) (h' : SlR X r') : SlR X (fun x lo hi H Q => r x lo hi H Q ∨ r' x lo hi H Q) := by
 intro pins s σ H x v vl vu lo hi sl Q I rx hs pl pu q
 rcases q with q | q
 ·exact h pins s σ H x v vl vu lo hi sl Q I rx hs pl pu q
 ·exact h' pins s σ H x v vl vu lo hi sl Q I rx hs pl pu q
noncomputable def tSl (r : V → Option Int → Option Int → Hp → VK → Prop) (te : TE) (tl th : TO) : TE := fun σ H Q => te σ H fun x H1 => tl σ H1 fun l H2 => th σ H2 fun u H3 => r x l u H3 Q
theorem QbB {r : V → Option Int → Option Int → Hp → VK → Prop} (hr : SlR X r) (he : PE X e te) (hl : PO X lo tl) (hu : PO X hi th) : PE X (.Subscript e (.Slice lo hi none p2) pos) (tSl r te tl th) := by
 intro pins s σ H Q I h
 refine Subscript_ (thn (he pins s σ H _ I h) fun v s1 pq31 => ?_)
 obtain ⟨x, H1, I1, r1, q1⟩ := pq31
 refine wpAny_Slice (thn (hl pins s1 σ H1 _ I1 q1) fun vl s2 ⟨l, H2, I2, pl, q2⟩ => thn (hu pins s2 σ H2 _ I2 q2) fun vu s3 pq33 => ?_)
 obtain ⟨u, H3, I3, pu, q3⟩ := pq33
 rw [evalPart_none]
 refine wpAny_pure ?_
 have I4 : Inv X pins σ H3 { s3 with heap := s3.heap.push { cls := .type "slice", data := .fields #[vl, vu, .none] } } := I3.kept (t' := s3.toks) fun b ob q => Heap.get?_push_of_some _ q
 obtain ⟨T, id, hT, ht, hg⟩ := hr pins { s3 with heap := s3.heap.push { cls := .type "slice", data := .fields #[vl, vu, .none] } } σ H3 x v vl vu l u s3.heap.objs.size Q I4 r1 (Heap.IsSliceOf.new ..) pl pu q3
 show wpAny (model X.prog X.w) X.A (subscriptTail e (.Slice lo hi none p2) v (.ref s3.heap.objs.size)) (EP X pins σ Q) X.xe { s3 with heap := s3.heap.push { cls := .type "slice", data := .fields #[vl, vu, .none] } }
 exact tail_any (ops := [.ref s3.heap.objs.size, v]) ht hT hg (by with_unfolding_all rfl)
noncomputable def cutV (xs : List V) (lo hi : Option Int) : List V := (xs.drop (HT.sIx xs.length 0 lo)).take (HT.sIx xs.length xs.length hi - HT.sIx xs.length 0 lo)
theorem QbC (xs : List V) (lo hi : Option Int) : (cutV xs lo hi).length ≤ xs.length := by
 unfold cutV
 rw [List.length_take, List.length_drop]
 ac_nf
noncomputable def rCatT (K : PySem.W.Frag) : R2 := fun x y H Q => ∃ a b xs ys, x = .ref a ∧ y = .ref b ∧ SqT K H a xs ∧ SqT K H b ys ∧ xs ≠ [] ∧ xs.length + ys.length ≤ sizeLine ∧
 (ys = [] → Q (.ref a) H) ∧ (ys ≠ [] → ∀ p, H p = none → Q (.ref p) (upd H p (.tup (xs ++ ys))))
theorem Vals.nil_iff {xs : List V} {us : List Value} (r : Vals xs us) : us = [] ↔ xs = [] := by
 cases r with
 | nil => simp
 | cons _ _ => simp
theorem QbD : OpR X (binaryOp .Add) (rCatT X.K) := by
 intro pins s σ H x y v u Q I rx ry h
 obtain ⟨a, b, xs, ys, rfl, rfl, ha, hb, hx, hz, q1, q2⟩ := h
 cases rx
 cases ry
 obtain ⟨its, r1, p1, _⟩ := I.tuple ha
 obtain ⟨its2, r2, p2, _⟩ := I.tuple hb
 refine HT.cat_tup p1 p2 (fun z => hx (r1.nil_iff.mp z)) (fun z => ⟨.ref a, H, I, rfl, q1 (r2.nil_iff.mp z)⟩) (fun z => ?_) (by rw [← r1.length, ← r2.length]; exact hz)
 refine ⟨.ref s.heap.objs.size, _, I.laid (t' := s.toks) (o := .tup (xs ++ ys)) (fun b ob q => Heap.get?_push_of_some _ q) (Nat.le_refl _) ?_, rfl, q2 (fun w => z (r2.nil_iff.mpr w)) _ (I.hok.fresh (Nat.le_refl _))⟩
 exact ⟨by rw [List.length_append]; exact hz, _, r1.append r2, IsTup.new _ _⟩
end
end L2
namespace L2
open PySem PySem.Spec PyProof.Rows
noncomputable def ixN (n : Nat) (i : Int) : Option Nat := if 0 ≤ i then (if i < n then some i.toNat else none) else if -(n : Int) ≤ i then some (i + n).toNat else none
noncomputable def atI {α : Type} (xs : List α) (i : Int) : Option α := (ixN xs.length i).bind fun j => xs[j]?
theorem QbE {n : Nat} {i : Int} {j : Nat} (h : ixN n i = some j) : seqIndex? i n = some j ∧ j < n ∧ -(n : Int) ≤ i ∧ i < n := by
 unfold ixN at h
 by_cases h0 : 0 ≤ i
 ·rw [if_pos h0] at h
  by_cases h1 : i < n
  ·rw [if_pos h1] at h
   have e : i.toNat = j := Option.some.inj h
   exact ⟨by rw [seqIndex_of h0 h1, e], by ac_nf, by ac_nf, h1⟩
  ·rw [if_neg h1] at h; cases h
 ·rw [if_neg h0] at h
  by_cases h1 : -(n : Int) ≤ i
  ·rw [if_pos h1] at h
   have e : (i + n).toNat = j := Option.some.inj h
   exact ⟨by rw [seqIndex_neg (by ac_nf) h1, e], by ac_nf, h1, by ac_nf⟩
  ·rw [if_neg h1] at h; cases h
theorem QbF {α : Type} {xs : List α} {i : Int} {v : α} (h : atI xs i = some v) : ∃ j, seqIndex? i xs.length = some j ∧ xs[j]? = some v ∧ j < xs.length ∧ -(xs.length : Int) ≤ i ∧ i < xs.length := by
 unfold atI at h
 cases e : ixN xs.length i with
 | none => rw [e] at h; cases h
 | some j =>
  rw [e] at h
  obtain ⟨h1, h2, h3, h4⟩ := QbE e
  exact ⟨j, h1, h, h2, h3, h4⟩
def PlainIx (b : Expr) : Prop := ∀ o i, subscripted b false o i = operate [o, i] (getItem o i)
def IxR (X : Cx) (r : R2) : Prop :=
 ∀ (value slice : Expr) (pins : List (Addr × Obj)) (s : Shared) (σ : St) (H : Hp) (x y : V) (v u : Value) (Q : VK), Inv X pins σ H s → RelV x v → RelV y u → r x y H Q →
  subscripted slice false v u = operate [v, u] (getItem v u) → wpAny (model X.prog X.w) X.A (subscriptTail value slice v u) (EP X pins σ Q) X.xe s
def MtR (X : Cx) (id : String) (r : V → List V → Hp → VK → Prop) : Prop :=
 ∀ (pins : List (Addr × Obj)) (s : Shared) (σ : St) (H : Hp) (x : V) (xs : List V) (v : Value) (us : List Value) (Q : VK), Inv X pins σ H s → RelV x v → Vals xs us → r x xs H Q →
  wpAny (model X.prog X.w) X.A (call (.builtin id) (v :: us)) (EP X pins σ Q) X.xe s
section
variable {X : Cx} {a b : Expr} {ta tb : TE} {pos : Pos}
theorem IxR.or {r r' : R2} (h : IxR X r) (h' : IxR X r') : IxR X (fun x y H Q => r x y H Q ∨ r' x y H Q) := by
 intro value slice pins s σ H x y v u Q I rx ry q hs
 rcases q with q | q
 ·exact h value slice pins s σ H x y v u Q I rx ry q hs
 ·exact h' value slice pins s σ H x y v u Q I rx ry q hs
theorem MtR.or {id : String} {r r' : V → List V → Hp → VK → Prop} (h : MtR X id r) (h' : MtR X id r') : MtR X id (fun x xs H Q => r x xs H Q ∨ r' x xs H Q) := by
 intro pins s σ H x xs v us Q I rx rs q
 rcases q with q | q
 ·exact h pins s σ H x xs v us Q I rx rs q
 ·exact h' pins s σ H x xs v us Q I rx rs q
theorem QbG {r : R2} (hr : IxR X r) (ha : PE X a ta) (hb : PE X b tb) (hs : PlainIx b) : PE X (.Subscript a b pos) (tOp r ta tb) := by
 intro pins s σ H Q I h
 exact Subscript_ (binT ha hb I h fun v u s2 x y H2 I2 rx ry q => hr a b pins s2 σ H2 x y v u Q I2 rx ry q (hs _ _))
noncomputable def rIxL (K : PySem.W.Frag) : R2 := fun x y H Q => ∃ p xs i v, x = .ref p ∧ y = .int i ∧ SqL K H p xs ∧ atI xs i = some v ∧ Q v H
noncomputable def rIxT (K : PySem.W.Frag) : R2 := fun x y H Q => ∃ p xs i v, x = .ref p ∧ y = .int i ∧ SqT K H p xs ∧ atI xs i = some v ∧ Q v H
noncomputable def rIxS : R2 := fun x y H Q => ∃ z i c, x = .str z ∧ y = .int i ∧ z.length ≤ sizeLine ∧ atI z.cps.toList i = some c ∧ Q (.str ⟨#[c]⟩) H
theorem QbH : IxR X (rIxL X.K) := by
 intro value slice pins s σ H x y v u Q I rx ry h hs
 obtain ⟨p, xs, i, z, rfl, rfl, hq, he, q⟩ := h
 cases rx
 obtain ⟨t, rfl⟩ := ry
 obtain ⟨its, r, pl, hz⟩ := I.list hq
 obtain ⟨j, h1, h2, h3, h4, h5⟩ := QbF he
 obtain ⟨w, ew, rw'⟩ := r.get h2
 have hl := r.length
 have hn := Qbc
 have fin : EP X pins σ Q w s := ⟨z, H, I, rw', q⟩
 by_cases h0 : 0 ≤ i
 ·have hj : i.toNat = j := by
    rw [seqIndex_of h0 h5] at h1
    exact Option.some.inj h1
  exact item_listR pl.isList h0 (by ac_nf) (by rw [hj]; simpa using ew) fin hs
 ·have hj : (i + (its.toArray.size : Int)).toNat = j := by
    rw [seqIndex_neg (by ac_nf) h4] at h1
    rw [List.size_toArray, ← hl]
    exact Option.some.inj h1
  exact subscriptTail_builtinR (x := w) pl.isList.typeIs slot_list_getitem.lookup
   (wpAny_getItem_list_neg (Q := fun r s' => r = w ∧ EP X pins σ Q r s') pl.isList (by ac_nf) (by rw [List.size_toArray] <;> ac_nf) (by ac_nf) (by rw [hj]; simpa using ew) ⟨rfl, fin⟩) hs
theorem QbI : IxR X (rIxT X.K) := by
 intro value slice pins s σ H x y v u Q I rx ry h hs
 obtain ⟨p, xs, i, z, rfl, rfl, hq, he, q⟩ := h
 cases rx
 obtain ⟨t, rfl⟩ := ry
 obtain ⟨its, r, pl, hz⟩ := I.tuple hq
 obtain ⟨j, h1, h2, h3, h4, h5⟩ := QbF he
 obtain ⟨w, ew, rw'⟩ := r.get h2
 have hl := r.length
 have hn := Qbc
 have fin : EP X pins σ Q w s := ⟨z, H, I, rw', q⟩
 exact subscriptTail_builtinR (x := w) pl.typeIs slot_tuple_getitem.lookup
  (getItem_tuple (j := j) (Q := fun r s' => r = w ∧ EP X pins σ Q r s') pl (by ac_nf) (by ac_nf) (by rw [List.size_toArray, ← hl]; exact h1) (by simpa using ew) ⟨rfl, fin⟩) hs
theorem QbJ : IxR X rIxS := by
 intro value slice pins s σ H x y v u Q I rx ry h hs
 obtain ⟨z, i, c, rfl, rfl, hz, he, q⟩ := h
 obtain ⟨t, rfl⟩ := rx
 obtain ⟨t', rfl⟩ := ry
 obtain ⟨j, h1, h2, h3, h4, h5⟩ := QbF he
 have hl : z.cps.toList.length = z.length := by simp [Str.length]
 rw [hl] at h1 h4 h5
 have hn := Qbc
 exact tail_any (typeIs_str s z t) slot_str_getitem.lookup (getItem_str (c := c) (by
  have e1 : decide (i < -(2 ^ 63 : Int)) = false := decide_eq_false (by ac_nf)
  have e2 : decide (i ≥ 2 ^ 63) = false := decide_eq_false (by ac_nf)
  rw [e1, e2, Bool.or_false]) (by rw [h1]; simpa using h2) ⟨.str ⟨#[c]⟩, H, I.tok _, ⟨_, rfl⟩, q⟩) hs
noncomputable def rIx (K : PySem.W.Frag) : R2 := fun x y H Q => rIxL K x y H Q ∨ rIxT K x y H Q ∨ rIxS x y H Q
theorem QbK : IxR X (rIx X.K) := QbH.or (QbI.or QbJ)
theorem QbL (its : List Value) (n j : Nat) (u : Value) : Obj.mapSeq (·.setIfInBounds j u) { cls := .type "list", data := .seq its.toArray n } = { cls := .type "list", data := .seq (its.set j u).toArray n } := by
 simp [Obj.mapSeq]
theorem Inv.lst {pins : List (Addr × Obj)} {σ : St} {H : Hp} {s : Shared} {p : Addr} {xs : List V} (I : Inv X pins σ H s) (h : H p = some (.lst xs)) :
  ∃ (its : List Value) (n : Nat), Vals xs its ∧ s.heap.get? p = some { cls := .type "list", data := .seq its.toArray n } ∧ xs.length ≤ sizeLine := by
 obtain ⟨z, its, n, r, e⟩ := I.hok p _ h
 exact ⟨its, n, r, e, z⟩
theorem Inv.lstUpd {pins : List (Addr × Obj)} {σ : St} {H : Hp} {s : Shared} {p : Addr} {xs ys : List V} {its its' : List Value} {n n' : Nat} {f : Obj → Obj} (I : Inv X pins σ H s) (h : H p = some (.lst xs))
  (ho : s.heap.get? p = some { cls := .type "list", data := .seq its.toArray n }) (hf : f { cls := .type "list", data := .seq its.toArray n } = { cls := .type "list", data := .seq its'.toArray n' }) (r : Vals ys its') (hz : ys.length ≤ sizeLine) (t : Nat) :
  Inv X pins σ (upd H p (.lst ys)) { s with heap := s.heap.update p f, toks := t } := by
 have e : (s.heap.update p f).get? p = some { cls := .type "list", data := .seq its'.toArray n' } := by
  rw [Heap.get?_update_self f ho (by rw [hf] <;> rfl), hf]
 refine I.write (x := p) (e := p) (by rw [h]; trivial) (.inl rfl) (fun b u hb q => (Heap.get?_update_other _ _ (Ne.symm hb)).trans q) ⟨_, e⟩ ?_
 exact ⟨hz, its', n', r, e⟩
noncomputable def rSetL : V → V → V → Hp → (Hp → Prop) → Prop := fun o i v H Q => ∃ p xs k j, o = .ref p ∧ i = .int k ∧ H p = some (.lst xs) ∧ ixN xs.length k = some j ∧ Q (upd H p (.lst (xs.set j v)))
theorem QbM : PSet X rSetL := by
 intro pins s σ H o i v ov iv u Q I ro ri rv h
 obtain ⟨p, xs, k, j, rfl, rfl, hp, hj, q⟩ := h
 cases ro
 obtain ⟨t, rfl⟩ := ri
 obtain ⟨its, n, r, ho, hz⟩ := I.lst hp
 obtain ⟨h1, h2, h3, h4⟩ := QbE hj
 have hl := r.length
 have hn := Qbc
 have I' : Inv X pins σ (upd H p (.lst (xs.set j v))) { s with heap := s.heap.update p (Obj.mapSeq (·.setIfInBounds j u)) } :=
  I.lstUpd hp ho (QbL its n j u) (r.set rv j) (by rw [List.length_set]; exact hz) s.toks
 by_cases h0 : 0 ≤ k
 ·have hk : k.toNat = j := by
    rw [seqIndex_of h0 h4] at h1
    exact Option.some.inj h1
  exact PySem.W.ki_setAt ho h0 (by ac_nf) (by rw [List.size_toArray, ← hl]; exact h4) (by rw [hk]; exact ⟨_, I', q⟩)
 ·have hk : (k + (its.toArray.size : Int)).toNat = j := by
    rw [seqIndex_neg (by ac_nf) h3] at h1
    rw [List.size_toArray, ← hl]
    exact Option.some.inj h1
  exact PySem.W.ki_setBack ho (by ac_nf) (by rw [List.size_toArray, ← hl]; exact h3) (by ac_nf) (by rw [hk]; exact ⟨_, I', q⟩)
theorem QbN (lo hi : Option Int) (n : Nat) : (sliceBounds lo hi none n).1 = ((HT.sIx n 0 lo : Nat) : Int) ∧ (sliceBounds lo hi none n).2.1 = ((HT.sIx n n hi : Nat) : Int) ∧ (sliceBounds lo hi none n).2.2 = 1 := by
 refine ⟨?_, ?_, rfl⟩
 ·cases lo with
  | none => simp [sliceBounds, HT.sIx]
  | some i =>
   simp only [sliceBounds, HT.sIx, Option.getD_none, show (1 : Int) > 0 by decide, if_true]
   by_cases h : i < 0
   ·simp only [h, if_true] <;> ac_nf
   ·simp only [h, if_false] <;> ac_nf
 ·cases hi with
  | none => simp [sliceBounds, HT.sIx]
  | some i =>
   simp only [sliceBounds, HT.sIx, Option.getD_none, show (1 : Int) > 0 by decide, if_true]
   by_cases h : i < 0
   ·simp only [h, if_true] <;> ac_nf
   ·simp only [h, if_false] <;> ac_nf
theorem QbO (its : List Value) (lo hi : Option Int) : slicePick its.toArray lo hi none = ((its.drop (HT.sIx its.length 0 lo)).take (HT.sIx its.length its.length hi - HT.sIx its.length 0 lo)).toArray := by
 obtain ⟨h1, h2, h3⟩ := QbN lo hi its.toArray.size
 unfold slicePick
 rw [h1, h2, h3]
 simp only [sliceRange_one, pick_run, List.size_toArray] <;> rfl
noncomputable def rSlL (K : PySem.W.Frag) : V → Option Int → Option Int → Hp → VK → Prop := fun x lo hi H Q => ∃ a xs, x = .ref a ∧ SqL K H a xs ∧ ∀ p, H p = none → Q (.ref p) (upd H p (.lst (cutV xs lo hi)))
theorem QbP : SlR X (rSlL X.K) := by
 intro pins s σ H x v vl vu lo hi sl Q I rx hs pl pu h
 obtain ⟨a, xs, rfl, hx, q⟩ := h
 cases rx
 obtain ⟨its, r, ht, hz⟩ := I.list hx
 have hlen := r.length
 refine ⟨"list", _, slot_list_getitem.lookup, ht.isList.typeIs, ?_⟩
 refine wpAny_getItem_list_slice ht.isList hs pl pu .none (by simp) ?_ (by rw [List.size_toArray] <;> ac_nf)
 rw [QbO, ← hlen]
 refine ⟨.ref s.heap.objs.size, _, I.laid (t' := s.toks) (o := .lst (cutV xs lo hi)) (fun b ob q => Heap.get?_push_of_some _ q) (Nat.le_refl _) ?_, rfl, q _ (I.hok.fresh (Nat.le_refl _))⟩
 exact ⟨Nat.le_trans (QbC xs lo hi) hz, _, 0, (r.drop (HT.sIx xs.length 0 lo)).take (HT.sIx xs.length xs.length hi - HT.sIx xs.length 0 lo), Heap.get?_push_size _ rfl⟩
theorem QbQ : CallR X (.builtin "len") (fun xs H Q => ∃ p ys, xs = [.ref p] ∧ (SqL X.K H p ys ∨ SqT X.K H p ys) ∧ Q (.int ys.length) H) := by
 intro pins s σ H xs us Q I r h
 obtain ⟨p, ys, rfl, hq, q⟩ := h
 obtain ⟨u, rfl, rx⟩ := Qbg r
 cases rx
 have hn := Qbc
 rcases hq with hq | hq
 ·obtain ⟨its, r', pl, hz⟩ := I.list hq
  have hlen := r'.length
  exact Calls.call_len_list pl.isList (by simp only [List.size_toArray] <;> ac_nf) ⟨.int ys.length, H, I.tok _, ⟨s.toks + 1, by rw [List.size_toArray, hlen]⟩, q⟩
 ·obtain ⟨its, r', pl, hz⟩ := I.tuple hq
  have hlen := r'.length
  exact len_tuple pl (by simp only [List.size_toArray] <;> ac_nf) ⟨.int ys.length, H, I.tok _, ⟨s.toks + 1, by rw [List.size_toArray, hlen]⟩, q⟩
theorem QbR : CallR X (.builtin "len") (fun xs H Q => ∃ z, xs = [.str z] ∧ z.length ≤ sizeLine ∧ Q (.int z.length) H) := by
 intro pins s σ H xs us Q I r h
 obtain ⟨z, rfl, hz, q⟩ := h
 obtain ⟨u, rfl, t, rfl⟩ := Qbg r
 have hn := Qbc
 exact len_str (by ac_nf) ⟨.int z.length, H, I.tok _, ⟨_, rfl⟩, q⟩
theorem CallR.or {f : Value} {r r' : List V → Hp → VK → Prop} (h : CallR X f r) (h' : CallR X f r') : CallR X f (fun xs H Q => r xs H Q ∨ r' xs H Q) := by
 intro pins s σ H xs us Q I rs q
 rcases q with q | q
 ·exact h pins s σ H xs us Q I rs q
 ·exact h' pins s σ H xs us Q I rs q
def tyV (K : PySem.W.Frag) (T : String) (x : V) (H : Hp) : Prop := match x with
 | .str _ => T = "str"
 | .int _ => T = "int"
 | .ref p => (T = "list" ∧ ∃ xs, SqL K H p xs) ∨ (T = "tuple" ∧ ∃ o, K.lookup p = some o ∧ o.cls = .type "tuple" ∧ o.dict = none) ∨
   (T = "dict" ∧ ((∃ kvs, H p = some (.dK kvs)) ∨ ∃ kvs, H p = some (.dT kvs))) ∨ (T = "set" ∧ ∃ S n, H p = some (.set S n))
 | _ => False
theorem QbS {pins : List (Addr × Obj)} {σ : St} {H : Hp} {s : Shared} {T : String} {x : V} {v : Value} (I : Inv X pins σ H s) (r : RelV x v) (ty : tyV X.K T x H) :
  s.TypeIs v T ∧ ∀ a, v = .ref a → ∃ ob, s.heap.get? a = some ob ∧ ob.dict = none := by
 cases x with
 | str z =>
  obtain ⟨t, rfl⟩ := r
  cases (show T = "str" from ty)
  exact ⟨typeIs_str s z t, fun _ e => nomatch e⟩
 | int i =>
  obtain ⟨t, rfl⟩ := r
  cases (show T = "int" from ty)
  exact ⟨typeIs_int s i t, fun _ e => nomatch e⟩
 | ref p =>
  cases r
  rcases ty with ⟨rfl, xs, hq⟩ | ⟨rfl, o, hk, hc, hd⟩ | ⟨rfl, hk⟩ | ⟨rfl, S, n, hk⟩
  ·obtain ⟨its, _, pl, _⟩ := I.list hq
   refine ⟨pl.isList.typeIs, fun a e => ?_⟩
   cases e
   obtain ⟨o, n, e, c, hd, _⟩ := pl
   exact ⟨o, e, hd⟩
  ·refine ⟨⟨o, I.kIn p o hk, hc⟩, fun a e => ?_⟩
   cases e
   exact ⟨o, I.kIn _ o hk, hd⟩
  ·have z : ∃ o, s.heap.get? p = some o ∧ o.ExactDict := by
     rcases hk with ⟨kvs, hk⟩ | ⟨kvs, hk⟩
     ·obtain ⟨_, _, _, _, o, _, _, e, ex, _⟩ := I.hok p _ hk
      exact ⟨o, e, ex⟩
     ·obtain ⟨_, _, _, _, o, _, _, e, ex, _⟩ := I.hok p _ hk
      exact ⟨o, e, ex⟩
   obtain ⟨o, e, ex⟩ := z
   refine ⟨⟨o, e, ex.1⟩, fun a e2 => ?_⟩
   cases e2
   exact ⟨o, e, ex.2.1⟩
  ·obtain ⟨o, _, _, _, e, ex, _⟩ := I.hok p _ hk
   refine ⟨⟨o, e, ex.1⟩, fun a e2 => ?_⟩
   cases e2
   exact ⟨o, e, ex.2.1⟩
 | _ => exact False.elim ty
noncomputable def tBM0 (K : PySem.W.Frag) (T : String) (r : V → List V → Hp → VK → Prop) (to : TE) : TE := fun σ H Q => to σ H fun x H1 => tyV K T x H1 ∧ r x [] H1 Q
variable {o e : Expr} {es : List Expr} {to : TE} {t : TA} {name : Str} {apos cpos : Pos} {T id : String} {r : V → List V → Hp → VK → Prop}
theorem QbT (pa : PlainAttrs T) (slot : Slot T name id) (hty : typeOf (.builtin id) = pure (.type "method_descriptor")) (hm : MtR X id r) (ho : PE X o to)
  (hbase : attributeBase o name X.env (eval o X.env) = eval o X.env := by rfl) (hline : (apos.endLine == cpos.line) = true := by rfl) : PE X (.Call (.Attribute o name apos) [] [] cpos) (tBM0 X.K T r to) := by
 intro pins s σ H Q I h
 refine wpAny_Call_method0_late hbase hline (thn (ho pins s σ H _ I h) fun v s1 pq34 => ?_)
 obtain ⟨x, H1, I1, r1, ty, q1⟩ := pq34
 obtain ⟨h1, h2⟩ := QbS I1 r1 ty
 exact ⟨T, id, pa, slot, hty, h1, h2, Calls.callWith_builtin rfl (PySem.evalArgs_none (hm pins s1 σ H1 x [] v [] Q I1 r1 .nil q1))⟩
end
end L2
namespace L2
open PySem PySem.Spec PyProof.Rows
def MtM (X : Cx) (id : String) (r : V → List V → Hp → VK → Prop) : Prop :=
 ∀ (pins : List (Addr × Obj)) (s : Shared) (σ : St) (H : Hp) (x : V) (xs : List V) (v : Value) (us : List Value) (Q : VK), Inv X pins σ H s → RelV x v → Vals xs us → r x xs H Q →
  wpAny (model X.prog X.w) X.A (call (.builtin id) (v :: us)) (EP X pins σ Q) X.xe s
theorem Vals.one {x : V} {us : List Value} (h : Vals [x] us) : ∃ u, us = [u] ∧ RelV x u := by
 cases h with
 | cons r h => cases h; exact ⟨_, rfl, r⟩
theorem Vals.two {x y : V} {us : List Value} (h : Vals [x, y] us) : ∃ u v, us = [u, v] ∧ RelV x u ∧ RelV y v := by
 cases h with
 | cons r h => cases h with
  | cons q h => cases h; exact ⟨_, _, rfl, r, q⟩
theorem Vals.zero : ∀ {us : List Value}, Vals [] us → us = []
 | _, .nil => rfl
theorem Vals.dropLast {xs : List V} {us : List Value} (h : Vals xs us) : Vals xs.dropLast us.dropLast := by
 induction h with
 | nil => exact .nil
 | cons r t ih =>
  cases t with
  | nil => exact .nil
  | cons q t' => exact .cons r ih
theorem Vals.eraseIdx : ∀ {xs : List V} {us : List Value} (i : Nat), Vals xs us → Vals (xs.eraseIdx i) (us.eraseIdx i)
 | _, _, _, .nil => .nil
 | _, _, 0, .cons _ t => t
 | _, _, i + 1, .cons r t => .cons r (Vals.eraseIdx i t)
theorem Vals.reverse {xs : List V} {us : List Value} (h : Vals xs us) : Vals xs.reverse us.reverse := by
 induction h with
 | nil => exact .nil
 | cons r t ih => rw [List.reverse_cons, List.reverse_cons]; exact Vals.append ih (.cons r .nil)
theorem Vals.rep {xs : List V} {us : List Value} (h : Vals xs us) : ∀ k : Nat, Vals (List.replicate k xs).flatten (List.replicate k us).flatten
 | 0 => .nil
 | k + 1 => by
  rw [List.replicate_succ, List.replicate_succ, List.flatten_cons, List.flatten_cons]
  exact Vals.append h (Vals.rep h k)
theorem QbU {α : Type} (l : List α) : l.eraseIdx (l.length - 1) = l.dropLast := by
 induction l with
 | nil => rfl
 | cons a r ih =>
  cases r with
  | nil => rfl
  | cons b r =>
   have e : (a :: b :: r).length - 1 = ((b :: r).length - 1) + 1 := by
    have h1 : (a :: b :: r).length = r.length + 2 := rfl
    have h2 : (b :: r).length = r.length + 1 := rfl
    ac_nf
   rw [e, List.eraseIdx_cons_succ, ih]
   all_goals rfl
section
variable {X : Cx} {pins : List (Addr × Obj)} {σ : St} {H : Hp} {s : Shared} {l b : Addr} {xs ys zs : List V}
theorem Inv.lset {its its' : List Value} {n : Nat} {f : Array Value → Array Value} {t' : Nat} (I : Inv X pins σ H s) (hH : H l = some (.lst xs))
  (e : s.heap.get? l = some { cls := .type "list", data := .seq its.toArray n }) (hf : f its.toArray = its'.toArray) (hv : Vals ys its') (hz : ys.length ≤ sizeLine) :
  Inv X pins σ (upd H l (.lst ys)) { s with heap := s.heap.update l (Obj.mapSeq f), toks := t' } := by
 have q := PySem.IsL.update e f
 rw [hf] at q
 refine I.write (x := l) (e := l) (by rw [hH]; exact trivial) (.inl rfl) (fun b' u hb hu => (Heap.get?_update_other s.heap (Obj.mapSeq f) (Ne.symm hb)).trans hu) ⟨_, q⟩ ?_
 exact ⟨hz, its', _, hv, q⟩
theorem Inv.lnew {its : List Value} {t' : Nat} (I : Inv X pins σ H s) (hv : Vals ys its) (hz : ys.length ≤ sizeLine) :
  Inv X pins σ (upd H s.heap.objs.size (.lst ys)) { s with heap := s.heap.push { cls := .type "list", data := .seq its.toArray }, toks := t' } :=
 I.laid (fun _ _ q => Heap.get?_push_of_some _ q) (Nat.le_refl _) ⟨hz, its, 0, hv, Heap.get?_push_size _ rfl⟩
theorem Inv.fresh (I : Inv X pins σ H s) : H s.heap.objs.size = none := I.hok.fresh (Nat.le_refl _)
theorem Inv.lstM (I : Inv X pins σ H s) (hH : H l = some (.lst xs)) : xs.length ≤ sizeLine ∧ ∃ (its : List Value) (n : Nat), Vals xs its ∧ xs.length = its.length ∧ s.heap.get? l = some { cls := .type "list", data := .seq its.toArray n } := by
 obtain ⟨z, its, n, r, e⟩ := I.hok l _ hH
 exact ⟨z, its, n, r, r.length, e⟩
theorem QbV {n : Nat} (h : n ≤ sizeLine) : Builtin.List.listTooLong n = false := by
 unfold Builtin.List.listTooLong
 exact decide_eq_false (by ac_nf)
end
section
variable {X : Cx}
noncomputable def rAppend : V → List V → Hp → VK → Prop := fun x vs H Q => ∃ l xs y, x = .ref l ∧ vs = [y] ∧ H l = some (.lst xs) ∧ xs.length < sizeLine ∧ Q .non (upd H l (.lst (xs ++ [y])))
theorem QbW : MtM X "list.append" rAppend := by
 intro pins s σ H x vs v us Q I rx rv h
 obtain ⟨l, xs, y, rfl, rfl, hH, hz, q⟩ := h
 cases rx
 obtain ⟨u, rfl, ru⟩ := rv.one
 obtain ⟨z, its, n, r, hl, e⟩ := I.lstM hH
 refine call_meets F.slot_list_append ⟨_, e, rfl⟩ F.entry_list_append (F.args_list_append_2 _ _) (PySem.list_append l its.toArray n u (by rw [List.size_toArray]; ac_nf)) ⟨e, ?_⟩
 refine ⟨.non, _, I.lset (its' := its ++ [u]) hH e (by simp) (r.append (.cons ru .nil)) ?_, rfl, q⟩
 rw [List.length_append, List.length_singleton]
 ac_nf
noncomputable def rPop : V → List V → Hp → VK → Prop := fun x vs H Q => ∃ l xs y, x = .ref l ∧ vs = [] ∧ H l = some (.lst xs) ∧ xs[xs.length - 1]? = some y ∧ Q y (upd H l (.lst xs.dropLast))
theorem QbX : MtM X "list.pop" rPop := by
 intro pins s σ H x vs v us Q I rx rv h
 obtain ⟨l, xs, y, rfl, rfl, hH, hy, q⟩ := h
 cases rx
 have hus := rv.zero
 subst hus
 obtain ⟨z, its, n, r, hl, e⟩ := I.lstM hH
 obtain ⟨u, hu, ru⟩ := r.get hy
 have hy' : its.toArray[its.toArray.size - 1]? = some u := by
  show its.toArray[its.length - 1]? = some u
  rw [← Array.getElem?_toList, ← hl]
  exact hu
 refine call_meets F.slot_list_pop ⟨_, e, rfl⟩ F.entry_list_pop (F.args_list_pop_1 _) (MeetsSeq.list_pop_last l its.toArray n u hy' (by rw [List.size_toArray]; ac_nf)) ⟨e, ?_⟩
 refine ⟨y, _, I.lset (its' := its.dropLast) hH e ?_ r.dropLast ?_, ru, q⟩
 ·show its.toArray.eraseIdxIfInBounds (its.toArray.size - 1) = its.dropLast.toArray
  rw [List.size_toArray, List.eraseIdxIfInBounds_toArray, QbU]
 ·rw [List.length_dropLast]
  ac_nf
noncomputable def rCat : R2 := fun x y H Q => ∃ l b xs zs, x = .ref l ∧ y = .ref b ∧ H l = some (.lst xs) ∧ H b = some (.lst zs) ∧ xs.length + zs.length ≤ sizeLine ∧ ∀ p, H p = none → Q (.ref p) (upd H p (.lst (xs ++ zs)))
theorem QbY : OpR X (binaryOp .Add) rCat := by
 intro pins s σ H x y v u Q I rx ry h
 obtain ⟨l, b, xs, zs, rfl, rfl, hH, hB, hz, q⟩ := h
 cases rx
 cases ry
 obtain ⟨z, its, n, r, hl, e⟩ := I.lstM hH
 obtain ⟨z2, its2, n2, r2, hl2, e2⟩ := I.lstM hB
 refine PySem.P.add_list e e2 ?_ (by rw [List.size_toArray, List.size_toArray]; ac_nf)
 have ea : its.toArray ++ its2.toArray = (its ++ its2).toArray := by simp
 rw [ea]
 exact ⟨.ref _, _, I.lnew (t' := s.toks) (r.append r2) (by rw [List.length_append]; ac_nf), rfl, q _ I.fresh⟩
end
section
variable {prog : Program} {w : World} {A : Around} {E : Value → Shared → Prop} {s : Shared}
theorem QbZ {a c n : Nat} (hac : a ≤ c) (hc : c ≤ n) : sliceBounds (some (a : Int)) (some (c : Int)) none n = ((a : Int), (c : Int), 1) := by
 simp only [sliceBounds, Option.getD_none]
 have h1 : ¬ ((a : Int) < 0) := by ac_nf
 have h2 : ¬ ((c : Int) < 0) := by ac_nf
 simp only [h1, h2, if_false, show (1 : Int) > 0 by decide, if_true]
 congr 1
 ·ac_nf
 ·congr 1; ac_nf
theorem Qb0 {l b sl : Addr} {items new : Array Value} {n n2 : Nat} {vl vu : Value} {a c : Nat} {Q : Unit → Shared → Prop}
  (e : s.heap.get? l = some { cls := .type "list", data := .seq items n }) (e2 : s.heap.get? b = some { cls := .type "list", data := .seq new n2 }) (hne : l ≠ b)
  (hs : s.heap.IsSliceOf sl vl vu .none) (pl : IsPart vl (some (a : Int))) (pu : IsPart vu (some (c : Int))) (hac : a ≤ c) (hc : c ≤ items.size)
  (hsz : items.size + new.size ≤ sizeLine) (h : Q () { s with heap := s.heap.update l (Obj.mapSeq fun xs => xs.extract 0 a ++ new ++ xs.extract c xs.size) }) :
  wpAny (model prog w) A (setItem (.ref l) (.ref sl) (.ref b)) Q E s := by
 have hl : s.heap.IsList l items := PySem.IsL.isList e
 have hb : s.heap.IsList b new := PySem.IsL.isList e2
 obtain ⟨os, hos, hcs, hds⟩ := id hs
 have hTs : s.TypeIs (.ref sl) "slice" := ⟨os, hos, hcs⟩
 have hstep : ¬ ((rawPart none == rawInt 0) = true) := Bool.false_ne_true
 have hsame : Builtin.List.listSameRef (.ref l) (.ref b) = false := by
  unfold Builtin.List.listSameRef
  exact beq_eq_false_iff_ne.mpr hne
 have hmax : (max (a : Int) (c : Int)).toNat = c := by ac_nf
 have hz' : ((fun xs : Array Value => xs.extract 0 a ++ new ++ xs.extract c xs.size) items).size ≤ sizeLine + 1 := by
  simp only [Array.size_append, Array.size_extract]
  ac_nf
 unfold setItem
 try with_reducible refine wpAny_holding ?_
 first | refine wpAny_bind (wpAny_pure ?_) | skip
 refine wpAny_bind (wpAny_sequenceKey hl.typeIs (by decide) ?_)
 refine wpAny_bind (wpAny_callSpecial?_slot (name := Str.ofString "__setitem__") hl.typeIs slot_list_setitem
  (wpAny_call_entry slot_list_setitem hl.typeIs entry_list_setitem ?_ (args_list_setitem _ _ _)))
 show wpAny _ _ (Builtin.List.listSubscript? (.ref sl) >>= _) _ _ s
 refine wpAny_bind ?_
 unfold Builtin.List.listSubscript?
 refine wpAny_bind (wpAny_specialOf hTs slice_no_index ?_)
 simp only [Option.isNone_none, if_true]
 refine wpAny_pure ?_
 show wpAny _ _ (typeOf (.ref sl) >>= _) _ _ s
 refine wpAny_bind (wpAny_typeOf hTs ?_)
 first
  | rw [if_neg (by decide)]
  | refine PySem.W.KFB.if_not (by decide) ?_
 rw [listSliceParts_eq]
 refine wpAny_bind (wpAny_bind (wpAny_field hos hds (x := .none) rfl (wpAny_bind (wpAny_listPart .none ?_))))
 rw [if_neg hstep]
 refine wpAny_bind (wpAny_field hos hds (x := vl) rfl (wpAny_bind (wpAny_listPart pl ?_)))
 refine wpAny_bind (wpAny_field hos hds (x := vu) rfl (wpAny_bind (wpAny_listPart pu (wpAny_pure ?_))))
 first
  | simp only [hsame, Bool.false_eq_true, if_false]
  | refine PySem.W.KFB.if_not hsame ?_
  | (dsimp only
     rw [if_neg (by rw [hsame]; exact Bool.false_ne_true)])
 refine wpAny_bind (m := Builtin.List.listAllItems (.ref b) "must assign iterable to extended slice") ?_
 unfold Builtin.List.listAllItems
 refine wpAny_bind (wpAny_typeOf hb.typeIs ?_)
 first
  | refine PySem.W.KFB.if_so (by decide) ?_
  | rw [if_pos (by decide)]
  | simp only [beq_self_eq_true, Bool.true_or, if_true]
 unfold Builtin.List.listItems
 refine wpAny_bind (wpAny_seqItems e2 rfl (wpAny_pure ?_))
 refine wpAny_bind (wpAny_bind (wpAny_seqItems e rfl (wpAny_pure ?_)))
 refine wpAny_bind (wpAny_of_eq ((sliceIndices_raw (some (a : Int)) (some (c : Int)) none items.size (by simp)).trans (congrArg (pure : Int × Int × Int → Sem (Int × Int × Int)) (QbZ hac hc))) ?_)
 show wpAny _ _ (if ((1 : Int) == 1) = true then _ else _) _ _ s
 rw [if_pos (by decide)]
 refine wpAny_bind (wpAny_rule ?_)
 first
  | simp only [QbV hsz, Bool.false_eq_true, if_false]
  | refine PySem.W.KFB.if_not (QbV hsz) ?_
 first | refine wpAny_bind (wpAny_pure ?_) | skip
 show wpAny _ _ (updateSeq l (fun xs => xs.extract 0 ((a : Int)).toNat ++ new ++ xs.extract (max (a : Int) (c : Int)).toNat xs.size) >>= _) _ _ s
 rw [hmax, Int.toNat_natCast]
 refine wpAny_bind (wpAny_updateSeq (hz := Nat.le_trans (Nat.le_add_right _ _) hsz) (_hz' := hz') e rfl ?_)
 refine wpAny_bind (wpAny_letGo ?_)
 first
  | exact wpAny_bind (wpAny_pure (wpAny_pure ⟨.none, rfl, wpAny_pure h⟩))
  | exact wpAny_pure ⟨.none, rfl, wpAny_pure h⟩
end
section
variable {X : Cx}
end
end L2
namespace Att
open PySem PySem.W PySem.Calls PyProof.Rows
theorem Qb1 {P : Params} {h : Heap} : ∀ (ns : List Int) (vs : List Value), WellAll P h vs (ns.map WData.int) → IntsAre vs ns := by
 intro ns
 induction ns with
 | nil =>
  intro vs w
  rw [List.map_nil] at w
  cases w
  exact .nil
 | cons n ns ih =>
  intro vs w
  rw [List.map_cons] at w
  cases w with
  | cons a b =>
   cases a
   exact .cons _ _ (ih _ b)
theorem Qb2 {l : OpenLaw} {n : Nat} (hn : l.most = some n) {P : Params} {h : Heap} {args : List WData} {vals : List Value}
  (hpre : l.row.toRowW.claim.pre args = true) (hwl : WellAll P h vals args) :
  ∃ a vs ns, vals = [Value.ref a] ∧ args = [WData.list (ns.map WData.int)] ∧ h.get? a = some { cls := .type "list", data := .seq vs.toArray } ∧ IntsAre vs ns ∧ ns.length ≤ n := by
 have hsh : WShape.hasAll [] args [.list .int] = true := (pre_splitW hpre).1
 have hc : l.pre.holds [] { args := args } = true := (pre_splitW hpre).2
 obtain ⟨d, r, rfl, h1, h2⟩ := hasAllW_cons hsh
 obtain rfl := hasAllW_nil h2
 obtain ⟨xs, rfl, h3⟩ := hasW_list h1
 obtain ⟨ns, rfl⟩ := items_int h3
 have hlen : ns.length ≤ n := by
  unfold OpenLaw.pre at hc
  have h4 : (WTm.not (.lt (.lit (.int (n : Int))) (.len (.arg 0)))).holds [] { args := [.list (ns.map .int)] } = true := by
   have h4 := (holds_andW hc).1
   rw [hn] at h4
   exact h4
  have h5 := condW_of h4 (w_not (w_lt w_lit (w_len_list (w_arg rfl))))
  rw [List.length_map] at h5
  refine Nat.le_of_not_lt fun q => ?_
  have q' : (n : Int) < ((ns.length : Nat) : Int) := by ac_nf
  first
   | (rw [decide_eq_true q'] at h5; exact absurd h5 (by decide))
   | (simp at h5; ac_nf)
 cases hwl with
 | cons w1 w2 =>
  cases w2
  cases w1 with
  | list ho hall => exact ⟨_, _, ns, rfl, rfl, ho, Qb1 ns _ hall, hlen⟩
theorem Qb3 (l : OpenLaw) (args : List WData) : l.row.toRowW.claim.post args (.bool true) args = true :=
 postW_of (r := l.row.toRowW) (X := (true == true))
  (show WShape.has [] (.bool true) .bool = true by first | rfl | decide | simp [WShape.has, WShape.arms, WShape.armsAll])
  (show (WTm.eq .res (.lit (.bool true))).value [] { args := args, res := some (.bool true), after := args } = some (.bool (true == true)) from w_eq_bool (w_res rfl) w_lit) rfl
theorem attach_call {l : OpenLaw} {n : Nat} {q : Program} {loose : List Str} {XP : (Str → Option Value) → Heap → Prop} {YP : World → Heap → Prop} {d : DefRec}
  (hn : l.most = some n) (hdf : d.params.defaults = [])
  (call : ∀ (w : World) (s₀ s₁ : Shared) (mg mb : Str → Option Value) (fa : Addr) (o : Obj) (pm cd doc : Value) (a : Addr) (vs : List Value) (ns : List Int),
   Ground q loose [] XP w s₀ mg mb s₁.heap → YP w s₁.heap →
   s₁.heap.get? fa = some o → o.data = .func (docDef d.name d.params d.body d.scope pm cd doc) → s₁.heap.CodeRec cd d.name → mg d.name = some (.ref fa) →
   s₁.heap.get? a = some { cls := .type "list", data := .seq vs.toArray } → IntsAre vs ns → ns.length ≤ n → s₁.gens = #[] →
   codeAny (model l.prog w) callerA (.call (.ref fa) ⟨[.ref a], []⟩) (fun r s' => r = .ok (.ret (.bool true)) ∧ OldK s₁.heap s'.heap ∧ s'.os = s₁.os ∧ AllBare s'.gens) s₁) :
  WalkO q loose XP YP l.row.toRowW d [] (fun f vs => PySem.call f vs) := by
 intro w s₀ s₁ mg mb G Y fa o pm cd doc dV kV ho hd hcd hD hmg hg args vals as hpre hlay hrd hwl hlo
 obtain rfl : dV = .none := Dflts.none hD hdf
 obtain rfl : kV = .none := Dflts.noKw hD
 obtain ⟨a, vs, ns, rfl, rfl, hobj, hints, hlen⟩ := Qb2 hn hpre hwl
 refine enter_call (codeAny_mono (call w s₀ s₁ mg mb fa o pm cd doc a vs ns G Y ho (fd_plain hd) hcd hmg hobj hints hlen hg) fun r s' hq => ?_)
 obtain ⟨rfl, h2, h3, h4⟩ := hq
 exact ⟨.inl ⟨.bool true, .bool true, [], rfl, fun _ => rfl, .bool true, Qb3 l _, fun _ => ⟨List.Pairwise.nil, fun _ hm => (nomatch hm)⟩⟩, h2, h3, h4⟩
section
variable {prog : Program} {w : World} {A : Around} {E : Value → Shared → Prop} {s : Shared} {K : Frag}
noncomputable def ledger (h : Heap) (L d : Addr) : List (Addr × Obj) := (List.range h.objs.size).filterMap fun a => if a = L ∨ a = d then none else (h.get? a).map fun o => (a, o)
end
end Att
namespace L2
open PySem PySem.Spec PyProof.Rows
theorem Qb4 : ∀ {vs : List Value} {ns : List Int}, IntsAre vs ns → Vals (ns.map V.int) vs
 | _, _, .nil => .nil
 | _, _, .cons n t h => .cons ⟨t, rfl⟩ (Qb4 h)
def Only (H : Hp) : Prop := ∀ b, H b = none ∨ ∃ o xs, H b = some (.frz o (.lst xs))
theorem Qb5 {P : Program} {w : World} {K : PySem.W.Frag} {mg mb : Str → Option Value} {CX : CXT} {k : Nat} {fa a : Addr} {fd : FuncData} {x : Str} {sp : Sp} {s₁ : Shared} {vs : List Value} {ns : List Int}
  (KX : K.In s₁.heap) (hns : s₁.heap.Ns mainGlobals mg) (hb : s₁.heap.Ns builtinsNs mb) (hbb : ∀ x : Str, x ≠ "__name__" → mb x = bootBuiltins x) (hlim : s₁.heap.NoLimit) (hg : s₁.gens = #[])
  (ha : s₁.heap.get? a = some { cls := .type "list", data := .seq vs.toArray }) (hi : IntsAre vs ns) (hl : ns.length ≤ sizeLine) (hr : Room k callerA)
  (F : ∀ base : Heap, K.In base → base.Ns mainGlobals mg → FnOk P w K mg base CX k fa fd [x] sp) (hbind : ∀ (s : Shared) (u : Value), BindsTo s fd ⟨[u], []⟩ [(x, u)])
  (hsp : ∀ H : Hp, Only H → SqL K H a (ns.map V.int) → sp [.ref a] H (fun v _ => v = .bl true) fun _ _ _ => False)
  (hCX : ∀ H e s', CX [] H s₁ (fun _ _ _ => False) e s' → False) :
  codeAny (model P w) callerA (.call (.ref fa) ⟨[.ref a], []⟩) (fun r s' => r = .ok (.ret (.bool true)) ∧ OldK s₁.heap s'.heap ∧ s'.os = s₁.os ∧ AllBare s'.gens) s₁ := by
 have rv := Qb4 hi
 have lenV := hi.length
 have core : ∀ H : Hp, Only H → SqL K H a (ns.map V.int) → HOk P w H s₁.heap → (∀ b, H b ≠ none → b = a) → (H a ≠ none → K.lookup a = none) →
   codeAny (model P w) callerA (.call (.ref fa) ⟨[.ref a], []⟩) (fun r s' => r = .ok (.ret (.bool true)) ∧ OldK s₁.heap s'.heap ∧ s'.os = s₁.os ∧ AllBare s'.gens) s₁ := by
  intro H hO hS hok hA hK
  have base_of : ∀ {b : Addr} {o : Obj}, s₁.heap.get? b = some o → H b = none → (hidT s₁.heap H).get? b = some o := fun e n => Qan e n
  have noA : ∀ {b : Addr} {o : Obj} {es : Array DictEntry} {ep : Nat}, s₁.heap.get? b = some o → o.data = .dict es ep → H b = none := fun {b o es ep} e d => by
   cases q : H b with
   | none => rfl
   | some u =>
    have e' : b = a := hA b (by rw [q]; simp)
    subst e'
    rw [ha] at e; cases e
    have d' : Data.seq vs.toArray _ = Data.dict es ep := d
    cases d'
  have nsK : ∀ {b : Addr} {m : Str → Option Value}, s₁.heap.Ns b m → (hidT s₁.heap H).Ns b m := fun {b m} pq35 => by obtain ⟨o, es, ep, e, d, r⟩ := pq35; exact ⟨o, es, ep, base_of e (noA e d), d, r⟩
  have hKb : K.In (hidT s₁.heap H) := fun b o e => base_of (KX b o e) (by
   cases q : H b with
   | none => rfl
   | some u =>
    have e' : b = a := hA b (by rw [q]; simp)
    subst e'
    rw [hK (by rw [q]; simp)] at e; cases e)
  have hM : Mod K mg (hidT s₁.heap H) := ⟨hKb, nsK hns, ⟨mb, nsK hb, hbb⟩, let ⟨mc, h1, h2⟩ := hlim; ⟨mc, nsK h1, h2⟩⟩
  have e0 : Env0 P w K mg (hidT s₁.heap H) callerA [] s₁ H := ⟨rfl, hM, fun b o e => Qao e, Nat.le_of_eq (Qam _ _), trivial, fun b hb => absurd (show b ∈ ([] : List Addr) from hb) (by simp), hok, .of_eq hg⟩
  refine codeAny_mono ((F _ hKb (nsK hns)).run callerA [] s₁ H ⟨[.ref a], []⟩ [.ref a] [.ref a] _ _ hr e0 (hbind s₁ (.ref a)) (.cons rfl .nil) (hsp H hO hS)) fun r s' h => ?_
  cases r with
  | error e => exact (hCX H e s' h).elim
  | ok fl =>
   cases fl with
   | next => exact False.elim h
   | brk => exact False.elim h
   | cont => exact False.elim h
   | ret u =>
    obtain ⟨v, H', os, bare, un, hok', r', q⟩ := h
    have q' : v = .bl true := q
    subst q'
    obtain rfl : u = Value.bool true := r'
    refine ⟨rfl, OldK.of_keep fun b o e => ?_, os, bare⟩
    cases q : H b with
    | none => exact un.keep b o e q (by intro z; exact absurd (show b ∈ ([] : List Addr) from z) (by simp)) (by simp)
    | some u =>
     rcases hO b with z | ⟨ob, xs, z⟩
     ·rw [q] at z; cases z
     ·have z2 := un.frzs b ob _ z
      obtain ⟨e1, _⟩ := hok b _ z
      obtain ⟨e2, _⟩ := hok' b _ z2
      rw [e] at e1; cases e1
      exact e2
 cases hk : K.lookup a with
 | some o =>
  have e := KX a o hk
  rw [ha] at e
  cases e
  refine core (fun _ => none) (fun _ => .inl rfl) (.inr ⟨_, vs.toArray, _, hk, rfl, rfl, rfl, by rw [List.size_toArray, lenV]; exact hl, by simpa using rv⟩) (fun b u z => by have z' : (none : Option HO) = some u := z; cases z') (fun b z => absurd rfl z) fun z => absurd rfl z
 | none =>
  refine core (fun b => if b = a then some (.frz { cls := .type "list", data := .seq vs.toArray } (.lst (ns.map V.int))) else none) (fun b => ?_) (.inl (.inr ⟨{ cls := .type "list", data := .seq vs.toArray }, if_pos rfl⟩)) (fun b u z => ?_) (fun b z => ?_) fun _ => hk
  ·by_cases hb : b = a
   ·exact .inr ⟨_, _, if_pos hb⟩
   ·exact .inl (if_neg hb)
  ·by_cases hb : b = a
   ·have z' := (if_pos hb).symm.trans z
    cases z'
    subst hb
    exact ⟨ha, by rw [List.length_map]; exact hl, vs, _, rv, ha⟩
   ·have z' := (if_neg hb).symm.trans z
    cases z'
  ·by_cases hb : b = a
   ·exact hb
   ·exact absurd (if_neg hb) z
end L2
namespace L2
open PySem PySem.Spec PyProof.Rows
noncomputable abbrev KOf {K : PySem.W.Frag} {h : Heap} (_ : K.In h) : PySem.W.Frag := K
theorem walk_of {l : PySem.W.OpenLaw} {n k : Nat} {q : Program} {loose : List Str} {XP : (Str → Option Value) → Heap → Prop} {YP : World → Heap → Prop} {d : DefRec} {K : Params → PySem.W.Frag} {CX : World → CXT} {sp : World → Sp} {x : Str}
  (hn : l.most = some n) (hn2 : n ≤ sizeLine) (hdf : d.params.defaults = []) (hr : Room k callerA)
  (hY : ∀ (w : World) (h : Heap), YP w h → (K w.params).In h)
  (F : ∀ (w : World) (mg : Str → Option Value) (fa : Addr) (h : Heap), (K w.params).In h → h.Ns mainGlobals mg → mg d.name = some (.ref fa) →
   ∃ fd : FuncData, (∀ (s : Shared) (u : Value), BindsTo s fd ⟨[u], []⟩ [(x, u)]) ∧
    ∀ base : Heap, (K w.params).In base → base.Ns mainGlobals mg → FnOk l.prog w (K w.params) mg base (CX w) k fa fd [x] (sp w))
  (hsp : ∀ (w : World) (H : Hp) (a : Addr) (ns : List Int), ns.length ≤ n → Only H → SqL (K w.params) H a (ns.map V.int) → sp w [.ref a] H (fun v _ => v = .bl true) fun _ _ _ => False)
  (hCX : ∀ (w : World) (H : Hp) (s : Shared) (e : Value) (s' : Shared), CX w [] H s (fun _ _ _ => False) e s' → False) :
  PySem.W.WalkO q loose XP YP l.row.toRowW d [] (fun f vs => PySem.call f vs) := by
 refine Att.attach_call hn hdf fun w s₀ s₁ mg mb fa o pm cd doc a vs ns G Y ho hd hcd hmg hobj hints hlen hg => ?_
 have KX := hY w _ Y
 obtain ⟨fd, hb, hF⟩ := F w mg fa _ KX G.T.g hmg
 exact Qb5 KX G.T.g G.T.b G.T.builtins G.T.nolimit hg hobj hints (Nat.le_trans hlen hn2) hr hF hb (fun H hO hS => hsp w H a ns hlen hO hS) fun H e s' => hCX w H s₁ e s'
theorem walk_ofK {l : PySem.W.OpenLaw} {n k : Nat} {q : Program} {loose : List Str} {XP : (Str → Option Value) → Heap → Prop} {YP : World → Heap → Prop} {d : DefRec} {K : Params → PySem.W.Frag} {CX : CXT} {sp : PySem.W.Frag → Sp} {x : Str}
  (hn : l.most = some n) (hn2 : n ≤ sizeLine) (hdf : d.params.defaults = []) (hr : Room k callerA)
  (hY : ∀ (w : World) (h : Heap), YP w h → (K w.params).In h)
  (F : ∀ (w : World) (mg : Str → Option Value) (fa : Addr) (h : Heap), (K w.params).In h → h.Ns mainGlobals mg → mg d.name = some (.ref fa) →
   ∃ fd : FuncData, (∀ (s : Shared) (u : Value), BindsTo s fd ⟨[u], []⟩ [(x, u)]) ∧
    ∀ base : Heap, (K w.params).In base → base.Ns mainGlobals mg → FnOk l.prog w (K w.params) mg base CX k fa fd [x] (sp (K w.params)))
  (hsp : ∀ (K : PySem.W.Frag) (H : Hp) (a : Addr) (ns : List Int), ns.length ≤ n → Only H → SqL K H a (ns.map V.int) → sp K [.ref a] H (fun v _ => v = .bl true) fun _ _ _ => False)
  (hCX : ∀ (H : Hp) (s : Shared) (e : Value) (s' : Shared), CX [] H s (fun _ _ _ => False) e s' → False) :
  PySem.W.WalkO q loose XP YP l.row.toRowW d [] (fun f vs => PySem.call f vs) :=
 walk_of (K := K) (CX := fun _ => CX) (sp := fun w => sp (K w.params)) hn hn2 hdf hr hY F (fun w H a ns h1 h2 h3 => hsp (K w.params) H a ns h1 h2 h3) fun _ H s e s' => hCX H s e s'
end L2
/- THE LAST THEOREM (shape; LID, My.* are yours):
  My.Adr: a structure of the addresses that your layer names (classes, functions); My.Txt K t: a structure (Prop) of the equations over K;
  My.txt_mk : {K} {implicit addresses ..} (e1 : nsIn K mainGlobals "law" = some (some (.ref f))) (e2 : K.lookup f = some ⟨oc, od, .func (fnOf "law" "law" params body scope dV kV doc pm an cdv ct), sl⟩) (e3 : codeIn K cdv "law" = true) .. : ∃ t, My.Txt K t
set_option maxHeartbeats 0 in
theorem PySem.Challenge.cw_LID_holds : PySem.Challenge.rw_LID.Holds := by
 w_on; o_law; k_head; (case hw => w_witness2)
 k_fill
 refine L2.walk_of (l := PySem.Challenge.rw_LID) (n := 63) (k := 40) (x := "script") (CX := fun w => ..) (sp := fun _ => My.sp_law) rfl (by decide) rfl ⟨rfl, by decide, by decide⟩ (fun w h Y => PySem.W.kIn_of Y) ?F ?S ?C
 case F =>
  intro w mg fa h KX G hmg
  have T : ∃ t, My.Txt (L2.KOf KX) t := by
   dsimp only [L2.KOf]                          -- K must stand as «<heap const> w.params» for k_is
   refine' My.txt_mk ?e1 ?e2 ?e3 ..
   (case e1 => PySem.W.k_is)                    -- in the order: a name -> its address -> its object -> its parts
   (case e2 => PySem.W.k_is)
   ..
  obtain ⟨t, T⟩ := T
  have e0 := hmg.symm.trans (PySem.W.mg_of KX G T.law)
  cases e0                                       -- fa is the law's own address
  exact ⟨_, fun s u => .of_eq rfl, fun base kb nb => My.law_fn T kb nb⟩     -- if «.of_eq rfl» comes too early: refine' ⟨_, ?b, fun base kb nb => My.law_fn T kb nb⟩; exact fun s u => .of_eq rfl
 case S => exact fun w H a ns hl hO hS => ..
 case C => exact ..
(the tactic k_is has no namespace: write k_is) -/
namespace L2
open PySem PySem.Spec PyProof.Rows
noncomputable def defArgs (s : Stmt) : Arguments := match s with
 | .FunctionDef _ a _ _ _ _ _ _ _ _ => a
 | _ => { posonlyargs := [], args := [], vararg := none, kwonlyargs := [], kw_defaults := [], kwarg := none, defaults := [] }
noncomputable def defBody (s : Stmt) : List Stmt := match s with
 | .FunctionDef _ _ b _ _ _ _ _ _ _ => b
 | _ => []
noncomputable def defScope (s : Stmt) : Scope := match s with
 | .FunctionDef _ _ _ _ _ _ sc _ _ _ => sc
 | _ => { kind := .function, names := [], isGenerator := false, isCoroutine := false }
noncomputable abbrev CX0 : CXT := fun _ _ _ _ _ _ => False
noncomputable abbrev E0 : XK := fun _ _ _ => False
theorem Qb6 {X : Cx} : Passes CX0 X E0 := fun _ _ _ _ _ _ _ h => h.elim
structure Fun (K : PySem.W.Frag) (x qual : Str) (st : Stmt) (f : Addr) (fd : FuncData) : Prop where
 ex : ∃ (oc : Value) (od : Option Addr) (kV doc pm : Value) (an : Option Addr) (cdv ct : Value) (osl : Array (Option Value)),
  fd = PySem.W.fnOf x qual (defArgs st) (defBody st) (defScope st) .none kV doc pm an cdv ct ∧ K.lookup f = some ⟨oc, od, .func fd, osl⟩ ∧ PySem.W.codeIn K cdv qual = true
 kp : PySem.W.keepIn K (.ref f) = true
section
variable {P : Program} {w : World} {K : PySem.W.Frag} {mg : Str → Option Value} {base : Heap}
theorem Fun.ok {x qual : Str} {st : Stmt} {f : Addr} {fd : FuncData} {N ps : List Str} {k : Nat} {sp : Sp} (F : Fun K x qual st f fd) (S : FnScope N ps (defScope st)) (len : ∀ vs H Q E, sp vs H Q E → vs.length = ps.length)
  (hbody : ∀ (cdv : Value) (A : Around) (outer : List Env) (s : Shared) (H : Hp) (vs : List V) (Q : VK) (E : XK), Room k (A.deeper (envOfC qual (defScope st) s.heap.objs.size f cdv)) → sp vs H Q E →
   ∃ t, PSs (cxOf CX0 P w K mg base N qual (defScope st) f cdv A outer s H E).nox (defBody st) t ∧ t { nx := fun _ H' => Q .non H', rt := Q } (start N vs) H) : FnOk P w K mg base CX0 (k + 1) f fd ps sp := by
 obtain ⟨oc, od, kV, doc, pm, an, cdv, ct, osl, rfl, lk, hcd⟩ := F.ex
 refine Qby lk hcd S len fun A outer s H vs Q E hr hsp => ?_
 obtain ⟨t, h, q⟩ := hbody cdv A outer s H vs Q E hr hsp
 exact ⟨t, h.nox, q⟩
theorem Fun.binds {x qual : Str} {st : Stmt} {f : Addr} {fd : FuncData} {ps : List Str} (F : Fun K x qual st f fd)
  (h : ∀ (kV doc pm : Value) (an : Option Addr) (cdv ct : Value) (us : List Value), us.length = ps.length → bindArgs (PySem.W.fnOf x qual (defArgs st) (defBody st) (defScope st) .none kV doc pm an cdv ct) ⟨us, []⟩ = pure (ps.zip us)) : Binds K fd ps [] := by
 obtain ⟨oc, od, kV, doc, pm, an, cdv, ct, osl, rfl, lk, hcd⟩ := F.ex
 exact .all (h kV doc pm an cdv ct)
theorem Qb7 {x qual : Str} {st : Stmt} {f : Addr} {oc : Value} {od an : Option Addr} {osl : Array (Option Value)} {kV doc pm cdv ct : Value} (l : K.lookup f = some ⟨oc, od, .func (PySem.W.fnOf x qual (defArgs st) (defBody st) (defScope st) .none kV doc pm an cdv ct), osl⟩)
  (c : PySem.W.codeIn K cdv qual = true) (k : PySem.W.keepIn K (.ref f) = true) : Fun K x qual st f (PySem.W.fnOf x qual (defArgs st) (defBody st) (defScope st) .none kV doc pm an cdv ct) := ⟨⟨oc, od, kV, doc, pm, an, cdv, ct, osl, rfl, l, c⟩, k⟩
end
section
variable {X : Cx}
end
def Same (H H' : Hp) : Prop := ∀ b o, H b = some o → H' b = some o
theorem Same.refl (H : Hp) : Same H H := fun _ _ h => h
theorem Same.trans {H H1 H2 : Hp} (a : Same H H1) (b : Same H1 H2) : Same H H2 := fun c o h => b c o (a c o h)
theorem Same.free {H H' : Hp} (e : Same H H') {l : Addr} (h : H' l = Option.none) : H l = Option.none := by
 cases q : H l with
 | none => rfl
 | some o =>
  rw [e l o q] at h
  cases h
theorem Same.seq {K : PySem.W.Frag} {H H' : Hp} {a : Addr} {xs : List V} (e : Same H H') (h : SqL K H a xs) : SqL K H' a xs := by
 rcases h with (h | ⟨o, h⟩) | h
 ·exact .inl (.inl (e _ _ h))
 ·exact .inl (.inr ⟨o, e _ _ h⟩)
 ·exact .inr h
end L2
namespace L2
open PySem PySem.Spec PyProof.Rows
section
variable {κ : Type} [DecidableEq κ]
noncomputable def valV (kvs : List (κ × V)) (k : κ) : Option V := (kvs.find? fun kv => decide (kv.1 = k)).map (·.2)
noncomputable def putK (kvs : List (κ × V)) (k : κ) (v : V) : List (κ × V) :=
 if (kvs.any fun kv => decide (kv.1 = k)) = true then kvs.map (fun kv => if kv.1 = k then (kv.1, v) else kv) else kvs ++ [(k, v)]
noncomputable def dropK (kvs : List (κ × V)) (k : κ) : List (κ × V) := kvs.filter fun kv => decide (kv.1 ≠ k)
theorem Qb8 {p : κ × V} {r : List (κ × V)} {k : κ} (e : p.1 = k) : valV (p :: r) k = some p.2 := by simp [valV, List.find?_cons, e]
theorem Qb9 {p : κ × V} {r : List (κ × V)} {k : κ} (e : ¬ p.1 = k) : valV (p :: r) k = valV r k := by simp [valV, List.find?_cons, e]
theorem Qca (k : κ) : ∀ kvs : List (κ × V), (kvs.any fun kv => decide (kv.1 = k)) = (valV kvs k).isSome
 | [] => rfl
 | p :: r => by
  rw [List.any_cons]
  by_cases e : p.1 = k
  ·simp only [Qb8 e, decide_eq_true e, Bool.true_or, Option.isSome_some]
  ·rw [Qb9 e, decide_eq_false e, Bool.false_or]; exact Qca k r
theorem Qcb (kvs : List (κ × V)) (k : κ) (v : V) : (putK kvs k v).length ≤ kvs.length + 1 := by
 unfold putK
 split
 ·rw [List.length_map]; ac_nf
 ·rw [List.length_append, List.length_cons, List.length_nil]; ac_nf
theorem RelO.isSome_eq {o : Option V} {u : Option Value} (r : RelO o u) : o.isSome = u.isSome := by
 cases o with
 | none => cases u with
  | none => rfl
  | some _ => exact (show False from r).elim
 | some _ => cases u with
  | none => exact (show False from r).elim
  | some _ => rfl
theorem RelO.getD {o : Option V} {u : Option Value} {d : V} {d' : Value} (r : RelO o u) (rd : RelV d d') : RelV (o.getD d) (u.getD d') := by
 cases o with
 | none => cases u with
  | none => exact rd
  | some _ => exact (show False from r).elim
 | some _ => cases u with
  | none => exact (show False from r).elim
  | some _ => exact r
theorem KV.val {kvs : List (κ × V)} {vs : List (κ × Value)} (r : KV kvs vs) (k : κ) : RelO (valV kvs k) (valueAt vs k) := by
 unfold KV at r
 induction r with
 | nil => exact True.intro
 | @cons p q ps qs h t ih =>
  obtain ⟨h1, h2⟩ := h
  by_cases e : p.1 = k
  ·have e' : q.1 = k := h1.symm.trans e
   have b : valueAt (q :: qs) k = some q.2 := by simp [valueAt, List.find?_cons, e']
   rw [Qb8 e, b]; exact h2
  ·have e' : ¬ q.1 = k := fun z => e (h1.trans z)
   have b : valueAt (q :: qs) k = valueAt qs k := by simp [valueAt, List.find?_cons, e']
   rw [Qb9 e, b]; exact ih
theorem KV.any {kvs : List (κ × V)} {vs : List (κ × Value)} (r : KV kvs vs) (k : κ) : (kvs.any fun kv => decide (kv.1 = k)) = vs.any fun kv => decide (kv.1 = k) := by
 unfold KV at r
 induction r with
 | nil => rfl
 | cons h t ih => rw [List.any_cons, List.any_cons, ih, h.1]
theorem KV.repl {kvs : List (κ × V)} {vs : List (κ × Value)} (r : KV kvs vs) (k : κ) {y : V} {u : Value} (ry : RelV y u) :
  KV (kvs.map fun kv => if kv.1 = k then (kv.1, y) else kv) (vs.map fun kv => if kv.1 = k then (kv.1, u) else kv) := by
 unfold KV at r ⊢
 induction r with
 | nil => exact .nil
 | @cons p q ps qs h t ih =>
  rw [List.map_cons, List.map_cons]
  refine .cons ?_ ih
  obtain ⟨h1, h2⟩ := h
  by_cases e : p.1 = k
  ·rw [if_pos e, if_pos (h1.symm.trans e)]; exact ⟨h1, ry⟩
  ·rw [if_neg e, if_neg (fun z => e (h1.trans z))]; exact ⟨h1, h2⟩
theorem KV.put {kvs : List (κ × V)} {vs : List (κ × Value)} (r : KV kvs vs) (k : κ) {y : V} {u : Value} (ry : RelV y u) : KV (putK kvs k y) (stored vs k u) := by
 unfold putK stored
 rw [r.any k]
 by_cases e : (vs.any fun kv => decide (kv.1 = k)) = true
 ·rw [if_pos e, if_pos e]; exact r.repl k ry
 ·rw [if_neg e, if_neg e]; exact Paired.snoc r ⟨rfl, ry⟩
theorem KV.drop {kvs : List (κ × V)} {vs : List (κ × Value)} (r : KV kvs vs) (k : κ) : KV (dropK kvs k) (without vs k) := by
 unfold KV at r ⊢
 unfold dropK without
 induction r with
 | nil => exact .nil
 | @cons p q ps qs h t ih =>
  obtain ⟨h1, h2⟩ := h
  rw [List.filter_cons, List.filter_cons]
  by_cases e : p.1 = k
  ·have a : ¬ decide (p.1 ≠ k) = true := by simp [e]
   have b : ¬ decide (q.1 ≠ k) = true := by simp [h1.symm.trans e]
   rw [if_neg a, if_neg b]; exact ih
  ·have e' : ¬ q.1 = k := fun z => e (h1.trans z)
   have a : decide (p.1 ≠ k) = true := by simp [e]
   have b : decide (q.1 ≠ k) = true := by simp [e']
   rw [if_pos a, if_pos b]; exact .cons ⟨h1, h2⟩ ih
theorem KV.keys {kvs : List (κ × V)} {vs : List (κ × Value)} (r : KV kvs vs) : kvs.map (·.1) = vs.map (·.1) := by
 unfold KV at r
 induction r with
 | nil => rfl
 | cons h t ih => rw [List.map_cons, List.map_cons, ih, h.1]
theorem KV.length {kvs : List (κ × V)} {vs : List (κ × Value)} (r : KV kvs vs) : kvs.length = vs.length := Paired.length r
end
theorem Qcc {P : Program} {w : World} {k : Key} {u : Value} (r : RelV (kV k) u) : (mixKind P w).is k u = true := by
 cases k with
 | inl i => obtain ⟨t, e⟩ := (show ∃ t, u = Value.int i t from r); subst e; exact Qag P w i t
 | inr x => obtain ⟨t, e⟩ := (show ∃ t, u = Value.str x t from r); subst e; exact Qah P w x t
theorem Qcd {P : Program} {w : World} : ∀ {ks : List Key} {us : List Value}, Vals (ks.map kV) us → ItemsAre (mixKind P w) ks us
 | [], _, r => by rw [List.map_nil] at r; cases r; exact .nil
 | k :: ks, _, r => by
  rw [List.map_cons] at r
  cases r with
  | cons h t => exact .cons (Qcc h) (Qcd t)
noncomputable abbrev KT (H : Hp) : List (List Key × V) → List (List Key × Addr × Value) → Prop := Paired fun p q => p.1 = q.1 ∧ H q.2.1 = some (.tup (p.1.map kV)) ∧ RelV p.2 q.2.2
theorem KT.val {H : Hp} {kvs : List (List Key × V)} {xs : List (List Key × Addr × Value)} (r : KT H kvs xs) (k : List Key) : RelO (valV kvs k) ((atKey xs k).map (·.2)) := by
 induction r with
 | nil => exact True.intro
 | @cons p q ps qs h t ih =>
  obtain ⟨h1, _, h2⟩ := h
  by_cases e : p.1 = k
  ·have e' : q.1 = k := h1.symm.trans e
   have b : atKey (q :: qs) k = some q.2 := by simp [atKey, List.find?_cons, e']
   rw [Qb8 e, b]; exact h2
  ·have e' : ¬ q.1 = k := fun z => e (h1.trans z)
   have b : atKey (q :: qs) k = atKey qs k := by simp [atKey, List.find?_cons, e']
   rw [Qb9 e, b]; exact ih
theorem KT.repl {H : Hp} {kvs : List (List Key × V)} {xs : List (List Key × Addr × Value)} (r : KT H kvs xs) (k : List Key) {y : V} {u : Value} (ry : RelV y u) :
  KT H (kvs.map fun kv => if kv.1 = k then (kv.1, y) else kv) (xs.map (putAt k u)) := by
 induction r with
 | nil => exact .nil
 | @cons p q ps qs h t ih =>
  rw [List.map_cons, List.map_cons]
  refine .cons ?_ ih
  obtain ⟨h1, h2, h3⟩ := h
  unfold putAt
  by_cases e : p.1 = k
  ·rw [if_pos e, if_pos (h1.symm.trans e)]; exact ⟨h1, h2, ry⟩
  ·rw [if_neg e, if_neg (fun z => e (h1.trans z))]; exact ⟨h1, h2, h3⟩
theorem KT.put {H : Hp} {kvs : List (List Key × V)} {xs : List (List Key × Addr × Value)} (r : KT H kvs xs) (k : List Key) {b : Addr} {y : V} {u : Value} (hb : H b = some (.tup (k.map kV))) (ry : RelV y u) :
  KT H (putK kvs k y) (storedH xs k b u) := by
 have e : (kvs.any fun kv => decide (kv.1 = k)) = (atKey xs k).isSome := by
  rw [Qca, (r.val k).isSome_eq, Option.isSome_map]
 unfold putK storedH
 rw [e]
 by_cases q : (atKey xs k).isSome = true
 ·rw [if_pos q, if_pos q]; exact r.repl k ry
 ·rw [if_neg q, if_neg q]; exact Paired.snoc r ⟨rfl, hb, ry⟩
theorem KT.keeps {H H' : Hp} {kvs : List (List Key × V)} {xs : List (List Key × Addr × Value)} (r : KT H kvs xs) (ht : ∀ b ys, H b = some (.tup ys) → H' b = some (.tup ys)) : KT H' kvs xs :=
 Paired.mapP r fun _ _ z => ⟨z.1, ht _ _ z.2.1, z.2.2⟩
section
variable {P : Program} {w : World} {H : Hp} {h : Heap} {a : Addr}
theorem Qce {u : HO} (ok : HOk P w H h) (e : Rd H a u) : ObjOk P w H h a u := e.ok ok
theorem Qcf {kvs : List (Key × V)} (ok : HOk P w H h) (e : Rd H a (.dK kvs)) : kvs.length ≤ sizeLine ∧ (a == sysModules) = false ∧ ∃ vs, KV kvs vs ∧ h.DictOf (mixKind P w) a vs :=
 show ObjOk P w H h a (.dK kvs) from Qce ok e
theorem Qcg {kvs : List (Key × V)} (ok : HOk P w H h) (e : H a = some (.dK kvs)) : kvs.length ≤ sizeLine ∧ (a == sysModules) = false ∧ ∃ vs, KV kvs vs ∧ h.DictOf (mixKind P w) a vs := Qcf ok (.inl e)
theorem Qch {ks : List Key} (ok : HOk P w H h) (e : H a = some (.tup (ks.map kV))) : (tupleKind (mixKind P w)).is h ks a := by
 obtain ⟨_, its, r, o, h1, h2, n, h3⟩ := (show ObjOk P w H h a (.tup (ks.map kV)) from ok a _ e)
 exact ⟨o, its.toArray, n, h1, h2, h3, by simpa using Qcd r⟩
theorem Qci {kvs : List (List Key × V)} (ok : HOk P w H h) (e : Rd H a (.dT kvs)) : kvs.length ≤ sizeLine ∧ (a == sysModules) = false ∧
  ∃ xs, KT H kvs xs ∧ h.DictOfH (tupleKind (mixKind P w)) a xs := by
 obtain ⟨z, y, xs, r, o, es, ep, h1, h2, h3, h4, h5⟩ := (show ObjOk P w H h a (.dT kvs) from Qce ok e)
 refine ⟨z, y, xs, r, o, es, ep, h1, h2, h3, h4, fun x hx => ?_, h5⟩
 have all : ∀ {l : List (List Key × V)} {m : List (List Key × Addr × Value)}, KT H l m → ∀ x ∈ m, (tupleKind (mixKind P w)).is h x.1 x.2.1 := by
  intro l m q
  induction q with
  | nil => intro x hx; exact nomatch hx
  | @cons p q ps qs hq t ih =>
   intro x hx
   rcases List.mem_cons.mp hx with e | hx
   ·subst e
    exact Qch ok (by rw [← hq.1]; exact hq.2.1)
   ·exact ih x hx
 exact all r x hx
theorem Qcj {kvs : List (List Key × V)} (ok : HOk P w H h) (e : H a = some (.dT kvs)) : kvs.length ≤ sizeLine ∧ (a == sysModules) = false ∧
  ∃ xs, KT H kvs xs ∧ h.DictOfH (tupleKind (mixKind P w)) a xs := Qci ok (.inl e)
end
def DGet (H : Hp) (a : Addr) (y : V) (r : Option V) : Prop :=
 (∃ kvs k, Rd H a (.dK kvs) ∧ y = kV k ∧ r = valV kvs k) ∨ ∃ kvs k b, Rd H a (.dT kvs) ∧ y = .ref b ∧ H b = some (.tup (k.map kV)) ∧ r = valV kvs k
def DPut (H : Hp) (a : Addr) (y v : V) (H' : Hp) : Prop :=
 (∃ kvs k, H a = some (.dK kvs) ∧ y = kV k ∧ kvs.length < sizeLine ∧ H' = upd H a (.dK (putK kvs k v))) ∨
 ∃ kvs k b, H a = some (.dT kvs) ∧ y = .ref b ∧ H b = some (.tup (k.map kV)) ∧ kvs.length < sizeLine ∧ H' = upd H a (.dT (putK kvs k v))
theorem DGet.k {H : Hp} {a : Addr} {kvs : List (Key × V)} {k : Key} (e : H a = some (.dK kvs)) : DGet H a (kV k) (valV kvs k) := .inl ⟨kvs, k, .inl e, rfl, rfl⟩
theorem DGet.t {H : Hp} {a b : Addr} {kvs : List (List Key × V)} {k : List Key} (e : H a = some (.dT kvs)) (eb : H b = some (.tup (k.map kV))) : DGet H a (.ref b) (valV kvs k) := .inr ⟨kvs, k, b, .inl e, rfl, eb, rfl⟩
theorem DPut.k {H : Hp} {a : Addr} {kvs : List (Key × V)} {k : Key} {v : V} (e : H a = some (.dK kvs)) (hl : kvs.length < sizeLine) : DPut H a (kV k) v (upd H a (.dK (putK kvs k v))) := .inl ⟨kvs, k, e, rfl, hl, rfl⟩
theorem DPut.t {H : Hp} {a b : Addr} {kvs : List (List Key × V)} {k : List Key} {v : V} (e : H a = some (.dT kvs)) (eb : H b = some (.tup (k.map kV))) (hl : kvs.length < sizeLine) :
  DPut H a (.ref b) v (upd H a (.dT (putK kvs k v))) := .inr ⟨kvs, k, b, e, rfl, eb, hl, rfl⟩
section
variable {X : Cx} {pins : List (Addr × Obj)} {σ : St} {H : Hp} {s : Shared} {a : Addr} {y v : V} {u r : Value} {o : Option V} {A : Around} {E : Value → Shared → Prop}
theorem Inv.big (I : Inv X pins σ H s) : sysModules < s.heap.objs.size := by
 have h : mainGlobals < s.heap.objs.size := (I.mod.glob.keeps I.bk).lt
 exact Nat.lt_trans (by decide) h
theorem Qck {Q : Value → Shared → Prop} (hu : A.units + 1 < cLine) (I : Inv X pins σ H s) (g : DGet H a y (some v)) (ry : RelV y u) (h : ∀ w' s', Inv X pins σ H s' → RelV v w' → Q w' s') :
  wpAny (model X.prog X.w) A (getItem (.ref a) u) Q E s := by
 rcases g with ⟨kvs, k, e, ey, l⟩ | ⟨kvs, k, b, e, ey, eb, l⟩
 ·subst ey
  obtain ⟨z, hd, vs, rel, dd⟩ := Qcf I.hok e
  obtain ⟨w', hw, rw'⟩ := RelO.some_of (v := v) (o := valueAt vs k) (by rw [l]; exact rel.val k)
  exact wpAny_getItem_of (Qcc ry) dd.mapOf hw (h w' _ (I.tok _) rw')
 ·subst ey
  cases (show u = Value.ref b from ry)
  obtain ⟨z, hd, xs, rel, dd⟩ := Qci I.hok e
  obtain ⟨w', hw, rw'⟩ := RelO.some_of (v := v) (o := (atKey xs k).map (·.2)) (by rw [l]; exact rel.val k)
  obtain ⟨p, hp, hp2⟩ := Option.map_eq_some_iff.mp hw
  refine wpAny_getItem_heap (tupleKind_room_in1 hu) (Qch I.hok eb) dd hp ?_
  rw [hp2]
  exact h w' _ (I.tok _) rw'
theorem Qcl {h' : Heap} {t' : Nat} {ob : HO} (I : Inv X pins σ H s) (mu : Mut (H a)) (hs : Heap.SameBut a s.heap h') (he : ∃ q, h'.get? a = some q) (new : ObjOk X.prog X.w (upd H a ob) h' a ob) :
  Inv X pins σ (upd H a ob) { s with heap := h', toks := t' } :=
 I.write (x := a) (e := a) mu (.inl rfl) (fun b q hb z => (hs.2 b hb).trans z) he new
theorem Qcm {P : Program} {w : World} {H' : Hp} {h' : Heap} {kvs : List (Key × V)} {vs : List (Key × Value)} (z : kvs.length ≤ sizeLine) (hd : (a == sysModules) = false) (rel : KV kvs vs) (dd : h'.DictOf (mixKind P w) a vs) :
  ObjOk P w H' h' a (.dK kvs) := ⟨z, hd, vs, rel, dd⟩
theorem Qcn {H' : Hp} {Q : Unit → Shared → Prop} (hu : A.units + 1 < cLine) (I : Inv X pins σ H s) (g : DPut H a y v H') (ry : RelV y u) (rv : RelV v r) (h : ∀ s', Inv X pins σ H' s' → Q () s') :
  wpAny (model X.prog X.w) A (setItem (.ref a) u r) Q E s := by
 rcases g with ⟨kvs, k, e, ey, l, eH⟩ | ⟨kvs, k, b, e, ey, eb, l, eH⟩
 ·subst ey eH
  obtain ⟨z, hd, vs, rel, dd⟩ := Qcg I.hok e
  have hz : vs.length ≤ sizeLine := by rw [← rel.length]; exact z
  have hl : (putK kvs k v).length ≤ sizeLine := by have := Qcb kvs k v; ac_nf
  refine wpAny_setItem_pairs (hsz := hz) (Qcc ry) dd fun h' dd' hs => h _ ?_
  have he : ∃ q, h'.get? a = some q := let ⟨q, _, _, hq, _⟩ := dd'; ⟨q, hq⟩
  exact Qcl I (by rw [e]; exact True.intro) hs he (Qcm hl hd (rel.put k rv) dd')
 ·subst ey eH
  cases (show u = Value.ref b from ry)
  obtain ⟨z, hd, xs, rel, dd⟩ := Qcj I.hok e
  have hz : xs.length ≤ sizeLine := by rw [← Paired.length rel]; exact z
  have hl : (putK kvs k v).length ≤ sizeLine := by have := Qcb kvs k v; ac_nf
  refine wpAny_setItem_heap (hsz := hz) (tupleKind_room_in1 hu) (Qch I.hok eb) dd fun h' dd' hs => h _ ?_
  obtain ⟨q, es, ep, hq, h2, h3, h4, _, h5⟩ := dd'
  refine Qcl I (by rw [e]; exact True.intro) hs ⟨q, hq⟩ ⟨hl, hd, _, (rel.put k eb rv).keeps fun c ys ec => ?_, q, es, ep, hq, h2, h3, h4, h5⟩
  rw [Qaj (Qak ec e (fun z => nomatch z))]
  exact ec
end
section
variable {X : Cx} {pins : List (Addr × Obj)} {σ : St} {H : Hp} {s : Shared} {a : Addr} {kvs : List (Key × V)} {k : Key} {u : Value} {A : Around} {E : Value → Shared → Prop}
theorem Qco {Q : Value → Shared → Prop} (I : Inv X pins σ H s) (e : Rd H a (.dK kvs)) (h : ∀ t s', Inv X pins σ H s' → Q (.int kvs.length t) s') : wpAny (model X.prog X.w) A (call (.builtin "len") [.ref a]) Q E s := by
 obtain ⟨z, hd, vs, rel, dd⟩ := Qcf I.hok e
 refine call_len_dict hd dd (by rw [← rel.length]; rw [sizeLine_eq] at z; ac_nf) ?_
 rw [← rel.length]
 exact h _ _ (I.tok _)
end
section
variable {X : Cx} {o i e value : Expr} {pos pos' tpos : Pos} {td ty tv : TE}
end
theorem Qcp {P : Program} {w : World} {H : Hp} (h : Heap) (hb : sysModules < h.objs.size) : ObjOk P w H (h.push { cls := .type "dict", data := .dict #[] }) h.objs.size (.dK []) :=
 ⟨Nat.zero_le _, beq_eq_false_iff_ne.mpr (Ne.symm (Nat.ne_of_lt hb)), [], .nil, Heap.DictOf.new h⟩
section
variable {X : Cx} {pos : Pos}
end
noncomputable def tPairs : List (TE × TE) → St → Hp → (List (V × V) → Hp → Prop) → Prop
 | [], _, H, Q => Q [] H
 | (tk, tv) :: r, σ, H, Q => tk σ H fun x H1 => tv σ H1 fun y H2 => tPairs r σ H2 fun ps H3 => Q ((x, y) :: ps) H3
noncomputable abbrev VV : List (V × V) → List (Value × Value) → Prop := Paired fun p q => RelV p.1 q.1 ∧ RelV p.2 q.2
def PPs (X : Cx) (pos : Pos) (keys : List (Option Expr)) (values : List Expr) (trs : List (TE × TE)) : Prop :=
 ∀ (pins : List (Addr × Obj)) (s : Shared) (σ : St) (H : Hp) (Q : List (V × V) → Hp → Prop), Inv X pins σ H s → tPairs trs σ H Q →
  wpAny (model X.prog X.w) X.A (evalPairs (pairTrees keys values X.env pos)) (fun vs s' => ∃ ps H', Inv X pins σ H' s' ∧ VV ps vs ∧ Q ps H') X.xe s
theorem Qcq {X : Cx} {pos : Pos} : PPs X pos [] [] [] := fun pins s σ H Q I h => pairTrees_nil_walk ⟨[], H, I, .nil, h⟩
theorem Qcr {X : Cx} {pos : Pos} {k v : Expr} {ks : List (Option Expr)} {vs : List Expr} {tk tv : TE} {trs : List (TE × TE)} (hk : PE X k tk) (hv : PE X v tv) (hr : PPs X pos ks vs trs) :
  PPs X pos (some k :: ks) (v :: vs) ((tk, tv) :: trs) := fun pins s σ H Q I h =>
 pairTrees_cons_walk (thn (hk pins s σ H _ I h) fun u s1 ⟨x, H1, I1, rx, q1⟩ => thn (hv pins s1 σ H1 _ I1 q1) fun w2 s2 ⟨y, H2, I2, ry, q2⟩ =>
  thn (hr pins s2 σ H2 _ I2 q2) fun ws s3 ⟨ps, H3, I3, rel, q3⟩ => ⟨(x, y) :: ps, H3, I3, .cons ⟨rx, ry⟩ rel, q3⟩)
noncomputable def mergeK (kvs more : List (Key × V)) : List (Key × V) := more.foldl (fun acc kv => putK acc kv.1 kv.2) kvs
theorem KV.merge : ∀ {more : List (Key × V)} {rs : List (Key × Value)} {kvs : List (Key × V)} {vs : List (Key × Value)}, KV more rs → KV kvs vs → KV (mergeK kvs more) (merged vs rs) := by
 intro more rs kvs vs r
 unfold KV at r
 induction r generalizing kvs vs with
 | nil => intro q; exact q
 | @cons p q ps qs h t ih =>
  intro r0
  have e : KV (putK kvs p.1 p.2) (stored vs q.1 q.2) := by
   have := r0.put p.1 h.2
   rw [← h.1]; exact this
  exact ih e
theorem Qcs : ∀ (more kvs : List (Key × V)), (mergeK kvs more).length ≤ kvs.length + more.length
 | [], kvs => by show kvs.length ≤ kvs.length + 0; ac_nf
 | p :: r, kvs => by
  have h1 := Qcs r (putK kvs p.1 p.2)
  have h2 := Qcb kvs p.1 p.2
  show (mergeK (putK kvs p.1 p.2) r).length ≤ _
  rw [List.length_cons]; ac_nf
theorem Qct {P : Program} {w : World} : ∀ {kvs : List (Key × V)} {ws : List (Value × Value)}, VV (kvs.map fun kv => (kV kv.1, kv.2)) ws → ∃ rs, Carries (mixKind P w) ws rs ∧ KV kvs rs
 | [], _, r => by rw [List.map_nil] at r; cases r; exact ⟨[], True.intro, .nil⟩
 | p :: kvs, _, r => by
  rw [List.map_cons] at r
  cases r with
  | @cons a b as bs h t =>
   obtain ⟨rs, c, q⟩ := Qct (P := P) (w := w) t
   obtain ⟨b1, b2⟩ := b
   exact ⟨(p.1, b2) :: rs, ⟨Qcc h.1, rfl, c⟩, .cons ⟨rfl, h.2⟩ q⟩
noncomputable def tDisp (trs : List (TE × TE)) : TE := fun σ H Q => ∀ p, H p = none → tPairs trs σ (upd H p (.dK [])) fun ps H2 => H2 p = some (.dK []) ∧ ∃ kvs : List (Key × V), ps = kvs.map (fun kv => (kV kv.1, kv.2)) ∧ kvs.length ≤ 15 ∧ Q (.ref p) (upd H2 p (.dK (mergeK [] kvs)))
theorem Qcu {X : Cx} {pos : Pos} {keys : List (Option Expr)} {values : List Expr} {trs : List (TE × TE)} (h : PPs X pos keys values trs) (hall : keys.all (·.isSome) = true) (hl : keys.length = values.length) (h0 : keys ≠ [])
  (h15 : keys.length ≤ 15) : PE X (.Dict keys values pos) (tDisp trs) := by
 intro pins s σ H Q I q
 have hn := I.hok.fresh (Nat.le_refl s.heap.objs.size)
 have I1 := I.laid (a := s.heap.objs.size) (o := .dK []) (h' := s.heap.push { cls := .type "dict", data := .dict #[] }) (t' := s.toks) (fun _ _ q => Heap.get?_push_of_some _ q) (Nat.le_refl _) (Qcp s.heap I.big)
 refine wpAny_Dict_walk (knd := mixKind X.prog X.w) hall hl h0 h15 (thn (h pins _ σ _ _ I1 (q _ hn)) fun ws s2 pq36 => ?_)
 obtain ⟨ps, H2, I2, rel, e, kvs, ep, lk, q2⟩ := pq36
 subst ep
 obtain ⟨rs, c, rk⟩ := Qct (P := X.prog) (w := X.w) rel
 obtain ⟨z, hd, vs0, r0, dd⟩ := Qcg I2.hok e
 cases r0
 refine ⟨rs, c, dd, fun h' dd' hs => ⟨.ref s.heap.objs.size, _, ?_, rfl, q2⟩⟩
 have hz : (mergeK [] kvs).length ≤ sizeLine := by
  have h1 := Qcs kvs []
  rw [List.length_nil] at h1
  rw [sizeLine_eq]; ac_nf
 have he : ∃ q, h'.get? s.heap.objs.size = some q := let ⟨q, _, _, hq, _⟩ := dd'; ⟨q, hq⟩
 exact Qcl I2 (by rw [e]; exact True.intro) hs he (Qcm hz hd (rk.merge .nil) dd')
structure M1 (X : Cx) (o : Expr) (m : Str) (apos : Pos) (e : Expr) (cpos : Pos) : Prop where
 base : attributeBase o m X.env (eval o X.env) = eval o X.env
 few : ((backTo cpos (starEach [e] X.env)).all (fun x => !x.1) && (backToKw cpos (keywordEach [] X.env)).all (fun x => x.1.isSome)
  && decide (([e] : List Expr).length + ([] : List Keyword).length + (if ([] : List Keyword).isEmpty then 0 else 1) < 30)) = true
 line : (apos.endLine == cpos.line) = true
 trees : backTo cpos (starEach [e] X.env) = [(false, eval e X.env)]
structure M2 (X : Cx) (o : Expr) (m : Str) (apos : Pos) (e f : Expr) (cpos : Pos) : Prop where
 base : attributeBase o m X.env (eval o X.env) = eval o X.env
 few : ((backTo cpos (starEach [e, f] X.env)).all (fun x => !x.1) && (backToKw cpos (keywordEach [] X.env)).all (fun x => x.1.isSome)
  && decide (([e, f] : List Expr).length + ([] : List Keyword).length + (if ([] : List Keyword).isEmpty then 0 else 1) < 30)) = true
 line : (apos.endLine == cpos.line) = true
 trees : backTo cpos (starEach [e, f] X.env) = [(false, eval e X.env), (false, eval f X.env)]
end L2
namespace MM
open PySem PySem.Spec PyProof.Rows L2
section
variable {prog : Program} {w : World} {K : Type} [DecidableEq K] (knd : KeyKind prog w K)
inductive TIts (h : Heap) : List (List K) → List Value → Prop
 | nil : TIts h [] []
 | cons {k : List K} {b : Addr} {ks : List (List K)} {vs : List Value} : IsTupleKey knd h k b → TIts h ks vs → TIts h (k :: ks) (.ref b :: vs)
def IsNestKey (h : Heap) (ks : List (List K)) (a : Addr) : Prop := ∃ o items n, h.get? a = some o ∧ o.cls = .type "tuple" ∧ o.data = .seq items n ∧ TIts knd h ks items.toList
variable {knd}
theorem TIts.inj {h : Heap} {x y : List (List K)} {vs : List Value} (a : TIts knd h x vs) (b : TIts knd h y vs) : x = y := by
 induction a generalizing y with
 | nil => cases b; rfl
 | cons a t ih => cases b with
  | cons b u => rw [a.inj b, ih u]
theorem IsNestKey.typeIs {s : Shared} {ks : List (List K)} {a : Addr} (x : IsNestKey knd s.heap ks a) : s.TypeIs (.ref a) "tuple" := let ⟨o, _, _, ho, hc, _⟩ := x; ⟨o, ho, hc⟩
theorem IsNestKey.inj {h : Heap} {a : Addr} {x y : List (List K)} (hx : IsNestKey knd h x a) (hy : IsNestKey knd h y a) : x = y := by
 obtain ⟨o, items, n, ho, _, hd, hi⟩ := hx
 obtain ⟨o', items', n', ho', _, hd', hi'⟩ := hy
 cases ho.symm.trans ho'
 rw [hd] at hd'
 injection hd' with h1 _
 subst h1
 exact hi.inj hi'
theorem TIts.keeps {h h' : Heap} {d : Addr} {o : Obj} {es ep} (ho : h.get? d = some o) (hd : o.data = .dict es ep) (hs : Heap.SameBut d h h') : ∀ {x : List (List K)} {vs : List Value}, TIts knd h x vs → TIts knd h' x vs
 | _, _, .nil => .nil
 | _, _, .cons a t => .cons (a.keeps ho hd hs) (TIts.keeps ho hd hs t)
theorem IsNestKey.keeps {h h' : Heap} {ks : List (List K)} {a d : Addr} {o : Obj} {es ep} (x : IsNestKey knd h ks a) (ho : h.get? d = some o) (hd : o.data = .dict es ep) (hs : Heap.SameBut d h h') :
  IsNestKey knd h' ks a := by
 obtain ⟨o', items, n, ho', hc, hd', hi⟩ := x
 have hne : a ≠ d := by
  rintro rfl
  obtain rfl : o' = o := Option.some.inj (ho'.symm.trans ho)
  rw [hd] at hd'; exact nomatch hd'
 exact ⟨o', items, n, (hs.2 a hne).trans ho', hc, hd', hi.keeps ho hd hs⟩
noncomputable def nestHash (knd : KeyKind prog w K) (ks : List (List K)) : Int := reduceHash (Builtin.Tuple.tupleHashOf (ks.map (tupleKeyHash knd)))
noncomputable def nestDraws : List (List K) → Nat
 | [] => 0
 | k :: ks => (k.length + 1) + nestDraws ks
variable {A : Around} {E : Value → Shared → Prop} {s : Shared}
theorem Qcv (k : List K) : ∀ (l : List (List K)), nestDraws (l ++ [k]) = nestDraws l + (k.length + 1)
 | [] => by simp [nestDraws]
 | x :: l => by simp [nestDraws, Qcv k l]; ac_nf
theorem Qcw {ks : List (List K)} {a : Addr} {Q : Int → Shared → Prop} (hu : A.units + 1 < cLine) (hk : IsNestKey knd s.heap ks a) (h : Q (nestHash knd ks) { s with toks := s.toks + (nestDraws ks + 1) }) :
  wpAny (model prog w) A (pyHash (.ref a)) Q E s := by
 have hT := hk.typeIs
 obtain ⟨o, items, n, ho, _, hd, hi⟩ := hk
 unfold pyHash
 first | unfold pyHashByItsType | skip
 first | refine wpAny_bind (wpAny_cRoomFor_or (.inr (by ac_nf)) ?_) | skip
 refine wpAny_bind (wpAny_specialOf hT F.slot_tuple_hash.lookup ?_)
 show wpAny _ _ (if (some (Value.builtin "tuple.__hash__") == some Value.none) = true then _ else _) Q E s
 rw [if_neg (by rw [beq_builtin_none]; exact Bool.false_ne_true)]
 refine wpAny_bind (wpAny_specialOf hT F.slot_tuple_hash.lookup ?_)
 show wpAny _ _ (callSpecialIfBoundUnlessNone? (.ref a) "__hash__" _ >>= _) Q E s
 refine wpAny_bind (wpAny_callSpecialIfBoundUnlessNone?_slot hT F.slot_tuple_hash (wpAny_call_entry F.slot_tuple_hash hT F.entry_tuple_hash ?_ (F.args_tuple_hash_1 _)))
 show wpAny _ _ (Builtin.Tuple.tupleItemsOf (.ref a) >>= _) _ _ s
 refine wpAny_bind (wpAny_tupleItemsOf ho hd ?_)
 refine wpAny_bind ?_
 rw [← Array.forIn_toList]
 refine wpAny_forIn_list _
  (fun rest (b : Array Int) s' => ∃ done left, ks = done ++ left ∧ TIts knd s.heap left rest ∧ b.toList = done.map (tupleKeyHash knd) ∧ s' = { s with toks := s.toks + nestDraws done })
  _ ?_ ?_ _ _ ⟨[], ks, rfl, hi, rfl, rfl⟩
 ·rintro x rest b s' ⟨done, left, rfl, hl, hb, rfl⟩
  cases hl with
  | @cons k b' ks' _ h1 hl' =>
   refine wpAny_bind (wpAny_pyHash_tuple (knd := knd) (ks := k) hu h1 ?_)
   first
    | exact wpAny_pure ⟨done ++ [k], ks', by simp, hl', by simp [hb], by simp [Qcv, Nat.add_assoc]⟩
    | exact wpAny_bind (wpAny_pure (wpAny_pure ⟨done ++ [k], ks', by simp, hl', by simp [hb], by simp [Qcv, Nat.add_assoc]⟩))
 ·rintro b s' ⟨done, left, rfl, hl, hb, rfl⟩
  cases hl
  rw [List.append_nil] at h
  show wpAny _ _ (retInt (Builtin.Tuple.tupleHashOf b.toList)) _ _ _
  rw [hb]
  refine wpAny_ret_mkInt ?_
  show wpAny _ _ (if (decide (-(2 : Int) ^ 63 ≤ Builtin.Tuple.tupleHashOf (done.map (tupleKeyHash knd))) && decide (Builtin.Tuple.tupleHashOf (done.map (tupleKeyHash knd)) < 2 ^ 63)) = true then _ else _) Q E _
  unfold nestHash reduceHash at h
  by_cases hr : (decide (-(2 : Int) ^ 63 ≤ Builtin.Tuple.tupleHashOf (done.map (tupleKeyHash knd))) && decide (Builtin.Tuple.tupleHashOf (done.map (tupleKeyHash knd)) < 2 ^ 63)) = true
  ·rw [if_pos hr]
   rw [if_pos hr] at h
   exact wpAny_pure (by simpa [Nat.add_assoc] using h)
  ·rw [if_neg hr]
   rw [if_neg hr] at h
   exact wpAny_bind (wpAny_rule (wpAny_pure (by simpa [Nat.add_assoc] using h)))
theorem Qcx {x y : List (List K)} {a b : Addr} {P : Fin → Shared → Prop} (hu : A.units < cLine) (hx : IsNestKey knd s.heap x a) (hy : IsNestKey knd s.heap y b) (h : P (.done (.ret (.bool (decide (x = y))))) s) :
  wpAny (model prog w) A (Builtin.«tuple.__eq__» ⟨[.ref a, .ref b], []⟩) P E s := by
 have hTb := hy.typeIs
 obtain ⟨oa, xs, na, hoa, _, hda, hia⟩ := hx
 obtain ⟨ob, ys, nb, hob, _, hdb, hib⟩ := hy
 show wpAny _ _ (isInstance (.ref b) (.type "tuple") >>= _) _ _ s
 refine wpAny_bind (wpAny_isInstance hTb isSubtype_tuple_tuple ?_)
 simp only [Bool.not_true, Bool.false_eq_true, if_false]
 refine wpAny_bind (wpAny_tupleItemsOf hoa hda ?_)
 refine wpAny_bind (wpAny_tupleItemsOf hob hdb ?_)
 refine wpAny_bind ?_
 refine wpAny_forIn_list _
  (fun rest r s' => r.1 = none ∧ s' = s ∧ ∃ x' y' xs' ys', rest = List.zip xs' ys' ∧ TIts knd s.heap x' xs' ∧ TIts knd s.heap y' ys' ∧ decide (x' = y') = decide (x = y) ∧ (xs'.length == ys'.length) = (xs.size == ys.size))
  _ ?_ ?_ _ _ ⟨rfl, rfl, x, y, xs.toList, ys.toList, rfl, hia, hib, rfl, by simp⟩
 ·rintro ⟨u, v⟩ rest r s' ⟨hr, rfl, x', y', xs', ys', hz, hx', hy', hdec, hlen⟩
  cases hx' with
  | nil => simp at hz
  | @cons k1 u' x'' xs'' h1 hx'' =>
   cases hy' with
   | nil => simp at hz
   | @cons k2 v' y'' ys'' h2 hy'' =>
    simp only [List.zip_cons_cons, List.cons.injEq, Prod.mk.injEq] at hz
    obtain ⟨⟨rfl, rfl⟩, rfl⟩ := hz
    refine wpAny_bind (wpAny_eqBool_tuple (knd := knd) (x := k1) (y := k2) hu h1 h2 ?_)
    by_cases hk : k1 = k2
    ·subst hk
     rw [decide_eq_true rfl]
     simp only [Bool.not_true, Bool.false_eq_true, if_false]
     refine wpAny_pure ⟨rfl, rfl, x'', y'', xs'', ys'', rfl, hx'', hy'', ?_, by simpa using hlen⟩
     rw [← hdec]
     by_cases hxy : x'' = y''
     ·simp [hxy]
     ·simp [hxy]
    ·rw [decide_eq_false hk]
     simp only [Bool.not_false, if_true]
     have hf : decide (x = y) = false := by rw [← hdec]; simp [hk]
     rw [hf] at h
     exact wpAny_bind (wpAny_pure (wpAny_pure (wpAny_pure h)))
 ·rintro ⟨r1, r2⟩ s' ⟨hr, rfl, x', y', xs', ys', hz, hx', hy', hdec, hlen⟩
  simp only at hr
  subst hr
  refine wpAny_pure ?_
  have hfin : (xs.size == ys.size) = decide (x = y) := by
   rw [← hdec, ← hlen]
   cases hx' with
   | nil =>
    cases hy' with
    | nil => simp
    | cons _ _ => simp
   | cons _ _ =>
    cases hy' with
    | nil => simp
    | cons _ _ => simp at hz
  show P (.done (.ret (.bool (xs.size == ys.size)))) s'
  rw [hfin]; exact h
theorem Qcy {x y : List (List K)} {a b : Addr} {Q : Bool → Shared → Prop} (hu : A.units + 1 < cLine) (hx : IsNestKey knd s.heap x a) (hy : IsNestKey knd s.heap y b) (h : Q (decide (x = y)) s) :
  wpAny (model prog w) A (eqBool (.ref a) (.ref b)) Q E s := by
 unfold eqBool
 try with_reducible refine wpAny_holding ?_
 show wpAny _ _ (if (Value.ref a == Value.ref b) = true then _ else _) Q E s
 by_cases hab : (Value.ref a == Value.ref b) = true
 ·rw [if_pos hab]
  have e : a = b := by have := eq_of_beq hab; injection this
  subst e
  obtain rfl := hx.inj hy
  exact wpAny_bind (wpAny_rule (wpAny_pure (by simpa using h)))
 ·rw [if_neg hab]
  exact wpAny_bind (wpAny_richCompare_same_room (op := .Eq) hx.typeIs hy.typeIs F.slot_tuple_eq
   (wpAny_call_entry F.slot_tuple_eq hx.typeIs F.entry_tuple_eq (Qcx (by exact hu) hx hy ⟨_, rfl, (fun e => nomatch e), wpAny_truthy_bool h⟩) (F.args_tuple_eq_2 _ _)) (by ac_nf))
theorem Qcz {n : Nat} {ks : List K} {a : Addr} {Q : Bool → Shared → Prop} (hk : IsTupleKey knd s.heap ks a) (h : Q true s) : wpAny (model prog w) A (eqIsQuiet (n + 1) (.ref a)) Q E s := by
 have hT := hk.typeIs
 obtain ⟨o, items, n, ho, _, hd, hi⟩ := hk
 unfold eqIsQuiet
 refine wpAny_bind (wpAny_specialOf hT F.slot_tuple_eq.lookup ?_)
 show wpAny _ _ (isInstance (.ref a) (.type "tuple") >>= _) _ _ s
 refine wpAny_bind (wpAny_isInstance hT isSubtype_tuple_tuple ?_)
 simp only [Bool.not_true, Bool.false_eq_true, if_false]
 refine wpAny_bind (wpAny_seqItems ho hd ?_)
 refine wpAny_bind ?_
 show wpAny _ _ (forIn items _ _) _ _ s
 rw [← Array.forIn_toList]
 refine wpAny_forIn_list _ (fun rest r s' => r.1 = none ∧ s' = s ∧ ∀ v ∈ rest, carriedByValue v = true) _ ?_ ?_ _ _ ⟨rfl, rfl, hi.byValue⟩
 ·rintro v rest r s' ⟨hr, rfl, hall⟩
  rw [eqIsQuiet_byValue _ (hall v List.mem_cons_self)]
  refine wpAny_bind (wpAny_pure ?_)
  simp only [Bool.not_true, Bool.false_eq_true, if_false]
  exact wpAny_pure ⟨rfl, rfl, fun u hu' => hall u (List.mem_cons_of_mem _ hu')⟩
 ·rintro ⟨r1, r2⟩ s' ⟨hr, rfl, _⟩
  simp only at hr
  subst hr
  exact wpAny_pure h
theorem QcA {ks : List (List K)} {a : Addr} {Q : Bool → Shared → Prop} (hk : IsNestKey knd s.heap ks a) (h : Q true s) : wpAny (model prog w) A (eqIsQuiet 8 (.ref a)) Q E s := by
 have hT := hk.typeIs
 obtain ⟨o, items, n, ho, _, hd, hi⟩ := hk
 unfold eqIsQuiet
 refine wpAny_bind (wpAny_specialOf hT F.slot_tuple_eq.lookup ?_)
 show wpAny _ _ (isInstance (.ref a) (.type "tuple") >>= _) _ _ s
 refine wpAny_bind (wpAny_isInstance hT isSubtype_tuple_tuple ?_)
 simp only [Bool.not_true, Bool.false_eq_true, if_false]
 refine wpAny_bind (wpAny_seqItems ho hd ?_)
 refine wpAny_bind ?_
 show wpAny _ _ (forIn items _ _) _ _ s
 rw [← Array.forIn_toList]
 refine wpAny_forIn_list _ (fun rest r s' => r.1 = none ∧ s' = s ∧ ∃ left, TIts knd s.heap left rest) _ ?_ ?_ _ _ ⟨rfl, rfl, ks, hi⟩
 ·rintro v rest r s' ⟨hr, rfl, left, hall⟩
  cases hall with
  | cons h1 hl =>
   refine wpAny_bind (Qcz (n := 6) h1 ?_)
   simp only [Bool.not_true, Bool.false_eq_true, if_false]
   exact wpAny_pure ⟨rfl, rfl, _, hl⟩
 ·rintro ⟨r1, r2⟩ s' ⟨hr, rfl, _⟩
  simp only at hr
  subst hr
  exact wpAny_pure h
end
noncomputable def nestKind {prog : Program} {w : World} {K : Type} [DecidableEq K] (knd : KeyKind prog w K) : HeapKind prog w (List (List K)) where
 is := IsNestKey knd
 hash := nestHash knd
 draws := fun ks => nestDraws ks + 1
 room := fun A => A.units + 1 < cLine
 inj := fun hx hy => hx.inj hy
 keeps := fun x ho hd hs => x.keeps ho hd hs
 pyHash := fun hu hk h => Qcw hu hk h
 eqBool := fun hu hx hy h => Qcy hu hx hy h
 quiet := fun hk h => QcA hk h
end MM
namespace MM
open PySem
inductive D where
 | non | bl (b : Bool) | int (i : Int) | str (x : Str) | tup (ds : List D) | lit (ds : List D) | ref (n : Nat) | dic (n : Nat) | exn (x : Str) (ds : List D)
inductive MO where
 | lst (ds : List D) | dct (b : Bool) (kvs : List (D × D))
noncomputable abbrev Sto := List MO
structure Exn where
 cls : Nat
 args : List D
inductive Rs (α : Type) where
 | ok (a : α) (s : Sto) | exc (x : Exn) (s : Sto) | bad
noncomputable def M (α : Type) := Sto → Rs α
section
variable {α β : Type}
noncomputable def ret (a : α) : M α := fun s => .ok a s
noncomputable def bnd (m : M α) (f : α → M β) : M β := fun s => match m s with
 | .ok a s' => f a s'
 | .exc x s' => .exc x s'
 | .bad => .bad
noncomputable def bad : M α := fun _ => .bad
@[irreducible] noncomputable def chk (c : Prop) [Decidable c] (m : M α) : M α := if c then m else bad
end
noncomputable abbrev Loc := List (Option D)
noncomputable abbrev CE := Loc → M D
noncomputable abbrev CT := Loc → M Bool
noncomputable abbrev CA := Loc → M (List D)
inductive Flw where
 | next (l : Loc) | ret (d : D) | brk (l : Loc) | cnt (l : Loc)
noncomputable abbrev CS := Loc → M Flw
noncomputable def lim : Nat := 2 ^ 24
noncomputable def alloc (o : MO) : M D := fun s => .ok (.ref s.length) (s ++ [o])
noncomputable def getL (n : Nat) : M (List D) := fun s => match s[n]? with
 | some (.lst ds) => .ok ds s
 | _ => .bad
noncomputable def putL (n : Nat) (ds : List D) : M Unit := fun s => match s[n]? with
 | some (.lst _) => .ok () (s.set n (.lst ds))
 | _ => .bad
noncomputable def getDc (n : Nat) : M (Bool × List (D × D)) := fun s => match s[n]? with
 | some (.dct b kvs) => .ok (b, kvs) s
 | _ => .bad
noncomputable def putDc (n : Nat) (b : Bool) (kvs : List (D × D)) : M Unit := fun s => match s[n]? with
 | some (.dct c _) => if b = c then .ok () (s.set n (.dct b kvs)) else .bad
 | _ => .bad
mutual
noncomputable def eqK : D → D → Bool
 | .int i, .int j => decide (i = j)
 | .str x, .str y => decide (x = y)
 | .tup xs, .tup ys => eqKs xs ys
 | _, _ => false
noncomputable def eqKs : List D → List D → Bool
 | [], [] => true
 | x :: xs, y :: ys => eqK x y && eqKs xs ys
 | _, _ => false
end
noncomputable def intsK : List D → Option (List Int)
 | [] => some []
 | .int i :: ds => (intsK ds).map (i :: ·)
 | _ => none
noncomputable def rowsK : List D → Option (List (List Int))
 | [] => some []
 | .tup xs :: ds => match intsK xs, rowsK ds with
  | some r, some rs => some (r :: rs)
  | _, _ => none
 | _ => none
noncomputable def stK : D → Option (List (List Int))
 | .tup ds => rowsK ds
 | _ => none
noncomputable def kOk : Bool → D → Bool
 | false, .int _ => true
 | false, .str _ => true
 | true, d => (stK d).isSome
 | _, _ => false
noncomputable def lkK (kvs : List (D × D)) (k : D) : Option D := (kvs.find? fun p => eqK p.1 k).map (·.2)
noncomputable def ptK (kvs : List (D × D)) (k v : D) : List (D × D) := if (kvs.any fun p => eqK p.1 k) = true then kvs.map fun p => if eqK p.1 k = true then (p.1, v) else p else kvs ++ [(k, v)]
noncomputable def mgK (kvs more : List (D × D)) : List (D × D) := more.foldl (fun acc p => ptK acc p.1 p.2) kvs
noncomputable def itemK (n : Nat) (k : D) : M D := bnd (getDc n) fun p => chk (kOk p.1 k = true) (match lkK p.2 k with
 | some d => ret d
 | none => bad)
noncomputable def storeK (n : Nat) (k v : D) : M Unit := bnd (getDc n) fun p => chk (kOk p.1 k = true ∧ p.2.length < lim) (putDc n p.1 (ptK p.2 k v))
noncomputable def hasK (n : Nat) (k : D) : M Bool := bnd (getDc n) fun p => chk (kOk p.1 k = true) (ret (lkK p.2 k).isSome)
noncomputable def seqOf : D → M (List D)
 | .tup ds => ret ds
 | .lit ds => ret ds
 | .ref n => getL n
 | _ => bad
noncomputable def ixN (n : Nat) (i : Int) : Option Nat := if 0 ≤ i then (if i < n then some i.toNat else none) else (if -(n : Int) ≤ i then some (i + n).toNat else none)
noncomputable def addD : D → D → M D
 | .int i, .int j => ret (.int (i + j))
 | .str x, .str y => chk (x.length + y.length ≤ lim) (ret (.str (x ++ y)))
 | .tup x, .tup y => chk (x.length + y.length ≤ lim) (ret (.tup (x ++ y)))
 | .ref a, .ref b => bnd (getL a) fun x => bnd (getL b) fun y => chk (x.length + y.length ≤ lim) (alloc (.lst (x ++ y)))
 | _, _ => bad
noncomputable def subD : D → D → M D
 | .int i, .int j => ret (.int (i - j))
 | _, _ => bad
def mulOk (i j : Int) : Prop := (-(2 ^ 64) < i ∧ i < 2 ^ 64) ∨ (-(2 ^ 64) < j ∧ j < 2 ^ 64)
noncomputable instance (i j : Int) : Decidable (mulOk i j) := by unfold mulOk; infer_instance
noncomputable def mulD : D → D → M D
 | .int i, .int j => chk (mulOk i j) (ret (.int (i * j)))
 | _, _ => bad
noncomputable def fdivD : D → D → M D
 | .int i, .int j => chk (0 < j ∧ j < 1073741824) (ret (.int (i / j)))
 | _, _ => bad
noncomputable def modD : D → D → M D
 | .int i, .int j => chk (0 < j) (ret (.int (i % j)))
 | _, _ => bad
noncomputable def powD : D → D → M D
 | .int i, .int j => chk (0 ≤ j ∧ j ≤ 1000000 ∧ i.natAbs < 2 ^ 64) (ret (.int (i ^ j.toNat)))
 | _, _ => bad
noncomputable def shlD : D → D → M D
 | .int i, .int j => chk (0 ≤ j ∧ j ≤ 1000000 ∧ i.natAbs < 2 ^ 64) (ret (.int (i * 2 ^ j.toNat)))
 | _, _ => bad
noncomputable def negD : D → M D
 | .int i => ret (.int (-i))
 | _ => bad
noncomputable def cmpI (p : Int → Int → Bool) : D → D → M D
 | .int i, .int j => ret (.bl (p i j))
 | _, _ => bad
noncomputable def ltD := cmpI fun i j => decide (i < j)
noncomputable def leD := cmpI fun i j => decide (i ≤ j)
noncomputable def gtD := cmpI fun i j => decide (j < i)
noncomputable def geD := cmpI fun i j => decide (j ≤ i)
noncomputable def allF (f : D → D → Option Bool) : List D → List D → Option Bool
 | [], [] => some true
 | x :: xs, y :: ys => match f x y with
  | some true => allF f xs ys
  | some false => (allF f xs ys).map fun _ => false
  | none => none
 | _ :: _, [] => some false
 | [], _ :: _ => some false
noncomputable def eqS (g : List D → List D → Option Bool) : D → D → Option Bool
 | .non, .non => some true
 | .non, .bl _ => some false
 | .non, .int _ => some false
 | .non, .str _ => some false
 | .non, .tup _ => some false
 | .bl _, .non => some false
 | .bl a, .bl b => some (a == b)
 | .bl a, .int b => some ((if a then 1 else 0) == b)
 | .bl _, .str _ => some false
 | .bl _, .tup _ => some false
 | .int _, .non => some false
 | .int a, .bl b => some (a == (if b then 1 else 0))
 | .int a, .int b => some (a == b)
 | .int _, .str _ => some false
 | .int _, .tup _ => some false
 | .str _, .non => some false
 | .str _, .bl _ => some false
 | .str _, .int _ => some false
 | .str a, .str b => some (a == b)
 | .str _, .tup _ => some false
 | .tup _, .non => some false
 | .tup _, .bl _ => some false
 | .tup _, .int _ => some false
 | .tup _, .str _ => some false
 | .tup xs, .tup ys => g xs ys
 | _, _ => none
noncomputable def eqF : Nat → D → D → Option Bool
 | 0, d, e => eqS (fun _ _ => none) d e
 | n + 1, d, e => eqS (allF (eqF n)) d e
noncomputable def eqB (d e : D) : M Bool := match d, e with
 | .ref a, .ref b => bnd (getL a) fun x => bnd (getL b) fun y => match (if x.length = y.length then allF (eqF 50) x y else some false) with
  | some r => ret r
  | none => bad
 | .ref a, .non => bnd (getL a) fun _ => ret false
 | .non, .ref a => bnd (getL a) fun _ => ret false
 | d, e => match eqF 50 d e with
  | some r => ret r
  | none => bad
noncomputable def eqD (d e : D) : M D := bnd (eqB d e) fun b => ret (.bl b)
noncomputable def neD (d e : D) : M D := bnd (eqB d e) fun b => ret (.bl !b)
noncomputable def isND : D → M D
 | .non => ret (.bl true)
 | _ => ret (.bl false)
noncomputable def notND : D → M D
 | .non => ret (.bl false)
 | _ => ret (.bl true)
noncomputable def itemD (ds : List D) (i : Int) : M D := match ixN ds.length i with
 | some k => match ds[k]? with
  | some d => ret d
  | none => bad
 | none => bad
noncomputable def subsD : D → D → M D
 | .tup ds, .int i => itemD ds i
 | .lit ds, .int i => itemD ds i
 | .ref n, .int i => bnd (getL n) fun ds => itemD ds i
 | .dic n, k => itemK n k
 | .str x, .int i => chk (x.length ≤ lim) (match ixN x.length i with
  | some k => match x.cps.toList[k]? with
   | some c => ret (.str ⟨#[c]⟩)
   | none => bad
  | none => bad)
 | _, _ => bad
noncomputable def truD : D → M Bool
 | .non => ret false
 | .bl b => ret b
 | .int i => ret (i != 0)
 | .str x => chk (x.length ≤ lim) (ret ((x.length : Int) != 0))
 | .tup ds => ret (!ds.isEmpty)
 | .lit ds => ret (!ds.isEmpty)
 | .ref n => bnd (getL n) fun ds => ret (!ds.isEmpty)
 | .dic _ => bad
 | .exn _ _ => bad
noncomputable def cVar (i : Nat) : CE := fun l => match l[i]? with
 | some (some d) => ret d
 | _ => bad
noncomputable def cCon (d : D) : CE := fun _ => ret d
noncomputable def c1 (g : D → M D) (a : CE) : CE := fun l => bnd (a l) g
noncomputable def c2 (g : D → D → M D) (a b : CE) : CE := fun l => bnd (a l) fun x => bnd (b l) fun y => g x y
noncomputable def cNil : CA := fun _ => ret []
noncomputable def cCons (a : CE) (r : CA) : CA := fun l => bnd (a l) fun x => bnd (r l) fun xs => ret (x :: xs)
noncomputable def cTup (a : CA) : CE := fun l => bnd (a l) fun xs => chk (xs.length ≤ lim) (ret (.tup xs))
noncomputable def cChain (f g : D → D → M D) (a b c : CE) : CE := fun l => bnd (a l) fun x => bnd (b l) fun y => bnd (f x y) fun z => match z with
 | .bl true => bnd (c l) fun w => g y w
 | .bl false => ret (.bl false)
 | _ => bad
noncomputable def cAnd (a b : CE) : CE := fun l => bnd (a l) fun x => match x with
 | .bl true => b l
 | .bl false => ret (.bl false)
 | _ => bad
noncomputable def cOr (a b : CE) : CE := fun l => bnd (a l) fun x => match x with
 | .bl true => ret (.bl true)
 | .bl false => b l
 | _ => bad
noncomputable def cNot (a : CE) : CE := fun l => bnd (a l) fun x => match x with
 | .bl b => ret (.bl !b)
 | _ => bad
noncomputable def cIfE (t : CT) (a b : CE) : CE := fun l => bnd (t l) fun c => if c = true then a l else b l
noncomputable def cCall (g : List D → M D) (a : CA) : CE := fun l => bnd (a l) g
noncomputable def tVal (a : CE) : CT := fun l => bnd (a l) truD
noncomputable def tCmpB (a : CE) : CT := fun l => bnd (a l) fun x => match x with
 | .bl b => ret b
 | _ => bad
noncomputable def tAndB (a b : CT) : CT := fun l => bnd (a l) fun c => if c = true then b l else ret false
noncomputable def tOrB (a b : CT) : CT := fun l => bnd (a l) fun c => if c = true then ret true else b l
noncomputable def tNotB (a : CT) : CT := fun l => bnd (a l) fun c => ret !c
structure Wk where
 ds : List D
 same : Sto → Prop
noncomputable abbrev CI := Loc → M Wk
open Classical in
noncomputable def  chkS (p : Sto → Prop) : M Unit := fun s => if p s then .ok () s else .bad
noncomputable def anySt : Sto → Prop := fun _ => True
noncomputable def sameL (n : Nat) (ds : List D) : Sto → Prop := fun s => s[n]? = some (.lst ds)
noncomputable def iSeq (a : CE) : CI := fun l => bnd (a l) fun x => match x with
 | .tup ds => ret ⟨ds, anySt⟩
 | .lit ds => ret ⟨ds, anySt⟩
 | .ref n => bnd (getL n) fun ds => ret ⟨ds, sameL n ds⟩
 | _ => bad
noncomputable def rngD (lo : Int) (n : Nat) : List D := (List.range n).map fun k => .int (lo + (k : Nat))
noncomputable def iRng1 (a : CE) : CI := fun l => bnd (a l) fun x => match x with
 | .int j => chk (-(2 ^ 62) ≤ j ∧ j < 2 ^ 62) (ret ⟨rngD 0 j.toNat, anySt⟩)
 | _ => bad
noncomputable def iRng2 (a b : CE) : CI := fun l => bnd (a l) fun x => bnd (b l) fun y => match x, y with
 | .int i, .int j => chk ((-(2 ^ 62) ≤ i ∧ i < 2 ^ 62) ∧ (-(2 ^ 62) ≤ j ∧ j < 2 ^ 62)) (ret ⟨rngD i (j - i).toNat, anySt⟩)
 | _, _ => bad
noncomputable def iTmp (a : CA) : CI := fun l => bnd (a l) fun ds => ret ⟨ds, anySt⟩
noncomputable def iEnum (a : CE) : CI := fun l => bnd (a l) fun x => match x with
 | .tup ds => ret ⟨(rngD 0 ds.length).zipWith (fun i d => .tup [i, d]) ds, anySt⟩
 | _ => bad
noncomputable abbrev CG := D → Loc → M Loc
noncomputable def gVar (i : Nat) : CG := fun d l => ret (l.set i (some d))
noncomputable def gsNil : List D → Loc → M Loc
 | [], l => ret l
 | _, _ => bad
noncomputable def gsCons (g : CG) (r : List D → Loc → M Loc) : List D → Loc → M Loc
 | d :: ds, l => bnd (g d l) fun l' => r ds l'
 | _, _ => bad
noncomputable def gTupD (n : Nat) (r : List D → Loc → M Loc) : CG := fun d l => match d with
 | .tup ds => chk (ds.length = n) (r ds l)
 | _ => bad
noncomputable def capt (n : Nat) (caps : List Nat) (l : Loc) : Loc := List.replicate n none ++ caps.map fun i => (l[i]?).join
noncomputable def  collect (g : CG) (t : CT) (e : CE) (same : Sto → Prop) : List D → Loc → M (List D)
 | [], _ => bnd (chkS same) fun _ => ret []
 | d :: ds, l => bnd (chkS same) fun _ => bnd (g d l) fun l' => bnd (t l') fun b => if b = true then bnd (e l') fun x => bnd (collect g t e same ds l') fun xs => ret (x :: xs) else collect g t e same ds l'
noncomputable def  aComp (n : Nat) (caps : List Nat) (i : CI) (g : CG) (t : CT) (e : CE) : CA := fun l => bnd (i l) fun w => chk (w.ds.length ≤ lim) (collect g t e w.same w.ds (capt n caps l))
noncomputable def sIx (n d : Nat) : Option Int → Nat
 | none => d
 | some v => if v < 0 then (v + (n : Int)).toNat else min v.toNat n
noncomputable def cutD (xs : List D) (lo hi : Option Int) : List D := (xs.drop (sIx xs.length 0 lo)).take (sIx xs.length xs.length hi - sIx xs.length 0 lo)
noncomputable abbrev CO := Loc → M (Option Int)
noncomputable def oNone : CO := fun _ => ret none
noncomputable def oSome (a : CE) : CO := fun l => bnd (a l) fun x => match x with
 | .int i => ret (some i)
 | _ => bad
noncomputable def aSlice (a : CE) (lo hi : CO) : CA := fun l => bnd (a l) fun x => bnd (lo l) fun i => bnd (hi l) fun j => match x with
 | .lit ds => ret (cutD ds i j)
 | .ref n => bnd (getL n) fun ds => ret (cutD ds i j)
 | _ => bad
noncomputable def cSliceT (a : CE) (lo hi : CO) : CE := fun l => bnd (a l) fun x => bnd (lo l) fun i => bnd (hi l) fun j => match x with
 | .tup ds => chk (¬(sIx ds.length 0 i = 0 ∧ sIx ds.length ds.length j = ds.length)) (ret (.tup (cutD ds i j)))
 | _ => bad
noncomputable def tTrue : CT := fun _ => ret true
noncomputable def cKeep (a : CA) : CE := fun l => bnd (a l) fun ds => alloc (.lst ds)
noncomputable def aDisp (a : CA) : CA := fun l => bnd (a l) fun xs => chk (xs.length ≤ lim) (ret xs)
noncomputable def cTmpSub (a : CA) (b : CE) : CE := fun l => bnd (a l) fun ds => bnd (b l) fun i => match i with
 | .int k => itemD ds k
 | _ => bad
noncomputable def cTmp (g : List D → M D) (a : CA) : CE := fun l => bnd (a l) g
noncomputable def sNext : CS := fun l => ret (.next l)
noncomputable def sSeq (a b : CS) : CS := fun l => bnd (a l) fun f => match f with
 | .next l' => b l'
 | f => ret f
noncomputable def sAsg (g : CG) (a : CE) : CS := fun l => bnd (a l) fun d => bnd (g d l) fun l' => ret (.next l')
noncomputable def sRet (a : CE) : CS := fun l => bnd (a l) fun d => ret (.ret d)
noncomputable def sExp (a : CE) : CS := fun l => bnd (a l) fun _ => ret (.next l)
noncomputable def sIf (t : CT) (a b : CS) : CS := fun l => bnd (t l) fun c => if c = true then a l else b l
noncomputable def  forD (g : CG) (b : CS) (same : Sto → Prop) : List D → CS
 | [], l => bnd (chkS same) fun _ => ret (.next l)
 | d :: ds, l => bnd (chkS same) fun _ => bnd (g d l) fun l' => bnd (b l') fun f => match f with
  | .next l2 => forD g b same ds l2
  | .cnt l2 => forD g b same ds l2
  | .brk l2 => ret (.next l2)
  | .ret d => ret (.ret d)
noncomputable def  sFor (i : CI) (g : CG) (b : CS) : CS := fun l => bnd (i l) fun w => forD g b w.same w.ds l
noncomputable def flwD : Flw → M D
 | .ret d => ret d
 | .next _ => ret .non
 | _ => bad
noncomputable def runDef (n : Nat) (body : CS) (ds : List D) : M D := bnd (body (ds.map some ++ List.replicate (n - ds.length) none)) flwD
noncomputable def setItemD (o i v : D) : M Unit := match o, i with
 | .ref n, .int k => bnd (getL n) fun ds => match ixN ds.length k with
  | some j => putL n (ds.set j v)
  | none => bad
 | .dic n, k => storeK n k v
 | _, _ => bad
noncomputable def gSubD (o i : CE) : CG := fun v l => bnd (o l) fun y => bnd (i l) fun z => bnd (setItemD y z v) fun _ => ret l
noncomputable def lenD : D → M D
 | .tup ds => ret (.int ds.length)
 | .lit ds => ret (.int ds.length)
 | .ref n => bnd (getL n) fun ds => ret (.int ds.length)
 | .str x => chk (x.length ≤ lim) (ret (.int x.length))
 | .dic n => bnd (getDc n) fun p => ret (.int p.2.length)
 | _ => bad
noncomputable def appendL (n : Nat) (v : D) : M D := bnd (getL n) fun ds => chk (ds.length < lim) (bnd (putL n (ds ++ [v])) fun _ => ret .non)
noncomputable def cAppend (a b : CE) : CE := fun l => bnd (a l) fun x => match x with
 | .ref n => bnd (b l) fun v => appendL n v
 | _ => bad
noncomputable def cClear (a : CE) : CE := fun l => bnd (a l) fun x => match x with
 | .ref n => bnd (putL n []) fun _ => ret .non
 | _ => bad
noncomputable def intD : D → M D
 | .int i => ret (.int i)
 | .bl b => ret (.int (if b then 1 else 0))
 | _ => bad
noncomputable def tupleD : D → M D
 | .tup ds => ret (.tup ds)
 | .lit ds => ret (.tup ds)
 | .ref n => bnd (getL n) fun ds => ret (.tup ds)
 | _ => bad
noncomputable def isTy : D → Option (List String)
 | .non => some ["NoneType"]
 | .bl _ => some ["bool", "int"]
 | .int _ => some ["int"]
 | .str _ => some ["str"]
 | .tup _ => some ["tuple"]
 | .lit _ => some ["list"]
 | .ref _ => some ["list"]
 | .dic _ => none
 | .exn _ _ => none
noncomputable def tupL (ds : List D) : M D := ret (.tup ds)
noncomputable def lenL (ds : List D) : M D := ret (.int ds.length)
noncomputable def isInst (ts : List String) (d : D) : M D := match isTy d with
 | some us => ret (.bl (ts.any fun t => us.contains t))
 | none => bad
noncomputable def isD : D → D → M D
 | .bl a, .bl b => ret (.bl (a == b))
 | x, .non => isND x
 | _, _ => bad
noncomputable def isntD : D → D → M D
 | .bl a, .bl b => ret (.bl !(a == b))
 | x, .non => notND x
 | _, _ => bad
noncomputable def flatD : D → Bool
 | .non => true
 | .bl _ => true
 | .int _ => true
 | .str _ => true
 | _ => false
noncomputable def eqFl : D → D → Bool
 | .non, .non => true
 | .bl a, .bl b => a == b
 | .bl a, .int b => (if a then 1 else 0) == b
 | .int a, .bl b => a == (if b then 1 else 0)
 | .int a, .int b => a == b
 | .str a, .str b => a == b
 | _, _ => false
noncomputable def inL (x : D) (ds : List D) : M D := chk (flatD x = true ∧ ds.all flatD = true) (ret (.bl (ds.any fun d => eqFl d x)))
noncomputable def ninL (x : D) (ds : List D) : M D := chk (flatD x = true ∧ ds.all flatD = true) (ret (.bl !(ds.any fun d => eqFl d x)))
noncomputable def inD (x y : D) : M D := match y with
 | .dic n => bnd (hasK n x) fun b => ret (.bl b)
 | y => bnd (seqOf y) (inL x)
noncomputable def ninD (x y : D) : M D := match y with
 | .dic n => bnd (hasK n x) fun b => ret (.bl !b)
 | y => bnd (seqOf y) (ninL x)
noncomputable def allocK (b : Bool) (kvs : List (D × D)) : M D := fun s => .ok (.dic s.length) (s ++ [.dct b kvs])
noncomputable def cDNew (b : Bool) : CE := fun _ => allocK b []
noncomputable def cDisp (ks : List D) (vs : CA) : CE := fun l => bnd (vs l) fun xs => chk (ks.length = xs.length) (allocK false (mgK [] (ks.zip xs)))
noncomputable def aTimes (a : CA) (b : CE) : CA := fun l => bnd (a l) fun xs => bnd (b l) fun k => match k with
 | .int k => chk ((-(2 ^ 63) ≤ k ∧ k < 2 ^ 63) ∧ xs.length * k.toNat ≤ lim) (ret (List.replicate k.toNat xs).flatten)
 | _ => bad
noncomputable def aRev (a : CA) : CA := fun l => bnd (a l) fun ds => ret ds.reverse
noncomputable def cInTmp (g : D → List D → M D) (a : CE) (b : CA) : CE := fun l => bnd (a l) fun x => bnd (b l) fun ds => g x ds
noncomputable def min2D : D → D → M D
 | .int i, .int j => ret (.int (min i j))
 | _, _ => bad
noncomputable def max2D : D → D → M D
 | .int i, .int j => ret (.int (max i j))
 | _, _ => bad
noncomputable def listD (d : D) : M D := bnd (seqOf d) fun ds => alloc (.lst ds)
noncomputable def cPop (a : CE) : CE := fun l => bnd (a l) fun x => match x with
 | .ref n => bnd (getL n) fun ds => match ds.getLast? with
  | some d => bnd (putL n ds.dropLast) fun _ => ret d
  | none => bad
 | _ => bad
noncomputable def cReverse (a : CE) : CE := fun l => bnd (a l) fun x => match x with
 | .ref n => bnd (getL n) fun ds => bnd (putL n ds.reverse) fun _ => ret .non
 | _ => bad
noncomputable def aBack (a : CE) : CA := fun l => bnd (a l) fun x => match x with
 | .ref n => getL n |> fun m => bnd m fun ds => ret ds.reverse
 | _ => bad
noncomputable def whileN (t : CT) (b : CS) : Nat → CS
 | 0 => fun _ => bad
 | n + 1 => fun l => bnd (t l) fun c => if c = true then bnd (b l) fun f => match f with
   | .next l2 => whileN t b n l2
   | .cnt l2 => whileN t b n l2
   | .brk l2 => ret (.next l2)
   | .ret d => ret (.ret d) else ret (.next l)
open Classical in
noncomputable def  sWhile (t : CT) (b : CS) : CS := fun l s => if h : ∃ n, (∀ r, whileN t b n l s = r → r ≠ .bad) then whileN t b (choose h) l s else .bad
end MM
namespace MM
open PySem PySem.Spec PyProof.Rows L2
noncomputable abbrev St := L2.St
def FzL (K : PySem.W.Frag) (H : Hp) (a : Addr) (xs : List V) : Prop :=
 (∃ o, H a = some (.frz o (.lst xs))) ∨
  ∃ (o : Obj) (its : Array Value) (n : Nat), K.lookup a = some o ∧ o.cls = .type "list" ∧ o.dict = none ∧ o.data = .seq its n ∧ its.size ≤ sizeLine ∧ Vals xs its.toList
theorem FzL.seq {K : PySem.W.Frag} {H : Hp} {a : Addr} {xs : List V} (h : FzL K H a xs) : SqL K H a xs := by
 rcases h with ⟨o, h⟩ | h
 ·exact .inl (.inr ⟨o, h⟩)
 ·exact .inr h
noncomputable def kO : HO → Nat
 | .lst _ => 0
 | .dK _ => 1
 | .ext _ => 2
 | _ => 3
noncomputable abbrev NK := List (List Int)
noncomputable def nH (k : NK) : Int := reduceHash (Builtin.Tuple.tupleHashOf (k.map fun r => reduceHash (Builtin.Tuple.tupleHashOf (r.map hashInt))))
noncomputable def nEnt (x : NK × Addr × Value) : DictEntry := ⟨nH x.1, .ref x.2.1, x.2.2⟩
def NOk (a : Addr) (es : List (NK × Addr × V)) (h : Heap) : Prop := es.length ≤ sizeLine ∧ (a == sysModules) = false ∧ ∃ xs : List (NK × Addr × Value), Paired (fun (p : NK × Addr × V) (q : NK × Addr × Value) => p.1 = q.1 ∧ p.2.1 = q.2.1 ∧ RelV p.2.2 q.2.2) es xs ∧
 ∃ o es' ep, h.get? a = some o ∧ o.ExactDict ∧ o.data = .dict es' ep ∧ es'.toList = xs.map nEnt ∧ (xs.map (·.1)).Nodup
noncomputable def nstO (a : Addr) (es : List (NK × Addr × V)) : HO := .ext (NOk a es)
noncomputable def rowD (r : List Int) : D := .tup (r.map .int)
noncomputable def stD (k : NK) : D := .tup (k.map rowD)
noncomputable def keyD : Key → D
 | .inl i => .int i
 | .inr x => .str x
mutual
inductive Rep (K : PySem.W.Frag) (ρ : List Addr) (H : Hp) : V → D → Prop
 | non : Rep K ρ H .non .non
 | bl (b : Bool) : Rep K ρ H (.bl b) (.bl b)
 | int (i : Int) : Rep K ρ H (.int i) (.int i)
 | str (x : Str) : Rep K ρ H (.str x) (.str x)
 | tup {a : Addr} {vs : List V} {ds : List D} (h : SqT K H a vs) (r : Reps K ρ H vs ds) : Rep K ρ H (.ref a) (.tup ds)
 | lit {a : Addr} {vs : List V} {ds : List D} (h : FzL K H a vs) (r : Reps K ρ H vs ds) : Rep K ρ H (.ref a) (.lit ds)
 | ref {a : Addr} {n : Nat} (k : ∃ o, H a = some o ∧ kO o = 0) (h : ρ[n]? = some a) : Rep K ρ H (.ref a) (.ref n)
 | dic {a : Addr} {n : Nat} (k : ∃ o, H a = some o ∧ (kO o = 1 ∨ kO o = 2)) (h : ρ[n]? = some a) : Rep K ρ H (.ref a) (.dic n)
 | exn0 {a C : Addr} {x : Str} (g : PySem.W.nsIn K mainGlobals x = some (some (.ref C))) (h : ∃ o, H a = some (.frz o (.own a)) ∧ o.cls = .ref C) : Rep K ρ H (.ref a) (.exn x [])
 | exn {a C dx : Addr} {x f : Str} {v : V} {d : D} (g : PySem.W.nsIn K mainGlobals x = some (some (.ref C))) (h : ∃ o, H a = some (.frz o (.own a)) ∧ o.cls = .ref C ∧ o.dict = some dx ∧ ∃ vs, o.data = .fields vs) (h2 : H dx = some (.xd [(f, v)])) (r : Rep K ρ H v d) : Rep K ρ H (.ref a) (.exn x [.str f, d])
inductive Reps (K : PySem.W.Frag) (ρ : List Addr) (H : Hp) : List V → List D → Prop
 | nil : Reps K ρ H [] []
 | cons {v : V} {d : D} {vs : List V} {ds : List D} (r : Rep K ρ H v d) (t : Reps K ρ H vs ds) : Reps K ρ H (v :: vs) (d :: ds)
end
noncomputable def ObR (K : PySem.W.Frag) (ρ : List Addr) (H : Hp) (a : Addr) : MO → Prop
 | .lst ds => ∃ vs, H a = some (.lst vs) ∧ Reps K ρ H vs ds
 | .dct false kvs => ∃ es, H a = some (.dK es) ∧ Paired (fun (p : Key × V) (q : D × D) => keyD p.1 = q.1 ∧ Rep K ρ H p.2 q.2) es kvs
 | .dct true kvs => ∃ es, H a = some (nstO a es) ∧ Paired (fun (p : NK × Addr × V) (q : D × D) => stD p.1 = q.1 ∧ Rep K ρ H (.ref p.2.1) q.1 ∧ Rep K ρ H p.2.2 q.2) es kvs
structure SR (K : PySem.W.Frag) (ρ : List Addr) (H : Hp) (st : Sto) : Prop where
 len : ρ.length = st.length
 nd : ρ.Nodup
 ob : ∀ (n : Nat) (a : Addr) (o : MO), ρ[n]? = some a → st[n]? = some o → ObR K ρ H a o
def LR (K : PySem.W.Frag) (ρ : List Addr) (H : Hp) (σ : St) (l : Loc) : Prop :=
 σ.length = l.length ∧ ∀ (i : Nat) (d : D), l[i]? = some (some d) → ∃ v, σ[i]? = some (some v) ∧ Rep K ρ H v d
structure Ex (ρ : List Addr) (H : Hp) (ρ' : List Addr) (H' : Hp) : Prop where
 pre : ∃ τ, ρ' = ρ ++ τ ∧ ∀ a ∈ τ, H a = none
 fix : ∀ a o, kO o = 3 → H a = some o → H' a = some o
 oth : ∀ a o, a ∉ ρ → H a = some o → H' a = some o
 knd : ∀ a o, H a = some o → ∃ o', H' a = some o' ∧ kO o' = kO o
structure Up (ρ : List Addr) (H : Hp) (ρ' : List Addr) (H' : Hp) : Prop where
 pre : ∃ τ, ρ' = ρ ++ τ
 fix : ∀ a o, kO o = 3 → H a = some o → H' a = some o
 knd : ∀ a o, H a = some o → ∃ o', H' a = some o' ∧ kO o' = kO o
section
variable {K : PySem.W.Frag} {ρ ρ1 ρ2 : List Addr} {H H1 H2 : Hp} {st st1 : Sto} {v : V} {d : D} {vs : List V} {ds : List D} {a : Addr}
theorem Ex.lst (x : Ex ρ H ρ1 H1) (a : Addr) (xs : List V) (na : a ∉ ρ) (h : H a = some (.lst xs)) : H1 a = some (.lst xs) := x.oth a _ na h
theorem Ex.trk (x : Ex ρ H ρ1 H1) (a : Addr) (o : HO) (h : H a = some o) : H1 a ≠ none := by
 obtain ⟨o', e, _⟩ := x.knd a o h
 rw [e]; exact fun z => nomatch z
theorem Ex.up (x : Ex ρ H ρ1 H1) : Up ρ H ρ1 H1 := ⟨let ⟨τ, e, _⟩ := x.pre; ⟨τ, e⟩, x.fix, x.knd⟩
theorem Up.grow {τ : List Addr} : Up ρ H (ρ ++ τ) H := ⟨⟨τ, rfl⟩, fun _ _ _ e => e, fun _ o e => ⟨o, e, rfl⟩⟩
theorem Ex.refl : Ex ρ H ρ H := ⟨⟨[], by simp, by simp⟩, fun _ _ _ e => e, fun _ _ _ e => e, fun _ o e => ⟨o, e, rfl⟩⟩
theorem Ex.trans (x : Ex ρ H ρ1 H1) (y : Ex ρ1 H1 ρ2 H2) : Ex ρ H ρ2 H2 := by
 obtain ⟨τ1, rfl, f1⟩ := x.pre
 obtain ⟨τ2, rfl, f2⟩ := y.pre
 refine ⟨⟨τ1 ++ τ2, by simp, fun a ha => ?_⟩, fun a o no e => y.fix a o no (x.fix a o no e), fun a o na e => ?_, fun a o e => ?_⟩
 ·rcases List.mem_append.mp ha with ha | ha
  ·exact f1 a ha
  ·cases q : H a with
   | none => rfl
   | some o => exact absurd (f2 a ha) (x.trk a o q)
 ·refine y.oth a o (fun z => ?_) (x.oth a o na e)
  rcases List.mem_append.mp z with z | z
  ·exact na z
  ·rw [f1 a z] at e; cases e
 ·obtain ⟨o1, e1, k1⟩ := x.knd a o e
  obtain ⟨o2, e2, k2⟩ := y.knd a o1 e1
  exact ⟨o2, e2, k2.trans k1⟩
theorem Ex.new {o : HO} (h : H a = none) : Ex ρ H ρ (upd H a o) :=
 ⟨⟨[], by simp, by simp⟩, fun b u _ e => by rw [Qaj (Qal e h)]; exact e, fun b u _ e => by rw [Qaj (Qal e h)]; exact e,
  fun b u e => ⟨u, by rw [Qaj (Qal e h)]; exact e, rfl⟩⟩
theorem Ex.newO {o : HO} (h : H a = none) : Ex ρ H (ρ ++ [a]) (upd H a o) :=
 ⟨⟨[a], rfl, fun b hb => by rw [List.mem_singleton] at hb; rw [hb]; exact h⟩, (Ex.new (ρ := ρ) h).fix, (Ex.new (ρ := ρ) h).oth, (Ex.new (ρ := ρ) h).knd⟩
theorem Ex.newL {vs : List V} (h : H a = none) : Ex ρ H (ρ ++ [a]) (upd H a (.lst vs)) := Ex.newO h
theorem SqT.mono (x : Up ρ H ρ1 H1) (h : SqT K H a vs) : SqT K H1 a vs := by
 rcases h with h | h
 ·rcases h with h | ⟨o, h⟩
  ·exact .inl (.inl (x.fix a _ rfl h))
  ·exact .inl (.inr ⟨o, x.fix a _ rfl h⟩)
 ·exact .inr h
theorem FzL.mono (x : Up ρ H ρ1 H1) (h : FzL K H a vs) : FzL K H1 a vs := by
 rcases h with ⟨o, h⟩ | h
 ·exact .inl ⟨o, x.fix a _ rfl h⟩
 ·exact .inr h
theorem QcB {α : Type} {l τ : List α} {n : Nat} {a : α} (h : l[n]? = some a) : (l ++ τ)[n]? = some a := by
 rw [List.getElem?_append_left (List.getElem?_eq_some_iff.mp h).1]; exact h
mutual
theorem Rep.up (x : Up ρ H ρ1 H1) : ∀ {v : V} {d : D}, Rep K ρ H v d → Rep K ρ1 H1 v d
 | _, _, .non => .non
 | _, _, .bl b => .bl b
 | _, _, .int i => .int i
 | _, _, .str y => .str y
 | _, _, .tup h r => .tup (SqT.mono x h) (Reps.up x r)
 | _, _, .lit h r => .lit (FzL.mono x h) (Reps.up x r)
 | _, _, .ref ⟨o, ho, hk⟩ h => by
  obtain ⟨τ, e⟩ := x.pre
  obtain ⟨o', ho', hk'⟩ := x.knd _ o ho
  exact .ref ⟨o', ho', hk'.trans hk⟩ (by rw [e]; exact QcB h)
 | _, _, .dic ⟨o, ho, hk⟩ h => by
  obtain ⟨τ, e⟩ := x.pre
  obtain ⟨o', ho', hk'⟩ := x.knd _ o ho
  exact .dic ⟨o', ho', by rw [hk']; exact hk⟩ (by rw [e]; exact QcB h)
 | _, _, .exn0 g ⟨o, ho, hc⟩ => .exn0 g ⟨o, x.fix _ _ rfl ho, hc⟩
 | _, _, .exn g ⟨o, ho, hc⟩ h2 r => .exn g ⟨o, x.fix _ _ rfl ho, hc⟩ (x.fix _ _ rfl h2) (Rep.up x r)
theorem Reps.up (x : Up ρ H ρ1 H1) : ∀ {vs : List V} {ds : List D}, Reps K ρ H vs ds → Reps K ρ1 H1 vs ds
 | _, _, .nil => .nil
 | _, _, .cons r t => .cons (Rep.up x r) (Reps.up x t)
end
theorem Rep.mono (r : Rep K ρ H v d) (x : Ex ρ H ρ1 H1) : Rep K ρ1 H1 v d := r.up x.up
theorem Reps.mono (r : Reps K ρ H vs ds) (x : Ex ρ H ρ1 H1) : Reps K ρ1 H1 vs ds := r.up x.up
theorem Reps.length : ∀ {vs : List V} {ds : List D}, Reps K ρ H vs ds → vs.length = ds.length
 | _, _, .nil => rfl
 | _, _, .cons _ t => by simp [Reps.length t]
theorem Reps.get : ∀ {vs : List V} {ds : List D} {i : Nat} {d : D}, Reps K ρ H vs ds → ds[i]? = some d → ∃ v, vs[i]? = some v ∧ Rep K ρ H v d
 | _, _, _, _, .nil, e => by simp at e
 | _, _, 0, _, .cons r _, e => by simp at e; subst e; exact ⟨_, rfl, r⟩
 | _, _, i + 1, _, .cons _ t, e => by
  obtain ⟨v, h1, h2⟩ := Reps.get (i := i) t (by simpa using e)
  exact ⟨v, by simpa using h1, h2⟩
theorem Reps.app : ∀ {vs ws : List V} {ds es : List D}, Reps K ρ H vs ds → Reps K ρ H ws es → Reps K ρ H (vs ++ ws) (ds ++ es)
 | _, _, _, _, .nil, s => s
 | _, _, _, _, .cons r t, s => .cons r (Reps.app t s)
theorem Reps.set : ∀ {vs : List V} {ds : List D} {v : V} {d : D} (i : Nat), Reps K ρ H vs ds → Rep K ρ H v d → Reps K ρ H (vs.set i v) (ds.set i d)
 | _, _, _, _, _, .nil, _ => .nil
 | _, _, _, _, 0, .cons _ t, r => .cons r t
 | _, _, _, _, i + 1, .cons q t, r => .cons q (Reps.set i t r)
theorem Reps.take : ∀ {vs : List V} {ds : List D} (n : Nat), Reps K ρ H vs ds → Reps K ρ H (vs.take n) (ds.take n)
 | _, _, 0, _ => .nil
 | _, _, _ + 1, .nil => .nil
 | _, _, n + 1, .cons r t => .cons r (Reps.take n t)
theorem Reps.drop : ∀ {vs : List V} {ds : List D} (n : Nat), Reps K ρ H vs ds → Reps K ρ H (vs.drop n) (ds.drop n)
 | _, _, 0, r => r
 | _, _, _ + 1, .nil => .nil
 | _, _, n + 1, .cons _ t => Reps.drop n t
theorem LR.mono {σ : St} {l : Loc} (x : Ex ρ H ρ1 H1) (h : LR K ρ H σ l) : LR K ρ1 H1 σ l :=
 ⟨h.1, fun i d e => let ⟨v, e1, r⟩ := h.2 i d e; ⟨v, e1, r.mono x⟩⟩
theorem SR.at (s : SR K ρ H st) {n : Nat} {o : MO} (e : st[n]? = some o) : ∃ a, ρ[n]? = some a ∧ ObR K ρ H a o := by
 have hl : n < ρ.length := by rw [s.len]; exact (List.getElem?_eq_some_iff.mp e).1
 have q : ρ[n]? = some ρ[n] := List.getElem?_eq_getElem hl
 exact ⟨_, q, s.ob n _ o q e⟩
theorem SR.seq (s : SR K ρ H st) {n : Nat} (e : st[n]? = some (.lst ds)) : ∃ a vs, ρ[n]? = some a ∧ H a = some (.lst vs) ∧ Reps K ρ H vs ds := by
 obtain ⟨a, h, vs, q, r⟩ := s.at e
 exact ⟨a, vs, h, q, r⟩
theorem ObR.ex {o : MO} (h : ObR K ρ H a o) : ∃ u, H a = some u := by
 cases o with
 | lst ds => obtain ⟨vs, q, _⟩ := h; exact ⟨_, q⟩
 | dct b kvs => cases b <;> (obtain ⟨vs, q, _⟩ := h; exact ⟨_, q⟩)
theorem SR.fresh (s : SR K ρ H st) (h : H a = none) : a ∉ ρ := fun z => by
 obtain ⟨n, hn⟩ := List.getElem?_of_mem z
 have hl : n < st.length := by rw [← s.len]; exact (List.getElem?_eq_some_iff.mp hn).1
 obtain ⟨u, q⟩ := ObR.ex (s.ob n a _ hn (List.getElem?_eq_getElem hl))
 rw [h] at q; cases q
theorem QcC {n : Nat} {xs : List D} {s' : Sto} (h : getL n st = .ok xs s') : s' = st ∧ st[n]? = some (.lst xs) := by
 unfold getL at h
 cases e : st[n]? with
 | none => rw [e] at h; cases h
 | some o =>
  rw [e] at h
  cases o with
  | lst ds => cases h; exact ⟨rfl, rfl⟩
  | dct _ _ => cases h
theorem Paired.mapS {α β : Type} {F G : α → β → Prop} : ∀ {l₁ : List α} {l₂ : List β}, Paired F l₁ l₂ → (∀ a b, F a b → G a b) → Paired G l₁ l₂
 | _, _, .nil, _ => .nil
 | _, _, .cons r t, f => .cons (f _ _ r) (Paired.mapS t f)
theorem ObR.mono {o : MO} (x : Up ρ H ρ1 H1) (h : ObR K ρ H a o) (hk : ∀ u, H a = some u → H1 a = some u) : ObR K ρ1 H1 a o := by
 cases o with
 | lst ds =>
  obtain ⟨vs, q, r⟩ := h
  exact ⟨vs, hk _ q, r.up x⟩
 | dct b kvs =>
  cases b with
  | false =>
   obtain ⟨es, q, r⟩ := h
   exact ⟨es, hk _ q, Paired.mapS r fun p q z => ⟨z.1, z.2.up x⟩⟩
  | true =>
   obtain ⟨es, q, r⟩ := h
   exact ⟨es, hk _ q, Paired.mapS r fun p q z => ⟨z.1, z.2.1.up x, z.2.2.up x⟩⟩
theorem SR.new {o : HO} (s : SR K ρ H st) (h : H a = none) : SR K ρ (upd H a o) st :=
 ⟨s.len, s.nd, fun n b ob e1 e2 => ObR.mono (o := ob) (Ex.new (ρ := ρ) h).up (s.ob n b ob e1 e2) fun vs q => by rw [Qaj (Qal q h)]; exact q⟩
theorem SR.keepO {o' : MO} (s : SR K ρ H st) (na : a ∉ ρ) (r : ObR K ρ H a o') : SR K (ρ ++ [a]) H (st ++ [o']) := by
 have hl := s.len
 have old : ∀ (n : Nat) (b : Addr), (ρ ++ [a])[n]? = some b → (n < ρ.length ∧ ρ[n]? = some b) ∨ (n = ρ.length ∧ b = a) := fun n b e => by
  by_cases hn : n < ρ.length
  ·rw [List.getElem?_append_left hn] at e; exact .inl ⟨hn, e⟩
  ·rw [List.getElem?_append_right (by ac_nf)] at e
   have hz : n - ρ.length = 0 := by
    cases q : n - ρ.length with
    | zero => rfl
    | succ k => rw [q] at e; simp at e
   rw [hz] at e
   simp at e
   exact .inr ⟨by ac_nf, e.symm⟩
 refine ⟨by simp [hl], List.nodup_append.mpr ⟨s.nd, by simp, fun x hx y hy => ?_⟩, fun n b o e1 e2 => ?_⟩
 ·rw [List.mem_singleton] at hy
  subst hy
  exact fun z => na (z ▸ hx)
 ·rcases old n b e1 with ⟨hn, f1⟩ | ⟨hn, f1⟩
  ·rw [List.getElem?_append_left (by ac_nf)] at e2
   exact ObR.mono (o := o) Up.grow (s.ob n b o f1 e2) fun _ q => q
  ·subst f1
   have : o = o' := by
    rw [hn, hl, List.getElem?_append_right (Nat.le_refl _)] at e2
    simp at e2; exact e2.symm
   subst this
   exact ObR.mono (o := o) Up.grow r fun _ q => q
theorem SR.keep (s : SR K ρ H st) (h : H a = some (.lst vs)) (na : a ∉ ρ) (r : Reps K ρ H vs ds) : SR K (ρ ++ [a]) H (st ++ [.lst ds]) := s.keepO na ⟨vs, h, r⟩
theorem SR.putO (s : SR K ρ H st) {n : Nat} {o' : MO} {u u' : HO} (hl : n < st.length) (ha : ρ[n]? = some a) (hu : H a = some u) (k3 : kO u ≠ 3) (hk : kO u' = kO u) (r : ObR K ρ (upd H a u') a o') :
  SR K ρ (upd H a u') (st.set n o') ∧ Ex ρ H ρ (upd H a u') := by
 have x : Ex ρ H ρ (upd H a u') := by
  refine ⟨⟨[], by simp, by simp⟩, fun b o no q => ?_, fun b xs nb q => ?_, fun b o q => ?_⟩
  ·have : b ≠ a := fun z => by subst z; rw [hu] at q; cases q; exact k3 no
   rw [Qaj this]; exact q
  ·have : b ≠ a := fun z => by subst z; exact nb (List.mem_of_getElem? ha)
   rw [Qaj this]; exact q
  ·by_cases z : b = a
   ·subst z; rw [hu] at q; cases q; exact ⟨u', Qai, hk⟩
   ·exact ⟨o, by rw [Qaj z]; exact q, rfl⟩
 refine ⟨⟨by simp [s.len], s.nd, fun m b o e1 e2 => ?_⟩, x⟩
 by_cases z : m = n
 ·subst z
  rw [ha] at e1; cases e1
  rw [List.getElem?_set_self hl] at e2; cases e2
  exact r
 ·rw [List.getElem?_set_ne (Ne.symm z)] at e2
  refine ObR.mono (o := o) x.up (s.ob m b o e1 e2) fun us q => ?_
  have : b ≠ a := fun w => by
   subst w
   exact z ((List.getElem?_inj (List.getElem?_eq_some_iff.mp e1).1 s.nd).mp (e1.trans ha.symm))
  rw [Qaj this]; exact q
theorem SR.put (s : SR K ρ H st) {n : Nat} {ws : List V} (hl : n < st.length) (ha : ρ[n]? = some a) (hw : H a = some (.lst ws)) (r : Reps K ρ H vs ds) :
  SR K ρ (upd H a (.lst vs)) (st.set n (.lst ds)) ∧ Ex ρ H ρ (upd H a (.lst vs)) := by
 have u : Up ρ H ρ (upd H a (.lst vs)) := by
  refine ⟨⟨[], by simp⟩, fun b o no q => ?_, fun b o q => ?_⟩
  ·have : b ≠ a := fun z => by subst z; rw [hw] at q; cases q; exact nomatch no
   rw [Qaj this]; exact q
  ·by_cases z : b = a
   ·subst z; rw [hw] at q; cases q; exact ⟨_, Qai, rfl⟩
   ·exact ⟨o, by rw [Qaj z]; exact q, rfl⟩
 exact s.putO hl ha hw (by show (0 : Nat) ≠ 3; decide) rfl ⟨vs, Qai, r.up u⟩
def Post {α : Type} (K : PySem.W.Frag) (ρ : List Addr) (H : Hp) (r : Rs α) (R : α → Sto → List Addr → Hp → Prop) : Prop := match r with
 | .ok a st => ∀ ρ' H', Ex ρ H ρ' H' → SR K ρ' H' st → R a st ρ' H'
 | _ => False
theorem Post.left {α : Type} {r : Rs α} {R : α → Sto → List Addr → Hp → Prop} (x : Ex ρ H ρ1 H1) (h : Post K ρ H r R) : Post K ρ1 H1 r R := by
 cases r with
 | ok a st => exact fun ρ' H' y s => h ρ' H' (x.trans y) s
 | exc _ _ => exact h
 | bad => exact h
theorem Post.imp {α : Type} {r : Rs α} {R R' : α → Sto → List Addr → Hp → Prop} (h : Post K ρ H r R) (f : ∀ a st ρ' H', Ex ρ H ρ' H' → SR K ρ' H' st → R a st ρ' H' → R' a st ρ' H') : Post K ρ H r R' := by
 cases r with
 | ok a st => exact fun ρ' H' y s => f a st ρ' H' y s (h ρ' H' y s)
 | exc _ _ => exact h
 | bad => exact h
theorem Post.bnd {α β : Type} {m : M α} {f : α → M β} {R : β → Sto → List Addr → Hp → Prop} (h : Post K ρ H (bnd m f st) R) : Post K ρ H (m st) fun a st' ρ' H' => Post K ρ' H' (f a st') R := by
 unfold MM.bnd at h
 cases e : m st with
 | ok a s' =>
  rw [e] at h
  exact fun ρ' H' y s => h.left y
 | exc _ _ => rw [e] at h; exact h
 | bad => rw [e] at h; exact h
theorem Post.ret {α : Type} {a : α} {R : α → Sto → List Addr → Hp → Prop} (h : Post K ρ H (MM.ret a st) R) (s : SR K ρ H st) : R a st ρ H := h ρ H Ex.refl s
theorem Post.chk {α : Type} {c : Prop} [Decidable c] {m : M α} {R : α → Sto → List Addr → Hp → Prop} (h : Post K ρ H (MM.chk c m st) R) : c ∧ Post K ρ H (m st) R := by
 unfold MM.chk at h
 by_cases hc : c
 ·rw [if_pos hc] at h; exact ⟨hc, h⟩
 ·rw [if_neg hc] at h; exact h.elim
theorem Post.getL {n : Nat} {R : List D → Sto → List Addr → Hp → Prop} (h : Post K ρ H (MM.getL n st) R) (s : SR K ρ H st) : ∃ xs, st[n]? = some (.lst xs) ∧ R xs st ρ H := by
 cases e : MM.getL n st with
 | ok xs s' =>
  obtain ⟨rfl, q⟩ := QcC e
  rw [e] at h
  exact ⟨xs, q, h ρ H Ex.refl s⟩
 | exc _ _ => rw [e] at h; exact h.elim
 | bad => rw [e] at h; exact h.elim
noncomputable def tOf (K : PySem.W.Frag) (f : CE) : TE := fun σ H Q => ∃ ρ l st, LR K ρ H σ l ∧ SR K ρ H st ∧ Post K ρ H (f l st) fun d _ ρ' H' => ∀ v, Rep K ρ' H' v d → Q v H'
noncomputable def ttOf (K : PySem.W.Frag) (f : CT) : TT := fun σ H Q => ∃ ρ l st, LR K ρ H σ l ∧ SR K ρ H st ∧ Post K ρ H (f l st) fun b _ _ H' => Q b H'
noncomputable def taOf (K : PySem.W.Frag) (f : CA) : TA := fun σ H Q => ∃ ρ l st, LR K ρ H σ l ∧ SR K ρ H st ∧ Post K ρ H (f l st) fun ds _ ρ' H' => ∀ vs, Reps K ρ' H' vs ds → Q vs H'
noncomputable def tlOf (K : PySem.W.Frag) (f : CA) : TE := fun σ H Q => ∃ ρ l st, LR K ρ H σ l ∧ SR K ρ H st ∧ Post K ρ H (f l st) fun ds _ ρ' H' => ∀ a vs, H a = none → a ∉ ρ' → H' a = some (.lst vs) → Reps K ρ' H' vs ds → Q (.ref a) H'
noncomputable def tsOf (K : PySem.W.Frag) (c : CS) : TS := fun G σ H => ∃ ρ l st, LR K ρ H σ l ∧ SR K ρ H st ∧ Post K ρ H (c l st) fun f _ ρ' H' => match f with
 | .next l' => ∀ σ', LR K ρ' H' σ' l' → G.nx σ' H'
 | .ret d => ∀ v, Rep K ρ' H' v d → G.rt v H'
 | .brk l' => ∀ σ', LR K ρ' H' σ' l' → G.bk σ' H'
 | .cnt l' => ∀ σ', LR K ρ' H' σ' l' → G.ct σ' H'
noncomputable def tgOf (K : PySem.W.Frag) (g : CG) : TG := fun v σ H Q => ∃ ρ l st d, LR K ρ H σ l ∧ SR K ρ H st ∧ Rep K ρ H v d ∧ Post K ρ H (g d l st) fun l' _ ρ' H' => ∀ σ', LR K ρ' H' σ' l' → Q σ' H'
noncomputable def rOf (K : PySem.W.Frag) (g : D → D → M D) : R2 := fun x y H Q => ∃ ρ st d e, SR K ρ H st ∧ Rep K ρ H x d ∧ Rep K ρ H y e ∧ Post K ρ H (g d e st) fun r _ ρ' H' => ∀ v, Rep K ρ' H' v r → Q v H'
noncomputable def uOf (K : PySem.W.Frag) (g : D → M D) : V → Hp → VK → Prop := fun x H Q => ∃ ρ st d, SR K ρ H st ∧ Rep K ρ H x d ∧ Post K ρ H (g d st) fun r _ ρ' H' => ∀ v, Rep K ρ' H' v r → Q v H'
noncomputable def kOf (K : PySem.W.Frag) (g : List D → M D) : List V → Hp → VK → Prop := fun xs H Q => ∃ ρ st ds, SR K ρ H st ∧ Reps K ρ H xs ds ∧ Post K ρ H (g ds st) fun r _ ρ' H' => ∀ v, Rep K ρ' H' v r → Q v H'
noncomputable def spOf (K : PySem.W.Frag) (n : Nat) (g : List D → M D) : Sp := fun vs H Q _ => vs.length = n ∧ kOf K g vs H Q
end
section
variable {X : Cx} {a b c : Expr} {pos : Pos}
abbrev SE (X : Cx) (e : Expr) (f : CE) : Prop := PE X e (tOf X.K f)
abbrev SL (X : Cx) (e : Expr) (f : CA) : Prop := PE X e (tlOf X.K f)
abbrev ST (X : Cx) (e : Expr) (f : CT) : Prop := PT X e (ttOf X.K f)
abbrev SA (X : Cx) (es : List Expr) (f : CA) : Prop := PA X es (taOf X.K f)
abbrev SS (X : Cx) (s : Stmt) (f : CS) : Prop := PS X s (tsOf X.K f)
abbrev SSs (X : Cx) (s : List Stmt) (f : CS) : Prop := PSs X s (tsOf X.K f)
theorem _root_.L2.PE.of {e : Expr} {t t' : TE} (h : PE X e t) (f : ∀ σ H Q, t' σ H Q → t σ H Q) : PE X e t' := fun pins s σ H Q I q => h pins s σ H Q I (f σ H Q q)
theorem _root_.L2.PT.of {e : Expr} {t t' : TT} (h : PT X e t) (f : ∀ σ H Q, t' σ H Q → t σ H Q) : PT X e t' := fun pins s σ H Q I q => h pins s σ H Q I (f σ H Q q)
theorem _root_.L2.PA.of {e : List Expr} {t t' : TA} (h : PA X e t) (f : ∀ σ H Q, t' σ H Q → t σ H Q) : PA X e t' := fun pos pins s σ H Q I q => h pos pins s σ H Q I (f σ H Q q)
theorem _root_.L2.PS.of {e : Stmt} {t t' : TS} (h : PS X e t) (f : ∀ D σ H, t' D σ H → t D σ H) : PS X e t' := fun pins s σ H D I q => h pins s σ H D I (f D σ H q)
theorem _root_.L2.PSs.of {e : List Stmt} {t t' : TS} (h : PSs X e t) (f : ∀ D σ H, t' D σ H → t D σ H) : PSs X e t' := fun pins s σ H D I q => h pins s σ H D I (f D σ H q)
theorem _root_.L2.PG.of {e : Expr} {t t' : TG} (h : PG X e t) (f : ∀ v σ H Q, t' v σ H Q → t v σ H Q) : PG X e t' := fun pins s σ H v u Q I r q => h pins s σ H v u Q I r (f v σ H Q q)
theorem _root_.L2.PGs.of {e : List Expr} {t t' : TGs} (h : PGs X e t) (f : ∀ v σ H Q, t' v σ H Q → t v σ H Q) : PGs X e t' := fun pins s σ H v u Q I r q => h pins s σ H v u Q I r (f v σ H Q q)
theorem _root_.L2.OpR.of {f : Value → Value → Sem Value} {r r' : R2} (h : OpR X f r) (g : ∀ x y H Q, r' x y H Q → r x y H Q) : OpR X f r' := fun pins s σ H x y v u Q I rx ry q => h pins s σ H x y v u Q I rx ry (g x y H Q q)
theorem _root_.L2.CallR.of {f : Value} {r r' : List V → Hp → VK → Prop} (h : CallR X f r) (g : ∀ x H Q, r' x H Q → r x H Q) : CallR X f r' := fun pins s σ H x u Q I rx q => h pins s σ H x u Q I rx (g x H Q q)
variable {fa fb fc : CE}
theorem QcD (i : Nat) {x : Str} (h : PE X (.Name x pos) (tVar i)) : SE X (.Name x pos) (cVar i) := h.of fun σ H Q pq37 => by
 obtain ⟨ρ, l, st, lr, sr, p⟩ := pq37
 unfold cVar at p
 cases e : l[i]? with
 | none => rw [e] at p; exact p.elim
 | some o =>
  rw [e] at p
  cases o with
  | none => exact p.elim
  | some d =>
   obtain ⟨v, e1, r⟩ := lr.2 i d e
   exact ⟨v, e1, p.ret sr v r⟩
theorem QcE {i : Int} {j : Nat} : SE X (.Constant (.int i) j pos) (cCon (.int i)) := (Qat (i := i) (j := j) (pos := pos)).of fun σ H Q pq38 => by obtain ⟨ρ, l, st, lr, sr, p⟩ := pq38; exact p.ret sr _ (.int i)
theorem QcF {i : Bool} {j : Nat} : SE X (.Constant (.bool i) j pos) (cCon (.bl i)) := (Qau (b := i) (j := j) (pos := pos)).of fun σ H Q pq39 => by obtain ⟨ρ, l, st, lr, sr, p⟩ := pq39; exact p.ret sr _ (.bl i)
theorem QcG {i : Str} {j : Nat} : SE X (.Constant (.str i) j pos) (cCon (.str i)) := (Qav (x := i) (j := j) (pos := pos)).of fun σ H Q pq40 => by obtain ⟨ρ, l, st, lr, sr, p⟩ := pq40; exact p.ret sr _ (.str i)
theorem QcH {g : D → D → M D} {r : R2} (hr : ∀ x y H Q, rOf X.K g x y H Q → r x y H Q) : ∀ σ H Q, tOf X.K (c2 g fa fb) σ H Q → tOp r (tOf X.K fa) (tOf X.K fb) σ H Q := fun σ H Q pq41 =>
 by obtain ⟨ρ, l, st, lr, sr, p⟩ := pq41; exact ⟨ρ, l, st, lr, sr, p.bnd.imp fun d st1 ρ1 H1 x1 s1 p1 v rv => ⟨ρ1, l, st1, lr.mono x1, s1, p1.bnd.imp fun e st2 ρ2 H2 x2 s2 p2 u ru => hr _ _ _ _ ⟨ρ2, st2, d, e, s2, rv.mono x2, ru, p2⟩⟩⟩
theorem QcI {op : Operator} {g : D → D → M D} (ho : OpR X (binaryOp op) (rOf X.K g)) (ha : SE X a fa) (hb : SE X b fb) : SE X (.BinOp a op b pos) (c2 g fa fb) :=
 (QaY ho ha hb).of (QcH fun _ _ _ _ h => h)
theorem QcJ {op : CmpOp} {g : D → D → M D} (ho : OpR X (compareOp op) (rOf X.K g)) (ha : SE X a fa) (hb : SE X b fb) (hm : behindInMarks op b = false) : SE X (.Compare a [op] [b] pos) (c2 g fa fb) :=
 (Qa8 ho ha hb hm).of (QcH fun _ _ _ _ h => h)
end
theorem _root_.Exists.el {α β γ : Type} {A B C : α → β → γ → Prop} {G : Prop} (h : ∃ a b c, A a b c ∧ B a b c ∧ C a b c) (k : ∀ a b c, A a b c → B a b c → C a b c → G) : G := by
 obtain ⟨ρ, l, st, a, b, c⟩ := h; exact k ρ l st a b c
theorem tOf.el {K : PySem.W.Frag} {f : CE} {σ : St} {H : Hp} {Q : VK} {C : Prop} (h : tOf K f σ H Q) (k : ∀ ρ l st, LR K ρ H σ l → SR K ρ H st → Post K ρ H (f l st) (fun d _ ρ' H' => ∀ v, Rep K ρ' H' v d → Q v H') → C) : C := by
 obtain ⟨ρ, l, st, a, b, c⟩ := h; exact k ρ l st a b c
theorem ttOf.el {K : PySem.W.Frag} {f : CT} {σ : St} {H : Hp} {Q : Bool → Hp → Prop} {C : Prop} (h : ttOf K f σ H Q) (k : ∀ ρ l st, LR K ρ H σ l → SR K ρ H st → Post K ρ H (f l st) (fun b _ _ H' => Q b H') → C) : C := by
 obtain ⟨ρ, l, st, a, b, c⟩ := h; exact k ρ l st a b c
theorem tsOf.el {K : PySem.W.Frag} {c : CS} {σ : St} {H : Hp} {G : Ends} {C : Prop} (h : tsOf K c G σ H) (k : ∀ ρ l st, LR K ρ H σ l → SR K ρ H st → Post K ρ H (c l st) (fun f _ ρ' H' => match f with
 | .next l' => ∀ σ', LR K ρ' H' σ' l' → G.nx σ' H'
 | .ret d => ∀ v, Rep K ρ' H' v d → G.rt v H'
 | .brk l' => ∀ σ', LR K ρ' H' σ' l' → G.bk σ' H'
 | .cnt l' => ∀ σ', LR K ρ' H' σ' l' → G.ct σ' H') → C) : C := by
 obtain ⟨ρ, l, st, a, b, c⟩ := h; exact k ρ l st a b c
end MM
namespace MM
open PySem PySem.Spec PyProof.Rows L2
theorem QcK : ∀ (a b : List Int), eqKs (a.map .int) (b.map .int) = decide (a = b)
 | [], [] => by simp [eqKs]
 | [], _ :: _ => by simp [eqKs]
 | _ :: _, [] => by simp [eqKs]
 | x :: xs, y :: ys => by
  rw [List.map_cons, List.map_cons]
  show (eqK (.int x) (.int y) && eqKs _ _) = _
  rw [QcK xs ys]
  show (decide (x = y) && _) = _
  simp [Bool.decide_and]
theorem QcL : ∀ (a b : List (List Int)), eqKs (a.map rowD) (b.map rowD) = decide (a = b)
 | [], [] => by simp [eqKs]
 | [], _ :: _ => by simp [eqKs]
 | _ :: _, [] => by simp [eqKs]
 | x :: xs, y :: ys => by
  rw [List.map_cons, List.map_cons]
  show (eqK (rowD x) (rowD y) && eqKs _ _) = _
  rw [QcL xs ys]
  show (eqKs (x.map .int) (y.map .int) && _) = _
  rw [QcK]
  simp [Bool.decide_and]
theorem QcM (a b : NK) : eqK (stD a) (stD b) = decide (a = b) := QcL a b
theorem QcN (a b : Key) : eqK (keyD a) (keyD b) = decide (a = b) := by
 cases a <;> cases b <;> simp [keyD, eqK]
theorem QcO : ∀ {ds : List D} {r : List Int}, intsK ds = some r → ds = r.map .int
 | [], r, h => by simp [intsK] at h; subst h; rfl
 | d :: ds, r, h => by
  cases d with
  | int i =>
   unfold intsK at h
   cases e : intsK ds with
   | none => rw [e] at h; cases h
   | some q =>
    rw [e] at h
    cases h
    rw [List.map_cons, QcO e]
  | _ => cases h
theorem QcP : ∀ {ds : List D} {r : NK}, rowsK ds = some r → ds = r.map rowD
 | [], r, h => by simp [rowsK] at h; subst h; rfl
 | d :: ds, r, h => by
  cases d with
  | tup xs =>
   unfold rowsK at h
   cases e : intsK xs with
   | none => rw [e] at h; cases h
   | some q =>
    cases e2 : rowsK ds with
    | none => rw [e, e2] at h; cases h
    | some q2 =>
     rw [e, e2] at h
     cases h
     rw [List.map_cons, ← QcP e2]
     show _ = D.tup (q.map .int) :: ds
     rw [← QcO e]
  | _ => cases h
theorem QcQ {d : D} {r : NK} (h : stK d = some r) : d = stD r := by
 cases d with
 | tup ds => show D.tup ds = D.tup _; rw [QcP h]
 | _ => cases h
theorem QcR {d : D} (h : kOk true d = true) : ∃ k, d = stD k := by
 cases e : stK d with
 | none =>
  have : kOk true d = (stK d).isSome := by cases d <;> rfl
  rw [this, e] at h; cases h
 | some k => exact ⟨k, QcQ e⟩
theorem QcS {d : D} (h : kOk false d = true) : ∃ k, d = keyD k := by
 cases d with
 | int i => exact ⟨.inl i, rfl⟩
 | str x => exact ⟨.inr x, rfl⟩
 | _ => cases h
section
variable {X : Cx} {K : PySem.W.Frag} {ρ : List Addr} {H : Hp} {st : Sto} {pins : List (Addr × Obj)} {σ : St} {s : Shared} {a b : Addr}
theorem QcT {k : Key} {v : V} (r : Rep K ρ H v (keyD k)) : v = kV k := by
 cases k with
 | inl i => cases r; rfl
 | inr x => cases r; rfl
noncomputable abbrev KR (K : PySem.W.Frag) (ρ : List Addr) (H : Hp) : List (Key × V) → List (D × D) → Prop := Paired fun (p : Key × V) (q : D × D) => keyD p.1 = q.1 ∧ Rep K ρ H p.2 q.2
noncomputable def RO (K : PySem.W.Frag) (ρ : List Addr) (H : Hp) : Option V → Option D → Prop
 | some v, some d => Rep K ρ H v d
 | none, none => True
 | _, _ => False
theorem RO.some_of {o : Option V} {d : D} (h : RO K ρ H o (some d)) : ∃ v, o = some v ∧ Rep K ρ H v d := by
 cases o with
 | none => exact h.elim
 | some v => exact ⟨v, rfl, h⟩
theorem RO.isSome_eq {o : Option V} {d : Option D} (h : RO K ρ H o d) : o.isSome = d.isSome := by
 cases o <;> cases d <;> first | rfl | exact h.elim
theorem KR.val {es : List (Key × V)} {kvs : List (D × D)} (r : KR K ρ H es kvs) (k : Key) : RO K ρ H (valV es k) (lkK kvs (keyD k)) := by
 induction r with
 | nil => exact True.intro
 | @cons p q ps qs h t ih =>
  obtain ⟨h1, h2⟩ := h
  unfold lkK
  rw [List.find?_cons, ← h1, QcN]
  by_cases e : p.1 = k
  ·rw [Qb8 e, decide_eq_true e]; exact h2
  ·rw [Qb9 e, decide_eq_false e]; exact ih
theorem KR.any {es : List (Key × V)} {kvs : List (D × D)} (r : KR K ρ H es kvs) (k : Key) : (es.any fun kv => decide (kv.1 = k)) = kvs.any fun p => eqK p.1 (keyD k) := by
 induction r with
 | nil => rfl
 | @cons p q ps qs h t ih => rw [List.any_cons, List.any_cons, ih, ← h.1, QcN]
theorem KR.put {es : List (Key × V)} {kvs : List (D × D)} (r : KR K ρ H es kvs) (k : Key) {v : V} {d : D} (rv : Rep K ρ H v d) : KR K ρ H (L2.putK es k v) (ptK kvs (keyD k) d) := by
 unfold L2.putK ptK
 rw [r.any k]
 by_cases e : (kvs.any fun p => eqK p.1 (keyD k)) = true
 ·rw [if_pos e, if_pos e]
  clear e
  induction r with
  | nil => exact .nil
  | @cons p q ps qs h t ih =>
   rw [List.map_cons, List.map_cons]
   refine .cons ?_ ih
   rw [← h.1, QcN]
   by_cases e : p.1 = k
   ·rw [if_pos e, if_pos (decide_eq_true e)]; exact ⟨rfl, rv⟩
   ·rw [if_neg e, if_neg (by rw [decide_eq_false e]; exact Bool.false_ne_true)]; exact h
 ·rw [if_neg e, if_neg e]
  exact Paired.snoc r ⟨rfl, rv⟩
theorem KR.up {ρ1 : List Addr} {H1 : Hp} (x : Up ρ H ρ1 H1) {es : List (Key × V)} {kvs : List (D × D)} (r : KR K ρ H es kvs) : KR K ρ1 H1 es kvs := Paired.mapS r fun _ _ z => ⟨z.1, z.2.up x⟩
theorem KR.length {es : List (Key × V)} {kvs : List (D × D)} (r : KR K ρ H es kvs) : es.length = kvs.length := Paired.length r
noncomputable abbrev NR (K : PySem.W.Frag) (ρ : List Addr) (H : Hp) : List (NK × Addr × V) → List (D × D) → Prop := Paired fun (p : NK × Addr × V) (q : D × D) => stD p.1 = q.1 ∧ Rep K ρ H (.ref p.2.1) q.1 ∧ Rep K ρ H p.2.2 q.2
noncomputable abbrev NX : List (NK × Addr × V) → List (NK × Addr × Value) → Prop := Paired fun (p : NK × Addr × V) (q : NK × Addr × Value) => p.1 = q.1 ∧ p.2.1 = q.2.1 ∧ RelV p.2.2 q.2.2
noncomputable abbrev nkd (X : Cx) : HeapKind X.prog X.w NK := nestKind (intKind X.prog X.w)
theorem QcU {P : Program} {w : World} : ∀ {r : List Int} {vs : List V} {us : List Value}, Reps K ρ H vs (r.map .int) → Vals vs us → ItemsAre (intKind P w) r us
 | [], _, _, h, g => by cases h; cases g; exact .nil
 | i :: r, _, _, h, g => by
  cases h with
  | cons h1 ht =>
   cases h1
   cases g with
   | cons g1 gt =>
    obtain ⟨t, e⟩ := g1
    subst e
    exact .cons (by show Value.isInt i (Value.int i t) = true; simp [Value.isInt]) (QcU ht gt)
theorem QcV {r : List Int} {v : V} {u : Value} (I : Inv X pins σ H s) (h : Rep X.K ρ H v (rowD r)) (g : RelV v u) : ∃ b, u = .ref b ∧ IsTupleKey (intKind X.prog X.w) s.heap r b := by
 cases h with
 | @tup b vs ds h q =>
  have e : u = Value.ref b := g
  subst e
  obtain ⟨its, rv, ⟨o, h1, h2, n, h3⟩, _⟩ := I.tuple h
  exact ⟨b, rfl, o, its.toArray, n, h1, h2, h3, by simpa using QcU q rv⟩
theorem QcW (I : Inv X pins σ H s) : ∀ {k : NK} {vs : List V} {us : List Value}, Reps X.K ρ H vs (k.map rowD) → Vals vs us → TIts (intKind X.prog X.w) s.heap k us
 | [], _, _, h, g => by cases h; cases g; exact .nil
 | r :: k, _, _, h, g => by
  cases h with
  | cons h1 ht =>
   cases g with
   | cons g1 gt =>
    obtain ⟨b, e, hb⟩ := QcV I h1 g1
    subst e
    exact .cons hb (QcW I ht gt)
theorem QcX {k : NK} {v : V} {u : Value} (I : Inv X pins σ H s) (h : Rep X.K ρ H v (stD k)) (g : RelV v u) : ∃ b, v = .ref b ∧ u = .ref b ∧ (nkd X).is s.heap k b := by
 cases h with
 | @tup b vs ds h q =>
  have e : u = Value.ref b := g
  subst e
  obtain ⟨its, rv, ⟨o, h1, h2, n, h3⟩, _⟩ := I.tuple h
  exact ⟨b, rfl, rfl, o, its.toArray, n, h1, h2, h3, by simpa using QcW I q rv⟩
theorem QcY {es : List (NK × Addr × V)} {kvs : List (D × D)} (I : Inv X pins σ H s) (e : H a = some (nstO a es)) (r : NR X.K ρ H es kvs) :
  es.length ≤ sizeLine ∧ (a == sysModules) = false ∧ ∃ xs, NX es xs ∧ s.heap.DictOfH (nkd X) a xs := by
 obtain ⟨⟨z, y, xs, rx, o, es', ep, h1, h2, h3, h4, h5⟩, w1, w2⟩ := (show ObjOk X.prog X.w H s.heap a (nstO a es) from I.hok a _ e)
 refine ⟨z, y, xs, rx, o, es', ep, h1, h2, h3, h4, ?_, h5⟩
 clear h1 h2 h3 h4 h5 e z y w1 w2
 induction rx generalizing kvs with
 | nil => intro x hx; exact nomatch hx
 | @cons p q ps qs h t ih =>
  cases r with
  | cons g gt =>
   intro x hx
   rcases List.mem_cons.mp hx with e | hx
   ·subst e
    obtain ⟨b, e1, _, hb⟩ := QcX I (by rw [g.1]; exact g.2.1) (show RelV (.ref p.2.1) (.ref p.2.1) from rfl)
    cases e1
    rw [← h.1, ← h.2.1]
    exact hb
   ·exact ih gt x hx
theorem QcZ {H' : Hp} {h' : Heap} {P : Program} {w : World} {es : List (NK × Addr × V)} {xs : List (NK × Addr × Value)} (z : es.length ≤ sizeLine) (y : (a == sysModules) = false) (r : NX es xs) (dd : h'.DictOfH (nestKind (intKind P w)) a xs) :
  ObjOk P w H' h' a (nstO a es) := by
 obtain ⟨o, es', ep, h1, h2, h3, h4, _, h5⟩ := dd
 refine ⟨⟨z, y, xs, r, o, es', ep, h1, h2, h3, h4, h5⟩, ⟨o, h1⟩, ?_⟩
 rintro g1 g2 ⟨z, y, xs, r, o, es', ep, h1, h2⟩ k
 exact ⟨z, y, xs, r, o, es', ep, k o h1, h2⟩
noncomputable def valN (es : List (NK × Addr × V)) (k : NK) : Option V := (es.find? fun p => decide (p.1 = k)).map (·.2.2)
noncomputable def putN (es : List (NK × Addr × V)) (k : NK) (b : Addr) (v : V) : List (NK × Addr × V) := if (es.any fun p => decide (p.1 = k)) = true then es.map (fun p => if p.1 = k then (p.1, p.2.1, v) else p) else es ++ [(k, b, v)]
theorem NR.val {es : List (NK × Addr × V)} {kvs : List (D × D)} (r : NR K ρ H es kvs) (k : NK) : RO K ρ H (valN es k) (lkK kvs (stD k)) := by
 induction r with
 | nil => exact True.intro
 | @cons p q ps qs h t ih =>
  obtain ⟨h1, _, h2⟩ := h
  unfold lkK valN
  rw [List.find?_cons, List.find?_cons, ← h1, QcM]
  by_cases e : p.1 = k
  ·rw [decide_eq_true e]; exact h2
  ·rw [decide_eq_false e]; exact ih
theorem NX.val {es : List (NK × Addr × V)} {xs : List (NK × Addr × Value)} (r : NX es xs) (k : NK) : RelO (valN es k) ((atKey xs k).map (·.2)) := by
 induction r with
 | nil => exact True.intro
 | @cons p q ps qs h t ih =>
  obtain ⟨h1, _, h2⟩ := h
  unfold atKey valN
  rw [List.find?_cons, List.find?_cons, ← h1]
  by_cases e : p.1 = k
  ·rw [decide_eq_true e]; exact h2
  ·rw [decide_eq_false e]; exact ih
theorem NX.put {es : List (NK × Addr × V)} {xs : List (NK × Addr × Value)} (r : NX es xs) (k : NK) (b : Addr) {v : V} {u : Value} (rv : RelV v u) : NX (putN es k b v) (storedH xs k b u) := by
 have e : (es.any fun p => decide (p.1 = k)) = (atKey xs k).isSome := by
  clear rv
  induction r with
  | nil => rfl
  | @cons p q ps qs h t ih =>
   rw [List.any_cons, ih]
   unfold atKey
   rw [List.find?_cons, ← h.1]
   by_cases e : p.1 = k
   ·rw [decide_eq_true e]; rfl
   ·rw [decide_eq_false e]; rfl
 unfold putN storedH
 rw [e]
 by_cases q : (atKey xs k).isSome = true
 ·rw [if_pos q, if_pos q]
  clear q e
  induction r with
  | nil => exact .nil
  | @cons p q ps qs h t ih =>
   rw [List.map_cons, List.map_cons]
   refine .cons ?_ ih
   unfold putAt
   by_cases e : p.1 = k
   ·rw [if_pos e, if_pos (h.1.symm.trans e)]; exact ⟨h.1, h.2.1, rv⟩
   ·rw [if_neg e, if_neg (fun z => e (h.1.trans z))]; exact h
 ·rw [if_neg q, if_neg q]; exact Paired.snoc r ⟨rfl, rfl, rv⟩
theorem NR.put {es : List (NK × Addr × V)} {kvs : List (D × D)} (r : NR K ρ H es kvs) (k : NK) (b : Addr) {v : V} {d : D} (rk : Rep K ρ H (.ref b) (stD k)) (rv : Rep K ρ H v d) : NR K ρ H (putN es k b v) (ptK kvs (stD k) d) := by
 have e : (es.any fun p => decide (p.1 = k)) = kvs.any fun p => eqK p.1 (stD k) := by
  clear rk rv
  induction r with
  | nil => rfl
  | @cons p q ps qs h t ih => rw [List.any_cons, List.any_cons, ih, ← h.1, QcM]
 unfold putN ptK
 rw [e]
 clear e
 by_cases e : (kvs.any fun p => eqK p.1 (stD k)) = true
 ·rw [if_pos e, if_pos e]
  clear e
  induction r with
  | nil => exact .nil
  | @cons p q ps qs h t ih =>
   rw [List.map_cons, List.map_cons]
   refine .cons ?_ ih
   by_cases e : p.1 = k
   ·have z : eqK q.1 (stD k) = true := by rw [← h.1, QcM]; exact decide_eq_true e
    rw [if_pos e, if_pos z]; exact ⟨h.1, h.2.1, rv⟩
   ·have z : ¬ eqK q.1 (stD k) = true := by rw [← h.1, QcM, decide_eq_false e]; exact Bool.false_ne_true
    rw [if_neg e, if_neg z]; exact h
 ·rw [if_neg e, if_neg e]
  exact Paired.snoc r ⟨rfl, rk, rv⟩
theorem NR.up {ρ1 : List Addr} {H1 : Hp} (x : Up ρ H ρ1 H1) {es : List (NK × Addr × V)} {kvs : List (D × D)} (r : NR K ρ H es kvs) : NR K ρ1 H1 es kvs := Paired.mapS r fun _ _ z => ⟨z.1, z.2.1.up x, z.2.2.up x⟩
theorem NR.length {es : List (NK × Addr × V)} {kvs : List (D × D)} (r : NR K ρ H es kvs) : es.length = kvs.length := Paired.length r
theorem Qc0 (es : List (NK × Addr × V)) (k : NK) (b : Addr) (v : V) : (putN es k b v).length ≤ es.length + 1 := by
 unfold putN
 split
 ·rw [List.length_map]; ac_nf
 ·rw [List.length_append, List.length_cons, List.length_nil]; ac_nf
theorem Qc1 {n : Nat} {p : Bool × List (D × D)} {s' : Sto} (h : getDc n st = .ok p s') : s' = st ∧ st[n]? = some (.dct p.1 p.2) := by
 unfold getDc at h
 cases e : st[n]? with
 | none => rw [e] at h; cases h
 | some o =>
  rw [e] at h
  cases o with
  | lst ds => cases h
  | dct b kvs => cases h; exact ⟨rfl, rfl⟩
theorem Post.getDc {n : Nat} {R : Bool × List (D × D) → Sto → List Addr → Hp → Prop} (h : Post K ρ H (MM.getDc n st) R) (s : SR K ρ H st) : ∃ b kvs, st[n]? = some (.dct b kvs) ∧ R (b, kvs) st ρ H := by
 cases e : MM.getDc n st with
 | ok xs s' =>
  obtain ⟨rfl, q⟩ := Qc1 e
  rw [e] at h
  exact ⟨xs.1, xs.2, q, h ρ H Ex.refl s⟩
 | exc _ _ => rw [e] at h; exact h.elim
 | bad => rw [e] at h; exact h.elim
theorem Qc2 {b : Bool} {kvs : List (D × D)} {k d : D} {y : V} {u : Value} {Q : Value → Shared → Prop} {E : Value → Shared → Prop} {A : Around} (hu : A.units + 2 < cLine) (I : Inv X pins σ H s) (g : ObR X.K ρ H a (.dct b kvs)) (rk : Rep X.K ρ H y k) (hk : kOk b k = true) (hl : lkK kvs k = some d) (ry : RelV y u)
  (h : ∀ v w' s', Inv X pins σ H s' → Rep X.K ρ H v d → RelV v w' → Q w' s') : wpAny (model X.prog X.w) A (getItem (.ref a) u) Q E s := by
 cases b with
 | false =>
  obtain ⟨es, e, r⟩ := g
  obtain ⟨k, rfl⟩ := QcS hk
  cases QcT rk
  have q := KR.val r k
  rw [hl] at q
  obtain ⟨v, e1, rv⟩ := q.some_of
  exact Qck (by ac_nf) I (by have := DGet.k (k := k) e; rw [e1] at this; exact this) ry fun w' s' I' rw' => h v w' s' I' rv rw'
 | true =>
  obtain ⟨es, e, r⟩ := g
  obtain ⟨k, rfl⟩ := QcR hk
  have q := NR.val r k
  rw [hl] at q
  obtain ⟨v, e1, rv⟩ := q.some_of
  obtain ⟨_, hd, xs, rx, dd⟩ := QcY I e r
  obtain ⟨c, e2, e3, hc⟩ := QcX I rk ry
  subst e3
  obtain ⟨w', hw, rw'⟩ := RelO.some_of (v := v) (o := (atKey xs k).map (·.2)) (by rw [← e1]; exact NX.val rx k)
  obtain ⟨p, hp, hp2⟩ := Option.map_eq_some_iff.mp hw
  refine wpAny_getItem_heap (knd := nkd X) (show A.in1.units + 1 < cLine from hu) hc dd hp ?_
  rw [hp2]
  exact h v w' _ (I.tok _) rv rw'
theorem Qc3 {n : Nat} {b : Bool} {kvs : List (D × D)} {k d : D} {y v : V} {u r' : Value} {Q : Unit → Shared → Prop} {E : Value → Shared → Prop} {A : Around} (hu : A.units + 2 < cLine) (I : Inv X pins σ H s) (sr : SR X.K ρ H st) (ha : ρ[n]? = some a) (hn : st[n]? = some (.dct b kvs))
  (rk : Rep X.K ρ H y k) (hk : kOk b k = true) (hl : kvs.length < sizeLine) (rv : Rep X.K ρ H v d) (ry : RelV y u) (rr : RelV v r')
  (h : ∀ H' s', Inv X pins σ H' s' → SR X.K ρ H' (st.set n (.dct b (ptK kvs k d))) → Ex ρ H ρ H' → Q () s') : wpAny (model X.prog X.w) A (setItem (.ref a) u r') Q E s := by
 have hlt := (List.getElem?_eq_some_iff.mp hn).1
 have g := sr.ob n a _ ha hn
 cases b with
 | false =>
  obtain ⟨es, e, r⟩ := g
  obtain ⟨k, rfl⟩ := QcS hk
  cases QcT rk
  have w := sr.putO (o' := .dct false (ptK kvs (keyD k) d)) (u' := .dK (L2.putK es k v)) hlt ha e (by show (1 : Nat) ≠ 3; decide) rfl ⟨_, Qai, (KR.put r k rv).up ?_⟩
  ·exact Qcn (by ac_nf) I (DPut.k (k := k) e (by rw [KR.length r]; exact hl)) ry rr fun s' I' => h _ s' I' w.1 w.2
  ·refine ⟨⟨[], by simp⟩, fun c o no q => ?_, fun c o q => ?_⟩
   ·rw [Qaj fun z => by subst z; rw [e] at q; cases q; exact nomatch no]; exact q
   ·by_cases z : c = a
    ·subst z; rw [e] at q; cases q; exact ⟨_, Qai, rfl⟩
    ·exact ⟨o, by rw [Qaj z]; exact q, rfl⟩
 | true =>
  obtain ⟨es, e, r⟩ := g
  obtain ⟨k, rfl⟩ := QcR hk
  obtain ⟨_, hd, xs, rx, dd⟩ := QcY I e r
  obtain ⟨c, e2, e3, hc⟩ := QcX I rk ry
  subst e2 e3
  have w := sr.putO (o' := .dct true (ptK kvs (stD k) d)) (u' := nstO a (putN es k c v)) hlt ha e (by show (2 : Nat) ≠ 3; decide) rfl ⟨_, Qai, (NR.put r k c rk rv).up ?_⟩
  ·have hz : xs.length ≤ sizeLine := by
     rw [← Paired.length rx, NR.length r]; ac_nf
   refine wpAny_setItem_heap (knd := nkd X) (hsz := hz) (show A.in1.units + 1 < cLine from hu) hc dd fun h' dd' hs => h _ _ ?_ w.1 w.2
   have he : ∃ q, h'.get? a = some q := let ⟨q, _, _, hq, _⟩ := dd'; ⟨q, hq⟩
   refine Qcl I (by rw [e]; exact True.intro) hs he (QcZ ?_ hd (NX.put rx k c rr) dd')
   have := Qc0 es k c v
   rw [NR.length r] at this
   ac_nf
  ·refine ⟨⟨[], by simp⟩, fun c o no q => ?_, fun c o q => ?_⟩
   ·rw [Qaj fun z => by subst z; rw [e] at q; cases q; exact nomatch no]; exact q
   ·by_cases z : c = a
    ·subst z; rw [e] at q; cases q; exact ⟨_, Qai, rfl⟩
    ·exact ⟨o, by rw [Qaj z]; exact q, rfl⟩
end
end MM
namespace MM
open PySem PySem.Spec PyProof.Rows L2
noncomputable abbrev NoE : Value → Shared → Prop := fun _ _ => False
noncomputable def tests (ifs : List Expr) (env : Env) : Sem Bool := forIn ifs true fun c r => if r = true then do let ok ← isTrue c env (eval c env); pure (ForInStep.yield ok) else pure (ForInStep.yield r)
section
variable {prog : Program} {w : World} {A : Around} {R : Result → Shared → Prop} {s : Shared}
theorem Qc4 {elt target iter : Expr} {ifs : List Expr} {scope : Scope} {pos : Pos} {it acc : Value} {env : Env} (I : Nat → Shared → Prop)
  (turn : ∀ n s, I n s → wpAny (model prog w) A (pyNext it) (fun r s₁ => match r with
   | none => R (.ok .next) s₁
   | some v => wpAny (model prog w) A (letOwnedTupleGo target it v) (fun _ s₁' => wpAny (model prog w) A (assign target env v) (fun _ s₂ =>
     wpAny (model prog w) A (tests ifs env) (fun ok s₃ =>
      if ok = true then wpAny (model prog w) A (eval elt env) (fun x s₄ =>
       wpAny (model prog w) A (call (.builtin "list.append") [acc, x]) (fun _ s₅ => ∃ m, m < n ∧ I m s₅) NoE s₄) NoE s₃
      else ∃ m, m < n ∧ I m s₃) NoE s₂) NoE s₁') NoE s₁) NoE s)
  (n : Nat) (h : I n s) : codeAny (model prog w) A (.compLoop (.ListComp elt [⟨target, iter, ifs, 0⟩] scope pos) 0 it acc env) R s := by
 refine codeAny_loop rfl I (fun n s hI => ?_) n h
 show wpAny _ A ((compTurn (.ListComp elt [⟨target, iter, ifs, 0⟩] scope pos) 0 it acc env).onRaise (fun x => do noteFrame x env; theTreesLotGoes x)) _ _ s
 refine wpAny_noted ?_
 rw [compTurn_list]
 refine wpAny_bind (wpAny_standAt (wpAny_bind (wpAny_mono (turn n s hI) (fun r s₁ h₁ => ?_) fun _ _ h' => h'.elim)))
 cases r with
 | none => exact wpAny_pure h₁
 | some v =>
  refine wpAny_bind (wpAny_mono h₁ (fun _ s₁' h₁' => ?_) fun _ _ h' => h'.elim)
  refine wpAny_bind (wpAny_mono h₁' (fun _ s₂ h₂ => wpAny_bind (wpAny_mono h₂ (fun ok s₃ h₃ => ?_) fun _ _ h' => h'.elim)) fun _ _ h' => h'.elim)
  cases ok with
  | false => exact wpAny_pure ⟨rfl, h₃⟩
  | true =>
   exact wpAny_bind (wpAny_bind (wpAny_mono h₃ (fun x s₄ h₄ => wpAny_bind (wpAny_mono h₄ (fun _ s₅ h₅ => wpAny_pure (wpAny_pure ⟨rfl, h₅⟩)) fun _ _ h' => h'.elim)) fun _ _ h' => h'.elim))
end
noncomputable def clOf : List (Str × NameKind) → List (Str × Addr) → List (Str × Addr) → List (Str × Addr)
 | [], _, acc => acc
 | (n, k) :: r, cells, acc => clOf r cells (if k == .free then (match cells.lookup n with | some c => (n, c) :: acc | none => acc) else acc)
theorem Qc5 {env : Env} : ∀ (names : List (Str × NameKind)) (acc : List (Str × Addr)), (∀ x, (x, NameKind.free) ∈ names → ∃ c, env.cells.lookup x = some c) →
  (forIn names acc fun (x : Str × NameKind) r => if (x.2 == NameKind.free) = true then (do let a ← cellOf env x.1; pure (ForInStep.yield ((x.1, a) :: r)) : Sem _) else pure (ForInStep.yield r)) = (pure (clOf names env.cells acc) : Sem _)
 | [], acc, _ => rfl
 | (n, k) :: r, acc, h => by
  rw [List.forIn_cons]
  by_cases hk : (k == NameKind.free) = true
  ·have e : k = .free := by simpa using hk
   subst e
   obtain ⟨c, hc⟩ := h n List.mem_cons_self
   have q : cellOf env n = pure c := by unfold cellOf; rw [hc]
   simp only [beq_self_eq_true, if_true, q]
   unfold clOf
   simp only [beq_self_eq_true, if_true, hc]
   exact Qc5 r ((n, c) :: acc) fun x hx => h x (List.mem_cons_of_mem _ hx)
  ·simp only [hk, if_false]
   unfold clOf
   simp only [hk, if_false]
   exact Qc5 r acc fun x hx => h x (List.mem_cons_of_mem _ hx)
theorem Qc6 {scope : Scope} {env : Env} (h : ∀ x, (x, NameKind.free) ∈ scope.names → ∃ c, env.cells.lookup x = some c) : closureFor scope env = pure (clOf scope.names env.cells []) := by
 have q := Qc5 (env := env) scope.names [] h
 simp only [closureFor]
 exact congrArg (fun m => m >>= fun cs => pure cs) q
theorem Qc7 {α : Type} {x y : Str} {v : α} {r : List (Str × α)} (h : x ≠ y) : List.lookup x ((y, v) :: r) = r.lookup x := by
 rw [List.lookup_cons]
 have : (x == y) = false := beq_eq_false_iff_ne.mpr h
 rw [this]
theorem lookup_cons_self {α : Type} {x : Str} {v : α} {r : List (Str × α)} : List.lookup x ((x, v) :: r) = some v := by
 rw [List.lookup_cons, beq_self_eq_true]
theorem clOf_of {cells : List (Str × Addr)} {x : Str} {c : Addr} : ∀ (names : List (Str × NameKind)) (acc : List (Str × Addr)), (clOf names cells acc).lookup x = some c → cells.lookup x = some c ∨ acc.lookup x = some c
 | [], acc, h => .inr h
 | (n, k) :: r, acc, h => by
  unfold clOf at h
  rcases clOf_of r _ h with q | q
  ·exact .inl q
  ·split at q
   ·split at q
    ·rename_i c' hc
     by_cases hx : x = n
     ·subst hx
      rw [lookup_cons_self] at q
      cases q
      exact .inl hc
     ·rw [Qc7 hx] at q; exact .inr q
    ·exact .inr q
   ·exact .inr q
theorem Qc8 {cells : List (Str × Addr)} {x : Str} {c : Addr} (hc : cells.lookup x = some c) : ∀ (names : List (Str × NameKind)) (acc : List (Str × Addr)), ((x, NameKind.free) ∈ names ∨ acc.lookup x = some c) → (∀ d, acc.lookup x = some d → d = c) → (clOf names cells acc).lookup x = some c
 | [], acc, h, _ => by
  rcases h with h | h
  ·cases h
  ·exact h
 | (n, k) :: r, acc, h, ha => by
  unfold clOf
  by_cases hx : x = n
  ·subst hx
   by_cases hk : (k == NameKind.free) = true
   ·rw [if_pos hk, hc]
    exact Qc8 hc r _ (.inr lookup_cons_self) fun d hd => by rw [lookup_cons_self] at hd; cases hd; rfl
   ·rw [if_neg hk]
    refine Qc8 hc r _ ?_ ha
    rcases h with h | h
    ·rcases List.mem_cons.mp h with e | e
     ·cases e; exact absurd rfl hk
     ·exact .inl e
    ·exact .inr h
  ·have step : ∀ acc', acc'.lookup x = acc.lookup x → (clOf r cells acc').lookup x = some c := fun acc' e => by
     refine Qc8 hc r acc' ?_ (by rw [e]; exact ha)
     rcases h with h | h
     ·rcases List.mem_cons.mp h with z | z
      ·cases z; exact absurd rfl hx
      ·exact .inl z
     ·exact .inr (by rw [e]; exact h)
   refine step _ ?_
   split
   ·split
    ·exact Qc7 hx
    ·rfl
   ·rfl
theorem cellsFrom_of {x : Str} {c : Addr} : ∀ (names : List (Str × NameKind)) (n : Nat) (acc : List (Str × Addr)), (cellsFrom n names acc).lookup x = some c → n ≤ c ∨ acc.lookup x = some c
 | [], _, _, h => .inr h
 | (y, k) :: r, n, acc, h => by
  unfold cellsFrom at h
  split at h
  ·rcases cellsFrom_of r (n + 1) _ h with q | q
   ·exact .inl (by ac_nf)
   ·by_cases hx : x = y
    ·subst hx; rw [lookup_cons_self] at q; cases q; exact .inl (Nat.le_refl _)
    ·rw [Qc7 hx] at q; exact .inr q
  ·exact cellsFrom_of r n acc h
theorem Qc9 : ∀ (names : List (Str × NameKind)) (n : Nat) (acc : List (Str × Addr)), (∀ x y c, acc.lookup x = some c → acc.lookup y = some c → x = y) → (∀ x c, acc.lookup x = some c → c < n) →
  ∀ x y c, (cellsFrom n names acc).lookup x = some c → (cellsFrom n names acc).lookup y = some c → x = y
 | [], _, _, hi, _ => hi
 | (z, k) :: r, n, acc, hi, hb => by
  unfold cellsFrom
  split
  ·refine Qc9 r (n + 1) _ (fun x y c h1 h2 => ?_) (fun x c h => ?_)
   ·by_cases hx : x = z
    ·subst hx
     rw [lookup_cons_self] at h1; cases h1
     by_cases hy : y = x
     ·exact hy.symm
     ·rw [Qc7 hy] at h2
      exact absurd (hb y _ h2) (Nat.lt_irrefl _)
    ·rw [Qc7 hx] at h1
     by_cases hy : y = z
     ·subst hy
      rw [lookup_cons_self] at h2; cases h2
      exact absurd (hb x _ h1) (Nat.lt_irrefl _)
     ·rw [Qc7 hy] at h2; exact hi x y c h1 h2
   ·by_cases hx : x = z
    ·subst hx; rw [lookup_cons_self] at h; cases h; exact Nat.lt_succ_self _
    ·rw [Qc7 hx] at h; exact Nat.lt_succ_of_lt (hb x c h)
  ·exact Qc9 r n acc hi hb
theorem cellsFrom_cell {x : Str} {c : Addr} : ∀ (names : List (Str × NameKind)) (h : Heap) (acc : List (Str × Addr)), (cellsFrom h.objs.size names acc).lookup x = some c → acc.lookup x = some c ∨ ((pushCells h names).IsCell c none ∧ h.objs.size ≤ c)
 | [], _, _, q => .inl q
 | (y, k) :: r, h, acc, q => by
  unfold cellsFrom at q
  unfold pushCells
  split at q
  ·rename_i hk
   rw [if_pos hk]
   rw [← Heap.size_push h { cls := .type "cell", data := .cell none }] at q
   rcases cellsFrom_cell r _ _ q with z | z
   ·by_cases hx : x = y
    ·subst hx; rw [lookup_cons_self] at z; cases z
     refine .inr ⟨?_, Nat.le_refl _⟩
     refine ⟨{ cls := .type "cell", data := .cell none }, pushCells_keeps r _ _ _ (Heap.get?_push_size _ rfl), rfl⟩
    ·rw [Qc7 hx] at z; exact .inl z
   ·refine .inr ⟨z.1, ?_⟩
    have := z.2
    rw [Heap.size_push] at this
    ac_nf
  ·rename_i hk
   rw [if_neg hk]
   exact cellsFrom_cell r h acc q
theorem Qda {x : Str} : ∀ (names : List (Str × NameKind)) (n : Nat) (acc : List (Str × Addr)), (x, NameKind.cell) ∉ names → (cellsFrom n names acc).lookup x = acc.lookup x
 | [], _, _, _ => rfl
 | (y, k) :: r, n, acc, h => by
  unfold cellsFrom
  split
  ·rename_i hk
   have e : k = .cell := by simpa using hk
   subst e
   have hx : x ≠ y := fun z => h (by rw [z]; exact List.mem_cons_self)
   rw [Qda r (n + 1) _ fun z => h (List.mem_cons_of_mem _ z), Qc7 hx]
  ·exact Qda r n acc fun z => h (List.mem_cons_of_mem _ z)
theorem Qdb {α β : Type} (f : Str → α → β) (x : Str) : ∀ (l : List (Str × α)), (l.map fun p => (p.1, f p.1 p.2)).lookup x = (l.lookup x).map (f x)
 | [] => rfl
 | (y, v) :: r => by
  by_cases hx : x = y
  ·subst hx
   rw [List.map_cons, lookup_cons_self, lookup_cons_self]; rfl
  ·rw [List.map_cons, Qc7 hx, Qc7 hx]; exact Qdb f x r
theorem Qdc (scope : Scope) (env : Env) (x : Str) :
  (relabel scope env).names.lookup x = (scope.names.lookup x).map fun k => if (k == NameKind.free && env.scope.kind == .function && env.kindOf x == some .cell) = true then .cell else k := by
 have e : (relabel scope env).names = scope.names.map fun p => (p.1, (fun (n : Str) k => if (k == NameKind.free && env.scope.kind == .function && env.kindOf n == some .cell) = true then NameKind.cell else k) p.1 p.2) := by
  show scope.names.map _ = _
  congr 1
  funext p
  obtain ⟨n, k⟩ := p
  dsimp only
  split <;> rfl
 rw [e]
 exact Qdb (fun (n : Str) k => if (k == NameKind.free && env.scope.kind == .function && env.kindOf n == some .cell) = true then NameKind.cell else k) x scope.names
theorem Qdd {M : Model} {A : Around} {E : Value → Shared → Prop} {s : Shared} {scope : Scope} {globals : Addr} {cl : List (Str × Addr)} {qual : Str} {env : Env} {Q : Env → Shared → Prop}
  (h : Q { scope := scope, locals := s.heap.objs.size, globals := globals, cells := cellsFrom (s.heap.objs.size + 1) scope.names cl, qual := qual, func := none, code := env.code, frame := env.frame, builtins := env.builtins }
   { s with heap := pushCells (s.heap.push { cls := .type "dict", data := .dict #[] }) scope.names }) : wpAny M A (newFunctionEnv scope globals cl [] qual none .none (some env)) Q E s := by
 simp only [newFunctionEnv, Option.isSome_some, if_true]
 refine wpAny_bind (wpAny_alloc ?_)
 refine wpAny_bind (wpAny_layCells _ (fun name kind cells => by cases hkc : kind == NameKind.cell <;> simp [hkc]) _ _ _ _ ?_)
 rw [show ({ s with heap := s.heap.push { cls := .type "dict", data := .dict #[] } } : Shared).heap.objs.size = s.heap.objs.size + 1 from Heap.size_push ..]
 exact wpAny_bind (wpAny_pure (wpAny_pure h))
noncomputable def cxC (X : Cx) (N : List Str) (scope : Scope) (fp : List Addr) (s : Shared) (H : Hp) : Cx where
 prog := X.prog
 w := X.w
 K := X.K
 mg := X.mg
 base := X.base
 A := X.A
 N := N
 s₀ := s
 H₀ := H
 env := compEnvC scope (cellsFrom (s.heap.objs.size + 1) scope.names (clOf scope.names X.env.cells [])) s.heap.objs.size X.env
 outer := X.stack
 stack := X.stack
 ex := fp
 fn := fun x => decide (scope.names.lookup x = some .local ∨ scope.names.lookup x = some .cell)
 calm := X.calm
 pn := []
 xe := NoE
structure CompScope (X : Cx) (scope : Scope) : Prop where
 kind : scope.kind = .function
 names : ∀ x ∈ scope.names, x.2 = .local → scope.names.lookup x.1 = some .local
 free : ∀ x, (x, NameKind.free) ∈ scope.names → X.env.kindOf x = some .cell ∨ X.env.kindOf x = some .free
 once : ∀ x, (x, NameKind.free) ∈ scope.names → (x, NameKind.cell) ∉ scope.names
 own : ∀ x, (x, NameKind.free) ∈ scope.names → scope.names.lookup x ≠ some .local
noncomputable def capV (n : Nat) (ix : List Nat) (σ : St) : St := List.replicate n none ++ ix.map fun i => (σ[i]?).join
structure CompNames (X : Cx) (scope : Scope) (N : List Str) (n : Nat) (ix : List Nat) : Prop where
 len : N.length = n + ix.length
 cap : ∀ (j i : Nat) (x : Str), ix[j]? = some i → N[n + j]? = some x → X.N[i]? = some x ∧ scope.names.lookup x = some .free
theorem clOf_mem {cells : List (Str × Addr)} {x : Str} {c : Addr} : ∀ (names : List (Str × NameKind)) (acc : List (Str × Addr)), (clOf names cells acc).lookup x = some c → (x, NameKind.free) ∈ names ∨ acc.lookup x = some c
 | [], acc, h => .inr h
 | (n, k) :: r, acc, h => by
  unfold clOf at h
  rcases clOf_mem r _ h with q | q
  ·exact .inl (List.mem_cons_of_mem _ q)
  ·split at q
   ·rename_i hk
    have e : k = .free := by simpa using hk
    subst e
    split at q
    ·by_cases hx : x = n
     ·subst hx; exact .inl List.mem_cons_self
     ·rw [Qc7 hx] at q; exact .inr q
    ·exact .inr q
   ·exact .inr q
theorem Qde {X : Cx} {scope : Scope} {cells : List (Str × Addr)} {x : Str} {c : Addr} (h : (clOf scope.names cells []).lookup x = some c) (hf : scope.names.lookup x = some .local ∨ scope.names.lookup x = some .cell) (S : CompScope X scope) : False := by
 rcases clOf_mem _ _ h with q | q
 ·rcases hf with z | z
  ·exact S.own x q z
  ·exact S.once x q (PySem.mem_of_lookup z)
 ·cases q
section
variable {X : Cx} {pins : List (Addr × Obj)} {σ : St} {H : Hp} {s : Shared} {scope : Scope} {N : List Str} {fp : List Addr}
theorem Qdf (I : Inv X pins σ H s) {x : Str} {c : Addr} (h : (clOf scope.names X.env.cells []).lookup x = some c) : X.env.cells.lookup x = some c ∧ c < s.heap.objs.size ∧ (∃ v, s.heap.IsCell c v) ∧ H c = none := by
 rcases clOf_of _ _ h with q | q
 ·obtain ⟨v, z⟩ := I.cell x c q
  exact ⟨q, z.lt, ⟨v, z⟩, I.freeC x c q⟩
 ·cases q
theorem Qdg (I : Inv X pins σ H s) (S : CompScope X scope) (hfp : ∀ b ∈ fp, FpOk X pins H b) (hlt : ∀ b ∈ fp, b < s.heap.objs.size) : (cxC X N scope fp s H).Ok := by
 have inj : ∀ x y c, (cellsFrom (s.heap.objs.size + 1) scope.names (clOf scope.names X.env.cells [])).lookup x = some c → (cellsFrom (s.heap.objs.size + 1) scope.names (clOf scope.names X.env.cells [])).lookup y = some c → x = y :=
  Qc9 scope.names _ _ (fun x y c h1 h2 => I.ok.inj x y c (Qdf I h1).1 (Qdf I h2).1) fun x c h => Nat.lt_succ_of_lt (Qdf I h).2.1
 refine ⟨I.ok.mod, S.kind, I.ok.glob, I.ok.blt, Nat.le_refl _, inj, fun x hx => ?_, fun x c hf hc => ?_, I.ok.hd, I.ok.frames, .inl rfl, fun b hb => ?_, I.bs, Nat.le_trans I.ok.bsz I.sz, fun b o e hb => ?_, fun b hb z => ?_, I.stack, I.stkFree⟩
 ·have hx' : (relabel scope X.env).names.lookup x = some .cell ∨ (relabel scope X.env).names.lookup x = some .free := hx
  rw [Qdc] at hx'
  cases e : scope.names.lookup x with
  | none => rw [e] at hx'; rcases hx' with z | z <;> cases z
  | some k =>
   refine Option.isSome_iff_exists.mp (PySem.W.cellsFrom_some scope.names _ _ ?_)
   cases k with
   | cell => exact .inl e
   | free =>
    have hm := PySem.mem_of_lookup e
    obtain ⟨c, hc⟩ := I.ok.has x (S.free x hm)
    exact .inr (by rw [Qc8 hc scope.names [] (.inl hm) fun d hd => by cases hd]; rfl)
   | _ =>
    rw [e] at hx'
    rcases hx' with z | z <;> (simp at z)
 ·have hc' : (cellsFrom (s.heap.objs.size + 1) scope.names (clOf scope.names X.env.cells [])).lookup x = some c := hc
  rcases cellsFrom_of _ _ _ hc' with q | q
  ·exact Nat.le_of_succ_le q
  ·exfalso
   have hf' : scope.names.lookup x = some .local ∨ scope.names.lookup x = some .cell := of_decide_eq_true hf
   exact Qde q hf' S
 ·obtain ⟨f0, f1, f2, f3, f4, f5⟩ := hfp b hb
  refine ⟨Nat.ne_of_lt (hlt b hb), fun x c hc z => ?_⟩
  have hc' : (cellsFrom (s.heap.objs.size + 1) scope.names (clOf scope.names X.env.cells [])).lookup x = some c := hc
  rcases cellsFrom_of _ _ _ hc' with q | q
  ·rw [z] at q
   exact absurd (Nat.lt_of_lt_of_le (Nat.lt_succ_of_lt (hlt b hb)) q) (Nat.lt_irrefl _)
  ·exact f4 x c (Qdf I q).1 z
 ·obtain ⟨f0, f1, f2, f3, f4, f5⟩ := hfp b hb
  rcases f3 with z | z
  ·exact I.ok.noex b o e z
  ·exact absurd (Nat.lt_of_lt_of_le (Nat.lt_of_lt_of_le (Heap.lt_size e) I.ok.bsz) z) (Nat.lt_irrefl _)
 ·obtain ⟨f0, f1, f2, f3, f4, f5⟩ := hfp b hb
  rcases List.mem_cons.mp (I.stkSub b z) with q | q
  ·exact f1 q
  ·exact f2 q
noncomputable abbrev heapC (h : Heap) (scope : Scope) : Heap := pushCells (h.push { cls := .type "dict", data := .dict #[] }) scope.names
theorem Qdh (h : Heap) (scope : Scope) : ∀ b o, h.get? b = some o → (heapC h scope).get? b = some o := fun b o e => pushCells_keeps _ _ b o (Heap.get?_push_of_some _ e)
theorem Qdi {n : Nat} {ix : List Nat} (I : Inv X pins σ H s) (S : CompScope X scope) (T : CompNames X scope N n ix) (hfp : ∀ b ∈ fp, FpOk X pins H b) (hlt : ∀ b ∈ fp, b < s.heap.objs.size) :
  Inv (cxC X N scope fp s H) [] (capV n ix σ) H { s with heap := heapC s.heap scope } := by
 have kp := Qdh s.heap scope
 have hns : (heapC s.heap scope).Ns s.heap.objs.size fun _ => none := (Heap.Ns.new s.heap (.type "dict")).keeps (pushCells_keeps _ _)
 have cells : ∀ x c, (cellsFrom (s.heap.objs.size + 1) scope.names (clOf scope.names X.env.cells [])).lookup x = some c →
   (∃ v, (heapC s.heap scope).IsCell c v) ∧ H c = none := fun x c h => by
  have h' : (cellsFrom (s.heap.push { cls := .type "dict", data := .dict #[] }).objs.size scope.names (clOf scope.names X.env.cells [])).lookup x = some c := by rw [Heap.size_push]; exact h
  rcases cellsFrom_cell _ _ _ h' with q | ⟨q, z⟩
  ·obtain ⟨_, _, ⟨v, hv⟩, hn⟩ := Qdf I q
   exact ⟨⟨v, hv.keeps kp⟩, hn⟩
  ·refine ⟨⟨none, q⟩, I.hok.fresh ?_⟩
   rw [Heap.size_push] at z
   ac_nf
 refine ⟨Qdg I S hfp hlt, rfl, I.bare, Un.kept kp, ⟨_, hns, fun i x v h1 h2 h3 => ?_⟩, fun x c h => (cells x c h).1, I.hok.fresh (Nat.le_refl _), fun x c h => (cells x c h).2, fun p hp => absurd (show p ∈ ([] : List (Addr × Obj)) from hp) (by simp), I.hok.kept kp, ?_⟩
 ·have h1' : N[i]? = some x := h1
  have h2' : (List.replicate n none ++ ix.map fun i => (σ[i]?).join)[i]? = some (some v) := h2
  have hi : n ≤ i := Nat.le_of_not_lt fun z => by
   rw [List.getElem?_append_left (by simpa using z), List.getElem?_replicate] at h2'
   split at h2' <;> cases h2'
  rw [List.getElem?_append_right (by simpa using hi), List.length_replicate, List.getElem?_map] at h2'
  cases e : ix[i - n]? with
  | none => rw [e] at h2'; cases h2'
  | some k =>
   rw [e] at h2'
   have hj : (σ[k]?).join = some v := Option.some.inj h2'
   have hk : σ[k]? = some (some v) := by
    cases q : σ[k]? with
    | none => rw [q] at hj; cases hj
    | some o => rw [q] at hj; exact congrArg some hj
   obtain ⟨hN, hfr⟩ := T.cap (i - n) k x e (by rw [show n + (i - n) = i by ac_nf]; exact h1')
   have hm := PySem.mem_of_lookup hfr
   have kx := S.free x hm
   obtain ⟨m, hn, hl⟩ := I.loc
   obtain ⟨u, ru, lk⟩ := hl k x v hN hk (by
    rcases kx with z | z
    ·exact .inr (.inl z)
    ·exact .inr (.inr z))
   have lk2 : ∃ c, X.env.cells.lookup x = some c ∧ s.heap.IsCell c (some u) := by
    rcases lk with ⟨z, _⟩ | ⟨_, c, hc, q⟩
    ·rcases kx with y | y <;> (rw [y] at z; cases z)
    ·exact ⟨c, hc, q⟩
   obtain ⟨c, hc, q⟩ := lk2
   refine ⟨u, ru, .inr ⟨?_, c, ?_, q.keeps kp⟩⟩
   ·show (relabel scope X.env).names.lookup x = some .cell ∨ (relabel scope X.env).names.lookup x = some .free
    rw [Qdc, hfr, Option.map_some]
    by_cases hq : (NameKind.free == NameKind.free && X.env.scope.kind == .function && X.env.kindOf x == some .cell) = true
    ·rw [if_pos hq]; exact .inl rfl
    ·rw [if_neg hq]; exact .inr rfl
   ·show (cellsFrom (s.heap.objs.size + 1) scope.names (clOf scope.names X.env.cells [])).lookup x = some c
    rw [Qda _ _ _ (S.once x hm)]
    exact Qc8 hc scope.names [] (.inl hm) fun d hd => by cases hd
 ·show (List.replicate n none ++ ix.map fun i => (σ[i]?).join).length = N.length
  rw [List.length_append, List.length_replicate, List.length_map, T.len]
noncomputable def tComp (wi : TI) (n : Nat) (ix : List Nat) (g : TG) (tt : TT) (te : TE) : TE := fun σ H Q => wi σ H fun J H1 => ∀ l, H1 l = none → ∃ W : Nat → Nat → St → Hp → Prop, (∃ m, W 0 m (capV n ix σ) (upd H1 l (.lst []))) ∧
 ∀ i m σ' H', W i m σ' H' → (J.stop i H' ∧ Q (.ref l) H') ∨ (J.go i H' ∧ ∀ x H2, J.yld i H' x H2 → g x σ' H2 fun σ2 H3 => tt σ2 H3 fun b H4 =>
  if b = true then te σ2 H4 fun v H5 => ∃ ys, H5 l = some (.lst ys) ∧ ys.length < sizeLine ∧ ∃ m', m' < m ∧ W (i + 1) m' σ2 (upd H5 l (.lst (ys ++ [v]))) else ∃ m', m' < m ∧ W (i + 1) m' σ2 H4)
def PIfs (X : Cx) (ifs : List Expr) (tt : TT) : Prop :=
 ∀ (pins : List (Addr × Obj)) (s : Shared) (σ : St) (H : Hp) (Q : Bool → Hp → Prop), Inv X pins σ H s → tt σ H Q → wpAny (model X.prog X.w) X.A (tests ifs X.env) (TP X pins σ Q) X.xe s
theorem Qdj : PIfs X [] (fun _ H Q => Q true H) := fun pins s σ H Q I h => wpAny_tests_nil ⟨H, I, h⟩
theorem Qdk {c : Expr} {tt : TT} (h : PT X c tt) : PIfs X [c] tt := fun pins s σ H Q I q => wpAny_tests_one (h pins s σ H Q I q)
structure CFree (X : Cx) (pins : List (Addr × Obj)) (C : Addr) (H : Hp) (s : Shared) : Prop where
 ns : ∃ m, s.heap.Ns C m
 free : H C = none
 loc : C ≠ X.env.locals
 cell : ∀ x c, X.env.cells.lookup x = some c → c ≠ C
 sz : X.s₀.heap.objs.size ≤ C
 pin : ∀ p ∈ X.pn ++ pins, p.1 ≠ C
theorem CFree.go {C : Addr} {h' : Heap} (c : CFree X pins C H s) (I : Inv X pins σ H s) (hs : Heap.SameBut C s.heap h') : Inv X pins σ H { s with heap := h' } :=
 I.turned (t' := s.toks) (fun b o hb e => (hs.2 b hb).trans e) c.free c.loc (.inr c.sz) c.cell c.pin
theorem Qdl {elt target iter : Expr} {ifs : List Expr} {pos : Pos} {n : Nat} {ix : List Nat} {wi : TI} {g : TG} {tt : TT} {te : TE} {use : Option (Value → Sem Unit)} {Q : Value → Shared → Prop} {QH : VK}
  (hc : X.calm = true) (S : CompScope X scope) (T : CompNames X scope N n ix) (hi : PI X target iter wi)
  (blk : ∀ (fp : List Addr) (s : Shared) (H : Hp), PG (cxC X N scope fp s H) target g ∧ PIfs (cxC X N scope fp s H) ifs tt ∧ PE (cxC X N scope fp s H) elt te)
  (hs : ∀ x, foldedSetIterable iter X.env x = pure x) (I : Inv X pins σ H s) (h : tComp wi n ix g tt te σ H QH)
  (fin : ∀ (l C : Addr) (H' : Hp) (s' : Shared), Inv X pins σ H' s' → QH (.ref l) H' → CFree X pins C H' s' → compPost (model X.prog X.w) X.A X.xe use Q (.ref l) C (.ok .next) s') :
  wpAny (model X.prog X.w) X.A (comprehension (.ListComp elt [⟨target, iter, ifs, 0⟩] scope pos) scope X.env (firstIterPos [⟨target, iter, ifs, 0⟩] pos) (newList []) false (eval iter X.env) use) Q X.xe s := by
 have hclos : closureFor scope X.env = pure (clOf scope.names X.env.cells []) := Qc6 fun x hx => I.ok.has x (S.free x hx)
 refine wpAny_comprehension_free rfl hs hclos S.kind S.names ?_
 refine thn (hi pins s σ H _ I h) fun v s1 h1 => thn h1 fun itv s2 h2 => ?_
 obtain ⟨it, fp, tn, J, H2, rfl, I2, TT, st2, f2, rest⟩ := h2
 refine wpAny_newObj_type (hd := by size_fits) ?_
 have hf2 : H2 s2.heap.objs.size = none := I2.hok.fresh (Nat.le_refl _)
 obtain ⟨W, ⟨m0, w0⟩, turn⟩ := rest _ hf2
 have fl : ∀ b ∈ fp, b < s2.heap.objs.size := fun b hb => by
  obtain ⟨o, e, _⟩ := TT.obj _ _ st2 b hb
  exact Heap.lt_size e
 have f3 : ∀ b ∈ fp, FpOk X pins (upd H2 s2.heap.objs.size (.lst [])) b := fun b hb => by
  obtain ⟨f0, fr⟩ := f2 b hb
  refine ⟨?_, fr⟩
  rw [Qaj (Nat.ne_of_lt (fl b hb))]
  exact f0
 have I3 : Inv X pins σ (upd H2 s2.heap.objs.size (.lst [])) { s2 with heap := s2.heap.push { cls := .type "list", dict := none, data := .seq ([] : List Value).toArray } } :=
  I2.laid (t' := s2.toks) (fun b o e => Heap.get?_push_of_some _ e) (Nat.le_refl _) ⟨Nat.zero_le _, [], 0, .nil, Heap.get?_push_size _ rfl⟩
 have tn3 : tn 0 (s2.heap.push { cls := .type "list", dict := none, data := .seq ([] : List Value).toArray }) := TT.keep _ _ _ st2 fun b hb o e => Heap.get?_push_of_some _ e
 have fl3 : ∀ b ∈ fp, b < (s2.heap.push { cls := .type "list", dict := none, data := .seq ([] : List Value).toArray }).objs.size := fun b hb => by
  rw [Heap.size_push]; exact Nat.lt_succ_of_lt (fl b hb)
 generalize s2.heap.objs.size = l at *
 generalize hs3 : ({ s2 with heap := s2.heap.push { cls := .type "list", dict := none, data := .seq ([] : List Value).toArray } } : Shared) = s3 at *
 have e3 : s2.heap.push { cls := .type "list", dict := none, data := .seq ([] : List Value).toArray } = s3.heap := by rw [← hs3]
 rw [e3] at tn3 fl3
 generalize upd H2 l (.lst []) = H3 at *
 refine Qdd ?_
 have I4 := Qdi (N := N) (n := n) (ix := ix) I3 S T f3 fl3
 obtain ⟨bg, bt, be⟩ := blk fp s3 H3
 have tn4 : tn 0 (heapC s3.heap scope) := TT.keep _ _ _ tn3 fun b hb o e => Qdh _ _ _ _ e
 have fr4 : ∀ b ∈ fp, H3 b = none := fun b hb => (f3 b hb).1
 show codeAny (model X.prog X.w) X.A (.compStart (.ListComp elt [⟨target, iter, ifs, 0⟩] scope pos) 0 (.ref it) (.ref l) (cxC X N scope fp s3 H3).env) (compPost (model X.prog X.w) X.A X.xe use Q (.ref l) s3.heap.objs.size) { s3 with heap := heapC s3.heap scope }
 have fpx : ∀ {σ' : St} {H' : Hp} {s' : Shared}, Inv (cxC X N scope fp s3 H3) [] σ' H' s' → (∀ b ∈ fp, H' b = none) → ∀ b ∈ fp, FpOk (cxC X N scope fp s3 H3) [] H' b := fun I' hn b hb => by
  have q := I'.ok.exf b hb
  exact ⟨hn b hb, q.1, I'.ok.exfs b hb, .inl hb, q.2, fun p hp => absurd (show p ∈ ([] : List (Addr × Obj)) from hp) (by simp)⟩
 have hc' : (cxC X N scope fp s3 H3).calm = true := hc
 have loop : codeAny (model X.prog X.w) X.A (.compLoop (.ListComp elt [⟨target, iter, ifs, 0⟩] scope pos) 0 (.ref it) (.ref l) (cxC X N scope fp s3 H3).env) (compPost (model X.prog X.w) X.A X.xe use Q (.ref l) s3.heap.objs.size) { s3 with heap := heapC s3.heap scope } := by
  refine Qc4 (fun k s' => ∃ i σ' H', Inv (cxC X N scope fp s3 H3) [] σ' H' s' ∧ tn i s'.heap ∧ (∀ b ∈ fp, H' b = none) ∧ W i k σ' H') ?_ m0 ⟨0, _, H3, I4, tn4, fr4, w0⟩
  rintro k s5 ⟨i, σ5, H5, I5, tn5, fr5, w5⟩
  rcases turn i k σ5 H5 w5 with ⟨stop, q⟩ | ⟨go, step⟩
  ·refine thn (TT.done (cxC X N scope fp s3 H3) rfl rfl rfl hc' i [] s5 σ5 H5 NoE I5 (fpx I5 fr5) tn5 stop) fun r s6 pq42 => ?_
   obtain ⟨hr, I6⟩ := pq42
   subst hr
   have J6 : Inv X pins σ H5 s6 := I3.call' I6.os I6.base I6.hok I6.bare fun b hb => by
    obtain ⟨g0, g1, g2, g3, g4, g5⟩ := f3 b hb
    exact ⟨g3, g1, g4, g5⟩
   obtain ⟨m, hn, _⟩ := I6.loc
   refine fin l s3.heap.objs.size H5 s6 J6 q ⟨⟨m, hn⟩, I6.free, Nat.ne_of_gt I3.lt, fun x c e => ?_, I3.sz, fun p hp => ?_⟩
   ·obtain ⟨v, z⟩ := I3.cell x c e
    exact Nat.ne_of_lt z.lt
   ·exact Nat.ne_of_lt (Heap.lt_size (I3.pin p hp).1)
  ·refine thn (TT.item (cxC X N scope fp s3 H3) rfl rfl rfl hc' i [] s5 σ5 H5 NoE I5 (fpx I5 fr5) tn5 go) fun r s6 pq43 => ?_
   obtain ⟨u, hr, h6⟩ := pq43
   subst hr
   refine thn h6 fun _ s7 pq44 => ?_
   obtain ⟨x, H7, I7, r7, y7, tn7, fr7⟩ := pq44
   have I7' := I7.pinned (fpx I7 fr7) (TT.obj _ _ tn7)
   refine thn (bg _ s7 σ5 H7 x u _ I7' r7 (step x H7 y7)) fun _ s8 pq45 => ?_
   obtain ⟨σ8, H8, I8, q8⟩ := pq45
   refine thn (bt _ s8 σ8 H8 _ I8 q8) fun ok s9 pq46 => ?_
   obtain ⟨H9, I9, q9⟩ := pq46
   have again : ∀ {s' : Shared} {H' : Hp}, Inv (cxC X N scope fp s3 H3) ([] ++ pinsAt fp s7.heap) σ8 H' s' → (∃ m', m' < k ∧ W (i + 1) m' σ8 H') →
     ∃ m, m < k ∧ ∃ i σ' H', Inv (cxC X N scope fp s3 H3) [] σ' H' s' ∧ tn i s'.heap ∧ (∀ b ∈ fp, H' b = none) ∧ W i m σ' H' := fun {s' H'} I' pq47 => by
    obtain ⟨m', hm, w'⟩ := pq47
    refine ⟨m', hm, i + 1, σ8, H', I'.unpinned, TT.keep _ _ _ tn7 fun b hb o e => (I'.pin (b, o) (List.mem_append_right _ (List.mem_append_right _ (QaV hb e)))).1, fun b hb => ?_, w'⟩
    obtain ⟨o, e, d⟩ := TT.obj _ _ tn7 b hb
    exact (I'.pin (b, o) (List.mem_append_right _ (List.mem_append_right _ (QaV hb e)))).2.1
   cases ok with
   | false => exact again I9 q9
   | true =>
    refine thn (be _ s9 σ8 H9 _ I9 q9) fun xv s10 pq48 => ?_
    obtain ⟨v, H10, I10, r10, ys, hy, hz, q10⟩ := pq48
    refine thn (QbW (X := cxC X N scope fp s3 H3) _ s10 σ8 H10 (.ref l) [v] (.ref l) [xv] (fun _ H' => H' = upd H10 l (.lst (ys ++ [v]))) I10 rfl (.cons r10 .nil) ⟨l, ys, v, rfl, rfl, hy, hz, rfl⟩) fun _ s11 pq49 => ?_
    obtain ⟨_, H11, I11, _, e⟩ := pq49
    subst e
    exact again I11 q10
 exact codeAny_compStart_list loop (TT.self _ 0 _ _ _ tn4 loop)
theorem Qdm {elt target iter : Expr} {ifs : List Expr} {pos : Pos} {n : Nat} {ix : List Nat} {wi : TI} {g : TG} {tt : TT} {te : TE}
  (hc : X.calm = true) (S : CompScope X scope) (T : CompNames X scope N n ix) (hi : PI X target iter wi)
  (blk : ∀ (fp : List Addr) (s : Shared) (H : Hp), PG (cxC X N scope fp s H) target g ∧ PIfs (cxC X N scope fp s H) ifs tt ∧ PE (cxC X N scope fp s H) elt te)
  (hs : ∀ x, foldedSetIterable iter X.env x = pure x := by intro _; rfl) : PE X (.ListComp elt [⟨target, iter, ifs, 0⟩] scope pos) (tComp wi n ix g tt te) := by
 intro pins s σ H Q I h
 rw [eval_ListComp]
 refine Qdl (use := none) hc S T hi blk hs I h fun l C H' s' I' q c => ?_
 obtain ⟨m, hn⟩ := c.ns
 exact ⟨m, hn, fun h' hs' => ⟨.ref l, H', c.go I' hs', rfl, q⟩⟩
theorem Qdn {elt target iter : Expr} {ifs : List Expr} {pos pos' spos : Pos} {n i : Nat} {ix : List Nat} {wi : TI} {g : TG} {tt : TT} {te : TE} {x : Str}
  (hN : X.N.Nodup) (hi' : X.N[i]? = some x) (hx : L2.Loc X.env.scope x) (hf : X.fn x = true ∨ X.env.scope.names.lookup x = some .local)
  (hc : X.calm = true) (S : CompScope X scope) (T : CompNames X scope N n ix) (hi : PI X target iter wi)
  (blk : ∀ (fp : List Addr) (s : Shared) (H : Hp), PG (cxC X N scope fp s H) target g ∧ PIfs (cxC X N scope fp s H) ifs tt ∧ PE (cxC X N scope fp s H) elt te)
  (hsw : swapsWith (.ListComp elt [⟨target, iter, ifs, 0⟩] scope pos) (some (.Name x pos')) spos.line X.env = pure true)
  (hs : ∀ x, foldedSetIterable iter X.env x = pure x := by intro _; rfl) : PS X (.Assign [.Name x pos'] (.ListComp elt [⟨target, iter, ifs, 0⟩] scope pos) spos) (tAsg (tComp wi n ix g tt te) (gName i)) := by
 intro pins s σ H D I h
 rw [exec_Assign_Name_used _ _ _ _ hsw]
 refine wpAny_bind (wpAny_standAt (wpAny_bind ?_))
 show wpAny _ _ (comprehension (.ListComp elt [⟨target, iter, ifs, 0⟩] scope pos) scope X.env _ (newList []) false (eval iter X.env) (some (assign (.Name x pos') X.env)) >>= fun _ => pure ()) _ _ s
 refine wpAny_bind (wpAny_mono (Qdl (use := some (assign (.Name x pos') X.env)) (Q := fun _ s' => SP X pins D .next s') hc S T hi blk hs I h fun l C H' s' I' q c => ?_) (fun _ s' hq => wpAny_pure (wpAny_pure hq)) fun _ _ e => e)
 obtain ⟨m, hn⟩ := c.ns
 refine wpAny_assign_Name (Qaq I' hN hi' hx (v := .ref l) rfl (fun s2 I2 ⟨b, hb, hb2⟩ => ?_) hf)
 have hbC : b ≠ C := by
  rcases hb2 with z | z
  ·rw [z]; exact c.loc.symm
  ·exact c.cell x b z
 refine ⟨m, hn.sameBut hb hbC.symm, fun h' hs' => ⟨_, H', ?_, q⟩⟩
 exact CFree.go ⟨⟨m, hn.sameBut hb hbC.symm⟩, c.free, c.loc, c.cell, c.sz, c.pin⟩ I2 hs'
end
end MM
namespace MM
open PySem PySem.Spec PyProof.Rows L2
section
variable {X : Cx} {a b c e : Expr} {es : List Expr} {pos : Pos} {fa fb fc : CE} {ca cb : CA} {K : PySem.W.Frag} {ρ : List Addr} {H : Hp} {st : Sto}
theorem Qdo {K : PySem.W.Frag} {g : D → D → M D} {x y : V} {H : Hp} {Q : VK} (hg : ∀ d e, (∃ i j, d = D.int i ∧ e = D.int j) ∨ g d e = bad) (h : rOf K g x y H Q) :
  ∃ (i j : Int) (ρ : List Addr) (st : Sto), x = .int i ∧ y = .int j ∧ SR K ρ H st ∧ Post K ρ H (g (.int i) (.int j) st) (fun r _ ρ' H' => ∀ v, Rep K ρ' H' v r → Q v H') := by
 obtain ⟨ρ, st, d, e, sr, rx, ry, p⟩ := h
 rcases hg d e with ⟨i, j, e1, e2⟩ | hb
 ·subst e1 e2; cases rx; cases ry; exact ⟨_, _, ρ, st, rfl, rfl, sr, p⟩
 ·rw [hb] at p; exact p.elim
theorem Qdp : OpR X (binaryOp .Sub) (rOf X.K subD) := Qa0.of fun x y H Q h => by
 obtain ⟨i, j, ρ, st, rfl, rfl, sr, p⟩ := Qdo (by intro d e; cases d <;> cases e <;> first | exact .inl ⟨_, _, rfl, rfl⟩ | exact .inr rfl) h
 exact ⟨_, _, rfl, rfl, p.ret sr _ (.int _)⟩
theorem Qdq : OpR X (binaryOp .Mult) (rOf X.K mulD) := Qa1.of fun x y H Q h => by
 obtain ⟨i, j, ρ, st, rfl, rfl, sr, p⟩ := Qdo (by intro d e; cases d <;> cases e <;> first | exact .inl ⟨_, _, rfl, rfl⟩ | exact .inr rfl) h
 exact ⟨_, _, rfl, rfl, p.chk.1, p.chk.2.ret sr _ (.int _)⟩
theorem Qdr : OpR X (binaryOp .FloorDiv) (rOf X.K fdivD) := Qa2.of fun x y H Q h => by
 obtain ⟨i, j, ρ, st, rfl, rfl, sr, p⟩ := Qdo (by intro d e; cases d <;> cases e <;> first | exact .inl ⟨_, _, rfl, rfl⟩ | exact .inr rfl) h
 exact ⟨_, _, rfl, rfl, p.chk.1, p.chk.2.ret sr _ (.int _)⟩
theorem Qds : OpR X (binaryOp .Mod) (rOf X.K modD) := Qa3.of fun x y H Q h => by
 obtain ⟨i, j, ρ, st, rfl, rfl, sr, p⟩ := Qdo (by intro d e; cases d <;> cases e <;> first | exact .inl ⟨_, _, rfl, rfl⟩ | exact .inr rfl) h
 exact ⟨_, _, rfl, rfl, p.chk.1, p.chk.2.ret sr _ (.int _)⟩
theorem Qdt : OpR X (binaryOp .Pow) (rOf X.K powD) := Qa4.of fun x y H Q h => by
 obtain ⟨i, j, ρ, st, rfl, rfl, sr, p⟩ := Qdo (by intro d e; cases d <;> cases e <;> first | exact .inl ⟨_, _, rfl, rfl⟩ | exact .inr rfl) h
 exact ⟨_, _, rfl, rfl, p.chk.1, p.chk.2.ret sr _ (.int _)⟩
theorem Qdu : OpR X (compareOp .Gt) (rOf X.K gtD) := Qa5.of fun x y H Q h => by
 obtain ⟨i, j, ρ, st, rfl, rfl, sr, p⟩ := Qdo (by intro d e; cases d <;> cases e <;> first | exact .inl ⟨_, _, rfl, rfl⟩ | exact .inr rfl) h
 exact ⟨_, _, rfl, rfl, p.ret sr _ (.bl _)⟩
theorem Qdv : OpR X (compareOp .GtE) (rOf X.K geD) := Qa6.of fun x y H Q h => by
 obtain ⟨i, j, ρ, st, rfl, rfl, sr, p⟩ := Qdo (by intro d e; cases d <;> cases e <;> first | exact .inl ⟨_, _, rfl, rfl⟩ | exact .inr rfl) h
 exact ⟨_, _, rfl, rfl, p.ret sr _ (.bl _)⟩
theorem Qdw : SA X [] cNil := Qbm.of fun σ H Q h_ => h_.el fun ρ l st lr sr p => p.ret sr [] .nil
theorem Qdx (ha : SE X e fa) (hr : SA X es ca) (hs : starEach (e :: es) X.env = (false, eval e X.env) :: starEach es X.env := by rfl) : SA X (e :: es) (cCons fa ca) :=
 (Qbn ha hr hs).of fun σ H Q h_ => h_.el fun ρ l st lr sr p => ⟨ρ, l, st, lr, sr, p.bnd.imp fun d st1 ρ1 H1 x1 s1 p1 v rv => ⟨ρ1, l, st1, lr.mono x1, s1, p1.bnd.imp fun ds st2 ρ2 H2 x2 s2 p2 vs rvs => p2.ret s2 _ (.cons (rv.mono x2) rvs)⟩⟩
theorem Qdy {k : Nat} (h : SA X es ca) : SE X (.Tuple es k pos) (cTup ca) := (Qbo h).of fun σ H Q h_ => h_.el fun ρ l st lr sr p => ⟨ρ, l, st, lr, sr, p.bnd.imp fun ds st1 ρ1 H1 x1 s1 p1 vs rvs => by
 obtain ⟨hl, p2⟩ := p1.chk
 refine ⟨by rw [rvs.length]; exact hl, fun q hq => ?_⟩
 exact p2 ρ1 _ (Ex.new hq) (s1.new hq) _ (.tup (SqT.of Qai) (rvs.mono (Ex.new hq)))⟩
theorem Qdz (h : SA X es ca) : SL X (.List es pos) (aDisp ca) := (Qbp h).of fun σ H Q h_ => h_.el fun ρ l st lr sr p => ⟨ρ, l, st, lr, sr, p.bnd.imp fun ds st1 ρ1 H1 x1 s1 p1 vs rvs => by
 obtain ⟨hl, p2⟩ := p1.chk
 refine ⟨by rw [rvs.length]; exact hl, fun q hq => ?_⟩
 have hn : H q = none := by
  cases z : H q with
  | none => rfl
  | some o => exact absurd hq (x1.trk q o z)
 exact p2 ρ1 _ (Ex.new hq) (s1.new hq) q vs hn (s1.fresh hq) Qai (rvs.mono (Ex.new hq))⟩
theorem Post.bnd0 {α β : Type} {m : M α} {f : α → M β} {R : β → Sto → List Addr → Hp → Prop} (h : Post K ρ H (MM.bnd m f st) R) : Post K ρ H (m st) fun a st' _ _ => Post K ρ H (f a st') R := by
 unfold MM.bnd at h
 cases e : m st with
 | ok a s' =>
  rw [e] at h
  exact fun ρ' H' y s => h
 | exc _ _ => rw [e] at h; exact h
 | bad => rw [e] at h; exact h
theorem QdA (h : SL X e ca) : SE X e (cKeep ca) := h.of fun σ H Q h_ => h_.el fun ρ l st lr sr p => ⟨ρ, l, st, lr, sr, p.bnd0.imp fun ds st1 ρ1 H1 x1 s1 p1 a vs ha na hv rvs => by
 have x : Ex ρ H (ρ1 ++ [a]) H1 := by
  obtain ⟨τ, e, f⟩ := x1.pre
  refine ⟨⟨τ ++ [a], by rw [e, List.append_assoc], fun b hb => ?_⟩, x1.fix, x1.oth, x1.knd⟩
  rcases List.mem_append.mp hb with hb | hb
  ·exact f b hb
  ·rw [List.mem_singleton] at hb; rw [hb]; exact ha
 refine p1 (ρ1 ++ [a]) H1 x (s1.keep hv na rvs) _ (.ref ⟨_, hv, rfl⟩ ?_)
 rw [← s1.len]; simp⟩
theorem _root_.L2.IxR.of {r r' : R2} (h : IxR X r) (g : ∀ x y H Q, r' x y H Q → r x y H Q) : IxR X r' := fun value slice pins s σ H x y v u Q I rx ry q hs => h value slice pins s σ H x y v u Q I rx ry (g x y H Q q) hs
theorem Post.item {ds : List D} {i : Int} {R : D → Sto → List Addr → Hp → Prop} (h : Post K ρ H (itemD ds i st) R) (s : SR K ρ H st) : ∃ k d, L2.ixN ds.length i = some k ∧ ds[k]? = some d ∧ R d st ρ H := by
 unfold itemD at h
 cases e : MM.ixN ds.length i with
 | none => rw [e] at h; exact h.elim
 | some k =>
  rw [e] at h
  cases e2 : ds[k]? with
  | none => dsimp only at h; rw [e2] at h; exact h.elim
  | some d => dsimp only at h; rw [e2] at h; exact ⟨k, d, e, e2, h.ret s⟩
theorem QdB {vs : List V} {ds : List D} {i : Int} {k : Nat} {d : D} (r : Reps K ρ H vs ds) (h1 : L2.ixN ds.length i = some k) (h2 : ds[k]? = some d) : ∃ v, atI vs i = some v ∧ Rep K ρ H v d := by
 obtain ⟨v, e, rv⟩ := r.get h2
 refine ⟨v, ?_, rv⟩
 unfold atI
 rw [r.length, h1]
 exact e
theorem Post.itemK {n : Nat} {k : D} {R : D → Sto → List Addr → Hp → Prop} (h : Post K ρ H (MM.itemK n k st) R) (s : SR K ρ H st) : ∃ b kvs d, st[n]? = some (.dct b kvs) ∧ kOk b k = true ∧ lkK kvs k = some d ∧ R d st ρ H := by
 obtain ⟨b, kvs, e, p1⟩ := Post.getDc (Post.bnd h) s
 obtain ⟨hk, p2⟩ := Post.chk p1
 cases e2 : lkK kvs k with
 | none => dsimp only at p2; rw [e2] at p2; exact p2.elim
 | some d => dsimp only at p2; rw [e2] at p2; exact ⟨b, kvs, d, e, hk, e2, p2.ret s⟩
theorem ObR.dictIs {X : Cx} {pins : List (Addr × Obj)} {σ : St} {s : Shared} {a : Addr} {b : Bool} {kvs : List (D × D)} (I : Inv X pins σ H s) (g : ObR X.K ρ H a (.dct b kvs)) : s.TypeIs (.ref a) "dict" := by
 cases b with
 | false =>
  obtain ⟨es, e, r⟩ := g
  obtain ⟨_, _, vs, _, dd⟩ := Qcg I.hok e
  exact dd.typeIs
 | true =>
  obtain ⟨es, e, r⟩ := g
  obtain ⟨_, _, xs, _, dd⟩ := QcY I e r
  exact dd.typeIs
theorem QdC (hu : X.A.units + 60 < cLine) : IxR X (fun x y H Q => ∃ (ρ : List Addr) (st : Sto) (n : Nat) (a : Addr) (b : Bool) (kvs : List (D × D)) (k d : D), x = .ref a ∧ SR X.K ρ H st ∧ ρ[n]? = some a ∧ st[n]? = some (.dct b kvs) ∧ Rep X.K ρ H y k ∧ kOk b k = true ∧ lkK kvs k = some d ∧ ∀ v, Rep X.K ρ H v d → Q v H) := by
 intro value slice pins s σ H x y v u Q I rx ry pq81 hs; obtain ⟨ρ, st, n, a, b, kvs, k, d, ex, sr, ha, hn, rk, hk, hl, q⟩ := pq81
 subst ex
 cases rx
 have g := sr.ob n a _ ha hn
 exact tail_any (ObR.dictIs I g) PySem.F.slot_dict_getitem.lookup (Qc2 (by ac_nf) I g rk hk hl ry fun v w' s' I' rv rw' => ⟨v, H, I', rw', q v rv⟩) hs
theorem QdD {x y : V} {d e : D} {Q : VK} (sr : SR K ρ H st) (rx : Rep K ρ H x d) (ry : Rep K ρ H y e) (hd : ∀ n, d ≠ .dic n) (p : Post K ρ H (subsD d e st) fun r _ ρ' H' => ∀ v, Rep K ρ' H' v r → Q v H') : rIx K x y H Q := by
 cases ry with
 | int i =>
  cases rx with
  | dic _ _ => exact absurd rfl (hd _)
  | tup h r =>
   obtain ⟨k, d, h1, h2, q⟩ := Post.item p sr
   obtain ⟨v, h3, rv⟩ := QdB r h1 h2
   exact .inr (.inl ⟨_, _, i, v, rfl, rfl, h, h3, q v rv⟩)
  | lit h r =>
   obtain ⟨k, d, h1, h2, q⟩ := Post.item p sr
   obtain ⟨v, h3, rv⟩ := QdB r h1 h2
   exact .inl ⟨_, _, i, v, rfl, rfl, h.seq, h3, q v rv⟩
  | ref _ h =>
   obtain ⟨xs, e, p1⟩ := Post.getL (Post.bnd p) sr
   obtain ⟨a, vs, ha, hv, r⟩ := sr.seq e
   rw [h] at ha; cases ha
   obtain ⟨k, d, h1, h2, q⟩ := Post.item p1 sr
   obtain ⟨v, h3, rv⟩ := QdB r h1 h2
   exact .inl ⟨_, _, i, v, rfl, rfl, SqL.of hv, h3, q v rv⟩
  | str z =>
   obtain ⟨hz, p1⟩ := Post.chk p
   cases e : MM.ixN z.length i with
   | none => rw [e] at p1; exact p1.elim
   | some k =>
    rw [e] at p1
    cases e2 : z.cps.toList[k]? with
    | none => dsimp only at p1; rw [e2] at p1; exact p1.elim
    | some c =>
     dsimp only at p1
     rw [e2] at p1
     refine .inr (.inr ⟨z, i, c, rfl, rfl, hz, ?_, p1.ret sr _ (.str _)⟩)
     unfold atI
     rw [show z.cps.toList.length = z.length by simp [Str.length]]
     show (L2.ixN z.length i).bind _ = _
     rw [show L2.ixN z.length i = some k from e]
     exact e2
  | _ => exact p.elim
 | _ => cases rx <;> first | exact absurd rfl (hd _) | exact p.elim
theorem ixd (hu : X.A.units + 60 < cLine) : IxR X (rOf X.K subsD) := (QbK.or (QdC hu)).of fun x y H Q pq51 => by
 obtain ⟨ρ, st, d, e, sr, rx, ry, p⟩ := pq51
 by_cases hd : ∃ n, d = .dic n
 ·obtain ⟨n, rfl⟩ := hd
  cases rx with
  | @dic a n _ h =>
   have p' : Post X.K ρ H (itemK n e st) fun r _ ρ' H' => ∀ (v : V), Rep X.K ρ' H' v r → Q v H' := by cases ry <;> exact p
   obtain ⟨b, kvs, d, e1, hk, hl, q⟩ := Post.itemK p' sr
   exact .inr ⟨ρ, st, n, a, b, kvs, e, d, rfl, sr, h, e1, ry, hk, hl, q⟩
 ·exact .inl (QdD sr rx ry (fun n z => hd ⟨n, z⟩) p)
theorem QdE (hu : X.A.units + 60 < cLine) (ha : SE X a fa) (hb : SE X b fb) (hs : PlainIx b) : SE X (.Subscript a b pos) (c2 subsD fa fb) := (QbG (ixd hu) ha hb hs).of (QcH fun _ _ _ _ h => h)
theorem QdF (ha : SL X a ca) (hb : SE X b fb) (hs : PlainIx b) : SE X (.Subscript a b pos) (cTmpSub ca fb) := (QbG QbH ha hb hs).of fun σ H Q h_ => h_.el fun ρ l st lr sr p =>
 ⟨ρ, l, st, lr, sr, p.bnd.imp fun ds st1 ρ1 H1 x1 s1 p1 a vs ha na hv rvs => ⟨ρ1, l, st1, lr.mono x1, s1, p1.bnd.imp fun e st2 ρ2 H2 x2 s2 p2 u ru => by
  cases ru with
  | int i =>
   obtain ⟨k, d, h1, h2, q⟩ := Post.item p2 s2
   obtain ⟨v, h3, rv⟩ := QdB (rvs.mono x2) h1 h2
   exact ⟨a, vs, i, v, rfl, rfl, SqL.of (x2.lst a vs na hv), h3, q v rv⟩
  | _ => exact p2.elim⟩⟩
theorem QdG {CX : CXT} {k n : Nat} {f : Addr} {fd : FuncData} {ps : List Str} {g : List D → M D} {x : Str} {p : Pos} (F : FnOk X.prog X.w X.K X.mg X.base CX k f fd ps (spOf X.K n g)) (hr : Room k X.A) (hg : Gl X x) (hm : X.mg x = some (.ref f))
  (hk : PySem.W.keepIn X.K (.ref f) = true) (hb : Binds X.K fd ps []) (hx : Passes CX X E0) (ha : SA X (e :: es) ca) (hn : ∀ l st ds st', ca l st = .ok ds st' → ds.length = n) (hdb : (x == ("__debug__" : Str)) = false := by decide)
  (he : starEach (e :: es) X.env = (false, eval e X.env) :: starEach es X.env := by rfl) (hpl : (backTo pos (starEach es X.env)).any (·.1) = false := by rfl) : SE X (.Call (.Name x p) (e :: es) [] pos) (cCall g ca) :=
 (Qbr F hr hg hm hk hb .nil hx ha hdb he hpl).of fun σ H Q h_ => h_.el fun ρ l st lr sr p => ⟨ρ, l, st, lr, sr, by
  have q := Post.bnd p
  cases ec : ca l st with
  | bad => rw [ec] at q; exact q
  | exc _ _ => rw [ec] at q; exact q
  | ok ds st1 =>
   rw [ec] at q
   intro ρ1 H1 x1 s1 vs rvs
   refine ⟨by rw [List.append_nil, rvs.length]; exact hn l st ds st1 ec, ρ1, st1, ds, s1, by rw [List.append_nil]; exact rvs, q ρ1 H1 x1 s1⟩⟩
variable {ta tb : CT}
theorem QdH {d : D} {v : V} {R : Bool → Sto → List Addr → Hp → Prop} (p : Post K ρ H (truD d st) R) (sr : SR K ρ H st) (rv : Rep K ρ H v d) : ∃ k, TruV K v H k ∧ R k st ρ H := by
 cases rv with
 | non => exact ⟨false, rfl, p.ret sr⟩
 | bl b => exact ⟨b, rfl, p.ret sr⟩
 | int i => exact ⟨_, rfl, p.ret sr⟩
 | str x => exact ⟨_, ⟨(Post.chk p).1, rfl⟩, (Post.chk p).2.ret sr⟩
 | @tup a vs ds h r =>
  refine ⟨!vs.isEmpty, .inr (.inl ⟨vs, h, rfl⟩), ?_⟩
  have : vs.isEmpty = ds.isEmpty := by
   have := r.length
   cases vs <;> cases ds <;> simp_all
  rw [this]; exact p.ret sr
 | @lit a vs ds h r =>
  refine ⟨!vs.isEmpty, .inl ⟨vs, h.seq, rfl⟩, ?_⟩
  have : vs.isEmpty = ds.isEmpty := by
   have := r.length
   cases vs <;> cases ds <;> simp_all
  rw [this]; exact p.ret sr
 | ref _ h =>
  obtain ⟨ds, e, p1⟩ := Post.getL (Post.bnd p) sr
  obtain ⟨a, vs, ha, hv, r⟩ := sr.seq e
  rw [h] at ha; cases ha
  refine ⟨!vs.isEmpty, .inl ⟨vs, SqL.of hv, rfl⟩, ?_⟩
  have : vs.isEmpty = ds.isEmpty := by
   have := r.length
   cases vs <;> cases ds <;> simp_all
  rw [this]; exact p1.ret sr
 | dic _ _ => exact p.elim
 | exn0 _ _ => exact p.elim
 | exn _ _ _ _ => exact p.elim
theorem QdI (ha : SE X a fa) (he : ∀ whole, isTrue a X.env whole = (do let v ← whole; standAt a.pos; holding [v] (truthy v)) := by intro _; rfl) : ST X a (tVal fa) :=
 (Qbe ha he).of fun σ H Q h_ => h_.el fun ρ l st lr sr p => ⟨ρ, l, st, lr, sr, p.bnd.imp fun d st1 ρ1 H1 x1 s1 p1 v rv => QdH p1 s1 rv⟩
theorem QdJ {op : CmpOp} {g : D → D → M D} (ho : OpR X (compareOp op) (rOf X.K g)) (ha : SE X a fa) (hb : SE X b fb) (hm : behindInMarks op b = false) : ST X (.Compare a [op] [b] pos) (tCmpB (c2 g fa fb)) :=
 (Qa9 ho ha hb hm).of fun σ H Q h_ => h_.el fun ρ l st lr sr p => QcH (X := X) (fun _ _ _ _ h => h) _ _ _ ⟨ρ, l, st, lr, sr, p.bnd.imp fun d st1 ρ1 H1 x1 s1 p1 v rv => by
  cases rv with
  | bl k => exact ⟨k, rfl, p1.ret s1⟩
  | _ => exact p1.elim⟩
theorem QdK (ha : ST X a ta) : PW X (.BoolOp .And [a] pos) (ttOf X.K ta) := QaA ha
theorem QdL (ha : ST X a ta) : PW X (.BoolOp .Or [a] pos) (ttOf X.K ta) := QaB ha
theorem _root_.L2.PW.of {e : Expr} {t t' : TT} (h : PW X e t) (f : ∀ σ H Q, t' σ H Q → t σ H Q) : PW X e t' := fun whole pins s σ H Q I q => h whole pins s σ H Q I (f σ H Q q)
theorem QdM {rest : List Expr} (ha : ST X a ta) (hb : PW X (.BoolOp .And (b :: rest) pos) (ttOf X.K tb)) : PW X (.BoolOp .And (a :: b :: rest) pos) (ttOf X.K (tAndB ta tb)) :=
 (QaC ha hb).of fun σ H Q h_ => h_.el fun ρ l st lr sr p => ⟨ρ, l, st, lr, sr, p.bnd.imp fun c st1 ρ1 H1 x1 s1 p1 => by
  cases c with
  | true => exact ⟨ρ1, l, st1, lr.mono x1, s1, p1⟩
  | false => exact p1.ret s1⟩
theorem QdN {rest : List Expr} (ha : ST X a ta) (hb : PW X (.BoolOp .Or (b :: rest) pos) (ttOf X.K tb)) : PW X (.BoolOp .Or (a :: b :: rest) pos) (ttOf X.K (tOrB ta tb)) :=
 (QaD ha hb).of fun σ H Q h_ => h_.el fun ρ l st lr sr p => ⟨ρ, l, st, lr, sr, p.bnd.imp fun c st1 ρ1 H1 x1 s1 p1 => by
  cases c with
  | true => exact p1.ret s1
  | false => exact ⟨ρ1, l, st1, lr.mono x1, s1, p1⟩⟩
theorem QdO (ha : ST X a ta) : ST X (.UnaryOp .Not a pos) (tNotB ta) := (QaE ha).of fun σ H Q h_ => h_.el fun ρ l st lr sr p => ⟨ρ, l, st, lr, sr, p.bnd.imp fun c st1 ρ1 H1 x1 s1 p1 => p1.ret s1⟩
end
end MM
namespace MM
open PySem PySem.Spec PyProof.Rows L2
theorem LR.set {K : PySem.W.Frag} {ρ : List Addr} {H : Hp} {σ : St} {l : Loc} {v : V} {d : D} (h : LR K ρ H σ l) (i : Nat) (r : Rep K ρ H v d) : LR K ρ H (σ.set i (some v)) (l.set i (some d)) := by
 refine ⟨by simp [h.1], fun j e q => ?_⟩
 by_cases z : i = j
 ·subst z
  by_cases hl : i < l.length
  ·rw [List.getElem?_set_self hl] at q
   cases q
   exact ⟨v, by rw [List.getElem?_set_self (by rw [h.1]; exact hl)], r⟩
  ·rw [List.getElem?_eq_none (by simp; ac_nf)] at q; cases q
 ·rw [List.getElem?_set_ne z] at q
  obtain ⟨w, e1, r1⟩ := h.2 j e q
  exact ⟨w, by rw [List.getElem?_set_ne z]; exact e1, r1⟩
theorem LR.start {K : PySem.W.Frag} {ρ : List Addr} {H : Hp} {N : List Str} {vs : List V} {ds : List D} (r : Reps K ρ H vs ds) : LR K ρ H (L2.start N vs) (ds.map some ++ List.replicate (N.length - ds.length) none) := by
 have hl := r.length
 unfold L2.start
 refine ⟨by simp [hl], fun i d e => ?_⟩
 by_cases hi : i < ds.length
 ·rw [List.getElem?_append_left (by simpa using hi), List.getElem?_map] at e
  cases q : ds[i]? with
  | none => rw [q] at e; cases e
  | some d' =>
   rw [q] at e
   have e' : d' = d := Option.some.inj (Option.some.inj e)
   subst e'
   obtain ⟨v, hv, rv⟩ := r.get q
   refine ⟨v, ?_, rv⟩
   rw [List.getElem?_append_left (by simp; ac_nf), List.getElem?_map, hv]; rfl
 ·rw [List.getElem?_append_right (by simpa using hi), List.getElem?_replicate] at e
  split at e <;> cases e
section
variable {X : Cx} {a b c e tg : Expr} {es : List Expr} {s : Stmt} {ss : List Stmt} {pos : Pos} {fa fb fc : CE} {ca cb : CA} {ta tb : CT} {cs cr : CS} {K : PySem.W.Frag} {ρ : List Addr} {H : Hp} {st : Sto}
abbrev SG (X : Cx) (e : Expr) (g : CG) : Prop := PG X e (tgOf X.K g)
theorem QdP {i : Nat} {x : Str} (h : PG X (.Name x pos) (gName i)) : SG X (.Name x pos) (gVar i) := h.of fun v σ H Q pq52 => by obtain ⟨ρ, l, st, d, lr, sr, rv, p⟩ := pq52; exact p.ret sr _ (lr.set i rv)
theorem QdQ : SSs X [] sNext := QaF.of fun G σ H h_ => h_.el fun ρ l st lr sr p => p.ret sr σ lr
theorem QdR (h1 : SS X s cs) (h2 : SSs X ss cr) : SSs X (s :: ss) (sSeq cs cr) := (QaG h1 h2).of fun G σ H h_ => h_.el fun ρ l st lr sr p => ⟨ρ, l, st, lr, sr, p.bnd.imp fun f st1 ρ1 H1 x1 s1 p1 => by
 cases f with
 | next l' => exact fun σ' lr' => ⟨ρ1, l', st1, lr', s1, p1⟩
 | ret d => exact p1.ret s1
 | brk l' => exact p1.ret s1
 | cnt l' => exact p1.ret s1⟩
theorem QdS (h : SE X e fa) : SS X (.Return (some e) pos) (sRet fa) := (QaH h).of fun G σ H h_ => h_.el fun ρ l st lr sr p => ⟨ρ, l, st, lr, sr, p.bnd.imp fun d st1 ρ1 H1 x1 s1 p1 v rv => p1.ret s1 v rv⟩
theorem QdT (hc : ST X c ta) (ha : SSs X ss cs) {sr : List Stmt} (hb : SSs X sr cr) : SS X (.If c ss sr pos) (sIf ta cs cr) := (QaI hc ha hb).of fun G σ H h_ => h_.el fun ρ l st lr sr p =>
 ⟨ρ, l, st, lr, sr, p.bnd.imp fun k st1 ρ1 H1 x1 s1 p1 => by
  cases k with
  | true => exact ⟨ρ1, l, st1, lr.mono x1, s1, p1⟩
  | false => exact ⟨ρ1, l, st1, lr.mono x1, s1, p1⟩⟩
theorem QdU {g : CG} {te : TE} {tg : TG} (he : ∀ σ H Q, tOf X.K fa σ H Q → te σ H Q) (hg : ∀ v σ H Q, tgOf X.K g v σ H Q → tg v σ H Q) : ∀ G σ H, tsOf X.K (sAsg g fa) G σ H → tAsg te tg G σ H := fun G σ H h_ => h_.el fun ρ l st lr sr p =>
 he _ _ _ ⟨ρ, l, st, lr, sr, p.bnd.imp fun d st1 ρ1 H1 x1 s1 p1 v rv => hg _ _ _ _ ⟨ρ1, l, st1, d, lr.mono x1, s1, rv, p1.bnd.imp fun l2 st2 ρ2 H2 x2 s2 p2 σ2 lr2 => p2.ret s2 σ2 lr2⟩⟩
theorem QdV {i : Nat} : ∀ v σ H Q, tgOf X.K (gVar i) v σ H Q → gName i v σ H Q := fun v σ H Q pq53 => by obtain ⟨ρ, l, st, d, lr, sr, rv, p⟩ := pq53; exact p.ret sr _ (lr.set i rv)
theorem QdW {i : Nat} {x : Str} {pos' : Pos} (hN : X.N.Nodup) (hi : X.N[i]? = some x) (hx : L2.Loc X.env.scope x) (he : SE X e fa) (hs : swapsWith e (some (.Name x pos')) pos.line X.env = pure false := by rfl)
  (hf : X.fn x = true ∨ X.env.scope.names.lookup x = some .local := by first | exact .inl rfl | exact .inr rfl | assumption) : SS X (.Assign [.Name x pos'] e pos) (sAsg (gVar i) fa) :=
 (QaM hN hi hx he hs hf).of (QdU (fun _ _ _ h => h) QdV)
theorem QdX {g : CG} (he : SE X e fa) (hg : SG X tg g) (hs : swapsWithSole [tg] e pos.line X.env = pure false := by rfl) (hw : swappedStores [tg] e X.env = pure none := by rfl)
  (h1 : (assignEach [tg] X.env).map (·.2) = [assign tg X.env] := by rfl) : SS X (.Assign [tg] e pos) (sAsg g fa) := (QaL he hg hs hw h1).of (QdU (fun _ _ _ h => h) fun _ _ _ _ h => h)
theorem Post.storeK {n : Nat} {k v : D} {R : Unit → Sto → List Addr → Hp → Prop} (h : Post K ρ H (MM.storeK n k v st) R) (s : SR K ρ H st) : ∃ b kvs, st[n]? = some (.dct b kvs) ∧ kOk b k = true ∧ kvs.length < lim ∧ Post K ρ H (.ok () (st.set n (.dct b (ptK kvs k v)))) R := by
 obtain ⟨b, kvs, e, p1⟩ := Post.getDc (Post.bnd h) s
 obtain ⟨⟨hk, hl⟩, p2⟩ := Post.chk p1
 refine ⟨b, kvs, e, hk, hl, ?_⟩
 unfold putDc at p2
 rw [e] at p2
 simpa using p2
noncomputable def rSetD (X : Cx) : V → V → V → Hp → (Hp → Prop) → Prop := fun o i v H Q => ∃ (ρ : List Addr) (st : Sto) (n : Nat) (a : Addr) (b : Bool) (kvs : List (D × D)) (k d : D), o = .ref a ∧ SR X.K ρ H st ∧ ρ[n]? = some a ∧ st[n]? = some (.dct b kvs) ∧ Rep X.K ρ H i k ∧ kOk b k = true ∧ kvs.length < sizeLine ∧ Rep X.K ρ H v d ∧
 ∀ H', SR X.K ρ H' (st.set n (.dct b (ptK kvs k d))) → Ex ρ H ρ H' → Q H'
theorem QdY (hu : X.A.units + 60 < cLine) : PSet X (rSetD X) := by
 intro pins s σ H o i v ov iv u Q I ro ri rv pq82; obtain ⟨ρ, st, n, a, b, kvs, k, d, eo, sr, ha, hn, rk, hk, hl, rd, q⟩ := pq82
 subst eo
 cases ro
 exact Qc3 (by ac_nf) I sr ha hn rk hk hl rd ri rv fun H' s' I' s3 x3 => ⟨H', I', q H' s3 x3⟩
theorem _root_.L2.PSet.or {t t' : TSet} (h : PSet X t) (h' : PSet X t') : PSet X (fun o i v H Q => t o i v H Q ∨ t' o i v H Q) := by
 intro pins s σ H o i v ov iv u Q I ro ri rv q
 rcases q with q | q
 ·exact h pins s σ H o i v ov iv u Q I ro ri rv q
 ·exact h' pins s σ H o i v ov iv u Q I ro ri rv q
theorem QdZ {to ti : CE} {o i : Expr} (hu : X.A.units + 60 < cLine) (ho : SE X o to) (hi : SE X i ti)
  (ha : ∀ v, assign (.Subscript o i pos) X.env v = (do
   let ov ← holding [v] (eval o X.env)
   let iv ← holding [v, ov] (eval i X.env)
   standAt pos
   holding [v, ov, iv] (setItem ov iv v)
   release [v, ov, iv] []) := by intro _; rfl) : SG X (.Subscript o i pos) (gSubD to ti) :=
 (QaK ho hi (QbM.or (QdY hu)) ha).of fun v σ H Q pq54 => by obtain ⟨ρ, l, st, d, lr, sr, rv, p⟩ := pq54; exact ⟨ρ, l, st, lr, sr, p.bnd.imp fun y st1 ρ1 H1 x1 s1 p1 u ru => ⟨ρ1, l, st1, lr.mono x1, s1, p1.bnd.imp fun z st2 ρ2 H2 x2 s2 p2 w rw' => by
  have ru2 := ru.mono x2
  have rd : Rep X.K ρ2 H2 v d := (rv.mono x1).mono x2
  cases ru2 with
  | ref _ h =>
   cases rw' with
   | int k =>
    obtain ⟨ds, e, p3⟩ := Post.getL (Post.bnd (Post.bnd p2)) s2
    obtain ⟨a, vs, ha, hv, r⟩ := s2.seq e
    rw [h] at ha; cases ha
    cases e2 : MM.ixN ds.length k with
    | none => rw [e2] at p3; exact p3.elim
    | some j =>
     rw [e2] at p3
     have hl := (List.getElem?_eq_some_iff.mp e).1
     obtain ⟨s3, x3⟩ := s2.put hl h hv (r.set j rd)
     refine .inl ⟨_, vs, k, j, rfl, rfl, hv, by rw [r.length]; exact e2, ?_⟩
     have p4 : Post X.K ρ2 H2 (putL _ (ds.set j d) st2) _ := p3
     unfold putL at p4
     rw [e] at p4
     exact (p4 ρ2 _ x3 s3).ret s3 σ (((lr.mono x1).mono x2).mono x3)
   | _ => exact (Post.bnd p2).elim
  | @dic a n _ h =>
   have p' : Post X.K ρ2 H2 (storeK n z d st2) fun a st' ρ' H' => Post X.K ρ' H' (MM.ret l st') fun l' _ ρ' H' => ∀ σ', LR X.K ρ' H' σ' l' → Q σ' H' := by cases rw' <;> exact Post.bnd p2
   obtain ⟨b, kvs, e1, hk, hl, q⟩ := Post.storeK p' s2
   exact .inr ⟨ρ2, st2, n, a, b, kvs, z, d, rfl, s2, h, e1, rw', hk, hl, rd, fun H3 s3 x3 => (q ρ2 H3 x3 s3).ret s3 σ (((lr.mono x1).mono x2).mono x3)⟩
  | _ => exact (Post.bnd p2).elim⟩⟩
theorem Qd0 {P : Program} {w : World} {K : PySem.W.Frag} {mg : Str → Option Value} {base : Heap} {x qual : Str} {sd : Stmt} {f : Addr} {fd : FuncData} {N ps : List Str} {k : Nat} {body : CS} (F : Fun K x qual sd f fd) (S : FnScope N ps (defScope sd))
  (hbody : ∀ (cdv : Value) (A : Around) (outer : List Env) (s : Shared) (H : Hp) (E : XK), Room k (A.deeper (envOfC qual (defScope sd) s.heap.objs.size f cdv)) → SSs (cxOf CX0 P w K mg base N qual (defScope sd) f cdv A outer s H E).nox (defBody sd) body) :
  FnOk P w K mg base CX0 (k + 1) f fd ps (spOf K ps.length (runDef N.length body)) := by
 refine F.ok S (fun vs H Q E h => h.1) (fun cdv A outer s H vs Q E hr h => ⟨_, hbody cdv A outer s H E hr, ?_⟩)
 obtain ⟨hl, ρ, st, ds, sr, rvs, p⟩ := h
 refine ⟨ρ, _, st, LR.start rvs, sr, ?_⟩
 unfold runDef at p
 exact p.bnd.imp fun f st1 ρ1 H1 x1 s1 p1 => by
  cases f with
  | next l => exact fun σ' _ => p1.ret s1 _ .non
  | ret d => exact fun v rv => p1.ret s1 v rv
  | brk l => exact p1.elim
  | cnt l => exact p1.elim
def ItR (K : PySem.W.Frag) (ρ0 : List Addr) (H0 : Hp) (w : Wk) (J : It) : Prop := ∀ ρ H st, Ex ρ0 H0 ρ H → SR K ρ H st → w.same st → J.stop w.ds.length H ∧ ∀ (i : Nat) (d : D), w.ds[i]? = some d → J.go i H ∧ ∀ x H', J.yld i H x H' → Ex ρ H ρ H' ∧ SR K ρ H' st ∧ Rep K ρ H' x d
noncomputable def tiOf (K : PySem.W.Frag) (f : CI) : TI := fun σ H R => ∃ ρ l st, LR K ρ H σ l ∧ SR K ρ H st ∧ Post K ρ H (f l st) fun w _ ρ' H' => ∀ J, ItR K ρ' H' w J → R J H'
abbrev SI (X : Cx) (tg e : Expr) (f : CI) : Prop := PI X tg e (tiOf X.K f)
theorem _root_.L2.PI.of {tg e : Expr} {t t' : TI} (h : PI X tg e t) (f : ∀ σ H R, t' σ H R → t σ H R) : PI X tg e t' := fun pins s σ H R I q => h pins s σ H R I (f σ H R q)
theorem Qd1 {ρ0 : List Addr} {H0 : Hp} {ds : List D} {p : Sto → Prop} {a : Addr} (h : ∀ ρ H st, Ex ρ0 H0 ρ H → SR K ρ H st → p st → ∃ vs, SqL K H a vs ∧ Reps K ρ H vs ds) : ItR K ρ0 H0 ⟨ds, p⟩ (Itl K a) := fun ρ H st x s q => by
 obtain ⟨vs, hv, r⟩ := h ρ H st x s q
 refine ⟨⟨vs, hv, by rw [r.length]; exact Nat.le_refl _⟩, fun i d e => ?_⟩
 obtain ⟨v, e1, rv⟩ := r.get e
 refine ⟨⟨vs, v, hv, e1⟩, fun y H' pq55 => ?_⟩
 obtain ⟨e2, e3⟩ := pq55
 subst e2
 have := e3 vs hv
 rw [e1] at this; cases this
 exact ⟨Ex.refl, s, rv⟩
theorem Qd2 {ρ0 : List Addr} {H0 : Hp} {ds : List D} {p : Sto → Prop} {a : Addr} (h : ∀ ρ H st, Ex ρ0 H0 ρ H → SR K ρ H st → p st → ∃ vs, SqT K H a vs ∧ Reps K ρ H vs ds) : ItR K ρ0 H0 ⟨ds, p⟩ (Itt K a) := fun ρ H st x s q => by
 obtain ⟨vs, hv, r⟩ := h ρ H st x s q
 refine ⟨⟨vs, hv, by rw [r.length]; exact Nat.le_refl _⟩, fun i d e => ?_⟩
 obtain ⟨v, e1, rv⟩ := r.get e
 refine ⟨⟨vs, v, hv, e1⟩, fun y H' pq56 => ?_⟩
 obtain ⟨e2, e3⟩ := pq56
 subst e2
 have := e3 vs hv
 rw [e1] at this; cases this
 exact ⟨Ex.refl, s, rv⟩
theorem Qd3 {ρ0 : List Addr} {H0 : Hp} {lo : Int} {n : Nat} : ItR K ρ0 H0 ⟨rngD lo n, anySt⟩ (Itr lo n) := fun ρ H st x s _ => by
 refine ⟨by show n ≤ (rngD lo n).length; unfold rngD; simp, fun i d e => ?_⟩
 have hi : i < n := by
  have := (List.getElem?_eq_some_iff.mp e).1
  simpa [rngD] using this
 refine ⟨hi, fun y H' pq57 => ?_⟩
 obtain ⟨e2, e3⟩ := pq57
 subst e2 e3
 have : d = .int (lo + (i : Nat)) := by
  unfold rngD at e
  rw [List.getElem?_map, List.getElem?_range hi] at e
  exact (Option.some.inj e).symm
 subst this
 exact ⟨Ex.refl, s, .int _⟩
theorem Qd4 {l : Expr} {tl : TE} (hl : PE X l tl) : PI X tg l (fun σ H R => tl σ H fun x H1 => ∃ a, x = .ref a ∧ ((∃ xs, SqL X.K H1 a xs) ∧ R (Itl X.K a) H1 ∨ (∃ xs, SqT X.K H1 a xs) ∧ R (Itt X.K a) H1)) := by
 intro pins s σ H R I h
 refine thn (hl pins s σ H _ I h) fun v s1 pq58 => ?_
 obtain ⟨x, H1, I1, r1, a, e, q⟩ := pq58
 subst e
 cases r1
 rcases q with ⟨⟨xs, hq⟩, q⟩ | ⟨⟨xs, hq⟩, q⟩
 ·obtain ⟨its, rv, p, hz⟩ := I1.list hq
  refine wpAny_pyIter_list p.isList ?_
  refine ⟨s1.heap.objs.size, [s1.heap.objs.size], _, _, H1, rfl, I1.kept (t' := s1.toks) fun b o e => Heap.get?_push_of_some _ e, QaP a _, ⟨_, Heap.get?_push_size _ rfl, rfl, rfl⟩, fun b hb => ?_, q⟩
  have e : b = s1.heap.objs.size := by simpa using hb
  subst e
  exact I1.fpOk (Nat.le_refl _) (I1.hok.fresh (Nat.le_refl _))
 ·obtain ⟨its, rv, p, hz⟩ := I1.tuple hq
  refine wpAny_pyIter_tuple (show s1.heap.IsTuple a its.toArray from p) ?_
  refine ⟨s1.heap.objs.size, [s1.heap.objs.size], _, _, H1, rfl, I1.kept (t' := s1.toks) fun b o e => Heap.get?_push_of_some _ e, QaQ a _, ⟨_, Heap.get?_push_size _ rfl, rfl, rfl⟩, fun b hb => ?_, q⟩
  have e : b = s1.heap.objs.size := by simpa using hb
  subst e
  exact I1.fpOk (Nat.le_refl _) (I1.hok.fresh (Nat.le_refl _))
theorem Qd5 (h : SE X e fa) : SI X tg e (iSeq fa) := (Qd4 h).of fun σ H R h_ => h_.el fun ρ l st lr sr p => ⟨ρ, l, st, lr, sr, p.bnd.imp fun d st1 ρ1 H1 x1 s1 p1 v rv => by
 cases rv with
 | @tup a vs ds h r => exact ⟨a, rfl, .inr ⟨⟨vs, h⟩, p1.ret s1 _ (Qd2 fun ρ H st x s _ => ⟨vs, SqT.mono x.up h, r.mono x⟩)⟩⟩
 | @lit a vs ds h r => exact ⟨a, rfl, .inl ⟨⟨vs, h.seq⟩, p1.ret s1 _ (Qd1 fun ρ H st x s _ => ⟨vs, (FzL.mono x.up h).seq, r.mono x⟩)⟩⟩
 | @ref a n _ h =>
  obtain ⟨ds, e, p2⟩ := Post.getL (Post.bnd p1) s1
  obtain ⟨a', vs, ha, hv, r⟩ := s1.seq e
  rw [h] at ha; cases ha
  refine ⟨a, rfl, .inl ⟨⟨vs, SqL.of hv⟩, p2.ret s1 _ (Qd1 fun ρ H st x s q => ?_)⟩⟩
  obtain ⟨a2, ws, ha2, hw, rw'⟩ := s.seq q
  obtain ⟨τ, eτ, _⟩ := x.pre
  rw [eτ, QcB h] at ha2; cases ha2
  exact ⟨ws, SqL.of hw, rw'⟩
 | _ => exact p1.elim⟩
theorem Qd6 (h : SL X e ca) : SI X tg e (iTmp ca) := (QaS h).of fun σ H R h_ => h_.el fun ρ l st lr sr p => ⟨ρ, l, st, lr, sr, p.bnd.imp fun ds st1 ρ1 H1 x1 s1 p1 a vs ha na hv rvs =>
 ⟨a, rfl, ⟨vs, SqL.of hv⟩, p1.ret s1 _ (Qd1 fun ρ H st x s _ => ⟨vs, SqL.of (x.lst a vs na hv), rvs.mono x⟩)⟩⟩
theorem Qd7 {p : Pos} (hg : Gl X "range") (hm : X.mg "range" = none) (h : SE X a fa) (hs : starEach [a] X.env = [(false, eval a X.env)] := by rfl) : SI X tg (.Call (.Name "range" p) [a] [] pos) (MM.iRng1 fa) :=
 (QaU (tg := tg) (p := p) (pos := pos) hg hm (Qdx h Qdw hs) hs).of fun σ H R h_ => h_.el fun ρ l st lr sr p => ⟨ρ, l, st, lr, sr, by
  have q := Post.bnd p
  unfold cCons
  show Post X.K ρ H (bnd (fa l) _ st) _
  unfold MM.bnd
  cases e : fa l st with
  | bad => rw [e] at q; exact q
  | exc _ _ => rw [e] at q; exact q
  | ok d st1 =>
   rw [e] at q
   show ∀ ρ' H', Ex ρ H ρ' H' → SR X.K ρ' H' st1 → _
   intro ρ1 H1 x1 s1 vs rvs
   have p1 := q ρ1 H1 x1 s1
   cases rvs with
   | cons rv rt =>
    cases rt
    cases rv with
    | int j =>
     obtain ⟨⟨h1, h2⟩, p2⟩ := Post.chk p1
     exact ⟨j, rfl, h1, h2, p2.ret s1 _ Qd3⟩
    | _ => exact p1.elim⟩
theorem Post.chkS {p : Sto → Prop} {R : Unit → Sto → List Addr → Hp → Prop} (h : Post K ρ H (MM.chkS p st) R) (s : SR K ρ H st) : p st ∧ R () st ρ H := by
 unfold MM.chkS at h
 by_cases hp : p st
 ·rw [if_pos hp] at h; exact ⟨hp, h ρ H Ex.refl s⟩
 ·rw [if_neg hp] at h; exact h.elim
theorem Qd8 {iter : Expr} {body : List Stmt} {ci : CI} {g : CG} {cb : CS} (hp : PassesOwn (model X.prog X.w) X.A X.env X.xe) (hc : X.calm = true) (hi : SI X tg iter ci) (hg : SG X tg g) (hb : SSs X body cb)
  (hs : ∀ x, foldedSetIterable iter X.env x = pure x := by intro _; rfl) : SS X (.For tg iter body [] pos) (sFor ci g cb) := (QaX hp hc hi hg hb hs).of fun G σ H h_ => h_.el fun ρ l st lr sr p =>
 ⟨ρ, l, st, lr, sr, p.bnd.imp fun w st1 ρ1 H1 x1 s1 p1 J hJ => by
  refine ⟨fun i m σ' H' => m = w.ds.length - i ∧ i ≤ w.ds.length ∧ ∃ ρ' l' st', Ex ρ1 H1 ρ' H' ∧ LR X.K ρ' H' σ' l' ∧ SR X.K ρ' H' st' ∧ Post X.K ρ' H' (forD g cb w.same (w.ds.drop i) l' st') fun f _ ρ' H' => match f with
   | .next l' => ∀ σ', LR X.K ρ' H' σ' l' → G.nx σ' H'
   | .ret d => ∀ v, Rep X.K ρ' H' v d → G.rt v H'
   | .brk l' => ∀ σ', LR X.K ρ' H' σ' l' → G.bk σ' H'
   | .cnt l' => ∀ σ', LR X.K ρ' H' σ' l' → G.ct σ' H', ⟨w.ds.length, by simp, Nat.zero_le _, ρ1, l, st1, Ex.refl, lr.mono x1, s1, p1⟩, ?_⟩
  rintro i m σ2 H2 ⟨rfl, hi, ρ2, l2, st2, x2, lr2, s2, p2⟩
  by_cases hlt : i < w.ds.length
  ·have ed : w.ds.drop i = w.ds[i] :: w.ds.drop (i + 1) := List.drop_eq_getElem_cons hlt
   rw [ed] at p2
   unfold forD at p2
   obtain ⟨sm, p3⟩ := Post.chkS (Post.bnd p2) s2
   obtain ⟨_, go⟩ := hJ ρ2 H2 st2 x2 s2 sm
   obtain ⟨g1, g2⟩ := go i w.ds[i] (List.getElem?_eq_getElem hlt)
   refine .inr ⟨g1, fun σ3 H3 => ∃ ρ3 l3 st3, Ex ρ1 H1 ρ3 H3 ∧ LR X.K ρ3 H3 σ3 l3 ∧ SR X.K ρ3 H3 st3 ∧ Post X.K ρ3 H3 (forD g cb w.same (w.ds.drop (i + 1)) l3 st3) fun f _ ρ' H' => match f with
    | .next l' => ∀ σ', LR X.K ρ' H' σ' l' → G.nx σ' H'
    | .ret d => ∀ v, Rep X.K ρ' H' v d → G.rt v H'
    | .brk l' => ∀ σ', LR X.K ρ' H' σ' l' → G.bk σ' H'
    | .cnt l' => ∀ σ', LR X.K ρ' H' σ' l' → G.ct σ' H', fun σ3 H3 q => ⟨_, by ac_nf, rfl, hlt, q⟩, fun y H3 hy => ?_⟩
   obtain ⟨x3, s3, rv⟩ := g2 y H3 hy
   refine ⟨ρ2, l2, st2, _, lr2.mono x3, s3, rv, (Post.left x3 (Post.bnd p3)).imp fun l4 st4 ρ4 H4 x4 s4 p4 σ4 lr4 => ⟨ρ4, l4, st4, lr4, s4, (Post.bnd p4).imp fun f st5 ρ5 H5 x5 s5 p5 => ?_⟩⟩
   have x5' : Ex ρ1 H1 ρ5 H5 := (x2.trans x3).trans (x4.trans x5)
   cases f with
   | next l5 => exact fun σ5 lr5 => ⟨ρ5, l5, st5, x5', lr5, s5, p5⟩
   | cnt l5 => exact fun σ5 lr5 => ⟨ρ5, l5, st5, x5', lr5, s5, p5⟩
   | brk l5 => exact fun σ5 lr5 => p5.ret s5 σ5 lr5
   | ret d => exact fun v rv => p5.ret s5 v rv
  ·have e : i = w.ds.length := by ac_nf
   subst e
   rw [List.drop_length] at p2
   unfold forD at p2
   obtain ⟨sm, p3⟩ := Post.chkS (Post.bnd p2) s2
   obtain ⟨g1, _⟩ := hJ ρ2 H2 st2 x2 s2 sm
   exact .inl ⟨g1, p3.ret s2 σ2 lr2⟩⟩
end
end MM
namespace MM
open PySem PySem.Spec PyProof.Rows L2
section
variable {X : Cx} {a b c e tg : Expr} {es : List Expr} {pos : Pos} {fa fb fc : CE} {ca cb : CA} {ta tb : CT} {K : PySem.W.Frag} {ρ : List Addr} {H : Hp} {st : Sto} {x : Str} {p : Pos} {id T : String}
theorem Qd9 {n : Nat} {ix : List Nat} {σ : St} {l : Loc} (h : LR K ρ H σ l) : LR K ρ H (capV n ix σ) (capt n ix l) := by
 unfold capV capt
 refine ⟨by simp, fun i d e => ?_⟩
 have hi : n ≤ i := Nat.le_of_not_lt fun z => by
  rw [List.getElem?_append_left (by simpa using z), List.getElem?_replicate] at e
  split at e <;> cases e
 rw [List.getElem?_append_right (by simpa using hi), List.length_replicate, List.getElem?_map] at e
 cases q : ix[i - n]? with
 | none => rw [q] at e; cases e
 | some k =>
  rw [q] at e
  have hj : (l[k]?).join = some d := Option.some.inj e
  have hk : l[k]? = some (some d) := by
   cases z : l[k]? with
   | none => rw [z] at hj; cases hj
   | some o => rw [z] at hj; exact congrArg some hj
  obtain ⟨v, hv, rv⟩ := h.2 k d hk
  refine ⟨v, ?_, rv⟩
  rw [List.getElem?_append_right (by simpa using hi), List.length_replicate, List.getElem?_map, q]
  show some ((σ[k]?).join) = some (some v)
  rw [hv]; rfl
abbrev SIfs (X : Cx) (ifs : List Expr) (t : CT) : Prop := PIfs X ifs (ttOf X.K t)
theorem Qea : SIfs X [] tTrue := fun pins s σ H Q I h_ => h_.el fun ρ l st lr sr p => Qdj pins s σ H Q I (p.ret sr)
theorem Qeb (h : ST X c ta) : SIfs X [c] ta := Qdk h
theorem Ex.own {ρ' : List Addr} {H' : Hp} {q : Addr} {ws : List V} (x : Ex ρ H ρ' H') (h : H q = none) : Ex ρ H ρ' (upd H' q (.lst ws)) := by
 have ne : ∀ b o, H b = some o → b ≠ q := fun b o e z => by rw [z, h] at e; cases e
 exact ⟨x.pre, fun b o no e => by rw [Qaj (ne b o e)]; exact x.fix b o no e, fun b xs nb e => by rw [Qaj (ne b _ e)]; exact x.oth b xs nb e, fun b o e => by rw [Qaj (ne b o e)]; exact x.knd b o e⟩
theorem Up.own {ρ' : List Addr} {H' : Hp} {q : Addr} {vs ws : List V} (h : H' q = some (.lst vs)) : Up ρ' H' ρ' (upd H' q (.lst ws)) :=
 ⟨⟨[], by simp⟩, fun b o no e => by rw [Qaj fun z => by subst z; rw [h] at e; cases e; exact nomatch no]; exact e,
  fun b o e => by
   by_cases z : b = q
   ·subst z; rw [h] at e; cases e; exact ⟨_, Qai, rfl⟩
   ·exact ⟨o, by rw [Qaj z]; exact e, rfl⟩⟩
theorem LR.up {ρ' : List Addr} {H' : Hp} {σ : St} {l : Loc} (x : Up ρ H ρ' H') (h : LR K ρ H σ l) : LR K ρ' H' σ l := ⟨h.1, fun i d e => let ⟨v, e1, r⟩ := h.2 i d e; ⟨v, e1, r.up x⟩⟩
theorem SR.own {q : Addr} {vs ws : List V} (s : SR K ρ H st) (h : H q = some (.lst vs)) (nq : q ∉ ρ) : SR K ρ (upd H q (.lst ws)) st :=
 ⟨s.len, s.nd, fun n b o e1 e2 => ObR.mono (o := o) (Up.own h) (s.ob n b o e1 e2) fun us e => by rw [Qaj (fun (z : b = q) => nq (by rw [← z]; exact List.mem_of_getElem? e1))]; exact e⟩
theorem Qec {ci : CI} {g : CG} {n : Nat} {ix : List Nat} : ∀ σ H Q, tlOf K (aComp n ix ci g ta fa) σ H Q → tComp (tiOf K ci) n ix (tgOf K g) (ttOf K ta) (tOf K fa) σ H Q := fun σ H Q h_ => h_.el fun ρ l st lr sr p =>
 ⟨ρ, l, st, lr, sr, p.bnd0.imp fun w st1 ρ1 H1 x1 s1 p1 J hJ q hq => by
  obtain ⟨hz, p2⟩ := Post.chk p1
  have hn : H q = none := by
   cases z : H q with
   | none => rfl
   | some o => exact absurd hq (x1.trk q o z)
  refine ⟨fun i m σ' H' => m = w.ds.length - i ∧ i ≤ w.ds.length ∧ ∃ ρ' l' st' done vs, Ex ρ H ρ' H' ∧ Ex ρ1 H1 ρ' H' ∧ LR K ρ' H' σ' l' ∧ SR K ρ' H' st' ∧ q ∉ ρ' ∧ H' q = some (.lst vs) ∧ Reps K ρ' H' vs done ∧ done.length ≤ i ∧
   Post K ρ H (collect g ta fa w.same (w.ds.drop i) l' st') (fun rest st2 ρ2 H2 => ∀ a ws, H a = none → a ∉ ρ2 → H2 a = some (.lst ws) → Reps K ρ2 H2 ws (done ++ rest) → Q (.ref a) H2),
   ⟨w.ds.length, by simp, Nat.zero_le _, ρ1, capt n ix l, st1, [], [], x1.trans (Ex.new hq), Ex.new hq, Qd9 ((lr.mono x1).mono (Ex.new hq)), s1.new hq, s1.fresh hq, Qai, .nil, Nat.zero_le _, p2⟩, ?_⟩
  rintro i m σ2 H2 ⟨rfl, hi, ρ2, l2, st2, done, vs, x2, y2, lr2, s2, nq, hv, rvs, hd, p3⟩
  by_cases hlt : i < w.ds.length
  ·have ed : w.ds.drop i = w.ds[i] :: w.ds.drop (i + 1) := List.drop_eq_getElem_cons hlt
   rw [ed] at p3
   unfold collect at p3
   obtain ⟨sm, p4⟩ := Post.chkS (p3.bnd0.left x2) s2
   obtain ⟨_, go⟩ := hJ ρ2 H2 st2 y2 s2 sm
   obtain ⟨g1, g2⟩ := go i w.ds[i] (List.getElem?_eq_getElem hlt)
   refine .inr ⟨g1, fun y H3 hy => ?_⟩
   obtain ⟨x3, s3, rv⟩ := g2 y H3 hy
   refine ⟨ρ2, l2, st2, _, lr2.mono x3, s3, rv, (p4.bnd0.left (x2.trans x3)).imp fun l4 st4 ρ4 H4 x4 s4 p5 σ4 lr4 => ⟨ρ4, l4, st4, lr4, s4, (p5.bnd0.left (x2.trans (x3.trans x4))).imp fun b st5 ρ5 H5 x5 s5 p6 => ?_⟩⟩
   have y5 : Ex ρ2 H2 ρ5 H5 := x3.trans (x4.trans x5)
   have out : ∀ {ρ' : List Addr} {H' : Hp}, Ex ρ2 H2 ρ' H' → q ∉ ρ' := fun z hm => by
    obtain ⟨τ, e, f⟩ := z.pre
    rw [e] at hm
    rcases List.mem_append.mp hm with hm | hm
    ·exact nq hm
    ·rw [f q hm] at hv; cases hv
   cases b with
   | false => exact ⟨_, by ac_nf, rfl, hlt, ρ5, l4, st5, done, vs, x2.trans y5, y2.trans y5, lr4.mono x5, s5, out y5, y5.lst q vs nq hv, rvs.mono y5, Nat.le_succ_of_le hd, p6⟩
   | true =>
    refine ⟨ρ5, l4, st5, lr4.mono x5, s5, (p6.bnd0.left (x2.trans y5)).imp fun d st6 ρ6 H6 x6 s6 p7 v rv6 => ?_⟩
    have y6 : Ex ρ2 H2 ρ6 H6 := y5.trans x6
    have hv6 := y6.lst q vs nq hv
    have u6 : Up ρ6 H6 ρ6 (upd H6 q (.lst (vs ++ [v]))) := Up.own hv6
    refine ⟨vs, hv6, ?_, _, by ac_nf, rfl, hlt, ρ6, l4, st6, done ++ [d], vs ++ [v], (x2.trans y6).own hn, (y2.trans y6).own hq, LR.up u6 ((lr4.mono x5).mono x6), s6.own hv6 (out y6), out y6, Qai,
     Reps.app ((rvs.mono y6).up u6) (.cons (rv6.up u6) .nil), by simp; ac_nf, ?_⟩
    ·have e1 := rvs.length
     have e2 : w.ds.length ≤ sizeLine := hz
     ac_nf
    ·refine p7.bnd0.imp fun rest st8 ρ8 H8 x8 s8 p8 a ws ha na hw rws => ?_
     exact p8 ρ8 H8 x8 s8 a ws ha na hw (by rw [List.append_cons]; exact rws)
  ·have e : i = w.ds.length := by ac_nf
   subst e
   rw [List.drop_length] at p3
   unfold collect at p3
   obtain ⟨sm, p4⟩ := Post.chkS (p3.bnd0.left x2) s2
   obtain ⟨g1, _⟩ := hJ ρ2 H2 st2 y2 s2 sm
   refine .inl ⟨g1, p4 ρ2 H2 x2 s2 q vs hn nq hv (by rw [List.append_nil]; exact rvs)⟩⟩
theorem Qed {scope : Scope} {N : List Str} {ifs : List Expr} {n : Nat} {ix : List Nat} {ci : CI} {g : CG} (hc : X.calm = true) (S : CompScope X scope) (T : CompNames X scope N n ix) (hi : SI X tg b ci)
  (blk : ∀ (fp : List Addr) (s : Shared) (H : Hp), SG (cxC X N scope fp s H) tg g ∧ SIfs (cxC X N scope fp s H) ifs ta ∧ SE (cxC X N scope fp s H) e fa)
  (hs : ∀ x, foldedSetIterable b X.env x = pure x := by intro _; rfl) : SL X (.ListComp e [⟨tg, b, ifs, 0⟩] scope pos) (aComp n ix ci g ta fa) := (Qdm hc S T hi blk hs).of Qec
theorem Qee {scope : Scope} {N : List Str} {ifs : List Expr} {n i : Nat} {ix : List Nat} {ci : CI} {g : CG} {y : Str} {pos' spos : Pos}
  (hN : X.N.Nodup) (hi' : X.N[i]? = some y) (hy : L2.Loc X.env.scope y) (hf : X.fn y = true ∨ X.env.scope.names.lookup y = some .local)
  (hc : X.calm = true) (S : CompScope X scope) (T : CompNames X scope N n ix) (hi : SI X tg b ci)
  (blk : ∀ (fp : List Addr) (s : Shared) (H : Hp), SG (cxC X N scope fp s H) tg g ∧ SIfs (cxC X N scope fp s H) ifs ta ∧ SE (cxC X N scope fp s H) e fa)
  (hsw : swapsWith (.ListComp e [⟨tg, b, ifs, 0⟩] scope pos) (some (.Name y pos')) spos.line X.env = pure true)
  (hs : ∀ x, foldedSetIterable b X.env x = pure x := by intro _; rfl) : SS X (.Assign [.Name y pos'] (.ListComp e [⟨tg, b, ifs, 0⟩] scope pos) spos) (sAsg (gVar i) (cKeep (aComp n ix ci g ta fa))) :=
 (Qdn hN hi' hy hf hc S T hi blk hsw hs).of (QdU (fun σ H Q h_ => h_.el fun ρ l st lr sr p => Qec _ _ _ ⟨ρ, l, st, lr, sr, p.bnd0.imp fun ds st1 ρ1 H1 x1 s1 p1 a vs ha na hv rvs => by
  have x : Ex ρ H (ρ1 ++ [a]) H1 := by
   obtain ⟨τ, e, f⟩ := x1.pre
   refine ⟨⟨τ ++ [a], by rw [e, List.append_assoc], fun b hb => ?_⟩, x1.fix, x1.oth, x1.knd⟩
   rcases List.mem_append.mp hb with hb | hb
   ·exact f b hb
   ·rw [List.mem_singleton] at hb; rw [hb]; exact ha
  refine p1 (ρ1 ++ [a]) H1 x (s1.keep hv na rvs) _ (.ref ⟨_, hv, rfl⟩ ?_)
  rw [← s1.len]; simp⟩) QdV)
theorem Qef {g : D → M D} (hc : CallR X (.builtin id) (fun xs H Q => ∃ v, xs = [v] ∧ uOf X.K g v H Q)) (hg : Gl X x) (hm : X.mg x = none) (hv : bootBuiltins x = some (.builtin id)) (ha : SE X e fa) (hn : x ≠ "__name__" := by decide) (hdb : (x == ("__debug__" : Str)) = false := by decide)
  (he : starEach [e] X.env = [(false, eval e X.env)] := by rfl) : SE X (.Call (.Name x p) [e] [] pos) (c1 g fa) :=
 (Qbz hc hg hm hv (Qbn ha Qbm he) hn hdb he rfl).of fun σ H Q h_ => h_.el fun ρ l st lr sr p => ⟨ρ, l, st, lr, sr, p.bnd.imp fun d st1 ρ1 H1 x1 s1 p1 v rv => ⟨v, rfl, ρ1, st1, d, s1, rv, p1⟩⟩
theorem Qeg {prog : Program} {w : World} {A : Around} {E : Value → Shared → Prop} {s : Shared} {K : Type} [DecidableEq K] {knd : HeapKind prog w K} {d : Addr} {xs : List (K × Addr × Value)} {Q : Value → Shared → Prop} (hd : (d == sysModules) = false) (hm : s.heap.DictOfH knd d xs) (hfit : (xs.length : Int) < 2 ^ 63)
  (h : Q (.int xs.length (s.toks + 1)) { s with toks := s.toks + 1 + 1 }) : wpAny (model prog w) A (call (.builtin "len") [.ref d]) Q E s := by
 refine Calls.call_function_entry kind_len plain_len entry_len (args_len1 _) ?_
 unfold Builtin.«len»
 have meet : MeetsIn prog w (Builtin.«dict.__len__» ⟨[.ref d], []⟩) (fun _ R s => ∃ xs, s.heap.DictOfH knd d xs ∧ R (.ok (.ret (.int xs.length s.toks))) { s with toks := s.toks + 1 }) := .of_wp fun A R s pq59 => by
  obtain ⟨xs, hm, h⟩ := pq59
  obtain ⟨o, es, ep, ho, hc, hdat, he, _, hn⟩ := hm
  show wpAny _ _ (dictSize d >>= _) _ _ s
  unfold dictSize
  refine wpAny_bind (wpAny_bind (wpAny_dictEntries ho hdat (wpAny_pure ?_)))
  show wpAny _ _ (Builtin.Dict.pendingCount d >>= _) _ _ s
  refine wpAny_bind (wpAny_pendingCount_other hd ?_)
  refine wpAny_ret_mkInt ?_
  rw [Nat.add_zero, size_of_entries he]; exact h
 refine wpAny_bind (m := oneArg "len" _) (wpAny_pure ?_)
 refine wpAny_bind (m := callSpecial? (.ref d) (Str.ofString "__len__")) (wpAny_callSpecial?_slot (name := Str.ofString "__len__") hm.typeIs F.slot_dict_len
  (call_meetsIn F.slot_dict_len hm.typeIs F.entry_dict_len (F.args_dict_len_1 _) meet ⟨xs, hm, ?_⟩))
 show wpAny _ _ _ _ _ { s with toks := s.toks + 1 }
 refine wpAny_bind (wpAny_holding (wpAny_pure ?_))
 refine wpAny_bind (wpAny_letGo ?_)
 show wpAny _ _ (if ((xs.length : Nat) : Int) < 0 then _ else _) _ _ _
 rw [if_neg (by ac_nf)]
 show wpAny _ _ (if ((xs.length : Nat) : Int) ≥ 2 ^ 63 then _ else _) _ _ _
 rw [if_neg (by ac_nf)]
 exact wpAny_bind (wpAny_mkInt (wpAny_pure ⟨_, rfl, h⟩))
theorem Qeh : CallR X (.builtin "len") (fun xs H Q => ∃ (ρ : List Addr) (st : Sto) (n : Nat) (a : Addr) (b : Bool) (kvs : List (D × D)), xs = [.ref a] ∧ SR X.K ρ H st ∧ ρ[n]? = some a ∧ st[n]? = some (.dct b kvs) ∧ Q (.int kvs.length) H) := by
 intro pins s σ H xs us Q I r pq83; obtain ⟨ρ, st, n, a, b, kvs, e, sr, ha, hn, q⟩ := pq83
 subst e
 obtain ⟨u, rfl, ru⟩ := Qbg r
 cases ru
 have g := sr.ob n a _ ha hn
 cases b with
 | false =>
  obtain ⟨es, e, r⟩ := g
  rw [← KR.length r] at q
  exact Qco I (.inl e) fun t s' I' => ⟨.int es.length, H, I', ⟨t, rfl⟩, q⟩
 | true =>
  obtain ⟨es, e, r⟩ := g
  obtain ⟨z, hd, xs, rx, dd⟩ := QcY I e r
  rw [← NR.length r, Paired.length rx] at q
  have hz : xs.length ≤ sizeLine := by rw [← Paired.length rx]; exact z
  exact Qeg hd dd (by rw [sizeLine_eq] at hz; ac_nf) ⟨.int xs.length, H, I.tok _, ⟨_, rfl⟩, q⟩
theorem Qei : CallR X (.builtin "len") (fun xs H Q => ∃ v, xs = [v] ∧ uOf X.K lenD v H Q) := ((QbQ.or QbR).or Qeh).of fun xs H Q pq60 => by
 obtain ⟨v, e, ρ, st, d, sr, rv, p⟩ := pq60
 cases rv with
 | @tup a vs ds h r => exact .inl (.inl ⟨a, vs, e, .inr h, by rw [r.length]; exact p.ret sr _ (.int _)⟩)
 | @lit a vs ds h r => exact .inl (.inl ⟨a, vs, e, .inl h.seq, by rw [r.length]; exact p.ret sr _ (.int _)⟩)
 | @ref a n _ h =>
  obtain ⟨ds, e2, p1⟩ := Post.getL (Post.bnd p) sr
  obtain ⟨a', vs, ha, hv, r⟩ := sr.seq e2
  rw [h] at ha; cases ha
  exact .inl (.inl ⟨a, vs, e, .inl (SqL.of hv), by rw [r.length]; exact p1.ret sr _ (.int _)⟩)
 | str z => exact .inl (.inr ⟨z, e, (Post.chk p).1, (Post.chk p).2.ret sr _ (.int _)⟩)
 | @dic a n _ h =>
  obtain ⟨b, kvs, e2, p1⟩ := Post.getDc (Post.bnd p) sr
  exact .inr ⟨ρ, st, n, a, b, kvs, e, sr, h, e2, p1.ret sr _ (.int _)⟩
 | _ => exact p.elim
end
end MM
namespace MM
open PySem PySem.Spec PyProof.Rows L2
section
variable {X : Cx} {a b c e tg : Expr} {es : List Expr} {pos : Pos} {fa fb fc : CE} {ca cb : CA} {ta tb : CT} {K : PySem.W.Frag} {ρ : List Addr} {H : Hp} {st : Sto} {x : Str} {p : Pos} {T : String}
structure TyTab (T : String) : Prop where
 non : ∀ K, PySem.W.kitOne K (.type "NoneType") (.type T) = some (["NoneType"].contains T)
 bl : ∀ K, PySem.W.kitOne K (.type "bool") (.type T) = some (["bool", "int"].contains T)
 int : ∀ K, PySem.W.kitOne K (.type "int") (.type T) = some (["int"].contains T)
 str : ∀ K, PySem.W.kitOne K (.type "str") (.type T) = some (["str"].contains T)
 tup : ∀ K, PySem.W.kitOne K (.type "tuple") (.type T) = some (["tuple"].contains T)
 lst : ∀ K, PySem.W.kitOne K (.type "list") (.type T) = some (["list"].contains T)
end
end MM
namespace MM
open PySem PySem.Spec PyProof.Rows L2
section
variable {X : Cx} {K : PySem.W.Frag} {ρ : List Addr} {H : Hp} {st : Sto} {pins : List (Addr × Obj)} {σ : St} {s : Shared}
theorem Qej {f : D → D → Option Bool} : ∀ {xs ys : List D} {r : Bool}, allF f xs ys = some r → ∀ (j : Nat) (x y : D), xs[j]? = some x → ys[j]? = some y → ∃ k, f x y = some k
 | [], _, _, _, j, x, y, h, _ => by cases j <;> cases h
 | _ :: _, [], _, _, j, x, y, _, h => by cases j <;> cases h
 | a :: xs, b :: ys, r, h, j, x, y, hx, hy => by
  unfold allF at h
  cases e : f a b with
  | none => rw [e] at h; cases h
  | some k =>
   cases j with
   | zero => cases hx; cases hy; exact ⟨k, e⟩
   | succ j =>
    rw [e] at h
    have hx' : xs[j]? = some x := hx
    have hy' : ys[j]? = some y := hy
    cases k with
    | true => exact Qej h j x y hx' hy'
    | false =>
     cases e2 : allF f xs ys with
     | none => rw [e2] at h; cases h
     | some r' => exact Qej e2 j x y hx' hy'
noncomputable def itE (f : D → D → Option Bool) (xs ys : List D) (j : Nat) : Bool := match xs[j]?, ys[j]? with
 | some x, some y => (f x y).getD false
 | _, _ => true
theorem Qek {f : D → D → Option Bool} : ∀ {xs ys : List D} {r : Bool}, allF f xs ys = some r → r = ((List.range (min xs.length ys.length)).all (itE f xs ys) && xs.length == ys.length)
 | [], [], _, h => by cases h; rfl
 | _ :: _, [], _, h => by cases h; simp
 | [], _ :: _, _, h => by cases h; simp
 | a :: xs, b :: ys, r, h => by
  have step : (List.range (min (a :: xs).length (b :: ys).length)).all (itE f (a :: xs) (b :: ys)) = ((f a b).getD false && (List.range (min xs.length ys.length)).all (itE f xs ys)) := by
   have e : min (a :: xs).length (b :: ys).length = min xs.length ys.length + 1 := by simp only [List.length_cons]; ac_nf
   rw [e, List.range_succ_eq_map, List.all_cons, List.all_map]
   rfl
  rw [step]
  unfold allF at h
  cases e : f a b with
  | none => rw [e] at h; cases h
  | some k =>
   rw [e] at h
   cases k with
   | true =>
    have := Qek h
    simp only [Option.getD_some, Bool.true_and, List.length_cons]
    rw [this]
    congr 1
    rw [Bool.eq_iff_iff]; simp
   | false =>
    simp only [Option.getD_some, Bool.false_and]
    cases e2 : allF f xs ys with
    | none => rw [e2] at h; cases h
    | some r' => rw [e2] at h; cases h; rfl
theorem Vals.at {vs : List V} {us : List Value} {j : Nat} {u : Value} (r : Vals vs us) (h : us[j]? = some u) : ∃ v, vs[j]? = some v ∧ RelV v u := by
 have hl := r.length
 have hj : j < vs.length := by rw [hl]; exact (List.getElem?_eq_some_iff.mp h).1
 obtain ⟨u', e, ru⟩ := r.get (List.getElem?_eq_getElem hj)
 rw [h] at e; cases e
 exact ⟨_, List.getElem?_eq_getElem hj, ru⟩
theorem Reps.at {vs : List V} {ds : List D} {j : Nat} {v : V} (r : Reps K ρ H vs ds) (h : vs[j]? = some v) : ∃ d, ds[j]? = some d ∧ Rep K ρ H v d := by
 have hl := r.length
 have hj : j < ds.length := by rw [← hl]; exact (List.getElem?_eq_some_iff.mp h).1
 obtain ⟨v', e, rv⟩ := r.get (List.getElem?_eq_getElem hj)
 rw [h] at e; cases e
 exact ⟨_, List.getElem?_eq_getElem hj, rv⟩
theorem Qel {g : List D → List D → Option Bool} {v : V} {d e : D} {r : Bool} (I : Inv X pins σ H s) (hg : ∀ xs ys vs k, Reps X.K ρ H vs xs → Reps X.K ρ H vs ys → g xs ys = some k → k = true) (h : eqS g d e = some r) (r1 : Rep X.K ρ H v d) (r2 : Rep X.K ρ H v e) : r = true := by
 cases r1 with
 | non => cases r2; cases h; rfl
 | bl b => cases r2; cases h; simp
 | int b => cases r2; cases h; simp
 | str b => cases r2; cases h; simp
 | tup h1 q1 =>
  cases r2 with
  | tup h2 q2 =>
   have := I.tuple_inj h1 h2
   subst this
   exact hg _ _ _ _ q1 q2 h
  | _ => cases h
 | lit _ _ => cases r2 <;> cases h
 | ref _ _ => cases r2 <;> cases h
 | dic _ _ => cases r2 <;> cases h
 | exn0 _ _ => cases r2 <;> cases h
 | exn _ _ _ _ => cases r2 <;> cases h
theorem Qem {f : D → D → Option Bool} (hf : ∀ v d e k, Rep K ρ H v d → Rep K ρ H v e → f d e = some k → k = true) {xs ys : List D} {vs : List V} {k : Bool} (h1 : Reps K ρ H vs xs) (h2 : Reps K ρ H vs ys) (h : allF f xs ys = some k) : k = true := by
 induction xs generalizing ys vs k with
 | nil => cases h1; cases h2; cases h; rfl
 | cons x xs ih =>
  cases h1 with
  | cons a b => cases h2 with
   | cons c d =>
    unfold allF at h
    cases e : f _ _ with
    | none => rw [e] at h; cases h
    | some k =>
     rw [e] at h
     have := hf _ _ _ _ a c e
     subst this
     exact ih b d h
theorem Qen (I : Inv X pins σ H s) : ∀ (n : Nat) {v : V} {d e : D} {r : Bool}, eqF n d e = some r → Rep X.K ρ H v d → Rep X.K ρ H v e → r = true
 | 0, _, _, _, _, h, r1, r2 => Qel I (fun _ _ _ _ _ _ z => by cases z) h r1 r2
 | n + 1, _, _, _, _, h, r1, r2 => Qel I (fun xs ys vs k q1 q2 z => Qem (fun v d e k a b c => Qen I n c a b) q1 q2 z) h r1 r2
open SeqAt in
theorem Qeo {g : List D → List D → Option Bool} {A : Around} {v w : V} {u1 u2 : Value} {d e : D} {r : Bool} (I : Inv X pins σ H s) (hu : A.units < cLine)
  (hg : ∀ xs ys k, g xs ys = some k → ∀ vs ws its its2, Reps X.K ρ H vs xs → Reps X.K ρ H ws ys → Vals vs its → Vals ws its2 →
   ∃ e : Nat → Bool, k = ((List.range (min its.length its2.length)).all e && its.length == its2.length) ∧ ∀ (j : Nat) x y, its[j]? = some x → its2[j]? = some y → EqAt A.in1 s x y (e j))
  (hs : ∀ xs ys vs k, Reps X.K ρ H vs xs → Reps X.K ρ H vs ys → g xs ys = some k → k = true)
  (h : eqS g d e = some r) (r1 : Rep X.K ρ H v d) (r2 : Rep X.K ρ H w e) (v1 : RelV v u1) (v2 : RelV w u2) : RcAt A s u1 u2 r ∧ RcNeAt A s u1 u2 (!r) ∧ EqAt A s u1 u2 r := by
 cases r1 with
 | lit _ _ => cases r2 <;> cases h
 | ref _ _ => cases r2 <;> cases h
 | dic _ _ => cases r2 <;> cases h
 | exn0 _ _ => cases r2 <;> cases h
 | exn _ _ _ _ => cases r2 <;> cases h
 | non =>
  cases (show u1 = Value.none from v1)
  cases r2 with
  | non => cases (show u2 = Value.none from v2); cases h; exact ⟨.none_none, .none_none, .same _⟩
  | bl b => cases (show u2 = Value.bool b from v2); cases h; exact ⟨.none_bool b, .none_bool b, .none_bool b⟩
  | int b => obtain ⟨t, rfl⟩ := (show ∃ t, u2 = Value.int b t from v2); cases h; exact ⟨.none_int b t, .none_int b t, .none_int b t⟩
  | str b => obtain ⟨t, rfl⟩ := (show ∃ t, u2 = Value.str b t from v2); cases h; exact ⟨.none_str b t, .none_str b t, .none_str b t⟩
  | tup h2 q2 => cases (show u2 = Value.ref _ from v2); cases h; obtain ⟨_, _, p, _⟩ := I.tuple h2; exact ⟨.none_tuple p hu, .none_tuple p hu, .none_tuple p hu⟩
  | _ => cases h
 | bl a =>
  cases (show u1 = Value.bool a from v1)
  cases r2 with
  | non => cases (show u2 = Value.none from v2); cases h; exact ⟨.bool_none a, .bool_none a, .bool_none a⟩
  | bl b => cases (show u2 = Value.bool b from v2); cases h; exact ⟨.bool_bool a b, .bool_bool a b, .bool_bool a b⟩
  | int b => obtain ⟨t, rfl⟩ := (show ∃ t, u2 = Value.int b t from v2); cases h; exact ⟨.bool_int a b t, .bool_int a b t, .bool_int a b t⟩
  | str b => obtain ⟨t, rfl⟩ := (show ∃ t, u2 = Value.str b t from v2); cases h; exact ⟨.bool_str a b t, .bool_str a b t, .bool_str a b t⟩
  | tup h2 q2 => cases (show u2 = Value.ref _ from v2); cases h; obtain ⟨_, _, p, _⟩ := I.tuple h2; exact ⟨.bool_tuple a p hu, .bool_tuple a p hu, .bool_tuple a p hu⟩
  | _ => cases h
 | int a =>
  obtain ⟨t1, rfl⟩ := (show ∃ t, u1 = Value.int a t from v1)
  cases r2 with
  | non => cases (show u2 = Value.none from v2); cases h; exact ⟨.int_none a t1, .int_none a t1, .int_none a t1⟩
  | bl b => cases (show u2 = Value.bool b from v2); cases h; exact ⟨.int_bool a t1 b, .int_bool a t1 b, .int_bool a t1 b⟩
  | int b => obtain ⟨t, rfl⟩ := (show ∃ t, u2 = Value.int b t from v2); cases h; exact ⟨.int_int a t1 b t, .int_int a t1 b t, .int_int a t1 b t⟩
  | str b => obtain ⟨t, rfl⟩ := (show ∃ t, u2 = Value.str b t from v2); cases h; exact ⟨.int_str a t1 b t, .int_str a t1 b t, .int_str a t1 b t⟩
  | tup h2 q2 => cases (show u2 = Value.ref _ from v2); cases h; obtain ⟨_, _, p, _⟩ := I.tuple h2; exact ⟨.int_tuple a t1 p hu, .int_tuple a t1 p hu, .int_tuple a t1 p hu⟩
  | _ => cases h
 | str a =>
  obtain ⟨t1, rfl⟩ := (show ∃ t, u1 = Value.str a t from v1)
  cases r2 with
  | non => cases (show u2 = Value.none from v2); cases h; exact ⟨.str_none a t1, .str_none a t1, .str_none a t1⟩
  | bl b => cases (show u2 = Value.bool b from v2); cases h; exact ⟨.str_bool a t1 b, .str_bool a t1 b, .str_bool a t1 b⟩
  | int b => obtain ⟨t, rfl⟩ := (show ∃ t, u2 = Value.int b t from v2); cases h; exact ⟨.str_int a t1 b t, .str_int a t1 b t, .str_int a t1 b t⟩
  | str b => obtain ⟨t, rfl⟩ := (show ∃ t, u2 = Value.str b t from v2); cases h; exact ⟨.str_str a t1 b t, .str_str a t1 b t, .str_str a t1 b t⟩
  | tup h2 q2 => cases (show u2 = Value.ref _ from v2); cases h; obtain ⟨_, _, p, _⟩ := I.tuple h2; exact ⟨.str_tuple a t1 p hu, .str_tuple a t1 p hu, .str_tuple a t1 p hu⟩
  | _ => cases h
 | @tup l1 vs xs h1 q1 =>
  cases (show u1 = Value.ref _ from v1)
  obtain ⟨its, rv, p, _⟩ := I.tuple h1
  cases r2 with
  | non => cases (show u2 = Value.none from v2); cases h; exact ⟨.tuple_none p hu, .tuple_none p hu, .tuple_none p hu⟩
  | bl b => cases (show u2 = Value.bool b from v2); cases h; exact ⟨.tuple_bool b p hu, .tuple_bool b p hu, .tuple_bool b p hu⟩
  | int b => obtain ⟨t, rfl⟩ := (show ∃ t, u2 = Value.int b t from v2); cases h; exact ⟨.tuple_int b t p hu, .tuple_int b t p hu, .tuple_int b t p hu⟩
  | str b => obtain ⟨t, rfl⟩ := (show ∃ t, u2 = Value.str b t from v2); cases h; exact ⟨.tuple_str b t p hu, .tuple_str b t p hu, .tuple_str b t p hu⟩
  | @tup l2 ws ys h2 q2 =>
   cases (show u2 = Value.ref _ from v2)
   obtain ⟨its2, rw', p2, _⟩ := I.tuple h2
   obtain ⟨ef, ek, he⟩ := hg xs ys r h vs ws its its2 q1 q2 rv rw'
   have hit : ∀ j (a1 : j < its.toArray.size) (a2 : j < its2.toArray.size), EqAt A.in1 s its.toArray[j] its2.toArray[j] (ef j) := fun j a1 a2 =>
    he j _ _ (by rw [List.getElem_toArray]; exact List.getElem?_eq_getElem (by simpa using a1)) (by rw [List.getElem_toArray]; exact List.getElem?_eq_getElem (by simpa using a2))
   have k1 := RcAt.tuples (A := A) (s := s) p p2 hu hit
   have k2 := RcNeAt.tuples (A := A) (s := s) p p2 hu hit
   simp only [List.size_toArray] at k1 k2
   rw [← ek] at k1 k2
   refine ⟨k1, k2, ?_⟩
   by_cases hl : l1 = l2
   ·subst hl
    have := I.tuple_inj h1 h2
    subst this
    rw [hs xs ys vs r q1 q2 h]
    exact .same _
   ·exact .of_refs hl k1
  | _ => cases h
open SeqAt in
theorem Qep {n : Nat} {A : Around} (I : Inv X pins σ H s)
  (ih : ∀ {v w : V} {u1 u2 : Value} {d e : D} {r : Bool}, eqF n d e = some r → Rep X.K ρ H v d → Rep X.K ρ H w e → RelV v u1 → RelV w u2 → EqAt A s u1 u2 r)
  {xs ys : List D} {k : Bool} (h : allF (eqF n) xs ys = some k) {vs ws : List V} {its its2 : List Value} (q1 : Reps X.K ρ H vs xs) (q2 : Reps X.K ρ H ws ys) (rv : Vals vs its) (rw' : Vals ws its2) :
  ∃ e : Nat → Bool, k = ((List.range (min its.length its2.length)).all e && its.length == its2.length) ∧ ∀ (j : Nat) x y, its[j]? = some x → its2[j]? = some y → EqAt A s x y (e j) := by
 refine ⟨itE (eqF n) xs ys, ?_, fun j x y hx hy => ?_⟩
 ·have l1 := rv.length
  have l2 := rw'.length
  have l3 := q1.length
  have l4 := q2.length
  rw [← l1, ← l2, l3, l4]
  exact Qek h
 ·obtain ⟨v, hv, ru⟩ := Vals.at rv hx
  obtain ⟨w, hw, rw2⟩ := Vals.at rw' hy
  obtain ⟨d, hd, rd⟩ := Reps.at q1 hv
  obtain ⟨e, he, re⟩ := Reps.at q2 hw
  obtain ⟨r, hr⟩ := Qej h j d e hd he
  have : itE (eqF n) xs ys j = r := by unfold itE; rw [hd, he]; dsimp only; rw [hr]; rfl
  rw [this]
  exact ih hr rd re ru rw2
open SeqAt in
theorem Qeq (I : Inv X pins σ H s) : ∀ (n : Nat) {A : Around} {v w : V} {u1 u2 : Value} {d e : D} {r : Bool}, A.units + n < cLine → eqF n d e = some r → Rep X.K ρ H v d → Rep X.K ρ H w e → RelV v u1 → RelV w u2 → RcAt A s u1 u2 r ∧ RcNeAt A s u1 u2 (!r) ∧ EqAt A s u1 u2 r
 | 0, _, _, _, _, _, _, _, _, hu, h, r1, r2, v1, v2 => Qeo I hu (fun _ _ _ z => by cases z) (fun _ _ _ _ _ _ z => by cases z) h r1 r2 v1 v2
 | n + 1, A, _, _, _, _, _, _, _, hu, h, r1, r2, v1, v2 => Qeo I (by ac_nf)
   (fun xs ys k z vs ws its its2 q1 q2 rv rw' => Qep I (fun h r1 r2 v1 v2 => (Qeq I n (A := A.in1) (by show A.units + 1 + n < cLine; ac_nf) h r1 r2 v1 v2).2.2) z q1 q2 rv rw')
   (fun xs ys vs k q1 q2 z => Qem (fun v d e k a b c => Qen I n c a b) q1 q2 z) h r1 r2 v1 v2
end
end MM
namespace MM
open PySem PySem.Spec PyProof.Rows L2
section
variable {X : Cx} {K : PySem.W.Frag} {ρ : List Addr} {H : Hp} {st : Sto} {pins : List (Addr × Obj)} {σ : St} {s : Shared}
open SeqAt in
theorem Qer (hu : X.A.units + 60 < cLine) (I : Inv X pins σ H s) (sr : SR X.K ρ H st) {d e : D} {x y : V} {v u : Value} {R : Bool → Sto → List Addr → Hp → Prop} (r1 : Rep X.K ρ H x d) (r2 : Rep X.K ρ H y e) (rx : RelV x v) (ry : RelV y u)
  (p : Post X.K ρ H (eqB d e st) R) : ∃ r, R r st ρ H ∧ RcAt X.A s v u r ∧ RcNeAt X.A s v u (!r) := by
 have hu' : X.A.units < cLine := by ac_nf
 have gen : Post X.K ρ H ((match eqF 50 d e with | some r => ret r | none => bad : M Bool) st) R → ∃ r, R r st ρ H ∧ RcAt X.A s v u r ∧ RcNeAt X.A s v u (!r) := fun q => by
  cases h : eqF 50 d e with
  | none => rw [h] at q; exact q.elim
  | some r =>
   rw [h] at q
   obtain ⟨k1, k2, _⟩ := Qeq I 50 (A := X.A) (by ac_nf) h r1 r2 rx ry
   exact ⟨r, q.ret sr, k1, k2⟩
 cases r1 with
 | non =>
  cases r2 with
  | @ref a n _ h =>
   obtain ⟨ds, e2, p1⟩ := Post.getL (Post.bnd p) sr
   obtain ⟨a', vs, ha, hv, r⟩ := sr.seq e2
   rw [h] at ha; cases ha
   cases (show v = Value.none from rx)
   cases (show u = Value.ref a from ry)
   obtain ⟨_, _, pl, _⟩ := I.list (SqL.of hv)
   exact ⟨false, p1.ret sr, .none_list pl.isList hu', .none_list pl.isList hu'⟩
  | _ => exact gen p
 | @ref a n _ h =>
  cases r2 with
  | non =>
   obtain ⟨ds, e2, p1⟩ := Post.getL (Post.bnd p) sr
   obtain ⟨a', vs, ha, hv, r⟩ := sr.seq e2
   rw [h] at ha; cases ha
   cases (show u = Value.none from ry)
   cases (show v = Value.ref a from rx)
   obtain ⟨_, _, pl, _⟩ := I.list (SqL.of hv)
   exact ⟨false, p1.ret sr, .list_none pl.isList hu', .list_none pl.isList hu'⟩
  | @ref b m _ h' =>
   obtain ⟨xs, e2, p1⟩ := Post.getL (Post.bnd p) sr
   obtain ⟨ys, e3, p2⟩ := Post.getL (Post.bnd p1) sr
   obtain ⟨a', vs, ha, hv, q1⟩ := sr.seq e2
   obtain ⟨b', ws, hb, hw, q2⟩ := sr.seq e3
   rw [h] at ha; cases ha
   rw [h'] at hb; cases hb
   cases (show v = Value.ref a from rx)
   cases (show u = Value.ref b from ry)
   obtain ⟨its, rv, pl, _⟩ := I.list (SqL.of hv)
   obtain ⟨its2, rw', pl2, _⟩ := I.list (SqL.of hw)
   have l1 := rv.length
   have l2 := rw'.length
   have l3 := q1.length
   have l4 := q2.length
   by_cases hl : xs.length = ys.length
   ·rw [if_pos hl] at p2
    cases h2 : allF (eqF 50) xs ys with
    | none => rw [h2] at p2; exact p2.elim
    | some r =>
     rw [h2] at p2
     obtain ⟨ef, ek, he⟩ := Qep (A := X.A.in1) I (fun h r1 r2 v1 v2 => (Qeq I 50 (A := X.A.in1) (by show X.A.units + 1 + 50 < cLine; ac_nf) h r1 r2 v1 v2).2.2) h2 q1 q2 rv rw'
     have hsz : its.toArray.size = its2.toArray.size := by rw [List.size_toArray, List.size_toArray]; ac_nf
     have hit : ∀ j (a1 : j < its.toArray.size) (a2 : j < its2.toArray.size), EqAt X.A.in1 s its.toArray[j] its2.toArray[j] (ef j) := fun j a1 a2 =>
      he j _ _ (by rw [List.getElem_toArray]; exact List.getElem?_eq_getElem (by simpa using a1)) (by rw [List.getElem_toArray]; exact List.getElem?_eq_getElem (by simpa using a2))
     have ek2 : (List.range its.toArray.size).all ef = r := by
      rw [ek, List.size_toArray]
      have : its.length = its2.length := by ac_nf
      rw [this]; simp
     have k1 := RcAt.lists (A := X.A) (s := s) pl.isList pl2.isList hsz hu' hit
     have k2 := RcNeAt.lists (A := X.A) (s := s) pl.isList pl2.isList hsz hu' hit
     rw [ek2] at k1 k2
     exact ⟨r, p2.ret sr, k1, k2⟩
   ·rw [if_neg hl] at p2
    have hne : (its.toArray.size != its2.toArray.size) = true := by
     rw [List.size_toArray, List.size_toArray]
     simp
     ac_nf
    exact ⟨false, p2.ret sr, .lists_lengths pl.isList pl2.isList hne hu', .lists_lengths pl.isList pl2.isList hne hu'⟩
  | _ => exact gen p
 | _ => cases r2 <;> exact gen p
theorem Qes (hu : X.A.units + 60 < cLine) : OpR X (compareOp .Eq) (rOf X.K eqD) := by
 intro pins s σ H x y v u Q I rx ry pq84; obtain ⟨ρ, st, d, e, sr, r1, r2, p⟩ := pq84
 obtain ⟨r, q, k1, _⟩ := Qer hu I sr r1 r2 rx ry p.bnd
 exact k1 _ _ _ _ ⟨.bl r, H, I, rfl, q.ret sr _ (.bl _)⟩
theorem Qet (hu : X.A.units + 60 < cLine) : OpR X (compareOp .NotEq) (rOf X.K neD) := by
 intro pins s σ H x y v u Q I rx ry pq85; obtain ⟨ρ, st, d, e, sr, r1, r2, p⟩ := pq85
 obtain ⟨r, q, _, k2⟩ := Qer hu I sr r1 r2 rx ry p.bnd
 exact k2 _ _ _ _ ⟨.bl (!r), H, I, rfl, q.ret sr _ (.bl _)⟩
end
section
variable {X : Cx} {a b c e o tg : Expr} {es : List Expr} {pos apos cpos : Pos} {fa fb fc : CE} {ca cb : CA} {ta tb : CT} {K : PySem.W.Frag} {ρ : List Addr} {H : Hp} {st : Sto} {x : Str} {p : Pos} {T : String}
theorem Qeu : OpR X (binaryOp .Add) (rOf X.K addD) := by
 intro pins s σ H x y v u Q I rx ry pq86; obtain ⟨ρ, st, d, e, sr, r1, r2, p⟩ := pq86
 cases r1 with
 | int i =>
  cases r2 with
  | int j => exact QaZ pins s σ H _ _ v u Q I rx ry ⟨i, j, rfl, rfl, p.ret sr _ (.int _)⟩
  | _ => exact p.elim
 | str i =>
  cases r2 with
  | str j => exact Qbf pins s σ H _ _ v u Q I rx ry ⟨i, j, rfl, rfl, (Post.chk p).1, (Post.chk p).2.ret sr _ (.str _)⟩
  | _ => exact p.elim
 | ref _ h =>
  cases r2 with
  | ref _ h' =>
   obtain ⟨xs, e2, p1⟩ := Post.getL (Post.bnd p) sr
   obtain ⟨ys, e3, p2⟩ := Post.getL (Post.bnd p1) sr
   obtain ⟨a', vs, ha, hv, q1⟩ := sr.seq e2
   obtain ⟨b', ws, hb, hw, q2⟩ := sr.seq e3
   rw [h] at ha; cases ha
   rw [h'] at hb; cases hb
   obtain ⟨hz, p3⟩ := Post.chk p2
   refine QbY pins s σ H _ _ v u Q I rx ry ⟨_, _, vs, ws, rfl, rfl, hv, hw, by rw [q1.length, q2.length]; exact hz, fun q hq => ?_⟩
   have nq := sr.fresh hq
   have x1 : Ex ρ H (ρ ++ [q]) (upd H q (.lst (vs ++ ws))) := Ex.newL hq
   refine p3 _ _ x1 ((sr.new hq).keep Qai nq ((Reps.app q1 q2).mono (Ex.new hq))) _ (.ref ⟨_, Qai, rfl⟩ ?_)
   rw [← sr.len]; simp
  | _ => exact p.elim
 | tup h1 q1 =>
  cases r2 with
  | tup h2 q2 =>
   obtain ⟨hz, p2⟩ := Post.chk p
   rename_i a1 vs xs b1 ws ys
   by_cases hx : vs = []
   ·subst hx
    cases q1
    obtain ⟨its, v1, ht, _⟩ := I.tuple h1
    obtain ⟨its2, v2, hb, _⟩ := I.tuple h2
    cases v1
    have ev : v = Value.ref a1 := rx
    have eu : u = Value.ref b1 := ry
    subst ev eu
    obtain ⟨⟨cls, dd, data, sl⟩, ho, hc, n, hd⟩ := ht
    obtain ⟨⟨cls2, dd2, data2, sl2⟩, ho2, hc2, n2, hd2⟩ := hb
    simp only at hc hd hc2 hd2
    subst hc hd hc2 hd2
    refine concat_meets (E := X.xe) ⟨_, ho, rfl⟩ ⟨_, ho2, rfl⟩ noFill_tuple_add seq_tuple_add PySem.F.slot_tuple_add PySem.F.entry_tuple_add (PySem.F.args_tuple_add_2 _ _) (tuple_addW0 a1 b1 _ _ n n2 dd dd2 sl sl2 (by simp)) ⟨ho, ho2, ?_⟩
    exact ⟨.ref b1, H, I, rfl, p2.ret sr _ (.tup h2 q2)⟩
   ·refine QbD pins s σ H _ _ v u Q I rx ry ⟨_, _, vs, ws, rfl, rfl, h1, h2, hx, by rw [q1.length, q2.length]; exact hz, fun he => ?_, fun _ q hq => ?_⟩
    ·subst he
     cases q2
     rw [List.append_nil] at p2
     exact p2.ret sr _ (.tup h1 q1)
    ·exact p2 _ _ (Ex.new hq) (sr.new hq) _ (.tup (SqT.of Qai) ((Reps.app q1 q2).mono (Ex.new hq)))
  | _ => exact p.elim
 | _ => cases r2 <;> exact p.elim
theorem _root_.L2.SlR.of {r r' : V → Option Int → Option Int → Hp → VK → Prop} (h : SlR X r) (g : ∀ x lo hi H Q, r' x lo hi H Q → r x lo hi H Q) : SlR X r' := fun pins s σ H x v vl vu lo hi sl Q I rx hs pl pu q => h pins s σ H x v vl vu lo hi sl Q I rx hs pl pu (g x lo hi H Q q)
noncomputable def toOf (K : PySem.W.Frag) (f : CO) : TO := fun σ H Q => ∃ ρ l st, LR K ρ H σ l ∧ SR K ρ H st ∧ Post K ρ H (f l st) fun o _ _ H' => Q o H'
abbrev SO (X : Cx) (e : Option Expr) (f : CO) : Prop := PO X e (toOf X.K f)
theorem Qev (h : SE X e fa) : SO X (some e) (oSome fa) := fun pins s σ H Q I h_ => h_.el fun ρ l st lr sr p => QbA h pins s σ H Q I ⟨ρ, l, st, lr, sr, p.bnd.imp fun d st1 ρ1 H1 x1 s1 p1 v rv => by
 cases rv with
 | int i => exact ⟨i, rfl, p1.ret s1⟩
 | _ => exact p1.elim⟩
theorem Reps.cut {vs : List V} {ds : List D} (r : Reps K ρ H vs ds) (lo hi : Option Int) : Reps K ρ H (cutV vs lo hi) (cutD ds lo hi) := by
 unfold cutV cutD
 have e : ∀ n d o, HT.sIx n d o = MM.sIx n d o := fun n d o => by cases o <;> rfl
 rw [e, e, r.length]
 exact (r.drop _).take _
theorem Qew {lo hi : Option Expr} {fl fh : CO} {p2 : Pos} (h : SE X e fa) (hl : SO X lo fl) (hh : SO X hi fh) : SL X (.Subscript e (.Slice lo hi none p2) pos) (aSlice fa fl fh) :=
 (QbB QbP h hl hh).of fun σ H Q h_ => h_.el fun ρ l st lr sr p => ⟨ρ, l, st, lr, sr, p.bnd0.imp fun d st1 ρ1 H1 x1 s1 p1 v rv => ⟨ρ1, l, st1, lr.mono x1, s1, (p1.bnd0.left x1).imp fun i st2 ρ2 H2 x2 s2 p2 => ⟨ρ2, l, st2, (lr.mono x1).mono x2, s2, (p2.bnd0.left (x1.trans x2)).imp fun j st3 ρ3 H3 x3 s3 p3 => by
  have rv3 := (rv.mono x2).mono x3
  have x03 := x1.trans (x2.trans x3)
  have fin : ∀ {a : Addr} {vs : List V} {ds : List D}, SqL X.K H3 a vs → Reps X.K ρ3 H3 vs ds → Post X.K ρ H (ret (cutD ds i j) st3) (fun ds _ ρ' H' => ∀ a vs, H a = none → a ∉ ρ' → H' a = some (.lst vs) → Reps X.K ρ' H' vs ds → Q (.ref a) H') → rSlL X.K (.ref a) i j H3 Q := fun {a vs ds} hs r q =>
   ⟨a, vs, rfl, hs, fun q1 hq1 => by
    have hn : H q1 = none := by
     cases z : H q1 with
     | none => rfl
     | some o => exact absurd hq1 (x03.trk q1 o z)
    exact q ρ3 _ (x03.trans (Ex.new hq1)) (s3.new hq1) q1 _ hn (s3.fresh hq1) Qai ((Reps.cut r i j).mono (Ex.new hq1))⟩
  cases rv3 with
  | lit h r => exact fin h.seq r p3
  | ref _ h =>
   obtain ⟨ds, e2, p4⟩ := Post.getL (p3.bnd0.left x03) s3
   obtain ⟨a', vs, ha, hv, r⟩ := s3.seq e2
   rw [h] at ha; cases ha
   exact fin (SqL.of hv) r p4
  | _ => exact p3.elim⟩⟩⟩
end
end MM
namespace MM
open PySem PySem.Spec PyProof.Rows L2
open PySem.AutoSeq1 (wpAny_loadPart')
section
variable {prog : Program} {w : World} {A : Around} {E : Value → Shared → Prop} {s : Shared}
end
section
variable {X : Cx} {tg : Expr} {es : List Expr} {pos : Pos} {fa : CE} {K : PySem.W.Frag} {ρ : List Addr} {H : Hp} {st : Sto}
end
end MM
namespace MM
open PySem PySem.Spec PyProof.Rows L2
section
variable {X : Cx} {K : PySem.W.Frag} {ρ : List Addr} {H : Hp} {st : Sto}
theorem Post.hasK {n : Nat} {k : D} {R : Bool → Sto → List Addr → Hp → Prop} (h : Post K ρ H (MM.hasK n k st) R) (s : SR K ρ H st) : ∃ b kvs, st[n]? = some (.dct b kvs) ∧ kOk b k = true ∧ R (lkK kvs k).isSome st ρ H := by
 obtain ⟨b, kvs, e, p1⟩ := Post.getDc (Post.bnd h) s
 obtain ⟨hk, p2⟩ := Post.chk p1
 exact ⟨b, kvs, e, hk, p2.ret s⟩
end
section
variable {X : Cx} {a b c e o tg : Expr} {es : List Expr} {pos apos cpos : Pos} {fa fb fc : CE} {ca cb : CA} {ta tb : CT} {K : PySem.W.Frag} {ρ : List Addr} {H : Hp} {st : Sto} {x : Str} {p : Pos} {T id : String} {body : List Stmt} {cs : CS}
theorem Qex {g : D → D → M D} (hc : CallR X (.builtin id) (fun xs H Q => ∃ v w, xs = [v, w] ∧ rOf X.K g v w H Q)) (hg : Gl X x) (hm : X.mg x = none) (hv : bootBuiltins x = some (.builtin id)) (ha : SE X a fa) (hb : SE X b fb) (hn : x ≠ "__name__" := by decide) (hdb : (x == ("__debug__" : Str)) = false := by decide)
  (he1 : starEach [a, b] X.env = (false, eval a X.env) :: starEach [b] X.env := by rfl) (he2 : starEach [b] X.env = (false, eval b X.env) :: starEach [] X.env := by rfl) (hpl : (backTo pos (starEach [b] X.env)).any (fun x => x.fst) = false := by rfl) : SE X (.Call (.Name x p) [a, b] [] pos) (c2 g fa fb) :=
 (Qbz hc hg hm hv (Qbn ha (Qbn hb Qbm he2) he1) hn hdb he1 hpl).of fun σ H Q h_ => h_.el fun ρ l st lr sr p => ⟨ρ, l, st, lr, sr, p.bnd.imp fun d st1 ρ1 H1 x1 s1 p1 v rv => ⟨ρ1, l, st1, lr.mono x1, s1, p1.bnd.imp fun e st2 ρ2 H2 x2 s2 p2 w rw' => ⟨v, w, rfl, ρ2, st2, d, e, s2, rv.mono x2, rw', p2⟩⟩⟩
theorem Qey (hc : X.calm = true) : CallR X (.builtin "max") (fun xs H Q => ∃ v w, xs = [v, w] ∧ rOf X.K max2D v w H Q) := (Qbi hc).of fun xs H Q pq61 => by
 obtain ⟨v, w, e, ρ, st, d1, d2, sr, r1, r2, p⟩ := pq61
 cases r1 with
 | int i =>
  cases r2 with
  | int j =>
   refine ⟨i, j, e, ?_⟩
   have : (if j > i then j else i) = max i j := by ac_nf
   rw [this]; exact p.ret sr _ (.int _)
  | _ => exact p.elim
 | _ => exact p.elim
theorem Qez (ho : SE X o fa) (hbase : attributeBase o "pop" X.env (eval o X.env) = eval o X.env := by rfl) (hline : (apos.endLine == cpos.line) = true := by rfl) : SE X (.Call (.Attribute o "pop" apos) [] [] cpos) (cPop fa) :=
 (QbT PySem.F.plainAttrs_list PySem.F.slot_list_pop PySem.F.type_list_pop QbX ho hbase hline).of fun σ H Q h_ => h_.el fun ρ l st lr sr p => ⟨ρ, l, st, lr, sr, p.bnd.imp fun d st1 ρ1 H1 x1 s1 p1 v rv => by
  cases rv with
  | @ref a n _ h =>
   obtain ⟨ds, e2, p2⟩ := Post.getL (Post.bnd p1) s1
   obtain ⟨a', vs, ha, hv, r⟩ := s1.seq e2
   rw [h] at ha; cases ha
   cases e3 : ds.getLast? with
   | none => rw [e3] at p2; exact p2.elim
   | some d =>
    rw [e3] at p2
    have hl := (List.getElem?_eq_some_iff.mp e2).1
    have e4 : ds[ds.length - 1]? = some d := by rw [← List.getLast?_eq_getElem?]; exact e3
    obtain ⟨y, hy, ry⟩ := r.get e4
    have rd : Reps X.K ρ1 H1 vs.dropLast ds.dropLast := by
     rw [List.dropLast_eq_take, List.dropLast_eq_take, r.length]; exact r.take _
    obtain ⟨s3, x3⟩ := s1.put hl h hv rd
    refine ⟨.inl ⟨rfl, vs, SqL.of hv⟩, a, vs, y, rfl, rfl, hv, by rw [r.length]; exact hy, ?_⟩
    have p5 := Post.bnd p2
    unfold putL at p5
    rw [e2] at p5
    exact (p5 ρ1 _ x3 s3).ret s3 _ (ry.mono x3)
  | _ => exact p1.elim⟩
theorem Reps.rev : ∀ {vs : List V} {ds : List D}, Reps K ρ H vs ds → Reps K ρ H vs.reverse ds.reverse
 | _, _, .nil => .nil
 | _, _, .cons r t => by
  rw [List.reverse_cons, List.reverse_cons]; exact Reps.app (Reps.rev t) (.cons r .nil)
theorem QeA (hp : PassesOwn (model X.prog X.w) X.A X.env X.xe) (hc : ST X c ta) (hb : SSs X body cs) : SS X (.While c body [] pos) (sWhile ta cs) := (QaN hp hc hb).of fun G σ H h_ => h_.el fun ρ l st lr sr p => by
 unfold sWhile at p
 by_cases h : ∃ n, ∀ r, whileN ta cs n l st = r → r ≠ .bad
 ·rw [dif_pos h] at p
  generalize Classical.choose h = n at p
  refine ⟨fun m σ H => ∃ ρ l st, LR X.K ρ H σ l ∧ SR X.K ρ H st ∧ Post X.K ρ H (whileN ta cs m l st) fun f _ ρ' H' => match f with
   | .next l' => ∀ σ', LR X.K ρ' H' σ' l' → G.nx σ' H'
   | .ret d => ∀ v, Rep X.K ρ' H' v d → G.rt v H'
   | .brk l' => ∀ σ', LR X.K ρ' H' σ' l' → G.bk σ' H'
   | .cnt l' => ∀ σ', LR X.K ρ' H' σ' l' → G.ct σ' H', ⟨n, ρ, l, st, lr, sr, p⟩, ?_⟩
  intro m σ1 H1 pq87; obtain ⟨ρ1, l1, st1, lr1, sr1, p1⟩ := pq87
  cases m with
  | zero => exact p1.elim
  | succ m =>
   refine ⟨ρ1, l1, st1, lr1, sr1, (Post.bnd p1).imp fun k st2 ρ2 H2 x2 s2 p2 => ?_⟩
   cases k with
   | false => exact p2.ret s2 _ (lr1.mono x2)
   | true =>
    refine ⟨fun σ' H' => ∃ ρ l st, LR X.K ρ H' σ' l ∧ SR X.K ρ H' st ∧ Post X.K ρ H' (whileN ta cs m l st) _, fun σ' H' q => ⟨m, Nat.lt_succ_self m, q⟩, ρ2, l1, st2, lr1.mono x2, s2, (Post.bnd p2).imp fun f st3 ρ3 H3 x3 s3 p3 => ?_⟩
    cases f with
    | next l' => exact fun σ' lr' => ⟨ρ3, l', st3, lr', s3, p3⟩
    | ret d => exact p3.ret s3
    | brk l' => exact p3.ret s3
    | cnt l' => exact fun σ' lr' => ⟨ρ3, l', st3, lr', s3, p3⟩
 ·rw [dif_neg h] at p; exact p.elim
end
end MM
namespace MM
open PySem PySem.Spec PyProof.Rows L2
section
variable {X : Cx} {e st : Expr} {pos p2 p3 p4 : Pos} {fa : CE} {te : TE} {j : Nat}
end
end MM
namespace MM
open PySem
end MM
namespace MM
open PySem PySem.Spec PyProof.Rows L2
section
variable {prog : Program} {w : World} {A : Around} {s : Shared} {Q : Bool → Shared → Prop}
end
section
variable {X : Cx} {K : PySem.W.Frag} {ρ : List Addr} {H : Hp} {st : Sto}
theorem Reps.pick : ∀ {vs : List V} {ds : List D} (i : Nat), Reps K ρ H vs ds → Rep K ρ H (vs.getD i .non) (ds.getD i .non)
 | _, _, _, .nil => by simp; exact .non
 | _, _, 0, .cons r t => by simpa using r
 | _, _, i + 1, .cons r t => by simpa using Reps.pick i t
theorem Vals.pick : ∀ {vs : List V} {us : List Value} (i : Nat), Vals vs us → RelV (vs.getD i .non) (us.getD i .none)
 | _, _, _, .nil => by simp; rfl
 | _, _, 0, .cons r t => by simpa using r
 | _, _, i + 1, .cons r t => by simpa using Vals.pick i t
theorem Reps.picks {vs : List V} {ds : List D} (r : Reps K ρ H vs ds) : ∀ (p : List Nat), Reps K ρ H (p.map fun i => vs.getD i .non) (p.map fun i => ds.getD i .non)
 | [] => .nil
 | i :: p => .cons (Reps.pick i r) (Reps.picks r p)
theorem Vals.picks {vs : List V} {us : List Value} (r : Vals vs us) : ∀ (p : List Nat), Vals (p.map fun i => vs.getD i .non) (p.map fun i => us.getD i .none)
 | [] => .nil
 | i :: p => .cons (Vals.pick i r) (Vals.picks r p)
theorem QeB {P : Program} {w : World} {H : Hp} {h : Heap} {a : Addr} {o : HO} (x : ObjOk P w H h a o) : ∃ ob, h.get? a = some ob := by
 cases o with
 | lst _ => obtain ⟨_, _, _, _, e⟩ := x; exact ⟨_, e⟩
 | tup _ => obtain ⟨_, _, _, ob, e, _⟩ := x; exact ⟨_, e⟩
 | dK _ => obtain ⟨_, _, _, _, ob, _, _, e, _⟩ := x; exact ⟨_, e⟩
 | dT _ => obtain ⟨_, _, _, _, ob, _, _, e, _⟩ := x; exact ⟨_, e⟩
 | set _ _ => obtain ⟨ob, _, _, _, e, _⟩ := x; exact ⟨_, e⟩
 | ins _ _ _ => obtain ⟨_, _, _, e, _⟩ := x; exact ⟨_, e⟩
 | own _ => obtain ⟨_, e⟩ := x; exact ⟨_, e⟩
 | xd _ => obtain ⟨_, ⟨_, _, _, e, _⟩, _⟩ := x; exact ⟨_, e⟩
 | rng _ _ => obtain ⟨_, _, _, e⟩ := x; exact ⟨_, e⟩
 | frz _ _ => obtain ⟨e, _⟩ := x; exact ⟨_, e⟩
 | tbl _ => exact ⟨_, (show h.get? a = some _ from x)⟩
 | met _ _ => exact ⟨_, (show h.get? a = some _ from x)⟩
 | ext _ => obtain ⟨_, ⟨_, e⟩, _⟩ := x; exact ⟨_, e⟩
end
end MM
namespace MM
open PySem PySem.Spec PyProof.Rows L2
section
variable {X : Cx} {pins : List (Addr × Obj)} {σ : St} {H : Hp} {s : Shared} {h' : Heap} {ch : List Addr}
end
section
variable {X : Cx} {tg : Expr} {es : List Expr} {pos : Pos} {fa fb : CE} {K : PySem.W.Frag} {ρ : List Addr} {H : Hp} {st : Sto}
end
end MM
namespace MM
open PySem PySem.Spec PyProof.Rows L2
structure Src (prog : Program) (w : World) (A : Around) (it src : Addr) (val : Nat → Option Value) (P : Nat → Heap → Prop) : Prop where
 there : ∀ k h, P k h → ∃ o, h.get? it = some o
 keep : ∀ k h h', P k h → (∀ b, b = it ∨ b = src → ∀ o, h.get? b = some o → h'.get? b = some o) → P k h'
 item : ∀ k x (s : Shared) (Q : Value → Shared → Prop) (E : Value → Shared → Prop), P k s.heap → val k = some x → (∀ h', P (k + 1) h' → Heap.SameBut it s.heap h' → Q x { s with heap := h' }) → wpAny (model prog w) A (Builtin.SmallTypes.nextOf (.ref it)) Q E s
 done : ∀ k (s : Shared) (Q : Value → Shared → Prop) (E : Value → Shared → Prop), P k s.heap → val k = none → (∀ h' e, Heap.ExtBut it s.heap h' → (∃ o, h'.get? e = some o ∧ o.cls = .type "StopIteration") → E (.ref e) { s with heap := h' }) → wpAny (model prog w) A (Builtin.SmallTypes.nextOf (.ref it)) Q E s
section
variable {prog : Program} {w : World} {A : Around} {E : Value → Shared → Prop} {s : Shared} {z tI tO i1 i2 l1 l2 : Addr} {v1 v2 : Nat → Option Value} {P1 P2 : Nat → Heap → Prop} {k : Nat} {u v : Value}
end
section
variable {prog : Program} {w : World} {A : Around} {E : Value → Shared → Prop} {s : Shared}
end
section
variable {X : Cx} {tg : Expr} {es : List Expr} {pos : Pos} {fa fb : CE} {K : PySem.W.Frag} {ρ : List Addr} {H : Hp} {st : Sto}
theorem atI {h h' : Heap} {it l : Addr} {k : Nat} (x : h.IsTupleIter it l k) (e : ∀ o, h.get? it = some o → h'.get? it = some o) : h'.IsTupleIter it l k := let ⟨o, e1, r⟩ := x; ⟨o, e o e1, r⟩
end
end MM
namespace PySem.F
theorem nolen_lri : typeLookup (.type "list_reverseiterator") "__len__" = pure none := by rw [typeLookup_type, builtinLookup_eq_fast]; kernel_rfl
theorem hint_lri : typeLookup (.type "list_reverseiterator") "__length_hint__" = pure (some (.builtin "list_reverseiterator.__length_hint__")) := by rw [typeLookup_type, builtinLookup_eq_fast]; kernel_rfl
end PySem.F
namespace MM
open PySem PySem.Spec PyProof.Rows L2
section
variable {prog : Program} {w : World} {A : Around} {E : Value → Shared → Prop} {s : Shared} {r : Addr}
theorem QeC {Q : Bool → Shared → Prop} (hT : s.TypeIs (.ref r) "list_reverseiterator") (h : Q false s) : wpAny (model prog w) A (Builtin.List.listLengthHint (.ref r)) Q E s := by
 unfold Builtin.List.listLengthHint
 refine wpAny_bind (wpAny_specialOf hT PySem.F.nolen_lri ?_)
 show wpAny _ A (specialOf (Value.ref r) (Str.ofString "__length_hint__") >>= _) _ _ _
 refine wpAny_bind (wpAny_specialOf hT PySem.F.hint_lri ?_)
 generalize hid : ("list_reverseiterator.__length_hint__" : String) = id0
 wp_delta
 rw [show splitId id0 = some ("list_reverseiterator", "__length_hint__") from by subst hid; decide +kernel]
 subst hid
 refine wpAny_bind (wpAny_isInstance (b := true) hT (by rw [isSubtype_type]; kernel_rfl) ?_)
 exact wpAny_pure h
theorem QeD {R : Result → Shared → Prop} {I l : Addr} {items : Array Value} (hh : A.handled = none) (hit : s.heap.IsRevIter I l ((items.size : Int) - 1)) (hl : s.heap.IsList l items) (hne : l ≠ I) (S : Addr) (hSI : S ≠ I) (hSl : S ≠ l) (res : Value) (c₀ : Nat) (hS : s.heap.get? S = some { cls := .type "list", data := .seq #[] c₀ })
  (hR : ∀ h' tk acc' c', (∀ b o, b ≠ S → b ≠ I → s.heap.get? b = some o → h'.get? b = some o) → h'.get? S = some { cls := .type "list", dict := none, data := .seq acc' c', slots := #[] } → ItemsOf (fun i v => items[items.size - 1 - i]? = some v) acc' items.size → R (.ok (.ret res)) { s with heap := h', toks := tk }) (hn : items.size ≤ sizeLine) :
  wpAny (model prog w) A.in1 (Builtin.List.listExtendWith (.ref S) (.ref I) res)
   (fun fin s' => match fin with | .done f => R (.ok f) s' | .again c' => c'.quiet = true ∧ codeAny (model prog w) A c' R s') (fun e s' => R (.error e) s') s := by
 have W := Walks.listRev (prog := prog) (w := w) (A := A.in1) hh I l hne items
 have hSf : S ∉ [I, l] := by simp only [List.mem_cons, List.not_mem_nil, or_false, not_or]; exact ⟨hSI, hSl⟩
 have st0 : 0 ≤ items.size ∧ s.heap.IsRevIter I l ((items.size : Int) - 1 - ((0 : Nat) : Int)) ∧ s.heap.IsList l items := ⟨Nat.zero_le _, by rw [show (items.size : Int) - 1 - ((0 : Nat) : Int) = (items.size : Int) - 1 by ac_nf]; exact hit, hl⟩
 unfold Builtin.List.listExtendWith
 refine wpAny_bind (wpAny_typeOf hit.typeIs ?_)
 have h1 : Builtin.List.listSameRef (.ref S) (.ref I) = false := by simp [Builtin.List.listSameRef, hSI]
 rw [if_neg (by rw [h1]; decide)]
 refine wpAny_bind (wpAny_pyIter_revIter hit ?_)
 refine wpAny_bind (wpAny_holding (QeC hit.typeIs ?_))
 rw [if_neg (by decide)]
 refine wpAny_pure ⟨plainId_quiet PySem.F.plain_extend_loop _, codeAny_extend_loopS W.toS hn S hSf res items.size 0 _ #[] c₀ rfl (Nat.zero_le _) st0 hS (ItemsOf.nil _) fun s' acc' c' hm hS' hacc => ?_⟩
 rw [Moved.eq_with hm]
 refine hR s'.heap s'.toks acc' c' (fun b o hb hbI e => hm.heap b o (fun hmem => ?_) e) hS' hacc
 rcases List.mem_cons.mp hmem with e' | hmem
 ·exact hb e'
 ·exact hbI (List.mem_singleton.mp hmem)
theorem QeE {Q : Value → Shared → Prop} {I l : Addr} {items : Array Value} (hh : A.handled = none) (hit : s.heap.IsRevIter I l ((items.size : Int) - 1)) (hl : s.heap.IsList l items) (hne : l ≠ I) (hn : items.size ≤ sizeLine)
  (hQ : ∀ h' tk acc' c', (∀ b o, b ≠ I → s.heap.get? b = some o → h'.get? b = some o) → h'.get? s.heap.objs.size = some { cls := .type "list", dict := none, data := .seq acc' c', slots := #[] } → ItemsOf (fun i v => items[items.size - 1 - i]? = some v) acc' items.size → Q (.ref s.heap.objs.size) { s with heap := h', toks := tk }) :
  wpAny (model prog w) A (call (.type "list") [.ref I]) Q E s := by
 refine callType_codes (Q₁ := fun obj s₁ => obj = .ref s.heap.objs.size ∧ s₁ = { s with heap := s.heap.push { cls := .type "list", data := .seq #[] } }) PySem.F.called_list (PySem.F.typeCall_list_1 _) PySem.F.entry_list_init
  (code_list_new _ ⟨rfl, rfl⟩) fun obj s₁ h₁ => ?_
 obtain ⟨rfl, rfl⟩ := h₁
 have hS : (s.heap.push { cls := .type "list", data := .seq #[] }).get? s.heap.objs.size = some { cls := .type "list", data := .seq #[] } := Heap.get?_push_size _ rfl
 have hI : I < s.heap.objs.size := let ⟨_, e, _⟩ := hit; Heap.lt_size e
 have hL : l < s.heap.objs.size := let ⟨_, e, _⟩ := hl; Heap.lt_size e
 have hit1 : (s.heap.push { cls := .type "list", data := .seq #[] }).IsRevIter I l ((items.size : Int) - 1) := let ⟨o, e, x⟩ := hit; ⟨o, Heap.get?_push_of_some _ e, x⟩
 have hl1 : (s.heap.push { cls := .type "list", data := .seq #[] }).IsList l items := let ⟨o, e, x⟩ := hl; ⟨o, Heap.get?_push_of_some _ e, x⟩
 refine ⟨⟨_, hS, rfl⟩, PySem.F.args_list_init_2 _ _, ?_⟩
 show wpAny _ A.in1.in1 (do let old ← Builtin.List.listItems (.ref s.heap.objs.size); Builtin.List.listUpdate (.ref s.heap.objs.size) (fun _ => #[]); letGo old.toList.reverse; Builtin.List.listExtendWith (.ref s.heap.objs.size) (.ref I) .none) _ _ _
 refine wpAny_bind ?_
 unfold Builtin.List.listItems
 refine wpAny_bind (wpAny_seqItems hS rfl (wpAny_pure ?_))
 show wpAny _ _ (updateSeq s.heap.objs.size (fun _ => #[]) >>= fun _ => letGo (#[] : Array Value).toList.reverse >>= fun _ => Builtin.List.listExtendWith (.ref s.heap.objs.size) (.ref I) .none) _ _ _
 refine wpAny_bind (wpAny_updateSeq hS rfl ?_)
 have hS₂ := Heap.get?_update_self (Obj.mapSeq (fun _ => (#[] : Array Value))) hS rfl
 have oth : ∀ b o, b ≠ s.heap.objs.size → (s.heap.push { cls := .type "list", data := .seq #[] }).get? b = some o → ((s.heap.push { cls := .type "list", data := .seq #[] }).update s.heap.objs.size (Obj.mapSeq (fun _ => (#[] : Array Value)))).get? b = some o :=
  fun b o hb e => (Heap.get?_update_other _ _ (Ne.symm hb)).trans e
 refine wpAny_bind (wpAny_letGo ?_)
 refine QeD (A := A.in1) hh (let ⟨o, e, x⟩ := hit1; ⟨o, oth _ _ (Nat.ne_of_lt hI) e, x⟩) (let ⟨o, e, x⟩ := hl1; ⟨o, oth _ _ (Nat.ne_of_lt hL) e, x⟩) hne s.heap.objs.size (Nat.ne_of_gt hI) (Nat.ne_of_gt hL) .none _ hS₂ (fun h' tk acc' c' hk hS' hacc => ?_) hn
 exact ⟨rfl, hQ h' tk acc' c' (fun b o hbI e => hk b o (Nat.ne_of_lt (Heap.lt_size e)) hbI (oth b o (Nat.ne_of_lt (Heap.lt_size e)) (Heap.get?_push_of_some _ e))) hS' hacc⟩
end
theorem QeF {vs : List Value} {acc : Array Value} (h : ItemsOf (fun i v => vs.toArray[vs.toArray.size - 1 - i]? = some v) acc vs.toArray.size) : acc = vs.reverse.toArray := by
 apply Array.ext'
 apply List.ext_getElem?
 intro i
 have hs : acc.size = vs.length := by have := h.1; simpa using this
 by_cases hi : i < vs.length
 ·have e1 : acc[i]? = some (acc[i]'(by ac_nf)) := Array.getElem?_eq_getElem (by ac_nf)
  have e2 := h.2 i _ e1
  rw [Array.getElem?_toList, e1]
  simp only [List.getElem?_toArray, List.size_toArray] at e2
  rw [List.getElem?_reverse hi]
  exact e2.symm
 ·rw [List.getElem?_eq_none (by simp; ac_nf), List.getElem?_eq_none (by simp; ac_nf)]
theorem Vals.reverse : ∀ {xs : List V} {us : List Value}, Vals xs us → Vals xs.reverse us.reverse
 | _, _, .nil => .nil
 | _, _, .cons r t => by
  rw [List.reverse_cons, List.reverse_cons]; exact L2.Vals.append (Vals.reverse t) (.cons r .nil)
section
variable {X : Cx} {a b c e o tg : Expr} {es : List Expr} {pos pos' apos cpos p p' : Pos} {fa fb fc : CE} {ca cb : CA} {K : PySem.W.Frag} {ρ : List Addr} {H : Hp} {st : Sto} {te : TE}
theorem QeG (hc : X.calm = true) (hg : Gl X "list") (hm : X.mg "list" = none) (hv : bootBuiltins "list" = some (.type "list")) (hg2 : Gl X "reversed") (hm2 : X.mg "reversed" = none) (hv2 : bootBuiltins "reversed" = some (.type "reversed")) (ha : PE X e te)
  (he : starEach [e] X.env = [(false, eval e X.env)] := by rfl) (he2 : starEach [.Call (.Name "reversed" p') [e] [] pos'] X.env = [(false, eval (.Call (.Name "reversed" p') [e] [] pos') X.env)] := by rfl) :
  PE X (.Call (.Name "list" p) [.Call (.Name "reversed" p') [e] [] pos'] [] pos) (fun σ H Q => te σ H fun x H1 => ∃ a xs, x = .ref a ∧ SqL X.K H1 a xs ∧ ∀ q, H1 q = none → Q (.ref q) (upd H1 q (.lst xs.reverse))) := by
 intro pins s σ H Q I h
 refine wpAny_Call_Name_kw (Qax I hg hm hv ?_ (by decide) (by decide))
 refine PyProof.Rows.callWith_type1 ?_ he2 rfl
 rw [he2]
 show wpAny _ _ (spliced [(false, eval (.Call (.Name "reversed" p') [e] [] pos') X.env)]) _ _ s
 refine Calls.spliced_cons ?_
 refine wpAny_Call_Name_kw (Qax I hg2 hm2 hv2 ?_ (by decide) (by decide))
 refine PyProof.Rows.callWith_type1 ?_ he rfl
 rw [he]
 show wpAny _ _ (spliced [(false, eval e X.env)]) _ _ s
 refine Calls.spliced_cons (thn (ha pins s σ H _ I h) fun u s1 ⟨x, H1, I1, r1, a, xs, ex, hx, q⟩ => Calls.spliced_nil ?_)
 subst ex
 cases r1
 obtain ⟨its, rv, pl, hz⟩ := I1.list hx
 have hlen := rv.length
 refine call_reversed_list pl.isList (Calls.spliced_nil ?_)
 have hlt : a < s1.heap.objs.size := let ⟨_, e, _⟩ := pl.isList; Heap.lt_size e
 refine QeE (l := a) (items := its.toArray) (I1.ok.hd hc) ⟨_, Heap.get?_push_size _ rfl, rfl, rfl⟩ (let ⟨o, e, x⟩ := pl.isList; ⟨o, Heap.get?_push_of_some _ e, x⟩) (Nat.ne_of_lt hlt) (by simp only [List.size_toArray]; ac_nf) fun h' tk acc c hk hS hacc => ?_
 rw [QeF hacc] at hS
 have kp : ∀ b u, s1.heap.get? b = some u → h'.get? b = some u := fun b u e => hk b u (Nat.ne_of_lt (Heap.lt_size e)) (Heap.get?_push_of_some _ e)
 have hp : s1.heap.objs.size ≤ (s1.heap.push (revObj a ((its.toArray.size : Int) - 1))).objs.size := by simp [Heap.push]
 refine ⟨.ref _, _, I1.laid (t' := tk) (o := .lst xs.reverse) kp hp ?_, rfl, q _ (I1.hok.fresh hp)⟩
 exact ⟨by rw [List.length_reverse]; exact hz, its.reverse, c, rv.reverse, hS⟩
theorem QeH (hc : X.calm = true) (hg : Gl X "list") (hm : X.mg "list" = none) (hv : bootBuiltins "list" = some (.type "list")) (hg2 : Gl X "reversed") (hm2 : X.mg "reversed" = none) (hv2 : bootBuiltins "reversed" = some (.type "reversed")) (ha : SL X e ca)
  (he : starEach [e] X.env = [(false, eval e X.env)] := by rfl) (he2 : starEach [.Call (.Name "reversed" p') [e] [] pos'] X.env = [(false, eval (.Call (.Name "reversed" p') [e] [] pos') X.env)] := by rfl) :
  SL X (.Call (.Name "list" p) [.Call (.Name "reversed" p') [e] [] pos'] [] pos) (aRev ca) :=
 (QeG hc hg hm hv hg2 hm2 hv2 ha he he2).of fun σ H Q h_ => h_.el fun ρ l st lr sr p => ⟨ρ, l, st, lr, sr, p.bnd0.imp fun ds st1 ρ1 H1 x1 s1 p1 a vs ha na hv rvs => by
  refine ⟨a, vs, rfl, SqL.of hv, fun q hq => ?_⟩
  have hn : H q = none := by
   cases z : H q with
   | none => rfl
   | some o => exact absurd hq (x1.trk q o z)
  exact p1 ρ1 _ (x1.trans (Ex.new hq)) (s1.new hq) q _ hn (s1.fresh hq) Qai ((Reps.rev rvs).mono (Ex.new hq))⟩
theorem Reps.rep {vs : List V} {ds : List D} (h : Reps K ρ H vs ds) : ∀ k : Nat, Reps K ρ H (List.replicate k vs).flatten (List.replicate k ds).flatten
 | 0 => .nil
 | k + 1 => by
  rw [List.replicate_succ, List.replicate_succ, List.flatten_cons, List.flatten_cons]
  exact Reps.app h (Reps.rep h k)
def SDs (X : Cx) (pos : Pos) (keys : List (Option Expr)) (values : List Expr) (ks : List Key) (ca : CA) : Prop := ∃ trs, PPs X pos keys values trs ∧
 ∀ σ H (Q : List (V × V) → Hp → Prop), (∃ ρ l st, LR X.K ρ H σ l ∧ SR X.K ρ H st ∧ Post X.K ρ H (ca l st) fun ds _ ρ' H' => ks.length = ds.length ∧ ∀ vs, Reps X.K ρ' H' vs ds → Q ((ks.zip vs).map fun kv => (kV kv.1, kv.2)) H') → tPairs trs σ H Q
theorem QeI : SDs X pos [] [] [] cNil := ⟨[], Qcq, fun σ H Q h_ => h_.el fun ρ l st lr sr p => (p.ret sr).2 [] .nil⟩
theorem QeJ {x : Str} {j : Nat} {v : Expr} {ks : List (Option Expr)} {vs : List Expr} {kk : List Key} (hv : SE X v fa) (hr : SDs X pos ks vs kk ca) :
  SDs X pos (some (.Constant (.str x) j cpos) :: ks) (v :: vs) (.inr x :: kk) (cCons fa ca) := by
 obtain ⟨trs, h1, h2⟩ := hr
 refine ⟨_, Qcr Qav hv h1, fun σ H Q h_ => h_.el fun ρ l st lr sr p => ?_⟩
 refine ⟨ρ, l, st, lr, sr, p.bnd.imp fun d st1 ρ1 H1 x1 s1 p1 v rv => h2 _ _ _ ⟨ρ1, l, st1, lr.mono x1, s1, p1.bnd.imp fun ds st2 ρ2 H2 x2 s2 p2 => ?_⟩⟩
 obtain ⟨hl, q⟩ := p2.ret s2
 refine ⟨by simpa using hl, fun vs rvs => ?_⟩
 exact q (v :: vs) (.cons (rv.mono x2) rvs)
theorem KR.zip : ∀ {ks : List Key} {vs : List V} {ds : List D}, Reps K ρ H vs ds → KR K ρ H (ks.zip vs) ((ks.map keyD).zip ds)
 | [], _, _, _ => .nil
 | k :: ks, _, _, .nil => .nil
 | k :: ks, _, _, .cons r t => .cons ⟨rfl, r⟩ (KR.zip t)
theorem KR.merge : ∀ {more : List (Key × V)} {rs : List (D × D)} {es : List (Key × V)} {kvs : List (D × D)}, KR K ρ H more rs → KR K ρ H es kvs → KR K ρ H (mergeK es more) (mgK kvs rs)
 | _, _, _, _, .nil, q => q
 | _, _, es, kvs, .cons (a := p) (b := q) (l₁ := ps) (l₂ := qs) h t, r => by
  have z := KR.put r p.1 h.2
  rw [h.1] at z
  show KR K ρ H (mergeK (L2.putK es p.1 p.2) ps) (mgK (ptK kvs q.1 q.2) qs)
  exact KR.merge (more := ps) (rs := qs) t z
theorem QeK {keys : List (Option Expr)} {values : List Expr} {ks : List Key} (h : SDs X pos keys values ks ca) (hall : keys.all (·.isSome) = true := by rfl) (hl : keys.length = values.length := by rfl) (h0 : keys ≠ [] := by simp) (h15 : keys.length ≤ 15 := by decide) (hk : ks.length ≤ 15 := by decide) :
  SE X (.Dict keys values pos) (cDisp (ks.map keyD) ca) := by
 obtain ⟨trs, h1, h2⟩ := h
 refine (Qcu h1 hall hl h0 h15).of fun σ H Q ⟨ρ, l, st, lr, sr, p⟩ q hq => h2 _ _ _ ?_
 have hn := sr.fresh hq
 refine ⟨ρ, l, st, lr.mono (Ex.new hq), sr.new hq, (p.bnd0.left (Ex.new hq)).imp fun ds st1 ρ1 H1 x1 s1 p1 => ?_⟩
 obtain ⟨hlen, p2⟩ := Post.chk p1
 rw [List.length_map] at hlen
 have hq1 : H1 q = some (.dK []) := x1.oth q _ hn Qai
 refine ⟨hlen, fun vs rvs => ⟨hq1, ks.zip vs, rfl, by simp; ac_nf, ?_⟩⟩
 have ne : ∀ b o, H b = some o → b ≠ q := fun b o e z => by rw [z, hq] at e; cases e
 have nq1 : q ∉ ρ1 := by
  obtain ⟨τ, e, f⟩ := x1.pre
  rw [e]
  intro z
  rcases List.mem_append.mp z with z | z
  ·exact hn z
  ·have := f q z; rw [Qai] at this; cases this
 have up : Up ρ1 H1 ρ1 (upd H1 q (.dK (mergeK [] (ks.zip vs)))) := by
  refine ⟨⟨[], by simp⟩, fun c o no w => ?_, fun c o w => ?_⟩
  ·rw [Qaj fun z => by subst z; rw [hq1] at w; cases w; exact nomatch no]; exact w
  ·by_cases z : c = q
   ·subst z; rw [hq1] at w; cases w; exact ⟨_, Qai, rfl⟩
   ·exact ⟨o, by rw [Qaj z]; exact w, rfl⟩
 have s2 : SR X.K ρ1 (upd H1 q (.dK (mergeK [] (ks.zip vs)))) st1 := ⟨s1.len, s1.nd, fun n b o e1 e2 => ObR.mono (o := o) up (s1.ob n b o e1 e2) fun u w => by
  rw [Qaj (fun (z : b = q) => nq1 (by rw [← z]; exact List.mem_of_getElem? e1))]; exact w⟩
 have x2 : Ex ρ H (ρ1 ++ [q]) (upd H1 q (.dK (mergeK [] (ks.zip vs)))) := by
  obtain ⟨τ, e, f⟩ := x1.pre
  refine ⟨⟨τ ++ [q], by rw [e, List.append_assoc], fun b hb => ?_⟩, fun b o no e => ?_, fun b o nb e => ?_, fun b o e => ?_⟩
  ·rcases List.mem_append.mp hb with hb | hb
   ·have z := f b hb
    by_cases w : b = q
    ·subst w; exact hq
    ·rw [Qaj w] at z; exact z
   ·rw [List.mem_singleton] at hb; rw [hb]; exact hq
  ·rw [Qaj (ne b o e)]; exact x1.fix b o no (by rw [Qaj (ne b o e)]; exact e)
  ·rw [Qaj (ne b o e)]; exact x1.oth b o nb (by rw [Qaj (ne b o e)]; exact e)
  ·obtain ⟨o', e', k'⟩ := x1.knd b o (by rw [Qaj (ne b o e)]; exact e)
   exact ⟨o', by rw [Qaj (ne b o e)]; exact e', k'⟩
 have p3 : ∀ ρ' H', Ex ρ H ρ' H' → SR X.K ρ' H' (st1 ++ [.dct false (mgK [] ((ks.map keyD).zip ds))]) → ∀ v, Rep X.K ρ' H' v (.dic st1.length) → Q v H' := p2
 refine p3 _ _ x2 (s2.keepO nq1 ⟨_, Qai, KR.merge (KR.zip (rvs.up up)) .nil⟩) _ (.dic ⟨_, Qai, .inl rfl⟩ ?_)
 rw [← s1.len]; simp
end
end MM
namespace MM
end MM
namespace MM
open PySem PySem.Spec PyProof.Rows L2
mutual
theorem QeL : ∀ {a b c : D}, eqK a b = true → eqK b c = true → eqK a c = true
 | .int i, b, c, h1, h2 => by
  obtain ⟨j, rfl⟩ : ∃ j, b = .int j := by cases b <;> simp [eqK] at h1 ⊢
  obtain ⟨k, rfl⟩ : ∃ j, c = .int j := by cases c <;> simp [eqK] at h2 ⊢
  simp [eqK] at h1 h2 ⊢; ac_nf
 | .str i, b, c, h1, h2 => by
  obtain ⟨j, rfl⟩ : ∃ j, b = .str j := by cases b <;> simp [eqK] at h1 ⊢
  obtain ⟨k, rfl⟩ : ∃ j, c = .str j := by cases c <;> simp [eqK] at h2 ⊢
  simp [eqK] at h1 h2 ⊢; rw [h1, h2]
 | .tup xs, b, c, h1, h2 => by
  obtain ⟨ys, rfl⟩ : ∃ j, b = .tup j := by cases b <;> simp [eqK] at h1 ⊢
  obtain ⟨zs, rfl⟩ : ∃ j, c = .tup j := by cases c <;> simp [eqK] at h2 ⊢
  rw [eqK] at h1 h2 ⊢
  exact eqKs_trans h1 h2
 | .non, _, _, h1, _ => by simp [eqK] at h1
 | .bl _, _, _, h1, _ => by simp [eqK] at h1
 | .lit _, _, _, h1, _ => by simp [eqK] at h1
 | .ref _, _, _, h1, _ => by simp [eqK] at h1
 | .dic _, _, _, h1, _ => by simp [eqK] at h1
theorem eqKs_trans : ∀ {a b c : List D}, eqKs a b = true → eqKs b c = true → eqKs a c = true
 | [], b, c, h1, h2 => by
  cases b with
  | nil => exact h2
  | cons _ _ => simp [eqKs] at h1
 | x :: xs, b, c, h1, h2 => by
  cases b with
  | nil => simp [eqKs] at h1
  | cons y ys =>
   cases c with
   | nil => simp [eqKs] at h2
   | cons z zs =>
    rw [eqKs, Bool.and_eq_true] at h1 h2 ⊢
    exact ⟨QeL h1.1 h2.1, eqKs_trans h1.2 h2.2⟩
end
section
variable {X : Cx} {pins : List (Addr × Obj)} {σ : St} {H : Hp} {s : Shared} {ρ : List Addr}
end
end MM
namespace MM
open PySem PyProof.Rows L2
section
variable {prog : Program} {w : World} {K : Type} [DecidableEq K] {knd : HeapKind prog w K} {A : Around} {E : Value → Shared → Prop} {s : Shared} {d a : Addr} {k : K} {xs : List (K × Addr × Value)}
end
section
variable {X : Cx} {pins : List (Addr × Obj)} {σ : St} {H : Hp} {s : Shared} {ρ : List Addr} {st : Sto} {a : Addr}
end
end MM
namespace MM
open PySem PySem.W PyProof.Rows L2
section
variable {prog : Program} {w : World} {A : Around} {E : Value → Shared → Prop} {s : Shared} {d it : Addr} {es : Array DictEntry} {ep i : Nat}
def EnAt (h : Heap) (d : Addr) (es : Array DictEntry) (ep : Nat) : Prop := ∃ o, h.get? d = some o ∧ o.ExactDict ∧ o.data = .dict es ep
theorem EnAt.typeIs (x : EnAt s.heap d es ep) : s.TypeIs (.ref d) "dict" := by
 obtain ⟨o, g, c, _⟩ := x
 exact ⟨o, g, c.1⟩
theorem EnAt.keep {h h' : Heap} (x : EnAt h d es ep) (k : ∀ o, h.get? d = some o → h'.get? d = some o) : EnAt h' d es ep := by
 obtain ⟨o, g, r⟩ := x
 exact ⟨o, k o g, r⟩
theorem EnAt.lt {h : Heap} (x : EnAt h d es ep) : d < h.objs.size := by
 obtain ⟨o, g, _⟩ := x
 exact Heap.lt_size g
end
end MM
namespace MM
open PySem
end MM
namespace MM
open PySem PySem.W PyProof.Rows L2
section
variable {X : Cx}
theorem NR.keys {K : PySem.W.Frag} {ρ : List Addr} {H : Hp} {es : List (NK × Addr × V)} {kvs : List (D × D)} (r : NR K ρ H es kvs) : Reps K ρ H (es.map fun p => V.ref p.2.1) (kvs.map (·.1)) := by
 induction r with
 | nil => exact .nil
 | cons h t ih => exact .cons h.2.1 ih
end
end MM
namespace MM
open PySem PyProof.Rows L2
section
variable {X : Cx}
end
section
open PySem.Builtin.Str
variable {prog : Program} {w : World} {A : Around} {E : Value → Shared → Prop} {s : Shared}
end
section
variable {X : Cx}
end
end MM
namespace MM
open PySem PyProof.Rows L2
section
variable {X : Cx} {K : PySem.W.Frag} {ρ : List Addr} {H : Hp} {st : Sto}
end
end MM
namespace MM
open PySem PyProof.Rows L2
noncomputable abbrev CF := Str → Loc → M D
section
variable {X : Cx} {e : Expr} {es : List Expr} {pos : Pos} {fa : CE} {r : CF} {te : TE}
end
end MM
namespace MM
open PySem PyProof.Rows L2
section
variable {X : Cx} {K : PySem.W.Frag} {tg e : Expr} {fa : CE} {te : TE}
end
end MM
namespace MM
open PySem PySem.StrLaws Builtin.Str
structure Mrk (y : Str) (m k : Nat) : Prop where
 lt : k < y.length
 at_ : y.cps.toList[k]? = some m
 un : ∀ j, y.cps.toList[j]? = some m → j = k
 kind : Builtin.Str.strKind y ≤ 1
theorem At.mark {x y : Str} {m k i : Nat} (h : Mrk y m k) (a : At x y x.length i) : x.cps.toList[i + k]? = some m := by
 have e := a.2
 rw [subAt_eq, beq_iff_eq] at e
 have e2 : ((x.cps.toList.drop i).take y.length)[k]? = some m := by rw [e]; exact h.at_
 rw [List.getElem?_take_of_lt h.lt, List.getElem?_drop] at e2
 exact e2
end MM
namespace MM
noncomputable def sv (m : Nat) : List Nat := (List.range 4).filter fun i => m.testBit i
end MM
namespace MM
open PySem PySem.W PyProof.Rows L2
noncomputable def tb (led : Bool) (m : Nat) : SetTable := ⟨7, (sv m).toArray, #[], 0, led, 0, true⟩
def EnI (e : Int × Value) (v : Nat) : Prop := e.1 = (v : Int) ∧ ∃ t, e.2 = .int v t
def SsAt (led : Bool) (h : Heap) (a : Addr) (m : Nat) : Prop := ∃ o es ep, h.get? a = some o ∧ o.ExactSet ∧ o.data = .set es ep (tb led m) ∧ Paired EnI es.toList (sv m)
theorem Paired.ins {α β : Type} {F : α → β → Prop} {a : α} {b : β} (r : F a b) : ∀ {l₁ : List α} {l₂ : List β} (p : Nat), Paired F l₁ l₂ → Paired F (l₁.take p ++ a :: l₁.drop p) (l₂.take p ++ b :: l₂.drop p)
 | _, _, 0, t => .cons r t
 | _, _, p + 1, .nil => .cons r .nil
 | _, _, p + 1, .cons q t => .cons q (Paired.ins r p t)
section
variable {prog : Program} {w : World} {A : Around} {E : Value → Shared → Prop} {s : Shared} {a : Addr} {led : Bool} {m v : Nat}
theorem SsAt.keep {h h' : Heap} (x : SsAt led h a m) (k : ∀ o, h.get? a = some o → h'.get? a = some o) : SsAt led h' a m := by
 obtain ⟨o, es, ep, g, r⟩ := x
 exact ⟨o, es, ep, k o g, r⟩
theorem SsAt.lt {h : Heap} (x : SsAt led h a m) : a < h.objs.size := by
 obtain ⟨o, es, ep, g, r⟩ := x
 exact Heap.lt_size g
theorem SsAt.typeIs (x : SsAt led s.heap a m) : s.TypeIs (.ref a) "set" := by
 obtain ⟨o, es, ep, g, c, r⟩ := x
 exact ⟨o, g, c.1⟩
end
end MM
namespace MM
open PySem PySem.W PyProof.Rows L2
noncomputable def slotAt (b : Bool) (m i : Nat) : Nat := if b = true then 0 else match i with
 | 0 => 0
 | k + 1 => (sv m).getD k 0 + 1
def IsSetIt (w : World) (h : Heap) (it a : Addr) (m i ep : Nat) : Prop := ∃ o, h.get? it = some o ∧ o.cls = .type "set_iterator" ∧ o.data = .fields #[.int (slotAt (w.params.followText "set-order") m i) 0, .int i 0, .ref a, .int (sv m).length 0, .int ep 0]
def SsX (led : Bool) (h : Heap) (a : Addr) (m : Nat) (es : Array (Int × Value)) (ep : Nat) : Prop := ∃ o, h.get? a = some o ∧ o.ExactSet ∧ o.data = .set es ep (tb led m) ∧ Paired EnI es.toList (sv m)
section
variable {prog : Program} {w : World} {A : Around} {E : Value → Shared → Prop} {s : Shared} {a it : Addr} {led : Bool} {m i ep : Nat} {es : Array (Int × Value)}
theorem SsX.keep {h h' : Heap} (x : SsX led h a m es ep) (k : ∀ o, h.get? a = some o → h'.get? a = some o) : SsX led h' a m es ep := by
 obtain ⟨o, g, r⟩ := x
 exact ⟨o, k o g, r⟩
theorem SsX.lt {h : Heap} (x : SsX led h a m es ep) : a < h.objs.size := by
 obtain ⟨o, g, r⟩ := x
 exact Heap.lt_size g
theorem SsX.typeIs (x : SsX led s.heap a m es ep) : s.TypeIs (.ref a) "set" := by
 obtain ⟨o, g, c, r⟩ := x
 exact ⟨o, g, c.1⟩
theorem IsSetIt.typeIs (z : IsSetIt w s.heap it a m i ep) : s.TypeIs (.ref it) "set_iterator" := by
 obtain ⟨o, g, c, r⟩ := z
 exact ⟨o, g, c⟩
end
end MM
namespace MM
open PySem PySem.W PyProof.Rows L2
section
variable {X : Cx}
end
end MM
namespace MM
open PySem
noncomputable def mkX (x f : Str) (d : D) : M D := ret (.exn x [.str f, d])
noncomputable def attrX (x f : Str) : D → M D
 | .exn y [.str g, d] => chk (y = x ∧ g = f) (ret d)
 | _ => bad
noncomputable def isiX (xs : List Str) (b : Str → Bool) : D → M D
 | .exn x _ => chk (x ∈ xs) (ret (.bl (b x)))
 | _ => bad
end MM
namespace MM
open PySem PyProof.Rows
def XCls (h : Heap) (C N : Addr) (bm : List Value) (mN : Str → Option Value) : Prop :=
 (∃ nm q bs sn sub ab col dd k0 k1 k2 k3 k5, h.get? C = some (excClassObj nm q C N bs bm true sn sub ab col dd k0 k1 k2 k3 k5 "ValueError.__new__")) ∧ h.Ns N mN
noncomputable def vErr : List Value := [.type "ValueError", .type "Exception", .type "BaseException", .type "object"]
structure XCh (h : Heap) (C N P NP : Addr) (mN mP : Str → Option Value) : Prop where
 c : XCls h C N (.ref P :: vErr) mN
 p : XCls h P NP vErr mP
section
variable {prog : Program} {w : World} {A : Around} {E : Value → Shared → Prop} {s : Shared} {C N P NP e : Addr} {mN mP : Str → Option Value} {bm : List Value} {name : Str}
theorem QeM {h : Heap} {a : Addr} (z : h.objs.size ≤ a) : h.get? a = none := by
 cases e : h.get? a with
 | none => rfl
 | some o => exact absurd (Nat.lt_of_lt_of_le (Heap.lt_size e) z) (Nat.lt_irrefl _)
theorem QeN {Q : Option Value → Shared → Prop} (x : XCls s.heap C N bm mN) (q : Q (mN name) s) : wpAny (model prog w) A (classOwn (.ref C) name) Q E s := by
 obtain ⟨⟨nm, q1, bs, sn, sub, ab, col, dd, k0, k1, k2, k3, k5, g⟩, ns⟩ := x
 obtain ⟨h, gg, d, t, os⟩ := s
 exact wpAny_classOwn_exc g ns q
theorem QeO {Q : List Value → Shared → Prop} (x : XCls s.heap C N bm mN) (q : Q (.ref C :: bm) s) : wpAny (model prog w) A (mroOf (.ref C)) Q E s := by
 obtain ⟨⟨nm, q1, bs, sn, sub, ab, col, dd, k0, k1, k2, k3, k5, g⟩, ns⟩ := x
 obtain ⟨h, gg, d, t, os⟩ := s
 exact wpAny_mroOf_exc g q
theorem QeP {base : Value} {Q : Bool → Shared → Prop} (x : XCls s.heap C N bm mN) (q : Q ((Value.ref C :: bm).contains base) s) : wpAny (model prog w) A (isSubtype (.ref C) base) Q E s := by
 obtain ⟨⟨nm, q1, bs, sn, sub, ab, col, dd, k0, k1, k2, k3, k5, g⟩, ns⟩ := x
 obtain ⟨h, gg, d, t, os⟩ := s
 exact wpAny_isSubtype_exc g q
theorem QeQ {v : Value} {Q : Option Value → Shared → Prop} (x : XCls s.heap C N bm mN) (hn : mN name = some v) (q : Q (some v) s) : wpAny (model prog w) A (typeLookup (.ref C) name) Q E s := by
 unfold typeLookup
 refine wpAny_bind (QeO x ?_)
 rw [List.forIn_cons]
 refine wpAny_bind (wpAny_bind (wpAny_bind (QeN x ?_)))
 rw [hn]
 dsimp only
 refine wpAny_pure (wpAny_pure (wpAny_pure q))
theorem QeR {name : Str} {f : Value → Option (Option Value) × Unit → Sem (ForInStep (Option (Option Value) × Unit))} (h1 : ∀ n v b, builtinOwn n name = some v → f (.type n) b = pure (.done (some (some v), ()))) (h2 : ∀ n b, builtinOwn n name = none → f (.type n) b = pure (.yield (none, ()))) : ∃ z : Option (Option Value) × Unit, forIn vErr (none, ()) f = (pure z : Sem _) := by
 have st : ∀ (n : String) (rest : List Value), (∃ z, forIn rest (none, ()) f = (pure z : Sem _)) → ∃ z, forIn (Value.type n :: rest) (none, ()) f = (pure z : Sem _) := fun n rest h => by
  obtain ⟨z, hz⟩ := h
  rw [List.forIn_cons]
  cases hb : builtinOwn n name with
  | some v => exact ⟨(some (some v), ()), by rw [h1 n v _ hb]; rfl⟩
  | none =>
   refine ⟨z, ?_⟩
   rw [← hz, h2 n _ hb]
   rfl
 unfold vErr
 exact st _ _ (st _ _ (st _ _ (st _ _ ⟨_, rfl⟩)))
theorem QeS {y : Option Value} {Q : Option Value → Shared → Prop} (x : XCh s.heap C N P NP mN mP) (h1 : mN name = none) (h2 : mP name = none) (hy : typeLookup (.type "ValueError") name = pure y) (q : Q y s) : wpAny (model prog w) A (typeLookup (.ref C) name) Q E s := by
 have hv : mroOf (.type "ValueError") = pure vErr := F.excBase_ValueError.mroIs
 unfold typeLookup at hy ⊢
 rw [hv] at hy
 refine wpAny_bind (QeO x.c ?_)
 rw [List.forIn_cons]
 refine wpAny_bind (wpAny_bind (wpAny_bind (QeN x.c ?_)))
 rw [h1]
 dsimp only
 refine wpAny_pure ?_
 dsimp only
 rw [List.forIn_cons]
 refine wpAny_bind (wpAny_bind (QeN x.p ?_))
 rw [h2]
 dsimp only
 refine wpAny_pure ?_
 dsimp only
 obtain ⟨z, hz⟩ := QeR (name := name) (f := fun c __s => (do
   let __do_lift ← classOwn c name
   typeLookup.match_1 (motive := fun _ => Sem (ForInStep (Option (Option Value) × Unit))) __do_lift (fun v => pure (ForInStep.done (some (some v), ()))) (fun x => pure (ForInStep.yield (none, ()))))) (fun n v b hb => by show (pure (builtinOwn n name) >>= _) = _; rw [hb]; rfl) (fun n b hb => by show (pure (builtinOwn n name) >>= _) = _; rw [hb]; rfl)
 rw [hz]
 refine wpAny_pure ?_
 change ((forIn vErr (none, ()) _ : Sem (Option (Option Value) × Unit)) >>= _) = _ at hy
 rw [hz] at hy
 exact (congrArg (fun m => wpAny (model prog w) A m Q E s) hy).mpr (wpAny_pure q)
theorem QeT {o : Obj} {Q : Value → Shared → Prop} (g : s.heap.get? e = some o) (hc : o.cls = .ref C) (q : Q (.ref C) s) : wpAny (model prog w) A (typeOf (.ref e)) Q E s := wpAny_typeOf_ref g (by rw [hc]; exact q)
theorem XCls.keep {h h' : Heap} (x : XCls h C N bm mN) (k : ∀ b o, h.get? b = some o → h'.get? b = some o) : XCls h' C N bm mN := by
 obtain ⟨⟨nm, q1, bs, sn, sub, ab, col, dd, k0, k1, k2, k3, k5, g⟩, o, es, ep, g2, r⟩ := x
 exact ⟨⟨nm, q1, bs, sn, sub, ab, col, dd, k0, k1, k2, k3, k5, k _ _ g⟩, o, es, ep, k _ _ g2, r⟩
theorem XCh.keep {h h' : Heap} (x : XCh h C N P NP mN mP) (k : ∀ b o, h.get? b = some o → h'.get? b = some o) : XCh h' C N P NP mN mP := ⟨x.c.keep k, x.p.keep k⟩
theorem QeU {rest : List Value} {fI : Addr} {oI : Obj} {Q : PySem.Fin → Shared → Prop} (x : XCh s.heap C N P NP mN mP) (hpi : mP (Str.ofString "__init__") = none) (hi : mN (Str.ofString "__init__") = some (.ref fI)) (gI : s.heap.get? fI = some oI) (cI : oI.cls = .type "function")
  (run : ∀ h' e, s.heap.objs.size ≤ e → s.heap.MadeExcOf h' e (.ref C) rest → wpAny (model prog w) A (call (.ref fI) (.ref e :: rest)) (fun r s' => r = .none ∧ Q (.done (.ret (.ref e))) s') E { s with heap := h' }) (hl : rest.length ≤ sizeLine) :
  wpAny (model prog w) A (Builtin.«type.__call__» { pos := .ref C :: rest }) Q E s := by
 unfold Builtin.«type.__call__»
 dsimp only
 rw [if_neg (show ¬ ((Value.ref C == Value.type "type") = true) from Bool.false_ne_true)]
 refine wpAny_bind (QeO x.c ?_)
 rw [if_neg (by simp)]
 refine wpAny_bind ?_
 obtain ⟨⟨nm, q1, bs, sn, sub, ab, col, dd, k0, k1, k2, k3, k5, g⟩, ns⟩ := id x.c
 have tail : OwnTail s.heap vErr (.ref P :: vErr) := by
  obtain ⟨⟨nm, q1, bs, sn, sub, ab, col, dd, k0, k1, k2, k3, k5, g⟩, ns⟩ := id x.p
  exact .own g ns hpi .base
 refine wpAny_madeBy_exc (h := s.heap) g ?_
 dsimp only
 refine wpAny_bind (wpAny_pure (wpAny_bind (wpAny_holding (wpAny_call (codeAny_call_builtin_code (Code.quiet_builtin _ (by nofun)) (wpAny_check_new_subU (h := s.heap) F.excBase_ValueError rfl tail g ?_))))))
 refine codeAny_exc_new_subU (h := s.heap) F.excBase_ValueError rfl F.excBase_ValueError tail g ?_ hl
 have k : ∀ b o, s.heap.get? b = some o → ((s.heap.push { cls := .type "tuple", data := .seq rest.toArray }).push { cls := .ref C, data := .fields #[.ref s.heap.objs.size, .none, .none, .none, .bool false, .none] }).get? b = some o := fun b o z => Heap.get?_push_of_some _ (Heap.get?_push_of_some _ z)
 have sz : (s.heap.push { cls := .type "tuple", data := .seq rest.toArray }).objs.size = s.heap.objs.size + 1 := by simp [Heap.push]
 have ge : ((s.heap.push { cls := .type "tuple", data := .seq rest.toArray }).push { cls := .ref C, data := .fields #[.ref s.heap.objs.size, .none, .none, .none, .bool false, .none] }).get? (s.heap.objs.size + 1) = some { cls := .ref C, data := .fields #[.ref s.heap.objs.size, .none, .none, .none, .bool false, .none] } := by
  have := Heap.get?_push_size (s.heap.push { cls := .type "tuple", data := .seq rest.toArray }) (o := { cls := .ref C, data := .fields #[.ref s.heap.objs.size, .none, .none, .none, .bool false, .none] }) rfl
  rw [sz] at this
  exact this
 have md : s.heap.MadeExcOf ((s.heap.push { cls := .type "tuple", data := .seq rest.toArray }).push { cls := .ref C, data := .fields #[.ref s.heap.objs.size, .none, .none, .none, .bool false, .none] }) (s.heap.objs.size + 1) (.ref C) rest :=
  ⟨k, QeM (Nat.le_succ _), s.heap.objs.size, ge, QeM (Nat.le_refl _), Heap.get?_push_of_some _ (Heap.get?_push_size _ rfl)⟩
 have r1 := run _ _ (Nat.le_succ _) md
 have x1 := x.keep k
 generalize (s.heap.push { cls := .type "tuple", data := .seq rest.toArray }).push { cls := .ref C, data := .fields #[.ref s.heap.objs.size, .none, .none, .none, .bool false, .none] } = h1 at *
 dsimp only
 unfold isInstance
 refine wpAny_bind (wpAny_bind (QeT (s := { s with heap := h1 }) ge rfl (QeP (s := { s with heap := h1 }) x1.c ?_)))
 rw [if_neg (by simp)]
 refine wpAny_bind (wpAny_holding ?_)
 unfold callSpecial? specialOf
 refine wpAny_bind (wpAny_bind (QeT (s := { s with heap := h1 }) ge rfl (QeQ (s := { s with heap := h1 }) x1.c hi ?_)))
 dsimp only
 refine wpAny_holding (wpAny_bind (wpAny_bindSpecial_def (s := { s with heap := h1 }) (k _ _ gI) cI ?_))
 dsimp only
 refine wpAny_bind (wpAny_mono r1 (fun r s' hr => ?_) fun _ _ z => z)
 obtain ⟨er, hq⟩ := hr
 subst er
 refine wpAny_pure ?_
 dsimp only
 rw [if_neg (by decide)]
 exact wpAny_pure hq
theorem QeV {rest : List Value} {Q : Value → Shared → Prop} (x : XCls s.heap C N bm mN)
  (h : wpAny (model prog w) (A.under (Code.builtin "type.__call__" { pos := .ref C :: rest })) (Builtin.«type.__call__» { pos := .ref C :: rest }) (fun fin s' => ∃ v, fin = .done (.ret v) ∧ Q v s') E s) : wpAny (model prog w) A (call (.ref C) rest) Q E s := by
 obtain ⟨⟨nm, q1, bs, sn, sub, ab, col, dd, k0, k1, k2, k3, k5, g⟩, ns⟩ := id x
 refine wpAny_call (codeAny_of_tree ?_)
 show wpAny _ _ (callAny (.ref C) _) _ _ s
 unfold callAny
 dsimp only
 refine wpAny_bind (wpAny_load g ?_)
 dsimp only
 unfold callAny.viaDunder specialOf
 refine wpAny_bind (wpAny_bind (wpAny_typeOf_ref g ?_))
 dsimp only
 rw [F.lookup_type_call]
 refine wpAny_pure ?_
 dsimp only
 rw [F.bind_type_call]
 refine wpAny_bind (wpAny_pure ?_)
 dsimp only
 unfold callAny.plainCallee
 refine wpAny_bind (wpAny_pure ?_)
 rw [if_pos (by decide)]
 refine wpAny_pure ⟨?_, codeAny_call_builtin_code (Code.quiet_builtin _ (by nofun)) (wpAny_check_type_call_sub (h := s.heap) g (codeAny_builtin entry_typeCall ?_))⟩
 ·first | rfl | decide | simp [Code.quiet, Thread.loud]
 ·refine wpAny_mono h (fun fin s' z => ?_) fun _ _ z => z
  obtain ⟨v, e1, e2⟩ := z
  subst e1
  exact e2
end
end MM
namespace MM
open PySem PyProof.Rows
theorem QeW : typeLookup (.type "ValueError") (Str.ofString "__setattr__") = pure (some (.builtin "object.__setattr__")) := by rfl
theorem QeX (self : Value) : bindSpecial (.builtin "object.__setattr__") self = pure (.builtin "object.__setattr__", [self]) := by rfl
section
variable {prog : Program} {w : World} {A : Around} {E : Value → Shared → Prop} {s : Shared} {C N P NP e : Addr} {mN mP : Str → Option Value} {name : Str}
theorem QeY (x : XCh s.heap C N P NP mN mP) {o : Obj} (g : s.heap.get? e = some o) (hc : o.cls = .ref C) {Q : Unit → Shared → Prop} (q : Q () s) : wpAny (model prog w) A (Builtin.ObjectAttr.refuseIfOverridden (.ref e) (Str.ofString "__setattr__")) Q E s := by
 unfold Builtin.ObjectAttr.refuseIfOverridden
 refine wpAny_bind (QeT g hc (wpAny_bind (QeO x.c ?_)))
 rw [List.forIn_cons]
 refine wpAny_bind (wpAny_bind (wpAny_pure ?_))
 dsimp only
 rw [List.forIn_cons]
 refine wpAny_bind (wpAny_pure ?_)
 dsimp only
 unfold vErr
 have o1 : classOwn (.type "ValueError") (Str.ofString "__setattr__") = pure none := by rfl
 have o2 : classOwn (.type "Exception") (Str.ofString "__setattr__") = pure none := by rfl
 have o3 : classOwn (.type "BaseException") (Str.ofString "__setattr__") = pure none := by rfl
 rw [List.forIn_cons]
 dsimp only
 rw [if_neg (by decide), if_neg (by decide), o1]
 refine wpAny_bind (wpAny_bind (wpAny_pure ?_))
 rw [if_neg (by decide)]
 refine wpAny_pure ?_
 dsimp only
 rw [List.forIn_cons]
 dsimp only
 rw [if_neg (by decide), if_neg (by decide), o2]
 refine wpAny_bind (wpAny_bind (wpAny_pure ?_))
 rw [if_neg (by decide)]
 refine wpAny_pure ?_
 dsimp only
 rw [List.forIn_cons]
 dsimp only
 rw [if_neg (by decide), if_neg (by decide), o3]
 refine wpAny_bind (wpAny_bind (wpAny_pure ?_))
 rw [if_neg (by decide)]
 refine wpAny_pure ?_
 dsimp only
 rw [List.forIn_cons]
 dsimp only
 rw [if_neg (by decide), if_neg (by decide), F.own_object_setattr]
 refine wpAny_bind (wpAny_bind (wpAny_pure ?_))
 rw [if_pos (show (some (Value.builtin "object.__setattr__")).isSome = true from rfl), if_neg (by nofun)]
 refine wpAny_pure (wpAny_pure ?_)
 exact wpAny_pure q
theorem QeZ {v : Value} {vs : Array Value} {sl : Array (Option Value)} {Q : Unit → Shared → Prop} (x : XCh s.heap C N P NP mN mP) (g : s.heap.get? e = some ⟨.ref C, none, .fields vs, sl⟩)
  (a1 : mN (Str.ofString "__setattr__") = none) (a2 : mP (Str.ofString "__setattr__") = none) (b1 : mN name = none) (b2 : mP name = none) (hy : typeLookup (.type "ValueError") name = pure none)
  (q : ∀ h' dx tk, s.heap.get? dx = none → h'.get? e = some ⟨.ref C, some dx, .fields vs, sl⟩ → (h'.Ns1 dx fun y => if y = name then some v else none) → (∀ b o, b ≠ e → s.heap.get? b = some o → h'.get? b = some o) → Q () { s with heap := h', toks := tk }) :
  wpAny (model prog w) A (setAttr (.ref e) name v) Q E s := by
 unfold setAttr
 refine wpAny_bind (wpAny_mkText ?_)
 refine wpAny_bind ?_
 unfold callSpecial? specialOf
 refine wpAny_bind (wpAny_bind (QeT (s := { s with toks := s.toks + 1 }) g rfl (QeS (s := { s with toks := s.toks + 1 }) x a1 a2 QeW ?_)))
 dsimp only
 refine wpAny_holding ?_
 rw [QeX]
 refine wpAny_bind (wpAny_pure ?_)
 dsimp only
 refine wpAny_bind (wpAny_call (codeAny_call_builtin (by nofun) F.entry_object_setattr ?_))
 unfold checkBuiltinCall
 rw [F.bk_object_setattr, F.sp_object_setattr]
 dsimp only
 unfold isInstance
 refine wpAny_bind (wpAny_bind (QeT (s := { s with toks := s.toks + 1 }) g rfl (QeP (s := { s with toks := s.toks + 1 }) x.c ?_)))
 rw [if_neg (by simp [vErr])]
 have ao := F.args_object_setattr_3 (.ref e) (.str name s.toks) v
 unfold argsOk at ao
 refine wpAny_of_eq ao ?_
 unfold Builtin.«object.__setattr__»
 rw [if_neg (show ¬ ((!({ pos := [Value.ref e] ++ [Value.str name s.toks, v] } : Args).kw.isEmpty) = true) from Bool.false_ne_true)]
 dsimp only
 refine wpAny_bind (QeY (s := { s with toks := s.toks + 1 }) x g rfl ?_)
 refine wpAny_bind (wpAny_pure ?_)
 refine wpAny_bind (QeT (s := { s with toks := s.toks + 1 }) g rfl (wpAny_bind (QeS (s := { s with toks := s.toks + 1 }) x b1 b2 hy (wpAny_bind (wpAny_pure ?_)))))
 dsimp only
 unfold Builtin.ObjectAttr.storeInOwnDict
 refine wpAny_bind (wpAny_pure ?_)
 rw [if_neg (show ¬ ((Value.ref C == Value.type "module") = true) from Bool.false_ne_true)]
 refine wpAny_bind ?_
 unfold Builtin.ObjectAttr.ownDictForStores instanceDict
 dsimp only
 obtain ⟨⟨nm, q1, bs, sn, sub, ab, col, dd, k0, k1, k2, k3, k5, gC⟩, ns⟩ := id x.c
 refine wpAny_bind (wpAny_loadPart (s := { s with toks := s.toks + 1 }) g ?_)
 dsimp only
 unfold classData
 refine wpAny_bind (wpAny_bind (wpAny_load (s := { s with toks := s.toks + 1 }) gC (wpAny_pure ?_)))
 rw [if_neg (by simp)]
 rw [if_neg (by simp [typeHasDict])]
 have k0' : ∀ b o, s.heap.get? b = some o → (s.heap.push { cls := .type "dict", data := .dict #[] }).get? b = some o := fun b o z => Heap.get?_push_of_some _ z
 refine wpAny_bind (wpAny_alloc (wpAny_bind (wpAny_update (s := { s with heap := s.heap.push { cls := .type "dict", data := .dict #[] }, toks := s.toks + 1 }) (k0' _ _ g) ?_)))
 refine wpAny_pure ?_
 dsimp only
 have gd : (s.heap.push { cls := .type "dict", data := .dict #[] }).get? s.heap.objs.size = some { cls := .type "dict", data := .dict #[] } := Heap.get?_push_size _ rfl
 have ne : s.heap.objs.size ≠ e := fun z => by
  have := Heap.lt_size g
  rw [z] at this
  exact Nat.lt_irrefl _ this
 have ge : ((s.heap.push { cls := .type "dict", data := .dict #[] }).update e fun o => { cls := o.cls, dict := some s.heap.objs.size, data := o.data, slots := o.slots }).get? e = some ⟨.ref C, some s.heap.objs.size, .fields vs, sl⟩ := Heap.get?_update_self _ (k0' _ _ g) rfl
 have sb := Heap.SameBut.update (s.heap.push { cls := .type "dict", data := .dict #[] }) e fun o => { cls := o.cls, dict := some s.heap.objs.size, data := o.data, slots := o.slots }
 generalize (s.heap.push { cls := .type "dict", data := .dict #[] }).update e (fun o => { cls := o.cls, dict := some s.heap.objs.size, data := o.data, slots := o.slots }) = h1 at *
 have n0 : h1.Ns1 s.heap.objs.size fun _ => none := by
  have z : h1.get? s.heap.objs.size = some { cls := .type "dict", data := .dict #[] } := by rw [sb.2 _ ne]; exact gd
  exact Heap.Ns1.of_empty ⟨_, _, _, z, rfl, by intro e he; simp at he, fun _ => rfl⟩
 unfold Builtin.ObjectAttr.storeInDict
 refine wpAny_bind (wpAny_pure ?_)
 refine wpAny_bind (wpAny_nsSet1 (s := { s with heap := h1, toks := s.toks + 1 }) n0 fun h2 n2 sb2 => ?_)
 obtain ⟨o2, es2, ep2, g2, d2, hz⟩ := n2.count (Within.cons name v Within.nil)
 refine wpAny_bind (wpAny_lookBehind (s := { s with heap := h2, toks := s.toks + 1 + 1 }) g2 (by rw [d2]; exact pastItsLine_dict (Nat.le_trans hz (show 1 ≤ sizeLine + 1 by decide))) ?_)
 refine wpAny_pure (wpAny_pure (wpAny_pure ?_))
 refine q h2 s.heap.objs.size _ (QeM (Nat.le_refl _)) (by rw [sb2.2 _ (Ne.symm ne)]; exact ge) n2 fun b o hb z => ?_
 rw [sb2.2 b (fun y => by rw [y, QeM (Nat.le_refl _)] at z; cases z), sb.2 b hb]
 exact k0' _ _ z
end
end MM
namespace MM
open PySem PyProof.Rows
theorem Qe0 : typeLookup (.type "ValueError") (Str.ofString "__getattribute__") = pure (some (.builtin "BaseException.__getattribute__")) := by rfl
theorem Qe1 : typeLookup (.type "ValueError") (Str.ofString "__getattr__") = pure none := by rfl
theorem Qe2 (self : Value) : bindSpecial (.builtin "BaseException.__getattribute__") self = pure (.builtin "BaseException.__getattribute__", [self]) := by rfl
theorem Qe3 : entryFor table "BaseException.__getattribute__" = some Builtin.«object.__getattribute__» := entryFor_alias (id' := "object.__getattribute__") (by rfl) (by nofun) (by nofun) (by rfl)
theorem Qe4 : plainId "BaseException.__getattribute__" = true := by nofun
structure NoN (mN mP : Str → Option Value) (name : Str) : Prop where
 c : mN name = none
 p : mP name = none
structure Plain (mN mP : Str → Option Value) : Prop where
 ga : NoN mN mP (Str.ofString "__getattribute__")
 gh : NoN mN mP (Str.ofString "__getattr__")
 sa : NoN mN mP (Str.ofString "__setattr__")
 cl : NoN mN mP (Str.ofString "__class__")
 qt : ∀ n ∈ quietNames, mP n = none
section
variable {prog : Program} {w : World} {A : Around} {E : Value → Shared → Prop} {s : Shared} {C N P NP e : Addr} {mN mP : Str → Option Value} {name : Str}
theorem Qe5 {nameV : Value} {fill expr : Bool} {o : Obj} {Q : Value → Shared → Prop} (x : XCh s.heap C N P NP mN mP) (pl : Plain mN mP) (g : s.heap.get? e = some o) (hc : o.cls = .ref C)
  (h : wpAny (model prog w) A.in1 (Builtin.«object.__getattribute__» { pos := [.ref e, nameV] }) (fun fin s' => ∃ v, fin = .done (.ret v) ∧ (∀ id, v ≠ .builtin id) ∧ Q v s') (fun _ _ => False) s) : wpAny (model prog w) A (getAttrBy (.ref e) nameV fill expr) Q E s := by
 unfold getAttrBy
 refine wpAny_holding (wpAny_bind (QeT g hc (wpAny_bind (QeS x pl.ga.c pl.ga.p Qe0 ?_))))
 dsimp only
 have nq : ¬ ((onTheHeap (Value.ref C) && (Value.builtin "BaseException.__getattribute__" == Value.builtin "object.__getattribute__")) = true) := (show ¬ ((true && (Value.builtin "BaseException.__getattribute__" == Value.builtin "object.__getattribute__")) = true) by decide)
 rw [if_neg nq]
 unfold getAttrByItsOwn hookBefore
 rw [if_pos (show onTheHeap (.ref C) = true from rfl)]
 refine wpAny_bind (QeS x pl.gh.c pl.gh.p Qe1 ?_)
 refine wpAny_bind (wpAny_attempt (wpAny_holding ?_))
 unfold callGetattribute
 rw [if_neg (by cases expr <;> exact Bool.false_ne_true)]
 unfold boundAndCalled
 rw [Qe2]
 refine wpAny_bind (wpAny_pure ?_)
 dsimp only
 obtain ⟨⟨nm, q1, bs, sn, sub, ab, col, dd, k0, k1, k2, k3, k5, gC⟩, ns⟩ := id x.c
 have tail : OwnTailQ s.heap vErr (.ref P :: vErr) := by
  obtain ⟨⟨nm, q1, bs, sn, sub, ab, col, dd, k0, k1, k2, k3, k5, gP⟩, nsP⟩ := id x.p
  exact .own gP nsP pl.qt .base
 refine wpAny_call (codeAny_call_builtin Qe4 Qe3 (wpAny_check_ga_own (h := s.heap) F.attrBase_ValueError gC tail g hc ?_))
 refine wpAny_mono h (fun fin s' z => ?_) fun _ _ z => z.elim
 obtain ⟨v, e1, nb, hq⟩ := z
 subst e1
 dsimp only
 unfold handedOut
 cases v with
 | builtin id => exact absurd rfl (nb id)
 | _ => exact wpAny_pure hq
theorem Qe6 {v : Value} {dx : Addr} {vs : Array Value} {sl : Array (Option Value)} {mA : Str → Option Value} {expr : Bool} {Q : Value → Shared → Prop} (x : XCh s.heap C N P NP mN mP) (pl : Plain mN mP) (g : s.heap.get? e = some ⟨.ref C, some dx, .fields vs, sl⟩) (hn : s.heap.Ns dx mA) (hv : mA name = some v) (nb : ∀ id, v ≠ .builtin id)
  (no : NoN mN mP name) (hy : typeLookup (.type "ValueError") name = pure none) (q : ∀ tk, Q v { s with toks := tk }) : wpAny (model prog w) A (getAttr (.ref e) name expr) Q E s := by
 unfold getAttr
 refine wpAny_bind (wpAny_mkText (Qe5 (s := { s with toks := s.toks + 1 }) x pl g rfl ?_))
 unfold Builtin.«object.__getattribute__»
 refine wpAny_bind ?_
 show wpAny _ _ (pure (Value.ref e, [Value.str name s.toks])) _ _ _
 refine wpAny_pure ?_
 dsimp only
 refine wpAny_bind (wpAny_pure (wpAny_bind (QeT (s := { s with toks := s.toks + 1 }) g rfl (wpAny_bind ?_))))
 unfold Builtin.ObjectAttr.find
 refine wpAny_bind (QeS (s := { s with toks := s.toks + 1 }) x no.c no.p hy (wpAny_bind (wpAny_pure (wpAny_bind (wpAny_pure ?_)))))
 dsimp only
 unfold Builtin.ObjectAttr.ownThenClass Builtin.ObjectAttr.inOwnDict
 dsimp only
 unfold Builtin.ObjectAttr.ownDict
 obtain ⟨⟨nm, q1, bs, sn, sub, ab, col, dd, k0, k1, k2, k3, k5, gC⟩, ns⟩ := id x.c
 unfold loadHead
 refine wpAny_bind (wpAny_bind (wpAny_bind (wpAny_loadPart (s := { s with toks := s.toks + 1 }) g ?_)))
 dsimp only
 unfold instanceDict
 refine wpAny_bind (wpAny_loadPart (s := { s with toks := s.toks + 1 }) g ?_)
 dsimp only
 unfold classData
 refine wpAny_bind (wpAny_bind (wpAny_load (s := { s with toks := s.toks + 1 }) gC (wpAny_pure ?_)))
 rw [if_neg (by simp)]
 refine wpAny_pure ?_
 unfold Builtin.ObjectAttr.inDict
 dsimp only
 refine wpAny_nsGet (s := { s with toks := s.toks + 1 }) hn ?_
 rw [hv]
 dsimp only
 refine wpAny_bind (wpAny_rule (wpAny_pure ?_))
 exact wpAny_pure ⟨v, rfl, nb, q _⟩
theorem Qe7 : typeLookup (.type "ValueError") (Str.ofString "__class__") = pure (some (.builtin "object.__class__")) := by rfl
theorem Qe8 : typeLookup (.type "getset_descriptor") (Str.ofString "__get__") = pure (some (.builtin "getset_descriptor.__get__")) := by rfl
theorem Qe9 : entryFor table "getset_descriptor.__get__" = some Builtin.«getset_descriptor.__get__» := entryFor_of_tree (by rfl)
theorem Qfa : Slot "getset_descriptor" (Str.ofString "__get__") "getset_descriptor.__get__" := Slot.of (owner := "getset_descriptor") (n := "__get__") Qe8 (by nofun) (by nofun) (by nofun) (Or.inl (by nofun)) (by rw [isSubtype_type]; rfl) (by nofun)
theorem Qfb (a b c : Value) : argsOk "getset_descriptor.__get__" { pos := [a, b, c] } := by rfl
theorem Qfc : ∃ n, Builtin.Getset_descriptor.descrNameAndClass (.builtin "object.__class__") = pure (n, .type "object") := ⟨_, rfl⟩
theorem Qfd : typeLookup (.type "getset_descriptor") (Str.ofString "__set__") = pure (some (.builtin "getset_descriptor.__set__")) := by rfl
theorem Qfe {o : Obj} {Q : Option Value → Shared → Prop} (x : XCh s.heap C N P NP mN mP) (pl : Plain mN mP) (g : s.heap.get? e = some o) (hc : o.cls = .ref C) (q : ∀ tk, Q (some (.ref C)) { s with toks := tk }) : wpAny (model prog w) A (getAttr? (.ref e) (Str.ofString "__class__")) Q E s := by
 unfold getAttr? getAttrBy?
 refine wpAny_bind (wpAny_mkText (wpAny_bind (wpAny_attempt (Qe5 (s := { s with toks := s.toks + 1 }) x pl g hc ?_))))
 unfold Builtin.«object.__getattribute__»
 refine wpAny_bind ?_
 show wpAny _ _ (pure (Value.ref e, [Value.str (Str.ofString "__class__") s.toks])) _ _ _
 refine wpAny_pure ?_
 dsimp only
 refine wpAny_bind (wpAny_pure (wpAny_bind (QeT (s := { s with toks := s.toks + 1 }) g hc (wpAny_bind ?_))))
 unfold Builtin.ObjectAttr.find
 refine wpAny_bind (QeS (s := { s with toks := s.toks + 1 }) x pl.cl.c pl.cl.p Qe7 (wpAny_bind ?_))
 unfold Builtin.ObjectAttr.getOf
 dsimp only
 unfold specialOf
 rw [F.typeOf_object_class]
 refine wpAny_bind (wpAny_pure ?_)
 rw [Qe8]
 refine wpAny_pure (wpAny_bind ?_)
 unfold Builtin.ObjectAttr.dataDescriptor?
 dsimp only
 refine wpAny_bind ?_
 unfold Builtin.ObjectAttr.takesStores specialOf
 rw [F.typeOf_object_class]
 refine wpAny_bind (wpAny_bind (wpAny_pure ?_))
 rw [Qfd]
 refine wpAny_pure ?_
 rw [if_pos (show (some (Value.builtin "getset_descriptor.__set__")).isSome = true from rfl)]
 refine wpAny_pure ?_
 rw [if_pos rfl]
 refine wpAny_pure ?_
 dsimp only
 refine wpAny_bind (wpAny_rule (wpAny_pure ?_))
 dsimp only
 unfold Builtin.ObjectAttr.bindTo
 dsimp only
 refine wpAny_bind (wpAny_holding (wpAny_call (codeAny_call_builtin Qfa.plain Qe9 (Qfa.check _ _ _ _ _ _ _ _ F.typeOf_object_class (Qfb _ _ _) ?_))))
 unfold Builtin.«getset_descriptor.__get__» Builtin.Getset_descriptor.descrGet
 refine wpAny_bind ?_
 show wpAny _ _ (pure (Value.builtin "object.__class__", some (Value.ref e), some (Value.ref C))) _ _ _
 refine wpAny_pure ?_
 dsimp only
 unfold Builtin.Getset_descriptor.descrGetter
 dsimp only
 refine wpAny_bind ?_
 unfold Builtin.Getset_descriptor.descrCheckInstance
 obtain ⟨n, hn⟩ := Qfc
 rw [hn]
 refine wpAny_bind (wpAny_pure ?_)
 dsimp only
 unfold isInstance
 refine wpAny_bind (wpAny_bind (QeT (s := { s with toks := s.toks + 1 }) g hc (QeP (s := { s with toks := s.toks + 1 }) x.c ?_)))
 rw [if_neg (by simp [vErr])]
 refine wpAny_pure (wpAny_pure ⟨Code.quiet_builtin _ (by nofun), codeAny_builtin F.entry_object_class ?_⟩)
 unfold Builtin.«object.__class__»
 dsimp only
 unfold shownTypeOf
 refine wpAny_bind (wpAny_bind (QeT (s := { s with toks := s.toks + 1 }) g hc ?_))
 rw [if_neg (show ¬ ((Value.ref C == Value.type "builtin_function_or_method") = true) from Bool.false_ne_true)]
 refine wpAny_pure (wpAny_pure (wpAny_pure ⟨_, rfl, And.intro (fun id z => by cases z) (wpAny_pure (q _))⟩))
theorem Qff {o : Obj} {T : Value} {Q : Value → Shared → Prop} (x : XCh s.heap C N P NP mN mP) (pl : Plain mN mP) (g : s.heap.get? e = some o) (hc : o.cls = .ref C)
  (ht : ∀ (A : Around) (E : Value → Shared → Prop) (R : Value → Shared → Prop) tk, R (.type "type") { s with toks := tk } → wpAny (model prog w) A (typeOf T) R E { s with toks := tk })
  (hy : ∀ (A : Around) (E : Value → Shared → Prop) (R : Bool → Shared → Prop) tk, R true { s with toks := tk } → wpAny (model prog w) A (isType T) R E { s with toks := tk })
  (q : ∀ tk, Q (.bool ((Value.ref C :: Value.ref P :: vErr).contains T)) { s with toks := tk }) : wpAny (model prog w) A (call (.builtin "isinstance") [.ref e, T]) Q E s := by
 refine call_isinstance_of ?_ (fun z => nomatch z)
 unfold Builtin.«isinstance.nested»
 dsimp only [rawInt]
 refine wpAny_bind (QeT g hc ?_)
 by_cases h1 : (Value.ref C == T) = true
 ·rw [if_pos h1]
  refine wpAny_bind (wpAny_rule (wpAny_pure ?_))
  have e1 : (Value.ref C :: Value.ref P :: vErr).contains T = true := by
   rw [List.contains_cons]
   have : (T == Value.ref C) = true := by
    rw [beq_iff_eq] at h1 ⊢; exact h1.symm
   rw [this]; rfl
  have := q s.toks
  rw [e1] at this
  exact this
 ·rw [if_neg h1]
  refine wpAny_bind (ht _ _ _ s.toks ?_)
  rw [if_pos (by decide)]
  refine wpAny_bind ?_
  show wpAny _ _ (isType T >>= _) _ _ _
  refine wpAny_bind (hy _ _ _ s.toks ?_)
  rw [if_neg (by decide)]
  unfold isInstance
  refine wpAny_bind (wpAny_bind (QeT g hc (QeP x.c ?_)))
  by_cases h2 : (Value.ref C :: Value.ref P :: vErr).contains T = true
  ·rw [if_pos h2]
   refine wpAny_pure (wpAny_pure ?_)
   have := q s.toks
   rw [h2] at this
   exact this
  ·rw [if_neg h2]
   refine wpAny_bind (Qfe x pl g hc fun tk => ?_)
   dsimp only
   obtain ⟨⟨nm, q1, bs, sn, sub, ab, col, dd, k0, k1, k2, k3, k5, gC⟩, ns⟩ := id x.c
   unfold isType
   dsimp only
   unfold loadHead
   refine wpAny_bind (wpAny_bind (wpAny_loadPart (s := { s with toks := tk }) gC (wpAny_pure ?_)))
   rw [if_neg (by simp)]
   refine wpAny_bind (wpAny_rule (QeP (s := { s with toks := tk }) x.c ?_))
   have e2 : (Value.ref C :: Value.ref P :: vErr).contains T = false := by simpa using h2
   refine wpAny_pure ?_
   exact q tk
end
end MM
namespace MM
open PySem PySem.W PyProof.Rows L2
def rawX (e C : Addr) (h : Heap) : Prop := ∃ vs sl, h.get? e = some ⟨.ref C, none, .fields vs, sl⟩
def StrNs (K : Frag) (N : Addr) : Prop := ∃ c d es ep sl, K.lookup N = some ⟨c, d, .dict es ep, sl⟩ ∧ StrKeys es
structure XF (K : Frag) (x f : Str) (C N P NP : Addr) : Prop where
 gl : nsIn K mainGlobals x = some (some (.ref C))
 ob : ∃ q bs sn sub ab col dd k0 k1 k2 k3 k5, K.lookup C = some (excClassObj x q C N bs (.ref P :: vErr) true sn sub ab col dd k0 k1 k2 k3 k5 "ValueError.__new__")
 obP : ∃ q bs sn sub ab col dd k0 k1 k2 k3 k5, K.lookup P = some (excClassObj "PactError" q P NP bs vErr true sn sub ab col dd k0 k1 k2 k3 k5 "ValueError.__new__")
 glP : nsIn K mainGlobals "PactError" = some (some (.ref P))
 sN : StrNs K N
 sP : StrNs K NP
 nn : ∀ n ∈ ([Str.ofString "__getattribute__", Str.ofString "__getattr__", Str.ofString "__setattr__", Str.ofString "__class__", f] : List Str), nsIn K N n = some none
 np : ∀ n ∈ ([Str.ofString "__getattribute__", Str.ofString "__getattr__", Str.ofString "__setattr__", Str.ofString "__class__", f, Str.ofString "__init__", Str.ofString "args"] : List Str), nsIn K NP n = some none
 kp : keepIn K (.ref C) = true
section
variable {K : Frag} {x f : Str} {C N P NP : Addr} {h : Heap}
theorem StrNs.ns (z : StrNs K N) (k : K.In h) : ∃ m, h.Ns N m := by
 obtain ⟨c, d, es, ep, sl, l, sk⟩ := z
 exact ⟨nsFind es, _, es, ep, k _ _ l, rfl, sk, fun _ => rfl⟩
theorem Qfg {m : Str → Option Value} {n : Str} {v : Value} (k : K.In h) (ns : h.Ns N m) (e : nsIn K N n = some (some v)) : m n = some v := by
 obtain ⟨o, es, ep, g, d, sk, hm⟩ := ns
 unfold nsIn at e
 cases hl : List.lookup N K with
 | none => rw [hl] at e; cases e
 | some o' =>
  have g' := k _ _ hl
  rw [g] at g'
  cases g'
  rw [hl] at e
  obtain ⟨oc, od, oo, os⟩ := o
  cases d
  dsimp only at e
  cases hf : List.find? (fun x => x.key.isStr n) es.toList with
  | none =>
   rw [hf] at e
   dsimp only at e
   split at e <;> cases e
  | some en =>
   rw [hf] at e
   cases e
   rw [← hm n]
   unfold nsFind findBy
   rw [← Array.find?_toList]
   show Option.map (fun x => x.val) (List.find? (fun x => x.key.isStr n) es.toList) = _
   rw [hf]; rfl
theorem XF.ch (F : XF K x f C N P NP) (k : K.In h) : ∃ mN mP, XCh h C N P NP mN mP ∧ Plain mN mP ∧ NoN mN mP f ∧ h.Ns N mN ∧ mP (Str.ofString "__init__") = none := by
 obtain ⟨mN, hN⟩ := F.sN.ns k
 obtain ⟨mP, hP⟩ := F.sP.ns k
 obtain ⟨q1, bs, sn, sub, ab, col, dd, k0, k1, k2, k3, k5, l⟩ := F.ob
 obtain ⟨q1', bs', sn', sub', ab', col', dd', k0', k1', k2', k3', k5', l'⟩ := F.obP
 have a : ∀ n ∈ ([Str.ofString "__getattribute__", Str.ofString "__getattr__", Str.ofString "__setattr__", Str.ofString "__class__", f] : List Str), mN n = none := fun n hn => ns_none_of k hN (F.nn n hn)
 have b : ∀ n ∈ ([Str.ofString "__getattribute__", Str.ofString "__getattr__", Str.ofString "__setattr__", Str.ofString "__class__", f, Str.ofString "__init__", Str.ofString "args"] : List Str), mP n = none := fun n hn => ns_none_of k hP (F.np n hn)
 refine ⟨mN, mP, ⟨⟨⟨x, q1, bs, sn, sub, ab, col, dd, k0, k1, k2, k3, k5, k _ _ l⟩, hN⟩, ⟨⟨_, q1', bs', sn', sub', ab', col', dd', k0', k1', k2', k3', k5', k _ _ l'⟩, hP⟩⟩,
  ⟨⟨a _ (by simp), b _ (by simp)⟩, ⟨a _ (by simp), b _ (by simp)⟩, ⟨a _ (by simp), b _ (by simp)⟩, ⟨a _ (by simp), b _ (by simp)⟩, fun n hn => b n ?_⟩, ⟨a _ (by simp), b _ (by simp)⟩, hN, b _ (by simp)⟩
 simp only [quietNames, List.mem_cons, List.not_mem_nil, or_false] at hn
 rcases hn with z | z | z | z <;> (rw [z]; simp)
end
section
variable {X : Cx} {x f : Str} {C N P NP : Addr} {pos pos' : Pos} {o value : Expr} {ta tv : TE}
noncomputable def madeX (H : Hp) (e dx : Addr) (f : Str) (v : V) (ob : Obj) : Hp := upd (upd H dx (.xd [(f, v)])) e (.frz ob (.own e))
theorem Qfh (F : XF X.K x f C N P NP) (hy : typeLookup (.type "ValueError") f = pure none) (ha : PE X o ta) (hv : PE X value tv) (hs : swapsWith value (some (.Attribute o f pos')) pos.line X.env = pure false := by rfl) :
  PS X (.Assign [.Attribute o f pos'] value pos) (fun D σ H => tv σ H fun v H1 => ta σ H1 fun y H2 => ∃ e, y = .ref e ∧ H2 e = some (.ext (rawX e C)) ∧ ∀ dx ob, H2 dx = none → dx ≠ e → ob.cls = .ref C → ob.dict = some dx → (∃ vs, ob.data = .fields vs) → D.nx σ (madeX H2 e dx f v ob)) := by
 intro pins s σ H D I h
 refine plainObj_wpAny_Assign_Attribute (thn (hv pins s σ H _ I h) fun u s1 ⟨y, H1, I1, ry, q⟩ => thn (ha pins s1 σ H1 _ I1 q) fun ov s2 ⟨z, H2, I2, rx, e, ex, ee, q2⟩ => ?_) hs
 subst ex
 obtain rfl : ov = Value.ref e := rx
 obtain ⟨mN, mP, ch, pl, no, _, _⟩ := F.ch I2.kIn
 obtain ⟨⟨vs, sl, g⟩, _, _⟩ := (show ObjOk X.prog X.w H2 s2.heap e (.ext (rawX e C)) from I2.hok e _ ee)
 refine QeZ ch g pl.sa.c pl.sa.p no.c no.p hy fun h' dx tk hdx ge ns kp => ?_
 have hdH : H2 dx = none := by
  cases w : H2 dx with
  | none => rfl
  | some ob =>
   obtain ⟨ob', e'⟩ := QeB (I2.hok dx ob w)
   rw [hdx] at e'; cases e'
 have hde : dx ≠ e := fun w => by rw [w, g] at hdx; cases hdx
 refine ⟨σ, madeX H2 e dx f y ⟨.ref C, some dx, .fields vs, sl⟩, ?_, q2 dx _ hdH hde rfl rfl ⟨vs, rfl⟩⟩
 have ne : ∀ b, H2 b = none → b ≠ e := fun b w z => by rw [z, ee] at w; cases w
 have nd : ∀ {b o}, s2.heap.get? b = some o → b ≠ dx := fun w z => by rw [z, hdx] at w; cases w
 have upE : ∀ b, b ≠ e → b ≠ dx → madeX H2 e dx f y ⟨.ref C, some dx, .fields vs, sl⟩ b = H2 b := fun b h1 h2 => by unfold madeX; rw [Qaj h1, Qaj h2]
 refine I2.step (g' := s2.gens) (d' := s2.drawn) (t' := tk) (ch := []) (fun b hb => by cases hb) (fun b ob _ _ _ e1 n1 => kp b ob (ne b n1) e1) (fun b ob _ _ _ e1 n1 => ⟨ob.slots, kp b ob (ne b n1) e1⟩)
  (fun b ob _ e1 n1 => by rw [upE b (ne b n1) (nd e1)]; exact n1) (fun b ob _ e1 => by
   by_cases w : b = e
   ·exact ⟨_, by rw [w]; exact ge⟩
   ·exact ⟨ob, kp b ob w e1⟩)
  (fun b ys e1 => by rw [upE b (fun w => by rw [w, ee] at e1; cases e1) (Qal e1 hdH)]; exact e1) (fun b ob ys e1 => by rw [upE b (fun w => by rw [w, ee] at e1; cases e1) (Qal e1 hdH)]; exact e1)
  (fun b ps e1 => ⟨#[], by rw [upE b (fun w => by rw [w, ee] at e1; cases e1) (Qal e1 hdH), e1]; simp⟩)
  (fun m hm => by
   obtain ⟨ob, es, ep, g1, r1⟩ := hm
   exact ⟨ob, es, ep, kp _ _ (fun w => by have := I2.free; rw [w, ee] at this; cases this) g1, r1⟩) ?_ I2.bare
 intro b ob e1
 by_cases w : b = e
 ·subst w
  unfold madeX at e1
  rw [Qai] at e1; cases e1
  exact ⟨ge, _, ge⟩
 ·by_cases w2 : b = dx
  ·subst w2
   unfold madeX at e1
   rw [Qaj w, Qai] at e1; cases e1
   refine ⟨_, ns, fun g => ?_⟩
   show RelO (([(f, y)] : List (Str × V)).lookup g) (if g = f then some u else none)
   by_cases q : g = f
   ·rw [if_pos q, q, List.lookup_cons_self]; exact ry
   ·rw [if_neg q, List.lookup_cons, show (g == f) = false from by simpa using q]; exact trivial
  ·rw [upE b w w2] at e1
   refine (I2.hok b ob e1).stay (fun c u' hb e2 => kp c u' (fun zz => ?_) e2) (fun c e2 => by rw [upE c (fun zz => by rw [zz, ee] at e2; cases e2) (Qal e2 hdH)]; exact e2) (fun c ys e2 => by rw [upE c (fun zz => by rw [zz, ee] at e2; cases e2) (Qal e2 hdH)]; exact e2)
   rcases hb with y' | y'
   ·exact w (y'.symm.trans zz)
   ·rw [zz, ee] at y'; cases y'
noncomputable def spI (C : Addr) (f : Str) : Sp := fun vs H Q _ => ∃ e v, vs = [.ref e, v] ∧ H e = some (.ext (rawX e C)) ∧ ∀ dx ob, H dx = none → dx ≠ e → ob.cls = .ref C → ob.dict = some dx → (∃ vs, ob.data = .fields vs) → Q .non (madeX H e dx f v ob)
theorem Qfi {PG : Program} {w : World} {K : Frag} {mg : Str → Option Value} {base : Heap} {qual : Str} {sd : Stmt} {fI : Addr} {fd : FuncData} {p1 p2 p3 p4 : Pos} {n1 n2 : Str} (F : XF K x f C N P NP) (hy : typeLookup (.type "ValueError") f = pure none)
  (FI : L2.Fun K "__init__" qual sd fI fd) (S : FnScope [n1, n2] [n1, n2] (defScope sd)) (hb : defBody sd = [.Assign [.Attribute (.Name n1 p1) f p2] (.Name n2 p3) p4])
  (v1 : Vis (defScope sd) n1) (v2 : Vis (defScope sd) n2) (d1 : (n1 == ("__debug__" : Str)) = false) (d2 : (n2 == ("__debug__" : Str)) = false) (c1 : (n1 == ("__classdict__" : Str)) = false) (c2 : (n2 == ("__classdict__" : Str)) = false) : FnOk PG w K mg base CX0 1 fI fd [n1, n2] (spI C f) := by
 refine FI.ok (k := 0) S (fun vs H Q E h => ?_) (fun cdv A outer s H vs Q E hr h => ?_)
 ·obtain ⟨e, v, rfl, _⟩ := h; rfl
 ·obtain ⟨e, v, rfl, he, q⟩ := h
  rw [hb]
  refine ⟨_, QaG (Qfh (X := (cxOf CX0 PG w K mg base [n1, n2] qual (defScope sd) fI cdv A outer s H E).nox) F hy (Qas (i := 0) rfl v1 d1 c1) (Qas (i := 1) rfl v2 d2 c2)) QaF, ?_⟩
  exact ⟨v, rfl, .ref e, rfl, e, rfl, he, fun dx ob h1 h2 h3 h4 h5 => q dx ob h1 h2 h3 h4 h5⟩
theorem Qfj {pins : List (Addr × Obj)} {σ : L2.St} {H : Hp} {s : Shared} {Q : VK} {u : Value} {v : V} {fI : Addr} {fd : FuncData} {ps : List Str} (F : XF X.K x f C N P NP) (hi : nsIn X.K N (Str.ofString "__init__") = some (some (.ref fI))) (hfn : ∃ oI, X.K.lookup fI = some oI ∧ oI.cls = .type "function")
  (G : FnOk X.prog X.w X.K X.mg X.base CX0 1 fI fd ps (spI C f)) (hr : Room 2 X.A) (hb : Binds X.K fd ps []) (I : Inv X pins σ H s) (r : RelV v u)
  (h : ∀ e dx ob, H e = none → H dx = none → dx ≠ e → ob.cls = .ref C → ob.dict = some dx → (∃ vs, ob.data = .fields vs) → Q (.ref e) (madeX (upd H e (.ext (rawX e C))) e dx f v ob)) :
  wpAny (model X.prog X.w) X.A (call (.ref C) [u]) (EP X pins σ Q) X.xe s := by
 obtain ⟨mN, mP, ch, pl, no, hN, hpi⟩ := F.ch I.kIn
 obtain ⟨oI, lI, cI⟩ := hfn
 refine QeV ch.c (QeU ch hpi (Qfg I.kIn hN hi) (I.kIn _ _ lI) cI (fun h' e hz md => ?_) (show 1 ≤ sizeLine by decide))
 obtain ⟨t, ge, _, _⟩ := md.there
 have I2 : Inv X pins σ (upd H e (.ext (rawX e C))) { s with heap := h' } := I.laid (t' := s.toks) md.keeps hz (show ObjOk X.prog X.w _ h' e (.ext (rawX e C)) from ⟨⟨_, _, ge⟩, ⟨_, ge⟩, fun h1 h2 y1 k => by
  obtain ⟨vs, sl, g1⟩ := y1
  exact ⟨vs, sl, k _ g1⟩⟩)
 have he : H e = none := I.hok.fresh hz
 have hq : spI C f [.ref e, v] (upd H e (.ext (rawX e C))) (fun z H2 => z = .non ∧ Q (.ref e) H2) E0 := ⟨e, v, rfl, Qai, fun dx ob h1 h2 h3 h4 h5 => ⟨rfl, h e dx ob he (by rw [Qaj h2] at h1; exact h1) h2 h3 h4 h5⟩⟩
 have hl : ([Value.ref e, u] ++ []).length = ps.length := by
  have := G.len _ _ _ _ hq
  simpa using this
 refine wpAny_call (codeAny_mono (G.run _ X.stack _ _ ⟨[.ref e, u], []⟩ ([.ref e, u] ++ []) [.ref e, v] _ E0 (hr.make C [u] []) (I2.env0.make C [u] []) (hb _ [.ref e, u] I2.kIn hl) (.cons rfl (.cons r .nil)) hq) fun r s' hq' => ?_)
 cases r with
 | error e => exact hq'.elim
 | ok fl =>
  cases fl with
  | ret u2 =>
   obtain ⟨v2, H', I3, rv, ev, q3⟩ := I2.after hq'
   subst ev
   exact ⟨rv, _, rfl, ⟨V.ref e, H', I3, rfl, q3⟩⟩
  | next => exact False.elim hq'
  | brk => exact False.elim hq'
  | cont => exact False.elim hq'
theorem Qfk {fI : Addr} {fd : FuncData} {ps : List Str} {e : Expr} {t : TA} {p : Pos} (F : XF X.K x f C N P NP) (hi : nsIn X.K N (Str.ofString "__init__") = some (some (.ref fI))) (hfn : ∃ oI, X.K.lookup fI = some oI ∧ oI.cls = .type "function")
  (G : FnOk X.prog X.w X.K X.mg X.base CX0 1 fI fd ps (spI C f)) (hr : Room 2 X.A) (hb : Binds X.K fd ps []) (hg : Gl X x) (hm : X.mg x = some (.ref C)) (ha : PA X [e] t) (hdb : (x == ("__debug__" : Str)) = false := by decide)
  (he : starEach [e] X.env = [(false, eval e X.env)] := by rfl) : PE X (.Call (.Name x p) [e] [] pos) (fun σ H Q => t σ H fun vs H1 => ∃ v, vs = [v] ∧ ∀ e dx ob, H1 e = none → H1 dx = none → dx ≠ e → ob.cls = .ref C → ob.dict = some dx → (∃ vs, ob.data = .fields vs) → Q (.ref e) (madeX (upd H1 e (.ext (rawX e C))) e dx f v ob)) := by
 intro pins s σ H Q I h
 refine wpAny_Call_Name_kw (Qaw I hg hm ?_ hdb)
 refine PySem.W.callWith_K (h₀ := X.base) I.ok.mod.kin F.kp (thn (ha pos pins s σ H _ I h) fun us s1 ⟨vs, H1, I1, r, v, ev, q⟩ => ⟨I1.kIn, ?_⟩) he rfl
 subst ev
 obtain ⟨u, rfl, ru⟩ := Qbg r
 exact Qfj F hi hfn G hr hb I1 ru q
theorem Qfl {p : Pos} (F : XF X.K x f C N P NP) (hi : nsIn X.K N (Str.ofString "__init__") = some none) (hg : Gl X x) (hm : X.mg x = some (.ref C)) (hdb : (x == ("__debug__" : Str)) = false := by decide) :
  PE X (.Call (.Name x p) [] [] pos) (fun σ H Q => ∀ e ob, H e = none → ob.cls = .ref C → ob.dict = none → Q (.ref e) (upd H e (.frz ob (.own e)))) := by
 intro pins s σ H Q I h
 refine wpAny_Call_Name_kw (Qaw I hg hm ?_ hdb)
 refine PySem.W.callWith_K0 I.kIn F.kp ?_
 obtain ⟨mN, mP, ch, pl, no, hN, hpi⟩ := F.ch I.kIn
 obtain ⟨⟨nm, q1, bs, sn, sub, ab, col, dd, k0, k1, k2, k3, k5, g⟩, ns⟩ := id ch.c
 have tail : OwnTail s.heap vErr (.ref P :: vErr) := by
  obtain ⟨⟨nm, q1, bs, sn, sub, ab, col, dd, k0, k1, k2, k3, k5, g⟩, ns⟩ := id ch.p
  exact .own g ns hpi .base
 refine wpAny_call_exc_subU (h := s.heap) PySem.F.excBase_ValueError rfl PySem.F.excBase_ValueError tail g ns (ns_none_of I.kIn hN hi) (fun h' e md => ?_) (by decide)
 obtain ⟨t, ge, _, _⟩ := md.there
 have he : H e = none := by
  cases w : H e with
  | none => rfl
  | some ob =>
   obtain ⟨ob', e'⟩ := QeB (I.hok e ob w)
   rw [md.new] at e'; cases e'
 have nd : ∀ {b o}, s.heap.get? b = some o → b ≠ e := fun w z => by rw [z, md.new] at w; cases w
 refine ⟨.ref e, _, ?_, rfl, h e ⟨.ref C, none, .fields #[.ref t, .none, .none, .none, .bool false, .none], #[]⟩ he rfl rfl⟩
 refine I.step (g' := s.gens) (d' := s.drawn) (t' := s.toks) (ch := []) (fun b hb => by cases hb) (fun b ob _ _ _ e1 n1 => md.keeps b ob e1) (fun b ob _ _ _ e1 n1 => ⟨ob.slots, md.keeps b ob e1⟩)
  (fun b ob _ e1 n1 => by rw [Qaj (nd e1)]; exact n1) (fun b ob _ e1 => ⟨ob, md.keeps b ob e1⟩)
  (fun b ys e1 => by rw [Qaj (Qal e1 he)]; exact e1) (fun b ob ys e1 => by rw [Qaj (Qal e1 he)]; exact e1)
  (fun b ps e1 => ⟨#[], by rw [Qaj (Qal e1 he), e1]; simp⟩)
  (fun m hm => by
   obtain ⟨ob, es, ep, g1, r1⟩ := hm
   exact ⟨ob, es, ep, md.keeps _ _ g1, r1⟩) ?_ I.bare
 intro b ob e1
 by_cases w : b = e
 ·subst w
  rw [Qai] at e1; cases e1
  exact ⟨ge, _, ge⟩
 ·rw [Qaj w] at e1
  exact (I.hok b ob e1).stay (fun c u' hb e2 => md.keeps c u' e2) (fun c e2 => by rw [Qaj (Qal e2 he)]; exact e2) (fun c ys e2 => by rw [Qaj (Qal e2 he)]; exact e2)
theorem Qfm {e : Expr} {te : TE} (hy : typeLookup (.type "ValueError") f = pure none) (he : PE X e te) (hb : attributeBase e f X.env (eval e X.env) = eval e X.env := by rfl) :
  PE X (.Attribute e f pos) (fun σ H Q => te σ H fun y H1 => ∃ a dx v ob x C N P NP, y = .ref a ∧ XF X.K x f C N P NP ∧ H1 a = some (.frz ob (.own a)) ∧ ob.cls = .ref C ∧ ob.dict = some dx ∧ (∃ vs, ob.data = .fields vs) ∧ H1 dx = some (.xd [(f, v)]) ∧ Q v H1) := by
 intro pins s σ H Q I h
 refine Qbj hb (thn (he pins s σ H _ I h) fun u s1 z => ?_)
 obtain ⟨y, H1, I1, rx, a, dx, v, ob, x, C, N, P, NP, ex, F, ea, oc, od, ⟨vs, ov⟩, ed, q⟩ := z
 subst ex
 obtain rfl : u = Value.ref a := rx
 obtain ⟨mN, mP, ch, pl, no, hN, hpi⟩ := F.ch I1.kIn
 obtain ⟨ga, _⟩ := (show ObjOk X.prog X.w H1 s1.heap a (.frz ob (.own a)) from I1.hok a _ ea)
 obtain ⟨mA, n1, rl⟩ := (show ObjOk X.prog X.w H1 s1.heap dx (.xd [(f, v)]) from I1.hok dx _ ed)
 have r1 := rl f
 rw [List.lookup_cons_self] at r1
 cases hm : mA f with
 | none => rw [hm] at r1; exact r1.elim
 | some u1 =>
  rw [hm] at r1
  have r2 : RelV v u1 := r1
  obtain ⟨c0, d0, dd0, sl0⟩ := ob
  cases oc
  cases od
  cases ov
  refine Qe6 ch pl ga n1.ns hm (fun id z => ?_) no hy fun tk => ⟨v, H1, I1.tok _, r2, q⟩
  subst z
  cases v <;> first | (obtain ⟨_, z⟩ := r2; cases z) | cases r2
noncomputable def isOf (C P : Addr) (T : V) : Bool := match T with
 | .ref D => decide (D = C) || decide (D = P)
 | .ty n => ["ValueError", "Exception", "BaseException", "object"].contains n
 | _ => false
theorem Qfn : CallR X (.builtin "isinstance") (fun xs H Q => ∃ a ob x f C N P NP T, xs = [.ref a, T] ∧ XF X.K x f C N P NP ∧ H a = some (.frz ob (.own a)) ∧ ob.cls = .ref C ∧ (T = .ty "ValueError" ∨ ∃ D nm q bs bm N sn sub ab col dd k0 k1 k2 k3 k5, T = .ref D ∧ X.K.lookup D = some (excClassObj nm q D N bs bm true sn sub ab col dd k0 k1 k2 k3 k5 "ValueError.__new__")) ∧ Q (.bl (isOf C P T)) H) := by
 intro pins s σ H xs us Q I r h
 obtain ⟨a, ob, x, f, C, N, P, NP, T, rfl, F, ea, oc, hT, q⟩ := h
 obtain ⟨mN, mP, ch, pl, no, hN, hpi⟩ := F.ch I.kIn
 obtain ⟨ga, _⟩ := (show ObjOk X.prog X.w H s.heap a (.frz ob (.own a)) from I.hok a _ ea)
 cases r with
 | cons r1 r2 =>
 cases r1
 cases r2 with
 | cons r3 r4 =>
 cases r4
 rcases hT with hT | ⟨D, nm, q1, bs, bm, N', sn, sub, ab, col, dd, k0, k1, k2, k3, k5, hT, lD⟩
 ·subst hT
  cases r3
  refine Qff ch pl ga oc (fun A E R tk hR => wpAny_pure hR) (fun A E R tk hR => wpAny_pure hR) fun tk => ?_
  have e1 : (Value.ref C :: Value.ref P :: vErr).contains (Value.type "ValueError") = isOf C P (.ty "ValueError") := by
   show _ = true
   simp [vErr]
  rw [e1]
  exact ⟨.bl _, H, I.tok _, rfl, q⟩
 ·subst hT
  cases r3
  have gD := I.kIn _ _ lD
  refine Qff ch pl ga oc (fun A E R tk hR => wpAny_typeOf_ref (s := { s with toks := tk }) gD hR) (fun A E R tk hR => ?_) fun tk => ?_
  ·unfold isType
   dsimp only
   unfold loadHead
   exact wpAny_bind (wpAny_loadPart (s := { s with toks := tk }) gD (wpAny_pure hR))
  ·have e1 : (Value.ref C :: Value.ref P :: vErr).contains (Value.ref D) = isOf C P (.ref D) := by
     show _ = (decide (D = C) || decide (D = P))
     rw [List.contains_cons, List.contains_cons]
     have z : vErr.contains (Value.ref D) = false := rfl
     rw [z, Bool.or_false]
     have z2 : ∀ a b : Addr, (Value.ref a == Value.ref b) = decide (a = b) := fun a b => by
      by_cases w : a = b
      ·subst w; rw [decide_eq_true rfl]; exact beq_self_eq_true _
      ·rw [decide_eq_false w]; exact beq_eq_false_iff_ne.mpr (fun z => w (by injection z))
     rw [z2, z2]
   rw [e1]
   exact ⟨.bl _, H, I.tok _, rfl, q⟩
end
end MM
namespace MM
open PySem PySem.Spec PyProof.Rows L2
structure NameOk (x : Str) : Prop where
 d : (x == ("__debug__" : Str)) = false
 c : (x == ("__classdict__" : Str)) = false
 n : x ≠ "__name__"
theorem nok {x : Str} (h : ((x == ("__debug__" : Str)) || (x == ("__classdict__" : Str)) || decide (x = ("__name__" : Str))) = false) : NameOk x := by
 rw [Bool.or_eq_false_iff, Bool.or_eq_false_iff] at h
 exact ⟨h.1.1, h.1.2, of_decide_eq_false h.2⟩
structure Sc (X : Cx) (sc : Scope) : Prop where
 vis : ∀ x k, sc.names.lookup x = some k → (k = .local ∨ k = .cell ∨ k = .free) → Vis X.env.scope x
 cel : ∀ x, (sc.names.lookup x = some .cell ∨ sc.names.lookup x = some .free) → (X.env.kindOf x = some .cell ∨ X.env.kindOf x = some .free)
 glo : ∀ x, sc.names.lookup x = some .globalImplicit → Gl X x
 loc : ∀ x k, sc.names.lookup x = some k → (k = .local ∨ k = .cell) → L2.Loc X.env.scope x ∧ (X.fn x = true ∨ X.env.scope.names.lookup x = some .local)
 calm : X.calm = true
theorem Qfo {P : Program} {w : World} {K : PySem.W.Frag} {mg : Str → Option Value} {base : Heap} {N : List Str} {qual : Str} {sc : Scope} {f : Addr} {cdv : Value} {A : Around} {outer : List Env} {s : Shared} {H : Hp} {E : XK} :
  Sc (cxOf CX0 P w K mg base N qual sc f cdv A outer s H E).nox sc where
 vis := fun x k h hk => by
  rcases hk with z | z | z <;> subst z
  ·exact .inl h
  ·exact .inr (.inl h)
  ·exact .inr (.inr h)
 cel := fun x h => h
 glo := fun x h => h
 loc := fun x k h hk => ⟨by rcases hk with z | z <;> subst z; exact .inl h; exact .inr h, .inl rfl⟩
 calm := rfl
theorem Qfp {X : Cx} {N : List Str} {scope : Scope} {fp : List Addr} {s : Shared} {H : Hp} (hc : X.calm = true) : Sc (cxC X N scope fp s H) scope where
 vis := fun x k h hk => by
  show (relabel scope X.env).names.lookup x = _ ∨ (relabel scope X.env).names.lookup x = _ ∨ (relabel scope X.env).names.lookup x = _
  rw [Qdc, h, Option.map_some]
  rcases hk with z | z | z <;> subst z
  ·exact .inl rfl
  ·exact .inr (.inl rfl)
  ·by_cases hq : (NameKind.free == NameKind.free && X.env.scope.kind == .function && X.env.kindOf x == some .cell) = true
   ·rw [if_pos hq]; exact .inr (.inl rfl)
   ·rw [if_neg hq]; exact .inr (.inr rfl)
 cel := fun x h => by
  show (relabel scope X.env).names.lookup x = _ ∨ (relabel scope X.env).names.lookup x = _
  rcases h with h | h <;> rw [Qdc, h, Option.map_some]
  ·exact .inl rfl
  ·by_cases hq : (NameKind.free == NameKind.free && X.env.scope.kind == .function && X.env.kindOf x == some .cell) = true
   ·rw [if_pos hq]; exact .inl rfl
   ·rw [if_neg hq]; exact .inr rfl
 glo := fun x h => by
  show (relabel scope X.env).names.lookup x = _
  rw [Qdc, h, Option.map_some]; rfl
 loc := fun x k h hk => by
  refine ⟨?_, .inl ?_⟩
  ·show (relabel scope X.env).names.lookup x = _ ∨ (relabel scope X.env).names.lookup x = _
   rw [Qdc, h, Option.map_some]
   rcases hk with z | z <;> subst z
   ·exact .inl rfl
   ·exact .inr rfl
  ·show decide (scope.names.lookup x = some .local ∨ scope.names.lookup x = some .cell) = true
   rw [h]
   rcases hk with z | z <;> subst z <;> decide
 calm := hc
noncomputable def compChk (sc scope : Scope) : Bool :=
 (scope.kind == .function) && scope.names.all (fun p => p.2 != .local || scope.names.lookup p.1 == some .local) &&
 scope.names.all (fun p => p.2 != .free || ((sc.names.lookup p.1 == some .cell || sc.names.lookup p.1 == some .free) && !scope.names.contains (p.1, .cell) && scope.names.lookup p.1 != some .local))
theorem Qfq {X : Cx} {sc scope : Scope} (S : Sc X sc) (h : compChk sc scope = true) : CompScope X scope := by
 unfold compChk at h
 rw [Bool.and_eq_true, Bool.and_eq_true] at h
 obtain ⟨⟨h1, h2⟩, h3⟩ := h
 rw [List.all_eq_true] at h2 h3
 have fr : ∀ x, (x, NameKind.free) ∈ scope.names → (sc.names.lookup x = some .cell ∨ sc.names.lookup x = some .free) ∧ (x, NameKind.cell) ∉ scope.names ∧ scope.names.lookup x ≠ some .local := fun x hx => by
  have q := h3 _ hx
  simp only [bne_self_eq_false, Bool.false_or, Bool.and_eq_true, Bool.or_eq_true, beq_iff_eq, Bool.not_eq_true', bne_iff_ne, ne_eq] at q
  obtain ⟨⟨q1, q2⟩, q3⟩ := q
  refine ⟨q1, fun z => ?_, q3⟩
  have : scope.names.contains (x, NameKind.cell) = true := List.contains_iff_mem.mpr z
  rw [this] at q2; cases q2
 refine ⟨by simpa using h1, fun p hp hl => ?_, fun x hx => S.cel x (fr x hx).1, fun x hx => (fr x hx).2.1, fun x hx => (fr x hx).2.2⟩
 have q := h2 p hp
 rw [hl] at q
 simpa using q
noncomputable def namesChk (N0 : List Str) (scope : Scope) (N : List Str) (n : Nat) (ix : List Nat) : Bool :=
 N.length == n + ix.length && (List.range ix.length).all fun j => match ix[j]?, N[n + j]? with
  | some i, some x => N0[i]? == some x && scope.names.lookup x == some .free
  | _, _ => false
theorem Qfr {X : Cx} {N0 : List Str} {scope : Scope} {N : List Str} {n : Nat} {ix : List Nat} (hX : X.N = N0) (h : namesChk N0 scope N n ix = true) : CompNames X scope N n ix := by
 unfold namesChk at h
 rw [Bool.and_eq_true, List.all_eq_true] at h
 refine ⟨by simpa using h.1, fun j i x hj hx => ?_⟩
 have q := h.2 j (List.mem_range.mpr (List.getElem?_eq_some_iff.mp hj).1)
 rw [hj, hx] at q
 simp only [Bool.and_eq_true, beq_iff_eq] at q
 rw [hX]
 exact q
section
variable {X : Cx} {sc : Scope} {a b c e o tg : Expr} {es : List Expr} {pos p : Pos} {fa fb fc : CE} {ca cb : CA} {x : Str} {T id : String}
theorem Qfs (S : Sc X sc) (i : Nat) (hN : X.N[i]? = some x) {k : NameKind} (h : sc.names.lookup x = some k) (n : NameOk x) (hk : k = .local ∨ k = .cell ∨ k = .free := by decide) : SE X (.Name x pos) (cVar i) := QcD i (Qas hN (S.vis x k h hk) n.d n.c)
theorem Qft (S : Sc X sc) (i : Nat) (nd : X.N.Nodup) (hN : X.N[i]? = some x) {k : NameKind} (h : sc.names.lookup x = some k) (hk : k = .local ∨ k = .cell := by decide) : SG X (.Name x pos) (gVar i) :=
 QdP (QaJ nd hN (S.loc x k h hk).1 (S.loc x k h hk).2)
theorem Qfu (S : Sc X sc) (i : Nat) (nd : X.N.Nodup) (hN : X.N[i]? = some x) {k : NameKind} (h : sc.names.lookup x = some k) {pos' : Pos} (he : SE X e fa) (hk : k = .local ∨ k = .cell := by decide) (hs : swapsWith e (some (.Name x pos')) pos.line X.env = pure false := by rfl) :
  SS X (.Assign [.Name x pos'] e pos) (sAsg (gVar i) fa) := QdW nd hN (S.loc x k h hk).1 he hs (S.loc x k h hk).2
theorem Qfv {n : Nat} (h : ∀ l st ds st', ca l st = .ok ds st' → ds.length = n) : ∀ l st ds st', cCons fa ca l st = .ok ds st' → ds.length = n + 1 := fun l st ds st' e => by
 unfold cCons bnd at e
 cases q : fa l st with
 | ok d s1 =>
  rw [q] at e
  dsimp only at e
  cases q2 : ca l s1 with
  | ok es s2 =>
   rw [q2] at e
   have := h l s1 es s2 q2
   cases e
   simp [this]
  | exc _ _ => rw [q2] at e; cases e
  | bad => rw [q2] at e; cases e
 | exc _ _ => rw [q] at e; cases e
 | bad => rw [q] at e; cases e
theorem Qfw : ∀ l st ds st', cNil l st = .ok ds st' → ds.length = 0 := fun l st ds st' e => by cases e; rfl
theorem Qfx {k n : Nat} {f : Addr} {fd : FuncData} {ps : List Str} {g : List D → M D} (S : Sc X sc) (h : sc.names.lookup x = some .globalImplicit) (F : FnOk X.prog X.w X.K X.mg X.base CX0 k f fd ps (spOf X.K n g)) (hr : Room k X.A) (hm : X.mg x = some (.ref f))
  (hk : PySem.W.keepIn X.K (.ref f) = true) (hb : Binds X.K fd ps []) (nk : NameOk x) (ha : SA X (e :: es) ca) (hn : ∀ l st ds st', ca l st = .ok ds st' → ds.length = n)
  (he : starEach (e :: es) X.env = (false, eval e X.env) :: starEach es X.env := by rfl) (hpl : (backTo pos (starEach es X.env)).any (·.1) = false := by rfl) : SE X (.Call (.Name x p) (e :: es) [] pos) (cCall g ca) :=
 QdG F hr (S.glo x h) hm hk hb Qb6 ha hn nk.d he hpl
end
theorem Qfy {k : Nat} {X : Cx} (h : Room k X.A) : X.A.units + 60 < cLine := by have := h.units; ac_nf
end MM
namespace MM
open PySem PySem.Spec PyProof.Rows L2
theorem Qfz {P : Program} {w : World} {K : PySem.W.Frag} {mg : Str → Option Value} {base : Heap} {x qual : Str} {sd : Stmt} {f : Addr} {fd : FuncData} {N ps : List Str} {k n m : Nat} {body : CS} (F : Fun K x qual sd f fd) (S : FnScope N ps (defScope sd)) (hn : ps.length = n) (hm : N.length = m)
  (hbody : ∀ (cdv : Value) (A : Around) (outer : List Env) (s : Shared) (H : Hp) (E : XK), Room k (A.deeper (envOfC qual (defScope sd) s.heap.objs.size f cdv)) → SSs (cxOf CX0 P w K mg base N qual (defScope sd) f cdv A outer s H E).nox (defBody sd) body) :
  FnOk P w K mg base CX0 (k + 1) f fd ps (spOf K n (runDef m body)) := by
 subst hn hm
 exact Qd0 F S hbody
end MM
namespace MM
open PySem PySem.Spec PyProof.Rows L2
theorem QfA {K : PySem.W.Frag} {ρ : List Addr} {H : Hp} : ∀ (ns : List Int), Reps K ρ H (ns.map V.int) (ns.map D.int)
 | [] => .nil
 | n :: ns => .cons (.int n) (QfA ns)
theorem QfB {K : PySem.W.Frag} {H : Hp} {a : Addr} {ns : List Int} {g : List D → M D} (hO : Only H) (hS : SqL K H a (ns.map V.int)) (h : ∃ st', g [.lit (ns.map D.int)] [] = .ok (.bl true) st') :
  spOf K 1 g [.ref a] H (fun v _ => v = .bl true) fun _ _ _ => False := by
 obtain ⟨st', e⟩ := h
 have fz : FzL K H a (ns.map V.int) := by
  rcases hS with (h | ⟨o, h⟩) | h
  ·rcases hO a with z | ⟨ob, xs, z⟩ <;> (rw [z] at h; cases h)
  ·exact .inl ⟨o, h⟩
  ·exact .inr h
 refine ⟨rfl, [], [], _, ⟨rfl, List.nodup_nil, fun n b o z => by cases z⟩, .cons (.lit fz (QfA ns)) .nil, ?_⟩
 rw [e]
 intro ρ' H' _ _ v rv
 cases rv
 rfl
abbrev LK (st : Stmt) (x : Str) (k : NameKind) : Prop := (defScope st).names.lookup x = some k
@[elab_as_elim] theorem le1 {A : Type} {P : List A → Prop} (h : ∀ a, P [a]) (us : List A) (hl : us.length = 1) : P us := by
 cases us with
 | nil => cases hl
 | cons a t => cases t with
  | nil => exact h a
  | cons b u => simp at hl
@[elab_as_elim] theorem le2 {A : Type} {P : List A → Prop} (h : ∀ a0 a1, P [a0, a1]) (us : List A) (hl : us.length = 2) : P us := by
 cases us with
 | nil => cases hl
 | cons a t => exact le1 (P := fun t => P (a :: t)) (h a) t (Nat.succ.inj hl)
end MM
namespace MM
open PySem PySem.Spec PyProof.Rows L2
structure FunD (K : PySem.W.Frag) (x qual : Str) (st : Stmt) (f : Addr) (fd : FuncData) (u : Value) : Prop where
 ex : ∃ (oc : Value) (od : Option Addr) (kV doc pm : Value) (an : Option Addr) (cdv ct : Value) (osl : Array (Option Value)) (T : Addr) (o : Obj) (n : Nat),
  fd = PySem.W.fnOf x qual (defArgs st) (defBody st) (defScope st) (.ref T) kV doc pm an cdv ct ∧ K.lookup f = some ⟨oc, od, .func fd, osl⟩ ∧ PySem.W.codeIn K cdv qual = true ∧ K.lookup T = some o ∧ o.data = .seq #[u] n
 kp : PySem.W.keepIn K (.ref f) = true
section
variable {P : Program} {w : World} {K : PySem.W.Frag} {mg : Str → Option Value} {base : Heap} {x qual : Str} {st : Stmt} {f : Addr} {fd : FuncData} {u : Value} {ps : List Str}
theorem FunD.binds {ds : List Value} (F : FunD K x qual st f fd u)
  (h : ∀ (T : Addr) (kV doc pm : Value) (an : Option Addr) (cdv ct : Value) (us : List Value), (us ++ ds).length = ps.length → ∃ k : Option (Array Value) → Sem (List (Str × Value)), bindArgs (PySem.W.fnOf x qual (defArgs st) (defBody st) (defScope st) (.ref T) kV doc pm an cdv ct) ⟨us, []⟩ = seqItems? (.ref T) >>= k ∧ k (some #[u]) = pure (ps.zip (us ++ ds))) : Binds K fd ps ds := by
 obtain ⟨oc, od, kV, doc, pm, an, cdv, ct, osl, T, o, n, rfl, lk, hcd, lt, ht⟩ := F.ex
 intro s us KX hl
 obtain ⟨k, h1, h2⟩ := h T kV doc pm an cdv ct us hl
 exact BindsTo.of_defaults (T := T) rfl (KX T o lt) ht h1 h2
end
section
variable {X : Cx} {sc : Scope} {e : Expr} {es : List Expr} {pos p : Pos} {ca : CA} {x : Str}
end
end MM
namespace MM
open PySem PySem.W PyProof.Rows L2
section
variable {K : Frag} {ρ : List Addr} {H H1 : Hp} {st : Sto}
theorem Ex.more (h : ∀ b o, H b = some o → H1 b = some o) : Ex ρ H ρ H1 :=
 ⟨⟨[], by simp, by simp⟩, fun b u _ e => h b u e, fun b u _ e => h b u e, fun b u e => ⟨u, h b u e, rfl⟩⟩
theorem SR.more (s : SR K ρ H st) (h : ∀ b o, H b = some o → H1 b = some o) : SR K ρ H1 st :=
 ⟨s.len, s.nd, fun n b ob e1 e2 => ObR.mono (o := ob) (Ex.more (ρ := ρ) h).up (s.ob n b ob e1 e2) fun u q => h b u q⟩
theorem QfC {e dx : Addr} {f : Str} {v : V} {ob : Obj} {o : HO} (he : H e = none) (hd : H dx = none) : ∀ b u, H b = some u → madeX (upd H e o) e dx f v ob b = some u := fun b u q => by
 unfold madeX
 rw [Qaj (Qal q he), Qaj (Qal q hd), Qaj (Qal q he)]; exact q
end
section
variable {X : Cx} {sc : Scope} {x f y : Str} {C N P NP D : Addr} {pos p p1 : Pos} {e : Expr} {fa : CE} {xs : List Str}
theorem QfD {fI : Addr} {fd : FuncData} {ps : List Str} (F : XF X.K x f C N P NP) (hi : nsIn X.K N (Str.ofString "__init__") = some (some (.ref fI))) (hfn : ∃ oI, X.K.lookup fI = some oI ∧ oI.cls = .type "function")
  (G : FnOk X.prog X.w X.K X.mg X.base CX0 1 fI fd ps (spI C f)) (hr : Room 2 X.A) (hb : Binds X.K fd ps []) (S : Sc X sc) (h : sc.names.lookup x = some .globalImplicit) (hm : X.mg x = some (.ref C)) (nk : NameOk x) (ha : SE X e fa)
  (he : starEach [e] X.env = [(false, eval e X.env)] := by rfl) : SE X (.Call (.Name x p) [e] [] pos) (c1 (mkX x f) fa) :=
 (Qfk F hi hfn G hr hb (S.glo x h) hm (Qbn ha Qbm he) nk.d he).of fun σ H Q h_ => h_.el fun ρ l st lr sr q => ⟨ρ, l, st, lr, sr, q.bnd.imp fun d st1 ρ1 H1 x1 s1 q1 v rv => ⟨v, rfl, fun e dx ob h1 h2 h3 h4 h5 h6 => by
  have k := QfC (f := f) (v := v) (ob := ob) (o := .ext (rawX e C)) h1 h2
  refine q1 ρ1 _ (Ex.more k) (s1.more k) (.ref e) (.exn F.gl ⟨ob, ?_, h4, h5, h6⟩ ?_ (rv.mono (Ex.more k)))
  ·unfold madeX; rw [Qai]
  ·unfold madeX; rw [Qaj h3, Qai]⟩⟩
theorem QfE (F : XF X.K x f C N P NP) (hi : nsIn X.K N (Str.ofString "__init__") = some none) (S : Sc X sc) (h : sc.names.lookup x = some .globalImplicit) (hm : X.mg x = some (.ref C)) (nk : NameOk x) :
  SE X (.Call (.Name x p) [] [] pos) (cCon (.exn x [])) :=
 (Qfl F hi (S.glo x h) hm nk.d).of fun σ H Q h_ => h_.el fun ρ l st lr sr q e ob h1 h2 h3 => by
  have k : ∀ b u, H b = some u → upd H e (.frz ob (.own e)) b = some u := fun b u q => by rw [Qaj (Qal q h1)]; exact q
  exact q ρ _ (Ex.more k) (sr.more k) (.ref e) (.exn0 F.gl ⟨ob, Qai, h2⟩)
theorem QfF (F : XF X.K x f C N P NP) (hy : typeLookup (.type "ValueError") f = pure none) (ha : SE X e fa) (hb : attributeBase e f X.env (eval e X.env) = eval e X.env := by rfl) :
  SE X (.Attribute e f pos) (c1 (attrX x f) fa) :=
 (Qfm hy ha hb).of fun σ H Q h_ => h_.el fun ρ l st lr sr q => ⟨ρ, l, st, lr, sr, q.bnd.imp fun d st1 ρ1 H1 x1 s1 q1 v rv => by
  cases rv with
  | @exn a C' dx x' f' v' d' g hh h2 r =>
   obtain ⟨⟨rfl, rfl⟩, q2⟩ := q1.chk
   obtain ⟨o, ho, hc, hd, hv⟩ := hh
   have eC : C' = C := by
    have := g.symm.trans F.gl
    injection this with t; injection t with t; injection t
   subst eC
   exact ⟨a, dx, v', o, _, _, _, _, _, rfl, F, ho, hc, hd, hv, h2, q2.ret s1 _ r⟩
  | _ => exact q1.elim⟩
structure XO (K : Frag) (y : Str) (D : Addr) : Prop where
 gl : nsIn K mainGlobals y = some (some (.ref D))
 ob : ∃ N bm q bs sn sub ab col dd k0 k1 k2 k3 k5, K.lookup D = some (excClassObj y q D N bs bm true sn sub ab col dd k0 k1 k2 k3 k5 "ValueError.__new__")
theorem XF.xo (F : XF X.K x f C N P NP) : XO X.K x C := ⟨F.gl, let ⟨q, bs, sn, sub, ab, col, dd, k0, k1, k2, k3, k5, l⟩ := F.ob; ⟨_, _, q, bs, sn, sub, ab, col, dd, k0, k1, k2, k3, k5, l⟩⟩
theorem XF.xp (F : XF X.K x f C N P NP) : XO X.K "PactError" P := ⟨F.glP, let ⟨q, bs, sn, sub, ab, col, dd, k0, k1, k2, k3, k5, l⟩ := F.obP; ⟨_, _, q, bs, sn, sub, ab, col, dd, k0, k1, k2, k3, k5, l⟩⟩
theorem XF.xo' {K : Frag} {x f : Str} {C N P NP : Addr} (F : XF K x f C N P NP) : XO K x C := ⟨F.gl, let ⟨q, bs, sn, sub, ab, col, dd, k0, k1, k2, k3, k5, l⟩ := F.ob; ⟨_, _, q, bs, sn, sub, ab, col, dd, k0, k1, k2, k3, k5, l⟩⟩
theorem XO.iff {K : Frag} {x y : Str} {C D : Addr} (a : XO K x C) (b : XO K y D) : decide (D = C) = (x == y) := by
 by_cases z : x = y
 ·subst z
  have e : C = D := by
   have := a.gl.symm.trans b.gl
   injection this with t; injection t with t; injection t
  rw [e]; simp
 ·rw [decide_eq_false (fun w => ?_), beq_eq_false_iff_ne.mpr z]
  subst w
  obtain ⟨N, bm, q, bs, sn, sub, ab, col, dd, k0, k1, k2, k3, k5, l⟩ := a.ob
  obtain ⟨N', bm', q', bs', sn', sub', ab', col', dd', k0', k1', k2', k3', k5', l'⟩ := b.ob
  rw [l] at l'
  injection l' with t
  injection t with _ _ t _
  injection t with t
  injection t with t
  exact z t
theorem QfG {H : Hp} {Q : VK} {a C' : Addr} {x' : Str} {T : V} (B : ∀ x ∈ xs, ∃ f C N P NP, XF X.K x f C N P NP) (hx : x' ∈ xs) (g : nsIn X.K mainGlobals x' = some (some (.ref C'))) (hh : ∃ o, H a = some (.frz o (.own a)) ∧ o.cls = .ref C')
  (hT : T = .ty "ValueError" ∨ ∃ y D, T = .ref D ∧ XO X.K y D) (q : ∀ P, XO X.K x' C' → XO X.K "PactError" P → Q (.bl (isOf C' P T)) H) :
  ∃ b ob x f C N P NP T', [V.ref a, T] = [.ref b, T'] ∧ XF X.K x f C N P NP ∧ H b = some (.frz ob (.own b)) ∧ ob.cls = .ref C ∧ (T' = .ty "ValueError" ∨ ∃ D nm q bs bm N sn sub ab col dd k0 k1 k2 k3 k5, T' = .ref D ∧ X.K.lookup D = some (excClassObj nm q D N bs bm true sn sub ab col dd k0 k1 k2 k3 k5 "ValueError.__new__")) ∧ Q (.bl (isOf C P T')) H := by
 obtain ⟨f, C, N, P, NP, F⟩ := B x' hx
 obtain ⟨o, ho, hc⟩ := hh
 have eC : C' = C := by
  have := g.symm.trans F.gl
  injection this with t; injection t with t; injection t
 subst eC
 refine ⟨a, o, x', f, C', N, P, NP, T, rfl, F, ho, hc, ?_, q P F.xo F.xp⟩
 rcases hT with h | ⟨y, D, h, O⟩
 ·exact .inl h
 ·obtain ⟨N, bm, q, bs, sn, sub, ab, col, dd, k0, k1, k2, k3, k5, l⟩ := O.ob
  exact .inr ⟨D, y, q, bs, bm, N, sn, sub, ab, col, dd, k0, k1, k2, k3, k5, h, l⟩
theorem QfH (B : ∀ x ∈ xs, ∃ f C N P NP, XF X.K x f C N P NP) (O : XO X.K y D) (hg : Gl X "isinstance") (hm : X.mg "isinstance" = none) (hv : bootBuiltins "isinstance" = some (.builtin "isinstance")) (S : Sc X sc) (h : sc.names.lookup y = some .globalImplicit) (hmy : X.mg y = some (.ref D)) (nk : NameOk y) (ha : SE X e fa)
  (he : starEach [e, .Name y p1] X.env = (false, eval e X.env) :: starEach [.Name y p1] X.env := by rfl) (he2 : starEach [.Name y p1] X.env = (false, eval (.Name y p1) X.env) :: starEach [] X.env := by rfl) (hpl : (backTo pos (starEach [.Name y p1] X.env)).any (·.1) = false := by rfl) :
  SE X (.Call (.Name "isinstance" p) [e, .Name y p1] [] pos) (c1 (isiX xs fun x => x == y || ("PactError" : Str) == y) fa) :=
 (Qbz Qfn hg hm hv (Qbn ha (Qbn (Qay (v := .ref D) (S.glo y h) hmy rfl nk.d) Qbm he2) he) (by decide) (by decide) he hpl).of fun σ H Q h_ => h_.el fun ρ l st lr sr q => ⟨ρ, l, st, lr, sr, q.bnd.imp fun d st1 ρ1 H1 x1 s1 q1 v rv => by
  have e : ∀ (C' P : Addr) (x' : Str), XO X.K x' C' → XO X.K "PactError" P → isOf C' P (.ref D) = (x' == y || ("PactError" : Str) == y) := fun C' P x' h1 h2 => by
   show (decide (D = C') || decide (D = P)) = _
   rw [h1.iff O, h2.iff O]
  cases rv with
  | @exn a C' dx x' f' v' d' g hh h2 r =>
   obtain ⟨hx, q2⟩ := q1.chk
   obtain ⟨o, ho, hc, _⟩ := hh
   refine QfG B hx g ⟨o, ho, hc⟩ (.inr ⟨y, D, rfl, O⟩) fun P h1 h2 => ?_
   rw [e _ _ _ h1 h2]
   exact q2.ret s1 _ (.bl _)
  | @exn0 a C' x' g hh =>
   obtain ⟨hx, q2⟩ := q1.chk
   refine QfG B hx g hh (.inr ⟨y, D, rfl, O⟩) fun P h1 h2 => ?_
   rw [e _ _ _ h1 h2]
   exact q2.ret s1 _ (.bl _)
  | _ => exact q1.elim⟩
theorem QfI (B : ∀ x ∈ xs, ∃ f C N P NP, XF X.K x f C N P NP) (hg : Gl X "isinstance") (hm : X.mg "isinstance" = none) (hv : bootBuiltins "isinstance" = some (.builtin "isinstance")) (hgT : Gl X "ValueError") (hmT : X.mg "ValueError" = none) (hvT : bootBuiltins "ValueError" = some (.type "ValueError")) (ha : SE X e fa)
  (he : starEach [e, .Name "ValueError" p1] X.env = (false, eval e X.env) :: starEach [.Name "ValueError" p1] X.env := by rfl) (he2 : starEach [.Name "ValueError" p1] X.env = (false, eval (.Name "ValueError" p1) X.env) :: starEach [] X.env := by rfl) (hpl : (backTo pos (starEach [.Name "ValueError" p1] X.env)).any (·.1) = false := by rfl) :
  SE X (.Call (.Name "isinstance" p) [e, .Name "ValueError" p1] [] pos) (c1 (isiX xs fun _ => true) fa) :=
 (Qbz Qfn hg hm hv (Qbn ha (Qbn (Qaz (v := .ty "ValueError") hgT hmT hvT rfl (by decide) (by decide)) Qbm he2) he) (by decide) (by decide) he hpl).of fun σ H Q h_ => h_.el fun ρ l st lr sr q => ⟨ρ, l, st, lr, sr, q.bnd.imp fun d st1 ρ1 H1 x1 s1 q1 v rv => by
  cases rv with
  | @exn a C' dx x' f' v' d' g hh h2 r =>
   obtain ⟨hx, q2⟩ := q1.chk
   obtain ⟨o, ho, hc, _⟩ := hh
   exact QfG B hx g ⟨o, ho, hc⟩ (.inl rfl) fun P h1 h2 => q2.ret s1 _ (.bl _)
  | @exn0 a C' x' g hh =>
   obtain ⟨hx, q2⟩ := q1.chk
   exact QfG B hx g hh (.inl rfl) fun P h1 h2 => q2.ret s1 _ (.bl _)
  | _ => exact q1.elim⟩
end
noncomputable def keysB (es : Array DictEntry) (ns : List Str) : Bool := es.toList.all fun e => match e.key with
 | .str n _ => !(ns.contains n)
 | _ => false
section
variable {K : Frag} {N : Addr} {es : Array DictEntry} {ns : List Str} {n : Str} {o : Value} {d : Option Addr} {ep : Nat} {sl : Array (Option Value)}
theorem QfJ (h : keysB es ns = true) : StrKeys es := fun e he => by
 have := List.all_eq_true.mp h e (Array.mem_toList_iff.mpr he)
 cases k : e.key with
 | str n t => exact ⟨n, t, rfl⟩
 | _ => rw [k] at this; cases this
theorem QfK (l : K.lookup N = some ⟨o, d, .dict es ep, sl⟩) (h : keysB es ns = true) (hn : n ∈ ns) : nsIn K N n = some none := by
 have a : ∀ e ∈ es.toList, e.key.isStr n = false ∧ e.refKey = false := fun e he => by
  have := List.all_eq_true.mp h e he
  obtain ⟨hh, k, v⟩ := e
  cases k with
  | str m t =>
   have t1 : (!(ns.contains m)) = true := this
   refine ⟨?_, rfl⟩
   show (m == n) = false
   refine beq_eq_false_iff_ne.mpr fun z => ?_
   subst z
   rw [List.contains_iff_mem.mpr hn] at t1; cases t1
  | _ => cases this
 unfold nsIn
 rw [l]
 dsimp only
 rw [List.find?_eq_none.mpr fun e he => by rw [(a e he).1]; exact Bool.false_ne_true]
 dsimp only
 rw [if_neg]
 intro z
 obtain ⟨e, he, t⟩ := List.any_eq_true.mp z
 rw [(a e he).2] at t; cases t
theorem QfL (l : K.lookup N = some ⟨o, d, .dict es ep, sl⟩) (h : keysB es ns = true) : StrNs K N := ⟨_, _, _, _, _, l, QfJ h⟩
end
theorem QfM {K : Frag} {x f : Str} {C N P NP : Addr} {fs : List Str} {q q' : Str} {bs bs' : List Value} {sn sn' : List Str} {sub sub' : List Value} {ab ab' : Bool} {col col' : Option Bool} {dd dd' : Option Addr} {k0 k1 k2 k3 k5 k0' k1' k2' k3' k5' : Option Value}
  {o o' : Value} {d d' : Option Addr} {es es' : Array DictEntry} {ep ep' : Nat} {sl sl' : Array (Option Value)} {ns : List Str}
  (g : nsIn K mainGlobals x = some (some (.ref C))) (l : K.lookup C = some (excClassObj x q C N bs (.ref P :: vErr) true sn sub ab col dd k0 k1 k2 k3 k5 "ValueError.__new__")) (lN : K.lookup N = some ⟨o, d, .dict es ep, sl⟩) (h : keysB es ns = true) (kp : keepIn K (.ref C) = true)
  (g' : nsIn K mainGlobals "PactError" = some (some (.ref P))) (l' : K.lookup P = some (excClassObj "PactError" q' P NP bs' vErr true sn' sub' ab' col' dd' k0' k1' k2' k3' k5' "ValueError.__new__")) (lN' : K.lookup NP = some ⟨o', d', .dict es' ep', sl'⟩) (h' : keysB es' fs = true)
  (s1 : ∀ n ∈ ([Str.ofString "__getattribute__", Str.ofString "__getattr__", Str.ofString "__setattr__", Str.ofString "__class__", f] : List Str), n ∈ ns := by nofun)
  (s2 : ∀ n ∈ ([Str.ofString "__getattribute__", Str.ofString "__getattr__", Str.ofString "__setattr__", Str.ofString "__class__", f, Str.ofString "__init__", Str.ofString "args"] : List Str), n ∈ fs := by nofun) : XF K x f C N P NP where
 gl := g
 ob := ⟨_, _, _, _, _, _, _, _, _, _, _, _, l⟩
 obP := ⟨_, _, _, _, _, _, _, _, _, _, _, _, l'⟩
 glP := g'
 sN := QfL lN h
 sP := QfL lN' h'
 nn := fun n hn => QfK lN h (s1 n hn)
 np := fun n hn => QfK lN' h' (s2 n hn)
 kp := kp
end MM
namespace MM
open PySem
noncomputable abbrev At {α : Type} (_ : α → Sto → Prop) : Type := Sto
inductive wp {α : Type} (m : M α) (Q : α → Sto → Prop) (s : At Q) : Prop
 | intro (a : α) (s' : Sto) (h : m s = .ok a s') (q : Q a s') : wp m Q s
theorem QfN {α : Type} {m : M α} {Q : α → Sto → Prop} {s : Sto} : wp m Q s = (match m s with
 | .ok a s' => Q a s'
 | _ => False) := by
 apply propext
 constructor
 ·rintro ⟨a, s', h, q⟩; rw [h]; exact q
 ·intro h
  cases e : m s with
  | ok a s' => rw [e] at h; exact ⟨a, s', e, h⟩
  | exc _ _ => rw [e] at h; exact h.elim
  | bad => rw [e] at h; exact h.elim
section
variable {α β : Type} {Q : α → Sto → Prop} {s : Sto}
theorem wp_eq {m : M α} {a : α} {s' : Sto} (h : m s = .ok a s') : wp m Q s = Q a s' := by rw [QfN, h]
theorem wp_no {m : M α} (h : m s = .bad) : wp m Q s = False := by rw [QfN, h]
theorem wp_cg {m : M β} {Q Q' : β → Sto → Prop} {s : Sto} (h : ∀ a s', Q a s' = Q' a s') : wp m Q s = wp m Q' s := by
 rw [show Q = Q' from funext fun a => funext fun t => h a t]
theorem wp_ret {a : α} : wp (ret a) Q s = Q a s := wp_eq rfl
theorem wp_bad : wp (bad : M α) Q s = False := wp_no rfl
theorem QfO {m : M β} {f : β → M α} : wp (bnd m f) Q s = wp m (fun a s' => wp (f a) Q s') s := by
 simp only [QfN]
 unfold bnd
 cases m s <;> rfl
theorem wp_chk {c : Prop} [Decidable c] {m : M α} : wp (chk c m) Q s = (c ∧ wp m Q s) := by
 unfold chk
 by_cases h : c
 ·simp [h]
 ·simp [h, wp_bad]
theorem wp_alloc {o : MO} {Q : D → Sto → Prop} : wp (alloc o) Q s = Q (.ref s.length) (s ++ [o]) := wp_eq rfl
theorem QfP {n : Nat} {ds : List D} {Q : List D → Sto → Prop} (h : s[n]? = some (.lst ds)) : wp (getL n) Q s = Q ds s := by
 rw [QfN]; unfold getL; rw [h]
theorem QfQ {n : Nat} {ds es : List D} {Q : Unit → Sto → Prop} (h : s[n]? = some (.lst ds)) : wp (putL n es) Q s = Q () (s.set n (.lst es)) := by
 rw [QfN]; unfold putL; rw [h]
theorem QfR {m : M α} {Q' : α → Sto → Prop} (h : wp m Q s) (f : ∀ a s', Q a s' → Q' a s') : wp m Q' s := by
 simp only [QfN] at *
 cases e : m s with
 | ok a s' => rw [e] at h; exact f a s' h
 | exc _ _ => rw [e] at h; exact h
 | bad => rw [e] at h; exact h
theorem QfS {c : Prop} [Decidable c] {m n : M α} : wp (if c then m else n) Q s = if c then wp m Q s else wp n Q s := by split <;> rfl
end
theorem QfT {ds : List D} {i : Int} {d : D} (h0 : 0 ≤ i) (h : ds[i.toNat]? = some d) : itemD ds i = ret d := by
 have hl : i.toNat < ds.length := (List.getElem?_eq_some_iff.mp h).1
 unfold itemD MM.ixN
 rw [if_pos h0, if_pos (by ac_nf)]
 dsimp only
 rw [h]
theorem wp_run {n : Nat} {b : CS} {ds : List D} {Q : D → Sto → Prop} {s : Sto} : wp (runDef n b ds) Q s = wp (b (ds.map some ++ List.replicate (n - ds.length) none)) (fun f s' => wp (flwD f) Q s') s := by
 unfold runDef; rw [QfO]
theorem QfU {g : CG} {b : CS} {same : Sto → Prop} {Q : Flw → Sto → Prop} (W : List D → Loc → Sto → Prop)
  (hend : ∀ l s, W [] l s → wp (chkS same) (fun _ s' => Q (.next l) s') s)
  (hstep : ∀ d ds l s, W (d :: ds) l s → wp (chkS same) (fun _ s1 => wp (g d l) (fun l1 s2 => wp (b l1) (fun f s3 => match f with
   | .next l2 => W ds l2 s3
   | .cnt l2 => W ds l2 s3
   | .brk l2 => Q (.next l2) s3
   | .ret d => Q (.ret d) s3) s2) s1) s) : ∀ ds l s, W ds l s → wp (forD g b same ds l) Q s := by
 intro ds
 induction ds with
 | nil =>
  intro l s h
  unfold forD
  rw [QfO]
  exact QfR (hend l s h) fun _ s' q => by rw [wp_ret]; exact q
 | cons d ds ih =>
  intro l s h
  unfold forD
  rw [QfO]
  refine QfR (hstep d ds l s h) fun _ s1 q => ?_
  rw [QfO]
  refine QfR q fun l1 s2 q => ?_
  rw [QfO]
  refine QfR q fun f s3 q => ?_
  cases f with
  | next l2 => exact ih l2 s3 q
  | cnt l2 => exact ih l2 s3 q
  | brk l2 => show wp (ret _) _ _; rw [wp_ret]; exact q
  | ret d => show wp (ret _) _ _; rw [wp_ret]; exact q
theorem QfV {g : CG} {t : CT} {e : CE} {same : Sto → Prop} {Q : List D → Sto → Prop} (W : List D → List D → Loc → Sto → Prop)
  (hend : ∀ out l s, W out [] l s → wp (chkS same) (fun _ s' => Q out s') s)
  (hstep : ∀ out d ds l s, W out (d :: ds) l s → wp (chkS same) (fun _ s1 => wp (g d l) (fun l1 s2 => wp (t l1) (fun b s3 => if b = true then wp (e l1) (fun x s4 => W (out ++ [x]) ds l1 s4) s3 else W out ds l1 s3) s2) s1) s) :
  ∀ ds out l s, W out ds l s → wp (collect g t e same ds l) (fun xs s' => Q (out ++ xs) s') s := by
 intro ds
 induction ds with
 | nil =>
  intro out l s h
  unfold collect
  rw [QfO]
  exact QfR (hend out l s h) fun _ s' q => by rw [wp_ret, List.append_nil]; exact q
 | cons d ds ih =>
  intro out l s h
  unfold collect
  rw [QfO]
  refine QfR (hstep out d ds l s h) fun _ s1 q => ?_
  rw [QfO]
  refine QfR q fun l1 s2 q => ?_
  rw [QfO]
  refine QfR q fun b s3 q => ?_
  cases b with
  | false => exact ih out l1 s3 q
  | true =>
   show wp (bnd (e l1) _) _ s3
   rw [QfO]
   refine QfR q fun x s4 q => ?_
   rw [QfO]
   refine QfR (ih (out ++ [x]) l1 s4 q) fun xs s5 q => ?_
   rw [wp_ret]
   rw [List.append_assoc] at q
   exact q
theorem QfW {n : Nat} (h : n ≤ 1000) : n ≤ lim := Nat.le_trans h (by decide)
theorem QfX {n : Nat} (h : n ≤ 1000) : n < lim := Nat.lt_of_le_of_lt h (by decide)
theorem QfY {g : CG} {b : CS} {same : Sto → Prop} {xs : List D} {l : Loc} {s : Sto} {Q : Flw → Sto → Prop} (W : Nat → Loc → Sto → Prop) (hs : ∀ i l s, W i l s → same s) (h0 : W 0 l s)
  (hstep : ∀ (i : Nat) d l s, xs[i]? = some d → W i l s → wp (g d l) (fun l1 s2 => wp (b l1) (fun f s3 => match f with
   | .next l2 => W (i + 1) l2 s3
   | .cnt l2 => W (i + 1) l2 s3
   | .brk l2 => Q (.next l2) s3
   | .ret d => Q (.ret d) s3) s2) s) (hend : ∀ l s, W xs.length l s → Q (.next l) s) : wp (forD g b same xs l) Q s := by
 have chk : ∀ {s : Sto} {R : Unit → Sto → Prop}, same s → R () s → wp (chkS same) R s := fun h r => by rw [QfN]; unfold chkS; rw [if_pos h]; exact r
 refine QfU (fun ds l s => ∃ i, ds = xs.drop i ∧ i ≤ xs.length ∧ W i l s) (fun l s ⟨i, e1, hi, w⟩ => ?_) (fun d ds l s ⟨i, e1, hi, w⟩ => ?_) xs l s ⟨0, by simp, Nat.zero_le _, h0⟩
 ·have : i = xs.length := by
    have := congrArg List.length e1
    simp at this; ac_nf
  subst this
  exact chk (hs _ _ _ w) (hend l s w)
 ·have hlt : i < xs.length := by
    have := congrArg List.length e1
    simp at this; ac_nf
  rw [List.drop_eq_getElem_cons hlt] at e1
  obtain ⟨e2, e3⟩ := List.cons.inj e1
  refine chk (hs _ _ _ w) ?_
  refine QfR (hstep i d l s (by rw [e2]; exact List.getElem?_eq_getElem hlt) w) fun l1 s2 q => QfR q fun f s3 q => ?_
  cases f with
  | next l2 => exact ⟨i + 1, e3, hlt, q⟩
  | cnt l2 => exact ⟨i + 1, e3, hlt, q⟩
  | brk l2 => exact q
  | ret d => exact q
end MM
local macro_rules | `(tactic| bv_omega) => `(tactic| first | rfl | exact MM.wp_eq rfl | exact MM.wp_no rfl)
local macro_rules | `(tactic| ac_rfl) => `(tactic| first | rfl | simp only [MM.wp_ret, MM.wp_alloc, MM.wp_bad] | (refine MM.wp_cg fun _ _ => ?_; simp only [MM.wp_ret, MM.wp_alloc, MM.wp_bad]))
namespace MM
open PySem
theorem nr {α : Sort u} {a b : α} (h : a = b) : a = b := h
section
variable {Q : D → Sto → Prop} {R : Flw → Sto → Prop} {T : Bool → Sto → Prop} {A : List D → Sto → Prop} {G : Loc → Sto → Prop} {I : Wk → Sto → Prop} {s : Sto} {l : Loc}
theorem x_seq {a b : CS} : wp (sSeq a b l) R s = wp (a l) (fun f s' => match f with
  | .next l' => wp (b l') R s'
  | .ret d => R (.ret d) s'
  | .brk l' => R (.brk l') s'
  | .cnt l' => R (.cnt l') s') s := by
 unfold sSeq; rw [QfO]; congr 1; funext f s'; cases f <;> first | bv_omega
theorem x_next : wp (sNext l) R s = R (.next l) s := wp_eq rfl
theorem x_asg {g : CG} {a : CE} : wp (sAsg g a l) R s = wp (a l) (fun d s' => wp (g d l) (fun l' s'' => R (.next l') s'') s') s := by
 unfold sAsg; rw [QfO]; congr 1; funext d s'; rw [QfO]; ac_rfl
theorem x_ret {a : CE} : wp (sRet a l) R s = wp (a l) (fun d s' => R (.ret d) s') s := by
 unfold sRet; rw [QfO]; ac_rfl
theorem x_exp {a : CE} : wp (sExp a l) R s = wp (a l) (fun d s' => R (.next l) s') s := by
 unfold sExp; rw [QfO]; ac_rfl
theorem x_if {t : CT} {a b : CS} : wp (sIf t a b l) R s = wp (t l) (fun c s' => if c = true then wp (a l) R s' else wp (b l) R s') s := by
 unfold sIf; rw [QfO]; congr 1; funext c s'; rw [QfS]
theorem x_cmp {a : CE} : wp (tCmpB a l) T s = wp (a l) (fun x s' => match x with
  | .bl b => T b s'
  | _ => False) s := by
 unfold tCmpB; rw [QfO]; congr 1; funext x s'; cases x <;> first | bv_omega
theorem x_val {a : CE} : wp (tVal a l) T s = wp (a l) (fun x s' => wp (truD x) T s') s := by unfold tVal; rw [QfO]
theorem x_not {a : CT} : wp (tNotB a l) T s = wp (a l) (fun x s' => T (!x) s') s := by unfold tNotB; rw [QfO]; ac_rfl
theorem x_and {a b : CT} : wp (tAndB a b l) T s = wp (a l) (fun c s' => if c = true then wp (b l) T s' else T false s') s := by
 unfold tAndB; rw [QfO]; congr 1; funext c s'; rw [QfS]; ac_rfl
theorem x_or {a b : CT} : wp (tOrB a b l) T s = wp (a l) (fun c s' => if c = true then T true s' else wp (b l) T s') s := by
 unfold tOrB; rw [QfO]; congr 1; funext c s'; rw [QfS]; ac_rfl
theorem x_gvar {i : Nat} {d : D} : wp (gVar i d l) G s = G (l.set i (some d)) s := wp_eq rfl
theorem x_g0 {d : D} {b : Option D} {r : Loc} {Q : Loc → Sto → Prop} : wp (gVar 0 d (b :: r)) Q s = Q (some d :: r) s := x_gvar
theorem x_g1 {a0 : Option D} {d : D} {b : Option D} {r : Loc} {Q : Loc → Sto → Prop} : wp (gVar 1 d (a0 :: b :: r)) Q s = Q (a0 :: some d :: r) s := x_gvar
theorem x_g2 {a0 a1 : Option D} {d : D} {b : Option D} {r : Loc} {Q : Loc → Sto → Prop} : wp (gVar 2 d (a0 :: a1 :: b :: r)) Q s = Q (a0 :: a1 :: some d :: r) s := x_gvar
theorem x_g3 {a0 a1 a2 : Option D} {d : D} {b : Option D} {r : Loc} {Q : Loc → Sto → Prop} : wp (gVar 3 d (a0 :: a1 :: a2 :: b :: r)) Q s = Q (a0 :: a1 :: a2 :: some d :: r) s := x_gvar
theorem x_g4 {a0 a1 a2 a3 : Option D} {d : D} {b : Option D} {r : Loc} {Q : Loc → Sto → Prop} : wp (gVar 4 d (a0 :: a1 :: a2 :: a3 :: b :: r)) Q s = Q (a0 :: a1 :: a2 :: a3 :: some d :: r) s := x_gvar
theorem x_g5 {a0 a1 a2 a3 a4 : Option D} {d : D} {b : Option D} {r : Loc} {Q : Loc → Sto → Prop} : wp (gVar 5 d (a0 :: a1 :: a2 :: a3 :: a4 :: b :: r)) Q s = Q (a0 :: a1 :: a2 :: a3 :: a4 :: some d :: r) s := x_gvar
theorem x_g6 {a0 a1 a2 a3 a4 a5 : Option D} {d : D} {b : Option D} {r : Loc} {Q : Loc → Sto → Prop} : wp (gVar 6 d (a0 :: a1 :: a2 :: a3 :: a4 :: a5 :: b :: r)) Q s = Q (a0 :: a1 :: a2 :: a3 :: a4 :: a5 :: some d :: r) s := x_gvar
theorem x_g7 {a0 a1 a2 a3 a4 a5 a6 : Option D} {d : D} {b : Option D} {r : Loc} {Q : Loc → Sto → Prop} : wp (gVar 7 d (a0 :: a1 :: a2 :: a3 :: a4 :: a5 :: a6 :: b :: r)) Q s = Q (a0 :: a1 :: a2 :: a3 :: a4 :: a5 :: a6 :: some d :: r) s := x_gvar
theorem x_g8 {a0 a1 a2 a3 a4 a5 a6 a7 : Option D} {d : D} {b : Option D} {r : Loc} {Q : Loc → Sto → Prop} : wp (gVar 8 d (a0 :: a1 :: a2 :: a3 :: a4 :: a5 :: a6 :: a7 :: b :: r)) Q s = Q (a0 :: a1 :: a2 :: a3 :: a4 :: a5 :: a6 :: a7 :: some d :: r) s := x_gvar
theorem x_g9 {a0 a1 a2 a3 a4 a5 a6 a7 a8 : Option D} {d : D} {b : Option D} {r : Loc} {Q : Loc → Sto → Prop} : wp (gVar 9 d (a0 :: a1 :: a2 :: a3 :: a4 :: a5 :: a6 :: a7 :: a8 :: b :: r)) Q s = Q (a0 :: a1 :: a2 :: a3 :: a4 :: a5 :: a6 :: a7 :: a8 :: some d :: r) s := x_gvar
theorem x_g10 {a0 a1 a2 a3 a4 a5 a6 a7 a8 a9 : Option D} {d : D} {b : Option D} {r : Loc} {Q : Loc → Sto → Prop} : wp (gVar 10 d (a0 :: a1 :: a2 :: a3 :: a4 :: a5 :: a6 :: a7 :: a8 :: a9 :: b :: r)) Q s = Q (a0 :: a1 :: a2 :: a3 :: a4 :: a5 :: a6 :: a7 :: a8 :: a9 :: some d :: r) s := x_gvar
theorem x_g11 {a0 a1 a2 a3 a4 a5 a6 a7 a8 a9 a10 : Option D} {d : D} {b : Option D} {r : Loc} {Q : Loc → Sto → Prop} : wp (gVar 11 d (a0 :: a1 :: a2 :: a3 :: a4 :: a5 :: a6 :: a7 :: a8 :: a9 :: a10 :: b :: r)) Q s = Q (a0 :: a1 :: a2 :: a3 :: a4 :: a5 :: a6 :: a7 :: a8 :: a9 :: a10 :: some d :: r) s := x_gvar
theorem x_g12 {a0 a1 a2 a3 a4 a5 a6 a7 a8 a9 a10 a11 : Option D} {d : D} {b : Option D} {r : Loc} {Q : Loc → Sto → Prop} : wp (gVar 12 d (a0 :: a1 :: a2 :: a3 :: a4 :: a5 :: a6 :: a7 :: a8 :: a9 :: a10 :: a11 :: b :: r)) Q s = Q (a0 :: a1 :: a2 :: a3 :: a4 :: a5 :: a6 :: a7 :: a8 :: a9 :: a10 :: a11 :: some d :: r) s := x_gvar
theorem x_g13 {a0 a1 a2 a3 a4 a5 a6 a7 a8 a9 a10 a11 a12 : Option D} {d : D} {b : Option D} {r : Loc} {Q : Loc → Sto → Prop} : wp (gVar 13 d (a0 :: a1 :: a2 :: a3 :: a4 :: a5 :: a6 :: a7 :: a8 :: a9 :: a10 :: a11 :: a12 :: b :: r)) Q s = Q (a0 :: a1 :: a2 :: a3 :: a4 :: a5 :: a6 :: a7 :: a8 :: a9 :: a10 :: a11 :: a12 :: some d :: r) s := x_gvar
theorem x_g14 {a0 a1 a2 a3 a4 a5 a6 a7 a8 a9 a10 a11 a12 a13 : Option D} {d : D} {b : Option D} {r : Loc} {Q : Loc → Sto → Prop} : wp (gVar 14 d (a0 :: a1 :: a2 :: a3 :: a4 :: a5 :: a6 :: a7 :: a8 :: a9 :: a10 :: a11 :: a12 :: a13 :: b :: r)) Q s = Q (a0 :: a1 :: a2 :: a3 :: a4 :: a5 :: a6 :: a7 :: a8 :: a9 :: a10 :: a11 :: a12 :: a13 :: some d :: r) s := x_gvar
theorem x_gsub {o i : CE} {d : D} : wp (gSubD o i d l) G s = wp (o l) (fun y s1 => wp (i l) (fun z s2 => wp (setItemD y z d) (fun _ s3 => G l s3) s2) s1) s := by
 unfold gSubD; rw [QfO]; congr 1; funext y s1; rw [QfO]; congr 1; funext z s2; rw [QfO]; ac_rfl
theorem x_var {i : Nat} : wp (cVar i l) Q s = match l[i]? with
  | some (some d) => Q d s
  | _ => False := by
 unfold cVar; rcases l[i]? with _ | _ | d <;> first | bv_omega
theorem x_v0 {d : D} {r : Loc} : wp (cVar 0 (some d :: r)) Q s = Q d s := x_var
theorem x_v1 {a0 : Option D} {d : D} {r : Loc} : wp (cVar 1 (a0 :: some d :: r)) Q s = Q d s := x_var
theorem x_v2 {a0 a1 : Option D} {d : D} {r : Loc} : wp (cVar 2 (a0 :: a1 :: some d :: r)) Q s = Q d s := x_var
theorem x_v3 {a0 a1 a2 : Option D} {d : D} {r : Loc} : wp (cVar 3 (a0 :: a1 :: a2 :: some d :: r)) Q s = Q d s := x_var
theorem x_v4 {a0 a1 a2 a3 : Option D} {d : D} {r : Loc} : wp (cVar 4 (a0 :: a1 :: a2 :: a3 :: some d :: r)) Q s = Q d s := x_var
theorem x_v5 {a0 a1 a2 a3 a4 : Option D} {d : D} {r : Loc} : wp (cVar 5 (a0 :: a1 :: a2 :: a3 :: a4 :: some d :: r)) Q s = Q d s := x_var
theorem x_v6 {a0 a1 a2 a3 a4 a5 : Option D} {d : D} {r : Loc} : wp (cVar 6 (a0 :: a1 :: a2 :: a3 :: a4 :: a5 :: some d :: r)) Q s = Q d s := x_var
theorem x_v7 {a0 a1 a2 a3 a4 a5 a6 : Option D} {d : D} {r : Loc} : wp (cVar 7 (a0 :: a1 :: a2 :: a3 :: a4 :: a5 :: a6 :: some d :: r)) Q s = Q d s := x_var
theorem x_v8 {a0 a1 a2 a3 a4 a5 a6 a7 : Option D} {d : D} {r : Loc} : wp (cVar 8 (a0 :: a1 :: a2 :: a3 :: a4 :: a5 :: a6 :: a7 :: some d :: r)) Q s = Q d s := x_var
theorem x_v9 {a0 a1 a2 a3 a4 a5 a6 a7 a8 : Option D} {d : D} {r : Loc} : wp (cVar 9 (a0 :: a1 :: a2 :: a3 :: a4 :: a5 :: a6 :: a7 :: a8 :: some d :: r)) Q s = Q d s := x_var
theorem x_v10 {a0 a1 a2 a3 a4 a5 a6 a7 a8 a9 : Option D} {d : D} {r : Loc} : wp (cVar 10 (a0 :: a1 :: a2 :: a3 :: a4 :: a5 :: a6 :: a7 :: a8 :: a9 :: some d :: r)) Q s = Q d s := x_var
theorem x_v11 {a0 a1 a2 a3 a4 a5 a6 a7 a8 a9 a10 : Option D} {d : D} {r : Loc} : wp (cVar 11 (a0 :: a1 :: a2 :: a3 :: a4 :: a5 :: a6 :: a7 :: a8 :: a9 :: a10 :: some d :: r)) Q s = Q d s := x_var
theorem x_v12 {a0 a1 a2 a3 a4 a5 a6 a7 a8 a9 a10 a11 : Option D} {d : D} {r : Loc} : wp (cVar 12 (a0 :: a1 :: a2 :: a3 :: a4 :: a5 :: a6 :: a7 :: a8 :: a9 :: a10 :: a11 :: some d :: r)) Q s = Q d s := x_var
theorem x_v13 {a0 a1 a2 a3 a4 a5 a6 a7 a8 a9 a10 a11 a12 : Option D} {d : D} {r : Loc} : wp (cVar 13 (a0 :: a1 :: a2 :: a3 :: a4 :: a5 :: a6 :: a7 :: a8 :: a9 :: a10 :: a11 :: a12 :: some d :: r)) Q s = Q d s := x_var
theorem x_v14 {a0 a1 a2 a3 a4 a5 a6 a7 a8 a9 a10 a11 a12 a13 : Option D} {d : D} {r : Loc} : wp (cVar 14 (a0 :: a1 :: a2 :: a3 :: a4 :: a5 :: a6 :: a7 :: a8 :: a9 :: a10 :: a11 :: a12 :: a13 :: some d :: r)) Q s = Q d s := x_var
theorem x_con {d : D} : wp (cCon d l) Q s = Q d s := wp_eq rfl
theorem x_c1 {g : D → M D} {a : CE} : wp (c1 g a l) Q s = wp (a l) (fun x s' => wp (g x) Q s') s := by unfold c1; rw [QfO]
theorem x_c2 {g : D → D → M D} {a b : CE} : wp (c2 g a b l) Q s = wp (a l) (fun x s' => wp (b l) (fun y s'' => wp (g x y) Q s'') s') s := by
 unfold c2; rw [QfO]; congr 1; funext x s'; rw [QfO]
theorem x_call {g : List D → M D} {a : CA} : wp (cCall g a l) Q s = wp (a l) (fun x s' => wp (g x) Q s') s := by unfold cCall; rw [QfO]
theorem x_nil : wp (cNil l) A s = A [] s := wp_eq rfl
theorem x_cons {a : CE} {r : CA} : wp (cCons a r l) A s = wp (a l) (fun x s' => wp (r l) (fun xs s'' => A (x :: xs) s'') s') s := by
 unfold cCons; rw [QfO]; congr 1; funext x s'; rw [QfO]; ac_rfl
theorem x_tup {a : CA} : wp (cTup a l) Q s = wp (a l) (fun xs s' => xs.length ≤ lim ∧ Q (.tup xs) s') s := by
 unfold cTup; rw [QfO]; congr 1; funext x s'; rw [wp_chk]; ac_rfl
theorem x_disp {a : CA} : wp (aDisp a l) A s = wp (a l) (fun xs s' => xs.length ≤ lim ∧ A xs s') s := by
 unfold aDisp; rw [QfO]; congr 1; funext x s'; rw [wp_chk]; ac_rfl
theorem x_keep {a : CA} : wp (cKeep a l) Q s = wp (a l) (fun xs s' => Q (.ref s'.length) (s' ++ [.lst xs])) s := by
 unfold cKeep; rw [QfO]; ac_rfl
theorem x_tmp {g : List D → M D} {a : CA} : wp (cTmp g a l) Q s = wp (a l) (fun x s' => wp (g x) Q s') s := by unfold cTmp; rw [QfO]
theorem x_comp {n : Nat} {caps : List Nat} {i : CI} {g : CG} {t : CT} {e : CE} : wp (aComp n caps i g t e l) A s = wp (i l) (fun w s' => w.ds.length ≤ lim ∧ wp (collect g t e w.same w.ds (capt n caps l)) A s') s := by
 unfold aComp; rw [QfO]; congr 1; funext x s'; rw [wp_chk]
theorem x_for {i : CI} {g : CG} {b : CS} : wp (sFor i g b l) R s = wp (i l) (fun w s' => wp (forD g b w.same w.ds l) R s') s := by
 unfold sFor; rw [QfO]
theorem x_rng {a : CE} : wp (MM.iRng1 a l) I s = wp (a l) (fun x s' => match x with
  | .int j => (-(2 ^ 62) ≤ j ∧ j < 2 ^ 62) ∧ I ⟨rngD 0 j.toNat, anySt⟩ s'
  | _ => False) s := by
 unfold MM.iRng1; rw [QfO]; congr 1; funext x s'; cases x <;> first | bv_omega | (dsimp only; rw [wp_chk]; ac_rfl)
theorem x_iseq {a : CE} : wp (iSeq a l) I s = wp (a l) (fun x s' => match x with
  | .tup ds => I ⟨ds, anySt⟩ s'
  | .lit ds => I ⟨ds, anySt⟩ s'
  | .ref n => wp (getL n) (fun ds s'' => I ⟨ds, sameL n ds⟩ s'') s'
  | _ => False) s := by
 unfold iSeq; rw [QfO]; congr 1; funext x s'; cases x <;> first | bv_omega | (dsimp only; rw [QfO]; ac_rfl)
theorem x_add {i j : Int} : wp (addD (.int i) (.int j)) Q s = Q (.int (i + j)) s := wp_eq rfl
theorem x_sub {i j : Int} : wp (subD (.int i) (.int j)) Q s = Q (.int (i - j)) s := wp_eq rfl
theorem x_mul {i j : Int} : wp (mulD (.int i) (.int j)) Q s = (mulOk i j ∧ Q (.int (i * j)) s) := by unfold mulD; rw [wp_chk]; ac_rfl
theorem x_div {i j : Int} : wp (fdivD (.int i) (.int j)) Q s = ((0 < j ∧ j < 1073741824) ∧ Q (.int (i / j)) s) := by unfold fdivD; rw [wp_chk]; ac_rfl
theorem x_mod {i j : Int} : wp (modD (.int i) (.int j)) Q s = (0 < j ∧ Q (.int (i % j)) s) := by unfold modD; rw [wp_chk]; ac_rfl
theorem x_lt {i j : Int} : wp (ltD (.int i) (.int j)) Q s = Q (.bl (decide (i < j))) s := wp_eq rfl
theorem x_le {i j : Int} : wp (leD (.int i) (.int j)) Q s = Q (.bl (decide (i ≤ j))) s := wp_eq rfl
theorem x_gt {i j : Int} : wp (gtD (.int i) (.int j)) Q s = Q (.bl (decide (j < i))) s := wp_eq rfl
theorem x_ge {i j : Int} : wp (geD (.int i) (.int j)) Q s = Q (.bl (decide (j ≤ i))) s := wp_eq rfl
theorem x_eq {i j : Int} : wp (eqD (.int i) (.int j)) Q s = Q (.bl (i == j)) s := wp_eq rfl
theorem x_ne {i j : Int} : wp (neD (.int i) (.int j)) Q s = Q (.bl !(i == j)) s := wp_eq rfl
theorem x_subsT {ds : List D} {i : Int} : wp (subsD (.tup ds) (.int i)) Q s = wp (itemD ds i) Q s := nr rfl
theorem x_subsL {ds : List D} {i : Int} : wp (subsD (.lit ds) (.int i)) Q s = wp (itemD ds i) Q s := nr rfl
theorem x_subsR {n : Nat} {i : Int} : wp (subsD (.ref n) (.int i)) Q s = wp (getL n) (fun ds s' => wp (itemD ds i) Q s') s := by
 unfold subsD; rw [QfO]
theorem x_lenT {ds : List D} : wp (lenD (.tup ds)) Q s = Q (.int ds.length) s := wp_eq rfl
theorem x_lenL {ds : List D} : wp (lenD (.lit ds)) Q s = Q (.int ds.length) s := wp_eq rfl
theorem x_lenR {n : Nat} : wp (lenD (.ref n)) Q s = wp (getL n) (fun ds s' => Q (.int ds.length) s') s := by unfold lenD; rw [QfO]; ac_rfl
theorem x_intB {b : Bool} : wp (intD (.bl b)) Q s = Q (.int (if b then 1 else 0)) s := wp_eq rfl
theorem x_intI {i : Int} : wp (intD (.int i)) Q s = Q (.int i) s := wp_eq rfl
theorem x_setR {n : Nat} {i : Int} {v : D} {U : Unit → Sto → Prop} : wp (setItemD (.ref n) (.int i) v) U s = wp (getL n) (fun ds s' => wp (match MM.ixN ds.length i with
  | some j => putL n (ds.set j v)
  | none => bad) U s') s := by
 unfold setItemD; rw [QfO] <;> congr 1
theorem x_retF {d : D} : wp (flwD (.ret d)) Q s = Q d s := wp_eq rfl
theorem x_nextF : wp (flwD (.next l)) Q s = Q .non s := wp_eq rfl
end
end MM
namespace MM
open PySem
theorem x_slice {a : CE} {lo hi : CO} {A : List D → Sto → Prop} {s : Sto} {l : Loc} : wp (aSlice a lo hi l) A s = wp (a l) (fun x s1 => wp (lo l) (fun i s2 => wp (hi l) (fun j s3 => match x with
  | .lit ds => A (cutD ds i j) s3
  | .ref n => wp (getL n) (fun ds s4 => A (cutD ds i j) s4) s3
  | _ => False) s2) s1) s := by
 unfold aSlice; rw [QfO]; congr 1; funext x s1; rw [QfO]; congr 1; funext i s2; rw [QfO]; congr 1; funext j s3; cases x <;> first | bv_omega | (dsimp only; rw [QfO]; ac_rfl)
theorem x_none {A : Option Int → Sto → Prop} {s : Sto} {l : Loc} : wp (oNone l) A s = A none s := wp_eq rfl
theorem x_some {a : CE} {A : Option Int → Sto → Prop} {s : Sto} {l : Loc} : wp (oSome a l) A s = wp (a l) (fun x s1 => match x with
  | .int i => A (some i) s1
  | _ => False) s := by
 unfold oSome; rw [QfO]; congr 1; funext x s1; cases x <;> first | bv_omega
theorem x_enum {a : CE} {I : Wk → Sto → Prop} {s : Sto} {l : Loc} : wp (iEnum a l) I s = wp (a l) (fun x s' => match x with
  | .tup ds => I ⟨(rngD 0 ds.length).zipWith (fun i d => .tup [i, d]) ds, anySt⟩ s'
  | _ => False) s := by
 unfold iEnum; rw [QfO]; congr 1; funext x s'; cases x <;> first | bv_omega
theorem x_gtup {n : Nat} {r : List D → Loc → M Loc} {ds : List D} {G : Loc → Sto → Prop} {s : Sto} {l : Loc} : wp (gTupD n r (.tup ds) l) G s = (ds.length = n ∧ wp (r ds l) G s) := by
 unfold gTupD; rw [wp_chk]
theorem x_gcons {g : CG} {r : List D → Loc → M Loc} {d : D} {ds : List D} {G : Loc → Sto → Prop} {s : Sto} {l : Loc} : wp (gsCons g r (d :: ds) l) G s = wp (g d l) (fun l' s' => wp (r ds l') G s') s := by
 unfold gsCons; rw [QfO]
theorem x_gnil {G : Loc → Sto → Prop} {s : Sto} {l : Loc} : wp (gsNil [] l) G s = G l s := wp_eq rfl
def Ext (s s' : Sto) : Prop := ∃ t, s' = s ++ t
theorem Ext.refl (s : Sto) : Ext s s := ⟨[], by simp⟩
theorem Ext.snoc {s s' : Sto} (h : Ext s s') (o : MO) : Ext s (s' ++ [o]) := by obtain ⟨t, e⟩ := h; exact ⟨t ++ [o], by rw [e]; simp⟩
theorem Ext.trans {s s' s2 : Sto} (h : Ext s s') (k : Ext s' s2) : Ext s s2 := by obtain ⟨t, e⟩ := h; obtain ⟨u, f⟩ := k; exact ⟨t ++ u, by rw [f, e]; simp⟩
theorem Ext.at_ {s s' : Sto} {n : Nat} {o : MO} (h : Ext s s') (k : s[n]? = some o) : s'[n]? = some o := by
 obtain ⟨t, e⟩ := h
 rw [e, List.getElem?_append_left (List.getElem?_eq_some_iff.mp k).1]; exact k
theorem QfZ {α : Type} {m : M α} {v : α} {s : Sto} {Q : α → Sto → Prop} (h : wp m (fun a s' => a = v ∧ s' = s) s) : wp m Q s = Q v s := by
 simp only [QfN] at *
 cases e : m s with
 | ok a s' => rw [e] at h; obtain ⟨h1, h2⟩ := h; subst h1; subst h2; ac_rfl
 | exc _ _ => rw [e] at h; exact h.elim
 | bad => rw [e] at h; exact h.elim
theorem Qf0 {a b : Nat} {x y : List D} {Q : D → Sto → Prop} {s : Sto} (h1 : s[a]? = some (.lst x)) (h2 : s[b]? = some (.lst y)) : wp (addD (.ref a) (.ref b)) Q s = (x.length + y.length ≤ lim ∧ Q (.ref s.length) (s ++ [.lst (x ++ y)])) := by
 unfold addD; rw [QfO, QfP h1, QfO, QfP h2, wp_chk]; ac_rfl
def andB (x : D) (p q : Prop) : Prop := match x with
 | .bl true => p
 | .bl false => q
 | _ => False
theorem andB_t {p q : Prop} : andB (.bl true) p q = p := nr rfl
theorem andB_f {p q : Prop} : andB (.bl false) p q = q := nr rfl
section
variable {Q : D → Sto → Prop} {T : Bool → Sto → Prop} {R : Flw → Sto → Prop} {s : Sto} {l : Loc}
theorem x_andE {a b : CE} : wp (cAnd a b l) Q s = wp (a l) (fun x s' => andB x (wp (b l) Q s') (Q (.bl false) s')) s := by
 unfold cAnd; rw [QfO]; congr 1; funext x s'; rcases x with _ | b | _ | _ | _ | _ | _ | _ <;> first | bv_omega | (cases b <;> first | bv_omega)
theorem x_orE {a b : CE} : wp (cOr a b l) Q s = wp (a l) (fun x s' => andB x (Q (.bl true) s') (wp (b l) Q s')) s := by
 unfold cOr; rw [QfO]; congr 1; funext x s'; rcases x with _ | b | _ | _ | _ | _ | _ | _ <;> first | bv_omega | (cases b <;> first | bv_omega)
theorem x_notE {a : CE} : wp (cNot a l) Q s = wp (a l) (fun x s' => match x with
  | .bl b => Q (.bl !b) s'
  | _ => False) s := by
 unfold cNot; rw [QfO]; congr 1; funext x s'; cases x <;> first | bv_omega
theorem x_ifE {t : CT} {a b : CE} : wp (cIfE t a b l) Q s = wp (t l) (fun c s' => if c = true then wp (a l) Q s' else wp (b l) Q s') s := by
 unfold cIfE; rw [QfO]; congr 1; funext c s'; rw [QfS]
theorem x_truB {b : Bool} : wp (truD (.bl b)) T s = T b s := wp_eq rfl
theorem x_isB {b : Bool} : wp (isInst ["bool"] (.bl b)) Q s = Q (.bl true) s := wp_eq rfl
theorem x_eqB {a b : Bool} : wp (eqD (.bl a) (.bl b)) Q s = Q (.bl (a == b)) s := wp_eq rfl
theorem x_neB {a b : Bool} : wp (neD (.bl a) (.bl b)) Q s = Q (.bl !(a == b)) s := wp_eq rfl
theorem x_tupL {ds : List D} : wp (tupL ds) Q s = Q (.tup ds) s := wp_eq rfl
theorem x_lenLL {ds : List D} : wp (lenL ds) Q s = Q (.int ds.length) s := wp_eq rfl
theorem x_item0 {d : D} {ds : List D} : wp (itemD (d :: ds) 0) Q s = Q d s := by
 rw [QfT (d := d) (by ac_nf) rfl, wp_ret]
theorem x_item1 {d e : D} {ds : List D} : wp (itemD (d :: e :: ds) 1) Q s = Q e s := by
 rw [QfT (d := e) (by ac_nf) rfl, wp_ret]
theorem x_item2 {d e f : D} {ds : List D} : wp (itemD (d :: e :: f :: ds) 2) Q s = Q f s := by
 rw [QfT (d := f) (by ac_nf) rfl, wp_ret]
theorem x_item3 {d e f g : D} {ds : List D} : wp (itemD (d :: e :: f :: g :: ds) 3) Q s = Q g s := by
 rw [QfT (d := g) (by ac_nf) rfl, wp_ret]
theorem x_tTrue : wp (tTrue l) T s = T true s := wp_eq rfl
theorem x_iTmp {a : CA} {I : Wk → Sto → Prop} : wp (iTmp a l) I s = wp (a l) (fun ds s' => I ⟨ds, anySt⟩ s') s := by unfold iTmp; rw [QfO]; ac_rfl
end
noncomputable def  bP (p : Prop) : Bool := @decide p (Classical.propDecidable p)
theorem Qf1 {p : Prop} : bP p = true ↔ p := by unfold bP; exact @decide_eq_true_iff p (Classical.propDecidable p)
theorem Qf2 {p : Prop} (h : p) : bP p = true := Qf1.mpr h
theorem Qf3 {p : Prop} (h : ¬p) : bP p = false := by
 cases e : bP p with
 | false => rfl
 | true => exact (h (Qf1.mp e)).elim
theorem Qf4 {b : Bool} {p : Prop} (h : b = true ↔ p) : b = bP p := by
 cases b with
 | true => exact (Qf2 (h.mp rfl)).symm
 | false => exact (Qf3 fun k => by cases h.mpr k).symm
theorem Qf5 {p q : Prop} : (bP p || bP q) = bP (p ∨ q) := Qf4 (by rw [Bool.or_eq_true, Qf1, Qf1])
theorem Qf6 {p q : Prop} : (bP p && bP q) = bP (p ∧ q) := Qf4 (by rw [Bool.and_eq_true, Qf1, Qf1])
theorem andB_or {p q : Prop} {Q : D → Sto → Prop} {s : Sto} : andB (.bl (bP p)) (Q (.bl true) s) (Q (.bl (bP q)) s) = Q (.bl (bP (p ∨ q))) s := by
 rw [← Qf5]
 cases bP p <;> simp [andB]
theorem andB_and {p q : Prop} {Q : D → Sto → Prop} {s : Sto} : andB (.bl (bP p)) (Q (.bl (bP q)) s) (Q (.bl false) s) = Q (.bl (bP (p ∧ q))) s := by
 rw [← Qf6]
 cases bP p <;> simp [andB]
noncomputable def upto {α : Type} (n : Nat) (f : Nat → α) : List α := (List.range n).map f
theorem Qf7 {α : Type} {n i : Nat} {f : Nat → α} (h : i < n) : (upto n f)[i]? = some (f i) := by unfold upto; rw [List.getElem?_map, List.getElem?_range h]; ac_rfl
theorem Qf8 {α : Type} {n i : Nat} {f : Nat → α} {x : α} (h : (upto n f)[i]? = some x) : i < n ∧ x = f i := by
 have hi : i < n := by
  have := (List.getElem?_eq_some_iff.mp h).1
  simpa [upto] using this
 rw [Qf7 hi] at h; cases h; exact ⟨hi, rfl⟩
theorem Qf9 {α : Type} {n : Nat} {f : Nat → α} : (upto n f).length = n := by simp [upto]
theorem Qga {α : Type} {n : Nat} {f : Nat → α} : upto (n + 1) f = upto n f ++ [f n] := by unfold upto; rw [List.range_succ, List.map_append]; ac_rfl
theorem Qgb {n : Nat} : rngD 0 n = upto n fun i => .int i := by unfold rngD upto; congr 1; funext k; simp
theorem Qgc {g : CG} {e : CE} {same : Sto → Prop} {ds : List D} {l0 : Loc} {f : Nat → D} {Q : List D → Sto → Prop} {s : Sto} (I : Loc → Prop) (hs : same s) (h0 : I l0)
  (h : ∀ i d l, ds[i]? = some d → I l → ∃ l', (∀ G, wp (g d l) G s = G l' s) ∧ I l' ∧ ∀ Q, wp (e l') Q s = Q (f i) s) :
  wp (collect g tTrue e same ds l0) Q s = Q (upto ds.length f) s := by
 have chk : ∀ {R : Unit → Sto → Prop}, R () s → wp (chkS same) R s := fun r => by rw [QfN]; unfold chkS; rw [if_pos hs]; exact r
 apply QfZ
 refine QfV (Q := fun out s' => out = upto ds.length f ∧ s' = s) (fun out xs l s' => ∃ i, xs = ds.drop i ∧ i ≤ ds.length ∧ I l ∧ out = upto i f ∧ s' = s) (fun out l s' ⟨i, e1, hi, _, e2, es⟩ => ?_) (fun out d xs l s' ⟨i, e1, hi, hI, e2, es⟩ => ?_) ds [] _ s ⟨0, by simp, Nat.zero_le _, h0, rfl, rfl⟩
 ·have : i = ds.length := by
    have := congrArg List.length e1
    simp at this; ac_nf
  subst this
  subst es
  exact chk ⟨e2, rfl⟩
 ·have hlt : i < ds.length := by
    have := congrArg List.length e1
    simp at this; ac_nf
  rw [List.drop_eq_getElem_cons hlt] at e1
  obtain ⟨e3, e4⟩ := List.cons.inj e1
  obtain ⟨l', q1, q2, q3⟩ := h i d l (by rw [e3]; exact List.getElem?_eq_getElem hlt) hI
  subst es
  refine chk ?_
  rw [q1]
  show wp (ret true) _ s'
  rw [wp_ret]
  show wp (e l') _ s'
  rw [q3]
  exact ⟨i + 1, e4, hlt, q2, by rw [e2, Qga], rfl⟩
theorem Qgd {e : CE} {same : Sto → Prop} {ds : List D} {caps : Loc} {f : Nat → D} {Q : List D → Sto → Prop} {s : Sto} (hs : same s) (h : ∀ i d, ds[i]? = some d → ∀ Q, wp (e (some d :: caps)) Q s = Q (f i) s) :
  wp (collect (gVar 0) tTrue e same ds (none :: caps)) Q s = Q (upto ds.length f) s :=
 Qgc (fun l => ∃ x, l = x :: caps) hs ⟨none, rfl⟩ fun i d l hd pq71 => by obtain ⟨x, el⟩ := pq71; exact ⟨some d :: caps, fun G => by rw [el, x_gvar]; rfl, ⟨_, rfl⟩, h i d hd⟩
section
variable {n : Nat} {f : Nat → D} {Q : D → Sto → Prop} {s : Sto}
end
theorem Qge {s : Sto} : anySt s := trivial
theorem Qgf {g : CG} {b : CS} {same : Sto → Prop} {n : Nat} {f : Nat → D} {l : Loc} {s : Sto} {Q : Flw → Sto → Prop} (W : Nat → Loc → Sto → Prop) (hs : ∀ i l s, W i l s → same s) (h0 : W 0 l s)
  (hstep : ∀ (i : Nat) l s, i < n → W i l s → wp (g (f i) l) (fun l1 s2 => wp (b l1) (fun f s3 => match f with
   | .next l2 => W (i + 1) l2 s3
   | .cnt l2 => W (i + 1) l2 s3
   | .brk l2 => Q (.next l2) s3
   | .ret d => Q (.ret d) s3) s2) s) (hend : ∀ l s, W n l s → Q (.next l) s) : wp (forD g b same (upto n f) l) Q s :=
 QfY W hs h0 (fun i d l s hd w => by obtain ⟨hi, e⟩ := Qf8 hd; subst e; exact hstep i l s hi w) (fun l s w => hend l s (by rw [Qf9] at w; exact w))
theorem Qgg {e : CE} {same : Sto → Prop} {n : Nat} {g : Nat → D} {caps : Loc} {f : Nat → D} {Q : List D → Sto → Prop} {s : Sto} (hs : same s) (h : ∀ i, i < n → ∀ Q, wp (e (some (g i) :: caps)) Q s = Q (f i) s) :
  wp (collect (gVar 0) tTrue e same (upto n g) (none :: caps)) Q s = Q (upto n f) s := by
 rw [Qgd (f := f) hs (fun i d hd => by obtain ⟨hi, e⟩ := Qf8 hd; subst e; exact h i hi), Qf9]
end MM
namespace MM
open PySem
section
variable {Q : D → Sto → Prop} {T : Bool → Sto → Prop} {R : Flw → Sto → Prop} {A : List D → Sto → Prop} {s : Sto} {l : Loc}
theorem x_chain {f g : D → D → M D} {a b c : CE} : wp (cChain f g a b c l) Q s = wp (a l) (fun x s1 => wp (b l) (fun y s2 => wp (f x y) (fun z s3 => andB z (wp (c l) (fun w s4 => wp (g y w) Q s4) s3) (Q (.bl false) s3)) s2) s1) s := by
 unfold cChain; rw [QfO]; congr 1; funext x s1; rw [QfO]; congr 1; funext y s2; rw [QfO]; congr 1; funext z s3
 rcases z with _ | b | _ | _ | _ | _ | _ | _ <;> first | bv_omega | (cases b <;> first | bv_omega | (dsimp only; rw [QfO]; first | ac_rfl | (refine congrArg _ ?_; refine wp_cg fun _ _ => ?_; simp only [wp_ret, wp_alloc, wp_bad])))
theorem x_append {a b : CE} : wp (cAppend a b l) Q s = wp (a l) (fun x s1 => match x with
  | .ref n => wp (b l) (fun v s2 => wp (getL n) (fun ds s3 => ds.length < lim ∧ wp (putL n (ds ++ [v])) (fun _ s4 => Q .non s4) s3) s2) s1
  | _ => False) s := by
 unfold cAppend; rw [QfO]; congr 1; funext x s1
 cases x <;> first | bv_omega | (dsimp only; rw [QfO]; congr 1; funext v s2; unfold appendL; rw [QfO]; congr 1; funext ds s3; rw [wp_chk, QfO]; first | ac_rfl | (refine congrArg _ ?_; refine wp_cg fun _ _ => ?_; simp only [wp_ret, wp_alloc, wp_bad]))
theorem x_clear {a : CE} : wp (cClear a l) Q s = wp (a l) (fun x s1 => match x with
  | .ref n => wp (putL n []) (fun _ s4 => Q .non s4) s1
  | _ => False) s := by
 unfold cClear; rw [QfO]; congr 1; funext x s1
 cases x <;> first | bv_omega | (dsimp only; rw [QfO]; first | ac_rfl | (refine congrArg _ ?_; refine wp_cg fun _ _ => ?_; simp only [wp_ret, wp_alloc, wp_bad]))
theorem x_pop {a : CE} : wp (cPop a l) Q s = wp (a l) (fun x s1 => match x with
  | .ref n => wp (getL n) (fun ds s2 => match ds.getLast? with
   | some d => wp (putL n ds.dropLast) (fun _ s4 => Q d s4) s2
   | none => False) s1
  | _ => False) s := by
 unfold cPop; rw [QfO]; congr 1; funext x s1
 cases x <;> first | bv_omega | (dsimp only; rw [QfO]; congr 1; funext ds s2; cases ds.getLast? <;> first | bv_omega | (dsimp only; rw [QfO]; first | ac_rfl | (refine congrArg _ ?_; refine wp_cg fun _ _ => ?_; simp only [wp_ret, wp_alloc, wp_bad])))
theorem x_reverse {a : CE} : wp (cReverse a l) Q s = wp (a l) (fun x s1 => match x with
  | .ref n => wp (getL n) (fun ds s2 => wp (putL n ds.reverse) (fun _ s4 => Q .non s4) s2) s1
  | _ => False) s := by
 unfold cReverse; rw [QfO]; congr 1; funext x s1
 cases x <;> first | bv_omega | (dsimp only; rw [QfO]; congr 1; funext ds s2; rw [QfO]; first | ac_rfl | (refine congrArg _ ?_; refine wp_cg fun _ _ => ?_; simp only [wp_ret, wp_alloc, wp_bad]))
theorem x_back {a : CE} : wp (aBack a l) A s = wp (a l) (fun x s1 => match x with
  | .ref n => wp (getL n) (fun ds s2 => A ds.reverse s2) s1
  | _ => False) s := by
 unfold aBack; rw [QfO]; congr 1; funext x s1
 cases x <;> first | bv_omega | (dsimp only; rw [QfO]; first | ac_rfl | (refine congrArg _ ?_; refine wp_cg fun _ _ => ?_; simp only [wp_ret, wp_alloc, wp_bad]))
theorem x_listT {ds : List D} : wp (listD (.tup ds)) Q s = Q (.ref s.length) (s ++ [.lst ds]) := wp_eq rfl
theorem x_listR {n : Nat} : wp (listD (.ref n)) Q s = wp (getL n) (fun ds s1 => Q (.ref s1.length) (s1 ++ [.lst ds])) s := by unfold listD seqOf; rw [QfO]; (try dsimp only); (try rw [QfO]); refine wp_cg fun _ _ => ?_; simp only [wp_ret, wp_alloc, wp_bad]
theorem x_tupleT {ds : List D} : wp (tupleD (.tup ds)) Q s = Q (.tup ds) s := wp_eq rfl
theorem x_tupleR {n : Nat} : wp (tupleD (.ref n)) Q s = wp (getL n) (fun ds s1 => Q (.tup ds) s1) s := by unfold tupleD; rw [QfO]; (try dsimp only); (try rw [QfO]); refine wp_cg fun _ _ => ?_; simp only [wp_ret, wp_alloc, wp_bad]
theorem x_isntB {a b : Bool} : wp (isntD (.bl a) (.bl b)) Q s = Q (.bl !(a == b)) s := wp_eq rfl
theorem x_isB2 {a b : Bool} : wp (isD (.bl a) (.bl b)) Q s = Q (.bl (a == b)) s := wp_eq rfl
theorem x_inTu {x : D} {ds : List D} : wp (inD x (.tup ds)) Q s = wp (inL x ds) Q s := nr rfl
theorem x_eqStr {a b : Str} : wp (eqD (.str a) (.str b)) Q s = Q (.bl (a == b)) s := wp_eq rfl
theorem x_neStr {a b : Str} : wp (neD (.str a) (.str b)) Q s = Q (.bl !(a == b)) s := wp_eq rfl
theorem x_isiL {n : Nat} : wp (isInst ["list"] (.ref n)) Q s = Q (.bl true) s := wp_eq rfl
theorem x_isiT {ds : List D} : wp (isInst ["tuple"] (.tup ds)) Q s = Q (.bl true) s := wp_eq rfl
theorem x_isiI {i : Int} : wp (isInst ["int"] (.int i)) Q s = Q (.bl true) s := wp_eq rfl
theorem x_isiB {i : Int} : wp (isInst ["bool"] (.int i)) Q s = Q (.bl false) s := wp_eq rfl
theorem x_isiBN : wp (isInst ["bool"] .non) Q s = Q (.bl false) s := wp_eq rfl
theorem x_neg {i : Int} : wp (negD (.int i)) Q s = Q (.int (-i)) s := wp_eq rfl
theorem x_min2 {i j : Int} : wp (min2D (.int i) (.int j)) Q s = Q (.int (min i j)) s := wp_eq rfl
theorem x_max2 {i j : Int} : wp (max2D (.int i) (.int j)) Q s = Q (.int (max i j)) s := wp_eq rfl
theorem x_rng2 {a b : CE} {I : Wk → Sto → Prop} : wp (MM.iRng2 a b l) I s = wp (a l) (fun x s1 => wp (b l) (fun y s2 => match x, y with
  | .int i, .int j => ((-(2 ^ 62) ≤ i ∧ i < 2 ^ 62) ∧ (-(2 ^ 62) ≤ j ∧ j < 2 ^ 62)) ∧ I ⟨rngD i (j - i).toNat, anySt⟩ s2
  | _, _ => False) s1) s := by
 unfold MM.iRng2; rw [QfO]; congr 1; funext x s1; rw [QfO]; congr 1; funext y s2
 cases x <;> cases y <;> first | bv_omega | (dsimp only; rw [wp_chk]; first | ac_rfl | (refine congrArg _ ?_; refine wp_cg fun _ _ => ?_; simp only [wp_ret, wp_alloc, wp_bad]))
theorem x_shl {i j : Int} : wp (shlD (.int i) (.int j)) Q s = ((0 ≤ j ∧ j ≤ 1000000 ∧ i.natAbs < 2 ^ 64) ∧ Q (.int (i * 2 ^ j.toNat)) s) := by unfold shlD; rw [wp_chk]; first | ac_rfl | (refine congrArg _ ?_; refine wp_cg fun _ _ => ?_; simp only [wp_ret, wp_alloc, wp_bad])
theorem x_addT {x y : List D} : wp (addD (.tup x) (.tup y)) Q s = (x.length + y.length ≤ lim ∧ Q (.tup (x ++ y)) s) := by unfold addD; rw [wp_chk]; first | ac_rfl | (refine congrArg _ ?_; refine wp_cg fun _ _ => ?_; simp only [wp_ret, wp_alloc, wp_bad])
theorem x_tmpSub {a : CA} {b : CE} : wp (cTmpSub a b l) Q s = wp (a l) (fun ds s1 => wp (b l) (fun i s2 => match i with
  | .int k => wp (itemD ds k) Q s2
  | _ => False) s1) s := by
 unfold cTmpSub; rw [QfO]; congr 1; funext ds s1; rw [QfO]; congr 1; funext i s2; cases i <;> first | bv_omega
theorem x_inTmp {g : D → List D → M D} {a : CE} {b : CA} : wp (cInTmp g a b l) Q s = wp (a l) (fun x s1 => wp (b l) (fun ds s2 => wp (g x ds) Q s2) s1) s := by
 unfold cInTmp; rw [QfO]; congr 1; funext x s1; rw [QfO]
end
theorem ite_t {p q : Prop} : (if true = true then p else q) = p := if_pos rfl
theorem ite_f {p q : Prop} : (if false = true then p else q) = q := if_neg (by simp)
theorem Ext.put {s s' : Sto} {n : Nat} {o : MO} (h : Ext s s') (hn : s.length ≤ n) : Ext s (s'.set n o) := by
 obtain ⟨t, e⟩ := h
 exact ⟨t.set (n - s.length) o, by rw [e, List.set_append_right _ _ hn]⟩
theorem Ext.le {s s' : Sto} (h : Ext s s') : s.length ≤ s'.length := by obtain ⟨t, e⟩ := h; rw [e]; simp
end MM
namespace MM
open PySem
theorem Qgh {t : CT} {b : CS} : ∀ (n : Nat) (l : Loc) (s : Sto), whileN t b n l s ≠ .bad → whileN t b (n + 1) l s = whileN t b n l s
 | 0, l, s, h => (h rfl).elim
 | n + 1, l, s, h => by
  have e1 : ∀ k, whileN t b (k + 1) l s = (match t l s with
   | .ok true s1 => (match b l s1 with
    | .ok (.next l2) s2 => whileN t b k l2 s2
    | .ok (.cnt l2) s2 => whileN t b k l2 s2
    | .ok (.brk l2) s2 => .ok (.next l2) s2
    | .ok (.ret d) s2 => .ok (.ret d) s2
    | .exc x s2 => .exc x s2
    | .bad => .bad)
   | .ok false s1 => .ok (.next l) s1
   | .exc x s1 => .exc x s1
   | .bad => .bad) := fun k => by
   show bnd (t l) _ s = _
   unfold bnd
   cases t l s with
   | exc x s1 => rfl
   | bad => rfl
   | ok c s1 =>
    cases c with
    | false => rfl
    | true =>
     show (bnd (b l) _) s1 = _
     unfold bnd
     dsimp only
     cases b l s1 with
     | exc x s2 => rfl
     | bad => rfl
     | ok f s2 => cases f <;> first | bv_omega
  rw [e1 (n + 1), e1 n]
  rw [e1 n] at h
  cases et : t l s with
  | exc x s1 => rfl
  | bad => rfl
  | ok c s1 =>
   rw [et] at h
   cases c with
   | false => rfl
   | true =>
    dsimp only at h ⊢
    cases eb : b l s1 with
    | exc x s2 => rfl
    | bad => rfl
    | ok f s2 =>
     rw [eb] at h
     cases f with
     | next l2 => exact Qgh n l2 s2 h
     | cnt l2 => exact Qgh n l2 s2 h
     | brk l2 => rfl
     | ret d => rfl
theorem Qgi {t : CT} {b : CS} {n m : Nat} {l : Loc} {s : Sto} (h : whileN t b n l s ≠ .bad) (hm : n ≤ m) : whileN t b m l s = whileN t b n l s := by
 induction m with
 | zero => have : n = 0 := by ac_nf
           subst this; ac_rfl
 | succ m ih =>
  by_cases e : n = m + 1
  ·subst e; ac_rfl
  ·have := ih (by ac_nf)
   rw [Qgh m l s (by rw [this]; exact h), this]
theorem Qgj {t : CT} {b : CS} {Q : Flw → Sto → Prop} {l : Loc} {s : Sto} (W : Loc → Sto → Prop) (μ : Loc → Sto → Nat) (h0 : W l s)
  (hs : ∀ l s, W l s → wp (t l) (fun c s1 => if c = true then wp (b l) (fun f s2 => match f with
   | .next l2 => W l2 s2 ∧ μ l2 s2 < μ l s
   | .cnt l2 => W l2 s2 ∧ μ l2 s2 < μ l s
   | .brk l2 => Q (.next l2) s2
   | .ret d => Q (.ret d) s2) s1 else Q (.next l) s1) s) : wp (sWhile t b l) Q s := by
 have key : ∀ (k : Nat) (l : Loc) (s : Sto), μ l s < k → W l s → ∃ n, wp (whileN t b n l) Q s := by
  intro k
  induction k with
  | zero => intro l s h; ac_nf
  | succ k ih =>
   intro l s hk w
   have h1 := hs l s w
   rw [QfN] at h1
   cases et : t l s with
   | exc x s1 => rw [et] at h1; exact h1.elim
   | bad => rw [et] at h1; exact h1.elim
   | ok c s1 =>
    rw [et] at h1
    cases c with
    | false =>
     refine ⟨1, ?_⟩
     show wp (bnd (t l) _) Q s
     rw [QfO, wp_eq et]
     show wp (ret _) _ _
     rw [wp_ret]
     exact h1
    | true =>
     have h2 : wp (b l) _ s1 := h1
     rw [QfN] at h2
     cases eb : b l s1 with
     | exc x s2 => rw [eb] at h2; exact h2.elim
     | bad => rw [eb] at h2; exact h2.elim
     | ok f s2 =>
      rw [eb] at h2
      have go : ∀ (n : Nat), wp (match f with
       | .next l2 => whileN t b n l2
       | .cnt l2 => whileN t b n l2
       | .brk l2 => ret (.next l2)
       | .ret d => ret (.ret d)) Q s2 → wp (whileN t b (n + 1) l) Q s := fun n q => by
       show wp (bnd (t l) _) Q s
       rw [QfO, wp_eq et, if_pos rfl, QfO, wp_eq eb]
       exact q
      cases f with
      | next l2 => obtain ⟨n, hn⟩ := ih l2 s2 (by have := h2.2; ac_nf) h2.1; exact ⟨n + 1, go n hn⟩
      | cnt l2 => obtain ⟨n, hn⟩ := ih l2 s2 (by have := h2.2; ac_nf) h2.1; exact ⟨n + 1, go n hn⟩
      | brk l2 => exact ⟨1, go 0 (by show wp (ret _) _ _; rw [wp_ret]; exact h2)⟩
      | ret d => exact ⟨1, go 0 (by show wp (ret _) _ _; rw [wp_ret]; exact h2)⟩
 obtain ⟨n, hn⟩ := key (μ l s + 1) l s (Nat.lt_succ_self _) h0
 have nb : whileN t b n l s ≠ .bad := fun e => by rw [QfN] at hn; rw [e] at hn; exact hn
 have ex : ∃ n, ∀ r, whileN t b n l s = r → r ≠ .bad := ⟨n, fun r e => e ▸ nb⟩
 rw [QfN]; unfold sWhile
 rw [dif_pos ex]
 have hc : whileN t b (Classical.choose ex) l s ≠ .bad := Classical.choose_spec ex _ rfl
 have e : whileN t b (Classical.choose ex) l s = whileN t b n l s := by
  rw [← Qgi hc (Nat.le_max_left (Classical.choose ex) n), ← Qgi nb (Nat.le_max_right (Classical.choose ex) n)]
 rw [e]
 rw [QfN] at hn
 exact hn
section
variable {Q : D → Sto → Prop} {s : Sto} {l : Loc}
theorem x_sliceT {a : CE} {lo hi : CO} : wp (cSliceT a lo hi l) Q s = wp (a l) (fun x s1 => wp (lo l) (fun i s2 => wp (hi l) (fun j s3 => match x with
  | .tup ds => ¬(sIx ds.length 0 i = 0 ∧ sIx ds.length ds.length j = ds.length) ∧ Q (.tup (cutD ds i j)) s3
  | _ => False) s2) s1) s := by
 unfold cSliceT; rw [QfO]; congr 1; funext x s1; rw [QfO]; congr 1; funext i s2; rw [QfO]; congr 1; funext j s3; cases x <;> first | bv_omega | (dsimp only; rw [wp_chk]; ac_rfl)
inductive Pd : Nat → D → Prop
 | non {n} : Pd n .non
 | bl {n} (b) : Pd n (.bl b)
 | int {n} (i) : Pd n (.int i)
 | str {n} (x) : Pd n (.str x)
 | tup {n} {ds : List D} (h : ∀ d ∈ ds, Pd n d) : Pd (n + 1) (.tup ds)
theorem Pd.up {n : Nat} {d : D} (h : Pd n d) : Pd (n + 1) d := by
 induction h with
 | non => exact .non
 | bl b => exact .bl b
 | int i => exact .int i
 | str x => exact .str x
 | tup h ih => exact .tup ih
theorem Qgk {f : D → D → Option Bool} : ∀ {ds : List D}, (∀ d ∈ ds, f d d = some true) → allF f ds ds = some true
 | [], _ => rfl
 | d :: ds, h => by
  unfold allF
  rw [h d (by simp)]
  exact Qgk fun x hx => h x (by simp [hx])
theorem Pd.eq {n : Nat} {d : D} (h : Pd n d) : eqF n d d = some true := by
 induction h with
 | @non n => cases n <;> first | bv_omega
 | @bl n b => cases n <;> exact congrArg some (beq_self_eq_true b)
 | @int n i => cases n <;> exact congrArg some (beq_self_eq_true i)
 | @str n x => cases n <;> exact congrArg some (beq_self_eq_true x)
 | @tup n ds h ih => exact Qgk ih
theorem Pd.le {n m : Nat} {d : D} (h : Pd n d) (hm : n ≤ m) : Pd m d := by
 induction m with
 | zero => have : n = 0 := by ac_nf
           subst this; exact h
 | succ m ih =>
  by_cases e : n = m + 1
  ·subst e; exact h
  ·exact (ih (by ac_nf)).up
theorem Qgl {n a b : Nat} {ds : List D} (h1 : s[a]? = some (.lst ds)) (h2 : s[b]? = some (.lst ds)) (h : ∀ d ∈ ds, Pd n d) (hn : n ≤ 50) : wp (neD (.ref a) (.ref b)) Q s = Q (.bl false) s := by
 unfold neD eqB
 rw [QfO, QfO, QfP h1, QfO, QfP h2, if_pos rfl, Qgk fun d hd => ((h d hd).le hn).eq]
 first | rfl | exact wp_eq rfl | exact (wp_eq rfl).trans wp_ret | (simp only [wp_ret, wp_bad]; done)
theorem Qgm {n a b : Nat} {ds : List D} (h1 : s[a]? = some (.lst ds)) (h2 : s[b]? = some (.lst ds)) (h : ∀ d ∈ ds, Pd n d) (hn : n ≤ 50) : wp (eqD (.ref a) (.ref b)) Q s = Q (.bl true) s := by
 unfold eqD eqB
 rw [QfO, QfO, QfP h1, QfO, QfP h2, if_pos rfl, Qgk fun d hd => ((h d hd).le hn).eq]
 first | rfl | exact wp_eq rfl | exact (wp_eq rfl).trans wp_ret | (simp only [wp_ret, wp_bad]; done)
end
end MM
namespace MM
open PySem
section
variable {α β : Type} {γ : Sort _}
theorem y_dec {p : Prop} [Decidable p] : (decide p = true) = p := _root_.decide_eq_true_eq
theorem y_rs {n : Nat} {a : α} : List.replicate (n + 1) a = a :: List.replicate n a := nr rfl
theorem y_rz {a : α} : List.replicate 0 a = [] := nr rfl
theorem y_js {x : Option α} : (some x).join = x := nr rfl
theorem y_mc {f : α → β} {a : α} {l : List α} : List.map f (a :: l) = f a :: List.map f l := nr rfl
theorem y_mn {f : α → β} : List.map f [] = [] := nr rfl
theorem y_ca {a : α} {l k : List α} : (a :: l) ++ k = a :: (l ++ k) := nr rfl
theorem y_na {l : List α} : [] ++ l = l := nr rfl
theorem y_g0 {a : α} {l : List α} : (a :: l)[0]? = some a := nr rfl
theorem y_gs {a : α} {l : List α} {i : Nat} : (a :: l)[i + 1]? = l[i]? := by simp
theorem y_s0 {a b : α} {l : List α} : (a :: l).set 0 b = b :: l := nr rfl
theorem y_ss {a b : α} {l : List α} {i : Nat} : (a :: l).set (i + 1) b = a :: l.set i b := nr rfl
theorem y_lc {a : α} {l : List α} : (a :: l).length = l.length + 1 := nr rfl
theorem y_ln : ([] : List α).length = 0 := nr rfl
theorem y_ge {a b : Int} : (a ≥ b) = (b ≤ a) := nr rfl
theorem y_it {c d : γ} : (if True then c else d) = c := if_pos trivial
theorem y_if {c d : γ} : (if False then c else d) = d := if_neg (fun h => h)
theorem y_at {p : Prop} : (p ∧ True) = p := and_true p
theorem y_ta {p : Prop} : (True ∧ p) = p := true_and p
theorem y_nt : (!true) = false := nr rfl
theorem y_nf : (!false) = true := nr rfl
end
section
variable {Q : D → Sto → Prop} {U : Unit → Sto → Prop} {A : List D → Sto → Prop} {s : Sto} {l : Loc}
theorem Qgn {n : Nat} {b : Bool} {kvs : List (D × D)} {Q : Bool × List (D × D) → Sto → Prop} (h : s[n]? = some (.dct b kvs)) : wp (getDc n) Q s = Q (b, kvs) s := by
 rw [QfN]; unfold getDc; rw [h]
theorem Qgo {n : Nat} {b : Bool} {kvs kvs' : List (D × D)} {Q : Unit → Sto → Prop} (h : s[n]? = some (.dct b kvs)) : wp (putDc n b kvs') Q s = Q () (s.set n (.dct b kvs')) := by
 rw [QfN]; unfold putDc; rw [h]; simp
theorem Qgp {n : Nat} {b : Bool} {kvs : List (D × D)} {k d : D} (h : s[n]? = some (.dct b kvs)) (hk : kOk b k = true) (hl : lkK kvs k = some d) : wp (itemK n k) Q s = Q d s := by
 unfold itemK; rw [QfO, Qgn h, wp_chk]; dsimp only; rw [hl, wp_ret]; exact propext ⟨fun h => h.2, fun h => ⟨hk, h⟩⟩
theorem Qgq {n : Nat} {b : Bool} {kvs : List (D × D)} {k v : D} (h : s[n]? = some (.dct b kvs)) (hk : kOk b k = true) (hl : kvs.length < lim) : wp (storeK n k v) U s = U () (s.set n (.dct b (ptK kvs k v))) := by
 unfold storeK; rw [QfO, Qgn h, wp_chk]; dsimp only; rw [Qgo h]; exact propext ⟨fun h => h.2, fun h => ⟨⟨hk, hl⟩, h⟩⟩
theorem x_subsD {n : Nat} {k : D} : wp (subsD (.dic n) k) Q s = wp (itemK n k) Q s := by cases k <;> first | bv_omega
theorem x_setD {n : Nat} {k v : D} : wp (setItemD (.dic n) k v) U s = wp (storeK n k v) U s := by cases k <;> first | bv_omega
theorem x_inDc {n : Nat} {k : D} : wp (inD k (.dic n)) Q s = wp (hasK n k) (fun b s' => Q (.bl b) s') s := by unfold inD; rw [QfO]; ac_rfl
theorem x_ninDc {n : Nat} {k : D} : wp (ninD k (.dic n)) Q s = wp (hasK n k) (fun b s' => Q (.bl !b) s') s := by unfold ninD; rw [QfO]; ac_rfl
theorem x_dnew {b : Bool} : wp (cDNew b l) Q s = Q (.dic s.length) (s ++ [.dct b []]) := wp_eq rfl
theorem x_cdisp {ks : List D} {vs : CA} : wp (cDisp ks vs l) Q s = wp (vs l) (fun xs s' => ks.length = xs.length ∧ Q (.dic s'.length) (s' ++ [.dct false (mgK [] (ks.zip xs))])) s := by
 unfold cDisp; rw [QfO]; congr 1; funext xs s'; rw [wp_chk]; rw [show ∀ kvs, wp (allocK false kvs) Q s' = Q (.dic s'.length) (s' ++ [.dct false kvs]) from fun _ => wp_eq rfl]
theorem x_arev {a : CA} : wp (aRev a l) A s = wp (a l) (fun ds s' => A ds.reverse s') s := by unfold aRev; rw [QfO]; ac_rfl
end
theorem x_times {a : CA} {b : CE} {A : List D → Sto → Prop} {s : Sto} {l : Loc} : wp (aTimes a b l) A s = wp (a l) (fun xs s1 => wp (b l) (fun k s2 => match k with
  | .int k => ((-(2 ^ 63) ≤ k ∧ k < 2 ^ 63) ∧ xs.length * k.toNat ≤ lim) ∧ A (List.replicate k.toNat xs).flatten s2
  | _ => False) s1) s := by
 unfold aTimes; rw [QfO]; congr 1; funext xs s1; rw [QfO]; congr 1; funext k s2; cases k <;> first | bv_omega | (dsimp only; rw [wp_chk]; ac_rfl)
theorem Qgr {m : M D} {s : Sto} (h : wp m (fun d _ => d = .bl true) s) : ∃ st', m s = .ok (.bl true) st' := by
 rw [QfN] at h
 cases e : m s with
 | ok a s' => rw [e] at h; exact ⟨s', by rw [show a = .bl true from h]⟩
 | exc _ _ => rw [e] at h; exact h.elim
 | bad => rw [e] at h; exact h.elim
theorem Qgs {α : Type} {l : List α} {a : α} : (l ++ [a])[l.length]? = some a := by rw [List.getElem?_append_right (Nat.le_refl _), Nat.sub_self]; ac_rfl
theorem Qgt {α : Type} {l : List α} {a b : α} {n : Nat} (h : l[n]? = some a) : (l ++ [b])[n]? = some a := by rw [List.getElem?_append_left (List.getElem?_eq_some_iff.mp h).1]; exact h
section
variable {Q : D → Sto → Prop} {A : List D → Sto → Prop} {s : Sto}
theorem Qgu {g : CG} {e : CE} {same : Sto → Prop} {xs : List D} {l : Loc} (V : D → Prop) (L : Loc → Prop) (P : D → Prop) (W : Sto → Prop) (hs : ∀ s, W s → same s) (h0 : W s) (hl : L l) (hV : ∀ d ∈ xs, V d)
  (hstep : ∀ d l s, V d → L l → W s → wp (g d l) (fun l1 s1 => L l1 ∧ wp (e l1) (fun x s2 => P x ∧ W s2) s1) s) (hend : ∀ out s', out.length = xs.length → (∀ d ∈ out, P d) → W s' → A out s') :
  wp (collect g tTrue e same xs l) A s := by
 have chk : ∀ {s : Sto} {R : Unit → Sto → Prop}, same s → R () s → wp (chkS same) R s := fun h r => by rw [QfN]; unfold chkS; rw [if_pos h]; exact r
 refine QfV (Q := A) (fun out ds l s => out.length + ds.length = xs.length ∧ (∀ d ∈ ds, V d) ∧ L l ∧ (∀ d ∈ out, P d) ∧ W s) (fun out l s ⟨e1, _, _, hP, w⟩ => ?_) (fun out d ds l s ⟨e1, hv, hL, hP, w⟩ => ?_) xs [] l s ⟨by simp, hV, hl, fun d hd => absurd hd (by simp), h0⟩
 ·exact chk (hs _ w) (hend out s (by simpa using e1) hP w)
 ·refine chk (hs _ w) ?_
  refine QfR (hstep d l s (hv d (by simp)) hL w) fun l1 s1 pq74 => ?_
  obtain ⟨hL1, q⟩ := pq74
  show wp (ret true) _ s1
  rw [wp_ret]
  show wp (e l1) _ s1
  exact QfR q fun x s2 pq75 => by obtain ⟨px, w2⟩ := pq75; exact ⟨by simp at e1 ⊢; ac_nf, fun d hd => hv d (by simp [hd]), hL1, fun d hd => by
   rcases List.mem_append.mp hd with hd | hd
   ·exact hP d hd
   ·rw [List.mem_singleton.mp hd]; exact px, w2⟩
theorem Qgv {g : CG} {t : CT} {e : CE} {same : Sto → Prop} {xs : List D} {l : Loc} (V : D → Prop) (L : Loc → Prop) (P : D → Prop) (W : Sto → Prop) (hs : ∀ s, W s → same s) (h0 : W s) (hl : L l) (hV : ∀ d ∈ xs, V d)
  (hstep : ∀ d l s, V d → L l → W s → wp (g d l) (fun l1 s1 => L l1 ∧ wp (t l1) (fun b s2 => if b = true then wp (e l1) (fun x s3 => P x ∧ W s3) s2 else W s2) s1) s) (hend : ∀ out s', out.length ≤ xs.length → (∀ d ∈ out, P d) → W s' → A out s') :
  wp (collect g t e same xs l) A s := by
 have chk : ∀ {s : Sto} {R : Unit → Sto → Prop}, same s → R () s → wp (chkS same) R s := fun h r => by rw [QfN]; unfold chkS; rw [if_pos h]; exact r
 refine QfV (Q := A) (fun out ds l s => out.length + ds.length ≤ xs.length ∧ (∀ d ∈ ds, V d) ∧ L l ∧ (∀ d ∈ out, P d) ∧ W s) (fun out l s ⟨e1, _, _, hP, w⟩ => ?_) (fun out d ds l s ⟨e1, hv, hL, hP, w⟩ => ?_) xs [] l s ⟨by simp, hV, hl, fun d hd => absurd hd (by simp), h0⟩
 ·exact chk (hs _ w) (hend out s (by simpa using e1) hP w)
 ·refine chk (hs _ w) ?_
  refine QfR (hstep d l s (hv d (by simp)) hL w) fun l1 s1 ⟨hL1, q⟩ => QfR q fun b s2 q => ?_
  cases b with
  | false => exact ⟨by simp at e1 ⊢; ac_nf, fun d hd => hv d (by simp [hd]), hL1, hP, q⟩
  | true =>
   exact QfR q fun x s2 pq79 => by obtain ⟨px, w2⟩ := pq79; exact ⟨by simp at e1 ⊢; ac_nf, fun d hd => hv d (by simp [hd]), hL1, fun d hd => by
    rcases List.mem_append.mp hd with hd | hd
    ·exact hP d hd
    ·rw [List.mem_singleton.mp hd]; exact px, w2⟩
end
end MM
local macro_rules
 | `(tactic| simp_arith [$a,*]) => `(tactic| simp only [↓MM.x_seq, ↓MM.x_next, ↓MM.x_asg, ↓MM.x_ret, ↓MM.x_exp, ↓MM.x_if, ↓MM.x_cmp, ↓MM.x_andE, ↓MM.x_orE, ↓MM.x_notE, ↓MM.x_ifE, ↓MM.x_truB, ↓MM.x_isB, ↓MM.x_eqB, ↓MM.x_neB, ↓MM.x_tupL, ↓MM.x_lenLL, ↓MM.x_item0, ↓MM.x_item1, ↓MM.x_item2, ↓MM.x_item3, ↓MM.x_tTrue, ↓MM.x_iTmp, ↓MM.x_enum, ↓MM.x_gtup, ↓MM.x_gcons, ↓MM.x_gnil, ↓MM.x_slice, ↓MM.x_none, ↓MM.x_some, ↓MM.x_val, ↓MM.x_not, ↓MM.x_and, ↓MM.x_or, ↓MM.x_g0, ↓MM.x_g1, ↓MM.x_g2, ↓MM.x_g3, ↓MM.x_g4, ↓MM.x_g5, ↓MM.x_g6, ↓MM.x_g7, ↓MM.x_g8, ↓MM.x_g9, ↓MM.x_g10, ↓MM.x_g11, ↓MM.x_g12, ↓MM.x_g13, ↓MM.x_g14, MM.x_gvar, ↓MM.x_gsub, ↓MM.x_v0, ↓MM.x_v1, ↓MM.x_v2, ↓MM.x_v3, ↓MM.x_v4, ↓MM.x_v5, ↓MM.x_v6, ↓MM.x_v7, ↓MM.x_v8, ↓MM.x_v9, ↓MM.x_v10, ↓MM.x_v11, ↓MM.x_v12, ↓MM.x_v13, ↓MM.x_v14, MM.x_var, ↓MM.x_con, ↓MM.x_c1, ↓MM.x_c2, ↓MM.x_call, ↓MM.x_nil, ↓MM.x_cons, ↓MM.x_tup, ↓MM.x_disp, ↓MM.x_keep, ↓MM.x_tmp, ↓MM.x_comp, ↓MM.x_for, ↓MM.x_rng, ↓MM.x_iseq, ↓MM.x_add, ↓MM.x_sub, ↓MM.x_mul, ↓MM.x_div, ↓MM.x_mod, ↓MM.x_lt, ↓MM.x_le, ↓MM.x_gt, ↓MM.x_ge, ↓MM.x_eq, ↓MM.x_ne, ↓MM.x_subsT, ↓MM.x_subsL, ↓MM.x_subsR, ↓MM.x_lenT, ↓MM.x_lenL, ↓MM.x_lenR, ↓MM.x_intB, ↓MM.x_intI, ↓MM.x_setR, ↓MM.x_retF, ↓MM.x_nextF, ↓MM.wp_run, ↓MM.wp_ret, ↓MM.wp_chk, ↓MM.wp_alloc, MM.andB_t, MM.andB_f, MM.andB_or, MM.andB_and, MM.y_dec, MM.y_rs, MM.y_rz, MM.y_js, MM.y_mc, MM.y_mn, MM.y_ca, MM.y_na, MM.y_g0, MM.y_gs, MM.y_s0, MM.y_ss, MM.y_lc, MM.y_ln, Nat.reduceAdd, Nat.reduceSub, MM.y_ge, Int.reduceLE, Int.reduceLT, MM.y_it, MM.y_if, MM.y_at, MM.y_ta, beq_iff_eq, ↓MM.x_chain, ↓MM.x_append, ↓MM.x_clear, ↓MM.x_pop, ↓MM.x_reverse, ↓MM.x_back, ↓MM.x_listT, ↓MM.x_listR, ↓MM.x_tupleT, ↓MM.x_tupleR, ↓MM.x_isntB, ↓MM.x_isB2, ↓MM.x_inTu, ↓MM.x_eqStr, ↓MM.x_neStr, ↓MM.x_isiL, ↓MM.x_isiT, ↓MM.x_isiI, ↓MM.x_isiB, ↓MM.x_isiBN, ↓MM.x_neg, ↓MM.x_min2, ↓MM.x_max2, ↓MM.x_rng2, ↓MM.x_shl, ↓MM.x_addT, ↓MM.x_tmpSub, ↓MM.x_inTmp, MM.ite_t, MM.ite_f, MM.y_nt, MM.y_nf, ↓MM.x_sliceT, ↓MM.x_subsD, ↓MM.x_setD, ↓MM.x_inDc, ↓MM.x_ninDc, ↓MM.x_dnew, ↓MM.x_cdisp, ↓MM.x_arev, ↓MM.x_times, Nat.reduceLT, Nat.reduceLeDiff, $a,*])
namespace MM
open PySem
section
variable {Q : List D → Sto → Prop} {s : Sto}
end
end MM
namespace MM
open PySem
section
variable {l : Loc} {Q : D → Sto → Prop} {A : List D → Sto → Prop} {I : Wk → Sto → Prop} {s : Sto}
end
end MM
namespace My
open PySem MM
noncomputable def xNm : List Str := ["NoTable", "NoHouse", "NoText", "TooMany", "NotMeek", "NoMark", "NotGood", "NoRow"]
noncomputable def  yl : CS :=
  (sSeq (sAsg (gVar 2) (cKeep (aComp 1 [] (iTmp (aSlice (cVar 0) (oSome (cVar 1)) (oSome (cCon (.int 63))))) (gVar 0) tTrue (c2 max2D (cVar 0) (c2 subD (cCon (.int 0)) (cVar 0))))))
  (sSeq (sAsg (gVar 3) (c2 addD (cCon (.int 7919)) (cVar 1)))
  (sSeq (sFor (iSeq (cVar 2)) (gVar 4)
   (sSeq (sAsg (gVar 3) (c2 modD (c2 addD (c2 mulD (cVar 3) (cCon (.int 69621))) (c2 modD (cVar 4) (cCon (.int 2147483629)))) (cCon (.int 2147483647))))
   sNext))
  (sSeq (sRet (cDisp [.str "seed", .str "number", .str "left"] (cCons (cVar 3) (cCons (cCon (.int 0)) (cCons (cKeep (aRev (aComp 1 [] (iSeq (cVar 2)) (gVar 0) (tCmpB (c2 geD (cVar 0) (c2 powD (cCon (.int 10)) (cCon (.int 18))))) (cVar 0)))) cNil)))))
  sNext))))
@[irreducible] noncomputable def  jB : List D → M D := runDef 5 yl
noncomputable def  yj : CS :=
  (sSeq (sWhile (tAndB (tCmpB (c2 eqD (c2 subsD (cVar 0) (cCon (.str "number"))) (cCon (.int 0)))) (tCmpB (c2 gtD (c1 lenD (c2 subsD (cVar 0) (cCon (.str "left")))) (cCon (.int 0)))))
   (sSeq (sAsg (gSubD (cVar 0) (cCon (.str "number"))) (cPop (c2 subsD (cVar 0) (cCon (.str "left")))))
   sNext))
  (sSeq (sAsg (gVar 2) (c2 subsD (cVar 0) (cCon (.str "number"))))
  (sSeq (sIf (tCmpB (c2 gtD (cVar 2) (cCon (.int 0))))
   (sSeq (sAsg (gSubD (cVar 0) (cCon (.str "number"))) (c2 fdivD (cVar 2) (cVar 1)))
   (sSeq (sRet (c2 modD (cVar 2) (cVar 1)))
   sNext))
   sNext)
  (sSeq (sAsg (gVar 3) (c2 modD (c2 addD (c2 mulD (c2 subsD (cVar 0) (cCon (.str "seed"))) (cCon (.int 48271))) (cCon (.int 7919))) (cCon (.int 2147483647))))
  (sSeq (sAsg (gSubD (cVar 0) (cCon (.str "seed"))) (c2 modD (c2 addD (c2 mulD (cVar 3) (cCon (.int 40692))) (cCon (.int 104729))) (cCon (.int 2147483399))))
  (sSeq (sAsg (gVar 4) (c2 modD (c2 mulD (c2 subsD (cVar 0) (cCon (.str "seed"))) (c2 subsD (cVar 0) (cCon (.str "seed")))) (cCon (.int 2147483563))))
  (sSeq (sRet (c2 modD (c2 addD (c2 mulD (c2 modD (c2 mulD (cVar 3) (cVar 3)) (cCon (.int 2147483629))) (cCon (.int 2147483563))) (cVar 4)) (cVar 1)))
  sNext)))))))
@[irreducible] noncomputable def  jt : List D → M D := runDef 5 yj
noncomputable def  yn : CS :=
  (sSeq (sRet (cKeep (aDisp (cCons (c1 (mkX "NoTable" "at") (cVar 0)) (cCons (c1 (mkX "NoHouse" "place") (cTup (cCons (cCon (.str "line")) (cCons (cVar 0) (cCons (c2 addD (cVar 0) (cCon (.int 1))) cNil))))) (cCons (c1 (mkX "NoText" "row") (cVar 0)) (cCons (c1 (mkX "TooMany" "most") (cVar 0)) (cCons (c1 (mkX "NotMeek" "board") (cVar 0)) (cCons (cCon (.exn "NoMark" [])) (cCons (cCon (.exn "NotGood" [])) (cCons (cCon (.exn "NoRow" [])) cNil)))))))))))
  sNext)
@[irreducible] noncomputable def  jr : List D → M D := runDef 1 yn
noncomputable def  j1 : CS :=
  (sSeq (sRet (cKeep (aDisp (cCons (c1 (attrX "NoTable" "at") (c2 subsD (cVar 0) (cCon (.int 0)))) (cCons (c1 (attrX "NoHouse" "place") (c2 subsD (cVar 0) (cCon (.int 1)))) (cCons (c1 (attrX "NoText" "row") (c2 subsD (cVar 0) (cCon (.int 2)))) (cCons (c1 (attrX "TooMany" "most") (c2 subsD (cVar 0) (cCon (.int 3)))) (cCons (c1 (attrX "NotMeek" "board") (c2 subsD (cVar 0) (cCon (.int 4)))) cNil))))))))
  sNext)
@[irreducible] noncomputable def  jm : List D → M D := runDef 1 j1
noncomputable def  ya : CS :=
  (sSeq (sAsg (gVar 1) (cKeep (aDisp (cCons (c1 (isiX xNm fun x => x == "NoTable" || ("PactError" : Str) == "NoTable") (cVar 0)) (cCons (c1 (isiX xNm fun x => x == "NoHouse" || ("PactError" : Str) == "NoHouse") (cVar 0)) (cCons (c1 (isiX xNm fun x => x == "NoText" || ("PactError" : Str) == "NoText") (cVar 0)) (cCons (c1 (isiX xNm fun x => x == "TooMany" || ("PactError" : Str) == "TooMany") (cVar 0)) cNil)))))))
  (sSeq (sAsg (gVar 1) (c2 addD (cVar 1) (cKeep (aDisp (cCons (c1 (isiX xNm fun x => x == "NotMeek" || ("PactError" : Str) == "NotMeek") (cVar 0)) (cCons (c1 (isiX xNm fun x => x == "NoMark" || ("PactError" : Str) == "NoMark") (cVar 0)) (cCons (c1 (isiX xNm fun x => x == "NotGood" || ("PactError" : Str) == "NotGood") (cVar 0)) (cCons (c1 (isiX xNm fun x => x == "NoRow" || ("PactError" : Str) == "NoRow") (cVar 0)) cNil))))))))
  (sSeq (sRet (cVar 1))
  sNext)))
@[irreducible] noncomputable def  jx : List D → M D := runDef 2 ya
noncomputable def  zP : CS :=
  (sSeq (sAsg (gVar 1) (cCall jB (cCons (cVar 0) (cCons (cCon (.int 0)) cNil))))
  (sSeq (sAsg (gVar 2) (cCall jt (cCons (cVar 1) (cCons (cTmpSub (aDisp (cCons (cCon (.int 10)) (cCons (c2 powD (cCon (.int 10)) (cCon (.int 9))) cNil))) (cCall jt (cCons (cVar 1) (cCons (cCon (.int 2)) cNil)))) cNil))))
  (sSeq (sAsg (gVar 3) (cCall jr (cCons (cVar 2) cNil)))
  (sSeq (sAsg (gVar 4) (cCall jr (cCons (c2 addD (cVar 2) (cCon (.int 1))) cNil)))
  (sSeq (sFor (MM.iRng1 (cCon (.int 8))) (gVar 5)
   (sSeq (sAsg (gVar 6) (cKeep (aComp 1 [5] (MM.iRng1 (cCon (.int 8))) (gVar 0) tTrue (c2 eqD (cVar 0) (cVar 1)))))
   (sSeq (sFor (iSeq (cTup (cCons (c2 subsD (cVar 3) (cVar 5)) (cCons (c2 subsD (cVar 4) (cVar 5)) cNil)))) (gVar 7)
    (sSeq (sIf (tOrB (tNotB (tVal (c1 (isiX xNm fun x => x == "PactError" || ("PactError" : Str) == "PactError") (cVar 7)))) (tOrB (tNotB (tVal (c1 (isiX xNm fun _ => true) (cVar 7)))) (tCmpB (c2 neD (cCall jx (cCons (cVar 7) cNil)) (cVar 6)))))
     (sSeq (sRet (cCon (.bl false)))
     sNext)
     sNext)
    sNext))
   sNext)))
  (sSeq (sIf (tCmpB (c2 neD (cCall jm (cCons (cVar 4) cNil)) (cKeep (aDisp (cCons (c2 addD (cVar 2) (cCon (.int 1))) (cCons (cTup (cCons (cCon (.str "line")) (cCons (c2 addD (cVar 2) (cCon (.int 1))) (cCons (c2 addD (cVar 2) (cCon (.int 2))) cNil)))) (cCons (c2 addD (cVar 2) (cCon (.int 1))) (cCons (c2 addD (cVar 2) (cCon (.int 1))) (cCons (c2 addD (cVar 2) (cCon (.int 1))) cNil)))))))))
   (sSeq (sRet (cCon (.bl false)))
   sNext)
   sNext)
  (sSeq (sRet (c2 eqD (cCall jm (cCons (cVar 3) cNil)) (cKeep (aDisp (cCons (cVar 2) (cCons (cTup (cCons (cCon (.str "line")) (cCons (cVar 2) (cCons (c2 addD (cVar 2) (cCon (.int 1))) cNil)))) (cCons (cVar 2) (cCons (cVar 2) (cCons (cVar 2) cNil)))))))))
  sNext)))))))
@[irreducible] noncomputable def  yt : List D → M D := runDef 8 zP
end My
namespace My
open PySem PySem.Spec PyProof.Rows L2 MM
noncomputable def top (i : Nat) : Stmt := PySem.Challenge.pw_pactboards_k10_refusals.main.body.getD i (.Pass ⟨0, 0, 0, 0⟩)
noncomputable abbrev jl : Stmt := top 11
noncomputable abbrev jn : Stmt := top 12
noncomputable abbrev jj : Stmt := top 13
noncomputable abbrev jy : Stmt := top 14
noncomputable abbrev jd : Stmt := top 15
noncomputable abbrev jp : Stmt := top 16
noncomputable def inOf : Stmt → Stmt
 | .ClassDef _ _ _ (s :: _) _ _ _ _ _ _ _ => s
 | s => s
noncomputable abbrev jX : Stmt := inOf (top 2)
theorem Qgw : typeLookup (.type "ValueError") ("at" : Str) = pure none := by rfl
noncomputable abbrev jT : Stmt := inOf (top 3)
theorem Qgx : typeLookup (.type "ValueError") ("place" : Str) = pure none := by rfl
noncomputable abbrev j7 : Stmt := inOf (top 4)
theorem Qgy : typeLookup (.type "ValueError") ("row" : Str) = pure none := by rfl
noncomputable abbrev jW : Stmt := inOf (top 5)
theorem Qgz : typeLookup (.type "ValueError") ("most" : Str) = pure none := by rfl
noncomputable abbrev jV : Stmt := inOf (top 6)
theorem QgA : typeLookup (.type "ValueError") ("board" : Str) = pure none := by rfl
theorem zy : NameOk "NoHouse" := nok (by nofun)
theorem zK : NameOk "NoMark" := nok (by nofun)
theorem zV : NameOk "NoRow" := nok (by nofun)
theorem zE : NameOk "NoTable" := nok (by nofun)
theorem zJ : NameOk "NoText" := nok (by nofun)
theorem zB : NameOk "NotGood" := nok (by nofun)
theorem zD : NameOk "NotMeek" := nok (by nofun)
theorem zS : NameOk "PactError" := nok (by nofun)
theorem zF : NameOk "TooMany" := nok (by nofun)
theorem zj : NameOk "_law_base" := nok (by nofun)
theorem jN : NameOk "_law_cell" := nok (by nofun)
theorem zb : NameOk "_law_cells" := nok (by nofun)
theorem z0 : NameOk "_law_deal" := nok (by nofun)
theorem jb : NameOk "_law_deal_here" := nok (by nofun)
theorem zm : NameOk "_law_draw" := nok (by nofun)
theorem we : NameOk "_law_due" := nok (by nofun)
theorem jz : NameOk "_law_e" := nok (by nofun)
theorem yI : NameOk "_law_fields" := nok (by nofun)
theorem wj : NameOk "_law_j" := nok (by nofun)
theorem zu : NameOk "_law_k" := nok (by nofun)
theorem zl : NameOk "_law_made" := nok (by nofun)
theorem jo : NameOk "_law_made_here" := nok (by nofun)
theorem yv : NameOk "_law_many" := nok (by nofun)
theorem jg : NameOk "_law_n" := nok (by nofun)
theorem jG : NameOk "_law_number" := nok (by nofun)
theorem yA : NameOk "_law_one" := nok (by nofun)
theorem zQ : NameOk "_law_other" := nok (by nofun)
theorem yH : NameOk "_law_others" := nok (by nofun)
theorem yG : NameOk "_law_script" := nok (by nofun)
theorem zn : NameOk "_law_some" := nok (by nofun)
theorem zU : NameOk "_law_sorts" := nok (by nofun)
theorem zM : bootBuiltins ("ValueError" : Str) = some (.type "ValueError") := by nofun
theorem jk : bootBuiltins ("isinstance" : Str) = some (.builtin "isinstance") := by nofun
theorem wm : bootBuiltins ("len" : Str) = some (.builtin "len") := by nofun
theorem wk : bootBuiltins ("list" : Str) = some (.type "list") := by nofun
theorem wl : bootBuiltins ("max" : Str) = some (.builtin "max") := by nofun
theorem zW : bootBuiltins ("reversed" : Str) = some (.type "reversed") := by nofun
set_option genInjectivity false in
structure Txt (K : PySem.W.Frag) (mg : Str → Option Value) where
 j0 : Addr
 jS : FuncData
 ym : Fun K "_law_deal" "_law_deal" jl j0 jS
 jB : mg "_law_deal" = some (.ref j0)
 j2 : Addr
 jO : FuncData
 j6 : Fun K "_law_draw" "_law_draw" jn j2 jO
 jt : mg "_law_draw" = some (.ref j2)
 j4 : Addr
 jQ : FuncData
 j5 : Fun K "_law_made" "_law_made" jj j4 jQ
 jr : mg "_law_made" = some (.ref j4)
 jI : Addr
 jH : FuncData
 jK : Fun K "_law_fields" "_law_fields" jy jI jH
 jm : mg "_law_fields" = some (.ref jI)
 jR : Addr
 jJ : FuncData
 yc : Fun K "_law_sorts" "_law_sorts" jd jR jJ
 jx : mg "_law_sorts" = some (.ref jR)
 yy : Addr
 yY : FuncData
 z9 : Fun K "law" "law" jp yy yY
 yt : mg "law" = some (.ref yy)
 jC : mg "ValueError" = none
 jf : mg "isinstance" = none
 ze : mg "len" = none
 yx : mg "list" = none
 zf : mg "max" = none
 j9 : mg "range" = none
 jL : mg "reversed" = none
 xP : Addr
 xNP : Addr
 xp : XO K "PactError" xP
 zk : mg "PactError" = some (.ref xP)
 C_NoTable : Addr
 N_NoTable : Addr
 X_NoTable : XF K "NoTable" "at" C_NoTable N_NoTable xP xNP
 yQ : mg "NoTable" = some (.ref C_NoTable)
 fI_NoTable : Addr
 yi : FuncData
 i_NoTable : PySem.W.nsIn K N_NoTable (Str.ofString "__init__") = some (some (.ref fI_NoTable))
 n_NoTable : ∃ oI, K.lookup fI_NoTable = some oI ∧ oI.cls = .type "function"
 yV : Fun K "__init__" "NoTable.__init__" jX fI_NoTable yi
 C_NoHouse : Addr
 N_NoHouse : Addr
 X_NoHouse : XF K "NoHouse" "place" C_NoHouse N_NoHouse xP xNP
 y3 : mg "NoHouse" = some (.ref C_NoHouse)
 fI_NoHouse : Addr
 yg : FuncData
 i_NoHouse : PySem.W.nsIn K N_NoHouse (Str.ofString "__init__") = some (some (.ref fI_NoHouse))
 n_NoHouse : ∃ oI, K.lookup fI_NoHouse = some oI ∧ oI.cls = .type "function"
 yR : Fun K "__init__" "NoHouse.__init__" jT fI_NoHouse yg
 C_NoText : Addr
 N_NoText : Addr
 X_NoText : XF K "NoText" "row" C_NoText N_NoText xP xNP
 zt : mg "NoText" = some (.ref C_NoText)
 fI_NoText : Addr
 yr : FuncData
 i_NoText : PySem.W.nsIn K N_NoText (Str.ofString "__init__") = some (some (.ref fI_NoText))
 n_NoText : ∃ oI, K.lookup fI_NoText = some oI ∧ oI.cls = .type "function"
 zp : Fun K "__init__" "NoText.__init__" j7 fI_NoText yr
 C_TooMany : Addr
 N_TooMany : Addr
 X_TooMany : XF K "TooMany" "most" C_TooMany N_TooMany xP xNP
 zc : mg "TooMany" = some (.ref C_TooMany)
 fI_TooMany : Addr
 yk : FuncData
 i_TooMany : PySem.W.nsIn K N_TooMany (Str.ofString "__init__") = some (some (.ref fI_TooMany))
 n_TooMany : ∃ oI, K.lookup fI_TooMany = some oI ∧ oI.cls = .type "function"
 za : Fun K "__init__" "TooMany.__init__" jW fI_TooMany yk
 C_NotMeek : Addr
 N_NotMeek : Addr
 X_NotMeek : XF K "NotMeek" "board" C_NotMeek N_NotMeek xP xNP
 yW : mg "NotMeek" = some (.ref C_NotMeek)
 fI_NotMeek : Addr
 yh : FuncData
 i_NotMeek : PySem.W.nsIn K N_NotMeek (Str.ofString "__init__") = some (some (.ref fI_NotMeek))
 n_NotMeek : ∃ oI, K.lookup fI_NotMeek = some oI ∧ oI.cls = .type "function"
 yZ : Fun K "__init__" "NotMeek.__init__" jV fI_NotMeek yh
 C_NoMark : Addr
 N_NoMark : Addr
 X_NoMark : XF K "NoMark" "__getattr__" C_NoMark N_NoMark xP xNP
 zr : mg "NoMark" = some (.ref C_NoMark)
 i_NoMark : PySem.W.nsIn K N_NoMark (Str.ofString "__init__") = some none
 C_NotGood : Addr
 N_NotGood : Addr
 X_NotGood : XF K "NotGood" "__getattr__" C_NotGood N_NotGood xP xNP
 yU : mg "NotGood" = some (.ref C_NotGood)
 i_NotGood : PySem.W.nsIn K N_NotGood (Str.ofString "__init__") = some none
 C_NoRow : Addr
 N_NoRow : Addr
 X_NoRow : XF K "NoRow" "__getattr__" C_NoRow N_NoRow xP xNP
 zI : mg "NoRow" = some (.ref C_NoRow)
 i_NoRow : PySem.W.nsIn K N_NoRow (Str.ofString "__init__") = some none
section
variable {P : Program} {w : World} {K : PySem.W.Frag} {mg : Str → Option Value} {base : Heap}
theorem z8 : FnScope ["self", "at"] ["self", "at"] (defScope jX) := ⟨rfl, rfl, rfl, by nofun, rfl, by nofun, by nofun⟩
theorem QgB (T : Txt K mg) : FnOk P w K mg base CX0 1 T.fI_NoTable T.yi ["self", "at"] (spI T.C_NoTable "at") := Qfi T.X_NoTable Qgw T.yV z8 rfl (.inl (by nofun)) (.inl (by nofun)) (by nofun) (by nofun) (by nofun) (by nofun)
theorem QgC (T : Txt K mg) : L2.Binds K T.yi ["self", "at"] [] := T.yV.binds (ps := ["self", "at"]) fun _ _ _ _ _ _ us hl => le2 (fun _ _ => rfl) us hl
theorem wa : FnScope ["self", "place"] ["self", "place"] (defScope jT) := ⟨rfl, rfl, rfl, by nofun, rfl, by nofun, by nofun⟩
theorem QgD (T : Txt K mg) : FnOk P w K mg base CX0 1 T.fI_NoHouse T.yg ["self", "place"] (spI T.C_NoHouse "place") := Qfi T.X_NoHouse Qgx T.yR wa rfl (.inl (by nofun)) (.inl (by nofun)) (by nofun) (by nofun) (by nofun) (by nofun)
theorem QgE (T : Txt K mg) : L2.Binds K T.yg ["self", "place"] [] := T.yR.binds (ps := ["self", "place"]) fun _ _ _ _ _ _ us hl => le2 (fun _ _ => rfl) us hl
theorem wg : FnScope ["self", "row"] ["self", "row"] (defScope j7) := ⟨rfl, rfl, rfl, by nofun, rfl, by nofun, by nofun⟩
theorem QgF (T : Txt K mg) : FnOk P w K mg base CX0 1 T.fI_NoText T.yr ["self", "row"] (spI T.C_NoText "row") := Qfi T.X_NoText Qgy T.zp wg rfl (.inl (by nofun)) (.inl (by nofun)) (by nofun) (by nofun) (by nofun) (by nofun)
theorem QgG (T : Txt K mg) : L2.Binds K T.yr ["self", "row"] [] := T.zp.binds (ps := ["self", "row"]) fun _ _ _ _ _ _ us hl => le2 (fun _ _ => rfl) us hl
theorem wf : FnScope ["self", "most"] ["self", "most"] (defScope jW) := ⟨rfl, rfl, rfl, by nofun, rfl, by nofun, by nofun⟩
theorem QgH (T : Txt K mg) : FnOk P w K mg base CX0 1 T.fI_TooMany T.yk ["self", "most"] (spI T.C_TooMany "most") := Qfi T.X_TooMany Qgz T.za wf rfl (.inl (by nofun)) (.inl (by nofun)) (by nofun) (by nofun) (by nofun) (by nofun)
theorem QgI (T : Txt K mg) : L2.Binds K T.yk ["self", "most"] [] := T.za.binds (ps := ["self", "most"]) fun _ _ _ _ _ _ us hl => le2 (fun _ _ => rfl) us hl
theorem wb : FnScope ["self", "board"] ["self", "board"] (defScope jV) := ⟨rfl, rfl, rfl, by nofun, rfl, by nofun, by nofun⟩
theorem QgJ (T : Txt K mg) : FnOk P w K mg base CX0 1 T.fI_NotMeek T.yh ["self", "board"] (spI T.C_NotMeek "board") := Qfi T.X_NotMeek QgA T.yZ wb rfl (.inl (by nofun)) (.inl (by nofun)) (by nofun) (by nofun) (by nofun) (by nofun)
theorem QgK (T : Txt K mg) : L2.Binds K T.yh ["self", "board"] [] := T.yZ.binds (ps := ["self", "board"]) fun _ _ _ _ _ _ us hl => le2 (fun _ _ => rfl) us hl
theorem xb (T : Txt K mg) : ∀ x ∈ xNm, ∃ f C N P NP, XF K x f C N P NP := (List.forall_mem_cons.mpr ⟨⟨_, _, _, _, _, T.X_NoTable⟩, (List.forall_mem_cons.mpr ⟨⟨_, _, _, _, _, T.X_NoHouse⟩, (List.forall_mem_cons.mpr ⟨⟨_, _, _, _, _, T.X_NoText⟩, (List.forall_mem_cons.mpr ⟨⟨_, _, _, _, _, T.X_TooMany⟩, (List.forall_mem_cons.mpr ⟨⟨_, _, _, _, _, T.X_NotMeek⟩, (List.forall_mem_cons.mpr ⟨⟨_, _, _, _, _, T.X_NoMark⟩, (List.forall_mem_cons.mpr ⟨⟨_, _, _, _, _, T.X_NotGood⟩, (List.forall_mem_cons.mpr ⟨⟨_, _, _, _, _, T.X_NoRow⟩, (fun _ z => nomatch z)⟩)⟩)⟩)⟩)⟩)⟩)⟩)⟩)
theorem j3 : LK jl "_law_base" .local := by nofun
theorem jY : LK jl "_law_cell" .local := by nofun
theorem jw : LK jl "_law_cells" .local := by nofun
theorem js : LK jl "_law_number" .local := by nofun
theorem yw : LK jl "_law_script" .local := by nofun
theorem zv : LK jl "list" .globalImplicit := by nofun
theorem yD : LK jl "reversed" .globalImplicit := by nofun
theorem jP : FnScope ["_law_script", "_law_base", "_law_cells", "_law_number", "_law_cell"] ["_law_script", "_law_base"] (defScope jl) := ⟨rfl, rfl, rfl, by nofun, rfl, by nofun, by nofun⟩
theorem zY (T : Txt K mg) : L2.Binds K T.jS ["_law_script", "_law_base"] [] := T.ym.binds (ps := ["_law_script", "_law_base"]) fun _ _ _ _ _ _ us hl => le2 (fun _ _ => rfl) us hl
theorem z1 (T : Txt K mg) : FnOk P w K mg base CX0 1 T.j0 T.jS ["_law_script", "_law_base"] (spOf K 2 jB) := by
 have q : FnOk P w K mg base CX0 (0 + 1) T.j0 T.jS ["_law_script", "_law_base"] (spOf K 2 (runDef 5 yl)) := by
  refine Qfz (k := 0) (N := ["_law_script", "_law_base", "_law_cells", "_law_number", "_law_cell"]) (body := yl) T.ym jP rfl rfl (fun cdv A outer s H E hr => ?_)
  exact (@QdR _ _ _ _ _ (@Qee _ _ _ _ _ _ _ _ _ _ _ 2 _ _ _ _ _ _ jP.nd rfl (Qfo.loc _ _ jw (by decide)).1 (Qfo.loc _ _ jw (by decide)).2 rfl (@Qfq _ _ _ Qfo (by nofun)) (@Qfr _ ["_law_script", "_law_base", "_law_cells", "_law_number", "_law_cell"] _ ["_law_cell"] 1 [] rfl (by nofun)) (@Qd6 _ _ _ _ (@Qew _ _ _ _ _ _ _ _ _ (Qfs Qfo 0 rfl yw yG) (@Qev _ _ _ (Qfs Qfo 1 rfl j3 zj)) (@Qev _ _ _ QcE))) (fun _ _ _ => ⟨(@Qft _ _ _ _ (Qfp (rfl)) 0 (show List.Nodup (["_law_cell"] : List Str) by nofun) rfl .local (by nofun) (by decide)), (@Qea _), (@Qex _ _ _ _ _ _ _ _ _ _ (@Qey _ rfl) ((Qfp (rfl)).glo _ (by nofun)) T.zf wl (Qfs (k := .local) (Qfp (rfl)) 0 rfl (by nofun) jN) (@QcI _ _ _ _ _ _ _ _ (@Qdp _) QcE (Qfs (k := .local) (Qfp (rfl)) 0 rfl (by nofun) jN)) (by decide) (by decide) (by rfl) (by rfl) (by rfl))⟩) (by rfl) (by intros; rfl))
  (@QdR _ _ _ _ _ (@Qfu _ _ _ _ _ _ Qfo 3 jP.nd rfl _ js _ (@QcI _ _ _ _ _ _ _ _ (@Qeu _) QcE (Qfs Qfo 1 rfl j3 zj)) (by decide) (by rfl))
  (@QdR _ _ _ _ _ (@Qd8 _ _ _ _ _ _ _ _ PassesOwn.never rfl (@Qd5 _ _ _ _ (Qfs Qfo 2 rfl jw zb)) (@Qft _ _ _ _ Qfo 4 jP.nd rfl .local jY (by decide))
   (@QdR _ _ _ _ _ (@Qfu _ _ _ _ _ _ Qfo 3 jP.nd rfl _ js _ (@QcI _ _ _ _ _ _ _ _ (@Qds _) (@QcI _ _ _ _ _ _ _ _ (@Qeu _) (@QcI _ _ _ _ _ _ _ _ (@Qdq _) (Qfs Qfo 3 rfl js jG) QcE) (@QcI _ _ _ _ _ _ _ _ (@Qds _) (Qfs Qfo 4 rfl jY jN) QcE)) QcE) (by decide) (by rfl))
   QdQ) (by intros; rfl))
  (@QdR _ _ _ _ _ (@QdS _ _ _ _ (@QeK _ _ _ _ _ _ (@QeJ _ _ _ _ _ _ _ _ _ _ _ (Qfs Qfo 3 rfl js jG) (@QeJ _ _ _ _ _ _ _ _ _ _ _ QcE (@QeJ _ _ _ _ _ _ _ _ _ _ _ (@QdA _ _ _ (@QeH _ _ _ _ _ _ _ rfl (Qfo.glo _ zv) T.yx wk (Qfo.glo _ yD) T.jL zW (@Qed _ _ _ _ _ _ _ _ _ _ _ _ _ _ rfl (@Qfq _ _ _ Qfo (by nofun)) (@Qfr _ ["_law_script", "_law_base", "_law_cells", "_law_number", "_law_cell"] _ ["_law_cell"] 1 [] rfl (by nofun)) (@Qd5 _ _ _ _ (Qfs Qfo 2 rfl jw zb)) (fun _ _ _ => ⟨(@Qft _ _ _ _ (Qfp (rfl)) 0 (show List.Nodup (["_law_cell"] : List Str) by nofun) rfl .local (by nofun) (by decide)), (@Qeb _ _ _ (@QdJ _ _ _ _ _ _ _ _ (@Qdv _) (Qfs (k := .local) (Qfp (rfl)) 0 rfl (by nofun) jN) (@QcI _ _ _ _ _ _ _ _ (@Qdt _) QcE QcE) (Qa7 _))), (Qfs (k := .local) (Qfp (rfl)) 0 rfl (by nofun) jN)⟩) (by intros; rfl)) (by rfl) (by rfl))) (@QeI _ _)))) (by rfl) (by rfl) (by simp) (by decide) (by decide)))
  QdQ))))
 unfold jB
 exact q
theorem ja : LK jn "_law_deal_here" .local := by nofun
theorem jF : LK jn "_law_many" .local := by nofun
theorem ju : LK jn "_law_number" .local := by nofun
theorem jA : LK jn "_law_one" .local := by nofun
theorem jU : LK jn "_law_other" .local := by nofun
theorem zH : LK jn "len" .globalImplicit := by nofun
theorem yb : FnScope ["_law_deal_here", "_law_many", "_law_number", "_law_one", "_law_other"] ["_law_deal_here", "_law_many"] (defScope jn) := ⟨rfl, rfl, rfl, by nofun, rfl, by nofun, by nofun⟩
theorem z4 (T : Txt K mg) : L2.Binds K T.jO ["_law_deal_here", "_law_many"] [] := T.j6.binds (ps := ["_law_deal_here", "_law_many"]) fun _ _ _ _ _ _ us hl => le2 (fun _ _ => rfl) us hl
theorem z6 (T : Txt K mg) : FnOk P w K mg base CX0 1 T.j2 T.jO ["_law_deal_here", "_law_many"] (spOf K 2 jt) := by
 have q : FnOk P w K mg base CX0 (0 + 1) T.j2 T.jO ["_law_deal_here", "_law_many"] (spOf K 2 (runDef 5 yj)) := by
  refine Qfz (k := 0) (N := ["_law_deal_here", "_law_many", "_law_number", "_law_one", "_law_other"]) (body := yj) T.j6 yb rfl rfl (fun cdv A outer s H E hr => ?_)
  exact (@QdR _ _ _ _ _ (@QeA _ _ _ _ _ _ PassesOwn.never (L2.PW.pt (@QdM _ _ _ _ _ _ _ (@QdJ _ _ _ _ _ _ _ _ (Qes (Qfy hr)) (QdE (Qfy hr) (Qfs Qfo 0 rfl ja jb) QcG (fun _ _ => rfl)) QcE (Qa7 _)) (@QdK _ _ _ _ (@QdJ _ _ _ _ _ _ _ _ (@Qdu _) (@Qef _ _ _ _ _ _ _ _ (@Qei _) (Qfo.glo _ zH) T.ze wm (QdE (Qfy hr) (Qfs Qfo 0 rfl ja jb) QcG (fun _ _ => rfl)) (by decide) (by decide) (by rfl)) QcE (Qa7 _)))))
   (@QdR _ _ _ _ _ (@QdX _ _ _ _ _ _ (@Qez _ _ _ _ _ (QdE (Qfy hr) (Qfs Qfo 0 rfl ja jb) QcG (fun _ _ => rfl)) (by rfl) (by rfl)) (@QdZ _ _ _ _ _ _ (Qfy hr) (Qfs Qfo 0 rfl ja jb) QcG (by intros; rfl)) (by rfl) (by rfl) (by rfl))
   QdQ))
  (@QdR _ _ _ _ _ (@Qfu _ _ _ _ _ _ Qfo 2 yb.nd rfl _ ju _ (QdE (Qfy hr) (Qfs Qfo 0 rfl ja jb) QcG (fun _ _ => rfl)) (by decide) (by rfl))
  (@QdR _ _ _ _ _ (@QdT _ _ _ _ _ _ _ (@QdJ _ _ _ _ _ _ _ _ (@Qdu _) (Qfs Qfo 2 rfl ju jG) QcE (Qa7 _))
   (@QdR _ _ _ _ _ (@QdX _ _ _ _ _ _ (@QcI _ _ _ _ _ _ _ _ (@Qdr _) (Qfs Qfo 2 rfl ju jG) (Qfs Qfo 1 rfl jF yv)) (@QdZ _ _ _ _ _ _ (Qfy hr) (Qfs Qfo 0 rfl ja jb) QcG (by intros; rfl)) (by rfl) (by rfl) (by rfl))
   (@QdR _ _ _ _ _ (@QdS _ _ _ _ (@QcI _ _ _ _ _ _ _ _ (@Qds _) (Qfs Qfo 2 rfl ju jG) (Qfs Qfo 1 rfl jF yv)))
   QdQ)) _
   QdQ)
  (@QdR _ _ _ _ _ (@Qfu _ _ _ _ _ _ Qfo 3 yb.nd rfl _ jA _ (@QcI _ _ _ _ _ _ _ _ (@Qds _) (@QcI _ _ _ _ _ _ _ _ (@Qeu _) (@QcI _ _ _ _ _ _ _ _ (@Qdq _) (QdE (Qfy hr) (Qfs Qfo 0 rfl ja jb) QcG (fun _ _ => rfl)) QcE) QcE) QcE) (by decide) (by rfl))
  (@QdR _ _ _ _ _ (@QdX _ _ _ _ _ _ (@QcI _ _ _ _ _ _ _ _ (@Qds _) (@QcI _ _ _ _ _ _ _ _ (@Qeu _) (@QcI _ _ _ _ _ _ _ _ (@Qdq _) (Qfs Qfo 3 rfl jA yA) QcE) QcE) QcE) (@QdZ _ _ _ _ _ _ (Qfy hr) (Qfs Qfo 0 rfl ja jb) QcG (by intros; rfl)) (by rfl) (by rfl) (by rfl))
  (@QdR _ _ _ _ _ (@Qfu _ _ _ _ _ _ Qfo 4 yb.nd rfl _ jU _ (@QcI _ _ _ _ _ _ _ _ (@Qds _) (@QcI _ _ _ _ _ _ _ _ (@Qdq _) (QdE (Qfy hr) (Qfs Qfo 0 rfl ja jb) QcG (fun _ _ => rfl)) (QdE (Qfy hr) (Qfs Qfo 0 rfl ja jb) QcG (fun _ _ => rfl))) QcE) (by decide) (by rfl))
  (@QdR _ _ _ _ _ (@QdS _ _ _ _ (@QcI _ _ _ _ _ _ _ _ (@Qds _) (@QcI _ _ _ _ _ _ _ _ (@Qeu _) (@QcI _ _ _ _ _ _ _ _ (@Qdq _) (@QcI _ _ _ _ _ _ _ _ (@Qds _) (@QcI _ _ _ _ _ _ _ _ (@Qdq _) (Qfs Qfo 3 rfl jA yA) (Qfs Qfo 3 rfl jA yA)) QcE) QcE) (Qfs Qfo 4 rfl jU zQ)) (Qfs Qfo 1 rfl jF yv)))
  QdQ)))))))
 unfold jt
 exact q
theorem yN : LK jj "NoHouse" .globalImplicit := by nofun
theorem yX : LK jj "NoMark" .globalImplicit := by nofun
theorem zi : LK jj "NoRow" .globalImplicit := by nofun
theorem yM : LK jj "NoTable" .globalImplicit := by nofun
theorem yS : LK jj "NoText" .globalImplicit := by nofun
theorem yL : LK jj "NotGood" .globalImplicit := by nofun
theorem yK : LK jj "NotMeek" .globalImplicit := by nofun
theorem yO : LK jj "TooMany" .globalImplicit := by nofun
theorem jq : LK jj "_law_n" .local := by nofun
theorem zZ : FnScope ["_law_n"] ["_law_n"] (defScope jj) := ⟨rfl, rfl, rfl, by nofun, rfl, by nofun, by nofun⟩
theorem z5 (T : Txt K mg) : L2.Binds K T.jQ ["_law_n"] [] := T.j5.binds (ps := ["_law_n"]) fun _ _ _ _ _ _ us hl => le1 (fun _ => rfl) us hl
theorem z3 (T : Txt K mg) : FnOk P w K mg base CX0 3 T.j4 T.jQ ["_law_n"] (spOf K 1 jr) := by
 have q : FnOk P w K mg base CX0 (2 + 1) T.j4 T.jQ ["_law_n"] (spOf K 1 (runDef 1 yn)) := by
  refine Qfz (k := 2) (N := ["_law_n"]) (body := yn) T.j5 zZ rfl rfl (fun cdv A outer s H E hr => ?_)
  exact (@QdR _ _ _ _ _ (@QdS _ _ _ _ (@QdA _ _ _ (@Qdz _ _ _ _ (Qdx (QfD T.X_NoTable T.i_NoTable T.n_NoTable (QgB T) (hr.mono (by decide)) (QgC T) Qfo yM T.yQ zE (Qfs Qfo 0 rfl jq jg)) (Qdx (QfD T.X_NoHouse T.i_NoHouse T.n_NoHouse (QgD T) (hr.mono (by decide)) (QgE T) Qfo yN T.y3 zy (@Qdy _ _ _ _ _ (Qdx QcG (Qdx (Qfs Qfo 0 rfl jq jg) (Qdx (@QcI _ _ _ _ _ _ _ _ (@Qeu _) (Qfs Qfo 0 rfl jq jg) QcE) Qdw))))) (Qdx (QfD T.X_NoText T.i_NoText T.n_NoText (QgF T) (hr.mono (by decide)) (QgG T) Qfo yS T.zt zJ (Qfs Qfo 0 rfl jq jg)) (Qdx (QfD T.X_TooMany T.i_TooMany T.n_TooMany (QgH T) (hr.mono (by decide)) (QgI T) Qfo yO T.zc zF (Qfs Qfo 0 rfl jq jg)) (Qdx (QfD T.X_NotMeek T.i_NotMeek T.n_NotMeek (QgJ T) (hr.mono (by decide)) (QgK T) Qfo yK T.yW zD (Qfs Qfo 0 rfl jq jg)) (Qdx (QfE T.X_NoMark T.i_NoMark Qfo yX T.zr zK) (Qdx (QfE T.X_NotGood T.i_NotGood Qfo yL T.yU zB) (Qdx (QfE T.X_NoRow T.i_NoRow Qfo zi T.zI zV) Qdw)))))))))))
  QdQ)
 unfold jr
 exact q
theorem ji : LK jy "_law_made_here" .local := by nofun
theorem zN : FnScope ["_law_made_here"] ["_law_made_here"] (defScope jy) := ⟨rfl, rfl, rfl, by nofun, rfl, by nofun, by nofun⟩
theorem zL (T : Txt K mg) : L2.Binds K T.jH ["_law_made_here"] [] := T.jK.binds (ps := ["_law_made_here"]) fun _ _ _ _ _ _ us hl => le1 (fun _ => rfl) us hl
theorem zO (T : Txt K mg) : FnOk P w K mg base CX0 1 T.jI T.jH ["_law_made_here"] (spOf K 1 jm) := by
 have q : FnOk P w K mg base CX0 (0 + 1) T.jI T.jH ["_law_made_here"] (spOf K 1 (runDef 1 j1)) := by
  refine Qfz (k := 0) (N := ["_law_made_here"]) (body := j1) T.jK zN rfl rfl (fun cdv A outer s H E hr => ?_)
  exact (@QdR _ _ _ _ _ (@QdS _ _ _ _ (@QdA _ _ _ (@Qdz _ _ _ _ (Qdx (QfF T.X_NoTable Qgw (QdE (Qfy hr) (Qfs Qfo 0 rfl ji jo) QcE (fun _ _ => rfl))) (Qdx (QfF T.X_NoHouse Qgx (QdE (Qfy hr) (Qfs Qfo 0 rfl ji jo) QcE (fun _ _ => rfl))) (Qdx (QfF T.X_NoText Qgy (QdE (Qfy hr) (Qfs Qfo 0 rfl ji jo) QcE (fun _ _ => rfl))) (Qdx (QfF T.X_TooMany Qgz (QdE (Qfy hr) (Qfs Qfo 0 rfl ji jo) QcE (fun _ _ => rfl))) (Qdx (QfF T.X_NotMeek QgA (QdE (Qfy hr) (Qfs Qfo 0 rfl ji jo) QcE (fun _ _ => rfl))) Qdw))))))))
  QdQ)
 unfold jm
 exact q
theorem yC : LK jd "NoHouse" .globalImplicit := by nofun
theorem yJ : LK jd "NoMark" .globalImplicit := by nofun
theorem zd : LK jd "NoRow" .globalImplicit := by nofun
theorem yE : LK jd "NoTable" .globalImplicit := by nofun
theorem yP : LK jd "NoText" .globalImplicit := by nofun
theorem yB : LK jd "NotGood" .globalImplicit := by nofun
theorem yF : LK jd "NotMeek" .globalImplicit := by nofun
theorem yz : LK jd "TooMany" .globalImplicit := by nofun
theorem jh : LK jd "_law_e" .local := by nofun
theorem jv : LK jd "_law_some" .local := by nofun
theorem jc : LK jd "isinstance" .globalImplicit := by nofun
theorem yp : FnScope ["_law_e", "_law_some"] ["_law_e"] (defScope jd) := ⟨rfl, rfl, rfl, by nofun, rfl, by nofun, by nofun⟩
theorem zR (T : Txt K mg) : L2.Binds K T.jJ ["_law_e"] [] := T.yc.binds (ps := ["_law_e"]) fun _ _ _ _ _ _ us hl => le1 (fun _ => rfl) us hl
theorem zT (T : Txt K mg) : FnOk P w K mg base CX0 1 T.jR T.jJ ["_law_e"] (spOf K 1 jx) := by
 have q : FnOk P w K mg base CX0 (0 + 1) T.jR T.jJ ["_law_e"] (spOf K 1 (runDef 2 ya)) := by
  refine Qfz (k := 0) (N := ["_law_e", "_law_some"]) (body := ya) T.yc yp rfl rfl (fun cdv A outer s H E hr => ?_)
  exact (@QdR _ _ _ _ _ (@Qfu _ _ _ _ _ _ Qfo 1 yp.nd rfl _ jv _ (@QdA _ _ _ (@Qdz _ _ _ _ (Qdx (QfH (xb T) T.X_NoTable.xo' (Qfo.glo _ jc) T.jf jk Qfo yE T.yQ zE (Qfs Qfo 0 rfl jh jz)) (Qdx (QfH (xb T) T.X_NoHouse.xo' (Qfo.glo _ jc) T.jf jk Qfo yC T.y3 zy (Qfs Qfo 0 rfl jh jz)) (Qdx (QfH (xb T) T.X_NoText.xo' (Qfo.glo _ jc) T.jf jk Qfo yP T.zt zJ (Qfs Qfo 0 rfl jh jz)) (Qdx (QfH (xb T) T.X_TooMany.xo' (Qfo.glo _ jc) T.jf jk Qfo yz T.zc zF (Qfs Qfo 0 rfl jh jz)) Qdw)))))) (by decide) (by rfl))
  (@QdR _ _ _ _ _ (@Qfu _ _ _ _ _ _ Qfo 1 yp.nd rfl _ jv _ (@QcI _ _ _ _ _ _ _ _ (@Qeu _) (Qfs Qfo 1 rfl jv zn) (@QdA _ _ _ (@Qdz _ _ _ _ (Qdx (QfH (xb T) T.X_NotMeek.xo' (Qfo.glo _ jc) T.jf jk Qfo yF T.yW zD (Qfs Qfo 0 rfl jh jz)) (Qdx (QfH (xb T) T.X_NoMark.xo' (Qfo.glo _ jc) T.jf jk Qfo yJ T.zr zK (Qfs Qfo 0 rfl jh jz)) (Qdx (QfH (xb T) T.X_NotGood.xo' (Qfo.glo _ jc) T.jf jk Qfo yB T.yU zB (Qfs Qfo 0 rfl jh jz)) (Qdx (QfH (xb T) T.X_NoRow.xo' (Qfo.glo _ jc) T.jf jk Qfo zd T.zI zV (Qfs Qfo 0 rfl jh jz)) Qdw))))))) (by decide) (by rfl))
  (@QdR _ _ _ _ _ (@QdS _ _ _ _ (Qfs Qfo 1 rfl jv zn))
  QdQ)))
 unfold jx
 exact q
theorem zq : LK jp "PactError" .globalImplicit := by nofun
theorem zh : LK jp "ValueError" .globalImplicit := by nofun
theorem zA : LK jp "_law_deal" .globalImplicit := by nofun
theorem jE : LK jp "_law_deal_here" .local := by nofun
theorem yq : LK jp "_law_draw" .globalImplicit := by nofun
theorem j8 : LK jp "_law_due" .local := by nofun
theorem jZ : LK jp "_law_e" .local := by nofun
theorem yf : LK jp "_law_fields" .globalImplicit := by nofun
theorem yo : LK jp "_law_k" .cell := by nofun
theorem yu : LK jp "_law_made" .globalImplicit := by nofun
theorem jD : LK jp "_law_made_here" .local := by nofun
theorem je : LK jp "_law_n" .local := by nofun
theorem jM : LK jp "_law_others" .local := by nofun
theorem zg : LK jp "_law_script" .local := by nofun
theorem zo : LK jp "_law_sorts" .globalImplicit := by nofun
theorem ye : LK jp "isinstance" .globalImplicit := by nofun
theorem y8 : LK jp "range" .globalImplicit := by nofun
theorem yd : FnScope ["_law_script", "_law_deal_here", "_law_n", "_law_made_here", "_law_others", "_law_k", "_law_due", "_law_e"] ["_law_script"] (defScope jp) := ⟨rfl, rfl, rfl, by nofun, rfl, by nofun, by nofun⟩
theorem wn (T : Txt K mg) : FnOk P w K mg base CX0 4 T.yy T.yY ["_law_script"] (spOf K 1 yt) := by
 have wd := z1 (P := P) (w := w) (base := base) T
 have wc := zY T
 have zw := z6 (P := P) (w := w) (base := base) T
 have zC := z4 T
 have y9 := zO (P := P) (w := w) (base := base) T
 have yT := zL T
 have zG := z3 (P := P) (w := w) (base := base) T
 have zx := z5 T
 have zX := zT (P := P) (w := w) (base := base) T
 have z7 := zR T
 have q : FnOk P w K mg base CX0 (3 + 1) T.yy T.yY ["_law_script"] (spOf K 1 (runDef 8 zP)) := by
  refine Qfz (k := 3) (N := ["_law_script", "_law_deal_here", "_law_n", "_law_made_here", "_law_others", "_law_k", "_law_due", "_law_e"]) (body := zP) T.z9 yd rfl rfl (fun cdv A outer s H E hr => ?_)
  exact (@QdR _ _ _ _ _ (@Qfu _ _ _ _ _ _ Qfo 1 yd.nd rfl _ jE _ (Qfx Qfo zA wd (hr.mono (by decide)) T.jB T.ym.kp wc z0 (Qdx (Qfs Qfo 0 rfl zg yG) (Qdx QcE Qdw)) (Qfv (Qfv Qfw))) (by decide) (by rfl))
  (@QdR _ _ _ _ _ (@Qfu _ _ _ _ _ _ Qfo 2 yd.nd rfl _ je _ (Qfx Qfo yq zw (hr.mono (by decide)) T.jt T.j6.kp zC zm (Qdx (Qfs Qfo 1 rfl jE jb) (Qdx (@QdF _ _ _ _ _ _ (@Qdz _ _ _ _ (Qdx QcE (Qdx (@QcI _ _ _ _ _ _ _ _ (@Qdt _) QcE QcE) Qdw))) (Qfx Qfo yq zw (hr.mono (by decide)) T.jt T.j6.kp zC zm (Qdx (Qfs Qfo 1 rfl jE jb) (Qdx QcE Qdw)) (Qfv (Qfv Qfw))) (fun _ _ => rfl)) Qdw)) (Qfv (Qfv Qfw))) (by decide) (by rfl))
  (@QdR _ _ _ _ _ (@Qfu _ _ _ _ _ _ Qfo 3 yd.nd rfl _ jD _ (Qfx Qfo yu zG (hr.mono (by decide)) T.jr T.j5.kp zx zl (Qdx (Qfs Qfo 2 rfl je jg) Qdw) (Qfv Qfw)) (by decide) (by rfl))
  (@QdR _ _ _ _ _ (@Qfu _ _ _ _ _ _ Qfo 4 yd.nd rfl _ jM _ (Qfx Qfo yu zG (hr.mono (by decide)) T.jr T.j5.kp zx zl (Qdx (@QcI _ _ _ _ _ _ _ _ (@Qeu _) (Qfs Qfo 2 rfl je jg) QcE) Qdw) (Qfv Qfw)) (by decide) (by rfl))
  (@QdR _ _ _ _ _ (@Qd8 _ _ _ _ _ _ _ _ PassesOwn.never rfl (@Qd7 _ _ _ _ _ _ (Qfo.glo _ y8) T.j9 QcE (by rfl)) (@Qft _ _ _ _ Qfo 5 yd.nd rfl .cell yo (by decide))
   (@QdR _ _ _ _ _ (@Qee _ _ _ _ _ _ _ _ _ _ _ 6 _ _ _ _ _ _ yd.nd rfl (Qfo.loc _ _ j8 (by decide)).1 (Qfo.loc _ _ j8 (by decide)).2 rfl (@Qfq _ _ _ Qfo (by nofun)) (@Qfr _ ["_law_script", "_law_deal_here", "_law_n", "_law_made_here", "_law_others", "_law_k", "_law_due", "_law_e"] _ ["_law_j", "_law_k"] 1 [5] rfl (by nofun)) (@Qd7 _ _ _ _ _ _ (Qfo.glo _ y8) T.j9 QcE (by rfl)) (fun _ _ _ => ⟨(@Qft _ _ _ _ (Qfp (rfl)) 0 (show List.Nodup (["_law_j", "_law_k"] : List Str) by nofun) rfl .local (by nofun) (by decide)), (@Qea _), (QcJ (Qes (Qfy hr)) (Qfs (k := .local) (Qfp (rfl)) 0 rfl (by nofun) wj) (Qfs (k := .free) (Qfp (rfl)) 1 rfl (by nofun) zu) (Qa7 _))⟩) (by rfl) (by intros; rfl))
   (@QdR _ _ _ _ _ (@Qd8 _ _ _ _ _ _ _ _ PassesOwn.never rfl (@Qd5 _ _ _ _ (@Qdy _ _ _ _ _ (Qdx (QdE (Qfy hr) (Qfs Qfo 3 rfl jD jo) (Qfs Qfo 5 rfl yo zu) (fun _ _ => rfl)) (Qdx (QdE (Qfy hr) (Qfs Qfo 4 rfl jM yH) (Qfs Qfo 5 rfl yo zu) (fun _ _ => rfl)) Qdw)))) (@Qft _ _ _ _ Qfo 7 yd.nd rfl .local jZ (by decide))
    (@QdR _ _ _ _ _ (@QdT _ _ _ _ _ _ _ (L2.PW.pt (@QdN _ _ _ _ _ _ _ (@QdO _ _ _ _ (@QdI _ _ _ (QfH (xb T) T.xp (Qfo.glo _ ye) T.jf jk Qfo zq T.zk zS (Qfs Qfo 7 rfl jZ jz)) (by intros; rfl))) (@QdN _ _ _ _ _ _ _ (@QdO _ _ _ _ (@QdI _ _ _ (QfI (xb T) (Qfo.glo _ ye) T.jf jk (Qfo.glo _ zh) T.jC zM (Qfs Qfo 7 rfl jZ jz)) (by intros; rfl))) (@QdL _ _ _ _ (@QdJ _ _ _ _ _ _ _ _ (Qet (Qfy hr)) (Qfx Qfo zo zX (hr.mono (by decide)) T.jx T.yc.kp z7 zU (Qdx (Qfs Qfo 7 rfl jZ jz) Qdw) (Qfv Qfw)) (Qfs Qfo 6 rfl j8 we) (Qa7 _))))))
     (@QdR _ _ _ _ _ (@QdS _ _ _ _ (@QcF _ _ _ _))
     QdQ) _
     QdQ)
    QdQ) (by intros; rfl))
   QdQ)) (by intros; rfl))
  (@QdR _ _ _ _ _ (@QdT _ _ _ _ _ _ _ (@QdJ _ _ _ _ _ _ _ _ (Qet (Qfy hr)) (Qfx Qfo yf y9 (hr.mono (by decide)) T.jm T.jK.kp yT yI (Qdx (Qfs Qfo 4 rfl jM yH) Qdw) (Qfv Qfw)) (@QdA _ _ _ (@Qdz _ _ _ _ (Qdx (@QcI _ _ _ _ _ _ _ _ (@Qeu _) (Qfs Qfo 2 rfl je jg) QcE) (Qdx (@Qdy _ _ _ _ _ (Qdx QcG (Qdx (@QcI _ _ _ _ _ _ _ _ (@Qeu _) (Qfs Qfo 2 rfl je jg) QcE) (Qdx (@QcI _ _ _ _ _ _ _ _ (@Qeu _) (Qfs Qfo 2 rfl je jg) QcE) Qdw)))) (Qdx (@QcI _ _ _ _ _ _ _ _ (@Qeu _) (Qfs Qfo 2 rfl je jg) QcE) (Qdx (@QcI _ _ _ _ _ _ _ _ (@Qeu _) (Qfs Qfo 2 rfl je jg) QcE) (Qdx (@QcI _ _ _ _ _ _ _ _ (@Qeu _) (Qfs Qfo 2 rfl je jg) QcE) Qdw))))))) (Qa7 _))
   (@QdR _ _ _ _ _ (@QdS _ _ _ _ (@QcF _ _ _ _))
   QdQ) _
   QdQ)
  (@QdR _ _ _ _ _ (@QdS _ _ _ _ (QcJ (Qes (Qfy hr)) (Qfx Qfo yf y9 (hr.mono (by decide)) T.jm T.jK.kp yT yI (Qdx (Qfs Qfo 3 rfl jD jo) Qdw) (Qfv Qfw)) (@QdA _ _ _ (@Qdz _ _ _ _ (Qdx (Qfs Qfo 2 rfl je jg) (Qdx (@Qdy _ _ _ _ _ (Qdx QcG (Qdx (Qfs Qfo 2 rfl je jg) (Qdx (@QcI _ _ _ _ _ _ _ _ (@Qeu _) (Qfs Qfo 2 rfl je jg) QcE) Qdw)))) (Qdx (Qfs Qfo 2 rfl je jg) (Qdx (Qfs Qfo 2 rfl je jg) (Qdx (Qfs Qfo 2 rfl je jg) Qdw))))))) (Qa7 _)))
  QdQ)))))))
 unfold yt
 exact q
end
end My
namespace My
open MM
open PySem (Str)
theorem QgL {s : Sto} {n : Nat} {o : MO} (h : s[n]? = some o) : n < s.length := (List.getElem?_eq_some_iff.mp h).1
noncomputable def dealK (x c : Int) (q : Nat) : List (D × D) := [(.str "seed", .int x), (.str "number", .int c), (.str "left", .ref q)]
section
variable {x c y : Int} {q : Nat}
theorem QgM : lkK (dealK x c q) (.str "seed") = some (.int x) := by simp [lkK, dealK, eqK]
theorem QgN : lkK (dealK x c q) (.str "number") = some (.int c) := by
 have h : ¬ (("seed" : Str) = "number") := by decide
 simp [lkK, dealK, eqK, h]
theorem QgO : lkK (dealK x c q) (.str "left") = some (.ref q) := by
 have h : ¬ (("seed" : Str) = "left") := by decide
 have h2 : ¬ (("number" : Str) = "left") := by decide
 simp [lkK, dealK, eqK, h, h2]
theorem QgP : ptK (dealK x c q) (.str "seed") (.int y) = dealK y c q := by
 have h : ¬ (("number" : Str) = "seed") := by decide
 have h2 : ¬ (("left" : Str) = "seed") := by decide
 simp [ptK, dealK, eqK, h, h2]
theorem QgQ : ptK (dealK x c q) (.str "number") (.int y) = dealK x y q := by
 have h : ¬ (("seed" : Str) = "number") := by decide
 have h2 : ¬ (("left" : Str) = "number") := by decide
 simp [ptK, dealK, eqK, h, h2]
theorem QgR : mgK [] [(.str "seed", .int x), (.str "number", .int c), (.str "left", .ref q)] = dealK x c q := by
 have h : ¬ (("seed" : Str) = "number") := by decide
 have h2 : ¬ (("seed" : Str) = "left") := by decide
 have h3 : ¬ (("number" : Str) = "left") := by decide
 simp [mgK, ptK, dealK, eqK, h, h2, h3]
theorem QgS : (dealK x c q).length < lim := QfX (by simp [dealK])
end
structure PotAt (s : Sto) (p q : Nat) : Prop where
 ne : p ≠ q
 ex : ∃ (x c : Int) (cs : List D), s[p]? = some (.dct false (dealK x c q)) ∧ s[q]? = some (.lst cs) ∧ 0 ≤ x ∧ x < 2147483648 ∧ ∀ d ∈ cs, ∃ i : Int, d = .int i
structure Kept (p q : Nat) (s s' : Sto) : Prop where
 le : s.length ≤ s'.length
 at_ : ∀ n, n < s.length → n ≠ p → n ≠ q → s'[n]? = s[n]?
section
variable {p q : Nat} {s s1 s2 : Sto} {Q : D → Sto → Prop}
theorem Kept.refl : Kept p q s s := ⟨Nat.le_refl _, fun _ _ _ _ => rfl⟩
theorem Kept.trans (h : Kept p q s s1) (k : Kept p q s1 s2) : Kept p q s s2 := ⟨Nat.le_trans h.le k.le, fun n hn hp hq => (k.at_ n (Nat.lt_of_lt_of_le hn h.le) hp hq).trans (h.at_ n hn hp hq)⟩
theorem Kept.same {n : Nat} {o : MO} (h : Kept p q s s1) (hp : n ≠ p) (hq : n ≠ q) (g : s[n]? = some o) : s1[n]? = some o := (h.at_ n (QgL g) hp hq).trans g
theorem Kept.snoc {o : MO} (h : Kept p q s s1) : Kept p q s (s1 ++ [o]) := h.trans ⟨by simp, fun n hn _ _ => List.getElem?_append_left hn⟩
theorem Kept.put {n : Nat} {o : MO} (h : Kept p q s s1) (hn : s.length ≤ n) : Kept p q s (s1.set n o) :=
 ⟨by simp; exact h.le, fun m hm hp hq => by rw [List.getElem?_set_ne (by ac_nf)]; exact h.at_ m hm hp hq⟩
theorem PotAt.lt (h : PotAt s p q) : p < s.length ∧ q < s.length := by obtain ⟨x, c, cs, a, b, _⟩ := h.ex; exact ⟨QgL a, QgL b⟩
theorem PotAt.snoc {o : MO} (h : PotAt s p q) : PotAt (s ++ [o]) p q := by
 obtain ⟨x, c, cs, a, b, r⟩ := h.ex
 exact ⟨h.ne, x, c, cs, by rw [List.getElem?_append_left (QgL a)]; exact a, by rw [List.getElem?_append_left (QgL b)]; exact b, r⟩
theorem PotAt.put {n : Nat} {o : MO} (h : PotAt s p q) (hp : n ≠ p) (hq : n ≠ q) : PotAt (s.set n o) p q := by
 obtain ⟨x, c, cs, a, b, r⟩ := h.ex
 exact ⟨h.ne, x, c, cs, by rw [List.getElem?_set_ne hp]; exact a, by rw [List.getElem?_set_ne hq]; exact b, r⟩
theorem QgT {k : Int} (hp : PotAt s p q) (hk : 0 < k) (hk2 : k < 1073741824) (h : ∀ r s', 0 ≤ r → r < k → PotAt s' p q → Kept p q s s' → Q (.int r) s') : wp (jt [.dic p, .int k]) Q s := by
 obtain ⟨x, c, cs, e1, e2, hx0, hx1, hcs⟩ := hp.ex
 have hne := hp.ne
 (simp_arith [jt]; simp_arith [yj])
 refine Qgj (fun l s' => l = [some (.dic p), some (.int k), none, none, none] ∧ ∃ c cs, s'[p]? = some (.dct false (dealK x c q)) ∧ s'[q]? = some (.lst cs) ∧ (∀ d ∈ cs, ∃ i : Int, d = .int i) ∧ Kept p q s s')
  (fun l s' => match s'[q]? with
   | some (.lst cs) => cs.length
   | _ => 0) ⟨rfl, c, cs, e1, e2, hcs, Kept.refl⟩ (fun l s' hZ0 => ?_)
 obtain ⟨el, c, cs, e1, e2, hcs, hk'⟩ := hZ0
 subst el
 have gs : ∀ Q, wp (itemK p (.str "seed")) Q s' = Q (.int x) s' := fun Q => Qgp e1 rfl QgM
 have gn : ∀ Q, wp (itemK p (.str "number")) Q s' = Q (.int c) s' := fun Q => Qgp e1 rfl QgN
 have gl : ∀ Q, wp (itemK p (.str "left")) Q s' = Q (.ref q) s' := fun Q => Qgp e1 rfl QgO
 have g2 : ∀ Q, wp (getL q) Q s' = Q cs s' := fun Q => QfP e2
 simp_arith [↓gn, ↓gl, ↓g2]
 by_cases hc : c = 0 ∧ 0 < cs.length
 ·obtain ⟨hc0, hcl⟩ := hc
  subst hc0
  rw [if_pos rfl, if_pos (by ac_nf)]
  obtain ⟨d, hd⟩ : ∃ d, cs.getLast? = some d := ⟨_, List.getLast?_eq_some_getLast (by intro e; rw [e] at hcl; simp at hcl)⟩
  obtain ⟨i, ei⟩ := hcs d (List.mem_of_getLast? hd)
  subst ei
  have q2 : ∀ es Q, wp (putL q es) Q s' = Q () (s'.set q (.lst es)) := fun es Q => QfQ e2
  have e3 : (s'.set q (.lst cs.dropLast))[p]? = some (.dct false (dealK x 0 q)) := by rw [List.getElem?_set_ne (Ne.symm hne)]; exact e1
  have e4 : (s'.set q (.lst cs.dropLast))[q]? = some (.lst cs.dropLast) := List.getElem?_set_self (QgL e2)
  have q3 : ∀ v Q, wp (storeK p (.str "number") v) Q (s'.set q (.lst cs.dropLast)) = Q () ((s'.set q (.lst cs.dropLast)).set p (.dct false (ptK (dealK x 0 q) (.str "number") v))) := fun v Q => Qgq e3 rfl QgS
  simp_arith [↓gl, ↓g2, hd, ↓q2, ↓q3, QgQ]
  have e5 : ((s'.set q (.lst cs.dropLast)).set p (.dct false (dealK x i q)))[p]? = some (.dct false (dealK x i q)) := List.getElem?_set_self (QgL e3)
  have e6 : ((s'.set q (.lst cs.dropLast)).set p (.dct false (dealK x i q)))[q]? = some (.lst cs.dropLast) := by rw [List.getElem?_set_ne hne]; exact e4
  refine ⟨⟨i, cs.dropLast, e5, e6, fun d hd => hcs d (List.dropLast_subset _ hd), ⟨by simp; exact hk'.le, fun n hn hp' hq' => ?_⟩⟩, ?_⟩
  ·rw [List.getElem?_set_ne (Ne.symm hp'), List.getElem?_set_ne (Ne.symm hq')]; exact hk'.at_ n hn hp' hq'
  ·rw [e6, e2]
   simp only [List.length_dropLast]; ac_nf
 ·have fin : ∀ (A B : Prop), (if c = 0 then (if 0 < (cs.length : Int) then A else B) else B) = B := fun A B => by
    by_cases h1 : c = 0
    ·rw [if_pos h1, if_neg (by ac_nf)]
    ·rw [if_neg h1]
  rw [fin]
  have q3 : ∀ v Q, wp (storeK p (.str "number") v) Q s' = Q () (s'.set p (.dct false (ptK (dealK x c q) (.str "number") v))) := fun v Q => Qgq e1 rfl QgS
  have q4 : ∀ v Q, wp (storeK p (.str "seed") v) Q s' = Q () (s'.set p (.dct false (ptK (dealK x c q) (.str "seed") v))) := fun v Q => Qgq e1 rfl QgS
  have kp : ∀ o, Kept p q s (s'.set p o) := fun o => ⟨by simp; exact hk'.le, fun n hn hp' hq' => by rw [List.getElem?_set_ne (Ne.symm hp')]; exact hk'.at_ n hn hp' hq'⟩
  have pt : ∀ (x' c' : Int), 0 ≤ x' → x' < 2147483648 → PotAt (s'.set p (.dct false (dealK x' c' q))) p q := fun x' c' h0 h1 => ⟨hne, x', c', cs, List.getElem?_set_self (QgL e1), by rw [List.getElem?_set_ne hne]; exact e2, h0, h1, hcs⟩
  have g5 : ∀ x' Q, wp (itemK p (.str "seed")) Q (s'.set p (.dct false (dealK x' c q))) = Q (.int x') (s'.set p (.dct false (dealK x' c q))) := fun x' Q => Qgp (List.getElem?_set_self (QgL e1)) rfl QgM
  have m2 : ∀ a b : Int, 0 ≤ b → b < 10000000000 → mulOk a b := fun a b h1 h2 => .inr ⟨by ac_nf, by ac_nf⟩
  by_cases h0 : 0 < c
  ·rw [if_pos h0]
   simp_arith [↓q3, QgQ]
   exact ⟨⟨hk, hk2⟩, hk, h _ _ (Int.emod_nonneg _ (by ac_nf)) (Int.emod_lt_of_pos _ hk) (pt _ _ hx0 hx1) (kp _)⟩
  ·rw [if_neg h0]
   simp only [↓x_seq, ↓x_asg, ↓x_c2, ↓x_var, ↓x_con, ↓x_subsD, ↓gs, ↓x_mul, ↓x_add, ↓x_mod, word_snoc]
   refine ⟨m2 _ _ (by ac_nf) (by ac_nf), by ac_nf, ?_⟩
   have one0 := Int.emod_nonneg (x * 48271 + 7919) (show (2147483647 : Int) ≠ 0 by ac_nf)
   have one1 := Int.emod_lt_of_pos (x * 48271 + 7919) (show (0 : Int) < 2147483647 by ac_nf)
   generalize (x * 48271 + 7919) % 2147483647 = one at one0 one1 ⊢
   have y0 := Int.emod_nonneg (one * 40692 + 104729) (show (2147483399 : Int) ≠ 0 by ac_nf)
   have y1 := Int.emod_lt_of_pos (one * 40692 + 104729) (show (0 : Int) < 2147483399 by ac_nf)
   simp_arith [↓q4, QgP, ↓g5]
   refine ⟨m2 _ _ (by ac_nf) (by ac_nf), ?_⟩
   generalize (one * 40692 + 104729) % 2147483399 = y at y0 y1 ⊢
   refine ⟨m2 _ _ (by ac_nf) (by ac_nf), m2 _ _ (by ac_nf) (by ac_nf), m2 _ _ (by ac_nf) (by ac_nf), hk, h _ _ (Int.emod_nonneg _ (by ac_nf)) (Int.emod_lt_of_pos _ hk) (pt _ _ y0 (by ac_nf)) (kp _)⟩
theorem QgU {ns : List Int} (h : ∀ p q s', PotAt s' p q → s.length ≤ p → s.length ≤ q → Kept p q s s' → Q (.dic p) s') : wp (jB [.lit (ns.map D.int), .int 0]) Q s := by
 have l0 : 0 ≤ lim := Nat.zero_le _
 have m2 : ∀ a b : Int, 0 ≤ b → b < 10000000000 → mulOk a b := fun a b h1 h2 => .inr ⟨by ac_nf, by ac_nf⟩
 have pw : ∀ Q s, wp (powD (.int 10) (.int 18)) Q s = Q (.int 1000000000000000000) s := fun Q s => by unfold powD; rw [wp_chk, wp_ret]; exact propext ⟨fun h => h.2, fun h => ⟨by decide, h⟩⟩
 generalize (1000000000000000000 : Int) = big at pw
 (simp_arith [jB]; simp_arith [yl, capt])
 have hcut : ∀ d ∈ cutD (ns.map D.int) (some 0) (some 63), ∃ i : Int, d = .int i := fun d hd => by
  unfold cutD at hd
  obtain ⟨i, _, e⟩ := List.mem_map.mp (List.mem_of_mem_drop (List.mem_of_mem_take hd))
  exact ⟨i, e.symm⟩
 have hlen : (cutD (ns.map D.int) (some 0) (some 63)).length ≤ 63 := by
  unfold cutD sIx; simp; ac_nf
 generalize cutD (ns.map D.int) (some 0) (some 63) = cells at hcut hlen
 refine ⟨QfW (by ac_nf), ?_⟩
 refine Qgu (fun d => ∃ i : Int, d = .int i) (fun l => l.length = 1) (fun d => ∃ i : Int, d = .int i) (fun s' => s = s') (fun _ _ => trivial) rfl rfl hcut (fun d l s' hZ0 hl es => ?_) fun out s' ho hP es => ?_
 ·obtain ⟨i, ei⟩ := hZ0
  subst ei
  subst es
  match l, hl with
  | [x0], _ => simp_arith []; exact ⟨_, rfl⟩
 ·subst es
  have g : ∀ Q : List D → Sto → Prop, wp (getL s.length) Q (s ++ [.lst out]) = Q out (s ++ [.lst out]) := fun Q => QfP (by simp)
  simp_arith [↓g]
  skip
  refine QfY (fun i l s' => ∃ x y4, l = [some (.lit (ns.map D.int)), some (.int 0), some (.ref s.length), some (.int x), y4] ∧ 0 ≤ x ∧ x < 2147483648 ∧ s' = s ++ [.lst out]) (fun i l s' ⟨_, _, _, _, _, e⟩ => by subst e; show (s ++ [MO.lst out])[s.length]? = some (.lst out); simp) ⟨_, _, rfl, ?_, ?_, rfl⟩ (fun i d l s' hd hZ0 => ?_) (fun l s' hZ0 => ?_)
  ·ac_nf
  ·ac_nf
  ·obtain ⟨x, y4, el, x0, x1, es⟩ := hZ0
   subst el es
   obtain ⟨v, ev⟩ := hP d (List.mem_of_getElem? hd)
   subst ev
   simp_arith []
   exact ⟨m2 _ _ (by ac_nf) (by ac_nf), _, _, rfl, Int.emod_nonneg _ (by ac_nf), Int.lt_trans (Int.emod_lt_of_pos _ (by ac_nf)) (by ac_nf)⟩
  ·obtain ⟨x, y4, el, x0, x1, es⟩ := hZ0
   subst el es
   simp_arith [↓g, ↓pw, capt]
   refine ⟨QfW (by ac_nf), ?_⟩
   refine Qgv (fun d => ∃ i : Int, d = .int i) (fun l => l.length = 1) (fun d => ∃ i : Int, d = .int i) (fun s' => s ++ [.lst out] = s') (fun s' es => by subst es; show (s ++ [MO.lst out])[s.length]? = some (.lst out); simp) rfl rfl hP (fun d l s' hZ0 hl es => ?_) fun o s' hol ho es => ?_
   ·obtain ⟨v, ev⟩ := hZ0
    subst ev
    subst es
    match l, hl with
    | [z], _ =>
     simp_arith [↓pw]
     by_cases hb : big ≤ v
     ·rw [if_pos hb]; exact ⟨_, rfl⟩
     ·rw [if_neg hb]; trivial
   ·subst es
    simp_arith [List.zip_cons_cons, List.zip_nil_right, QgR]
    refine h _ _ _ ⟨by simp, x, 0, o.reverse, Qgs, Qgt Qgs, x0, x1, fun d hd => ho d (List.mem_reverse.mp hd)⟩ (by simp <;> ac_nf) (by simp) ((Kept.refl.snoc).snoc.snoc)
end
end My
namespace My
open MM
open PySem (Str)
section
variable {x f : Str} {d : D} {ds : List D} {xs : List Str} {b : Str → Bool} {Q : D → Sto → Prop} {s : Sto}
theorem QgV : wp (mkX x f d) Q s = Q (.exn x [.str f, d]) s := wp_eq rfl
theorem QgW : wp (attrX x f (.exn x [.str f, d])) Q s = Q d s := by
 apply QfZ
 unfold attrX
 rw [wp_chk, wp_ret]
 exact ⟨⟨rfl, rfl⟩, rfl, rfl⟩
theorem QgX (h : x ∈ xs) : wp (isiX xs b (.exn x ds)) Q s = Q (.bl (b x)) s := by
 apply QfZ
 unfold isiX
 rw [wp_chk, wp_ret]
 exact ⟨h, rfl, rfl⟩
end
noncomputable def lnD (n : Int) : D := .tup [.str "line", .int n, .int (n + 1)]
noncomputable def exs (n : Int) : List D := [.exn "NoTable" [.str "at", .int n], .exn "NoHouse" [.str "place", lnD n], .exn "NoText" [.str "row", .int n], .exn "TooMany" [.str "most", .int n], .exn "NotMeek" [.str "board", .int n], .exn "NoMark" [], .exn "NotGood" [], .exn "NoRow" []]
noncomputable def due (k : Nat) : List D := upto 8 fun j => .bl (decide (j = k))
theorem QgY {n : Int} {k : Nat} (h : k < 8) : ∃ x ds, (exs n)[k]? = some (.exn x ds) ∧ xNm[k]? = some x := by
 match k, h with
 | 0, _ => exact ⟨_, _, rfl, rfl⟩
 | 1, _ => exact ⟨_, _, rfl, rfl⟩
 | 2, _ => exact ⟨_, _, rfl, rfl⟩
 | 3, _ => exact ⟨_, _, rfl, rfl⟩
 | 4, _ => exact ⟨_, _, rfl, rfl⟩
 | 5, _ => exact ⟨_, _, rfl, rfl⟩
 | 6, _ => exact ⟨_, _, rfl, rfl⟩
 | 7, _ => exact ⟨_, _, rfl, rfl⟩
theorem QgZ {x : Str} {k : Nat} (hx : xNm[k]? = some x) (h : k < 8) : (xNm.map fun y => D.bl (x == y || ("PactError" : Str) == y)) = due k := by
 have e : ∀ k, k < 8 → (xNm.map fun (y : Str) => ((xNm[k]?.getD ("" : Str)) == y || ("PactError" : Str) == y)) = upto 8 fun j => decide (j = k) := by nofun
 have e2 := e k h
 rw [hx] at e2
 have e3 := congrArg (List.map D.bl) e2
 rw [List.map_map] at e3
 refine e3.trans ?_
 unfold due upto
 rw [List.map_map]; rfl
section
variable {Q : D → Sto → Prop} {s : Sto}
theorem Qg0 {a b c d e : D} {ds : List D} {Q : D → Sto → Prop} {s : Sto} : wp (itemD (a :: b :: c :: d :: e :: ds) 4) Q s = Q e s := by
 have h : ixN (a :: b :: c :: d :: e :: ds).length 4 = some 4 := by
  unfold ixN
  rw [if_pos (by ac_nf), if_pos (by simp only [List.length_cons]; ac_nf)]; rfl
 unfold itemD
 rw [h]
 exact wp_eq rfl
theorem Qg1 {n : Int} (h : Q (.ref s.length) (s ++ [.lst (exs n)])) : wp (jr [.int n]) Q s := by
 have l3 : 3 ≤ lim := QfW (by ac_nf)
 have l8 : 8 ≤ lim := QfW (by ac_nf)
 (simp_arith [jr]; simp_arith [yn, ↓QgV, l3, l8])
 exact h
theorem Qg2 {n : Int} {a : Nat} (h : s[a]? = some (.lst (exs n))) (hQ : Q (.ref s.length) (s ++ [.lst [.int n, lnD n, .int n, .int n, .int n]])) : wp (jm [.ref a]) Q s := by
 have l5 : 5 ≤ lim := QfW (by ac_nf)
 have g : ∀ Q : List D → Sto → Prop, wp (getL a) Q s = Q (exs n) s := fun Q => QfP h
 (simp_arith [jm]; simp_arith [j1, ↓g, exs, ↓QgW, ↓Qg0, l5])
 exact hQ
theorem Qg3 {x : Str} {ds : List D} {k : Nat} (hx : xNm[k]? = some x) (hk : k < 8) (h : ∀ (a : Nat) (s' : Sto), (∀ (n : Nat) o, s[n]? = some o → s'[n]? = some o) → s'[a]? = some (.lst (due k)) → Q (.ref a) s') : wp (jx [.exn x ds]) Q s := by
 have l4 : 4 ≤ lim := QfW (by ac_nf)
 have l8 : 8 ≤ lim := QfW (by ac_nf)
 have hm : x ∈ xNm := List.mem_of_getElem? hx
 have e : ∀ (b : Str → Bool) (Q : D → Sto → Prop) s, wp (isiX xNm b (.exn x ds)) Q s = Q (.bl (b x)) s := fun b Q s => QgX hm
 have ed := QgZ hx hk
 (simp_arith [jx]; simp_arith [ya, ↓e, l4])
 rw [Qf0 (x := [_, _, _, _]) (y := [_, _, _, _]) (by rw [List.append_assoc, List.getElem?_append_right (Nat.le_refl _), Nat.sub_self]; rfl) (by rw [List.getElem?_append_right (Nat.le_refl _), Nat.sub_self]; rfl)]
 refine ⟨QfW (show 8 ≤ 1000 by ac_nf), ?_⟩
 simp_arith []
 refine h _ _ (fun n o q => ?_) ?_
 ·have := QgL q
  rw [List.append_assoc, List.append_assoc, List.getElem?_append_left this]; exact q
 ·rw [← ed, List.getElem?_append_right (Nat.le_refl _), Nat.sub_self]; rfl
theorem pw9 : wp (powD (.int 10) (.int 9)) Q s = Q (.int 1000000000) s := by unfold powD; rw [wp_chk, wp_ret]; exact propext ⟨fun h => h.2, fun h => ⟨by decide, h⟩⟩
theorem Qg4 {r : Int} (h0 : 0 ≤ r) (h1 : r < 2) : ∃ m : Int, 0 < m ∧ m < 1073741824 ∧ ∀ (Q : D → Sto → Prop) s, wp (itemD [.int 10, .int 1000000000] r) Q s = Q (.int m) s := by
 by_cases h : r = 0
 ·subst h; exact ⟨10, by ac_nf, by ac_nf, fun Q s => x_item0⟩
 ·have : r = 1 := by ac_nf
  subst this; exact ⟨1000000000, by ac_nf, by ac_nf, fun Q s => x_item1⟩
theorem Qg5 {n : Int} {k : Nat} {d : D} (h : (exs n)[k]? = some d) : wp (itemD (exs n) k) Q s = Q d s := by
 have hk : k < (exs n).length := (List.getElem?_eq_some_iff.mp h).1
 have e : ixN (exs n).length (k : Int) = some k := by
  unfold ixN
  rw [if_pos (by ac_nf), if_pos (by ac_nf)]; simp
 unfold itemD
 rw [e]
 dsimp only
 rw [h]
 exact wp_eq rfl
end
theorem Qg6 (ns : List Int) (h : ns.length ≤ 63) (s : Sto) (Q : D → Sto → Prop) (hQ : ∀ s, Q (.bl true) s) : wp (yt [.lit (ns.map D.int)]) Q s := by
 have l2 : 2 ≤ lim := QfW (by ac_nf)
 have l3 : 3 ≤ lim := QfW (by ac_nf)
 have l5 : 5 ≤ lim := QfW (by ac_nf)
 have l8 : 8 ≤ lim := QfW (by ac_nf)
 (simp_arith [yt]; simp_arith [zP])
 refine QgU fun p q s1 hp hlp hlq hk => ?_
 simp_arith [↓pw9, l2]
 refine QgT hp (by ac_nf) (by ac_nf) fun r s2 r0 r1 hp2 hk2 => ?_
 obtain ⟨m, m0, m1, hm⟩ := Qg4 r0 r1
 simp_arith [↓hm]
 refine QgT hp2 m0 m1 fun n s3 n0 n1 hp3 hk3 => ?_
 simp_arith []
 refine Qg1 ?_
 simp_arith []
 refine Qg1 ?_
 have ga : (s3 ++ [MO.lst (exs n)] ++ [MO.lst (exs (n + 1))])[s3.length]? = some (.lst (exs n)) := by rw [List.append_assoc, List.getElem?_append_right (Nat.le_refl _), Nat.sub_self]; rfl
 have gb : (s3 ++ [MO.lst (exs n)] ++ [MO.lst (exs (n + 1))])[(s3 ++ [MO.lst (exs n)]).length]? = some (.lst (exs (n + 1))) := by rw [List.getElem?_append_right (Nat.le_refl _), Nat.sub_self]; rfl
 generalize s3 ++ [MO.lst (exs n)] ++ [MO.lst (exs (n + 1))] = s4 at ga gb ⊢
 generalize s3.length = a at ga ⊢
 generalize (s3 ++ [MO.lst (exs n)]).length = b at gb ⊢
 have hb : (-(2 ^ 62) ≤ (8 : Int) ∧ (8 : Int) < 2 ^ 62) := by ac_nf
 have e8 : (8 : Int).toNat = 8 := rfl
 simp_arith [hb, e8, Qgb]
 refine Qgf (fun i l s' => ∃ x5 x6 x7, l = [some (.lit (ns.map D.int)), some (.dic p), some (.int n), some (.ref a), some (.ref b), x5, x6, x7] ∧ s'[a]? = some (.lst (exs n)) ∧ s'[b]? = some (.lst (exs (n + 1)))) (fun _ _ _ _ => trivial) ⟨none, none, none, rfl, ga, gb⟩ (fun i l s' hi w => ?_) (fun l s' w => ?_)
 ·obtain ⟨x5, x6, x7, el, ga, gb⟩ := w
  subst el
  have c1 : ∀ x0 x1 x2 x3 x4 x5 x6 x7, capt 1 [5] [x0, x1, x2, x3, x4, x5, x6, x7] = [none, x5] := fun _ _ _ _ _ _ _ _ => rfl
  have w1 : ∀ Q s, wp (collect (gVar 0) tTrue (c2 eqD (cVar 0) (cVar 1)) anySt (upto 8 fun i => .int i) [none, some (.int i)]) Q s = Q (due i) s := fun Q s => Qgg (f := fun j => .bl (decide (j = i))) Qge fun j hj Q => by
   have e : ((j : Int) == (i : Int)) = decide (j = i) := by
    by_cases z : j = i
    ·subst z; simp
    ·rw [decide_eq_false z, beq_eq_false_iff_ne]; ac_nf
   simp_arith [e]
  have ld : (due i).length = 8 := Qf9
  obtain ⟨y, ds, q1, q2⟩ := QgY (n := n) hi
  obtain ⟨z, es, q3, q4⟩ := QgY (n := n + 1) hi
  have ext : ∀ (s : Sto) (o : MO) (n : Nat) (u : MO), s[n]? = some u → (s ++ [o])[n]? = some u := fun s o n u q => by rw [List.getElem?_append_left (QgL q)]; exact q
  have g1 := ext s' (.lst (due i)) _ _ ga
  have g2 := ext s' (.lst (due i)) _ _ gb
  have g3 : (s' ++ [MO.lst (due i)])[s'.length]? = some (.lst (due i)) := by rw [List.getElem?_append_right (Nat.le_refl _), Nat.sub_self]; rfl
  simp_arith [hb, e8, Qgb, c1, Qf9, ↓w1, ld, l8]
  generalize s' ++ [MO.lst (due i)] = s5 at g1 g2 g3 ⊢
  generalize s'.length = c at g3 ⊢
  have w2 : ∀ Q, wp (getL a) Q s5 = Q (exs n) s5 := fun Q => QfP g1
  have w3 : ∀ Q, wp (getL b) Q s5 = Q (exs (n + 1)) s5 := fun Q => QfP g2
  have w4 : ∀ (Q : D → Sto → Prop) s, wp (itemD (exs n) i) Q s = Q (.exn y ds) s := fun Q s => Qg5 q1
  have w5 : ∀ (Q : D → Sto → Prop) s, wp (itemD (exs (n + 1)) i) Q s = Q (.exn z es) s := fun Q s => Qg5 q3
  simp_arith [↓w2, ↓w3, ↓w4, ↓w5, l2]
  refine QfY (fun j l s' => ∃ x7, l = [some (.lit (ns.map D.int)), some (.dic p), some (.int n), some (.ref a), some (.ref b), some (.int i), some (.ref c), x7] ∧ s'[a]? = some (.lst (exs n)) ∧ s'[b]? = some (.lst (exs (n + 1))) ∧ s'[c]? = some (.lst (due i))) (fun _ _ _ _ => trivial) ⟨x7, rfl, g1, g2, g3⟩ (fun j d l s6 hd w => ?_) (fun l s6 w => ?_)
  ·obtain ⟨x7, el, g1, g2, g3⟩ := w
   subst el
   have hd : ∃ x ds, d = .exn x ds ∧ xNm[i]? = some x := by
    rcases List.mem_cons.mp (List.mem_of_getElem? hd) with e | e
    ·exact ⟨_, _, e, q2⟩
    ·exact ⟨_, _, List.mem_singleton.mp e, q4⟩
   obtain ⟨x, es, ed, qx⟩ := hd
   subst ed
   have hm : x ∈ xNm := List.mem_of_getElem? qx
   have e : ∀ (b : Str → Bool) (Q : D → Sto → Prop) s, wp (isiX xNm b (.exn x es)) Q s = Q (.bl (b x)) s := fun b Q s => QgX hm
   have t : (("PactError" : Str) == ("PactError" : Str)) = true := by decide
   simp_arith [↓e, t, Bool.or_true]
   refine Qg3 qx hi fun u s7 k7 g7 => ?_
   have w6 : ∀ Q, wp (neD (.ref u) (.ref c)) Q s7 = Q (.bl false) s7 := fun Q => Qgl (n := 0) g7 (k7 _ _ g3) (fun d hd => by
    obtain ⟨j, hj⟩ := List.getElem?_of_mem hd
    obtain ⟨_, e⟩ := Qf8 hj
    rw [e]; exact .bl _) (by ac_nf)
   simp_arith [↓w6]
   exact ⟨_, rfl, k7 _ _ g1, k7 _ _ g2, k7 _ _ g3⟩
  ·obtain ⟨x7, el, g1, g2, g3⟩ := w
   subst el
   simp_arith []
   exact ⟨_, _, _, rfl, g1, g2⟩
 ·obtain ⟨x5, x6, x7, el, ga, gb⟩ := w
  subst el
  have ext : ∀ (s : Sto) (o : MO) (n : Nat) (u : MO), s[n]? = some u → (s ++ [o])[n]? = some u := fun s o n u q => by rw [List.getElem?_append_left (QgL q)]; exact q
  have lst : ∀ (s : Sto) (o : MO), (s ++ [o])[s.length]? = some o := fun s o => by rw [List.getElem?_append_right (Nat.le_refl _), Nat.sub_self]; rfl
  have pd : ∀ (n : Int), ∀ d ∈ [D.int n, lnD n, .int n, .int n, .int n], Pd 1 d := fun n d hd => by
   simp only [List.mem_cons, List.not_mem_nil, or_false] at hd
   rcases hd with e | e | e | e | e <;> subst e
   ·exact .int _
   ·exact .tup fun d hd => by
      simp only [List.mem_cons, List.not_mem_nil, or_false] at hd
      rcases hd with e | e | e <;> subst e
      ·exact .str _
      ·exact .int _
      ·exact .int _
   ·exact .int _
   ·exact .int _
   ·exact .int _
  have e2 : n + 2 = n + 1 + 1 := by ac_nf
  simp_arith []
  refine Qg2 gb ?_
  have h1 := lst s' (.lst [.int (n + 1), lnD (n + 1), .int (n + 1), .int (n + 1), .int (n + 1)])
  have ga := ext _ (.lst [.int (n + 1), lnD (n + 1), .int (n + 1), .int (n + 1), .int (n + 1)]) _ _ ga
  generalize s' ++ [MO.lst [.int (n + 1), lnD (n + 1), .int (n + 1), .int (n + 1), .int (n + 1)]] = s6 at h1 ga ⊢
  generalize s'.length = u at h1 ⊢
  simp_arith [l3, l5, e2]
  have w1 : ∀ Q, wp (neD (.ref u) (.ref s6.length)) Q (s6 ++ [MO.lst [.int (n + 1), lnD (n + 1), .int (n + 1), .int (n + 1), .int (n + 1)]]) = Q (.bl false) _ := fun Q => Qgl (n := 1) (ext _ _ _ _ h1) (lst _ _) (pd _) (by ac_nf)
  have ga := ext _ (.lst [.int (n + 1), lnD (n + 1), .int (n + 1), .int (n + 1), .int (n + 1)]) _ _ ga
  unfold lnD at w1
  simp_arith [↓w1]
  refine Qg2 ga ?_
  generalize s6 ++ [MO.lst [D.int (n + 1), D.tup [D.str "line", D.int (n + 1), D.int (n + 1 + 1)], D.int (n + 1), D.int (n + 1), D.int (n + 1)]] = s7
  have h2 := lst s7 (.lst [.int n, lnD n, .int n, .int n, .int n])
  generalize s7 ++ [MO.lst [.int n, lnD n, .int n, .int n, .int n]] = s8 at h2 ⊢
  generalize s7.length = v at h2 ⊢
  simp_arith [l3, l5]
  have w3 : ∀ Q, wp (eqD (.ref v) (.ref s8.length)) Q (s8 ++ [MO.lst [.int n, lnD n, .int n, .int n, .int n]]) = Q (.bl true) _ := fun Q => Qgm (n := 1) (ext _ _ _ _ h2) (lst _ _) (pd _) (by ac_nf)
  unfold lnD at w3
  simp_arith [↓w3]
  exact hQ _
theorem law_true (ns : List Int) (h : ns.length ≤ 63) : ∃ st', yt [.lit (ns.map D.int)] [] = .ok (.bl true) st' := Qgr (Qg6 ns h [] (fun a _ => a = .bl true) fun _ => rfl)
end My
namespace My
open PySem PySem.Spec PyProof.Rows L2 MM
theorem txt_mk {K : PySem.W.Frag} {h : Heap} {mg : Str → Option Value} {fa : Addr} (X : K.In h) (G : h.Ns mainGlobals mg) (hfa : mg "law" = some (.ref fa))
  {f0 f1 f2 f3 f4 f5 : Addr} {od0 an0 od1 an1 od2 an2 od3 an3 od4 an4 od5 an5 : Option Addr} {sl0 sl1 sl2 sl3 sl4 sl5 : Array (Option Value)} {oc0 kV0 dc0 pm0 cd0 ct0 oc1 kV1 dc1 pm1 cd1 ct1 oc2 kV2 dc2 pm2 cd2 ct2 oc3 kV3 dc3 pm3 cd3 ct3 oc4 kV4 dc4 pm4 cd4 ct4 oc5 kV5 dc5 pm5 cd5 ct5 : Value}
  (a0 : PySem.W.nsIn K mainGlobals "_law_deal" = some (some (.ref f0))) (l0 : K.lookup f0 = some ⟨oc0, od0, .func (PySem.W.fnOf "_law_deal" "_law_deal" (defArgs jl) (defBody jl) (defScope jl) .none kV0 dc0 pm0 an0 cd0 ct0), sl0⟩) (c0 : PySem.W.codeIn K cd0 "_law_deal" = true) (k0 : PySem.W.keepIn K (.ref f0) = true)
  (a1 : PySem.W.nsIn K mainGlobals "_law_draw" = some (some (.ref f1))) (l1 : K.lookup f1 = some ⟨oc1, od1, .func (PySem.W.fnOf "_law_draw" "_law_draw" (defArgs jn) (defBody jn) (defScope jn) .none kV1 dc1 pm1 an1 cd1 ct1), sl1⟩) (c1 : PySem.W.codeIn K cd1 "_law_draw" = true) (k1 : PySem.W.keepIn K (.ref f1) = true)
  (a2 : PySem.W.nsIn K mainGlobals "_law_made" = some (some (.ref f2))) (l2 : K.lookup f2 = some ⟨oc2, od2, .func (PySem.W.fnOf "_law_made" "_law_made" (defArgs jj) (defBody jj) (defScope jj) .none kV2 dc2 pm2 an2 cd2 ct2), sl2⟩) (c2 : PySem.W.codeIn K cd2 "_law_made" = true) (k2 : PySem.W.keepIn K (.ref f2) = true)
  (a3 : PySem.W.nsIn K mainGlobals "_law_fields" = some (some (.ref f3))) (l3 : K.lookup f3 = some ⟨oc3, od3, .func (PySem.W.fnOf "_law_fields" "_law_fields" (defArgs jy) (defBody jy) (defScope jy) .none kV3 dc3 pm3 an3 cd3 ct3), sl3⟩) (c3 : PySem.W.codeIn K cd3 "_law_fields" = true) (k3 : PySem.W.keepIn K (.ref f3) = true)
  (a4 : PySem.W.nsIn K mainGlobals "_law_sorts" = some (some (.ref f4))) (l4 : K.lookup f4 = some ⟨oc4, od4, .func (PySem.W.fnOf "_law_sorts" "_law_sorts" (defArgs jd) (defBody jd) (defScope jd) .none kV4 dc4 pm4 an4 cd4 ct4), sl4⟩) (c4 : PySem.W.codeIn K cd4 "_law_sorts" = true) (k4 : PySem.W.keepIn K (.ref f4) = true)
  (a5 : PySem.W.nsIn K mainGlobals "law" = some (some (.ref f5))) (l5 : K.lookup f5 = some ⟨oc5, od5, .func (PySem.W.fnOf "law" "law" (defArgs jp) (defBody jp) (defScope jp) .none kV5 dc5 pm5 an5 cd5 ct5), sl5⟩) (c5 : PySem.W.codeIn K cd5 "law" = true) (k5 : PySem.W.keepIn K (.ref f5) = true)
  (jC : PySem.W.nsIn K mainGlobals "ValueError" = some none)
  (jf : PySem.W.nsIn K mainGlobals "isinstance" = some none)
  (ze : PySem.W.nsIn K mainGlobals "len" = some none)
  (yx : PySem.W.nsIn K mainGlobals "list" = some none)
  (zf : PySem.W.nsIn K mainGlobals "max" = some none)
  (j9 : PySem.W.nsIn K mainGlobals "range" = some none)
  (jL : PySem.W.nsIn K mainGlobals "reversed" = some none)
  {xP xNP : Addr} {xq_P : Str} {xbs_P : List Value} {xsn_P : List Str} {xsub_P : List Value} {xab_P : Bool} {xcol_P : Option Bool} {xdd_P : Option Addr} {xk0_P xk1_P xk2_P xk3_P xk5_P : Option Value} {xo_P : Value} {xd_P : Option Addr} {xes_P : Array DictEntry} {xep_P : Nat} {xsl_P : Array (Option Value)} (xg_P : PySem.W.nsIn K mainGlobals "PactError" = some (some (.ref xP))) (xl_P : K.lookup xP = some (excClassObj "PactError" xq_P xP xNP xbs_P vErr true xsn_P xsub_P xab_P xcol_P xdd_P xk0_P xk1_P xk2_P xk3_P xk5_P "ValueError.__new__")) (xn_P : K.lookup xNP = some ⟨xo_P, xd_P, .dict xes_P xep_P, xsl_P⟩) (xh_P : keysB xes_P ["__getattribute__", "__getattr__", "__setattr__", "__class__", "__init__", "args", "at", "place", "row", "most", "board"] = true)
  {C_0 N_0 : Addr} {xq_0 : Str} {xbs_0 : List Value} {xsn_0 : List Str} {xsub_0 : List Value} {xab_0 : Bool} {xcol_0 : Option Bool} {xdd_0 : Option Addr} {xk0_0 xk1_0 xk2_0 xk3_0 xk5_0 : Option Value} {xo_0 : Value} {xd_0 : Option Addr} {xes_0 : Array DictEntry} {xep_0 : Nat} {xsl_0 : Array (Option Value)} (xg_0 : PySem.W.nsIn K mainGlobals "NoTable" = some (some (.ref C_0))) (xl_0 : K.lookup C_0 = some (excClassObj "NoTable" xq_0 C_0 N_0 xbs_0 (.ref xP :: vErr) true xsn_0 xsub_0 xab_0 xcol_0 xdd_0 xk0_0 xk1_0 xk2_0 xk3_0 xk5_0 "ValueError.__new__")) (xn_0 : K.lookup N_0 = some ⟨xo_0, xd_0, .dict xes_0 xep_0, xsl_0⟩) (xh_0 : keysB xes_0 ["__getattribute__", "__getattr__", "__setattr__", "__class__", "at"] = true) (xc_0 : PySem.W.keepIn K (.ref C_0) = true)
  {fI_0 : Addr} {iod_0 ian_0 : Option Addr} {isl_0 : Array (Option Value)} {ikV_0 idc_0 ipm_0 icd_0 ict_0 : Value} (xi_0 : PySem.W.nsIn K N_0 (Str.ofString "__init__") = some (some (.ref fI_0))) (xf_0 : K.lookup fI_0 = some ⟨.type "function", iod_0, .func (PySem.W.fnOf "__init__" "NoTable.__init__" (defArgs jX) (defBody jX) (defScope jX) .none ikV_0 idc_0 ipm_0 ian_0 icd_0 ict_0), isl_0⟩) (xe_0 : PySem.W.codeIn K icd_0 "NoTable.__init__" = true) (xk_0 : PySem.W.keepIn K (.ref fI_0) = true)
  {C_1 N_1 : Addr} {xq_1 : Str} {xbs_1 : List Value} {xsn_1 : List Str} {xsub_1 : List Value} {xab_1 : Bool} {xcol_1 : Option Bool} {xdd_1 : Option Addr} {xk0_1 xk1_1 xk2_1 xk3_1 xk5_1 : Option Value} {xo_1 : Value} {xd_1 : Option Addr} {xes_1 : Array DictEntry} {xep_1 : Nat} {xsl_1 : Array (Option Value)} (xg_1 : PySem.W.nsIn K mainGlobals "NoHouse" = some (some (.ref C_1))) (xl_1 : K.lookup C_1 = some (excClassObj "NoHouse" xq_1 C_1 N_1 xbs_1 (.ref xP :: vErr) true xsn_1 xsub_1 xab_1 xcol_1 xdd_1 xk0_1 xk1_1 xk2_1 xk3_1 xk5_1 "ValueError.__new__")) (xn_1 : K.lookup N_1 = some ⟨xo_1, xd_1, .dict xes_1 xep_1, xsl_1⟩) (xh_1 : keysB xes_1 ["__getattribute__", "__getattr__", "__setattr__", "__class__", "place"] = true) (xc_1 : PySem.W.keepIn K (.ref C_1) = true)
  {fI_1 : Addr} {iod_1 ian_1 : Option Addr} {isl_1 : Array (Option Value)} {ikV_1 idc_1 ipm_1 icd_1 ict_1 : Value} (xi_1 : PySem.W.nsIn K N_1 (Str.ofString "__init__") = some (some (.ref fI_1))) (xf_1 : K.lookup fI_1 = some ⟨.type "function", iod_1, .func (PySem.W.fnOf "__init__" "NoHouse.__init__" (defArgs jT) (defBody jT) (defScope jT) .none ikV_1 idc_1 ipm_1 ian_1 icd_1 ict_1), isl_1⟩) (xe_1 : PySem.W.codeIn K icd_1 "NoHouse.__init__" = true) (xk_1 : PySem.W.keepIn K (.ref fI_1) = true)
  {C_2 N_2 : Addr} {xq_2 : Str} {xbs_2 : List Value} {xsn_2 : List Str} {xsub_2 : List Value} {xab_2 : Bool} {xcol_2 : Option Bool} {xdd_2 : Option Addr} {xk0_2 xk1_2 xk2_2 xk3_2 xk5_2 : Option Value} {xo_2 : Value} {xd_2 : Option Addr} {xes_2 : Array DictEntry} {xep_2 : Nat} {xsl_2 : Array (Option Value)} (xg_2 : PySem.W.nsIn K mainGlobals "NoText" = some (some (.ref C_2))) (xl_2 : K.lookup C_2 = some (excClassObj "NoText" xq_2 C_2 N_2 xbs_2 (.ref xP :: vErr) true xsn_2 xsub_2 xab_2 xcol_2 xdd_2 xk0_2 xk1_2 xk2_2 xk3_2 xk5_2 "ValueError.__new__")) (xn_2 : K.lookup N_2 = some ⟨xo_2, xd_2, .dict xes_2 xep_2, xsl_2⟩) (xh_2 : keysB xes_2 ["__getattribute__", "__getattr__", "__setattr__", "__class__", "row"] = true) (xc_2 : PySem.W.keepIn K (.ref C_2) = true)
  {fI_2 : Addr} {iod_2 ian_2 : Option Addr} {isl_2 : Array (Option Value)} {ikV_2 idc_2 ipm_2 icd_2 ict_2 : Value} (xi_2 : PySem.W.nsIn K N_2 (Str.ofString "__init__") = some (some (.ref fI_2))) (xf_2 : K.lookup fI_2 = some ⟨.type "function", iod_2, .func (PySem.W.fnOf "__init__" "NoText.__init__" (defArgs j7) (defBody j7) (defScope j7) .none ikV_2 idc_2 ipm_2 ian_2 icd_2 ict_2), isl_2⟩) (xe_2 : PySem.W.codeIn K icd_2 "NoText.__init__" = true) (xk_2 : PySem.W.keepIn K (.ref fI_2) = true)
  {C_3 N_3 : Addr} {xq_3 : Str} {xbs_3 : List Value} {xsn_3 : List Str} {xsub_3 : List Value} {xab_3 : Bool} {xcol_3 : Option Bool} {xdd_3 : Option Addr} {xk0_3 xk1_3 xk2_3 xk3_3 xk5_3 : Option Value} {xo_3 : Value} {xd_3 : Option Addr} {xes_3 : Array DictEntry} {xep_3 : Nat} {xsl_3 : Array (Option Value)} (xg_3 : PySem.W.nsIn K mainGlobals "TooMany" = some (some (.ref C_3))) (xl_3 : K.lookup C_3 = some (excClassObj "TooMany" xq_3 C_3 N_3 xbs_3 (.ref xP :: vErr) true xsn_3 xsub_3 xab_3 xcol_3 xdd_3 xk0_3 xk1_3 xk2_3 xk3_3 xk5_3 "ValueError.__new__")) (xn_3 : K.lookup N_3 = some ⟨xo_3, xd_3, .dict xes_3 xep_3, xsl_3⟩) (xh_3 : keysB xes_3 ["__getattribute__", "__getattr__", "__setattr__", "__class__", "most"] = true) (xc_3 : PySem.W.keepIn K (.ref C_3) = true)
  {fI_3 : Addr} {iod_3 ian_3 : Option Addr} {isl_3 : Array (Option Value)} {ikV_3 idc_3 ipm_3 icd_3 ict_3 : Value} (xi_3 : PySem.W.nsIn K N_3 (Str.ofString "__init__") = some (some (.ref fI_3))) (xf_3 : K.lookup fI_3 = some ⟨.type "function", iod_3, .func (PySem.W.fnOf "__init__" "TooMany.__init__" (defArgs jW) (defBody jW) (defScope jW) .none ikV_3 idc_3 ipm_3 ian_3 icd_3 ict_3), isl_3⟩) (xe_3 : PySem.W.codeIn K icd_3 "TooMany.__init__" = true) (xk_3 : PySem.W.keepIn K (.ref fI_3) = true)
  {C_4 N_4 : Addr} {xq_4 : Str} {xbs_4 : List Value} {xsn_4 : List Str} {xsub_4 : List Value} {xab_4 : Bool} {xcol_4 : Option Bool} {xdd_4 : Option Addr} {xk0_4 xk1_4 xk2_4 xk3_4 xk5_4 : Option Value} {xo_4 : Value} {xd_4 : Option Addr} {xes_4 : Array DictEntry} {xep_4 : Nat} {xsl_4 : Array (Option Value)} (xg_4 : PySem.W.nsIn K mainGlobals "NotMeek" = some (some (.ref C_4))) (xl_4 : K.lookup C_4 = some (excClassObj "NotMeek" xq_4 C_4 N_4 xbs_4 (.ref xP :: vErr) true xsn_4 xsub_4 xab_4 xcol_4 xdd_4 xk0_4 xk1_4 xk2_4 xk3_4 xk5_4 "ValueError.__new__")) (xn_4 : K.lookup N_4 = some ⟨xo_4, xd_4, .dict xes_4 xep_4, xsl_4⟩) (xh_4 : keysB xes_4 ["__getattribute__", "__getattr__", "__setattr__", "__class__", "board"] = true) (xc_4 : PySem.W.keepIn K (.ref C_4) = true)
  {fI_4 : Addr} {iod_4 ian_4 : Option Addr} {isl_4 : Array (Option Value)} {ikV_4 idc_4 ipm_4 icd_4 ict_4 : Value} (xi_4 : PySem.W.nsIn K N_4 (Str.ofString "__init__") = some (some (.ref fI_4))) (xf_4 : K.lookup fI_4 = some ⟨.type "function", iod_4, .func (PySem.W.fnOf "__init__" "NotMeek.__init__" (defArgs jV) (defBody jV) (defScope jV) .none ikV_4 idc_4 ipm_4 ian_4 icd_4 ict_4), isl_4⟩) (xe_4 : PySem.W.codeIn K icd_4 "NotMeek.__init__" = true) (xk_4 : PySem.W.keepIn K (.ref fI_4) = true)
  {C_5 N_5 : Addr} {xq_5 : Str} {xbs_5 : List Value} {xsn_5 : List Str} {xsub_5 : List Value} {xab_5 : Bool} {xcol_5 : Option Bool} {xdd_5 : Option Addr} {xk0_5 xk1_5 xk2_5 xk3_5 xk5_5 : Option Value} {xo_5 : Value} {xd_5 : Option Addr} {xes_5 : Array DictEntry} {xep_5 : Nat} {xsl_5 : Array (Option Value)} (xg_5 : PySem.W.nsIn K mainGlobals "NoMark" = some (some (.ref C_5))) (xl_5 : K.lookup C_5 = some (excClassObj "NoMark" xq_5 C_5 N_5 xbs_5 (.ref xP :: vErr) true xsn_5 xsub_5 xab_5 xcol_5 xdd_5 xk0_5 xk1_5 xk2_5 xk3_5 xk5_5 "ValueError.__new__")) (xn_5 : K.lookup N_5 = some ⟨xo_5, xd_5, .dict xes_5 xep_5, xsl_5⟩) (xh_5 : keysB xes_5 ["__getattribute__", "__getattr__", "__setattr__", "__class__", "__init__"] = true) (xc_5 : PySem.W.keepIn K (.ref C_5) = true)
  {C_6 N_6 : Addr} {xq_6 : Str} {xbs_6 : List Value} {xsn_6 : List Str} {xsub_6 : List Value} {xab_6 : Bool} {xcol_6 : Option Bool} {xdd_6 : Option Addr} {xk0_6 xk1_6 xk2_6 xk3_6 xk5_6 : Option Value} {xo_6 : Value} {xd_6 : Option Addr} {xes_6 : Array DictEntry} {xep_6 : Nat} {xsl_6 : Array (Option Value)} (xg_6 : PySem.W.nsIn K mainGlobals "NotGood" = some (some (.ref C_6))) (xl_6 : K.lookup C_6 = some (excClassObj "NotGood" xq_6 C_6 N_6 xbs_6 (.ref xP :: vErr) true xsn_6 xsub_6 xab_6 xcol_6 xdd_6 xk0_6 xk1_6 xk2_6 xk3_6 xk5_6 "ValueError.__new__")) (xn_6 : K.lookup N_6 = some ⟨xo_6, xd_6, .dict xes_6 xep_6, xsl_6⟩) (xh_6 : keysB xes_6 ["__getattribute__", "__getattr__", "__setattr__", "__class__", "__init__"] = true) (xc_6 : PySem.W.keepIn K (.ref C_6) = true)
  {C_7 N_7 : Addr} {xq_7 : Str} {xbs_7 : List Value} {xsn_7 : List Str} {xsub_7 : List Value} {xab_7 : Bool} {xcol_7 : Option Bool} {xdd_7 : Option Addr} {xk0_7 xk1_7 xk2_7 xk3_7 xk5_7 : Option Value} {xo_7 : Value} {xd_7 : Option Addr} {xes_7 : Array DictEntry} {xep_7 : Nat} {xsl_7 : Array (Option Value)} (xg_7 : PySem.W.nsIn K mainGlobals "NoRow" = some (some (.ref C_7))) (xl_7 : K.lookup C_7 = some (excClassObj "NoRow" xq_7 C_7 N_7 xbs_7 (.ref xP :: vErr) true xsn_7 xsub_7 xab_7 xcol_7 xdd_7 xk0_7 xk1_7 xk2_7 xk3_7 xk5_7 "ValueError.__new__")) (xn_7 : K.lookup N_7 = some ⟨xo_7, xd_7, .dict xes_7 xep_7, xsl_7⟩) (xh_7 : keysB xes_7 ["__getattribute__", "__getattr__", "__setattr__", "__class__", "__init__"] = true) (xc_7 : PySem.W.keepIn K (.ref C_7) = true) :
  ∃ T : Txt K mg, T.yy = fa := by
 have e : some (Value.ref fa) = some (Value.ref f5) := hfa.symm.trans (PySem.W.mg_of X G a5)
 have e2 : fa = f5 := by injection e with e1; injection e1
 exact ⟨{ j0 := f0, jS := _, ym := Qb7 (st := jl) l0 c0 k0, jB := PySem.W.mg_of X G a0, j2 := f1, jO := _, j6 := Qb7 (st := jn) l1 c1 k1, jt := PySem.W.mg_of X G a1, j4 := f2, jQ := _, j5 := Qb7 (st := jj) l2 c2 k2, jr := PySem.W.mg_of X G a2, jI := f3, jH := _, jK := Qb7 (st := jy) l3 c3 k3, jm := PySem.W.mg_of X G a3, jR := f4, jJ := _, yc := Qb7 (st := jd) l4 c4 k4, jx := PySem.W.mg_of X G a4, yy := f5, yY := _, z9 := Qb7 (st := jp) l5 c5 k5, yt := PySem.W.mg_of X G a5, jC := PySem.W.mg_none_of X G jC, jf := PySem.W.mg_none_of X G jf, ze := PySem.W.mg_none_of X G ze, yx := PySem.W.mg_none_of X G yx, zf := PySem.W.mg_none_of X G zf, j9 := PySem.W.mg_none_of X G j9, jL := PySem.W.mg_none_of X G jL, xP := xP, xNP := xNP, xp := ⟨xg_P, _, _, _, _, _, _, _, _, _, _, _, _, _, _, xl_P⟩, zk := PySem.W.mg_of X G xg_P, C_NoTable := C_0, N_NoTable := N_0, X_NoTable := QfM xg_0 xl_0 xn_0 xh_0 xc_0 xg_P xl_P xn_P xh_P, yQ := PySem.W.mg_of X G xg_0, fI_NoTable := fI_0, yi := _, i_NoTable := xi_0, n_NoTable := ⟨_, xf_0, rfl⟩, yV := Qb7 (st := jX) xf_0 xe_0 xk_0, C_NoHouse := C_1, N_NoHouse := N_1, X_NoHouse := QfM xg_1 xl_1 xn_1 xh_1 xc_1 xg_P xl_P xn_P xh_P, y3 := PySem.W.mg_of X G xg_1, fI_NoHouse := fI_1, yg := _, i_NoHouse := xi_1, n_NoHouse := ⟨_, xf_1, rfl⟩, yR := Qb7 (st := jT) xf_1 xe_1 xk_1, C_NoText := C_2, N_NoText := N_2, X_NoText := QfM xg_2 xl_2 xn_2 xh_2 xc_2 xg_P xl_P xn_P xh_P, zt := PySem.W.mg_of X G xg_2, fI_NoText := fI_2, yr := _, i_NoText := xi_2, n_NoText := ⟨_, xf_2, rfl⟩, zp := Qb7 (st := j7) xf_2 xe_2 xk_2, C_TooMany := C_3, N_TooMany := N_3, X_TooMany := QfM xg_3 xl_3 xn_3 xh_3 xc_3 xg_P xl_P xn_P xh_P, zc := PySem.W.mg_of X G xg_3, fI_TooMany := fI_3, yk := _, i_TooMany := xi_3, n_TooMany := ⟨_, xf_3, rfl⟩, za := Qb7 (st := jW) xf_3 xe_3 xk_3, C_NotMeek := C_4, N_NotMeek := N_4, X_NotMeek := QfM xg_4 xl_4 xn_4 xh_4 xc_4 xg_P xl_P xn_P xh_P, yW := PySem.W.mg_of X G xg_4, fI_NotMeek := fI_4, yh := _, i_NotMeek := xi_4, n_NotMeek := ⟨_, xf_4, rfl⟩, yZ := Qb7 (st := jV) xf_4 xe_4 xk_4, C_NoMark := C_5, N_NoMark := N_5, X_NoMark := QfM xg_5 xl_5 xn_5 xh_5 xc_5 xg_P xl_P xn_P xh_P, zr := PySem.W.mg_of X G xg_5, i_NoMark := QfK xn_5 xh_5 (by nofun), C_NotGood := C_6, N_NotGood := N_6, X_NotGood := QfM xg_6 xl_6 xn_6 xh_6 xc_6 xg_P xl_P xn_P xh_P, yU := PySem.W.mg_of X G xg_6, i_NotGood := QfK xn_6 xh_6 (by nofun), C_NoRow := C_7, N_NoRow := N_7, X_NoRow := QfM xg_7 xl_7 xn_7 xh_7 xc_7 xg_P xl_P xn_P xh_P, zI := PySem.W.mg_of X G xg_7, i_NoRow := QfK xn_7 xh_7 (by nofun) }, e2.symm⟩
theorem walk {l : PySem.W.OpenLaw} {q : Program} {loose : List Str} {XP : (Str → Option Value) → Heap → Prop} {YP : World → Heap → Prop} {d : DefRec} {K : Params → PySem.W.Frag} (hn : l.most = some 63) (hdf : d.params.defaults = [])
  (hY : ∀ (w : World) (h : Heap), YP w h → (K w.params).In h) (F : ∀ (w : World) (mg : Str → Option Value) (fa : Addr) (h : Heap), (K w.params).In h → h.Ns mainGlobals mg → mg d.name = some (.ref fa) → ∃ T : Txt (K w.params) mg, T.yy = fa) :
  PySem.W.WalkO q loose XP YP l.row.toRowW d [] (fun f vs => PySem.call f vs) := by
 refine L2.walk_ofK (n := 63) (k := 4) (x := "_law_script") (CX := CX0) (K := K) (sp := fun K => spOf K 1 yt) hn (by decide) hdf ⟨rfl, by decide, by decide⟩ hY (fun w mg fa h kin ns hmg => ?_) (fun K H a ns hl hO hS => QfB hO hS (law_true ns hl)) (fun _ _ _ _ z => z)
 obtain ⟨T, e⟩ := F w mg fa h kin ns hmg
 subst e
 refine ⟨T.yY, fun s u => ?_, fun base _ _ => wn T⟩
 obtain ⟨oc, od, kV, doc, pm, an, cdv, ct, osl, e, lk, hcd⟩ := T.z9.ex
 rw [e]
 exact .of_eq rfl
end My
noncomputable def  PySem.W.Fast.tw4715748658811656289 : PySem.Program := PySem.Challenge.pw_pactboards_k10_refusals
theorem PySem.W.Fast.te4715748658811656289 : PySem.Challenge.pw_pactboards_k10_refusals = PySem.W.Fast.tw4715748658811656289 := rfl
open PySem PySem.W PyProof.Rows
set_option maxHeartbeats 0 in
theorem PySem.Challenge.cw_pactboards_k10_refusals_holds : PySem.Challenge.rw_pactboards_k10_refusals.Holds := by
 w_on; o_law; k_head; (case hw => w_witness2)
 k_fill
 refine My.walk (l := PySem.Challenge.rw_pactboards_k10_refusals) rfl rfl (fun w h Y => PySem.W.kIn_of Y) ?F
 case F =>
  intro w mg fa h KX G hmg
  refine' My.txt_mk KX G hmg ?a0 ?l0 ?c0 ?k0 ?a1 ?l1 ?c1 ?k1 ?a2 ?l2 ?c2 ?k2 ?a3 ?l3 ?c3 ?k3 ?a4 ?l4 ?c4 ?k4 ?a5 ?l5 ?c5 ?k5 ?jC ?jf ?ze ?yx ?zf ?j9 ?jL ?xg_P ?xl_P ?xn_P ?xh_P ?xg_0 ?xl_0 ?xn_0 ?xh_0 ?xc_0 ?xi_0 ?xf_0 ?xe_0 ?xk_0 ?xg_1 ?xl_1 ?xn_1 ?xh_1 ?xc_1 ?xi_1 ?xf_1 ?xe_1 ?xk_1 ?xg_2 ?xl_2 ?xn_2 ?xh_2 ?xc_2 ?xi_2 ?xf_2 ?xe_2 ?xk_2 ?xg_3 ?xl_3 ?xn_3 ?xh_3 ?xc_3 ?xi_3 ?xf_3 ?xe_3 ?xk_3 ?xg_4 ?xl_4 ?xn_4 ?xh_4 ?xc_4 ?xi_4 ?xf_4 ?xe_4 ?xk_4 ?xg_5 ?xl_5 ?xn_5 ?xh_5 ?xc_5 ?xg_6 ?xl_6 ?xn_6 ?xh_6 ?xc_6 ?xg_7 ?xl_7 ?xn_7 ?xh_7 ?xc_7
  case a0 | l0 | c0 | k0 | a1 | l1 | c1 | k1 | a2 | l2 | c2 | k2 | a3 | l3 | c3 | k3 | a4 | l4 | c4 | k4 | a5 | l5 | c5 | k5 | jC | jf | ze | yx | zf | j9 | jL | xg_P | xl_P | xn_P | xg_0 | xl_0 | xn_0 | xc_0 | xi_0 | xf_0 | xe_0 | xk_0 | xg_1 | xl_1 | xn_1 | xc_1 | xi_1 | xf_1 | xe_1 | xk_1 | xg_2 | xl_2 | xn_2 | xc_2 | xi_2 | xf_2 | xe_2 | xk_2 | xg_3 | xl_3 | xn_3 | xc_3 | xi_3 | xf_3 | xe_3 | xk_3 | xg_4 | xl_4 | xn_4 | xc_4 | xi_4 | xf_4 | xe_4 | xk_4 | xg_5 | xl_5 | xn_5 | xc_5 | xg_6 | xl_6 | xn_6 | xc_6 | xg_7 | xl_7 | xn_7 | xc_7 => k_is
  case xh_P | xh_0 | xh_1 | xh_2 | xh_3 | xh_4 | xh_5 | xh_6 | xh_7 => rfl