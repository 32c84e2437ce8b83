import PyProof.Rows.All
import Wide.All
import OpenK.AllK
import Wide.FinOn
import Lean
import PyProof.EqAt
import PyProof.EqKinds
import PyProof.TupleCall
import PySem.Str
import PyProof.NeKinds
import PyProof.IsRules
import PyProof.Rows.StrRev
import KE.KSortTup
import PyProof.Rows.ZipGen
import KE.KRevIter
import KE.KDictList
import KE.KIntText
import PyProof.Rows.StrNews
import PyProof.Rows.StrJoin2
import PyProof.Rows.FStr
import PyProof.StrWalks
import PyProof.StrLawsTight
import KE.KSort
import PyProof.Rows.SetFrom
import KE.KDictSum
import PyProof.ExcInit
import PyProof.ExcClass3
import PyProof.ExcBaseAll.ValueError
import PyProof.ExcAttrAll.ValueError
import PyProof.ExcArgsOwn
import PySem.Challenge.RW_pactboards_k57_whole_pacts_of_first_thin
local macro_rules | `(tactic| nofun) => `(tactic| decide +kernel)
local macro_rules | `(tactic| ac_nf) => `(tactic| first | lia | omega)
set_option genSizeOf false
set_option Elab.async false
set_option linter.all false
set_option maxRecDepth 100000
set_option maxHeartbeats 4000000
namespace L2
open PySem PySem.Spec PyProof.Rows
noncomputable abbrev Key := Sum Int Str
noncomputable def keyIs : Key → Value → Bool
 | .inl k, v => Value.isInt k v
 | .inr x, v => Value.isStrOf x v
noncomputable def keyH (w : World) : Key → Int
 | .inl k => hashInt k
 | .inr x => hashStr w x
theorem keyIs_shape : ∀ {k : Key} {v : Value}, keyIs k v = true → (∃ i t, k = Sum.inl i ∧ v = Value.int i t) ∨ (∃ x t, k = Sum.inr x ∧ v = Value.str x t)
 | .inl i, v, h => by
  obtain ⟨t, e⟩ := Value.isInt_shape (k := i) (v := v) h
  exact .inl ⟨i, t, rfl, e⟩
 | .inr x, v, h => by
  obtain ⟨t, e⟩ := Value.isStrOf_shape (x := x) (v := v) h
  exact .inr ⟨x, t, rfl, e⟩
theorem Qaa (i : Int) (t : Tok) : keyIs (.inl i) (.int i t) = true := by simp [keyIs, Value.isInt]
theorem Qab (x : Str) (t : Tok) : keyIs (.inr x) (.str x t) = true := by simp [keyIs, Value.isStrOf]
theorem Qac (a b : Int) : decide ((Sum.inl a : Key) = Sum.inl b) = (a == b) := by
 by_cases e : a = b
 ·subst e; simp
 ·have h : ¬ (Sum.inl a : Key) = Sum.inl b := fun q => e (Sum.inl.inj q)
  rw [decide_eq_false h]
  exact (beq_eq_false_iff_ne.mpr e).symm
theorem Qad (a b : Str) : decide ((Sum.inr a : Key) = Sum.inr b) = decide (a = b) := by
 by_cases e : a = b
 ·subst e; simp
 ·have h : ¬ (Sum.inr a : Key) = Sum.inr b := fun q => e (Sum.inr.inj q)
  rw [decide_eq_false h, decide_eq_false e]
theorem Qae (a : Int) (b : Str) : decide ((Sum.inl a : Key) = Sum.inr b) = false := decide_eq_false (fun q => nomatch q)
theorem Qaf (a : Str) (b : Int) : decide ((Sum.inr a : Key) = Sum.inl b) = false := decide_eq_false (fun q => nomatch q)
noncomputable def mixKind (prog : Program) (w : World) : PySem.KeyKind prog w Key where
 is := keyIs
 hash := keyH w
 inj := fun v a b ha hb => by
  rcases keyIs_shape ha with ⟨i, t, rfl, rfl⟩ | ⟨x, t, rfl, rfl⟩
  ·rcases keyIs_shape hb with ⟨j, u, rfl, e⟩ | ⟨y, u, rfl, e⟩
   ·injection e with e1 _; rw [e1]
   ·exact nomatch e
  ·rcases keyIs_shape hb with ⟨j, u, rfl, e⟩ | ⟨y, u, rfl, e⟩
   ·exact nomatch e
   ·injection e with e1 _; rw [e1]
 byValue := fun k v h => by
  rcases keyIs_shape h with ⟨i, t, rfl, rfl⟩ | ⟨x, t, rfl, rfl⟩ <;> rfl
 pyHash := fun hv h => by
  rcases keyIs_shape hv with ⟨i, t, rfl, rfl⟩ | ⟨x, t, rfl, rfl⟩
  ·exact wpAny_pyHash_int h
  ·exact wpAny_pyHash_str h
 eqBool := fun hu hv h => by
  rcases keyIs_shape hu with ⟨i, t, rfl, rfl⟩ | ⟨x, t, rfl, rfl⟩
  ·rcases keyIs_shape hv with ⟨j, u, rfl, rfl⟩ | ⟨y, u, rfl, rfl⟩
   ·rw [Qac] at h; exact wpAny_eqBool_int h
   ·rw [Qae] at h; exact SeqAt.EqAt.int_str i t y u _ _ _ _ h
  ·rcases keyIs_shape hv with ⟨j, u, rfl, rfl⟩ | ⟨y, u, rfl, rfl⟩
   ·rw [Qaf] at h; exact SeqAt.EqAt.str_int x t j u _ _ _ _ h
   ·rw [Qad] at h; exact wpAny_eqBool_str h
 «strs» := fun k x t v h => by
  rcases keyIs_shape h with ⟨i, u, rfl, e⟩ | ⟨y, u, rfl, e⟩
  ·exact nomatch e
  ·injection e with e1 _
   subst e1
   cases v <;> rfl
theorem Qag (prog : Program) (w : World) (i : Int) (t : Tok) : (mixKind prog w).is (.inl i) (.int i t) = true := Qaa i t
theorem Qah (prog : Program) (w : World) (x : Str) (t : Tok) : (mixKind prog w).is (.inr x) (.str x t) = true := Qab x t
end L2
namespace L2
open PySem PySem.Spec PyProof.Rows
inductive V where
 | non | bl (b : Bool) | int (i : Int) | str (x : Str) | byt (b : Array UInt8) | flt (b : UInt64) | ref (a : Addr) | ty (n : String)
 deriving DecidableEq
noncomputable def RelV : V → Value → Prop
 | .non, u => u = Value.none
 | .bl b, u => u = Value.bool b
 | .int i, u => ∃ t, u = Value.int i t
 | .str x, u => ∃ t, u = Value.str x t
 | .byt b, u => ∃ t, u = Value.bytes b t
 | .flt b, u => ∃ t, u = Value.float b t
 | .ref a, u => u = Value.ref a
 | .ty n, u => u = Value.type n
noncomputable abbrev Vals : List V → List Value → Prop := Paired RelV
theorem Vals.length {xs : List V} {us : List Value} (r : Vals xs us) : xs.length = us.length := Paired.length r
theorem Vals.get : ∀ {xs : List V} {us : List Value} {i : Nat} {x : V}, Vals xs us → xs[i]? = some x → ∃ u, us[i]? = some u ∧ RelV x u
 | _, _, _, _, .nil, e => by simp at e
 | _, _, 0, _, .cons r _, e => by simp at e; subst e; exact ⟨_, rfl, r⟩
 | _, _, i + 1, x, .cons _ t, e => by
  obtain ⟨u, h1, h2⟩ := Vals.get (i := i) (x := x) t (by simpa using e)
  exact ⟨u, by simpa using h1, h2⟩
theorem Vals.set {x : V} {u : Value} (r : RelV x u) : ∀ {xs : List V} {us : List Value} (i : Nat), Vals xs us → Vals (xs.set i x) (us.set i u)
 | _, _, _, .nil => .nil
 | _, _, 0, .cons _ t => .cons r t
 | _, _, i + 1, .cons q t => .cons q (Vals.set r i t)
theorem Vals.append : ∀ {xs ys : List V} {us ws : List Value}, Vals xs us → Vals ys ws → Vals (xs ++ ys) (us ++ ws)
 | _, _, _, _, .nil, s => s
 | _, _, _, _, .cons r t, s => .cons r (Vals.append t s)
theorem Vals.take : ∀ {xs : List V} {us : List Value} (n : Nat), Vals xs us → Vals (xs.take n) (us.take n)
 | _, _, 0, _ => .nil
 | _, _, _ + 1, .nil => .nil
 | _, _, n + 1, .cons r t => .cons r (Vals.take n t)
theorem Vals.drop : ∀ {xs : List V} {us : List Value} (n : Nat), Vals xs us → Vals (xs.drop n) (us.drop n)
 | _, _, 0, r => r
 | _, _, _ + 1, .nil => .nil
 | _, _, n + 1, .cons _ t => Vals.drop n t
theorem Vals.none_of : ∀ {xs : List V} {us : List Value} {i : Nat}, Vals xs us → xs[i]? = none → us[i]? = none := fun {xs us i} r e => by
 have h1 := r.length
 have h2 : xs.length ≤ i := List.getElem?_eq_none_iff.mp e
 exact List.getElem?_eq_none_iff.mpr (by ac_nf)
noncomputable def RelO : Option V → Option Value → Prop
 | some v, some u => RelV v u
 | none, none => True
 | _, _ => False
noncomputable def KV {κ : Type} : List (κ × V) → List (κ × Value) → Prop := Paired fun (p : κ × V) (q : κ × Value) => p.1 = q.1 ∧ RelV p.2 q.2
noncomputable def kV : Key → V
 | .inl i => .int i
 | .inr x => .str x
inductive HO where
 | lst (xs : List V)
 | tup (xs : List V)
 | dK (kvs : List (Key × V)) | dT (kvs : List (List Key × V))
 | set (S : Int → Bool) (n : Nat)
 | ins (C dx : Addr) (fs : List (Str × V))
 | own (x : Addr)
 | xd (fs : List (Str × V))
 | met (f x : Addr)
 | rng (lo hi : Int)
 | frz (o : Obj) (u : HO)
 | tbl (ps : Array Value)
 | ext (φ : Heap → Prop)
noncomputable abbrev Hp := Addr → Option HO
noncomputable def upd (H : Hp) (a : Addr) (o : HO) : Hp := fun b => if b = a then some o else H b
theorem Qai {H : Hp} {a : Addr} {o : HO} : upd H a o a = some o := by unfold upd; rw [if_pos rfl]
theorem Qaj {H : Hp} {a b : Addr} {o : HO} (h : b ≠ a) : upd H a o b = H b := by unfold upd; rw [if_neg h]
theorem Qak {H : Hp} {a b : Addr} {o u : HO} (h : H a = some o) (h' : H b = some u) (d : o ≠ u) : a ≠ b := by
 intro e; subst e; rw [h] at h'; exact d (Option.some.inj h')
theorem Qal {H : Hp} {a b : Addr} {o : HO} (h : H a = some o) (h' : H b = none) : a ≠ b := by
 intro e; subst e; rw [h] at h'; cases h'
section
variable (P : Program) (w : World)
noncomputable def ObjOk (H : Hp) (h : Heap) (a : Addr) : HO → Prop
 | .lst xs => xs.length ≤ sizeLine ∧ ∃ (its : List Value) (n : Nat), Vals xs its ∧ h.get? a = some { cls := .type "list", data := .seq its.toArray n }
 | .tup xs => xs.length ≤ sizeLine ∧ ∃ its : List Value, Vals xs its ∧ IsTup h a its.toArray
 | .dK kvs => kvs.length ≤ sizeLine ∧ (a == sysModules) = false ∧ ∃ vs, KV kvs vs ∧ h.DictOf (mixKind P w) a vs
 | .dT kvs => kvs.length ≤ sizeLine ∧ (a == sysModules) = false ∧ ∃ xs : List (List Key × Addr × Value),
   Paired (fun (p : List Key × V) (q : List Key × Addr × Value) => p.1 = q.1 ∧ H q.2.1 = some (.tup (p.1.map kV)) ∧ RelV p.2 q.2.2) kvs xs ∧
   ∃ o es ep, h.get? a = some o ∧ o.ExactDict ∧ o.data = .dict es ep ∧ es.toList = xs.map (entryOfKey (tupleKind (mixKind P w))) ∧ (xs.map (·.1)).Nodup
 | .set S n => h.SetOf (intKind P w) a S n
 | .ins C dx fs => H dx = some (.own a) ∧ fs.length ≤ 1000 ∧ dx ≠ a ∧ h.get? a = some (PySem.W.instObj C dx) ∧
   ∃ mA, h.Ns1 dx mA ∧ (∀ f, RelO (fs.lookup f) (mA f)) ∧ PySem.Within mA (fs.map (·.1))
 | .own _ => ∃ o, h.get? a = some o
 | .xd fs => ∃ mA, h.Ns1 a mA ∧ ∀ f, RelO (fs.lookup f) (mA f)
 | .rng lo hi => ∃ t u v, h.get? a = some { cls := .type "range", data := .fields #[.int lo t, .int hi u, .int 1 v] }
 | .frz o u => h.get? a = some o ∧ ObjOk H h a u
 | .tbl ps => h.get? a = some { cls := .none, data := .fields ps }
 | .met f x => h.get? a = some (PySem.W.methodObj (.ref f) (.ref x))
 | .ext φ => φ h ∧ (∃ o, h.get? a = some o) ∧ ∀ h1 h2 : Heap, φ h1 → (∀ o, h1.get? a = some o → h2.get? a = some o) → φ h2
def HOk (H : Hp) (h : Heap) : Prop := ∀ a o, H a = some o → ObjOk P w H h a o
end
section
variable {P : Program} {w : World} {H H' : Hp} {h h' : Heap} {a : Addr} {o : HO}
theorem ObjOk.lt (x : ObjOk P w H h a o) : a < h.objs.size := by
 cases o with
 | lst xs => obtain ⟨_, _, _, _, e⟩ := x; exact Heap.lt_size e
 | tup xs => obtain ⟨_, _, _, p⟩ := x; exact p.lt
 | dK kvs => obtain ⟨_, _, _, _, o, _, _, e, _⟩ := x; exact Heap.lt_size e
 | dT kvs => obtain ⟨_, _, _, _, o, _, _, e, _⟩ := x; exact Heap.lt_size e
 | set S n => obtain ⟨o, _, _, _, e, _⟩ := x; exact Heap.lt_size e
 | ins C dx fs => obtain ⟨_, _, _, e, _⟩ := x; exact Heap.lt_size e
 | own y => obtain ⟨_, e⟩ := x; exact Heap.lt_size e
 | xd fs => obtain ⟨_, ⟨_, _, _, e, _⟩, _⟩ := x; exact Heap.lt_size e
 | rng lo hi => obtain ⟨_, _, _, e⟩ := x; exact Heap.lt_size e
 | frz ob u => obtain ⟨e, _⟩ := x; exact Heap.lt_size e
 | tbl ps => exact Heap.lt_size (show h.get? a = some _ from x)
 | met f y => exact Heap.lt_size (show h.get? a = some _ from x)
 | ext φ => obtain ⟨_, ⟨_, e⟩, _⟩ := x; exact Heap.lt_size e
theorem Paired.mapP {α β : Type} {F G : α → β → Prop} : ∀ {l₁ : List α} {l₂ : List β}, Paired F l₁ l₂ → (∀ a b, F a b → G a b) → Paired G l₁ l₂
 | _, _, .nil, _ => .nil
 | _, _, .cons r t, f => .cons (f _ _ r) (Paired.mapP t f)
theorem ObjOk.stay (x : ObjOk P w H h a o) (k : ∀ b u, (b = a ∨ H b = some (.own a)) → h.get? b = some u → h'.get? b = some u)
  (ho : ∀ b, H b = some (.own a) → H' b = some (.own a)) (ht : ∀ b xs, H b = some (.tup xs) → H' b = some (.tup xs)) : ObjOk P w H' h' a o := by
 induction o with
 | lst xs => obtain ⟨z, its, n, r, e⟩ := x; exact ⟨z, its, n, r, k _ _ (.inl rfl) e⟩
 | tup xs => obtain ⟨z, its, r, ob, e, c⟩ := x; exact ⟨z, its, r, ob, k _ _ (.inl rfl) e, c⟩
 | dK kvs => obtain ⟨z, y, vs, r, ob, es, ep, e, c⟩ := x; exact ⟨z, y, vs, r, ob, es, ep, k _ _ (.inl rfl) e, c⟩
 | dT kvs =>
  obtain ⟨z, y, xs, r, ob, es, ep, e, c⟩ := x
  exact ⟨z, y, xs, Paired.mapP r fun p q z => ⟨z.1, ht _ _ z.2.1, z.2.2⟩, ob, es, ep, k _ _ (.inl rfl) e, c⟩
 | set S n => obtain ⟨ob, es, ep, t, e, c⟩ := x; exact ⟨ob, es, ep, t, k _ _ (.inl rfl) e, c⟩
 | ins C dx fs =>
  obtain ⟨d, z, ne, e, mA, ⟨od, es, ep, e2, c⟩, r⟩ := x
  exact ⟨ho _ d, z, ne, k _ _ (.inl rfl) e, mA, ⟨od, es, ep, k _ _ (.inr d) e2, c⟩, r⟩
 | own y => obtain ⟨ob, e⟩ := x; exact ⟨ob, k _ _ (.inl rfl) e⟩
 | xd fs => obtain ⟨mA, ⟨od, es, ep, e, c⟩, r⟩ := x; exact ⟨mA, ⟨od, es, ep, k _ _ (.inl rfl) e, c⟩, r⟩
 | rng lo hi => obtain ⟨t, u, v, e⟩ := x; exact ⟨t, u, v, k _ _ (.inl rfl) e⟩
 | frz ob u ih => obtain ⟨e, q⟩ := x; exact ⟨k _ _ (.inl rfl) e, ih q⟩
 | tbl ps =>
  have e : h.get? a = some { cls := .none, data := .fields ps } := x
  show h'.get? a = some { cls := .none, data := .fields ps }
  exact k a _ (.inl rfl) e
 | met f y =>
  have e : h.get? a = some (PySem.W.methodObj (.ref f) (.ref y)) := x
  show h'.get? a = some (PySem.W.methodObj (.ref f) (.ref y))
  exact k a _ (.inl rfl) e
 | ext φ => obtain ⟨p, ⟨o, e⟩, st⟩ := x; exact ⟨st _ _ p fun o q => k _ _ (.inl rfl) q, ⟨o, k _ _ (.inl rfl) e⟩, st⟩
theorem HOk.lt (x : HOk P w H h) (e : H a = some o) : a < h.objs.size := (x a o e).lt
theorem HOk.fresh (x : HOk P w H h) (e : h.objs.size ≤ a) : H a = none := by
 cases q : H a with
 | none => rfl
 | some u => exact absurd (Nat.lt_of_lt_of_le (x.lt q) e) (Nat.lt_irrefl _)
theorem HOk.kept (x : HOk P w H h) (k : ∀ b u, h.get? b = some u → h'.get? b = some u) : HOk P w H h' := fun a o e =>
 (x a o e).stay (fun b u _ q => k b u q) (fun _ q => q) fun _ _ q => q
theorem HOk.laid (x : HOk P w H h) (k : ∀ b u, h.get? b = some u → h'.get? b = some u) (hp : h.objs.size ≤ a) (new : ObjOk P w (upd H a o) h' a o) : HOk P w (upd H a o) h' := fun b u e => by
 have hn := x.fresh hp
 by_cases hb : b = a
 ·subst hb; rw [Qai] at e; cases e; exact new
 ·rw [Qaj hb] at e
  exact (x b u e).stay (fun c v _ q => k c v q) (fun c q => by rw [Qaj (Qal q hn)]; exact q) fun c xs q => by rw [Qaj (Qal q hn)]; exact q
end
def Rd (H : Hp) (a : Addr) (u : HO) : Prop := H a = some u ∨ ∃ o, H a = some (.frz o u)
theorem Rd.of {H : Hp} {a : Addr} {u : HO} (h : H a = some u) : Rd H a u := .inl h
theorem Rd.ok {P : Program} {w : World} {H : Hp} {h : Heap} {a : Addr} {u : HO} (r : Rd H a u) (x : HOk P w H h) : ObjOk P w H h a u := by
 rcases r with r | ⟨o, r⟩
 ·exact x a u r
 ·obtain ⟨_, q⟩ := x a _ r
  exact q
noncomputable def Mut : Option HO → Prop
 | some (.lst _) => True
 | some (.dK _) => True
 | some (.dT _) => True
 | some (.set _ _) => True
 | some (.ins _ _ _) => True
 | some (.ext _) => True
 | _ => False
section
variable {P : Program} {w : World} {H : Hp} {h h' : Heap} {x e : Addr} {o' : HO}
theorem HOk.write (ok : HOk P w H h) (mu : Mut (H x)) (he : e = x ∨ H e = some (.own x)) (k : ∀ b u, b ≠ e → h.get? b = some u → h'.get? b = some u) (heo : ∃ u, h'.get? e = some u)
  (new : ObjOk P w (upd H x o') h' x o') : HOk P w (upd H x o') h' := fun b u q => by
 have nown : ∀ c y, H c = some (.own y) → c ≠ x := fun c y r z => by subst z; rw [r] at mu; exact mu
 have ntup : ∀ c xs, H c = some (.tup xs) → c ≠ x := fun c xs r z => by subst z; rw [r] at mu; exact mu
 by_cases hb : b = x
 ·subst hb; rw [Qai] at q; cases q; exact new
 ·rw [Qaj hb] at q
  by_cases hbe : b = e
  ·have q' : H b = some (.own x) := by
     rcases he with z | z
     ·exact absurd (hbe.trans z) hb
     ·rw [hbe]; exact z
   rw [q] at q'; cases q'
   obtain ⟨v, hv⟩ := heo
   exact ⟨v, by rw [hbe]; exact hv⟩
  ·refine (ok b u q).stay (fun c v hc r => k c v ?_ r) (fun c r => by rw [Qaj (nown c b r)]; exact r) fun c xs r => by rw [Qaj (ntup c xs r)]; exact r
   rcases hc with rfl | hc
   ·exact hbe
   ·rintro rfl
    rcases he with z | z
    ·exact nown c b hc z
    ·rw [hc] at z; cases z; exact hb rfl
end
structure Un (fs ex : List Addr) (H H' : Hp) (h h' : Heap) : Prop where
 keep : ∀ b o, h.get? b = some o → H b = none → b ∉ fs → b ∉ ex → h'.get? b = some o
 slot : ∀ b o, h.get? b = some o → H b = none → b ∈ fs → b ∉ ex → ∃ sl, h'.get? b = some { o with slots := sl }
 free : ∀ b o, h.get? b = some o → H b = none → b ∉ ex → H' b = none
 there : ∀ b o, h.get? b = some o → b ∉ ex → ∃ o', h'.get? b = some o'
 tups : ∀ b xs, H b = some (.tup xs) → H' b = some (.tup xs)
 frzs : ∀ b o u, H b = some (.frz o u) → H' b = some (.frz o u)
 tbls : ∀ b ps, H b = some (.tbl ps) → ∃ more, H' b = some (.tbl (ps ++ more))
section
variable {fs fs' ex ex' : List Addr} {H H1 H2 : Hp} {h h1 h2 h' : Heap} {a x e : Addr} {o : HO}
theorem Un.any (u : Un fs ex H H1 h h1) {b : Addr} {ob : Obj} (q : h.get? b = some ob) (n : H b = none) (hx : b ∉ ex) : ∃ sl, h1.get? b = some { ob with slots := sl } := by
 by_cases hb : b ∈ fs
 ·exact u.slot b ob q n hb hx
 ·exact ⟨ob.slots, u.keep b ob q n hb hx⟩
theorem Un.trans (a : Un fs ex H H1 h h1) (b : Un fs ex H1 H2 h1 h2) : Un fs ex H H2 h h2 where
 keep := fun c ob q n hc hx => b.keep c ob (a.keep c ob q n hc hx) (a.free c ob q n hx) hc hx
 slot := fun c ob q n hc hx => by
  obtain ⟨sl, e1⟩ := a.slot c ob q n hc hx
  obtain ⟨sl', e2⟩ := b.slot c _ e1 (a.free c ob q n hx) hc hx
  exact ⟨sl', e2⟩
 free := fun c ob q n hx => by
  obtain ⟨o', e1⟩ := a.there c ob q hx
  exact b.free c o' e1 (a.free c ob q n hx) hx
 there := fun c ob q hx => by
  obtain ⟨o', e1⟩ := a.there c ob q hx
  exact b.there c o' e1 hx
 tups := fun c xs q => b.tups c xs (a.tups c xs q)
 frzs := fun c ob xs q => b.frzs c ob xs (a.frzs c ob xs q)
 tbls := fun c ps q => by
  obtain ⟨m1, e1⟩ := a.tbls c ps q
  obtain ⟨m2, e2⟩ := b.tbls c _ e1
  exact ⟨m1 ++ m2, by rw [e2, Array.append_assoc]⟩
theorem Un.kept (k : ∀ b u, h.get? b = some u → h'.get? b = some u) : Un fs ex H H h h' :=
 ⟨fun b ob q _ _ _ => k b ob q, fun b ob q _ _ _ => ⟨ob.slots, k b ob q⟩, fun _ _ _ n _ => n, fun b ob q _ => ⟨ob, k b ob q⟩, fun _ _ q => q, fun _ _ _ q => q, fun _ ps q => ⟨#[], by rw [q]; simp⟩⟩
theorem Un.refl : Un fs ex H H h h := Un.kept fun _ _ q => q
theorem Un.laid (k : ∀ b u, h.get? b = some u → h'.get? b = some u) (hp : h.objs.size ≤ a) (hn : H a = none) : Un fs ex H (upd H a o) h h' where
 keep := fun b u q _ _ _ => k b u q
 slot := fun b u q _ _ _ => ⟨u.slots, k b u q⟩
 free := fun b u q n _ => by rw [Qaj (Nat.ne_of_lt (Nat.lt_of_lt_of_le (Heap.lt_size q) hp))]; exact n
 there := fun b u q _ => ⟨u, k b u q⟩
 tups := fun b xs q => by rw [Qaj (Qal q hn)]; exact q
 frzs := fun b u xs q => by rw [Qaj (Qal q hn)]; exact q
 tbls := fun b ps q => ⟨#[], by rw [Qaj (Qal q hn), q]; simp⟩
theorem Un.write (mu : Mut (H x)) (he : e = x ∨ H e = some (.own x)) (k : ∀ b u, b ≠ e → h.get? b = some u → h'.get? b = some u) (heo : ∃ u, h'.get? e = some u) : Un fs ex H (upd H x o) h h' := by
 have hx : ∀ b, H b = none → b ≠ x := fun b n z => by subst z; rw [n] at mu; exact mu
 have hb : ∀ b, H b = none → b ≠ e := fun b n z => by
  subst z
  rcases he with r | r
  ·exact hx b n r
  ·rw [n] at r; cases r
 have hm : ∀ b u, H b = some u → ¬ Mut (some u) → b ≠ x := fun b u q nm z => by subst z; rw [q] at mu; exact nm mu
 refine ⟨fun b u q n _ _ => k b u (hb b n) q, fun b u q n _ _ => ⟨u.slots, k b u (hb b n) q⟩, fun b u q n _ => by rw [Qaj (hx b n)]; exact n, fun b u q _ => ?_,
  fun b xs q => by rw [Qaj (hm b _ q fun z => z)]; exact q, fun b u xs q => by rw [Qaj (hm b _ q fun z => z)]; exact q, fun b ps q => ⟨#[], by rw [Qaj (hm b _ q fun z => z), q]; simp⟩⟩
 by_cases hbe : b = e
 ·subst hbe; exact heo
 ·exact ⟨u, k b u hbe q⟩
theorem Un.mono (u : Un fs ex H H1 h h1) (hs : ∀ b ∈ fs, b ∈ fs') (hx : ∀ b ∈ ex, b ∈ ex') : Un fs' ex' H H1 h h1 :=
 ⟨fun b ob q n hb he => u.keep b ob q n (fun z => hb (hs b z)) fun z => he (hx b z), fun _ _ q n _ he => u.any q n fun z => he (hx _ z), fun b ob q n he => u.free b ob q n fun z => he (hx b z), fun b ob q he => u.there b ob q fun z => he (hx b z), u.tups, u.frzs, u.tbls⟩
end
noncomputable def trk (h : Heap) (H : Hp) : List Addr := (List.range h.objs.size).filter fun a => (H a).isSome
noncomputable def hidT (h : Heap) (H : Hp) : Heap := PySem.W.hideAll h (trk h H)
theorem Qam (h : Heap) (H : Hp) : (hidT h H).objs.size = h.objs.size := PySem.W.hideAll_size _ _
theorem Qan {h : Heap} {H : Hp} {b : Addr} {o : Obj} (e : h.get? b = some o) (n : H b = none) : (hidT h H).get? b = some o :=
 PySem.W.hideAll_get _ e fun hm => by
  have q : (H b).isSome = true := (List.mem_filter.mp hm).2
  rw [n] at q; simp at q
theorem Qao {h : Heap} {H : Hp} {b : Addr} {o : Obj} (e : (hidT h H).get? b = some o) : h.get? b = some o ∧ H b = none := by
 have e' : h.get? b = some o := PySem.W.of_hideAll (trk h H) e
 refine ⟨e', ?_⟩
 cases q : H b with
 | none => rfl
 | some x =>
  have hm : b ∈ trk h H := List.mem_filter.mpr ⟨List.mem_range.mpr (Heap.lt_size e'), by simp [q]⟩
  have z : (hidT h H).get? b = none := PySem.W.hideAll_none (trk h H) hm
  rw [z] at e; cases e
noncomputable def allNews (g h : Heap) (L : Addr) : List (Addr × Obj) := (List.range h.objs.size).filterMap fun a => if a = L ∨ (g.get? a).isSome = true then none else (h.get? a).map fun o => (a, o)
noncomputable def rest (g h : Heap) (L d : Addr) : List (Addr × Obj) := (allNews g h L).filter fun p => decide (p.1 ≠ d)
end L2
namespace L2
open PySem PySem.Spec PyProof.Rows
structure Mod (K : PySem.W.Frag) (mg : Str → Option Value) (base : Heap) : Prop where
 kin : K.In base
 glob : base.Ns mainGlobals mg
 blt : ∃ mb, base.Ns builtinsNs mb ∧ ∀ x : Str, x ≠ "__name__" → mb x = bootBuiltins x
 nolimit : base.NoLimit
structure Cx where
 prog : Program
 w : World
 K : PySem.W.Frag
 mg : Str → Option Value
 base : Heap
 A : Around
 N : List Str
 s₀ : Shared
 H₀ : Hp
 env : Env
 outer : List Env
 stack : List Env
 ex : List Addr
 fn : Str → Bool
 calm : Bool
 pn : List (Addr × Obj)
 xe : Value → Shared → Prop
noncomputable def frs (l : List Env) : List Addr := l.filterMap (·.frame)
noncomputable abbrev Cx.fs (X : Cx) : List Addr := frs X.outer
def Vis (sc : Scope) (x : Str) : Prop := sc.names.lookup x = some .local ∨ sc.names.lookup x = some .cell ∨ sc.names.lookup x = some .free
def Loc (sc : Scope) (x : Str) : Prop := sc.names.lookup x = some .local ∨ sc.names.lookup x = some .cell
def Look (env : Env) (h : Heap) (m : Str → Option Value) (x : Str) (u : Value) : Prop :=
 (env.kindOf x = some .local ∧ m x = some u) ∨ ((env.kindOf x = some .cell ∨ env.kindOf x = some .free) ∧ ∃ c, env.cells.lookup x = some c ∧ h.IsCell c (some u))
structure Cx.Ok (X : Cx) : Prop where
 mod : Mod X.K X.mg X.base
 kind : X.env.scope.kind = .function
 glob : X.env.globals = mainGlobals
 blt : X.env.builtins = builtinsNs
 above : X.s₀.heap.objs.size ≤ X.env.locals
 inj : ∀ x y c, X.env.cells.lookup x = some c → X.env.cells.lookup y = some c → x = y
 has : ∀ x, (X.env.kindOf x = some .cell ∨ X.env.kindOf x = some .free) → ∃ c, X.env.cells.lookup x = some c
 cab : ∀ x c, X.fn x = true → X.env.cells.lookup x = some c → X.s₀.heap.objs.size ≤ c
 hd : X.calm = true → X.A.handled = none
 frames : X.A.frames = some X.stack
 stk : X.stack = X.outer ∨ (X.stack = X.env :: X.outer ∧ X.env.frame = some X.env.locals)
 exf : ∀ b ∈ X.ex, b ≠ X.env.locals ∧ ∀ x c, X.env.cells.lookup x = some c → c ≠ b
 bs : ∀ b o, X.base.get? b = some o → X.s₀.heap.get? b = some o ∧ X.H₀ b = none
 bsz : X.base.objs.size ≤ X.s₀.heap.objs.size
 noex : ∀ b o, X.base.get? b = some o → b ∉ X.ex
 exfs : ∀ b ∈ X.ex, b ∉ X.fs
 funs : X.s₀.heap.FunFrames X.base X.outer
 frf : ∀ b ∈ X.fs, X.H₀ b = none
structure Inv (X : Cx) (pins : List (Addr × Obj)) (σ : List (Option V)) (H : Hp) (s : Shared) : Prop where
 ok : X.Ok
 os : s.os = X.s₀.os
 bare : AllBare s.gens
 base : Un X.fs X.ex X.H₀ H X.s₀.heap s.heap
 loc : ∃ m, s.heap.Ns X.env.locals m ∧ ∀ (i : Nat) (x : Str) (v : V), X.N[i]? = some x → σ[i]? = some (some v) → Vis X.env.scope x → ∃ u, RelV v u ∧ Look X.env s.heap m x u
 cell : ∀ x c, X.env.cells.lookup x = some c → ∃ v, s.heap.IsCell c v
 free : H X.env.locals = none
 freeC : ∀ x c, X.env.cells.lookup x = some c → H c = none
 pin : ∀ p ∈ X.pn ++ pins, s.heap.get? p.1 = some p.2 ∧ H p.1 = none ∧ p.1 ≠ X.env.locals ∧ p.1 ∉ X.fs ∧ ∀ v, p.2.data ≠ .cell v
 hok : HOk X.prog X.w H s.heap
 len : σ.length = X.N.length
section
variable {X : Cx} {pins : List (Addr × Obj)} {σ : List (Option V)} {H H' : Hp} {s : Shared} {h' : Heap}
theorem Cx.Ok.nofr (ok : X.Ok) {b : Addr} {o : Obj} (e : X.base.get? b = some o) : b ∉ X.fs := fun hb => by
 have := (ok.funs.mem hb).1
 rw [e] at this; cases this
theorem Inv.bs (I : Inv X pins σ H s) : ∀ b o, X.base.get? b = some o → s.heap.get? b = some o ∧ H b = none := fun b o e =>
 ⟨I.base.keep b o (I.ok.bs b o e).1 (I.ok.bs b o e).2 (I.ok.nofr e) (I.ok.noex b o e), I.base.free b o (I.ok.bs b o e).1 (I.ok.bs b o e).2 (I.ok.noex b o e)⟩
theorem Inv.bk (I : Inv X pins σ H s) : ∀ b o, X.base.get? b = some o → s.heap.get? b = some o := fun b o e => (I.bs b o e).1
theorem Inv.mod (I : Inv X pins σ H s) : Mod X.K X.mg X.base := I.ok.mod
theorem Inv.kIn (I : Inv X pins σ H s) : X.K.In s.heap := I.ok.mod.kin.keeps I.bk
theorem Inv.nolimit (I : Inv X pins σ H s) : s.heap.NoLimit := I.ok.mod.nolimit.keeps I.bk
theorem Inv.fr (I : Inv X pins σ H s) : ∃ m, Fr X.base X.env.locals s.heap m :=
 let ⟨m, hn, _⟩ := I.loc
 ⟨m, hn, I.bk, Nat.le_trans I.ok.bsz I.ok.above⟩
theorem Inv.lt (I : Inv X pins σ H s) : X.env.locals < s.heap.objs.size := let ⟨_, hn, _⟩ := I.loc; hn.lt
theorem Inv.sz (I : Inv X pins σ H s) : X.s₀.heap.objs.size ≤ s.heap.objs.size := Nat.le_trans I.ok.above (Nat.le_of_lt I.lt)
theorem Inv.nofs (I : Inv X pins σ H s) {a : Addr} (h : s.heap.objs.size ≤ a) : a ∉ X.fs := fun hb => by
 obtain ⟨_, o, ho, _⟩ := I.ok.funs.mem hb
 exact absurd (Nat.lt_of_lt_of_le (Heap.lt_size ho) (Nat.le_trans I.sz h)) (Nat.lt_irrefl _)
theorem Inv.cne (I : Inv X pins σ H s) : ∀ x c, X.env.cells.lookup x = some c → c ≠ X.env.locals := fun x c e z => by
 obtain ⟨v, o, ho, hd⟩ := I.cell x c e
 obtain ⟨m, ⟨o', es, ep, ho', hd', _⟩, _⟩ := I.loc
 rw [z, ho'] at ho; cases ho; rw [hd'] at hd; cases hd
theorem Inv.funs (I : Inv X pins σ H s) : s.heap.FunFrames X.base X.outer := by
 have all : ∀ (l : List Env), (∀ b ∈ frs l, b ∈ X.fs) → X.s₀.heap.FunFrames X.base l → s.heap.FunFrames X.base l := by
  intro l
  induction l with
  | nil => intro _ _; trivial
  | cons env r ih =>
   intro hs hl
   obtain ⟨hk, ⟨L, o, hf, hn, ho, hd⟩, hr⟩ := hl
   have hL : L ∈ X.fs := hs L (by unfold frs; rw [List.filterMap_cons, hf]; exact List.mem_cons_self)
   obtain ⟨sl, e⟩ := I.base.slot L o ho (I.ok.frf L hL) hL fun z => I.ok.exfs L z hL
   exact ⟨hk, ⟨L, _, hf, hn, e, hd⟩, ih (fun b hb => hs b (by unfold frs; rw [List.filterMap_cons, hf]; exact List.mem_cons_of_mem _ hb)) hr⟩
 exact all X.outer (fun _ hb => hb) I.ok.funs
theorem Inv.stack (I : Inv X pins σ H s) : s.heap.FunFrames X.base X.stack := by
 rcases I.ok.stk with e | ⟨e, hf⟩
 ·rw [e]; exact I.funs
 ·rw [e]
  obtain ⟨m, hn, _⟩ := I.loc
  refine .cons (by rw [I.ok.kind]; decide) hf hn ?_ I.funs
  exact Heap.get?_none_of_le (Nat.le_trans I.ok.bsz I.ok.above)
theorem Inv.stkSub (I : Inv X pins σ H s) : ∀ b ∈ frs X.stack, b ∈ X.env.locals :: X.fs := fun b hb => by
 rcases I.ok.stk with e | ⟨e, hf⟩
 ·rw [e] at hb; exact List.mem_cons_of_mem _ hb
 ·rw [e] at hb
  unfold frs at hb
  rw [List.filterMap_cons, hf] at hb
  exact hb
theorem Inv.stkFree (I : Inv X pins σ H s) : ∀ b ∈ frs X.stack, H b = none := fun b hb => by
 rcases List.mem_cons.mp (I.stkSub b hb) with e | hb
 ·rw [e]; exact I.free
 ·obtain ⟨_, o, ho, _⟩ := I.ok.funs.mem hb
  exact I.base.free b o ho (I.ok.frf b hb) fun z => I.ok.exfs b z hb
theorem Inv.step {g' : Array GenState} {t' : Nat} {d' : Drawn} {ch : List Addr} (I : Inv X pins σ H s)
  (hch : ∀ b ∈ ch, (b ∈ X.ex ∨ X.s₀.heap.objs.size ≤ b) ∧ b ≠ X.env.locals ∧ (∀ x c, X.env.cells.lookup x = some c → c ≠ b) ∧ ∀ p ∈ X.pn ++ pins, p.1 ≠ b)
  (keep : ∀ b o, b ≠ X.env.locals → b ∉ X.fs → b ∉ ch → s.heap.get? b = some o → H b = none → h'.get? b = some o)
  (slot : ∀ b o, b ≠ X.env.locals → b ∈ X.fs → b ∉ ch → s.heap.get? b = some o → H b = none → ∃ sl, h'.get? b = some { o with slots := sl }) (free : ∀ b o, b ∉ ch → s.heap.get? b = some o → H b = none → H' b = none)
  (there : ∀ b o, b ∉ ch → s.heap.get? b = some o → ∃ o', h'.get? b = some o')
  (tups : ∀ b xs, H b = some (.tup xs) → H' b = some (.tup xs)) (frzs : ∀ b o u, H b = some (.frz o u) → H' b = some (.frz o u)) (tbls : ∀ b ps, H b = some (.tbl ps) → ∃ more, H' b = some (.tbl (ps ++ more)))
  (ns : ∀ m, s.heap.Ns X.env.locals m → h'.Ns X.env.locals m) (hok : HOk X.prog X.w H' h') (hg : AllBare g') :
  Inv X pins σ H' { s with heap := h', gens := g', drawn := d', toks := t' } := by
 have neL : ∀ b o, X.s₀.heap.get? b = some o → b ≠ X.env.locals := fun b o e => Nat.ne_of_lt (Nat.lt_of_lt_of_le (Heap.lt_size e) I.ok.above)
 have neC : ∀ b o, X.s₀.heap.get? b = some o → b ∉ X.ex → b ∉ ch := fun b o e hx hb => by
  rcases (hch b hb).1 with z | z
  ·exact hx z
  ·exact absurd (Nat.lt_of_lt_of_le (Heap.lt_size e) z) (Nat.lt_irrefl _)
 have cellK : ∀ x c, X.env.cells.lookup x = some c → ∀ v, s.heap.IsCell c v → h'.IsCell c v := fun x c e v pq1 => by
  obtain ⟨o, ho, hd⟩ := pq1
  have nch : c ∉ ch := fun z => (hch c z).2.2.1 x c e rfl
  by_cases hc : c ∈ X.fs
  ·obtain ⟨sl, q⟩ := slot c o (I.cne x c e) hc nch ho (I.freeC x c e)
   exact ⟨_, q, hd⟩
  ·exact ⟨o, keep c o (I.cne x c e) hc nch ho (I.freeC x c e), hd⟩
 refine ⟨I.ok, I.os, hg, ⟨fun b o e n hb hx => ?_, fun b o e n hb hx => ?_, fun b o e n hx => ?_, fun b o e hx => ?_, fun b xs e => tups b xs (I.base.tups b xs e), fun b o xs e => frzs b o xs (I.base.frzs b o xs e), fun b ps e => ?_⟩, ?_, fun x c e => ?_, ?_, fun x c e => ?_, fun p hp => ?_, hok, I.len⟩
 ·exact keep b o (neL b o e) hb (neC b o e hx) (I.base.keep b o e n hb hx) (I.base.free b o e n hx)
 ·obtain ⟨sl, e1⟩ := I.base.slot b o e n hb hx
  obtain ⟨sl', e2⟩ := slot b _ (neL b o e) hb (neC b o e hx) e1 (I.base.free b o e n hx)
  exact ⟨sl', e2⟩
 ·obtain ⟨o', e1⟩ := I.base.there b o e hx
  exact free b o' (neC b o e hx) e1 (I.base.free b o e n hx)
 ·obtain ⟨o', e1⟩ := I.base.there b o e hx
  exact there b o' (neC b o e hx) e1
 ·obtain ⟨m1, e1⟩ := I.base.tbls b ps e
  obtain ⟨m2, e2⟩ := tbls b _ e1
  exact ⟨m1 ++ m2, by rw [e2, Array.append_assoc]⟩
 ·obtain ⟨m, hn, hl⟩ := I.loc
  refine ⟨m, ns m hn, fun i x v e1 e2 e3 => ?_⟩
  obtain ⟨u, r, l⟩ := hl i x v e1 e2 e3
  refine ⟨u, r, ?_⟩
  rcases l with l | ⟨k, c, e, z⟩
  ·exact .inl l
  ·exact .inr ⟨k, c, e, cellK x c e _ z⟩
 ·obtain ⟨v, z⟩ := I.cell x c e
  exact ⟨v, cellK x c e v z⟩
 ·obtain ⟨m, ⟨o, _, _, ho, _⟩, _⟩ := I.loc
  exact free _ o (fun z => (hch _ z).2.1 rfl) ho I.free
 ·obtain ⟨v, o, ho, hd⟩ := I.cell x c e
  exact free c o (fun z => (hch c z).2.2.1 x c e rfl) ho (I.freeC x c e)
 ·obtain ⟨e, n, ne, nf, d⟩ := I.pin p hp
  have nch : p.1 ∉ ch := fun z => (hch p.1 z).2.2.2 p hp rfl
  exact ⟨keep p.1 p.2 ne nf nch e n, free p.1 p.2 nch e n, ne, nf, d⟩
theorem Inv.un {t' : Nat} (I : Inv X pins σ H s) (u : Un X.fs [] H H' s.heap h') (hok : HOk X.prog X.w H' h') : Inv X pins σ H' { s with heap := h', toks := t' } := by
 obtain ⟨m, ⟨o, es, ep, ho, r⟩, _⟩ := id I.loc
 obtain ⟨sl, hL⟩ := u.any ho I.free (by simp)
 exact I.step (g' := s.gens) (d' := s.drawn) (ch := []) (fun _ z => nomatch z) (fun b o _ hb _ e n => u.keep b o e n hb (by simp)) (fun b o _ hb _ e n => u.slot b o e n hb (by simp)) (fun b o _ e n => u.free b o e n (by simp)) (fun b o _ e => u.there b o e (by simp)) u.tups u.frzs u.tbls (fun m' hm => by
  obtain ⟨o', es', ep', ho', r'⟩ := hm
  rw [ho] at ho'; cases ho'
  exact ⟨_, es', ep', hL, r'⟩) hok I.bare
theorem Inv.call {g' : Array GenState} {t' : Nat} {d' : Drawn} {ch : List Addr} (I : Inv X pins σ H s) (u : Un (frs X.stack) ch H H' s.heap h') (hok : HOk X.prog X.w H' h') (hg : AllBare g')
  (hch : ∀ b ∈ ch, (b ∈ X.ex ∨ X.s₀.heap.objs.size ≤ b) ∧ b ≠ X.env.locals ∧ (∀ x c, X.env.cells.lookup x = some c → c ≠ b) ∧ ∀ p ∈ X.pn ++ pins, p.1 ≠ b) :
  Inv X pins σ H' { s with heap := h', gens := g', drawn := d', toks := t' } := by
 obtain ⟨m, ⟨o, es, ep, ho, r⟩, _⟩ := id I.loc
 obtain ⟨sl, hL⟩ := u.any ho I.free fun z => (hch _ z).2.1 rfl
 exact I.step (ch := ch) hch (fun b o hL hb hc e n => u.keep b o e n (fun z => (List.mem_cons.mp (I.stkSub b z)).elim hL hb) hc) (fun b o _ _ hc e n => u.any e n hc) (fun b o hc e n => u.free b o e n hc) (fun b o hc e => u.there b o e hc) u.tups u.frzs u.tbls (fun m' hm => by
  obtain ⟨o', es', ep', ho', r'⟩ := hm
  rw [ho] at ho'; cases ho'
  exact ⟨_, es', ep', hL, r'⟩) hok hg
theorem Inv.turned {t' : Nat} {it : Addr} (I : Inv X pins σ H s) (k : ∀ b o, b ≠ it → s.heap.get? b = some o → h'.get? b = some o) (hn : H it = none) (hL : it ≠ X.env.locals)
  (h1 : it ∈ X.ex ∨ X.s₀.heap.objs.size ≤ it) (h2 : ∀ x c, X.env.cells.lookup x = some c → c ≠ it) (h3 : ∀ p ∈ X.pn ++ pins, p.1 ≠ it) : Inv X pins σ H { s with heap := h', toks := t' } := by
 have nit : ∀ b u, H b = some u → b ≠ it := fun b u e z => by rw [z, hn] at e; cases e
 refine I.step (g' := s.gens) (d' := s.drawn) (ch := [it]) (fun b hb => ?_) (fun b o _ _ hc e _ => k b o (fun z => hc (by simp [z])) e) (fun b o _ _ hc e _ => ⟨o.slots, k b o (fun z => hc (by simp [z])) e⟩) (fun _ _ _ _ n => n)
  (fun b o hc e => ⟨o, k b o (fun z => hc (by simp [z])) e⟩) (fun _ _ e => e) (fun _ _ _ e => e) (fun b ps e => ⟨#[], by rw [e]; simp⟩) (fun m hm => ?_) (fun b u e => ?_) I.bare
 ·have e : b = it := by simpa using hb
  subst e
  exact ⟨h1, hL, h2, h3⟩
 ·obtain ⟨o, es, ep, ho, r⟩ := hm
  exact ⟨o, es, ep, k _ o (Ne.symm hL) ho, r⟩
 ·refine (I.hok b u e).stay (fun c v hc q => k c v ?_ q) (fun _ q => q) fun _ _ q => q
  rcases hc with z | z
  ·rw [z]; exact nit b u e
  ·exact nit c _ z
theorem Inv.tok (I : Inv X pins σ H s) (t : Nat) : Inv X pins σ H { s with toks := t } := I.un (h' := s.heap) (t' := t) Un.refl I.hok
theorem Inv.kept {t' : Nat} (I : Inv X pins σ H s) (k : ∀ b u, s.heap.get? b = some u → h'.get? b = some u) : Inv X pins σ H { s with heap := h', toks := t' } := I.un (Un.kept k) (I.hok.kept k)
theorem Inv.laid {a : Addr} {o : HO} {t' : Nat} (I : Inv X pins σ H s) (k : ∀ b u, s.heap.get? b = some u → h'.get? b = some u) (hp : s.heap.objs.size ≤ a) (new : ObjOk X.prog X.w (upd H a o) h' a o) :
  Inv X pins σ (upd H a o) { s with heap := h', toks := t' } := I.un (Un.laid k hp (I.hok.fresh hp)) (I.hok.laid k hp new)
theorem Inv.write {x e : Addr} {o : HO} {t' : Nat} (I : Inv X pins σ H s) (mu : Mut (H x)) (he : e = x ∨ H e = some (.own x)) (k : ∀ b u, b ≠ e → s.heap.get? b = some u → h'.get? b = some u) (heo : ∃ u, h'.get? e = some u)
  (new : ObjOk X.prog X.w (upd H x o) h' x o) : Inv X pins σ (upd H x o) { s with heap := h', toks := t' } := I.un (Un.write mu he k heo) (I.hok.write mu he k heo new)
theorem Inv.pins_of {pins' : List (Addr × Obj)} (I : Inv X pins σ H s) (h : ∀ p ∈ pins', s.heap.get? p.1 = some p.2 ∧ H p.1 = none ∧ p.1 ≠ X.env.locals ∧ p.1 ∉ X.fs ∧ ∀ v, p.2.data ≠ .cell v) : Inv X pins' σ H s :=
 ⟨I.ok, I.os, I.bare, I.base, I.loc, I.cell, I.free, I.freeC, fun p hp => (List.mem_append.mp hp).elim (fun z => I.pin p (List.mem_append_left _ z)) (h p), I.hok, I.len⟩
theorem Qap {N : List Str} (hN : N.Nodup) {i j : Nat} {x : Str} (a : N[i]? = some x) (b : N[j]? = some x) : i = j := by
 obtain ⟨h1, e1⟩ := List.getElem?_eq_some_iff.mp a
 obtain ⟨h2, e2⟩ := List.getElem?_eq_some_iff.mp b
 exact (List.getElem_inj hN).mp (e1.trans e2.symm)
theorem Qaq {M : Model} {A : Around} {E : Value → Shared → Prop} {i : Nat} {x : Str} {v : V} {u : Value} {Q : Unit → Shared → Prop} (I : Inv X pins σ H s) (hN : X.N.Nodup) (hi : X.N[i]? = some x) (hx : Loc X.env.scope x) (r : RelV v u)
  (h : ∀ s', Inv X pins (σ.set i (some v)) H s' → (∃ a, Heap.SameBut a s.heap s'.heap ∧ (a = X.env.locals ∨ X.env.cells.lookup x = some a)) → Q () s') (hf : X.fn x = true ∨ X.env.scope.names.lookup x = some .local := by first | exact .inl rfl | exact .inr rfl | assumption) : wpAny M A (storeName X.env x u) Q E s := by
 obtain ⟨m, hn, hl⟩ := id I.loc
 have hcls : (X.env.scope.kind == .class || (X.env.scope.kind == .module && X.env.locals != X.env.globals)) = false := by rw [I.ok.kind]; rfl
 have hiσ : i < σ.length := by rw [I.len]; exact (List.getElem?_eq_some_iff.mp hi).1
 have cne := I.cne
 have tracked : ∀ {a : Addr} {h' : Heap}, (∃ o, s.heap.get? a = some o ∧ H a = none) → Heap.SameBut a s.heap h' → HOk X.prog X.w H h' := fun {a h'} ha hs b ob e => by
  obtain ⟨_, _, hfree⟩ := ha
  refine (I.hok b ob e).stay (fun c w' hc q => (hs.2 c ?_).trans q) (fun _ q => q) fun _ _ q => q
  rintro rfl
  rcases hc with rfl | hc
  ·rw [hfree] at e; cases e
  ·rw [hfree] at hc; cases hc
 rcases hx with hk | hk
 ·refine wpAny_storeName_local hk hn (fun h' hn' hs => ?_) hcls
  obtain ⟨oL, _, _, hoL, _⟩ := id hn
  refine h _ ⟨I.ok, I.os, I.bare, ⟨fun b o e n hb hx => ?_, fun b o e n hb hx => ?_, I.base.free, fun b o e hx => ?_, I.base.tups, I.base.frzs, I.base.tbls⟩, ⟨_, hn', fun j y v' e1 e2 e3 => ?_⟩, fun y c e => ?_, I.free, I.freeC, fun p hp => ?_, tracked ⟨oL, hoL, I.free⟩ hs, by simpa using I.len⟩ ⟨_, hs, .inl rfl⟩
  ·exact (hs.2 b (Nat.ne_of_lt (Nat.lt_of_lt_of_le (Heap.lt_size e) I.ok.above))).trans (I.base.keep b o e n hb hx)
  ·obtain ⟨sl, e1⟩ := I.base.slot b o e n hb hx
   exact ⟨sl, (hs.2 b (Nat.ne_of_lt (Nat.lt_of_lt_of_le (Heap.lt_size e) I.ok.above))).trans e1⟩
  ·obtain ⟨o', e1⟩ := I.base.there b o e hx
   exact ⟨o', (hs.2 b (Nat.ne_of_lt (Nat.lt_of_lt_of_le (Heap.lt_size e) I.ok.above))).trans e1⟩
  ·by_cases hj : j = i
   ·subst hj
    rw [hi] at e1; cases e1
    rw [List.getElem?_set_self hiσ] at e2
    cases e2
    exact ⟨u, r, .inl ⟨hk, by simp⟩⟩
   ·rw [List.getElem?_set_ne (Ne.symm hj)] at e2
    obtain ⟨u', r', q⟩ := hl j y v' e1 e2 e3
    refine ⟨u', r', ?_⟩
    rcases q with ⟨k, e⟩ | ⟨k, c, e, z⟩
    ·refine .inl ⟨k, ?_⟩
     have : y ≠ x := fun e => hj (Qap hN e1 (e ▸ hi))
     simp [this, e]
    ·exact .inr ⟨k, c, e, z.sameBut hs (cne y c e)⟩
  ·obtain ⟨w', z⟩ := I.cell y c e
   exact ⟨w', z.sameBut hs (cne y c e)⟩
  ·obtain ⟨e, n, ne, nf, d⟩ := I.pin p hp
   exact ⟨(hs.2 p.1 ne).trans e, n, ne, nf, d⟩
 ·have hfn : X.fn x = true := by
    rcases hf with z | z
    ·exact z
    ·rw [z] at hk; cases hk
  obtain ⟨c, hc⟩ := I.ok.has x (.inl hk)
  obtain ⟨w', z⟩ := I.cell x c hc
  refine wpAny_storeName_cell I.ok.kind hk hc z (fun h' hc' hs => ?_)
  obtain ⟨oc, hoc, hocd⟩ := id z
  refine h { s with heap := h' } ⟨I.ok, I.os, I.bare, ⟨fun b o e n hb hx => ?_, fun b o e n hb hx => ?_, I.base.free, fun b o e hx => ?_, I.base.tups, I.base.frzs, I.base.tbls⟩, ⟨m, hn.sameBut hs (Ne.symm (cne x c hc)), fun j y v' e1 e2 e3 => ?_⟩, fun y c' e => ?_, I.free, I.freeC, fun p hp => ?_, tracked ⟨oc, hoc, I.freeC x c hc⟩ hs, by simpa using I.len⟩ ⟨c, hs, .inr hc⟩
  ·exact (hs.2 b (Nat.ne_of_lt (Nat.lt_of_lt_of_le (Heap.lt_size e) (I.ok.cab x c hfn hc)))).trans (I.base.keep b o e n hb hx)
  ·obtain ⟨sl, e1⟩ := I.base.slot b o e n hb hx
   exact ⟨sl, (hs.2 b (Nat.ne_of_lt (Nat.lt_of_lt_of_le (Heap.lt_size e) (I.ok.cab x c hfn hc)))).trans e1⟩
  ·obtain ⟨o', e1⟩ := I.base.there b o e hx
   exact ⟨o', (hs.2 b (Nat.ne_of_lt (Nat.lt_of_lt_of_le (Heap.lt_size e) (I.ok.cab x c hfn hc)))).trans e1⟩
  ·by_cases hj : j = i
   ·subst hj
    rw [hi] at e1; cases e1
    rw [List.getElem?_set_self hiσ] at e2
    cases e2
    exact ⟨u, r, .inr ⟨.inl hk, c, hc, hc'⟩⟩
   ·rw [List.getElem?_set_ne (Ne.symm hj)] at e2
    obtain ⟨u', r', q⟩ := hl j y v' e1 e2 e3
    refine ⟨u', r', ?_⟩
    rcases q with q | ⟨k, c', e, z'⟩
    ·exact .inl q
    ·refine .inr ⟨k, c', e, z'.sameBut hs ?_⟩
     rintro rfl
     exact hj (Qap hN e1 (I.ok.inj _ _ _ e hc ▸ hi))
  ·by_cases hcc : c' = c
   ·subst hcc; exact ⟨_, hc'⟩
   ·obtain ⟨w2, z2⟩ := I.cell y c' e
    exact ⟨w2, z2.sameBut hs hcc⟩
  ·obtain ⟨e, n, ne, nf, d⟩ := I.pin p hp
   refine ⟨(hs.2 p.1 ?_).trans e, n, ne, nf, d⟩
   intro q
   rw [q, hoc] at e
   have q' : oc = p.2 := Option.some.inj e
   exact d w' (by rw [← q']; exact hocd)
theorem Qar {M : Model} {A : Around} {E : Value → Shared → Prop} {i : Nat} {x : Str} {v : V} {u : Value} {Q : Unit → Shared → Prop} (I : Inv X pins σ H s) (hN : X.N.Nodup) (hi : X.N[i]? = some x) (hx : Loc X.env.scope x) (r : RelV v u)
  (h : ∀ s', Inv X pins (σ.set i (some v)) H s' → Q () s') (hf : X.fn x = true ∨ X.env.scope.names.lookup x = some .local := by first | exact .inl rfl | exact .inr rfl | assumption) : wpAny M A (storeName X.env x u) Q E s :=
 Qaq I hN hi hx r (fun s' I' _ => h s' I') hf
theorem Inv.call' {s' : Shared} {ch : List Addr} (I : Inv X pins σ H s) (ho : s'.os = s.os) (u : Un (frs X.stack) ch H H' s.heap s'.heap) (hok : HOk X.prog X.w H' s'.heap) (hg : AllBare s'.gens)
  (hch : ∀ b ∈ ch, (b ∈ X.ex ∨ X.s₀.heap.objs.size ≤ b) ∧ b ≠ X.env.locals ∧ (∀ x c, X.env.cells.lookup x = some c → c ≠ b) ∧ ∀ p ∈ X.pn ++ pins, p.1 ≠ b) : Inv X pins σ H' s' := by
 obtain ⟨h', g', d', t', o'⟩ := s'
 have e : o' = s.os := ho
 subst e
 exact I.call (g' := g') (t' := t') (d' := d') u hok hg hch
end
noncomputable abbrev XK := Value → Option Addr → Hp → Prop
noncomputable abbrev St := List (Option V)
noncomputable abbrev VK := V → Hp → Prop
noncomputable abbrev TE := St → Hp → VK → Prop
noncomputable abbrev TT := St → Hp → (Bool → Hp → Prop) → Prop
noncomputable abbrev TA := St → Hp → (List V → Hp → Prop) → Prop
structure Ends where
 nx : St → Hp → Prop
 rt : VK
 bk : St → Hp → Prop := fun _ _ => False
 ct : St → Hp → Prop := fun _ _ => False
noncomputable abbrev TS := Ends → St → Hp → Prop
def EP (X : Cx) (pins : List (Addr × Obj)) (σ : St) (Q : VK) (u : Value) (s' : Shared) : Prop := ∃ v H', Inv X pins σ H' s' ∧ RelV v u ∧ Q v H'
def TP (X : Cx) (pins : List (Addr × Obj)) (σ : St) (Q : Bool → Hp → Prop) (b : Bool) (s' : Shared) : Prop := ∃ H', Inv X pins σ H' s' ∧ Q b H'
def AP (X : Cx) (pins : List (Addr × Obj)) (σ : St) (Q : List V → Hp → Prop) (us : List Value) (s' : Shared) : Prop := ∃ vs H', Inv X pins σ H' s' ∧ Vals vs us ∧ Q vs H'
def SP (X : Cx) (pins : List (Addr × Obj)) (D : Ends) (f : Flow) (s' : Shared) : Prop :=
 match f with
 | .next => ∃ σ' H', Inv X pins σ' H' s' ∧ D.nx σ' H'
 | .brk => ∃ σ' H', Inv X pins σ' H' s' ∧ D.bk σ' H'
 | .cont => ∃ σ' H', Inv X pins σ' H' s' ∧ D.ct σ' H'
 | .ret u => ∃ v σ' H', Inv X pins σ' H' s' ∧ RelV v u ∧ D.rt v H'
def PE (X : Cx) (e : Expr) (t : TE) : Prop :=
 ∀ (pins : List (Addr × Obj)) (s : Shared) (σ : St) (H : Hp) (Q : VK), Inv X pins σ H s → t σ H Q → wpAny (model X.prog X.w) X.A (eval e X.env) (EP X pins σ Q) X.xe s
def PT (X : Cx) (e : Expr) (t : TT) : Prop :=
 ∀ (pins : List (Addr × Obj)) (s : Shared) (σ : St) (H : Hp) (Q : Bool → Hp → Prop), Inv X pins σ H s → t σ H Q → wpAny (model X.prog X.w) X.A (isTrue e X.env (eval e X.env)) (TP X pins σ Q) X.xe s
def PW (X : Cx) (e : Expr) (t : TT) : Prop :=
 ∀ (whole : Sem Value) (pins : List (Addr × Obj)) (s : Shared) (σ : St) (H : Hp) (Q : Bool → Hp → Prop), Inv X pins σ H s → t σ H Q → wpAny (model X.prog X.w) X.A (isTrue e X.env whole) (TP X pins σ Q) X.xe s
theorem PW.pt {X : Cx} {e : Expr} {t : TT} (h : PW X e t) : PT X e t := h _
def PA (X : Cx) (es : List Expr) (t : TA) : Prop :=
 ∀ (pos : Pos) (pins : List (Addr × Obj)) (s : Shared) (σ : St) (H : Hp) (Q : List V → Hp → Prop), Inv X pins σ H s → t σ H Q → wpAny (model X.prog X.w) X.A (spliced (backTo pos (starEach es X.env))) (AP X pins σ Q) X.xe s
def PS (X : Cx) (st : Stmt) (t : TS) : Prop :=
 ∀ (pins : List (Addr × Obj)) (s : Shared) (σ : St) (H : Hp) (D : Ends), Inv X pins σ H s → t D σ H → wpAny (model X.prog X.w) X.A (exec st X.env) (SP X pins D) X.xe s
def PSs (X : Cx) (st : List Stmt) (t : TS) : Prop :=
 ∀ (pins : List (Addr × Obj)) (s : Shared) (σ : St) (H : Hp) (D : Ends), Inv X pins σ H s → t D σ H → wpAny (model X.prog X.w) X.A (execs st X.env) (SP X pins D) X.xe s
theorem thn {α : Type} {t : Sem α} {Q Q' : α → Shared → Prop} {M : Model} {A : Around} {E : Value → Shared → Prop} {s : Shared} (h : wpAny M A t Q E s) (hQ : ∀ a s, Q a s → Q' a s) : wpAny M A t Q' E s := wpAny_mono h hQ fun _ _ x => x
end L2
namespace L2
open PySem PySem.Spec PyProof.Rows
section
variable {X : Cx}
noncomputable def tVar (i : Nat) : TE := fun σ H Q => ∃ v, σ[i]? = some (some v) ∧ Q v H
noncomputable def tC (v : V) : TE := fun _ H Q => Q v H
theorem Qas {i : Nat} {x : Str} {pos : Pos} (hN : X.N[i]? = some x) (hv : Vis X.env.scope x) (hd : (x == ("__debug__" : Str)) = false := by decide) (hcd : (x == ("__classdict__" : Str)) = false := by decide) : PE X (.Name x pos) (tVar i) := by
 intro pins s σ H Q I h
 obtain ⟨v, e, h⟩ := h
 obtain ⟨m, hn, hl⟩ := I.loc
 obtain ⟨u, r, l⟩ := hl i x v hN e hv
 have fin : EP X pins σ Q u s := ⟨v, H, I, r, h⟩
 rcases l with ⟨hk, hm⟩ | ⟨hk, c, hc, hcell⟩
 ·exact wpAny_Name (wpAny_loadName_local I.ok.kind hk hn hm fin) hd
 ·rcases hk with hk | hk
  ·exact wpAny_Name (wpAny_loadName_cell I.ok.kind hk hc hcell fin) hd
  ·exact wpAny_Name (wpAny_loadName_free I.ok.kind hk hc hcell fin hcd) hd
theorem Qat {i j pos} : PE X (.Constant (.int i) j pos) (tC (.int i)) := fun _ _ _ H _ I h => wpAny_Constant_int ⟨.int i, H, I.tok _, ⟨_, rfl⟩, h⟩
theorem Qau {b j pos} : PE X (.Constant (.bool b) j pos) (tC (.bl b)) := fun _ _ _ H _ I h => Constant_bool ⟨.bl b, H, I, rfl, h⟩
theorem Qav {j pos} : PE X (.Constant .none j pos) (tC .non) := fun _ _ _ H _ I h => Constant_none ⟨.non, H, I, rfl, h⟩
theorem Qaw {x j pos} : PE X (.Constant (.str x) j pos) (tC (.str x)) := fun _ _ _ H _ I h => Calls.Constant_str ⟨.str x, H, I.tok _, ⟨_, rfl⟩, h⟩
def Gl (X : Cx) (x : Str) : Prop := X.env.kindOf x = some .globalImplicit
theorem Qax {E : Value → Shared → Prop} {pins : List (Addr × Obj)} {s : Shared} {σ : St} {H : Hp} {x : Str} {u : Value} {pos : Pos} {Q : Value → Shared → Prop} (I : Inv X pins σ H s) (hg : Gl X x) (hm : X.mg x = some u) (h : Q u s)
  (hd : (x == ("__debug__" : Str)) = false := by decide) : wpAny (model X.prog X.w) X.A (eval (.Name x pos) X.env) Q E s :=
 Calls.Name_function_global I.ok.kind hg (Calls.loadGlobal_global (by rw [I.ok.glob]; exact I.mod.glob.keeps I.bk) hm h) hd
theorem Qay {E : Value → Shared → Prop} {pins : List (Addr × Obj)} {s : Shared} {σ : St} {H : Hp} {x : Str} {u : Value} {pos : Pos} {Q : Value → Shared → Prop} (I : Inv X pins σ H s) (hg : Gl X x) (hm : X.mg x = none) (hv : bootBuiltins x = some u) (h : Q u s)
  (hn : x ≠ "__name__" := by decide) (hd : (x == ("__debug__" : Str)) = false := by decide) : wpAny (model X.prog X.w) X.A (eval (.Name x pos) X.env) Q E s := by
 obtain ⟨mb, h1, h2⟩ := I.mod.blt
 exact Calls.Name_function_global I.ok.kind hg (Calls.loadGlobal_builtin (by rw [I.ok.glob]; exact I.mod.glob.keeps I.bk) hm (by rw [I.ok.blt]; exact h1.keeps I.bk) ((h2 x hn).trans hv) h) hd
theorem Qaz {x : Str} {v : V} {u : Value} {pos : Pos} (hg : Gl X x) (hm : X.mg x = none) (hv : bootBuiltins x = some u) (r : RelV v u) (hn : x ≠ "__name__" := by decide) (hd : (x == ("__debug__" : Str)) = false := by decide) : PE X (.Name x pos) (tC v) :=
 fun _ _ _ H _ I h => Qay I hg hm hv ⟨v, H, I, r, h⟩ hn hd
variable {a b : Expr} {ta tb : TE} {pos : Pos}
variable {tA tB' : TT} {rest : List Expr}
noncomputable def tAnd (t u : TT) : TT := fun σ H Q => t σ H fun c H1 => if c = true then u σ H1 Q else Q false H1
noncomputable def tOr (t u : TT) : TT := fun σ H Q => t σ H fun c H1 => if c = true then Q true H1 else u σ H1 Q
noncomputable def tNot (t : TT) : TT := fun σ H Q => t σ H fun c H1 => Q (!c) H1
theorem QaA (ha : PT X a tA) : PW X (.BoolOp .And [a] pos) tA := by
 intro wh pins s σ H Q I h
 refine isTrue_and (thn (ha pins s σ H Q I h) fun c s1 e => ?_)
 cases c with
 | true => exact isTrue_and_nil e
 | false => exact e
theorem QaB (ha : PT X a tA) : PW X (.BoolOp .Or [a] pos) tA := by
 intro wh pins s σ H Q I h
 refine isTrue_or (thn (ha pins s σ H Q I h) fun c s1 e => ?_)
 cases c with
 | false => exact isTrue_or_nil e
 | true => exact e
theorem QaC (ha : PT X a tA) (hb : PW X (.BoolOp .And (b :: rest) pos) tB') : PW X (.BoolOp .And (a :: b :: rest) pos) (tAnd tA tB') := by
 intro wh pins s σ H Q I h
 refine isTrue_and (thn (ha pins s σ H _ I h) fun c s1 pq2 => ?_)
 obtain ⟨H1, I1, q1⟩ := pq2
 cases c with
 | true => exact hb wh pins s1 σ H1 Q I1 q1
 | false => exact ⟨H1, I1, q1⟩
theorem QaD (ha : PT X a tA) (hb : PW X (.BoolOp .Or (b :: rest) pos) tB') : PW X (.BoolOp .Or (a :: b :: rest) pos) (tOr tA tB') := by
 intro wh pins s σ H Q I h
 refine isTrue_or (thn (ha pins s σ H _ I h) fun c s1 pq3 => ?_)
 obtain ⟨H1, I1, q1⟩ := pq3
 cases c with
 | true => exact ⟨H1, I1, q1⟩
 | false => exact hb wh pins s1 σ H1 Q I1 q1
theorem QaE (ha : PT X a tA) : PT X (.UnaryOp .Not a pos) (tNot tA) := by
 intro pins s σ H Q I h
 exact isTrue_not (ha pins s σ H (fun c H1 => Q (!c) H1) I h)
noncomputable def tAndV (ta tb : TE) : TE := fun σ H Q => ta σ H fun x H1 => ∃ c, x = .bl c ∧ if c = true then tb σ H1 Q else Q (.bl false) H1
noncomputable def tNotV (ta : TE) : TE := fun σ H Q => ta σ H fun x H1 => ∃ c, x = .bl c ∧ Q (.bl (!c)) H1
theorem QaF {op} {t : TE} (h : PE X a t) : PE X (.BoolOp op [a] pos) t := fun pins s σ H Q I hw => BoolOp_one (h pins s σ H Q I hw)
theorem QaG (ha : PE X a ta) (hb : PE X (.BoolOp .And (b :: rest) pos) tb) : PE X (.BoolOp .And (a :: b :: rest) pos) (tAndV ta tb) := by
 intro pins s σ H Q I h
 refine BoolOp_and (thn (ha pins s σ H _ I h) fun v s1 pq4 => ?_)
 obtain ⟨x, H1, I1, r1, q1⟩ := pq4
 obtain ⟨c, rfl, q1⟩ := q1
 cases r1
 refine wpAny_truthy_bool ?_
 cases c with
 | true => exact hb pins s1 σ H1 Q I1 q1
 | false => exact ⟨.bl false, H1, I1, rfl, q1⟩
theorem QaH (ha : PE X a ta) : PE X (.UnaryOp .Not a pos) (tNotV ta) := by
 intro pins s σ H Q I h
 refine UnaryOp_ (thn (ha pins s σ H _ I h) fun v s1 pq5 => ?_)
 obtain ⟨x, H1, I1, r1, q1⟩ := pq5
 obtain ⟨c, rfl, q1⟩ := q1
 cases r1
 exact not_of (wpAny_truthy_bool ⟨.bl (!c), H1, I1, rfl, q1⟩)
end
end L2
namespace L2
open PySem PySem.Spec PyProof.Rows
def SqL (K : PySem.W.Frag) (H : Hp) (a : Addr) (xs : List V) : Prop :=
 Rd H a (.lst xs) ∨
  ∃ (o : Obj) (its : Array Value) (n : Nat), K.lookup a = some o ∧ o.cls = .type "list" ∧ o.dict = none ∧ o.data = .seq its n ∧ its.size ≤ sizeLine ∧ Vals xs its.toList
def SqT (K : PySem.W.Frag) (H : Hp) (a : Addr) (xs : List V) : Prop :=
 Rd H a (.tup xs) ∨
  ∃ (o : Obj) (its : Array Value) (n : Nat), K.lookup a = some o ∧ o.cls = .type "tuple" ∧ o.data = .seq its n ∧ its.size ≤ sizeLine ∧ Vals xs its.toList
noncomputable def absV : Value → Option V
 | .none => some .non
 | .bool b => some (.bl b)
 | .int i _ => some (.int i)
 | .str x _ => some (.str x)
 | .bytes b _ => some (.byt b)
 | .float b _ => some (.flt b)
 | .ref a => some (.ref a)
 | .type n => some (.ty n)
 | _ => none
theorem RelV.abs {x : V} {u : Value} (r : RelV x u) : absV u = some x := by
 cases x with
 | non => cases r; rfl
 | bl _ => cases r; rfl
 | int _ => obtain ⟨t, rfl⟩ := r; rfl
 | str _ => obtain ⟨t, rfl⟩ := r; rfl
 | byt _ => obtain ⟨t, rfl⟩ := r; rfl
 | flt _ => obtain ⟨t, rfl⟩ := r; rfl
 | ref _ => cases r; rfl
 | ty _ => cases r; rfl
theorem RelV.inj {x y : V} {u : Value} (r : RelV x u) (q : RelV y u) : x = y := Option.some.inj (r.abs.symm.trans q.abs)
theorem Vals.inj : ∀ {xs ys : List V} {us : List Value}, Vals xs us → Vals ys us → xs = ys
 | _, _, _, .nil, .nil => rfl
 | _, _, _, .cons r t, .cons r' t' => by rw [r.inj r', Vals.inj t t']
section
variable {X : Cx} {pins : List (Addr × Obj)} {σ : St} {H : Hp} {s : Shared} {a : Addr} {xs ys : List V}
theorem SqL.of {K : PySem.W.Frag} (h : H a = some (.lst xs)) : SqL K H a xs := .inl (.inl h)
theorem SqT.of {K : PySem.W.Frag} (h : H a = some (.tup xs)) : SqT K H a xs := .inl (.inl h)
theorem Inv.list (I : Inv X pins σ H s) (h : SqL X.K H a xs) : ∃ its : List Value, Vals xs its ∧ PlainL s.heap a its.toArray ∧ xs.length ≤ sizeLine := by
 rcases h with h | ⟨o, its, n, hk, hc, hd, hs, hz, r⟩
 ·obtain ⟨z, its, n, r, e⟩ := h.ok I.hok
  exact ⟨its, r, ⟨_, n, e, rfl, rfl, rfl⟩, z⟩
 ·refine ⟨its.toList, r, ⟨o, n, I.kIn a o hk, hc, hd, by simpa using hs⟩, ?_⟩
  have e := r.length
  simp only [Array.length_toList] at e
  ac_nf
theorem Inv.tuple (I : Inv X pins σ H s) (h : SqT X.K H a xs) : ∃ its : List Value, Vals xs its ∧ IsTup s.heap a its.toArray ∧ xs.length ≤ sizeLine := by
 rcases h with h | ⟨o, its, n, hk, hc, hs, hz, r⟩
 ·obtain ⟨z, its, r, p⟩ := h.ok I.hok
  exact ⟨its, r, p, z⟩
 ·refine ⟨its.toList, r, ⟨o, I.kIn a o hk, hc, n, by simpa using hs⟩, ?_⟩
  have e := r.length
  simp only [Array.length_toList] at e
  ac_nf
theorem Inv.list_inj (I : Inv X pins σ H s) (h : SqL X.K H a xs) (h' : SqL X.K H a ys) : xs = ys := by
 obtain ⟨its, r, ⟨o, n, e, _, _, d⟩, _⟩ := I.list h
 obtain ⟨its', r', ⟨o', n', e', _, _, d'⟩, _⟩ := I.list h'
 rw [e] at e'; cases e'
 rw [d] at d'
 injection d' with d1 _
 have : its = its' := by simpa using congrArg Array.toList d1
 subst this
 exact r.inj r'
theorem Inv.tuple_inj (I : Inv X pins σ H s) (h : SqT X.K H a xs) (h' : SqT X.K H a ys) : xs = ys := by
 obtain ⟨its, r, ⟨o, e, _, n, d⟩, _⟩ := I.tuple h
 obtain ⟨its', r', ⟨o', e', _, n', d'⟩, _⟩ := I.tuple h'
 rw [e] at e'; cases e'
 rw [d] at d'
 injection d' with d1 _
 have : its = its' := by simpa using congrArg Array.toList d1
 subst this
 exact r.inj r'
end
noncomputable abbrev Cx.wish (X : Cx) (E : Value → Shared → Prop) : Cx := { X with xe := E }
noncomputable abbrev Cx.nox (X : Cx) : Cx := X.wish fun _ _ => False
theorem Cx.Ok.wish {X : Cx} (ok : X.Ok) (E : Value → Shared → Prop) : (X.wish E).Ok :=
 ⟨ok.mod, ok.kind, ok.glob, ok.blt, ok.above, ok.inj, ok.has, ok.cab, ok.hd, ok.frames, ok.stk, ok.exf, ok.bs, ok.bsz, ok.noex, ok.exfs, ok.funs, ok.frf⟩
theorem Cx.Ok.unwish {X : Cx} {E : Value → Shared → Prop} (ok : (X.wish E).Ok) : X.Ok :=
 ⟨ok.mod, ok.kind, ok.glob, ok.blt, ok.above, ok.inj, ok.has, ok.cab, ok.hd, ok.frames, ok.stk, ok.exf, ok.bs, ok.bsz, ok.noex, ok.exfs, ok.funs, ok.frf⟩
section
variable {X : Cx} {pins : List (Addr × Obj)} {σ : St} {H : Hp} {s : Shared} {E : Value → Shared → Prop}
theorem Inv.wish (I : Inv X pins σ H s) (E : Value → Shared → Prop) : Inv (X.wish E) pins σ H s := ⟨I.ok.wish E, I.os, I.bare, I.base, I.loc, I.cell, I.free, I.freeC, I.pin, I.hok, I.len⟩
theorem Inv.unwish (I : Inv (X.wish E) pins σ H s) : Inv X pins σ H s := ⟨I.ok.unwish, I.os, I.bare, I.base, I.loc, I.cell, I.free, I.freeC, I.pin, I.hok, I.len⟩
theorem SP.unwish {D : Ends} {f : Flow} {s' : Shared} (h : SP (X.wish E) pins D f s') : SP X pins D f s' := by
 cases f with
 | next => obtain ⟨σ', H', I, q⟩ := h; exact ⟨σ', H', I.unwish, q⟩
 | brk => obtain ⟨σ', H', I, q⟩ := h; exact ⟨σ', H', I.unwish, q⟩
 | cont => obtain ⟨σ', H', I, q⟩ := h; exact ⟨σ', H', I.unwish, q⟩
 | ret u => obtain ⟨v, σ', H', I, r, q⟩ := h; exact ⟨v, σ', H', I.unwish, r, q⟩
theorem PE.nox {e : Expr} {t : TE} (h : PE X.nox e t) : PE X e t := fun pins s σ H Q I hw =>
 wpAny_mono (h pins s σ H Q (I.wish _) hw) (fun _ _ pq6 => by obtain ⟨v, H', I', r, q⟩ := pq6; exact ⟨v, H', I'.unwish, r, q⟩) fun _ _ z => False.elim z
theorem PT.nox {e : Expr} {t : TT} (h : PT X.nox e t) : PT X e t := fun pins s σ H Q I hw =>
 wpAny_mono (h pins s σ H Q (I.wish _) hw) (fun _ _ pq7 => by obtain ⟨H', I', q⟩ := pq7; exact ⟨H', I'.unwish, q⟩) fun _ _ z => False.elim z
theorem PSs.nox {st : List Stmt} {t : TS} (h : PSs X.nox st t) : PSs X st t := fun pins s σ H D I hw =>
 wpAny_mono (h pins s σ H D (I.wish _) hw) (fun _ _ q => q.unwish) fun _ _ z => False.elim z
end
section
variable {X : Cx} {st : Stmt} {rest : List Stmt} {t u : TS} {e : Expr} {te : TE} {pos : Pos}
noncomputable def tNext : TS := fun D σ H => D.nx σ H
noncomputable def tSeq (t u : TS) : TS := fun D σ H => t { D with nx := u D } σ H
theorem QaI : PSs X [] tNext := fun _ _ σ H _ I h => wpAny_execs_nil ⟨σ, H, I, h⟩
theorem QaJ (h1 : PS X st t) (h2 : PSs X rest u) : PSs X (st :: rest) (tSeq t u) := by
 intro pins s σ H D I h
 refine wpAny_execs_cons (thn (h1 pins s σ H { D with nx := u D } I h) fun f s1 q => ?_)
 cases f with
 | next =>
  obtain ⟨σ', H', I', q⟩ := q
  exact h2 pins s1 σ' H' D I' q
 | ret v => exact q
 | brk => exact q
 | cont => exact q
theorem Inv.quiet {pins : List (Addr × Obj)} {σ : St} {H : Hp} {s : Shared} (I : Inv X pins σ H s) : interactive X.env = false := by simp [interactive, I.ok.kind]
noncomputable def tDrop (te : TE) : TS := fun D σ H => te σ H fun _ H1 => D.nx σ H1
theorem QaK (he : PE X e te) (hs : swapsWith e none pos.line X.env = pure false := by rfl) : PS X (.Expr e pos) (tDrop te) := by
 intro pins s σ H D I h
 exact wpAny_Expr_any (thn (he pins s σ H _ I h) fun v s1 pq8 => by obtain ⟨x, H1, I1, r1, q1⟩ := pq8; exact ⟨σ, H1, I1, q1⟩) I.quiet hs
noncomputable def tRet (te : TE) : TS := fun D σ H => te σ H D.rt
theorem QaL (he : PE X e te) : PS X (.Return (some e) pos) (tRet te) := by
 intro pins s σ H D I h
 exact wpAny_Return_some (thn (he pins s σ H _ I h) fun v s1 pq9 => by obtain ⟨x, H1, I1, r1, q1⟩ := pq9; exact ⟨x, σ, H1, I1, r1, q1⟩)
noncomputable def tIfS (c : TT) (t u : TS) : TS := fun D σ H => c σ H fun b H1 => if b = true then t D σ H1 else u D σ H1
theorem QaM {c : Expr} {a b : List Stmt} {tc : TT} (hc : PT X c tc) (ha : PSs X a t) (hb : PSs X b u) : PS X (.If c a b pos) (tIfS tc t u) := by
 intro pins s σ H D I h
 refine wpAny_If (thn (hc pins s σ H _ I h) fun d s1 pq10 => ?_)
 obtain ⟨H1, I1, q1⟩ := pq10
 cases d with
 | true => exact ha pins s1 σ H1 D I1 q1
 | false => exact hb pins s1 σ H1 D I1 q1
end
noncomputable abbrev TG := V → St → Hp → (St → Hp → Prop) → Prop
noncomputable abbrev TGs := List V → St → Hp → (St → Hp → Prop) → Prop
def PG (X : Cx) (target : Expr) (t : TG) : Prop :=
 ∀ (pins : List (Addr × Obj)) (s : Shared) (σ : St) (H : Hp) (v : V) (u : Value) (Q : St → Hp → Prop), Inv X pins σ H s → RelV v u → t v σ H Q →
  wpAny (model X.prog X.w) X.A (assign target X.env u) (fun _ s' => ∃ σ' H', Inv X pins σ' H' s' ∧ Q σ' H') X.xe s
def PGs (X : Cx) (ts : List Expr) (t : TGs) : Prop :=
 ∀ (pins : List (Addr × Obj)) (s : Shared) (σ : St) (H : Hp) (vs : List V) (us : List Value) (Q : St → Hp → Prop), Inv X pins σ H s → Vals vs us → t vs σ H Q →
  wpAny (model X.prog X.w) X.A (assignInOrder ((assignEach ts X.env).map (·.2)) us) (fun _ s' => ∃ σ' H', Inv X pins σ' H' s' ∧ Q σ' H') X.xe s
noncomputable abbrev TSet := V → V → V → Hp → (Hp → Prop) → Prop
def PSet (X : Cx) (t : TSet) : Prop :=
 ∀ (pins : List (Addr × Obj)) (s : Shared) (σ : St) (H : Hp) (o i v : V) (ov iv u : Value) (Q : Hp → Prop), Inv X pins σ H s → RelV o ov → RelV i iv → RelV v u → t o i v H Q →
  wpAny (model X.prog X.w) X.A (setItem ov iv u) (fun _ s' => ∃ H', Inv X pins σ H' s' ∧ Q H') X.xe s
section
variable {X : Cx} {pos : Pos}
noncomputable def gName (i : Nat) : TG := fun v σ H Q => Q (σ.set i (some v)) H
theorem QaN {i : Nat} {x : Str} (hN : X.N.Nodup) (hi : X.N[i]? = some x) (hx : Loc X.env.scope x) (hf : X.fn x = true ∨ X.env.scope.names.lookup x = some .local := by first | exact .inl rfl | exact .inr rfl | assumption) : PG X (.Name x pos) (gName i) := by
 intro pins s σ H v u Q I r h
 exact wpAny_assign_Name (Qar I hN hi hx r (fun s' I' => ⟨_, H, I', h⟩) hf)
noncomputable def gNil : TGs := fun vs σ H Q => vs = [] ∧ Q σ H
noncomputable def gCons (t : TG) (u : TGs) : TGs := fun vs σ H Q => ∃ v r, vs = v :: r ∧ t v σ H fun σ' H' => u r σ' H' Q
theorem QaO : PGs X [] gNil := by
 intro pins s σ H vs us Q I r h
 obtain ⟨e, h⟩ := h
 subst e
 cases r
 exact assignInOrder_nil ⟨σ, H, I, h⟩
theorem QaP {e : Expr} {es : List Expr} {t : TG} {u : TGs} (h1 : PG X e t) (h2 : PGs X es u)
  (hs : (assignEach (e :: es) X.env).map (·.2) = assign e X.env :: (assignEach es X.env).map (·.2) := by rfl) : PGs X (e :: es) (gCons t u) := by
 intro pins s σ H vs us Q I r h
 obtain ⟨v, vr, e1, h⟩ := h
 subst e1
 cases r with
 | cons r rr =>
  rw [hs]
  refine assignInOrder_cons (thn (h1 pins s σ H _ _ _ I r h) fun _ s1 pq11 => ?_)
  obtain ⟨σ1, H1, I1, q1⟩ := pq11
  exact h2 pins s1 σ1 H1 _ _ Q I1 rr q1
noncomputable def gTup (K : PySem.W.Frag) (n : Nat) (t : TGs) : TG := fun v σ H Q => ∃ a xs, v = .ref a ∧ SqT K H a xs ∧ xs.length = n ∧ t xs σ H Q
theorem QaQ {es : List Expr} {k : Nat} {t : TGs} {n : Nat} (hc : X.calm = true) (h : PGs X es t)
  (hn : (assignEach es X.env).length = n := by rfl) (hst : (assignEach es X.env).findIdx? (·.1) = none := by rfl) : PG X (.Tuple es k pos) (gTup X.K n t) := by
 intro pins s σ H v u Q I r hw
 obtain ⟨a, xs, e1, hq, hl, hw⟩ := hw
 subst e1
 cases r
 obtain ⟨its, rv, ht, hz⟩ := I.tuple hq
 refine assign_Tuple_tuple (I.ok.hd hc) ht (by simp [hn, ← hl, rv.length]) hst fun h' hx => ?_
 have I1 : Inv X pins σ H { s with heap := h' } := I.kept (t' := s.toks) fun b o e => hx b o (Nat.ne_of_lt (Heap.lt_size e)) e
 exact h pins _ σ H xs _ Q I1 (by simpa using rv) hw
noncomputable def gSub (to ti : TE) (t : TSet) : TG := fun v σ H Q => to σ H fun o H1 => ti σ H1 fun i H2 => t o i v H2 fun H3 => Q σ H3
theorem QaR {o i : Expr} {to ti : TE} {t : TSet} (ho : PE X o to) (hi : PE X i ti) (hs : PSet X t)
  (ha : ∀ v, assign (.Subscript o i pos) X.env v = (do
   let ov ← holding [v] (eval o X.env)
   let iv ← holding [v, ov] (eval i X.env)
   standAt pos
   holding [v, ov, iv] (setItem ov iv v)
   release [v, ov, iv] []) := by intro _; rfl) : PG X (.Subscript o i pos) (gSub to ti t) := by
 intro pins s σ H v u Q I r h
 rw [ha]
 refine wpAny_bind (wpAny_holding (thn (ho pins s σ H _ I h) fun ov s1 pq12 => ?_))
 obtain ⟨x, H1, I1, r1, q1⟩ := pq12
 refine wpAny_bind (wpAny_holding (thn (hi pins s1 σ H1 _ I1 q1) fun iv s2 pq13 => ?_))
 obtain ⟨y, H2, I2, r2, q2⟩ := pq13
 refine wpAny_bind (wpAny_standAt (wpAny_bind (wpAny_holding (thn (hs pins s2 σ H2 x y v ov iv u _ I2 r1 r2 r q2) fun _ s3 pq14 => ?_))))
 obtain ⟨H3, I3, q3⟩ := pq14
 exact wpAny_release ⟨σ, H3, I3, q3⟩
noncomputable def tAsg (te : TE) (g : TG) : TS := fun D σ H => te σ H fun x H1 => g x σ H1 D.nx
theorem QaS {tg e : Expr} {te : TE} {g : TG} (he : PE X e te) (hg : PG X tg g) (hs : swapsWithSole [tg] e pos.line X.env = pure false := by rfl) (hw : swappedStores [tg] e X.env = pure none := by rfl)
  (h1 : (assignEach [tg] X.env).map (·.2) = [assign tg X.env] := by rfl) : PS X (.Assign [tg] e pos) (tAsg te g) := by
 intro pins s σ H D I h
 refine wpAny_Assign_stores (thn (he pins s σ H _ I h) fun v s1 ⟨x, H1, I1, r1, q1⟩ => ?_) hs hw
 rw [h1]
 exact thn (hg pins s1 σ H1 x v _ I1 r1 q1) fun _ s2 q => q
theorem QaT {i : Nat} {x : Str} {e : Expr} {te : TE} {pos' : Pos} (hN : X.N.Nodup) (hi : X.N[i]? = some x) (hx : Loc X.env.scope x) (he : PE X e te) (hs : swapsWith e (some (.Name x pos')) pos.line X.env = pure false := by rfl) (hf : X.fn x = true ∨ X.env.scope.names.lookup x = some .local := by first | exact .inl rfl | exact .inr rfl | assumption) :
  PS X (.Assign [.Name x pos'] e pos) (tAsg te (gName i)) := by
 intro pins s σ H D I h
 refine wpAny_Assign_Name (thn (he pins s σ H _ I h) fun v s1 ⟨y, H1, I1, r1, q1⟩ => ?_) hs
 exact Qar I1 hN hi hx r1 (fun s2 I2 => ⟨_, H1, I2, q1⟩) hf
end
section
variable {X : Cx} {pos : Pos}
noncomputable def tWhile (c : TT) (tb : TS) : TS := fun D σ H => ∃ W : Nat → St → Hp → Prop, (∃ m, W m σ H) ∧ ∀ m σ H, W m σ H →
 c σ H fun b H1 => if b = true then ∃ N : St → Hp → Prop, (∀ σ' H', N σ' H' → ∃ m', m' < m ∧ W m' σ' H') ∧ tb { D with nx := N, ct := N, bk := D.nx } σ H1 else D.nx σ H1
theorem QaU {c : Expr} {body : List Stmt} {tc : TT} {tb : TS} (hp : PassesOwn (model X.prog X.w) X.A X.env X.xe) (hc : PT X c tc) (hb : PSs X body tb) : PS X (.While c body [] pos) (tWhile tc tb) := by
 intro pins s σ H D I h
 obtain ⟨W, ⟨m0, w0⟩, turn⟩ := h
 refine wpAny_While (codeAny_whileLoop (fun n s' => ∃ σ' H', Inv X pins σ' H' s' ∧ W n σ' H') ?_ m0 ⟨σ, H, I, w0⟩)
 rintro n s1 ⟨σ1, H1, I1, w1⟩
 refine wpAny_passesOwn hp (thn (hc pins s1 σ1 H1 _ I1 (turn n σ1 H1 w1)) fun b s2 pq17 => ?_)
 obtain ⟨H2, I2, q2⟩ := pq17
 cases b with
 | true =>
  obtain ⟨N, hN, q2⟩ := q2
  rw [if_pos rfl]
  refine wpAny_passesOwn hp (thn (hb pins s2 σ1 H2 _ I2 q2) fun f s3 q3 => ?_)
  cases f with
  | next =>
   obtain ⟨σ3, H3, I3, n3⟩ := q3
   obtain ⟨m', hm, w3⟩ := hN σ3 H3 n3
   exact ⟨m', hm, σ3, H3, I3, w3⟩
  | cont =>
   obtain ⟨σ3, H3, I3, n3⟩ := q3
   obtain ⟨m', hm, w3⟩ := hN σ3 H3 n3
   exact ⟨m', hm, σ3, H3, I3, w3⟩
  | brk => exact q3
  | ret v => exact q3
 | false =>
  rw [if_neg Bool.false_ne_true]
  exact wpAny_execs_nil ⟨σ1, H2, I2, q2⟩
end
structure It where
 go : Nat → Hp → Prop
 yld : Nat → Hp → V → Hp → Prop
 stop : Nat → Hp → Prop
def FpOk (X : Cx) (pins : List (Addr × Obj)) (H : Hp) (b : Addr) : Prop :=
 H b = none ∧ b ≠ X.env.locals ∧ b ∉ X.fs ∧ (b ∈ X.ex ∨ X.s₀.heap.objs.size ≤ b) ∧ (∀ x c, X.env.cells.lookup x = some c → c ≠ b) ∧ ∀ p ∈ X.pn ++ pins, p.1 ≠ b
theorem Inv.fpOk {X : Cx} {pins : List (Addr × Obj)} {σ : St} {H H' : Hp} {s : Shared} {b : Addr} (I : Inv X pins σ H s) (hb : s.heap.objs.size ≤ b) (hn : H' b = none) : FpOk X pins H' b := by
 refine ⟨hn, Nat.ne_of_gt (Nat.lt_of_lt_of_le I.lt hb), I.nofs hb, .inr (Nat.le_trans I.sz hb), fun x c e z => ?_, fun p hp z => ?_⟩
 ·obtain ⟨v, q⟩ := I.cell x c e
  exact absurd (Nat.lt_of_lt_of_le q.lt (by rw [z]; exact hb)) (Nat.lt_irrefl _)
 ·exact absurd (Nat.lt_of_lt_of_le (Heap.lt_size (I.pin p hp).1) (by rw [z]; exact hb)) (Nat.lt_irrefl _)
structure Turn (P : Program) (w : World) (K : PySem.W.Frag) (tg : Expr) (J : It) (fp : List Addr) (it : Addr) (tn : Nat → Heap → Prop) : Prop where
 mem : it ∈ fp
 obj : ∀ i h, tn i h → ∀ b ∈ fp, ∃ o, h.get? b = some o ∧ ∀ v, o.data ≠ .cell v
 keep : ∀ i h h', tn i h → (∀ b ∈ fp, ∀ o, h.get? b = some o → h'.get? b = some o) → tn i h'
 item : ∀ (X : Cx), X.prog = P → X.w = w → X.K = K → X.calm = true → ∀ (i : Nat) (pins : List (Addr × Obj)) (s : Shared) (σ : St) (H : Hp) (E : Value → Shared → Prop), Inv X pins σ H s → (∀ b ∈ fp, FpOk X pins H b) → tn i s.heap → J.go i H →
  wpAny (model P w) X.A (pyNext (.ref it)) (fun r s1 => ∃ u, r = some u ∧
   wpAny (model P w) X.A (letOwnedTupleGo tg (.ref it) u) (fun _ s2 => ∃ x H', Inv X pins σ H' s2 ∧ RelV x u ∧ J.yld i H x H' ∧ tn (i + 1) s2.heap ∧ ∀ b ∈ fp, H' b = none) E s1) E s
 done : ∀ (X : Cx), X.prog = P → X.w = w → X.K = K → X.calm = true → ∀ (i : Nat) (pins : List (Addr × Obj)) (s : Shared) (σ : St) (H : Hp) (E : Value → Shared → Prop), Inv X pins σ H s → (∀ b ∈ fp, FpOk X pins H b) → tn i s.heap → J.stop i H →
  wpAny (model P w) X.A (pyNext (.ref it)) (fun r s1 => r = none ∧ Inv X pins σ H s1) E s
 self : ∀ (A : Around) (i : Nat) (s : Shared) (Q : Value → Shared → Prop) (E : Value → Shared → Prop), tn i s.heap → Q (.ref it) s → wpAny (model P w) A (pyIter (.ref it)) Q E s
noncomputable abbrev TI := St → Hp → (It → Hp → Prop) → Prop
def PIE (X : Cx) (pins : List (Addr × Obj)) (σ : St) (tg : Expr) (R : It → Hp → Prop) (itv : Value) (s2 : Shared) : Prop :=
 ∃ (it : Addr) (fp : List Addr) (tn : Nat → Heap → Prop) (J : It) (H' : Hp), itv = .ref it ∧ Inv X pins σ H' s2 ∧ Turn X.prog X.w X.K tg J fp it tn ∧ tn 0 s2.heap ∧ (∀ b ∈ fp, FpOk X pins H' b) ∧ R J H'
def PI (X : Cx) (tg iter : Expr) (wi : TI) : Prop :=
 ∀ (pins : List (Addr × Obj)) (s : Shared) (σ : St) (H : Hp) (R : It → Hp → Prop), Inv X pins σ H s → wi σ H R →
  wpAny (model X.prog X.w) X.A (eval iter X.env) (fun v s1 => wpAny (model X.prog X.w) X.A (pyIter v) (PIE X pins σ tg R) X.xe s1) X.xe s
theorem QaV {M : Model} {A : Around} {E : Value → Shared → Prop} {s : Shared} {tg : Expr} {it : Addr} {u : Value} {o : Obj} {n : String} {vs : Array Value} {Q : Unit → Shared → Prop} (ho : s.heap.get? it = some o) (hc : o.cls = .type n) (hd : o.data = .fields vs)
  (hn : ["enumerate", "zip", "dict_itemiterator", "dict_reverseitemiterator", "odict_iterator", "itertools.zip_longest", "itertools.pairwise"].contains n = false) (hQ : Q () s) : wpAny M A (letOwnedTupleGo tg (.ref it) u) Q E s := by
 unfold letOwnedTupleGo
 cases tg <;> first
  | exact wpAny_pure hQ
  | (cases u <;> first
    | exact wpAny_pure hQ
    | (refine wpAny_bind (wpAny_load ho ?_)
       rw [hc, hd]
       show wpAny M A (if (["enumerate", "zip", "dict_itemiterator", "dict_reverseitemiterator", "odict_iterator", "itertools.zip_longest", "itertools.pairwise"].contains n && vs[0]? == some (rawInt _)) = true then _ else _) Q E s
       rw [if_neg (by intro h; rw [hn, Bool.false_and] at h; cases h)]
       exact wpAny_pure hQ))
noncomputable def Itl (K : PySem.W.Frag) (a : Addr) : It :=
 ⟨fun i H => ∃ xs x, SqL K H a xs ∧ xs[i]? = some x, fun i H x H' => H' = H ∧ ∀ xs, SqL K H a xs → xs[i]? = some x, fun i H => ∃ xs, SqL K H a xs ∧ xs.length ≤ i⟩
noncomputable def Itt (K : PySem.W.Frag) (a : Addr) : It :=
 ⟨fun i H => ∃ xs x, SqT K H a xs ∧ xs[i]? = some x, fun i H x H' => H' = H ∧ ∀ xs, SqT K H a xs → xs[i]? = some x, fun i H => ∃ xs, SqT K H a xs ∧ xs.length ≤ i⟩
noncomputable def Itr (lo : Int) (n : Nat) : It := ⟨fun i _ => i < n, fun i H x H' => H' = H ∧ x = .int (lo + i), fun i _ => n ≤ i⟩
theorem QaW {P : Program} {w : World} {K : PySem.W.Frag} {tg : Expr} (a it : Addr) : Turn P w K tg (Itl K a) [it] it (fun i h => h.IsListIter it a i) where
 mem := by simp
 obj := fun i h st b hb => by
  have e : b = it := by simpa using hb
  subst e
  obtain ⟨o, e, c, d⟩ := st
  exact ⟨o, e, fun v z => by rw [d] at z; cases z⟩
 keep := fun i h h' st k => st.at fun o e => k it (by simp) o e
 item := by
  intro X hP hw hK hc i pins s σ H E I hf st hg
  subst hP hw hK
  obtain ⟨xs, x, hq, hx⟩ := hg
  obtain ⟨its, rv, p, hz⟩ := I.list hq
  obtain ⟨u, hu, ru⟩ := rv.get hx
  obtain ⟨f0, f1, f2, f3, f4, f5⟩ := hf it (by simp)
  refine wpAny_pyNext_list_item st p.isList (x := u) (by simpa using hu) fun h' st' sb => ?_
  have I1 : Inv X pins σ H { s with heap := h' } := I.turned (t' := s.toks) (fun b o hb e => (sb.2 b hb).trans e) f0 f1 f3 f4 f5
  obtain ⟨o, e, c, d⟩ := id st'
  exact ⟨u, rfl, QaV (s := { s with heap := h' }) e c d (by decide) ⟨x, H, I1, ru, ⟨rfl, fun ys hy => by rw [I.list_inj hy hq]; exact hx⟩, st', fun b hb => (hf b hb).1⟩⟩
 done := by
  intro X hP hw hK hc i pins s σ H E I hf st hg
  subst hP hw hK
  obtain ⟨xs, hq, hx⟩ := hg
  obtain ⟨its, rv, p, hz⟩ := I.list hq
  obtain ⟨f0, f1, f2, f3, f4, f5⟩ := hf it (by simp)
  have hl := rv.length
  exact wpAny_pyNext_list_end (I.ok.hd hc) st p.isList (by simp; ac_nf) fun h' eb => ⟨rfl, I.turned (t' := s.toks) (fun b o hb e => eb b o hb e) f0 f1 f3 f4 f5⟩
 self := fun _ _ _ _ _ st h => wpAny_pyIter_listiter st h
theorem QaX {P : Program} {w : World} {K : PySem.W.Frag} {tg : Expr} (a it : Addr) : Turn P w K tg (Itt K a) [it] it (fun i h => h.IsTupleIter it a i) where
 mem := by simp
 obj := fun i h st b hb => by
  have e : b = it := by simpa using hb
  subst e
  obtain ⟨o, e, c, d⟩ := st
  exact ⟨o, e, fun v z => by rw [d] at z; cases z⟩
 keep := fun i h h' st k => st.at fun o e => k it (by simp) o e
 item := by
  intro X hP hw hK hc i pins s σ H E I hf st hg
  subst hP hw hK
  obtain ⟨xs, x, hq, hx⟩ := hg
  obtain ⟨its, rv, p, hz⟩ := I.tuple hq
  obtain ⟨u, hu, ru⟩ := rv.get hx
  obtain ⟨f0, f1, f2, f3, f4, f5⟩ := hf it (by simp)
  refine wpAny_pyNext_tuple_item st (show s.heap.IsTuple a its.toArray from p) (x := u) (by simpa using hu) fun h' st' sb => ?_
  have I1 : Inv X pins σ H { s with heap := h' } := I.turned (t' := s.toks) (fun b o hb e => (sb.2 b hb).trans e) f0 f1 f3 f4 f5
  obtain ⟨o, e, c, d⟩ := id st'
  exact ⟨u, rfl, QaV (s := { s with heap := h' }) e c d (by decide) ⟨x, H, I1, ru, ⟨rfl, fun ys hy => by rw [I.tuple_inj hy hq]; exact hx⟩, st', fun b hb => (hf b hb).1⟩⟩
 done := by
  intro X hP hw hK hc i pins s σ H E I hf st hg
  subst hP hw hK
  obtain ⟨xs, hq, hx⟩ := hg
  obtain ⟨its, rv, p, hz⟩ := I.tuple hq
  obtain ⟨f0, f1, f2, f3, f4, f5⟩ := hf it (by simp)
  have hl := rv.length
  exact wpAny_pyNext_tuple_end (I.ok.hd hc) st (show s.heap.IsTuple a its.toArray from p) (by simp; ac_nf) fun h' eb => ⟨rfl, I.turned (t' := s.toks) (fun b o hb e => eb b o hb e) f0 f1 f3 f4 f5⟩
 self := fun _ _ _ _ _ st h => wpAny_pyIter_tupleiter st h
theorem QaY {P : Program} {w : World} {K : PySem.W.Frag} {tg : Expr} (it : Addr) (lo : Int) (n : Nat) : Turn P w K tg (Itr lo n) [it] it (fun i h => IsRangeIter h it (lo + (i : Nat) * 1) ((n : Int) - (i : Nat)) 1) where
 mem := by simp
 obj := fun i h st b hb => by
  have e : b = it := by simpa using hb
  subst e
  exact ⟨_, st, fun v z => by
   have z' : Data.fields _ = Data.cell v := z
   cases z'⟩
 keep := fun i h h' st k => k it (by simp) _ st
 item := by
  intro X hP hw hK hc i pins s σ H E I hf st hg
  subst hP hw hK
  obtain ⟨f0, f1, f2, f3, f4, f5⟩ := hf it (by simp)
  have W := Walks.range (prog := X.prog) (w := X.w) (I.ok.hd hc) it lo 1 n
  refine W.item i s _ _ hg st fun v h' tk hv st' kk => ?_
  obtain ⟨t, rfl⟩ := hv
  have I1 : Inv X pins σ H { s with heap := h', toks := tk } := I.turned (fun b o hb e => kk b o (by simpa using hb) e) f0 f1 f3 f4 f5
  refine ⟨_, rfl, QaV (s := { s with heap := h', toks := tk }) (n := "range_iterator") st' rfl rfl (by decide) ⟨.int (lo + i), H, I1, ⟨t, ?_⟩, ⟨rfl, rfl⟩, st', fun b hb => (hf b hb).1⟩⟩
  rw [Int.mul_one]
 done := by
  intro X hP hw hK hc i pins s σ H E I hf st hg
  subst hP hw hK
  obtain ⟨f0, f1, f2, f3, f4, f5⟩ := hf it (by simp)
  exact wpAny_pyNext_range_end (I.ok.hd hc) st (by have : n ≤ i := hg; ac_nf) fun h' eb => ⟨rfl, I.turned (t' := s.toks) (fun b o hb e => eb b o hb e) f0 f1 f3 f4 f5⟩
 self := fun _ _ _ _ _ st h => wpAny_pyIter_rangeiter st h
end L2
namespace L2
open PySem PySem.Spec PyProof.Rows
section
variable {X : Cx} {tg : Expr}
noncomputable def iList (K : PySem.W.Frag) (tl : TE) : TI := fun σ H R => tl σ H fun x H1 => ∃ a, x = .ref a ∧ (∃ xs, SqL K H1 a xs) ∧ R (Itl K a) H1
theorem QaZ {l : Expr} {tl : TE} (hl : PE X l tl) : PI X tg l (iList X.K tl) := by
 intro pins s σ H R I h
 refine thn (hl pins s σ H _ I h) fun v s1 pq18 => ?_
 obtain ⟨x, H1, I1, r1, q1⟩ := pq18
 obtain ⟨a, e, ⟨xs, hq⟩, q⟩ := q1
 subst e
 cases r1
 obtain ⟨its, rv, p, hz⟩ := I1.list hq
 refine wpAny_pyIter_list p.isList ?_
 refine ⟨s1.heap.objs.size, [s1.heap.objs.size], _, _, H1, rfl, I1.kept (t' := s1.toks) fun b o e => Heap.get?_push_of_some _ e, QaW a _, ⟨_, Heap.get?_push_size _ rfl, rfl, rfl⟩, fun b hb => ?_, q⟩
 have e : b = s1.heap.objs.size := by simpa using hb
 subst e
 exact I1.fpOk (Nat.le_refl _) (I1.hok.fresh (Nat.le_refl _))
theorem Qa0 {pins : List (Addr × Obj)} {σ : St} {H : Hp} {s : Shared} {R : It → Hp → Prop} {E : Value → Shared → Prop} {lo hi : Int} {t u v : Tok} {tk : Nat} (I : Inv X pins σ H s) (h1 : -(2 ^ 62) ≤ lo) (h2 : lo < 2 ^ 62) (h3 : -(2 ^ 62) ≤ hi) (h4 : hi < 2 ^ 62)
  (q : R (Itr lo (hi - lo).toNat) H) : wpAny (model X.prog X.w) X.A (pyIter (.ref s.heap.objs.size)) (PIE X pins σ tg R) E { s with heap := s.heap.push { cls := .type "range", data := .fields #[.int lo t, .int hi u, .int 1 v] }, toks := tk } := by
 refine wpAny_pyIter_range (IsRange.new ..) (small_one h1 h2 h3 h4) ?_
 have I1 : Inv X pins σ H { s with heap := s.heap.push { cls := .type "range", data := .fields #[.int lo t, .int hi u, .int 1 v] }, toks := tk } := I.kept fun b o e => Heap.get?_push_of_some _ e
 refine ⟨(s.heap.push { cls := .type "range", data := .fields #[.int lo t, .int hi u, .int 1 v] }).objs.size, [(s.heap.push { cls := .type "range", data := .fields #[.int lo t, .int hi u, .int 1 v] }).objs.size], _, _, H, rfl,
  I1.kept (t' := tk) fun b o e => Heap.get?_push_of_some _ e, QaY _ lo (hi - lo).toNat, ?_, fun b hb => ?_, q⟩
 ·have e1 : lo + ((0 : Nat) : Int) * 1 = lo := by simp
  have e2 : (((hi - lo).toNat : Nat) : Int) - ((0 : Nat) : Int) = Builtin.Range.rangeSize lo hi 1 := by rw [rangeSize_one]; split <;> ac_nf
  show IsRangeIter _ _ (lo + ((0 : Nat) : Int) * 1) ((((hi - lo).toNat : Nat) : Int) - ((0 : Nat) : Int)) 1
  rw [e1, e2]
  exact Heap.get?_push_size _ rfl
 ·have e : b = (s.heap.push { cls := .type "range", data := .fields #[.int lo t, .int hi u, .int 1 v] }).objs.size := by simpa using hb
  subst e
  exact I1.fpOk (Nat.le_refl _) (I1.hok.fresh (Nat.le_refl _))
noncomputable def iRng1 (ta : TA) : TI := fun σ H R => ta σ H fun vs H1 => ∃ j : Int, vs = [.int j] ∧ -(2 ^ 62) ≤ j ∧ j < 2 ^ 62 ∧ R (Itr 0 j.toNat) H1
noncomputable def iRng2 (ta : TA) : TI := fun σ H R => ta σ H fun vs H1 => ∃ i j : Int, vs = [.int i, .int j] ∧ (-(2 ^ 62) ≤ i ∧ i < 2 ^ 62 ∧ -(2 ^ 62) ≤ j ∧ j < 2 ^ 62) ∧ R (Itr i (j - i).toNat) H1
theorem Qa1 {a : Expr} {ta : TA} {p pos : Pos} (hg : Gl X "range") (hm : X.mg "range" = none) (ha : PA X [a] ta) (hs : starEach [a] X.env = [(false, eval a X.env)] := by rfl) : PI X tg (.Call (.Name "range" p) [a] [] pos) (iRng1 ta) := by
 intro pins s σ H R I h
 refine Call_ (Qay I hg hm boot_range (PyProof.Rows.callWith_type1 (thn (ha pos pins s σ H _ I h) fun us s1 ⟨vs, H1, I1, r1, q1⟩ => ?_) hs rfl))
 obtain ⟨j, e, q1, q2, q⟩ := q1
 subst e
 cases r1 with
 | cons r rr =>
  cases rr
  obtain ⟨t, rfl⟩ := r
  exact call_range_1 (Qa0 I1 (by ac_nf) (by ac_nf) q1 q2 (by simpa using q))
theorem Qa2 {a b : Expr} {ta : TA} {p pos : Pos} (hg : Gl X "range") (hm : X.mg "range" = none) (ha : PA X [a, b] ta) (hs : starEach [a, b] X.env = [(false, eval a X.env), (false, eval b X.env)] := by rfl) (hs2 : starEach [b] X.env = [(false, eval b X.env)] := by rfl) :
  PI X tg (.Call (.Name "range" p) [a, b] [] pos) (iRng2 ta) := by
 intro pins s σ H R I h
 refine Call_ (Qay I hg hm boot_range (PyProof.Rows.callWith_type1 (thn (ha pos pins s σ H _ I h) fun us s1 ⟨vs, H1, I1, r1, q1⟩ => ?_) (by rw [hs, hs2]) (by rw [hs2]; rfl)))
 obtain ⟨i, j, e, ⟨q1, q2, q3, q4⟩, q⟩ := q1
 subst e
 cases r1 with
 | cons r rr =>
  cases rr with
  | cons r' rr =>
   cases rr
   obtain ⟨t, rfl⟩ := r
   obtain ⟨t', rfl⟩ := r'
   exact call_range_2 (Qa0 I1 q1 q2 q3 q4 q)
noncomputable def tFor (wi : TI) (g : TG) (tb : TS) : TS := fun D σ H => wi σ H fun J H1 => ∃ W : Nat → Nat → St → Hp → Prop, (∃ m, W 0 m σ H1) ∧ ∀ i m σ H, W i m σ H →
 (J.stop i H ∧ D.nx σ H) ∨ (J.go i H ∧ ∃ N : St → Hp → Prop, (∀ σ' H', N σ' H' → ∃ m', m' < m ∧ W (i + 1) m' σ' H') ∧ ∀ x H', J.yld i H x H' → g x σ H' fun σ2 H2 => tb { D with nx := N, ct := N, bk := D.nx } σ2 H2)
noncomputable def pinsAt (fp : List Addr) (h : Heap) : List (Addr × Obj) := fp.filterMap fun b => (h.get? b).map fun o => (b, o)
theorem Qa3 {fp : List Addr} {h : Heap} {b : Addr} {o : Obj} (hb : b ∈ fp) (e : h.get? b = some o) : (b, o) ∈ pinsAt fp h := List.mem_filterMap.mpr ⟨b, hb, by rw [e]; rfl⟩
theorem Qa4 {fp : List Addr} {h : Heap} {p : Addr × Obj} (hp : p ∈ pinsAt fp h) : p.1 ∈ fp ∧ h.get? p.1 = some p.2 := by
 obtain ⟨b, hb, e⟩ := List.mem_filterMap.mp hp
 cases q : h.get? b with
 | none => rw [q] at e; cases e
 | some o =>
  rw [q] at e
  have e' : (b, o) = p := Option.some.inj e
  subst e'
  exact ⟨hb, q⟩
theorem Inv.pinned {pins : List (Addr × Obj)} {σ : St} {H : Hp} {s : Shared} {fp : List Addr} (I : Inv X pins σ H s) (hf : ∀ b ∈ fp, FpOk X pins H b) (ho : ∀ b ∈ fp, ∃ o, s.heap.get? b = some o ∧ ∀ v, o.data ≠ .cell v) : Inv X (pins ++ pinsAt fp s.heap) σ H s :=
 I.pins_of fun p hp => (List.mem_append.mp hp).elim (fun z => I.pin p (List.mem_append_right _ z)) fun z => by
  obtain ⟨hb, e⟩ := Qa4 z
  obtain ⟨f0, f1, f2, _⟩ := hf p.1 hb
  obtain ⟨o, e', d⟩ := ho p.1 hb
  rw [e] at e'; cases e'
  exact ⟨e, f0, f1, f2, d⟩
theorem Inv.unpinned {pins pl : List (Addr × Obj)} {σ : St} {H : Hp} {s : Shared} (I : Inv X (pins ++ pl) σ H s) : Inv X pins σ H s := I.pins_of fun p hp => I.pin p (List.mem_append_right _ (List.mem_append_left _ hp))
theorem Qa5 {iter : Expr} {body : List Stmt} {wi : TI} {g : TG} {tb : TS} {pos : Pos} (hp : PassesOwn (model X.prog X.w) X.A X.env X.xe) (hc : X.calm = true) (hi : PI X tg iter wi) (hg : PG X tg g) (hb : PSs X body tb)
  (hs : ∀ x, foldedSetIterable iter X.env x = pure x := by intro _; rfl) : PS X (.For tg iter body [] pos) (tFor wi g tb) := by
 intro pins s σ H D I h
 refine wpAny_For (thn (hi pins s σ H _ I h) fun v s1 h1 => thn h1 fun itv s2 h2 => ?_) hs
 obtain ⟨it, fp, tn, J, H2, e, I2, T, st2, f2, W, ⟨m0, w0⟩, turn⟩ := h2
 subst e
 have stat : ∀ {H' : Hp}, (∀ b ∈ fp, H' b = none) → ∀ b ∈ fp, FpOk X pins H' b := fun hn b hb => ⟨hn b hb, (f2 b hb).2⟩
 refine codeAny_forLoop_any (fun n s' => ∃ i σ' H', Inv X pins σ' H' s' ∧ tn i s'.heap ∧ (∀ b ∈ fp, H' b = none) ∧ W i n σ' H') ?_ m0 ⟨0, σ, H2, I2, st2, fun b hb => (f2 b hb).1, w0⟩
 rintro n s3 ⟨i, σ3, H3, I3, st3, fr3, w3⟩
 rcases turn i n σ3 H3 w3 with ⟨stop, qn⟩ | ⟨go, N, hN, step⟩
 ·refine wpAny_passesOwn hp (thn (T.done X rfl rfl rfl hc i pins s3 σ3 H3 X.xe I3 (stat fr3) st3 stop) fun r s4 pq21 => ?_)
  obtain ⟨hr, I4⟩ := pq21
  subst hr
  exact wpAny_execs_nil ⟨σ3, H3, I4, qn⟩
 ·refine wpAny_passesOwn hp (thn (T.item X rfl rfl rfl hc i pins s3 σ3 H3 X.xe I3 (stat fr3) st3 go) fun r s4 pq22 => ?_)
  obtain ⟨u, hr, h4⟩ := pq22
  subst hr
  refine wpAny_passesOwn hp (thn h4 fun _ s5 pq23 => ?_)
  obtain ⟨x, H5, I5, r5, y5, st5, fr5⟩ := pq23
  have I5' := I5.pinned (stat fr5) (T.obj _ _ st5)
  refine wpAny_passesOwn hp (thn (hg _ s5 σ3 H5 x u _ I5' r5 (step x H5 y5)) fun _ s6 pq24 => ?_)
  obtain ⟨σ6, H6, I6, q6⟩ := pq24
  refine wpAny_passesOwn hp (thn (hb _ s6 σ6 H6 _ I6 q6) fun f s7 q7 => ?_)
  have again : ∀ {σ7 : St} {H7 : Hp}, Inv X (pins ++ pinsAt fp s5.heap) σ7 H7 s7 → N σ7 H7 → ∃ m, m < n ∧ ∃ i σ' H', Inv X pins σ' H' s7 ∧ tn i s7.heap ∧ (∀ b ∈ fp, H' b = none) ∧ W i m σ' H' := fun {σ7 H7} I7 n7 => by
   obtain ⟨m', hm, w7⟩ := hN σ7 H7 n7
   refine ⟨m', hm, i + 1, σ7, H7, I7.unpinned, T.keep _ _ _ st5 fun b hb o e => (I7.pin (b, o) (List.mem_append_right _ (List.mem_append_right _ (Qa3 hb e)))).1, fun b hb => ?_, w7⟩
   obtain ⟨o, e, d⟩ := T.obj _ _ st5 b hb
   exact (I7.pin (b, o) (List.mem_append_right _ (List.mem_append_right _ (Qa3 hb e)))).2.1
  cases f with
  | next => obtain ⟨σ7, H7, I7, n7⟩ := q7; exact again I7 n7
  | cont => obtain ⟨σ7, H7, I7, n7⟩ := q7; exact again I7 n7
  | brk => obtain ⟨σ7, H7, I7, q7⟩ := q7; exact ⟨σ7, H7, I7.unpinned, q7⟩
  | ret v => obtain ⟨x7, σ7, H7, I7, r7, q7⟩ := q7; exact ⟨x7, σ7, H7, I7.unpinned, r7, q7⟩
end
end L2
namespace L2
open PySem PySem.Spec PyProof.Rows
noncomputable abbrev R2 := V → V → Hp → VK → Prop
def OpR (X : Cx) (f : Value → Value → Sem Value) (r : R2) : Prop :=
 ∀ (pins : List (Addr × Obj)) (s : Shared) (σ : St) (H : Hp) (x y : V) (v u : Value) (Q : VK), Inv X pins σ H s → RelV x v → RelV y u → r x y H Q →
  wpAny (model X.prog X.w) X.A (f v u) (EP X pins σ Q) X.xe s
def CallR (X : Cx) (f : Value) (r : List V → Hp → VK → Prop) : Prop :=
 ∀ (pins : List (Addr × Obj)) (s : Shared) (σ : St) (H : Hp) (xs : List V) (us : List Value) (Q : VK), Inv X pins σ H s → Vals xs us → r xs H Q →
  wpAny (model X.prog X.w) X.A (call f us) (EP X pins σ Q) X.xe s
def TruR (X : Cx) (r : V → Hp → (Bool → Hp → Prop) → Prop) : Prop :=
 ∀ (pins : List (Addr × Obj)) (s : Shared) (σ : St) (H : Hp) (x : V) (v : Value) (Q : Bool → Hp → Prop), Inv X pins σ H s → RelV x v → r x H Q →
  wpAny (model X.prog X.w) X.A (truthy v) (TP X pins σ Q) X.xe s
noncomputable def tOp (r : R2) (ta tb : TE) : TE := fun σ H Q => ta σ H fun x H1 => tb σ H1 fun y H2 => r x y H2 Q
noncomputable def rI (C : Int → Int → Prop) (g : Int → Int → V) : R2 := fun x y H Q => ∃ i j, x = .int i ∧ y = .int j ∧ C i j ∧ Q (g i j) H
noncomputable def rI0 (g : Int → Int → V) : R2 := fun x y H Q => ∃ i j, x = .int i ∧ y = .int j ∧ Q (g i j) H
section
variable {X : Cx} {a b c : Expr} {ta tb tc : TE} {pos : Pos}
theorem binT (ha : PE X a ta) (hb : PE X b tb) {pins : List (Addr × Obj)} {s : Shared} {σ : St} {H : Hp} {R : V → V → Hp → Prop} (I : Inv X pins σ H s)
  (h : ta σ H fun x H1 => tb σ H1 fun y H2 => R x y H2) {Q : Value → Shared → Prop} {f : Value → Value → Sem Value}
  (hf : ∀ v u s2 x y H2, Inv X pins σ H2 s2 → RelV x v → RelV y u → R x y H2 → wpAny (model X.prog X.w) X.A (f v u) Q X.xe s2) :
  wpAny (model X.prog X.w) X.A (eval a X.env) (fun v s₁ => wpAny (model X.prog X.w) X.A (eval b X.env) (fun u s₂ => wpAny (model X.prog X.w) X.A (f v u) Q X.xe s₂) X.xe s₁) X.xe s := by
 refine thn (ha pins s σ H _ I h) fun v s1 pq25 => ?_
 obtain ⟨x, H1, I1, r1, q1⟩ := pq25
 refine thn (hb pins s1 σ H1 _ I1 q1) fun u s2 pq26 => ?_
 obtain ⟨y, H2, I2, r2, q2⟩ := pq26
 exact hf v u s2 x y H2 I2 r1 r2 q2
theorem Qa6 {op : Operator} {r : R2} (ho : OpR X (binaryOp op) r) (ha : PE X a ta) (hb : PE X b tb) : PE X (.BinOp a op b pos) (tOp r ta tb) := by
 intro pins s σ H Q I h
 exact wpAny_BinOp (binT ha hb I h fun v u s2 x y H2 I2 rx ry q => ho pins s2 σ H2 x y v u Q I2 rx ry q)
theorem opI {f : Value → Value → Sem Value} {C : Int → Int → Prop} {g : Int → Int → Int}
  (rule : ∀ (i j : Int) (t u : Tok) (s : Shared) (Q : Value → Shared → Prop) (E : Value → Shared → Prop), C i j → Q (.int (g i j) s.toks) { s with toks := s.toks + 1 } → wpAny (model X.prog X.w) X.A (f (.int i t) (.int j u)) Q E s) :
  OpR X f (rI C fun i j => .int (g i j)) := by
 intro pins s σ H x y v u Q I rx ry h
 obtain ⟨i, j, rfl, rfl, hc, q⟩ := h
 obtain ⟨t, rfl⟩ := rx
 obtain ⟨t', rfl⟩ := ry
 exact rule i j t t' s _ _ hc ⟨.int (g i j), H, I.tok _, ⟨_, rfl⟩, q⟩
theorem opI0 {f : Value → Value → Sem Value} {g : Int → Int → Int}
  (rule : ∀ (i j : Int) (t u : Tok) (s : Shared) (Q : Value → Shared → Prop) (E : Value → Shared → Prop), Q (.int (g i j) s.toks) { s with toks := s.toks + 1 } → wpAny (model X.prog X.w) X.A (f (.int i t) (.int j u)) Q E s) :
  OpR X f (rI0 fun i j => .int (g i j)) := by
 intro pins s σ H x y v u Q I rx ry h
 obtain ⟨i, j, rfl, rfl, q⟩ := h
 obtain ⟨t, rfl⟩ := rx
 obtain ⟨t', rfl⟩ := ry
 exact rule i j t t' s _ _ ⟨.int (g i j), H, I.tok _, ⟨_, rfl⟩, q⟩
theorem opB0 {f : Value → Value → Sem Value} {g : Int → Int → Bool}
  (rule : ∀ (i j : Int) (t u : Tok) (s : Shared) (Q : Value → Shared → Prop) (E : Value → Shared → Prop), Q (.bool (g i j)) s → wpAny (model X.prog X.w) X.A (f (.int i t) (.int j u)) Q E s) :
  OpR X f (rI0 fun i j => .bl (g i j)) := by
 intro pins s σ H x y v u Q I rx ry h
 obtain ⟨i, j, rfl, rfl, q⟩ := h
 obtain ⟨t, rfl⟩ := rx
 obtain ⟨t', rfl⟩ := ry
 exact rule i j t t' s _ _ ⟨.bl (g i j), H, I, rfl, q⟩
def CDiv (i j : Int) : Prop := 0 < j ∧ j < 1073741824
def CPow (i j : Int) : Prop := 0 ≤ j ∧ j ≤ 1000000 ∧ i.natAbs < 2 ^ 64
def CMul (i j : Int) : Prop := (-(2 ^ 64) < i ∧ i < 2 ^ 64) ∨ (-(2 ^ 64) < j ∧ j < 2 ^ 64)
theorem CMul.ok {i j : Int} (h : CMul i j) : IntMulOk i j := by
 rcases h with ⟨h1, h2⟩ | ⟨h1, h2⟩
 ·exact .of_left (intBits_le_64 h1 h2)
 ·exact .of_right (intBits_le_64 h1 h2)
theorem Qa7 (k : Nat) : (0 : Int) ≤ 2 ^ k := by
 rw [two_pow_cast]
 exact Int.natCast_nonneg _
theorem Qa8 : OpR X (binaryOp .Add) (rI0 fun i j => .int (i + j)) := opI0 fun _ _ _ _ _ _ _ q => add_int q
theorem Qa9 : OpR X (binaryOp .Sub) (rI0 fun i j => .int (i - j)) := opI0 fun _ _ _ _ _ _ _ q => sub_int q
theorem Qba : OpR X (binaryOp .Mult) (rI CMul fun i j => .int (i * j)) := opI fun _ _ _ _ _ _ _ hc q => mul_int q hc.ok
theorem Qbb : OpR X (binaryOp .FloorDiv) (rI CDiv fun i j => .int (i / j)) := opI fun i j _ _ _ _ _ hc q => by
 have h1 : (0 : Int) < j := hc.1
 have h2 : j < 1073741824 := hc.2
 exact floordiv_int (by ac_nf) (by rw [Int.fdiv_eq_ediv_of_nonneg i (by ac_nf)]; exact q) (.inl (PyProof.noPylong_small (by ac_nf)))
theorem Qbc : OpR X (binaryOp .Mod) (rI (fun _ j => 0 < j) fun i j => .int (i % j)) := opI fun i j _ _ _ _ _ hc q => by
 have h1 : (0 : Int) < j := hc
 exact mod_int' (by ac_nf) (by rw [Int.fmod_eq_emod_of_nonneg i (by ac_nf)]; exact q)
theorem Qbd : OpR X (binaryOp .Pow) (rI CPow fun i j => .int (i ^ j.toNat)) := opI fun _ _ _ _ _ _ _ hc q => pow_int_small hc.1 hc.2.1 hc.2.2 q
theorem Qbe : OpR X (binaryOp .LShift) (rI CPow fun i j => .int (i * 2 ^ j.toNat)) := opI fun _ _ _ _ _ _ _ hc q => lshift_int_small hc.1 hc.2.1 hc.2.2 q
theorem Qbf : OpR X (binaryOp .RShift) (rI (fun _ j => 0 ≤ j) fun i j => .int (i / 2 ^ j.toNat)) := opI fun i j _ _ _ _ _ hc q =>
 rshift_int hc (by rw [Int.fdiv_eq_ediv_of_nonneg i (Qa7 _)]; exact q)
theorem Qbg : OpR X (binaryOp .BitAnd) (rI0 fun i j => .int (Builtin.bitAnd i j)) := opI0 fun _ _ _ _ _ _ _ q => and_int q
end
section
variable {X : Cx} {a b c : Expr} {ta tb tc : TE} {pos : Pos}
theorem Qbh {pins : List (Addr × Obj)} {σ : St} {H : Hp} {s : Shared} {Q : VK} {k k' : Bool} (I : Inv X pins σ H s) (q : Q (.bl k) H) (e : k = k') : EP X pins σ Q (.bool k') s := by
 subst e
 exact ⟨.bl k, H, I, rfl, q⟩
theorem Qbi : OpR X (compareOp .Lt) (rI0 fun i j => .bl (decide (i < j))) := opB0 fun _ _ _ _ _ _ _ q => lt_int q
theorem Qbj : OpR X (compareOp .LtE) (rI0 fun i j => .bl (decide (i ≤ j))) := opB0 fun _ _ _ _ _ _ _ q => le_int q
theorem Qbk : OpR X (compareOp .Gt) (rI0 fun i j => .bl (decide (j < i))) := opB0 fun _ _ _ _ _ _ _ q => gt_int q
theorem Qbl : OpR X (compareOp .GtE) (rI0 fun i j => .bl (decide (j ≤ i))) := opB0 fun _ _ _ _ _ _ _ q => ge_int q
theorem Qbm : OpR X (compareOp .Is) (fun x y H Q => y = .non ∧ Q (.bl (decide (x = .non))) H) := by
 intro pins s σ H x y v u Q I rx ry h
 obtain ⟨rfl, q⟩ := h
 cases ry
 refine is_none_gen (Qbh I q ?_)
 cases x <;> first
  | (cases rx; rfl)
  | (obtain ⟨t, rfl⟩ := rx; rfl)
theorem Qbn : OpR X (compareOp .IsNot) (fun x y H Q => y = .non ∧ Q (.bl (!decide (x = .non))) H) := by
 intro pins s σ H x y v u Q I rx ry h
 obtain ⟨rfl, q⟩ := h
 cases ry
 refine isnot_none_gen (Qbh I q ?_)
 cases x <;> first
  | (cases rx; rfl)
  | (obtain ⟨t, rfl⟩ := rx; rfl)
theorem OpR.or {f : Value → Value → Sem Value} {r r' : R2} (h : OpR X f r) (h' : OpR X f r') : OpR X f (fun x y H Q => r x y H Q ∨ r' x y H Q) := by
 intro pins s σ H x y v u Q I rx ry q
 rcases q with q | q
 ·exact h pins s σ H x y v u Q I rx ry q
 ·exact h' pins s σ H x y v u Q I rx ry q
theorem Qbo (b : Expr) {op : CmpOp} (h : op ≠ .In := by decide) (h2 : op ≠ .NotIn := by decide) : behindInMarks op b = false := by
 have e1 : (op == CmpOp.In) = false := by cases op <;> first | rfl | exact absurd rfl h
 have e2 : (op == CmpOp.NotIn) = false := by cases op <;> first | rfl | exact absurd rfl h2
 cases b <;> simp [behindInMarks, e1, e2]
theorem Qbp {op : CmpOp} {r : R2} (ho : OpR X (compareOp op) r) (ha : PE X a ta) (hb : PE X b tb) (hm : behindInMarks op b = false) : PE X (.Compare a [op] [b] pos) (tOp r ta tb) := by
 intro pins s σ H Q I h
 exact wpAny_Compare1 (binT ha hb I h fun v u s2 x y H2 I2 rx ry q => ho pins s2 σ H2 x y v u Q I2 rx ry q) hm
noncomputable def tTest (t : TE) : TT := fun σ H Q => t σ H fun x H' => ∃ k, x = .bl k ∧ Q k H'
theorem Qbq {op : CmpOp} {r : R2} (ho : OpR X (compareOp op) r) (ha : PE X a ta) (hb : PE X b tb) (hm : behindInMarks op b = false) : PT X (.Compare a [op] [b] pos) (tTest (tOp r ta tb)) := by
 intro pins s σ H Q I h
 refine wpAny_isTrue_Compare1 (thn (ha pins s σ H _ I h) fun v s1 ⟨x, H1, I1, r1, q1⟩ => thn (hb pins s1 σ H1 _ I1 q1) fun u s2 ⟨y, H2, I2, r2, q2⟩ =>
  thn (ho pins s2 σ H2 x y v u _ I2 r1 r2 q2) fun c s3 ⟨z, H3, I3, r3, k, e, q3⟩ => ?_) hm
 subst e
 cases r3
 exact wpAny_truthy_bool ⟨H3, I3, q3⟩
noncomputable def tChain (r r' : R2) (ta tb tc : TE) : TE := fun σ H Q => ta σ H fun x H1 => tb σ H1 fun y H2 => r x y H2 fun z H3 => ∃ k, z = .bl k ∧
 (if k = true then tc σ H3 fun w' H4 => r' y w' H4 Q else Q (.bl false) H3)
theorem Qbr {op op' : CmpOp} {r r' : R2} (ho : OpR X (compareOp op) r) (ho' : OpR X (compareOp op') r') (ha : PE X a ta) (hb : PE X b tb) (hc : PE X c tc)
  (hm : lastMarks [op, op'] [b, c] = false := by with_unfolding_all rfl) : PE X (.Compare a [op, op'] [b, c] pos) (tChain r r' ta tb tc) := by
 intro pins s σ H Q I h
 refine Compare_chain (thn (ha pins s σ H _ I h) fun v s1 ⟨x, H1, I1, r1, q1⟩ => chain_link (thn (hb pins s1 σ H1 _ I1 q1) fun u s2 ⟨y, H2, I2, r2, q2⟩ =>
  thn (ho pins s2 σ H2 x y v u _ I2 r1 r2 q2) fun d s3 ⟨z, H3, I3, r3, k, e, q3⟩ => ?_)) hm
 subst e
 cases r3
 refine wpAny_truthy_bool ?_
 cases k with
 | false => exact ite_ff ⟨.bl false, H3, I3, rfl, q3⟩
 | true => exact ite_tt (chain_last (thn (hc pins s3 σ H3 _ I3 q3) fun w' s4 ⟨z', H4, I4, r4, q4⟩ => ho' pins s4 σ H4 y z' u w' Q I4 r2 r4 q4))
def TruV (K : PySem.W.Frag) (x : V) (H : Hp) (k : Bool) : Prop :=
 match x with
 | .non => k = false
 | .bl b => k = b
 | .int i => k = (i != 0)
 | .str y => y.length ≤ sizeLine ∧ k = ((y.length : Int) != 0)
 | .byt y => y.size ≤ sizeLine ∧ k = ((y.size : Int) != 0)
 | .ref p => (∃ xs, SqL K H p xs ∧ k = !xs.isEmpty) ∨ (∃ xs, SqT K H p xs ∧ k = !xs.isEmpty) ∨ ∃ kvs, H p = some (.dK kvs) ∧ k = !kvs.isEmpty
 | _ => False
theorem Qbs {κ : Type} {kvs : List (κ × V)} {vs : List (κ × Value)} (r : KV kvs vs) : (!vs.isEmpty) = !kvs.isEmpty := by
 cases r <;> rfl
theorem Qbt {xs : List V} {its : List Value} (r : Vals xs its) : (!its.toArray.isEmpty) = !xs.isEmpty := by
 cases r <;> simp
theorem Qbu : (sizeLine : Nat) < 2 ^ 63 := by rw [sizeLine_eq]; decide
theorem Qbv : TruR X (fun x H Q => ∃ k, TruV X.K x H k ∧ Q k H) := by
 intro pins s σ H x v Q I rx h
 obtain ⟨k, e, q⟩ := h
 have hl := Qbu
 have hs : sizeLine = 16777216 := sizeLine_eq
 cases x with
 | non =>
  cases rx
  have e' : k = false := e
  subst e'
  exact truthy_none ⟨H, I, q⟩
 | bl b =>
  cases rx
  have e' : k = b := e
  subst e'
  exact wpAny_truthy_bool ⟨H, I, q⟩
 | int i =>
  obtain ⟨t, rfl⟩ := rx
  have e' : k = (i != 0) := e
  subst e'
  exact PySem.P.truthy_int ⟨H, I, q⟩
 | str y =>
  obtain ⟨t, rfl⟩ := rx
  obtain ⟨hy, e'⟩ : y.length ≤ sizeLine ∧ k = ((y.length : Int) != 0) := e
  subst e'
  exact PySem.P.truthy_str (by ac_nf) ⟨H, I.tok _, q⟩
 | byt y =>
  obtain ⟨t, rfl⟩ := rx
  obtain ⟨hy, e'⟩ : y.size ≤ sizeLine ∧ k = ((y.size : Int) != 0) := e
  subst e'
  exact PySem.W.truthy_bytes (by ac_nf) ⟨H, I.tok _, q⟩
 | ref p =>
  cases rx
  have e' : (∃ xs, SqL X.K H p xs ∧ k = !xs.isEmpty) ∨ (∃ xs, SqT X.K H p xs ∧ k = !xs.isEmpty) ∨ ∃ kvs, H p = some (.dK kvs) ∧ k = !kvs.isEmpty := e
  rcases e' with ⟨xs, hx, e'⟩ | ⟨xs, hx, e'⟩ | ⟨kvs, hx, e'⟩
  ·subst e'
   obtain ⟨its, r, pl, hz⟩ := I.list hx
   have hlen := r.length
   exact wpAny_truthy_list pl.isList (by simp only [List.size_toArray]; ac_nf) ⟨H, I.tok _, by rw [Qbt r]; exact q⟩
  ·subst e'
   obtain ⟨its, r, pl, hz⟩ := I.tuple hx
   have hlen := r.length
   exact truthy_tuple pl (by simp only [List.size_toArray]; ac_nf) ⟨H, I.tok _, by rw [Qbt r]; exact q⟩
  ·subst e'
   obtain ⟨hz, hS, vs, r, m⟩ : kvs.length ≤ sizeLine ∧ (p == sysModules) = false ∧ ∃ vs, KV kvs vs ∧ s.heap.DictOf (mixKind X.prog X.w) p vs := I.hok p _ hx
   have hlen : kvs.length = vs.length := Paired.length r
   exact wpAny_truthy_dict hS m (by ac_nf) ⟨H, I.tok _, by rw [Qbs r]; exact q⟩
 | _ => exact (show False from e).elim
theorem Qbw (ha : PE X a ta) (he : ∀ whole, isTrue a X.env whole = (do let v ← whole; standAt a.pos; holding [v] (truthy v))) :
  PT X a (fun σ H Q => ta σ H fun x H' => ∃ k, TruV X.K x H' k ∧ Q k H') := by
 intro pins s σ H Q I h
 exact isTrue_plain (thn (ha pins s σ H _ I h) fun v s1 pq27 => by obtain ⟨x, H1, I1, r1, q1⟩ := pq27; exact Qbv pins s1 σ H1 x v Q I1 r1 q1) (he _)
theorem Qbx : OpR X (binaryOp .Add) (fun x y H Q => ∃ i j, x = .str i ∧ y = .str j ∧ i.length + j.length ≤ sizeLine ∧ Q (.str (i ++ j)) H) := by
 intro pins s σ H x y v u Q I rx ry h
 obtain ⟨i, j, rfl, rfl, hz, q⟩ := h
 obtain ⟨t, rfl⟩ := rx
 obtain ⟨t', rfl⟩ := ry
 exact add_str (fun t' tk => ⟨.str (i ++ j), H, I.tok _, ⟨_, rfl⟩, q⟩) hz
theorem Qby {x : V} {us : List Value} (r : Vals [x] us) : ∃ u, us = [u] ∧ RelV x u := by
 cases r with
 | cons r1 r2 => cases r2; exact ⟨_, rfl, r1⟩
theorem Qbz {x y : V} {us : List Value} (r : Vals [x, y] us) : ∃ u w', us = [u, w'] ∧ RelV x u ∧ RelV y w' := by
 cases r with
 | cons r1 r2 =>
  cases r2 with
  | cons r3 r4 => cases r4; exact ⟨_, _, rfl, r1, r3⟩
theorem QbA (hc : X.calm = true) : CallR X (.builtin "max") (fun xs H Q => ∃ i j, xs = [.int i, .int j] ∧ Q (.int (if j > i then j else i)) H) := by
 intro pins s σ H xs us Q I r h
 obtain ⟨i, j, rfl, q⟩ := h
 obtain ⟨u, w', rfl, ⟨t, rfl⟩, ⟨t', rfl⟩⟩ := Qbz r
 refine max_two_ints (I.ok.hd hc) fun h' tk k => ⟨_, H, I.kept k, ?_, q⟩
 by_cases hj : j > i
 ·rw [if_pos hj, if_pos hj]; exact ⟨_, rfl⟩
 ·rw [if_neg hj, if_neg hj]; exact ⟨_, rfl⟩
theorem QbB : CallR X (.type "int") (fun xs H Q => (∃ i, xs = [.int i] ∧ Q (.int i) H) ∨ ∃ k, xs = [.bl k] ∧ Q (.int (if k then 1 else 0)) H) := by
 intro pins s σ H xs us Q I r h
 rcases h with ⟨i, rfl, q⟩ | ⟨k, rfl, q⟩
 ·obtain ⟨u, rfl, t, rfl⟩ := Qby r
  exact call_int_int ⟨.int i, H, I, ⟨_, rfl⟩, q⟩
 ·obtain ⟨u, rfl, r1⟩ := Qby r
  cases r1
  exact call_int_bool ⟨.int (if k then 1 else 0), H, I.tok _, ⟨_, rfl⟩, q⟩
end
end L2
namespace L2
open PySem PySem.Spec PyProof.Rows
structure ObjM (h : Heap) (x dx C : Addr) (mA : Str → Option Value) : Prop where
 obj : h.get? x = some (PySem.W.instObj C dx)
 ns : h.Ns1 dx mA
 ne : dx ≠ x
theorem QbC {h : Heap} {dx : Addr} {mA : Str → Option Value} (n : h.Ns1 dx mA) : ∃ od, h.get? dx = some od ∧ ∀ name, PySem.W.lookIn name od = some (mA name) := by
 obtain ⟨o, es, ep, ho, hd, hk, _, hm⟩ := n
 refine ⟨o, ho, fun name => ?_⟩
 have e := hm name
 unfold nsFind findBy at e
 rw [← Array.find?_toList] at e
 unfold PySem.W.lookIn
 rw [hd]
 dsimp only
 split
 ·rename_i y q
  rw [q] at e
  exact congrArg some e
 ·rename_i q
  rw [q] at e
  have a : es.toList.any (·.refKey) = false := by
   rw [List.any_eq_false]
   intro y hy
   obtain ⟨z, t, hkey⟩ := hk y (Array.mem_toList_iff.mp hy)
   simp [DictEntry.refKey, hkey]
  have a' : ¬ es.toList.any (·.refKey) = true := by rw [a]; exact Bool.false_ne_true
  rw [if_neg a']
  exact congrArg some e
theorem ObjM.look {h : Heap} {x dx C : Addr} {mA : Str → Option Value} (I : ObjM h x dx C mA) : ∃ od, PySem.W.InstAt h x (PySem.W.instObj C dx) C (some od) ∧ ∀ name, PySem.W.lookIn name od = some (mA name) :=
 let ⟨od, ho, hl⟩ := QbC I.ns
 ⟨od, ⟨I.obj, rfl, rfl, ho⟩, hl⟩
section
variable {prog : Program} {w : World} {A : Around} {E : Value → Shared → Prop} {s : Shared} {K : PySem.W.Frag} {x dx C f : Addr} {mA : Str → Option Value} {name : Str} {v : Value}
end
theorem RelO.some_of {v : V} {o : Option Value} (r : RelO (some v) o) : ∃ u, o = some u ∧ RelV v u := by
 cases o with
 | none => exact (show False from r).elim
 | some u => exact ⟨u, rfl, r⟩
theorem RelO.none_of {o : Option Value} (r : RelO none o) : o = none := by
 cases o with
 | none => rfl
 | some u => exact (show False from r).elim
section
variable {P : Program} {w : World} {H H' : Hp} {h h' : Heap} {a C dx : Addr} {fs fs' : List (Str × V)}
theorem QbD (hok : HOk P w H h) (e : H a = some (.ins C dx fs)) : ∃ mA, ObjM h a dx C mA ∧ (∀ f, RelO (fs.lookup f) (mA f)) ∧ PySem.Within mA (fs.map (·.1)) ∧ fs.length ≤ 1000 ∧ H dx = some (.own a) := by
 obtain ⟨d, z, ne, ob, mA, n, r, q⟩ := (show ObjOk P w H h a (.ins C dx fs) from hok a _ e)
 exact ⟨mA, ⟨ob, n, ne⟩, r, q, z, d⟩
end
structure Cls (K : PySem.W.Frag) (C : Addr) : Prop where
 pg : PySem.W.plainGet K C Str.empty = true
 hd : PySem.W.hasDictIn K C = true
 po : PySem.W.plainOver K C = true
 sa : PySem.W.findIn K (.ref C) "__setattr__" = some (some (.builtin "object.__setattr__"))
theorem Cls.get {K : PySem.W.Frag} {C : Addr} (c : Cls K C) (f : Str) : PySem.W.plainGet K C f = true := c.pg
structure Con (K : PySem.W.Frag) (C : Addr) (f : Str) (v : V) (u : Value) : Prop where
 at_ : PySem.W.findIn K (.ref C) f = some (some u)
 rel : RelV v u
 get : PySem.W.specialIn K u "__get__" = some none
 cp : PySem.W.copiedNames.contains f = false
structure Meth (K : PySem.W.Frag) (C : Addr) (m : Str) (f : Addr) : Prop where
 at_ : PySem.W.findIn K (.ref C) m = some (some (.ref f))
 fn : PySem.W.isFn K (.ref f) = true
 kp : PySem.W.keepIn K (.ref f) = true
section
variable {X : Cx} {pins : List (Addr × Obj)} {σ : St} {H : Hp} {s : Shared} {a C dx : Addr} {fs : List (Str × V)} {f : Str} {v : V} {A : Around} {E : Value → Shared → Prop}
theorem Inv.made (I : Inv X pins σ H s) : Inv X pins σ (upd (upd H s.heap.objs.size (.own (s.heap.objs.size + 1))) (s.heap.objs.size + 1) (.ins C s.heap.objs.size []))
  { s with heap := (s.heap.push PySem.W.emptyDict).push (PySem.W.instObj C s.heap.objs.size) } := by
 have e1 : (s.heap.push PySem.W.emptyDict).get? s.heap.objs.size = some PySem.W.emptyDict := Heap.get?_push_size s.heap rfl
 have e2 : ((s.heap.push PySem.W.emptyDict).push (PySem.W.instObj C s.heap.objs.size)).get? (s.heap.objs.size + 1) = some (PySem.W.instObj C s.heap.objs.size) := by
  have := Heap.get?_push_size (s.heap.push PySem.W.emptyDict) (o := PySem.W.instObj C s.heap.objs.size) rfl
  rwa [Heap.size_push] at this
 have e3 : (s.heap.push PySem.W.emptyDict).Ns s.heap.objs.size (fun _ => none) := ⟨PySem.W.emptyDict, #[], _, e1, rfl, (fun e he => absurd he (by simp)), fun _ => rfl⟩
 have I1 := I.laid (a := s.heap.objs.size) (o := .own (s.heap.objs.size + 1)) (h' := s.heap.push PySem.W.emptyDict) (t' := s.toks) (fun b u q => Heap.get?_push_of_some _ q) (Nat.le_refl _) ⟨_, e1⟩
 refine I1.laid (a := s.heap.objs.size + 1) (o := .ins C s.heap.objs.size []) (t' := s.toks) (fun b u q => Heap.get?_push_of_some _ q) (Nat.le_of_eq (Heap.size_push _ _)) ?_
 have ne : s.heap.objs.size ≠ s.heap.objs.size + 1 := Nat.ne_of_lt (Nat.lt_succ_self _)
 refine ⟨by rw [Qaj ne, Qai], Nat.zero_le _, ne, e2, fun _ => none, (Heap.Ns1.of_empty e3).at fun o q => Heap.get?_push_of_some _ q, fun _ => True.intro, fun y hy => absurd rfl hy⟩
end
section
variable {X : Cx} {o e value : Expr} {f : Str} {pos pos' tpos : Pos} {ta tv : TE}
end
section
variable {X : Cx} {pins : List (Addr × Obj)} {σ : St} {H : Hp} {s : Shared} {A : Around} {E : Value → Shared → Prop} {Q : Value → Shared → Prop} {c : Value} {b : Bool}
inductive TyOf (K : PySem.W.Frag) (H : Hp) : V → Value → Prop where
 | non : TyOf K H .non (.type "NoneType")
 | bl (x : Bool) : TyOf K H (.bl x) (.type "bool")
 | int (i : Int) : TyOf K H (.int i) (.type "int")
 | str (x : Str) : TyOf K H (.str x) (.type "str")
 | flt (x : UInt64) : TyOf K H (.flt x) (.type "float")
 | lst {a : Addr} {xs : List V} (e : H a = some (.lst xs)) : TyOf K H (.ref a) (.type "list")
 | frz {a : Addr} {o : Obj} {xs : List V} (e : H a = some (.frz o (.lst xs))) : TyOf K H (.ref a) (.type "list")
 | tup {a : Addr} {xs : List V} (e : H a = some (.tup xs)) : TyOf K H (.ref a) (.type "tuple")
 | dK {a : Addr} {kvs : List (Key × V)} (e : H a = some (.dK kvs)) : TyOf K H (.ref a) (.type "dict")
 | dT {a : Addr} {kvs : List (List Key × V)} (e : H a = some (.dT kvs)) : TyOf K H (.ref a) (.type "dict")
 | ins {a C dx : Addr} {fs : List (Str × V)} (e : H a = some (.ins C dx fs)) (cl : Cls K C) (ha : PySem.W.findIn K (.ref C) "__class__" = some (some (.builtin "object.__class__")))
   (hn : PySem.W.specialIn K (.builtin "object.__class__") "__get__" = some (some (.builtin "getset_descriptor.__get__"))) (htk : PySem.W.takesIn K (.builtin "object.__class__") = some true)
   (hm : PySem.W.mroIn K C (.type "object") = some true) : TyOf K H (.ref a) (.ref C)
theorem QbE {x : V} {u t : Value} (I : Inv X pins σ H s) (rx : RelV x u) (ty : TyOf X.K H x t) (e : PySem.W.kitOne X.K t c = some b) (h : ∀ tk, Q (.bool b) { s with toks := tk }) :
  wpAny (model X.prog X.w) A (call (.builtin "isinstance") [u, c]) Q E s := by
 cases ty with
 | non => cases (show u = Value.none from rx); exact PySem.W.kia_one PySem.W.kitx_none I.kIn True.intro e (fun z => nomatch z) h
 | bl y => cases (show u = Value.bool y from rx); exact PySem.W.kia_one PySem.W.kitx_bool I.kIn True.intro e (fun z => nomatch z) h
 | int i => obtain ⟨t, q⟩ := (show ∃ t, u = Value.int i t from rx); cases q; exact PySem.W.kia_one PySem.W.kitx_int I.kIn True.intro e (fun z => nomatch z) h
 | str y => obtain ⟨t, q⟩ := (show ∃ t, u = Value.str y t from rx); cases q; exact PySem.W.kia_one PySem.W.kitx_str I.kIn True.intro e (fun z => nomatch z) h
 | flt y => obtain ⟨t, q⟩ := (show ∃ t, u = Value.float y t from rx); cases q; exact PySem.W.kia_one PySem.W.kitx_float I.kIn True.intro e (fun z => nomatch z) h
 | @lst a xs ea =>
  cases (show u = Value.ref a from rx)
  obtain ⟨_, _, n, _, h1⟩ := (show ObjOk X.prog X.w H s.heap a (.lst xs) from I.hok a _ ea)
  exact PySem.W.kia_one PySem.W.kitx_list I.kIn ⟨_, h1, rfl⟩ e (fun z => nomatch z) h
 | @frz a ob xs ea =>
  cases (show u = Value.ref a from rx)
  obtain ⟨_, _, _, n, _, h1⟩ := (show ObjOk X.prog X.w H s.heap a (.frz ob (.lst xs)) from I.hok a _ ea)
  exact PySem.W.kia_one PySem.W.kitx_list I.kIn ⟨_, h1, rfl⟩ e (fun z => nomatch z) h
 | @tup a xs ea =>
  cases (show u = Value.ref a from rx)
  obtain ⟨_, _, _, p⟩ := (show ObjOk X.prog X.w H s.heap a (.tup xs) from I.hok a _ ea)
  obtain ⟨o, h1, h2, _⟩ := p
  exact PySem.W.kia_one PySem.W.kitx_tuple I.kIn ⟨o, h1, h2⟩ e (fun z => nomatch z) h
 | @dK a kvs ea =>
  cases (show u = Value.ref a from rx)
  obtain ⟨_, _, vs, _, p⟩ := (show ObjOk X.prog X.w H s.heap a (.dK kvs) from I.hok a _ ea)
  obtain ⟨o, es, ep, h1, h2, _⟩ := p
  exact PySem.W.kia_one PySem.W.kitx_dict I.kIn ⟨o, h1, h2.1⟩ e (fun z => nomatch z) h
 | @dT a kvs ea =>
  cases (show u = Value.ref a from rx)
  obtain ⟨_, _, xs, _, o, es, ep, h1, h2, _⟩ := (show ObjOk X.prog X.w H s.heap a (.dT kvs) from I.hok a _ ea)
  exact PySem.W.kia_one PySem.W.kitx_dict I.kIn ⟨o, h1, h2.1⟩ e (fun z => nomatch z) h
 | @ins a C dx fs ea cl ha hn htk hm =>
  cases (show u = Value.ref a from rx)
  obtain ⟨mA, O, _⟩ := QbD I.hok ea
  obtain ⟨od, J, _⟩ := O.look
  exact PySem.W.kia_one (PySem.W.kitx_own (cl.get _) cl.hd ha hn htk hm) I.kIn J e (fun z => nomatch z) h
end
end L2
namespace L2
open PySem PySem.Spec PyProof.Rows
structure Room (k : Nat) (A : Around) : Prop where
 hd : A.handled = none
 dp : A.depth + 3 * k + 5 < recursionLimit
 un : A.units + 16 * k + 200 < cLine
theorem Room.mono {j k : Nat} {A : Around} (r : Room k A) (h : j ≤ k) : Room j A := ⟨r.hd, by have := r.dp; ac_nf, by have := r.un; ac_nf⟩
theorem Room.deeper {k : Nat} {A : Around} (r : Room (k + 1) A) (env : Env) : Room k (A.deeper env) :=
 ⟨r.hd, by have := r.dp; show A.depth + 1 + 3 * k + 5 < _; ac_nf, by have := r.un; show A.units + 3 + 16 * k + 200 < _; ac_nf⟩
theorem Room.in1 {k : Nat} {A : Around} (r : Room (k + 1) A) : Room k A.in1 :=
 ⟨r.hd, by have := r.dp; show A.depth + 3 * k + 5 < _; ac_nf, by have := r.un; show A.units + 1 + 16 * k + 200 < _; ac_nf⟩
theorem QbF {A : Around} {C : Addr} {us : List Value} {kw : List (Str × Value)} : (A.under (.builtin "type.__call__" ⟨.ref C :: us, kw⟩)).depth = A.depth + 1 := by
 first | rfl | simp [Around.under, Code.weight, Code.isCreation, Code.isGuard, Code.isCaller, Code.frames, Code.isFrame, guardIds]
theorem QbG {A : Around} {C : Addr} {us : List Value} {kw : List (Str × Value)} : (A.under (.builtin "type.__call__" ⟨.ref C :: us, kw⟩)).units = A.units + 1 := by
 first | rfl | simp [Around.under, Code.cUnits, Code.frames, Code.isFrame]
theorem Room.make {k : Nat} {A : Around} (r : Room (k + 1) A) (C : Addr) (us : List Value) (kw : List (Str × Value)) : Room k (A.under (.builtin "type.__call__" ⟨.ref C :: us, kw⟩)) :=
 ⟨r.hd, by have := r.dp; rw [QbF]; ac_nf, by have := r.un; rw [QbG]; ac_nf⟩
theorem Room.depth {k : Nat} {A : Around} (r : Room k A) : A.depth < recursionLimit := by have := r.dp; ac_nf
theorem Room.units {k : Nat} {A : Around} (r : Room k A) : A.units + 64 < cLine := by have := r.un; ac_nf
noncomputable def tNil : TA := fun _ H Q => Q [] H
noncomputable def tCons (ta : TE) (tr : TA) : TA := fun σ H Q => ta σ H fun x H1 => tr σ H1 fun xs H2 => Q (x :: xs) H2
section
variable {X : Cx} {e : Expr} {es : List Expr} {te : TE} {t : TA} {pos : Pos}
theorem QbH : PA X [] tNil := fun _ _ _ _ H Q I h => Calls.spliced_nil ⟨[], H, I, .nil, h⟩
theorem QbI (ha : PE X e te) (hr : PA X es t) (hs : starEach (e :: es) X.env = (false, eval e X.env) :: starEach es X.env := by rfl) : PA X (e :: es) (tCons te t) := by
 intro pos pins s σ H Q I h
 rw [hs]
 show wpAny _ _ (spliced ((false, eval e X.env) :: backTo pos (starEach es X.env))) _ _ s
 refine Calls.spliced_cons (thn (ha pins s σ H _ I h) fun u s1 pq28 => ?_)
 obtain ⟨x, H1, I1, r1, q1⟩ := pq28
 exact thn (hr pos pins s1 σ H1 _ I1 q1) fun us s2 pq29 => by obtain ⟨xs, H2, I2, r2, q2⟩ := pq29; exact ⟨x :: xs, H2, I2, .cons r1 r2, q2⟩
noncomputable def tTup (t : TA) : TE := fun σ H Q => t σ H fun xs H1 => xs.length ≤ sizeLine ∧ ∀ p, H1 p = none → Q (.ref p) (upd H1 p (.tup xs))
noncomputable def tLst (t : TA) : TE := fun σ H Q => t σ H fun xs H1 => xs.length ≤ sizeLine ∧ ∀ p, H1 p = none → Q (.ref p) (upd H1 p (.lst xs))
theorem QbJ {x1} (h : PA X es t) : PE X (.Tuple es x1 pos) (tTup t) := by
 intro pins s σ H Q I hq
 refine wpAny_Tuple_spliced (thn (h pos pins s σ H _ I hq) fun us s1 ⟨xs, H1, I1, r, z, q⟩ => ⟨by rw [← r.length]; exact z, ?_⟩)
 have hf : H1 s1.heap.objs.size = none := I1.hok.fresh (Nat.le_refl _)
 refine ⟨.ref s1.heap.objs.size, upd H1 s1.heap.objs.size (.tup xs), I1.laid (t' := s1.toks) (fun b u e => Heap.get?_push_of_some _ e) (Nat.le_refl _) ?_, rfl, q _ hf⟩
 exact ⟨z, us, r, ⟨_, Heap.get?_push_size _ rfl, rfl, _, rfl⟩⟩
theorem QbK (h : PA X es t) : PE X (.List es pos) (tLst t) := by
 intro pins s σ H Q I hq
 refine wpAny_List_spliced (thn (h pos pins s σ H _ I hq) fun us s1 ⟨xs, H1, I1, r, z, q⟩ => ⟨by rw [← r.length]; exact z, ?_⟩)
 have hf : H1 s1.heap.objs.size = none := I1.hok.fresh (Nat.le_refl _)
 refine ⟨.ref s1.heap.objs.size, upd H1 s1.heap.objs.size (.lst xs), I1.laid (t' := s1.toks) (fun b u e => Heap.get?_push_of_some _ e) (Nat.le_refl _) ?_, rfl, q _ hf⟩
 exact ⟨z, us, 0, r, Heap.get?_push_size _ rfl⟩
end
noncomputable abbrev Sp := List V → Hp → VK → XK → Prop
noncomputable abbrev CXT := List Env → Hp → Shared → XK → Value → Shared → Prop
structure Env0 (P : Program) (w : World) (K : PySem.W.Frag) (mg : Str → Option Value) (base : Heap) (A : Around) (outer : List Env) (s : Shared) (H : Hp) : Prop where
 frames : A.frames = some outer
 mod : Mod K mg base
 bs : ∀ b o, base.get? b = some o → s.heap.get? b = some o ∧ H b = none
 bsz : base.objs.size ≤ s.heap.objs.size
 funs : s.heap.FunFrames base outer
 frf : ∀ b ∈ frs outer, H b = none
 hok : HOk P w H s.heap
 bare : AllBare s.gens
def CE (outer : List Env) (P : Program) (w : World) (H : Hp) (s : Shared) (Q : VK) (u : Value) (s' : Shared) : Prop :=
 ∃ v H', s'.os = s.os ∧ AllBare s'.gens ∧ Un (frs outer) [] H H' s.heap s'.heap ∧ HOk P w H' s'.heap ∧ RelV v u ∧ Q v H'
def CR (CX : CXT) (outer : List Env) (P : Program) (w : World) (H : Hp) (s : Shared) (Q : VK) (E : XK) (r : Result) (s' : Shared) : Prop :=
 match r with
 | .ok (.ret u) => CE outer P w H s Q u s'
 | .ok _ => False
 | .error e => CX outer H s E e s'
structure FnOk (P : Program) (w : World) (K : PySem.W.Frag) (mg : Str → Option Value) (base : Heap) (CX : CXT) (k : Nat) (f : Addr) (fd : FuncData) (ps : List Str) (sp : Sp) : Prop where
 len : ∀ vs H Q E, sp vs H Q E → vs.length = ps.length
 run : ∀ (A : Around) (outer : List Env) (s : Shared) (H : Hp) (args : Args) (us : List Value) (vs : List V) (Q : VK) (E : XK), Room k A → Env0 P w K mg base A outer s H → BindsTo s fd args (ps.zip us) → Vals vs us → sp vs H Q E →
  codeAny (model P w) A (.call (.ref f) args) (CR CX outer P w H s Q E) s
theorem FnOk.mono {P : Program} {w : World} {K : PySem.W.Frag} {mg : Str → Option Value} {base : Heap} {CX : CXT} {j k : Nat} {f : Addr} {fd : FuncData} {ps : List Str} {sp : Sp} (F : FnOk P w K mg base CX j f fd ps sp) (h : j ≤ k) :
  FnOk P w K mg base CX k f fd ps sp := ⟨F.len, fun A outer s H args us vs Q E hr => F.run A outer s H args us vs Q E (hr.mono h)⟩
theorem FnOk.imp {P : Program} {w : World} {K : PySem.W.Frag} {mg : Str → Option Value} {base : Heap} {CX : CXT} {k : Nat} {f : Addr} {fd : FuncData} {ps : List Str} {sp sp' : Sp} (F : FnOk P w K mg base CX k f fd ps sp)
  (h : ∀ vs H Q E, sp' vs H Q E → sp vs H Q E) : FnOk P w K mg base CX k f fd ps sp' :=
 ⟨fun vs H Q E q => F.len vs H Q E (h _ _ _ _ q), fun A outer s H args us vs Q E hr he hb hv hs => F.run A outer s H args us vs Q E hr he hb hv (h _ _ _ _ hs)⟩
theorem Env0.make {P : Program} {w : World} {K : PySem.W.Frag} {mg : Str → Option Value} {base : Heap} {A : Around} {outer : List Env} {s : Shared} {H : Hp} (e : Env0 P w K mg base A outer s H) (C : Addr) (us : List Value) (kw : List (Str × Value)) :
  Env0 P w K mg base (A.under (.builtin "type.__call__" ⟨.ref C :: us, kw⟩)) outer s H := ⟨by first | exact e.frames | (simpa [Around.under, Code.envs, Code.isFrame, pushEnvs] using e.frames), e.mod, e.bs, e.bsz, e.funs, e.frf, e.hok, e.bare⟩
theorem Env0.in1 {P : Program} {w : World} {K : PySem.W.Frag} {mg : Str → Option Value} {base : Heap} {A : Around} {outer : List Env} {s : Shared} {H : Hp} (e : Env0 P w K mg base A outer s H) :
  Env0 P w K mg base A.in1 outer s H := ⟨e.frames, e.mod, e.bs, e.bsz, e.funs, e.frf, e.hok, e.bare⟩
section
variable {X : Cx} {pins : List (Addr × Obj)} {σ : St} {H : Hp} {s s' : Shared}
theorem Inv.env0 (I : Inv X pins σ H s) : Env0 X.prog X.w X.K X.mg X.base X.A X.stack s H :=
 ⟨I.ok.frames, I.ok.mod, I.bs, Nat.le_trans I.ok.bsz I.sz, I.stack, I.stkFree, I.hok, I.bare⟩
theorem Inv.after {Q : VK} {u : Value} (I : Inv X pins σ H s) (h : CE X.stack X.prog X.w H s Q u s') : EP X pins σ Q u s' := by
 obtain ⟨v, H', os, bare, un, hok, r, q⟩ := h
 obtain ⟨hh, g, d, t, os'⟩ := s'
 obtain rfl : os' = s.os := os
 exact ⟨v, H', I.call (h' := hh) (g' := g) (d' := d) (t' := t) (ch := []) un hok bare (fun b z => absurd z (by simp)), r, q⟩
end
noncomputable def tCall (sp : Sp) (dvs : List V) (E : XK) (t : TA) : TE := fun σ H Q => t σ H fun vs H1 => sp (vs ++ dvs) H1 Q E
def Binds (K : PySem.W.Frag) (fd : FuncData) (ps : List Str) (ds : List Value) : Prop :=
 ∀ (s : Shared) (us : List Value), K.In s.heap → (us ++ ds).length = ps.length → BindsTo s fd ⟨us, []⟩ (ps.zip (us ++ ds))
theorem Binds.all {K : PySem.W.Frag} {fd : FuncData} {ps : List Str} (h : ∀ us : List Value, us.length = ps.length → bindArgs fd ⟨us, []⟩ = pure (ps.zip us)) : Binds K fd ps [] := fun s us _ hl => by
 rw [List.append_nil] at hl ⊢
 exact .of_eq (h us hl)
def Passes (CX : CXT) (X : Cx) (E : XK) : Prop := ∀ (pins : List (Addr × Obj)) (σ : St) (H : Hp) (s : Shared) (e : Value) (s' : Shared), Inv X pins σ H s → CX X.stack H s E e s' → X.xe e s'
section
variable {X : Cx} {CX : CXT} {k : Nat} {f C : Addr} {fd : FuncData} {ps : List Str} {sp : Sp} {dvs : List V} {ds : List Value} {E : XK} {x m : Str} {p pos apos : Pos} {e o : Expr} {es : List Expr} {ta : TE} {t : TA}
theorem QbL {pins : List (Addr × Obj)} {σ : St} {H : Hp} {s : Shared} {Q : VK} {us : List Value} {vs : List V} (F : FnOk X.prog X.w X.K X.mg X.base CX k f fd ps sp) (hr : Room k X.A) (hb : Binds X.K fd ps ds) (hd : Vals dvs ds) (hx : Passes CX X E)
  (I : Inv X pins σ H s) (r : Vals vs us) (h : sp (vs ++ dvs) H Q E) : wpAny (model X.prog X.w) X.A (call (.ref f) us) (EP X pins σ Q) X.xe s := by
 have r2 : Vals (vs ++ dvs) (us ++ ds) := r.append hd
 have hl : (us ++ ds).length = ps.length := by rw [← r2.length]; exact F.len _ _ _ _ h
 refine wpAny_call (codeAny_mono (F.run X.A X.stack s H ⟨us, []⟩ (us ++ ds) (vs ++ dvs) Q E hr I.env0 (hb s us I.kIn hl) r2 h) fun r s' hq => ?_)
 cases r with
 | error e => exact hx pins σ H s e s' I hq
 | ok fl =>
  cases fl with
  | ret u => exact I.after hq
  | next => exact False.elim hq
  | brk => exact False.elim hq
  | cont => exact False.elim hq
theorem QbM (F : FnOk X.prog X.w X.K X.mg X.base CX k f fd ps sp) (hr : Room k X.A) (hg : Gl X x) (hm : X.mg x = some (.ref f)) (hk : PySem.W.keepIn X.K (.ref f) = true) (hb : Binds X.K fd ps ds) (hd : Vals dvs ds) (hx : Passes CX X E)
  (ha : PA X (e :: es) t) (hdb : (x == ("__debug__" : Str)) = false := by decide) (he : starEach (e :: es) X.env = (false, eval e X.env) :: starEach es X.env := by rfl) (hpl : (backTo pos (starEach es X.env)).any (·.1) = false := by rfl) :
  PE X (.Call (.Name x p) (e :: es) [] pos) (tCall sp dvs E t) := by
 intro pins s σ H Q I h
 refine wpAny_Call_Name_kw (Qax I hg hm ?_ hdb)
 refine PySem.W.callWith_K (h₀ := X.base) I.ok.mod.kin hk (thn (ha pos pins s σ H _ I h) fun us s1 ⟨vs, H1, I1, r, q⟩ => ⟨I1.kIn, ?_⟩) he hpl
 exact QbL F hr hb hd hx I1 r q
structure Mk (K : PySem.W.Frag) (C f : Addr) : Prop where
 makes : PySem.W.makesIn K C = true
 init : PySem.W.findIn K (.ref C) "__init__" = some (some (.ref f))
 fn : PySem.W.isFn K (.ref f) = true
 kp : PySem.W.keepIn K (.ref C) = true
end
section
variable {X : Cx} {CX : CXT} {k : Nat} {f C : Addr} {fd : FuncData} {ps ks : List Str} {sp : Sp} {E : XK} {x m : Str} {p pos apos kpos : Pos} {e o : Expr} {es : List Expr} {kws : List Keyword} {te ta : TE} {t tk : TA} {nm : Option Str}
structure KBinds (K : PySem.W.Frag) (fd : FuncData) (ps ks : List Str) (g : List Value → List Value → List Value) (gV : List V → List V → List V) : Prop where
 to : ∀ (s : Shared) (us ws : List Value), K.In s.heap → (g us ws).length = ps.length → BindsTo s fd ⟨us, ks.zip ws⟩ (ps.zip (g us ws))
 rel : ∀ {vs : List V} {us : List Value} {zs : List V} {ws : List Value}, Vals vs us → Vals zs ws → Vals (gV vs zs) (g us ws)
variable {g : List Value → List Value → List Value} {gV : List V → List V → List V}
end
structure FnScope (N P : List Str) (sc : Scope) : Prop where
 kind : sc.kind = .function
 co : sc.isCoroutine = false
 gen : sc.isGenerator = false
 nd : N.Nodup
 pre : N.take P.length = P
 par : ∀ x ∈ P, sc.names.lookup x = some .local ∨ sc.names.lookup x = some .cell
 nofree : ∀ y ∈ sc.names, y.2 ≠ .free
theorem QbN {kindOf : Str → Option NameKind} {x : Str} : ∀ {binds : List (Str × Value)} {m : Str → Option Value}, (∀ v, (x, v) ∉ binds) → bindL kindOf binds m x = m x
 | [], _, _ => rfl
 | (n, v) :: r, m, h => by
  unfold bindL
  rw [QbN fun w hw => h w (List.mem_cons_of_mem _ hw)]
  split
  ·have : x ≠ n := by rintro rfl; exact h v List.mem_cons_self
   simp [this]
  ·rfl
theorem QbO {kindOf : Str → Option NameKind} {x : Str} : ∀ {binds : List (Str × Value)} {m : Str → Option Value}, (∀ v, (x, v) ∉ binds) → bindC kindOf binds m x = m x
 | [], _, _ => rfl
 | (n, v) :: r, m, h => by
  unfold bindC
  rw [QbO fun w hw => h w (List.mem_cons_of_mem _ hw)]
  split
  ·rfl
  ·have : x ≠ n := by rintro rfl; exact h v List.mem_cons_self
   simp [this]
theorem QbP {kindOf : Str → Option NameKind} {x : Str} {v : Value} : ∀ {P : List Str} {vs : List Value} {i : Nat} {m : Str → Option Value}, P.Nodup → P[i]? = some x → vs[i]? = some v → kindOf x = some .local →
  bindL kindOf (P.zip vs) m x = some v
 | [], _, _, _, _, h, _, _ => by simp at h
 | _ :: _, [], _, _, _, _, h, _ => by simp at h
 | p :: P, w :: vs, 0, m, nd, h1, h2, hk => by
  simp at h1 h2; subst h1; subst h2
  show bindL kindOf ((p, w) :: P.zip vs) m p = _
  unfold bindL
  rw [QbN fun v hv => (List.nodup_cons.mp nd).1 (List.of_mem_zip hv).1, if_pos hk]
  simp
 | p :: P, w :: vs, i + 1, m, nd, h1, h2, hk => by
  show bindL kindOf ((p, w) :: P.zip vs) m x = _
  unfold bindL
  exact QbP (i := i) (List.nodup_cons.mp nd).2 (by simpa using h1) (by simpa using h2) hk
theorem QbQ {kindOf : Str → Option NameKind} {x : Str} {v : Value} : ∀ {P : List Str} {vs : List Value} {i : Nat} {m : Str → Option Value}, P.Nodup → P[i]? = some x → vs[i]? = some v → kindOf x ≠ some .local →
  bindC kindOf (P.zip vs) m x = some v
 | [], _, _, _, _, h, _, _ => by simp at h
 | _ :: _, [], _, _, _, _, h, _ => by simp at h
 | p :: P, w :: vs, 0, m, nd, h1, h2, hk => by
  simp at h1 h2; subst h1; subst h2
  show bindC kindOf ((p, w) :: P.zip vs) m p = _
  unfold bindC
  rw [QbO fun v hv => (List.nodup_cons.mp nd).1 (List.of_mem_zip hv).1, if_neg hk]
  simp
 | p :: P, w :: vs, i + 1, m, nd, h1, h2, hk => by
  show bindC kindOf ((p, w) :: P.zip vs) m x = _
  unfold bindC
  exact QbQ (i := i) (List.nodup_cons.mp nd).2 (by simpa using h1) (by simpa using h2) hk
noncomputable def start (N : List Str) (vs : List V) : St := vs.map some ++ List.replicate (N.length - vs.length) none
noncomputable def cxOf (CX : CXT) (P : Program) (w : World) (K : PySem.W.Frag) (mg : Str → Option Value) (base : Heap) (N : List Str) (qual : Str) (scope : Scope) (f : Addr) (cd : Value) (A : Around) (outer : List Env) (s : Shared) (H : Hp) (E : XK) : Cx where
 prog := P
 w := w
 K := K
 mg := mg
 base := base
 A := A.deeper (envOfC qual scope s.heap.objs.size f cd)
 N := N
 s₀ := s
 H₀ := H
 env := envOfC qual scope s.heap.objs.size f cd
 outer := outer
 stack := envOfC qual scope s.heap.objs.size f cd :: outer
 ex := []
 calm := true
 fn := fun _ => true
 pn := []
 xe := fun e s' => wpAny (model P w) (A.deeper (envOfC qual scope s.heap.objs.size f cd)) (leaving (envOfC qual scope s.heap.objs.size f cd) e) (fun _ s'' => CX outer H s E e s'') (fun e' s'' => CX outer H s E e' s'') s'
theorem QbR {sc : Scope} {n : Nat} {x : Str} (h : sc.names.lookup x = some .cell) : ∃ c, (cellsFrom n sc.names []).lookup x = some c := by
 have q := PySem.W.cellsFrom_some sc.names n [] (.inl h)
 exact Option.isSome_iff_exists.mp q
theorem QbS {CX : CXT} {P : Program} {w : World} {K : PySem.W.Frag} {mg : Str → Option Value} {base : Heap} {N ps : List Str} {qual : Str} {scope : Scope} {f : Addr} {cd : Value} {A : Around} {outer : List Env} {s s1 : Shared} {H : Hp} {E : XK} {us : List Value} {vs : List V}
  (S : FnScope N ps scope) (hd : A.handled = none) (e0 : Env0 P w K mg base A outer s H) (hl : vs.length = ps.length) (r : Vals vs us)
  (x : InCallC s s.heap.objs.size (bindL (envOfC qual scope s.heap.objs.size f cd).kindOf (ps.zip us) fun _ => none) (cellsFrom (s.heap.objs.size + 1) scope.names []) (bindC (envOfC qual scope s.heap.objs.size f cd).kindOf (ps.zip us) fun _ => none) s1) :
  Inv (cxOf CX P w K mg base N qual scope f cd A outer s H E) [] (start N vs) H s1 := by
 have hpl : ps.length ≤ N.length := by have := congrArg List.length S.pre; rw [List.length_take] at this; ac_nf
 obtain ⟨h1, tk, rfl, hk⟩ := x.done
 have noA : ∀ b : Addr, b ∉ (cxOf CX P w K mg base N qual scope f cd A outer s H E).ex := fun b z => absurd (show b ∈ ([] : List Addr) from z) (by simp)
 refine ⟨⟨e0.mod, S.kind, rfl, rfl, Nat.le_refl _, fun y z c h1 h2 => ?_, fun y hy => ?_, fun y c _ h => ?_, fun _ => hd, Around.frames_deeper e0.frames, .inr ⟨rfl, rfl⟩, fun b z => absurd z (noA b), e0.bs, e0.bsz, fun b _ _ => noA b, fun b z => absurd z (noA b), e0.funs, e0.frf⟩,
  rfl, e0.bare, Un.kept hk, ⟨_, x.toInCall.ns, fun i y v h1 h2 h3 => ?_⟩, fun y c h => ⟨_, x.cell y c h⟩, e0.hok.fresh (Nat.le_refl _), fun y c h => ?_, fun p hp => absurd (show p ∈ ([] : List (Addr × Obj)) from hp) (by simp), e0.hok.kept hk, ?_⟩
 ·exact name_of_addr x.apart (PySem.mem_of_lookup h1) (PySem.mem_of_lookup h2)
 ·have hy : scope.names.lookup y = some .cell ∨ scope.names.lookup y = some .free := hy
  rcases hy with hy | hy
  ·exact QbR hy
  ·exact absurd rfl (S.nofree _ (PySem.mem_of_lookup hy))
 ·exact Nat.le_of_lt (x.above y c (PySem.mem_of_lookup h))
 ·have hi : i < vs.length := by
    unfold start at h2
    by_cases hi : i < vs.length
    ·exact hi
    ·rw [List.getElem?_append_right (by simpa using hi)] at h2
     rw [List.getElem?_replicate] at h2
     split at h2 <;> cases h2
  have ha : vs[i]? = some v := by
   unfold start at h2
   rw [List.getElem?_append_left (by simpa using hi), List.getElem?_map] at h2
   cases e : vs[i]? with
   | none => rw [e] at h2; cases h2
   | some a => rw [e] at h2; cases h2; rfl
  obtain ⟨u, hu, rv⟩ := r.get ha
  have hp : ps[i]? = some y := by
   rw [← S.pre, List.getElem?_take_of_lt (by ac_nf)]; exact h1
  have ndP : ps.Nodup := by rw [← S.pre]; exact S.nd.sublist (List.take_sublist _ _)
  refine ⟨u, rv, ?_⟩
  rcases S.par y (List.mem_of_getElem? hp) with k | k
  ·exact .inl ⟨k, QbP ndP hp hu k⟩
  ·obtain ⟨c, e⟩ := QbR (n := s.heap.objs.size + 1) k
   refine .inr ⟨.inl k, c, e, ?_⟩
   have q := x.cell y c e
   rw [QbQ ndP hp hu (by show scope.names.lookup y ≠ _; rw [k]; decide)] at q
   exact q
 ·exact e0.hok.fresh (Nat.le_of_lt (x.above y c (PySem.mem_of_lookup h)))
 ·unfold start
  show _ = N.length
  rw [List.length_append, List.length_map, List.length_replicate]
  ac_nf
theorem QbT {CX : CXT} {P : Program} {w : World} {K : PySem.W.Frag} {mg : Str → Option Value} {base : Heap} {k : Nat} {f : Addr} {name qual : Str} {params : Arguments} {body : List Stmt} {scope : Scope} {dV kV doc pm cdv ct oc : Value} {an od : Option Addr}
  {osl : Array (Option Value)} {N ps : List Str} {sp : Sp} (lk : K.lookup f = some ⟨oc, od, .func (PySem.W.fnOf name qual params body scope dV kV doc pm an cdv ct), osl⟩) (hcd : PySem.W.codeIn K cdv qual = true) (S : FnScope N ps scope)
  (len : ∀ vs H Q E, sp vs H Q E → vs.length = ps.length)
  (hbody : ∀ (A : Around) (outer : List Env) (s : Shared) (H : Hp) (vs : List V) (Q : VK) (E : XK), Room k (A.deeper (envOfC qual scope s.heap.objs.size f cdv)) → sp vs H Q E →
   ∃ t, PSs (cxOf CX P w K mg base N qual scope f cdv A outer s H E) body t ∧ t { nx := fun _ H' => Q .non H', rt := Q } (start N vs) H) :
  FnOk P w K mg base CX (k + 1) f (PySem.W.fnOf name qual params body scope dV kV doc pm an cdv ct) ps sp := by
 refine ⟨len, fun A outer s H args us vs Q E hr e0 hb r hsp => ?_⟩
 have hl := len _ _ _ _ hsp
 have KX : K.In s.heap := e0.mod.kin.keeps fun b o e => (e0.bs b o e).1
 have lim : s.heap.NoLimit := e0.mod.nolimit.keeps fun b o e => (e0.bs b o e).1
 have hkind : ∀ y ∈ ps.zip us, scope.names.lookup y.1 = some .local ∨ (scope.names.lookup y.1 = some .cell ∧ ((cellsFrom (s.heap.objs.size + 1) scope.names []).lookup y.1).isSome = true) := fun pq33 hy => by
  obtain ⟨n, v⟩ := pq33
  rcases S.par n (List.of_mem_zip hy).1 with q | q
  ·exact .inl q
  ·exact .inr ⟨q, PySem.W.cellsFrom_some _ _ _ (.inl q)⟩
 refine codeAny_call_function hr.depth (KX _ _ lk) rfl S.co S.gen rfl (PySem.W.codeRec_of KX hcd) (hb _ _ _ _ ?_)
 refine wpAny_newFunctionEnv_cells S.kind hkind fun env he s1 x => ?_
 subst he
 refine ⟨lim.keeps x.toInCall.keep, codeAny_func ?_⟩
 obtain ⟨t, ht, hq⟩ := hbody A outer s H vs Q E (hr.deeper _) hsp
 have I : Inv (cxOf CX P w K mg base N qual scope f cdv A outer s H E) [] (start N vs) H s1 := QbS S hr.hd e0 hl r x
 refine wpAny_mono (ht [] s1 (start N vs) H _ I hq) (fun fl s' hs => ?_) fun e s' hs => hs
 have fin : ∀ {σ' : St} {H' : Hp} {v : V} {u : Value}, Inv (cxOf CX P w K mg base N qual scope f cdv A outer s H E) [] σ' H' s' → RelV v u → Q v H' → CE outer P w H s Q u s' :=
  fun {σ' H' v u} J rv q => ⟨v, H', J.os, J.bare, J.base, J.hok, rv, q⟩
 cases fl with
 | ret u =>
  obtain ⟨v, σ', H', J, rv, q⟩ := hs
  exact fin J rv q
 | next =>
  obtain ⟨σ', H', J, q⟩ := hs
  exact fin (v := V.non) (u := Value.none) J rfl q
 | brk =>
  obtain ⟨_, _, _, q⟩ := hs
  exact False.elim q
 | cont =>
  obtain ⟨_, _, _, q⟩ := hs
  exact False.elim q
end L2
namespace L2
open PySem PySem.Spec PyProof.Rows
section
variable {X : Cx} {x : Str} {p pos : Pos} {e : Expr} {es : List Expr} {t : TA} {id T : String} {r : List V → Hp → VK → Prop}
noncomputable def tCB (r : List V → Hp → VK → Prop) (t : TA) : TE := fun σ H Q => t σ H fun vs H1 => r vs H1 Q
theorem QbU (hc : CallR X (.builtin id) r) (hg : Gl X x) (hm : X.mg x = none) (hv : bootBuiltins x = some (.builtin id)) (ha : PA X (e :: es) t) (hn : x ≠ "__name__" := by decide) (hdb : (x == ("__debug__" : Str)) = false := by decide)
  (he : starEach (e :: es) X.env = (false, eval e X.env) :: starEach es X.env := by rfl) (hpl : (backTo pos (starEach es X.env)).any (·.1) = false := by rfl) : PE X (.Call (.Name x p) (e :: es) [] pos) (tCB r t) := by
 intro pins s σ H Q I h
 refine wpAny_Call_Name_kw (Qay I hg hm hv ?_ hn hdb)
 exact PyProof.Rows.callWith_builtin1 (thn (ha pos pins s σ H _ I h) fun us s1 pq34 => by obtain ⟨vs, H1, I1, r1, q1⟩ := pq34; exact hc pins s1 σ H1 vs us Q I1 r1 q1) he hpl
theorem QbV (hc : CallR X (.type T) r) (hg : Gl X x) (hm : X.mg x = none) (hv : bootBuiltins x = some (.type T)) (ha : PA X (e :: es) t) (hn : x ≠ "__name__" := by decide) (hdb : (x == ("__debug__" : Str)) = false := by decide)
  (he : starEach (e :: es) X.env = (false, eval e X.env) :: starEach es X.env := by rfl) (hpl : (backTo pos (starEach es X.env)).any (·.1) = false := by rfl) : PE X (.Call (.Name x p) (e :: es) [] pos) (tCB r t) := by
 intro pins s σ H Q I h
 refine wpAny_Call_Name_kw (Qay I hg hm hv ?_ hn hdb)
 exact PyProof.Rows.callWith_type1 (thn (ha pos pins s σ H _ I h) fun us s1 pq35 => by obtain ⟨vs, H1, I1, r1, q1⟩ := pq35; exact hc pins s1 σ H1 vs us Q I1 r1 q1) he hpl
end
end L2
namespace HT
open PySem PyProof.Rows
section
open PySem.SeqAt
open PySem.AutoSeq1 (wpAny_loadPart')
open PySem.MeetsSeq PySem.MeetsSeq2 PySem.MeetsSeq3
end
section
variable {prog : Program} {w : World} {A : Around} {E : Value → Shared → Prop} {s : Shared}
theorem cat_tup {t b : Addr} {vs ws : List Value} {Q : Value → Shared → Prop} (ht : IsTup s.heap t vs.toArray) (hb : IsTup s.heap b ws.toArray) (hv : vs ≠ [])
  (h1 : ws = [] → Q (.ref t) s) (h2 : ws ≠ [] → Q (.ref s.heap.objs.size) { s with heap := s.heap.push { cls := .type "tuple", data := .seq (vs ++ ws).toArray } })
  (hsz : vs.length + ws.length ≤ sizeLine) : wpAny (model prog w) A (binaryOp .Add (.ref t) (.ref b)) Q E s := by
 obtain ⟨⟨cls, dd, data, sl⟩, ho, hc, n, hd⟩ := id ht
 obtain ⟨⟨cls2, dd2, data2, sl2⟩, ho2, hc2, n2, hd2⟩ := id hb
 simp only at hc hd hc2 hd2
 subst hc hd hc2 hd2
 have e : vs.toArray ++ ws.toArray = (vs ++ ws).toArray := by simp
 by_cases hw : ws = []
 ·exact concat_meets ⟨_, ho, rfl⟩ ⟨_, ho2, rfl⟩ noFill_tuple_add seq_tuple_add PySem.F.slot_tuple_add PySem.F.entry_tuple_add (PySem.F.args_tuple_add_2 _ _)
    (tuple_addW1 t b vs.toArray ws.toArray n n2 dd dd2 sl sl2 (by simpa using hv) (by simp [hw])) ⟨ho, ho2, h1 hw⟩
 ·refine concat_meets ⟨_, ho, rfl⟩ ⟨_, ho2, rfl⟩ noFill_tuple_add seq_tuple_add PySem.F.slot_tuple_add PySem.F.entry_tuple_add (PySem.F.args_tuple_add_2 _ _)
    (tuple_addW2 t b vs.toArray ws.toArray n n2 dd dd2 sl sl2 (by simpa using hv) (by simpa using hw) (by rw [List.size_toArray, List.size_toArray]; exact hsz)) ⟨ho, ho2, ?_⟩
  rw [e]
  exact h2 hw
noncomputable def sIx (n d : Nat) : Option Int → Nat
 | none => d
 | some v => if v < 0 then (v + (n : Int)).toNat else min v.toNat n
theorem QbW (n d : Nat) (hd : d ≤ n) (o : Option Int) : sIx n d o ≤ n := by
 cases o with
 | none => exact hd
 | some v =>
  show (if v < 0 then (v + (n : Int)).toNat else min v.toNat n) ≤ n
  by_cases hv : v < 0
  ·rw [if_pos hv]; ac_nf
  ·rw [if_neg hv]; exact Nat.min_le_right _ _
theorem QbX (v : Int) (n d : Nat) : (if v < 0 then max (v + (n : Int)) 0 else min v (n : Int)) = ((sIx n d (some v) : Nat) : Int) := by
 show (if v < 0 then max (v + (n : Int)) 0 else min v (n : Int)) = (((if v < 0 then (v + (n : Int)).toNat else min v.toNat n) : Nat) : Int)
 by_cases hv : v < 0
 ·simp only [if_pos hv]; ac_nf
 ·simp only [if_neg hv]; ac_nf
theorem QbY (lo hi : Option Int) (n : Nat) : Builtin.Slice.sliceAdjust lo hi 1 (n : Int) = (((sIx n 0 lo : Nat) : Int), ((sIx n n hi : Nat) : Int)) := by
 have h1 : ¬ ((1 : Int) < 0) := by ac_nf
 unfold Builtin.Slice.sliceAdjust
 simp only [h1, if_false]
 refine Prod.ext ?_ ?_
 ·cases lo with
  | none => rfl
  | some v => exact QbX v n 0
 ·cases hi with
  | none => rfl
  | some v => exact QbX v n n
theorem QbZ (i j : Nat) : Builtin.Slice.slicePlaces (i : Int) (j : Int) 1 = j - i := by
 unfold Builtin.Slice.slicePlaces
 have h1 : (1 : Int) > 0 := by ac_nf
 simp only [h1, if_true, Int.ediv_one]
 split <;> ac_nf
theorem Qb0 {v : Value} {o : Option Int} {Q : Option Int → Shared → Prop} (p : IsPart v o) (h : Q o s) : wpAny (model prog w) A (Builtin.Slice.slicePartIndex v) Q E s := by
 cases p with
 | none => exact slicePart_none h
 | int i t => exact slicePart_int h
theorem Qb1 {sl : Addr} {vl vu : Value} {lo hi : Option Int} {n : Nat} {Q : Int × Int × Nat → Shared → Prop} (hs : s.heap.IsSliceOf sl vl vu .none) (pl : IsPart vl lo) (pu : IsPart vu hi)
  (h : Q (((sIx n 0 lo : Nat) : Int), 1, sIx n n hi - sIx n 0 lo) s) : wpAny (model prog w) A (Builtin.Slice.sliceApplied (.ref sl) (pure (n : Int))) Q E s := by
 obtain ⟨os, hos, hcs, hds⟩ := id hs
 unfold Builtin.Slice.sliceApplied Builtin.Slice.sliceFields
 refine wpAny_bind (wpAny_bind (wpAny_field hos hds (x := vl) rfl (wpAny_bind (wpAny_field hos hds (x := vu) rfl (wpAny_bind (wpAny_field hos hds (x := .none) rfl (wpAny_pure ?_)))))))
 refine wpAny_bind (slicePart_none ?_)
 show wpAny _ _ (if ((1 : Int) == 0) = true then _ else _) _ _ s
 rw [if_neg (by decide)]
 refine wpAny_bind (Qb0 pl (wpAny_bind (Qb0 pu (wpAny_bind (wpAny_pure ?_)))))
 show wpAny _ _ (match Builtin.Slice.sliceAdjust lo hi 1 (n : Int) with | (lo, hi) => pure (lo, (1 : Int), Builtin.Slice.slicePlaces lo hi 1)) _ _ s
 rw [QbY lo hi n]
 show wpAny _ _ (pure (((sIx n 0 lo : Nat) : Int), (1 : Int), Builtin.Slice.slicePlaces ((sIx n 0 lo : Nat) : Int) ((sIx n n hi : Nat) : Int) 1)) _ _ s
 rw [QbZ]
 exact wpAny_pure h
theorem Qb2 (xs : Array Value) (i k : Nat) : ((List.range k).filterMap fun (m : Nat) => xs[((i : Int) + (m : Int) * 1).toNat]?).toArray = ((xs.toList.drop i).take k).toArray := by
 have e : (fun (m : Nat) => xs[((i : Int) + (m : Int) * 1).toNat]?) = fun m => xs[i + m]? := by
  funext m
  have : ((i : Int) + (m : Int) * 1).toNat = i + m := by ac_nf
  rw [this]
 rw [e]
 have := pick_run xs i k
 rw [List.filterMap_map] at this
 have e2 : ((fun x => xs[x]?) ∘ fun x => i + x) = fun m => xs[i + m]? := rfl
 rw [e2] at this
 rw [this]
theorem getItem_tuple_cut {t sl : Addr} {items : Array Value} {vl vu : Value} {lo hi : Option Int} {Q : Value → Shared → Prop} (ht : IsTup s.heap t items) (hs : s.heap.IsSliceOf sl vl vu .none) (pl : IsPart vl lo) (pu : IsPart vu hi)
  (hw : ¬ (sIx items.size 0 lo = 0 ∧ sIx items.size items.size hi = items.size))
  (h : Q (.ref s.heap.objs.size) { s with heap := s.heap.push { cls := .type "tuple", data := .seq ((items.toList.drop (sIx items.size 0 lo)).take (sIx items.size items.size hi - sIx items.size 0 lo)).toArray } })
  (hsz : items.size ≤ sizeLine) : wpAny (model prog w) A (getItem (.ref t) (.ref sl)) Q E s := by
 have htake : sizeOk (.seq ((items.toList.drop (sIx items.size 0 lo)).take (sIx items.size items.size hi - sIx items.size 0 lo)).toArray) := by
  show ((items.toList.drop (sIx items.size 0 lo)).take (sIx items.size items.size hi - sIx items.size 0 lo)).toArray.size ≤ sizeLine
  rw [List.size_toArray, List.length_take, List.length_drop, Array.length_toList]
  ac_nf
 have hj : sIx items.size items.size hi ≤ items.size := QbW _ _ (Nat.le_refl _) hi
 obtain ⟨os, hos, hcs, hds⟩ := id hs
 have hTs : s.TypeIs (.ref sl) "slice" := ⟨os, hos, hcs⟩
 unfold getItem
 try with_reducible refine wpAny_holding ?_
 first | refine wpAny_bind (wpAny_pure ?_) | skip
 refine wpAny_bind (wpAny_sequenceKey ht.typeIs (by decide) ?_)
 refine wpAny_bind (wpAny_callSpecial?_slot (name := Str.ofString "__getitem__") ht.typeIs PyProof.Rows.slot_tuple_getitem
  (wpAny_call_entry PyProof.Rows.slot_tuple_getitem ht.typeIs entry_tuple_getitem ?_ (args_tuple_getitem _ _)))
 show wpAny _ _ (Builtin.Tuple.tupleItemsOf (.ref t) >>= _) _ _ s
 refine wpAny_bind (tupleItemsOf_ ht ?_)
 refine wpAny_bind (wpAny_typeOf hTs ?_)
 rw [if_pos (by decide)]
 refine wpAny_bind (Qb1 hs pl pu ?_)
 have hno : ¬ ((((sIx items.size 0 lo : Nat) : Int) == 0 && (1 : Int) == 1 && (sIx items.size items.size hi - sIx items.size 0 lo) == items.size) = true) := by
  intro q
  rw [Bool.and_eq_true, Bool.and_eq_true] at q
  have q1 : ((sIx items.size 0 lo : Nat) : Int) = 0 := eq_of_beq q.1.1
  have q2 : sIx items.size items.size hi - sIx items.size 0 lo = items.size := eq_of_beq q.2
  exact hw ⟨by ac_nf, by ac_nf⟩
 show wpAny _ _ (if (((sIx items.size 0 lo : Nat) : Int) == 0 && (1 : Int) == 1 && (sIx items.size items.size hi - sIx items.size 0 lo) == items.size) = true then _ else _) _ _ s
 rw [if_neg hno, Qb2]
 first
  | exact wpAny_bind (m := Builtin.Tuple.tupleExact _) (wpAny_newObj_type (wpAny_pure ⟨_, rfl, wpAny_pure h⟩) htake)
  | exact wpAny_bind (m := Builtin.Tuple.tupleExact _) (wpAny_newObj_type (wpAny_bind (wpAny_pure (wpAny_pure ⟨_, rfl, wpAny_pure h⟩))) htake)
  | exact wpAny_bind (wpAny_bind (m := Builtin.Tuple.tupleExact _) (wpAny_newObj_type (wpAny_pure (wpAny_pure ⟨_, rfl, wpAny_pure h⟩)) htake))
  | exact wpAny_bind (wpAny_bind (m := Builtin.Tuple.tupleExact _) (wpAny_newObj_type (wpAny_pure ⟨_, rfl, wpAny_pure h⟩) htake))
end
end HT
namespace L2
open PySem PySem.Spec PyProof.Rows
noncomputable abbrev TO := St → Hp → (Option Int → Hp → Prop) → Prop
def PO (X : Cx) (e : Option Expr) (t : TO) : Prop :=
 ∀ (pins : List (Addr × Obj)) (s : Shared) (σ : St) (H : Hp) (Q : Option Int → Hp → Prop), Inv X pins σ H s → t σ H Q →
  wpAny (model X.prog X.w) X.A (evalPart e X.env) (fun u s' => ∃ o H', Inv X pins σ H' s' ∧ IsPart u o ∧ Q o H') X.xe s
noncomputable def tNoPart : TO := fun _ H Q => Q none H
noncomputable def tPart (t : TE) : TO := fun σ H Q => t σ H fun x H1 => ∃ i, x = .int i ∧ Q (some i) H1
theorem Qb3 {ns : List Int} : ∀ {us : List Value}, Vals (ns.map V.int) us → IntsAre us ns := by
 induction ns with
 | nil => intro us r; rw [List.map_nil] at r; cases r; exact .nil
 | cons n ns ih =>
  intro us r
  rw [List.map_cons] at r
  cases r with
  | cons r1 r2 =>
   obtain ⟨t, e⟩ := r1
   subst e
   exact .cons n t (ih r2)
section
variable {X : Cx} {e : Expr} {te : TE} {lo hi : Option Expr} {tl th : TO} {pos p2 : Pos}
theorem Qb4 : PO X none tNoPart := by
 intro pins s σ H Q I h
 rw [evalPart_none]
 exact wpAny_pure ⟨none, H, I, .none, h⟩
theorem Qb5 (h : PE X e te) : PO X (some e) (tPart te) := by
 intro pins s σ H Q I hw
 rw [evalPart_some]
 refine thn (h pins s σ H _ I hw) fun u s1 pq36 => ?_
 obtain ⟨x, H1, I1, r1, q1⟩ := pq36
 obtain ⟨i, rfl, q⟩ := q1
 obtain ⟨t, rfl⟩ := r1
 exact ⟨some i, H1, I1, .int i t, q⟩
def SlR (X : Cx) (r : V → Option Int → Option Int → Hp → VK → Prop) : Prop :=
 ∀ (pins : List (Addr × Obj)) (s : Shared) (σ : St) (H : Hp) (x : V) (v vl vu : Value) (lo hi : Option Int) (sl : Addr) (Q : VK), Inv X pins σ H s → RelV x v → s.heap.IsSliceOf sl vl vu .none → IsPart vl lo → IsPart vu hi → r x lo hi H Q →
  ∃ T id, typeLookup (.type T) "__getitem__" = pure (some (.builtin id)) ∧ s.TypeIs v T ∧ wpAny (model X.prog X.w) X.A (getItem v (.ref sl)) (EP X pins σ Q) X.xe s
theorem SlR.or {r r' : V → Option Int → Option Int → Hp → VK → Prop} (h : SlR X r) (h' : SlR X r') : SlR X (fun x lo hi H Q => r x lo hi H Q ∨ r' x lo hi H Q) := by
 intro pins s σ H x v vl vu lo hi sl Q I rx hs pl pu q
 rcases q with q | q
 ·exact h pins s σ H x v vl vu lo hi sl Q I rx hs pl pu q
 ·exact h' pins s σ H x v vl vu lo hi sl Q I rx hs pl pu q
noncomputable def tSl (r : V → Option Int → Option Int → Hp → VK → Prop) (te : TE) (tl th : TO) : TE := fun σ H Q => te σ H fun x H1 => tl σ H1 fun l H2 => th σ H2 fun u H3 => r x l u H3 Q
theorem Qb6 {r : V → Option Int → Option Int → Hp → VK → Prop} (hr : SlR X r) (he : PE X e te) (hl : PO X lo tl) (hu : PO X hi th) : PE X (.Subscript e (.Slice lo hi none p2) pos) (tSl r te tl th) := by
 intro pins s σ H Q I h
 refine Subscript_ (thn (he pins s σ H _ I h) fun v s1 pq37 => ?_)
 obtain ⟨x, H1, I1, r1, q1⟩ := pq37
 refine wpAny_Slice (thn (hl pins s1 σ H1 _ I1 q1) fun vl s2 ⟨l, H2, I2, pl, q2⟩ => thn (hu pins s2 σ H2 _ I2 q2) fun vu s3 pq39 => ?_)
 obtain ⟨u, H3, I3, pu, q3⟩ := pq39
 rw [evalPart_none]
 refine wpAny_pure ?_
 have I4 : Inv X pins σ H3 { s3 with heap := s3.heap.push { cls := .type "slice", data := .fields #[vl, vu, .none] } } := I3.kept (t' := s3.toks) fun b ob q => Heap.get?_push_of_some _ q
 obtain ⟨T, id, hT, ht, hg⟩ := hr pins { s3 with heap := s3.heap.push { cls := .type "slice", data := .fields #[vl, vu, .none] } } σ H3 x v vl vu l u s3.heap.objs.size Q I4 r1 (Heap.IsSliceOf.new ..) pl pu q3
 show wpAny (model X.prog X.w) X.A (subscriptTail e (.Slice lo hi none p2) v (.ref s3.heap.objs.size)) (EP X pins σ Q) X.xe { s3 with heap := s3.heap.push { cls := .type "slice", data := .fields #[vl, vu, .none] } }
 exact tail_any (ops := [.ref s3.heap.objs.size, v]) ht hT hg (by with_unfolding_all rfl)
noncomputable def cutV (xs : List V) (lo hi : Option Int) : List V := (xs.drop (HT.sIx xs.length 0 lo)).take (HT.sIx xs.length xs.length hi - HT.sIx xs.length 0 lo)
theorem Qb7 (xs : List V) (lo hi : Option Int) : (cutV xs lo hi).length ≤ xs.length := by
 unfold cutV
 rw [List.length_take, List.length_drop]
 ac_nf
noncomputable def rSlT (K : PySem.W.Frag) : V → Option Int → Option Int → Hp → VK → Prop := fun x lo hi H Q => ∃ a xs, x = .ref a ∧ SqT K H a xs ∧
 ¬ (HT.sIx xs.length 0 lo = 0 ∧ HT.sIx xs.length xs.length hi = xs.length) ∧ ∀ p, H p = none → Q (.ref p) (upd H p (.tup (cutV xs lo hi)))
theorem Qb8 : SlR X (rSlT X.K) := by
 intro pins s σ H x v vl vu lo hi sl Q I rx hs pl pu h
 obtain ⟨a, xs, rfl, hx, hw, q⟩ := h
 cases rx
 obtain ⟨its, r, ht, hz⟩ := I.tuple hx
 have hlen : its.toArray.size = xs.length := by rw [List.size_toArray]; exact r.length.symm
 refine ⟨"tuple", _, PyProof.Rows.slot_tuple_getitem.lookup, ht.typeIs, ?_⟩
 refine HT.getItem_tuple_cut ht hs pl pu (by rw [hlen]; exact hw) ?_ (by rw [hlen]; exact hz)
 rw [hlen]
 refine ⟨.ref s.heap.objs.size, _, I.laid (t' := s.toks) (o := .tup (cutV xs lo hi)) (fun b ob q => Heap.get?_push_of_some _ q) (Nat.le_refl _) ?_, rfl, q _ (I.hok.fresh (Nat.le_refl _))⟩
 exact ⟨Nat.le_trans (Qb7 xs lo hi) hz, _, (r.drop (HT.sIx xs.length 0 lo)).take (HT.sIx xs.length xs.length hi - HT.sIx xs.length 0 lo), IsTup.new _ _⟩
noncomputable def rCatT (K : PySem.W.Frag) : R2 := fun x y H Q => ∃ a b xs ys, x = .ref a ∧ y = .ref b ∧ SqT K H a xs ∧ SqT K H b ys ∧ xs ≠ [] ∧ xs.length + ys.length ≤ sizeLine ∧
 (ys = [] → Q (.ref a) H) ∧ (ys ≠ [] → ∀ p, H p = none → Q (.ref p) (upd H p (.tup (xs ++ ys))))
theorem Vals.nil_iff {xs : List V} {us : List Value} (r : Vals xs us) : us = [] ↔ xs = [] := by
 cases r with
 | nil => simp
 | cons _ _ => simp
theorem Qb9 : OpR X (binaryOp .Add) (rCatT X.K) := by
 intro pins s σ H x y v u Q I rx ry h
 obtain ⟨a, b, xs, ys, rfl, rfl, ha, hb, hx, hz, q1, q2⟩ := h
 cases rx
 cases ry
 obtain ⟨its, r1, p1, _⟩ := I.tuple ha
 obtain ⟨its2, r2, p2, _⟩ := I.tuple hb
 refine HT.cat_tup p1 p2 (fun z => hx (r1.nil_iff.mp z)) (fun z => ⟨.ref a, H, I, rfl, q1 (r2.nil_iff.mp z)⟩) (fun z => ?_) (by rw [← r1.length, ← r2.length]; exact hz)
 refine ⟨.ref s.heap.objs.size, _, I.laid (t' := s.toks) (o := .tup (xs ++ ys)) (fun b ob q => Heap.get?_push_of_some _ q) (Nat.le_refl _) ?_, rfl, q2 (fun w => z (r2.nil_iff.mpr w)) _ (I.hok.fresh (Nat.le_refl _))⟩
 exact ⟨by rw [List.length_append]; exact hz, _, r1.append r2, IsTup.new _ _⟩
end
end L2
namespace L2
open PySem PySem.Spec PyProof.Rows
noncomputable def ixN (n : Nat) (i : Int) : Option Nat := if 0 ≤ i then (if i < n then some i.toNat else none) else if -(n : Int) ≤ i then some (i + n).toNat else none
noncomputable def atI {α : Type} (xs : List α) (i : Int) : Option α := (ixN xs.length i).bind fun j => xs[j]?
theorem Qca {n : Nat} {i : Int} {j : Nat} (h : ixN n i = some j) : seqIndex? i n = some j ∧ j < n ∧ -(n : Int) ≤ i ∧ i < n := by
 unfold ixN at h
 by_cases h0 : 0 ≤ i
 ·rw [if_pos h0] at h
  by_cases h1 : i < n
  ·rw [if_pos h1] at h
   have e : i.toNat = j := Option.some.inj h
   exact ⟨by rw [seqIndex_of h0 h1, e], by ac_nf, by ac_nf, h1⟩
  ·rw [if_neg h1] at h; cases h
 ·rw [if_neg h0] at h
  by_cases h1 : -(n : Int) ≤ i
  ·rw [if_pos h1] at h
   have e : (i + n).toNat = j := Option.some.inj h
   exact ⟨by rw [seqIndex_neg (by ac_nf) h1, e], by ac_nf, h1, by ac_nf⟩
  ·rw [if_neg h1] at h; cases h
theorem Qcb {α : Type} {xs : List α} {i : Int} {v : α} (h : atI xs i = some v) : ∃ j, seqIndex? i xs.length = some j ∧ xs[j]? = some v ∧ j < xs.length ∧ -(xs.length : Int) ≤ i ∧ i < xs.length := by
 unfold atI at h
 cases e : ixN xs.length i with
 | none => rw [e] at h; cases h
 | some j =>
  rw [e] at h
  obtain ⟨h1, h2, h3, h4⟩ := Qca e
  exact ⟨j, h1, h, h2, h3, h4⟩
def PlainIx (b : Expr) : Prop := ∀ o i, subscripted b false o i = operate [o, i] (getItem o i)
def IxR (X : Cx) (r : R2) : Prop :=
 ∀ (value slice : Expr) (pins : List (Addr × Obj)) (s : Shared) (σ : St) (H : Hp) (x y : V) (v u : Value) (Q : VK), Inv X pins σ H s → RelV x v → RelV y u → r x y H Q →
  subscripted slice false v u = operate [v, u] (getItem v u) → wpAny (model X.prog X.w) X.A (subscriptTail value slice v u) (EP X pins σ Q) X.xe s
def MtR (X : Cx) (id : String) (r : V → List V → Hp → VK → Prop) : Prop :=
 ∀ (pins : List (Addr × Obj)) (s : Shared) (σ : St) (H : Hp) (x : V) (xs : List V) (v : Value) (us : List Value) (Q : VK), Inv X pins σ H s → RelV x v → Vals xs us → r x xs H Q →
  wpAny (model X.prog X.w) X.A (call (.builtin id) (v :: us)) (EP X pins σ Q) X.xe s
section
variable {X : Cx} {a b : Expr} {ta tb : TE} {pos : Pos}
theorem IxR.or {r r' : R2} (h : IxR X r) (h' : IxR X r') : IxR X (fun x y H Q => r x y H Q ∨ r' x y H Q) := by
 intro value slice pins s σ H x y v u Q I rx ry q hs
 rcases q with q | q
 ·exact h value slice pins s σ H x y v u Q I rx ry q hs
 ·exact h' value slice pins s σ H x y v u Q I rx ry q hs
theorem MtR.or {id : String} {r r' : V → List V → Hp → VK → Prop} (h : MtR X id r) (h' : MtR X id r') : MtR X id (fun x xs H Q => r x xs H Q ∨ r' x xs H Q) := by
 intro pins s σ H x xs v us Q I rx rs q
 rcases q with q | q
 ·exact h pins s σ H x xs v us Q I rx rs q
 ·exact h' pins s σ H x xs v us Q I rx rs q
theorem Qcc {r : R2} (hr : IxR X r) (ha : PE X a ta) (hb : PE X b tb) (hs : PlainIx b) : PE X (.Subscript a b pos) (tOp r ta tb) := by
 intro pins s σ H Q I h
 exact Subscript_ (binT ha hb I h fun v u s2 x y H2 I2 rx ry q => hr a b pins s2 σ H2 x y v u Q I2 rx ry q (hs _ _))
noncomputable def rIxL (K : PySem.W.Frag) : R2 := fun x y H Q => ∃ p xs i v, x = .ref p ∧ y = .int i ∧ SqL K H p xs ∧ atI xs i = some v ∧ Q v H
noncomputable def rIxT (K : PySem.W.Frag) : R2 := fun x y H Q => ∃ p xs i v, x = .ref p ∧ y = .int i ∧ SqT K H p xs ∧ atI xs i = some v ∧ Q v H
noncomputable def rIxS : R2 := fun x y H Q => ∃ z i c, x = .str z ∧ y = .int i ∧ z.length ≤ sizeLine ∧ atI z.cps.toList i = some c ∧ Q (.str ⟨#[c]⟩) H
theorem Qcd : IxR X (rIxL X.K) := by
 intro value slice pins s σ H x y v u Q I rx ry h hs
 obtain ⟨p, xs, i, z, rfl, rfl, hq, he, q⟩ := h
 cases rx
 obtain ⟨t, rfl⟩ := ry
 obtain ⟨its, r, pl, hz⟩ := I.list hq
 obtain ⟨j, h1, h2, h3, h4, h5⟩ := Qcb he
 obtain ⟨w, ew, rw'⟩ := r.get h2
 have hl := r.length
 have hn := Qbu
 have fin : EP X pins σ Q w s := ⟨z, H, I, rw', q⟩
 by_cases h0 : 0 ≤ i
 ·have hj : i.toNat = j := by
    rw [seqIndex_of h0 h5] at h1
    exact Option.some.inj h1
  exact item_listR pl.isList h0 (by ac_nf) (by rw [hj]; simpa using ew) fin hs
 ·have hj : (i + (its.toArray.size : Int)).toNat = j := by
    rw [seqIndex_neg (by ac_nf) h4] at h1
    rw [List.size_toArray, ← hl]
    exact Option.some.inj h1
  exact subscriptTail_builtinR (x := w) pl.isList.typeIs slot_list_getitem.lookup
   (wpAny_getItem_list_neg (Q := fun r s' => r = w ∧ EP X pins σ Q r s') pl.isList (by ac_nf) (by rw [List.size_toArray] <;> ac_nf) (by ac_nf) (by rw [hj]; simpa using ew) ⟨rfl, fin⟩) hs
theorem Qce : IxR X (rIxT X.K) := by
 intro value slice pins s σ H x y v u Q I rx ry h hs
 obtain ⟨p, xs, i, z, rfl, rfl, hq, he, q⟩ := h
 cases rx
 obtain ⟨t, rfl⟩ := ry
 obtain ⟨its, r, pl, hz⟩ := I.tuple hq
 obtain ⟨j, h1, h2, h3, h4, h5⟩ := Qcb he
 obtain ⟨w, ew, rw'⟩ := r.get h2
 have hl := r.length
 have hn := Qbu
 have fin : EP X pins σ Q w s := ⟨z, H, I, rw', q⟩
 exact subscriptTail_builtinR (x := w) pl.typeIs slot_tuple_getitem.lookup
  (getItem_tuple (j := j) (Q := fun r s' => r = w ∧ EP X pins σ Q r s') pl (by ac_nf) (by ac_nf) (by rw [List.size_toArray, ← hl]; exact h1) (by simpa using ew) ⟨rfl, fin⟩) hs
theorem Qcf : IxR X rIxS := by
 intro value slice pins s σ H x y v u Q I rx ry h hs
 obtain ⟨z, i, c, rfl, rfl, hz, he, q⟩ := h
 obtain ⟨t, rfl⟩ := rx
 obtain ⟨t', rfl⟩ := ry
 obtain ⟨j, h1, h2, h3, h4, h5⟩ := Qcb he
 have hl : z.cps.toList.length = z.length := by simp [Str.length]
 rw [hl] at h1 h4 h5
 have hn := Qbu
 exact tail_any (typeIs_str s z t) slot_str_getitem.lookup (getItem_str (c := c) (by
  have e1 : decide (i < -(2 ^ 63 : Int)) = false := decide_eq_false (by ac_nf)
  have e2 : decide (i ≥ 2 ^ 63) = false := decide_eq_false (by ac_nf)
  rw [e1, e2, Bool.or_false]) (by rw [h1]; simpa using h2) ⟨.str ⟨#[c]⟩, H, I.tok _, ⟨_, rfl⟩, q⟩) hs
noncomputable def rIx (K : PySem.W.Frag) : R2 := fun x y H Q => rIxL K x y H Q ∨ rIxT K x y H Q ∨ rIxS x y H Q
theorem Qcg : IxR X (rIx X.K) := Qcd.or (Qce.or Qcf)
theorem Qch (its : List Value) (n j : Nat) (u : Value) : Obj.mapSeq (·.setIfInBounds j u) { cls := .type "list", data := .seq its.toArray n } = { cls := .type "list", data := .seq (its.set j u).toArray n } := by
 simp [Obj.mapSeq]
theorem Inv.lst {pins : List (Addr × Obj)} {σ : St} {H : Hp} {s : Shared} {p : Addr} {xs : List V} (I : Inv X pins σ H s) (h : H p = some (.lst xs)) :
  ∃ (its : List Value) (n : Nat), Vals xs its ∧ s.heap.get? p = some { cls := .type "list", data := .seq its.toArray n } ∧ xs.length ≤ sizeLine := by
 obtain ⟨z, its, n, r, e⟩ := I.hok p _ h
 exact ⟨its, n, r, e, z⟩
theorem Inv.lstUpd {pins : List (Addr × Obj)} {σ : St} {H : Hp} {s : Shared} {p : Addr} {xs ys : List V} {its its' : List Value} {n n' : Nat} {f : Obj → Obj} (I : Inv X pins σ H s) (h : H p = some (.lst xs))
  (ho : s.heap.get? p = some { cls := .type "list", data := .seq its.toArray n }) (hf : f { cls := .type "list", data := .seq its.toArray n } = { cls := .type "list", data := .seq its'.toArray n' }) (r : Vals ys its') (hz : ys.length ≤ sizeLine) (t : Nat) :
  Inv X pins σ (upd H p (.lst ys)) { s with heap := s.heap.update p f, toks := t } := by
 have e : (s.heap.update p f).get? p = some { cls := .type "list", data := .seq its'.toArray n' } := by
  rw [Heap.get?_update_self f ho (by rw [hf] <;> rfl), hf]
 refine I.write (x := p) (e := p) (by rw [h]; trivial) (.inl rfl) (fun b u hb q => (Heap.get?_update_other _ _ (Ne.symm hb)).trans q) ⟨_, e⟩ ?_
 exact ⟨hz, its', n', r, e⟩
noncomputable def rSetL : V → V → V → Hp → (Hp → Prop) → Prop := fun o i v H Q => ∃ p xs k j, o = .ref p ∧ i = .int k ∧ H p = some (.lst xs) ∧ ixN xs.length k = some j ∧ Q (upd H p (.lst (xs.set j v)))
theorem Qci : PSet X rSetL := by
 intro pins s σ H o i v ov iv u Q I ro ri rv h
 obtain ⟨p, xs, k, j, rfl, rfl, hp, hj, q⟩ := h
 cases ro
 obtain ⟨t, rfl⟩ := ri
 obtain ⟨its, n, r, ho, hz⟩ := I.lst hp
 obtain ⟨h1, h2, h3, h4⟩ := Qca hj
 have hl := r.length
 have hn := Qbu
 have I' : Inv X pins σ (upd H p (.lst (xs.set j v))) { s with heap := s.heap.update p (Obj.mapSeq (·.setIfInBounds j u)) } :=
  I.lstUpd hp ho (Qch its n j u) (r.set rv j) (by rw [List.length_set]; exact hz) s.toks
 by_cases h0 : 0 ≤ k
 ·have hk : k.toNat = j := by
    rw [seqIndex_of h0 h4] at h1
    exact Option.some.inj h1
  exact PySem.W.ki_setAt ho h0 (by ac_nf) (by rw [List.size_toArray, ← hl]; exact h4) (by rw [hk]; exact ⟨_, I', q⟩)
 ·have hk : (k + (its.toArray.size : Int)).toNat = j := by
    rw [seqIndex_neg (by ac_nf) h3] at h1
    rw [List.size_toArray, ← hl]
    exact Option.some.inj h1
  exact PySem.W.ki_setBack ho (by ac_nf) (by rw [List.size_toArray, ← hl]; exact h3) (by ac_nf) (by rw [hk]; exact ⟨_, I', q⟩)
theorem Qcj (lo hi : Option Int) (n : Nat) : (sliceBounds lo hi none n).1 = ((HT.sIx n 0 lo : Nat) : Int) ∧ (sliceBounds lo hi none n).2.1 = ((HT.sIx n n hi : Nat) : Int) ∧ (sliceBounds lo hi none n).2.2 = 1 := by
 refine ⟨?_, ?_, rfl⟩
 ·cases lo with
  | none => simp [sliceBounds, HT.sIx]
  | some i =>
   simp only [sliceBounds, HT.sIx, Option.getD_none, show (1 : Int) > 0 by decide, if_true]
   by_cases h : i < 0
   ·simp only [h, if_true] <;> ac_nf
   ·simp only [h, if_false] <;> ac_nf
 ·cases hi with
  | none => simp [sliceBounds, HT.sIx]
  | some i =>
   simp only [sliceBounds, HT.sIx, Option.getD_none, show (1 : Int) > 0 by decide, if_true]
   by_cases h : i < 0
   ·simp only [h, if_true] <;> ac_nf
   ·simp only [h, if_false] <;> ac_nf
theorem Qck (its : List Value) (lo hi : Option Int) : slicePick its.toArray lo hi none = ((its.drop (HT.sIx its.length 0 lo)).take (HT.sIx its.length its.length hi - HT.sIx its.length 0 lo)).toArray := by
 obtain ⟨h1, h2, h3⟩ := Qcj lo hi its.toArray.size
 unfold slicePick
 rw [h1, h2, h3]
 simp only [sliceRange_one, pick_run, List.size_toArray] <;> rfl
noncomputable def rSlL (K : PySem.W.Frag) : V → Option Int → Option Int → Hp → VK → Prop := fun x lo hi H Q => ∃ a xs, x = .ref a ∧ SqL K H a xs ∧ ∀ p, H p = none → Q (.ref p) (upd H p (.lst (cutV xs lo hi)))
theorem Qcl : SlR X (rSlL X.K) := by
 intro pins s σ H x v vl vu lo hi sl Q I rx hs pl pu h
 obtain ⟨a, xs, rfl, hx, q⟩ := h
 cases rx
 obtain ⟨its, r, ht, hz⟩ := I.list hx
 have hlen := r.length
 refine ⟨"list", _, slot_list_getitem.lookup, ht.isList.typeIs, ?_⟩
 refine wpAny_getItem_list_slice ht.isList hs pl pu .none (by simp) ?_ (by rw [List.size_toArray] <;> ac_nf)
 rw [Qck, ← hlen]
 refine ⟨.ref s.heap.objs.size, _, I.laid (t' := s.toks) (o := .lst (cutV xs lo hi)) (fun b ob q => Heap.get?_push_of_some _ q) (Nat.le_refl _) ?_, rfl, q _ (I.hok.fresh (Nat.le_refl _))⟩
 exact ⟨Nat.le_trans (Qb7 xs lo hi) hz, _, 0, (r.drop (HT.sIx xs.length 0 lo)).take (HT.sIx xs.length xs.length hi - HT.sIx xs.length 0 lo), Heap.get?_push_size _ rfl⟩
noncomputable def flatV : V → Bool
 | .non => true
 | .bl _ => true
 | .int _ => true
 | .str _ => true
 | _ => false
noncomputable def eqV : V → V → Bool
 | .non, .non => true
 | .bl a, .bl b => a == b
 | .bl a, .int b => (if a then 1 else 0) == b
 | .int a, .bl b => a == (if b then 1 else 0)
 | .int a, .int b => a == b
 | .str a, .str b => a == b
 | _, _ => false
theorem Qcm {A : Around} {s : Shared} {y x : V} {u v : Value} (ry : RelV y u) (rx : RelV x v) (fy : flatV y = true) (fx : flatV x = true) : SeqAt.EqAt A s u v (eqV y x) := by
 cases y with
 | non =>
  cases ry
  cases x with
  | non => cases rx; exact SeqAt.EqAt.same _
  | bl b => cases rx; exact SeqAt.EqAt.none_bool b
  | int b => obtain ⟨t, rfl⟩ := rx; exact SeqAt.EqAt.none_int b t
  | str b => obtain ⟨t, rfl⟩ := rx; exact SeqAt.EqAt.none_str b t
  | _ => exact absurd (show false = true from fx) Bool.false_ne_true
 | bl a =>
  cases ry
  cases x with
  | non => cases rx; exact SeqAt.EqAt.bool_none a
  | bl b => cases rx; exact SeqAt.EqAt.bool_bool a b
  | int b => obtain ⟨t, rfl⟩ := rx; exact SeqAt.EqAt.bool_int a b t
  | str b => obtain ⟨t, rfl⟩ := rx; exact SeqAt.EqAt.bool_str a b t
  | _ => exact absurd (show false = true from fx) Bool.false_ne_true
 | int a =>
  obtain ⟨t', rfl⟩ := ry
  cases x with
  | non => cases rx; exact SeqAt.EqAt.int_none a t'
  | bl b => cases rx; exact SeqAt.EqAt.int_bool a t' b
  | int b => obtain ⟨t, rfl⟩ := rx; exact SeqAt.EqAt.int_int a t' b t
  | str b => obtain ⟨t, rfl⟩ := rx; exact SeqAt.EqAt.int_str a t' b t
  | _ => exact absurd (show false = true from fx) Bool.false_ne_true
 | str a =>
  obtain ⟨t', rfl⟩ := ry
  cases x with
  | non => cases rx; exact SeqAt.EqAt.str_none a t'
  | bl b => cases rx; exact SeqAt.EqAt.str_bool a t' b
  | int b => obtain ⟨t, rfl⟩ := rx; exact SeqAt.EqAt.str_int a t' b t
  | str b => obtain ⟨t, rfl⟩ := rx; exact SeqAt.EqAt.str_str a t' b t
  | _ => exact absurd (show false = true from fx) Bool.false_ne_true
 | _ => exact absurd (show false = true from fy) Bool.false_ne_true
noncomputable def eqU (x : V) (u : Value) : Bool := match u with
 | .none => eqV .non x
 | .bool b => eqV (.bl b) x
 | .int i _ => eqV (.int i) x
 | .str z _ => eqV (.str z) x
 | _ => false
theorem Qcn {x y : V} {u : Value} (r : RelV y u) (f : flatV y = true) : eqU x u = eqV y x := by
 cases y with
 | non => cases r; rfl
 | bl b => cases r; rfl
 | int i => obtain ⟨t, rfl⟩ := r; rfl
 | str z => obtain ⟨t, rfl⟩ := r; rfl
 | _ => exact absurd (show false = true from f) Bool.false_ne_true
theorem Qco {x : V} : ∀ {xs : List V} {us : List Value}, Vals xs us → xs.all flatV = true → us.any (eqU x) = xs.any fun y => eqV y x
 | _, _, .nil, _ => rfl
 | y :: xs, u :: us, .cons r t, f => by
  rw [List.all_cons, Bool.and_eq_true] at f
  rw [List.any_cons, List.any_cons, Qcn r f.1, Qco t f.2]
theorem Qcp {A : Around} {s : Shared} {x : V} {v : Value} (rx : RelV x v) (fx : flatV x = true) : ∀ {xs : List V} {us : List Value}, Vals xs us → xs.all flatV = true → ∀ u ∈ us, SeqAt.EqAt A s u v (eqU x u)
 | _, _, .nil, _ => fun u hu => by cases hu
 | y :: xs, u :: us, .cons r t, f => fun u' hu => by
  rw [List.all_cons, Bool.and_eq_true] at f
  rcases List.mem_cons.mp hu with rfl | hu
  ·rw [Qcn r f.1]; exact Qcm r rx f.1 fx
  ·exact Qcp rx fx t f.2 u' hu
noncomputable def inV (x : V) (xs : List V) : Bool := xs.any fun y => eqV y x
noncomputable def rIn (K : PySem.W.Frag) (neg : Bool) : R2 := fun x y H Q => ∃ p xs, y = .ref p ∧ (SqL K H p xs ∨ SqT K H p xs) ∧ flatV x = true ∧ xs.all flatV = true ∧ Q (.bl (if neg then !inV x xs else inV x xs)) H
theorem Qcq : OpR X (compareOp .In) (rIn X.K false) := by
 intro pins s σ H x y v u Q I rx ry h
 obtain ⟨p, xs, rfl, hq, fx, fs, q⟩ := h
 cases ry
 rcases hq with hq | hq
 ·obtain ⟨its, r, pl, hz⟩ := I.list hq
  refine SeqAt.in_listAt (eqU x) pl.isList (fun w hw => Qcp rx fx r fs w (by simpa using hw)) ⟨.bl _, H, I, rfl, ?_⟩
  rw [show its.toArray.any (eqU x) = its.any (eqU x) by simp, Qco r fs]
  exact q
 ·obtain ⟨its, r, pl, hz⟩ := I.tuple hq
  refine SeqAt.in_tupleAt (eqU x) pl (fun w hw => Qcp rx fx r fs w (by simpa using hw)) ⟨.bl _, H, I, rfl, ?_⟩
  rw [show its.toArray.any (eqU x) = its.any (eqU x) by simp, Qco r fs]
  exact q
theorem Qcr : OpR X (compareOp .NotIn) (rIn X.K true) := by
 intro pins s σ H x y v u Q I rx ry h
 obtain ⟨p, xs, rfl, hq, fx, fs, q⟩ := h
 cases ry
 rcases hq with hq | hq
 ·obtain ⟨its, r, pl, hz⟩ := I.list hq
  refine SeqAt.notIn_listAt (eqU x) pl.isList (fun w hw => Qcp rx fx r fs w (by simpa using hw)) ⟨.bl _, H, I, rfl, ?_⟩
  rw [show its.toArray.any (eqU x) = its.any (eqU x) by simp, Qco r fs]
  exact q
 ·obtain ⟨its, r, pl, hz⟩ := I.tuple hq
  refine SeqAt.notIn_tupleAt (eqU x) pl (fun w hw => Qcp rx fx r fs w (by simpa using hw)) ⟨.bl _, H, I, rfl, ?_⟩
  rw [show its.toArray.any (eqU x) = its.any (eqU x) by simp, Qco r fs]
  exact q
theorem Qcs : CallR X (.builtin "len") (fun xs H Q => ∃ p ys, xs = [.ref p] ∧ (SqL X.K H p ys ∨ SqT X.K H p ys) ∧ Q (.int ys.length) H) := by
 intro pins s σ H xs us Q I r h
 obtain ⟨p, ys, rfl, hq, q⟩ := h
 obtain ⟨u, rfl, rx⟩ := Qby r
 cases rx
 have hn := Qbu
 rcases hq with hq | hq
 ·obtain ⟨its, r', pl, hz⟩ := I.list hq
  have hlen := r'.length
  exact Calls.call_len_list pl.isList (by simp only [List.size_toArray] <;> ac_nf) ⟨.int ys.length, H, I.tok _, ⟨s.toks + 1, by rw [List.size_toArray, hlen]⟩, q⟩
 ·obtain ⟨its, r', pl, hz⟩ := I.tuple hq
  have hlen := r'.length
  exact len_tuple pl (by simp only [List.size_toArray] <;> ac_nf) ⟨.int ys.length, H, I.tok _, ⟨s.toks + 1, by rw [List.size_toArray, hlen]⟩, q⟩
theorem Qct : CallR X (.builtin "len") (fun xs H Q => ∃ z, xs = [.str z] ∧ z.length ≤ sizeLine ∧ Q (.int z.length) H) := by
 intro pins s σ H xs us Q I r h
 obtain ⟨z, rfl, hz, q⟩ := h
 obtain ⟨u, rfl, t, rfl⟩ := Qby r
 have hn := Qbu
 exact len_str (by ac_nf) ⟨.int z.length, H, I.tok _, ⟨_, rfl⟩, q⟩
theorem CallR.or {f : Value} {r r' : List V → Hp → VK → Prop} (h : CallR X f r) (h' : CallR X f r') : CallR X f (fun xs H Q => r xs H Q ∨ r' xs H Q) := by
 intro pins s σ H xs us Q I rs q
 rcases q with q | q
 ·exact h pins s σ H xs us Q I rs q
 ·exact h' pins s σ H xs us Q I rs q
theorem Qcu : CallR X (.type "tuple") (fun xs H Q => ∃ p ys, xs = [.ref p] ∧ ((SqL X.K H p ys ∧ ∀ l, H l = none → Q (.ref l) (upd H l (.tup ys))) ∨ (SqT X.K H p ys ∧ Q (.ref p) H))) := by
 intro pins s σ H xs us Q I r h
 obtain ⟨p, ys, rfl, h⟩ := h
 obtain ⟨u, rfl, rx⟩ := Qby r
 cases rx
 rcases h with ⟨hq, q⟩ | ⟨hq, q⟩
 ·obtain ⟨its, r', pl, hz⟩ := I.list hq
  have hlen := r'.length
  refine call_tuple_list pl.isList (fun h' kp => ?_) (by simp only [List.size_toArray] <;> ac_nf)
  have I1 : Inv X pins σ H { s with heap := h' } := I.kept (t' := s.toks) kp
  have I2 : Inv X pins σ (upd H h'.objs.size (.tup ys)) { s with heap := h'.push { cls := .type "tuple", data := .seq its.toArray } } :=
   I1.laid (t' := s.toks) (fun b o e => Heap.get?_push_of_some _ e) (Nat.le_refl _) (show ObjOk X.prog X.w _ _ _ (.tup ys) from ⟨hz, its, r', IsTup.new _ _⟩)
  exact ⟨.ref h'.objs.size, _, I2, rfl, q _ (I1.hok.fresh (Nat.le_refl _))⟩
 ·obtain ⟨its, r', pl, hz⟩ := I.tuple hq
  exact call_tuple_same pl ⟨.ref p, H, I, rfl, q⟩
def tyV (K : PySem.W.Frag) (T : String) (x : V) (H : Hp) : Prop := match x with
 | .str _ => T = "str"
 | .int _ => T = "int"
 | .ref p => (T = "list" ∧ ∃ xs, SqL K H p xs) ∨ (T = "tuple" ∧ ∃ o, K.lookup p = some o ∧ o.cls = .type "tuple" ∧ o.dict = none) ∨
   (T = "dict" ∧ ((∃ kvs, H p = some (.dK kvs)) ∨ ∃ kvs, H p = some (.dT kvs))) ∨ (T = "set" ∧ ∃ S n, H p = some (.set S n))
 | _ => False
theorem Qcv {pins : List (Addr × Obj)} {σ : St} {H : Hp} {s : Shared} {T : String} {x : V} {v : Value} (I : Inv X pins σ H s) (r : RelV x v) (ty : tyV X.K T x H) :
  s.TypeIs v T ∧ ∀ a, v = .ref a → ∃ ob, s.heap.get? a = some ob ∧ ob.dict = none := by
 cases x with
 | str z =>
  obtain ⟨t, rfl⟩ := r
  cases (show T = "str" from ty)
  exact ⟨typeIs_str s z t, fun _ e => nomatch e⟩
 | int i =>
  obtain ⟨t, rfl⟩ := r
  cases (show T = "int" from ty)
  exact ⟨typeIs_int s i t, fun _ e => nomatch e⟩
 | ref p =>
  cases r
  rcases ty with ⟨rfl, xs, hq⟩ | ⟨rfl, o, hk, hc, hd⟩ | ⟨rfl, hk⟩ | ⟨rfl, S, n, hk⟩
  ·obtain ⟨its, _, pl, _⟩ := I.list hq
   refine ⟨pl.isList.typeIs, fun a e => ?_⟩
   cases e
   obtain ⟨o, n, e, c, hd, _⟩ := pl
   exact ⟨o, e, hd⟩
  ·refine ⟨⟨o, I.kIn p o hk, hc⟩, fun a e => ?_⟩
   cases e
   exact ⟨o, I.kIn _ o hk, hd⟩
  ·have z : ∃ o, s.heap.get? p = some o ∧ o.ExactDict := by
     rcases hk with ⟨kvs, hk⟩ | ⟨kvs, hk⟩
     ·obtain ⟨_, _, _, _, o, _, _, e, ex, _⟩ := I.hok p _ hk
      exact ⟨o, e, ex⟩
     ·obtain ⟨_, _, _, _, o, _, _, e, ex, _⟩ := I.hok p _ hk
      exact ⟨o, e, ex⟩
   obtain ⟨o, e, ex⟩ := z
   refine ⟨⟨o, e, ex.1⟩, fun a e2 => ?_⟩
   cases e2
   exact ⟨o, e, ex.2.1⟩
  ·obtain ⟨o, _, _, _, e, ex, _⟩ := I.hok p _ hk
   refine ⟨⟨o, e, ex.1⟩, fun a e2 => ?_⟩
   cases e2
   exact ⟨o, e, ex.2.1⟩
 | _ => exact False.elim ty
noncomputable def tBM0 (K : PySem.W.Frag) (T : String) (r : V → List V → Hp → VK → Prop) (to : TE) : TE := fun σ H Q => to σ H fun x H1 => tyV K T x H1 ∧ r x [] H1 Q
noncomputable def tBM (K : PySem.W.Frag) (T : String) (r : V → List V → Hp → VK → Prop) (to : TE) (t : TA) : TE := fun σ H Q => to σ H fun x H1 => tyV K T x H1 ∧ t σ H1 fun xs H2 => r x xs H2 Q
variable {o e : Expr} {es : List Expr} {to : TE} {t : TA} {name : Str} {apos cpos : Pos} {T id : String} {r : V → List V → Hp → VK → Prop}
theorem Qcw (pa : PlainAttrs T) (slot : Slot T name id) (hty : typeOf (.builtin id) = pure (.type "method_descriptor")) (hm : MtR X id r) (ho : PE X o to)
  (hbase : attributeBase o name X.env (eval o X.env) = eval o X.env := by rfl) (hline : (apos.endLine == cpos.line) = true := by rfl) : PE X (.Call (.Attribute o name apos) [] [] cpos) (tBM0 X.K T r to) := by
 intro pins s σ H Q I h
 refine wpAny_Call_method0_late hbase hline (thn (ho pins s σ H _ I h) fun v s1 pq40 => ?_)
 obtain ⟨x, H1, I1, r1, ty, q1⟩ := pq40
 obtain ⟨h1, h2⟩ := Qcv I1 r1 ty
 exact ⟨T, id, pa, slot, hty, h1, h2, Calls.callWith_builtin rfl (PySem.evalArgs_none (hm pins s1 σ H1 x [] v [] Q I1 r1 .nil q1))⟩
theorem Qcx (pa : PlainAttrs T) (slot : Slot T name id) (hty : typeOf (.builtin id) = pure (.type "method_descriptor")) (hm : MtR X id r) (ho : PE X o to) (ha : PA X (e :: es) t)
  (hbase : attributeBase o name X.env (eval o X.env) = eval o X.env := by rfl)
  (hfew : ((backTo cpos (starEach (e :: es) X.env)).all (fun x => !x.1) && (backToKw cpos (keywordEach [] X.env)).all (fun x => x.1.isSome)
   && decide ((e :: es).length + ([] : List Keyword).length + (if ([] : List Keyword).isEmpty then 0 else 1) < 30)) = true := by rfl)
  (hline : (apos.endLine == cpos.line) = true := by rfl) (hs : starEach (e :: es) X.env = (false, eval e X.env) :: starEach es X.env := by rfl) (hplain : (backTo cpos (starEach es X.env)).any (·.1) = false := by rfl) :
  PE X (.Call (.Attribute o name apos) (e :: es) [] cpos) (tBM X.K T r to t) := by
 intro pins s σ H Q I h
 refine wpAny_Call_method_late hbase hfew hline rfl (thn (ho pins s σ H _ I h) fun v s1 pq41 => ?_)
 obtain ⟨x, H1, I1, r1, ty, q1⟩ := pq41
 obtain ⟨h1, h2⟩ := Qcv I1 r1 ty
 refine ⟨T, id, pa, slot, hty, h1, h2, ?_⟩
 have hA := ha cpos pins s1 σ H1 _ I1 q1
 rw [hs] at hA ⊢
 refine Calls.callWith_builtin (by show (false || (backTo cpos (starEach es X.env)).any (·.1)) = false; rw [hplain] <;> rfl) (Calls.evalArgs_plain ?_)
 exact thn hA fun us s2 pq42 => by obtain ⟨vs, H2, I2, r2, q2⟩ := pq42; exact hm pins s2 σ H2 x vs v us Q I2 r1 r2 q2
/- xs.append(e), list.index on a module's tuple .. are MtR facts of 06m -/
end
end L2
namespace L2
open PySem PySem.Spec PyProof.Rows
def MtM (X : Cx) (id : String) (r : V → List V → Hp → VK → Prop) : Prop :=
 ∀ (pins : List (Addr × Obj)) (s : Shared) (σ : St) (H : Hp) (x : V) (xs : List V) (v : Value) (us : List Value) (Q : VK), Inv X pins σ H s → RelV x v → Vals xs us → r x xs H Q →
  wpAny (model X.prog X.w) X.A (call (.builtin id) (v :: us)) (EP X pins σ Q) X.xe s
theorem Vals.one {x : V} {us : List Value} (h : Vals [x] us) : ∃ u, us = [u] ∧ RelV x u := by
 cases h with
 | cons r h => cases h; exact ⟨_, rfl, r⟩
theorem Vals.two {x y : V} {us : List Value} (h : Vals [x, y] us) : ∃ u v, us = [u, v] ∧ RelV x u ∧ RelV y v := by
 cases h with
 | cons r h => cases h with
  | cons q h => cases h; exact ⟨_, _, rfl, r, q⟩
theorem Vals.zero : ∀ {us : List Value}, Vals [] us → us = []
 | _, .nil => rfl
theorem Vals.dropLast {xs : List V} {us : List Value} (h : Vals xs us) : Vals xs.dropLast us.dropLast := by
 induction h with
 | nil => exact .nil
 | cons r t ih =>
  cases t with
  | nil => exact .nil
  | cons q t' => exact .cons r ih
theorem Vals.eraseIdx : ∀ {xs : List V} {us : List Value} (i : Nat), Vals xs us → Vals (xs.eraseIdx i) (us.eraseIdx i)
 | _, _, _, .nil => .nil
 | _, _, 0, .cons _ t => t
 | _, _, i + 1, .cons r t => .cons r (Vals.eraseIdx i t)
theorem Vals.reverse {xs : List V} {us : List Value} (h : Vals xs us) : Vals xs.reverse us.reverse := by
 induction h with
 | nil => exact .nil
 | cons r t ih => rw [List.reverse_cons, List.reverse_cons]; exact Vals.append ih (.cons r .nil)
theorem Vals.rep {xs : List V} {us : List Value} (h : Vals xs us) : ∀ k : Nat, Vals (List.replicate k xs).flatten (List.replicate k us).flatten
 | 0 => .nil
 | k + 1 => by
  rw [List.replicate_succ, List.replicate_succ, List.flatten_cons, List.flatten_cons]
  exact Vals.append h (Vals.rep h k)
theorem Qcy {α : Type} (l : List α) : l.eraseIdx (l.length - 1) = l.dropLast := by
 induction l with
 | nil => rfl
 | cons a r ih =>
  cases r with
  | nil => rfl
  | cons b r =>
   have e : (a :: b :: r).length - 1 = ((b :: r).length - 1) + 1 := by
    have h1 : (a :: b :: r).length = r.length + 2 := rfl
    have h2 : (b :: r).length = r.length + 1 := rfl
    ac_nf
   rw [e, List.eraseIdx_cons_succ, ih]
   all_goals rfl
section
variable {X : Cx} {pins : List (Addr × Obj)} {σ : St} {H : Hp} {s : Shared} {l b : Addr} {xs ys zs : List V}
theorem Inv.lset {its its' : List Value} {n : Nat} {f : Array Value → Array Value} {t' : Nat} (I : Inv X pins σ H s) (hH : H l = some (.lst xs))
  (e : s.heap.get? l = some { cls := .type "list", data := .seq its.toArray n }) (hf : f its.toArray = its'.toArray) (hv : Vals ys its') (hz : ys.length ≤ sizeLine) :
  Inv X pins σ (upd H l (.lst ys)) { s with heap := s.heap.update l (Obj.mapSeq f), toks := t' } := by
 have q := PySem.IsL.update e f
 rw [hf] at q
 refine I.write (x := l) (e := l) (by rw [hH]; exact trivial) (.inl rfl) (fun b' u hb hu => (Heap.get?_update_other s.heap (Obj.mapSeq f) (Ne.symm hb)).trans hu) ⟨_, q⟩ ?_
 exact ⟨hz, its', _, hv, q⟩
theorem Inv.lnew {its : List Value} {t' : Nat} (I : Inv X pins σ H s) (hv : Vals ys its) (hz : ys.length ≤ sizeLine) :
  Inv X pins σ (upd H s.heap.objs.size (.lst ys)) { s with heap := s.heap.push { cls := .type "list", data := .seq its.toArray }, toks := t' } :=
 I.laid (fun _ _ q => Heap.get?_push_of_some _ q) (Nat.le_refl _) ⟨hz, its, 0, hv, Heap.get?_push_size _ rfl⟩
theorem Inv.fresh (I : Inv X pins σ H s) : H s.heap.objs.size = none := I.hok.fresh (Nat.le_refl _)
theorem Inv.lstM (I : Inv X pins σ H s) (hH : H l = some (.lst xs)) : xs.length ≤ sizeLine ∧ ∃ (its : List Value) (n : Nat), Vals xs its ∧ xs.length = its.length ∧ s.heap.get? l = some { cls := .type "list", data := .seq its.toArray n } := by
 obtain ⟨z, its, n, r, e⟩ := I.hok l _ hH
 exact ⟨z, its, n, r, r.length, e⟩
theorem Qcz {n : Nat} (h : n ≤ sizeLine) : Builtin.List.listTooLong n = false := by
 unfold Builtin.List.listTooLong
 exact decide_eq_false (by ac_nf)
end
section
variable {X : Cx}
noncomputable def rAppend : V → List V → Hp → VK → Prop := fun x vs H Q => ∃ l xs y, x = .ref l ∧ vs = [y] ∧ H l = some (.lst xs) ∧ xs.length < sizeLine ∧ Q .non (upd H l (.lst (xs ++ [y])))
theorem QcA : MtM X "list.append" rAppend := by
 intro pins s σ H x vs v us Q I rx rv h
 obtain ⟨l, xs, y, rfl, rfl, hH, hz, q⟩ := h
 cases rx
 obtain ⟨u, rfl, ru⟩ := rv.one
 obtain ⟨z, its, n, r, hl, e⟩ := I.lstM hH
 refine call_meets F.slot_list_append ⟨_, e, rfl⟩ F.entry_list_append (F.args_list_append_2 _ _) (PySem.list_append l its.toArray n u (by rw [List.size_toArray]; ac_nf)) ⟨e, ?_⟩
 refine ⟨.non, _, I.lset (its' := its ++ [u]) hH e (by simp) (r.append (.cons ru .nil)) ?_, rfl, q⟩
 rw [List.length_append, List.length_singleton]
 ac_nf
noncomputable def rPop : V → List V → Hp → VK → Prop := fun x vs H Q => ∃ l xs y, x = .ref l ∧ vs = [] ∧ H l = some (.lst xs) ∧ xs[xs.length - 1]? = some y ∧ Q y (upd H l (.lst xs.dropLast))
theorem QcB : MtM X "list.pop" rPop := by
 intro pins s σ H x vs v us Q I rx rv h
 obtain ⟨l, xs, y, rfl, rfl, hH, hy, q⟩ := h
 cases rx
 have hus := rv.zero
 subst hus
 obtain ⟨z, its, n, r, hl, e⟩ := I.lstM hH
 obtain ⟨u, hu, ru⟩ := r.get hy
 have hy' : its.toArray[its.toArray.size - 1]? = some u := by
  show its.toArray[its.length - 1]? = some u
  rw [← Array.getElem?_toList, ← hl]
  exact hu
 refine call_meets F.slot_list_pop ⟨_, e, rfl⟩ F.entry_list_pop (F.args_list_pop_1 _) (MeetsSeq.list_pop_last l its.toArray n u hy' (by rw [List.size_toArray]; ac_nf)) ⟨e, ?_⟩
 refine ⟨y, _, I.lset (its' := its.dropLast) hH e ?_ r.dropLast ?_, ru, q⟩
 ·show its.toArray.eraseIdxIfInBounds (its.toArray.size - 1) = its.dropLast.toArray
  rw [List.size_toArray, List.eraseIdxIfInBounds_toArray, Qcy]
 ·rw [List.length_dropLast]
  ac_nf
noncomputable def rCat : R2 := fun x y H Q => ∃ l b xs zs, x = .ref l ∧ y = .ref b ∧ H l = some (.lst xs) ∧ H b = some (.lst zs) ∧ xs.length + zs.length ≤ sizeLine ∧ ∀ p, H p = none → Q (.ref p) (upd H p (.lst (xs ++ zs)))
theorem QcC : OpR X (binaryOp .Add) rCat := by
 intro pins s σ H x y v u Q I rx ry h
 obtain ⟨l, b, xs, zs, rfl, rfl, hH, hB, hz, q⟩ := h
 cases rx
 cases ry
 obtain ⟨z, its, n, r, hl, e⟩ := I.lstM hH
 obtain ⟨z2, its2, n2, r2, hl2, e2⟩ := I.lstM hB
 refine PySem.P.add_list e e2 ?_ (by rw [List.size_toArray, List.size_toArray]; ac_nf)
 have ea : its.toArray ++ its2.toArray = (its ++ its2).toArray := by simp
 rw [ea]
 exact ⟨.ref _, _, I.lnew (t' := s.toks) (r.append r2) (by rw [List.length_append]; ac_nf), rfl, q _ I.fresh⟩
end
section
variable {prog : Program} {w : World} {A : Around} {E : Value → Shared → Prop} {s : Shared}
theorem QcD {a c n : Nat} (hac : a ≤ c) (hc : c ≤ n) : sliceBounds (some (a : Int)) (some (c : Int)) none n = ((a : Int), (c : Int), 1) := by
 simp only [sliceBounds, Option.getD_none]
 have h1 : ¬ ((a : Int) < 0) := by ac_nf
 have h2 : ¬ ((c : Int) < 0) := by ac_nf
 simp only [h1, h2, if_false, show (1 : Int) > 0 by decide, if_true]
 congr 1
 ·ac_nf
 ·congr 1; ac_nf
theorem QcE {l b sl : Addr} {items new : Array Value} {n n2 : Nat} {vl vu : Value} {a c : Nat} {Q : Unit → Shared → Prop}
  (e : s.heap.get? l = some { cls := .type "list", data := .seq items n }) (e2 : s.heap.get? b = some { cls := .type "list", data := .seq new n2 }) (hne : l ≠ b)
  (hs : s.heap.IsSliceOf sl vl vu .none) (pl : IsPart vl (some (a : Int))) (pu : IsPart vu (some (c : Int))) (hac : a ≤ c) (hc : c ≤ items.size)
  (hsz : items.size + new.size ≤ sizeLine) (h : Q () { s with heap := s.heap.update l (Obj.mapSeq fun xs => xs.extract 0 a ++ new ++ xs.extract c xs.size) }) :
  wpAny (model prog w) A (setItem (.ref l) (.ref sl) (.ref b)) Q E s := by
 have hl : s.heap.IsList l items := PySem.IsL.isList e
 have hb : s.heap.IsList b new := PySem.IsL.isList e2
 obtain ⟨os, hos, hcs, hds⟩ := id hs
 have hTs : s.TypeIs (.ref sl) "slice" := ⟨os, hos, hcs⟩
 have hstep : ¬ ((rawPart none == rawInt 0) = true) := Bool.false_ne_true
 have hsame : Builtin.List.listSameRef (.ref l) (.ref b) = false := by
  unfold Builtin.List.listSameRef
  exact beq_eq_false_iff_ne.mpr hne
 have hmax : (max (a : Int) (c : Int)).toNat = c := by ac_nf
 have hz' : ((fun xs : Array Value => xs.extract 0 a ++ new ++ xs.extract c xs.size) items).size ≤ sizeLine + 1 := by
  simp only [Array.size_append, Array.size_extract]
  ac_nf
 unfold setItem
 try with_reducible refine wpAny_holding ?_
 first | refine wpAny_bind (wpAny_pure ?_) | skip
 refine wpAny_bind (wpAny_sequenceKey hl.typeIs (by decide) ?_)
 refine wpAny_bind (wpAny_callSpecial?_slot (name := Str.ofString "__setitem__") hl.typeIs slot_list_setitem
  (wpAny_call_entry slot_list_setitem hl.typeIs entry_list_setitem ?_ (args_list_setitem _ _ _)))
 show wpAny _ _ (Builtin.List.listSubscript? (.ref sl) >>= _) _ _ s
 refine wpAny_bind ?_
 unfold Builtin.List.listSubscript?
 refine wpAny_bind (wpAny_specialOf hTs slice_no_index ?_)
 simp only [Option.isNone_none, if_true]
 refine wpAny_pure ?_
 show wpAny _ _ (typeOf (.ref sl) >>= _) _ _ s
 refine wpAny_bind (wpAny_typeOf hTs ?_)
 first
  | rw [if_neg (by decide)]
  | refine PySem.W.KFB.if_not (by decide) ?_
 rw [listSliceParts_eq]
 refine wpAny_bind (wpAny_bind (wpAny_field hos hds (x := .none) rfl (wpAny_bind (wpAny_listPart .none ?_))))
 rw [if_neg hstep]
 refine wpAny_bind (wpAny_field hos hds (x := vl) rfl (wpAny_bind (wpAny_listPart pl ?_)))
 refine wpAny_bind (wpAny_field hos hds (x := vu) rfl (wpAny_bind (wpAny_listPart pu (wpAny_pure ?_))))
 first
  | simp only [hsame, Bool.false_eq_true, if_false]
  | refine PySem.W.KFB.if_not hsame ?_
  | (dsimp only
     rw [if_neg (by rw [hsame]; exact Bool.false_ne_true)])
 refine wpAny_bind (m := Builtin.List.listAllItems (.ref b) "must assign iterable to extended slice") ?_
 unfold Builtin.List.listAllItems
 refine wpAny_bind (wpAny_typeOf hb.typeIs ?_)
 first
  | refine PySem.W.KFB.if_so (by decide) ?_
  | rw [if_pos (by decide)]
  | simp only [beq_self_eq_true, Bool.true_or, if_true]
 unfold Builtin.List.listItems
 refine wpAny_bind (wpAny_seqItems e2 rfl (wpAny_pure ?_))
 refine wpAny_bind (wpAny_bind (wpAny_seqItems e rfl (wpAny_pure ?_)))
 refine wpAny_bind (wpAny_of_eq ((sliceIndices_raw (some (a : Int)) (some (c : Int)) none items.size (by simp)).trans (congrArg (pure : Int × Int × Int → Sem (Int × Int × Int)) (QcD hac hc))) ?_)
 show wpAny _ _ (if ((1 : Int) == 1) = true then _ else _) _ _ s
 rw [if_pos (by decide)]
 refine wpAny_bind (wpAny_rule ?_)
 first
  | simp only [Qcz hsz, Bool.false_eq_true, if_false]
  | refine PySem.W.KFB.if_not (Qcz hsz) ?_
 first | refine wpAny_bind (wpAny_pure ?_) | skip
 show wpAny _ _ (updateSeq l (fun xs => xs.extract 0 ((a : Int)).toNat ++ new ++ xs.extract (max (a : Int) (c : Int)).toNat xs.size) >>= _) _ _ s
 rw [hmax, Int.toNat_natCast]
 refine wpAny_bind (wpAny_updateSeq (hz := Nat.le_trans (Nat.le_add_right _ _) hsz) (_hz' := hz') e rfl ?_)
 refine wpAny_bind (wpAny_letGo ?_)
 first
  | exact wpAny_bind (wpAny_pure (wpAny_pure ⟨.none, rfl, wpAny_pure h⟩))
  | exact wpAny_pure ⟨.none, rfl, wpAny_pure h⟩
end
section
variable {X : Cx}
end
end L2
namespace Att
open PySem PySem.W PySem.Calls PyProof.Rows
theorem QcF {P : Params} {h : Heap} : ∀ (ns : List Int) (vs : List Value), WellAll P h vs (ns.map WData.int) → IntsAre vs ns := by
 intro ns
 induction ns with
 | nil =>
  intro vs w
  rw [List.map_nil] at w
  cases w
  exact .nil
 | cons n ns ih =>
  intro vs w
  rw [List.map_cons] at w
  cases w with
  | cons a b =>
   cases a
   exact .cons _ _ (ih _ b)
theorem QcG {l : OpenLaw} {n : Nat} (hn : l.most = some n) {P : Params} {h : Heap} {args : List WData} {vals : List Value}
  (hpre : l.row.toRowW.claim.pre args = true) (hwl : WellAll P h vals args) :
  ∃ a vs ns, vals = [Value.ref a] ∧ args = [WData.list (ns.map WData.int)] ∧ h.get? a = some { cls := .type "list", data := .seq vs.toArray } ∧ IntsAre vs ns ∧ ns.length ≤ n := by
 have hsh : WShape.hasAll [] args [.list .int] = true := (pre_splitW hpre).1
 have hc : l.pre.holds [] { args := args } = true := (pre_splitW hpre).2
 obtain ⟨d, r, rfl, h1, h2⟩ := hasAllW_cons hsh
 obtain rfl := hasAllW_nil h2
 obtain ⟨xs, rfl, h3⟩ := hasW_list h1
 obtain ⟨ns, rfl⟩ := items_int h3
 have hlen : ns.length ≤ n := by
  unfold OpenLaw.pre at hc
  have h4 : (WTm.not (.lt (.lit (.int (n : Int))) (.len (.arg 0)))).holds [] { args := [.list (ns.map .int)] } = true := by
   have h4 := (holds_andW hc).1
   rw [hn] at h4
   exact h4
  have h5 := condW_of h4 (w_not (w_lt w_lit (w_len_list (w_arg rfl))))
  rw [List.length_map] at h5
  refine Nat.le_of_not_lt fun q => ?_
  have q' : (n : Int) < ((ns.length : Nat) : Int) := by ac_nf
  first
   | (rw [decide_eq_true q'] at h5; exact absurd h5 (by decide))
   | (simp at h5; ac_nf)
 cases hwl with
 | cons w1 w2 =>
  cases w2
  cases w1 with
  | list ho hall => exact ⟨_, _, ns, rfl, rfl, ho, QcF ns _ hall, hlen⟩
theorem QcH (l : OpenLaw) (args : List WData) : l.row.toRowW.claim.post args (.bool true) args = true :=
 postW_of (r := l.row.toRowW) (X := (true == true))
  (show WShape.has [] (.bool true) .bool = true by first | rfl | decide | simp [WShape.has, WShape.arms, WShape.armsAll])
  (show (WTm.eq .res (.lit (.bool true))).value [] { args := args, res := some (.bool true), after := args } = some (.bool (true == true)) from w_eq_bool (w_res rfl) w_lit) rfl
theorem attach_call {l : OpenLaw} {n : Nat} {q : Program} {loose : List Str} {XP : (Str → Option Value) → Heap → Prop} {YP : World → Heap → Prop} {d : DefRec}
  (hn : l.most = some n) (hdf : d.params.defaults = [])
  (call : ∀ (w : World) (s₀ s₁ : Shared) (mg mb : Str → Option Value) (fa : Addr) (o : Obj) (pm cd doc : Value) (a : Addr) (vs : List Value) (ns : List Int),
   Ground q loose [] XP w s₀ mg mb s₁.heap → YP w s₁.heap →
   s₁.heap.get? fa = some o → o.data = .func (docDef d.name d.params d.body d.scope pm cd doc) → s₁.heap.CodeRec cd d.name → mg d.name = some (.ref fa) →
   s₁.heap.get? a = some { cls := .type "list", data := .seq vs.toArray } → IntsAre vs ns → ns.length ≤ n → s₁.gens = #[] →
   codeAny (model l.prog w) callerA (.call (.ref fa) ⟨[.ref a], []⟩) (fun r s' => r = .ok (.ret (.bool true)) ∧ OldK s₁.heap s'.heap ∧ s'.os = s₁.os ∧ AllBare s'.gens) s₁) :
  WalkO q loose XP YP l.row.toRowW d [] (fun f vs => PySem.call f vs) := by
 intro w s₀ s₁ mg mb G Y fa o pm cd doc dV kV ho hd hcd hD hmg hg args vals as hpre hlay hrd hwl hlo
 obtain rfl : dV = .none := Dflts.none hD hdf
 obtain rfl : kV = .none := Dflts.noKw hD
 obtain ⟨a, vs, ns, rfl, rfl, hobj, hints, hlen⟩ := QcG hn hpre hwl
 refine enter_call (codeAny_mono (call w s₀ s₁ mg mb fa o pm cd doc a vs ns G Y ho (fd_plain hd) hcd hmg hobj hints hlen hg) fun r s' hq => ?_)
 obtain ⟨rfl, h2, h3, h4⟩ := hq
 exact ⟨.inl ⟨.bool true, .bool true, [], rfl, fun _ => rfl, .bool true, QcH l _, fun _ => ⟨List.Pairwise.nil, fun _ hm => (nomatch hm)⟩⟩, h2, h3, h4⟩
section
variable {prog : Program} {w : World} {A : Around} {E : Value → Shared → Prop} {s : Shared} {K : Frag}
noncomputable def ledger (h : Heap) (L d : Addr) : List (Addr × Obj) := (List.range h.objs.size).filterMap fun a => if a = L ∨ a = d then none else (h.get? a).map fun o => (a, o)
end
end Att
namespace L2
open PySem PySem.Spec PyProof.Rows
theorem QcI : ∀ {vs : List Value} {ns : List Int}, IntsAre vs ns → Vals (ns.map V.int) vs
 | _, _, .nil => .nil
 | _, _, .cons n t h => .cons ⟨t, rfl⟩ (QcI h)
def Only (H : Hp) : Prop := ∀ b, H b = none ∨ ∃ o xs, H b = some (.frz o (.lst xs))
theorem QcJ {P : Program} {w : World} {K : PySem.W.Frag} {mg mb : Str → Option Value} {CX : CXT} {k : Nat} {fa a : Addr} {fd : FuncData} {x : Str} {sp : Sp} {s₁ : Shared} {vs : List Value} {ns : List Int}
  (KX : K.In s₁.heap) (hns : s₁.heap.Ns mainGlobals mg) (hb : s₁.heap.Ns builtinsNs mb) (hbb : ∀ x : Str, x ≠ "__name__" → mb x = bootBuiltins x) (hlim : s₁.heap.NoLimit) (hg : s₁.gens = #[])
  (ha : s₁.heap.get? a = some { cls := .type "list", data := .seq vs.toArray }) (hi : IntsAre vs ns) (hl : ns.length ≤ sizeLine) (hr : Room k callerA)
  (F : ∀ base : Heap, K.In base → base.Ns mainGlobals mg → FnOk P w K mg base CX k fa fd [x] sp) (hbind : ∀ (s : Shared) (u : Value), BindsTo s fd ⟨[u], []⟩ [(x, u)])
  (hsp : ∀ H : Hp, Only H → SqL K H a (ns.map V.int) → sp [.ref a] H (fun v _ => v = .bl true) fun _ _ _ => False)
  (hCX : ∀ H e s', CX [] H s₁ (fun _ _ _ => False) e s' → False) :
  codeAny (model P w) callerA (.call (.ref fa) ⟨[.ref a], []⟩) (fun r s' => r = .ok (.ret (.bool true)) ∧ OldK s₁.heap s'.heap ∧ s'.os = s₁.os ∧ AllBare s'.gens) s₁ := by
 have rv := QcI hi
 have lenV := hi.length
 have core : ∀ H : Hp, Only H → SqL K H a (ns.map V.int) → HOk P w H s₁.heap → (∀ b, H b ≠ none → b = a) → (H a ≠ none → K.lookup a = none) →
   codeAny (model P w) callerA (.call (.ref fa) ⟨[.ref a], []⟩) (fun r s' => r = .ok (.ret (.bool true)) ∧ OldK s₁.heap s'.heap ∧ s'.os = s₁.os ∧ AllBare s'.gens) s₁ := by
  intro H hO hS hok hA hK
  have base_of : ∀ {b : Addr} {o : Obj}, s₁.heap.get? b = some o → H b = none → (hidT s₁.heap H).get? b = some o := fun e n => Qan e n
  have noA : ∀ {b : Addr} {o : Obj} {es : Array DictEntry} {ep : Nat}, s₁.heap.get? b = some o → o.data = .dict es ep → H b = none := fun {b o es ep} e d => by
   cases q : H b with
   | none => rfl
   | some u =>
    have e' : b = a := hA b (by rw [q]; simp)
    subst e'
    rw [ha] at e; cases e
    have d' : Data.seq vs.toArray _ = Data.dict es ep := d
    cases d'
  have nsK : ∀ {b : Addr} {m : Str → Option Value}, s₁.heap.Ns b m → (hidT s₁.heap H).Ns b m := fun {b m} pq43 => by obtain ⟨o, es, ep, e, d, r⟩ := pq43; exact ⟨o, es, ep, base_of e (noA e d), d, r⟩
  have hKb : K.In (hidT s₁.heap H) := fun b o e => base_of (KX b o e) (by
   cases q : H b with
   | none => rfl
   | some u =>
    have e' : b = a := hA b (by rw [q]; simp)
    subst e'
    rw [hK (by rw [q]; simp)] at e; cases e)
  have hM : Mod K mg (hidT s₁.heap H) := ⟨hKb, nsK hns, ⟨mb, nsK hb, hbb⟩, let ⟨mc, h1, h2⟩ := hlim; ⟨mc, nsK h1, h2⟩⟩
  have e0 : Env0 P w K mg (hidT s₁.heap H) callerA [] s₁ H := ⟨rfl, hM, fun b o e => Qao e, Nat.le_of_eq (Qam _ _), trivial, fun b hb => absurd (show b ∈ ([] : List Addr) from hb) (by simp), hok, .of_eq hg⟩
  refine codeAny_mono ((F _ hKb (nsK hns)).run callerA [] s₁ H ⟨[.ref a], []⟩ [.ref a] [.ref a] _ _ hr e0 (hbind s₁ (.ref a)) (.cons rfl .nil) (hsp H hO hS)) fun r s' h => ?_
  cases r with
  | error e => exact (hCX H e s' h).elim
  | ok fl =>
   cases fl with
   | next => exact False.elim h
   | brk => exact False.elim h
   | cont => exact False.elim h
   | ret u =>
    obtain ⟨v, H', os, bare, un, hok', r', q⟩ := h
    have q' : v = .bl true := q
    subst q'
    obtain rfl : u = Value.bool true := r'
    refine ⟨rfl, OldK.of_keep fun b o e => ?_, os, bare⟩
    cases q : H b with
    | none => exact un.keep b o e q (by intro z; exact absurd (show b ∈ ([] : List Addr) from z) (by simp)) (by simp)
    | some u =>
     rcases hO b with z | ⟨ob, xs, z⟩
     ·rw [q] at z; cases z
     ·have z2 := un.frzs b ob _ z
      obtain ⟨e1, _⟩ := hok b _ z
      obtain ⟨e2, _⟩ := hok' b _ z2
      rw [e] at e1; cases e1
      exact e2
 cases hk : K.lookup a with
 | some o =>
  have e := KX a o hk
  rw [ha] at e
  cases e
  refine core (fun _ => none) (fun _ => .inl rfl) (.inr ⟨_, vs.toArray, _, hk, rfl, rfl, rfl, by rw [List.size_toArray, lenV]; exact hl, by simpa using rv⟩) (fun b u z => by have z' : (none : Option HO) = some u := z; cases z') (fun b z => absurd rfl z) fun z => absurd rfl z
 | none =>
  refine core (fun b => if b = a then some (.frz { cls := .type "list", data := .seq vs.toArray } (.lst (ns.map V.int))) else none) (fun b => ?_) (.inl (.inr ⟨{ cls := .type "list", data := .seq vs.toArray }, if_pos rfl⟩)) (fun b u z => ?_) (fun b z => ?_) fun _ => hk
  ·by_cases hb : b = a
   ·exact .inr ⟨_, _, if_pos hb⟩
   ·exact .inl (if_neg hb)
  ·by_cases hb : b = a
   ·have z' := (if_pos hb).symm.trans z
    cases z'
    subst hb
    exact ⟨ha, by rw [List.length_map]; exact hl, vs, _, rv, ha⟩
   ·have z' := (if_neg hb).symm.trans z
    cases z'
  ·by_cases hb : b = a
   ·exact hb
   ·exact absurd (if_neg hb) z
end L2
namespace L2
open PySem PySem.Spec PyProof.Rows
noncomputable abbrev KOf {K : PySem.W.Frag} {h : Heap} (_ : K.In h) : PySem.W.Frag := K
theorem walk_of {l : PySem.W.OpenLaw} {n k : Nat} {q : Program} {loose : List Str} {XP : (Str → Option Value) → Heap → Prop} {YP : World → Heap → Prop} {d : DefRec} {K : Params → PySem.W.Frag} {CX : World → CXT} {sp : World → Sp} {x : Str}
  (hn : l.most = some n) (hn2 : n ≤ sizeLine) (hdf : d.params.defaults = []) (hr : Room k callerA)
  (hY : ∀ (w : World) (h : Heap), YP w h → (K w.params).In h)
  (F : ∀ (w : World) (mg : Str → Option Value) (fa : Addr) (h : Heap), (K w.params).In h → h.Ns mainGlobals mg → mg d.name = some (.ref fa) →
   ∃ fd : FuncData, (∀ (s : Shared) (u : Value), BindsTo s fd ⟨[u], []⟩ [(x, u)]) ∧
    ∀ base : Heap, (K w.params).In base → base.Ns mainGlobals mg → FnOk l.prog w (K w.params) mg base (CX w) k fa fd [x] (sp w))
  (hsp : ∀ (w : World) (H : Hp) (a : Addr) (ns : List Int), ns.length ≤ n → Only H → SqL (K w.params) H a (ns.map V.int) → sp w [.ref a] H (fun v _ => v = .bl true) fun _ _ _ => False)
  (hCX : ∀ (w : World) (H : Hp) (s : Shared) (e : Value) (s' : Shared), CX w [] H s (fun _ _ _ => False) e s' → False) :
  PySem.W.WalkO q loose XP YP l.row.toRowW d [] (fun f vs => PySem.call f vs) := by
 refine Att.attach_call hn hdf fun w s₀ s₁ mg mb fa o pm cd doc a vs ns G Y ho hd hcd hmg hobj hints hlen hg => ?_
 have KX := hY w _ Y
 obtain ⟨fd, hb, hF⟩ := F w mg fa _ KX G.T.g hmg
 exact QcJ KX G.T.g G.T.b G.T.builtins G.T.nolimit hg hobj hints (Nat.le_trans hlen hn2) hr hF hb (fun H hO hS => hsp w H a ns hlen hO hS) fun H e s' => hCX w H s₁ e s'
theorem walk_ofK {l : PySem.W.OpenLaw} {n k : Nat} {q : Program} {loose : List Str} {XP : (Str → Option Value) → Heap → Prop} {YP : World → Heap → Prop} {d : DefRec} {K : Params → PySem.W.Frag} {CX : CXT} {sp : PySem.W.Frag → Sp} {x : Str}
  (hn : l.most = some n) (hn2 : n ≤ sizeLine) (hdf : d.params.defaults = []) (hr : Room k callerA)
  (hY : ∀ (w : World) (h : Heap), YP w h → (K w.params).In h)
  (F : ∀ (w : World) (mg : Str → Option Value) (fa : Addr) (h : Heap), (K w.params).In h → h.Ns mainGlobals mg → mg d.name = some (.ref fa) →
   ∃ fd : FuncData, (∀ (s : Shared) (u : Value), BindsTo s fd ⟨[u], []⟩ [(x, u)]) ∧
    ∀ base : Heap, (K w.params).In base → base.Ns mainGlobals mg → FnOk l.prog w (K w.params) mg base CX k fa fd [x] (sp (K w.params)))
  (hsp : ∀ (K : PySem.W.Frag) (H : Hp) (a : Addr) (ns : List Int), ns.length ≤ n → Only H → SqL K H a (ns.map V.int) → sp K [.ref a] H (fun v _ => v = .bl true) fun _ _ _ => False)
  (hCX : ∀ (H : Hp) (s : Shared) (e : Value) (s' : Shared), CX [] H s (fun _ _ _ => False) e s' → False) :
  PySem.W.WalkO q loose XP YP l.row.toRowW d [] (fun f vs => PySem.call f vs) :=
 walk_of (K := K) (CX := fun _ => CX) (sp := fun w => sp (K w.params)) hn hn2 hdf hr hY F (fun w H a ns h1 h2 h3 => hsp (K w.params) H a ns h1 h2 h3) fun _ H s e s' => hCX H s e s'
end L2
/- THE LAST THEOREM (shape; LID, My.* are yours):
  My.Adr: a structure of the addresses that your layer names (classes, functions); My.Txt K t: a structure (Prop) of the equations over K;
  My.txt_mk : {K} {implicit addresses ..} (e1 : nsIn K mainGlobals "law" = some (some (.ref f))) (e2 : K.lookup f = some ⟨oc, od, .func (fnOf "law" "law" params body scope dV kV doc pm an cdv ct), sl⟩) (e3 : codeIn K cdv "law" = true) .. : ∃ t, My.Txt K t
set_option maxHeartbeats 0 in
theorem PySem.Challenge.cw_LID_holds : PySem.Challenge.rw_LID.Holds := by
 w_on; o_law; k_head; (case hw => w_witness2)
 k_fill
 refine L2.walk_of (l := PySem.Challenge.rw_LID) (n := 63) (k := 40) (x := "script") (CX := fun w => ..) (sp := fun _ => My.sp_law) rfl (by decide) rfl ⟨rfl, by decide, by decide⟩ (fun w h Y => PySem.W.kIn_of Y) ?F ?S ?C
 case F =>
  intro w mg fa h KX G hmg
  have T : ∃ t, My.Txt (L2.KOf KX) t := by
   dsimp only [L2.KOf]                          -- K must stand as «<heap const> w.params» for k_is
   refine' My.txt_mk ?e1 ?e2 ?e3 ..
   (case e1 => PySem.W.k_is)                    -- in the order: a name -> its address -> its object -> its parts
   (case e2 => PySem.W.k_is)
   ..
  obtain ⟨t, T⟩ := T
  have e0 := hmg.symm.trans (PySem.W.mg_of KX G T.law)
  cases e0                                       -- fa is the law's own address
  exact ⟨_, fun s u => .of_eq rfl, fun base kb nb => My.law_fn T kb nb⟩     -- if «.of_eq rfl» comes too early: refine' ⟨_, ?b, fun base kb nb => My.law_fn T kb nb⟩; exact fun s u => .of_eq rfl
 case S => exact fun w H a ns hl hO hS => ..
 case C => exact ..
(the tactic k_is has no namespace: write k_is) -/
namespace L2
open PySem PySem.Spec PyProof.Rows
noncomputable def defArgs (s : Stmt) : Arguments := match s with
 | .FunctionDef _ a _ _ _ _ _ _ _ _ => a
 | _ => { posonlyargs := [], args := [], vararg := none, kwonlyargs := [], kw_defaults := [], kwarg := none, defaults := [] }
noncomputable def defBody (s : Stmt) : List Stmt := match s with
 | .FunctionDef _ _ b _ _ _ _ _ _ _ => b
 | _ => []
noncomputable def defScope (s : Stmt) : Scope := match s with
 | .FunctionDef _ _ _ _ _ _ sc _ _ _ => sc
 | _ => { kind := .function, names := [], isGenerator := false, isCoroutine := false }
noncomputable abbrev CX0 : CXT := fun _ _ _ _ _ _ => False
noncomputable abbrev E0 : XK := fun _ _ _ => False
theorem QcK {X : Cx} : Passes CX0 X E0 := fun _ _ _ _ _ _ _ h => h.elim
structure Fun (K : PySem.W.Frag) (x qual : Str) (st : Stmt) (f : Addr) (fd : FuncData) : Prop where
 ex : ∃ (oc : Value) (od : Option Addr) (kV doc pm : Value) (an : Option Addr) (cdv ct : Value) (osl : Array (Option Value)),
  fd = PySem.W.fnOf x qual (defArgs st) (defBody st) (defScope st) .none kV doc pm an cdv ct ∧ K.lookup f = some ⟨oc, od, .func fd, osl⟩ ∧ PySem.W.codeIn K cdv qual = true
 kp : PySem.W.keepIn K (.ref f) = true
section
variable {P : Program} {w : World} {K : PySem.W.Frag} {mg : Str → Option Value} {base : Heap}
theorem Fun.ok {x qual : Str} {st : Stmt} {f : Addr} {fd : FuncData} {N ps : List Str} {k : Nat} {sp : Sp} (F : Fun K x qual st f fd) (S : FnScope N ps (defScope st)) (len : ∀ vs H Q E, sp vs H Q E → vs.length = ps.length)
  (hbody : ∀ (cdv : Value) (A : Around) (outer : List Env) (s : Shared) (H : Hp) (vs : List V) (Q : VK) (E : XK), Room k (A.deeper (envOfC qual (defScope st) s.heap.objs.size f cdv)) → sp vs H Q E →
   ∃ t, PSs (cxOf CX0 P w K mg base N qual (defScope st) f cdv A outer s H E).nox (defBody st) t ∧ t { nx := fun _ H' => Q .non H', rt := Q } (start N vs) H) : FnOk P w K mg base CX0 (k + 1) f fd ps sp := by
 obtain ⟨oc, od, kV, doc, pm, an, cdv, ct, osl, rfl, lk, hcd⟩ := F.ex
 refine QbT lk hcd S len fun A outer s H vs Q E hr hsp => ?_
 obtain ⟨t, h, q⟩ := hbody cdv A outer s H vs Q E hr hsp
 exact ⟨t, h.nox, q⟩
theorem Fun.binds {x qual : Str} {st : Stmt} {f : Addr} {fd : FuncData} {ps : List Str} (F : Fun K x qual st f fd)
  (h : ∀ (kV doc pm : Value) (an : Option Addr) (cdv ct : Value) (us : List Value), us.length = ps.length → bindArgs (PySem.W.fnOf x qual (defArgs st) (defBody st) (defScope st) .none kV doc pm an cdv ct) ⟨us, []⟩ = pure (ps.zip us)) : Binds K fd ps [] := by
 obtain ⟨oc, od, kV, doc, pm, an, cdv, ct, osl, rfl, lk, hcd⟩ := F.ex
 exact .all (h kV doc pm an cdv ct)
theorem QcL {x qual : Str} {st : Stmt} {f : Addr} {oc : Value} {od an : Option Addr} {osl : Array (Option Value)} {kV doc pm cdv ct : Value} (l : K.lookup f = some ⟨oc, od, .func (PySem.W.fnOf x qual (defArgs st) (defBody st) (defScope st) .none kV doc pm an cdv ct), osl⟩)
  (c : PySem.W.codeIn K cdv qual = true) (k : PySem.W.keepIn K (.ref f) = true) : Fun K x qual st f (PySem.W.fnOf x qual (defArgs st) (defBody st) (defScope st) .none kV doc pm an cdv ct) := ⟨⟨oc, od, kV, doc, pm, an, cdv, ct, osl, rfl, l, c⟩, k⟩
end
section
variable {X : Cx}
end
def Same (H H' : Hp) : Prop := ∀ b o, H b = some o → H' b = some o
theorem Same.refl (H : Hp) : Same H H := fun _ _ h => h
theorem Same.trans {H H1 H2 : Hp} (a : Same H H1) (b : Same H1 H2) : Same H H2 := fun c o h => b c o (a c o h)
theorem Same.free {H H' : Hp} (e : Same H H') {l : Addr} (h : H' l = Option.none) : H l = Option.none := by
 cases q : H l with
 | none => rfl
 | some o =>
  rw [e l o q] at h
  cases h
theorem Same.seq {K : PySem.W.Frag} {H H' : Hp} {a : Addr} {xs : List V} (e : Same H H') (h : SqL K H a xs) : SqL K H' a xs := by
 rcases h with (h | ⟨o, h⟩) | h
 ·exact .inl (.inl (e _ _ h))
 ·exact .inl (.inr ⟨o, e _ _ h⟩)
 ·exact .inr h
end L2
namespace L2
open PySem PySem.Spec PyProof.Rows
section
variable {κ : Type} [DecidableEq κ]
noncomputable def valV (kvs : List (κ × V)) (k : κ) : Option V := (kvs.find? fun kv => decide (kv.1 = k)).map (·.2)
noncomputable def putK (kvs : List (κ × V)) (k : κ) (v : V) : List (κ × V) :=
 if (kvs.any fun kv => decide (kv.1 = k)) = true then kvs.map (fun kv => if kv.1 = k then (kv.1, v) else kv) else kvs ++ [(k, v)]
noncomputable def dropK (kvs : List (κ × V)) (k : κ) : List (κ × V) := kvs.filter fun kv => decide (kv.1 ≠ k)
theorem QcM {p : κ × V} {r : List (κ × V)} {k : κ} (e : p.1 = k) : valV (p :: r) k = some p.2 := by simp [valV, List.find?_cons, e]
theorem QcN {p : κ × V} {r : List (κ × V)} {k : κ} (e : ¬ p.1 = k) : valV (p :: r) k = valV r k := by simp [valV, List.find?_cons, e]
theorem QcO (k : κ) : ∀ kvs : List (κ × V), (kvs.any fun kv => decide (kv.1 = k)) = (valV kvs k).isSome
 | [] => rfl
 | p :: r => by
  rw [List.any_cons]
  by_cases e : p.1 = k
  ·simp only [QcM e, decide_eq_true e, Bool.true_or, Option.isSome_some]
  ·rw [QcN e, decide_eq_false e, Bool.false_or]; exact QcO k r
theorem QcP (kvs : List (κ × V)) (k : κ) (v : V) : (putK kvs k v).length ≤ kvs.length + 1 := by
 unfold putK
 split
 ·rw [List.length_map]; ac_nf
 ·rw [List.length_append, List.length_cons, List.length_nil]; ac_nf
theorem RelO.isSome_eq {o : Option V} {u : Option Value} (r : RelO o u) : o.isSome = u.isSome := by
 cases o with
 | none => cases u with
  | none => rfl
  | some _ => exact (show False from r).elim
 | some _ => cases u with
  | none => exact (show False from r).elim
  | some _ => rfl
theorem RelO.getD {o : Option V} {u : Option Value} {d : V} {d' : Value} (r : RelO o u) (rd : RelV d d') : RelV (o.getD d) (u.getD d') := by
 cases o with
 | none => cases u with
  | none => exact rd
  | some _ => exact (show False from r).elim
 | some _ => cases u with
  | none => exact (show False from r).elim
  | some _ => exact r
theorem KV.val {kvs : List (κ × V)} {vs : List (κ × Value)} (r : KV kvs vs) (k : κ) : RelO (valV kvs k) (valueAt vs k) := by
 unfold KV at r
 induction r with
 | nil => exact True.intro
 | @cons p q ps qs h t ih =>
  obtain ⟨h1, h2⟩ := h
  by_cases e : p.1 = k
  ·have e' : q.1 = k := h1.symm.trans e
   have b : valueAt (q :: qs) k = some q.2 := by simp [valueAt, List.find?_cons, e']
   rw [QcM e, b]; exact h2
  ·have e' : ¬ q.1 = k := fun z => e (h1.trans z)
   have b : valueAt (q :: qs) k = valueAt qs k := by simp [valueAt, List.find?_cons, e']
   rw [QcN e, b]; exact ih
theorem KV.any {kvs : List (κ × V)} {vs : List (κ × Value)} (r : KV kvs vs) (k : κ) : (kvs.any fun kv => decide (kv.1 = k)) = vs.any fun kv => decide (kv.1 = k) := by
 unfold KV at r
 induction r with
 | nil => rfl
 | cons h t ih => rw [List.any_cons, List.any_cons, ih, h.1]
theorem KV.repl {kvs : List (κ × V)} {vs : List (κ × Value)} (r : KV kvs vs) (k : κ) {y : V} {u : Value} (ry : RelV y u) :
  KV (kvs.map fun kv => if kv.1 = k then (kv.1, y) else kv) (vs.map fun kv => if kv.1 = k then (kv.1, u) else kv) := by
 unfold KV at r ⊢
 induction r with
 | nil => exact .nil
 | @cons p q ps qs h t ih =>
  rw [List.map_cons, List.map_cons]
  refine .cons ?_ ih
  obtain ⟨h1, h2⟩ := h
  by_cases e : p.1 = k
  ·rw [if_pos e, if_pos (h1.symm.trans e)]; exact ⟨h1, ry⟩
  ·rw [if_neg e, if_neg (fun z => e (h1.trans z))]; exact ⟨h1, h2⟩
theorem KV.put {kvs : List (κ × V)} {vs : List (κ × Value)} (r : KV kvs vs) (k : κ) {y : V} {u : Value} (ry : RelV y u) : KV (putK kvs k y) (stored vs k u) := by
 unfold putK stored
 rw [r.any k]
 by_cases e : (vs.any fun kv => decide (kv.1 = k)) = true
 ·rw [if_pos e, if_pos e]; exact r.repl k ry
 ·rw [if_neg e, if_neg e]; exact Paired.snoc r ⟨rfl, ry⟩
theorem KV.drop {kvs : List (κ × V)} {vs : List (κ × Value)} (r : KV kvs vs) (k : κ) : KV (dropK kvs k) (without vs k) := by
 unfold KV at r ⊢
 unfold dropK without
 induction r with
 | nil => exact .nil
 | @cons p q ps qs h t ih =>
  obtain ⟨h1, h2⟩ := h
  rw [List.filter_cons, List.filter_cons]
  by_cases e : p.1 = k
  ·have a : ¬ decide (p.1 ≠ k) = true := by simp [e]
   have b : ¬ decide (q.1 ≠ k) = true := by simp [h1.symm.trans e]
   rw [if_neg a, if_neg b]; exact ih
  ·have e' : ¬ q.1 = k := fun z => e (h1.trans z)
   have a : decide (p.1 ≠ k) = true := by simp [e]
   have b : decide (q.1 ≠ k) = true := by simp [e']
   rw [if_pos a, if_pos b]; exact .cons ⟨h1, h2⟩ ih
theorem KV.keys {kvs : List (κ × V)} {vs : List (κ × Value)} (r : KV kvs vs) : kvs.map (·.1) = vs.map (·.1) := by
 unfold KV at r
 induction r with
 | nil => rfl
 | cons h t ih => rw [List.map_cons, List.map_cons, ih, h.1]
theorem KV.length {kvs : List (κ × V)} {vs : List (κ × Value)} (r : KV kvs vs) : kvs.length = vs.length := Paired.length r
end
theorem QcQ {P : Program} {w : World} {k : Key} {u : Value} (r : RelV (kV k) u) : (mixKind P w).is k u = true := by
 cases k with
 | inl i => obtain ⟨t, e⟩ := (show ∃ t, u = Value.int i t from r); subst e; exact Qag P w i t
 | inr x => obtain ⟨t, e⟩ := (show ∃ t, u = Value.str x t from r); subst e; exact Qah P w x t
theorem QcR {P : Program} {w : World} : ∀ {ks : List Key} {us : List Value}, Vals (ks.map kV) us → ItemsAre (mixKind P w) ks us
 | [], _, r => by rw [List.map_nil] at r; cases r; exact .nil
 | k :: ks, _, r => by
  rw [List.map_cons] at r
  cases r with
  | cons h t => exact .cons (QcQ h) (QcR t)
noncomputable abbrev KT (H : Hp) : List (List Key × V) → List (List Key × Addr × Value) → Prop := Paired fun p q => p.1 = q.1 ∧ H q.2.1 = some (.tup (p.1.map kV)) ∧ RelV p.2 q.2.2
theorem KT.val {H : Hp} {kvs : List (List Key × V)} {xs : List (List Key × Addr × Value)} (r : KT H kvs xs) (k : List Key) : RelO (valV kvs k) ((atKey xs k).map (·.2)) := by
 induction r with
 | nil => exact True.intro
 | @cons p q ps qs h t ih =>
  obtain ⟨h1, _, h2⟩ := h
  by_cases e : p.1 = k
  ·have e' : q.1 = k := h1.symm.trans e
   have b : atKey (q :: qs) k = some q.2 := by simp [atKey, List.find?_cons, e']
   rw [QcM e, b]; exact h2
  ·have e' : ¬ q.1 = k := fun z => e (h1.trans z)
   have b : atKey (q :: qs) k = atKey qs k := by simp [atKey, List.find?_cons, e']
   rw [QcN e, b]; exact ih
theorem KT.repl {H : Hp} {kvs : List (List Key × V)} {xs : List (List Key × Addr × Value)} (r : KT H kvs xs) (k : List Key) {y : V} {u : Value} (ry : RelV y u) :
  KT H (kvs.map fun kv => if kv.1 = k then (kv.1, y) else kv) (xs.map (putAt k u)) := by
 induction r with
 | nil => exact .nil
 | @cons p q ps qs h t ih =>
  rw [List.map_cons, List.map_cons]
  refine .cons ?_ ih
  obtain ⟨h1, h2, h3⟩ := h
  unfold putAt
  by_cases e : p.1 = k
  ·rw [if_pos e, if_pos (h1.symm.trans e)]; exact ⟨h1, h2, ry⟩
  ·rw [if_neg e, if_neg (fun z => e (h1.trans z))]; exact ⟨h1, h2, h3⟩
theorem KT.put {H : Hp} {kvs : List (List Key × V)} {xs : List (List Key × Addr × Value)} (r : KT H kvs xs) (k : List Key) {b : Addr} {y : V} {u : Value} (hb : H b = some (.tup (k.map kV))) (ry : RelV y u) :
  KT H (putK kvs k y) (storedH xs k b u) := by
 have e : (kvs.any fun kv => decide (kv.1 = k)) = (atKey xs k).isSome := by
  rw [QcO, (r.val k).isSome_eq, Option.isSome_map]
 unfold putK storedH
 rw [e]
 by_cases q : (atKey xs k).isSome = true
 ·rw [if_pos q, if_pos q]; exact r.repl k ry
 ·rw [if_neg q, if_neg q]; exact Paired.snoc r ⟨rfl, hb, ry⟩
theorem KT.keeps {H H' : Hp} {kvs : List (List Key × V)} {xs : List (List Key × Addr × Value)} (r : KT H kvs xs) (ht : ∀ b ys, H b = some (.tup ys) → H' b = some (.tup ys)) : KT H' kvs xs :=
 Paired.mapP r fun _ _ z => ⟨z.1, ht _ _ z.2.1, z.2.2⟩
section
variable {P : Program} {w : World} {H : Hp} {h : Heap} {a : Addr}
theorem QcS {u : HO} (ok : HOk P w H h) (e : Rd H a u) : ObjOk P w H h a u := e.ok ok
theorem QcT {kvs : List (Key × V)} (ok : HOk P w H h) (e : Rd H a (.dK kvs)) : kvs.length ≤ sizeLine ∧ (a == sysModules) = false ∧ ∃ vs, KV kvs vs ∧ h.DictOf (mixKind P w) a vs :=
 show ObjOk P w H h a (.dK kvs) from QcS ok e
theorem QcU {kvs : List (Key × V)} (ok : HOk P w H h) (e : H a = some (.dK kvs)) : kvs.length ≤ sizeLine ∧ (a == sysModules) = false ∧ ∃ vs, KV kvs vs ∧ h.DictOf (mixKind P w) a vs := QcT ok (.inl e)
theorem QcV {ks : List Key} (ok : HOk P w H h) (e : H a = some (.tup (ks.map kV))) : (tupleKind (mixKind P w)).is h ks a := by
 obtain ⟨_, its, r, o, h1, h2, n, h3⟩ := (show ObjOk P w H h a (.tup (ks.map kV)) from ok a _ e)
 exact ⟨o, its.toArray, n, h1, h2, h3, by simpa using QcR r⟩
theorem QcW {kvs : List (List Key × V)} (ok : HOk P w H h) (e : Rd H a (.dT kvs)) : kvs.length ≤ sizeLine ∧ (a == sysModules) = false ∧
  ∃ xs, KT H kvs xs ∧ h.DictOfH (tupleKind (mixKind P w)) a xs := by
 obtain ⟨z, y, xs, r, o, es, ep, h1, h2, h3, h4, h5⟩ := (show ObjOk P w H h a (.dT kvs) from QcS ok e)
 refine ⟨z, y, xs, r, o, es, ep, h1, h2, h3, h4, fun x hx => ?_, h5⟩
 have all : ∀ {l : List (List Key × V)} {m : List (List Key × Addr × Value)}, KT H l m → ∀ x ∈ m, (tupleKind (mixKind P w)).is h x.1 x.2.1 := by
  intro l m q
  induction q with
  | nil => intro x hx; exact nomatch hx
  | @cons p q ps qs hq t ih =>
   intro x hx
   rcases List.mem_cons.mp hx with e | hx
   ·subst e
    exact QcV ok (by rw [← hq.1]; exact hq.2.1)
   ·exact ih x hx
 exact all r x hx
theorem QcX {kvs : List (List Key × V)} (ok : HOk P w H h) (e : H a = some (.dT kvs)) : kvs.length ≤ sizeLine ∧ (a == sysModules) = false ∧
  ∃ xs, KT H kvs xs ∧ h.DictOfH (tupleKind (mixKind P w)) a xs := QcW ok (.inl e)
end
def DGet (H : Hp) (a : Addr) (y : V) (r : Option V) : Prop :=
 (∃ kvs k, Rd H a (.dK kvs) ∧ y = kV k ∧ r = valV kvs k) ∨ ∃ kvs k b, Rd H a (.dT kvs) ∧ y = .ref b ∧ H b = some (.tup (k.map kV)) ∧ r = valV kvs k
def DPut (H : Hp) (a : Addr) (y v : V) (H' : Hp) : Prop :=
 (∃ kvs k, H a = some (.dK kvs) ∧ y = kV k ∧ kvs.length < sizeLine ∧ H' = upd H a (.dK (putK kvs k v))) ∨
 ∃ kvs k b, H a = some (.dT kvs) ∧ y = .ref b ∧ H b = some (.tup (k.map kV)) ∧ kvs.length < sizeLine ∧ H' = upd H a (.dT (putK kvs k v))
theorem DGet.k {H : Hp} {a : Addr} {kvs : List (Key × V)} {k : Key} (e : H a = some (.dK kvs)) : DGet H a (kV k) (valV kvs k) := .inl ⟨kvs, k, .inl e, rfl, rfl⟩
theorem DGet.t {H : Hp} {a b : Addr} {kvs : List (List Key × V)} {k : List Key} (e : H a = some (.dT kvs)) (eb : H b = some (.tup (k.map kV))) : DGet H a (.ref b) (valV kvs k) := .inr ⟨kvs, k, b, .inl e, rfl, eb, rfl⟩
theorem DPut.k {H : Hp} {a : Addr} {kvs : List (Key × V)} {k : Key} {v : V} (e : H a = some (.dK kvs)) (hl : kvs.length < sizeLine) : DPut H a (kV k) v (upd H a (.dK (putK kvs k v))) := .inl ⟨kvs, k, e, rfl, hl, rfl⟩
theorem DPut.t {H : Hp} {a b : Addr} {kvs : List (List Key × V)} {k : List Key} {v : V} (e : H a = some (.dT kvs)) (eb : H b = some (.tup (k.map kV))) (hl : kvs.length < sizeLine) :
  DPut H a (.ref b) v (upd H a (.dT (putK kvs k v))) := .inr ⟨kvs, k, b, e, rfl, eb, hl, rfl⟩
section
variable {X : Cx} {pins : List (Addr × Obj)} {σ : St} {H : Hp} {s : Shared} {a : Addr} {y v : V} {u r : Value} {o : Option V} {A : Around} {E : Value → Shared → Prop}
theorem Inv.big (I : Inv X pins σ H s) : sysModules < s.heap.objs.size := by
 have h : mainGlobals < s.heap.objs.size := (I.mod.glob.keeps I.bk).lt
 exact Nat.lt_trans (by decide) h
theorem QcY {Q : Value → Shared → Prop} (hu : A.units + 1 < cLine) (I : Inv X pins σ H s) (g : DGet H a y (some v)) (ry : RelV y u) (h : ∀ w' s', Inv X pins σ H s' → RelV v w' → Q w' s') :
  wpAny (model X.prog X.w) A (getItem (.ref a) u) Q E s := by
 rcases g with ⟨kvs, k, e, ey, l⟩ | ⟨kvs, k, b, e, ey, eb, l⟩
 ·subst ey
  obtain ⟨z, hd, vs, rel, dd⟩ := QcT I.hok e
  obtain ⟨w', hw, rw'⟩ := RelO.some_of (v := v) (o := valueAt vs k) (by rw [l]; exact rel.val k)
  exact wpAny_getItem_of (QcQ ry) dd.mapOf hw (h w' _ (I.tok _) rw')
 ·subst ey
  cases (show u = Value.ref b from ry)
  obtain ⟨z, hd, xs, rel, dd⟩ := QcW I.hok e
  obtain ⟨w', hw, rw'⟩ := RelO.some_of (v := v) (o := (atKey xs k).map (·.2)) (by rw [l]; exact rel.val k)
  obtain ⟨p, hp, hp2⟩ := Option.map_eq_some_iff.mp hw
  refine wpAny_getItem_heap (tupleKind_room_in1 hu) (QcV I.hok eb) dd hp ?_
  rw [hp2]
  exact h w' _ (I.tok _) rw'
theorem d_in {Q : Value → Shared → Prop} (hu : A.units + 1 < cLine) (I : Inv X pins σ H s) (g : DGet H a y o) (ry : RelV y u) (h : ∀ s', Inv X pins σ H s' → Q (.bool o.isSome) s') :
  wpAny (model X.prog X.w) A (compareOp .In u (.ref a)) Q E s := by
 rcases g with ⟨kvs, k, e, ey, l⟩ | ⟨kvs, k, b, e, ey, eb, l⟩
 ·subst ey
  obtain ⟨z, hd, vs, rel, dd⟩ := QcT I.hok e
  refine wpAny_in_of (QcQ ry) hd dd.mapOf ?_
  rw [← (rel.val k).isSome_eq, ← l]
  exact h _ (I.tok _)
 ·subst ey
  cases (show u = Value.ref b from ry)
  obtain ⟨z, hd, xs, rel, dd⟩ := QcW I.hok e
  refine wpAny_in_heap (tupleKind_room_in1 hu) (QcV I.hok eb) hd dd ?_
  have q := (rel.val k).isSome_eq
  rw [Option.isSome_map] at q
  rw [← q, ← l]
  exact h _ (I.tok _)
theorem QcZ {Q : Value → Shared → Prop} (hu : A.units + 1 < cLine) (I : Inv X pins σ H s) (g : DGet H a y o) (ry : RelV y u) (h : ∀ s', Inv X pins σ H s' → Q (.bool (!o.isSome)) s') :
  wpAny (model X.prog X.w) A (compareOp .NotIn u (.ref a)) Q E s := by
 rcases g with ⟨kvs, k, e, ey, l⟩ | ⟨kvs, k, b, e, ey, eb, l⟩
 ·subst ey
  obtain ⟨z, hd, vs, rel, dd⟩ := QcT I.hok e
  refine wpAny_notIn_of (QcQ ry) hd dd.mapOf ?_
  rw [← (rel.val k).isSome_eq, ← l]
  exact h _ (I.tok _)
 ·subst ey
  cases (show u = Value.ref b from ry)
  obtain ⟨z, hd, xs, rel, dd⟩ := QcW I.hok e
  refine wpAny_notIn_heap (tupleKind_room_in1 hu) (QcV I.hok eb) hd dd ?_
  have q := (rel.val k).isSome_eq
  rw [Option.isSome_map] at q
  rw [← q, ← l]
  exact h _ (I.tok _)
theorem Qc0 {h' : Heap} {t' : Nat} {ob : HO} (I : Inv X pins σ H s) (mu : Mut (H a)) (hs : Heap.SameBut a s.heap h') (he : ∃ q, h'.get? a = some q) (new : ObjOk X.prog X.w (upd H a ob) h' a ob) :
  Inv X pins σ (upd H a ob) { s with heap := h', toks := t' } :=
 I.write (x := a) (e := a) mu (.inl rfl) (fun b q hb z => (hs.2 b hb).trans z) he new
theorem Qc1 {P : Program} {w : World} {H' : Hp} {h' : Heap} {kvs : List (Key × V)} {vs : List (Key × Value)} (z : kvs.length ≤ sizeLine) (hd : (a == sysModules) = false) (rel : KV kvs vs) (dd : h'.DictOf (mixKind P w) a vs) :
  ObjOk P w H' h' a (.dK kvs) := ⟨z, hd, vs, rel, dd⟩
theorem Qc2 {H' : Hp} {Q : Unit → Shared → Prop} (hu : A.units + 1 < cLine) (I : Inv X pins σ H s) (g : DPut H a y v H') (ry : RelV y u) (rv : RelV v r) (h : ∀ s', Inv X pins σ H' s' → Q () s') :
  wpAny (model X.prog X.w) A (setItem (.ref a) u r) Q E s := by
 rcases g with ⟨kvs, k, e, ey, l, eH⟩ | ⟨kvs, k, b, e, ey, eb, l, eH⟩
 ·subst ey eH
  obtain ⟨z, hd, vs, rel, dd⟩ := QcU I.hok e
  have hz : vs.length ≤ sizeLine := by rw [← rel.length]; exact z
  have hl : (putK kvs k v).length ≤ sizeLine := by have := QcP kvs k v; ac_nf
  refine wpAny_setItem_pairs (hsz := hz) (QcQ ry) dd fun h' dd' hs => h _ ?_
  have he : ∃ q, h'.get? a = some q := let ⟨q, _, _, hq, _⟩ := dd'; ⟨q, hq⟩
  exact Qc0 I (by rw [e]; exact True.intro) hs he (Qc1 hl hd (rel.put k rv) dd')
 ·subst ey eH
  cases (show u = Value.ref b from ry)
  obtain ⟨z, hd, xs, rel, dd⟩ := QcX I.hok e
  have hz : xs.length ≤ sizeLine := by rw [← Paired.length rel]; exact z
  have hl : (putK kvs k v).length ≤ sizeLine := by have := QcP kvs k v; ac_nf
  refine wpAny_setItem_heap (hsz := hz) (tupleKind_room_in1 hu) (QcV I.hok eb) dd fun h' dd' hs => h _ ?_
  obtain ⟨q, es, ep, hq, h2, h3, h4, _, h5⟩ := dd'
  refine Qc0 I (by rw [e]; exact True.intro) hs ⟨q, hq⟩ ⟨hl, hd, _, (rel.put k eb rv).keeps fun c ys ec => ?_, q, es, ep, hq, h2, h3, h4, h5⟩
  rw [Qaj (Qak ec e (fun z => nomatch z))]
  exact ec
end
section
variable {X : Cx} {pins : List (Addr × Obj)} {σ : St} {H : Hp} {s : Shared} {a : Addr} {kvs : List (Key × V)} {k : Key} {u : Value} {A : Around} {E : Value → Shared → Prop}
theorem Qc3 {Q : Value → Shared → Prop} (I : Inv X pins σ H s) (e : Rd H a (.dK kvs)) (h : ∀ t s', Inv X pins σ H s' → Q (.int kvs.length t) s') : wpAny (model X.prog X.w) A (call (.builtin "len") [.ref a]) Q E s := by
 obtain ⟨z, hd, vs, rel, dd⟩ := QcT I.hok e
 refine call_len_dict hd dd (by rw [← rel.length]; rw [sizeLine_eq] at z; ac_nf) ?_
 rw [← rel.length]
 exact h _ _ (I.tok _)
end
section
variable {X : Cx} {o i e value : Expr} {pos pos' tpos : Pos} {td ty tv : TE}
end
theorem Qc4 {P : Program} {w : World} {H : Hp} (h : Heap) (hb : sysModules < h.objs.size) : ObjOk P w H (h.push { cls := .type "dict", data := .dict #[] }) h.objs.size (.dK []) :=
 ⟨Nat.zero_le _, beq_eq_false_iff_ne.mpr (Ne.symm (Nat.ne_of_lt hb)), [], .nil, Heap.DictOf.new h⟩
section
variable {X : Cx} {pos : Pos}
end
noncomputable def tPairs : List (TE × TE) → St → Hp → (List (V × V) → Hp → Prop) → Prop
 | [], _, H, Q => Q [] H
 | (tk, tv) :: r, σ, H, Q => tk σ H fun x H1 => tv σ H1 fun y H2 => tPairs r σ H2 fun ps H3 => Q ((x, y) :: ps) H3
noncomputable abbrev VV : List (V × V) → List (Value × Value) → Prop := Paired fun p q => RelV p.1 q.1 ∧ RelV p.2 q.2
def PPs (X : Cx) (pos : Pos) (keys : List (Option Expr)) (values : List Expr) (trs : List (TE × TE)) : Prop :=
 ∀ (pins : List (Addr × Obj)) (s : Shared) (σ : St) (H : Hp) (Q : List (V × V) → Hp → Prop), Inv X pins σ H s → tPairs trs σ H Q →
  wpAny (model X.prog X.w) X.A (evalPairs (pairTrees keys values X.env pos)) (fun vs s' => ∃ ps H', Inv X pins σ H' s' ∧ VV ps vs ∧ Q ps H') X.xe s
theorem Qc5 {X : Cx} {pos : Pos} : PPs X pos [] [] [] := fun pins s σ H Q I h => pairTrees_nil_walk ⟨[], H, I, .nil, h⟩
theorem Qc6 {X : Cx} {pos : Pos} {k v : Expr} {ks : List (Option Expr)} {vs : List Expr} {tk tv : TE} {trs : List (TE × TE)} (hk : PE X k tk) (hv : PE X v tv) (hr : PPs X pos ks vs trs) :
  PPs X pos (some k :: ks) (v :: vs) ((tk, tv) :: trs) := fun pins s σ H Q I h =>
 pairTrees_cons_walk (thn (hk pins s σ H _ I h) fun u s1 ⟨x, H1, I1, rx, q1⟩ => thn (hv pins s1 σ H1 _ I1 q1) fun w2 s2 ⟨y, H2, I2, ry, q2⟩ =>
  thn (hr pins s2 σ H2 _ I2 q2) fun ws s3 ⟨ps, H3, I3, rel, q3⟩ => ⟨(x, y) :: ps, H3, I3, .cons ⟨rx, ry⟩ rel, q3⟩)
noncomputable def mergeK (kvs more : List (Key × V)) : List (Key × V) := more.foldl (fun acc kv => putK acc kv.1 kv.2) kvs
theorem KV.merge : ∀ {more : List (Key × V)} {rs : List (Key × Value)} {kvs : List (Key × V)} {vs : List (Key × Value)}, KV more rs → KV kvs vs → KV (mergeK kvs more) (merged vs rs) := by
 intro more rs kvs vs r
 unfold KV at r
 induction r generalizing kvs vs with
 | nil => intro q; exact q
 | @cons p q ps qs h t ih =>
  intro r0
  have e : KV (putK kvs p.1 p.2) (stored vs q.1 q.2) := by
   have := r0.put p.1 h.2
   rw [← h.1]; exact this
  exact ih e
theorem Qc7 : ∀ (more kvs : List (Key × V)), (mergeK kvs more).length ≤ kvs.length + more.length
 | [], kvs => by show kvs.length ≤ kvs.length + 0; ac_nf
 | p :: r, kvs => by
  have h1 := Qc7 r (putK kvs p.1 p.2)
  have h2 := QcP kvs p.1 p.2
  show (mergeK (putK kvs p.1 p.2) r).length ≤ _
  rw [List.length_cons]; ac_nf
theorem Qc8 {P : Program} {w : World} : ∀ {kvs : List (Key × V)} {ws : List (Value × Value)}, VV (kvs.map fun kv => (kV kv.1, kv.2)) ws → ∃ rs, Carries (mixKind P w) ws rs ∧ KV kvs rs
 | [], _, r => by rw [List.map_nil] at r; cases r; exact ⟨[], True.intro, .nil⟩
 | p :: kvs, _, r => by
  rw [List.map_cons] at r
  cases r with
  | @cons a b as bs h t =>
   obtain ⟨rs, c, q⟩ := Qc8 (P := P) (w := w) t
   obtain ⟨b1, b2⟩ := b
   exact ⟨(p.1, b2) :: rs, ⟨QcQ h.1, rfl, c⟩, .cons ⟨rfl, h.2⟩ q⟩
noncomputable def tDisp (trs : List (TE × TE)) : TE := fun σ H Q => ∀ p, H p = none → tPairs trs σ (upd H p (.dK [])) fun ps H2 => H2 p = some (.dK []) ∧ ∃ kvs : List (Key × V), ps = kvs.map (fun kv => (kV kv.1, kv.2)) ∧ kvs.length ≤ 15 ∧ Q (.ref p) (upd H2 p (.dK (mergeK [] kvs)))
theorem Qc9 {X : Cx} {pos : Pos} {keys : List (Option Expr)} {values : List Expr} {trs : List (TE × TE)} (h : PPs X pos keys values trs) (hall : keys.all (·.isSome) = true) (hl : keys.length = values.length) (h0 : keys ≠ [])
  (h15 : keys.length ≤ 15) : PE X (.Dict keys values pos) (tDisp trs) := by
 intro pins s σ H Q I q
 have hn := I.hok.fresh (Nat.le_refl s.heap.objs.size)
 have I1 := I.laid (a := s.heap.objs.size) (o := .dK []) (h' := s.heap.push { cls := .type "dict", data := .dict #[] }) (t' := s.toks) (fun _ _ q => Heap.get?_push_of_some _ q) (Nat.le_refl _) (Qc4 s.heap I.big)
 refine wpAny_Dict_walk (knd := mixKind X.prog X.w) hall hl h0 h15 (thn (h pins _ σ _ _ I1 (q _ hn)) fun ws s2 pq44 => ?_)
 obtain ⟨ps, H2, I2, rel, e, kvs, ep, lk, q2⟩ := pq44
 subst ep
 obtain ⟨rs, c, rk⟩ := Qc8 (P := X.prog) (w := X.w) rel
 obtain ⟨z, hd, vs0, r0, dd⟩ := QcU I2.hok e
 cases r0
 refine ⟨rs, c, dd, fun h' dd' hs => ⟨.ref s.heap.objs.size, _, ?_, rfl, q2⟩⟩
 have hz : (mergeK [] kvs).length ≤ sizeLine := by
  have h1 := Qc7 kvs []
  rw [List.length_nil] at h1
  rw [sizeLine_eq]; ac_nf
 have he : ∃ q, h'.get? s.heap.objs.size = some q := let ⟨q, _, _, hq, _⟩ := dd'; ⟨q, hq⟩
 exact Qc0 I2 (by rw [e]; exact True.intro) hs he (Qc1 hz hd (rk.merge .nil) dd')
structure M1 (X : Cx) (o : Expr) (m : Str) (apos : Pos) (e : Expr) (cpos : Pos) : Prop where
 base : attributeBase o m X.env (eval o X.env) = eval o X.env
 few : ((backTo cpos (starEach [e] X.env)).all (fun x => !x.1) && (backToKw cpos (keywordEach [] X.env)).all (fun x => x.1.isSome)
  && decide (([e] : List Expr).length + ([] : List Keyword).length + (if ([] : List Keyword).isEmpty then 0 else 1) < 30)) = true
 line : (apos.endLine == cpos.line) = true
 trees : backTo cpos (starEach [e] X.env) = [(false, eval e X.env)]
structure M2 (X : Cx) (o : Expr) (m : Str) (apos : Pos) (e f : Expr) (cpos : Pos) : Prop where
 base : attributeBase o m X.env (eval o X.env) = eval o X.env
 few : ((backTo cpos (starEach [e, f] X.env)).all (fun x => !x.1) && (backToKw cpos (keywordEach [] X.env)).all (fun x => x.1.isSome)
  && decide (([e, f] : List Expr).length + ([] : List Keyword).length + (if ([] : List Keyword).isEmpty then 0 else 1) < 30)) = true
 line : (apos.endLine == cpos.line) = true
 trees : backTo cpos (starEach [e, f] X.env) = [(false, eval e X.env), (false, eval f X.env)]
end L2
namespace MM
open PySem PySem.Spec PyProof.Rows L2
section
variable {prog : Program} {w : World} {K : Type} [DecidableEq K] (knd : KeyKind prog w K)
inductive TIts (h : Heap) : List (List K) → List Value → Prop
 | nil : TIts h [] []
 | cons {k : List K} {b : Addr} {ks : List (List K)} {vs : List Value} : IsTupleKey knd h k b → TIts h ks vs → TIts h (k :: ks) (.ref b :: vs)
def IsNestKey (h : Heap) (ks : List (List K)) (a : Addr) : Prop := ∃ o items n, h.get? a = some o ∧ o.cls = .type "tuple" ∧ o.data = .seq items n ∧ TIts knd h ks items.toList
variable {knd}
theorem TIts.inj {h : Heap} {x y : List (List K)} {vs : List Value} (a : TIts knd h x vs) (b : TIts knd h y vs) : x = y := by
 induction a generalizing y with
 | nil => cases b; rfl
 | cons a t ih => cases b with
  | cons b u => rw [a.inj b, ih u]
theorem IsNestKey.typeIs {s : Shared} {ks : List (List K)} {a : Addr} (x : IsNestKey knd s.heap ks a) : s.TypeIs (.ref a) "tuple" := let ⟨o, _, _, ho, hc, _⟩ := x; ⟨o, ho, hc⟩
theorem IsNestKey.inj {h : Heap} {a : Addr} {x y : List (List K)} (hx : IsNestKey knd h x a) (hy : IsNestKey knd h y a) : x = y := by
 obtain ⟨o, items, n, ho, _, hd, hi⟩ := hx
 obtain ⟨o', items', n', ho', _, hd', hi'⟩ := hy
 cases ho.symm.trans ho'
 rw [hd] at hd'
 injection hd' with h1 _
 subst h1
 exact hi.inj hi'
theorem TIts.keeps {h h' : Heap} {d : Addr} {o : Obj} {es ep} (ho : h.get? d = some o) (hd : o.data = .dict es ep) (hs : Heap.SameBut d h h') : ∀ {x : List (List K)} {vs : List Value}, TIts knd h x vs → TIts knd h' x vs
 | _, _, .nil => .nil
 | _, _, .cons a t => .cons (a.keeps ho hd hs) (TIts.keeps ho hd hs t)
theorem IsNestKey.keeps {h h' : Heap} {ks : List (List K)} {a d : Addr} {o : Obj} {es ep} (x : IsNestKey knd h ks a) (ho : h.get? d = some o) (hd : o.data = .dict es ep) (hs : Heap.SameBut d h h') :
  IsNestKey knd h' ks a := by
 obtain ⟨o', items, n, ho', hc, hd', hi⟩ := x
 have hne : a ≠ d := by
  rintro rfl
  obtain rfl : o' = o := Option.some.inj (ho'.symm.trans ho)
  rw [hd] at hd'; exact nomatch hd'
 exact ⟨o', items, n, (hs.2 a hne).trans ho', hc, hd', hi.keeps ho hd hs⟩
noncomputable def nestHash (knd : KeyKind prog w K) (ks : List (List K)) : Int := reduceHash (Builtin.Tuple.tupleHashOf (ks.map (tupleKeyHash knd)))
noncomputable def nestDraws : List (List K) → Nat
 | [] => 0
 | k :: ks => (k.length + 1) + nestDraws ks
variable {A : Around} {E : Value → Shared → Prop} {s : Shared}
theorem Qda (k : List K) : ∀ (l : List (List K)), nestDraws (l ++ [k]) = nestDraws l + (k.length + 1)
 | [] => by simp [nestDraws]
 | x :: l => by simp [nestDraws, Qda k l]; ac_nf
theorem Qdb {ks : List (List K)} {a : Addr} {Q : Int → Shared → Prop} (hu : A.units + 1 < cLine) (hk : IsNestKey knd s.heap ks a) (h : Q (nestHash knd ks) { s with toks := s.toks + (nestDraws ks + 1) }) :
  wpAny (model prog w) A (pyHash (.ref a)) Q E s := by
 have hT := hk.typeIs
 obtain ⟨o, items, n, ho, _, hd, hi⟩ := hk
 unfold pyHash
 first | unfold pyHashByItsType | skip
 first | refine wpAny_bind (wpAny_cRoomFor_or (.inr (by ac_nf)) ?_) | skip
 refine wpAny_bind (wpAny_specialOf hT F.slot_tuple_hash.lookup ?_)
 show wpAny _ _ (if (some (Value.builtin "tuple.__hash__") == some Value.none) = true then _ else _) Q E s
 rw [if_neg (by rw [beq_builtin_none]; exact Bool.false_ne_true)]
 refine wpAny_bind (wpAny_specialOf hT F.slot_tuple_hash.lookup ?_)
 show wpAny _ _ (callSpecialIfBoundUnlessNone? (.ref a) "__hash__" _ >>= _) Q E s
 refine wpAny_bind (wpAny_callSpecialIfBoundUnlessNone?_slot hT F.slot_tuple_hash (wpAny_call_entry F.slot_tuple_hash hT F.entry_tuple_hash ?_ (F.args_tuple_hash_1 _)))
 show wpAny _ _ (Builtin.Tuple.tupleItemsOf (.ref a) >>= _) _ _ s
 refine wpAny_bind (wpAny_tupleItemsOf ho hd ?_)
 refine wpAny_bind ?_
 rw [← Array.forIn_toList]
 refine wpAny_forIn_list _
  (fun rest (b : Array Int) s' => ∃ done left, ks = done ++ left ∧ TIts knd s.heap left rest ∧ b.toList = done.map (tupleKeyHash knd) ∧ s' = { s with toks := s.toks + nestDraws done })
  _ ?_ ?_ _ _ ⟨[], ks, rfl, hi, rfl, rfl⟩
 ·rintro x rest b s' ⟨done, left, rfl, hl, hb, rfl⟩
  cases hl with
  | @cons k b' ks' _ h1 hl' =>
   refine wpAny_bind (wpAny_pyHash_tuple (knd := knd) (ks := k) hu h1 ?_)
   first
    | exact wpAny_pure ⟨done ++ [k], ks', by simp, hl', by simp [hb], by simp [Qda, Nat.add_assoc]⟩
    | exact wpAny_bind (wpAny_pure (wpAny_pure ⟨done ++ [k], ks', by simp, hl', by simp [hb], by simp [Qda, Nat.add_assoc]⟩))
 ·rintro b s' ⟨done, left, rfl, hl, hb, rfl⟩
  cases hl
  rw [List.append_nil] at h
  show wpAny _ _ (retInt (Builtin.Tuple.tupleHashOf b.toList)) _ _ _
  rw [hb]
  refine wpAny_ret_mkInt ?_
  show wpAny _ _ (if (decide (-(2 : Int) ^ 63 ≤ Builtin.Tuple.tupleHashOf (done.map (tupleKeyHash knd))) && decide (Builtin.Tuple.tupleHashOf (done.map (tupleKeyHash knd)) < 2 ^ 63)) = true then _ else _) Q E _
  unfold nestHash reduceHash at h
  by_cases hr : (decide (-(2 : Int) ^ 63 ≤ Builtin.Tuple.tupleHashOf (done.map (tupleKeyHash knd))) && decide (Builtin.Tuple.tupleHashOf (done.map (tupleKeyHash knd)) < 2 ^ 63)) = true
  ·rw [if_pos hr]
   rw [if_pos hr] at h
   exact wpAny_pure (by simpa [Nat.add_assoc] using h)
  ·rw [if_neg hr]
   rw [if_neg hr] at h
   exact wpAny_bind (wpAny_rule (wpAny_pure (by simpa [Nat.add_assoc] using h)))
theorem Qdc {x y : List (List K)} {a b : Addr} {P : Fin → Shared → Prop} (hu : A.units < cLine) (hx : IsNestKey knd s.heap x a) (hy : IsNestKey knd s.heap y b) (h : P (.done (.ret (.bool (decide (x = y))))) s) :
  wpAny (model prog w) A (Builtin.«tuple.__eq__» ⟨[.ref a, .ref b], []⟩) P E s := by
 have hTb := hy.typeIs
 obtain ⟨oa, xs, na, hoa, _, hda, hia⟩ := hx
 obtain ⟨ob, ys, nb, hob, _, hdb, hib⟩ := hy
 show wpAny _ _ (isInstance (.ref b) (.type "tuple") >>= _) _ _ s
 refine wpAny_bind (wpAny_isInstance hTb isSubtype_tuple_tuple ?_)
 simp only [Bool.not_true, Bool.false_eq_true, if_false]
 refine wpAny_bind (wpAny_tupleItemsOf hoa hda ?_)
 refine wpAny_bind (wpAny_tupleItemsOf hob hdb ?_)
 refine wpAny_bind ?_
 refine wpAny_forIn_list _
  (fun rest r s' => r.1 = none ∧ s' = s ∧ ∃ x' y' xs' ys', rest = List.zip xs' ys' ∧ TIts knd s.heap x' xs' ∧ TIts knd s.heap y' ys' ∧ decide (x' = y') = decide (x = y) ∧ (xs'.length == ys'.length) = (xs.size == ys.size))
  _ ?_ ?_ _ _ ⟨rfl, rfl, x, y, xs.toList, ys.toList, rfl, hia, hib, rfl, by simp⟩
 ·rintro ⟨u, v⟩ rest r s' ⟨hr, rfl, x', y', xs', ys', hz, hx', hy', hdec, hlen⟩
  cases hx' with
  | nil => simp at hz
  | @cons k1 u' x'' xs'' h1 hx'' =>
   cases hy' with
   | nil => simp at hz
   | @cons k2 v' y'' ys'' h2 hy'' =>
    simp only [List.zip_cons_cons, List.cons.injEq, Prod.mk.injEq] at hz
    obtain ⟨⟨rfl, rfl⟩, rfl⟩ := hz
    refine wpAny_bind (wpAny_eqBool_tuple (knd := knd) (x := k1) (y := k2) hu h1 h2 ?_)
    by_cases hk : k1 = k2
    ·subst hk
     rw [decide_eq_true rfl]
     simp only [Bool.not_true, Bool.false_eq_true, if_false]
     refine wpAny_pure ⟨rfl, rfl, x'', y'', xs'', ys'', rfl, hx'', hy'', ?_, by simpa using hlen⟩
     rw [← hdec]
     by_cases hxy : x'' = y''
     ·simp [hxy]
     ·simp [hxy]
    ·rw [decide_eq_false hk]
     simp only [Bool.not_false, if_true]
     have hf : decide (x = y) = false := by rw [← hdec]; simp [hk]
     rw [hf] at h
     exact wpAny_bind (wpAny_pure (wpAny_pure (wpAny_pure h)))
 ·rintro ⟨r1, r2⟩ s' ⟨hr, rfl, x', y', xs', ys', hz, hx', hy', hdec, hlen⟩
  simp only at hr
  subst hr
  refine wpAny_pure ?_
  have hfin : (xs.size == ys.size) = decide (x = y) := by
   rw [← hdec, ← hlen]
   cases hx' with
   | nil =>
    cases hy' with
    | nil => simp
    | cons _ _ => simp
   | cons _ _ =>
    cases hy' with
    | nil => simp
    | cons _ _ => simp at hz
  show P (.done (.ret (.bool (xs.size == ys.size)))) s'
  rw [hfin]; exact h
theorem Qdd {x y : List (List K)} {a b : Addr} {Q : Bool → Shared → Prop} (hu : A.units + 1 < cLine) (hx : IsNestKey knd s.heap x a) (hy : IsNestKey knd s.heap y b) (h : Q (decide (x = y)) s) :
  wpAny (model prog w) A (eqBool (.ref a) (.ref b)) Q E s := by
 unfold eqBool
 try with_reducible refine wpAny_holding ?_
 show wpAny _ _ (if (Value.ref a == Value.ref b) = true then _ else _) Q E s
 by_cases hab : (Value.ref a == Value.ref b) = true
 ·rw [if_pos hab]
  have e : a = b := by have := eq_of_beq hab; injection this
  subst e
  obtain rfl := hx.inj hy
  exact wpAny_bind (wpAny_rule (wpAny_pure (by simpa using h)))
 ·rw [if_neg hab]
  exact wpAny_bind (wpAny_richCompare_same_room (op := .Eq) hx.typeIs hy.typeIs F.slot_tuple_eq
   (wpAny_call_entry F.slot_tuple_eq hx.typeIs F.entry_tuple_eq (Qdc (by exact hu) hx hy ⟨_, rfl, (fun e => nomatch e), wpAny_truthy_bool h⟩) (F.args_tuple_eq_2 _ _)) (by ac_nf))
theorem Qde {n : Nat} {ks : List K} {a : Addr} {Q : Bool → Shared → Prop} (hk : IsTupleKey knd s.heap ks a) (h : Q true s) : wpAny (model prog w) A (eqIsQuiet (n + 1) (.ref a)) Q E s := by
 have hT := hk.typeIs
 obtain ⟨o, items, n, ho, _, hd, hi⟩ := hk
 unfold eqIsQuiet
 refine wpAny_bind (wpAny_specialOf hT F.slot_tuple_eq.lookup ?_)
 show wpAny _ _ (isInstance (.ref a) (.type "tuple") >>= _) _ _ s
 refine wpAny_bind (wpAny_isInstance hT isSubtype_tuple_tuple ?_)
 simp only [Bool.not_true, Bool.false_eq_true, if_false]
 refine wpAny_bind (wpAny_seqItems ho hd ?_)
 refine wpAny_bind ?_
 show wpAny _ _ (forIn items _ _) _ _ s
 rw [← Array.forIn_toList]
 refine wpAny_forIn_list _ (fun rest r s' => r.1 = none ∧ s' = s ∧ ∀ v ∈ rest, carriedByValue v = true) _ ?_ ?_ _ _ ⟨rfl, rfl, hi.byValue⟩
 ·rintro v rest r s' ⟨hr, rfl, hall⟩
  rw [eqIsQuiet_byValue _ (hall v List.mem_cons_self)]
  refine wpAny_bind (wpAny_pure ?_)
  simp only [Bool.not_true, Bool.false_eq_true, if_false]
  exact wpAny_pure ⟨rfl, rfl, fun u hu' => hall u (List.mem_cons_of_mem _ hu')⟩
 ·rintro ⟨r1, r2⟩ s' ⟨hr, rfl, _⟩
  simp only at hr
  subst hr
  exact wpAny_pure h
theorem Qdf {ks : List (List K)} {a : Addr} {Q : Bool → Shared → Prop} (hk : IsNestKey knd s.heap ks a) (h : Q true s) : wpAny (model prog w) A (eqIsQuiet 8 (.ref a)) Q E s := by
 have hT := hk.typeIs
 obtain ⟨o, items, n, ho, _, hd, hi⟩ := hk
 unfold eqIsQuiet
 refine wpAny_bind (wpAny_specialOf hT F.slot_tuple_eq.lookup ?_)
 show wpAny _ _ (isInstance (.ref a) (.type "tuple") >>= _) _ _ s
 refine wpAny_bind (wpAny_isInstance hT isSubtype_tuple_tuple ?_)
 simp only [Bool.not_true, Bool.false_eq_true, if_false]
 refine wpAny_bind (wpAny_seqItems ho hd ?_)
 refine wpAny_bind ?_
 show wpAny _ _ (forIn items _ _) _ _ s
 rw [← Array.forIn_toList]
 refine wpAny_forIn_list _ (fun rest r s' => r.1 = none ∧ s' = s ∧ ∃ left, TIts knd s.heap left rest) _ ?_ ?_ _ _ ⟨rfl, rfl, ks, hi⟩
 ·rintro v rest r s' ⟨hr, rfl, left, hall⟩
  cases hall with
  | cons h1 hl =>
   refine wpAny_bind (Qde (n := 6) h1 ?_)
   simp only [Bool.not_true, Bool.false_eq_true, if_false]
   exact wpAny_pure ⟨rfl, rfl, _, hl⟩
 ·rintro ⟨r1, r2⟩ s' ⟨hr, rfl, _⟩
  simp only at hr
  subst hr
  exact wpAny_pure h
end
noncomputable def nestKind {prog : Program} {w : World} {K : Type} [DecidableEq K] (knd : KeyKind prog w K) : HeapKind prog w (List (List K)) where
 is := IsNestKey knd
 hash := nestHash knd
 draws := fun ks => nestDraws ks + 1
 room := fun A => A.units + 1 < cLine
 inj := fun hx hy => hx.inj hy
 keeps := fun x ho hd hs => x.keeps ho hd hs
 pyHash := fun hu hk h => Qdb hu hk h
 eqBool := fun hu hx hy h => Qdd hu hx hy h
 quiet := fun hk h => Qdf hk h
end MM
namespace MM
open PySem PyProof.Rows
def EpAt (h : Heap) (d : Addr) (n : Nat) : Prop := ∃ o es, h.get? d = some o ∧ o.data = .dict es n
section
variable {prog : Program} {w : World} {K : Type} [DecidableEq K] {knd : HeapKind prog w K} {A : Around} {E : Value → Shared → Prop} {s : Shared} {d a : Addr} {k : K} {xs : List (K × Addr × Value)}
theorem Qdg {v : Value} {Q : Unit → Shared → Prop} (hu : knd.room A) (hkey : knd.is s.heap k a) (hm : s.heap.DictOfH knd d xs) (hp : EpAt s.heap d xs.length) (hsz : xs.length ≤ sizeLine)
  (h : ∀ h', h'.DictOfH knd d (storedH xs k a v) → EpAt h' d (storedH xs k a v).length → Heap.SameBut d s.heap h' → Q () { s with heap := h', toks := s.toks + knd.draws k }) :
  wpAny (model prog w) A (dictSet d (.ref a) v) Q E s := by
 obtain ⟨o, es, ep, ho, hc, hd, he, his, hn⟩ := id hm
 obtain ⟨o', es', ho', hd'⟩ := hp
 rw [ho] at ho'; cases ho'
 rw [hd] at hd'; cases hd'
 unfold dictSet
 refine wpAny_holding (wpAny_bind (knd.pyHash hu hkey ?_))
 unfold dictSetHashed
 refine wpAny_holding (wpAny_bind (wpAny_dictFind_heap (s := { s with toks := s.toks + knd.draws k }) hu hkey ho hd he his hn (fun hno => ?_) fun j p hj => ?_))
 ·have hnot : k ∉ xs.map (·.1) := not_mem_keys_of_get hno
  have e0 := atKey_none_of_get hno
  have e1 := storedH_new (a := a) (v := v) e0
  have e2 := size_of_entries he
  refine wpAny_bind (wpAny_rule (wpAny_updateDictKeys (hz := by ac_nf) (s := { s with toks := s.toks + knd.draws k }) ho hd
   (h _ ⟨_, _, _, Heap.get?_update_self _ ho (Obj.isFreed_of_dict (Obj.data_mapDictKeys hd _)), hc.mapDictKeys _, Obj.data_mapDictKeys hd _, ?_, ?_, ?_⟩ ?_ (Heap.SameBut.update ..))))
  ·rw [e1]; simp [he, entryOfKey]
  ·rw [e1]
   intro x hx
   rcases List.mem_append.mp hx with hx | hx
   ·exact knd.keeps (his x hx) ho hd (Heap.SameBut.update ..)
   ·cases List.mem_singleton.mp hx
    exact knd.keeps hkey ho hd (Heap.SameBut.update ..)
  ·rw [e1, List.map_append, List.nodup_append]
   refine ⟨hn, by simp, fun x hx y hy => ?_⟩
   cases List.mem_singleton.mp hy
   exact fun e => hnot ((show x = k from e) ▸ hx)
  ·rw [e1, List.length_append]; exact ⟨_, _, Heap.get?_update_self _ ho (Obj.isFreed_of_dict (Obj.data_mapDictKeys hd _)), Obj.data_mapDictKeys hd _⟩
 ·have e0 := atKey_of_get hn hj
  have e1 := storedH_old e0 a v
  have ej : j < es.size := by
   rw [size_of_entries he]; exact (List.getElem?_eq_some_iff.mp hj).1
  have hes : (es.modify j fun e => { hash := e.hash, key := e.key, val := v }).toList = (xs.map (putAt k v)).map (entryOfKey knd) := by
   apply List.ext_getElem?
   intro i
   rw [Array.getElem?_toList, Array.getElem?_modify, List.getElem?_map, List.getElem?_map]
   have ei : es[i]? = (xs[i]?).map (entryOfKey knd) := by rw [← Array.getElem?_toList, he, List.getElem?_map]
   rw [ei]
   by_cases z : j = i
   ·subst z
    rw [if_pos rfl, hj]
    simp [putAt, entryOfKey]
   ·rw [if_neg z]
    cases hx : xs[i]? with
    | none => rfl
    | some x =>
     have nk : x.1 ≠ k := fun q => by
      have a1 : (xs.map (·.1))[i]? = some k := by rw [List.getElem?_map, hx, ← q]; rfl
      have a2 : (xs.map (·.1))[j]? = some k := by rw [List.getElem?_map, hj]; rfl
      exact z ((List.getElem?_inj (by rw [List.length_map]; exact (List.getElem?_eq_some_iff.mp hj).1) hn).mp (a2.trans a1.symm))
     simp [putAt, nk]
  refine wpAny_bind (wpAny_rule (wpAny_bind (wpAny_updateDict (s := { s with toks := s.toks + knd.draws k }) ho hd (wpAny_point
   (h _ ⟨_, _, _, Heap.get?_update_self _ ho (Obj.isFreed_of_dict (Obj.data_mapDict hd _)), hc.mapDict _, Obj.data_mapDict hd _, ?_, ?_, ?_⟩ ?_ (Heap.SameBut.update ..))))))
  ·rw [e1]; exact hes
  ·rw [e1]
   intro x hx
   obtain ⟨y, hy, e⟩ := List.mem_map.mp hx
   have q := knd.keeps (his y hy) ho hd (Heap.SameBut.update s.heap d (Obj.mapDict fun x => x.modify j fun e => { hash := e.hash, key := e.key, val := v }))
   rw [← e]
   unfold putAt
   split
   ·exact q
   ·exact q
  ·rw [e1, List.map_map]
   have : (xs.map ((fun x => x.1) ∘ putAt k v)) = xs.map (·.1) := List.map_congr_left fun x _ => by
    show (putAt k v x).1 = x.1
    unfold putAt
    split <;> rfl
   rw [this]; exact hn
  ·rw [e1, List.length_map]; exact ⟨_, _, Heap.get?_update_self _ ho (Obj.isFreed_of_dict (Obj.data_mapDict hd _)), Obj.data_mapDict hd _⟩
theorem Qdh {v : Value} {Q : Unit → Shared → Prop} (hu : knd.room A.in1) (hkey : knd.is s.heap k a) (hm : s.heap.DictOfH knd d xs) (hp : EpAt s.heap d xs.length) (hsz : xs.length ≤ sizeLine)
  (h : ∀ h', h'.DictOfH knd d (storedH xs k a v) → EpAt h' d (storedH xs k a v).length → Heap.SameBut d s.heap h' → Q () { s with heap := h', toks := s.toks + knd.draws k }) :
  wpAny (model prog w) A (setItem (.ref d) (.ref a) v) Q E s := by
 have T := hm.typeIs
 unfold setItem
 refine wpAny_holding (wpAny_bind (wpAny_sequenceKey T (by decide) (wpAny_bind (wpAny_callSpecial?_slot T F.slot_dict_setitem (wpAny_call_entry F.slot_dict_setitem T F.entry_dict_setitem ?_ (F.args_dict_setitem_3 _ _ _))))))
 unfold Builtin.«dict.__setitem__»
 refine wpAny_bind (wpAny_notOrdered_dict T ?_)
 rw [if_neg (by simp)]
 show wpAny _ _ (dictSet d (.ref a) v >>= _) _ _ s
 refine wpAny_bind (Qdg hu hkey hm hp hsz fun h' a1 a2 a3 => wpAny_pure ⟨_, rfl, wpAny_pure (h h' a1 a2 a3)⟩)
end
end MM
namespace MM
open PySem
inductive D where
 | non | bl (b : Bool) | int (i : Int) | str (x : Str) | tup (ds : List D) | lit (ds : List D) | ref (n : Nat) | dic (n : Nat) | exn (x : Str) (ds : List D)
inductive MO where
 | lst (ds : List D) | dct (b : Bool) (kvs : List (D × D))
noncomputable abbrev Sto := List MO
structure Exn where
 cls : Nat
 args : List D
inductive Rs (α : Type) where
 | ok (a : α) (s : Sto) | exc (x : Exn) (s : Sto) | bad
noncomputable def M (α : Type) := Sto → Rs α
section
variable {α β : Type}
noncomputable def ret (a : α) : M α := fun s => .ok a s
noncomputable def bnd (m : M α) (f : α → M β) : M β := fun s => match m s with
 | .ok a s' => f a s'
 | .exc x s' => .exc x s'
 | .bad => .bad
noncomputable def bad : M α := fun _ => .bad
@[irreducible] noncomputable def chk (c : Prop) [Decidable c] (m : M α) : M α := if c then m else bad
end
noncomputable abbrev Loc := List (Option D)
noncomputable abbrev CE := Loc → M D
noncomputable abbrev CT := Loc → M Bool
noncomputable abbrev CA := Loc → M (List D)
inductive Flw where
 | next (l : Loc) | ret (d : D) | brk (l : Loc) | cnt (l : Loc)
noncomputable abbrev CS := Loc → M Flw
noncomputable def lim : Nat := 2 ^ 24
noncomputable def alloc (o : MO) : M D := fun s => .ok (.ref s.length) (s ++ [o])
noncomputable def getL (n : Nat) : M (List D) := fun s => match s[n]? with
 | some (.lst ds) => .ok ds s
 | _ => .bad
noncomputable def putL (n : Nat) (ds : List D) : M Unit := fun s => match s[n]? with
 | some (.lst _) => .ok () (s.set n (.lst ds))
 | _ => .bad
noncomputable def getDc (n : Nat) : M (Bool × List (D × D)) := fun s => match s[n]? with
 | some (.dct b kvs) => .ok (b, kvs) s
 | _ => .bad
noncomputable def putDc (n : Nat) (b : Bool) (kvs : List (D × D)) : M Unit := fun s => match s[n]? with
 | some (.dct c _) => if b = c then .ok () (s.set n (.dct b kvs)) else .bad
 | _ => .bad
mutual
noncomputable def eqK : D → D → Bool
 | .int i, .int j => decide (i = j)
 | .str x, .str y => decide (x = y)
 | .tup xs, .tup ys => eqKs xs ys
 | _, _ => false
noncomputable def eqKs : List D → List D → Bool
 | [], [] => true
 | x :: xs, y :: ys => eqK x y && eqKs xs ys
 | _, _ => false
end
noncomputable def intsK : List D → Option (List Int)
 | [] => some []
 | .int i :: ds => (intsK ds).map (i :: ·)
 | _ => none
noncomputable def rowsK : List D → Option (List (List Int))
 | [] => some []
 | .tup xs :: ds => match intsK xs, rowsK ds with
  | some r, some rs => some (r :: rs)
  | _, _ => none
 | _ => none
noncomputable def stK : D → Option (List (List Int))
 | .tup ds => rowsK ds
 | _ => none
noncomputable def kOk : Bool → D → Bool
 | false, .int _ => true
 | false, .str _ => true
 | true, d => (stK d).isSome
 | _, _ => false
noncomputable def lkK (kvs : List (D × D)) (k : D) : Option D := (kvs.find? fun p => eqK p.1 k).map (·.2)
noncomputable def ptK (kvs : List (D × D)) (k v : D) : List (D × D) := if (kvs.any fun p => eqK p.1 k) = true then kvs.map fun p => if eqK p.1 k = true then (p.1, v) else p else kvs ++ [(k, v)]
noncomputable def mgK (kvs more : List (D × D)) : List (D × D) := more.foldl (fun acc p => ptK acc p.1 p.2) kvs
noncomputable def itemK (n : Nat) (k : D) : M D := bnd (getDc n) fun p => chk (kOk p.1 k = true) (match lkK p.2 k with
 | some d => ret d
 | none => bad)
noncomputable def storeK (n : Nat) (k v : D) : M Unit := bnd (getDc n) fun p => chk (kOk p.1 k = true ∧ p.2.length < lim) (putDc n p.1 (ptK p.2 k v))
noncomputable def hasK (n : Nat) (k : D) : M Bool := bnd (getDc n) fun p => chk (kOk p.1 k = true) (ret (lkK p.2 k).isSome)
noncomputable def seqOf : D → M (List D)
 | .tup ds => ret ds
 | .lit ds => ret ds
 | .ref n => getL n
 | _ => bad
noncomputable def ixN (n : Nat) (i : Int) : Option Nat := if 0 ≤ i then (if i < n then some i.toNat else none) else (if -(n : Int) ≤ i then some (i + n).toNat else none)
noncomputable def addD : D → D → M D
 | .int i, .int j => ret (.int (i + j))
 | .str x, .str y => chk (x.length + y.length ≤ lim) (ret (.str (x ++ y)))
 | .tup x, .tup y => chk (x.length + y.length ≤ lim) (ret (.tup (x ++ y)))
 | .ref a, .ref b => bnd (getL a) fun x => bnd (getL b) fun y => chk (x.length + y.length ≤ lim) (alloc (.lst (x ++ y)))
 | _, _ => bad
noncomputable def subD : D → D → M D
 | .int i, .int j => ret (.int (i - j))
 | _, _ => bad
def mulOk (i j : Int) : Prop := (-(2 ^ 64) < i ∧ i < 2 ^ 64) ∨ (-(2 ^ 64) < j ∧ j < 2 ^ 64)
noncomputable instance (i j : Int) : Decidable (mulOk i j) := by unfold mulOk; infer_instance
noncomputable def mulD : D → D → M D
 | .int i, .int j => chk (mulOk i j) (ret (.int (i * j)))
 | _, _ => bad
noncomputable def fdivD : D → D → M D
 | .int i, .int j => chk (0 < j ∧ j < 1073741824) (ret (.int (i / j)))
 | _, _ => bad
noncomputable def modD : D → D → M D
 | .int i, .int j => chk (0 < j) (ret (.int (i % j)))
 | _, _ => bad
noncomputable def powD : D → D → M D
 | .int i, .int j => chk (0 ≤ j ∧ j ≤ 1000000 ∧ i.natAbs < 2 ^ 64) (ret (.int (i ^ j.toNat)))
 | _, _ => bad
noncomputable def shlD : D → D → M D
 | .int i, .int j => chk (0 ≤ j ∧ j ≤ 1000000 ∧ i.natAbs < 2 ^ 64) (ret (.int (i * 2 ^ j.toNat)))
 | _, _ => bad
noncomputable def shrD : D → D → M D
 | .int i, .int j => chk (0 ≤ j) (ret (.int (i / 2 ^ j.toNat)))
 | _, _ => bad
noncomputable def negD : D → M D
 | .int i => ret (.int (-i))
 | _ => bad
noncomputable def cmpI (p : Int → Int → Bool) : D → D → M D
 | .int i, .int j => ret (.bl (p i j))
 | _, _ => bad
noncomputable def ltD := cmpI fun i j => decide (i < j)
noncomputable def leD := cmpI fun i j => decide (i ≤ j)
noncomputable def gtD := cmpI fun i j => decide (j < i)
noncomputable def geD := cmpI fun i j => decide (j ≤ i)
noncomputable def allF (f : D → D → Option Bool) : List D → List D → Option Bool
 | [], [] => some true
 | x :: xs, y :: ys => match f x y with
  | some true => allF f xs ys
  | some false => (allF f xs ys).map fun _ => false
  | none => none
 | _ :: _, [] => some false
 | [], _ :: _ => some false
noncomputable def eqS (g : List D → List D → Option Bool) : D → D → Option Bool
 | .non, .non => some true
 | .non, .bl _ => some false
 | .non, .int _ => some false
 | .non, .str _ => some false
 | .non, .tup _ => some false
 | .bl _, .non => some false
 | .bl a, .bl b => some (a == b)
 | .bl a, .int b => some ((if a then 1 else 0) == b)
 | .bl _, .str _ => some false
 | .bl _, .tup _ => some false
 | .int _, .non => some false
 | .int a, .bl b => some (a == (if b then 1 else 0))
 | .int a, .int b => some (a == b)
 | .int _, .str _ => some false
 | .int _, .tup _ => some false
 | .str _, .non => some false
 | .str _, .bl _ => some false
 | .str _, .int _ => some false
 | .str a, .str b => some (a == b)
 | .str _, .tup _ => some false
 | .tup _, .non => some false
 | .tup _, .bl _ => some false
 | .tup _, .int _ => some false
 | .tup _, .str _ => some false
 | .tup xs, .tup ys => g xs ys
 | _, _ => none
noncomputable def eqF : Nat → D → D → Option Bool
 | 0, d, e => eqS (fun _ _ => none) d e
 | n + 1, d, e => eqS (allF (eqF n)) d e
noncomputable def eqB (d e : D) : M Bool := match d, e with
 | .ref a, .ref b => bnd (getL a) fun x => bnd (getL b) fun y => match (if x.length = y.length then allF (eqF 50) x y else some false) with
  | some r => ret r
  | none => bad
 | .ref a, .non => bnd (getL a) fun _ => ret false
 | .non, .ref a => bnd (getL a) fun _ => ret false
 | d, e => match eqF 50 d e with
  | some r => ret r
  | none => bad
noncomputable def eqD (d e : D) : M D := bnd (eqB d e) fun b => ret (.bl b)
noncomputable def neD (d e : D) : M D := bnd (eqB d e) fun b => ret (.bl !b)
noncomputable def isND : D → M D
 | .non => ret (.bl true)
 | _ => ret (.bl false)
noncomputable def notND : D → M D
 | .non => ret (.bl false)
 | _ => ret (.bl true)
noncomputable def itemD (ds : List D) (i : Int) : M D := match ixN ds.length i with
 | some k => match ds[k]? with
  | some d => ret d
  | none => bad
 | none => bad
noncomputable def subsD : D → D → M D
 | .tup ds, .int i => itemD ds i
 | .lit ds, .int i => itemD ds i
 | .ref n, .int i => bnd (getL n) fun ds => itemD ds i
 | .dic n, k => itemK n k
 | .str x, .int i => chk (x.length ≤ lim) (match ixN x.length i with
  | some k => match x.cps.toList[k]? with
   | some c => ret (.str ⟨#[c]⟩)
   | none => bad
  | none => bad)
 | _, _ => bad
noncomputable def truD : D → M Bool
 | .non => ret false
 | .bl b => ret b
 | .int i => ret (i != 0)
 | .str x => chk (x.length ≤ lim) (ret ((x.length : Int) != 0))
 | .tup ds => ret (!ds.isEmpty)
 | .lit ds => ret (!ds.isEmpty)
 | .ref n => bnd (getL n) fun ds => ret (!ds.isEmpty)
 | .dic _ => bad
 | .exn _ _ => bad
noncomputable def cVar (i : Nat) : CE := fun l => match l[i]? with
 | some (some d) => ret d
 | _ => bad
noncomputable def cCon (d : D) : CE := fun _ => ret d
noncomputable def c1 (g : D → M D) (a : CE) : CE := fun l => bnd (a l) g
noncomputable def c2 (g : D → D → M D) (a b : CE) : CE := fun l => bnd (a l) fun x => bnd (b l) fun y => g x y
noncomputable def cNil : CA := fun _ => ret []
noncomputable def cCons (a : CE) (r : CA) : CA := fun l => bnd (a l) fun x => bnd (r l) fun xs => ret (x :: xs)
noncomputable def cTup (a : CA) : CE := fun l => bnd (a l) fun xs => chk (xs.length ≤ lim) (ret (.tup xs))
noncomputable def cChain (f g : D → D → M D) (a b c : CE) : CE := fun l => bnd (a l) fun x => bnd (b l) fun y => bnd (f x y) fun z => match z with
 | .bl true => bnd (c l) fun w => g y w
 | .bl false => ret (.bl false)
 | _ => bad
noncomputable def cAnd (a b : CE) : CE := fun l => bnd (a l) fun x => match x with
 | .bl true => b l
 | .bl false => ret (.bl false)
 | _ => bad
noncomputable def cOr (a b : CE) : CE := fun l => bnd (a l) fun x => match x with
 | .bl true => ret (.bl true)
 | .bl false => b l
 | _ => bad
noncomputable def cNot (a : CE) : CE := fun l => bnd (a l) fun x => match x with
 | .bl b => ret (.bl !b)
 | _ => bad
noncomputable def cIfE (t : CT) (a b : CE) : CE := fun l => bnd (t l) fun c => if c = true then a l else b l
noncomputable def cCall (g : List D → M D) (a : CA) : CE := fun l => bnd (a l) g
noncomputable def tVal (a : CE) : CT := fun l => bnd (a l) truD
noncomputable def tCmpB (a : CE) : CT := fun l => bnd (a l) fun x => match x with
 | .bl b => ret b
 | _ => bad
noncomputable def tAndB (a b : CT) : CT := fun l => bnd (a l) fun c => if c = true then b l else ret false
noncomputable def tOrB (a b : CT) : CT := fun l => bnd (a l) fun c => if c = true then ret true else b l
noncomputable def tNotB (a : CT) : CT := fun l => bnd (a l) fun c => ret !c
structure Wk where
 ds : List D
 same : Sto → Prop
noncomputable abbrev CI := Loc → M Wk
open Classical in
noncomputable def  chkS (p : Sto → Prop) : M Unit := fun s => if p s then .ok () s else .bad
noncomputable def anySt : Sto → Prop := fun _ => True
noncomputable def sameL (n : Nat) (ds : List D) : Sto → Prop := fun s => s[n]? = some (.lst ds)
noncomputable def iSeq (a : CE) : CI := fun l => bnd (a l) fun x => match x with
 | .tup ds => ret ⟨ds, anySt⟩
 | .lit ds => ret ⟨ds, anySt⟩
 | .ref n => bnd (getL n) fun ds => ret ⟨ds, sameL n ds⟩
 | _ => bad
noncomputable def rngD (lo : Int) (n : Nat) : List D := (List.range n).map fun k => .int (lo + (k : Nat))
noncomputable def iRng1 (a : CE) : CI := fun l => bnd (a l) fun x => match x with
 | .int j => chk (-(2 ^ 62) ≤ j ∧ j < 2 ^ 62) (ret ⟨rngD 0 j.toNat, anySt⟩)
 | _ => bad
noncomputable def iRng2 (a b : CE) : CI := fun l => bnd (a l) fun x => bnd (b l) fun y => match x, y with
 | .int i, .int j => chk ((-(2 ^ 62) ≤ i ∧ i < 2 ^ 62) ∧ (-(2 ^ 62) ≤ j ∧ j < 2 ^ 62)) (ret ⟨rngD i (j - i).toNat, anySt⟩)
 | _, _ => bad
noncomputable def iTmp (a : CA) : CI := fun l => bnd (a l) fun ds => ret ⟨ds, anySt⟩
noncomputable def iEnum (a : CE) : CI := fun l => bnd (a l) fun x => match x with
 | .tup ds => ret ⟨(rngD 0 ds.length).zipWith (fun i d => .tup [i, d]) ds, anySt⟩
 | _ => bad
noncomputable abbrev CG := D → Loc → M Loc
noncomputable def gVar (i : Nat) : CG := fun d l => ret (l.set i (some d))
noncomputable def gsNil : List D → Loc → M Loc
 | [], l => ret l
 | _, _ => bad
noncomputable def gsCons (g : CG) (r : List D → Loc → M Loc) : List D → Loc → M Loc
 | d :: ds, l => bnd (g d l) fun l' => r ds l'
 | _, _ => bad
noncomputable def gTupD (n : Nat) (r : List D → Loc → M Loc) : CG := fun d l => match d with
 | .tup ds => chk (ds.length = n) (r ds l)
 | _ => bad
noncomputable def capt (n : Nat) (caps : List Nat) (l : Loc) : Loc := List.replicate n none ++ caps.map fun i => (l[i]?).join
noncomputable def  collect (g : CG) (t : CT) (e : CE) (same : Sto → Prop) : List D → Loc → M (List D)
 | [], _ => bnd (chkS same) fun _ => ret []
 | d :: ds, l => bnd (chkS same) fun _ => bnd (g d l) fun l' => bnd (t l') fun b => if b = true then bnd (e l') fun x => bnd (collect g t e same ds l') fun xs => ret (x :: xs) else collect g t e same ds l'
noncomputable def  aComp (n : Nat) (caps : List Nat) (i : CI) (g : CG) (t : CT) (e : CE) : CA := fun l => bnd (i l) fun w => chk (w.ds.length ≤ lim) (collect g t e w.same w.ds (capt n caps l))
noncomputable def sIx (n d : Nat) : Option Int → Nat
 | none => d
 | some v => if v < 0 then (v + (n : Int)).toNat else min v.toNat n
noncomputable def cutD (xs : List D) (lo hi : Option Int) : List D := (xs.drop (sIx xs.length 0 lo)).take (sIx xs.length xs.length hi - sIx xs.length 0 lo)
noncomputable abbrev CO := Loc → M (Option Int)
noncomputable def oNone : CO := fun _ => ret none
noncomputable def oSome (a : CE) : CO := fun l => bnd (a l) fun x => match x with
 | .int i => ret (some i)
 | _ => bad
noncomputable def aSlice (a : CE) (lo hi : CO) : CA := fun l => bnd (a l) fun x => bnd (lo l) fun i => bnd (hi l) fun j => match x with
 | .lit ds => ret (cutD ds i j)
 | .ref n => bnd (getL n) fun ds => ret (cutD ds i j)
 | _ => bad
noncomputable def cSliceT (a : CE) (lo hi : CO) : CE := fun l => bnd (a l) fun x => bnd (lo l) fun i => bnd (hi l) fun j => match x with
 | .tup ds => chk (¬(sIx ds.length 0 i = 0 ∧ sIx ds.length ds.length j = ds.length)) (ret (.tup (cutD ds i j)))
 | _ => bad
noncomputable def tTrue : CT := fun _ => ret true
noncomputable def cKeep (a : CA) : CE := fun l => bnd (a l) fun ds => alloc (.lst ds)
noncomputable def aDisp (a : CA) : CA := fun l => bnd (a l) fun xs => chk (xs.length ≤ lim) (ret xs)
noncomputable def cTmpSub (a : CA) (b : CE) : CE := fun l => bnd (a l) fun ds => bnd (b l) fun i => match i with
 | .int k => itemD ds k
 | _ => bad
noncomputable def cTmp (g : List D → M D) (a : CA) : CE := fun l => bnd (a l) g
noncomputable def sNext : CS := fun l => ret (.next l)
noncomputable def sSeq (a b : CS) : CS := fun l => bnd (a l) fun f => match f with
 | .next l' => b l'
 | f => ret f
noncomputable def sAsg (g : CG) (a : CE) : CS := fun l => bnd (a l) fun d => bnd (g d l) fun l' => ret (.next l')
noncomputable def sRet (a : CE) : CS := fun l => bnd (a l) fun d => ret (.ret d)
noncomputable def sExp (a : CE) : CS := fun l => bnd (a l) fun _ => ret (.next l)
noncomputable def sIf (t : CT) (a b : CS) : CS := fun l => bnd (t l) fun c => if c = true then a l else b l
noncomputable def  forD (g : CG) (b : CS) (same : Sto → Prop) : List D → CS
 | [], l => bnd (chkS same) fun _ => ret (.next l)
 | d :: ds, l => bnd (chkS same) fun _ => bnd (g d l) fun l' => bnd (b l') fun f => match f with
  | .next l2 => forD g b same ds l2
  | .cnt l2 => forD g b same ds l2
  | .brk l2 => ret (.next l2)
  | .ret d => ret (.ret d)
noncomputable def  sFor (i : CI) (g : CG) (b : CS) : CS := fun l => bnd (i l) fun w => forD g b w.same w.ds l
noncomputable def flwD : Flw → M D
 | .ret d => ret d
 | .next _ => ret .non
 | _ => bad
noncomputable def runDef (n : Nat) (body : CS) (ds : List D) : M D := bnd (body (ds.map some ++ List.replicate (n - ds.length) none)) flwD
noncomputable def setItemD (o i v : D) : M Unit := match o, i with
 | .ref n, .int k => bnd (getL n) fun ds => match ixN ds.length k with
  | some j => putL n (ds.set j v)
  | none => bad
 | .dic n, k => storeK n k v
 | _, _ => bad
noncomputable def gSubD (o i : CE) : CG := fun v l => bnd (o l) fun y => bnd (i l) fun z => bnd (setItemD y z v) fun _ => ret l
noncomputable def lenD : D → M D
 | .tup ds => ret (.int ds.length)
 | .lit ds => ret (.int ds.length)
 | .ref n => bnd (getL n) fun ds => ret (.int ds.length)
 | .str x => chk (x.length ≤ lim) (ret (.int x.length))
 | .dic n => bnd (getDc n) fun p => ret (.int p.2.length)
 | _ => bad
noncomputable def appendL (n : Nat) (v : D) : M D := bnd (getL n) fun ds => chk (ds.length < lim) (bnd (putL n (ds ++ [v])) fun _ => ret .non)
noncomputable def cAppend (a b : CE) : CE := fun l => bnd (a l) fun x => match x with
 | .ref n => bnd (b l) fun v => appendL n v
 | _ => bad
noncomputable def cClear (a : CE) : CE := fun l => bnd (a l) fun x => match x with
 | .ref n => bnd (putL n []) fun _ => ret .non
 | _ => bad
noncomputable def intD : D → M D
 | .int i => ret (.int i)
 | .bl b => ret (.int (if b then 1 else 0))
 | _ => bad
noncomputable def tupleD : D → M D
 | .tup ds => ret (.tup ds)
 | .lit ds => ret (.tup ds)
 | .ref n => bnd (getL n) fun ds => ret (.tup ds)
 | _ => bad
noncomputable def isTy : D → Option (List String)
 | .non => some ["NoneType"]
 | .bl _ => some ["bool", "int"]
 | .int _ => some ["int"]
 | .str _ => some ["str"]
 | .tup _ => some ["tuple"]
 | .lit _ => some ["list"]
 | .ref _ => some ["list"]
 | .dic _ => none
 | .exn _ _ => none
noncomputable def numsL : List D → Option (List Int)
 | [] => some []
 | .int i :: ds => (numsL ds).map (i :: ·)
 | _ => none
noncomputable def boolsL : List D → Option (List Bool)
 | [] => some []
 | .bl b :: ds => (boolsL ds).map (b :: ·)
 | _ => none
noncomputable def maxD (ds : List D) : M D := match numsL ds with
 | some (n :: ns) => ret (.int (ns.foldl max n))
 | _ => bad
noncomputable def allD (ds : List D) : M D := match boolsL ds with
 | some bs => ret (.bl (bs.all id))
 | _ => bad
noncomputable def tupL (ds : List D) : M D := ret (.tup ds)
noncomputable def lenL (ds : List D) : M D := ret (.int ds.length)
noncomputable def isInst (ts : List String) (d : D) : M D := match isTy d with
 | some us => ret (.bl (ts.any fun t => us.contains t))
 | none => bad
noncomputable def isD : D → D → M D
 | .bl a, .bl b => ret (.bl (a == b))
 | x, .non => isND x
 | _, _ => bad
noncomputable def isntD : D → D → M D
 | .bl a, .bl b => ret (.bl !(a == b))
 | x, .non => notND x
 | _, _ => bad
noncomputable def flatD : D → Bool
 | .non => true
 | .bl _ => true
 | .int _ => true
 | .str _ => true
 | _ => false
noncomputable def eqFl : D → D → Bool
 | .non, .non => true
 | .bl a, .bl b => a == b
 | .bl a, .int b => (if a then 1 else 0) == b
 | .int a, .bl b => a == (if b then 1 else 0)
 | .int a, .int b => a == b
 | .str a, .str b => a == b
 | _, _ => false
noncomputable def inL (x : D) (ds : List D) : M D := chk (flatD x = true ∧ ds.all flatD = true) (ret (.bl (ds.any fun d => eqFl d x)))
noncomputable def ninL (x : D) (ds : List D) : M D := chk (flatD x = true ∧ ds.all flatD = true) (ret (.bl !(ds.any fun d => eqFl d x)))
noncomputable def inD (x y : D) : M D := match y with
 | .dic n => bnd (hasK n x) fun b => ret (.bl b)
 | y => bnd (seqOf y) (inL x)
noncomputable def ninD (x y : D) : M D := match y with
 | .dic n => bnd (hasK n x) fun b => ret (.bl !b)
 | y => bnd (seqOf y) (ninL x)
noncomputable def allocK (b : Bool) (kvs : List (D × D)) : M D := fun s => .ok (.dic s.length) (s ++ [.dct b kvs])
noncomputable def cDNew (b : Bool) : CE := fun _ => allocK b []
noncomputable def cDisp (ks : List D) (vs : CA) : CE := fun l => bnd (vs l) fun xs => chk (ks.length = xs.length) (allocK false (mgK [] (ks.zip xs)))
noncomputable def aTimes (a : CA) (b : CE) : CA := fun l => bnd (a l) fun xs => bnd (b l) fun k => match k with
 | .int k => chk ((-(2 ^ 63) ≤ k ∧ k < 2 ^ 63) ∧ xs.length * k.toNat ≤ lim) (ret (List.replicate k.toNat xs).flatten)
 | _ => bad
noncomputable def aRev (a : CA) : CA := fun l => bnd (a l) fun ds => ret ds.reverse
noncomputable def cInTmp (g : D → List D → M D) (a : CE) (b : CA) : CE := fun l => bnd (a l) fun x => bnd (b l) fun ds => g x ds
noncomputable def min2D : D → D → M D
 | .int i, .int j => ret (.int (min i j))
 | _, _ => bad
noncomputable def max2D : D → D → M D
 | .int i, .int j => ret (.int (max i j))
 | _, _ => bad
noncomputable def listD (d : D) : M D := bnd (seqOf d) fun ds => alloc (.lst ds)
noncomputable def cPop (a : CE) : CE := fun l => bnd (a l) fun x => match x with
 | .ref n => bnd (getL n) fun ds => match ds.getLast? with
  | some d => bnd (putL n ds.dropLast) fun _ => ret d
  | none => bad
 | _ => bad
noncomputable def cReverse (a : CE) : CE := fun l => bnd (a l) fun x => match x with
 | .ref n => bnd (getL n) fun ds => bnd (putL n ds.reverse) fun _ => ret .non
 | _ => bad
noncomputable def aBack (a : CE) : CA := fun l => bnd (a l) fun x => match x with
 | .ref n => getL n |> fun m => bnd m fun ds => ret ds.reverse
 | _ => bad
noncomputable def whileN (t : CT) (b : CS) : Nat → CS
 | 0 => fun _ => bad
 | n + 1 => fun l => bnd (t l) fun c => if c = true then bnd (b l) fun f => match f with
   | .next l2 => whileN t b n l2
   | .cnt l2 => whileN t b n l2
   | .brk l2 => ret (.next l2)
   | .ret d => ret (.ret d) else ret (.next l)
open Classical in
noncomputable def  sWhile (t : CT) (b : CS) : CS := fun l s => if h : ∃ n, (∀ r, whileN t b n l s = r → r ≠ .bad) then whileN t b (choose h) l s else .bad
end MM
namespace MM
open PySem PySem.Spec PyProof.Rows L2
noncomputable abbrev St := L2.St
def FzL (K : PySem.W.Frag) (H : Hp) (a : Addr) (xs : List V) : Prop :=
 (∃ o, H a = some (.frz o (.lst xs))) ∨
  ∃ (o : Obj) (its : Array Value) (n : Nat), K.lookup a = some o ∧ o.cls = .type "list" ∧ o.dict = none ∧ o.data = .seq its n ∧ its.size ≤ sizeLine ∧ Vals xs its.toList
theorem FzL.seq {K : PySem.W.Frag} {H : Hp} {a : Addr} {xs : List V} (h : FzL K H a xs) : SqL K H a xs := by
 rcases h with ⟨o, h⟩ | h
 ·exact .inl (.inr ⟨o, h⟩)
 ·exact .inr h
noncomputable def kO : HO → Nat
 | .lst _ => 0
 | .dK _ => 1
 | .ext _ => 2
 | _ => 3
noncomputable abbrev NK := List (List Int)
noncomputable def nH (k : NK) : Int := reduceHash (Builtin.Tuple.tupleHashOf (k.map fun r => reduceHash (Builtin.Tuple.tupleHashOf (r.map hashInt))))
noncomputable def nEnt (x : NK × Addr × Value) : DictEntry := ⟨nH x.1, .ref x.2.1, x.2.2⟩
def NOk (a : Addr) (es : List (NK × Addr × V)) (h : Heap) : Prop := es.length ≤ sizeLine ∧ (a == sysModules) = false ∧ ∃ xs : List (NK × Addr × Value), Paired (fun (p : NK × Addr × V) (q : NK × Addr × Value) => p.1 = q.1 ∧ p.2.1 = q.2.1 ∧ RelV p.2.2 q.2.2) es xs ∧
 ∃ o es' ep, h.get? a = some o ∧ o.ExactDict ∧ o.data = .dict es' ep ∧ es'.toList = xs.map nEnt ∧ (xs.map (·.1)).Nodup ∧ ep = xs.length
noncomputable def nstO (a : Addr) (es : List (NK × Addr × V)) : HO := .ext (NOk a es)
noncomputable def rowD (r : List Int) : D := .tup (r.map .int)
noncomputable def stD (k : NK) : D := .tup (k.map rowD)
noncomputable def keyD : Key → D
 | .inl i => .int i
 | .inr x => .str x
mutual
inductive Rep (K : PySem.W.Frag) (ρ : List Addr) (H : Hp) : V → D → Prop
 | non : Rep K ρ H .non .non
 | bl (b : Bool) : Rep K ρ H (.bl b) (.bl b)
 | int (i : Int) : Rep K ρ H (.int i) (.int i)
 | str (x : Str) : Rep K ρ H (.str x) (.str x)
 | tup {a : Addr} {vs : List V} {ds : List D} (h : SqT K H a vs) (r : Reps K ρ H vs ds) : Rep K ρ H (.ref a) (.tup ds)
 | lit {a : Addr} {vs : List V} {ds : List D} (h : FzL K H a vs) (r : Reps K ρ H vs ds) : Rep K ρ H (.ref a) (.lit ds)
 | ref {a : Addr} {n : Nat} (k : ∃ o, H a = some o ∧ kO o = 0) (h : ρ[n]? = some a) : Rep K ρ H (.ref a) (.ref n)
 | dic {a : Addr} {n : Nat} (k : ∃ o, H a = some o ∧ (kO o = 1 ∨ kO o = 2)) (h : ρ[n]? = some a) : Rep K ρ H (.ref a) (.dic n)
 | exn0 {a C : Addr} {x : Str} (g : PySem.W.nsIn K mainGlobals x = some (some (.ref C))) (h : ∃ o, H a = some (.frz o (.own a)) ∧ o.cls = .ref C) : Rep K ρ H (.ref a) (.exn x [])
 | exn {a C dx : Addr} {x f : Str} {v : V} {d : D} (g : PySem.W.nsIn K mainGlobals x = some (some (.ref C))) (h : ∃ o, H a = some (.frz o (.own a)) ∧ o.cls = .ref C ∧ o.dict = some dx ∧ ∃ vs, o.data = .fields vs) (h2 : H dx = some (.xd [(f, v)])) (r : Rep K ρ H v d) : Rep K ρ H (.ref a) (.exn x [.str f, d])
inductive Reps (K : PySem.W.Frag) (ρ : List Addr) (H : Hp) : List V → List D → Prop
 | nil : Reps K ρ H [] []
 | cons {v : V} {d : D} {vs : List V} {ds : List D} (r : Rep K ρ H v d) (t : Reps K ρ H vs ds) : Reps K ρ H (v :: vs) (d :: ds)
end
noncomputable def ObR (K : PySem.W.Frag) (ρ : List Addr) (H : Hp) (a : Addr) : MO → Prop
 | .lst ds => ∃ vs, H a = some (.lst vs) ∧ Reps K ρ H vs ds
 | .dct false kvs => ∃ es, H a = some (.dK es) ∧ Paired (fun (p : Key × V) (q : D × D) => keyD p.1 = q.1 ∧ Rep K ρ H p.2 q.2) es kvs
 | .dct true kvs => ∃ es, H a = some (nstO a es) ∧ Paired (fun (p : NK × Addr × V) (q : D × D) => stD p.1 = q.1 ∧ Rep K ρ H (.ref p.2.1) q.1 ∧ Rep K ρ H p.2.2 q.2) es kvs
structure SR (K : PySem.W.Frag) (ρ : List Addr) (H : Hp) (st : Sto) : Prop where
 len : ρ.length = st.length
 nd : ρ.Nodup
 ob : ∀ (n : Nat) (a : Addr) (o : MO), ρ[n]? = some a → st[n]? = some o → ObR K ρ H a o
def LR (K : PySem.W.Frag) (ρ : List Addr) (H : Hp) (σ : St) (l : Loc) : Prop :=
 σ.length = l.length ∧ ∀ (i : Nat) (d : D), l[i]? = some (some d) → ∃ v, σ[i]? = some (some v) ∧ Rep K ρ H v d
structure Ex (ρ : List Addr) (H : Hp) (ρ' : List Addr) (H' : Hp) : Prop where
 pre : ∃ τ, ρ' = ρ ++ τ ∧ ∀ a ∈ τ, H a = none
 fix : ∀ a o, kO o = 3 → H a = some o → H' a = some o
 oth : ∀ a o, a ∉ ρ → H a = some o → H' a = some o
 knd : ∀ a o, H a = some o → ∃ o', H' a = some o' ∧ kO o' = kO o
structure Up (ρ : List Addr) (H : Hp) (ρ' : List Addr) (H' : Hp) : Prop where
 pre : ∃ τ, ρ' = ρ ++ τ
 fix : ∀ a o, kO o = 3 → H a = some o → H' a = some o
 knd : ∀ a o, H a = some o → ∃ o', H' a = some o' ∧ kO o' = kO o
section
variable {K : PySem.W.Frag} {ρ ρ1 ρ2 : List Addr} {H H1 H2 : Hp} {st st1 : Sto} {v : V} {d : D} {vs : List V} {ds : List D} {a : Addr}
theorem Ex.lst (x : Ex ρ H ρ1 H1) (a : Addr) (xs : List V) (na : a ∉ ρ) (h : H a = some (.lst xs)) : H1 a = some (.lst xs) := x.oth a _ na h
theorem Ex.trk (x : Ex ρ H ρ1 H1) (a : Addr) (o : HO) (h : H a = some o) : H1 a ≠ none := by
 obtain ⟨o', e, _⟩ := x.knd a o h
 rw [e]; exact fun z => nomatch z
theorem Ex.up (x : Ex ρ H ρ1 H1) : Up ρ H ρ1 H1 := ⟨let ⟨τ, e, _⟩ := x.pre; ⟨τ, e⟩, x.fix, x.knd⟩
theorem Up.grow {τ : List Addr} : Up ρ H (ρ ++ τ) H := ⟨⟨τ, rfl⟩, fun _ _ _ e => e, fun _ o e => ⟨o, e, rfl⟩⟩
theorem Ex.refl : Ex ρ H ρ H := ⟨⟨[], by simp, by simp⟩, fun _ _ _ e => e, fun _ _ _ e => e, fun _ o e => ⟨o, e, rfl⟩⟩
theorem Ex.trans (x : Ex ρ H ρ1 H1) (y : Ex ρ1 H1 ρ2 H2) : Ex ρ H ρ2 H2 := by
 obtain ⟨τ1, rfl, f1⟩ := x.pre
 obtain ⟨τ2, rfl, f2⟩ := y.pre
 refine ⟨⟨τ1 ++ τ2, by simp, fun a ha => ?_⟩, fun a o no e => y.fix a o no (x.fix a o no e), fun a o na e => ?_, fun a o e => ?_⟩
 ·rcases List.mem_append.mp ha with ha | ha
  ·exact f1 a ha
  ·cases q : H a with
   | none => rfl
   | some o => exact absurd (f2 a ha) (x.trk a o q)
 ·refine y.oth a o (fun z => ?_) (x.oth a o na e)
  rcases List.mem_append.mp z with z | z
  ·exact na z
  ·rw [f1 a z] at e; cases e
 ·obtain ⟨o1, e1, k1⟩ := x.knd a o e
  obtain ⟨o2, e2, k2⟩ := y.knd a o1 e1
  exact ⟨o2, e2, k2.trans k1⟩
theorem Ex.new {o : HO} (h : H a = none) : Ex ρ H ρ (upd H a o) :=
 ⟨⟨[], by simp, by simp⟩, fun b u _ e => by rw [Qaj (Qal e h)]; exact e, fun b u _ e => by rw [Qaj (Qal e h)]; exact e,
  fun b u e => ⟨u, by rw [Qaj (Qal e h)]; exact e, rfl⟩⟩
theorem Ex.newO {o : HO} (h : H a = none) : Ex ρ H (ρ ++ [a]) (upd H a o) :=
 ⟨⟨[a], rfl, fun b hb => by rw [List.mem_singleton] at hb; rw [hb]; exact h⟩, (Ex.new (ρ := ρ) h).fix, (Ex.new (ρ := ρ) h).oth, (Ex.new (ρ := ρ) h).knd⟩
theorem Ex.newL {vs : List V} (h : H a = none) : Ex ρ H (ρ ++ [a]) (upd H a (.lst vs)) := Ex.newO h
theorem SqT.mono (x : Up ρ H ρ1 H1) (h : SqT K H a vs) : SqT K H1 a vs := by
 rcases h with h | h
 ·rcases h with h | ⟨o, h⟩
  ·exact .inl (.inl (x.fix a _ rfl h))
  ·exact .inl (.inr ⟨o, x.fix a _ rfl h⟩)
 ·exact .inr h
theorem FzL.mono (x : Up ρ H ρ1 H1) (h : FzL K H a vs) : FzL K H1 a vs := by
 rcases h with ⟨o, h⟩ | h
 ·exact .inl ⟨o, x.fix a _ rfl h⟩
 ·exact .inr h
theorem Qdi {α : Type} {l τ : List α} {n : Nat} {a : α} (h : l[n]? = some a) : (l ++ τ)[n]? = some a := by
 rw [List.getElem?_append_left (List.getElem?_eq_some_iff.mp h).1]; exact h
mutual
theorem Rep.up (x : Up ρ H ρ1 H1) : ∀ {v : V} {d : D}, Rep K ρ H v d → Rep K ρ1 H1 v d
 | _, _, .non => .non
 | _, _, .bl b => .bl b
 | _, _, .int i => .int i
 | _, _, .str y => .str y
 | _, _, .tup h r => .tup (SqT.mono x h) (Reps.up x r)
 | _, _, .lit h r => .lit (FzL.mono x h) (Reps.up x r)
 | _, _, .ref ⟨o, ho, hk⟩ h => by
  obtain ⟨τ, e⟩ := x.pre
  obtain ⟨o', ho', hk'⟩ := x.knd _ o ho
  exact .ref ⟨o', ho', hk'.trans hk⟩ (by rw [e]; exact Qdi h)
 | _, _, .dic ⟨o, ho, hk⟩ h => by
  obtain ⟨τ, e⟩ := x.pre
  obtain ⟨o', ho', hk'⟩ := x.knd _ o ho
  exact .dic ⟨o', ho', by rw [hk']; exact hk⟩ (by rw [e]; exact Qdi h)
 | _, _, .exn0 g ⟨o, ho, hc⟩ => .exn0 g ⟨o, x.fix _ _ rfl ho, hc⟩
 | _, _, .exn g ⟨o, ho, hc⟩ h2 r => .exn g ⟨o, x.fix _ _ rfl ho, hc⟩ (x.fix _ _ rfl h2) (Rep.up x r)
theorem Reps.up (x : Up ρ H ρ1 H1) : ∀ {vs : List V} {ds : List D}, Reps K ρ H vs ds → Reps K ρ1 H1 vs ds
 | _, _, .nil => .nil
 | _, _, .cons r t => .cons (Rep.up x r) (Reps.up x t)
end
theorem Rep.mono (r : Rep K ρ H v d) (x : Ex ρ H ρ1 H1) : Rep K ρ1 H1 v d := r.up x.up
theorem Reps.mono (r : Reps K ρ H vs ds) (x : Ex ρ H ρ1 H1) : Reps K ρ1 H1 vs ds := r.up x.up
theorem Reps.length : ∀ {vs : List V} {ds : List D}, Reps K ρ H vs ds → vs.length = ds.length
 | _, _, .nil => rfl
 | _, _, .cons _ t => by simp [Reps.length t]
theorem Reps.get : ∀ {vs : List V} {ds : List D} {i : Nat} {d : D}, Reps K ρ H vs ds → ds[i]? = some d → ∃ v, vs[i]? = some v ∧ Rep K ρ H v d
 | _, _, _, _, .nil, e => by simp at e
 | _, _, 0, _, .cons r _, e => by simp at e; subst e; exact ⟨_, rfl, r⟩
 | _, _, i + 1, _, .cons _ t, e => by
  obtain ⟨v, h1, h2⟩ := Reps.get (i := i) t (by simpa using e)
  exact ⟨v, by simpa using h1, h2⟩
theorem Reps.app : ∀ {vs ws : List V} {ds es : List D}, Reps K ρ H vs ds → Reps K ρ H ws es → Reps K ρ H (vs ++ ws) (ds ++ es)
 | _, _, _, _, .nil, s => s
 | _, _, _, _, .cons r t, s => .cons r (Reps.app t s)
theorem Reps.set : ∀ {vs : List V} {ds : List D} {v : V} {d : D} (i : Nat), Reps K ρ H vs ds → Rep K ρ H v d → Reps K ρ H (vs.set i v) (ds.set i d)
 | _, _, _, _, _, .nil, _ => .nil
 | _, _, _, _, 0, .cons _ t, r => .cons r t
 | _, _, _, _, i + 1, .cons q t, r => .cons q (Reps.set i t r)
theorem Reps.take : ∀ {vs : List V} {ds : List D} (n : Nat), Reps K ρ H vs ds → Reps K ρ H (vs.take n) (ds.take n)
 | _, _, 0, _ => .nil
 | _, _, _ + 1, .nil => .nil
 | _, _, n + 1, .cons r t => .cons r (Reps.take n t)
theorem Reps.drop : ∀ {vs : List V} {ds : List D} (n : Nat), Reps K ρ H vs ds → Reps K ρ H (vs.drop n) (ds.drop n)
 | _, _, 0, r => r
 | _, _, _ + 1, .nil => .nil
 | _, _, n + 1, .cons _ t => Reps.drop n t
theorem LR.mono {σ : St} {l : Loc} (x : Ex ρ H ρ1 H1) (h : LR K ρ H σ l) : LR K ρ1 H1 σ l :=
 ⟨h.1, fun i d e => let ⟨v, e1, r⟩ := h.2 i d e; ⟨v, e1, r.mono x⟩⟩
theorem SR.at (s : SR K ρ H st) {n : Nat} {o : MO} (e : st[n]? = some o) : ∃ a, ρ[n]? = some a ∧ ObR K ρ H a o := by
 have hl : n < ρ.length := by rw [s.len]; exact (List.getElem?_eq_some_iff.mp e).1
 have q : ρ[n]? = some ρ[n] := List.getElem?_eq_getElem hl
 exact ⟨_, q, s.ob n _ o q e⟩
theorem SR.seq (s : SR K ρ H st) {n : Nat} (e : st[n]? = some (.lst ds)) : ∃ a vs, ρ[n]? = some a ∧ H a = some (.lst vs) ∧ Reps K ρ H vs ds := by
 obtain ⟨a, h, vs, q, r⟩ := s.at e
 exact ⟨a, vs, h, q, r⟩
theorem ObR.ex {o : MO} (h : ObR K ρ H a o) : ∃ u, H a = some u := by
 cases o with
 | lst ds => obtain ⟨vs, q, _⟩ := h; exact ⟨_, q⟩
 | dct b kvs => cases b <;> (obtain ⟨vs, q, _⟩ := h; exact ⟨_, q⟩)
theorem SR.fresh (s : SR K ρ H st) (h : H a = none) : a ∉ ρ := fun z => by
 obtain ⟨n, hn⟩ := List.getElem?_of_mem z
 have hl : n < st.length := by rw [← s.len]; exact (List.getElem?_eq_some_iff.mp hn).1
 obtain ⟨u, q⟩ := ObR.ex (s.ob n a _ hn (List.getElem?_eq_getElem hl))
 rw [h] at q; cases q
theorem Qdj {n : Nat} {xs : List D} {s' : Sto} (h : getL n st = .ok xs s') : s' = st ∧ st[n]? = some (.lst xs) := by
 unfold getL at h
 cases e : st[n]? with
 | none => rw [e] at h; cases h
 | some o =>
  rw [e] at h
  cases o with
  | lst ds => cases h; exact ⟨rfl, rfl⟩
  | dct _ _ => cases h
theorem Paired.mapS {α β : Type} {F G : α → β → Prop} : ∀ {l₁ : List α} {l₂ : List β}, Paired F l₁ l₂ → (∀ a b, F a b → G a b) → Paired G l₁ l₂
 | _, _, .nil, _ => .nil
 | _, _, .cons r t, f => .cons (f _ _ r) (Paired.mapS t f)
theorem ObR.mono {o : MO} (x : Up ρ H ρ1 H1) (h : ObR K ρ H a o) (hk : ∀ u, H a = some u → H1 a = some u) : ObR K ρ1 H1 a o := by
 cases o with
 | lst ds =>
  obtain ⟨vs, q, r⟩ := h
  exact ⟨vs, hk _ q, r.up x⟩
 | dct b kvs =>
  cases b with
  | false =>
   obtain ⟨es, q, r⟩ := h
   exact ⟨es, hk _ q, Paired.mapS r fun p q z => ⟨z.1, z.2.up x⟩⟩
  | true =>
   obtain ⟨es, q, r⟩ := h
   exact ⟨es, hk _ q, Paired.mapS r fun p q z => ⟨z.1, z.2.1.up x, z.2.2.up x⟩⟩
theorem SR.new {o : HO} (s : SR K ρ H st) (h : H a = none) : SR K ρ (upd H a o) st :=
 ⟨s.len, s.nd, fun n b ob e1 e2 => ObR.mono (o := ob) (Ex.new (ρ := ρ) h).up (s.ob n b ob e1 e2) fun vs q => by rw [Qaj (Qal q h)]; exact q⟩
theorem SR.keepO {o' : MO} (s : SR K ρ H st) (na : a ∉ ρ) (r : ObR K ρ H a o') : SR K (ρ ++ [a]) H (st ++ [o']) := by
 have hl := s.len
 have old : ∀ (n : Nat) (b : Addr), (ρ ++ [a])[n]? = some b → (n < ρ.length ∧ ρ[n]? = some b) ∨ (n = ρ.length ∧ b = a) := fun n b e => by
  by_cases hn : n < ρ.length
  ·rw [List.getElem?_append_left hn] at e; exact .inl ⟨hn, e⟩
  ·rw [List.getElem?_append_right (by ac_nf)] at e
   have hz : n - ρ.length = 0 := by
    cases q : n - ρ.length with
    | zero => rfl
    | succ k => rw [q] at e; simp at e
   rw [hz] at e
   simp at e
   exact .inr ⟨by ac_nf, e.symm⟩
 refine ⟨by simp [hl], List.nodup_append.mpr ⟨s.nd, by simp, fun x hx y hy => ?_⟩, fun n b o e1 e2 => ?_⟩
 ·rw [List.mem_singleton] at hy
  subst hy
  exact fun z => na (z ▸ hx)
 ·rcases old n b e1 with ⟨hn, f1⟩ | ⟨hn, f1⟩
  ·rw [List.getElem?_append_left (by ac_nf)] at e2
   exact ObR.mono (o := o) Up.grow (s.ob n b o f1 e2) fun _ q => q
  ·subst f1
   have : o = o' := by
    rw [hn, hl, List.getElem?_append_right (Nat.le_refl _)] at e2
    simp at e2; exact e2.symm
   subst this
   exact ObR.mono (o := o) Up.grow r fun _ q => q
theorem SR.keep (s : SR K ρ H st) (h : H a = some (.lst vs)) (na : a ∉ ρ) (r : Reps K ρ H vs ds) : SR K (ρ ++ [a]) H (st ++ [.lst ds]) := s.keepO na ⟨vs, h, r⟩
theorem SR.putO (s : SR K ρ H st) {n : Nat} {o' : MO} {u u' : HO} (hl : n < st.length) (ha : ρ[n]? = some a) (hu : H a = some u) (k3 : kO u ≠ 3) (hk : kO u' = kO u) (r : ObR K ρ (upd H a u') a o') :
  SR K ρ (upd H a u') (st.set n o') ∧ Ex ρ H ρ (upd H a u') := by
 have x : Ex ρ H ρ (upd H a u') := by
  refine ⟨⟨[], by simp, by simp⟩, fun b o no q => ?_, fun b xs nb q => ?_, fun b o q => ?_⟩
  ·have : b ≠ a := fun z => by subst z; rw [hu] at q; cases q; exact k3 no
   rw [Qaj this]; exact q
  ·have : b ≠ a := fun z => by subst z; exact nb (List.mem_of_getElem? ha)
   rw [Qaj this]; exact q
  ·by_cases z : b = a
   ·subst z; rw [hu] at q; cases q; exact ⟨u', Qai, hk⟩
   ·exact ⟨o, by rw [Qaj z]; exact q, rfl⟩
 refine ⟨⟨by simp [s.len], s.nd, fun m b o e1 e2 => ?_⟩, x⟩
 by_cases z : m = n
 ·subst z
  rw [ha] at e1; cases e1
  rw [List.getElem?_set_self hl] at e2; cases e2
  exact r
 ·rw [List.getElem?_set_ne (Ne.symm z)] at e2
  refine ObR.mono (o := o) x.up (s.ob m b o e1 e2) fun us q => ?_
  have : b ≠ a := fun w => by
   subst w
   exact z ((List.getElem?_inj (List.getElem?_eq_some_iff.mp e1).1 s.nd).mp (e1.trans ha.symm))
  rw [Qaj this]; exact q
theorem SR.put (s : SR K ρ H st) {n : Nat} {ws : List V} (hl : n < st.length) (ha : ρ[n]? = some a) (hw : H a = some (.lst ws)) (r : Reps K ρ H vs ds) :
  SR K ρ (upd H a (.lst vs)) (st.set n (.lst ds)) ∧ Ex ρ H ρ (upd H a (.lst vs)) := by
 have u : Up ρ H ρ (upd H a (.lst vs)) := by
  refine ⟨⟨[], by simp⟩, fun b o no q => ?_, fun b o q => ?_⟩
  ·have : b ≠ a := fun z => by subst z; rw [hw] at q; cases q; exact nomatch no
   rw [Qaj this]; exact q
  ·by_cases z : b = a
   ·subst z; rw [hw] at q; cases q; exact ⟨_, Qai, rfl⟩
   ·exact ⟨o, by rw [Qaj z]; exact q, rfl⟩
 exact s.putO hl ha hw (by show (0 : Nat) ≠ 3; decide) rfl ⟨vs, Qai, r.up u⟩
theorem Qdk (k : ∃ o, H a = some o ∧ kO o = 0) : ∃ vs, H a = some (.lst vs) := by
 obtain ⟨o, e, hk⟩ := k
 cases o with
 | lst vs => exact ⟨vs, e⟩
 | _ => exact nomatch hk
def Post {α : Type} (K : PySem.W.Frag) (ρ : List Addr) (H : Hp) (r : Rs α) (R : α → Sto → List Addr → Hp → Prop) : Prop := match r with
 | .ok a st => ∀ ρ' H', Ex ρ H ρ' H' → SR K ρ' H' st → R a st ρ' H'
 | _ => False
theorem Post.left {α : Type} {r : Rs α} {R : α → Sto → List Addr → Hp → Prop} (x : Ex ρ H ρ1 H1) (h : Post K ρ H r R) : Post K ρ1 H1 r R := by
 cases r with
 | ok a st => exact fun ρ' H' y s => h ρ' H' (x.trans y) s
 | exc _ _ => exact h
 | bad => exact h
theorem Post.imp {α : Type} {r : Rs α} {R R' : α → Sto → List Addr → Hp → Prop} (h : Post K ρ H r R) (f : ∀ a st ρ' H', Ex ρ H ρ' H' → SR K ρ' H' st → R a st ρ' H' → R' a st ρ' H') : Post K ρ H r R' := by
 cases r with
 | ok a st => exact fun ρ' H' y s => f a st ρ' H' y s (h ρ' H' y s)
 | exc _ _ => exact h
 | bad => exact h
theorem Post.bnd {α β : Type} {m : M α} {f : α → M β} {R : β → Sto → List Addr → Hp → Prop} (h : Post K ρ H (bnd m f st) R) : Post K ρ H (m st) fun a st' ρ' H' => Post K ρ' H' (f a st') R := by
 unfold MM.bnd at h
 cases e : m st with
 | ok a s' =>
  rw [e] at h
  exact fun ρ' H' y s => h.left y
 | exc _ _ => rw [e] at h; exact h
 | bad => rw [e] at h; exact h
theorem Post.ret {α : Type} {a : α} {R : α → Sto → List Addr → Hp → Prop} (h : Post K ρ H (MM.ret a st) R) (s : SR K ρ H st) : R a st ρ H := h ρ H Ex.refl s
theorem Post.chk {α : Type} {c : Prop} [Decidable c] {m : M α} {R : α → Sto → List Addr → Hp → Prop} (h : Post K ρ H (MM.chk c m st) R) : c ∧ Post K ρ H (m st) R := by
 unfold MM.chk at h
 by_cases hc : c
 ·rw [if_pos hc] at h; exact ⟨hc, h⟩
 ·rw [if_neg hc] at h; exact h.elim
theorem Post.getL {n : Nat} {R : List D → Sto → List Addr → Hp → Prop} (h : Post K ρ H (MM.getL n st) R) (s : SR K ρ H st) : ∃ xs, st[n]? = some (.lst xs) ∧ R xs st ρ H := by
 cases e : MM.getL n st with
 | ok xs s' =>
  obtain ⟨rfl, q⟩ := Qdj e
  rw [e] at h
  exact ⟨xs, q, h ρ H Ex.refl s⟩
 | exc _ _ => rw [e] at h; exact h.elim
 | bad => rw [e] at h; exact h.elim
noncomputable def tOf (K : PySem.W.Frag) (f : CE) : TE := fun σ H Q => ∃ ρ l st, LR K ρ H σ l ∧ SR K ρ H st ∧ Post K ρ H (f l st) fun d _ ρ' H' => ∀ v, Rep K ρ' H' v d → Q v H'
noncomputable def ttOf (K : PySem.W.Frag) (f : CT) : TT := fun σ H Q => ∃ ρ l st, LR K ρ H σ l ∧ SR K ρ H st ∧ Post K ρ H (f l st) fun b _ _ H' => Q b H'
noncomputable def taOf (K : PySem.W.Frag) (f : CA) : TA := fun σ H Q => ∃ ρ l st, LR K ρ H σ l ∧ SR K ρ H st ∧ Post K ρ H (f l st) fun ds _ ρ' H' => ∀ vs, Reps K ρ' H' vs ds → Q vs H'
noncomputable def tlOf (K : PySem.W.Frag) (f : CA) : TE := fun σ H Q => ∃ ρ l st, LR K ρ H σ l ∧ SR K ρ H st ∧ Post K ρ H (f l st) fun ds _ ρ' H' => ∀ a vs, H a = none → a ∉ ρ' → H' a = some (.lst vs) → Reps K ρ' H' vs ds → Q (.ref a) H'
noncomputable def tsOf (K : PySem.W.Frag) (c : CS) : TS := fun G σ H => ∃ ρ l st, LR K ρ H σ l ∧ SR K ρ H st ∧ Post K ρ H (c l st) fun f _ ρ' H' => match f with
 | .next l' => ∀ σ', LR K ρ' H' σ' l' → G.nx σ' H'
 | .ret d => ∀ v, Rep K ρ' H' v d → G.rt v H'
 | .brk l' => ∀ σ', LR K ρ' H' σ' l' → G.bk σ' H'
 | .cnt l' => ∀ σ', LR K ρ' H' σ' l' → G.ct σ' H'
noncomputable def tgOf (K : PySem.W.Frag) (g : CG) : TG := fun v σ H Q => ∃ ρ l st d, LR K ρ H σ l ∧ SR K ρ H st ∧ Rep K ρ H v d ∧ Post K ρ H (g d l st) fun l' _ ρ' H' => ∀ σ', LR K ρ' H' σ' l' → Q σ' H'
noncomputable def tgsOf (K : PySem.W.Frag) (g : List D → Loc → M Loc) : TGs := fun vs σ H Q => ∃ ρ l st ds, LR K ρ H σ l ∧ SR K ρ H st ∧ Reps K ρ H vs ds ∧ Post K ρ H (g ds l st) fun l' _ ρ' H' => ∀ σ', LR K ρ' H' σ' l' → Q σ' H'
noncomputable def rOf (K : PySem.W.Frag) (g : D → D → M D) : R2 := fun x y H Q => ∃ ρ st d e, SR K ρ H st ∧ Rep K ρ H x d ∧ Rep K ρ H y e ∧ Post K ρ H (g d e st) fun r _ ρ' H' => ∀ v, Rep K ρ' H' v r → Q v H'
noncomputable def uOf (K : PySem.W.Frag) (g : D → M D) : V → Hp → VK → Prop := fun x H Q => ∃ ρ st d, SR K ρ H st ∧ Rep K ρ H x d ∧ Post K ρ H (g d st) fun r _ ρ' H' => ∀ v, Rep K ρ' H' v r → Q v H'
noncomputable def kOf (K : PySem.W.Frag) (g : List D → M D) : List V → Hp → VK → Prop := fun xs H Q => ∃ ρ st ds, SR K ρ H st ∧ Reps K ρ H xs ds ∧ Post K ρ H (g ds st) fun r _ ρ' H' => ∀ v, Rep K ρ' H' v r → Q v H'
noncomputable def spOf (K : PySem.W.Frag) (n : Nat) (g : List D → M D) : Sp := fun vs H Q _ => vs.length = n ∧ kOf K g vs H Q
end
section
variable {X : Cx} {a b c : Expr} {pos : Pos}
abbrev SE (X : Cx) (e : Expr) (f : CE) : Prop := PE X e (tOf X.K f)
abbrev SL (X : Cx) (e : Expr) (f : CA) : Prop := PE X e (tlOf X.K f)
abbrev ST (X : Cx) (e : Expr) (f : CT) : Prop := PT X e (ttOf X.K f)
abbrev SA (X : Cx) (es : List Expr) (f : CA) : Prop := PA X es (taOf X.K f)
abbrev SS (X : Cx) (s : Stmt) (f : CS) : Prop := PS X s (tsOf X.K f)
abbrev SSs (X : Cx) (s : List Stmt) (f : CS) : Prop := PSs X s (tsOf X.K f)
theorem _root_.L2.PE.of {e : Expr} {t t' : TE} (h : PE X e t) (f : ∀ σ H Q, t' σ H Q → t σ H Q) : PE X e t' := fun pins s σ H Q I q => h pins s σ H Q I (f σ H Q q)
theorem _root_.L2.PT.of {e : Expr} {t t' : TT} (h : PT X e t) (f : ∀ σ H Q, t' σ H Q → t σ H Q) : PT X e t' := fun pins s σ H Q I q => h pins s σ H Q I (f σ H Q q)
theorem _root_.L2.PA.of {e : List Expr} {t t' : TA} (h : PA X e t) (f : ∀ σ H Q, t' σ H Q → t σ H Q) : PA X e t' := fun pos pins s σ H Q I q => h pos pins s σ H Q I (f σ H Q q)
theorem _root_.L2.PS.of {e : Stmt} {t t' : TS} (h : PS X e t) (f : ∀ D σ H, t' D σ H → t D σ H) : PS X e t' := fun pins s σ H D I q => h pins s σ H D I (f D σ H q)
theorem _root_.L2.PSs.of {e : List Stmt} {t t' : TS} (h : PSs X e t) (f : ∀ D σ H, t' D σ H → t D σ H) : PSs X e t' := fun pins s σ H D I q => h pins s σ H D I (f D σ H q)
theorem _root_.L2.PG.of {e : Expr} {t t' : TG} (h : PG X e t) (f : ∀ v σ H Q, t' v σ H Q → t v σ H Q) : PG X e t' := fun pins s σ H v u Q I r q => h pins s σ H v u Q I r (f v σ H Q q)
theorem _root_.L2.PGs.of {e : List Expr} {t t' : TGs} (h : PGs X e t) (f : ∀ v σ H Q, t' v σ H Q → t v σ H Q) : PGs X e t' := fun pins s σ H v u Q I r q => h pins s σ H v u Q I r (f v σ H Q q)
theorem _root_.L2.OpR.of {f : Value → Value → Sem Value} {r r' : R2} (h : OpR X f r) (g : ∀ x y H Q, r' x y H Q → r x y H Q) : OpR X f r' := fun pins s σ H x y v u Q I rx ry q => h pins s σ H x y v u Q I rx ry (g x y H Q q)
theorem _root_.L2.CallR.of {f : Value} {r r' : List V → Hp → VK → Prop} (h : CallR X f r) (g : ∀ x H Q, r' x H Q → r x H Q) : CallR X f r' := fun pins s σ H x u Q I rx q => h pins s σ H x u Q I rx (g x H Q q)
variable {fa fb fc : CE}
theorem Qdl (i : Nat) {x : Str} (h : PE X (.Name x pos) (tVar i)) : SE X (.Name x pos) (cVar i) := h.of fun σ H Q pq45 => by
 obtain ⟨ρ, l, st, lr, sr, p⟩ := pq45
 unfold cVar at p
 cases e : l[i]? with
 | none => rw [e] at p; exact p.elim
 | some o =>
  rw [e] at p
  cases o with
  | none => exact p.elim
  | some d =>
   obtain ⟨v, e1, r⟩ := lr.2 i d e
   exact ⟨v, e1, p.ret sr v r⟩
theorem Qdm {i : Int} {j : Nat} : SE X (.Constant (.int i) j pos) (cCon (.int i)) := (Qat (i := i) (j := j) (pos := pos)).of fun σ H Q pq46 => by obtain ⟨ρ, l, st, lr, sr, p⟩ := pq46; exact p.ret sr _ (.int i)
theorem Qdn {i : Bool} {j : Nat} : SE X (.Constant (.bool i) j pos) (cCon (.bl i)) := (Qau (b := i) (j := j) (pos := pos)).of fun σ H Q pq47 => by obtain ⟨ρ, l, st, lr, sr, p⟩ := pq47; exact p.ret sr _ (.bl i)
theorem Qdo {j : Nat} : SE X (.Constant .none j pos) (cCon .non) := (Qav (j := j) (pos := pos)).of fun σ H Q pq48 => by obtain ⟨ρ, l, st, lr, sr, p⟩ := pq48; exact p.ret sr _ .non
theorem Qdp {i : Str} {j : Nat} : SE X (.Constant (.str i) j pos) (cCon (.str i)) := (Qaw (x := i) (j := j) (pos := pos)).of fun σ H Q pq49 => by obtain ⟨ρ, l, st, lr, sr, p⟩ := pq49; exact p.ret sr _ (.str i)
theorem Qdq {g : D → D → M D} {r : R2} (hr : ∀ x y H Q, rOf X.K g x y H Q → r x y H Q) : ∀ σ H Q, tOf X.K (c2 g fa fb) σ H Q → tOp r (tOf X.K fa) (tOf X.K fb) σ H Q := fun σ H Q pq50 =>
 by obtain ⟨ρ, l, st, lr, sr, p⟩ := pq50; exact ⟨ρ, l, st, lr, sr, p.bnd.imp fun d st1 ρ1 H1 x1 s1 p1 v rv => ⟨ρ1, l, st1, lr.mono x1, s1, p1.bnd.imp fun e st2 ρ2 H2 x2 s2 p2 u ru => hr _ _ _ _ ⟨ρ2, st2, d, e, s2, rv.mono x2, ru, p2⟩⟩⟩
theorem Qdr {op : Operator} {g : D → D → M D} (ho : OpR X (binaryOp op) (rOf X.K g)) (ha : SE X a fa) (hb : SE X b fb) : SE X (.BinOp a op b pos) (c2 g fa fb) :=
 (Qa6 ho ha hb).of (Qdq fun _ _ _ _ h => h)
theorem Qds {op : CmpOp} {g : D → D → M D} (ho : OpR X (compareOp op) (rOf X.K g)) (ha : SE X a fa) (hb : SE X b fb) (hm : behindInMarks op b = false) : SE X (.Compare a [op] [b] pos) (c2 g fa fb) :=
 (Qbp ho ha hb hm).of (Qdq fun _ _ _ _ h => h)
end
theorem _root_.Exists.el {α β γ : Type} {A B C : α → β → γ → Prop} {G : Prop} (h : ∃ a b c, A a b c ∧ B a b c ∧ C a b c) (k : ∀ a b c, A a b c → B a b c → C a b c → G) : G := by
 obtain ⟨ρ, l, st, a, b, c⟩ := h; exact k ρ l st a b c
theorem tOf.el {K : PySem.W.Frag} {f : CE} {σ : St} {H : Hp} {Q : VK} {C : Prop} (h : tOf K f σ H Q) (k : ∀ ρ l st, LR K ρ H σ l → SR K ρ H st → Post K ρ H (f l st) (fun d _ ρ' H' => ∀ v, Rep K ρ' H' v d → Q v H') → C) : C := by
 obtain ⟨ρ, l, st, a, b, c⟩ := h; exact k ρ l st a b c
theorem ttOf.el {K : PySem.W.Frag} {f : CT} {σ : St} {H : Hp} {Q : Bool → Hp → Prop} {C : Prop} (h : ttOf K f σ H Q) (k : ∀ ρ l st, LR K ρ H σ l → SR K ρ H st → Post K ρ H (f l st) (fun b _ _ H' => Q b H') → C) : C := by
 obtain ⟨ρ, l, st, a, b, c⟩ := h; exact k ρ l st a b c
theorem tsOf.el {K : PySem.W.Frag} {c : CS} {σ : St} {H : Hp} {G : Ends} {C : Prop} (h : tsOf K c G σ H) (k : ∀ ρ l st, LR K ρ H σ l → SR K ρ H st → Post K ρ H (c l st) (fun f _ ρ' H' => match f with
 | .next l' => ∀ σ', LR K ρ' H' σ' l' → G.nx σ' H'
 | .ret d => ∀ v, Rep K ρ' H' v d → G.rt v H'
 | .brk l' => ∀ σ', LR K ρ' H' σ' l' → G.bk σ' H'
 | .cnt l' => ∀ σ', LR K ρ' H' σ' l' → G.ct σ' H') → C) : C := by
 obtain ⟨ρ, l, st, a, b, c⟩ := h; exact k ρ l st a b c
end MM
namespace MM
open PySem PySem.Spec PyProof.Rows L2
theorem Qdt : ∀ (a b : List Int), eqKs (a.map .int) (b.map .int) = decide (a = b)
 | [], [] => by simp [eqKs]
 | [], _ :: _ => by simp [eqKs]
 | _ :: _, [] => by simp [eqKs]
 | x :: xs, y :: ys => by
  rw [List.map_cons, List.map_cons]
  show (eqK (.int x) (.int y) && eqKs _ _) = _
  rw [Qdt xs ys]
  show (decide (x = y) && _) = _
  simp [Bool.decide_and]
theorem Qdu : ∀ (a b : List (List Int)), eqKs (a.map rowD) (b.map rowD) = decide (a = b)
 | [], [] => by simp [eqKs]
 | [], _ :: _ => by simp [eqKs]
 | _ :: _, [] => by simp [eqKs]
 | x :: xs, y :: ys => by
  rw [List.map_cons, List.map_cons]
  show (eqK (rowD x) (rowD y) && eqKs _ _) = _
  rw [Qdu xs ys]
  show (eqKs (x.map .int) (y.map .int) && _) = _
  rw [Qdt]
  simp [Bool.decide_and]
theorem Qdv (a b : NK) : eqK (stD a) (stD b) = decide (a = b) := Qdu a b
theorem Qdw (a b : Key) : eqK (keyD a) (keyD b) = decide (a = b) := by
 cases a <;> cases b <;> simp [keyD, eqK]
theorem Qdx : ∀ {ds : List D} {r : List Int}, intsK ds = some r → ds = r.map .int
 | [], r, h => by simp [intsK] at h; subst h; rfl
 | d :: ds, r, h => by
  cases d with
  | int i =>
   unfold intsK at h
   cases e : intsK ds with
   | none => rw [e] at h; cases h
   | some q =>
    rw [e] at h
    cases h
    rw [List.map_cons, Qdx e]
  | _ => cases h
theorem Qdy : ∀ {ds : List D} {r : NK}, rowsK ds = some r → ds = r.map rowD
 | [], r, h => by simp [rowsK] at h; subst h; rfl
 | d :: ds, r, h => by
  cases d with
  | tup xs =>
   unfold rowsK at h
   cases e : intsK xs with
   | none => rw [e] at h; cases h
   | some q =>
    cases e2 : rowsK ds with
    | none => rw [e, e2] at h; cases h
    | some q2 =>
     rw [e, e2] at h
     cases h
     rw [List.map_cons, ← Qdy e2]
     show _ = D.tup (q.map .int) :: ds
     rw [← Qdx e]
  | _ => cases h
theorem Qdz {d : D} {r : NK} (h : stK d = some r) : d = stD r := by
 cases d with
 | tup ds => show D.tup ds = D.tup _; rw [Qdy h]
 | _ => cases h
theorem QdA {d : D} (h : kOk true d = true) : ∃ k, d = stD k := by
 cases e : stK d with
 | none =>
  have : kOk true d = (stK d).isSome := by cases d <;> rfl
  rw [this, e] at h; cases h
 | some k => exact ⟨k, Qdz e⟩
theorem QdB {d : D} (h : kOk false d = true) : ∃ k, d = keyD k := by
 cases d with
 | int i => exact ⟨.inl i, rfl⟩
 | str x => exact ⟨.inr x, rfl⟩
 | _ => cases h
section
variable {X : Cx} {K : PySem.W.Frag} {ρ : List Addr} {H : Hp} {st : Sto} {pins : List (Addr × Obj)} {σ : St} {s : Shared} {a b : Addr}
theorem QdC {k : Key} {v : V} (r : Rep K ρ H v (keyD k)) : v = kV k := by
 cases k with
 | inl i => cases r; rfl
 | inr x => cases r; rfl
noncomputable abbrev KR (K : PySem.W.Frag) (ρ : List Addr) (H : Hp) : List (Key × V) → List (D × D) → Prop := Paired fun (p : Key × V) (q : D × D) => keyD p.1 = q.1 ∧ Rep K ρ H p.2 q.2
noncomputable def RO (K : PySem.W.Frag) (ρ : List Addr) (H : Hp) : Option V → Option D → Prop
 | some v, some d => Rep K ρ H v d
 | none, none => True
 | _, _ => False
theorem RO.some_of {o : Option V} {d : D} (h : RO K ρ H o (some d)) : ∃ v, o = some v ∧ Rep K ρ H v d := by
 cases o with
 | none => exact h.elim
 | some v => exact ⟨v, rfl, h⟩
theorem RO.isSome_eq {o : Option V} {d : Option D} (h : RO K ρ H o d) : o.isSome = d.isSome := by
 cases o <;> cases d <;> first | rfl | exact h.elim
theorem KR.val {es : List (Key × V)} {kvs : List (D × D)} (r : KR K ρ H es kvs) (k : Key) : RO K ρ H (valV es k) (lkK kvs (keyD k)) := by
 induction r with
 | nil => exact True.intro
 | @cons p q ps qs h t ih =>
  obtain ⟨h1, h2⟩ := h
  unfold lkK
  rw [List.find?_cons, ← h1, Qdw]
  by_cases e : p.1 = k
  ·rw [QcM e, decide_eq_true e]; exact h2
  ·rw [QcN e, decide_eq_false e]; exact ih
theorem KR.any {es : List (Key × V)} {kvs : List (D × D)} (r : KR K ρ H es kvs) (k : Key) : (es.any fun kv => decide (kv.1 = k)) = kvs.any fun p => eqK p.1 (keyD k) := by
 induction r with
 | nil => rfl
 | @cons p q ps qs h t ih => rw [List.any_cons, List.any_cons, ih, ← h.1, Qdw]
theorem KR.put {es : List (Key × V)} {kvs : List (D × D)} (r : KR K ρ H es kvs) (k : Key) {v : V} {d : D} (rv : Rep K ρ H v d) : KR K ρ H (L2.putK es k v) (ptK kvs (keyD k) d) := by
 unfold L2.putK ptK
 rw [r.any k]
 by_cases e : (kvs.any fun p => eqK p.1 (keyD k)) = true
 ·rw [if_pos e, if_pos e]
  clear e
  induction r with
  | nil => exact .nil
  | @cons p q ps qs h t ih =>
   rw [List.map_cons, List.map_cons]
   refine .cons ?_ ih
   rw [← h.1, Qdw]
   by_cases e : p.1 = k
   ·rw [if_pos e, if_pos (decide_eq_true e)]; exact ⟨rfl, rv⟩
   ·rw [if_neg e, if_neg (by rw [decide_eq_false e]; exact Bool.false_ne_true)]; exact h
 ·rw [if_neg e, if_neg e]
  exact Paired.snoc r ⟨rfl, rv⟩
theorem KR.up {ρ1 : List Addr} {H1 : Hp} (x : Up ρ H ρ1 H1) {es : List (Key × V)} {kvs : List (D × D)} (r : KR K ρ H es kvs) : KR K ρ1 H1 es kvs := Paired.mapS r fun _ _ z => ⟨z.1, z.2.up x⟩
theorem KR.length {es : List (Key × V)} {kvs : List (D × D)} (r : KR K ρ H es kvs) : es.length = kvs.length := Paired.length r
noncomputable abbrev NR (K : PySem.W.Frag) (ρ : List Addr) (H : Hp) : List (NK × Addr × V) → List (D × D) → Prop := Paired fun (p : NK × Addr × V) (q : D × D) => stD p.1 = q.1 ∧ Rep K ρ H (.ref p.2.1) q.1 ∧ Rep K ρ H p.2.2 q.2
noncomputable abbrev NX : List (NK × Addr × V) → List (NK × Addr × Value) → Prop := Paired fun (p : NK × Addr × V) (q : NK × Addr × Value) => p.1 = q.1 ∧ p.2.1 = q.2.1 ∧ RelV p.2.2 q.2.2
noncomputable abbrev nkd (X : Cx) : HeapKind X.prog X.w NK := nestKind (intKind X.prog X.w)
theorem QdD {P : Program} {w : World} : ∀ {r : List Int} {vs : List V} {us : List Value}, Reps K ρ H vs (r.map .int) → Vals vs us → ItemsAre (intKind P w) r us
 | [], _, _, h, g => by cases h; cases g; exact .nil
 | i :: r, _, _, h, g => by
  cases h with
  | cons h1 ht =>
   cases h1
   cases g with
   | cons g1 gt =>
    obtain ⟨t, e⟩ := g1
    subst e
    exact .cons (by show Value.isInt i (Value.int i t) = true; simp [Value.isInt]) (QdD ht gt)
theorem QdE {r : List Int} {v : V} {u : Value} (I : Inv X pins σ H s) (h : Rep X.K ρ H v (rowD r)) (g : RelV v u) : ∃ b, u = .ref b ∧ IsTupleKey (intKind X.prog X.w) s.heap r b := by
 cases h with
 | @tup b vs ds h q =>
  have e : u = Value.ref b := g
  subst e
  obtain ⟨its, rv, ⟨o, h1, h2, n, h3⟩, _⟩ := I.tuple h
  exact ⟨b, rfl, o, its.toArray, n, h1, h2, h3, by simpa using QdD q rv⟩
theorem QdF (I : Inv X pins σ H s) : ∀ {k : NK} {vs : List V} {us : List Value}, Reps X.K ρ H vs (k.map rowD) → Vals vs us → TIts (intKind X.prog X.w) s.heap k us
 | [], _, _, h, g => by cases h; cases g; exact .nil
 | r :: k, _, _, h, g => by
  cases h with
  | cons h1 ht =>
   cases g with
   | cons g1 gt =>
    obtain ⟨b, e, hb⟩ := QdE I h1 g1
    subst e
    exact .cons hb (QdF I ht gt)
theorem QdG {k : NK} {v : V} {u : Value} (I : Inv X pins σ H s) (h : Rep X.K ρ H v (stD k)) (g : RelV v u) : ∃ b, v = .ref b ∧ u = .ref b ∧ (nkd X).is s.heap k b := by
 cases h with
 | @tup b vs ds h q =>
  have e : u = Value.ref b := g
  subst e
  obtain ⟨its, rv, ⟨o, h1, h2, n, h3⟩, _⟩ := I.tuple h
  exact ⟨b, rfl, rfl, o, its.toArray, n, h1, h2, h3, by simpa using QdF I q rv⟩
theorem QdH {es : List (NK × Addr × V)} {kvs : List (D × D)} (I : Inv X pins σ H s) (e : H a = some (nstO a es)) (r : NR X.K ρ H es kvs) :
  es.length ≤ sizeLine ∧ (a == sysModules) = false ∧ ∃ xs, NX es xs ∧ s.heap.DictOfH (nkd X) a xs ∧ EpAt s.heap a xs.length := by
 obtain ⟨⟨z, y, xs, rx, o, es', ep, h1, h2, h3, h4, h5, h6⟩, w1, w2⟩ := (show ObjOk X.prog X.w H s.heap a (nstO a es) from I.hok a _ e)
 subst h6
 refine ⟨z, y, xs, rx, ⟨o, es', _, h1, h2, h3, h4, ?_, h5⟩, ⟨o, es', h1, h3⟩⟩
 clear h1 h2 h3 h4 h5 e z y w1 w2
 induction rx generalizing kvs with
 | nil => intro x hx; exact nomatch hx
 | @cons p q ps qs h t ih =>
  cases r with
  | cons g gt =>
   intro x hx
   rcases List.mem_cons.mp hx with e | hx
   ·subst e
    obtain ⟨b, e1, _, hb⟩ := QdG I (by rw [g.1]; exact g.2.1) (show RelV (.ref p.2.1) (.ref p.2.1) from rfl)
    cases e1
    rw [← h.1, ← h.2.1]
    exact hb
   ·exact ih gt x hx
theorem QdI {H' : Hp} {h' : Heap} {P : Program} {w : World} {es : List (NK × Addr × V)} {xs : List (NK × Addr × Value)} (z : es.length ≤ sizeLine) (y : (a == sysModules) = false) (r : NX es xs) (dd : h'.DictOfH (nestKind (intKind P w)) a xs) (de : EpAt h' a xs.length) :
  ObjOk P w H' h' a (nstO a es) := by
 obtain ⟨o, es', ep, h1, h2, h3, h4, _, h5⟩ := dd
 obtain ⟨o2, es2, g1, g3⟩ := de
 rw [h1] at g1; cases g1
 rw [h3] at g3; cases g3
 refine ⟨⟨z, y, xs, r, o, es', _, h1, h2, h3, h4, h5, rfl⟩, ⟨o, h1⟩, ?_⟩
 rintro g1 g2 ⟨z, y, xs, r, o, es', ep, h1, h2⟩ k
 exact ⟨z, y, xs, r, o, es', ep, k o h1, h2⟩
noncomputable def valN (es : List (NK × Addr × V)) (k : NK) : Option V := (es.find? fun p => decide (p.1 = k)).map (·.2.2)
noncomputable def putN (es : List (NK × Addr × V)) (k : NK) (b : Addr) (v : V) : List (NK × Addr × V) := if (es.any fun p => decide (p.1 = k)) = true then es.map (fun p => if p.1 = k then (p.1, p.2.1, v) else p) else es ++ [(k, b, v)]
theorem NR.val {es : List (NK × Addr × V)} {kvs : List (D × D)} (r : NR K ρ H es kvs) (k : NK) : RO K ρ H (valN es k) (lkK kvs (stD k)) := by
 induction r with
 | nil => exact True.intro
 | @cons p q ps qs h t ih =>
  obtain ⟨h1, _, h2⟩ := h
  unfold lkK valN
  rw [List.find?_cons, List.find?_cons, ← h1, Qdv]
  by_cases e : p.1 = k
  ·rw [decide_eq_true e]; exact h2
  ·rw [decide_eq_false e]; exact ih
theorem NX.val {es : List (NK × Addr × V)} {xs : List (NK × Addr × Value)} (r : NX es xs) (k : NK) : RelO (valN es k) ((atKey xs k).map (·.2)) := by
 induction r with
 | nil => exact True.intro
 | @cons p q ps qs h t ih =>
  obtain ⟨h1, _, h2⟩ := h
  unfold atKey valN
  rw [List.find?_cons, List.find?_cons, ← h1]
  by_cases e : p.1 = k
  ·rw [decide_eq_true e]; exact h2
  ·rw [decide_eq_false e]; exact ih
theorem NX.put {es : List (NK × Addr × V)} {xs : List (NK × Addr × Value)} (r : NX es xs) (k : NK) (b : Addr) {v : V} {u : Value} (rv : RelV v u) : NX (putN es k b v) (storedH xs k b u) := by
 have e : (es.any fun p => decide (p.1 = k)) = (atKey xs k).isSome := by
  clear rv
  induction r with
  | nil => rfl
  | @cons p q ps qs h t ih =>
   rw [List.any_cons, ih]
   unfold atKey
   rw [List.find?_cons, ← h.1]
   by_cases e : p.1 = k
   ·rw [decide_eq_true e]; rfl
   ·rw [decide_eq_false e]; rfl
 unfold putN storedH
 rw [e]
 by_cases q : (atKey xs k).isSome = true
 ·rw [if_pos q, if_pos q]
  clear q e
  induction r with
  | nil => exact .nil
  | @cons p q ps qs h t ih =>
   rw [List.map_cons, List.map_cons]
   refine .cons ?_ ih
   unfold putAt
   by_cases e : p.1 = k
   ·rw [if_pos e, if_pos (h.1.symm.trans e)]; exact ⟨h.1, h.2.1, rv⟩
   ·rw [if_neg e, if_neg (fun z => e (h.1.trans z))]; exact h
 ·rw [if_neg q, if_neg q]; exact Paired.snoc r ⟨rfl, rfl, rv⟩
theorem NR.put {es : List (NK × Addr × V)} {kvs : List (D × D)} (r : NR K ρ H es kvs) (k : NK) (b : Addr) {v : V} {d : D} (rk : Rep K ρ H (.ref b) (stD k)) (rv : Rep K ρ H v d) : NR K ρ H (putN es k b v) (ptK kvs (stD k) d) := by
 have e : (es.any fun p => decide (p.1 = k)) = kvs.any fun p => eqK p.1 (stD k) := by
  clear rk rv
  induction r with
  | nil => rfl
  | @cons p q ps qs h t ih => rw [List.any_cons, List.any_cons, ih, ← h.1, Qdv]
 unfold putN ptK
 rw [e]
 clear e
 by_cases e : (kvs.any fun p => eqK p.1 (stD k)) = true
 ·rw [if_pos e, if_pos e]
  clear e
  induction r with
  | nil => exact .nil
  | @cons p q ps qs h t ih =>
   rw [List.map_cons, List.map_cons]
   refine .cons ?_ ih
   by_cases e : p.1 = k
   ·have z : eqK q.1 (stD k) = true := by rw [← h.1, Qdv]; exact decide_eq_true e
    rw [if_pos e, if_pos z]; exact ⟨h.1, h.2.1, rv⟩
   ·have z : ¬ eqK q.1 (stD k) = true := by rw [← h.1, Qdv, decide_eq_false e]; exact Bool.false_ne_true
    rw [if_neg e, if_neg z]; exact h
 ·rw [if_neg e, if_neg e]
  exact Paired.snoc r ⟨rfl, rk, rv⟩
theorem NR.up {ρ1 : List Addr} {H1 : Hp} (x : Up ρ H ρ1 H1) {es : List (NK × Addr × V)} {kvs : List (D × D)} (r : NR K ρ H es kvs) : NR K ρ1 H1 es kvs := Paired.mapS r fun _ _ z => ⟨z.1, z.2.1.up x, z.2.2.up x⟩
theorem NR.length {es : List (NK × Addr × V)} {kvs : List (D × D)} (r : NR K ρ H es kvs) : es.length = kvs.length := Paired.length r
theorem QdJ (es : List (NK × Addr × V)) (k : NK) (b : Addr) (v : V) : (putN es k b v).length ≤ es.length + 1 := by
 unfold putN
 split
 ·rw [List.length_map]; ac_nf
 ·rw [List.length_append, List.length_cons, List.length_nil]; ac_nf
theorem QdK {n : Nat} {p : Bool × List (D × D)} {s' : Sto} (h : getDc n st = .ok p s') : s' = st ∧ st[n]? = some (.dct p.1 p.2) := by
 unfold getDc at h
 cases e : st[n]? with
 | none => rw [e] at h; cases h
 | some o =>
  rw [e] at h
  cases o with
  | lst ds => cases h
  | dct b kvs => cases h; exact ⟨rfl, rfl⟩
theorem Post.getDc {n : Nat} {R : Bool × List (D × D) → Sto → List Addr → Hp → Prop} (h : Post K ρ H (MM.getDc n st) R) (s : SR K ρ H st) : ∃ b kvs, st[n]? = some (.dct b kvs) ∧ R (b, kvs) st ρ H := by
 cases e : MM.getDc n st with
 | ok xs s' =>
  obtain ⟨rfl, q⟩ := QdK e
  rw [e] at h
  exact ⟨xs.1, xs.2, q, h ρ H Ex.refl s⟩
 | exc _ _ => rw [e] at h; exact h.elim
 | bad => rw [e] at h; exact h.elim
theorem QdL {b : Bool} {kvs : List (D × D)} {k d : D} {y : V} {u : Value} {Q : Value → Shared → Prop} {E : Value → Shared → Prop} {A : Around} (hu : A.units + 2 < cLine) (I : Inv X pins σ H s) (g : ObR X.K ρ H a (.dct b kvs)) (rk : Rep X.K ρ H y k) (hk : kOk b k = true) (hl : lkK kvs k = some d) (ry : RelV y u)
  (h : ∀ v w' s', Inv X pins σ H s' → Rep X.K ρ H v d → RelV v w' → Q w' s') : wpAny (model X.prog X.w) A (getItem (.ref a) u) Q E s := by
 cases b with
 | false =>
  obtain ⟨es, e, r⟩ := g
  obtain ⟨k, rfl⟩ := QdB hk
  cases QdC rk
  have q := KR.val r k
  rw [hl] at q
  obtain ⟨v, e1, rv⟩ := q.some_of
  exact QcY (by ac_nf) I (by have := DGet.k (k := k) e; rw [e1] at this; exact this) ry fun w' s' I' rw' => h v w' s' I' rv rw'
 | true =>
  obtain ⟨es, e, r⟩ := g
  obtain ⟨k, rfl⟩ := QdA hk
  have q := NR.val r k
  rw [hl] at q
  obtain ⟨v, e1, rv⟩ := q.some_of
  obtain ⟨_, hd, xs, rx, dd, de⟩ := QdH I e r
  obtain ⟨c, e2, e3, hc⟩ := QdG I rk ry
  subst e3
  obtain ⟨w', hw, rw'⟩ := RelO.some_of (v := v) (o := (atKey xs k).map (·.2)) (by rw [← e1]; exact NX.val rx k)
  obtain ⟨p, hp, hp2⟩ := Option.map_eq_some_iff.mp hw
  refine wpAny_getItem_heap (knd := nkd X) (show A.in1.units + 1 < cLine from hu) hc dd hp ?_
  rw [hp2]
  exact h v w' _ (I.tok _) rv rw'
theorem QdM {b : Bool} {kvs : List (D × D)} {k : D} {y : V} {u : Value} {Q : Value → Shared → Prop} {E : Value → Shared → Prop} {A : Around} (hu : A.units + 2 < cLine) (I : Inv X pins σ H s) (g : ObR X.K ρ H a (.dct b kvs)) (rk : Rep X.K ρ H y k) (hk : kOk b k = true) (ry : RelV y u)
  (h : ∀ s', Inv X pins σ H s' → Q (.bool (lkK kvs k).isSome) s') : wpAny (model X.prog X.w) A (compareOp .In u (.ref a)) Q E s := by
 cases b with
 | false =>
  obtain ⟨es, e, r⟩ := g
  obtain ⟨k, rfl⟩ := QdB hk
  cases QdC rk
  rw [← (KR.val r k).isSome_eq] at h
  exact d_in (by ac_nf) I (DGet.k (k := k) e) ry h
 | true =>
  obtain ⟨es, e, r⟩ := g
  obtain ⟨k, rfl⟩ := QdA hk
  rw [← (NR.val r k).isSome_eq] at h
  obtain ⟨_, hd, xs, rx, dd, de⟩ := QdH I e r
  obtain ⟨c, e2, e3, hc⟩ := QdG I rk ry
  subst e3
  refine wpAny_in_heap (knd := nkd X) (show A.in1.units + 1 < cLine from hu) hc hd dd ?_
  have q := (NX.val rx k).isSome_eq
  rw [Option.isSome_map] at q
  rw [← q]
  exact h _ (I.tok _)
theorem QdN {b : Bool} {kvs : List (D × D)} {k : D} {y : V} {u : Value} {Q : Value → Shared → Prop} {E : Value → Shared → Prop} {A : Around} (hu : A.units + 2 < cLine) (I : Inv X pins σ H s) (g : ObR X.K ρ H a (.dct b kvs)) (rk : Rep X.K ρ H y k) (hk : kOk b k = true) (ry : RelV y u)
  (h : ∀ s', Inv X pins σ H s' → Q (.bool (!(lkK kvs k).isSome)) s') : wpAny (model X.prog X.w) A (compareOp .NotIn u (.ref a)) Q E s := by
 cases b with
 | false =>
  obtain ⟨es, e, r⟩ := g
  obtain ⟨k, rfl⟩ := QdB hk
  cases QdC rk
  rw [← (KR.val r k).isSome_eq] at h
  exact QcZ (by ac_nf) I (DGet.k (k := k) e) ry h
 | true =>
  obtain ⟨es, e, r⟩ := g
  obtain ⟨k, rfl⟩ := QdA hk
  rw [← (NR.val r k).isSome_eq] at h
  obtain ⟨_, hd, xs, rx, dd, de⟩ := QdH I e r
  obtain ⟨c, e2, e3, hc⟩ := QdG I rk ry
  subst e3
  refine wpAny_notIn_heap (knd := nkd X) (show A.in1.units + 1 < cLine from hu) hc hd dd ?_
  have q := (NX.val rx k).isSome_eq
  rw [Option.isSome_map] at q
  rw [← q]
  exact h _ (I.tok _)
theorem QdO {n : Nat} {b : Bool} {kvs : List (D × D)} {k d : D} {y v : V} {u r' : Value} {Q : Unit → Shared → Prop} {E : Value → Shared → Prop} {A : Around} (hu : A.units + 2 < cLine) (I : Inv X pins σ H s) (sr : SR X.K ρ H st) (ha : ρ[n]? = some a) (hn : st[n]? = some (.dct b kvs))
  (rk : Rep X.K ρ H y k) (hk : kOk b k = true) (hl : kvs.length < sizeLine) (rv : Rep X.K ρ H v d) (ry : RelV y u) (rr : RelV v r')
  (h : ∀ H' s', Inv X pins σ H' s' → SR X.K ρ H' (st.set n (.dct b (ptK kvs k d))) → Ex ρ H ρ H' → Q () s') : wpAny (model X.prog X.w) A (setItem (.ref a) u r') Q E s := by
 have hlt := (List.getElem?_eq_some_iff.mp hn).1
 have g := sr.ob n a _ ha hn
 cases b with
 | false =>
  obtain ⟨es, e, r⟩ := g
  obtain ⟨k, rfl⟩ := QdB hk
  cases QdC rk
  have w := sr.putO (o' := .dct false (ptK kvs (keyD k) d)) (u' := .dK (L2.putK es k v)) hlt ha e (by show (1 : Nat) ≠ 3; decide) rfl ⟨_, Qai, (KR.put r k rv).up ?_⟩
  ·exact Qc2 (by ac_nf) I (DPut.k (k := k) e (by rw [KR.length r]; exact hl)) ry rr fun s' I' => h _ s' I' w.1 w.2
  ·refine ⟨⟨[], by simp⟩, fun c o no q => ?_, fun c o q => ?_⟩
   ·rw [Qaj fun z => by subst z; rw [e] at q; cases q; exact nomatch no]; exact q
   ·by_cases z : c = a
    ·subst z; rw [e] at q; cases q; exact ⟨_, Qai, rfl⟩
    ·exact ⟨o, by rw [Qaj z]; exact q, rfl⟩
 | true =>
  obtain ⟨es, e, r⟩ := g
  obtain ⟨k, rfl⟩ := QdA hk
  obtain ⟨_, hd, xs, rx, dd, de⟩ := QdH I e r
  obtain ⟨c, e2, e3, hc⟩ := QdG I rk ry
  subst e2 e3
  have w := sr.putO (o' := .dct true (ptK kvs (stD k) d)) (u' := nstO a (putN es k c v)) hlt ha e (by show (2 : Nat) ≠ 3; decide) rfl ⟨_, Qai, (NR.put r k c rk rv).up ?_⟩
  ·have hz : xs.length ≤ sizeLine := by
     rw [← Paired.length rx, NR.length r]; ac_nf
   refine Qdh (knd := nkd X) (show A.in1.units + 1 < cLine from hu) hc dd de hz fun h' dd' de' hs => h _ _ ?_ w.1 w.2
   have he : ∃ q, h'.get? a = some q := let ⟨q, _, _, hq, _⟩ := dd'; ⟨q, hq⟩
   refine Qc0 I (by rw [e]; exact True.intro) hs he (QdI ?_ hd (NX.put rx k c rr) dd' de')
   have := QdJ es k c v
   rw [NR.length r] at this
   ac_nf
  ·refine ⟨⟨[], by simp⟩, fun c o no q => ?_, fun c o q => ?_⟩
   ·rw [Qaj fun z => by subst z; rw [e] at q; cases q; exact nomatch no]; exact q
   ·by_cases z : c = a
    ·subst z; rw [e] at q; cases q; exact ⟨_, Qai, rfl⟩
    ·exact ⟨o, by rw [Qaj z]; exact q, rfl⟩
end
end MM
namespace MM
open PySem PySem.Spec PyProof.Rows L2
noncomputable abbrev NoE : Value → Shared → Prop := fun _ _ => False
noncomputable def tests (ifs : List Expr) (env : Env) : Sem Bool := forIn ifs true fun c r => if r = true then do let ok ← isTrue c env (eval c env); pure (ForInStep.yield ok) else pure (ForInStep.yield r)
section
variable {prog : Program} {w : World} {A : Around} {R : Result → Shared → Prop} {s : Shared}
theorem QdP {elt target iter : Expr} {ifs : List Expr} {scope : Scope} {pos : Pos} {it acc : Value} {env : Env} (I : Nat → Shared → Prop)
  (turn : ∀ n s, I n s → wpAny (model prog w) A (pyNext it) (fun r s₁ => match r with
   | none => R (.ok .next) s₁
   | some v => wpAny (model prog w) A (letOwnedTupleGo target it v) (fun _ s₁' => wpAny (model prog w) A (assign target env v) (fun _ s₂ =>
     wpAny (model prog w) A (tests ifs env) (fun ok s₃ =>
      if ok = true then wpAny (model prog w) A (eval elt env) (fun x s₄ =>
       wpAny (model prog w) A (call (.builtin "list.append") [acc, x]) (fun _ s₅ => ∃ m, m < n ∧ I m s₅) NoE s₄) NoE s₃
      else ∃ m, m < n ∧ I m s₃) NoE s₂) NoE s₁') NoE s₁) NoE s)
  (n : Nat) (h : I n s) : codeAny (model prog w) A (.compLoop (.ListComp elt [⟨target, iter, ifs, 0⟩] scope pos) 0 it acc env) R s := by
 refine codeAny_loop rfl I (fun n s hI => ?_) n h
 show wpAny _ A ((compTurn (.ListComp elt [⟨target, iter, ifs, 0⟩] scope pos) 0 it acc env).onRaise (fun x => do noteFrame x env; theTreesLotGoes x)) _ _ s
 refine wpAny_noted ?_
 rw [compTurn_list]
 refine wpAny_bind (wpAny_standAt (wpAny_bind (wpAny_mono (turn n s hI) (fun r s₁ h₁ => ?_) fun _ _ h' => h'.elim)))
 cases r with
 | none => exact wpAny_pure h₁
 | some v =>
  refine wpAny_bind (wpAny_mono h₁ (fun _ s₁' h₁' => ?_) fun _ _ h' => h'.elim)
  refine wpAny_bind (wpAny_mono h₁' (fun _ s₂ h₂ => wpAny_bind (wpAny_mono h₂ (fun ok s₃ h₃ => ?_) fun _ _ h' => h'.elim)) fun _ _ h' => h'.elim)
  cases ok with
  | false => exact wpAny_pure ⟨rfl, h₃⟩
  | true =>
   exact wpAny_bind (wpAny_bind (wpAny_mono h₃ (fun x s₄ h₄ => wpAny_bind (wpAny_mono h₄ (fun _ s₅ h₅ => wpAny_pure (wpAny_pure ⟨rfl, h₅⟩)) fun _ _ h' => h'.elim)) fun _ _ h' => h'.elim))
end
noncomputable def clOf : List (Str × NameKind) → List (Str × Addr) → List (Str × Addr) → List (Str × Addr)
 | [], _, acc => acc
 | (n, k) :: r, cells, acc => clOf r cells (if k == .free then (match cells.lookup n with | some c => (n, c) :: acc | none => acc) else acc)
theorem QdQ {env : Env} : ∀ (names : List (Str × NameKind)) (acc : List (Str × Addr)), (∀ x, (x, NameKind.free) ∈ names → ∃ c, env.cells.lookup x = some c) →
  (forIn names acc fun (x : Str × NameKind) r => if (x.2 == NameKind.free) = true then (do let a ← cellOf env x.1; pure (ForInStep.yield ((x.1, a) :: r)) : Sem _) else pure (ForInStep.yield r)) = (pure (clOf names env.cells acc) : Sem _)
 | [], acc, _ => rfl
 | (n, k) :: r, acc, h => by
  rw [List.forIn_cons]
  by_cases hk : (k == NameKind.free) = true
  ·have e : k = .free := by simpa using hk
   subst e
   obtain ⟨c, hc⟩ := h n List.mem_cons_self
   have q : cellOf env n = pure c := by unfold cellOf; rw [hc]
   simp only [beq_self_eq_true, if_true, q]
   unfold clOf
   simp only [beq_self_eq_true, if_true, hc]
   exact QdQ r ((n, c) :: acc) fun x hx => h x (List.mem_cons_of_mem _ hx)
  ·simp only [hk, if_false]
   unfold clOf
   simp only [hk, if_false]
   exact QdQ r acc fun x hx => h x (List.mem_cons_of_mem _ hx)
theorem QdR {scope : Scope} {env : Env} (h : ∀ x, (x, NameKind.free) ∈ scope.names → ∃ c, env.cells.lookup x = some c) : closureFor scope env = pure (clOf scope.names env.cells []) := by
 have q := QdQ (env := env) scope.names [] h
 simp only [closureFor]
 exact congrArg (fun m => m >>= fun cs => pure cs) q
theorem QdS {α : Type} {x y : Str} {v : α} {r : List (Str × α)} (h : x ≠ y) : List.lookup x ((y, v) :: r) = r.lookup x := by
 rw [List.lookup_cons]
 have : (x == y) = false := beq_eq_false_iff_ne.mpr h
 rw [this]
theorem QdT {α : Type} {x : Str} {v : α} {r : List (Str × α)} : List.lookup x ((x, v) :: r) = some v := by
 rw [List.lookup_cons, beq_self_eq_true]
theorem clOf_of {cells : List (Str × Addr)} {x : Str} {c : Addr} : ∀ (names : List (Str × NameKind)) (acc : List (Str × Addr)), (clOf names cells acc).lookup x = some c → cells.lookup x = some c ∨ acc.lookup x = some c
 | [], acc, h => .inr h
 | (n, k) :: r, acc, h => by
  unfold clOf at h
  rcases clOf_of r _ h with q | q
  ·exact .inl q
  ·split at q
   ·split at q
    ·rename_i c' hc
     by_cases hx : x = n
     ·subst hx
      rw [QdT] at q
      cases q
      exact .inl hc
     ·rw [QdS hx] at q; exact .inr q
    ·exact .inr q
   ·exact .inr q
theorem QdU {cells : List (Str × Addr)} {x : Str} {c : Addr} (hc : cells.lookup x = some c) : ∀ (names : List (Str × NameKind)) (acc : List (Str × Addr)), ((x, NameKind.free) ∈ names ∨ acc.lookup x = some c) → (∀ d, acc.lookup x = some d → d = c) → (clOf names cells acc).lookup x = some c
 | [], acc, h, _ => by
  rcases h with h | h
  ·cases h
  ·exact h
 | (n, k) :: r, acc, h, ha => by
  unfold clOf
  by_cases hx : x = n
  ·subst hx
   by_cases hk : (k == NameKind.free) = true
   ·rw [if_pos hk, hc]
    exact QdU hc r _ (.inr QdT) fun d hd => by rw [QdT] at hd; cases hd; rfl
   ·rw [if_neg hk]
    refine QdU hc r _ ?_ ha
    rcases h with h | h
    ·rcases List.mem_cons.mp h with e | e
     ·cases e; exact absurd rfl hk
     ·exact .inl e
    ·exact .inr h
  ·have step : ∀ acc', acc'.lookup x = acc.lookup x → (clOf r cells acc').lookup x = some c := fun acc' e => by
     refine QdU hc r acc' ?_ (by rw [e]; exact ha)
     rcases h with h | h
     ·rcases List.mem_cons.mp h with z | z
      ·cases z; exact absurd rfl hx
      ·exact .inl z
     ·exact .inr (by rw [e]; exact h)
   refine step _ ?_
   split
   ·split
    ·exact QdS hx
    ·rfl
   ·rfl
theorem cellsFrom_of {x : Str} {c : Addr} : ∀ (names : List (Str × NameKind)) (n : Nat) (acc : List (Str × Addr)), (cellsFrom n names acc).lookup x = some c → n ≤ c ∨ acc.lookup x = some c
 | [], _, _, h => .inr h
 | (y, k) :: r, n, acc, h => by
  unfold cellsFrom at h
  split at h
  ·rcases cellsFrom_of r (n + 1) _ h with q | q
   ·exact .inl (by ac_nf)
   ·by_cases hx : x = y
    ·subst hx; rw [QdT] at q; cases q; exact .inl (Nat.le_refl _)
    ·rw [QdS hx] at q; exact .inr q
  ·exact cellsFrom_of r n acc h
theorem QdV : ∀ (names : List (Str × NameKind)) (n : Nat) (acc : List (Str × Addr)), (∀ x y c, acc.lookup x = some c → acc.lookup y = some c → x = y) → (∀ x c, acc.lookup x = some c → c < n) →
  ∀ x y c, (cellsFrom n names acc).lookup x = some c → (cellsFrom n names acc).lookup y = some c → x = y
 | [], _, _, hi, _ => hi
 | (z, k) :: r, n, acc, hi, hb => by
  unfold cellsFrom
  split
  ·refine QdV r (n + 1) _ (fun x y c h1 h2 => ?_) (fun x c h => ?_)
   ·by_cases hx : x = z
    ·subst hx
     rw [QdT] at h1; cases h1
     by_cases hy : y = x
     ·exact hy.symm
     ·rw [QdS hy] at h2
      exact absurd (hb y _ h2) (Nat.lt_irrefl _)
    ·rw [QdS hx] at h1
     by_cases hy : y = z
     ·subst hy
      rw [QdT] at h2; cases h2
      exact absurd (hb x _ h1) (Nat.lt_irrefl _)
     ·rw [QdS hy] at h2; exact hi x y c h1 h2
   ·by_cases hx : x = z
    ·subst hx; rw [QdT] at h; cases h; exact Nat.lt_succ_self _
    ·rw [QdS hx] at h; exact Nat.lt_succ_of_lt (hb x c h)
  ·exact QdV r n acc hi hb
theorem cellsFrom_cell {x : Str} {c : Addr} : ∀ (names : List (Str × NameKind)) (h : Heap) (acc : List (Str × Addr)), (cellsFrom h.objs.size names acc).lookup x = some c → acc.lookup x = some c ∨ ((pushCells h names).IsCell c none ∧ h.objs.size ≤ c)
 | [], _, _, q => .inl q
 | (y, k) :: r, h, acc, q => by
  unfold cellsFrom at q
  unfold pushCells
  split at q
  ·rename_i hk
   rw [if_pos hk]
   rw [← Heap.size_push h { cls := .type "cell", data := .cell none }] at q
   rcases cellsFrom_cell r _ _ q with z | z
   ·by_cases hx : x = y
    ·subst hx; rw [QdT] at z; cases z
     refine .inr ⟨?_, Nat.le_refl _⟩
     refine ⟨{ cls := .type "cell", data := .cell none }, pushCells_keeps r _ _ _ (Heap.get?_push_size _ rfl), rfl⟩
    ·rw [QdS hx] at z; exact .inl z
   ·refine .inr ⟨z.1, ?_⟩
    have := z.2
    rw [Heap.size_push] at this
    ac_nf
  ·rename_i hk
   rw [if_neg hk]
   exact cellsFrom_cell r h acc q
theorem QdW {x : Str} : ∀ (names : List (Str × NameKind)) (n : Nat) (acc : List (Str × Addr)), (x, NameKind.cell) ∉ names → (cellsFrom n names acc).lookup x = acc.lookup x
 | [], _, _, _ => rfl
 | (y, k) :: r, n, acc, h => by
  unfold cellsFrom
  split
  ·rename_i hk
   have e : k = .cell := by simpa using hk
   subst e
   have hx : x ≠ y := fun z => h (by rw [z]; exact List.mem_cons_self)
   rw [QdW r (n + 1) _ fun z => h (List.mem_cons_of_mem _ z), QdS hx]
  ·exact QdW r n acc fun z => h (List.mem_cons_of_mem _ z)
theorem QdX {α β : Type} (f : Str → α → β) (x : Str) : ∀ (l : List (Str × α)), (l.map fun p => (p.1, f p.1 p.2)).lookup x = (l.lookup x).map (f x)
 | [] => rfl
 | (y, v) :: r => by
  by_cases hx : x = y
  ·subst hx
   rw [List.map_cons, QdT, QdT]; rfl
  ·rw [List.map_cons, QdS hx, QdS hx]; exact QdX f x r
theorem QdY (scope : Scope) (env : Env) (x : Str) :
  (relabel scope env).names.lookup x = (scope.names.lookup x).map fun k => if (k == NameKind.free && env.scope.kind == .function && env.kindOf x == some .cell) = true then .cell else k := by
 have e : (relabel scope env).names = scope.names.map fun p => (p.1, (fun (n : Str) k => if (k == NameKind.free && env.scope.kind == .function && env.kindOf n == some .cell) = true then NameKind.cell else k) p.1 p.2) := by
  show scope.names.map _ = _
  congr 1
  funext p
  obtain ⟨n, k⟩ := p
  dsimp only
  split <;> rfl
 rw [e]
 exact QdX (fun (n : Str) k => if (k == NameKind.free && env.scope.kind == .function && env.kindOf n == some .cell) = true then NameKind.cell else k) x scope.names
theorem QdZ {M : Model} {A : Around} {E : Value → Shared → Prop} {s : Shared} {scope : Scope} {globals : Addr} {cl : List (Str × Addr)} {qual : Str} {env : Env} {Q : Env → Shared → Prop}
  (h : Q { scope := scope, locals := s.heap.objs.size, globals := globals, cells := cellsFrom (s.heap.objs.size + 1) scope.names cl, qual := qual, func := none, code := env.code, frame := env.frame, builtins := env.builtins }
   { s with heap := pushCells (s.heap.push { cls := .type "dict", data := .dict #[] }) scope.names }) : wpAny M A (newFunctionEnv scope globals cl [] qual none .none (some env)) Q E s := by
 simp only [newFunctionEnv, Option.isSome_some, if_true]
 refine wpAny_bind (wpAny_alloc ?_)
 refine wpAny_bind (wpAny_layCells _ (fun name kind cells => by cases hkc : kind == NameKind.cell <;> simp [hkc]) _ _ _ _ ?_)
 rw [show ({ s with heap := s.heap.push { cls := .type "dict", data := .dict #[] } } : Shared).heap.objs.size = s.heap.objs.size + 1 from Heap.size_push ..]
 exact wpAny_bind (wpAny_pure (wpAny_pure h))
noncomputable def cxC (X : Cx) (N : List Str) (scope : Scope) (fp : List Addr) (s : Shared) (H : Hp) : Cx where
 prog := X.prog
 w := X.w
 K := X.K
 mg := X.mg
 base := X.base
 A := X.A
 N := N
 s₀ := s
 H₀ := H
 env := compEnvC scope (cellsFrom (s.heap.objs.size + 1) scope.names (clOf scope.names X.env.cells [])) s.heap.objs.size X.env
 outer := X.stack
 stack := X.stack
 ex := fp
 fn := fun x => decide (scope.names.lookup x = some .local ∨ scope.names.lookup x = some .cell)
 calm := X.calm
 pn := []
 xe := NoE
structure CompScope (X : Cx) (scope : Scope) : Prop where
 kind : scope.kind = .function
 names : ∀ x ∈ scope.names, x.2 = .local → scope.names.lookup x.1 = some .local
 free : ∀ x, (x, NameKind.free) ∈ scope.names → X.env.kindOf x = some .cell ∨ X.env.kindOf x = some .free
 once : ∀ x, (x, NameKind.free) ∈ scope.names → (x, NameKind.cell) ∉ scope.names
 own : ∀ x, (x, NameKind.free) ∈ scope.names → scope.names.lookup x ≠ some .local
noncomputable def capV (n : Nat) (ix : List Nat) (σ : St) : St := List.replicate n none ++ ix.map fun i => (σ[i]?).join
structure CompNames (X : Cx) (scope : Scope) (N : List Str) (n : Nat) (ix : List Nat) : Prop where
 len : N.length = n + ix.length
 cap : ∀ (j i : Nat) (x : Str), ix[j]? = some i → N[n + j]? = some x → X.N[i]? = some x ∧ scope.names.lookup x = some .free
theorem clOf_mem {cells : List (Str × Addr)} {x : Str} {c : Addr} : ∀ (names : List (Str × NameKind)) (acc : List (Str × Addr)), (clOf names cells acc).lookup x = some c → (x, NameKind.free) ∈ names ∨ acc.lookup x = some c
 | [], acc, h => .inr h
 | (n, k) :: r, acc, h => by
  unfold clOf at h
  rcases clOf_mem r _ h with q | q
  ·exact .inl (List.mem_cons_of_mem _ q)
  ·split at q
   ·rename_i hk
    have e : k = .free := by simpa using hk
    subst e
    split at q
    ·by_cases hx : x = n
     ·subst hx; exact .inl List.mem_cons_self
     ·rw [QdS hx] at q; exact .inr q
    ·exact .inr q
   ·exact .inr q
theorem Qd0 {X : Cx} {scope : Scope} {cells : List (Str × Addr)} {x : Str} {c : Addr} (h : (clOf scope.names cells []).lookup x = some c) (hf : scope.names.lookup x = some .local ∨ scope.names.lookup x = some .cell) (S : CompScope X scope) : False := by
 rcases clOf_mem _ _ h with q | q
 ·rcases hf with z | z
  ·exact S.own x q z
  ·exact S.once x q (PySem.mem_of_lookup z)
 ·cases q
section
variable {X : Cx} {pins : List (Addr × Obj)} {σ : St} {H : Hp} {s : Shared} {scope : Scope} {N : List Str} {fp : List Addr}
theorem Qd1 (I : Inv X pins σ H s) {x : Str} {c : Addr} (h : (clOf scope.names X.env.cells []).lookup x = some c) : X.env.cells.lookup x = some c ∧ c < s.heap.objs.size ∧ (∃ v, s.heap.IsCell c v) ∧ H c = none := by
 rcases clOf_of _ _ h with q | q
 ·obtain ⟨v, z⟩ := I.cell x c q
  exact ⟨q, z.lt, ⟨v, z⟩, I.freeC x c q⟩
 ·cases q
theorem Qd2 (I : Inv X pins σ H s) (S : CompScope X scope) (hfp : ∀ b ∈ fp, FpOk X pins H b) (hlt : ∀ b ∈ fp, b < s.heap.objs.size) : (cxC X N scope fp s H).Ok := by
 have inj : ∀ x y c, (cellsFrom (s.heap.objs.size + 1) scope.names (clOf scope.names X.env.cells [])).lookup x = some c → (cellsFrom (s.heap.objs.size + 1) scope.names (clOf scope.names X.env.cells [])).lookup y = some c → x = y :=
  QdV scope.names _ _ (fun x y c h1 h2 => I.ok.inj x y c (Qd1 I h1).1 (Qd1 I h2).1) fun x c h => Nat.lt_succ_of_lt (Qd1 I h).2.1
 refine ⟨I.ok.mod, S.kind, I.ok.glob, I.ok.blt, Nat.le_refl _, inj, fun x hx => ?_, fun x c hf hc => ?_, I.ok.hd, I.ok.frames, .inl rfl, fun b hb => ?_, I.bs, Nat.le_trans I.ok.bsz I.sz, fun b o e hb => ?_, fun b hb z => ?_, I.stack, I.stkFree⟩
 ·have hx' : (relabel scope X.env).names.lookup x = some .cell ∨ (relabel scope X.env).names.lookup x = some .free := hx
  rw [QdY] at hx'
  cases e : scope.names.lookup x with
  | none => rw [e] at hx'; rcases hx' with z | z <;> cases z
  | some k =>
   refine Option.isSome_iff_exists.mp (PySem.W.cellsFrom_some scope.names _ _ ?_)
   cases k with
   | cell => exact .inl e
   | free =>
    have hm := PySem.mem_of_lookup e
    obtain ⟨c, hc⟩ := I.ok.has x (S.free x hm)
    exact .inr (by rw [QdU hc scope.names [] (.inl hm) fun d hd => by cases hd]; rfl)
   | _ =>
    rw [e] at hx'
    rcases hx' with z | z <;> (simp at z)
 ·have hc' : (cellsFrom (s.heap.objs.size + 1) scope.names (clOf scope.names X.env.cells [])).lookup x = some c := hc
  rcases cellsFrom_of _ _ _ hc' with q | q
  ·exact Nat.le_of_succ_le q
  ·exfalso
   have hf' : scope.names.lookup x = some .local ∨ scope.names.lookup x = some .cell := of_decide_eq_true hf
   exact Qd0 q hf' S
 ·obtain ⟨f0, f1, f2, f3, f4, f5⟩ := hfp b hb
  refine ⟨Nat.ne_of_lt (hlt b hb), fun x c hc z => ?_⟩
  have hc' : (cellsFrom (s.heap.objs.size + 1) scope.names (clOf scope.names X.env.cells [])).lookup x = some c := hc
  rcases cellsFrom_of _ _ _ hc' with q | q
  ·rw [z] at q
   exact absurd (Nat.lt_of_lt_of_le (Nat.lt_succ_of_lt (hlt b hb)) q) (Nat.lt_irrefl _)
  ·exact f4 x c (Qd1 I q).1 z
 ·obtain ⟨f0, f1, f2, f3, f4, f5⟩ := hfp b hb
  rcases f3 with z | z
  ·exact I.ok.noex b o e z
  ·exact absurd (Nat.lt_of_lt_of_le (Nat.lt_of_lt_of_le (Heap.lt_size e) I.ok.bsz) z) (Nat.lt_irrefl _)
 ·obtain ⟨f0, f1, f2, f3, f4, f5⟩ := hfp b hb
  rcases List.mem_cons.mp (I.stkSub b z) with q | q
  ·exact f1 q
  ·exact f2 q
noncomputable abbrev heapC (h : Heap) (scope : Scope) : Heap := pushCells (h.push { cls := .type "dict", data := .dict #[] }) scope.names
theorem Qd3 (h : Heap) (scope : Scope) : ∀ b o, h.get? b = some o → (heapC h scope).get? b = some o := fun b o e => pushCells_keeps _ _ b o (Heap.get?_push_of_some _ e)
theorem Qd4 {n : Nat} {ix : List Nat} (I : Inv X pins σ H s) (S : CompScope X scope) (T : CompNames X scope N n ix) (hfp : ∀ b ∈ fp, FpOk X pins H b) (hlt : ∀ b ∈ fp, b < s.heap.objs.size) :
  Inv (cxC X N scope fp s H) [] (capV n ix σ) H { s with heap := heapC s.heap scope } := by
 have kp := Qd3 s.heap scope
 have hns : (heapC s.heap scope).Ns s.heap.objs.size fun _ => none := (Heap.Ns.new s.heap (.type "dict")).keeps (pushCells_keeps _ _)
 have cells : ∀ x c, (cellsFrom (s.heap.objs.size + 1) scope.names (clOf scope.names X.env.cells [])).lookup x = some c →
   (∃ v, (heapC s.heap scope).IsCell c v) ∧ H c = none := fun x c h => by
  have h' : (cellsFrom (s.heap.push { cls := .type "dict", data := .dict #[] }).objs.size scope.names (clOf scope.names X.env.cells [])).lookup x = some c := by rw [Heap.size_push]; exact h
  rcases cellsFrom_cell _ _ _ h' with q | ⟨q, z⟩
  ·obtain ⟨_, _, ⟨v, hv⟩, hn⟩ := Qd1 I q
   exact ⟨⟨v, hv.keeps kp⟩, hn⟩
  ·refine ⟨⟨none, q⟩, I.hok.fresh ?_⟩
   rw [Heap.size_push] at z
   ac_nf
 refine ⟨Qd2 I S hfp hlt, rfl, I.bare, Un.kept kp, ⟨_, hns, fun i x v h1 h2 h3 => ?_⟩, fun x c h => (cells x c h).1, I.hok.fresh (Nat.le_refl _), fun x c h => (cells x c h).2, fun p hp => absurd (show p ∈ ([] : List (Addr × Obj)) from hp) (by simp), I.hok.kept kp, ?_⟩
 ·have h1' : N[i]? = some x := h1
  have h2' : (List.replicate n none ++ ix.map fun i => (σ[i]?).join)[i]? = some (some v) := h2
  have hi : n ≤ i := Nat.le_of_not_lt fun z => by
   rw [List.getElem?_append_left (by simpa using z), List.getElem?_replicate] at h2'
   split at h2' <;> cases h2'
  rw [List.getElem?_append_right (by simpa using hi), List.length_replicate, List.getElem?_map] at h2'
  cases e : ix[i - n]? with
  | none => rw [e] at h2'; cases h2'
  | some k =>
   rw [e] at h2'
   have hj : (σ[k]?).join = some v := Option.some.inj h2'
   have hk : σ[k]? = some (some v) := by
    cases q : σ[k]? with
    | none => rw [q] at hj; cases hj
    | some o => rw [q] at hj; exact congrArg some hj
   obtain ⟨hN, hfr⟩ := T.cap (i - n) k x e (by rw [show n + (i - n) = i by ac_nf]; exact h1')
   have hm := PySem.mem_of_lookup hfr
   have kx := S.free x hm
   obtain ⟨m, hn, hl⟩ := I.loc
   obtain ⟨u, ru, lk⟩ := hl k x v hN hk (by
    rcases kx with z | z
    ·exact .inr (.inl z)
    ·exact .inr (.inr z))
   have lk2 : ∃ c, X.env.cells.lookup x = some c ∧ s.heap.IsCell c (some u) := by
    rcases lk with ⟨z, _⟩ | ⟨_, c, hc, q⟩
    ·rcases kx with y | y <;> (rw [y] at z; cases z)
    ·exact ⟨c, hc, q⟩
   obtain ⟨c, hc, q⟩ := lk2
   refine ⟨u, ru, .inr ⟨?_, c, ?_, q.keeps kp⟩⟩
   ·show (relabel scope X.env).names.lookup x = some .cell ∨ (relabel scope X.env).names.lookup x = some .free
    rw [QdY, hfr, Option.map_some]
    by_cases hq : (NameKind.free == NameKind.free && X.env.scope.kind == .function && X.env.kindOf x == some .cell) = true
    ·rw [if_pos hq]; exact .inl rfl
    ·rw [if_neg hq]; exact .inr rfl
   ·show (cellsFrom (s.heap.objs.size + 1) scope.names (clOf scope.names X.env.cells [])).lookup x = some c
    rw [QdW _ _ _ (S.once x hm)]
    exact QdU hc scope.names [] (.inl hm) fun d hd => by cases hd
 ·show (List.replicate n none ++ ix.map fun i => (σ[i]?).join).length = N.length
  rw [List.length_append, List.length_replicate, List.length_map, T.len]
noncomputable def tComp (wi : TI) (n : Nat) (ix : List Nat) (g : TG) (tt : TT) (te : TE) : TE := fun σ H Q => wi σ H fun J H1 => ∀ l, H1 l = none → ∃ W : Nat → Nat → St → Hp → Prop, (∃ m, W 0 m (capV n ix σ) (upd H1 l (.lst []))) ∧
 ∀ i m σ' H', W i m σ' H' → (J.stop i H' ∧ Q (.ref l) H') ∨ (J.go i H' ∧ ∀ x H2, J.yld i H' x H2 → g x σ' H2 fun σ2 H3 => tt σ2 H3 fun b H4 =>
  if b = true then te σ2 H4 fun v H5 => ∃ ys, H5 l = some (.lst ys) ∧ ys.length < sizeLine ∧ ∃ m', m' < m ∧ W (i + 1) m' σ2 (upd H5 l (.lst (ys ++ [v]))) else ∃ m', m' < m ∧ W (i + 1) m' σ2 H4)
def PIfs (X : Cx) (ifs : List Expr) (tt : TT) : Prop :=
 ∀ (pins : List (Addr × Obj)) (s : Shared) (σ : St) (H : Hp) (Q : Bool → Hp → Prop), Inv X pins σ H s → tt σ H Q → wpAny (model X.prog X.w) X.A (tests ifs X.env) (TP X pins σ Q) X.xe s
theorem Qd5 : PIfs X [] (fun _ H Q => Q true H) := fun pins s σ H Q I h => wpAny_tests_nil ⟨H, I, h⟩
theorem Qd6 {c : Expr} {tt : TT} (h : PT X c tt) : PIfs X [c] tt := fun pins s σ H Q I q => wpAny_tests_one (h pins s σ H Q I q)
structure CFree (X : Cx) (pins : List (Addr × Obj)) (C : Addr) (H : Hp) (s : Shared) : Prop where
 ns : ∃ m, s.heap.Ns C m
 free : H C = none
 loc : C ≠ X.env.locals
 cell : ∀ x c, X.env.cells.lookup x = some c → c ≠ C
 sz : X.s₀.heap.objs.size ≤ C
 pin : ∀ p ∈ X.pn ++ pins, p.1 ≠ C
theorem CFree.go {C : Addr} {h' : Heap} (c : CFree X pins C H s) (I : Inv X pins σ H s) (hs : Heap.SameBut C s.heap h') : Inv X pins σ H { s with heap := h' } :=
 I.turned (t' := s.toks) (fun b o hb e => (hs.2 b hb).trans e) c.free c.loc (.inr c.sz) c.cell c.pin
theorem Qd7 {elt target iter : Expr} {ifs : List Expr} {pos : Pos} {n : Nat} {ix : List Nat} {wi : TI} {g : TG} {tt : TT} {te : TE} {use : Option (Value → Sem Unit)} {Q : Value → Shared → Prop} {QH : VK}
  (hc : X.calm = true) (S : CompScope X scope) (T : CompNames X scope N n ix) (hi : PI X target iter wi)
  (blk : ∀ (fp : List Addr) (s : Shared) (H : Hp), PG (cxC X N scope fp s H) target g ∧ PIfs (cxC X N scope fp s H) ifs tt ∧ PE (cxC X N scope fp s H) elt te)
  (hs : ∀ x, foldedSetIterable iter X.env x = pure x) (I : Inv X pins σ H s) (h : tComp wi n ix g tt te σ H QH)
  (fin : ∀ (l C : Addr) (H' : Hp) (s' : Shared), Inv X pins σ H' s' → QH (.ref l) H' → CFree X pins C H' s' → compPost (model X.prog X.w) X.A X.xe use Q (.ref l) C (.ok .next) s') :
  wpAny (model X.prog X.w) X.A (comprehension (.ListComp elt [⟨target, iter, ifs, 0⟩] scope pos) scope X.env (firstIterPos [⟨target, iter, ifs, 0⟩] pos) (newList []) false (eval iter X.env) use) Q X.xe s := by
 have hclos : closureFor scope X.env = pure (clOf scope.names X.env.cells []) := QdR fun x hx => I.ok.has x (S.free x hx)
 refine wpAny_comprehension_free rfl hs hclos S.kind S.names ?_
 refine thn (hi pins s σ H _ I h) fun v s1 h1 => thn h1 fun itv s2 h2 => ?_
 obtain ⟨it, fp, tn, J, H2, rfl, I2, TT, st2, f2, rest⟩ := h2
 refine wpAny_newObj_type (hd := by size_fits) ?_
 have hf2 : H2 s2.heap.objs.size = none := I2.hok.fresh (Nat.le_refl _)
 obtain ⟨W, ⟨m0, w0⟩, turn⟩ := rest _ hf2
 have fl : ∀ b ∈ fp, b < s2.heap.objs.size := fun b hb => by
  obtain ⟨o, e, _⟩ := TT.obj _ _ st2 b hb
  exact Heap.lt_size e
 have f3 : ∀ b ∈ fp, FpOk X pins (upd H2 s2.heap.objs.size (.lst [])) b := fun b hb => by
  obtain ⟨f0, fr⟩ := f2 b hb
  refine ⟨?_, fr⟩
  rw [Qaj (Nat.ne_of_lt (fl b hb))]
  exact f0
 have I3 : Inv X pins σ (upd H2 s2.heap.objs.size (.lst [])) { s2 with heap := s2.heap.push { cls := .type "list", dict := none, data := .seq ([] : List Value).toArray } } :=
  I2.laid (t' := s2.toks) (fun b o e => Heap.get?_push_of_some _ e) (Nat.le_refl _) ⟨Nat.zero_le _, [], 0, .nil, Heap.get?_push_size _ rfl⟩
 have tn3 : tn 0 (s2.heap.push { cls := .type "list", dict := none, data := .seq ([] : List Value).toArray }) := TT.keep _ _ _ st2 fun b hb o e => Heap.get?_push_of_some _ e
 have fl3 : ∀ b ∈ fp, b < (s2.heap.push { cls := .type "list", dict := none, data := .seq ([] : List Value).toArray }).objs.size := fun b hb => by
  rw [Heap.size_push]; exact Nat.lt_succ_of_lt (fl b hb)
 generalize s2.heap.objs.size = l at *
 generalize hs3 : ({ s2 with heap := s2.heap.push { cls := .type "list", dict := none, data := .seq ([] : List Value).toArray } } : Shared) = s3 at *
 have e3 : s2.heap.push { cls := .type "list", dict := none, data := .seq ([] : List Value).toArray } = s3.heap := by rw [← hs3]
 rw [e3] at tn3 fl3
 generalize upd H2 l (.lst []) = H3 at *
 refine QdZ ?_
 have I4 := Qd4 (N := N) (n := n) (ix := ix) I3 S T f3 fl3
 obtain ⟨bg, bt, be⟩ := blk fp s3 H3
 have tn4 : tn 0 (heapC s3.heap scope) := TT.keep _ _ _ tn3 fun b hb o e => Qd3 _ _ _ _ e
 have fr4 : ∀ b ∈ fp, H3 b = none := fun b hb => (f3 b hb).1
 show codeAny (model X.prog X.w) X.A (.compStart (.ListComp elt [⟨target, iter, ifs, 0⟩] scope pos) 0 (.ref it) (.ref l) (cxC X N scope fp s3 H3).env) (compPost (model X.prog X.w) X.A X.xe use Q (.ref l) s3.heap.objs.size) { s3 with heap := heapC s3.heap scope }
 have fpx : ∀ {σ' : St} {H' : Hp} {s' : Shared}, Inv (cxC X N scope fp s3 H3) [] σ' H' s' → (∀ b ∈ fp, H' b = none) → ∀ b ∈ fp, FpOk (cxC X N scope fp s3 H3) [] H' b := fun I' hn b hb => by
  have q := I'.ok.exf b hb
  exact ⟨hn b hb, q.1, I'.ok.exfs b hb, .inl hb, q.2, fun p hp => absurd (show p ∈ ([] : List (Addr × Obj)) from hp) (by simp)⟩
 have hc' : (cxC X N scope fp s3 H3).calm = true := hc
 have loop : codeAny (model X.prog X.w) X.A (.compLoop (.ListComp elt [⟨target, iter, ifs, 0⟩] scope pos) 0 (.ref it) (.ref l) (cxC X N scope fp s3 H3).env) (compPost (model X.prog X.w) X.A X.xe use Q (.ref l) s3.heap.objs.size) { s3 with heap := heapC s3.heap scope } := by
  refine QdP (fun k s' => ∃ i σ' H', Inv (cxC X N scope fp s3 H3) [] σ' H' s' ∧ tn i s'.heap ∧ (∀ b ∈ fp, H' b = none) ∧ W i k σ' H') ?_ m0 ⟨0, _, H3, I4, tn4, fr4, w0⟩
  rintro k s5 ⟨i, σ5, H5, I5, tn5, fr5, w5⟩
  rcases turn i k σ5 H5 w5 with ⟨stop, q⟩ | ⟨go, step⟩
  ·refine thn (TT.done (cxC X N scope fp s3 H3) rfl rfl rfl hc' i [] s5 σ5 H5 NoE I5 (fpx I5 fr5) tn5 stop) fun r s6 pq51 => ?_
   obtain ⟨hr, I6⟩ := pq51
   subst hr
   have J6 : Inv X pins σ H5 s6 := I3.call' I6.os I6.base I6.hok I6.bare fun b hb => by
    obtain ⟨g0, g1, g2, g3, g4, g5⟩ := f3 b hb
    exact ⟨g3, g1, g4, g5⟩
   obtain ⟨m, hn, _⟩ := I6.loc
   refine fin l s3.heap.objs.size H5 s6 J6 q ⟨⟨m, hn⟩, I6.free, Nat.ne_of_gt I3.lt, fun x c e => ?_, I3.sz, fun p hp => ?_⟩
   ·obtain ⟨v, z⟩ := I3.cell x c e
    exact Nat.ne_of_lt z.lt
   ·exact Nat.ne_of_lt (Heap.lt_size (I3.pin p hp).1)
  ·refine thn (TT.item (cxC X N scope fp s3 H3) rfl rfl rfl hc' i [] s5 σ5 H5 NoE I5 (fpx I5 fr5) tn5 go) fun r s6 pq52 => ?_
   obtain ⟨u, hr, h6⟩ := pq52
   subst hr
   refine thn h6 fun _ s7 pq53 => ?_
   obtain ⟨x, H7, I7, r7, y7, tn7, fr7⟩ := pq53
   have I7' := I7.pinned (fpx I7 fr7) (TT.obj _ _ tn7)
   refine thn (bg _ s7 σ5 H7 x u _ I7' r7 (step x H7 y7)) fun _ s8 pq54 => ?_
   obtain ⟨σ8, H8, I8, q8⟩ := pq54
   refine thn (bt _ s8 σ8 H8 _ I8 q8) fun ok s9 pq55 => ?_
   obtain ⟨H9, I9, q9⟩ := pq55
   have again : ∀ {s' : Shared} {H' : Hp}, Inv (cxC X N scope fp s3 H3) ([] ++ pinsAt fp s7.heap) σ8 H' s' → (∃ m', m' < k ∧ W (i + 1) m' σ8 H') →
     ∃ m, m < k ∧ ∃ i σ' H', Inv (cxC X N scope fp s3 H3) [] σ' H' s' ∧ tn i s'.heap ∧ (∀ b ∈ fp, H' b = none) ∧ W i m σ' H' := fun {s' H'} I' pq56 => by
    obtain ⟨m', hm, w'⟩ := pq56
    refine ⟨m', hm, i + 1, σ8, H', I'.unpinned, TT.keep _ _ _ tn7 fun b hb o e => (I'.pin (b, o) (List.mem_append_right _ (List.mem_append_right _ (Qa3 hb e)))).1, fun b hb => ?_, w'⟩
    obtain ⟨o, e, d⟩ := TT.obj _ _ tn7 b hb
    exact (I'.pin (b, o) (List.mem_append_right _ (List.mem_append_right _ (Qa3 hb e)))).2.1
   cases ok with
   | false => exact again I9 q9
   | true =>
    refine thn (be _ s9 σ8 H9 _ I9 q9) fun xv s10 pq57 => ?_
    obtain ⟨v, H10, I10, r10, ys, hy, hz, q10⟩ := pq57
    refine thn (QcA (X := cxC X N scope fp s3 H3) _ s10 σ8 H10 (.ref l) [v] (.ref l) [xv] (fun _ H' => H' = upd H10 l (.lst (ys ++ [v]))) I10 rfl (.cons r10 .nil) ⟨l, ys, v, rfl, rfl, hy, hz, rfl⟩) fun _ s11 pq58 => ?_
    obtain ⟨_, H11, I11, _, e⟩ := pq58
    subst e
    exact again I11 q10
 exact codeAny_compStart_list loop (TT.self _ 0 _ _ _ tn4 loop)
theorem Qd8 {elt target iter : Expr} {ifs : List Expr} {pos : Pos} {n : Nat} {ix : List Nat} {wi : TI} {g : TG} {tt : TT} {te : TE}
  (hc : X.calm = true) (S : CompScope X scope) (T : CompNames X scope N n ix) (hi : PI X target iter wi)
  (blk : ∀ (fp : List Addr) (s : Shared) (H : Hp), PG (cxC X N scope fp s H) target g ∧ PIfs (cxC X N scope fp s H) ifs tt ∧ PE (cxC X N scope fp s H) elt te)
  (hs : ∀ x, foldedSetIterable iter X.env x = pure x := by intro _; rfl) : PE X (.ListComp elt [⟨target, iter, ifs, 0⟩] scope pos) (tComp wi n ix g tt te) := by
 intro pins s σ H Q I h
 rw [eval_ListComp]
 refine Qd7 (use := none) hc S T hi blk hs I h fun l C H' s' I' q c => ?_
 obtain ⟨m, hn⟩ := c.ns
 exact ⟨m, hn, fun h' hs' => ⟨.ref l, H', c.go I' hs', rfl, q⟩⟩
theorem Qd9 {elt target iter : Expr} {ifs : List Expr} {pos pos' spos : Pos} {n i : Nat} {ix : List Nat} {wi : TI} {g : TG} {tt : TT} {te : TE} {x : Str}
  (hN : X.N.Nodup) (hi' : X.N[i]? = some x) (hx : L2.Loc X.env.scope x) (hf : X.fn x = true ∨ X.env.scope.names.lookup x = some .local)
  (hc : X.calm = true) (S : CompScope X scope) (T : CompNames X scope N n ix) (hi : PI X target iter wi)
  (blk : ∀ (fp : List Addr) (s : Shared) (H : Hp), PG (cxC X N scope fp s H) target g ∧ PIfs (cxC X N scope fp s H) ifs tt ∧ PE (cxC X N scope fp s H) elt te)
  (hsw : swapsWith (.ListComp elt [⟨target, iter, ifs, 0⟩] scope pos) (some (.Name x pos')) spos.line X.env = pure true)
  (hs : ∀ x, foldedSetIterable iter X.env x = pure x := by intro _; rfl) : PS X (.Assign [.Name x pos'] (.ListComp elt [⟨target, iter, ifs, 0⟩] scope pos) spos) (tAsg (tComp wi n ix g tt te) (gName i)) := by
 intro pins s σ H D I h
 rw [exec_Assign_Name_used _ _ _ _ hsw]
 refine wpAny_bind (wpAny_standAt (wpAny_bind ?_))
 show wpAny _ _ (comprehension (.ListComp elt [⟨target, iter, ifs, 0⟩] scope pos) scope X.env _ (newList []) false (eval iter X.env) (some (assign (.Name x pos') X.env)) >>= fun _ => pure ()) _ _ s
 refine wpAny_bind (wpAny_mono (Qd7 (use := some (assign (.Name x pos') X.env)) (Q := fun _ s' => SP X pins D .next s') hc S T hi blk hs I h fun l C H' s' I' q c => ?_) (fun _ s' hq => wpAny_pure (wpAny_pure hq)) fun _ _ e => e)
 obtain ⟨m, hn⟩ := c.ns
 refine wpAny_assign_Name (Qaq I' hN hi' hx (v := .ref l) rfl (fun s2 I2 ⟨b, hb, hb2⟩ => ?_) hf)
 have hbC : b ≠ C := by
  rcases hb2 with z | z
  ·rw [z]; exact c.loc.symm
  ·exact c.cell x b z
 refine ⟨m, hn.sameBut hb hbC.symm, fun h' hs' => ⟨_, H', ?_, q⟩⟩
 exact CFree.go ⟨⟨m, hn.sameBut hb hbC.symm⟩, c.free, c.loc, c.cell, c.sz, c.pin⟩ I2 hs'
end
end MM
namespace MM
open PySem PySem.Spec PyProof.Rows L2
section
variable {X : Cx} {a b c e : Expr} {es : List Expr} {pos : Pos} {fa fb fc : CE} {ca cb : CA} {K : PySem.W.Frag} {ρ : List Addr} {H : Hp} {st : Sto}
theorem Qea {K : PySem.W.Frag} {g : D → D → M D} {x y : V} {H : Hp} {Q : VK} (hg : ∀ d e, (∃ i j, d = D.int i ∧ e = D.int j) ∨ g d e = bad) (h : rOf K g x y H Q) :
  ∃ (i j : Int) (ρ : List Addr) (st : Sto), x = .int i ∧ y = .int j ∧ SR K ρ H st ∧ Post K ρ H (g (.int i) (.int j) st) (fun r _ ρ' H' => ∀ v, Rep K ρ' H' v r → Q v H') := by
 obtain ⟨ρ, st, d, e, sr, rx, ry, p⟩ := h
 rcases hg d e with ⟨i, j, e1, e2⟩ | hb
 ·subst e1 e2; cases rx; cases ry; exact ⟨_, _, ρ, st, rfl, rfl, sr, p⟩
 ·rw [hb] at p; exact p.elim
theorem Qeb : OpR X (binaryOp .Sub) (rOf X.K subD) := Qa9.of fun x y H Q h => by
 obtain ⟨i, j, ρ, st, rfl, rfl, sr, p⟩ := Qea (by intro d e; cases d <;> cases e <;> first | exact .inl ⟨_, _, rfl, rfl⟩ | exact .inr rfl) h
 exact ⟨_, _, rfl, rfl, p.ret sr _ (.int _)⟩
theorem Qec : OpR X (binaryOp .Mult) (rOf X.K mulD) := Qba.of fun x y H Q h => by
 obtain ⟨i, j, ρ, st, rfl, rfl, sr, p⟩ := Qea (by intro d e; cases d <;> cases e <;> first | exact .inl ⟨_, _, rfl, rfl⟩ | exact .inr rfl) h
 exact ⟨_, _, rfl, rfl, p.chk.1, p.chk.2.ret sr _ (.int _)⟩
theorem Qed : OpR X (binaryOp .FloorDiv) (rOf X.K fdivD) := Qbb.of fun x y H Q h => by
 obtain ⟨i, j, ρ, st, rfl, rfl, sr, p⟩ := Qea (by intro d e; cases d <;> cases e <;> first | exact .inl ⟨_, _, rfl, rfl⟩ | exact .inr rfl) h
 exact ⟨_, _, rfl, rfl, p.chk.1, p.chk.2.ret sr _ (.int _)⟩
theorem Qee : OpR X (binaryOp .Mod) (rOf X.K modD) := Qbc.of fun x y H Q h => by
 obtain ⟨i, j, ρ, st, rfl, rfl, sr, p⟩ := Qea (by intro d e; cases d <;> cases e <;> first | exact .inl ⟨_, _, rfl, rfl⟩ | exact .inr rfl) h
 exact ⟨_, _, rfl, rfl, p.chk.1, p.chk.2.ret sr _ (.int _)⟩
theorem Qef : OpR X (binaryOp .Pow) (rOf X.K powD) := Qbd.of fun x y H Q h => by
 obtain ⟨i, j, ρ, st, rfl, rfl, sr, p⟩ := Qea (by intro d e; cases d <;> cases e <;> first | exact .inl ⟨_, _, rfl, rfl⟩ | exact .inr rfl) h
 exact ⟨_, _, rfl, rfl, p.chk.1, p.chk.2.ret sr _ (.int _)⟩
theorem Qeg : OpR X (binaryOp .LShift) (rOf X.K shlD) := Qbe.of fun x y H Q h => by
 obtain ⟨i, j, ρ, st, rfl, rfl, sr, p⟩ := Qea (by intro d e; cases d <;> cases e <;> first | exact .inl ⟨_, _, rfl, rfl⟩ | exact .inr rfl) h
 exact ⟨_, _, rfl, rfl, p.chk.1, p.chk.2.ret sr _ (.int _)⟩
theorem Qeh : OpR X (binaryOp .RShift) (rOf X.K shrD) := Qbf.of fun x y H Q h => by
 obtain ⟨i, j, ρ, st, rfl, rfl, sr, p⟩ := Qea (by intro d e; cases d <;> cases e <;> first | exact .inl ⟨_, _, rfl, rfl⟩ | exact .inr rfl) h
 exact ⟨_, _, rfl, rfl, p.chk.1, p.chk.2.ret sr _ (.int _)⟩
theorem Qei : OpR X (compareOp .Lt) (rOf X.K ltD) := Qbi.of fun x y H Q h => by
 obtain ⟨i, j, ρ, st, rfl, rfl, sr, p⟩ := Qea (by intro d e; cases d <;> cases e <;> first | exact .inl ⟨_, _, rfl, rfl⟩ | exact .inr rfl) h
 exact ⟨_, _, rfl, rfl, p.ret sr _ (.bl _)⟩
theorem Qej : OpR X (compareOp .LtE) (rOf X.K leD) := Qbj.of fun x y H Q h => by
 obtain ⟨i, j, ρ, st, rfl, rfl, sr, p⟩ := Qea (by intro d e; cases d <;> cases e <;> first | exact .inl ⟨_, _, rfl, rfl⟩ | exact .inr rfl) h
 exact ⟨_, _, rfl, rfl, p.ret sr _ (.bl _)⟩
theorem Qek : OpR X (compareOp .Gt) (rOf X.K gtD) := Qbk.of fun x y H Q h => by
 obtain ⟨i, j, ρ, st, rfl, rfl, sr, p⟩ := Qea (by intro d e; cases d <;> cases e <;> first | exact .inl ⟨_, _, rfl, rfl⟩ | exact .inr rfl) h
 exact ⟨_, _, rfl, rfl, p.ret sr _ (.bl _)⟩
theorem Qel : OpR X (compareOp .GtE) (rOf X.K geD) := Qbl.of fun x y H Q h => by
 obtain ⟨i, j, ρ, st, rfl, rfl, sr, p⟩ := Qea (by intro d e; cases d <;> cases e <;> first | exact .inl ⟨_, _, rfl, rfl⟩ | exact .inr rfl) h
 exact ⟨_, _, rfl, rfl, p.ret sr _ (.bl _)⟩
theorem Qem : SA X [] cNil := QbH.of fun σ H Q h_ => h_.el fun ρ l st lr sr p => p.ret sr [] .nil
theorem Qen (ha : SE X e fa) (hr : SA X es ca) (hs : starEach (e :: es) X.env = (false, eval e X.env) :: starEach es X.env := by rfl) : SA X (e :: es) (cCons fa ca) :=
 (QbI ha hr hs).of fun σ H Q h_ => h_.el fun ρ l st lr sr p => ⟨ρ, l, st, lr, sr, p.bnd.imp fun d st1 ρ1 H1 x1 s1 p1 v rv => ⟨ρ1, l, st1, lr.mono x1, s1, p1.bnd.imp fun ds st2 ρ2 H2 x2 s2 p2 vs rvs => p2.ret s2 _ (.cons (rv.mono x2) rvs)⟩⟩
theorem Qeo {k : Nat} (h : SA X es ca) : SE X (.Tuple es k pos) (cTup ca) := (QbJ h).of fun σ H Q h_ => h_.el fun ρ l st lr sr p => ⟨ρ, l, st, lr, sr, p.bnd.imp fun ds st1 ρ1 H1 x1 s1 p1 vs rvs => by
 obtain ⟨hl, p2⟩ := p1.chk
 refine ⟨by rw [rvs.length]; exact hl, fun q hq => ?_⟩
 exact p2 ρ1 _ (Ex.new hq) (s1.new hq) _ (.tup (SqT.of Qai) (rvs.mono (Ex.new hq)))⟩
theorem Qep (h : SA X es ca) : SL X (.List es pos) (aDisp ca) := (QbK h).of fun σ H Q h_ => h_.el fun ρ l st lr sr p => ⟨ρ, l, st, lr, sr, p.bnd.imp fun ds st1 ρ1 H1 x1 s1 p1 vs rvs => by
 obtain ⟨hl, p2⟩ := p1.chk
 refine ⟨by rw [rvs.length]; exact hl, fun q hq => ?_⟩
 have hn : H q = none := by
  cases z : H q with
  | none => rfl
  | some o => exact absurd hq (x1.trk q o z)
 exact p2 ρ1 _ (Ex.new hq) (s1.new hq) q vs hn (s1.fresh hq) Qai (rvs.mono (Ex.new hq))⟩
theorem Post.bnd0 {α β : Type} {m : M α} {f : α → M β} {R : β → Sto → List Addr → Hp → Prop} (h : Post K ρ H (MM.bnd m f st) R) : Post K ρ H (m st) fun a st' _ _ => Post K ρ H (f a st') R := by
 unfold MM.bnd at h
 cases e : m st with
 | ok a s' =>
  rw [e] at h
  exact fun ρ' H' y s => h
 | exc _ _ => rw [e] at h; exact h
 | bad => rw [e] at h; exact h
theorem Qeq (h : SL X e ca) : SE X e (cKeep ca) := h.of fun σ H Q h_ => h_.el fun ρ l st lr sr p => ⟨ρ, l, st, lr, sr, p.bnd0.imp fun ds st1 ρ1 H1 x1 s1 p1 a vs ha na hv rvs => by
 have x : Ex ρ H (ρ1 ++ [a]) H1 := by
  obtain ⟨τ, e, f⟩ := x1.pre
  refine ⟨⟨τ ++ [a], by rw [e, List.append_assoc], fun b hb => ?_⟩, x1.fix, x1.oth, x1.knd⟩
  rcases List.mem_append.mp hb with hb | hb
  ·exact f b hb
  ·rw [List.mem_singleton] at hb; rw [hb]; exact ha
 refine p1 (ρ1 ++ [a]) H1 x (s1.keep hv na rvs) _ (.ref ⟨_, hv, rfl⟩ ?_)
 rw [← s1.len]; simp⟩
theorem _root_.L2.IxR.of {r r' : R2} (h : IxR X r) (g : ∀ x y H Q, r' x y H Q → r x y H Q) : IxR X r' := fun value slice pins s σ H x y v u Q I rx ry q hs => h value slice pins s σ H x y v u Q I rx ry (g x y H Q q) hs
theorem Post.item {ds : List D} {i : Int} {R : D → Sto → List Addr → Hp → Prop} (h : Post K ρ H (itemD ds i st) R) (s : SR K ρ H st) : ∃ k d, L2.ixN ds.length i = some k ∧ ds[k]? = some d ∧ R d st ρ H := by
 unfold itemD at h
 cases e : MM.ixN ds.length i with
 | none => rw [e] at h; exact h.elim
 | some k =>
  rw [e] at h
  cases e2 : ds[k]? with
  | none => dsimp only at h; rw [e2] at h; exact h.elim
  | some d => dsimp only at h; rw [e2] at h; exact ⟨k, d, e, e2, h.ret s⟩
theorem Qer {vs : List V} {ds : List D} {i : Int} {k : Nat} {d : D} (r : Reps K ρ H vs ds) (h1 : L2.ixN ds.length i = some k) (h2 : ds[k]? = some d) : ∃ v, atI vs i = some v ∧ Rep K ρ H v d := by
 obtain ⟨v, e, rv⟩ := r.get h2
 refine ⟨v, ?_, rv⟩
 unfold atI
 rw [r.length, h1]
 exact e
theorem Post.itemK {n : Nat} {k : D} {R : D → Sto → List Addr → Hp → Prop} (h : Post K ρ H (MM.itemK n k st) R) (s : SR K ρ H st) : ∃ b kvs d, st[n]? = some (.dct b kvs) ∧ kOk b k = true ∧ lkK kvs k = some d ∧ R d st ρ H := by
 obtain ⟨b, kvs, e, p1⟩ := Post.getDc (Post.bnd h) s
 obtain ⟨hk, p2⟩ := Post.chk p1
 cases e2 : lkK kvs k with
 | none => dsimp only at p2; rw [e2] at p2; exact p2.elim
 | some d => dsimp only at p2; rw [e2] at p2; exact ⟨b, kvs, d, e, hk, e2, p2.ret s⟩
theorem ObR.dictIs {X : Cx} {pins : List (Addr × Obj)} {σ : St} {s : Shared} {a : Addr} {b : Bool} {kvs : List (D × D)} (I : Inv X pins σ H s) (g : ObR X.K ρ H a (.dct b kvs)) : s.TypeIs (.ref a) "dict" := by
 cases b with
 | false =>
  obtain ⟨es, e, r⟩ := g
  obtain ⟨_, _, vs, _, dd⟩ := QcU I.hok e
  exact dd.typeIs
 | true =>
  obtain ⟨es, e, r⟩ := g
  obtain ⟨_, _, xs, _, dd, _⟩ := QdH I e r
  exact dd.typeIs
theorem Qes (hu : X.A.units + 60 < cLine) : IxR X (fun x y H Q => ∃ (ρ : List Addr) (st : Sto) (n : Nat) (a : Addr) (b : Bool) (kvs : List (D × D)) (k d : D), x = .ref a ∧ SR X.K ρ H st ∧ ρ[n]? = some a ∧ st[n]? = some (.dct b kvs) ∧ Rep X.K ρ H y k ∧ kOk b k = true ∧ lkK kvs k = some d ∧ ∀ v, Rep X.K ρ H v d → Q v H) := by
 intro value slice pins s σ H x y v u Q I rx ry pq94 hs; obtain ⟨ρ, st, n, a, b, kvs, k, d, ex, sr, ha, hn, rk, hk, hl, q⟩ := pq94
 subst ex
 cases rx
 have g := sr.ob n a _ ha hn
 exact tail_any (ObR.dictIs I g) PySem.F.slot_dict_getitem.lookup (QdL (by ac_nf) I g rk hk hl ry fun v w' s' I' rv rw' => ⟨v, H, I', rw', q v rv⟩) hs
theorem Qet {x y : V} {d e : D} {Q : VK} (sr : SR K ρ H st) (rx : Rep K ρ H x d) (ry : Rep K ρ H y e) (hd : ∀ n, d ≠ .dic n) (p : Post K ρ H (subsD d e st) fun r _ ρ' H' => ∀ v, Rep K ρ' H' v r → Q v H') : rIx K x y H Q := by
 cases ry with
 | int i =>
  cases rx with
  | dic _ _ => exact absurd rfl (hd _)
  | tup h r =>
   obtain ⟨k, d, h1, h2, q⟩ := Post.item p sr
   obtain ⟨v, h3, rv⟩ := Qer r h1 h2
   exact .inr (.inl ⟨_, _, i, v, rfl, rfl, h, h3, q v rv⟩)
  | lit h r =>
   obtain ⟨k, d, h1, h2, q⟩ := Post.item p sr
   obtain ⟨v, h3, rv⟩ := Qer r h1 h2
   exact .inl ⟨_, _, i, v, rfl, rfl, h.seq, h3, q v rv⟩
  | ref _ h =>
   obtain ⟨xs, e, p1⟩ := Post.getL (Post.bnd p) sr
   obtain ⟨a, vs, ha, hv, r⟩ := sr.seq e
   rw [h] at ha; cases ha
   obtain ⟨k, d, h1, h2, q⟩ := Post.item p1 sr
   obtain ⟨v, h3, rv⟩ := Qer r h1 h2
   exact .inl ⟨_, _, i, v, rfl, rfl, SqL.of hv, h3, q v rv⟩
  | str z =>
   obtain ⟨hz, p1⟩ := Post.chk p
   cases e : MM.ixN z.length i with
   | none => rw [e] at p1; exact p1.elim
   | some k =>
    rw [e] at p1
    cases e2 : z.cps.toList[k]? with
    | none => dsimp only at p1; rw [e2] at p1; exact p1.elim
    | some c =>
     dsimp only at p1
     rw [e2] at p1
     refine .inr (.inr ⟨z, i, c, rfl, rfl, hz, ?_, p1.ret sr _ (.str _)⟩)
     unfold atI
     rw [show z.cps.toList.length = z.length by simp [Str.length]]
     show (L2.ixN z.length i).bind _ = _
     rw [show L2.ixN z.length i = some k from e]
     exact e2
  | _ => exact p.elim
 | _ => cases rx <;> first | exact absurd rfl (hd _) | exact p.elim
theorem ixd (hu : X.A.units + 60 < cLine) : IxR X (rOf X.K subsD) := (Qcg.or (Qes hu)).of fun x y H Q pq60 => by
 obtain ⟨ρ, st, d, e, sr, rx, ry, p⟩ := pq60
 by_cases hd : ∃ n, d = .dic n
 ·obtain ⟨n, rfl⟩ := hd
  cases rx with
  | @dic a n _ h =>
   have p' : Post X.K ρ H (itemK n e st) fun r _ ρ' H' => ∀ (v : V), Rep X.K ρ' H' v r → Q v H' := by cases ry <;> exact p
   obtain ⟨b, kvs, d, e1, hk, hl, q⟩ := Post.itemK p' sr
   exact .inr ⟨ρ, st, n, a, b, kvs, e, d, rfl, sr, h, e1, ry, hk, hl, q⟩
 ·exact .inl (Qet sr rx ry (fun n z => hd ⟨n, z⟩) p)
theorem Qeu (hu : X.A.units + 60 < cLine) (ha : SE X a fa) (hb : SE X b fb) (hs : PlainIx b) : SE X (.Subscript a b pos) (c2 subsD fa fb) := (Qcc (ixd hu) ha hb hs).of (Qdq fun _ _ _ _ h => h)
theorem Qev (ha : SL X a ca) (hb : SE X b fb) (hs : PlainIx b) : SE X (.Subscript a b pos) (cTmpSub ca fb) := (Qcc Qcd ha hb hs).of fun σ H Q h_ => h_.el fun ρ l st lr sr p =>
 ⟨ρ, l, st, lr, sr, p.bnd.imp fun ds st1 ρ1 H1 x1 s1 p1 a vs ha na hv rvs => ⟨ρ1, l, st1, lr.mono x1, s1, p1.bnd.imp fun e st2 ρ2 H2 x2 s2 p2 u ru => by
  cases ru with
  | int i =>
   obtain ⟨k, d, h1, h2, q⟩ := Post.item p2 s2
   obtain ⟨v, h3, rv⟩ := Qer (rvs.mono x2) h1 h2
   exact ⟨a, vs, i, v, rfl, rfl, SqL.of (x2.lst a vs na hv), h3, q v rv⟩
  | _ => exact p2.elim⟩⟩
theorem Qew {CX : CXT} {k n : Nat} {f : Addr} {fd : FuncData} {ps : List Str} {g : List D → M D} {x : Str} {p : Pos} (F : FnOk X.prog X.w X.K X.mg X.base CX k f fd ps (spOf X.K n g)) (hr : Room k X.A) (hg : Gl X x) (hm : X.mg x = some (.ref f))
  (hk : PySem.W.keepIn X.K (.ref f) = true) (hb : Binds X.K fd ps []) (hx : Passes CX X E0) (ha : SA X (e :: es) ca) (hn : ∀ l st ds st', ca l st = .ok ds st' → ds.length = n) (hdb : (x == ("__debug__" : Str)) = false := by decide)
  (he : starEach (e :: es) X.env = (false, eval e X.env) :: starEach es X.env := by rfl) (hpl : (backTo pos (starEach es X.env)).any (·.1) = false := by rfl) : SE X (.Call (.Name x p) (e :: es) [] pos) (cCall g ca) :=
 (QbM F hr hg hm hk hb .nil hx ha hdb he hpl).of fun σ H Q h_ => h_.el fun ρ l st lr sr p => ⟨ρ, l, st, lr, sr, by
  have q := Post.bnd p
  cases ec : ca l st with
  | bad => rw [ec] at q; exact q
  | exc _ _ => rw [ec] at q; exact q
  | ok ds st1 =>
   rw [ec] at q
   intro ρ1 H1 x1 s1 vs rvs
   refine ⟨by rw [List.append_nil, rvs.length]; exact hn l st ds st1 ec, ρ1, st1, ds, s1, by rw [List.append_nil]; exact rvs, q ρ1 H1 x1 s1⟩⟩
variable {ta tb : CT}
theorem Qex {d : D} {v : V} {R : Bool → Sto → List Addr → Hp → Prop} (p : Post K ρ H (truD d st) R) (sr : SR K ρ H st) (rv : Rep K ρ H v d) : ∃ k, TruV K v H k ∧ R k st ρ H := by
 cases rv with
 | non => exact ⟨false, rfl, p.ret sr⟩
 | bl b => exact ⟨b, rfl, p.ret sr⟩
 | int i => exact ⟨_, rfl, p.ret sr⟩
 | str x => exact ⟨_, ⟨(Post.chk p).1, rfl⟩, (Post.chk p).2.ret sr⟩
 | @tup a vs ds h r =>
  refine ⟨!vs.isEmpty, .inr (.inl ⟨vs, h, rfl⟩), ?_⟩
  have : vs.isEmpty = ds.isEmpty := by
   have := r.length
   cases vs <;> cases ds <;> simp_all
  rw [this]; exact p.ret sr
 | @lit a vs ds h r =>
  refine ⟨!vs.isEmpty, .inl ⟨vs, h.seq, rfl⟩, ?_⟩
  have : vs.isEmpty = ds.isEmpty := by
   have := r.length
   cases vs <;> cases ds <;> simp_all
  rw [this]; exact p.ret sr
 | ref _ h =>
  obtain ⟨ds, e, p1⟩ := Post.getL (Post.bnd p) sr
  obtain ⟨a, vs, ha, hv, r⟩ := sr.seq e
  rw [h] at ha; cases ha
  refine ⟨!vs.isEmpty, .inl ⟨vs, SqL.of hv, rfl⟩, ?_⟩
  have : vs.isEmpty = ds.isEmpty := by
   have := r.length
   cases vs <;> cases ds <;> simp_all
  rw [this]; exact p1.ret sr
 | dic _ _ => exact p.elim
 | exn0 _ _ => exact p.elim
 | exn _ _ _ _ => exact p.elim
theorem Qey (ha : SE X a fa) (he : ∀ whole, isTrue a X.env whole = (do let v ← whole; standAt a.pos; holding [v] (truthy v)) := by intro _; rfl) : ST X a (tVal fa) :=
 (Qbw ha he).of fun σ H Q h_ => h_.el fun ρ l st lr sr p => ⟨ρ, l, st, lr, sr, p.bnd.imp fun d st1 ρ1 H1 x1 s1 p1 v rv => Qex p1 s1 rv⟩
theorem Qez {op : CmpOp} {g : D → D → M D} (ho : OpR X (compareOp op) (rOf X.K g)) (ha : SE X a fa) (hb : SE X b fb) (hm : behindInMarks op b = false) : ST X (.Compare a [op] [b] pos) (tCmpB (c2 g fa fb)) :=
 (Qbq ho ha hb hm).of fun σ H Q h_ => h_.el fun ρ l st lr sr p => Qdq (X := X) (fun _ _ _ _ h => h) _ _ _ ⟨ρ, l, st, lr, sr, p.bnd.imp fun d st1 ρ1 H1 x1 s1 p1 v rv => by
  cases rv with
  | bl k => exact ⟨k, rfl, p1.ret s1⟩
  | _ => exact p1.elim⟩
theorem QeA (ha : ST X a ta) : PW X (.BoolOp .And [a] pos) (ttOf X.K ta) := QaA ha
theorem QeB (ha : ST X a ta) : PW X (.BoolOp .Or [a] pos) (ttOf X.K ta) := QaB ha
theorem _root_.L2.PW.of {e : Expr} {t t' : TT} (h : PW X e t) (f : ∀ σ H Q, t' σ H Q → t σ H Q) : PW X e t' := fun whole pins s σ H Q I q => h whole pins s σ H Q I (f σ H Q q)
theorem QeC {rest : List Expr} (ha : ST X a ta) (hb : PW X (.BoolOp .And (b :: rest) pos) (ttOf X.K tb)) : PW X (.BoolOp .And (a :: b :: rest) pos) (ttOf X.K (tAndB ta tb)) :=
 (QaC ha hb).of fun σ H Q h_ => h_.el fun ρ l st lr sr p => ⟨ρ, l, st, lr, sr, p.bnd.imp fun c st1 ρ1 H1 x1 s1 p1 => by
  cases c with
  | true => exact ⟨ρ1, l, st1, lr.mono x1, s1, p1⟩
  | false => exact p1.ret s1⟩
theorem QeD {rest : List Expr} (ha : ST X a ta) (hb : PW X (.BoolOp .Or (b :: rest) pos) (ttOf X.K tb)) : PW X (.BoolOp .Or (a :: b :: rest) pos) (ttOf X.K (tOrB ta tb)) :=
 (QaD ha hb).of fun σ H Q h_ => h_.el fun ρ l st lr sr p => ⟨ρ, l, st, lr, sr, p.bnd.imp fun c st1 ρ1 H1 x1 s1 p1 => by
  cases c with
  | true => exact p1.ret s1
  | false => exact ⟨ρ1, l, st1, lr.mono x1, s1, p1⟩⟩
theorem QeE (ha : ST X a ta) : ST X (.UnaryOp .Not a pos) (tNotB ta) := (QaE ha).of fun σ H Q h_ => h_.el fun ρ l st lr sr p => ⟨ρ, l, st, lr, sr, p.bnd.imp fun c st1 ρ1 H1 x1 s1 p1 => p1.ret s1⟩
theorem QeF {op : BoolOp} (h : SE X a fa) : SE X (.BoolOp op [a] pos) fa := QaF h
theorem QeG {rest : List Expr} (ha : SE X a fa) (hb : SE X (.BoolOp .And (b :: rest) pos) fb) : SE X (.BoolOp .And (a :: b :: rest) pos) (cAnd fa fb) :=
 (QaG ha hb).of fun σ H Q h_ => h_.el fun ρ l st lr sr p => ⟨ρ, l, st, lr, sr, p.bnd.imp fun d st1 ρ1 H1 x1 s1 p1 v rv => by
  cases rv with
  | bl c =>
   refine ⟨c, rfl, ?_⟩
   cases c with
   | true => exact ⟨ρ1, l, st1, lr.mono x1, s1, p1⟩
   | false => exact p1.ret s1 _ (.bl false)
  | _ => exact p1.elim⟩
theorem QeH (ha : SE X a fa) : SE X (.UnaryOp .Not a pos) (cNot fa) := (QaH ha).of fun σ H Q h_ => h_.el fun ρ l st lr sr p => ⟨ρ, l, st, lr, sr, p.bnd.imp fun d st1 ρ1 H1 x1 s1 p1 v rv => by
  cases rv with
  | bl c => exact ⟨c, rfl, p1.ret s1 _ (.bl _)⟩
  | _ => exact p1.elim⟩
theorem QeI {f g : D → D → M D} : ∀ σ H Q, tOf X.K (cChain f g fa fb fc) σ H Q → tChain (rOf X.K f) (rOf X.K g) (tOf X.K fa) (tOf X.K fb) (tOf X.K fc) σ H Q := fun σ H Q h_ => h_.el fun ρ l st lr sr p =>
 ⟨ρ, l, st, lr, sr, p.bnd.imp fun d st1 ρ1 H1 x1 s1 p1 v rv => ⟨ρ1, l, st1, lr.mono x1, s1, p1.bnd.imp fun e st2 ρ2 H2 x2 s2 p2 u ru => ⟨ρ2, st2, d, e, s2, rv.mono x2, ru, p2.bnd.imp fun z st3 ρ3 H3 x3 s3 p3 w rw' => by
  cases rw' with
  | bl k =>
   refine ⟨k, rfl, ?_⟩
   cases k with
   | true => exact ⟨ρ3, l, st3, (lr.mono x1).mono (x2.trans x3), s3, p3.bnd.imp fun t st4 ρ4 H4 x4 s4 p4 q rq => ⟨ρ4, st4, e, t, s4, (ru.mono x3).mono x4, rq, p4⟩⟩
   | false => exact p3.ret s3 _ (.bl false)
  | _ => exact p3.elim⟩⟩⟩
theorem QeJ {op op' : CmpOp} {f g : D → D → M D} (ho : OpR X (compareOp op) (rOf X.K f)) (ho' : OpR X (compareOp op') (rOf X.K g)) (ha : SE X a fa) (hb : SE X b fb) (hc : SE X c fc)
  (hm : lastMarks [op, op'] [b, c] = false := by with_unfolding_all rfl) : SE X (.Compare a [op, op'] [b, c] pos) (cChain f g fa fb fc) := (Qbr ho ho' ha hb hc hm).of QeI
end
end MM
namespace MM
open PySem PySem.Spec PyProof.Rows L2
theorem LR.set {K : PySem.W.Frag} {ρ : List Addr} {H : Hp} {σ : St} {l : Loc} {v : V} {d : D} (h : LR K ρ H σ l) (i : Nat) (r : Rep K ρ H v d) : LR K ρ H (σ.set i (some v)) (l.set i (some d)) := by
 refine ⟨by simp [h.1], fun j e q => ?_⟩
 by_cases z : i = j
 ·subst z
  by_cases hl : i < l.length
  ·rw [List.getElem?_set_self hl] at q
   cases q
   exact ⟨v, by rw [List.getElem?_set_self (by rw [h.1]; exact hl)], r⟩
  ·rw [List.getElem?_eq_none (by simp; ac_nf)] at q; cases q
 ·rw [List.getElem?_set_ne z] at q
  obtain ⟨w, e1, r1⟩ := h.2 j e q
  exact ⟨w, by rw [List.getElem?_set_ne z]; exact e1, r1⟩
theorem LR.start {K : PySem.W.Frag} {ρ : List Addr} {H : Hp} {N : List Str} {vs : List V} {ds : List D} (r : Reps K ρ H vs ds) : LR K ρ H (L2.start N vs) (ds.map some ++ List.replicate (N.length - ds.length) none) := by
 have hl := r.length
 unfold L2.start
 refine ⟨by simp [hl], fun i d e => ?_⟩
 by_cases hi : i < ds.length
 ·rw [List.getElem?_append_left (by simpa using hi), List.getElem?_map] at e
  cases q : ds[i]? with
  | none => rw [q] at e; cases e
  | some d' =>
   rw [q] at e
   have e' : d' = d := Option.some.inj (Option.some.inj e)
   subst e'
   obtain ⟨v, hv, rv⟩ := r.get q
   refine ⟨v, ?_, rv⟩
   rw [List.getElem?_append_left (by simp; ac_nf), List.getElem?_map, hv]; rfl
 ·rw [List.getElem?_append_right (by simpa using hi), List.getElem?_replicate] at e
  split at e <;> cases e
section
variable {X : Cx} {a b c e tg : Expr} {es : List Expr} {s : Stmt} {ss : List Stmt} {pos : Pos} {fa fb fc : CE} {ca cb : CA} {ta tb : CT} {cs cr : CS} {K : PySem.W.Frag} {ρ : List Addr} {H : Hp} {st : Sto}
abbrev SG (X : Cx) (e : Expr) (g : CG) : Prop := PG X e (tgOf X.K g)
abbrev SGs (X : Cx) (e : List Expr) (g : List D → Loc → M Loc) : Prop := PGs X e (tgsOf X.K g)
theorem QeK {i : Nat} {x : Str} (h : PG X (.Name x pos) (gName i)) : SG X (.Name x pos) (gVar i) := h.of fun v σ H Q pq61 => by obtain ⟨ρ, l, st, d, lr, sr, rv, p⟩ := pq61; exact p.ret sr _ (lr.set i rv)
theorem QeL : SGs X [] gsNil := QaO.of fun vs σ H Q pq62 => by
 obtain ⟨ρ, l, st, ds, lr, sr, rvs, p⟩ := pq62
 cases rvs with
 | nil => exact ⟨rfl, p.ret sr σ lr⟩
 | cons _ _ => exact p.elim
theorem QeM {g : CG} {r : List D → Loc → M Loc} (h1 : SG X e g) (h2 : SGs X es r) (hs : (assignEach (e :: es) X.env).map (·.2) = assign e X.env :: (assignEach es X.env).map (·.2) := by rfl) : SGs X (e :: es) (gsCons g r) :=
 (QaP h1 h2 hs).of fun vs σ H Q pq63 => by
  obtain ⟨ρ, l, st, ds, lr, sr, rvs, p⟩ := pq63
  cases rvs with
  | nil => exact p.elim
  | cons rv rt => exact ⟨_, _, rfl, ρ, l, st, _, lr, sr, rv, (Post.bnd p).imp fun l1 st1 ρ1 H1 x1 s1 p1 σ1 lr1 => ⟨ρ1, l1, st1, _, lr1, s1, rt.mono x1, p1⟩⟩
theorem QeN {k n : Nat} {r : List D → Loc → M Loc} (hc : X.calm = true) (h : SGs X es r) (hn : (assignEach es X.env).length = n := by rfl) (hst : (assignEach es X.env).findIdx? (·.1) = none := by rfl) : SG X (.Tuple es k pos) (gTupD n r) :=
 (QaQ hc h hn hst).of fun v σ H Q pq64 => by
  obtain ⟨ρ, l, st, d, lr, sr, rv, p⟩ := pq64
  cases rv with
  | tup h r => exact ⟨_, _, rfl, h, by rw [r.length]; exact (Post.chk p).1, ρ, l, st, _, lr, sr, r, (Post.chk p).2⟩
  | _ => exact p.elim
theorem QeO : SSs X [] sNext := QaI.of fun G σ H h_ => h_.el fun ρ l st lr sr p => p.ret sr σ lr
theorem QeP (h1 : SS X s cs) (h2 : SSs X ss cr) : SSs X (s :: ss) (sSeq cs cr) := (QaJ h1 h2).of fun G σ H h_ => h_.el fun ρ l st lr sr p => ⟨ρ, l, st, lr, sr, p.bnd.imp fun f st1 ρ1 H1 x1 s1 p1 => by
 cases f with
 | next l' => exact fun σ' lr' => ⟨ρ1, l', st1, lr', s1, p1⟩
 | ret d => exact p1.ret s1
 | brk l' => exact p1.ret s1
 | cnt l' => exact p1.ret s1⟩
theorem QeQ (h : SE X e fa) : SS X (.Return (some e) pos) (sRet fa) := (QaL h).of fun G σ H h_ => h_.el fun ρ l st lr sr p => ⟨ρ, l, st, lr, sr, p.bnd.imp fun d st1 ρ1 H1 x1 s1 p1 v rv => p1.ret s1 v rv⟩
theorem QeR (h : SE X e fa) (hs : swapsWith e none pos.line X.env = pure false := by rfl) : SS X (.Expr e pos) (sExp fa) := (QaK h hs).of fun G σ H h_ => h_.el fun ρ l st lr sr p =>
 ⟨ρ, l, st, lr, sr, p.bnd.imp fun d st1 ρ1 H1 x1 s1 p1 v rv => p1.ret s1 σ (lr.mono x1)⟩
theorem QeS (hc : ST X c ta) (ha : SSs X ss cs) {sr : List Stmt} (hb : SSs X sr cr) : SS X (.If c ss sr pos) (sIf ta cs cr) := (QaM hc ha hb).of fun G σ H h_ => h_.el fun ρ l st lr sr p =>
 ⟨ρ, l, st, lr, sr, p.bnd.imp fun k st1 ρ1 H1 x1 s1 p1 => by
  cases k with
  | true => exact ⟨ρ1, l, st1, lr.mono x1, s1, p1⟩
  | false => exact ⟨ρ1, l, st1, lr.mono x1, s1, p1⟩⟩
theorem QeT {g : CG} {te : TE} {tg : TG} (he : ∀ σ H Q, tOf X.K fa σ H Q → te σ H Q) (hg : ∀ v σ H Q, tgOf X.K g v σ H Q → tg v σ H Q) : ∀ G σ H, tsOf X.K (sAsg g fa) G σ H → tAsg te tg G σ H := fun G σ H h_ => h_.el fun ρ l st lr sr p =>
 he _ _ _ ⟨ρ, l, st, lr, sr, p.bnd.imp fun d st1 ρ1 H1 x1 s1 p1 v rv => hg _ _ _ _ ⟨ρ1, l, st1, d, lr.mono x1, s1, rv, p1.bnd.imp fun l2 st2 ρ2 H2 x2 s2 p2 σ2 lr2 => p2.ret s2 σ2 lr2⟩⟩
theorem QeU {i : Nat} : ∀ v σ H Q, tgOf X.K (gVar i) v σ H Q → gName i v σ H Q := fun v σ H Q pq65 => by obtain ⟨ρ, l, st, d, lr, sr, rv, p⟩ := pq65; exact p.ret sr _ (lr.set i rv)
theorem QeV {i : Nat} {x : Str} {pos' : Pos} (hN : X.N.Nodup) (hi : X.N[i]? = some x) (hx : L2.Loc X.env.scope x) (he : SE X e fa) (hs : swapsWith e (some (.Name x pos')) pos.line X.env = pure false := by rfl)
  (hf : X.fn x = true ∨ X.env.scope.names.lookup x = some .local := by first | exact .inl rfl | exact .inr rfl | assumption) : SS X (.Assign [.Name x pos'] e pos) (sAsg (gVar i) fa) :=
 (QaT hN hi hx he hs hf).of (QeT (fun _ _ _ h => h) QeU)
theorem QeW {g : CG} (he : SE X e fa) (hg : SG X tg g) (hs : swapsWithSole [tg] e pos.line X.env = pure false := by rfl) (hw : swappedStores [tg] e X.env = pure none := by rfl)
  (h1 : (assignEach [tg] X.env).map (·.2) = [assign tg X.env] := by rfl) : SS X (.Assign [tg] e pos) (sAsg g fa) := (QaS he hg hs hw h1).of (QeT (fun _ _ _ h => h) fun _ _ _ _ h => h)
theorem Post.storeK {n : Nat} {k v : D} {R : Unit → Sto → List Addr → Hp → Prop} (h : Post K ρ H (MM.storeK n k v st) R) (s : SR K ρ H st) : ∃ b kvs, st[n]? = some (.dct b kvs) ∧ kOk b k = true ∧ kvs.length < lim ∧ Post K ρ H (.ok () (st.set n (.dct b (ptK kvs k v)))) R := by
 obtain ⟨b, kvs, e, p1⟩ := Post.getDc (Post.bnd h) s
 obtain ⟨⟨hk, hl⟩, p2⟩ := Post.chk p1
 refine ⟨b, kvs, e, hk, hl, ?_⟩
 unfold putDc at p2
 rw [e] at p2
 simpa using p2
noncomputable def rSetD (X : Cx) : V → V → V → Hp → (Hp → Prop) → Prop := fun o i v H Q => ∃ (ρ : List Addr) (st : Sto) (n : Nat) (a : Addr) (b : Bool) (kvs : List (D × D)) (k d : D), o = .ref a ∧ SR X.K ρ H st ∧ ρ[n]? = some a ∧ st[n]? = some (.dct b kvs) ∧ Rep X.K ρ H i k ∧ kOk b k = true ∧ kvs.length < sizeLine ∧ Rep X.K ρ H v d ∧
 ∀ H', SR X.K ρ H' (st.set n (.dct b (ptK kvs k d))) → Ex ρ H ρ H' → Q H'
theorem QeX (hu : X.A.units + 60 < cLine) : PSet X (rSetD X) := by
 intro pins s σ H o i v ov iv u Q I ro ri rv pq95; obtain ⟨ρ, st, n, a, b, kvs, k, d, eo, sr, ha, hn, rk, hk, hl, rd, q⟩ := pq95
 subst eo
 cases ro
 exact QdO (by ac_nf) I sr ha hn rk hk hl rd ri rv fun H' s' I' s3 x3 => ⟨H', I', q H' s3 x3⟩
theorem _root_.L2.PSet.or {t t' : TSet} (h : PSet X t) (h' : PSet X t') : PSet X (fun o i v H Q => t o i v H Q ∨ t' o i v H Q) := by
 intro pins s σ H o i v ov iv u Q I ro ri rv q
 rcases q with q | q
 ·exact h pins s σ H o i v ov iv u Q I ro ri rv q
 ·exact h' pins s σ H o i v ov iv u Q I ro ri rv q
theorem QeY {to ti : CE} {o i : Expr} (hu : X.A.units + 60 < cLine) (ho : SE X o to) (hi : SE X i ti)
  (ha : ∀ v, assign (.Subscript o i pos) X.env v = (do
   let ov ← holding [v] (eval o X.env)
   let iv ← holding [v, ov] (eval i X.env)
   standAt pos
   holding [v, ov, iv] (setItem ov iv v)
   release [v, ov, iv] []) := by intro _; rfl) : SG X (.Subscript o i pos) (gSubD to ti) :=
 (QaR ho hi (Qci.or (QeX hu)) ha).of fun v σ H Q pq66 => by obtain ⟨ρ, l, st, d, lr, sr, rv, p⟩ := pq66; exact ⟨ρ, l, st, lr, sr, p.bnd.imp fun y st1 ρ1 H1 x1 s1 p1 u ru => ⟨ρ1, l, st1, lr.mono x1, s1, p1.bnd.imp fun z st2 ρ2 H2 x2 s2 p2 w rw' => by
  have ru2 := ru.mono x2
  have rd : Rep X.K ρ2 H2 v d := (rv.mono x1).mono x2
  cases ru2 with
  | ref _ h =>
   cases rw' with
   | int k =>
    obtain ⟨ds, e, p3⟩ := Post.getL (Post.bnd (Post.bnd p2)) s2
    obtain ⟨a, vs, ha, hv, r⟩ := s2.seq e
    rw [h] at ha; cases ha
    cases e2 : MM.ixN ds.length k with
    | none => rw [e2] at p3; exact p3.elim
    | some j =>
     rw [e2] at p3
     have hl := (List.getElem?_eq_some_iff.mp e).1
     obtain ⟨s3, x3⟩ := s2.put hl h hv (r.set j rd)
     refine .inl ⟨_, vs, k, j, rfl, rfl, hv, by rw [r.length]; exact e2, ?_⟩
     have p4 : Post X.K ρ2 H2 (putL _ (ds.set j d) st2) _ := p3
     unfold putL at p4
     rw [e] at p4
     exact (p4 ρ2 _ x3 s3).ret s3 σ (((lr.mono x1).mono x2).mono x3)
   | _ => exact (Post.bnd p2).elim
  | @dic a n _ h =>
   have p' : Post X.K ρ2 H2 (storeK n z d st2) fun a st' ρ' H' => Post X.K ρ' H' (MM.ret l st') fun l' _ ρ' H' => ∀ σ', LR X.K ρ' H' σ' l' → Q σ' H' := by cases rw' <;> exact Post.bnd p2
   obtain ⟨b, kvs, e1, hk, hl, q⟩ := Post.storeK p' s2
   exact .inr ⟨ρ2, st2, n, a, b, kvs, z, d, rfl, s2, h, e1, rw', hk, hl, rd, fun H3 s3 x3 => (q ρ2 H3 x3 s3).ret s3 σ (((lr.mono x1).mono x2).mono x3)⟩
  | _ => exact (Post.bnd p2).elim⟩⟩
theorem QeZ {P : Program} {w : World} {K : PySem.W.Frag} {mg : Str → Option Value} {base : Heap} {x qual : Str} {sd : Stmt} {f : Addr} {fd : FuncData} {N ps : List Str} {k : Nat} {body : CS} (F : Fun K x qual sd f fd) (S : FnScope N ps (defScope sd))
  (hbody : ∀ (cdv : Value) (A : Around) (outer : List Env) (s : Shared) (H : Hp) (E : XK), Room k (A.deeper (envOfC qual (defScope sd) s.heap.objs.size f cdv)) → SSs (cxOf CX0 P w K mg base N qual (defScope sd) f cdv A outer s H E).nox (defBody sd) body) :
  FnOk P w K mg base CX0 (k + 1) f fd ps (spOf K ps.length (runDef N.length body)) := by
 refine F.ok S (fun vs H Q E h => h.1) (fun cdv A outer s H vs Q E hr h => ⟨_, hbody cdv A outer s H E hr, ?_⟩)
 obtain ⟨hl, ρ, st, ds, sr, rvs, p⟩ := h
 refine ⟨ρ, _, st, LR.start rvs, sr, ?_⟩
 unfold runDef at p
 exact p.bnd.imp fun f st1 ρ1 H1 x1 s1 p1 => by
  cases f with
  | next l => exact fun σ' _ => p1.ret s1 _ .non
  | ret d => exact fun v rv => p1.ret s1 v rv
  | brk l => exact p1.elim
  | cnt l => exact p1.elim
def ItR (K : PySem.W.Frag) (ρ0 : List Addr) (H0 : Hp) (w : Wk) (J : It) : Prop := ∀ ρ H st, Ex ρ0 H0 ρ H → SR K ρ H st → w.same st → J.stop w.ds.length H ∧ ∀ (i : Nat) (d : D), w.ds[i]? = some d → J.go i H ∧ ∀ x H', J.yld i H x H' → Ex ρ H ρ H' ∧ SR K ρ H' st ∧ Rep K ρ H' x d
noncomputable def tiOf (K : PySem.W.Frag) (f : CI) : TI := fun σ H R => ∃ ρ l st, LR K ρ H σ l ∧ SR K ρ H st ∧ Post K ρ H (f l st) fun w _ ρ' H' => ∀ J, ItR K ρ' H' w J → R J H'
abbrev SI (X : Cx) (tg e : Expr) (f : CI) : Prop := PI X tg e (tiOf X.K f)
theorem _root_.L2.PI.of {tg e : Expr} {t t' : TI} (h : PI X tg e t) (f : ∀ σ H R, t' σ H R → t σ H R) : PI X tg e t' := fun pins s σ H R I q => h pins s σ H R I (f σ H R q)
theorem Qe0 {ρ0 : List Addr} {H0 : Hp} {ds : List D} {p : Sto → Prop} {a : Addr} (h : ∀ ρ H st, Ex ρ0 H0 ρ H → SR K ρ H st → p st → ∃ vs, SqL K H a vs ∧ Reps K ρ H vs ds) : ItR K ρ0 H0 ⟨ds, p⟩ (Itl K a) := fun ρ H st x s q => by
 obtain ⟨vs, hv, r⟩ := h ρ H st x s q
 refine ⟨⟨vs, hv, by rw [r.length]; exact Nat.le_refl _⟩, fun i d e => ?_⟩
 obtain ⟨v, e1, rv⟩ := r.get e
 refine ⟨⟨vs, v, hv, e1⟩, fun y H' pq67 => ?_⟩
 obtain ⟨e2, e3⟩ := pq67
 subst e2
 have := e3 vs hv
 rw [e1] at this; cases this
 exact ⟨Ex.refl, s, rv⟩
theorem Qe1 {ρ0 : List Addr} {H0 : Hp} {ds : List D} {p : Sto → Prop} {a : Addr} (h : ∀ ρ H st, Ex ρ0 H0 ρ H → SR K ρ H st → p st → ∃ vs, SqT K H a vs ∧ Reps K ρ H vs ds) : ItR K ρ0 H0 ⟨ds, p⟩ (Itt K a) := fun ρ H st x s q => by
 obtain ⟨vs, hv, r⟩ := h ρ H st x s q
 refine ⟨⟨vs, hv, by rw [r.length]; exact Nat.le_refl _⟩, fun i d e => ?_⟩
 obtain ⟨v, e1, rv⟩ := r.get e
 refine ⟨⟨vs, v, hv, e1⟩, fun y H' pq68 => ?_⟩
 obtain ⟨e2, e3⟩ := pq68
 subst e2
 have := e3 vs hv
 rw [e1] at this; cases this
 exact ⟨Ex.refl, s, rv⟩
theorem Qe2 {ρ0 : List Addr} {H0 : Hp} {lo : Int} {n : Nat} : ItR K ρ0 H0 ⟨rngD lo n, anySt⟩ (Itr lo n) := fun ρ H st x s _ => by
 refine ⟨by show n ≤ (rngD lo n).length; unfold rngD; simp, fun i d e => ?_⟩
 have hi : i < n := by
  have := (List.getElem?_eq_some_iff.mp e).1
  simpa [rngD] using this
 refine ⟨hi, fun y H' pq69 => ?_⟩
 obtain ⟨e2, e3⟩ := pq69
 subst e2 e3
 have : d = .int (lo + (i : Nat)) := by
  unfold rngD at e
  rw [List.getElem?_map, List.getElem?_range hi] at e
  exact (Option.some.inj e).symm
 subst this
 exact ⟨Ex.refl, s, .int _⟩
theorem Qe3 {l : Expr} {tl : TE} (hl : PE X l tl) : PI X tg l (fun σ H R => tl σ H fun x H1 => ∃ a, x = .ref a ∧ ((∃ xs, SqL X.K H1 a xs) ∧ R (Itl X.K a) H1 ∨ (∃ xs, SqT X.K H1 a xs) ∧ R (Itt X.K a) H1)) := by
 intro pins s σ H R I h
 refine thn (hl pins s σ H _ I h) fun v s1 pq70 => ?_
 obtain ⟨x, H1, I1, r1, a, e, q⟩ := pq70
 subst e
 cases r1
 rcases q with ⟨⟨xs, hq⟩, q⟩ | ⟨⟨xs, hq⟩, q⟩
 ·obtain ⟨its, rv, p, hz⟩ := I1.list hq
  refine wpAny_pyIter_list p.isList ?_
  refine ⟨s1.heap.objs.size, [s1.heap.objs.size], _, _, H1, rfl, I1.kept (t' := s1.toks) fun b o e => Heap.get?_push_of_some _ e, QaW a _, ⟨_, Heap.get?_push_size _ rfl, rfl, rfl⟩, fun b hb => ?_, q⟩
  have e : b = s1.heap.objs.size := by simpa using hb
  subst e
  exact I1.fpOk (Nat.le_refl _) (I1.hok.fresh (Nat.le_refl _))
 ·obtain ⟨its, rv, p, hz⟩ := I1.tuple hq
  refine wpAny_pyIter_tuple (show s1.heap.IsTuple a its.toArray from p) ?_
  refine ⟨s1.heap.objs.size, [s1.heap.objs.size], _, _, H1, rfl, I1.kept (t' := s1.toks) fun b o e => Heap.get?_push_of_some _ e, QaX a _, ⟨_, Heap.get?_push_size _ rfl, rfl, rfl⟩, fun b hb => ?_, q⟩
  have e : b = s1.heap.objs.size := by simpa using hb
  subst e
  exact I1.fpOk (Nat.le_refl _) (I1.hok.fresh (Nat.le_refl _))
theorem Qe4 (h : SE X e fa) : SI X tg e (iSeq fa) := (Qe3 h).of fun σ H R h_ => h_.el fun ρ l st lr sr p => ⟨ρ, l, st, lr, sr, p.bnd.imp fun d st1 ρ1 H1 x1 s1 p1 v rv => by
 cases rv with
 | @tup a vs ds h r => exact ⟨a, rfl, .inr ⟨⟨vs, h⟩, p1.ret s1 _ (Qe1 fun ρ H st x s _ => ⟨vs, SqT.mono x.up h, r.mono x⟩)⟩⟩
 | @lit a vs ds h r => exact ⟨a, rfl, .inl ⟨⟨vs, h.seq⟩, p1.ret s1 _ (Qe0 fun ρ H st x s _ => ⟨vs, (FzL.mono x.up h).seq, r.mono x⟩)⟩⟩
 | @ref a n _ h =>
  obtain ⟨ds, e, p2⟩ := Post.getL (Post.bnd p1) s1
  obtain ⟨a', vs, ha, hv, r⟩ := s1.seq e
  rw [h] at ha; cases ha
  refine ⟨a, rfl, .inl ⟨⟨vs, SqL.of hv⟩, p2.ret s1 _ (Qe0 fun ρ H st x s q => ?_)⟩⟩
  obtain ⟨a2, ws, ha2, hw, rw'⟩ := s.seq q
  obtain ⟨τ, eτ, _⟩ := x.pre
  rw [eτ, Qdi h] at ha2; cases ha2
  exact ⟨ws, SqL.of hw, rw'⟩
 | _ => exact p1.elim⟩
theorem Qe5 (h : SL X e ca) : SI X tg e (iTmp ca) := (QaZ h).of fun σ H R h_ => h_.el fun ρ l st lr sr p => ⟨ρ, l, st, lr, sr, p.bnd.imp fun ds st1 ρ1 H1 x1 s1 p1 a vs ha na hv rvs =>
 ⟨a, rfl, ⟨vs, SqL.of hv⟩, p1.ret s1 _ (Qe0 fun ρ H st x s _ => ⟨vs, SqL.of (x.lst a vs na hv), rvs.mono x⟩)⟩⟩
theorem Qe6 {p : Pos} (hg : Gl X "range") (hm : X.mg "range" = none) (h : SE X a fa) (hs : starEach [a] X.env = [(false, eval a X.env)] := by rfl) : SI X tg (.Call (.Name "range" p) [a] [] pos) (MM.iRng1 fa) :=
 (Qa1 (tg := tg) (p := p) (pos := pos) hg hm (Qen h Qem hs) hs).of fun σ H R h_ => h_.el fun ρ l st lr sr p => ⟨ρ, l, st, lr, sr, by
  have q := Post.bnd p
  unfold cCons
  show Post X.K ρ H (bnd (fa l) _ st) _
  unfold MM.bnd
  cases e : fa l st with
  | bad => rw [e] at q; exact q
  | exc _ _ => rw [e] at q; exact q
  | ok d st1 =>
   rw [e] at q
   show ∀ ρ' H', Ex ρ H ρ' H' → SR X.K ρ' H' st1 → _
   intro ρ1 H1 x1 s1 vs rvs
   have p1 := q ρ1 H1 x1 s1
   cases rvs with
   | cons rv rt =>
    cases rt
    cases rv with
    | int j =>
     obtain ⟨⟨h1, h2⟩, p2⟩ := Post.chk p1
     exact ⟨j, rfl, h1, h2, p2.ret s1 _ Qe2⟩
    | _ => exact p1.elim⟩
theorem Post.chkS {p : Sto → Prop} {R : Unit → Sto → List Addr → Hp → Prop} (h : Post K ρ H (MM.chkS p st) R) (s : SR K ρ H st) : p st ∧ R () st ρ H := by
 unfold MM.chkS at h
 by_cases hp : p st
 ·rw [if_pos hp] at h; exact ⟨hp, h ρ H Ex.refl s⟩
 ·rw [if_neg hp] at h; exact h.elim
theorem Qe7 {iter : Expr} {body : List Stmt} {ci : CI} {g : CG} {cb : CS} (hp : PassesOwn (model X.prog X.w) X.A X.env X.xe) (hc : X.calm = true) (hi : SI X tg iter ci) (hg : SG X tg g) (hb : SSs X body cb)
  (hs : ∀ x, foldedSetIterable iter X.env x = pure x := by intro _; rfl) : SS X (.For tg iter body [] pos) (sFor ci g cb) := (Qa5 hp hc hi hg hb hs).of fun G σ H h_ => h_.el fun ρ l st lr sr p =>
 ⟨ρ, l, st, lr, sr, p.bnd.imp fun w st1 ρ1 H1 x1 s1 p1 J hJ => by
  refine ⟨fun i m σ' H' => m = w.ds.length - i ∧ i ≤ w.ds.length ∧ ∃ ρ' l' st', Ex ρ1 H1 ρ' H' ∧ LR X.K ρ' H' σ' l' ∧ SR X.K ρ' H' st' ∧ Post X.K ρ' H' (forD g cb w.same (w.ds.drop i) l' st') fun f _ ρ' H' => match f with
   | .next l' => ∀ σ', LR X.K ρ' H' σ' l' → G.nx σ' H'
   | .ret d => ∀ v, Rep X.K ρ' H' v d → G.rt v H'
   | .brk l' => ∀ σ', LR X.K ρ' H' σ' l' → G.bk σ' H'
   | .cnt l' => ∀ σ', LR X.K ρ' H' σ' l' → G.ct σ' H', ⟨w.ds.length, by simp, Nat.zero_le _, ρ1, l, st1, Ex.refl, lr.mono x1, s1, p1⟩, ?_⟩
  rintro i m σ2 H2 ⟨rfl, hi, ρ2, l2, st2, x2, lr2, s2, p2⟩
  by_cases hlt : i < w.ds.length
  ·have ed : w.ds.drop i = w.ds[i] :: w.ds.drop (i + 1) := List.drop_eq_getElem_cons hlt
   rw [ed] at p2
   unfold forD at p2
   obtain ⟨sm, p3⟩ := Post.chkS (Post.bnd p2) s2
   obtain ⟨_, go⟩ := hJ ρ2 H2 st2 x2 s2 sm
   obtain ⟨g1, g2⟩ := go i w.ds[i] (List.getElem?_eq_getElem hlt)
   refine .inr ⟨g1, fun σ3 H3 => ∃ ρ3 l3 st3, Ex ρ1 H1 ρ3 H3 ∧ LR X.K ρ3 H3 σ3 l3 ∧ SR X.K ρ3 H3 st3 ∧ Post X.K ρ3 H3 (forD g cb w.same (w.ds.drop (i + 1)) l3 st3) fun f _ ρ' H' => match f with
    | .next l' => ∀ σ', LR X.K ρ' H' σ' l' → G.nx σ' H'
    | .ret d => ∀ v, Rep X.K ρ' H' v d → G.rt v H'
    | .brk l' => ∀ σ', LR X.K ρ' H' σ' l' → G.bk σ' H'
    | .cnt l' => ∀ σ', LR X.K ρ' H' σ' l' → G.ct σ' H', fun σ3 H3 q => ⟨_, by ac_nf, rfl, hlt, q⟩, fun y H3 hy => ?_⟩
   obtain ⟨x3, s3, rv⟩ := g2 y H3 hy
   refine ⟨ρ2, l2, st2, _, lr2.mono x3, s3, rv, (Post.left x3 (Post.bnd p3)).imp fun l4 st4 ρ4 H4 x4 s4 p4 σ4 lr4 => ⟨ρ4, l4, st4, lr4, s4, (Post.bnd p4).imp fun f st5 ρ5 H5 x5 s5 p5 => ?_⟩⟩
   have x5' : Ex ρ1 H1 ρ5 H5 := (x2.trans x3).trans (x4.trans x5)
   cases f with
   | next l5 => exact fun σ5 lr5 => ⟨ρ5, l5, st5, x5', lr5, s5, p5⟩
   | cnt l5 => exact fun σ5 lr5 => ⟨ρ5, l5, st5, x5', lr5, s5, p5⟩
   | brk l5 => exact fun σ5 lr5 => p5.ret s5 σ5 lr5
   | ret d => exact fun v rv => p5.ret s5 v rv
  ·have e : i = w.ds.length := by ac_nf
   subst e
   rw [List.drop_length] at p2
   unfold forD at p2
   obtain ⟨sm, p3⟩ := Post.chkS (Post.bnd p2) s2
   obtain ⟨g1, _⟩ := hJ ρ2 H2 st2 x2 s2 sm
   exact .inl ⟨g1, p3.ret s2 σ2 lr2⟩⟩
end
end MM
namespace MM
open PySem PySem.Spec PyProof.Rows L2
section
variable {X : Cx} {a b c e tg : Expr} {es : List Expr} {pos : Pos} {fa fb fc : CE} {ca cb : CA} {ta tb : CT} {K : PySem.W.Frag} {ρ : List Addr} {H : Hp} {st : Sto} {x : Str} {p : Pos} {id T : String}
theorem Qe8 {n : Nat} {ix : List Nat} {σ : St} {l : Loc} (h : LR K ρ H σ l) : LR K ρ H (capV n ix σ) (capt n ix l) := by
 unfold capV capt
 refine ⟨by simp, fun i d e => ?_⟩
 have hi : n ≤ i := Nat.le_of_not_lt fun z => by
  rw [List.getElem?_append_left (by simpa using z), List.getElem?_replicate] at e
  split at e <;> cases e
 rw [List.getElem?_append_right (by simpa using hi), List.length_replicate, List.getElem?_map] at e
 cases q : ix[i - n]? with
 | none => rw [q] at e; cases e
 | some k =>
  rw [q] at e
  have hj : (l[k]?).join = some d := Option.some.inj e
  have hk : l[k]? = some (some d) := by
   cases z : l[k]? with
   | none => rw [z] at hj; cases hj
   | some o => rw [z] at hj; exact congrArg some hj
  obtain ⟨v, hv, rv⟩ := h.2 k d hk
  refine ⟨v, ?_, rv⟩
  rw [List.getElem?_append_right (by simpa using hi), List.length_replicate, List.getElem?_map, q]
  show some ((σ[k]?).join) = some (some v)
  rw [hv]; rfl
abbrev SIfs (X : Cx) (ifs : List Expr) (t : CT) : Prop := PIfs X ifs (ttOf X.K t)
theorem Qe9 : SIfs X [] tTrue := fun pins s σ H Q I h_ => h_.el fun ρ l st lr sr p => Qd5 pins s σ H Q I (p.ret sr)
theorem Qfa (h : ST X c ta) : SIfs X [c] ta := Qd6 h
theorem Ex.own {ρ' : List Addr} {H' : Hp} {q : Addr} {ws : List V} (x : Ex ρ H ρ' H') (h : H q = none) : Ex ρ H ρ' (upd H' q (.lst ws)) := by
 have ne : ∀ b o, H b = some o → b ≠ q := fun b o e z => by rw [z, h] at e; cases e
 exact ⟨x.pre, fun b o no e => by rw [Qaj (ne b o e)]; exact x.fix b o no e, fun b xs nb e => by rw [Qaj (ne b _ e)]; exact x.oth b xs nb e, fun b o e => by rw [Qaj (ne b o e)]; exact x.knd b o e⟩
theorem Up.own {ρ' : List Addr} {H' : Hp} {q : Addr} {vs ws : List V} (h : H' q = some (.lst vs)) : Up ρ' H' ρ' (upd H' q (.lst ws)) :=
 ⟨⟨[], by simp⟩, fun b o no e => by rw [Qaj fun z => by subst z; rw [h] at e; cases e; exact nomatch no]; exact e,
  fun b o e => by
   by_cases z : b = q
   ·subst z; rw [h] at e; cases e; exact ⟨_, Qai, rfl⟩
   ·exact ⟨o, by rw [Qaj z]; exact e, rfl⟩⟩
theorem LR.up {ρ' : List Addr} {H' : Hp} {σ : St} {l : Loc} (x : Up ρ H ρ' H') (h : LR K ρ H σ l) : LR K ρ' H' σ l := ⟨h.1, fun i d e => let ⟨v, e1, r⟩ := h.2 i d e; ⟨v, e1, r.up x⟩⟩
theorem SR.own {q : Addr} {vs ws : List V} (s : SR K ρ H st) (h : H q = some (.lst vs)) (nq : q ∉ ρ) : SR K ρ (upd H q (.lst ws)) st :=
 ⟨s.len, s.nd, fun n b o e1 e2 => ObR.mono (o := o) (Up.own h) (s.ob n b o e1 e2) fun us e => by rw [Qaj (fun (z : b = q) => nq (by rw [← z]; exact List.mem_of_getElem? e1))]; exact e⟩
theorem Qfb {ci : CI} {g : CG} {n : Nat} {ix : List Nat} : ∀ σ H Q, tlOf K (aComp n ix ci g ta fa) σ H Q → tComp (tiOf K ci) n ix (tgOf K g) (ttOf K ta) (tOf K fa) σ H Q := fun σ H Q h_ => h_.el fun ρ l st lr sr p =>
 ⟨ρ, l, st, lr, sr, p.bnd0.imp fun w st1 ρ1 H1 x1 s1 p1 J hJ q hq => by
  obtain ⟨hz, p2⟩ := Post.chk p1
  have hn : H q = none := by
   cases z : H q with
   | none => rfl
   | some o => exact absurd hq (x1.trk q o z)
  refine ⟨fun i m σ' H' => m = w.ds.length - i ∧ i ≤ w.ds.length ∧ ∃ ρ' l' st' done vs, Ex ρ H ρ' H' ∧ Ex ρ1 H1 ρ' H' ∧ LR K ρ' H' σ' l' ∧ SR K ρ' H' st' ∧ q ∉ ρ' ∧ H' q = some (.lst vs) ∧ Reps K ρ' H' vs done ∧ done.length ≤ i ∧
   Post K ρ H (collect g ta fa w.same (w.ds.drop i) l' st') (fun rest st2 ρ2 H2 => ∀ a ws, H a = none → a ∉ ρ2 → H2 a = some (.lst ws) → Reps K ρ2 H2 ws (done ++ rest) → Q (.ref a) H2),
   ⟨w.ds.length, by simp, Nat.zero_le _, ρ1, capt n ix l, st1, [], [], x1.trans (Ex.new hq), Ex.new hq, Qe8 ((lr.mono x1).mono (Ex.new hq)), s1.new hq, s1.fresh hq, Qai, .nil, Nat.zero_le _, p2⟩, ?_⟩
  rintro i m σ2 H2 ⟨rfl, hi, ρ2, l2, st2, done, vs, x2, y2, lr2, s2, nq, hv, rvs, hd, p3⟩
  by_cases hlt : i < w.ds.length
  ·have ed : w.ds.drop i = w.ds[i] :: w.ds.drop (i + 1) := List.drop_eq_getElem_cons hlt
   rw [ed] at p3
   unfold collect at p3
   obtain ⟨sm, p4⟩ := Post.chkS (p3.bnd0.left x2) s2
   obtain ⟨_, go⟩ := hJ ρ2 H2 st2 y2 s2 sm
   obtain ⟨g1, g2⟩ := go i w.ds[i] (List.getElem?_eq_getElem hlt)
   refine .inr ⟨g1, fun y H3 hy => ?_⟩
   obtain ⟨x3, s3, rv⟩ := g2 y H3 hy
   refine ⟨ρ2, l2, st2, _, lr2.mono x3, s3, rv, (p4.bnd0.left (x2.trans x3)).imp fun l4 st4 ρ4 H4 x4 s4 p5 σ4 lr4 => ⟨ρ4, l4, st4, lr4, s4, (p5.bnd0.left (x2.trans (x3.trans x4))).imp fun b st5 ρ5 H5 x5 s5 p6 => ?_⟩⟩
   have y5 : Ex ρ2 H2 ρ5 H5 := x3.trans (x4.trans x5)
   have out : ∀ {ρ' : List Addr} {H' : Hp}, Ex ρ2 H2 ρ' H' → q ∉ ρ' := fun z hm => by
    obtain ⟨τ, e, f⟩ := z.pre
    rw [e] at hm
    rcases List.mem_append.mp hm with hm | hm
    ·exact nq hm
    ·rw [f q hm] at hv; cases hv
   cases b with
   | false => exact ⟨_, by ac_nf, rfl, hlt, ρ5, l4, st5, done, vs, x2.trans y5, y2.trans y5, lr4.mono x5, s5, out y5, y5.lst q vs nq hv, rvs.mono y5, Nat.le_succ_of_le hd, p6⟩
   | true =>
    refine ⟨ρ5, l4, st5, lr4.mono x5, s5, (p6.bnd0.left (x2.trans y5)).imp fun d st6 ρ6 H6 x6 s6 p7 v rv6 => ?_⟩
    have y6 : Ex ρ2 H2 ρ6 H6 := y5.trans x6
    have hv6 := y6.lst q vs nq hv
    have u6 : Up ρ6 H6 ρ6 (upd H6 q (.lst (vs ++ [v]))) := Up.own hv6
    refine ⟨vs, hv6, ?_, _, by ac_nf, rfl, hlt, ρ6, l4, st6, done ++ [d], vs ++ [v], (x2.trans y6).own hn, (y2.trans y6).own hq, LR.up u6 ((lr4.mono x5).mono x6), s6.own hv6 (out y6), out y6, Qai,
     Reps.app ((rvs.mono y6).up u6) (.cons (rv6.up u6) .nil), by simp; ac_nf, ?_⟩
    ·have e1 := rvs.length
     have e2 : w.ds.length ≤ sizeLine := hz
     ac_nf
    ·refine p7.bnd0.imp fun rest st8 ρ8 H8 x8 s8 p8 a ws ha na hw rws => ?_
     exact p8 ρ8 H8 x8 s8 a ws ha na hw (by rw [List.append_cons]; exact rws)
  ·have e : i = w.ds.length := by ac_nf
   subst e
   rw [List.drop_length] at p3
   unfold collect at p3
   obtain ⟨sm, p4⟩ := Post.chkS (p3.bnd0.left x2) s2
   obtain ⟨g1, _⟩ := hJ ρ2 H2 st2 y2 s2 sm
   refine .inl ⟨g1, p4 ρ2 H2 x2 s2 q vs hn nq hv (by rw [List.append_nil]; exact rvs)⟩⟩
theorem Qfc {scope : Scope} {N : List Str} {ifs : List Expr} {n : Nat} {ix : List Nat} {ci : CI} {g : CG} (hc : X.calm = true) (S : CompScope X scope) (T : CompNames X scope N n ix) (hi : SI X tg b ci)
  (blk : ∀ (fp : List Addr) (s : Shared) (H : Hp), SG (cxC X N scope fp s H) tg g ∧ SIfs (cxC X N scope fp s H) ifs ta ∧ SE (cxC X N scope fp s H) e fa)
  (hs : ∀ x, foldedSetIterable b X.env x = pure x := by intro _; rfl) : SL X (.ListComp e [⟨tg, b, ifs, 0⟩] scope pos) (aComp n ix ci g ta fa) := (Qd8 hc S T hi blk hs).of Qfb
theorem Qfd {scope : Scope} {N : List Str} {ifs : List Expr} {n i : Nat} {ix : List Nat} {ci : CI} {g : CG} {y : Str} {pos' spos : Pos}
  (hN : X.N.Nodup) (hi' : X.N[i]? = some y) (hy : L2.Loc X.env.scope y) (hf : X.fn y = true ∨ X.env.scope.names.lookup y = some .local)
  (hc : X.calm = true) (S : CompScope X scope) (T : CompNames X scope N n ix) (hi : SI X tg b ci)
  (blk : ∀ (fp : List Addr) (s : Shared) (H : Hp), SG (cxC X N scope fp s H) tg g ∧ SIfs (cxC X N scope fp s H) ifs ta ∧ SE (cxC X N scope fp s H) e fa)
  (hsw : swapsWith (.ListComp e [⟨tg, b, ifs, 0⟩] scope pos) (some (.Name y pos')) spos.line X.env = pure true)
  (hs : ∀ x, foldedSetIterable b X.env x = pure x := by intro _; rfl) : SS X (.Assign [.Name y pos'] (.ListComp e [⟨tg, b, ifs, 0⟩] scope pos) spos) (sAsg (gVar i) (cKeep (aComp n ix ci g ta fa))) :=
 (Qd9 hN hi' hy hf hc S T hi blk hsw hs).of (QeT (fun σ H Q h_ => h_.el fun ρ l st lr sr p => Qfb _ _ _ ⟨ρ, l, st, lr, sr, p.bnd0.imp fun ds st1 ρ1 H1 x1 s1 p1 a vs ha na hv rvs => by
  have x : Ex ρ H (ρ1 ++ [a]) H1 := by
   obtain ⟨τ, e, f⟩ := x1.pre
   refine ⟨⟨τ ++ [a], by rw [e, List.append_assoc], fun b hb => ?_⟩, x1.fix, x1.oth, x1.knd⟩
   rcases List.mem_append.mp hb with hb | hb
   ·exact f b hb
   ·rw [List.mem_singleton] at hb; rw [hb]; exact ha
  refine p1 (ρ1 ++ [a]) H1 x (s1.keep hv na rvs) _ (.ref ⟨_, hv, rfl⟩ ?_)
  rw [← s1.len]; simp⟩) QeU)
theorem Qfe {g : D → M D} (hc : CallR X (.builtin id) (fun xs H Q => ∃ v, xs = [v] ∧ uOf X.K g v H Q)) (hg : Gl X x) (hm : X.mg x = none) (hv : bootBuiltins x = some (.builtin id)) (ha : SE X e fa) (hn : x ≠ "__name__" := by decide) (hdb : (x == ("__debug__" : Str)) = false := by decide)
  (he : starEach [e] X.env = [(false, eval e X.env)] := by rfl) : SE X (.Call (.Name x p) [e] [] pos) (c1 g fa) :=
 (QbU hc hg hm hv (QbI ha QbH he) hn hdb he rfl).of fun σ H Q h_ => h_.el fun ρ l st lr sr p => ⟨ρ, l, st, lr, sr, p.bnd.imp fun d st1 ρ1 H1 x1 s1 p1 v rv => ⟨v, rfl, ρ1, st1, d, s1, rv, p1⟩⟩
theorem Qff {g : D → M D} (hc : CallR X (.type T) (fun xs H Q => ∃ v, xs = [v] ∧ uOf X.K g v H Q)) (hg : Gl X x) (hm : X.mg x = none) (hv : bootBuiltins x = some (.type T)) (ha : SE X e fa) (hn : x ≠ "__name__" := by decide) (hdb : (x == ("__debug__" : Str)) = false := by decide)
  (he : starEach [e] X.env = [(false, eval e X.env)] := by rfl) : SE X (.Call (.Name x p) [e] [] pos) (c1 g fa) :=
 (QbV hc hg hm hv (QbI ha QbH he) hn hdb he rfl).of fun σ H Q h_ => h_.el fun ρ l st lr sr p => ⟨ρ, l, st, lr, sr, p.bnd.imp fun d st1 ρ1 H1 x1 s1 p1 v rv => ⟨v, rfl, ρ1, st1, d, s1, rv, p1⟩⟩
noncomputable def lOf (K : PySem.W.Frag) (g : List D → M D) : List V → Hp → VK → Prop := fun xs H Q => ∃ a vs ρ st ds, xs = [.ref a] ∧ SqL K H a vs ∧ SR K ρ H st ∧ Reps K ρ H vs ds ∧ Post K ρ H (g ds st) fun r _ ρ' H' => ∀ v, Rep K ρ' H' v r → Q v H'
theorem Qfg {g : List D → M D} (hc : CallR X (.builtin id) (lOf X.K g)) (hg : Gl X x) (hm : X.mg x = none) (hv : bootBuiltins x = some (.builtin id)) (ha : SL X e ca) (hn : x ≠ "__name__" := by decide) (hdb : (x == ("__debug__" : Str)) = false := by decide)
  (he : starEach [e] X.env = [(false, eval e X.env)] := by rfl) : SE X (.Call (.Name x p) [e] [] pos) (cTmp g ca) :=
 (QbU hc hg hm hv (QbI ha QbH he) hn hdb he rfl).of fun σ H Q h_ => h_.el fun ρ l st lr sr p => ⟨ρ, l, st, lr, sr, p.bnd.imp fun ds st1 ρ1 H1 x1 s1 p1 a vs ha na hv rvs => ⟨a, vs, ρ1, st1, ds, rfl, SqL.of hv, s1, rvs, p1⟩⟩
theorem Qfh {g : List D → M D} (hc : CallR X (.type T) (lOf X.K g)) (hg : Gl X x) (hm : X.mg x = none) (hv : bootBuiltins x = some (.type T)) (ha : SL X e ca) (hn : x ≠ "__name__" := by decide) (hdb : (x == ("__debug__" : Str)) = false := by decide)
  (he : starEach [e] X.env = [(false, eval e X.env)] := by rfl) : SE X (.Call (.Name x p) [e] [] pos) (cTmp g ca) :=
 (QbV hc hg hm hv (QbI ha QbH he) hn hdb he rfl).of fun σ H Q h_ => h_.el fun ρ l st lr sr p => ⟨ρ, l, st, lr, sr, p.bnd.imp fun ds st1 ρ1 H1 x1 s1 p1 a vs ha na hv rvs => ⟨a, vs, ρ1, st1, ds, rfl, SqL.of hv, s1, rvs, p1⟩⟩
theorem Qfi {prog : Program} {w : World} {A : Around} {E : Value → Shared → Prop} {s : Shared} {K : Type} [DecidableEq K] {knd : HeapKind prog w K} {d : Addr} {xs : List (K × Addr × Value)} {Q : Value → Shared → Prop} (hd : (d == sysModules) = false) (hm : s.heap.DictOfH knd d xs) (hfit : (xs.length : Int) < 2 ^ 63)
  (h : Q (.int xs.length (s.toks + 1)) { s with toks := s.toks + 1 + 1 }) : wpAny (model prog w) A (call (.builtin "len") [.ref d]) Q E s := by
 refine Calls.call_function_entry kind_len plain_len entry_len (args_len1 _) ?_
 unfold Builtin.«len»
 have meet : MeetsIn prog w (Builtin.«dict.__len__» ⟨[.ref d], []⟩) (fun _ R s => ∃ xs, s.heap.DictOfH knd d xs ∧ R (.ok (.ret (.int xs.length s.toks))) { s with toks := s.toks + 1 }) := .of_wp fun A R s pq71 => by
  obtain ⟨xs, hm, h⟩ := pq71
  obtain ⟨o, es, ep, ho, hc, hdat, he, _, hn⟩ := hm
  show wpAny _ _ (dictSize d >>= _) _ _ s
  unfold dictSize
  refine wpAny_bind (wpAny_bind (wpAny_dictEntries ho hdat (wpAny_pure ?_)))
  show wpAny _ _ (Builtin.Dict.pendingCount d >>= _) _ _ s
  refine wpAny_bind (wpAny_pendingCount_other hd ?_)
  refine wpAny_ret_mkInt ?_
  rw [Nat.add_zero, size_of_entries he]; exact h
 refine wpAny_bind (m := oneArg "len" _) (wpAny_pure ?_)
 refine wpAny_bind (m := callSpecial? (.ref d) (Str.ofString "__len__")) (wpAny_callSpecial?_slot (name := Str.ofString "__len__") hm.typeIs F.slot_dict_len
  (call_meetsIn F.slot_dict_len hm.typeIs F.entry_dict_len (F.args_dict_len_1 _) meet ⟨xs, hm, ?_⟩))
 show wpAny _ _ _ _ _ { s with toks := s.toks + 1 }
 refine wpAny_bind (wpAny_holding (wpAny_pure ?_))
 refine wpAny_bind (wpAny_letGo ?_)
 show wpAny _ _ (if ((xs.length : Nat) : Int) < 0 then _ else _) _ _ _
 rw [if_neg (by ac_nf)]
 show wpAny _ _ (if ((xs.length : Nat) : Int) ≥ 2 ^ 63 then _ else _) _ _ _
 rw [if_neg (by ac_nf)]
 exact wpAny_bind (wpAny_mkInt (wpAny_pure ⟨_, rfl, h⟩))
theorem Qfj : CallR X (.builtin "len") (fun xs H Q => ∃ (ρ : List Addr) (st : Sto) (n : Nat) (a : Addr) (b : Bool) (kvs : List (D × D)), xs = [.ref a] ∧ SR X.K ρ H st ∧ ρ[n]? = some a ∧ st[n]? = some (.dct b kvs) ∧ Q (.int kvs.length) H) := by
 intro pins s σ H xs us Q I r pq96; obtain ⟨ρ, st, n, a, b, kvs, e, sr, ha, hn, q⟩ := pq96
 subst e
 obtain ⟨u, rfl, ru⟩ := Qby r
 cases ru
 have g := sr.ob n a _ ha hn
 cases b with
 | false =>
  obtain ⟨es, e, r⟩ := g
  rw [← KR.length r] at q
  exact Qc3 I (.inl e) fun t s' I' => ⟨.int es.length, H, I', ⟨t, rfl⟩, q⟩
 | true =>
  obtain ⟨es, e, r⟩ := g
  obtain ⟨z, hd, xs, rx, dd, _⟩ := QdH I e r
  rw [← NR.length r, Paired.length rx] at q
  have hz : xs.length ≤ sizeLine := by rw [← Paired.length rx]; exact z
  exact Qfi hd dd (by rw [sizeLine_eq] at hz; ac_nf) ⟨.int xs.length, H, I.tok _, ⟨_, rfl⟩, q⟩
theorem Qfk : CallR X (.builtin "len") (fun xs H Q => ∃ v, xs = [v] ∧ uOf X.K lenD v H Q) := ((Qcs.or Qct).or Qfj).of fun xs H Q pq72 => by
 obtain ⟨v, e, ρ, st, d, sr, rv, p⟩ := pq72
 cases rv with
 | @tup a vs ds h r => exact .inl (.inl ⟨a, vs, e, .inr h, by rw [r.length]; exact p.ret sr _ (.int _)⟩)
 | @lit a vs ds h r => exact .inl (.inl ⟨a, vs, e, .inl h.seq, by rw [r.length]; exact p.ret sr _ (.int _)⟩)
 | @ref a n _ h =>
  obtain ⟨ds, e2, p1⟩ := Post.getL (Post.bnd p) sr
  obtain ⟨a', vs, ha, hv, r⟩ := sr.seq e2
  rw [h] at ha; cases ha
  exact .inl (.inl ⟨a, vs, e, .inl (SqL.of hv), by rw [r.length]; exact p1.ret sr _ (.int _)⟩)
 | str z => exact .inl (.inr ⟨z, e, (Post.chk p).1, (Post.chk p).2.ret sr _ (.int _)⟩)
 | @dic a n _ h =>
  obtain ⟨b, kvs, e2, p1⟩ := Post.getDc (Post.bnd p) sr
  exact .inr ⟨ρ, st, n, a, b, kvs, e, sr, h, e2, p1.ret sr _ (.int _)⟩
 | _ => exact p.elim
theorem Qfl : CallR X (.type "int") (fun xs H Q => ∃ v, xs = [v] ∧ uOf X.K intD v H Q) := QbB.of fun xs H Q pq73 => by
 obtain ⟨v, e, ρ, st, d, sr, rv, p⟩ := pq73
 cases rv with
 | int i => exact .inl ⟨i, e, p.ret sr _ (.int _)⟩
 | bl k => exact .inr ⟨k, e, p.ret sr _ (.int _)⟩
 | _ => exact p.elim
theorem Qfm : CallR X (.type "tuple") (lOf X.K tupL) := Qcu.of fun xs H Q pq74 =>
 by obtain ⟨a, vs, ρ, st, ds, e, hv, sr, r, p⟩ := pq74; exact ⟨a, vs, e, .inl ⟨hv, fun l hl => p ρ _ (Ex.new hl) (sr.new hl) _ (.tup (SqT.of Qai) (r.mono (Ex.new hl)))⟩⟩
end
end MM
namespace MM
open PySem PySem.Spec PyProof.Rows L2
section
variable {X : Cx} {a b c e tg : Expr} {es : List Expr} {pos : Pos} {fa fb fc : CE} {ca cb : CA} {ta tb : CT} {K : PySem.W.Frag} {ρ : List Addr} {H : Hp} {st : Sto} {x : Str} {p : Pos} {T : String}
theorem Qfn {ds : List D} {ns : List Int} {vs : List V} (h : numsL ds = some ns) (g : Reps K ρ H vs ds) : vs = ns.map V.int := by
 induction ds generalizing ns vs with
 | nil => cases g; cases h; rfl
 | cons d ds ih =>
  cases g with
  | cons r t =>
   cases r with
   | int i =>
    unfold numsL at h
    cases q : numsL ds with
    | none => rw [q] at h; cases h
    | some ms =>
     rw [q] at h
     have h' : i :: ms = _ := Option.some.inj h
     subst h'
     rw [ih q t]; rfl
   | _ => cases h
theorem Qfo : ∀ {ds : List D} {ns : List Bool} {vs : List V}, boolsL ds = some ns → Reps K ρ H vs ds → vs = ns.map V.bl
 | [], _, _, h, .nil => by cases h; rfl
 | .bl i :: ds, _, _, h, .cons r t => by
  unfold boolsL at h
  cases q : boolsL ds with
  | none => rw [q] at h; cases h
  | some ms =>
   rw [q] at h
   have h' : i :: ms = _ := Option.some.inj h
   subst h'
   cases r
   rw [Qfo q t]; rfl
 | .non :: _, _, _, h, _ => by cases h
 | .int _ :: _, _, _, h, _ => by cases h
 | .str _ :: _, _, _, h, _ => by cases h
 | .tup _ :: _, _, _, h, _ => by cases h
 | .lit _ :: _, _, _, h, _ => by cases h
 | .ref _ :: _, _, _, h, _ => by cases h
theorem Qfp : ∀ {bs : List Bool} {us : List Value}, Vals (bs.map V.bl) us → us = bs.map Value.bool
 | [], _, .nil => rfl
 | _ :: _, _, .cons r t => by cases r; rw [Qfp t]; rfl
theorem Qfq (hc : X.calm = true) : CallR X (.builtin "all") (fun xs H Q => ∃ (l : Addr) (bs : List Bool), xs = [.ref l] ∧ SqL X.K H l (bs.map V.bl) ∧ Q (.bl (bs.all id)) H) := by
 intro pins s σ H xs us Q I r h
 obtain ⟨l, bs, rfl, hq, q⟩ := h
 obtain ⟨u, rfl, rx⟩ := Qby r
 cases rx
 obtain ⟨its, rv, pl, hz⟩ := I.list hq
 have ei := Qfp rv
 subst ei
 refine call_all_walk (wpAny_pyIter_list pl.isList ?_)
 have hlt : l < s.heap.objs.size := by
  obtain ⟨o, ho, _⟩ := pl.isList
  exact Heap.lt_size ho
 refine ⟨s.heap.objs.size, _, _, _, _, _, fun i => (bs[i]?).getD true, rfl, Walks.list (A := X.A.in1) (I.ok.hd hc) s.heap.objs.size l (Nat.ne_of_lt hlt) (bs.map Value.bool).toArray, ⟨⟨_, Heap.get?_push_size _ rfl, rfl, rfl⟩, ?_⟩, ?_, fun h' tk hk => ?_⟩
 ·obtain ⟨o, ho, hr⟩ := pl.isList
  exact ⟨o, Heap.get?_push_of_some _ ho, hr⟩
 ·intro i v s' Q' E' hv hQ
  have hv' : (bs.map Value.bool)[i]? = some v := by simpa using hv
  rw [List.getElem?_map] at hv'
  dsimp only at hQ
  cases e : bs[i]? with
  | none => rw [e] at hv'; cases hv'
  | some k =>
   rw [e] at hv' hQ
   have : v = Value.bool k := (Option.some.inj hv').symm
   subst this
   exact wpAny_truthy_bool hQ
 ·have e : (List.range (bs.map Value.bool).toArray.size).all (fun i => (bs[i]?).getD true) = bs.all id := by
    have hs : (bs.map Value.bool).toArray.size = bs.length := by simp
    rw [hs, Bool.eq_iff_iff, List.all_eq_true, List.all_eq_true]
    constructor
    ·intro hh k hk
     obtain ⟨i, hi⟩ := List.getElem?_of_mem hk
     have := hh i (List.mem_range.mpr (List.getElem?_eq_some_iff.mp hi).1)
     rw [hi] at this; exact this
    ·intro hh i hi
     have hl := List.mem_range.mp hi
     rw [List.getElem?_eq_getElem hl]
     exact hh _ (List.getElem_mem hl)
  rw [e]
  exact ⟨.bl _, H, I.kept (t' := tk) fun b o hb => hk b o (by simp; exact Nat.ne_of_lt (Heap.lt_size hb)) (Heap.get?_push_of_some _ hb), rfl, q⟩
theorem Qfr : ∀ (ns : List Int) (n : Int), ns.foldl max n ∈ n :: ns ∧ ∀ a ∈ n :: ns, a ≤ ns.foldl max n
 | [], n => ⟨by simp, by simp⟩
 | m :: ns, n => by
  obtain ⟨h1, h2⟩ := Qfr ns (max n m)
  rw [List.foldl_cons]
  refine ⟨?_, fun a ha => ?_⟩
  ·rcases List.mem_cons.mp h1 with e | e
   ·rw [e]
    by_cases hm : n ≤ m
    ·rw [Int.max_eq_right hm]; simp
    ·rw [Int.max_eq_left (by ac_nf)]; simp
   ·exact List.mem_cons_of_mem _ (List.mem_cons_of_mem _ e)
  ·have hx := h2 (max n m) List.mem_cons_self
   rcases List.mem_cons.mp ha with e | e
   ·subst e; exact Int.le_trans (Int.le_max_left ..) hx
   ·rcases List.mem_cons.mp e with e | e
    ·subst e; exact Int.le_trans (Int.le_max_right ..) hx
    ·exact h2 a (List.mem_cons_of_mem _ e)
theorem Qfs {vs : List Value} {ns : List Int} (hi : IntsAre vs ns) : ∃ xs, vs.toArray = intItems xs ∧ ns = xs.toList.map (·.1) := by
 obtain ⟨xs, e⟩ := hi.allInts.items
 exact ⟨xs, e, by rw [← hi.numsOf, ← nums_intItems, ← e]⟩
theorem Qft (hc : X.calm = true) : CallR X (.builtin "max") (fun xs H Q => ∃ (l : Addr) (n : Int) (ns : List Int), xs = [.ref l] ∧ SqL X.K H l ((n :: ns).map V.int) ∧ Q (.int (ns.foldl max n)) H) := by
 intro pins s σ H xs us Q I r h
 obtain ⟨l, n, ns, rfl, hq, q⟩ := h
 obtain ⟨u, rfl, rx⟩ := Qby r
 cases rx
 obtain ⟨its, rv, pl, hz⟩ := I.list hq
 obtain ⟨ys, e, en⟩ := Qfs (Qb3 rv)
 have hl := pl.isList
 rw [e] at hl
 have hsz : ys.size = ns.length + 1 := by have := congrArg List.length en; simpa using this.symm
 refine max_intList (I.ok.hd hc) hl (by ac_nf) fun v h' tk hv hk => ?_
 obtain ⟨t, rfl⟩ := intItems_at hv
 obtain ⟨b1, b2⟩ := argBest_gt (numAt ys) (ys.size - 1)
 obtain ⟨f1, f2⟩ := Qfr ns n
 generalize argBest (fun i j => decide (numAt ys i > numAt ys j)) (ys.size - 1) = k at b1 b2 ⊢
 have hin : numAt ys k ∈ n :: ns := by
  rw [en, numAt_eq]
  exact getD_mem (by rw [← en]; simp; ac_nf)
 have hge : ns.foldl max n ≤ numAt ys k := by
  rw [en] at f1
  obtain ⟨j, hj, ej⟩ := mem_getD f1
  rw [← ej, ← numAt_eq]
  exact b2 j (by rw [← en] at hj; simp at hj; ac_nf)
 have hM : numAt ys k = ns.foldl max n := Int.le_antisymm (f2 _ hin) hge
 rw [hM]
 exact ⟨.int _, H, I.kept (t' := tk) hk, ⟨t, rfl⟩, q⟩
theorem Qfu (hc : X.calm = true) : CallR X (.builtin "all") (lOf X.K allD) := (Qfq hc).of fun xs H Q pq75 => by
 obtain ⟨a, vs, ρ, st, ds, e, hv, sr, r, p⟩ := pq75
 unfold allD at p
 cases q : boolsL ds with
 | none => rw [q] at p; exact p.elim
 | some bs =>
  rw [q] at p
  have := Qfo q r
  subst this
  exact ⟨a, bs, e, hv, p.ret sr _ (.bl _)⟩
theorem Qfv (hc : X.calm = true) : CallR X (.builtin "max") (lOf X.K maxD) := (Qft hc).of fun xs H Q pq76 => by
 obtain ⟨a, vs, ρ, st, ds, e, hv, sr, r, p⟩ := pq76
 unfold maxD at p
 cases q : numsL ds with
 | none => rw [q] at p; exact p.elim
 | some ns =>
  rw [q] at p
  have := Qfn q r
  subst this
  cases ns with
  | nil => exact p.elim
  | cons n ns => exact ⟨a, n, ns, e, hv, p.ret sr _ (.int _)⟩
structure TyTab (T : String) : Prop where
 non : ∀ K, PySem.W.kitOne K (.type "NoneType") (.type T) = some (["NoneType"].contains T)
 bl : ∀ K, PySem.W.kitOne K (.type "bool") (.type T) = some (["bool", "int"].contains T)
 int : ∀ K, PySem.W.kitOne K (.type "int") (.type T) = some (["int"].contains T)
 str : ∀ K, PySem.W.kitOne K (.type "str") (.type T) = some (["str"].contains T)
 tup : ∀ K, PySem.W.kitOne K (.type "tuple") (.type T) = some (["tuple"].contains T)
 lst : ∀ K, PySem.W.kitOne K (.type "list") (.type T) = some (["list"].contains T)
theorem Qfw : TyTab "int" := ⟨fun _ => rfl, fun _ => rfl, fun _ => rfl, fun _ => rfl, fun _ => rfl, fun _ => rfl⟩
theorem Qfx : TyTab "bool" := ⟨fun _ => rfl, fun _ => rfl, fun _ => rfl, fun _ => rfl, fun _ => rfl, fun _ => rfl⟩
theorem Qfy : TyTab "tuple" := ⟨fun _ => rfl, fun _ => rfl, fun _ => rfl, fun _ => rfl, fun _ => rfl, fun _ => rfl⟩
theorem Qfz {pins : List (Addr × Obj)} {σ : St} {s : Shared} {Q : Value → Shared → Prop} {t : String} {u : Addr} {k : Bool} (I : Inv X pins σ H s) (ht : ∃ o, s.heap.get? u = some o ∧ o.cls = .type t) (hx : t = "tuple" ∨ t = "list") (e : PySem.W.kitOne X.K (.type t) (.type T) = some k)
  (h : ∀ tk, Q (.bool k) { s with toks := tk }) : wpAny (model X.prog X.w) X.A (call (.builtin "isinstance") [.ref u, .type T]) Q X.xe s := by
 rcases hx with rfl | rfl
 ·exact PySem.W.kia_one PySem.W.kitx_tuple I.kIn ht e (fun z => nomatch z) h
 ·exact PySem.W.kia_one PySem.W.kitx_list I.kIn ht e (fun z => nomatch z) h
theorem QfA (B : TyTab T) : CallR X (.builtin "isinstance") (fun xs H Q => ∃ v, xs = [v, .ty T] ∧ uOf X.K (isInst [T]) v H Q) := by
 intro pins s σ H xs us Q I r pq97; obtain ⟨v, e, ρ, st, d, sr, rv, p⟩ := pq97
 subst e
 obtain ⟨u, w', rfl, ru, rw'⟩ := Qbz r
 have ew : w' = Value.type T := rw'
 subst ew
 have fin : ∀ k : Bool, Q (.bl k) H → ∀ tk, EP X pins σ Q (.bool k) { s with toks := tk } := fun k q tk => ⟨.bl k, H, I.tok tk, rfl, q⟩
 cases rv with
 | non =>
  refine QbE I ru .non (B.non _) (fin _ ?_)
  simpa [isInst, isTy] using p.ret sr _ (.bl _)
 | bl k =>
  refine QbE I ru (.bl k) (B.bl _) (fin _ ?_)
  simpa [isInst, isTy] using p.ret sr _ (.bl _)
 | int k =>
  refine QbE I ru (.int k) (B.int _) (fin _ ?_)
  simpa [isInst, isTy] using p.ret sr _ (.bl _)
 | str k =>
  refine QbE I ru (.str k) (B.str _) (fin _ ?_)
  simpa [isInst, isTy] using p.ret sr _ (.bl _)
 | tup h r =>
  have eu : u = Value.ref _ := ru
  subst eu
  obtain ⟨its, _, ⟨o, h1, h2, _⟩, _⟩ := I.tuple h
  refine Qfz I ⟨o, h1, h2⟩ (.inl rfl) (B.tup _) (fin _ ?_)
  simpa [isInst, isTy] using p.ret sr _ (.bl _)
 | lit h r =>
  have eu : u = Value.ref _ := ru
  subst eu
  obtain ⟨its, _, pl, _⟩ := I.list h.seq
  obtain ⟨o, h1, h2, _⟩ := pl.isList
  refine Qfz I ⟨o, h1, h2⟩ (.inr rfl) (B.lst _) (fin _ ?_)
  simpa [isInst, isTy] using p.ret sr _ (.bl _)
 | @ref a n kk h =>
  have eu : u = Value.ref _ := ru
  subst eu
  obtain ⟨vs, hv⟩ := Qdk kk
  obtain ⟨its, _, pl, _⟩ := I.list (SqL.of hv)
  obtain ⟨o, h1, h2, _⟩ := pl.isList
  refine Qfz I ⟨o, h1, h2⟩ (.inr rfl) (B.lst _) (fin _ ?_)
  simpa [isInst, isTy] using p.ret sr _ (.bl _)
 | dic _ _ => exact p.elim
 | exn0 _ _ => exact p.elim
 | exn _ _ _ _ => exact p.elim
theorem QfB {y : Str} {p1 : Pos} (B : TyTab T) (hg : Gl X "isinstance") (hm : X.mg "isinstance" = none) (hgT : Gl X y) (hmT : X.mg y = none) (hvT : bootBuiltins y = some (.type T)) (ha : SE X e fa) (hv : bootBuiltins "isinstance" = some (.builtin "isinstance"))
  (hnT : y ≠ "__name__" := by decide) (hdT : (y == ("__debug__" : Str)) = false := by decide)
  (he : starEach [e, .Name y p1] X.env = (false, eval e X.env) :: starEach [.Name y p1] X.env := by rfl) (he2 : starEach [.Name y p1] X.env = (false, eval (.Name y p1) X.env) :: starEach [] X.env := by rfl) (hpl : (backTo pos (starEach [.Name y p1] X.env)).any (·.1) = false := by rfl) :
  SE X (.Call (.Name "isinstance" p) [e, .Name y p1] [] pos) (c1 (isInst [T]) fa) :=
 (QbU (QfA B) hg hm hv (QbI ha (QbI (Qaz (v := .ty T) hgT hmT hvT rfl hnT hdT) QbH he2) he) (by decide) (by decide) he hpl).of fun σ H Q h_ => h_.el fun ρ l st lr sr p => ⟨ρ, l, st, lr, sr, p.bnd.imp fun d st1 ρ1 H1 x1 s1 p1 v rv => ⟨v, rfl, ρ1, st1, d, s1, rv, p1⟩⟩
end
end MM
namespace MM
open PySem PySem.Spec PyProof.Rows L2
section
variable {X : Cx} {K : PySem.W.Frag} {ρ : List Addr} {H : Hp} {st : Sto} {pins : List (Addr × Obj)} {σ : St} {s : Shared}
theorem QfC {f : D → D → Option Bool} : ∀ {xs ys : List D} {r : Bool}, allF f xs ys = some r → ∀ (j : Nat) (x y : D), xs[j]? = some x → ys[j]? = some y → ∃ k, f x y = some k
 | [], _, _, _, j, x, y, h, _ => by cases j <;> cases h
 | _ :: _, [], _, _, j, x, y, _, h => by cases j <;> cases h
 | a :: xs, b :: ys, r, h, j, x, y, hx, hy => by
  unfold allF at h
  cases e : f a b with
  | none => rw [e] at h; cases h
  | some k =>
   cases j with
   | zero => cases hx; cases hy; exact ⟨k, e⟩
   | succ j =>
    rw [e] at h
    have hx' : xs[j]? = some x := hx
    have hy' : ys[j]? = some y := hy
    cases k with
    | true => exact QfC h j x y hx' hy'
    | false =>
     cases e2 : allF f xs ys with
     | none => rw [e2] at h; cases h
     | some r' => exact QfC e2 j x y hx' hy'
noncomputable def itE (f : D → D → Option Bool) (xs ys : List D) (j : Nat) : Bool := match xs[j]?, ys[j]? with
 | some x, some y => (f x y).getD false
 | _, _ => true
theorem QfD {f : D → D → Option Bool} : ∀ {xs ys : List D} {r : Bool}, allF f xs ys = some r → r = ((List.range (min xs.length ys.length)).all (itE f xs ys) && xs.length == ys.length)
 | [], [], _, h => by cases h; rfl
 | _ :: _, [], _, h => by cases h; simp
 | [], _ :: _, _, h => by cases h; simp
 | a :: xs, b :: ys, r, h => by
  have step : (List.range (min (a :: xs).length (b :: ys).length)).all (itE f (a :: xs) (b :: ys)) = ((f a b).getD false && (List.range (min xs.length ys.length)).all (itE f xs ys)) := by
   have e : min (a :: xs).length (b :: ys).length = min xs.length ys.length + 1 := by simp only [List.length_cons]; ac_nf
   rw [e, List.range_succ_eq_map, List.all_cons, List.all_map]
   rfl
  rw [step]
  unfold allF at h
  cases e : f a b with
  | none => rw [e] at h; cases h
  | some k =>
   rw [e] at h
   cases k with
   | true =>
    have := QfD h
    simp only [Option.getD_some, Bool.true_and, List.length_cons]
    rw [this]
    congr 1
    rw [Bool.eq_iff_iff]; simp
   | false =>
    simp only [Option.getD_some, Bool.false_and]
    cases e2 : allF f xs ys with
    | none => rw [e2] at h; cases h
    | some r' => rw [e2] at h; cases h; rfl
theorem Vals.at {vs : List V} {us : List Value} {j : Nat} {u : Value} (r : Vals vs us) (h : us[j]? = some u) : ∃ v, vs[j]? = some v ∧ RelV v u := by
 have hl := r.length
 have hj : j < vs.length := by rw [hl]; exact (List.getElem?_eq_some_iff.mp h).1
 obtain ⟨u', e, ru⟩ := r.get (List.getElem?_eq_getElem hj)
 rw [h] at e; cases e
 exact ⟨_, List.getElem?_eq_getElem hj, ru⟩
theorem Reps.at {vs : List V} {ds : List D} {j : Nat} {v : V} (r : Reps K ρ H vs ds) (h : vs[j]? = some v) : ∃ d, ds[j]? = some d ∧ Rep K ρ H v d := by
 have hl := r.length
 have hj : j < ds.length := by rw [← hl]; exact (List.getElem?_eq_some_iff.mp h).1
 obtain ⟨v', e, rv⟩ := r.get (List.getElem?_eq_getElem hj)
 rw [h] at e; cases e
 exact ⟨_, List.getElem?_eq_getElem hj, rv⟩
theorem QfE {g : List D → List D → Option Bool} {v : V} {d e : D} {r : Bool} (I : Inv X pins σ H s) (hg : ∀ xs ys vs k, Reps X.K ρ H vs xs → Reps X.K ρ H vs ys → g xs ys = some k → k = true) (h : eqS g d e = some r) (r1 : Rep X.K ρ H v d) (r2 : Rep X.K ρ H v e) : r = true := by
 cases r1 with
 | non => cases r2; cases h; rfl
 | bl b => cases r2; cases h; simp
 | int b => cases r2; cases h; simp
 | str b => cases r2; cases h; simp
 | tup h1 q1 =>
  cases r2 with
  | tup h2 q2 =>
   have := I.tuple_inj h1 h2
   subst this
   exact hg _ _ _ _ q1 q2 h
  | _ => cases h
 | lit _ _ => cases r2 <;> cases h
 | ref _ _ => cases r2 <;> cases h
 | dic _ _ => cases r2 <;> cases h
 | exn0 _ _ => cases r2 <;> cases h
 | exn _ _ _ _ => cases r2 <;> cases h
theorem QfF {f : D → D → Option Bool} (hf : ∀ v d e k, Rep K ρ H v d → Rep K ρ H v e → f d e = some k → k = true) {xs ys : List D} {vs : List V} {k : Bool} (h1 : Reps K ρ H vs xs) (h2 : Reps K ρ H vs ys) (h : allF f xs ys = some k) : k = true := by
 induction xs generalizing ys vs k with
 | nil => cases h1; cases h2; cases h; rfl
 | cons x xs ih =>
  cases h1 with
  | cons a b => cases h2 with
   | cons c d =>
    unfold allF at h
    cases e : f _ _ with
    | none => rw [e] at h; cases h
    | some k =>
     rw [e] at h
     have := hf _ _ _ _ a c e
     subst this
     exact ih b d h
theorem QfG (I : Inv X pins σ H s) : ∀ (n : Nat) {v : V} {d e : D} {r : Bool}, eqF n d e = some r → Rep X.K ρ H v d → Rep X.K ρ H v e → r = true
 | 0, _, _, _, _, h, r1, r2 => QfE I (fun _ _ _ _ _ _ z => by cases z) h r1 r2
 | n + 1, _, _, _, _, h, r1, r2 => QfE I (fun xs ys vs k q1 q2 z => QfF (fun v d e k a b c => QfG I n c a b) q1 q2 z) h r1 r2
open SeqAt in
theorem QfH {g : List D → List D → Option Bool} {A : Around} {v w : V} {u1 u2 : Value} {d e : D} {r : Bool} (I : Inv X pins σ H s) (hu : A.units < cLine)
  (hg : ∀ xs ys k, g xs ys = some k → ∀ vs ws its its2, Reps X.K ρ H vs xs → Reps X.K ρ H ws ys → Vals vs its → Vals ws its2 →
   ∃ e : Nat → Bool, k = ((List.range (min its.length its2.length)).all e && its.length == its2.length) ∧ ∀ (j : Nat) x y, its[j]? = some x → its2[j]? = some y → EqAt A.in1 s x y (e j))
  (hs : ∀ xs ys vs k, Reps X.K ρ H vs xs → Reps X.K ρ H vs ys → g xs ys = some k → k = true)
  (h : eqS g d e = some r) (r1 : Rep X.K ρ H v d) (r2 : Rep X.K ρ H w e) (v1 : RelV v u1) (v2 : RelV w u2) : RcAt A s u1 u2 r ∧ RcNeAt A s u1 u2 (!r) ∧ EqAt A s u1 u2 r := by
 cases r1 with
 | lit _ _ => cases r2 <;> cases h
 | ref _ _ => cases r2 <;> cases h
 | dic _ _ => cases r2 <;> cases h
 | exn0 _ _ => cases r2 <;> cases h
 | exn _ _ _ _ => cases r2 <;> cases h
 | non =>
  cases (show u1 = Value.none from v1)
  cases r2 with
  | non => cases (show u2 = Value.none from v2); cases h; exact ⟨.none_none, .none_none, .same _⟩
  | bl b => cases (show u2 = Value.bool b from v2); cases h; exact ⟨.none_bool b, .none_bool b, .none_bool b⟩
  | int b => obtain ⟨t, rfl⟩ := (show ∃ t, u2 = Value.int b t from v2); cases h; exact ⟨.none_int b t, .none_int b t, .none_int b t⟩
  | str b => obtain ⟨t, rfl⟩ := (show ∃ t, u2 = Value.str b t from v2); cases h; exact ⟨.none_str b t, .none_str b t, .none_str b t⟩
  | tup h2 q2 => cases (show u2 = Value.ref _ from v2); cases h; obtain ⟨_, _, p, _⟩ := I.tuple h2; exact ⟨.none_tuple p hu, .none_tuple p hu, .none_tuple p hu⟩
  | _ => cases h
 | bl a =>
  cases (show u1 = Value.bool a from v1)
  cases r2 with
  | non => cases (show u2 = Value.none from v2); cases h; exact ⟨.bool_none a, .bool_none a, .bool_none a⟩
  | bl b => cases (show u2 = Value.bool b from v2); cases h; exact ⟨.bool_bool a b, .bool_bool a b, .bool_bool a b⟩
  | int b => obtain ⟨t, rfl⟩ := (show ∃ t, u2 = Value.int b t from v2); cases h; exact ⟨.bool_int a b t, .bool_int a b t, .bool_int a b t⟩
  | str b => obtain ⟨t, rfl⟩ := (show ∃ t, u2 = Value.str b t from v2); cases h; exact ⟨.bool_str a b t, .bool_str a b t, .bool_str a b t⟩
  | tup h2 q2 => cases (show u2 = Value.ref _ from v2); cases h; obtain ⟨_, _, p, _⟩ := I.tuple h2; exact ⟨.bool_tuple a p hu, .bool_tuple a p hu, .bool_tuple a p hu⟩
  | _ => cases h
 | int a =>
  obtain ⟨t1, rfl⟩ := (show ∃ t, u1 = Value.int a t from v1)
  cases r2 with
  | non => cases (show u2 = Value.none from v2); cases h; exact ⟨.int_none a t1, .int_none a t1, .int_none a t1⟩
  | bl b => cases (show u2 = Value.bool b from v2); cases h; exact ⟨.int_bool a t1 b, .int_bool a t1 b, .int_bool a t1 b⟩
  | int b => obtain ⟨t, rfl⟩ := (show ∃ t, u2 = Value.int b t from v2); cases h; exact ⟨.int_int a t1 b t, .int_int a t1 b t, .int_int a t1 b t⟩
  | str b => obtain ⟨t, rfl⟩ := (show ∃ t, u2 = Value.str b t from v2); cases h; exact ⟨.int_str a t1 b t, .int_str a t1 b t, .int_str a t1 b t⟩
  | tup h2 q2 => cases (show u2 = Value.ref _ from v2); cases h; obtain ⟨_, _, p, _⟩ := I.tuple h2; exact ⟨.int_tuple a t1 p hu, .int_tuple a t1 p hu, .int_tuple a t1 p hu⟩
  | _ => cases h
 | str a =>
  obtain ⟨t1, rfl⟩ := (show ∃ t, u1 = Value.str a t from v1)
  cases r2 with
  | non => cases (show u2 = Value.none from v2); cases h; exact ⟨.str_none a t1, .str_none a t1, .str_none a t1⟩
  | bl b => cases (show u2 = Value.bool b from v2); cases h; exact ⟨.str_bool a t1 b, .str_bool a t1 b, .str_bool a t1 b⟩
  | int b => obtain ⟨t, rfl⟩ := (show ∃ t, u2 = Value.int b t from v2); cases h; exact ⟨.str_int a t1 b t, .str_int a t1 b t, .str_int a t1 b t⟩
  | str b => obtain ⟨t, rfl⟩ := (show ∃ t, u2 = Value.str b t from v2); cases h; exact ⟨.str_str a t1 b t, .str_str a t1 b t, .str_str a t1 b t⟩
  | tup h2 q2 => cases (show u2 = Value.ref _ from v2); cases h; obtain ⟨_, _, p, _⟩ := I.tuple h2; exact ⟨.str_tuple a t1 p hu, .str_tuple a t1 p hu, .str_tuple a t1 p hu⟩
  | _ => cases h
 | @tup l1 vs xs h1 q1 =>
  cases (show u1 = Value.ref _ from v1)
  obtain ⟨its, rv, p, _⟩ := I.tuple h1
  cases r2 with
  | non => cases (show u2 = Value.none from v2); cases h; exact ⟨.tuple_none p hu, .tuple_none p hu, .tuple_none p hu⟩
  | bl b => cases (show u2 = Value.bool b from v2); cases h; exact ⟨.tuple_bool b p hu, .tuple_bool b p hu, .tuple_bool b p hu⟩
  | int b => obtain ⟨t, rfl⟩ := (show ∃ t, u2 = Value.int b t from v2); cases h; exact ⟨.tuple_int b t p hu, .tuple_int b t p hu, .tuple_int b t p hu⟩
  | str b => obtain ⟨t, rfl⟩ := (show ∃ t, u2 = Value.str b t from v2); cases h; exact ⟨.tuple_str b t p hu, .tuple_str b t p hu, .tuple_str b t p hu⟩
  | @tup l2 ws ys h2 q2 =>
   cases (show u2 = Value.ref _ from v2)
   obtain ⟨its2, rw', p2, _⟩ := I.tuple h2
   obtain ⟨ef, ek, he⟩ := hg xs ys r h vs ws its its2 q1 q2 rv rw'
   have hit : ∀ j (a1 : j < its.toArray.size) (a2 : j < its2.toArray.size), EqAt A.in1 s its.toArray[j] its2.toArray[j] (ef j) := fun j a1 a2 =>
    he j _ _ (by rw [List.getElem_toArray]; exact List.getElem?_eq_getElem (by simpa using a1)) (by rw [List.getElem_toArray]; exact List.getElem?_eq_getElem (by simpa using a2))
   have k1 := RcAt.tuples (A := A) (s := s) p p2 hu hit
   have k2 := RcNeAt.tuples (A := A) (s := s) p p2 hu hit
   simp only [List.size_toArray] at k1 k2
   rw [← ek] at k1 k2
   refine ⟨k1, k2, ?_⟩
   by_cases hl : l1 = l2
   ·subst hl
    have := I.tuple_inj h1 h2
    subst this
    rw [hs xs ys vs r q1 q2 h]
    exact .same _
   ·exact .of_refs hl k1
  | _ => cases h
open SeqAt in
theorem QfI {n : Nat} {A : Around} (I : Inv X pins σ H s)
  (ih : ∀ {v w : V} {u1 u2 : Value} {d e : D} {r : Bool}, eqF n d e = some r → Rep X.K ρ H v d → Rep X.K ρ H w e → RelV v u1 → RelV w u2 → EqAt A s u1 u2 r)
  {xs ys : List D} {k : Bool} (h : allF (eqF n) xs ys = some k) {vs ws : List V} {its its2 : List Value} (q1 : Reps X.K ρ H vs xs) (q2 : Reps X.K ρ H ws ys) (rv : Vals vs its) (rw' : Vals ws its2) :
  ∃ e : Nat → Bool, k = ((List.range (min its.length its2.length)).all e && its.length == its2.length) ∧ ∀ (j : Nat) x y, its[j]? = some x → its2[j]? = some y → EqAt A s x y (e j) := by
 refine ⟨itE (eqF n) xs ys, ?_, fun j x y hx hy => ?_⟩
 ·have l1 := rv.length
  have l2 := rw'.length
  have l3 := q1.length
  have l4 := q2.length
  rw [← l1, ← l2, l3, l4]
  exact QfD h
 ·obtain ⟨v, hv, ru⟩ := Vals.at rv hx
  obtain ⟨w, hw, rw2⟩ := Vals.at rw' hy
  obtain ⟨d, hd, rd⟩ := Reps.at q1 hv
  obtain ⟨e, he, re⟩ := Reps.at q2 hw
  obtain ⟨r, hr⟩ := QfC h j d e hd he
  have : itE (eqF n) xs ys j = r := by unfold itE; rw [hd, he]; dsimp only; rw [hr]; rfl
  rw [this]
  exact ih hr rd re ru rw2
open SeqAt in
theorem QfJ (I : Inv X pins σ H s) : ∀ (n : Nat) {A : Around} {v w : V} {u1 u2 : Value} {d e : D} {r : Bool}, A.units + n < cLine → eqF n d e = some r → Rep X.K ρ H v d → Rep X.K ρ H w e → RelV v u1 → RelV w u2 → RcAt A s u1 u2 r ∧ RcNeAt A s u1 u2 (!r) ∧ EqAt A s u1 u2 r
 | 0, _, _, _, _, _, _, _, _, hu, h, r1, r2, v1, v2 => QfH I hu (fun _ _ _ z => by cases z) (fun _ _ _ _ _ _ z => by cases z) h r1 r2 v1 v2
 | n + 1, A, _, _, _, _, _, _, _, hu, h, r1, r2, v1, v2 => QfH I (by ac_nf)
   (fun xs ys k z vs ws its its2 q1 q2 rv rw' => QfI I (fun h r1 r2 v1 v2 => (QfJ I n (A := A.in1) (by show A.units + 1 + n < cLine; ac_nf) h r1 r2 v1 v2).2.2) z q1 q2 rv rw')
   (fun xs ys vs k q1 q2 z => QfF (fun v d e k a b c => QfG I n c a b) q1 q2 z) h r1 r2 v1 v2
end
end MM
namespace MM
open PySem PySem.Spec PyProof.Rows L2
section
variable {X : Cx} {K : PySem.W.Frag} {ρ : List Addr} {H : Hp} {st : Sto} {pins : List (Addr × Obj)} {σ : St} {s : Shared}
open SeqAt in
theorem QfK (hu : X.A.units + 60 < cLine) (I : Inv X pins σ H s) (sr : SR X.K ρ H st) {d e : D} {x y : V} {v u : Value} {R : Bool → Sto → List Addr → Hp → Prop} (r1 : Rep X.K ρ H x d) (r2 : Rep X.K ρ H y e) (rx : RelV x v) (ry : RelV y u)
  (p : Post X.K ρ H (eqB d e st) R) : ∃ r, R r st ρ H ∧ RcAt X.A s v u r ∧ RcNeAt X.A s v u (!r) := by
 have hu' : X.A.units < cLine := by ac_nf
 have gen : Post X.K ρ H ((match eqF 50 d e with | some r => ret r | none => bad : M Bool) st) R → ∃ r, R r st ρ H ∧ RcAt X.A s v u r ∧ RcNeAt X.A s v u (!r) := fun q => by
  cases h : eqF 50 d e with
  | none => rw [h] at q; exact q.elim
  | some r =>
   rw [h] at q
   obtain ⟨k1, k2, _⟩ := QfJ I 50 (A := X.A) (by ac_nf) h r1 r2 rx ry
   exact ⟨r, q.ret sr, k1, k2⟩
 cases r1 with
 | non =>
  cases r2 with
  | @ref a n _ h =>
   obtain ⟨ds, e2, p1⟩ := Post.getL (Post.bnd p) sr
   obtain ⟨a', vs, ha, hv, r⟩ := sr.seq e2
   rw [h] at ha; cases ha
   cases (show v = Value.none from rx)
   cases (show u = Value.ref a from ry)
   obtain ⟨_, _, pl, _⟩ := I.list (SqL.of hv)
   exact ⟨false, p1.ret sr, .none_list pl.isList hu', .none_list pl.isList hu'⟩
  | _ => exact gen p
 | @ref a n _ h =>
  cases r2 with
  | non =>
   obtain ⟨ds, e2, p1⟩ := Post.getL (Post.bnd p) sr
   obtain ⟨a', vs, ha, hv, r⟩ := sr.seq e2
   rw [h] at ha; cases ha
   cases (show u = Value.none from ry)
   cases (show v = Value.ref a from rx)
   obtain ⟨_, _, pl, _⟩ := I.list (SqL.of hv)
   exact ⟨false, p1.ret sr, .list_none pl.isList hu', .list_none pl.isList hu'⟩
  | @ref b m _ h' =>
   obtain ⟨xs, e2, p1⟩ := Post.getL (Post.bnd p) sr
   obtain ⟨ys, e3, p2⟩ := Post.getL (Post.bnd p1) sr
   obtain ⟨a', vs, ha, hv, q1⟩ := sr.seq e2
   obtain ⟨b', ws, hb, hw, q2⟩ := sr.seq e3
   rw [h] at ha; cases ha
   rw [h'] at hb; cases hb
   cases (show v = Value.ref a from rx)
   cases (show u = Value.ref b from ry)
   obtain ⟨its, rv, pl, _⟩ := I.list (SqL.of hv)
   obtain ⟨its2, rw', pl2, _⟩ := I.list (SqL.of hw)
   have l1 := rv.length
   have l2 := rw'.length
   have l3 := q1.length
   have l4 := q2.length
   by_cases hl : xs.length = ys.length
   ·rw [if_pos hl] at p2
    cases h2 : allF (eqF 50) xs ys with
    | none => rw [h2] at p2; exact p2.elim
    | some r =>
     rw [h2] at p2
     obtain ⟨ef, ek, he⟩ := QfI (A := X.A.in1) I (fun h r1 r2 v1 v2 => (QfJ I 50 (A := X.A.in1) (by show X.A.units + 1 + 50 < cLine; ac_nf) h r1 r2 v1 v2).2.2) h2 q1 q2 rv rw'
     have hsz : its.toArray.size = its2.toArray.size := by rw [List.size_toArray, List.size_toArray]; ac_nf
     have hit : ∀ j (a1 : j < its.toArray.size) (a2 : j < its2.toArray.size), EqAt X.A.in1 s its.toArray[j] its2.toArray[j] (ef j) := fun j a1 a2 =>
      he j _ _ (by rw [List.getElem_toArray]; exact List.getElem?_eq_getElem (by simpa using a1)) (by rw [List.getElem_toArray]; exact List.getElem?_eq_getElem (by simpa using a2))
     have ek2 : (List.range its.toArray.size).all ef = r := by
      rw [ek, List.size_toArray]
      have : its.length = its2.length := by ac_nf
      rw [this]; simp
     have k1 := RcAt.lists (A := X.A) (s := s) pl.isList pl2.isList hsz hu' hit
     have k2 := RcNeAt.lists (A := X.A) (s := s) pl.isList pl2.isList hsz hu' hit
     rw [ek2] at k1 k2
     exact ⟨r, p2.ret sr, k1, k2⟩
   ·rw [if_neg hl] at p2
    have hne : (its.toArray.size != its2.toArray.size) = true := by
     rw [List.size_toArray, List.size_toArray]
     simp
     ac_nf
    exact ⟨false, p2.ret sr, .lists_lengths pl.isList pl2.isList hne hu', .lists_lengths pl.isList pl2.isList hne hu'⟩
  | _ => exact gen p
 | _ => cases r2 <;> exact gen p
theorem QfL (hu : X.A.units + 60 < cLine) : OpR X (compareOp .Eq) (rOf X.K eqD) := by
 intro pins s σ H x y v u Q I rx ry pq98; obtain ⟨ρ, st, d, e, sr, r1, r2, p⟩ := pq98
 obtain ⟨r, q, k1, _⟩ := QfK hu I sr r1 r2 rx ry p.bnd
 exact k1 _ _ _ _ ⟨.bl r, H, I, rfl, q.ret sr _ (.bl _)⟩
theorem QfM (hu : X.A.units + 60 < cLine) : OpR X (compareOp .NotEq) (rOf X.K neD) := by
 intro pins s σ H x y v u Q I rx ry pq99; obtain ⟨ρ, st, d, e, sr, r1, r2, p⟩ := pq99
 obtain ⟨r, q, _, k2⟩ := QfK hu I sr r1 r2 rx ry p.bnd
 exact k2 _ _ _ _ ⟨.bl (!r), H, I, rfl, q.ret sr _ (.bl _)⟩
end
section
variable {X : Cx} {a b c e o tg : Expr} {es : List Expr} {pos apos cpos : Pos} {fa fb fc : CE} {ca cb : CA} {ta tb : CT} {K : PySem.W.Frag} {ρ : List Addr} {H : Hp} {st : Sto} {x : Str} {p : Pos} {T : String}
theorem QfN (ho : SE X o fa) (ha : SE X e fb) (hbase : attributeBase o "append" X.env (eval o X.env) = eval o X.env := by rfl)
  (hfew : ((backTo cpos (starEach [e] X.env)).all (fun x => !x.1) && (backToKw cpos (keywordEach [] X.env)).all (fun x => x.1.isSome)
   && decide ([e].length + ([] : List Keyword).length + (if ([] : List Keyword).isEmpty then 0 else 1) < 30)) = true := by rfl)
  (hline : (apos.endLine == cpos.line) = true := by rfl) (hs : starEach [e] X.env = (false, eval e X.env) :: starEach [] X.env := by rfl) (hplain : (backTo cpos (starEach [] X.env)).any (·.1) = false := by rfl) :
  SE X (.Call (.Attribute o "append" apos) [e] [] cpos) (cAppend fa fb) :=
 (Qcx PySem.F.plainAttrs_list PySem.F.slot_list_append PySem.F.type_list_append QcA ho (QbI ha QbH hs) hbase hfew hline hs hplain).of fun σ H Q h_ => h_.el fun ρ l st lr sr p => ⟨ρ, l, st, lr, sr, p.bnd.imp fun d st1 ρ1 H1 x1 s1 p1 v rv => by
  cases rv with
  | @ref a n kk h =>
   have hl : n < st1.length := by rw [← s1.len]; exact (List.getElem?_eq_some_iff.mp h).1
   obtain ⟨vs0, hv0⟩ := Qdk kk
   refine ⟨.inl ⟨rfl, vs0, SqL.of hv0⟩, ρ1, l, st1, lr.mono x1, s1, (Post.bnd p1).imp fun y st2 ρ2 H2 x2 s2 p2 w rw' => ?_⟩
   have h2 : ρ2[n]? = some a := by
    obtain ⟨τ, e, _⟩ := x2.pre
    rw [e]; exact Qdi h
   obtain ⟨ds, e2, p3⟩ := Post.getL (Post.bnd p2) s2
   obtain ⟨a', vs, ha, hv, r⟩ := s2.seq e2
   rw [h2] at ha; cases ha
   obtain ⟨hz, p4⟩ := Post.chk p3
   obtain ⟨s3, x3⟩ := s2.put (List.getElem?_eq_some_iff.mp e2).1 h2 hv (Reps.app r (.cons rw' .nil))
   have p5 := Post.bnd p4
   unfold putL at p5
   rw [e2] at p5
   exact ⟨a, vs, w, rfl, rfl, hv, by rw [r.length]; exact hz, (p5 ρ2 _ x3 s3).ret s3 _ .non⟩
  | _ => exact p1.elim⟩
theorem QfO : OpR X (binaryOp .Add) (rOf X.K addD) := by
 intro pins s σ H x y v u Q I rx ry pq100; obtain ⟨ρ, st, d, e, sr, r1, r2, p⟩ := pq100
 cases r1 with
 | int i =>
  cases r2 with
  | int j => exact Qa8 pins s σ H _ _ v u Q I rx ry ⟨i, j, rfl, rfl, p.ret sr _ (.int _)⟩
  | _ => exact p.elim
 | str i =>
  cases r2 with
  | str j => exact Qbx pins s σ H _ _ v u Q I rx ry ⟨i, j, rfl, rfl, (Post.chk p).1, (Post.chk p).2.ret sr _ (.str _)⟩
  | _ => exact p.elim
 | ref _ h =>
  cases r2 with
  | ref _ h' =>
   obtain ⟨xs, e2, p1⟩ := Post.getL (Post.bnd p) sr
   obtain ⟨ys, e3, p2⟩ := Post.getL (Post.bnd p1) sr
   obtain ⟨a', vs, ha, hv, q1⟩ := sr.seq e2
   obtain ⟨b', ws, hb, hw, q2⟩ := sr.seq e3
   rw [h] at ha; cases ha
   rw [h'] at hb; cases hb
   obtain ⟨hz, p3⟩ := Post.chk p2
   refine QcC pins s σ H _ _ v u Q I rx ry ⟨_, _, vs, ws, rfl, rfl, hv, hw, by rw [q1.length, q2.length]; exact hz, fun q hq => ?_⟩
   have nq := sr.fresh hq
   have x1 : Ex ρ H (ρ ++ [q]) (upd H q (.lst (vs ++ ws))) := Ex.newL hq
   refine p3 _ _ x1 ((sr.new hq).keep Qai nq ((Reps.app q1 q2).mono (Ex.new hq))) _ (.ref ⟨_, Qai, rfl⟩ ?_)
   rw [← sr.len]; simp
  | _ => exact p.elim
 | tup h1 q1 =>
  cases r2 with
  | tup h2 q2 =>
   obtain ⟨hz, p2⟩ := Post.chk p
   rename_i a1 vs xs b1 ws ys
   by_cases hx : vs = []
   ·subst hx
    cases q1
    obtain ⟨its, v1, ht, _⟩ := I.tuple h1
    obtain ⟨its2, v2, hb, _⟩ := I.tuple h2
    cases v1
    have ev : v = Value.ref a1 := rx
    have eu : u = Value.ref b1 := ry
    subst ev eu
    obtain ⟨⟨cls, dd, data, sl⟩, ho, hc, n, hd⟩ := ht
    obtain ⟨⟨cls2, dd2, data2, sl2⟩, ho2, hc2, n2, hd2⟩ := hb
    simp only at hc hd hc2 hd2
    subst hc hd hc2 hd2
    refine concat_meets (E := X.xe) ⟨_, ho, rfl⟩ ⟨_, ho2, rfl⟩ noFill_tuple_add seq_tuple_add PySem.F.slot_tuple_add PySem.F.entry_tuple_add (PySem.F.args_tuple_add_2 _ _) (tuple_addW0 a1 b1 _ _ n n2 dd dd2 sl sl2 (by simp)) ⟨ho, ho2, ?_⟩
    exact ⟨.ref b1, H, I, rfl, p2.ret sr _ (.tup h2 q2)⟩
   ·refine Qb9 pins s σ H _ _ v u Q I rx ry ⟨_, _, vs, ws, rfl, rfl, h1, h2, hx, by rw [q1.length, q2.length]; exact hz, fun he => ?_, fun _ q hq => ?_⟩
    ·subst he
     cases q2
     rw [List.append_nil] at p2
     exact p2.ret sr _ (.tup h1 q1)
    ·exact p2 _ _ (Ex.new hq) (sr.new hq) _ (.tup (SqT.of Qai) ((Reps.app q1 q2).mono (Ex.new hq)))
  | _ => exact p.elim
 | _ => cases r2 <;> exact p.elim
theorem _root_.L2.SlR.of {r r' : V → Option Int → Option Int → Hp → VK → Prop} (h : SlR X r) (g : ∀ x lo hi H Q, r' x lo hi H Q → r x lo hi H Q) : SlR X r' := fun pins s σ H x v vl vu lo hi sl Q I rx hs pl pu q => h pins s σ H x v vl vu lo hi sl Q I rx hs pl pu (g x lo hi H Q q)
noncomputable def toOf (K : PySem.W.Frag) (f : CO) : TO := fun σ H Q => ∃ ρ l st, LR K ρ H σ l ∧ SR K ρ H st ∧ Post K ρ H (f l st) fun o _ _ H' => Q o H'
abbrev SO (X : Cx) (e : Option Expr) (f : CO) : Prop := PO X e (toOf X.K f)
theorem QfP : SO X none oNone := fun pins s σ H Q I h_ => h_.el fun ρ l st lr sr p => Qb4 pins s σ H Q I (p.ret sr)
theorem QfQ (h : SE X e fa) : SO X (some e) (oSome fa) := fun pins s σ H Q I h_ => h_.el fun ρ l st lr sr p => Qb5 h pins s σ H Q I ⟨ρ, l, st, lr, sr, p.bnd.imp fun d st1 ρ1 H1 x1 s1 p1 v rv => by
 cases rv with
 | int i => exact ⟨i, rfl, p1.ret s1⟩
 | _ => exact p1.elim⟩
theorem Reps.cut {vs : List V} {ds : List D} (r : Reps K ρ H vs ds) (lo hi : Option Int) : Reps K ρ H (cutV vs lo hi) (cutD ds lo hi) := by
 unfold cutV cutD
 have e : ∀ n d o, HT.sIx n d o = MM.sIx n d o := fun n d o => by cases o <;> rfl
 rw [e, e, r.length]
 exact (r.drop _).take _
theorem QfR {lo hi : Option Expr} {fl fh : CO} {p2 : Pos} (h : SE X e fa) (hl : SO X lo fl) (hh : SO X hi fh) : SL X (.Subscript e (.Slice lo hi none p2) pos) (aSlice fa fl fh) :=
 (Qb6 Qcl h hl hh).of fun σ H Q h_ => h_.el fun ρ l st lr sr p => ⟨ρ, l, st, lr, sr, p.bnd0.imp fun d st1 ρ1 H1 x1 s1 p1 v rv => ⟨ρ1, l, st1, lr.mono x1, s1, (p1.bnd0.left x1).imp fun i st2 ρ2 H2 x2 s2 p2 => ⟨ρ2, l, st2, (lr.mono x1).mono x2, s2, (p2.bnd0.left (x1.trans x2)).imp fun j st3 ρ3 H3 x3 s3 p3 => by
  have rv3 := (rv.mono x2).mono x3
  have x03 := x1.trans (x2.trans x3)
  have fin : ∀ {a : Addr} {vs : List V} {ds : List D}, SqL X.K H3 a vs → Reps X.K ρ3 H3 vs ds → Post X.K ρ H (ret (cutD ds i j) st3) (fun ds _ ρ' H' => ∀ a vs, H a = none → a ∉ ρ' → H' a = some (.lst vs) → Reps X.K ρ' H' vs ds → Q (.ref a) H') → rSlL X.K (.ref a) i j H3 Q := fun {a vs ds} hs r q =>
   ⟨a, vs, rfl, hs, fun q1 hq1 => by
    have hn : H q1 = none := by
     cases z : H q1 with
     | none => rfl
     | some o => exact absurd hq1 (x03.trk q1 o z)
    exact q ρ3 _ (x03.trans (Ex.new hq1)) (s3.new hq1) q1 _ hn (s3.fresh hq1) Qai ((Reps.cut r i j).mono (Ex.new hq1))⟩
  cases rv3 with
  | lit h r => exact fin h.seq r p3
  | ref _ h =>
   obtain ⟨ds, e2, p4⟩ := Post.getL (p3.bnd0.left x03) s3
   obtain ⟨a', vs, ha, hv, r⟩ := s3.seq e2
   rw [h] at ha; cases ha
   exact fin (SqL.of hv) r p4
  | _ => exact p3.elim⟩⟩⟩
end
end MM
namespace MM
open PySem PySem.Spec PyProof.Rows L2
open PySem.AutoSeq1 (wpAny_loadPart')
section
variable {prog : Program} {w : World} {A : Around} {E : Value → Shared → Prop} {s : Shared}
end
section
variable {X : Cx} {tg : Expr} {es : List Expr} {pos : Pos} {fa : CE} {K : PySem.W.Frag} {ρ : List Addr} {H : Hp} {st : Sto}
end
end MM
namespace MM
open PySem PySem.Spec PyProof.Rows L2
section
variable {X : Cx} {K : PySem.W.Frag} {ρ : List Addr} {H : Hp} {st : Sto}
theorem QfS : OpR X (compareOp .Is) (rOf X.K isD) := by
 intro pins s σ H x y v u Q I rx ry pq101; obtain ⟨ρ, st, d, e, sr, r1, r2, p⟩ := pq101
 cases r2 with
 | non =>
  refine Qbm pins s σ H x .non v u Q I rx ry ⟨rfl, ?_⟩
  cases r1 with
  | non => exact p.ret sr _ (.bl true)
  | bl b => exact p.ret sr _ (.bl false)
  | int b => exact p.ret sr _ (.bl false)
  | str b => exact p.ret sr _ (.bl false)
  | tup h r => exact p.ret sr _ (.bl false)
  | lit h r => exact p.ret sr _ (.bl false)
  | ref _ h => exact p.ret sr _ (.bl false)
  | dic _ h => exact p.ret sr _ (.bl false)
  | exn0 _ h => exact p.ret sr _ (.bl false)
  | exn _ h _ _ => exact p.ret sr _ (.bl false)
 | bl b =>
  cases r1 with
  | bl a =>
   cases (show v = Value.bool a from rx)
   cases (show u = Value.bool b from ry)
   refine wpAny_is_plain rfl ⟨.bl (a == b), H, I, ?_, p.ret sr _ (.bl _)⟩
   cases a <;> cases b <;> rfl
  | _ => exact p.elim
 | _ => cases r1 <;> exact p.elim
theorem QfT : OpR X (compareOp .IsNot) (rOf X.K isntD) := by
 intro pins s σ H x y v u Q I rx ry pq102; obtain ⟨ρ, st, d, e, sr, r1, r2, p⟩ := pq102
 cases r2 with
 | non =>
  refine Qbn pins s σ H x .non v u Q I rx ry ⟨rfl, ?_⟩
  cases r1 with
  | non => exact p.ret sr _ (.bl false)
  | bl b => exact p.ret sr _ (.bl true)
  | int b => exact p.ret sr _ (.bl true)
  | str b => exact p.ret sr _ (.bl true)
  | tup h r => exact p.ret sr _ (.bl true)
  | lit h r => exact p.ret sr _ (.bl true)
  | ref _ h => exact p.ret sr _ (.bl true)
  | dic _ h => exact p.ret sr _ (.bl true)
  | exn0 _ h => exact p.ret sr _ (.bl true)
  | exn _ h _ _ => exact p.ret sr _ (.bl true)
 | bl b =>
  cases r1 with
  | bl a =>
   cases (show v = Value.bool a from rx)
   cases (show u = Value.bool b from ry)
   refine wpAny_isNot_plain rfl ⟨.bl (!(a == b)), H, I, ?_, p.ret sr _ (.bl _)⟩
   cases a <;> cases b <;> rfl
  | _ => exact p.elim
 | _ => cases r1 <;> exact p.elim
theorem QfU {v : V} {d : D} (r : Rep K ρ H v d) (h : flatD d = true) : flatV v = true := by
 cases r <;> first | rfl | cases h
theorem QfV : ∀ {vs : List V} {ds : List D}, Reps K ρ H vs ds → ds.all flatD = true → vs.all flatV = true
 | _, _, .nil, _ => rfl
 | _, _, .cons r t, h => by
  rw [List.all_cons, Bool.and_eq_true] at h
  rw [List.all_cons, Bool.and_eq_true]
  exact ⟨QfU r h.1, QfV t h.2⟩
theorem QfW {v w : V} {d e : D} (r : Rep K ρ H v d) (q : Rep K ρ H w e) (h : flatD d = true) (h' : flatD e = true) : eqV v w = eqFl d e := by
 cases r <;> first | (cases q <;> first | rfl | cases h') | cases h
theorem QfX {w : V} {e : D} (q : Rep K ρ H w e) (h' : flatD e = true) : ∀ {vs : List V} {ds : List D}, Reps K ρ H vs ds → ds.all flatD = true → inV w vs = ds.any fun d => eqFl d e
 | _, _, .nil, _ => rfl
 | _, _, .cons r t, h => by
  rw [List.all_cons, Bool.and_eq_true] at h
  have := QfX q h' t h.2
  unfold inV at this ⊢
  rw [List.any_cons, List.any_cons, this, QfW r q h.1 h']
theorem Post.hasK {n : Nat} {k : D} {R : Bool → Sto → List Addr → Hp → Prop} (h : Post K ρ H (MM.hasK n k st) R) (s : SR K ρ H st) : ∃ b kvs, st[n]? = some (.dct b kvs) ∧ kOk b k = true ∧ R (lkK kvs k).isSome st ρ H := by
 obtain ⟨b, kvs, e, p1⟩ := Post.getDc (Post.bnd h) s
 obtain ⟨hk, p2⟩ := Post.chk p1
 exact ⟨b, kvs, e, hk, p2.ret s⟩
theorem _root_.L2.OpR.orO {f : Value → Value → Sem Value} {r r' : R2} (h : OpR X f r) (h' : OpR X f r') : OpR X f (fun x y H Q => r x y H Q ∨ r' x y H Q) := by
 intro pins s σ H x y v u Q I rx ry q
 rcases q with q | q
 ·exact h pins s σ H x y v u Q I rx ry q
 ·exact h' pins s σ H x y v u Q I rx ry q
theorem QfY (hu : X.A.units + 60 < cLine) : OpR X (compareOp .In) (fun x y H Q => ∃ (ρ : List Addr) (st : Sto) (n : Nat) (a : Addr) (b : Bool) (kvs : List (D × D)) (k : D), y = .ref a ∧ SR X.K ρ H st ∧ ρ[n]? = some a ∧ st[n]? = some (.dct b kvs) ∧ Rep X.K ρ H x k ∧ kOk b k = true ∧ Q (.bl (lkK kvs k).isSome) H) := by
 intro pins s σ H x y v u Q I rx ry pq103; obtain ⟨ρ, st, n, a, b, kvs, k, e, sr, ha, hn, rk, hk, q⟩ := pq103
 subst e
 cases ry
 exact QdM (by ac_nf) I (sr.ob n a _ ha hn) rk hk rx fun s' I' => ⟨.bl _, H, I', rfl, q⟩
theorem QfZ (hu : X.A.units + 60 < cLine) : OpR X (compareOp .NotIn) (fun x y H Q => ∃ (ρ : List Addr) (st : Sto) (n : Nat) (a : Addr) (b : Bool) (kvs : List (D × D)) (k : D), y = .ref a ∧ SR X.K ρ H st ∧ ρ[n]? = some a ∧ st[n]? = some (.dct b kvs) ∧ Rep X.K ρ H x k ∧ kOk b k = true ∧ Q (.bl (!(lkK kvs k).isSome)) H) := by
 intro pins s σ H x y v u Q I rx ry pq104; obtain ⟨ρ, st, n, a, b, kvs, k, e, sr, ha, hn, rk, hk, q⟩ := pq104
 subst e
 cases ry
 exact QdN (by ac_nf) I (sr.ob n a _ ha hn) rk hk rx fun s' I' => ⟨.bl _, H, I', rfl, q⟩
theorem Qf0 (hu : X.A.units + 60 < cLine) : OpR X (compareOp .In) (rOf X.K inD) := (Qcq.orO (QfY hu)).of fun x y H Q pq77 => by
 obtain ⟨ρ, st, d, e, sr, r1, r2, p⟩ := pq77
 have fin : ∀ {a : Addr} {vs : List V} {ds : List D} (hq : SqL X.K H a vs ∨ SqT X.K H a vs) (r : Reps X.K ρ H vs ds) (p1 : Post X.K ρ H (inL d ds st) fun r _ ρ' H' => ∀ v, Rep X.K ρ' H' v r → Q v H'), rIn X.K false x (.ref a) H Q := fun hq r p1 => by
  obtain ⟨⟨h1, h2⟩, p2⟩ := Post.chk p1
  refine ⟨_, _, rfl, hq, QfU r1 h1, QfV r h2, ?_⟩
  rw [if_neg (by simp), QfX r1 h1 r h2]
  exact p2.ret sr _ (.bl _)
 cases r2 with
 | tup h r => exact .inl (fin (.inr h) r ((Post.bnd p).ret sr))
 | lit h r => exact .inl (fin (.inl h.seq) r ((Post.bnd p).ret sr))
 | ref _ h =>
  obtain ⟨ds, e2, p1⟩ := Post.getL (Post.bnd p) sr
  obtain ⟨a', vs, ha, hv, r⟩ := sr.seq e2
  rw [h] at ha; cases ha
  exact .inl (fin (.inl (SqL.of hv)) r p1)
 | @dic a n _ h =>
  obtain ⟨b, kvs, e1, hk, q⟩ := Post.hasK (Post.bnd p) sr
  exact .inr ⟨ρ, st, n, a, b, kvs, d, rfl, sr, h, e1, r1, hk, (q.ret sr) _ (.bl _)⟩
 | _ => exact (show False from p).elim
theorem Qf1 (hu : X.A.units + 60 < cLine) : OpR X (compareOp .NotIn) (rOf X.K ninD) := (Qcr.orO (QfZ hu)).of fun x y H Q pq78 => by
 obtain ⟨ρ, st, d, e, sr, r1, r2, p⟩ := pq78
 have fin : ∀ {a : Addr} {vs : List V} {ds : List D} (hq : SqL X.K H a vs ∨ SqT X.K H a vs) (r : Reps X.K ρ H vs ds) (p1 : Post X.K ρ H (ninL d ds st) fun r _ ρ' H' => ∀ v, Rep X.K ρ' H' v r → Q v H'), rIn X.K true x (.ref a) H Q := fun hq r p1 => by
  obtain ⟨⟨h1, h2⟩, p2⟩ := Post.chk p1
  refine ⟨_, _, rfl, hq, QfU r1 h1, QfV r h2, ?_⟩
  rw [if_pos rfl, QfX r1 h1 r h2]
  exact p2.ret sr _ (.bl _)
 cases r2 with
 | tup h r => exact .inl (fin (.inr h) r ((Post.bnd p).ret sr))
 | lit h r => exact .inl (fin (.inl h.seq) r ((Post.bnd p).ret sr))
 | ref _ h =>
  obtain ⟨ds, e2, p1⟩ := Post.getL (Post.bnd p) sr
  obtain ⟨a', vs, ha, hv, r⟩ := sr.seq e2
  rw [h] at ha; cases ha
  exact .inl (fin (.inl (SqL.of hv)) r p1)
 | @dic a n _ h =>
  obtain ⟨b, kvs, e1, hk, q⟩ := Post.hasK (Post.bnd p) sr
  exact .inr ⟨ρ, st, n, a, b, kvs, d, rfl, sr, h, e1, r1, hk, (q.ret sr) _ (.bl _)⟩
 | _ => exact (show False from p).elim
end
section
variable {X : Cx} {a b c e o tg : Expr} {es : List Expr} {pos apos cpos : Pos} {fa fb fc : CE} {ca cb : CA} {ta tb : CT} {K : PySem.W.Frag} {ρ : List Addr} {H : Hp} {st : Sto} {x : Str} {p : Pos} {T id : String} {body : List Stmt} {cs : CS}
theorem Qf2 {g : D → D → M D} (hc : CallR X (.builtin id) (fun xs H Q => ∃ v w, xs = [v, w] ∧ rOf X.K g v w H Q)) (hg : Gl X x) (hm : X.mg x = none) (hv : bootBuiltins x = some (.builtin id)) (ha : SE X a fa) (hb : SE X b fb) (hn : x ≠ "__name__" := by decide) (hdb : (x == ("__debug__" : Str)) = false := by decide)
  (he1 : starEach [a, b] X.env = (false, eval a X.env) :: starEach [b] X.env := by rfl) (he2 : starEach [b] X.env = (false, eval b X.env) :: starEach [] X.env := by rfl) (hpl : (backTo pos (starEach [b] X.env)).any (fun x => x.fst) = false := by rfl) : SE X (.Call (.Name x p) [a, b] [] pos) (c2 g fa fb) :=
 (QbU hc hg hm hv (QbI ha (QbI hb QbH he2) he1) hn hdb he1 hpl).of fun σ H Q h_ => h_.el fun ρ l st lr sr p => ⟨ρ, l, st, lr, sr, p.bnd.imp fun d st1 ρ1 H1 x1 s1 p1 v rv => ⟨ρ1, l, st1, lr.mono x1, s1, p1.bnd.imp fun e st2 ρ2 H2 x2 s2 p2 w rw' => ⟨v, w, rfl, ρ2, st2, d, e, s2, rv.mono x2, rw', p2⟩⟩⟩
theorem Qf3 (hc : X.calm = true) : CallR X (.builtin "max") (fun xs H Q => ∃ v w, xs = [v, w] ∧ rOf X.K max2D v w H Q) := (QbA hc).of fun xs H Q pq79 => by
 obtain ⟨v, w, e, ρ, st, d1, d2, sr, r1, r2, p⟩ := pq79
 cases r1 with
 | int i =>
  cases r2 with
  | int j =>
   refine ⟨i, j, e, ?_⟩
   have : (if j > i then j else i) = max i j := by ac_nf
   rw [this]; exact p.ret sr _ (.int _)
  | _ => exact p.elim
 | _ => exact p.elim
theorem Qf4 (ho : SE X o fa) (hbase : attributeBase o "pop" X.env (eval o X.env) = eval o X.env := by rfl) (hline : (apos.endLine == cpos.line) = true := by rfl) : SE X (.Call (.Attribute o "pop" apos) [] [] cpos) (cPop fa) :=
 (Qcw PySem.F.plainAttrs_list PySem.F.slot_list_pop PySem.F.type_list_pop QcB ho hbase hline).of fun σ H Q h_ => h_.el fun ρ l st lr sr p => ⟨ρ, l, st, lr, sr, p.bnd.imp fun d st1 ρ1 H1 x1 s1 p1 v rv => by
  cases rv with
  | @ref a n _ h =>
   obtain ⟨ds, e2, p2⟩ := Post.getL (Post.bnd p1) s1
   obtain ⟨a', vs, ha, hv, r⟩ := s1.seq e2
   rw [h] at ha; cases ha
   cases e3 : ds.getLast? with
   | none => rw [e3] at p2; exact p2.elim
   | some d =>
    rw [e3] at p2
    have hl := (List.getElem?_eq_some_iff.mp e2).1
    have e4 : ds[ds.length - 1]? = some d := by rw [← List.getLast?_eq_getElem?]; exact e3
    obtain ⟨y, hy, ry⟩ := r.get e4
    have rd : Reps X.K ρ1 H1 vs.dropLast ds.dropLast := by
     rw [List.dropLast_eq_take, List.dropLast_eq_take, r.length]; exact r.take _
    obtain ⟨s3, x3⟩ := s1.put hl h hv rd
    refine ⟨.inl ⟨rfl, vs, SqL.of hv⟩, a, vs, y, rfl, rfl, hv, by rw [r.length]; exact hy, ?_⟩
    have p5 := Post.bnd p2
    unfold putL at p5
    rw [e2] at p5
    exact (p5 ρ1 _ x3 s3).ret s3 _ (ry.mono x3)
  | _ => exact p1.elim⟩
theorem Reps.rev : ∀ {vs : List V} {ds : List D}, Reps K ρ H vs ds → Reps K ρ H vs.reverse ds.reverse
 | _, _, .nil => .nil
 | _, _, .cons r t => by
  rw [List.reverse_cons, List.reverse_cons]; exact Reps.app (Reps.rev t) (.cons r .nil)
theorem Qf5 {p : Pos} (hg : Gl X "range") (hm : X.mg "range" = none) (h : SE X a fa) (h' : SE X b fb) (he1 : starEach [a, b] X.env = (false, eval a X.env) :: starEach [b] X.env := by rfl) (he2 : starEach [b] X.env = (false, eval b X.env) :: starEach [] X.env := by rfl)
  (hs : starEach [a, b] X.env = [(false, eval a X.env), (false, eval b X.env)] := by rfl) (hs2 : starEach [b] X.env = [(false, eval b X.env)] := by rfl) : SI X tg (.Call (.Name "range" p) [a, b] [] pos) (MM.iRng2 fa fb) :=
 (Qa2 (tg := tg) (p := p) (pos := pos) hg hm (QbI h (QbI h' QbH he2) he1) hs hs2).of fun σ H R h_ => h_.el fun ρ l st lr sr p => ⟨ρ, l, st, lr, sr, p.bnd.imp fun d st1 ρ1 H1 x1 s1 p1 v rv => ⟨ρ1, l, st1, lr.mono x1, s1, p1.bnd.imp fun e st2 ρ2 H2 x2 s2 p2 w rw' => by
  have rv2 := rv.mono x2
  cases rv2 with
  | int i =>
   cases rw' with
   | int j =>
    obtain ⟨⟨⟨h1, h2⟩, h3, h4⟩, p3⟩ := Post.chk p2
    exact ⟨i, j, rfl, ⟨h1, h2, h3, h4⟩, p3.ret s2 _ Qe2⟩
   | _ => exact p2.elim
  | _ => cases rw' <;> exact p2.elim⟩⟩
theorem Qf6 (hp : PassesOwn (model X.prog X.w) X.A X.env X.xe) (hc : ST X c ta) (hb : SSs X body cs) : SS X (.While c body [] pos) (sWhile ta cs) := (QaU hp hc hb).of fun G σ H h_ => h_.el fun ρ l st lr sr p => by
 unfold sWhile at p
 by_cases h : ∃ n, ∀ r, whileN ta cs n l st = r → r ≠ .bad
 ·rw [dif_pos h] at p
  generalize Classical.choose h = n at p
  refine ⟨fun m σ H => ∃ ρ l st, LR X.K ρ H σ l ∧ SR X.K ρ H st ∧ Post X.K ρ H (whileN ta cs m l st) fun f _ ρ' H' => match f with
   | .next l' => ∀ σ', LR X.K ρ' H' σ' l' → G.nx σ' H'
   | .ret d => ∀ v, Rep X.K ρ' H' v d → G.rt v H'
   | .brk l' => ∀ σ', LR X.K ρ' H' σ' l' → G.bk σ' H'
   | .cnt l' => ∀ σ', LR X.K ρ' H' σ' l' → G.ct σ' H', ⟨n, ρ, l, st, lr, sr, p⟩, ?_⟩
  intro m σ1 H1 pq105; obtain ⟨ρ1, l1, st1, lr1, sr1, p1⟩ := pq105
  cases m with
  | zero => exact p1.elim
  | succ m =>
   refine ⟨ρ1, l1, st1, lr1, sr1, (Post.bnd p1).imp fun k st2 ρ2 H2 x2 s2 p2 => ?_⟩
   cases k with
   | false => exact p2.ret s2 _ (lr1.mono x2)
   | true =>
    refine ⟨fun σ' H' => ∃ ρ l st, LR X.K ρ H' σ' l ∧ SR X.K ρ H' st ∧ Post X.K ρ H' (whileN ta cs m l st) _, fun σ' H' q => ⟨m, Nat.lt_succ_self m, q⟩, ρ2, l1, st2, lr1.mono x2, s2, (Post.bnd p2).imp fun f st3 ρ3 H3 x3 s3 p3 => ?_⟩
    cases f with
    | next l' => exact fun σ' lr' => ⟨ρ3, l', st3, lr', s3, p3⟩
    | ret d => exact p3.ret s3
    | brk l' => exact p3.ret s3
    | cnt l' => exact fun σ' lr' => ⟨ρ3, l', st3, lr', s3, p3⟩
 ·rw [dif_neg h] at p; exact p.elim
end
end MM
namespace MM
open PySem PySem.Spec PyProof.Rows L2
section
variable {X : Cx} {e st : Expr} {pos p2 p3 p4 : Pos} {fa : CE} {te : TE} {j : Nat}
theorem Qf7 {lo hi : Option Expr} {fl fh : CO} {p2 : Pos} (h : SE X e fa) (hl : SO X lo fl) (hh : SO X hi fh) : SE X (.Subscript e (.Slice lo hi none p2) pos) (cSliceT fa fl fh) :=
 (Qb6 Qb8 h hl hh).of fun σ H Q h_ => h_.el fun ρ l st lr sr p => ⟨ρ, l, st, lr, sr, p.bnd.imp fun d st1 ρ1 H1 x1 s1 p1 v rv => ⟨ρ1, l, st1, lr.mono x1, s1, p1.bnd.imp fun i st2 ρ2 H2 x2 s2 p2 => ⟨ρ2, l, st2, (lr.mono x1).mono x2, s2, p2.bnd.imp fun j st3 ρ3 H3 x3 s3 p3 => by
  have rv3 := (rv.mono x2).mono x3
  have e : ∀ n d o, HT.sIx n d o = MM.sIx n d o := fun n d o => by cases o <;> rfl
  cases rv3 with
  | @tup a vs ds h r =>
   obtain ⟨hw, p4⟩ := Post.chk p3
   exact ⟨a, vs, rfl, h, by rw [e, e, r.length]; exact hw, fun q hq => p4 ρ3 _ (Ex.new hq) (s3.new hq) _ (.tup (SqT.of Qai) ((Reps.cut r i j).mono (Ex.new hq)))⟩
  | _ => exact p3.elim⟩⟩⟩
end
end MM
namespace MM
open PySem
end MM
namespace MM
open PySem PySem.Spec PyProof.Rows L2
section
variable {prog : Program} {w : World} {A : Around} {s : Shared} {Q : Bool → Shared → Prop}
end
section
variable {X : Cx} {K : PySem.W.Frag} {ρ : List Addr} {H : Hp} {st : Sto}
theorem Reps.pick : ∀ {vs : List V} {ds : List D} (i : Nat), Reps K ρ H vs ds → Rep K ρ H (vs.getD i .non) (ds.getD i .non)
 | _, _, _, .nil => by simp; exact .non
 | _, _, 0, .cons r t => by simpa using r
 | _, _, i + 1, .cons r t => by simpa using Reps.pick i t
theorem Vals.pick : ∀ {vs : List V} {us : List Value} (i : Nat), Vals vs us → RelV (vs.getD i .non) (us.getD i .none)
 | _, _, _, .nil => by simp; rfl
 | _, _, 0, .cons r t => by simpa using r
 | _, _, i + 1, .cons r t => by simpa using Vals.pick i t
theorem Reps.picks {vs : List V} {ds : List D} (r : Reps K ρ H vs ds) : ∀ (p : List Nat), Reps K ρ H (p.map fun i => vs.getD i .non) (p.map fun i => ds.getD i .non)
 | [] => .nil
 | i :: p => .cons (Reps.pick i r) (Reps.picks r p)
theorem Vals.picks {vs : List V} {us : List Value} (r : Vals vs us) : ∀ (p : List Nat), Vals (p.map fun i => vs.getD i .non) (p.map fun i => us.getD i .none)
 | [] => .nil
 | i :: p => .cons (Vals.pick i r) (Vals.picks r p)
end
end MM
namespace MM
open PySem PySem.Spec PyProof.Rows L2
section
variable {X : Cx} {pins : List (Addr × Obj)} {σ : St} {H : Hp} {s : Shared} {h' : Heap} {ch : List Addr}
end
section
variable {X : Cx} {tg : Expr} {es : List Expr} {pos : Pos} {fa fb : CE} {K : PySem.W.Frag} {ρ : List Addr} {H : Hp} {st : Sto}
end
end MM
namespace MM
open PySem PySem.Spec PyProof.Rows L2
structure Src (prog : Program) (w : World) (A : Around) (it src : Addr) (val : Nat → Option Value) (P : Nat → Heap → Prop) : Prop where
 there : ∀ k h, P k h → ∃ o, h.get? it = some o
 keep : ∀ k h h', P k h → (∀ b, b = it ∨ b = src → ∀ o, h.get? b = some o → h'.get? b = some o) → P k h'
 item : ∀ k x (s : Shared) (Q : Value → Shared → Prop) (E : Value → Shared → Prop), P k s.heap → val k = some x → (∀ h', P (k + 1) h' → Heap.SameBut it s.heap h' → Q x { s with heap := h' }) → wpAny (model prog w) A (Builtin.SmallTypes.nextOf (.ref it)) Q E s
 done : ∀ k (s : Shared) (Q : Value → Shared → Prop) (E : Value → Shared → Prop), P k s.heap → val k = none → (∀ h' e, Heap.ExtBut it s.heap h' → (∃ o, h'.get? e = some o ∧ o.cls = .type "StopIteration") → E (.ref e) { s with heap := h' }) → wpAny (model prog w) A (Builtin.SmallTypes.nextOf (.ref it)) Q E s
section
variable {prog : Program} {w : World} {A : Around} {E : Value → Shared → Prop} {s : Shared} {z tI tO i1 i2 l1 l2 : Addr} {v1 v2 : Nat → Option Value} {P1 P2 : Nat → Heap → Prop} {k : Nat} {u v : Value}
end
section
variable {prog : Program} {w : World} {A : Around} {E : Value → Shared → Prop} {s : Shared}
end
section
variable {X : Cx} {tg : Expr} {es : List Expr} {pos : Pos} {fa fb : CE} {K : PySem.W.Frag} {ρ : List Addr} {H : Hp} {st : Sto}
theorem atI {h h' : Heap} {it l : Addr} {k : Nat} (x : h.IsTupleIter it l k) (e : ∀ o, h.get? it = some o → h'.get? it = some o) : h'.IsTupleIter it l k := let ⟨o, e1, r⟩ := x; ⟨o, e o e1, r⟩
end
end MM
namespace PySem.F
theorem nolen_lri : typeLookup (.type "list_reverseiterator") "__len__" = pure none := by rw [typeLookup_type, builtinLookup_eq_fast]; kernel_rfl
theorem hint_lri : typeLookup (.type "list_reverseiterator") "__length_hint__" = pure (some (.builtin "list_reverseiterator.__length_hint__")) := by rw [typeLookup_type, builtinLookup_eq_fast]; kernel_rfl
end PySem.F
namespace MM
open PySem PySem.Spec PyProof.Rows L2
section
variable {prog : Program} {w : World} {A : Around} {E : Value → Shared → Prop} {s : Shared} {r : Addr}
theorem Qf8 {Q : Bool → Shared → Prop} (hT : s.TypeIs (.ref r) "list_reverseiterator") (h : Q false s) : wpAny (model prog w) A (Builtin.List.listLengthHint (.ref r)) Q E s := by
 unfold Builtin.List.listLengthHint
 refine wpAny_bind (wpAny_specialOf hT PySem.F.nolen_lri ?_)
 show wpAny _ A (specialOf (Value.ref r) (Str.ofString "__length_hint__") >>= _) _ _ _
 refine wpAny_bind (wpAny_specialOf hT PySem.F.hint_lri ?_)
 generalize hid : ("list_reverseiterator.__length_hint__" : String) = id0
 wp_delta
 rw [show splitId id0 = some ("list_reverseiterator", "__length_hint__") from by subst hid; decide +kernel]
 subst hid
 refine wpAny_bind (wpAny_isInstance (b := true) hT (by rw [isSubtype_type]; kernel_rfl) ?_)
 exact wpAny_pure h
theorem Qf9 {R : Result → Shared → Prop} {I l : Addr} {items : Array Value} (hh : A.handled = none) (hit : s.heap.IsRevIter I l ((items.size : Int) - 1)) (hl : s.heap.IsList l items) (hne : l ≠ I) (S : Addr) (hSI : S ≠ I) (hSl : S ≠ l) (res : Value) (c₀ : Nat) (hS : s.heap.get? S = some { cls := .type "list", data := .seq #[] c₀ })
  (hR : ∀ h' tk acc' c', (∀ b o, b ≠ S → b ≠ I → s.heap.get? b = some o → h'.get? b = some o) → h'.get? S = some { cls := .type "list", dict := none, data := .seq acc' c', slots := #[] } → ItemsOf (fun i v => items[items.size - 1 - i]? = some v) acc' items.size → R (.ok (.ret res)) { s with heap := h', toks := tk }) (hn : items.size ≤ sizeLine) :
  wpAny (model prog w) A.in1 (Builtin.List.listExtendWith (.ref S) (.ref I) res)
   (fun fin s' => match fin with | .done f => R (.ok f) s' | .again c' => c'.quiet = true ∧ codeAny (model prog w) A c' R s') (fun e s' => R (.error e) s') s := by
 have W := Walks.listRev (prog := prog) (w := w) (A := A.in1) hh I l hne items
 have hSf : S ∉ [I, l] := by simp only [List.mem_cons, List.not_mem_nil, or_false, not_or]; exact ⟨hSI, hSl⟩
 have st0 : 0 ≤ items.size ∧ s.heap.IsRevIter I l ((items.size : Int) - 1 - ((0 : Nat) : Int)) ∧ s.heap.IsList l items := ⟨Nat.zero_le _, by rw [show (items.size : Int) - 1 - ((0 : Nat) : Int) = (items.size : Int) - 1 by ac_nf]; exact hit, hl⟩
 unfold Builtin.List.listExtendWith
 refine wpAny_bind (wpAny_typeOf hit.typeIs ?_)
 have h1 : Builtin.List.listSameRef (.ref S) (.ref I) = false := by simp [Builtin.List.listSameRef, hSI]
 rw [if_neg (by rw [h1]; decide)]
 refine wpAny_bind (wpAny_pyIter_revIter hit ?_)
 refine wpAny_bind (wpAny_holding (Qf8 hit.typeIs ?_))
 rw [if_neg (by decide)]
 refine wpAny_pure ⟨plainId_quiet PySem.F.plain_extend_loop _, codeAny_extend_loopS W.toS hn S hSf res items.size 0 _ #[] c₀ rfl (Nat.zero_le _) st0 hS (ItemsOf.nil _) fun s' acc' c' hm hS' hacc => ?_⟩
 rw [Moved.eq_with hm]
 refine hR s'.heap s'.toks acc' c' (fun b o hb hbI e => hm.heap b o (fun hmem => ?_) e) hS' hacc
 rcases List.mem_cons.mp hmem with e' | hmem
 ·exact hb e'
 ·exact hbI (List.mem_singleton.mp hmem)
theorem Qga {Q : Value → Shared → Prop} {I l : Addr} {items : Array Value} (hh : A.handled = none) (hit : s.heap.IsRevIter I l ((items.size : Int) - 1)) (hl : s.heap.IsList l items) (hne : l ≠ I) (hn : items.size ≤ sizeLine)
  (hQ : ∀ h' tk acc' c', (∀ b o, b ≠ I → s.heap.get? b = some o → h'.get? b = some o) → h'.get? s.heap.objs.size = some { cls := .type "list", dict := none, data := .seq acc' c', slots := #[] } → ItemsOf (fun i v => items[items.size - 1 - i]? = some v) acc' items.size → Q (.ref s.heap.objs.size) { s with heap := h', toks := tk }) :
  wpAny (model prog w) A (call (.type "list") [.ref I]) Q E s := by
 refine callType_codes (Q₁ := fun obj s₁ => obj = .ref s.heap.objs.size ∧ s₁ = { s with heap := s.heap.push { cls := .type "list", data := .seq #[] } }) PySem.F.called_list (PySem.F.typeCall_list_1 _) PySem.F.entry_list_init
  (code_list_new _ ⟨rfl, rfl⟩) fun obj s₁ h₁ => ?_
 obtain ⟨rfl, rfl⟩ := h₁
 have hS : (s.heap.push { cls := .type "list", data := .seq #[] }).get? s.heap.objs.size = some { cls := .type "list", data := .seq #[] } := Heap.get?_push_size _ rfl
 have hI : I < s.heap.objs.size := let ⟨_, e, _⟩ := hit; Heap.lt_size e
 have hL : l < s.heap.objs.size := let ⟨_, e, _⟩ := hl; Heap.lt_size e
 have hit1 : (s.heap.push { cls := .type "list", data := .seq #[] }).IsRevIter I l ((items.size : Int) - 1) := let ⟨o, e, x⟩ := hit; ⟨o, Heap.get?_push_of_some _ e, x⟩
 have hl1 : (s.heap.push { cls := .type "list", data := .seq #[] }).IsList l items := let ⟨o, e, x⟩ := hl; ⟨o, Heap.get?_push_of_some _ e, x⟩
 refine ⟨⟨_, hS, rfl⟩, PySem.F.args_list_init_2 _ _, ?_⟩
 show wpAny _ A.in1.in1 (do let old ← Builtin.List.listItems (.ref s.heap.objs.size); Builtin.List.listUpdate (.ref s.heap.objs.size) (fun _ => #[]); letGo old.toList.reverse; Builtin.List.listExtendWith (.ref s.heap.objs.size) (.ref I) .none) _ _ _
 refine wpAny_bind ?_
 unfold Builtin.List.listItems
 refine wpAny_bind (wpAny_seqItems hS rfl (wpAny_pure ?_))
 show wpAny _ _ (updateSeq s.heap.objs.size (fun _ => #[]) >>= fun _ => letGo (#[] : Array Value).toList.reverse >>= fun _ => Builtin.List.listExtendWith (.ref s.heap.objs.size) (.ref I) .none) _ _ _
 refine wpAny_bind (wpAny_updateSeq hS rfl ?_)
 have hS₂ := Heap.get?_update_self (Obj.mapSeq (fun _ => (#[] : Array Value))) hS rfl
 have oth : ∀ b o, b ≠ s.heap.objs.size → (s.heap.push { cls := .type "list", data := .seq #[] }).get? b = some o → ((s.heap.push { cls := .type "list", data := .seq #[] }).update s.heap.objs.size (Obj.mapSeq (fun _ => (#[] : Array Value)))).get? b = some o :=
  fun b o hb e => (Heap.get?_update_other _ _ (Ne.symm hb)).trans e
 refine wpAny_bind (wpAny_letGo ?_)
 refine Qf9 (A := A.in1) hh (let ⟨o, e, x⟩ := hit1; ⟨o, oth _ _ (Nat.ne_of_lt hI) e, x⟩) (let ⟨o, e, x⟩ := hl1; ⟨o, oth _ _ (Nat.ne_of_lt hL) e, x⟩) hne s.heap.objs.size (Nat.ne_of_gt hI) (Nat.ne_of_gt hL) .none _ hS₂ (fun h' tk acc' c' hk hS' hacc => ?_) hn
 exact ⟨rfl, hQ h' tk acc' c' (fun b o hbI e => hk b o (Nat.ne_of_lt (Heap.lt_size e)) hbI (oth b o (Nat.ne_of_lt (Heap.lt_size e)) (Heap.get?_push_of_some _ e))) hS' hacc⟩
end
theorem Qgb {vs : List Value} {acc : Array Value} (h : ItemsOf (fun i v => vs.toArray[vs.toArray.size - 1 - i]? = some v) acc vs.toArray.size) : acc = vs.reverse.toArray := by
 apply Array.ext'
 apply List.ext_getElem?
 intro i
 have hs : acc.size = vs.length := by have := h.1; simpa using this
 by_cases hi : i < vs.length
 ·have e1 : acc[i]? = some (acc[i]'(by ac_nf)) := Array.getElem?_eq_getElem (by ac_nf)
  have e2 := h.2 i _ e1
  rw [Array.getElem?_toList, e1]
  simp only [List.getElem?_toArray, List.size_toArray] at e2
  rw [List.getElem?_reverse hi]
  exact e2.symm
 ·rw [List.getElem?_eq_none (by simp; ac_nf), List.getElem?_eq_none (by simp; ac_nf)]
theorem Vals.reverse : ∀ {xs : List V} {us : List Value}, Vals xs us → Vals xs.reverse us.reverse
 | _, _, .nil => .nil
 | _, _, .cons r t => by
  rw [List.reverse_cons, List.reverse_cons]; exact L2.Vals.append (Vals.reverse t) (.cons r .nil)
section
variable {X : Cx} {a b c e o tg : Expr} {es : List Expr} {pos pos' apos cpos p p' : Pos} {fa fb fc : CE} {ca cb : CA} {K : PySem.W.Frag} {ρ : List Addr} {H : Hp} {st : Sto} {te : TE}
theorem Qgc (hc : X.calm = true) (hg : Gl X "list") (hm : X.mg "list" = none) (hv : bootBuiltins "list" = some (.type "list")) (hg2 : Gl X "reversed") (hm2 : X.mg "reversed" = none) (hv2 : bootBuiltins "reversed" = some (.type "reversed")) (ha : PE X e te)
  (he : starEach [e] X.env = [(false, eval e X.env)] := by rfl) (he2 : starEach [.Call (.Name "reversed" p') [e] [] pos'] X.env = [(false, eval (.Call (.Name "reversed" p') [e] [] pos') X.env)] := by rfl) :
  PE X (.Call (.Name "list" p) [.Call (.Name "reversed" p') [e] [] pos'] [] pos) (fun σ H Q => te σ H fun x H1 => ∃ a xs, x = .ref a ∧ SqL X.K H1 a xs ∧ ∀ q, H1 q = none → Q (.ref q) (upd H1 q (.lst xs.reverse))) := by
 intro pins s σ H Q I h
 refine wpAny_Call_Name_kw (Qay I hg hm hv ?_ (by decide) (by decide))
 refine PyProof.Rows.callWith_type1 ?_ he2 rfl
 rw [he2]
 show wpAny _ _ (spliced [(false, eval (.Call (.Name "reversed" p') [e] [] pos') X.env)]) _ _ s
 refine Calls.spliced_cons ?_
 refine wpAny_Call_Name_kw (Qay I hg2 hm2 hv2 ?_ (by decide) (by decide))
 refine PyProof.Rows.callWith_type1 ?_ he rfl
 rw [he]
 show wpAny _ _ (spliced [(false, eval e X.env)]) _ _ s
 refine Calls.spliced_cons (thn (ha pins s σ H _ I h) fun u s1 ⟨x, H1, I1, r1, a, xs, ex, hx, q⟩ => Calls.spliced_nil ?_)
 subst ex
 cases r1
 obtain ⟨its, rv, pl, hz⟩ := I1.list hx
 have hlen := rv.length
 refine call_reversed_list pl.isList (Calls.spliced_nil ?_)
 have hlt : a < s1.heap.objs.size := let ⟨_, e, _⟩ := pl.isList; Heap.lt_size e
 refine Qga (l := a) (items := its.toArray) (I1.ok.hd hc) ⟨_, Heap.get?_push_size _ rfl, rfl, rfl⟩ (let ⟨o, e, x⟩ := pl.isList; ⟨o, Heap.get?_push_of_some _ e, x⟩) (Nat.ne_of_lt hlt) (by simp only [List.size_toArray]; ac_nf) fun h' tk acc c hk hS hacc => ?_
 rw [Qgb hacc] at hS
 have kp : ∀ b u, s1.heap.get? b = some u → h'.get? b = some u := fun b u e => hk b u (Nat.ne_of_lt (Heap.lt_size e)) (Heap.get?_push_of_some _ e)
 have hp : s1.heap.objs.size ≤ (s1.heap.push (revObj a ((its.toArray.size : Int) - 1))).objs.size := by simp [Heap.push]
 refine ⟨.ref _, _, I1.laid (t' := tk) (o := .lst xs.reverse) kp hp ?_, rfl, q _ (I1.hok.fresh hp)⟩
 exact ⟨by rw [List.length_reverse]; exact hz, its.reverse, c, rv.reverse, hS⟩
theorem Qgd (hc : X.calm = true) (hg : Gl X "list") (hm : X.mg "list" = none) (hv : bootBuiltins "list" = some (.type "list")) (hg2 : Gl X "reversed") (hm2 : X.mg "reversed" = none) (hv2 : bootBuiltins "reversed" = some (.type "reversed")) (ha : SL X e ca)
  (he : starEach [e] X.env = [(false, eval e X.env)] := by rfl) (he2 : starEach [.Call (.Name "reversed" p') [e] [] pos'] X.env = [(false, eval (.Call (.Name "reversed" p') [e] [] pos') X.env)] := by rfl) :
  SL X (.Call (.Name "list" p) [.Call (.Name "reversed" p') [e] [] pos'] [] pos) (aRev ca) :=
 (Qgc hc hg hm hv hg2 hm2 hv2 ha he he2).of fun σ H Q h_ => h_.el fun ρ l st lr sr p => ⟨ρ, l, st, lr, sr, p.bnd0.imp fun ds st1 ρ1 H1 x1 s1 p1 a vs ha na hv rvs => by
  refine ⟨a, vs, rfl, SqL.of hv, fun q hq => ?_⟩
  have hn : H q = none := by
   cases z : H q with
   | none => rfl
   | some o => exact absurd hq (x1.trk q o z)
  exact p1 ρ1 _ (x1.trans (Ex.new hq)) (s1.new hq) q _ hn (s1.fresh hq) Qai ((Reps.rev rvs).mono (Ex.new hq))⟩
theorem Reps.rep {vs : List V} {ds : List D} (h : Reps K ρ H vs ds) : ∀ k : Nat, Reps K ρ H (List.replicate k vs).flatten (List.replicate k ds).flatten
 | 0 => .nil
 | k + 1 => by
  rw [List.replicate_succ, List.replicate_succ, List.flatten_cons, List.flatten_cons]
  exact Reps.app h (Reps.rep h k)
noncomputable def tDNewN (X : Cx) : TE := fun _ H Q => ∀ p, H p = none → Q (.ref p) (upd H p (nstO p []))
theorem Qge : PE X (.Dict [] [] pos) (tDNewN X) := fun pins s σ H Q I h =>
 wpAny_Dict_empty ⟨.ref s.heap.objs.size, _, I.laid (a := s.heap.objs.size) (o := nstO s.heap.objs.size []) (t' := s.toks) (fun _ _ q => Heap.get?_push_of_some _ q) (Nat.le_refl _)
  (QdI (P := X.prog) (w := X.w) (xs := []) (Nat.zero_le _) (beq_eq_false_iff_ne.mpr (Ne.symm (Nat.ne_of_lt I.big))) .nil (Heap.DictOfH.new s.heap) ⟨_, _, Heap.get?_push_size _ rfl, rfl⟩), rfl, h _ (I.hok.fresh (Nat.le_refl _))⟩
theorem Qgf : SE X (.Dict [] [] pos) (cDNew true) := Qge.of fun σ H Q pq81 q hq => by
 obtain ⟨ρ, l, st, lr, sr, p⟩ := pq81
 have p' : ∀ ρ' H', Ex ρ H ρ' H' → SR X.K ρ' H' (st ++ [.dct true []]) → ∀ v, Rep X.K ρ' H' v (.dic st.length) → Q v H' := p
 refine p' (ρ ++ [q]) _ (Ex.newO hq) ((sr.new hq).keepO (sr.fresh hq) ⟨[], Qai, .nil⟩) _ (.dic ⟨_, Qai, .inr rfl⟩ ?_)
 rw [← sr.len]; simp
def SDs (X : Cx) (pos : Pos) (keys : List (Option Expr)) (values : List Expr) (ks : List Key) (ca : CA) : Prop := ∃ trs, PPs X pos keys values trs ∧
 ∀ σ H (Q : List (V × V) → Hp → Prop), (∃ ρ l st, LR X.K ρ H σ l ∧ SR X.K ρ H st ∧ Post X.K ρ H (ca l st) fun ds _ ρ' H' => ks.length = ds.length ∧ ∀ vs, Reps X.K ρ' H' vs ds → Q ((ks.zip vs).map fun kv => (kV kv.1, kv.2)) H') → tPairs trs σ H Q
theorem Qgg : SDs X pos [] [] [] cNil := ⟨[], Qc5, fun σ H Q h_ => h_.el fun ρ l st lr sr p => (p.ret sr).2 [] .nil⟩
theorem Qgh {x : Str} {j : Nat} {v : Expr} {ks : List (Option Expr)} {vs : List Expr} {kk : List Key} (hv : SE X v fa) (hr : SDs X pos ks vs kk ca) :
  SDs X pos (some (.Constant (.str x) j cpos) :: ks) (v :: vs) (.inr x :: kk) (cCons fa ca) := by
 obtain ⟨trs, h1, h2⟩ := hr
 refine ⟨_, Qc6 Qaw hv h1, fun σ H Q h_ => h_.el fun ρ l st lr sr p => ?_⟩
 refine ⟨ρ, l, st, lr, sr, p.bnd.imp fun d st1 ρ1 H1 x1 s1 p1 v rv => h2 _ _ _ ⟨ρ1, l, st1, lr.mono x1, s1, p1.bnd.imp fun ds st2 ρ2 H2 x2 s2 p2 => ?_⟩⟩
 obtain ⟨hl, q⟩ := p2.ret s2
 refine ⟨by simpa using hl, fun vs rvs => ?_⟩
 exact q (v :: vs) (.cons (rv.mono x2) rvs)
theorem KR.zip : ∀ {ks : List Key} {vs : List V} {ds : List D}, Reps K ρ H vs ds → KR K ρ H (ks.zip vs) ((ks.map keyD).zip ds)
 | [], _, _, _ => .nil
 | k :: ks, _, _, .nil => .nil
 | k :: ks, _, _, .cons r t => .cons ⟨rfl, r⟩ (KR.zip t)
theorem KR.merge : ∀ {more : List (Key × V)} {rs : List (D × D)} {es : List (Key × V)} {kvs : List (D × D)}, KR K ρ H more rs → KR K ρ H es kvs → KR K ρ H (mergeK es more) (mgK kvs rs)
 | _, _, _, _, .nil, q => q
 | _, _, es, kvs, .cons (a := p) (b := q) (l₁ := ps) (l₂ := qs) h t, r => by
  have z := KR.put r p.1 h.2
  rw [h.1] at z
  show KR K ρ H (mergeK (L2.putK es p.1 p.2) ps) (mgK (ptK kvs q.1 q.2) qs)
  exact KR.merge (more := ps) (rs := qs) t z
theorem Qgi {keys : List (Option Expr)} {values : List Expr} {ks : List Key} (h : SDs X pos keys values ks ca) (hall : keys.all (·.isSome) = true := by rfl) (hl : keys.length = values.length := by rfl) (h0 : keys ≠ [] := by simp) (h15 : keys.length ≤ 15 := by decide) (hk : ks.length ≤ 15 := by decide) :
  SE X (.Dict keys values pos) (cDisp (ks.map keyD) ca) := by
 obtain ⟨trs, h1, h2⟩ := h
 refine (Qc9 h1 hall hl h0 h15).of fun σ H Q ⟨ρ, l, st, lr, sr, p⟩ q hq => h2 _ _ _ ?_
 have hn := sr.fresh hq
 refine ⟨ρ, l, st, lr.mono (Ex.new hq), sr.new hq, (p.bnd0.left (Ex.new hq)).imp fun ds st1 ρ1 H1 x1 s1 p1 => ?_⟩
 obtain ⟨hlen, p2⟩ := Post.chk p1
 rw [List.length_map] at hlen
 have hq1 : H1 q = some (.dK []) := x1.oth q _ hn Qai
 refine ⟨hlen, fun vs rvs => ⟨hq1, ks.zip vs, rfl, by simp; ac_nf, ?_⟩⟩
 have ne : ∀ b o, H b = some o → b ≠ q := fun b o e z => by rw [z, hq] at e; cases e
 have nq1 : q ∉ ρ1 := by
  obtain ⟨τ, e, f⟩ := x1.pre
  rw [e]
  intro z
  rcases List.mem_append.mp z with z | z
  ·exact hn z
  ·have := f q z; rw [Qai] at this; cases this
 have up : Up ρ1 H1 ρ1 (upd H1 q (.dK (mergeK [] (ks.zip vs)))) := by
  refine ⟨⟨[], by simp⟩, fun c o no w => ?_, fun c o w => ?_⟩
  ·rw [Qaj fun z => by subst z; rw [hq1] at w; cases w; exact nomatch no]; exact w
  ·by_cases z : c = q
   ·subst z; rw [hq1] at w; cases w; exact ⟨_, Qai, rfl⟩
   ·exact ⟨o, by rw [Qaj z]; exact w, rfl⟩
 have s2 : SR X.K ρ1 (upd H1 q (.dK (mergeK [] (ks.zip vs)))) st1 := ⟨s1.len, s1.nd, fun n b o e1 e2 => ObR.mono (o := o) up (s1.ob n b o e1 e2) fun u w => by
  rw [Qaj (fun (z : b = q) => nq1 (by rw [← z]; exact List.mem_of_getElem? e1))]; exact w⟩
 have x2 : Ex ρ H (ρ1 ++ [q]) (upd H1 q (.dK (mergeK [] (ks.zip vs)))) := by
  obtain ⟨τ, e, f⟩ := x1.pre
  refine ⟨⟨τ ++ [q], by rw [e, List.append_assoc], fun b hb => ?_⟩, fun b o no e => ?_, fun b o nb e => ?_, fun b o e => ?_⟩
  ·rcases List.mem_append.mp hb with hb | hb
   ·have z := f b hb
    by_cases w : b = q
    ·subst w; exact hq
    ·rw [Qaj w] at z; exact z
   ·rw [List.mem_singleton] at hb; rw [hb]; exact hq
  ·rw [Qaj (ne b o e)]; exact x1.fix b o no (by rw [Qaj (ne b o e)]; exact e)
  ·rw [Qaj (ne b o e)]; exact x1.oth b o nb (by rw [Qaj (ne b o e)]; exact e)
  ·obtain ⟨o', e', k'⟩ := x1.knd b o (by rw [Qaj (ne b o e)]; exact e)
   exact ⟨o', by rw [Qaj (ne b o e)]; exact e', k'⟩
 have p3 : ∀ ρ' H', Ex ρ H ρ' H' → SR X.K ρ' H' (st1 ++ [.dct false (mgK [] ((ks.map keyD).zip ds))]) → ∀ v, Rep X.K ρ' H' v (.dic st1.length) → Q v H' := p2
 refine p3 _ _ x2 (s2.keepO nq1 ⟨_, Qai, KR.merge (KR.zip (rvs.up up)) .nil⟩) _ (.dic ⟨_, Qai, .inl rfl⟩ ?_)
 rw [← s1.len]; simp
end
end MM
namespace MM
end MM
namespace MM
open PySem PySem.Spec PyProof.Rows L2
mutual
theorem Qgj : ∀ {a b c : D}, eqK a b = true → eqK b c = true → eqK a c = true
 | .int i, b, c, h1, h2 => by
  obtain ⟨j, rfl⟩ : ∃ j, b = .int j := by cases b <;> simp [eqK] at h1 ⊢
  obtain ⟨k, rfl⟩ : ∃ j, c = .int j := by cases c <;> simp [eqK] at h2 ⊢
  simp [eqK] at h1 h2 ⊢; ac_nf
 | .str i, b, c, h1, h2 => by
  obtain ⟨j, rfl⟩ : ∃ j, b = .str j := by cases b <;> simp [eqK] at h1 ⊢
  obtain ⟨k, rfl⟩ : ∃ j, c = .str j := by cases c <;> simp [eqK] at h2 ⊢
  simp [eqK] at h1 h2 ⊢; rw [h1, h2]
 | .tup xs, b, c, h1, h2 => by
  obtain ⟨ys, rfl⟩ : ∃ j, b = .tup j := by cases b <;> simp [eqK] at h1 ⊢
  obtain ⟨zs, rfl⟩ : ∃ j, c = .tup j := by cases c <;> simp [eqK] at h2 ⊢
  rw [eqK] at h1 h2 ⊢
  exact eqKs_trans h1 h2
 | .non, _, _, h1, _ => by simp [eqK] at h1
 | .bl _, _, _, h1, _ => by simp [eqK] at h1
 | .lit _, _, _, h1, _ => by simp [eqK] at h1
 | .ref _, _, _, h1, _ => by simp [eqK] at h1
 | .dic _, _, _, h1, _ => by simp [eqK] at h1
theorem eqKs_trans : ∀ {a b c : List D}, eqKs a b = true → eqKs b c = true → eqKs a c = true
 | [], b, c, h1, h2 => by
  cases b with
  | nil => exact h2
  | cons _ _ => simp [eqKs] at h1
 | x :: xs, b, c, h1, h2 => by
  cases b with
  | nil => simp [eqKs] at h1
  | cons y ys =>
   cases c with
   | nil => simp [eqKs] at h2
   | cons z zs =>
    rw [eqKs, Bool.and_eq_true] at h1 h2 ⊢
    exact ⟨Qgj h1.1 h2.1, eqKs_trans h1.2 h2.2⟩
end
section
variable {X : Cx} {pins : List (Addr × Obj)} {σ : St} {H : Hp} {s : Shared} {ρ : List Addr}
end
end MM
namespace MM
open PySem PyProof.Rows L2
section
variable {prog : Program} {w : World} {K : Type} [DecidableEq K] {knd : HeapKind prog w K} {A : Around} {E : Value → Shared → Prop} {s : Shared} {d a : Addr} {k : K} {xs : List (K × Addr × Value)}
end
section
variable {X : Cx} {pins : List (Addr × Obj)} {σ : St} {H : Hp} {s : Shared} {ρ : List Addr} {st : Sto} {a : Addr}
end
end MM
namespace MM
open PySem PySem.W PyProof.Rows L2
section
variable {prog : Program} {w : World} {A : Around} {E : Value → Shared → Prop} {s : Shared} {d it : Addr} {es : Array DictEntry} {ep i : Nat}
def EnAt (h : Heap) (d : Addr) (es : Array DictEntry) (ep : Nat) : Prop := ∃ o, h.get? d = some o ∧ o.ExactDict ∧ o.data = .dict es ep
theorem EnAt.typeIs (x : EnAt s.heap d es ep) : s.TypeIs (.ref d) "dict" := by
 obtain ⟨o, g, c, _⟩ := x
 exact ⟨o, g, c.1⟩
theorem EnAt.keep {h h' : Heap} (x : EnAt h d es ep) (k : ∀ o, h.get? d = some o → h'.get? d = some o) : EnAt h' d es ep := by
 obtain ⟨o, g, r⟩ := x
 exact ⟨o, k o g, r⟩
theorem EnAt.lt {h : Heap} (x : EnAt h d es ep) : d < h.objs.size := by
 obtain ⟨o, g, _⟩ := x
 exact Heap.lt_size g
theorem Qgk {Q : Value → Shared → Prop} (hd : (d == sysModules) = false) (x : EnAt s.heap d es ep)
  (q : Q (.ref s.heap.objs.size) { s with heap := s.heap.push { cls := .type "dict_keyiterator", data := .fields #[.ref d, .int 0 0, .int es.size 0, .int ep 0] } }) :
  wpAny (model prog w) A (pyIter (.ref d)) Q E s := by
 have T := x.typeIs
 obtain ⟨o, g, c, gd⟩ := x
 refine wpAny_pyIter_slot T F.slot_dict_iter (wpAny_call_entry F.slot_dict_iter T F.entry_dict_iter ?_ (F.args_dict_iter_1 _))
 unfold Builtin.«dict.__iter__» Builtin.Dict.dictSlotNone
 refine wpAny_bind (wpAny_bind (wpAny_notOrdered_dict T ?_))
 show wpAny _ _ (pure (Value.ref d)) _ _ s
 refine wpAny_pure ?_
 show wpAny _ _ (Builtin.Dict.showsAll d >>= _) _ _ s
 unfold Builtin.Dict.showsAll
 rw [if_neg (by rw [hd]; exact Bool.false_ne_true)]
 refine wpAny_bind (wpAny_pure (wpAny_bind (wpAny_dictEntries g gd (wpAny_bind (wpAny_dictEpoch g gd ?_)))))
 refine wpAny_bind (wpAny_newObj_type (wpAny_pure ⟨_, rfl, "dict_keyiterator", _, ⟨_, Heap.get?_push_size _ rfl, rfl⟩, F.slot_dict_keyiterator_next.lookup, ?_⟩))
 simpa [rawInt] using q
theorem Qgl {e : DictEntry} {Q : Option Value → Shared → Prop} (z : s.heap.IsKeyIter it d i es.size ep) (x : EnAt s.heap d es ep) (hx : es[i]? = some e)
  (q : ∀ h', h'.IsKeyIter it d (i + 1) es.size ep → Heap.SameBut it s.heap h' → Q (some e.key) { s with heap := h' }) : wpAny (model prog w) A (pyNext (.ref it)) Q E s := by
 have T := z.typeIs
 obtain ⟨o, g, c, gd⟩ := id z
 obtain ⟨od, gx, cx, dx⟩ := x
 unfold pyNext
 refine wpAny_bind (wpAny_attempt (wpAny_callSpecial?_slot (name := Str.ofString "__next__") T F.slot_dict_keyiterator_next (wpAny_call_entry F.slot_dict_keyiterator_next T F.entry_dict_keyiterator_next ?_ (F.args_dict_keyiterator_next_1 _))))
 refine wpAny_bind (wpAny_pure (wpAny_bind (wpAny_bind ?_)))
 first | refine wpAny_bind (wpAny_typeNameOfWhole_keyiter T (wpAny_pure ?_)) | refine wpAny_bind (wpAny_typeNameOf_keyiter T (wpAny_pure ?_))
 refine wpAny_bind (wpAny_fieldsOf g gd ?_)
 have ow : Builtin.Dict_items.ownsTuple "dict_keyiterator" = false := by decide
 simp only [ow, Bool.false_eq_true, if_false]
 show wpAny _ _ (if (Value.ref d == Value.none) = true then _ else _) _ _ s
 rw [if_neg (show ¬ ((Value.ref d == Value.none) = true) from Bool.false_ne_true)]
 refine wpAny_bind (wpAny_pure (wpAny_bind (wpAny_dictEntries gx dx ?_)))
 rw [if_neg (by simp)]
 refine wpAny_bind (wpAny_pure (wpAny_bind (wpAny_dictEpoch gx dx ?_)))
 rw [if_neg (by simp)]
 refine wpAny_pure ?_
 simp only [show ¬ ((i : Int) < 0) from by ac_nf, if_false, Int.toNat_natCast, hx]
 refine wpAny_bind ?_
 first | refine wpAny_bind (wpAny_typeNameOfWhole_keyiter T (wpAny_pure ?_)) | refine wpAny_bind (wpAny_typeNameOf_keyiter T (wpAny_pure ?_))
 refine wpAny_bind (wpAny_isOneOf_keyiter T ?_)
 show wpAny _ _ (setField (.ref it) 1 (rawInt ((i : Int) + 1)) >>= _) _ _ s
 refine wpAny_bind (wpAny_setField g gd (by simp) ?_)
 have z' : (s.heap.update it (Obj.mapFields (·.setIfInBounds 1 (rawInt ((i : Int) + 1))))).IsKeyIter it d (i + 1) es.size ep :=
  ⟨_, Heap.get?_update_self _ g (Obj.isFreed_of_fields (Obj.data_mapFields gd _)), (Obj.cls_mapFields ..).trans c, by rw [Obj.data_mapFields gd]; simp [rawInt]⟩
 refine wpAny_bind (wpAny_holding (wpAny_bind (wpAny_isOneOf_keyiter (s := { s with heap := s.heap.update it (Obj.mapFields (·.setIfInBounds 1 (rawInt ((i : Int) + 1)))) }) z'.typeIs ?_)))
 show wpAny _ _ (pure e.key) _ _ _
 exact wpAny_pure (wpAny_pure ⟨_, rfl, wpAny_pure (q _ z' (Heap.SameBut.update ..))⟩)
theorem Qgm {Q : Option Value → Shared → Prop} (hh : A.handled = none) (z : s.heap.IsKeyIter it d i es.size ep) (x : EnAt s.heap d es ep) (hx : es[i]? = none)
  (q : ∀ h', Heap.ExtBut it s.heap h' → Q none { s with heap := h' }) : wpAny (model prog w) A (pyNext (.ref it)) Q E s := by
 have T := z.typeIs
 obtain ⟨o, g, c, gd⟩ := id z
 obtain ⟨od, gx, cx, dx⟩ := x
 unfold pyNext
 refine wpAny_bind (wpAny_attempt (wpAny_callSpecial?_slot (name := Str.ofString "__next__") T F.slot_dict_keyiterator_next (wpAny_call_entry F.slot_dict_keyiterator_next T F.entry_dict_keyiterator_next ?_ (F.args_dict_keyiterator_next_1 _))))
 refine wpAny_bind (wpAny_pure (wpAny_bind (wpAny_bind ?_)))
 first | refine wpAny_bind (wpAny_typeNameOfWhole_keyiter T (wpAny_pure ?_)) | refine wpAny_bind (wpAny_typeNameOf_keyiter T (wpAny_pure ?_))
 refine wpAny_bind (wpAny_fieldsOf g gd ?_)
 have ow : Builtin.Dict_items.ownsTuple "dict_keyiterator" = false := by decide
 simp only [ow, Bool.false_eq_true, if_false]
 show wpAny _ _ (if (Value.ref d == Value.none) = true then _ else _) _ _ s
 rw [if_neg (show ¬ ((Value.ref d == Value.none) = true) from Bool.false_ne_true)]
 refine wpAny_bind (wpAny_pure (wpAny_bind (wpAny_dictEntries gx dx ?_)))
 rw [if_neg (by simp)]
 refine wpAny_bind (wpAny_pure (wpAny_bind (wpAny_dictEpoch gx dx ?_)))
 rw [if_neg (by simp)]
 refine wpAny_pure ?_
 simp only [show ¬ ((i : Int) < 0) from by ac_nf, if_false, Int.toNat_natCast, hx]
 refine wpAny_bind ?_
 first | refine wpAny_bind (wpAny_typeNameOfWhole_keyiter T (wpAny_pure ?_)) | refine wpAny_bind (wpAny_typeNameOf_keyiter T (wpAny_pure ?_))
 show wpAny _ _ (setField (.ref it) 0 .none >>= _) _ _ s
 refine wpAny_bind (wpAny_setField g gd (by simp) ?_)
 show wpAny _ _ (newExc (.type "StopIteration") [] >>= _) _ _ _
 refine wpAny_bind ?_
 simp only [newExc, newTuple]
 refine wpAny_bind (wpAny_newObj_type ?_ (by size_fits))
 refine wpAny_bind (m := firstArgMember _ _) (wpAny_of_eq (a := Value.none) (by first | rfl | (simp only [firstArgMember]; rfl)) (wpAny_newObj_type ?_ (by size_fits)))
 simp only [raiseNew]
 refine wpAny_bind (wpAny_handled ?_)
 rw [show A.in1.handled = none from hh]
 refine wpAny_bind (wpAny_pure (wpAny_throw ?_)); refine wpAny_bind (wpAny_isInstance (T := "StopIteration") (b := true) ⟨_, Heap.get?_push_size _ rfl, rfl⟩ isSubtype_stop ?_)
 exact wpAny_pure (q _ (((Heap.SameBut.update ..).extBut.push _).push _))
end
end MM
namespace MM
open PySem
end MM
namespace MM
open PySem PySem.W PyProof.Rows L2
section
variable {X : Cx}
theorem NR.keys {K : PySem.W.Frag} {ρ : List Addr} {H : Hp} {es : List (NK × Addr × V)} {kvs : List (D × D)} (r : NR K ρ H es kvs) : Reps K ρ H (es.map fun p => V.ref p.2.1) (kvs.map (·.1)) := by
 induction r with
 | nil => exact .nil
 | cons h t ih => exact .cons h.2.1 ih
theorem Qgn {o e : Expr} {es : List Expr} {to : TE} {t : TA} {name : Str} {apos cpos : Pos} {id : String} {r : V → List V → Hp → VK → Prop} (slot : Slot "dict" name id) (hty : typeOf (.builtin id) = pure (.type "method_descriptor")) (hm : MtR X id r) (ho : PE X o to) (ha : PA X (e :: es) t)
  (hbase : attributeBase o name X.env (eval o X.env) = eval o X.env)
  (hfew : ((backTo cpos (starEach (e :: es) X.env)).all (fun x => !x.1) && (backToKw cpos (keywordEach [] X.env)).all (fun x => x.1.isSome) && decide ((e :: es).length + ([] : List Keyword).length + (if ([] : List Keyword).isEmpty then 0 else 1) < 30)) = true)
  (hline : (apos.endLine == cpos.line) = true) (hs : starEach (e :: es) X.env = (false, eval e X.env) :: starEach es X.env) (hplain : (backTo cpos (starEach es X.env)).any (·.1) = false) :
  PE X (.Call (.Attribute o name apos) (e :: es) [] cpos) (fun σ H Q => to σ H fun x H1 => (∃ a es ρ kvs, x = .ref a ∧ H1 a = some (nstO a es) ∧ NR X.K ρ H1 es kvs) ∧ t σ H1 fun xs H2 => r x xs H2 Q) := by
 intro pins s σ H Q I h
 refine wpAny_Call_method_late hbase hfew hline rfl (thn (ho pins s σ H _ I h) fun v s1 z => ?_)
 obtain ⟨x, H1, I1, r1, ⟨a, es', ρ, kvs, rfl, e1, nr⟩, q1⟩ := z
 cases r1
 obtain ⟨_, _, _, _, dd, _⟩ := QdH I1 e1 nr
 have dd' := dd
 obtain ⟨ob, _, _, g, c, _⟩ := dd'
 refine ⟨"dict", id, F.plainAttrs_dict, slot, hty, dd.typeIs, fun b eb => by injection eb with eb; subst eb; exact ⟨ob, g, c.2.1⟩, ?_⟩
 have hA := ha cpos pins s1 σ H1 _ I1 q1
 rw [hs] at hA ⊢
 refine Calls.callWith_builtin (by show (false || (backTo cpos (starEach es X.env)).any (·.1)) = false; rw [hplain] <;> rfl) (Calls.evalArgs_plain (thn hA fun us s2 z => ?_))
 obtain ⟨vs, H2, I2, r2, q2⟩ := z
 exact hm pins s2 σ H2 (.ref a) vs _ us Q I2 rfl r2 q2
end
end MM
namespace MM
open PySem
noncomputable def sameD (n : Nat) (ks : List D) : Sto → Prop := fun s => ∃ kvs, s[n]? = some (.dct true kvs) ∧ kvs.map (·.1) = ks
noncomputable def iDic (a : CE) : CI := fun l => bnd (a l) fun x => match x with
 | .dic n => bnd (getDc n) fun p => chk (p.1 = true) (ret ⟨p.2.map (·.1), sameD n (p.2.map (·.1))⟩)
 | _ => bad
end MM
namespace MM
open PySem PySem.W PyProof.Rows L2
theorem Qgo {α β : Type} {F : α → β → Prop} : ∀ {l₁ : List α} {l₂ : List β} {i : Nat} {x : α}, Paired F l₁ l₂ → l₁[i]? = some x → ∃ y, l₂[i]? = some y ∧ F x y
 | _, _, _, _, .nil, e => by simp at e
 | _, _, 0, _, .cons r _, e => by simp at e; subst e; exact ⟨_, rfl, r⟩
 | _, _, i + 1, _, .cons _ t, e => by
  obtain ⟨v, h1, h2⟩ := Qgo (i := i) t (by simpa using e)
  exact ⟨v, by simpa using h1, h2⟩
noncomputable def Itd (a : Addr) (n : Nat) : It :=
 ⟨fun i H => ∃ es p, H a = some (nstO a es) ∧ es.length = n ∧ es[i]? = some p, fun i H x H' => H' = H ∧ ∀ es, H a = some (nstO a es) → ∃ p, es[i]? = some p ∧ x = .ref p.2.1, fun i H => ∃ es, H a = some (nstO a es) ∧ es.length = n ∧ n ≤ i⟩
section
variable {X : Cx} {pins : List (Addr × Obj)} {σ : St} {H : Hp} {s : Shared} {ρ : List Addr} {st : Sto} {a : Addr}
theorem Qgp {es : List (NK × Addr × V)} (I : Inv X pins σ H s) (e : H a = some (nstO a es)) :
  es.length ≤ sizeLine ∧ (a == sysModules) = false ∧ ∃ es', EnAt s.heap a es' es.length ∧ es'.size = es.length ∧ ∀ (i : Nat) (p : NK × Addr × V), es[i]? = some p → ∃ en : DictEntry, es'[i]? = some en ∧ en.key = .ref p.2.1 := by
 obtain ⟨⟨z, y, xs, rx, o, es', ep, h1, h2, h3, h4, h5, h6⟩, w1, w2⟩ := (show ObjOk X.prog X.w H s.heap a (nstO a es) from I.hok a _ e)
 have hl : es.length = xs.length := Paired.length rx
 subst h6
 refine ⟨z, y, es', ⟨o, h1, h2, by rw [hl]; exact h3⟩, ?_, fun i p hp => ?_⟩
 ·rw [hl, ← Array.length_toList, h4, List.length_map]
 ·obtain ⟨q, hq, r⟩ := Qgo rx hp
  refine ⟨nEnt q, by rw [← Array.getElem?_toList, h4, List.getElem?_map, hq]; rfl, ?_⟩
  rw [r.2.1]; rfl
end
theorem Qgq {P : Program} {w : World} {K : PySem.W.Frag} {tg : Expr} (a it : Addr) (n : Nat) : Turn P w K tg (Itd a n) [it] it (fun i h => h.IsKeyIter it a i n n) where
 mem := by simp
 obj := fun i h st b hb => by
  have e : b = it := by simpa using hb
  subst e
  obtain ⟨o, e, c, d⟩ := st
  exact ⟨o, e, fun v z => by rw [d] at z; cases z⟩
 keep := fun i h h' st k => st.at fun o e => k it (by simp) o e
 item := by
  intro X hP hw hK hc i pins s σ H E I hf st hg
  subst hP hw hK
  obtain ⟨es, p, hq, hn, hx⟩ := hg
  obtain ⟨_, _, es', en, hz, hk⟩ := Qgp I hq
  obtain ⟨u, hu, ku⟩ := hk i p hx
  obtain ⟨f0, f1, f2, f3, f4, f5⟩ := hf it (by simp)
  subst hn
  have st2 : s.heap.IsKeyIter it a i es'.size es.length := by rw [hz]; exact st
  refine Qgl st2 en hu fun h' st' sb => ?_
  rw [hz] at st'
  have I1 : Inv X pins σ H { s with heap := h' } := I.turned (t' := s.toks) (fun b o hb e => (sb.2 b hb).trans e) f0 f1 f3 f4 f5
  obtain ⟨o, e, c, d⟩ := id st'
  exact ⟨u.key, rfl, QaV (s := { s with heap := h' }) e c d (by decide) ⟨.ref p.2.1, H, I1, ku, ⟨rfl, fun ys hy => by
   obtain ⟨_, _, es2, en2, hz2, hk2⟩ := Qgp I hy
   obtain ⟨o1, g1, _, d1⟩ := en
   obtain ⟨o2, g2, _, d2⟩ := en2
   rw [g1] at g2; cases g2
   rw [d1] at d2
   injection d2 with d2 d3
   subst d2
   have hi : i < ys.length := by
    rw [← d3]; exact (List.getElem?_eq_some_iff.mp hx).1
   obtain ⟨v, hv, kv⟩ := hk2 i _ (List.getElem?_eq_getElem hi)
   rw [hu] at hv; cases hv
   rw [ku] at kv
   injection kv with kv
   exact ⟨_, List.getElem?_eq_getElem hi, by rw [kv]⟩⟩, st', fun b hb => (hf b hb).1⟩⟩
 done := by
  intro X hP hw hK hc i pins s σ H E I hf st hg
  subst hP hw hK
  obtain ⟨es, hq, hn, hx⟩ := hg
  obtain ⟨_, _, es', en, hz, hk⟩ := Qgp I hq
  obtain ⟨f0, f1, f2, f3, f4, f5⟩ := hf it (by simp)
  subst hn
  have st2 : s.heap.IsKeyIter it a i es'.size es.length := by rw [hz]; exact st
  exact Qgm (I.ok.hd hc) st2 en (by simp; ac_nf) fun h' eb => ⟨rfl, I.turned (t' := s.toks) (fun b o hb e => eb b o hb e) f0 f1 f3 f4 f5⟩
 self := fun _ _ _ _ _ st h => wpAny_pyIter_keyiter st h
section
variable {X : Cx} {tg e : Expr} {fa : CE}
theorem Qgr {l : Expr} {tl : TE} (hl : PE X l tl) : PI X tg l (fun σ H R => tl σ H fun x H1 => ∃ a es, x = .ref a ∧ H1 a = some (nstO a es) ∧ R (Itd a es.length) H1) := by
 intro pins s σ H R I h
 refine thn (hl pins s σ H _ I h) fun v s1 z => ?_
 obtain ⟨x, H1, I1, r1, a, es, e, hq, q⟩ := z
 subst e
 cases r1
 obtain ⟨hz, hd, es', en, sz, _⟩ := Qgp I1 hq
 refine Qgk hd en ?_
 refine ⟨s1.heap.objs.size, [s1.heap.objs.size], _, _, H1, rfl, I1.kept (t' := s1.toks) fun b o e => Heap.get?_push_of_some _ e, Qgq a _ es.length, ⟨_, Heap.get?_push_size _ rfl, rfl, by rw [sz]; rfl⟩, fun b hb => ?_, q⟩
 have e : b = s1.heap.objs.size := by simpa using hb
 subst e
 exact I1.fpOk (Nat.le_refl _) (I1.hok.fresh (Nat.le_refl _))
theorem Qgs (h : SE X e fa) : SI X tg e (iDic fa) := (Qgr h).of fun σ H R h_ => h_.el fun ρ l st lr sr p => ⟨ρ, l, st, lr, sr, p.bnd.imp fun d st1 ρ1 H1 x1 s1 p1 v rv => by
 cases rv with
 | @dic a n _ h =>
  obtain ⟨b, kvs, e, p2⟩ := Post.getDc (Post.bnd p1) s1
  obtain ⟨hb, p3⟩ := Post.chk p2
  cases (show b = true from hb)
  obtain ⟨es, e3, r⟩ := s1.ob n a _ h e
  refine ⟨a, es, rfl, e3, p3.ret s1 _ fun ρ H st x s q => ?_⟩
  obtain ⟨kvs', e4, ek⟩ := q
  have ha : ρ[n]? = some a := by
   obtain ⟨τ, eτ, _⟩ := x.pre
   rw [eτ]; exact Qdi h
  obtain ⟨es', e5, r'⟩ := s.ob n a _ ha e4
  have hl : es'.length = es.length := by
   rw [NR.length r', NR.length r, ← List.length_map (f := (·.1)) (as := kvs'), ek, List.length_map]
  refine ⟨⟨es', e5, hl, by show es.length ≤ (kvs.map (·.1)).length; rw [List.length_map, NR.length r]; exact Nat.le_refl _⟩, fun i d hd => ?_⟩
  have hd' : (kvs'.map (·.1))[i]? = some d := by rw [ek]; exact hd
  have hi : i < es'.length := by
   rw [NR.length r', ← List.length_map (f := (·.1)) (as := kvs')]; exact (List.getElem?_eq_some_iff.mp hd').1
  refine ⟨⟨es', _, e5, hl, List.getElem?_eq_getElem hi⟩, fun y H' z => ?_⟩
  obtain ⟨rfl, z⟩ := z
  obtain ⟨p, hp, rfl⟩ := z es' e5
  refine ⟨Ex.refl, s, ?_⟩
  obtain ⟨q, hq, rq⟩ := Qgo r' hp
  rw [List.getElem?_map, hq] at hd'
  cases hd'
  exact rq.2.1
 | _ => exact p1.elim⟩
end
end MM
namespace MM
open PySem
noncomputable def cGet (a b c : CE) : CE := fun l => bnd (a l) fun x => match x with
 | .dic n => bnd (getDc n) fun p => chk (p.1 = true) (bnd (b l) fun y => bnd (c l) fun z => bnd (getDc n) fun p => chk (p.1 = true ∧ kOk true y = true) (ret ((lkK p.2 y).getD z)))
 | _ => bad
end MM
namespace MM
open PySem PySem.W PyProof.Rows L2
section
variable {prog : Program} {w : World} {K : Type} [DecidableEq K] {knd : HeapKind prog w K} {A : Around} {E : Value → Shared → Prop} {s : Shared} {d a : Addr} {k : K} {xs : List (K × Addr × Value)}
theorem Qgt (hd : (d == sysModules) = false) (dflt : Value) :
  MeetsIn prog w (Builtin.«dict.get» ⟨[.ref d, .ref a, dflt], []⟩) (fun A R s => knd.room A.in1 ∧ ∃ k xs, knd.is s.heap k a ∧ s.heap.DictOfH knd d xs ∧ R (.ok (.ret (((atKey xs k).map (·.2)).getD dflt))) { s with toks := s.toks + knd.draws k }) :=
 .of_wp fun A R s z => by
  obtain ⟨hu, k, xs, hkey, hm, h⟩ := z
  unfold Builtin.«dict.get»
  refine wpAny_bind ?_
  unfold Builtin.Dict.keyAndDefault
  refine wpAny_bind (wpAny_notOrdered_dict hm.typeIs ?_)
  show wpAny _ _ (pure (d, Value.ref a, some dflt)) _ _ s
  refine wpAny_pure ?_
  dsimp only
  refine wpAny_bind (wpAny_dictGet_heap hu hkey hm ?_)
  cases e : (atKey xs k) with
  | some p =>
   rw [e] at h
   exact wpAny_pure ⟨_, rfl, h⟩
  | none =>
   rw [e] at h
   dsimp only [Option.map]
   unfold Builtin.Dict.missed
   rw [if_neg (by rw [hd]; exact Bool.false_ne_true)]
   exact wpAny_bind (wpAny_pure (wpAny_pure ⟨_, rfl, h⟩))
end
section
variable {X : Cx} {pins : List (Addr × Obj)} {σ : St} {H : Hp} {s : Shared} {ρ : List Addr} {st : Sto} {a : Addr}
noncomputable def rGet (X : Cx) : V → List V → Hp → VK → Prop := fun x vs H Q => ∃ (a : Addr) (ρ : List Addr) (st : Sto) (n : Nat) (kvs : List (D × D)) (k d : D) (y v : V), x = .ref a ∧ vs = [y, v] ∧ SR X.K ρ H st ∧ ρ[n]? = some a ∧ st[n]? = some (.dct true kvs) ∧ Rep X.K ρ H y k ∧ kOk true k = true ∧ Rep X.K ρ H v d ∧ ∀ v', Rep X.K ρ H v' ((lkK kvs k).getD d) → Q v' H
theorem Qgu (hu : X.A.units + 60 < cLine) : MtR X "dict.get" (rGet X) := by
 intro pins s σ H x vs u us Q I rx rv h
 obtain ⟨a, ρ, st, n, kvs, k, d, y, v, rfl, rfl, sr, ha, hn, rk, hk, rd, h1⟩ := h
 cases rx
 obtain ⟨u1, u2, rfl, r1, r2⟩ := rv.two
 obtain ⟨es, e, r⟩ := sr.ob n a _ ha hn
 obtain ⟨k, rfl⟩ := QdA hk
 obtain ⟨_, hd, xs, rx, dd, _⟩ := QdH I e r
 obtain ⟨c, e2, e3, hc⟩ := QdG I rk r1
 subst e2 e3
 have qa := NR.val r k
 have qb := NX.val rx k
 refine call_meetsIn F.slot_dict_get dd.typeIs F.entry_dict_get (F.args_dict_get_3 _ _ _) (Qgt (knd := nkd X) hd u2) ⟨show X.A.in1.units + 1 < cLine from (by show X.A.units + 1 + 1 < cLine; ac_nf), k, xs, hc, dd, ?_⟩
 cases ev : valN es k with
 | none =>
  rw [ev] at qa qb
  cases el : lkK kvs (stD k) with
  | some d' => rw [el] at qa; exact qa.elim
  | none =>
   rw [el] at h1
   cases ea : atKey xs k with
   | some p => rw [ea] at qb; exact qb.elim
   | none => exact ⟨v, H, I.tok _, r2, h1 v rd⟩
 | some v' =>
  rw [ev] at qa qb
  cases el : lkK kvs (stD k) with
  | none => rw [el] at qa; exact qa.elim
  | some d' =>
   rw [el] at qa h1
   cases ea : atKey xs k with
   | none => rw [ea] at qb; exact qb.elim
   | some p =>
    rw [ea] at qb
    exact ⟨v', H, I.tok _, qb, h1 v' qa⟩
theorem Qgv {o e1 e2 : Expr} {fa fb fc : CE} {apos cpos : Pos} (hu : X.A.units + 60 < cLine) (ho : SE X o fa) (ha : SE X e1 fb) (hb : SE X e2 fc) (hbase : attributeBase o "get" X.env (eval o X.env) = eval o X.env := by rfl)
  (hfew : ((backTo cpos (starEach [e1, e2] X.env)).all (fun x => !x.1) && (backToKw cpos (keywordEach [] X.env)).all (fun x => x.1.isSome) && decide ([e1, e2].length + ([] : List Keyword).length + (if ([] : List Keyword).isEmpty then 0 else 1) < 30)) = true := by rfl)
  (hline : (apos.endLine == cpos.line) = true := by rfl) (hs : starEach [e1, e2] X.env = (false, eval e1 X.env) :: starEach [e2] X.env := by rfl) (hs2 : starEach [e2] X.env = (false, eval e2 X.env) :: starEach [] X.env := by rfl) (hplain : (backTo cpos (starEach [e2] X.env)).any (·.1) = false := by rfl) :
  SE X (.Call (.Attribute o "get" apos) [e1, e2] [] cpos) (cGet fa fb fc) :=
 (Qgn F.slot_dict_get F.type_dict_get (Qgu hu) ho (QbI ha (QbI hb QbH hs2) hs) hbase hfew hline hs hplain).of fun σ H Q h_ => h_.el fun ρ l st lr sr p => ⟨ρ, l, st, lr, sr, p.bnd.imp fun d st1 ρ1 H1 x1 s1 p1 v rv => by
  cases rv with
  | @dic a n kk h =>
   obtain ⟨b, kvs0, e0, p2⟩ := Post.getDc (Post.bnd p1) s1
   obtain ⟨hb0, p3⟩ := Post.chk p2
   cases (show b = true from hb0)
   obtain ⟨es0, e3, r0⟩ := s1.ob n a _ h e0
   refine ⟨⟨a, es0, ρ1, kvs0, rfl, e3, r0⟩, ?_⟩
   refine ⟨ρ1, l, st1, lr.mono x1, s1, (Post.bnd p3).imp fun dy st2 ρ2 H2 x2 s2 p4 y ry => ⟨ρ2, l, st2, (lr.mono x1).mono x2, s2, (Post.bnd p4).imp fun dz st3 ρ3 H3 x3 s3 p5 z rz => ?_⟩⟩
   show rGet X (.ref a) [y, z] H3 Q
   obtain ⟨b, kvs, e5, p6⟩ := Post.getDc (Post.bnd p5) s3
   obtain ⟨⟨hb5, hk⟩, p7⟩ := Post.chk p6
   cases (show b = true from hb5)
   have h3 : ρ3[n]? = some a := by
    obtain ⟨τ, e, _⟩ := (x2.trans x3).pre
    rw [e]; exact Qdi h
   exact ⟨a, ρ3, st3, n, kvs, dy, dz, y, z, rfl, rfl, s3, h3, e5, ry.mono x3, hk, rz, fun v' rv' => p7.ret s3 v' rv'⟩
  | _ => exact p1.elim⟩
end
end MM
namespace MM
open PySem PyProof.Rows L2
section
variable {X : Cx}
end
section
open PySem.Builtin.Str
variable {prog : Program} {w : World} {A : Around} {E : Value → Shared → Prop} {s : Shared}
end
section
variable {X : Cx}
end
end MM
namespace MM
open PySem PyProof.Rows L2
section
variable {X : Cx} {K : PySem.W.Frag} {ρ : List Addr} {H : Hp} {st : Sto}
end
end MM
namespace MM
open PySem PyProof.Rows L2
noncomputable abbrev CF := Str → Loc → M D
section
variable {X : Cx} {e : Expr} {es : List Expr} {pos : Pos} {fa : CE} {r : CF} {te : TE}
end
end MM
namespace MM
open PySem PyProof.Rows L2
section
variable {X : Cx} {K : PySem.W.Frag} {tg e : Expr} {fa : CE} {te : TE}
end
end MM
namespace MM
open PySem PySem.StrLaws Builtin.Str
structure Mrk (y : Str) (m k : Nat) : Prop where
 lt : k < y.length
 at_ : y.cps.toList[k]? = some m
 un : ∀ j, y.cps.toList[j]? = some m → j = k
 kind : Builtin.Str.strKind y ≤ 1
theorem At.mark {x y : Str} {m k i : Nat} (h : Mrk y m k) (a : At x y x.length i) : x.cps.toList[i + k]? = some m := by
 have e := a.2
 rw [subAt_eq, beq_iff_eq] at e
 have e2 : ((x.cps.toList.drop i).take y.length)[k]? = some m := by rw [e]; exact h.at_
 rw [List.getElem?_take_of_lt h.lt, List.getElem?_drop] at e2
 exact e2
end MM
namespace MM
noncomputable def sv (m : Nat) : List Nat := (List.range 4).filter fun i => m.testBit i
noncomputable def orAll (m : Nat) (vs : List Nat) : Nat := vs.foldl (fun m v => m ||| 1 <<< v) m
noncomputable def smalls : List D → Option (List Nat)
 | [] => some []
 | .int i :: ds => if 0 ≤ i ∧ i < 4 then (smalls ds).map (i.toNat :: ·) else none
 | _ => none
end MM
namespace MM
open PySem PySem.W PyProof.Rows L2
noncomputable def tb (led : Bool) (m : Nat) : SetTable := ⟨7, (sv m).toArray, #[], 0, led, 0, true⟩
theorem Qgw : ∀ led : Bool, ∀ m : Nat, m < 16 → ∀ v : Nat, v < 4 → m.testBit v = false → (tb led m).freeSlot (v : Int) = some (v, false) := by nofun
theorem Qgx : ∀ led : Bool, ∀ m : Nat, m < 16 → ∀ v : Nat, v < 4 → m.testBit v = false → (tb led m).put v = (tb led (m ||| 1 <<< v), SetTable.below (tb led m).place v) ∧ (sv (m ||| 1 <<< v)) = (sv m).take (SetTable.below (tb led m).place v) ++ v :: (sv m).drop (SetTable.below (tb led m).place v) ∧ (m ||| 1 <<< v) < 16 := by nofun
theorem Qgy : ∀ led : Bool, ∀ m : Nat, m < 16 → (tb led m).fits (sv m).length = true ∧ (tb led m).tooFull = false ∧ (sv m).length ≤ 4 := by nofun
theorem Qgz : ∀ m : Nat, m < 16 → ∀ v : Nat, v < 4 → (m.testBit v = true ↔ v ∈ sv m) := by nofun
theorem QgA : ∀ m : Nat, m < 16 → ∀ v ∈ sv m, v < 4 := by nofun
theorem QgB : ∀ m : Nat, m < 16 → ∀ v : Nat, v < 4 → m.testBit v = true → m ||| 1 <<< v = m := by nofun
theorem QgC (led : Bool) : SetTable.fresh 0 0 led = tb led 0 := by cases led <;> rfl
def EnI (e : Int × Value) (v : Nat) : Prop := e.1 = (v : Int) ∧ ∃ t, e.2 = .int v t
def SsAt (led : Bool) (h : Heap) (a : Addr) (m : Nat) : Prop := ∃ o es ep, h.get? a = some o ∧ o.ExactSet ∧ o.data = .set es ep (tb led m) ∧ Paired EnI es.toList (sv m)
theorem Paired.memL {α β : Type} {F : α → β → Prop} : ∀ {l₁ : List α} {l₂ : List β}, Paired F l₁ l₂ → ∀ a ∈ l₁, ∃ b ∈ l₂, F a b
 | _, _, .nil, a, h => by cases h
 | _, _, .cons r t, a, h => by
  rcases List.mem_cons.mp h with e | e
  ·subst e; exact ⟨_, by simp, r⟩
  ·obtain ⟨b, hb, q⟩ := Paired.memL t a e; exact ⟨b, by simp [hb], q⟩
theorem Paired.memR {α β : Type} {F : α → β → Prop} : ∀ {l₁ : List α} {l₂ : List β}, Paired F l₁ l₂ → ∀ b ∈ l₂, ∃ a ∈ l₁, F a b
 | _, _, .nil, a, h => by cases h
 | _, _, .cons r t, a, h => by
  rcases List.mem_cons.mp h with e | e
  ·subst e; exact ⟨_, by simp, r⟩
  ·obtain ⟨b, hb, q⟩ := Paired.memR t a e; exact ⟨b, by simp [hb], q⟩
theorem Paired.ins {α β : Type} {F : α → β → Prop} {a : α} {b : β} (r : F a b) : ∀ {l₁ : List α} {l₂ : List β} (p : Nat), Paired F l₁ l₂ → Paired F (l₁.take p ++ a :: l₁.drop p) (l₂.take p ++ b :: l₂.drop p)
 | _, _, 0, t => .cons r t
 | _, _, p + 1, .nil => .cons r .nil
 | _, _, p + 1, .cons q t => .cons q (Paired.ins r p t)
theorem QgD {v : Nat} (h : v < 4) : hashInt (v : Int) = v := by
 match v, h with
 | 0, _ => rfl
 | 1, _ => rfl
 | 2, _ => rfl
 | 3, _ => rfl
section
variable {prog : Program} {w : World} {A : Around} {E : Value → Shared → Prop} {s : Shared} {a : Addr} {led : Bool} {m v : Nat}
theorem QgE {es : List (Int × Value)} {vs : List Nat} (hv : ∀ v ∈ vs, v < 4) (h : Paired EnI es vs) : ElemsOf (intKind prog w) es := fun e he => by
 obtain ⟨v, hm, e1, t, e2⟩ := Paired.memL h e he
 refine ⟨⟨(v : Int), ?_, ?_⟩, by rw [e2]; rfl⟩
 ·rw [e2]; exact beq_self_eq_true (v : Int)
 ·rw [e1]; exact (QgD (hv v hm)).symm
theorem QgF {k : Int} {e : Int × Value} {v : Nat} (h : EnI e v) : (intKind prog w).is k e.2 = decide (k = (v : Int)) := by
 obtain ⟨_, t, e2⟩ := h
 rw [e2]
 refine (show _ = ((v : Int) == k) from rfl).trans ?_
 by_cases z : k = (v : Int)
 ·subst z; simp
 ·have z' : ¬ (v : Int) = k := fun q => z q.symm
  rw [decide_eq_false z]; exact beq_eq_false_iff_ne.mpr z'
theorem QgG {tk : Tok} {Q : Bool → Shared → Prop} (hm : m < 16) (hv : v < 4) (x : SsAt led s.heap a m)
  (q : ∀ h' b, SsAt led h' a (m ||| 1 <<< v) → Heap.SameBut a s.heap h' → Q b { s with heap := h', toks := s.toks + 1 }) : wpAny (model prog w) A (setAdd a (.int v tk)) Q E s := by
 obtain ⟨o, es, ep, g, c, gd, pr⟩ := x
 have hl := pr.length
 obtain ⟨f1, f2, f3⟩ := Qgy led m hm
 have ft : (tb led m).fits es.size = true := by rw [← Array.length_toList, hl]; exact f1
 have hz : es.size ≤ 4 := by rw [← Array.length_toList, hl]; exact f3
 have el : ElemsOf (intKind prog w) es.toList := QgE (QgA m hm) pr
 unfold setAdd
 refine wpAny_holding (wpAny_bind (wpAny_pyHash_int ?_))
 unfold setAddHashed
 refine wpAny_holding ?_
 rw [setAddHashedIn.eq_def]
 dsimp only
 refine wpAny_bind (wpAny_setState_of (s := { s with toks := s.toks + 1 }) g gd ft ?_)
 dsimp only
 rw [if_pos (byScan_of (knd := intKind prog w) rfl (Nat.lt_of_le_of_lt hz (by decide)) el)]
 refine wpAny_bind ?_
 unfold setAddByScan
 refine wpAny_bind (wpAny_rule (wpAny_bind ?_))
 unfold setScan
 refine wpAny_setScanFrom_of (s := { s with toks := s.toks + 1 }) (knd := intKind prog w) (k := (v : Int)) (x := .int v tk) (beq_self_eq_true (v : Int)) g gd ft es.toList 0 el ?_
 by_cases hb : m.testBit v = true
 ·obtain ⟨e, he, hE⟩ := Paired.memR pr v ((Qgz m hm v hv).mp hb)
  have hs : (List.findIdx? (fun e => (intKind prog w).is (v : Int) e.snd) es.toList).isSome = true := by
   rw [List.findIdx?_isSome, List.any_eq_true]
   exact ⟨e, he, by rw [QgF hE]; simp⟩
  obtain ⟨j, hj⟩ := Option.isSome_iff_exists.mp hs
  rw [hj]
  dsimp only
  refine wpAny_pure (wpAny_pure ?_)
  have em := QgB m hm v hv hb
  exact q s.heap false (by rw [em]; exact ⟨o, es, ep, g, c, gd, pr⟩) ⟨rfl, fun _ _ => rfl⟩
 ·have hb' : m.testBit v = false := by simpa using hb
  have hn : List.findIdx? (fun e => (intKind prog w).is (v : Int) e.snd) es.toList = none := by
   rw [List.findIdx?_eq_none_iff]
   intro e he
   obtain ⟨u, hu, hE⟩ := Paired.memL pr e he
   rw [QgF hE]
   apply decide_eq_false
   intro z
   have : v = u := by ac_nf
   subst this
   exact hb ((Qgz m hm v hv).mpr hu)
  rw [hn]
  dsimp only
  obtain ⟨p1, p2, p3⟩ := Qgx led m hm v hv hb'
  have sz : (SetTable.insertAt es (SetTable.below (tb led m).place v) (((v : Int), Value.int v tk))).toList.length = (sv (m ||| 1 <<< v)).length := by
   rw [SetTable.toList_insertAt, p2]
   simp [hl]
  obtain ⟨f4, f5, f6⟩ := Qgy led _ p3
  have f7 : (tb led (m ||| 1 <<< v)).fits (SetTable.insertAt es (SetTable.below (tb led m).place v) (((v : Int), Value.int v tk))).size = true := by
   rw [← Array.length_toList, sz]; exact f4
  have ly : layNew (tb led m) es (hashInt (v : Int)) (.int v tk) = (SetTable.insertAt es (SetTable.below (tb led m).place v) ((v : Int), .int v tk), tb led (m ||| 1 <<< v), false, false) := by
   unfold layNew
   rw [QgD hv, Qgw led m hm v hv hb']
   dsimp only
   rw [p1]
   dsimp only
   unfold SetTable.orStandIn
   rw [if_pos f7, f7]
   rfl
  show wpAny _ _ (match layNew (tb led m) es (hashInt (v : Int)) (.int v tk) with | (es, t, wasDummy, gave) => _) _ _ _
  rw [ly]
  dsimp only
  refine wpAny_bind ?_
  show wpAny _ _ (pure ()) _ _ _
  refine wpAny_pure ?_
  rw [if_pos (show (tb led (m ||| 1 <<< v)).plain = true from rfl), hashByValue_scannable 8 (x := .int v tk) rfl]
  refine wpAny_bind (wpAny_pure ?_)
  rw [if_pos (show plainKind (.int v tk) = true from rfl)]
  have sl : (SetTable.insertAt es (SetTable.below (tb led m).place v) (((v : Int), Value.int v tk))).size ≤ sizeLine := by
   rw [← Array.length_toList, sz]; exact Nat.le_trans f6 (by decide)
  refine wpAny_bind (wpAny_storeSet_of (s := { s with toks := s.toks + 1 }) g gd ?_ sl)
  rw [f5, if_neg (by decide)]
  refine wpAny_pure (wpAny_pure ?_)
  have up : (s.heap.update a (Obj.putSet (SetTable.insertAt es (SetTable.below (tb led m).place v) (((v : Int), Value.int v tk))) (tb led (m ||| 1 <<< v)))).get? a = some { cls := o.cls, dict := o.dict, data := .set (SetTable.insertAt es (SetTable.below (tb led m).place v) (((v : Int), Value.int v tk))) (ep + 1) (tb led (m ||| 1 <<< v)), slots := o.slots } := by
   obtain ⟨oc, od, oo, os⟩ := o
   cases gd
   exact Heap.get?_update_self _ g rfl
  refine q _ _ ⟨_, _, _, up, c, rfl, ?_⟩ (Heap.SameBut.update ..)
  rw [SetTable.toList_insertAt, p2]
  exact Paired.ins ⟨rfl, tk, rfl⟩ _ pr
theorem QgH : ∀ m : Nat, m < 16 → ∀ v : Nat, v < 4 → m ||| 1 <<< v < 16 := by nofun
theorem SsAt.keep {h h' : Heap} (x : SsAt led h a m) (k : ∀ o, h.get? a = some o → h'.get? a = some o) : SsAt led h' a m := by
 obtain ⟨o, es, ep, g, r⟩ := x
 exact ⟨o, es, ep, k o g, r⟩
theorem SsAt.lt {h : Heap} (x : SsAt led h a m) : a < h.objs.size := by
 obtain ⟨o, es, ep, g, r⟩ := x
 exact Heap.lt_size g
theorem SsAt.typeIs (x : SsAt led s.heap a m) : s.TypeIs (.ref a) "set" := by
 obtain ⟨o, es, ep, g, c, r⟩ := x
 exact ⟨o, g, c.1⟩
theorem QgI {S I l : Addr} {items : Array Value} {ns : List Nat} {R : Result → Shared → Prop} (hh : A.handled = none) (nI : S ≠ I) (nl : l ≠ S) (il : l ≠ I)
  (hi : ∀ (i : Nat) (x : Value), items[i]? = some x → ∃ (v : Nat) (t : Tok), x = Value.int v t ∧ v < 4 ∧ ns[i]? = some v) (hl : ns.length = items.size) :
  ∀ (k i : Nat) (s : Shared) (m : Nat), items.size - i = k → s.heap.IsListIter I l i → s.heap.IsList l items → SsAt led s.heap S m → m < 16 →
   (∀ h' tk, SsAt led h' S (orAll m (ns.drop i)) → (∀ b o, b ≠ S → b ≠ I → s.heap.get? b = some o → h'.get? b = some o) → R (.ok (.ret .none)) { s with heap := h', toks := tk }) →
   codeAny (model prog w) A (.builtin "set.update.loop" ⟨[.ref S, .ref I], []⟩) R s := by
 intro k
 induction k with
 | zero =>
  intro i s m e z x y hm q
  refine codeAny_builtin F.entry_set_update_loop ?_
  unfold Builtin.«set.update.loop»
  dsimp only
  refine wpAny_bind (wpAny_pyNext_list_end (by first | exact hh | simpa using hh) z x (by simp; ac_nf) fun h' he => ?_)
  dsimp only
  refine wpAny_pure (q h' _ ?_ fun b o h1 h2 g => he b o h2 g)
  rw [List.drop_eq_nil_of_le (by ac_nf)]
  exact y.keep fun o g => he S o nI g
 | succ k ih =>
  intro i s m e z x y hm q
  have hlt : i < items.size := by ac_nf
  obtain ⟨v, t, ex, hv, hn⟩ := hi i items[i] (Array.getElem?_eq_getElem hlt)
  refine codeAny_builtin F.entry_set_update_loop ?_
  unfold Builtin.«set.update.loop»
  dsimp only
  refine wpAny_bind (wpAny_pyNext_list_item z x (Array.getElem?_eq_getElem hlt) fun h' z' sb => ?_)
  dsimp only
  rw [ex]
  refine wpAny_bind (wpAny_holding (QgG (s := { s with heap := h' }) hm hv (y.keep fun o g => by rw [sb.2 S nI]; exact g) fun h2 b y2 sb2 => ?_))
  refine wpAny_pure ⟨plainId_quiet F.plain_set_update_loop _, ih (i + 1) _ _ (by ac_nf) (z'.at fun o g => by rw [sb2.2 I (Ne.symm nI)]; exact g) ?_ y2 (QgH m hm v hv) fun h3 tk y3 kp => ?_⟩
  ·obtain ⟨o, g, r⟩ := x
   exact ⟨o, by show h2.get? l = _; rw [sb2.2 l nl, sb.2 l il]; exact g, r⟩
  ·refine q h3 tk ?_ fun b o h1 h2' g => kp b o h1 h2' ?_
   ·rw [List.drop_eq_getElem_cons (by ac_nf)]
    have : ns[i]'(by ac_nf) = v := by
     have := List.getElem?_eq_getElem (l := ns) (i := i) (by ac_nf)
     rw [hn] at this
     exact (Option.some.inj this).symm
    rw [this]
    exact y3
   ·show h2.get? b = _
    rw [sb2.2 b h1, sb.2 b h2']
    exact g
theorem QgJ {b : Value} {Q₁ : Value → Shared → Prop}
  (h : Q₁ (.ref s.heap.objs.size) { s with heap := s.heap.push { cls := .type "set", data := .set #[] 0 (tb (!w.params.followText "set-order") 0) } }) :
  codeAny (model prog w) A (Code.call (.builtin "set.__new__") { pos := [.type "set", b] }) (wants Q₁ E) s := by
 refine codeAny_call_builtin F.plain_set_new F.entry_set_new ?_
 rw [F.newCall_set_1]
 refine wpAny_pure ?_
 unfold Builtin.«set.__new__»
 refine wpAny_bind ?_
 unfold Builtin.Frozenset.newClass
 dsimp only
 refine wpAny_bind (wpAny_pure ?_)
 rw [if_neg (by decide), sub_set_self]
 refine wpAny_bind (wpAny_pure ?_)
 rw [if_neg (by decide)]
 refine wpAny_pure (wpAny_bind ?_)
 unfold newSet setsByText
 refine wpAny_bind (wpAny_bind (wpAny_askSetting (wpAny_pure ?_)))
 dsimp only
 rw [QgC]
 refine wpAny_newObj_type ?_ (by size_fits)
 exact wpAny_pure h
theorem QgK {l : Addr} {items : Array Value} {ns : List Nat} {Q : Value → Shared → Prop} (hh : A.handled = none) (x : s.heap.IsList l items)
  (hi : ∀ (i : Nat) (x : Value), items[i]? = some x → ∃ (v : Nat) (t : Tok), x = Value.int v t ∧ v < 4 ∧ ns[i]? = some v) (hl : ns.length = items.size)
  (q : ∀ h' tk, SsAt (!w.params.followText "set-order") h' s.heap.objs.size (orAll 0 ns) → (∀ (b : Nat) (o : Obj), b < s.heap.objs.size → s.heap.get? b = some o → h'.get? b = some o) → Q (.ref s.heap.objs.size) { s with heap := h', toks := tk }) :
  wpAny (model prog w) A (call (.type "set") [.ref l]) Q E s := by
 have F0 := F.called_set
 refine wpAny_call (codeAny_of_tree ?_)
 show wpAny _ _ (pure (Fin.again _)) _ _ _
 refine wpAny_pure ⟨Code.quiet_builtin _ (by nofun), codeAny_builtin entry_typeCall ?_⟩
 unfold Builtin.«type.__call__»
 dsimp only
 rw [if_neg (by rw [F0.notType]; decide), if_neg (by rw [F0.canCreate]; decide), F.typeCall_set_1]
 refine wpAny_bind (wpAny_pure ?_)
 rw [F.mro_set]
 refine wpAny_bind (wpAny_pure ?_)
 rw [if_neg (by decide), F0.made]
 refine wpAny_bind (wpAny_pure ?_)
 dsimp only
 refine wpAny_bind (wpAny_pure (wpAny_bind (wpAny_holding (wpAny_call (QgJ (s := s) ?_)))))
 have g0 : (s.heap.push { cls := .type "set", data := .set #[] 0 (tb (!w.params.followText "set-order") 0) }).get? s.heap.objs.size = some { cls := .type "set", data := .set #[] 0 (tb (!w.params.followText "set-order") 0) } := Heap.get?_push_size _ rfl
 have T : ({ s with heap := s.heap.push { cls := .type "set", data := .set #[] 0 (tb (!w.params.followText "set-order") 0) } } : Shared).TypeIs (.ref s.heap.objs.size) "set" := ⟨_, g0, rfl⟩
 refine wpAny_bind (wpAny_isInstance T sub_set_self ?_)
 rw [if_neg (by decide)]
 refine wpAny_bind (wpAny_holding (wpAny_callSpecial?_slot T F0.init (wpAny_call (codeAny_call_builtin (by nofun) F.entry_set_init (check_set_init_1 T ?_)))))
 unfold Builtin.«set.__init__»
 refine wpAny_bind ?_
 unfold noKeywords
 rw [if_pos (show ({ pos := [Value.ref s.heap.objs.size, Value.ref l] } : Args).kw.isEmpty = true from rfl)]
 refine wpAny_pure ?_
 dsimp only
 refine wpAny_bind ?_
 unfold typeNameOfCut shownTypeOf
 refine wpAny_bind (wpAny_bind (wpAny_typeOf T ?_))
 rw [if_neg (by decide)]
 refine wpAny_pure ?_
 unfold typeNameCut
 dsimp only
 show wpAny _ _ (pure "set") _ _ _
 refine wpAny_pure (wpAny_bind ?_)
 show wpAny _ _ (pure ()) _ _ _
 refine wpAny_pure (wpAny_bind (wpAny_pure (wpAny_bind ?_)))
 unfold setUsed
 refine wpAny_bind (wpAny_setState_of (s := { s with heap := s.heap.push { cls := .type "set", data := .set #[] 0 (tb (!w.params.followText "set-order") 0) } }) g0 rfl (by exact (Qgy _ 0 (by decide)).1) (wpAny_pure ?_))
 dsimp only
 rw [if_neg (by cases w.params.followText "set-order" <;> decide)]
 refine wpAny_bind ?_
 unfold Builtin.Frozenset.updateFrom
 have L1 : ({ s with heap := s.heap.push { cls := .type "set", data := .set #[] 0 (tb (!w.params.followText "set-order") 0) } } : Shared).TypeIs (.ref l) "list" := by
  obtain ⟨o, g, c, _⟩ := x
  exact ⟨o, Heap.get?_push_of_some _ g, c⟩
 refine wpAny_bind ?_
 unfold Builtin.Frozenset.isAnySet orM
 refine wpAny_bind (wpAny_isInstance L1 F.sub_list_set ?_)
 dsimp only [toBool]
 refine wpAny_isInstance L1 F.sub_list_frozenset ?_
 rw [if_neg (by decide)]
 refine wpAny_bind (wpAny_typeOf L1 ?_)
 rw [if_neg (by decide)]
 have hlt : l < s.heap.objs.size := by
  obtain ⟨o, g, _⟩ := x
  exact Heap.lt_size g
 have X1 : (s.heap.push { cls := .type "set", data := .set #[] 0 (tb (!w.params.followText "set-order") 0) }).IsList l items := by
  obtain ⟨o, g, r⟩ := x
  exact ⟨o, Heap.get?_push_of_some _ g, r⟩
 refine wpAny_bind (wpAny_pyIter_list (s := { s with heap := s.heap.push { cls := .type "set", data := .set #[] 0 (tb (!w.params.followText "set-order") 0) } }) X1 (wpAny_bind (wpAny_runValue ?_)))
 have sz1 : (s.heap.push { cls := .type "set", data := .set #[] 0 (tb (!w.params.followText "set-order") 0) }).objs.size = s.heap.objs.size + 1 := by simp [Heap.push]
 refine QgI (led := !w.params.followText "set-order") (ns := ns) (by exact hh) (Nat.ne_of_lt (by rw [sz1]; exact Nat.lt_succ_self _)) (Nat.ne_of_lt hlt) (Nat.ne_of_lt (by rw [sz1]; exact Nat.lt_succ_of_lt hlt)) hi hl _ 0 _ 0 rfl ⟨_, Heap.get?_push_size _ rfl, rfl, rfl⟩ ?_ ?_ (by decide) fun h' tk y kp => ?_
 ·obtain ⟨o, g, r⟩ := X1
  exact ⟨o, Heap.get?_push_of_some _ g, r⟩
 ·exact ⟨_, _, _, Heap.get?_push_of_some _ g0, ⟨rfl, rfl, rfl⟩, rfl, .nil⟩
 ·refine wpAny_pure (wpAny_pure ?_)
  dsimp only
  rw [if_neg (by decide)]
  exact wpAny_pure (q h' tk y fun b o hb g => kp b o (Nat.ne_of_lt hb) (Nat.ne_of_lt (by rw [sz1]; exact Nat.lt_succ_of_lt hb)) (Heap.get?_push_of_some _ (Heap.get?_push_of_some _ g)))
end
end MM
namespace MM
open PySem PySem.W PyProof.Rows L2
noncomputable def slotAt (b : Bool) (m i : Nat) : Nat := if b = true then 0 else match i with
 | 0 => 0
 | k + 1 => (sv m).getD k 0 + 1
def IsSetIt (w : World) (h : Heap) (it a : Addr) (m i ep : Nat) : Prop := ∃ o, h.get? it = some o ∧ o.cls = .type "set_iterator" ∧ o.data = .fields #[.int (slotAt (w.params.followText "set-order") m i) 0, .int i 0, .ref a, .int (sv m).length 0, .int ep 0]
def SsX (led : Bool) (h : Heap) (a : Addr) (m : Nat) (es : Array (Int × Value)) (ep : Nat) : Prop := ∃ o, h.get? a = some o ∧ o.ExactSet ∧ o.data = .set es ep (tb led m) ∧ Paired EnI es.toList (sv m)
section
variable {prog : Program} {w : World} {A : Around} {E : Value → Shared → Prop} {s : Shared} {a it : Addr} {led : Bool} {m i ep : Nat} {es : Array (Int × Value)}
theorem SsX.keep {h h' : Heap} (x : SsX led h a m es ep) (k : ∀ o, h.get? a = some o → h'.get? a = some o) : SsX led h' a m es ep := by
 obtain ⟨o, g, r⟩ := x
 exact ⟨o, k o g, r⟩
theorem SsX.lt {h : Heap} (x : SsX led h a m es ep) : a < h.objs.size := by
 obtain ⟨o, g, r⟩ := x
 exact Heap.lt_size g
theorem SsX.typeIs (x : SsX led s.heap a m es ep) : s.TypeIs (.ref a) "set" := by
 obtain ⟨o, g, c, r⟩ := x
 exact ⟨o, g, c.1⟩
theorem IsSetIt.typeIs (z : IsSetIt w s.heap it a m i ep) : s.TypeIs (.ref it) "set_iterator" := by
 obtain ⟨o, g, c, r⟩ := z
 exact ⟨o, g, c⟩
end
end MM
namespace MM
open PySem PySem.W PyProof.Rows L2
noncomputable def setO (X : Cx) (a : Addr) (m : Nat) : HO := .ext fun h => SsAt (!X.w.params.followText "set-order") h a m
theorem QgL : ∀ {ns : List Nat} {m : Nat}, m < 16 → (∀ v ∈ ns, v < 4) → orAll m ns < 16
 | [], m, hm, _ => hm
 | v :: ns, m, hm, h => QgL (ns := ns) (m := m ||| 1 <<< v) (QgH m hm v (h v (by simp))) fun u hu => h u (by simp [hu])
section
variable {X : Cx}
theorem QgM (hc : X.calm = true) : CallR X (.type "set") (fun xs H Q => ∃ (l : Addr) (ns : List Nat), xs = [.ref l] ∧ SqL X.K H l (ns.map fun v : Nat => V.int v) ∧ (∀ v ∈ ns, v < 4) ∧ ∀ q, H q = none → Q (.ref q) (upd H q (setO X q (orAll 0 ns)))) := by
 intro pins s σ H xs us Q I r h
 obtain ⟨l, ns, rfl, hq, h4, q⟩ := h
 obtain ⟨u, rfl, rx⟩ := Qby r
 cases rx
 obtain ⟨its, rv, pl, hz⟩ := I.list hq
 have hl := rv.length
 rw [List.length_map] at hl
 refine QgK (ns := ns) (I.ok.hd hc) pl.isList (fun i x hx => ?_) (by simp; ac_nf) fun h' tk y kp => ?_
 ·rw [List.getElem?_toArray] at hx
  have hi : i < ns.length := by have := (List.getElem?_eq_some_iff.mp hx).1; ac_nf
  obtain ⟨u, hu, ru⟩ := rv.get (i := i) (x := V.int ns[i]) (by rw [List.getElem?_map, List.getElem?_eq_getElem hi]; rfl)
  rw [hx] at hu
  cases hu
  obtain ⟨t, et⟩ := ru
  exact ⟨ns[i], t, et, h4 _ (List.getElem_mem hi), List.getElem?_eq_getElem hi⟩
 ·have kp' : ∀ (b : Addr) (o : Obj), s.heap.get? b = some o → h'.get? b = some o := fun b o e => kp b o (Heap.lt_size e) e
  refine ⟨.ref s.heap.objs.size, _, I.laid (t' := tk) kp' (Nat.le_refl _) (show ObjOk X.prog X.w _ h' _ (setO X _ (orAll 0 ns)) from ⟨y, ?_, fun h1 h2 y1 k => y1.keep k⟩), rfl, q _ (I.hok.fresh (Nat.le_refl _))⟩
  obtain ⟨o, es, ep, g, _⟩ := y
  exact ⟨o, g⟩
theorem QgN {K : PySem.W.Frag} {ρ : List Addr} {H : Hp} : ∀ {vs : List V} {ds : List D} {ns : List Nat}, Reps K ρ H vs ds → smalls ds = some ns → vs = ns.map (fun v : Nat => V.int v) ∧ ∀ v ∈ ns, v < 4
 | _, _, ns, .nil, e => by cases e; exact ⟨rfl, fun v hv => by cases hv⟩
 | _, _, ns, .cons r t, e => by
  cases r with
  | int i =>
   unfold smalls at e
   by_cases h : 0 ≤ i ∧ i < 4
   ·rw [if_pos h] at e
    cases e2 : smalls _ with
    | none => rw [e2] at e; cases e
    | some ms =>
     rw [e2] at e
     cases e
     obtain ⟨h1, h2⟩ := QgN t e2
     refine ⟨by rw [List.map_cons, ← h1, Int.toNat_of_nonneg h.1], fun v hv => ?_⟩
     rcases List.mem_cons.mp hv with z | z
     ·subst z; ac_nf
     ·exact h2 v z
   ·rw [if_neg h] at e; cases e
  | _ => cases e
end
end MM
namespace MM
noncomputable def lenSetD : D → M D
 | .ref n => bnd (getL n) fun ds => match smalls ds with
  | some ns => ret (.int ((sv (orAll 0 ns)).length : Nat))
  | none => bad
 | _ => bad
end MM
namespace MM
open PySem PySem.W PyProof.Rows L2
section
variable {X : Cx}
theorem QgO : CallR X (.builtin "len") (fun xs H Q => ∃ (a : Addr) (m : Nat), xs = [.ref a] ∧ H a = some (setO X a m) ∧ m < 16 ∧ Q (.int ((sv m).length : Nat)) H) := by
 intro pins s σ H xs us Q I r h
 obtain ⟨a, mm, rfl, hq, hm, q⟩ := h
 obtain ⟨u, rfl, rx⟩ := Qby r
 cases rx
 obtain ⟨y, _, _⟩ := (show ObjOk X.prog X.w H s.heap a (setO X a mm) from I.hok a _ hq)
 obtain ⟨oS, es, ep, gS, cS, dS, pr⟩ := y
 obtain ⟨f1, f2, f3⟩ := Qgy (!X.w.params.followText "set-order") mm hm
 have hs : es.size = (sv mm).length := by rw [← pr.length, Array.length_toList]
 exact call_len_set gS cS dS (by rw [hs]; exact f1) (by rw [hs]; ac_nf) ⟨.int ((sv mm).length : Nat), H, I.tok _, ⟨_, by rw [hs]⟩, q⟩
theorem QgP {e : Expr} {fa : CE} {p1 p2 pos2 pos : Pos} (hc : X.calm = true) (hg1 : Gl X "len") (hm1 : X.mg "len" = none) (hg2 : Gl X "set") (hm2 : X.mg "set" = none) (ha : SE X e fa)
  (he : starEach [e] X.env = [(false, eval e X.env)] := by rfl)
  (he2 : starEach [Expr.Call (.Name "set" p2) [e] [] pos2] X.env = [(false, eval (.Call (.Name "set" p2) [e] [] pos2) X.env)] := by rfl) : SE X (.Call (.Name "len" p1) [.Call (.Name "set" p2) [e] [] pos2] [] pos) (c1 lenSetD fa) :=
 (QbU QgO hg1 hm1 rfl (QbI (QbV (QgM hc) hg2 hm2 rfl (QbI ha QbH he) (by decide) (by decide) he rfl) QbH he2) (by decide) (by decide) he2 rfl).of fun σ H Q h_ => h_.el fun ρ l st lr sr p => ⟨ρ, l, st, lr, sr, p.bnd.imp fun d st1 ρ1 H1 x1 s1 p1 v rv => by
  cases rv with
  | @ref a n _ h =>
   obtain ⟨ds, e2, p2⟩ := Post.getL (Post.bnd p1) s1
   obtain ⟨a', vs, ha, hv, r⟩ := s1.seq e2
   rw [h] at ha; cases ha
   cases e1 : smalls ds with
   | none => rw [e1] at p2; exact p2.elim
   | some ns =>
    rw [e1] at p2
    obtain ⟨ev, h4⟩ := QgN r e1
    subst ev
    exact ⟨a, ns, rfl, SqL.of hv, h4, fun q hq => ⟨q, orAll 0 ns, rfl, Qai, QgL (by decide) h4, p2 _ _ (Ex.new hq) (s1.new hq) _ (.int _)⟩⟩
  | _ => exact p1.elim⟩
end
end MM
namespace MM
open PySem
end MM
namespace MM
open PySem PyProof.Rows
def XCls (h : Heap) (C N : Addr) (bm : List Value) (mN : Str → Option Value) : Prop :=
 (∃ nm q bs sn sub ab col dd k0 k1 k2 k3 k5, h.get? C = some (excClassObj nm q C N bs bm true sn sub ab col dd k0 k1 k2 k3 k5 "ValueError.__new__")) ∧ h.Ns N mN
noncomputable def vErr : List Value := [.type "ValueError", .type "Exception", .type "BaseException", .type "object"]
structure XCh (h : Heap) (C N P NP : Addr) (mN mP : Str → Option Value) : Prop where
 c : XCls h C N (.ref P :: vErr) mN
 p : XCls h P NP vErr mP
section
variable {prog : Program} {w : World} {A : Around} {E : Value → Shared → Prop} {s : Shared} {C N P NP e : Addr} {mN mP : Str → Option Value} {bm : List Value} {name : Str}
theorem XCls.keep {h h' : Heap} (x : XCls h C N bm mN) (k : ∀ b o, h.get? b = some o → h'.get? b = some o) : XCls h' C N bm mN := by
 obtain ⟨⟨nm, q1, bs, sn, sub, ab, col, dd, k0, k1, k2, k3, k5, g⟩, o, es, ep, g2, r⟩ := x
 exact ⟨⟨nm, q1, bs, sn, sub, ab, col, dd, k0, k1, k2, k3, k5, k _ _ g⟩, o, es, ep, k _ _ g2, r⟩
theorem XCh.keep {h h' : Heap} (x : XCh h C N P NP mN mP) (k : ∀ b o, h.get? b = some o → h'.get? b = some o) : XCh h' C N P NP mN mP := ⟨x.c.keep k, x.p.keep k⟩
end
end MM
namespace MM
open PySem PyProof.Rows
section
variable {prog : Program} {w : World} {A : Around} {E : Value → Shared → Prop} {s : Shared} {C N P NP e : Addr} {mN mP : Str → Option Value} {name : Str}
end
end MM
namespace MM
open PySem PyProof.Rows
structure NoN (mN mP : Str → Option Value) (name : Str) : Prop where
 c : mN name = none
 p : mP name = none
structure Plain (mN mP : Str → Option Value) : Prop where
 ga : NoN mN mP (Str.ofString "__getattribute__")
 gh : NoN mN mP (Str.ofString "__getattr__")
 sa : NoN mN mP (Str.ofString "__setattr__")
 cl : NoN mN mP (Str.ofString "__class__")
 qt : ∀ n ∈ quietNames, mP n = none
section
variable {prog : Program} {w : World} {A : Around} {E : Value → Shared → Prop} {s : Shared} {C N P NP e : Addr} {mN mP : Str → Option Value} {name : Str}
end
end MM
namespace MM
open PySem PySem.W PyProof.Rows L2
def StrNs (K : Frag) (N : Addr) : Prop := ∃ c d es ep sl, K.lookup N = some ⟨c, d, .dict es ep, sl⟩ ∧ StrKeys es
structure XF (K : Frag) (x f : Str) (C N P NP : Addr) : Prop where
 gl : nsIn K mainGlobals x = some (some (.ref C))
 ob : ∃ q bs sn sub ab col dd k0 k1 k2 k3 k5, K.lookup C = some (excClassObj x q C N bs (.ref P :: vErr) true sn sub ab col dd k0 k1 k2 k3 k5 "ValueError.__new__")
 obP : ∃ q bs sn sub ab col dd k0 k1 k2 k3 k5, K.lookup P = some (excClassObj "PactError" q P NP bs vErr true sn sub ab col dd k0 k1 k2 k3 k5 "ValueError.__new__")
 glP : nsIn K mainGlobals "PactError" = some (some (.ref P))
 sN : StrNs K N
 sP : StrNs K NP
 nn : ∀ n ∈ ([Str.ofString "__getattribute__", Str.ofString "__getattr__", Str.ofString "__setattr__", Str.ofString "__class__", f] : List Str), nsIn K N n = some none
 np : ∀ n ∈ ([Str.ofString "__getattribute__", Str.ofString "__getattr__", Str.ofString "__setattr__", Str.ofString "__class__", f, Str.ofString "__init__", Str.ofString "args"] : List Str), nsIn K NP n = some none
 kp : keepIn K (.ref C) = true
section
variable {K : Frag} {x f : Str} {C N P NP : Addr} {h : Heap}
theorem StrNs.ns (z : StrNs K N) (k : K.In h) : ∃ m, h.Ns N m := by
 obtain ⟨c, d, es, ep, sl, l, sk⟩ := z
 exact ⟨nsFind es, _, es, ep, k _ _ l, rfl, sk, fun _ => rfl⟩
theorem XF.ch (F : XF K x f C N P NP) (k : K.In h) : ∃ mN mP, XCh h C N P NP mN mP ∧ Plain mN mP ∧ NoN mN mP f ∧ h.Ns N mN ∧ mP (Str.ofString "__init__") = none := by
 obtain ⟨mN, hN⟩ := F.sN.ns k
 obtain ⟨mP, hP⟩ := F.sP.ns k
 obtain ⟨q1, bs, sn, sub, ab, col, dd, k0, k1, k2, k3, k5, l⟩ := F.ob
 obtain ⟨q1', bs', sn', sub', ab', col', dd', k0', k1', k2', k3', k5', l'⟩ := F.obP
 have a : ∀ n ∈ ([Str.ofString "__getattribute__", Str.ofString "__getattr__", Str.ofString "__setattr__", Str.ofString "__class__", f] : List Str), mN n = none := fun n hn => ns_none_of k hN (F.nn n hn)
 have b : ∀ n ∈ ([Str.ofString "__getattribute__", Str.ofString "__getattr__", Str.ofString "__setattr__", Str.ofString "__class__", f, Str.ofString "__init__", Str.ofString "args"] : List Str), mP n = none := fun n hn => ns_none_of k hP (F.np n hn)
 refine ⟨mN, mP, ⟨⟨⟨x, q1, bs, sn, sub, ab, col, dd, k0, k1, k2, k3, k5, k _ _ l⟩, hN⟩, ⟨⟨_, q1', bs', sn', sub', ab', col', dd', k0', k1', k2', k3', k5', k _ _ l'⟩, hP⟩⟩,
  ⟨⟨a _ (by simp), b _ (by simp)⟩, ⟨a _ (by simp), b _ (by simp)⟩, ⟨a _ (by simp), b _ (by simp)⟩, ⟨a _ (by simp), b _ (by simp)⟩, fun n hn => b n ?_⟩, ⟨a _ (by simp), b _ (by simp)⟩, hN, b _ (by simp)⟩
 simp only [quietNames, List.mem_cons, List.not_mem_nil, or_false] at hn
 rcases hn with z | z | z | z <;> (rw [z]; simp)
end
section
variable {X : Cx} {x f : Str} {C N P NP : Addr} {pos pos' : Pos} {o value : Expr} {ta tv : TE}
end
end MM
namespace MM
open PySem PySem.Spec PyProof.Rows L2
structure NameOk (x : Str) : Prop where
 d : (x == ("__debug__" : Str)) = false
 c : (x == ("__classdict__" : Str)) = false
 n : x ≠ "__name__"
theorem nok {x : Str} (h : ((x == ("__debug__" : Str)) || (x == ("__classdict__" : Str)) || decide (x = ("__name__" : Str))) = false) : NameOk x := by
 rw [Bool.or_eq_false_iff, Bool.or_eq_false_iff] at h
 exact ⟨h.1.1, h.1.2, of_decide_eq_false h.2⟩
structure Sc (X : Cx) (sc : Scope) : Prop where
 vis : ∀ x k, sc.names.lookup x = some k → (k = .local ∨ k = .cell ∨ k = .free) → Vis X.env.scope x
 cel : ∀ x, (sc.names.lookup x = some .cell ∨ sc.names.lookup x = some .free) → (X.env.kindOf x = some .cell ∨ X.env.kindOf x = some .free)
 glo : ∀ x, sc.names.lookup x = some .globalImplicit → Gl X x
 loc : ∀ x k, sc.names.lookup x = some k → (k = .local ∨ k = .cell) → L2.Loc X.env.scope x ∧ (X.fn x = true ∨ X.env.scope.names.lookup x = some .local)
 calm : X.calm = true
theorem QgQ {P : Program} {w : World} {K : PySem.W.Frag} {mg : Str → Option Value} {base : Heap} {N : List Str} {qual : Str} {sc : Scope} {f : Addr} {cdv : Value} {A : Around} {outer : List Env} {s : Shared} {H : Hp} {E : XK} :
  Sc (cxOf CX0 P w K mg base N qual sc f cdv A outer s H E).nox sc where
 vis := fun x k h hk => by
  rcases hk with z | z | z <;> subst z
  ·exact .inl h
  ·exact .inr (.inl h)
  ·exact .inr (.inr h)
 cel := fun x h => h
 glo := fun x h => h
 loc := fun x k h hk => ⟨by rcases hk with z | z <;> subst z; exact .inl h; exact .inr h, .inl rfl⟩
 calm := rfl
theorem QgR {X : Cx} {N : List Str} {scope : Scope} {fp : List Addr} {s : Shared} {H : Hp} (hc : X.calm = true) : Sc (cxC X N scope fp s H) scope where
 vis := fun x k h hk => by
  show (relabel scope X.env).names.lookup x = _ ∨ (relabel scope X.env).names.lookup x = _ ∨ (relabel scope X.env).names.lookup x = _
  rw [QdY, h, Option.map_some]
  rcases hk with z | z | z <;> subst z
  ·exact .inl rfl
  ·exact .inr (.inl rfl)
  ·by_cases hq : (NameKind.free == NameKind.free && X.env.scope.kind == .function && X.env.kindOf x == some .cell) = true
   ·rw [if_pos hq]; exact .inr (.inl rfl)
   ·rw [if_neg hq]; exact .inr (.inr rfl)
 cel := fun x h => by
  show (relabel scope X.env).names.lookup x = _ ∨ (relabel scope X.env).names.lookup x = _
  rcases h with h | h <;> rw [QdY, h, Option.map_some]
  ·exact .inl rfl
  ·by_cases hq : (NameKind.free == NameKind.free && X.env.scope.kind == .function && X.env.kindOf x == some .cell) = true
   ·rw [if_pos hq]; exact .inl rfl
   ·rw [if_neg hq]; exact .inr rfl
 glo := fun x h => by
  show (relabel scope X.env).names.lookup x = _
  rw [QdY, h, Option.map_some]; rfl
 loc := fun x k h hk => by
  refine ⟨?_, .inl ?_⟩
  ·show (relabel scope X.env).names.lookup x = _ ∨ (relabel scope X.env).names.lookup x = _
   rw [QdY, h, Option.map_some]
   rcases hk with z | z <;> subst z
   ·exact .inl rfl
   ·exact .inr rfl
  ·show decide (scope.names.lookup x = some .local ∨ scope.names.lookup x = some .cell) = true
   rw [h]
   rcases hk with z | z <;> subst z <;> decide
 calm := hc
noncomputable def compChk (sc scope : Scope) : Bool :=
 (scope.kind == .function) && scope.names.all (fun p => p.2 != .local || scope.names.lookup p.1 == some .local) &&
 scope.names.all (fun p => p.2 != .free || ((sc.names.lookup p.1 == some .cell || sc.names.lookup p.1 == some .free) && !scope.names.contains (p.1, .cell) && scope.names.lookup p.1 != some .local))
theorem QgS {X : Cx} {sc scope : Scope} (S : Sc X sc) (h : compChk sc scope = true) : CompScope X scope := by
 unfold compChk at h
 rw [Bool.and_eq_true, Bool.and_eq_true] at h
 obtain ⟨⟨h1, h2⟩, h3⟩ := h
 rw [List.all_eq_true] at h2 h3
 have fr : ∀ x, (x, NameKind.free) ∈ scope.names → (sc.names.lookup x = some .cell ∨ sc.names.lookup x = some .free) ∧ (x, NameKind.cell) ∉ scope.names ∧ scope.names.lookup x ≠ some .local := fun x hx => by
  have q := h3 _ hx
  simp only [bne_self_eq_false, Bool.false_or, Bool.and_eq_true, Bool.or_eq_true, beq_iff_eq, Bool.not_eq_true', bne_iff_ne, ne_eq] at q
  obtain ⟨⟨q1, q2⟩, q3⟩ := q
  refine ⟨q1, fun z => ?_, q3⟩
  have : scope.names.contains (x, NameKind.cell) = true := List.contains_iff_mem.mpr z
  rw [this] at q2; cases q2
 refine ⟨by simpa using h1, fun p hp hl => ?_, fun x hx => S.cel x (fr x hx).1, fun x hx => (fr x hx).2.1, fun x hx => (fr x hx).2.2⟩
 have q := h2 p hp
 rw [hl] at q
 simpa using q
noncomputable def namesChk (N0 : List Str) (scope : Scope) (N : List Str) (n : Nat) (ix : List Nat) : Bool :=
 N.length == n + ix.length && (List.range ix.length).all fun j => match ix[j]?, N[n + j]? with
  | some i, some x => N0[i]? == some x && scope.names.lookup x == some .free
  | _, _ => false
theorem QgT {X : Cx} {N0 : List Str} {scope : Scope} {N : List Str} {n : Nat} {ix : List Nat} (hX : X.N = N0) (h : namesChk N0 scope N n ix = true) : CompNames X scope N n ix := by
 unfold namesChk at h
 rw [Bool.and_eq_true, List.all_eq_true] at h
 refine ⟨by simpa using h.1, fun j i x hj hx => ?_⟩
 have q := h.2 j (List.mem_range.mpr (List.getElem?_eq_some_iff.mp hj).1)
 rw [hj, hx] at q
 simp only [Bool.and_eq_true, beq_iff_eq] at q
 rw [hX]
 exact q
section
variable {X : Cx} {sc : Scope} {a b c e o tg : Expr} {es : List Expr} {pos p : Pos} {fa fb fc : CE} {ca cb : CA} {x : Str} {T id : String}
theorem QgU (S : Sc X sc) (i : Nat) (hN : X.N[i]? = some x) {k : NameKind} (h : sc.names.lookup x = some k) (n : NameOk x) (hk : k = .local ∨ k = .cell ∨ k = .free := by decide) : SE X (.Name x pos) (cVar i) := Qdl i (Qas hN (S.vis x k h hk) n.d n.c)
theorem QgV (S : Sc X sc) (i : Nat) (nd : X.N.Nodup) (hN : X.N[i]? = some x) {k : NameKind} (h : sc.names.lookup x = some k) (hk : k = .local ∨ k = .cell := by decide) : SG X (.Name x pos) (gVar i) :=
 QeK (QaN nd hN (S.loc x k h hk).1 (S.loc x k h hk).2)
theorem QgW (S : Sc X sc) (i : Nat) (nd : X.N.Nodup) (hN : X.N[i]? = some x) {k : NameKind} (h : sc.names.lookup x = some k) {pos' : Pos} (he : SE X e fa) (hk : k = .local ∨ k = .cell := by decide) (hs : swapsWith e (some (.Name x pos')) pos.line X.env = pure false := by rfl) :
  SS X (.Assign [.Name x pos'] e pos) (sAsg (gVar i) fa) := QeV nd hN (S.loc x k h hk).1 he hs (S.loc x k h hk).2
theorem QgX {n : Nat} (h : ∀ l st ds st', ca l st = .ok ds st' → ds.length = n) : ∀ l st ds st', cCons fa ca l st = .ok ds st' → ds.length = n + 1 := fun l st ds st' e => by
 unfold cCons bnd at e
 cases q : fa l st with
 | ok d s1 =>
  rw [q] at e
  dsimp only at e
  cases q2 : ca l s1 with
  | ok es s2 =>
   rw [q2] at e
   have := h l s1 es s2 q2
   cases e
   simp [this]
  | exc _ _ => rw [q2] at e; cases e
  | bad => rw [q2] at e; cases e
 | exc _ _ => rw [q] at e; cases e
 | bad => rw [q] at e; cases e
theorem QgY : ∀ l st ds st', cNil l st = .ok ds st' → ds.length = 0 := fun l st ds st' e => by cases e; rfl
theorem QgZ {k n : Nat} {f : Addr} {fd : FuncData} {ps : List Str} {g : List D → M D} (S : Sc X sc) (h : sc.names.lookup x = some .globalImplicit) (F : FnOk X.prog X.w X.K X.mg X.base CX0 k f fd ps (spOf X.K n g)) (hr : Room k X.A) (hm : X.mg x = some (.ref f))
  (hk : PySem.W.keepIn X.K (.ref f) = true) (hb : Binds X.K fd ps []) (nk : NameOk x) (ha : SA X (e :: es) ca) (hn : ∀ l st ds st', ca l st = .ok ds st' → ds.length = n)
  (he : starEach (e :: es) X.env = (false, eval e X.env) :: starEach es X.env := by rfl) (hpl : (backTo pos (starEach es X.env)).any (·.1) = false := by rfl) : SE X (.Call (.Name x p) (e :: es) [] pos) (cCall g ca) :=
 Qew F hr (S.glo x h) hm hk hb QcK ha hn nk.d he hpl
end
theorem Qg0 {k : Nat} {X : Cx} (h : Room k X.A) : X.A.units + 60 < cLine := by have := h.units; ac_nf
end MM
namespace MM
open PySem PySem.Spec PyProof.Rows L2
theorem Qg1 {P : Program} {w : World} {K : PySem.W.Frag} {mg : Str → Option Value} {base : Heap} {x qual : Str} {sd : Stmt} {f : Addr} {fd : FuncData} {N ps : List Str} {k n m : Nat} {body : CS} (F : Fun K x qual sd f fd) (S : FnScope N ps (defScope sd)) (hn : ps.length = n) (hm : N.length = m)
  (hbody : ∀ (cdv : Value) (A : Around) (outer : List Env) (s : Shared) (H : Hp) (E : XK), Room k (A.deeper (envOfC qual (defScope sd) s.heap.objs.size f cdv)) → SSs (cxOf CX0 P w K mg base N qual (defScope sd) f cdv A outer s H E).nox (defBody sd) body) :
  FnOk P w K mg base CX0 (k + 1) f fd ps (spOf K n (runDef m body)) := by
 subst hn hm
 exact QeZ F S hbody
end MM
namespace MM
open PySem PySem.Spec PyProof.Rows L2
theorem Qg2 {K : PySem.W.Frag} {ρ : List Addr} {H : Hp} : ∀ (ns : List Int), Reps K ρ H (ns.map V.int) (ns.map D.int)
 | [] => .nil
 | n :: ns => .cons (.int n) (Qg2 ns)
theorem Qg3 {K : PySem.W.Frag} {H : Hp} {a : Addr} {ns : List Int} {g : List D → M D} (hO : Only H) (hS : SqL K H a (ns.map V.int)) (h : ∃ st', g [.lit (ns.map D.int)] [] = .ok (.bl true) st') :
  spOf K 1 g [.ref a] H (fun v _ => v = .bl true) fun _ _ _ => False := by
 obtain ⟨st', e⟩ := h
 have fz : FzL K H a (ns.map V.int) := by
  rcases hS with (h | ⟨o, h⟩) | h
  ·rcases hO a with z | ⟨ob, xs, z⟩ <;> (rw [z] at h; cases h)
  ·exact .inl ⟨o, h⟩
  ·exact .inr h
 refine ⟨rfl, [], [], _, ⟨rfl, List.nodup_nil, fun n b o z => by cases z⟩, .cons (.lit fz (Qg2 ns)) .nil, ?_⟩
 rw [e]
 intro ρ' H' _ _ v rv
 cases rv
 rfl
abbrev LK (st : Stmt) (x : Str) (k : NameKind) : Prop := (defScope st).names.lookup x = some k
@[elab_as_elim] theorem le1 {A : Type} {P : List A → Prop} (h : ∀ a, P [a]) (us : List A) (hl : us.length = 1) : P us := by
 cases us with
 | nil => cases hl
 | cons a t => cases t with
  | nil => exact h a
  | cons b u => simp at hl
@[elab_as_elim] theorem le2 {A : Type} {P : List A → Prop} (h : ∀ a0 a1, P [a0, a1]) (us : List A) (hl : us.length = 2) : P us := by
 cases us with
 | nil => cases hl
 | cons a t => exact le1 (P := fun t => P (a :: t)) (h a) t (Nat.succ.inj hl)
@[elab_as_elim] theorem le3 {A : Type} {P : List A → Prop} (h : ∀ a0 a1 a2, P [a0, a1, a2]) (us : List A) (hl : us.length = 3) : P us := by
 cases us with
 | nil => cases hl
 | cons a t => exact le2 (P := fun t => P (a :: t)) (h a) t (Nat.succ.inj hl)
end MM
namespace MM
open PySem PySem.Spec PyProof.Rows L2
structure FunD (K : PySem.W.Frag) (x qual : Str) (st : Stmt) (f : Addr) (fd : FuncData) (u : Value) : Prop where
 ex : ∃ (oc : Value) (od : Option Addr) (kV doc pm : Value) (an : Option Addr) (cdv ct : Value) (osl : Array (Option Value)) (T : Addr) (o : Obj) (n : Nat),
  fd = PySem.W.fnOf x qual (defArgs st) (defBody st) (defScope st) (.ref T) kV doc pm an cdv ct ∧ K.lookup f = some ⟨oc, od, .func fd, osl⟩ ∧ PySem.W.codeIn K cdv qual = true ∧ K.lookup T = some o ∧ o.data = .seq #[u] n
 kp : PySem.W.keepIn K (.ref f) = true
section
variable {P : Program} {w : World} {K : PySem.W.Frag} {mg : Str → Option Value} {base : Heap} {x qual : Str} {st : Stmt} {f : Addr} {fd : FuncData} {u : Value} {ps : List Str}
theorem FunD.binds {ds : List Value} (F : FunD K x qual st f fd u)
  (h : ∀ (T : Addr) (kV doc pm : Value) (an : Option Addr) (cdv ct : Value) (us : List Value), (us ++ ds).length = ps.length → ∃ k : Option (Array Value) → Sem (List (Str × Value)), bindArgs (PySem.W.fnOf x qual (defArgs st) (defBody st) (defScope st) (.ref T) kV doc pm an cdv ct) ⟨us, []⟩ = seqItems? (.ref T) >>= k ∧ k (some #[u]) = pure (ps.zip (us ++ ds))) : Binds K fd ps ds := by
 obtain ⟨oc, od, kV, doc, pm, an, cdv, ct, osl, T, o, n, rfl, lk, hcd, lt, ht⟩ := F.ex
 intro s us KX hl
 obtain ⟨k, h1, h2⟩ := h T kV doc pm an cdv ct us hl
 exact BindsTo.of_defaults (T := T) rfl (KX T o lt) ht h1 h2
end
section
variable {X : Cx} {sc : Scope} {e : Expr} {es : List Expr} {pos p : Pos} {ca : CA} {x : Str}
end
end MM
namespace MM
open PySem PySem.W PyProof.Rows L2
section
variable {K : Frag} {ρ : List Addr} {H H1 : Hp} {st : Sto}
theorem Ex.more (h : ∀ b o, H b = some o → H1 b = some o) : Ex ρ H ρ H1 :=
 ⟨⟨[], by simp, by simp⟩, fun b u _ e => h b u e, fun b u _ e => h b u e, fun b u e => ⟨u, h b u e, rfl⟩⟩
theorem SR.more (s : SR K ρ H st) (h : ∀ b o, H b = some o → H1 b = some o) : SR K ρ H1 st :=
 ⟨s.len, s.nd, fun n b ob e1 e2 => ObR.mono (o := ob) (Ex.more (ρ := ρ) h).up (s.ob n b ob e1 e2) fun u q => h b u q⟩
end
section
variable {X : Cx} {sc : Scope} {x f y : Str} {C N P NP D : Addr} {pos p p1 : Pos} {e : Expr} {fa : CE} {xs : List Str}
structure XO (K : Frag) (y : Str) (D : Addr) : Prop where
 gl : nsIn K mainGlobals y = some (some (.ref D))
 ob : ∃ N bm q bs sn sub ab col dd k0 k1 k2 k3 k5, K.lookup D = some (excClassObj y q D N bs bm true sn sub ab col dd k0 k1 k2 k3 k5 "ValueError.__new__")
end
section
variable {K : Frag} {N : Addr} {es : Array DictEntry} {ns : List Str} {n : Str} {o : Value} {d : Option Addr} {ep : Nat} {sl : Array (Option Value)}
end
end MM
namespace MM
open PySem
noncomputable abbrev At {α : Type} (_ : α → Sto → Prop) : Type := Sto
inductive wp {α : Type} (m : M α) (Q : α → Sto → Prop) (s : At Q) : Prop
 | intro (a : α) (s' : Sto) (h : m s = .ok a s') (q : Q a s') : wp m Q s
theorem Qg4 {α : Type} {m : M α} {Q : α → Sto → Prop} {s : Sto} : wp m Q s = (match m s with
 | .ok a s' => Q a s'
 | _ => False) := by
 apply propext
 constructor
 ·rintro ⟨a, s', h, q⟩; rw [h]; exact q
 ·intro h
  cases e : m s with
  | ok a s' => rw [e] at h; exact ⟨a, s', e, h⟩
  | exc _ _ => rw [e] at h; exact h.elim
  | bad => rw [e] at h; exact h.elim
section
variable {α β : Type} {Q : α → Sto → Prop} {s : Sto}
theorem wp_eq {m : M α} {a : α} {s' : Sto} (h : m s = .ok a s') : wp m Q s = Q a s' := by rw [Qg4, h]
theorem wp_no {m : M α} (h : m s = .bad) : wp m Q s = False := by rw [Qg4, h]
theorem wp_cg {m : M β} {Q Q' : β → Sto → Prop} {s : Sto} (h : ∀ a s', Q a s' = Q' a s') : wp m Q s = wp m Q' s := by
 rw [show Q = Q' from funext fun a => funext fun t => h a t]
theorem wp_ret {a : α} : wp (ret a) Q s = Q a s := wp_eq rfl
theorem wp_bad : wp (bad : M α) Q s = False := wp_no rfl
theorem Qg5 {m : M β} {f : β → M α} : wp (bnd m f) Q s = wp m (fun a s' => wp (f a) Q s') s := by
 simp only [Qg4]
 unfold bnd
 cases m s <;> rfl
theorem wp_chk {c : Prop} [Decidable c] {m : M α} : wp (chk c m) Q s = (c ∧ wp m Q s) := by
 unfold chk
 by_cases h : c
 ·simp [h]
 ·simp [h, wp_bad]
theorem wp_alloc {o : MO} {Q : D → Sto → Prop} : wp (alloc o) Q s = Q (.ref s.length) (s ++ [o]) := wp_eq rfl
theorem Qg6 {n : Nat} {ds : List D} {Q : List D → Sto → Prop} (h : s[n]? = some (.lst ds)) : wp (getL n) Q s = Q ds s := by
 rw [Qg4]; unfold getL; rw [h]
theorem Qg7 {n : Nat} {ds es : List D} {Q : Unit → Sto → Prop} (h : s[n]? = some (.lst ds)) : wp (putL n es) Q s = Q () (s.set n (.lst es)) := by
 rw [Qg4]; unfold putL; rw [h]
theorem Qg8 {m : M α} {Q' : α → Sto → Prop} (h : wp m Q s) (f : ∀ a s', Q a s' → Q' a s') : wp m Q' s := by
 simp only [Qg4] at *
 cases e : m s with
 | ok a s' => rw [e] at h; exact f a s' h
 | exc _ _ => rw [e] at h; exact h
 | bad => rw [e] at h; exact h
theorem Qg9 {c : Prop} [Decidable c] {m n : M α} : wp (if c then m else n) Q s = if c then wp m Q s else wp n Q s := by split <;> rfl
end
theorem Qha {ds : List D} {i : Int} {d : D} (h0 : 0 ≤ i) (h : ds[i.toNat]? = some d) : itemD ds i = ret d := by
 have hl : i.toNat < ds.length := (List.getElem?_eq_some_iff.mp h).1
 unfold itemD MM.ixN
 rw [if_pos h0, if_pos (by ac_nf)]
 dsimp only
 rw [h]
theorem wp_run {n : Nat} {b : CS} {ds : List D} {Q : D → Sto → Prop} {s : Sto} : wp (runDef n b ds) Q s = wp (b (ds.map some ++ List.replicate (n - ds.length) none)) (fun f s' => wp (flwD f) Q s') s := by
 unfold runDef; rw [Qg5]
theorem Qhb {g : CG} {b : CS} {same : Sto → Prop} {Q : Flw → Sto → Prop} (W : List D → Loc → Sto → Prop)
  (hend : ∀ l s, W [] l s → wp (chkS same) (fun _ s' => Q (.next l) s') s)
  (hstep : ∀ d ds l s, W (d :: ds) l s → wp (chkS same) (fun _ s1 => wp (g d l) (fun l1 s2 => wp (b l1) (fun f s3 => match f with
   | .next l2 => W ds l2 s3
   | .cnt l2 => W ds l2 s3
   | .brk l2 => Q (.next l2) s3
   | .ret d => Q (.ret d) s3) s2) s1) s) : ∀ ds l s, W ds l s → wp (forD g b same ds l) Q s := by
 intro ds
 induction ds with
 | nil =>
  intro l s h
  unfold forD
  rw [Qg5]
  exact Qg8 (hend l s h) fun _ s' q => by rw [wp_ret]; exact q
 | cons d ds ih =>
  intro l s h
  unfold forD
  rw [Qg5]
  refine Qg8 (hstep d ds l s h) fun _ s1 q => ?_
  rw [Qg5]
  refine Qg8 q fun l1 s2 q => ?_
  rw [Qg5]
  refine Qg8 q fun f s3 q => ?_
  cases f with
  | next l2 => exact ih l2 s3 q
  | cnt l2 => exact ih l2 s3 q
  | brk l2 => show wp (ret _) _ _; rw [wp_ret]; exact q
  | ret d => show wp (ret _) _ _; rw [wp_ret]; exact q
theorem Qhc {g : CG} {t : CT} {e : CE} {same : Sto → Prop} {Q : List D → Sto → Prop} (W : List D → List D → Loc → Sto → Prop)
  (hend : ∀ out l s, W out [] l s → wp (chkS same) (fun _ s' => Q out s') s)
  (hstep : ∀ out d ds l s, W out (d :: ds) l s → wp (chkS same) (fun _ s1 => wp (g d l) (fun l1 s2 => wp (t l1) (fun b s3 => if b = true then wp (e l1) (fun x s4 => W (out ++ [x]) ds l1 s4) s3 else W out ds l1 s3) s2) s1) s) :
  ∀ ds out l s, W out ds l s → wp (collect g t e same ds l) (fun xs s' => Q (out ++ xs) s') s := by
 intro ds
 induction ds with
 | nil =>
  intro out l s h
  unfold collect
  rw [Qg5]
  exact Qg8 (hend out l s h) fun _ s' q => by rw [wp_ret, List.append_nil]; exact q
 | cons d ds ih =>
  intro out l s h
  unfold collect
  rw [Qg5]
  refine Qg8 (hstep out d ds l s h) fun _ s1 q => ?_
  rw [Qg5]
  refine Qg8 q fun l1 s2 q => ?_
  rw [Qg5]
  refine Qg8 q fun b s3 q => ?_
  cases b with
  | false => exact ih out l1 s3 q
  | true =>
   show wp (bnd (e l1) _) _ s3
   rw [Qg5]
   refine Qg8 q fun x s4 q => ?_
   rw [Qg5]
   refine Qg8 (ih (out ++ [x]) l1 s4 q) fun xs s5 q => ?_
   rw [wp_ret]
   rw [List.append_assoc] at q
   exact q
theorem Qhd {n : Nat} (h : n ≤ 1000) : n ≤ lim := Nat.le_trans h (by decide)
theorem Qhe {n : Nat} (h : n ≤ 1000) : n < lim := Nat.lt_of_le_of_lt h (by decide)
theorem Qhf {g : CG} {b : CS} {same : Sto → Prop} {xs : List D} {l : Loc} {s : Sto} {Q : Flw → Sto → Prop} (W : Nat → Loc → Sto → Prop) (hs : ∀ i l s, W i l s → same s) (h0 : W 0 l s)
  (hstep : ∀ (i : Nat) d l s, xs[i]? = some d → W i l s → wp (g d l) (fun l1 s2 => wp (b l1) (fun f s3 => match f with
   | .next l2 => W (i + 1) l2 s3
   | .cnt l2 => W (i + 1) l2 s3
   | .brk l2 => Q (.next l2) s3
   | .ret d => Q (.ret d) s3) s2) s) (hend : ∀ l s, W xs.length l s → Q (.next l) s) : wp (forD g b same xs l) Q s := by
 have chk : ∀ {s : Sto} {R : Unit → Sto → Prop}, same s → R () s → wp (chkS same) R s := fun h r => by rw [Qg4]; unfold chkS; rw [if_pos h]; exact r
 refine Qhb (fun ds l s => ∃ i, ds = xs.drop i ∧ i ≤ xs.length ∧ W i l s) (fun l s ⟨i, e1, hi, w⟩ => ?_) (fun d ds l s ⟨i, e1, hi, w⟩ => ?_) xs l s ⟨0, by simp, Nat.zero_le _, h0⟩
 ·have : i = xs.length := by
    have := congrArg List.length e1
    simp at this; ac_nf
  subst this
  exact chk (hs _ _ _ w) (hend l s w)
 ·have hlt : i < xs.length := by
    have := congrArg List.length e1
    simp at this; ac_nf
  rw [List.drop_eq_getElem_cons hlt] at e1
  obtain ⟨e2, e3⟩ := List.cons.inj e1
  refine chk (hs _ _ _ w) ?_
  refine Qg8 (hstep i d l s (by rw [e2]; exact List.getElem?_eq_getElem hlt) w) fun l1 s2 q => Qg8 q fun f s3 q => ?_
  cases f with
  | next l2 => exact ⟨i + 1, e3, hlt, q⟩
  | cnt l2 => exact ⟨i + 1, e3, hlt, q⟩
  | brk l2 => exact q
  | ret d => exact q
end MM
local macro_rules | `(tactic| bv_omega) => `(tactic| first | rfl | exact MM.wp_eq rfl | exact MM.wp_no rfl)
local macro_rules | `(tactic| ac_rfl) => `(tactic| first | rfl | simp only [MM.wp_ret, MM.wp_alloc, MM.wp_bad] | (refine MM.wp_cg fun _ _ => ?_; simp only [MM.wp_ret, MM.wp_alloc, MM.wp_bad]))
namespace MM
open PySem
theorem nr {α : Sort u} {a b : α} (h : a = b) : a = b := h
section
variable {Q : D → Sto → Prop} {R : Flw → Sto → Prop} {T : Bool → Sto → Prop} {A : List D → Sto → Prop} {G : Loc → Sto → Prop} {I : Wk → Sto → Prop} {s : Sto} {l : Loc}
theorem x_seq {a b : CS} : wp (sSeq a b l) R s = wp (a l) (fun f s' => match f with
  | .next l' => wp (b l') R s'
  | .ret d => R (.ret d) s'
  | .brk l' => R (.brk l') s'
  | .cnt l' => R (.cnt l') s') s := by
 unfold sSeq; rw [Qg5]; congr 1; funext f s'; cases f <;> first | bv_omega
theorem x_next : wp (sNext l) R s = R (.next l) s := wp_eq rfl
theorem x_asg {g : CG} {a : CE} : wp (sAsg g a l) R s = wp (a l) (fun d s' => wp (g d l) (fun l' s'' => R (.next l') s'') s') s := by
 unfold sAsg; rw [Qg5]; congr 1; funext d s'; rw [Qg5]; ac_rfl
theorem x_ret {a : CE} : wp (sRet a l) R s = wp (a l) (fun d s' => R (.ret d) s') s := by
 unfold sRet; rw [Qg5]; ac_rfl
theorem x_exp {a : CE} : wp (sExp a l) R s = wp (a l) (fun d s' => R (.next l) s') s := by
 unfold sExp; rw [Qg5]; ac_rfl
theorem x_if {t : CT} {a b : CS} : wp (sIf t a b l) R s = wp (t l) (fun c s' => if c = true then wp (a l) R s' else wp (b l) R s') s := by
 unfold sIf; rw [Qg5]; congr 1; funext c s'; rw [Qg9]
theorem x_cmp {a : CE} : wp (tCmpB a l) T s = wp (a l) (fun x s' => match x with
  | .bl b => T b s'
  | _ => False) s := by
 unfold tCmpB; rw [Qg5]; congr 1; funext x s'; cases x <;> first | bv_omega
theorem x_val {a : CE} : wp (tVal a l) T s = wp (a l) (fun x s' => wp (truD x) T s') s := by unfold tVal; rw [Qg5]
theorem x_not {a : CT} : wp (tNotB a l) T s = wp (a l) (fun x s' => T (!x) s') s := by unfold tNotB; rw [Qg5]; ac_rfl
theorem x_and {a b : CT} : wp (tAndB a b l) T s = wp (a l) (fun c s' => if c = true then wp (b l) T s' else T false s') s := by
 unfold tAndB; rw [Qg5]; congr 1; funext c s'; rw [Qg9]; ac_rfl
theorem x_or {a b : CT} : wp (tOrB a b l) T s = wp (a l) (fun c s' => if c = true then T true s' else wp (b l) T s') s := by
 unfold tOrB; rw [Qg5]; congr 1; funext c s'; rw [Qg9]; ac_rfl
theorem x_gvar {i : Nat} {d : D} : wp (gVar i d l) G s = G (l.set i (some d)) s := wp_eq rfl
theorem x_g0 {d : D} {b : Option D} {r : Loc} {Q : Loc → Sto → Prop} : wp (gVar 0 d (b :: r)) Q s = Q (some d :: r) s := x_gvar
theorem x_g1 {a0 : Option D} {d : D} {b : Option D} {r : Loc} {Q : Loc → Sto → Prop} : wp (gVar 1 d (a0 :: b :: r)) Q s = Q (a0 :: some d :: r) s := x_gvar
theorem x_g2 {a0 a1 : Option D} {d : D} {b : Option D} {r : Loc} {Q : Loc → Sto → Prop} : wp (gVar 2 d (a0 :: a1 :: b :: r)) Q s = Q (a0 :: a1 :: some d :: r) s := x_gvar
theorem x_g3 {a0 a1 a2 : Option D} {d : D} {b : Option D} {r : Loc} {Q : Loc → Sto → Prop} : wp (gVar 3 d (a0 :: a1 :: a2 :: b :: r)) Q s = Q (a0 :: a1 :: a2 :: some d :: r) s := x_gvar
theorem x_g4 {a0 a1 a2 a3 : Option D} {d : D} {b : Option D} {r : Loc} {Q : Loc → Sto → Prop} : wp (gVar 4 d (a0 :: a1 :: a2 :: a3 :: b :: r)) Q s = Q (a0 :: a1 :: a2 :: a3 :: some d :: r) s := x_gvar
theorem x_g5 {a0 a1 a2 a3 a4 : Option D} {d : D} {b : Option D} {r : Loc} {Q : Loc → Sto → Prop} : wp (gVar 5 d (a0 :: a1 :: a2 :: a3 :: a4 :: b :: r)) Q s = Q (a0 :: a1 :: a2 :: a3 :: a4 :: some d :: r) s := x_gvar
theorem x_g6 {a0 a1 a2 a3 a4 a5 : Option D} {d : D} {b : Option D} {r : Loc} {Q : Loc → Sto → Prop} : wp (gVar 6 d (a0 :: a1 :: a2 :: a3 :: a4 :: a5 :: b :: r)) Q s = Q (a0 :: a1 :: a2 :: a3 :: a4 :: a5 :: some d :: r) s := x_gvar
theorem x_g7 {a0 a1 a2 a3 a4 a5 a6 : Option D} {d : D} {b : Option D} {r : Loc} {Q : Loc → Sto → Prop} : wp (gVar 7 d (a0 :: a1 :: a2 :: a3 :: a4 :: a5 :: a6 :: b :: r)) Q s = Q (a0 :: a1 :: a2 :: a3 :: a4 :: a5 :: a6 :: some d :: r) s := x_gvar
theorem x_g8 {a0 a1 a2 a3 a4 a5 a6 a7 : Option D} {d : D} {b : Option D} {r : Loc} {Q : Loc → Sto → Prop} : wp (gVar 8 d (a0 :: a1 :: a2 :: a3 :: a4 :: a5 :: a6 :: a7 :: b :: r)) Q s = Q (a0 :: a1 :: a2 :: a3 :: a4 :: a5 :: a6 :: a7 :: some d :: r) s := x_gvar
theorem x_g9 {a0 a1 a2 a3 a4 a5 a6 a7 a8 : Option D} {d : D} {b : Option D} {r : Loc} {Q : Loc → Sto → Prop} : wp (gVar 9 d (a0 :: a1 :: a2 :: a3 :: a4 :: a5 :: a6 :: a7 :: a8 :: b :: r)) Q s = Q (a0 :: a1 :: a2 :: a3 :: a4 :: a5 :: a6 :: a7 :: a8 :: some d :: r) s := x_gvar
theorem x_g10 {a0 a1 a2 a3 a4 a5 a6 a7 a8 a9 : Option D} {d : D} {b : Option D} {r : Loc} {Q : Loc → Sto → Prop} : wp (gVar 10 d (a0 :: a1 :: a2 :: a3 :: a4 :: a5 :: a6 :: a7 :: a8 :: a9 :: b :: r)) Q s = Q (a0 :: a1 :: a2 :: a3 :: a4 :: a5 :: a6 :: a7 :: a8 :: a9 :: some d :: r) s := x_gvar
theorem x_g11 {a0 a1 a2 a3 a4 a5 a6 a7 a8 a9 a10 : Option D} {d : D} {b : Option D} {r : Loc} {Q : Loc → Sto → Prop} : wp (gVar 11 d (a0 :: a1 :: a2 :: a3 :: a4 :: a5 :: a6 :: a7 :: a8 :: a9 :: a10 :: b :: r)) Q s = Q (a0 :: a1 :: a2 :: a3 :: a4 :: a5 :: a6 :: a7 :: a8 :: a9 :: a10 :: some d :: r) s := x_gvar
theorem x_g12 {a0 a1 a2 a3 a4 a5 a6 a7 a8 a9 a10 a11 : Option D} {d : D} {b : Option D} {r : Loc} {Q : Loc → Sto → Prop} : wp (gVar 12 d (a0 :: a1 :: a2 :: a3 :: a4 :: a5 :: a6 :: a7 :: a8 :: a9 :: a10 :: a11 :: b :: r)) Q s = Q (a0 :: a1 :: a2 :: a3 :: a4 :: a5 :: a6 :: a7 :: a8 :: a9 :: a10 :: a11 :: some d :: r) s := x_gvar
theorem x_g13 {a0 a1 a2 a3 a4 a5 a6 a7 a8 a9 a10 a11 a12 : Option D} {d : D} {b : Option D} {r : Loc} {Q : Loc → Sto → Prop} : wp (gVar 13 d (a0 :: a1 :: a2 :: a3 :: a4 :: a5 :: a6 :: a7 :: a8 :: a9 :: a10 :: a11 :: a12 :: b :: r)) Q s = Q (a0 :: a1 :: a2 :: a3 :: a4 :: a5 :: a6 :: a7 :: a8 :: a9 :: a10 :: a11 :: a12 :: some d :: r) s := x_gvar
theorem x_g14 {a0 a1 a2 a3 a4 a5 a6 a7 a8 a9 a10 a11 a12 a13 : Option D} {d : D} {b : Option D} {r : Loc} {Q : Loc → Sto → Prop} : wp (gVar 14 d (a0 :: a1 :: a2 :: a3 :: a4 :: a5 :: a6 :: a7 :: a8 :: a9 :: a10 :: a11 :: a12 :: a13 :: b :: r)) Q s = Q (a0 :: a1 :: a2 :: a3 :: a4 :: a5 :: a6 :: a7 :: a8 :: a9 :: a10 :: a11 :: a12 :: a13 :: some d :: r) s := x_gvar
theorem x_gsub {o i : CE} {d : D} : wp (gSubD o i d l) G s = wp (o l) (fun y s1 => wp (i l) (fun z s2 => wp (setItemD y z d) (fun _ s3 => G l s3) s2) s1) s := by
 unfold gSubD; rw [Qg5]; congr 1; funext y s1; rw [Qg5]; congr 1; funext z s2; rw [Qg5]; ac_rfl
theorem x_var {i : Nat} : wp (cVar i l) Q s = match l[i]? with
  | some (some d) => Q d s
  | _ => False := by
 unfold cVar; rcases l[i]? with _ | _ | d <;> first | bv_omega
theorem x_v0 {d : D} {r : Loc} : wp (cVar 0 (some d :: r)) Q s = Q d s := x_var
theorem x_v1 {a0 : Option D} {d : D} {r : Loc} : wp (cVar 1 (a0 :: some d :: r)) Q s = Q d s := x_var
theorem x_v2 {a0 a1 : Option D} {d : D} {r : Loc} : wp (cVar 2 (a0 :: a1 :: some d :: r)) Q s = Q d s := x_var
theorem x_v3 {a0 a1 a2 : Option D} {d : D} {r : Loc} : wp (cVar 3 (a0 :: a1 :: a2 :: some d :: r)) Q s = Q d s := x_var
theorem x_v4 {a0 a1 a2 a3 : Option D} {d : D} {r : Loc} : wp (cVar 4 (a0 :: a1 :: a2 :: a3 :: some d :: r)) Q s = Q d s := x_var
theorem x_v5 {a0 a1 a2 a3 a4 : Option D} {d : D} {r : Loc} : wp (cVar 5 (a0 :: a1 :: a2 :: a3 :: a4 :: some d :: r)) Q s = Q d s := x_var
theorem x_v6 {a0 a1 a2 a3 a4 a5 : Option D} {d : D} {r : Loc} : wp (cVar 6 (a0 :: a1 :: a2 :: a3 :: a4 :: a5 :: some d :: r)) Q s = Q d s := x_var
theorem x_v7 {a0 a1 a2 a3 a4 a5 a6 : Option D} {d : D} {r : Loc} : wp (cVar 7 (a0 :: a1 :: a2 :: a3 :: a4 :: a5 :: a6 :: some d :: r)) Q s = Q d s := x_var
theorem x_v8 {a0 a1 a2 a3 a4 a5 a6 a7 : Option D} {d : D} {r : Loc} : wp (cVar 8 (a0 :: a1 :: a2 :: a3 :: a4 :: a5 :: a6 :: a7 :: some d :: r)) Q s = Q d s := x_var
theorem x_v9 {a0 a1 a2 a3 a4 a5 a6 a7 a8 : Option D} {d : D} {r : Loc} : wp (cVar 9 (a0 :: a1 :: a2 :: a3 :: a4 :: a5 :: a6 :: a7 :: a8 :: some d :: r)) Q s = Q d s := x_var
theorem x_v10 {a0 a1 a2 a3 a4 a5 a6 a7 a8 a9 : Option D} {d : D} {r : Loc} : wp (cVar 10 (a0 :: a1 :: a2 :: a3 :: a4 :: a5 :: a6 :: a7 :: a8 :: a9 :: some d :: r)) Q s = Q d s := x_var
theorem x_v11 {a0 a1 a2 a3 a4 a5 a6 a7 a8 a9 a10 : Option D} {d : D} {r : Loc} : wp (cVar 11 (a0 :: a1 :: a2 :: a3 :: a4 :: a5 :: a6 :: a7 :: a8 :: a9 :: a10 :: some d :: r)) Q s = Q d s := x_var
theorem x_v12 {a0 a1 a2 a3 a4 a5 a6 a7 a8 a9 a10 a11 : Option D} {d : D} {r : Loc} : wp (cVar 12 (a0 :: a1 :: a2 :: a3 :: a4 :: a5 :: a6 :: a7 :: a8 :: a9 :: a10 :: a11 :: some d :: r)) Q s = Q d s := x_var
theorem x_v13 {a0 a1 a2 a3 a4 a5 a6 a7 a8 a9 a10 a11 a12 : Option D} {d : D} {r : Loc} : wp (cVar 13 (a0 :: a1 :: a2 :: a3 :: a4 :: a5 :: a6 :: a7 :: a8 :: a9 :: a10 :: a11 :: a12 :: some d :: r)) Q s = Q d s := x_var
theorem x_v14 {a0 a1 a2 a3 a4 a5 a6 a7 a8 a9 a10 a11 a12 a13 : Option D} {d : D} {r : Loc} : wp (cVar 14 (a0 :: a1 :: a2 :: a3 :: a4 :: a5 :: a6 :: a7 :: a8 :: a9 :: a10 :: a11 :: a12 :: a13 :: some d :: r)) Q s = Q d s := x_var
theorem x_con {d : D} : wp (cCon d l) Q s = Q d s := wp_eq rfl
theorem x_c1 {g : D → M D} {a : CE} : wp (c1 g a l) Q s = wp (a l) (fun x s' => wp (g x) Q s') s := by unfold c1; rw [Qg5]
theorem x_c2 {g : D → D → M D} {a b : CE} : wp (c2 g a b l) Q s = wp (a l) (fun x s' => wp (b l) (fun y s'' => wp (g x y) Q s'') s') s := by
 unfold c2; rw [Qg5]; congr 1; funext x s'; rw [Qg5]
theorem x_call {g : List D → M D} {a : CA} : wp (cCall g a l) Q s = wp (a l) (fun x s' => wp (g x) Q s') s := by unfold cCall; rw [Qg5]
theorem x_nil : wp (cNil l) A s = A [] s := wp_eq rfl
theorem x_cons {a : CE} {r : CA} : wp (cCons a r l) A s = wp (a l) (fun x s' => wp (r l) (fun xs s'' => A (x :: xs) s'') s') s := by
 unfold cCons; rw [Qg5]; congr 1; funext x s'; rw [Qg5]; ac_rfl
theorem x_tup {a : CA} : wp (cTup a l) Q s = wp (a l) (fun xs s' => xs.length ≤ lim ∧ Q (.tup xs) s') s := by
 unfold cTup; rw [Qg5]; congr 1; funext x s'; rw [wp_chk]; ac_rfl
theorem x_disp {a : CA} : wp (aDisp a l) A s = wp (a l) (fun xs s' => xs.length ≤ lim ∧ A xs s') s := by
 unfold aDisp; rw [Qg5]; congr 1; funext x s'; rw [wp_chk]; ac_rfl
theorem x_keep {a : CA} : wp (cKeep a l) Q s = wp (a l) (fun xs s' => Q (.ref s'.length) (s' ++ [.lst xs])) s := by
 unfold cKeep; rw [Qg5]; ac_rfl
theorem x_tmp {g : List D → M D} {a : CA} : wp (cTmp g a l) Q s = wp (a l) (fun x s' => wp (g x) Q s') s := by unfold cTmp; rw [Qg5]
theorem x_comp {n : Nat} {caps : List Nat} {i : CI} {g : CG} {t : CT} {e : CE} : wp (aComp n caps i g t e l) A s = wp (i l) (fun w s' => w.ds.length ≤ lim ∧ wp (collect g t e w.same w.ds (capt n caps l)) A s') s := by
 unfold aComp; rw [Qg5]; congr 1; funext x s'; rw [wp_chk]
theorem x_for {i : CI} {g : CG} {b : CS} : wp (sFor i g b l) R s = wp (i l) (fun w s' => wp (forD g b w.same w.ds l) R s') s := by
 unfold sFor; rw [Qg5]
theorem x_rng {a : CE} : wp (MM.iRng1 a l) I s = wp (a l) (fun x s' => match x with
  | .int j => (-(2 ^ 62) ≤ j ∧ j < 2 ^ 62) ∧ I ⟨rngD 0 j.toNat, anySt⟩ s'
  | _ => False) s := by
 unfold MM.iRng1; rw [Qg5]; congr 1; funext x s'; cases x <;> first | bv_omega | (dsimp only; rw [wp_chk]; ac_rfl)
theorem x_iseq {a : CE} : wp (iSeq a l) I s = wp (a l) (fun x s' => match x with
  | .tup ds => I ⟨ds, anySt⟩ s'
  | .lit ds => I ⟨ds, anySt⟩ s'
  | .ref n => wp (getL n) (fun ds s'' => I ⟨ds, sameL n ds⟩ s'') s'
  | _ => False) s := by
 unfold iSeq; rw [Qg5]; congr 1; funext x s'; cases x <;> first | bv_omega | (dsimp only; rw [Qg5]; ac_rfl)
theorem x_add {i j : Int} : wp (addD (.int i) (.int j)) Q s = Q (.int (i + j)) s := wp_eq rfl
theorem x_sub {i j : Int} : wp (subD (.int i) (.int j)) Q s = Q (.int (i - j)) s := wp_eq rfl
theorem x_mul {i j : Int} : wp (mulD (.int i) (.int j)) Q s = (mulOk i j ∧ Q (.int (i * j)) s) := by unfold mulD; rw [wp_chk]; ac_rfl
theorem x_div {i j : Int} : wp (fdivD (.int i) (.int j)) Q s = ((0 < j ∧ j < 1073741824) ∧ Q (.int (i / j)) s) := by unfold fdivD; rw [wp_chk]; ac_rfl
theorem x_mod {i j : Int} : wp (modD (.int i) (.int j)) Q s = (0 < j ∧ Q (.int (i % j)) s) := by unfold modD; rw [wp_chk]; ac_rfl
theorem x_lt {i j : Int} : wp (ltD (.int i) (.int j)) Q s = Q (.bl (decide (i < j))) s := wp_eq rfl
theorem x_le {i j : Int} : wp (leD (.int i) (.int j)) Q s = Q (.bl (decide (i ≤ j))) s := wp_eq rfl
theorem x_gt {i j : Int} : wp (gtD (.int i) (.int j)) Q s = Q (.bl (decide (j < i))) s := wp_eq rfl
theorem x_ge {i j : Int} : wp (geD (.int i) (.int j)) Q s = Q (.bl (decide (j ≤ i))) s := wp_eq rfl
theorem x_eq {i j : Int} : wp (eqD (.int i) (.int j)) Q s = Q (.bl (i == j)) s := wp_eq rfl
theorem x_ne {i j : Int} : wp (neD (.int i) (.int j)) Q s = Q (.bl !(i == j)) s := wp_eq rfl
theorem x_subsT {ds : List D} {i : Int} : wp (subsD (.tup ds) (.int i)) Q s = wp (itemD ds i) Q s := nr rfl
theorem x_subsL {ds : List D} {i : Int} : wp (subsD (.lit ds) (.int i)) Q s = wp (itemD ds i) Q s := nr rfl
theorem x_subsR {n : Nat} {i : Int} : wp (subsD (.ref n) (.int i)) Q s = wp (getL n) (fun ds s' => wp (itemD ds i) Q s') s := by
 unfold subsD; rw [Qg5]
theorem x_lenT {ds : List D} : wp (lenD (.tup ds)) Q s = Q (.int ds.length) s := wp_eq rfl
theorem x_lenL {ds : List D} : wp (lenD (.lit ds)) Q s = Q (.int ds.length) s := wp_eq rfl
theorem x_lenR {n : Nat} : wp (lenD (.ref n)) Q s = wp (getL n) (fun ds s' => Q (.int ds.length) s') s := by unfold lenD; rw [Qg5]; ac_rfl
theorem x_intB {b : Bool} : wp (intD (.bl b)) Q s = Q (.int (if b then 1 else 0)) s := wp_eq rfl
theorem x_intI {i : Int} : wp (intD (.int i)) Q s = Q (.int i) s := wp_eq rfl
theorem x_setR {n : Nat} {i : Int} {v : D} {U : Unit → Sto → Prop} : wp (setItemD (.ref n) (.int i) v) U s = wp (getL n) (fun ds s' => wp (match MM.ixN ds.length i with
  | some j => putL n (ds.set j v)
  | none => bad) U s') s := by
 unfold setItemD; rw [Qg5] <;> congr 1
theorem x_retF {d : D} : wp (flwD (.ret d)) Q s = Q d s := wp_eq rfl
theorem x_nextF : wp (flwD (.next l)) Q s = Q .non s := wp_eq rfl
end
end MM
namespace MM
open PySem
theorem x_slice {a : CE} {lo hi : CO} {A : List D → Sto → Prop} {s : Sto} {l : Loc} : wp (aSlice a lo hi l) A s = wp (a l) (fun x s1 => wp (lo l) (fun i s2 => wp (hi l) (fun j s3 => match x with
  | .lit ds => A (cutD ds i j) s3
  | .ref n => wp (getL n) (fun ds s4 => A (cutD ds i j) s4) s3
  | _ => False) s2) s1) s := by
 unfold aSlice; rw [Qg5]; congr 1; funext x s1; rw [Qg5]; congr 1; funext i s2; rw [Qg5]; congr 1; funext j s3; cases x <;> first | bv_omega | (dsimp only; rw [Qg5]; ac_rfl)
theorem x_none {A : Option Int → Sto → Prop} {s : Sto} {l : Loc} : wp (oNone l) A s = A none s := wp_eq rfl
theorem x_some {a : CE} {A : Option Int → Sto → Prop} {s : Sto} {l : Loc} : wp (oSome a l) A s = wp (a l) (fun x s1 => match x with
  | .int i => A (some i) s1
  | _ => False) s := by
 unfold oSome; rw [Qg5]; congr 1; funext x s1; cases x <;> first | bv_omega
theorem x_enum {a : CE} {I : Wk → Sto → Prop} {s : Sto} {l : Loc} : wp (iEnum a l) I s = wp (a l) (fun x s' => match x with
  | .tup ds => I ⟨(rngD 0 ds.length).zipWith (fun i d => .tup [i, d]) ds, anySt⟩ s'
  | _ => False) s := by
 unfold iEnum; rw [Qg5]; congr 1; funext x s'; cases x <;> first | bv_omega
theorem x_gtup {n : Nat} {r : List D → Loc → M Loc} {ds : List D} {G : Loc → Sto → Prop} {s : Sto} {l : Loc} : wp (gTupD n r (.tup ds) l) G s = (ds.length = n ∧ wp (r ds l) G s) := by
 unfold gTupD; rw [wp_chk]
theorem x_gcons {g : CG} {r : List D → Loc → M Loc} {d : D} {ds : List D} {G : Loc → Sto → Prop} {s : Sto} {l : Loc} : wp (gsCons g r (d :: ds) l) G s = wp (g d l) (fun l' s' => wp (r ds l') G s') s := by
 unfold gsCons; rw [Qg5]
theorem x_gnil {G : Loc → Sto → Prop} {s : Sto} {l : Loc} : wp (gsNil [] l) G s = G l s := wp_eq rfl
def Ext (s s' : Sto) : Prop := ∃ t, s' = s ++ t
theorem Ext.refl (s : Sto) : Ext s s := ⟨[], by simp⟩
theorem Ext.snoc {s s' : Sto} (h : Ext s s') (o : MO) : Ext s (s' ++ [o]) := by obtain ⟨t, e⟩ := h; exact ⟨t ++ [o], by rw [e]; simp⟩
theorem Ext.trans {s s' s2 : Sto} (h : Ext s s') (k : Ext s' s2) : Ext s s2 := by obtain ⟨t, e⟩ := h; obtain ⟨u, f⟩ := k; exact ⟨t ++ u, by rw [f, e]; simp⟩
theorem Ext.at_ {s s' : Sto} {n : Nat} {o : MO} (h : Ext s s') (k : s[n]? = some o) : s'[n]? = some o := by
 obtain ⟨t, e⟩ := h
 rw [e, List.getElem?_append_left (List.getElem?_eq_some_iff.mp k).1]; exact k
def andB (x : D) (p q : Prop) : Prop := match x with
 | .bl true => p
 | .bl false => q
 | _ => False
theorem andB_t {p q : Prop} : andB (.bl true) p q = p := nr rfl
theorem andB_f {p q : Prop} : andB (.bl false) p q = q := nr rfl
section
variable {Q : D → Sto → Prop} {T : Bool → Sto → Prop} {R : Flw → Sto → Prop} {s : Sto} {l : Loc}
theorem x_andE {a b : CE} : wp (cAnd a b l) Q s = wp (a l) (fun x s' => andB x (wp (b l) Q s') (Q (.bl false) s')) s := by
 unfold cAnd; rw [Qg5]; congr 1; funext x s'; rcases x with _ | b | _ | _ | _ | _ | _ | _ <;> first | bv_omega | (cases b <;> first | bv_omega)
theorem x_orE {a b : CE} : wp (cOr a b l) Q s = wp (a l) (fun x s' => andB x (Q (.bl true) s') (wp (b l) Q s')) s := by
 unfold cOr; rw [Qg5]; congr 1; funext x s'; rcases x with _ | b | _ | _ | _ | _ | _ | _ <;> first | bv_omega | (cases b <;> first | bv_omega)
theorem x_notE {a : CE} : wp (cNot a l) Q s = wp (a l) (fun x s' => match x with
  | .bl b => Q (.bl !b) s'
  | _ => False) s := by
 unfold cNot; rw [Qg5]; congr 1; funext x s'; cases x <;> first | bv_omega
theorem x_ifE {t : CT} {a b : CE} : wp (cIfE t a b l) Q s = wp (t l) (fun c s' => if c = true then wp (a l) Q s' else wp (b l) Q s') s := by
 unfold cIfE; rw [Qg5]; congr 1; funext c s'; rw [Qg9]
theorem x_truB {b : Bool} : wp (truD (.bl b)) T s = T b s := wp_eq rfl
theorem x_isB {b : Bool} : wp (isInst ["bool"] (.bl b)) Q s = Q (.bl true) s := wp_eq rfl
theorem x_eqB {a b : Bool} : wp (eqD (.bl a) (.bl b)) Q s = Q (.bl (a == b)) s := wp_eq rfl
theorem x_neB {a b : Bool} : wp (neD (.bl a) (.bl b)) Q s = Q (.bl !(a == b)) s := wp_eq rfl
theorem x_tupL {ds : List D} : wp (tupL ds) Q s = Q (.tup ds) s := wp_eq rfl
theorem x_lenLL {ds : List D} : wp (lenL ds) Q s = Q (.int ds.length) s := wp_eq rfl
theorem x_item0 {d : D} {ds : List D} : wp (itemD (d :: ds) 0) Q s = Q d s := by
 rw [Qha (d := d) (by ac_nf) rfl, wp_ret]
theorem x_item1 {d e : D} {ds : List D} : wp (itemD (d :: e :: ds) 1) Q s = Q e s := by
 rw [Qha (d := e) (by ac_nf) rfl, wp_ret]
theorem x_item2 {d e f : D} {ds : List D} : wp (itemD (d :: e :: f :: ds) 2) Q s = Q f s := by
 rw [Qha (d := f) (by ac_nf) rfl, wp_ret]
theorem x_item3 {d e f g : D} {ds : List D} : wp (itemD (d :: e :: f :: g :: ds) 3) Q s = Q g s := by
 rw [Qha (d := g) (by ac_nf) rfl, wp_ret]
theorem x_tTrue : wp (tTrue l) T s = T true s := wp_eq rfl
theorem x_iTmp {a : CA} {I : Wk → Sto → Prop} : wp (iTmp a l) I s = wp (a l) (fun ds s' => I ⟨ds, anySt⟩ s') s := by unfold iTmp; rw [Qg5]; ac_rfl
end
noncomputable def  bP (p : Prop) : Bool := @decide p (Classical.propDecidable p)
theorem Qhg {p : Prop} : bP p = true ↔ p := by unfold bP; exact @decide_eq_true_iff p (Classical.propDecidable p)
theorem Qhh {p : Prop} (h : p) : bP p = true := Qhg.mpr h
theorem Qhi {p : Prop} (h : ¬p) : bP p = false := by
 cases e : bP p with
 | false => rfl
 | true => exact (h (Qhg.mp e)).elim
theorem Qhj {b : Bool} {p : Prop} (h : b = true ↔ p) : b = bP p := by
 cases b with
 | true => exact (Qhh (h.mp rfl)).symm
 | false => exact (Qhi fun k => by cases h.mpr k).symm
theorem Qhk {p q : Prop} : (bP p || bP q) = bP (p ∨ q) := Qhj (by rw [Bool.or_eq_true, Qhg, Qhg])
theorem Qhl {p q : Prop} : (bP p && bP q) = bP (p ∧ q) := Qhj (by rw [Bool.and_eq_true, Qhg, Qhg])
theorem andB_or {p q : Prop} {Q : D → Sto → Prop} {s : Sto} : andB (.bl (bP p)) (Q (.bl true) s) (Q (.bl (bP q)) s) = Q (.bl (bP (p ∨ q))) s := by
 rw [← Qhk]
 cases bP p <;> simp [andB]
theorem andB_and {p q : Prop} {Q : D → Sto → Prop} {s : Sto} : andB (.bl (bP p)) (Q (.bl (bP q)) s) (Q (.bl false) s) = Q (.bl (bP (p ∧ q))) s := by
 rw [← Qhl]
 cases bP p <;> simp [andB]
section
variable {n : Nat} {f : Nat → D} {Q : D → Sto → Prop} {s : Sto}
end
end MM
namespace MM
open PySem
section
variable {Q : D → Sto → Prop} {T : Bool → Sto → Prop} {R : Flw → Sto → Prop} {A : List D → Sto → Prop} {s : Sto} {l : Loc}
theorem x_chain {f g : D → D → M D} {a b c : CE} : wp (cChain f g a b c l) Q s = wp (a l) (fun x s1 => wp (b l) (fun y s2 => wp (f x y) (fun z s3 => andB z (wp (c l) (fun w s4 => wp (g y w) Q s4) s3) (Q (.bl false) s3)) s2) s1) s := by
 unfold cChain; rw [Qg5]; congr 1; funext x s1; rw [Qg5]; congr 1; funext y s2; rw [Qg5]; congr 1; funext z s3
 rcases z with _ | b | _ | _ | _ | _ | _ | _ <;> first | bv_omega | (cases b <;> first | bv_omega | (dsimp only; rw [Qg5]; first | ac_rfl | (refine congrArg _ ?_; refine wp_cg fun _ _ => ?_; simp only [wp_ret, wp_alloc, wp_bad])))
theorem x_append {a b : CE} : wp (cAppend a b l) Q s = wp (a l) (fun x s1 => match x with
  | .ref n => wp (b l) (fun v s2 => wp (getL n) (fun ds s3 => ds.length < lim ∧ wp (putL n (ds ++ [v])) (fun _ s4 => Q .non s4) s3) s2) s1
  | _ => False) s := by
 unfold cAppend; rw [Qg5]; congr 1; funext x s1
 cases x <;> first | bv_omega | (dsimp only; rw [Qg5]; congr 1; funext v s2; unfold appendL; rw [Qg5]; congr 1; funext ds s3; rw [wp_chk, Qg5]; first | ac_rfl | (refine congrArg _ ?_; refine wp_cg fun _ _ => ?_; simp only [wp_ret, wp_alloc, wp_bad]))
theorem x_clear {a : CE} : wp (cClear a l) Q s = wp (a l) (fun x s1 => match x with
  | .ref n => wp (putL n []) (fun _ s4 => Q .non s4) s1
  | _ => False) s := by
 unfold cClear; rw [Qg5]; congr 1; funext x s1
 cases x <;> first | bv_omega | (dsimp only; rw [Qg5]; first | ac_rfl | (refine congrArg _ ?_; refine wp_cg fun _ _ => ?_; simp only [wp_ret, wp_alloc, wp_bad]))
theorem x_pop {a : CE} : wp (cPop a l) Q s = wp (a l) (fun x s1 => match x with
  | .ref n => wp (getL n) (fun ds s2 => match ds.getLast? with
   | some d => wp (putL n ds.dropLast) (fun _ s4 => Q d s4) s2
   | none => False) s1
  | _ => False) s := by
 unfold cPop; rw [Qg5]; congr 1; funext x s1
 cases x <;> first | bv_omega | (dsimp only; rw [Qg5]; congr 1; funext ds s2; cases ds.getLast? <;> first | bv_omega | (dsimp only; rw [Qg5]; first | ac_rfl | (refine congrArg _ ?_; refine wp_cg fun _ _ => ?_; simp only [wp_ret, wp_alloc, wp_bad])))
theorem x_reverse {a : CE} : wp (cReverse a l) Q s = wp (a l) (fun x s1 => match x with
  | .ref n => wp (getL n) (fun ds s2 => wp (putL n ds.reverse) (fun _ s4 => Q .non s4) s2) s1
  | _ => False) s := by
 unfold cReverse; rw [Qg5]; congr 1; funext x s1
 cases x <;> first | bv_omega | (dsimp only; rw [Qg5]; congr 1; funext ds s2; rw [Qg5]; first | ac_rfl | (refine congrArg _ ?_; refine wp_cg fun _ _ => ?_; simp only [wp_ret, wp_alloc, wp_bad]))
theorem x_back {a : CE} : wp (aBack a l) A s = wp (a l) (fun x s1 => match x with
  | .ref n => wp (getL n) (fun ds s2 => A ds.reverse s2) s1
  | _ => False) s := by
 unfold aBack; rw [Qg5]; congr 1; funext x s1
 cases x <;> first | bv_omega | (dsimp only; rw [Qg5]; first | ac_rfl | (refine congrArg _ ?_; refine wp_cg fun _ _ => ?_; simp only [wp_ret, wp_alloc, wp_bad]))
theorem x_listT {ds : List D} : wp (listD (.tup ds)) Q s = Q (.ref s.length) (s ++ [.lst ds]) := wp_eq rfl
theorem x_listR {n : Nat} : wp (listD (.ref n)) Q s = wp (getL n) (fun ds s1 => Q (.ref s1.length) (s1 ++ [.lst ds])) s := by unfold listD seqOf; rw [Qg5]; (try dsimp only); (try rw [Qg5]); refine wp_cg fun _ _ => ?_; simp only [wp_ret, wp_alloc, wp_bad]
theorem x_tupleT {ds : List D} : wp (tupleD (.tup ds)) Q s = Q (.tup ds) s := wp_eq rfl
theorem x_tupleR {n : Nat} : wp (tupleD (.ref n)) Q s = wp (getL n) (fun ds s1 => Q (.tup ds) s1) s := by unfold tupleD; rw [Qg5]; (try dsimp only); (try rw [Qg5]); refine wp_cg fun _ _ => ?_; simp only [wp_ret, wp_alloc, wp_bad]
theorem x_isntB {a b : Bool} : wp (isntD (.bl a) (.bl b)) Q s = Q (.bl !(a == b)) s := wp_eq rfl
theorem x_isB2 {a b : Bool} : wp (isD (.bl a) (.bl b)) Q s = Q (.bl (a == b)) s := wp_eq rfl
theorem x_inTu {x : D} {ds : List D} : wp (inD x (.tup ds)) Q s = wp (inL x ds) Q s := nr rfl
theorem x_eqStr {a b : Str} : wp (eqD (.str a) (.str b)) Q s = Q (.bl (a == b)) s := wp_eq rfl
theorem x_neStr {a b : Str} : wp (neD (.str a) (.str b)) Q s = Q (.bl !(a == b)) s := wp_eq rfl
theorem x_isiL {n : Nat} : wp (isInst ["list"] (.ref n)) Q s = Q (.bl true) s := wp_eq rfl
theorem x_isiT {ds : List D} : wp (isInst ["tuple"] (.tup ds)) Q s = Q (.bl true) s := wp_eq rfl
theorem x_isiI {i : Int} : wp (isInst ["int"] (.int i)) Q s = Q (.bl true) s := wp_eq rfl
theorem x_isiB {i : Int} : wp (isInst ["bool"] (.int i)) Q s = Q (.bl false) s := wp_eq rfl
theorem x_isiBN : wp (isInst ["bool"] .non) Q s = Q (.bl false) s := wp_eq rfl
theorem x_neg {i : Int} : wp (negD (.int i)) Q s = Q (.int (-i)) s := wp_eq rfl
theorem x_min2 {i j : Int} : wp (min2D (.int i) (.int j)) Q s = Q (.int (min i j)) s := wp_eq rfl
theorem x_max2 {i j : Int} : wp (max2D (.int i) (.int j)) Q s = Q (.int (max i j)) s := wp_eq rfl
theorem x_rng2 {a b : CE} {I : Wk → Sto → Prop} : wp (MM.iRng2 a b l) I s = wp (a l) (fun x s1 => wp (b l) (fun y s2 => match x, y with
  | .int i, .int j => ((-(2 ^ 62) ≤ i ∧ i < 2 ^ 62) ∧ (-(2 ^ 62) ≤ j ∧ j < 2 ^ 62)) ∧ I ⟨rngD i (j - i).toNat, anySt⟩ s2
  | _, _ => False) s1) s := by
 unfold MM.iRng2; rw [Qg5]; congr 1; funext x s1; rw [Qg5]; congr 1; funext y s2
 cases x <;> cases y <;> first | bv_omega | (dsimp only; rw [wp_chk]; first | ac_rfl | (refine congrArg _ ?_; refine wp_cg fun _ _ => ?_; simp only [wp_ret, wp_alloc, wp_bad]))
theorem x_shl {i j : Int} : wp (shlD (.int i) (.int j)) Q s = ((0 ≤ j ∧ j ≤ 1000000 ∧ i.natAbs < 2 ^ 64) ∧ Q (.int (i * 2 ^ j.toNat)) s) := by unfold shlD; rw [wp_chk]; first | ac_rfl | (refine congrArg _ ?_; refine wp_cg fun _ _ => ?_; simp only [wp_ret, wp_alloc, wp_bad])
theorem x_addT {x y : List D} : wp (addD (.tup x) (.tup y)) Q s = (x.length + y.length ≤ lim ∧ Q (.tup (x ++ y)) s) := by unfold addD; rw [wp_chk]; first | ac_rfl | (refine congrArg _ ?_; refine wp_cg fun _ _ => ?_; simp only [wp_ret, wp_alloc, wp_bad])
theorem x_tmpSub {a : CA} {b : CE} : wp (cTmpSub a b l) Q s = wp (a l) (fun ds s1 => wp (b l) (fun i s2 => match i with
  | .int k => wp (itemD ds k) Q s2
  | _ => False) s1) s := by
 unfold cTmpSub; rw [Qg5]; congr 1; funext ds s1; rw [Qg5]; congr 1; funext i s2; cases i <;> first | bv_omega
theorem x_inTmp {g : D → List D → M D} {a : CE} {b : CA} : wp (cInTmp g a b l) Q s = wp (a l) (fun x s1 => wp (b l) (fun ds s2 => wp (g x ds) Q s2) s1) s := by
 unfold cInTmp; rw [Qg5]; congr 1; funext x s1; rw [Qg5]
end
theorem ite_t {p q : Prop} : (if true = true then p else q) = p := if_pos rfl
theorem ite_f {p q : Prop} : (if false = true then p else q) = q := if_neg (by simp)
theorem Ext.put {s s' : Sto} {n : Nat} {o : MO} (h : Ext s s') (hn : s.length ≤ n) : Ext s (s'.set n o) := by
 obtain ⟨t, e⟩ := h
 exact ⟨t.set (n - s.length) o, by rw [e, List.set_append_right _ _ hn]⟩
theorem Ext.le {s s' : Sto} (h : Ext s s') : s.length ≤ s'.length := by obtain ⟨t, e⟩ := h; rw [e]; simp
end MM
namespace MM
open PySem
theorem Qhm {t : CT} {b : CS} : ∀ (n : Nat) (l : Loc) (s : Sto), whileN t b n l s ≠ .bad → whileN t b (n + 1) l s = whileN t b n l s
 | 0, l, s, h => (h rfl).elim
 | n + 1, l, s, h => by
  have e1 : ∀ k, whileN t b (k + 1) l s = (match t l s with
   | .ok true s1 => (match b l s1 with
    | .ok (.next l2) s2 => whileN t b k l2 s2
    | .ok (.cnt l2) s2 => whileN t b k l2 s2
    | .ok (.brk l2) s2 => .ok (.next l2) s2
    | .ok (.ret d) s2 => .ok (.ret d) s2
    | .exc x s2 => .exc x s2
    | .bad => .bad)
   | .ok false s1 => .ok (.next l) s1
   | .exc x s1 => .exc x s1
   | .bad => .bad) := fun k => by
   show bnd (t l) _ s = _
   unfold bnd
   cases t l s with
   | exc x s1 => rfl
   | bad => rfl
   | ok c s1 =>
    cases c with
    | false => rfl
    | true =>
     show (bnd (b l) _) s1 = _
     unfold bnd
     dsimp only
     cases b l s1 with
     | exc x s2 => rfl
     | bad => rfl
     | ok f s2 => cases f <;> first | bv_omega
  rw [e1 (n + 1), e1 n]
  rw [e1 n] at h
  cases et : t l s with
  | exc x s1 => rfl
  | bad => rfl
  | ok c s1 =>
   rw [et] at h
   cases c with
   | false => rfl
   | true =>
    dsimp only at h ⊢
    cases eb : b l s1 with
    | exc x s2 => rfl
    | bad => rfl
    | ok f s2 =>
     rw [eb] at h
     cases f with
     | next l2 => exact Qhm n l2 s2 h
     | cnt l2 => exact Qhm n l2 s2 h
     | brk l2 => rfl
     | ret d => rfl
theorem Qhn {t : CT} {b : CS} {n m : Nat} {l : Loc} {s : Sto} (h : whileN t b n l s ≠ .bad) (hm : n ≤ m) : whileN t b m l s = whileN t b n l s := by
 induction m with
 | zero => have : n = 0 := by ac_nf
           subst this; ac_rfl
 | succ m ih =>
  by_cases e : n = m + 1
  ·subst e; ac_rfl
  ·have := ih (by ac_nf)
   rw [Qhm m l s (by rw [this]; exact h), this]
theorem Qho {t : CT} {b : CS} {Q : Flw → Sto → Prop} {l : Loc} {s : Sto} (W : Loc → Sto → Prop) (μ : Loc → Sto → Nat) (h0 : W l s)
  (hs : ∀ l s, W l s → wp (t l) (fun c s1 => if c = true then wp (b l) (fun f s2 => match f with
   | .next l2 => W l2 s2 ∧ μ l2 s2 < μ l s
   | .cnt l2 => W l2 s2 ∧ μ l2 s2 < μ l s
   | .brk l2 => Q (.next l2) s2
   | .ret d => Q (.ret d) s2) s1 else Q (.next l) s1) s) : wp (sWhile t b l) Q s := by
 have key : ∀ (k : Nat) (l : Loc) (s : Sto), μ l s < k → W l s → ∃ n, wp (whileN t b n l) Q s := by
  intro k
  induction k with
  | zero => intro l s h; ac_nf
  | succ k ih =>
   intro l s hk w
   have h1 := hs l s w
   rw [Qg4] at h1
   cases et : t l s with
   | exc x s1 => rw [et] at h1; exact h1.elim
   | bad => rw [et] at h1; exact h1.elim
   | ok c s1 =>
    rw [et] at h1
    cases c with
    | false =>
     refine ⟨1, ?_⟩
     show wp (bnd (t l) _) Q s
     rw [Qg5, wp_eq et]
     show wp (ret _) _ _
     rw [wp_ret]
     exact h1
    | true =>
     have h2 : wp (b l) _ s1 := h1
     rw [Qg4] at h2
     cases eb : b l s1 with
     | exc x s2 => rw [eb] at h2; exact h2.elim
     | bad => rw [eb] at h2; exact h2.elim
     | ok f s2 =>
      rw [eb] at h2
      have go : ∀ (n : Nat), wp (match f with
       | .next l2 => whileN t b n l2
       | .cnt l2 => whileN t b n l2
       | .brk l2 => ret (.next l2)
       | .ret d => ret (.ret d)) Q s2 → wp (whileN t b (n + 1) l) Q s := fun n q => by
       show wp (bnd (t l) _) Q s
       rw [Qg5, wp_eq et, if_pos rfl, Qg5, wp_eq eb]
       exact q
      cases f with
      | next l2 => obtain ⟨n, hn⟩ := ih l2 s2 (by have := h2.2; ac_nf) h2.1; exact ⟨n + 1, go n hn⟩
      | cnt l2 => obtain ⟨n, hn⟩ := ih l2 s2 (by have := h2.2; ac_nf) h2.1; exact ⟨n + 1, go n hn⟩
      | brk l2 => exact ⟨1, go 0 (by show wp (ret _) _ _; rw [wp_ret]; exact h2)⟩
      | ret d => exact ⟨1, go 0 (by show wp (ret _) _ _; rw [wp_ret]; exact h2)⟩
 obtain ⟨n, hn⟩ := key (μ l s + 1) l s (Nat.lt_succ_self _) h0
 have nb : whileN t b n l s ≠ .bad := fun e => by rw [Qg4] at hn; rw [e] at hn; exact hn
 have ex : ∃ n, ∀ r, whileN t b n l s = r → r ≠ .bad := ⟨n, fun r e => e ▸ nb⟩
 rw [Qg4]; unfold sWhile
 rw [dif_pos ex]
 have hc : whileN t b (Classical.choose ex) l s ≠ .bad := Classical.choose_spec ex _ rfl
 have e : whileN t b (Classical.choose ex) l s = whileN t b n l s := by
  rw [← Qhn hc (Nat.le_max_left (Classical.choose ex) n), ← Qhn nb (Nat.le_max_right (Classical.choose ex) n)]
 rw [e]
 rw [Qg4] at hn
 exact hn
section
variable {Q : D → Sto → Prop} {s : Sto} {l : Loc}
theorem x_sliceT {a : CE} {lo hi : CO} : wp (cSliceT a lo hi l) Q s = wp (a l) (fun x s1 => wp (lo l) (fun i s2 => wp (hi l) (fun j s3 => match x with
  | .tup ds => ¬(sIx ds.length 0 i = 0 ∧ sIx ds.length ds.length j = ds.length) ∧ Q (.tup (cutD ds i j)) s3
  | _ => False) s2) s1) s := by
 unfold cSliceT; rw [Qg5]; congr 1; funext x s1; rw [Qg5]; congr 1; funext i s2; rw [Qg5]; congr 1; funext j s3; cases x <;> first | bv_omega | (dsimp only; rw [wp_chk]; ac_rfl)
inductive Pd : Nat → D → Prop
 | non {n} : Pd n .non
 | bl {n} (b) : Pd n (.bl b)
 | int {n} (i) : Pd n (.int i)
 | str {n} (x) : Pd n (.str x)
 | tup {n} {ds : List D} (h : ∀ d ∈ ds, Pd n d) : Pd (n + 1) (.tup ds)
theorem Pd.up {n : Nat} {d : D} (h : Pd n d) : Pd (n + 1) d := by
 induction h with
 | non => exact .non
 | bl b => exact .bl b
 | int i => exact .int i
 | str x => exact .str x
 | tup h ih => exact .tup ih
theorem Qhp {f : D → D → Option Bool} : ∀ {ds : List D}, (∀ d ∈ ds, f d d = some true) → allF f ds ds = some true
 | [], _ => rfl
 | d :: ds, h => by
  unfold allF
  rw [h d (by simp)]
  exact Qhp fun x hx => h x (by simp [hx])
theorem Pd.eq {n : Nat} {d : D} (h : Pd n d) : eqF n d d = some true := by
 induction h with
 | @non n => cases n <;> first | bv_omega
 | @bl n b => cases n <;> exact congrArg some (beq_self_eq_true b)
 | @int n i => cases n <;> exact congrArg some (beq_self_eq_true i)
 | @str n x => cases n <;> exact congrArg some (beq_self_eq_true x)
 | @tup n ds h ih => exact Qhp ih
theorem Pd.le {n m : Nat} {d : D} (h : Pd n d) (hm : n ≤ m) : Pd m d := by
 induction m with
 | zero => have : n = 0 := by ac_nf
           subst this; exact h
 | succ m ih =>
  by_cases e : n = m + 1
  ·subst e; exact h
  ·exact (ih (by ac_nf)).up
end
end MM
namespace MM
open PySem
section
variable {α β : Type} {γ : Sort _}
theorem y_dec {p : Prop} [Decidable p] : (decide p = true) = p := _root_.decide_eq_true_eq
theorem y_rs {n : Nat} {a : α} : List.replicate (n + 1) a = a :: List.replicate n a := nr rfl
theorem y_rz {a : α} : List.replicate 0 a = [] := nr rfl
theorem y_js {x : Option α} : (some x).join = x := nr rfl
theorem y_mc {f : α → β} {a : α} {l : List α} : List.map f (a :: l) = f a :: List.map f l := nr rfl
theorem y_mn {f : α → β} : List.map f [] = [] := nr rfl
theorem y_ca {a : α} {l k : List α} : (a :: l) ++ k = a :: (l ++ k) := nr rfl
theorem y_na {l : List α} : [] ++ l = l := nr rfl
theorem y_g0 {a : α} {l : List α} : (a :: l)[0]? = some a := nr rfl
theorem y_gs {a : α} {l : List α} {i : Nat} : (a :: l)[i + 1]? = l[i]? := by simp
theorem y_s0 {a b : α} {l : List α} : (a :: l).set 0 b = b :: l := nr rfl
theorem y_ss {a b : α} {l : List α} {i : Nat} : (a :: l).set (i + 1) b = a :: l.set i b := nr rfl
theorem y_lc {a : α} {l : List α} : (a :: l).length = l.length + 1 := nr rfl
theorem y_ln : ([] : List α).length = 0 := nr rfl
theorem y_ge {a b : Int} : (a ≥ b) = (b ≤ a) := nr rfl
theorem y_it {c d : γ} : (if True then c else d) = c := if_pos trivial
theorem y_if {c d : γ} : (if False then c else d) = d := if_neg (fun h => h)
theorem y_at {p : Prop} : (p ∧ True) = p := and_true p
theorem y_ta {p : Prop} : (True ∧ p) = p := true_and p
theorem y_nt : (!true) = false := nr rfl
theorem y_nf : (!false) = true := nr rfl
end
section
variable {Q : D → Sto → Prop} {U : Unit → Sto → Prop} {A : List D → Sto → Prop} {s : Sto} {l : Loc}
theorem Qhq {n : Nat} {b : Bool} {kvs : List (D × D)} {Q : Bool × List (D × D) → Sto → Prop} (h : s[n]? = some (.dct b kvs)) : wp (getDc n) Q s = Q (b, kvs) s := by
 rw [Qg4]; unfold getDc; rw [h]
theorem Qhr {n : Nat} {b : Bool} {kvs kvs' : List (D × D)} {Q : Unit → Sto → Prop} (h : s[n]? = some (.dct b kvs)) : wp (putDc n b kvs') Q s = Q () (s.set n (.dct b kvs')) := by
 rw [Qg4]; unfold putDc; rw [h]; simp
theorem Qhs {n : Nat} {b : Bool} {kvs : List (D × D)} {k d : D} (h : s[n]? = some (.dct b kvs)) (hk : kOk b k = true) (hl : lkK kvs k = some d) : wp (itemK n k) Q s = Q d s := by
 unfold itemK; rw [Qg5, Qhq h, wp_chk]; dsimp only; rw [hl, wp_ret]; exact propext ⟨fun h => h.2, fun h => ⟨hk, h⟩⟩
theorem Qht {n : Nat} {b : Bool} {kvs : List (D × D)} {k v : D} (h : s[n]? = some (.dct b kvs)) (hk : kOk b k = true) (hl : kvs.length < lim) : wp (storeK n k v) U s = U () (s.set n (.dct b (ptK kvs k v))) := by
 unfold storeK; rw [Qg5, Qhq h, wp_chk]; dsimp only; rw [Qhr h]; exact propext ⟨fun h => h.2, fun h => ⟨⟨hk, hl⟩, h⟩⟩
theorem x_subsD {n : Nat} {k : D} : wp (subsD (.dic n) k) Q s = wp (itemK n k) Q s := by cases k <;> first | bv_omega
theorem x_setD {n : Nat} {k v : D} : wp (setItemD (.dic n) k v) U s = wp (storeK n k v) U s := by cases k <;> first | bv_omega
theorem x_inDc {n : Nat} {k : D} : wp (inD k (.dic n)) Q s = wp (hasK n k) (fun b s' => Q (.bl b) s') s := by unfold inD; rw [Qg5]; ac_rfl
theorem x_ninDc {n : Nat} {k : D} : wp (ninD k (.dic n)) Q s = wp (hasK n k) (fun b s' => Q (.bl !b) s') s := by unfold ninD; rw [Qg5]; ac_rfl
theorem x_dnew {b : Bool} : wp (cDNew b l) Q s = Q (.dic s.length) (s ++ [.dct b []]) := wp_eq rfl
theorem x_cdisp {ks : List D} {vs : CA} : wp (cDisp ks vs l) Q s = wp (vs l) (fun xs s' => ks.length = xs.length ∧ Q (.dic s'.length) (s' ++ [.dct false (mgK [] (ks.zip xs))])) s := by
 unfold cDisp; rw [Qg5]; congr 1; funext xs s'; rw [wp_chk]; rw [show ∀ kvs, wp (allocK false kvs) Q s' = Q (.dic s'.length) (s' ++ [.dct false kvs]) from fun _ => wp_eq rfl]
theorem x_arev {a : CA} : wp (aRev a l) A s = wp (a l) (fun ds s' => A ds.reverse s') s := by unfold aRev; rw [Qg5]; ac_rfl
end
theorem x_times {a : CA} {b : CE} {A : List D → Sto → Prop} {s : Sto} {l : Loc} : wp (aTimes a b l) A s = wp (a l) (fun xs s1 => wp (b l) (fun k s2 => match k with
  | .int k => ((-(2 ^ 63) ≤ k ∧ k < 2 ^ 63) ∧ xs.length * k.toNat ≤ lim) ∧ A (List.replicate k.toNat xs).flatten s2
  | _ => False) s1) s := by
 unfold aTimes; rw [Qg5]; congr 1; funext xs s1; rw [Qg5]; congr 1; funext k s2; cases k <;> first | bv_omega | (dsimp only; rw [wp_chk]; ac_rfl)
theorem Qhu {m : M D} {s : Sto} (h : wp m (fun d _ => d = .bl true) s) : ∃ st', m s = .ok (.bl true) st' := by
 rw [Qg4] at h
 cases e : m s with
 | ok a s' => rw [e] at h; exact ⟨s', by rw [show a = .bl true from h]⟩
 | exc _ _ => rw [e] at h; exact h.elim
 | bad => rw [e] at h; exact h.elim
theorem Qhv {α : Type} {l : List α} {a : α} : (l ++ [a])[l.length]? = some a := by rw [List.getElem?_append_right (Nat.le_refl _), Nat.sub_self]; ac_rfl
theorem Qhw {α : Type} {l : List α} {a b : α} {n : Nat} (h : l[n]? = some a) : (l ++ [b])[n]? = some a := by rw [List.getElem?_append_left (List.getElem?_eq_some_iff.mp h).1]; exact h
section
variable {Q : D → Sto → Prop} {A : List D → Sto → Prop} {s : Sto}
theorem Qhx {g : CG} {e : CE} {same : Sto → Prop} {xs : List D} {l : Loc} (V : D → Prop) (L : Loc → Prop) (P : D → Prop) (W : Sto → Prop) (hs : ∀ s, W s → same s) (h0 : W s) (hl : L l) (hV : ∀ d ∈ xs, V d)
  (hstep : ∀ d l s, V d → L l → W s → wp (g d l) (fun l1 s1 => L l1 ∧ wp (e l1) (fun x s2 => P x ∧ W s2) s1) s) (hend : ∀ out s', out.length = xs.length → (∀ d ∈ out, P d) → W s' → A out s') :
  wp (collect g tTrue e same xs l) A s := by
 have chk : ∀ {s : Sto} {R : Unit → Sto → Prop}, same s → R () s → wp (chkS same) R s := fun h r => by rw [Qg4]; unfold chkS; rw [if_pos h]; exact r
 refine Qhc (Q := A) (fun out ds l s => out.length + ds.length = xs.length ∧ (∀ d ∈ ds, V d) ∧ L l ∧ (∀ d ∈ out, P d) ∧ W s) (fun out l s ⟨e1, _, _, hP, w⟩ => ?_) (fun out d ds l s ⟨e1, hv, hL, hP, w⟩ => ?_) xs [] l s ⟨by simp, hV, hl, fun d hd => absurd hd (by simp), h0⟩
 ·exact chk (hs _ w) (hend out s (by simpa using e1) hP w)
 ·refine chk (hs _ w) ?_
  refine Qg8 (hstep d l s (hv d (by simp)) hL w) fun l1 s1 pq87 => ?_
  obtain ⟨hL1, q⟩ := pq87
  show wp (ret true) _ s1
  rw [wp_ret]
  show wp (e l1) _ s1
  exact Qg8 q fun x s2 pq88 => by obtain ⟨px, w2⟩ := pq88; exact ⟨by simp at e1 ⊢; ac_nf, fun d hd => hv d (by simp [hd]), hL1, fun d hd => by
   rcases List.mem_append.mp hd with hd | hd
   ·exact hP d hd
   ·rw [List.mem_singleton.mp hd]; exact px, w2⟩
theorem Qhy {g : CG} {t : CT} {e : CE} {same : Sto → Prop} {xs : List D} {l : Loc} (V : D → Prop) (L : Loc → Prop) (P : D → Prop) (W : Sto → Prop) (hs : ∀ s, W s → same s) (h0 : W s) (hl : L l) (hV : ∀ d ∈ xs, V d)
  (hstep : ∀ d l s, V d → L l → W s → wp (g d l) (fun l1 s1 => L l1 ∧ wp (t l1) (fun b s2 => if b = true then wp (e l1) (fun x s3 => P x ∧ W s3) s2 else W s2) s1) s) (hend : ∀ out s', out.length ≤ xs.length → (∀ d ∈ out, P d) → W s' → A out s') :
  wp (collect g t e same xs l) A s := by
 have chk : ∀ {s : Sto} {R : Unit → Sto → Prop}, same s → R () s → wp (chkS same) R s := fun h r => by rw [Qg4]; unfold chkS; rw [if_pos h]; exact r
 refine Qhc (Q := A) (fun out ds l s => out.length + ds.length ≤ xs.length ∧ (∀ d ∈ ds, V d) ∧ L l ∧ (∀ d ∈ out, P d) ∧ W s) (fun out l s ⟨e1, _, _, hP, w⟩ => ?_) (fun out d ds l s ⟨e1, hv, hL, hP, w⟩ => ?_) xs [] l s ⟨by simp, hV, hl, fun d hd => absurd hd (by simp), h0⟩
 ·exact chk (hs _ w) (hend out s (by simpa using e1) hP w)
 ·refine chk (hs _ w) ?_
  refine Qg8 (hstep d l s (hv d (by simp)) hL w) fun l1 s1 ⟨hL1, q⟩ => Qg8 q fun b s2 q => ?_
  cases b with
  | false => exact ⟨by simp at e1 ⊢; ac_nf, fun d hd => hv d (by simp [hd]), hL1, hP, q⟩
  | true =>
   exact Qg8 q fun x s2 pq92 => by obtain ⟨px, w2⟩ := pq92; exact ⟨by simp at e1 ⊢; ac_nf, fun d hd => hv d (by simp [hd]), hL1, fun d hd => by
    rcases List.mem_append.mp hd with hd | hd
    ·exact hP d hd
    ·rw [List.mem_singleton.mp hd]; exact px, w2⟩
end
end MM
local macro_rules
 | `(tactic| simp_arith [$a,*]) => `(tactic| simp only [↓MM.x_seq, ↓MM.x_next, ↓MM.x_asg, ↓MM.x_ret, ↓MM.x_exp, ↓MM.x_if, ↓MM.x_cmp, ↓MM.x_andE, ↓MM.x_orE, ↓MM.x_notE, ↓MM.x_ifE, ↓MM.x_truB, ↓MM.x_isB, ↓MM.x_eqB, ↓MM.x_neB, ↓MM.x_tupL, ↓MM.x_lenLL, ↓MM.x_item0, ↓MM.x_item1, ↓MM.x_item2, ↓MM.x_item3, ↓MM.x_tTrue, ↓MM.x_iTmp, ↓MM.x_enum, ↓MM.x_gtup, ↓MM.x_gcons, ↓MM.x_gnil, ↓MM.x_slice, ↓MM.x_none, ↓MM.x_some, ↓MM.x_val, ↓MM.x_not, ↓MM.x_and, ↓MM.x_or, ↓MM.x_g0, ↓MM.x_g1, ↓MM.x_g2, ↓MM.x_g3, ↓MM.x_g4, ↓MM.x_g5, ↓MM.x_g6, ↓MM.x_g7, ↓MM.x_g8, ↓MM.x_g9, ↓MM.x_g10, ↓MM.x_g11, ↓MM.x_g12, ↓MM.x_g13, ↓MM.x_g14, MM.x_gvar, ↓MM.x_gsub, ↓MM.x_v0, ↓MM.x_v1, ↓MM.x_v2, ↓MM.x_v3, ↓MM.x_v4, ↓MM.x_v5, ↓MM.x_v6, ↓MM.x_v7, ↓MM.x_v8, ↓MM.x_v9, ↓MM.x_v10, ↓MM.x_v11, ↓MM.x_v12, ↓MM.x_v13, ↓MM.x_v14, MM.x_var, ↓MM.x_con, ↓MM.x_c1, ↓MM.x_c2, ↓MM.x_call, ↓MM.x_nil, ↓MM.x_cons, ↓MM.x_tup, ↓MM.x_disp, ↓MM.x_keep, ↓MM.x_tmp, ↓MM.x_comp, ↓MM.x_for, ↓MM.x_rng, ↓MM.x_iseq, ↓MM.x_add, ↓MM.x_sub, ↓MM.x_mul, ↓MM.x_div, ↓MM.x_mod, ↓MM.x_lt, ↓MM.x_le, ↓MM.x_gt, ↓MM.x_ge, ↓MM.x_eq, ↓MM.x_ne, ↓MM.x_subsT, ↓MM.x_subsL, ↓MM.x_subsR, ↓MM.x_lenT, ↓MM.x_lenL, ↓MM.x_lenR, ↓MM.x_intB, ↓MM.x_intI, ↓MM.x_setR, ↓MM.x_retF, ↓MM.x_nextF, ↓MM.wp_run, ↓MM.wp_ret, ↓MM.wp_chk, ↓MM.wp_alloc, MM.andB_t, MM.andB_f, MM.andB_or, MM.andB_and, MM.y_dec, MM.y_rs, MM.y_rz, MM.y_js, MM.y_mc, MM.y_mn, MM.y_ca, MM.y_na, MM.y_g0, MM.y_gs, MM.y_s0, MM.y_ss, MM.y_lc, MM.y_ln, Nat.reduceAdd, Nat.reduceSub, MM.y_ge, Int.reduceLE, Int.reduceLT, MM.y_it, MM.y_if, MM.y_at, MM.y_ta, beq_iff_eq, ↓MM.x_chain, ↓MM.x_append, ↓MM.x_clear, ↓MM.x_pop, ↓MM.x_reverse, ↓MM.x_back, ↓MM.x_listT, ↓MM.x_listR, ↓MM.x_tupleT, ↓MM.x_tupleR, ↓MM.x_isntB, ↓MM.x_isB2, ↓MM.x_inTu, ↓MM.x_eqStr, ↓MM.x_neStr, ↓MM.x_isiL, ↓MM.x_isiT, ↓MM.x_isiI, ↓MM.x_isiB, ↓MM.x_isiBN, ↓MM.x_neg, ↓MM.x_min2, ↓MM.x_max2, ↓MM.x_rng2, ↓MM.x_shl, ↓MM.x_addT, ↓MM.x_tmpSub, ↓MM.x_inTmp, MM.ite_t, MM.ite_f, MM.y_nt, MM.y_nf, ↓MM.x_sliceT, ↓MM.x_subsD, ↓MM.x_setD, ↓MM.x_inDc, ↓MM.x_ninDc, ↓MM.x_dnew, ↓MM.x_cdisp, ↓MM.x_arev, ↓MM.x_times, Nat.reduceLT, Nat.reduceLeDiff, $a,*])
namespace MM
open PySem
noncomputable def pr : List Nat → Nat
 | [] => 1
 | b :: bs => b * pr bs
section
variable {Q : List D → Sto → Prop} {s : Sto}
end
end MM
namespace MM
open PySem
section
variable {l : Loc} {Q : D → Sto → Prop} {A : List D → Sto → Prop} {I : Wk → Sto → Prop} {s : Sto}
end
end MM
namespace MM
open PySem
structure WkB where
 ds : List D
 same : Sto → Bool
noncomputable abbrev CIB := Loc → M WkB
noncomputable def chkB (p : Sto → Bool) : M Unit := fun s => match p s with
 | true => .ok () s
 | false => .bad
noncomputable def anyB : Sto → Bool := fun _ => true
mutual
noncomputable def eqDB : D → D → Bool
 | .non, .non => true
 | .bl a, .bl b => a == b
 | .int i, .int j => decide (i = j)
 | .str x, .str y => decide (x = y)
 | .tup xs, .tup ys => eqLB xs ys
 | .ref a, .ref b => decide (a = b)
 | .dic a, .dic b => decide (a = b)
 | _, _ => false
noncomputable def eqLB : List D → List D → Bool
 | [], [] => true
 | x :: xs, y :: ys => eqDB x y && eqLB xs ys
 | _, _ => false
end
noncomputable def sameLB (n : Nat) (ds : List D) : Sto → Bool := fun s => match s[n]? with
 | some (.lst es) => eqLB es ds
 | _ => false
noncomputable def sameDB (n : Nat) (ks : List D) : Sto → Bool := fun s => match s[n]? with
 | some (.dct true kvs) => eqLB (kvs.map (·.1)) ks
 | _ => false
noncomputable def jSeq (a : CE) : CIB := fun l => bnd (a l) fun x => match x with
 | .tup ds => ret ⟨ds, anyB⟩
 | .lit ds => ret ⟨ds, anyB⟩
 | .ref n => bnd (getL n) fun ds => ret ⟨ds, sameLB n ds⟩
 | _ => bad
noncomputable def jRng1 (a : CE) : CIB := fun l => bnd (a l) fun x => match x with
 | .int j => chk (-(2 ^ 62) ≤ j ∧ j < 2 ^ 62) (ret ⟨rngD 0 j.toNat, anyB⟩)
 | _ => bad
noncomputable def jRng2 (a b : CE) : CIB := fun l => bnd (a l) fun x => bnd (b l) fun y => match x, y with
 | .int i, .int j => chk ((-(2 ^ 62) ≤ i ∧ i < 2 ^ 62) ∧ (-(2 ^ 62) ≤ j ∧ j < 2 ^ 62)) (ret ⟨rngD i (j - i).toNat, anyB⟩)
 | _, _ => bad
noncomputable def jDic (a : CE) : CIB := fun l => bnd (a l) fun x => match x with
 | .dic n => bnd (getDc n) fun p => chk (p.1 = true) (ret ⟨p.2.map (·.1), sameDB n (p.2.map (·.1))⟩)
 | _ => bad
noncomputable def collectB (g : CG) (t : CT) (e : CE) (same : Sto → Bool) : List D → Loc → M (List D)
 | [], _ => bnd (chkB same) fun _ => ret []
 | d :: ds, l => bnd (chkB same) fun _ => bnd (g d l) fun l' => bnd (t l') fun b => if b = true then bnd (e l') fun x => bnd (collectB g t e same ds l') fun xs => ret (x :: xs) else collectB g t e same ds l'
noncomputable def aCompB (n : Nat) (caps : List Nat) (i : CIB) (g : CG) (t : CT) (e : CE) : CA := fun l => bnd (i l) fun w => chk (w.ds.length ≤ lim) (collectB g t e w.same w.ds (capt n caps l))
noncomputable def forDB (g : CG) (b : CS) (same : Sto → Bool) : List D → CS
 | [], l => bnd (chkB same) fun _ => ret (.next l)
 | d :: ds, l => bnd (chkB same) fun _ => bnd (g d l) fun l' => bnd (b l') fun f => match f with
  | .next l2 => forDB g b same ds l2
  | .cnt l2 => forDB g b same ds l2
  | .brk l2 => ret (.next l2)
  | .ret d => ret (.ret d)
noncomputable def sForB (i : CIB) (g : CG) (b : CS) : CS := fun l => bnd (i l) fun w => forDB g b w.same w.ds l
mutual
noncomputable def closD : D → Bool
 | .ref _ => false
 | .dic _ => false
 | .exn _ _ => false
 | .tup ds => closL ds
 | .lit ds => closL ds
 | _ => true
noncomputable def closL : List D → Bool
 | [] => true
 | d :: ds => closD d && closL ds
end
noncomputable def cRun (g : List D → M D) (ds : List D) : M D := fun st => match closL ds, g ds [] with
 | true, .ok d _ => if closD d = true then .ok d st else .bad
 | _, _ => .bad
noncomputable def cCallE (g : List D → M D) (a : CA) : CE := fun l => bnd (a l) (cRun g)
noncomputable def resO : Option D → Option D
 | some d => if closD d = true then some d else none
 | none => none
noncomputable def sFr (c : CS) : CS := fun l st => match c (l.map resO) [] with
 | .ok (.next l2) _ => .ok (.next (l2.map resO)) st
 | .ok (.ret d) _ => if closD d = true then .ok (.ret d) st else .bad
 | _ => .bad
noncomputable def andD : D → D → M D
 | .int i, .int j => chk (0 ≤ i ∧ 0 ≤ j) (ret (.int ((i.toNat &&& j.toNat : Nat) : Int)))
 | _, _ => bad
mutual
theorem Qhz : ∀ (d e : D), eqDB d e = true → d = e
 | .non, e, h => by cases e <;> first | rfl | cases h
 | .bl a, e, h => by cases e <;> first | cases h | exact congrArg D.bl (eq_of_beq h)
 | .int a, e, h => by cases e <;> first | cases h | exact congrArg D.int (of_decide_eq_true h)
 | .str a, e, h => by cases e <;> first | cases h | exact congrArg D.str (of_decide_eq_true h)
 | .tup a, e, h => by cases e <;> first | cases h | exact congrArg D.tup (eqLB_eq a _ h)
 | .lit a, e, h => by cases e <;> cases h
 | .ref a, e, h => by cases e <;> first | cases h | exact congrArg D.ref (of_decide_eq_true h)
 | .dic a, e, h => by cases e <;> first | cases h | exact congrArg D.dic (of_decide_eq_true h)
 | .exn a b, e, h => by cases e <;> cases h
theorem eqLB_eq : ∀ (d e : List D), eqLB d e = true → d = e
 | [], e, h => by cases e <;> first | rfl | cases h
 | d :: ds, e, h => by
  cases e with
  | nil => cases h
  | cons e es =>
   have h' : (eqDB d e && eqLB ds es) = true := h
   rw [Bool.and_eq_true] at h'
   rw [Qhz d e h'.1, eqLB_eq ds es h'.2]
end
end MM
namespace MM
open PySem PySem.W PyProof.Rows L2
def Ref {α : Type} (m' m : M α) : Prop := ∀ s, m' s = .bad ∨ m' s = m s
section
variable {α β : Type}
theorem Ref.rfl {m : M α} : Ref m m := fun s => .inr (Eq.refl _)
theorem Ref.bnd {m' m : M α} {f' f : α → M β} (h : Ref m' m) (g : ∀ a, Ref (f' a) (f a)) : Ref (MM.bnd m' f') (MM.bnd m f) := fun s => by
 unfold MM.bnd
 rcases h s with e | e
 ·left; rw [e]
 ·rw [e]
  cases m s with
  | ok a s1 => exact g a s1
  | exc _ _ => right; exact Eq.refl _
  | bad => right; exact Eq.refl _
theorem QhA {p : Sto → Prop} {q : Sto → Bool} (h : ∀ t, q t = true → p t) : Ref (chkB q) (chkS p) := fun s => by
 unfold chkB chkS
 cases e : q s with
 | false => left; exact Eq.refl _
 | true => right; rw [if_pos (h s e)]
end
section
variable {g : CG} {t : CT} {e : CE} {b : CS} {p : Sto → Prop} {q : Sto → Bool}
theorem QhB (h : ∀ t, q t = true → p t) : ∀ (ds : List D) (l : Loc), Ref (collectB g t e q ds l) (collect g t e p ds l)
 | [], l => by
  unfold collectB collect
  exact (QhA h).bnd fun _ => Ref.rfl
 | d :: ds, l => by
  unfold collectB collect
  refine (QhA h).bnd fun _ => Ref.rfl.bnd fun l' => Ref.rfl.bnd fun b => ?_
  by_cases hb : b = true
  ·rw [if_pos hb, if_pos hb]
   exact Ref.rfl.bnd fun x => (QhB h ds l').bnd fun xs => Ref.rfl
  ·rw [if_neg hb, if_neg hb]
   exact QhB h ds l'
theorem QhC (h : ∀ t, q t = true → p t) : ∀ (ds : List D) (l : Loc), Ref (forDB g b q ds l) (forD g b p ds l)
 | [], l => by
  unfold forDB forD
  exact (QhA h).bnd fun _ => Ref.rfl
 | d :: ds, l => by
  unfold forDB forD
  refine (QhA h).bnd fun _ => Ref.rfl.bnd fun l' => Ref.rfl.bnd fun f => ?_
  cases f with
  | next l2 => exact QhC h ds l2
  | cnt l2 => exact QhC h ds l2
  | brk l2 => exact Ref.rfl
  | ret d => exact Ref.rfl
end
def RelI (iB : CIB) (i : CI) : Prop := ∀ l s, match iB l s with
 | .ok w s' => ∃ p, i l s = .ok ⟨w.ds, p⟩ s' ∧ ∀ t, w.same t = true → p t
 | .exc x s' => i l s = .exc x s'
 | .bad => True
section
variable {iB : CIB} {i : CI} {g : CG} {b : CS} {t : CT} {e : CE} {n : Nat} {ix : List Nat}
theorem RelI.bnd {β : Type} (r : RelI iB i) {f' : WkB → M β} {f : Wk → M β} (h : ∀ w p, (∀ t, w.same t = true → p t) → Ref (f' w) (f ⟨w.ds, p⟩)) (l : Loc) : Ref (MM.bnd (iB l) f') (MM.bnd (i l) f) := fun s => by
 have := r l s
 unfold MM.bnd
 cases q : iB l s with
 | ok w s1 =>
  rw [q] at this
  obtain ⟨p, e1, hp⟩ := this
  rw [e1]
  exact h w p hp s1
 | exc x s1 =>
  rw [q] at this
  right; rw [this]
 | bad => left; exact Eq.refl _
theorem QhD (r : RelI iB i) (l : Loc) : Ref (sForB iB g b l) (sFor i g b l) := r.bnd (fun w p h => QhC h w.ds l) l
theorem QhE (r : RelI iB i) (l : Loc) : Ref (aCompB n ix iB g t e l) (aComp n ix i g t e l) := r.bnd (fun w p h => fun s => by
 unfold chk
 by_cases hc : w.ds.length ≤ lim
 ·rw [if_pos hc, if_pos hc]; exact QhB h w.ds _ s
 ·rw [if_neg hc, if_neg hc]; left; exact Eq.refl _) l
end
section
variable {a b : CE}
theorem QhF {f' : D → M WkB} {f : D → M Wk} (h : ∀ d s, match f' d s with
 | .ok w s' => ∃ p, f d s = .ok ⟨w.ds, p⟩ s' ∧ ∀ t, w.same t = true → p t
 | .exc x s' => f d s = .exc x s'
 | .bad => True) : RelI (fun l => bnd (a l) f') (fun l => bnd (a l) f) := fun l s => by
 unfold MM.bnd
 dsimp only
 cases e : a l s with
 | ok d s1 => exact h d s1
 | exc _ _ => exact Eq.refl _
 | bad => exact trivial
theorem QhG : RelI (jSeq a) (iSeq a) := QhF fun d s => by
 cases d with
 | tup ds => exact ⟨_, rfl, fun _ _ => trivial⟩
 | lit ds => exact ⟨_, rfl, fun _ _ => trivial⟩
 | ref n =>
  dsimp only
  unfold MM.bnd getL
  cases e : s[n]? with
  | none => exact trivial
  | some o =>
   cases o with
   | lst ds => exact ⟨_, rfl, fun t h => by
     unfold sameLB at h
     show t[n]? = _
     cases e : t[n]? with
     | none => dsimp only at h; rw [e] at h; cases h
     | some o =>
      dsimp only at h
      rw [e] at h
      cases o with
      | lst es => rw [eqLB_eq _ _ h]
      | dct _ _ => cases h⟩
   | dct _ _ => exact trivial
 | _ => exact trivial
theorem QhH : RelI (jRng1 a) (MM.iRng1 a) := QhF fun d s => by
 cases d with
 | int j =>
  dsimp only
  unfold chk
  by_cases h : -(2 ^ 62) ≤ j ∧ j < 2 ^ 62
  ·rw [if_pos h, if_pos h]; exact ⟨_, rfl, fun _ _ => trivial⟩
  ·rw [if_neg h]; exact trivial
 | _ => exact trivial
theorem QhI : RelI (jDic a) (iDic a) := QhF fun d s => by
 cases d with
 | dic n =>
  dsimp only
  unfold MM.bnd getDc
  cases e : s[n]? with
  | none => exact trivial
  | some o =>
   cases o with
   | lst ds => exact trivial
   | dct b kvs =>
    dsimp only
    unfold chk
    by_cases h : b = true
    ·rw [if_pos h, if_pos h]
     exact ⟨_, rfl, fun t h => by
      unfold sameDB at h
      dsimp only at h
      cases e : t[n]? with
      | none => rw [e] at h; cases h
      | some o =>
       rw [e] at h
       cases o with
       | lst es => cases h
       | dct b kvs' =>
        cases b with
        | false => cases h
        | true => exact ⟨kvs', e, eqLB_eq _ _ h⟩⟩
    ·rw [if_neg h]; exact trivial
 | _ => exact trivial
theorem QhJ : RelI (jRng2 a b) (MM.iRng2 a b) := fun l s => by
 unfold jRng2 MM.iRng2 MM.bnd
 dsimp only
 cases a l s with
 | bad => exact trivial
 | exc _ _ => exact Eq.refl _
 | ok x s1 =>
  dsimp only
  cases b l s1 with
  | bad => exact trivial
  | exc _ _ => exact Eq.refl _
  | ok y s2 =>
   cases x with
   | int i =>
    cases y with
    | int j =>
     dsimp only
     unfold chk
     by_cases h : (-(2 ^ 62) ≤ i ∧ i < 2 ^ 62) ∧ (-(2 ^ 62) ≤ j ∧ j < 2 ^ 62)
     ·rw [if_pos h, if_pos h]; exact ⟨_, rfl, fun _ _ => trivial⟩
     ·rw [if_neg h]; exact trivial
    | _ => exact trivial
   | _ => exact trivial
end
theorem QhK {t : CT} {b : CS} (n : Nat) (l : Loc) : Ref (whileN t b n l) (sWhile t b l) := fun s => by
 by_cases h : whileN t b n l s = .bad
 ·exact .inl h
 ·right
  unfold sWhile
  have hx : ∃ n, ∀ r, whileN t b n l s = r → r ≠ .bad := ⟨n, fun r e => by rw [← e]; exact h⟩
  rw [dif_pos hx]
  have hc := Classical.choose_spec hx _ (Eq.refl _)
  generalize Classical.choose hx = m at hc
  rcases Nat.le_total n m with q | q
  ·exact (Qhn h q).symm
  ·exact Qhn hc q
section
variable {K : Frag} {ρ ρ' : List Addr} {H H1 : Hp} {st : Sto}
theorem QhL (h : ∀ b o, H b = some o → H1 b = some o) : Ex ρ H ρ H1 :=
 ⟨⟨[], by simp, by simp⟩, fun b u _ e => h b u e, fun b u _ e => h b u e, fun b u e => ⟨u, h b u e, rfl⟩⟩
theorem QhM (s : SR K ρ H st) (h : ∀ b o, H b = some o → H1 b = some o) : SR K ρ H1 st :=
 ⟨s.len, s.nd, fun n b ob e1 e2 => ObR.mono (o := ob) (QhL (ρ := ρ) h).up (s.ob n b ob e1 e2) fun u q => h b u q⟩
theorem QhN : SR K [] H [] := ⟨rfl, List.nodup_nil, fun n a o e => by simp at e⟩
mutual
theorem QhO : ∀ {v : V} {d : D}, Rep K ρ H v d → closD d = true → Rep K ρ' H v d
 | _, _, .non, _ => .non
 | _, _, .bl b, _ => .bl b
 | _, _, .int i, _ => .int i
 | _, _, .str y, _ => .str y
 | _, _, .tup h r, c => .tup h (reps_clos r c)
 | _, _, .lit h r, c => .lit h (reps_clos r c)
 | _, _, .ref _ _, c => nomatch c
 | _, _, .dic _ _, c => nomatch c
 | _, _, .exn0 _ _, c => nomatch c
 | _, _, .exn _ _ _ _, c => nomatch c
theorem reps_clos : ∀ {vs : List V} {ds : List D}, Reps K ρ H vs ds → closL ds = true → Reps K ρ' H vs ds
 | _, _, .nil, _ => .nil
 | _, _, .cons (d := d) (ds := ds) r t, c => by
  have h : (closD d && closL ds) = true := c
  rw [Bool.and_eq_true] at h
  exact .cons (QhO r h.1) (reps_clos t h.2)
end
end
section
variable {X : Cx} {sc : Scope} {st : Stmt} {e : Expr} {es : List Expr} {pos p : Pos} {c c' : CS} {ca ca' : CA} {x : Str} {g : CG} {b : CS} {t : CT} {ce : CE} {i : CI} {iB : CIB} {n : Nat} {ix : List Nat}
theorem QhP (h : SS X st c) (r : ∀ l, Ref (c' l) (c l)) : SS X st c' := h.of fun G σ H h_ => h_.el fun ρ l st lr sr p => ⟨ρ, l, st, lr, sr, by
 rcases r l st with e | e
 ·rw [e] at p; exact p.elim
 ·rw [e] at p; exact p⟩
theorem QhQ (h : SL X e ca) (r : ∀ l, Ref (ca' l) (ca l)) : SL X e ca' := h.of fun σ H Q h_ => h_.el fun ρ l st lr sr p => ⟨ρ, l, st, lr, sr, by
 rcases r l st with e | e
 ·rw [e] at p; exact p.elim
 ·rw [e] at p; exact p⟩
theorem QhR (r : RelI iB i) (h : SS X st (sFor i g b)) : SS X st (sForB iB g b) := QhP h (QhD r)
theorem QhS (n : Nat) (h : SS X st (sWhile t b)) : SS X st (whileN t b n) := QhP h (QhK n)
theorem QhT (r : RelI iB i) (h : SL X e (aComp n ix i g t ce)) : SL X e (aCompB n ix iB g t ce) := QhQ h (QhE r)
theorem QhU {k : Nat} (r : RelI iB i) (h : SS X st (sAsg (gVar k) (cKeep (aComp n ix i g t ce)))) : SS X st (sAsg (gVar k) (cKeep (aCompB n ix iB g t ce))) :=
 QhP h fun l => ((QhE r l).bnd fun _ => Ref.rfl).bnd fun _ => Ref.rfl
theorem QhV {K : Frag} {ρ ρ' : List Addr} {H : Hp} {σ : L2.St} {l : Loc} (h : LR K ρ H σ l) : LR K ρ' H σ (l.map resO) :=
 ⟨by rw [List.length_map]; exact h.1, fun i d e => by
  rw [List.getElem?_map] at e
  cases q : l[i]? with
  | none => rw [q] at e; cases e
  | some o =>
   rw [q] at e
   cases o with
   | none => cases e
   | some d' =>
    have e' : some (resO (some d')) = some (some d) := e
    injection e' with e'
    unfold resO at e'
    dsimp only at e'
    by_cases hd : closD d' = true
    ·rw [if_pos hd] at e'
     cases e'
     obtain ⟨v, h1, h2⟩ := h.2 i d q
     exact ⟨v, h1, QhO h2 hd⟩
    ·rw [if_neg hd] at e'; cases e'⟩
theorem QhW {body : List Stmt} (h : SSs X body c) : SSs X body (sFr c) := fun pins s σ H G I h_ => h pins s σ H G I (h_.el fun ρ l st lr sr p => ⟨[], l.map resO, [], QhV lr, QhN, by
 unfold sFr at p
 cases e : c (l.map resO) [] with
 | bad => rw [e] at p; exact p.elim
 | exc _ _ => rw [e] at p; exact p.elim
 | ok f st1 =>
  rw [e] at p
  intro ρ' H' x s'
  have k : ∀ b o, H b = some o → H' b = some o := fun b o e => x.oth b o (by simp) e
  cases f with
  | next l2 => exact fun σ' lr' => p ρ H' (QhL k) (QhM sr k) σ' (QhV lr')
  | ret d =>
   dsimp only at p
   by_cases hd : closD d = true
   ·rw [if_pos hd] at p
    exact fun v rv => p ρ H' (QhL k) (QhM sr k) v (QhO rv hd)
   ·rw [if_neg hd] at p; exact p.elim
  | brk l2 => exact p.elim
  | cnt l2 => exact p.elim⟩)
theorem QhX : OpR X (binaryOp .BitAnd) (rOf X.K andD) := Qbg.of fun x y H Q h => by
 obtain ⟨i, j, ρ, st, rfl, rfl, sr, p⟩ := Qea (by intro d e; cases d <;> cases e <;> first | exact .inl ⟨_, _, rfl, rfl⟩ | exact .inr rfl) h
 obtain ⟨⟨h1, h2⟩, p2⟩ := p.chk
 refine ⟨_, _, rfl, rfl, ?_⟩
 have e : Builtin.bitAnd i j = ((i.toNat &&& j.toNat : Nat) : Int) := by
  unfold Builtin.bitAnd
  rw [decide_eq_true h1, decide_eq_true h2]
 dsimp only
 rw [e]
 exact p2.ret sr _ (.int _)
theorem QhY {k n : Nat} {f : Addr} {fd : FuncData} {ps : List Str} {g : List D → M D} (S : Sc X sc) (h : sc.names.lookup x = some .globalImplicit) (F : FnOk X.prog X.w X.K X.mg X.base CX0 k f fd ps (spOf X.K n g)) (hr : Room k X.A) (hm : X.mg x = some (.ref f))
  (hk : PySem.W.keepIn X.K (.ref f) = true) (hb : Binds X.K fd ps []) (nk : NameOk x) (ha : SA X (e :: es) ca) (hn : ∀ l st ds st', ca l st = .ok ds st' → ds.length = n)
  (he : starEach (e :: es) X.env = (false, eval e X.env) :: starEach es X.env := by rfl) (hpl : (backTo pos (starEach es X.env)).any (·.1) = false := by rfl) : SE X (.Call (.Name x p) (e :: es) [] pos) (cCallE g ca) :=
 (QbM F hr (S.glo x h) hm hk hb .nil QcK ha nk.d he hpl).of fun σ H Q h_ => h_.el fun ρ l st lr sr p => ⟨ρ, l, st, lr, sr, by
  have q := Post.bnd p
  cases ec : ca l st with
  | bad => rw [ec] at q; exact q
  | exc _ _ => rw [ec] at q; exact q
  | ok ds st1 =>
   rw [ec] at q
   intro ρ1 H1 x1 s1 vs rvs
   have q1 := q ρ1 H1 x1 s1
   unfold cRun at q1
   dsimp only at q1
   cases hc : closL ds with
   | false => rw [hc] at q1; exact q1.elim
   | true =>
    rw [hc] at q1
    refine ⟨by rw [List.append_nil, rvs.length]; exact hn l st ds st1 ec, [], [], ds, QhN, by rw [List.append_nil]; exact reps_clos rvs hc, ?_⟩
    cases hg : g ds [] with
    | bad => rw [hg] at q1; exact q1.elim
    | exc _ _ => rw [hg] at q1; exact q1.elim
    | ok d st2 =>
     rw [hg] at q1
     dsimp only at q1
     by_cases hd : closD d = true
     ·rw [if_pos hd] at q1
      intro ρ' H' x s v rv
      have k : ∀ b o, H1 b = some o → H' b = some o := fun b o e => x.oth b o (by simp) e
      exact q1 ρ1 H' (QhL k) (QhM s1 k) v (QhO rv hd)
     ·rw [if_neg hd] at q1; exact q1.elim⟩
end
end MM
namespace My
open PySem MM
noncomputable def  Jz : CS :=
  (sSeq (sAsg (gVar 1) (cTmp tupL (aCompB 1 [] (jRng2 (cCon (.int 1)) (c2 addD (cVar 0) (cCon (.int 1)))) (gVar 0) tTrue (cTup (cCons (cVar 0) (cCons (cVar 0) cNil))))))
  (sSeq (sRet (c2 addD (cTup (cCons (cVar 1) cNil)) (cTmp tupL (aCompB 1 [0] (jRng2 (cCon (.int 1)) (c2 addD (cVar 0) (cCon (.int 1)))) (gVar 0) tTrue (cTmp tupL (aCompB 1 [0] (jRng1 (cVar 1)) (gVar 0) tTrue (cTup (cCons (cVar 1) (cCons (cVar 1) cNil)))))))))
  sNext))
@[irreducible] noncomputable def  wK : List D → M D := runDef 2 Jz
noncomputable def  wL : CS :=
  (sSeq (sAsg (gVar 1) (cTup (cCons (cTup (cCons (cCon (.str "do")) (cCons (cCon (.int 0)) (cCons (cCon (.int 0)) (cCons (cTup (cCons (cCon (.int 2)) (cCons (cCon (.int 2)) (cCons (cCon (.int 3)) cNil)))) cNil))))) (cCons (cTup (cCons (cCon (.str "do")) (cCons (cCon (.int 0)) (cCons (cCon (.int 1)) (cCons (cTup (cCons (cCon (.int 2)) (cCons (cCon (.int 2)) (cCons (cCon (.int 3)) cNil)))) cNil))))) (cCons (cTup (cCons (cCon (.str "settle")) (cCons (cCon (.int 0)) cNil))) (cCons (cTup (cCons (cCon (.str "settle")) (cCons (cCon (.int 1)) cNil))) cNil))))))
  (sSeq (sRet (cTup (cCons (cTup (cCons (cTup (cCons (cCall wK (cCons (cCon (.int 2)) cNil)) (cCons (cCon (.int 0)) cNil))) cNil)) (cCons (cTmp tupL (aCompB 1 [1] (jRng1 (cVar 0)) (gVar 0) tTrue (cTup (cCons (cTup (cCons (cCon (.int 0)) (cCons (cCon (.int 1)) cNil))) (cCons (cVar 1) cNil))))) cNil))))
  sNext))
@[irreducible] noncomputable def  jy : List D → M D := runDef 2 wL
noncomputable def  wH : CS :=
  (sSeq (sAsg (gVar 2) (cKeep (aComp 1 [] (iTmp (aSlice (cVar 0) (oSome (cVar 1)) (oSome (cCon (.int 63))))) (gVar 0) tTrue (c2 max2D (cVar 0) (c2 subD (cCon (.int 0)) (cVar 0))))))
  (sSeq (sAsg (gVar 3) (c2 addD (cCon (.int 6271)) (c2 mulD (cCon (.int 11)) (cVar 1))))
  (sSeq (sFor (iSeq (cVar 2)) (gVar 4)
   (sSeq (sAsg (gVar 3) (c2 modD (c2 addD (c2 addD (c2 mulD (cVar 3) (cCon (.int 69313))) (c2 modD (cVar 4) (cCon (.int 2147483579)))) (cCon (.int 17))) (cCon (.int 2147483647))))
   sNext))
  (sSeq (sRet (cDisp [.str "seed", .str "number", .str "left"] (cCons (cVar 3) (cCons (cCon (.int 0)) (cCons (cKeep (aRev (aComp 1 [] (iSeq (cVar 2)) (gVar 0) (tCmpB (c2 geD (cVar 0) (c2 powD (cCon (.int 10)) (cCon (.int 18))))) (cVar 0)))) cNil)))))
  sNext))))
@[irreducible] noncomputable def  yA : List D → M D := runDef 5 wH
noncomputable def  wJ : CS :=
  (sSeq (sWhile (tAndB (tCmpB (c2 eqD (c2 subsD (cVar 0) (cCon (.str "number"))) (cCon (.int 0)))) (tCmpB (c2 gtD (c1 lenD (c2 subsD (cVar 0) (cCon (.str "left")))) (cCon (.int 0)))))
   (sSeq (sAsg (gSubD (cVar 0) (cCon (.str "number"))) (cPop (c2 subsD (cVar 0) (cCon (.str "left")))))
   sNext))
  (sSeq (sAsg (gVar 2) (c2 subsD (cVar 0) (cCon (.str "number"))))
  (sSeq (sIf (tCmpB (c2 gtD (cVar 2) (cCon (.int 0))))
   (sSeq (sAsg (gSubD (cVar 0) (cCon (.str "number"))) (c2 fdivD (cVar 2) (cVar 1)))
   (sSeq (sRet (c2 modD (cVar 2) (cVar 1)))
   sNext))
   sNext)
  (sSeq (sAsg (gVar 3) (c2 modD (c2 addD (c2 mulD (c2 subsD (cVar 0) (cCon (.str "seed"))) (cCon (.int 48271))) (cCon (.int 5003))) (cCon (.int 2147483647))))
  (sSeq (sAsg (gSubD (cVar 0) (cCon (.str "seed"))) (c2 modD (c2 addD (c2 mulD (cVar 3) (cCon (.int 39373))) (cCon (.int 60013))) (cCon (.int 2147483587))))
  (sSeq (sAsg (gVar 4) (c2 modD (c2 mulD (c2 subsD (cVar 0) (cCon (.str "seed"))) (c2 subsD (cVar 0) (cCon (.str "seed")))) (cCon (.int 2147483549))))
  (sSeq (sRet (c2 modD (c2 addD (c2 mulD (c2 modD (c2 mulD (cVar 3) (cVar 3)) (cCon (.int 2147483563))) (cCon (.int 2147483549))) (cVar 4)) (cVar 1)))
  sNext)))))))
@[irreducible] noncomputable def  yz : List D → M D := runDef 5 wJ
noncomputable def  w9 : CS :=
  (sSeq (sRet (cAnd (c1 (isInst ["int"]) (cVar 0)) (cNot (c1 (isInst ["bool"]) (cVar 0)))))
  sNext)
@[irreducible] noncomputable def  yn : List D → M D := runDef 1 w9
noncomputable def  wv : CS :=
  (sSeq (sRet (cAnd (c1 (isInst ["tuple"]) (cVar 0)) (cTmp allD (aCompB 1 [1] (jSeq (cVar 0)) (gVar 0) tTrue (cAnd (cCall yn (cCons (cVar 0) cNil)) (cChain leD ltD (cCon (.int 0)) (cVar 0) (cVar 1)))))))
  sNext)
@[irreducible] noncomputable def  jh : List D → M D := runDef 2 wv
noncomputable def  we : CS :=
  (sSeq (sIf (tOrB (tNotB (tVal (c1 (isInst ["tuple"]) (cVar 0)))) (tCmpB (c2 eqD (c1 lenD (cVar 0)) (cCon (.int 0)))))
   (sSeq (sRet (cCon (.bl false)))
   sNext)
   sNext)
  (sSeq (sForB (jSeq (cVar 0)) (gVar 1)
   (sSeq (sIf (tOrB (tNotB (tVal (c1 (isInst ["tuple"]) (cVar 1)))) (tOrB (tCmpB (c2 eqD (c1 lenD (cVar 1)) (cCon (.int 0)))) (tCmpB (c2 neD (c1 lenD (cVar 1)) (c1 lenD (c2 subsD (cVar 0) (cCon (.int 0))))))))
    (sSeq (sRet (cCon (.bl false)))
    sNext)
    sNext)
   (sSeq (sForB (jSeq (cVar 1)) (gVar 2)
    (sSeq (sIf (tOrB (tNotB (tVal (cCall jh (cCons (cVar 2) (cCons (c2 powD (cCon (.int 10)) (cCon (.int 9))) cNil))))) (tOrB (tCmpB (c2 neD (c1 lenD (cVar 2)) (cCon (.int 2)))) (tCmpB (c2 geD (c2 subsD (cVar 2) (cCon (.int 0))) (c1 lenD (cVar 0))))))
     (sSeq (sRet (cCon (.bl false)))
     sNext)
     sNext)
    sNext))
   sNext)))
  (sSeq (sRet (cCon (.bl true)))
  sNext)))
@[irreducible] noncomputable def  yo : List D → M D := runDef 3 we
noncomputable def  wu : CS :=
  (sSeq (sIf (tOrB (tNotB (tVal (c1 (isInst ["tuple"]) (cVar 1)))) (tCmpB (c2 ninD (c1 lenD (cVar 1)) (cTup (cCons (cCon (.int 2)) (cCons (cCon (.int 4)) cNil))))))
   (sSeq (sRet (cCon (.bl false)))
   sNext)
   sNext)
  (sSeq (sIf (tCmpB (c2 eqD (c1 lenD (cVar 1)) (cCon (.int 2))))
   (sSeq (sRet (cAnd (c2 eqD (c2 subsD (cVar 1) (cCon (.int 0))) (cCon (.str "settle"))) (cAnd (cCall yn (cCons (c2 subsD (cVar 1) (cCon (.int 1))) cNil)) (c2 inD (c2 subsD (cVar 1) (cCon (.int 1))) (cTup (cCons (cCon (.int 0)) (cCons (cCon (.int 1)) cNil)))))))
   sNext)
   sNext)
  (sSeq (sIf (tOrB (tCmpB (c2 neD (c2 subsD (cVar 1) (cCon (.int 0))) (cCon (.str "do")))) (tNotB (tVal (cCall jh (cCons (cTup (cCons (c2 subsD (cVar 1) (cCon (.int 1))) cNil)) (cCons (c1 lenD (c2 subsD (cVar 0) (cCon (.int 0)))) cNil))))))
   (sSeq (sRet (cCon (.bl false)))
   sNext)
   sNext)
  (sSeq (sAsg (gVar 3) (c2 subsD (c2 subsD (c2 subsD (cVar 0) (cCon (.int 0))) (c2 subsD (cVar 1) (cCon (.int 1)))) (cCon (.int 0))))
  (sSeq (sIf (tOrB (tNotB (tVal (cCall jh (cCons (cTup (cCons (c2 subsD (cVar 1) (cCon (.int 2))) cNil)) (cCons (c1 lenD (c2 subsD (cVar 3) (cCon (.int 0)))) cNil))))) (tNotB (tVal (cCall jh (cCons (c2 subsD (cVar 1) (cCon (.int 3))) (cCons (cVar 2) cNil))))))
   (sSeq (sRet (cCon (.bl false)))
   sNext)
   sNext)
  (sSeq (sRet (c2 eqD (c1 lenD (c2 subsD (cVar 1) (cCon (.int 3)))) (c2 addD (cCon (.int 1)) (cTmp maxD (aCompB 1 [1] (jSeq (cVar 3)) (gVar 0) tTrue (c2 subsD (c2 subsD (cVar 0) (c2 subsD (cVar 1) (cCon (.int 2)))) (cCon (.int 1))))))))
  sNext))))))
@[irreducible] noncomputable def  yx : List D → M D := runDef 4 wu
noncomputable def  wg : CS :=
  (sSeq (sIf (tOrB (tNotB (tVal (c1 (isInst ["tuple"]) (cVar 0)))) (tOrB (tCmpB (c2 neD (c1 lenD (cVar 0)) (cCon (.int 2)))) (tNotB (tVal (c1 (isInst ["tuple"]) (c2 subsD (cVar 0) (cCon (.int 0))))))))
   (sSeq (sRet (cCon (.bl false)))
   sNext)
   sNext)
  (sSeq (sForB (jSeq (c2 subsD (cVar 0) (cCon (.int 0)))) (gVar 1)
   (sSeq (sIf (tOrB (tNotB (tVal (c1 (isInst ["tuple"]) (cVar 1)))) (tOrB (tCmpB (c2 neD (c1 lenD (cVar 1)) (cCon (.int 2)))) (tNotB (tVal (cCall yo (cCons (c2 subsD (cVar 1) (cCon (.int 0))) cNil))))))
    (sSeq (sRet (cCon (.bl false)))
    sNext)
    sNext)
   (sSeq (sIf (tNotB (tVal (cCall jh (cCons (cTup (cCons (c2 subsD (cVar 1) (cCon (.int 1))) cNil)) (cCons (c1 lenD (c2 subsD (cVar 1) (cCon (.int 0)))) cNil)))))
    (sSeq (sRet (cCon (.bl false)))
    sNext)
    sNext)
   sNext)))
  (sSeq (sIf (tOrB (tNotB (tVal (c1 (isInst ["tuple"]) (c2 subsD (cVar 0) (cCon (.int 1)))))) (tCmpB (c2 ninD (c1 lenD (c2 subsD (cVar 0) (cCon (.int 1)))) (cTup (cCons (cCon (.int 2)) (cCons (cCon (.int 3)) cNil))))))
   (sSeq (sRet (cCon (.bl false)))
   sNext)
   sNext)
  (sSeq (sForB (jSeq (c2 subsD (cVar 0) (cCon (.int 1)))) (gVar 2)
   (sSeq (sIf (tOrB (tNotB (tVal (c1 (isInst ["tuple"]) (cVar 2)))) (tOrB (tCmpB (c2 neD (c1 lenD (cVar 2)) (cCon (.int 2)))) (tNotB (tVal (c1 (isInst ["tuple"]) (c2 subsD (cVar 2) (cCon (.int 1))))))))
    (sSeq (sRet (cCon (.bl false)))
    sNext)
    sNext)
   (sSeq (sIf (tOrB (tNotB (tVal (cCall jh (cCons (c2 subsD (cVar 2) (cCon (.int 0))) (cCons (c1 lenD (c2 subsD (cVar 2) (cCon (.int 1)))) cNil))))) (tCmpB (c2 neD (c1 lenD (c2 subsD (cVar 2) (cCon (.int 0)))) (cCon (.int 2)))))
    (sSeq (sRet (cCon (.bl false)))
    sNext)
    sNext)
   (sSeq (sIf (tNotB (tVal (cTmp allD (aCompB 1 [0, 2] (jSeq (c2 subsD (cVar 2) (cCon (.int 1)))) (gVar 0) tTrue (cCall yx (cCons (cVar 1) (cCons (cVar 0) (cCons (c1 lenD (c2 subsD (cVar 2) (cCon (.int 1)))) cNil))))))))
    (sSeq (sRet (cCon (.bl false)))
    sNext)
    sNext)
   sNext))))
  (sSeq (sRet (cCon (.bl true)))
  sNext)))))
@[irreducible] noncomputable def  yp : List D → M D := runDef 3 wg
noncomputable def  vh : CS :=
  (sSeq (sAsg (gVar 2) (cTmp tupL (aCompB 1 [0, 1] (jRng1 (c1 lenD (cVar 1))) (gVar 0) tTrue (c2 subsD (c2 subsD (c2 subsD (c2 subsD (cVar 1) (cCon (.int 1))) (cVar 0)) (cCon (.int 0))) (c2 subsD (cVar 2) (cVar 0))))))
  (sSeq (sRet (cTup (cCons (cVar 2) (cCons (cTmp tupL (aCompB 1 [] (jSeq (c2 subsD (cVar 0) (cCon (.int 0)))) (gVar 0) tTrue (c2 subsD (cVar 0) (cCon (.int 1))))) cNil))))
  sNext))
@[irreducible] noncomputable def  zb : List D → M D := runDef 3 vh
noncomputable def  vH : CS :=
  (sSeq (sAsg (gTupD 2 (gsCons (gVar 3) (gsCons (gVar 4) gsNil))) (cVar 1))
  (sSeq (sAsg (gVar 5) (c2 subsD (c2 subsD (c2 subsD (c2 subsD (cVar 0) (cCon (.int 1))) (cVar 2)) (cCon (.int 1))) (c2 subsD (cVar 3) (cVar 2))))
  (sSeq (sIf (tCmpB (c2 eqD (c2 subsD (cVar 5) (cCon (.int 0))) (cCon (.str "settle"))))
   (sSeq (sRet (cVar 1))
   sNext)
   sNext)
  (sSeq (sAsg (gVar 6) (c2 subsD (cVar 5) (cCon (.int 1))))
  (sSeq (sAsg (gTupD 2 (gsCons (gVar 7) (gsCons (gVar 8) gsNil))) (c2 subsD (c2 subsD (c2 subsD (c2 subsD (c2 subsD (cVar 0) (cCon (.int 0))) (cVar 6)) (cCon (.int 0))) (c2 subsD (cVar 4) (cVar 6))) (c2 subsD (cVar 5) (cCon (.int 2)))))
  (sSeq (sRet (cTup (cCons (c2 addD (c2 addD (cSliceT (cVar 3) oNone (oSome (cVar 2))) (cTup (cCons (c2 subsD (c2 subsD (cVar 5) (cCon (.int 3))) (cVar 8)) cNil))) (cSliceT (cVar 3) (oSome (c2 addD (cVar 2) (cCon (.int 1)))) oNone)) (cCons (c2 addD (c2 addD (cSliceT (cVar 4) oNone (oSome (cVar 6))) (cTup (cCons (cVar 7) cNil))) (cSliceT (cVar 4) (oSome (c2 addD (cVar 6) (cCon (.int 1)))) oNone)) cNil))))
  sNext))))))
@[irreducible] noncomputable def  zr : List D → M D := runDef 9 vH
noncomputable def  w6 : CS :=
  (sSeq (sAsg (gVar 3) (c2 subsD (c2 subsD (c2 subsD (c2 subsD (cVar 0) (cCon (.int 1))) (cVar 2)) (cCon (.int 1))) (c2 subsD (c2 subsD (cVar 1) (cCon (.int 0))) (cVar 2))))
  (sSeq (sRet (cTmpSub (aDisp (cCons (cCon .non) (cCons (c2 subsD (cVar 3) (cCon (.int 1))) cNil))) (c1 intD (c2 eqD (c2 subsD (cVar 3) (cCon (.int 0))) (cCon (.str "settle"))))))
  sNext))
@[irreducible] noncomputable def  y9 : List D → M D := runDef 4 w6
noncomputable def  vy : CS :=
  (sSeq (sAsg (gVar 2) (cKeep (aDisp (cCons (cCall zb (cCons (cVar 0) (cCons (cVar 1) cNil))) cNil))))
  (sSeq (sAsg (gVar 3) (cDNew true))
  (sSeq (sAsg (gVar 4) (cCon (.int 0)))
  (sSeq (whileN (tCmpB (c2 ltD (cVar 4) (c1 lenD (cVar 2))))
   (sSeq (sAsg (gVar 5) (c2 subsD (cVar 2) (cVar 4)))
   (sSeq (sAsg (gVar 4) (c2 addD (cVar 4) (cCon (.int 1))))
   (sSeq (sAsg (gVar 6) (cKeep (aCompB 1 [0, 5] (jRng1 (c1 lenD (cVar 1))) (gVar 0) tTrue (cCall y9 (cCons (cVar 1) (cCons (cVar 2) (cCons (cVar 0) cNil)))))))
   (sSeq (sAsg (gVar 7) (cKeep (aCompB 1 [] (jSeq (cVar 6)) (gVar 0) (tCmpB (c2 isntD (cVar 0) (cCon .non))) (cVar 0))))
   (sSeq (sIf (tOrB (tCmpB (c2 gtD (c1 lenSetD (cVar 7)) (cCon (.int 1)))) (tCmpB (c2 neD (cKeep (aCompB 1 [1] (jSeq (cVar 7)) (gVar 0) (tCmpB (c2 ninD (cVar 0) (cVar 1))) (cVar 0))) (cKeep (aDisp cNil)))))
    (sSeq (sRet (cCon .non))
    sNext)
    sNext)
   (sSeq (sAsg (gSubD (cVar 3) (cVar 5)) (cKeep (aCompB 1 [0, 5, 6] (jRng1 (c1 lenD (cVar 1))) (gVar 0) (tCmpB (c2 isD (c2 subsD (cVar 3) (cVar 0)) (cCon .non))) (cCall zr (cCons (cVar 1) (cCons (cVar 2) (cCons (cVar 0) cNil)))))))
   (sSeq (sForB (jSeq (c2 subsD (cVar 3) (cVar 5))) (gVar 8)
    (sSeq (sIf (tCmpB (c2 ninD (cVar 8) (cVar 3)))
     (sSeq (sAsg (gSubD (cVar 3) (cVar 8)) (cKeep (aDisp cNil)))
     (sSeq (sExp (cAppend (cVar 2) (cVar 8)))
     sNext))
     sNext)
    sNext))
   sNext))))))) 200)
  (sSeq (sRet (cVar 3))
  sNext)))))
@[irreducible] noncomputable def  zv : List D → M D := runDef 9 vy
noncomputable def  vb : CS :=
  (sSeq (sAsg (gVar 1) (cDNew true))
  (sSeq (sAsg (gVar 2) (cDNew true))
  (sSeq (sForB (jDic (cVar 0)) (gVar 3)
   (sSeq (sAsg (gSubD (cVar 1) (cVar 3)) (c1 lenD (c2 subsD (cVar 0) (cVar 3))))
   (sSeq (sForB (jSeq (c2 subsD (cVar 0) (cVar 3))) (gVar 4)
    (sSeq (sAsg (gSubD (cVar 2) (cVar 4)) (c2 addD (cGet (cVar 2) (cVar 4) (cKeep (aDisp cNil))) (cKeep (aDisp (cCons (cVar 3) cNil)))))
    sNext))
   sNext)))
  (sSeq (sAsg (gVar 5) (cKeep (aCompB 1 [1] (jDic (cVar 0)) (gVar 0) (tCmpB (c2 eqD (c2 subsD (cVar 1) (cVar 0)) (cCon (.int 0)))) (cVar 0))))
  (sSeq (sAsg (gVar 6) (cCon (.int 0)))
  (sSeq (whileN (tCmpB (c2 ltD (cVar 6) (c1 lenD (cVar 5))))
   (sSeq (sForB (jSeq (cGet (cVar 2) (c2 subsD (cVar 5) (cVar 6)) (cKeep (aDisp cNil)))) (gVar 3)
    (sSeq (sAsg (gSubD (cVar 1) (cVar 3)) (c2 subD (c2 subsD (cVar 1) (cVar 3)) (cCon (.int 1))))
    (sSeq (sIf (tCmpB (c2 eqD (c2 subsD (cVar 1) (cVar 3)) (cCon (.int 0))))
     (sSeq (sExp (cAppend (cVar 5) (cVar 3)))
     sNext)
     sNext)
    sNext)))
   (sSeq (sAsg (gVar 6) (c2 addD (cVar 6) (cCon (.int 1))))
   sNext)) 200)
  (sSeq (sRet (c2 eqD (c1 lenD (cVar 5)) (c1 lenD (cVar 0))))
  sNext)))))))
@[irreducible] noncomputable def  za : List D → M D := runDef 7 vb
noncomputable def  wS : CS :=
  (sSeq (sRet (cKeep (aCompB 1 [0] (jRng1 (c2 shlD (cCon (.int 1)) (cVar 0))) (gVar 0) tTrue (cTmp tupL (aCompB 1 [0] (jRng1 (cVar 1)) (gVar 0) tTrue (c2 andD (c2 shrD (cVar 1) (cVar 0)) (cCon (.int 1))))))))
  sNext)
@[irreducible] noncomputable def  yP : List D → M D := runDef 1 wS
noncomputable def  wx : CS :=
  (sSeq (sForB (jSeq (cCall yP (cCons (c1 lenD (c2 subsD (cVar 0) (cCon (.int 1)))) cNil))) (gVar 1)
   (sFr (sSeq (sAsg (gVar 2) (cCall zv (cCons (cVar 0) (cCons (cVar 1) cNil))))
   (sSeq (sIf (tOrB (tCmpB (c2 isD (cVar 2) (cCon .non))) (tNotB (tVal (cCall za (cCons (cVar 2) cNil)))))
    (sSeq (sRet (cCon (.bl false)))
    sNext)
    sNext)
   sNext))))
  (sSeq (sRet (cCon (.bl true)))
  sNext))
@[irreducible] noncomputable def  yw : List D → M D := runDef 3 wx
noncomputable def  vg : CS :=
  (sSeq (sIf (tOrB (tNotB (tVal (cCall yp (cCons (cVar 0) cNil)))) (tOrB (tCmpB (c2 neD (c1 lenD (c2 subsD (cVar 0) (cCon (.int 1)))) (cVar 1))) (tCmpB (c2 neD (c1 lenD (c2 subsD (cVar 0) (cCon (.int 0)))) (cCon (.int 1))))))
   (sSeq (sRet (cCon (.bl false)))
   sNext)
   sNext)
  (sSeq (sAsg (gVar 2) (cTup (cCons (cTup (cCons (cTup (cCons (cCon (.int 1)) (cCons (cCon (.int 1)) cNil))) (cCons (cTup (cCons (cCon (.int 2)) (cCons (cCon (.int 2)) cNil))) cNil))) (cCons (cTup (cCons (cTup (cCons (cCon (.int 1)) (cCons (cCon (.int 1)) cNil))) (cCons (cTup (cCons (cCon (.int 1)) (cCons (cCon (.int 1)) cNil))) cNil))) (cCons (cTup (cCons (cTup (cCons (cCon (.int 2)) (cCons (cCon (.int 2)) cNil))) (cCons (cTup (cCons (cCon (.int 2)) (cCons (cCon (.int 2)) cNil))) cNil))) cNil)))))
  (sSeq (sRet (cAnd (c2 eqD (c2 subsD (c2 subsD (cVar 0) (cCon (.int 0))) (cCon (.int 0))) (cTup (cCons (cVar 2) (cCons (cCon (.int 0)) cNil)))) (cCall yw (cCons (cVar 0) cNil))))
  sNext)))
@[irreducible] noncomputable def  jW : List D → M D := runDef 3 vg
noncomputable def  JS : CS :=
  (sSeq (sAsg (gVar 1) (cCall yA (cCons (cVar 0) (cCons (cCon (.int 0)) cNil))))
  (sSeq (sAsg (gVar 2) (c2 addD (cCon (.int 2)) (cCall yz (cCons (cVar 1) (cCons (cCon (.int 2)) cNil)))))
  (sSeq (sAsg (gVar 3) (cCallE jy (cCons (cVar 2) cNil)))
  (sSeq (sRet (cAnd (cCallE jW (cCons (cVar 3) (cCons (cVar 2) cNil))) (cAnd (cCallE jW (cCons (cCallE jy (cCons (c2 subD (cCon (.int 5)) (cVar 2)) cNil)) (cCons (c2 subD (cCon (.int 5)) (cVar 2)) cNil))) (c2 eqD (cCallE jy (cCons (cVar 2) cNil)) (cVar 3)))))
  sNext))))
@[irreducible] noncomputable def  wZ : List D → M D := runDef 4 JS
end My
namespace My
open PySem PySem.Spec PyProof.Rows L2 MM
noncomputable def top (i : Nat) : Stmt := PySem.Challenge.pw_pactboards_k57_whole_pacts_of_first_thin.main.body.getD i (.Pass ⟨0, 0, 0, 0⟩)
noncomputable abbrev zc : Stmt := top 1
noncomputable abbrev jH : Stmt := top 2
noncomputable abbrev jM : Stmt := top 4
noncomputable abbrev jT : Stmt := top 5
noncomputable abbrev jV : Stmt := top 6
noncomputable abbrev jK : Stmt := top 7
noncomputable abbrev jn : Stmt := top 8
noncomputable abbrev jg : Stmt := top 9
noncomputable abbrev jf : Stmt := top 10
noncomputable abbrev jI : Stmt := top 11
noncomputable abbrev jx : Stmt := top 12
noncomputable abbrev jP : Stmt := top 13
noncomputable abbrev jl : Stmt := top 14
noncomputable abbrev jv : Stmt := top 15
noncomputable abbrev yc : Stmt := top 16
noncomputable abbrev jr : Stmt := top 17
noncomputable abbrev jJ : Stmt := top 18
noncomputable abbrev zd : Stmt := top 19
theorem wR : NameOk "_law_ahead" := nok (by nofun)
theorem ym : NameOk "_law_at" := nok (by nofun)
theorem vD : NameOk "_law_b" := nok (by nofun)
theorem Jf : NameOk "_law_base" := nok (by nofun)
theorem JM : NameOk "_law_begins" := nok (by nofun)
theorem yt : NameOk "_law_begun" := nok (by nofun)
theorem yK : NameOk "_law_board" := nok (by nofun)
theorem zD : NameOk "_law_cell" := nok (by nofun)
theorem vY : NameOk "_law_cells" := nok (by nofun)
theorem Zl : NameOk "_law_deal" := nok (by nofun)
theorem jo : NameOk "_law_deal_here" := nok (by nofun)
theorem wo : NameOk "_law_done" := nok (by nofun)
theorem Zh : NameOk "_law_draw" := nok (by nofun)
theorem JY : NameOk "_law_falls" := nok (by nofun)
theorem jz : NameOk "_law_found" := nok (by nofun)
theorem ja : NameOk "_law_house" := nok (by nofun)
theorem JG : NameOk "_law_is_good" := nok (by nofun)
theorem Jq : NameOk "_law_is_house" := nok (by nofun)
theorem JD : NameOk "_law_is_line" := nok (by nofun)
theorem Ju : NameOk "_law_is_table" := nok (by nofun)
theorem yi : NameOk "_law_k" := nok (by nofun)
theorem JX : NameOk "_law_later" := nok (by nofun)
theorem zC : NameOk "_law_left" := nok (by nofun)
theorem jd : NameOk "_law_line" := nok (by nofun)
theorem jA : NameOk "_law_many" := nok (by nofun)
theorem j1 : NameOk "_law_number" := nok (by nofun)
theorem yq : NameOk "_law_numbers" := nok (by nofun)
theorem jL : NameOk "_law_one" := nok (by nofun)
theorem wP : NameOk "_law_order" := nok (by nofun)
theorem JZ : NameOk "_law_other" := nok (by nofun)
theorem va : NameOk "_law_pair" := nok (by nofun)
theorem vV : NameOk "_law_right" := nok (by nofun)
theorem z1 : NameOk "_law_row" := nok (by nofun)
theorem vK : NameOk "_law_script" := nok (by nofun)
theorem Jc : NameOk "_law_some" := nok (by nofun)
theorem jm : NameOk "_law_spot" := nok (by nofun)
theorem J3 : NameOk "_law_start" := nok (by nofun)
theorem wy : NameOk "_law_states" := nok (by nofun)
theorem j9 : NameOk "_law_table" := nok (by nofun)
theorem zh : NameOk "_law_there" := nok (by nofun)
theorem vJ : NameOk "_law_things" := nok (by nofun)
theorem Zd : NameOk "_law_told" := nok (by nofun)
theorem Zb : NameOk "_law_turn" := nok (by nofun)
theorem JU : NameOk "_law_value" := nok (by nofun)
theorem yG : NameOk "_law_value_here" := nok (by nofun)
theorem vL : NameOk "_law_values" := nok (by nofun)
theorem Zu : NameOk "_law_walk" := nok (by nofun)
theorem vX : NameOk "_law_whole" := nok (by nofun)
theorem ZI : NameOk "empty" := nok (by nofun)
theorem ZM : NameOk "first" := nok (by nofun)
theorem ZH : NameOk "hands" := nok (by nofun)
theorem ZL : NameOk "lines" := nok (by nofun)
theorem nk_n : NameOk "n" := nok (by nofun)
theorem ww : NameOk "pact_first" := nok (by nofun)
theorem nk_v : NameOk "v" := nok (by nofun)
theorem ZF : bootBuiltins ("all" : Str) = some (.builtin "all") := by nofun
theorem ZQ : bootBuiltins ("bool" : Str) = some (.type "bool") := by nofun
theorem ZE : bootBuiltins ("int" : Str) = some (.type "int") := by nofun
theorem ju : bootBuiltins ("isinstance" : Str) = some (.builtin "isinstance") := by nofun
theorem jp : bootBuiltins ("len" : Str) = some (.builtin "len") := by nofun
theorem ZO : bootBuiltins ("list" : Str) = some (.type "list") := by nofun
theorem ZG : bootBuiltins ("max" : Str) = some (.builtin "max") := by nofun
theorem Zm : bootBuiltins ("reversed" : Str) = some (.type "reversed") := by nofun
theorem jG : bootBuiltins ("tuple" : Str) = some (.type "tuple") := by nofun
set_option genInjectivity false in
structure Txt (K : PySem.W.Frag) (mg : Str → Option Value) where
 vx : Addr
 wU : FuncData
 v8 : Fun K "first" "first" zc vx wU
 wK : mg "first" = some (.ref vx)
 zg : Addr
 yX : FuncData
 yQ : Fun K "pact_first" "pact_first" jH zg yX
 jy : mg "pact_first" = some (.ref zg)
 z5 : Addr
 zO : FuncData
 wC : Fun K "_law_deal" "_law_deal" jM z5 zO
 yA : mg "_law_deal" = some (.ref z5)
 z4 : Addr
 zL : FuncData
 wA : Fun K "_law_draw" "_law_draw" jT z4 zL
 yz : mg "_law_draw" = some (.ref z4)
 zF : Addr
 zn : FuncData
 zG : Fun K "_law_whole" "_law_whole" jV zF zn
 yn : mg "_law_whole" = some (.ref zF)
 yZ : Addr
 yL : FuncData
 jS : Fun K "_law_numbers" "_law_numbers" jK yZ yL
 jh : mg "_law_numbers" = some (.ref yZ)
 yH : Addr
 yB : FuncData
 zt : Fun K "_law_is_table" "_law_is_table" jn yH yB
 yo : mg "_law_is_table" = some (.ref yH)
 yW : Addr
 yJ : FuncData
 zQ : Fun K "_law_is_line" "_law_is_line" jg yW yJ
 yx : mg "_law_is_line" = some (.ref yW)
 yM : Addr
 yC : FuncData
 zu : Fun K "_law_is_house" "_law_is_house" jf yM yC
 yp : mg "_law_is_house" = some (.ref yM)
 zM : Addr
 zl : FuncData
 wk : Fun K "_law_start" "_law_start" jI zM zl
 zb : mg "_law_start" = some (.ref zM)
 zZ : Addr
 zH : FuncData
 wF : Fun K "_law_turn" "_law_turn" jx zZ zH
 zr : mg "_law_turn" = some (.ref zZ)
 zE : Addr
 zp : FuncData
 wn : Fun K "_law_value" "_law_value" jP zE zp
 y9 : mg "_law_value" = some (.ref zE)
 z8 : Addr
 zJ : FuncData
 wB : Fun K "_law_walk" "_law_walk" jl z8 zJ
 zv : mg "_law_walk" = some (.ref z8)
 zN : Addr
 zj : FuncData
 wm : Fun K "_law_falls" "_law_falls" jv zN zj
 za : mg "_law_falls" = some (.ref zN)
 zi : Addr
 yV : FuncData
 z9 : Fun K "_law_begins" "_law_begins" yc zi yV
 yP : mg "_law_begins" = some (.ref zi)
 yY : Addr
 yN : FuncData
 zR : Fun K "_law_is_good" "_law_is_good" jr yY yN
 yw : mg "_law_is_good" = some (.ref yY)
 zI : Addr
 zm : FuncData
 zB : Fun K "_law_right" "_law_right" jJ zI zm
 jW : mg "_law_right" = some (.ref zI)
 vA : Addr
 vZ : FuncData
 Zz : Fun K "law" "law" zd vA vZ
 wZ : mg "law" = some (.ref vA)
 vF : mg "all" = none
 vj : mg "bool" = none
 vz : mg "int" = none
 ji : mg "isinstance" = none
 jq : mg "len" = none
 vq : mg "list" = none
 vC : mg "max" = none
 ye : mg "range" = none
 zw : mg "reversed" = none
 v9 : mg "set" = none
 jw : mg "tuple" = none
section
variable {P : Program} {w : World} {K : PySem.W.Frag} {mg : Str → Option Value} {base : Heap}
theorem vo : LK zc "empty" .local := by nofun
theorem Jk : LK zc "n" .cell := by nofun
theorem vw : LK zc "range" .globalImplicit := by nofun
theorem vk : LK zc "tuple" .globalImplicit := by nofun
theorem J5 : FnScope ["n", "empty"] ["n"] (defScope zc) := ⟨rfl, rfl, rfl, by nofun, rfl, by nofun, by nofun⟩
theorem ZK (T : Txt K mg) : L2.Binds K T.wU ["n"] [] := T.v8.binds (ps := ["n"]) fun _ _ _ _ _ _ us hl => le1 (fun _ => rfl) us hl
theorem ZJ (T : Txt K mg) : FnOk P w K mg base CX0 1 T.vx T.wU ["n"] (spOf K 1 wK) := by
 have q : FnOk P w K mg base CX0 (0 + 1) T.vx T.wU ["n"] (spOf K 1 (runDef 2 Jz)) := by
  refine Qg1 (k := 0) (N := ["n", "empty"]) (body := Jz) T.v8 J5 rfl rfl (fun cdv A outer s H E hr => ?_)
  exact (@QeP _ _ _ _ _ (@QgW _ _ _ _ _ _ QgQ 1 J5.nd rfl _ vo _ (@Qfh _ _ _ _ _ _ _ _ (@Qfm _) (QgQ.glo _ vk) T.jw jG (QhT QhJ (@Qfc _ _ _ _ _ _ _ _ _ _ _ _ _ _ rfl (@QgS _ _ _ QgQ (by nofun)) (@QgT _ ["n", "empty"] _ ["v"] 1 [] rfl (by nofun)) (@Qf5 _ _ _ _ _ _ _ _ (QgQ.glo _ vw) T.ye Qdm (@Qdr _ _ _ _ _ _ _ _ (@QfO _) (QgU QgQ 0 rfl Jk nk_n) Qdm) (by rfl) (by rfl) (by rfl) (by rfl)) (fun _ _ _ => ⟨(@QgV _ _ _ _ (QgR (rfl)) 0 (show List.Nodup (["v"] : List Str) by nofun) rfl .local (by nofun) (by decide)), (@Qe9 _), (@Qeo _ _ _ _ _ (Qen (QgU (k := .local) (QgR (rfl)) 0 rfl (by nofun) nk_v) (Qen (QgU (k := .local) (QgR (rfl)) 0 rfl (by nofun) nk_v) Qem)))⟩) (by intros; rfl))) (by decide) (by decide) (by rfl)) (by decide) (by rfl))
  (@QeP _ _ _ _ _ (@QeQ _ _ _ _ (@Qdr _ _ _ _ _ _ _ _ (@QfO _) (@Qeo _ _ _ _ _ (Qen (QgU QgQ 1 rfl vo ZI) Qem)) (@Qfh _ _ _ _ _ _ _ _ (@Qfm _) (QgQ.glo _ vk) T.jw jG (QhT QhJ (@Qfc _ _ _ _ _ _ _ _ _ _ _ _ _ _ rfl (@QgS _ _ _ QgQ (by nofun)) (@QgT _ ["n", "empty"] _ ["v", "n"] 1 [0] rfl (by nofun)) (@Qf5 _ _ _ _ _ _ _ _ (QgQ.glo _ vw) T.ye Qdm (@Qdr _ _ _ _ _ _ _ _ (@QfO _) (QgU QgQ 0 rfl Jk nk_n) Qdm) (by rfl) (by rfl) (by rfl) (by rfl)) (fun _ _ _ => ⟨(@QgV _ _ _ _ (QgR (rfl)) 0 (show List.Nodup (["v", "n"] : List Str) by nofun) rfl .cell (by nofun) (by decide)), (@Qe9 _), (@Qfh _ _ _ _ _ _ _ _ (@Qfm _) ((QgR (rfl)).glo _ (by nofun)) T.jw jG (QhT QhH (@Qfc _ _ _ _ _ _ _ _ _ _ _ _ _ _ rfl (@QgS _ _ _ (QgR (rfl)) (by nofun)) (@QgT _ ["v", "n"] _ ["deed", "v"] 1 [0] rfl (by nofun)) (@Qe6 _ _ _ _ _ _ ((QgR (rfl)).glo _ (by nofun)) T.ye (QgU (k := .free) (QgR (rfl)) 1 rfl (by nofun) nk_n) (by rfl)) (fun _ _ _ => ⟨(@QgV _ _ _ _ (QgR (rfl)) 0 (show List.Nodup (["deed", "v"] : List Str) by nofun) rfl .local (by nofun) (by decide)), (@Qe9 _), (@Qeo _ _ _ _ _ (Qen (QgU (k := .free) (QgR (rfl)) 1 rfl (by nofun) nk_v) (Qen (QgU (k := .free) (QgR (rfl)) 1 rfl (by nofun) nk_v) Qem)))⟩) (by intros; rfl))) (by decide) (by decide) (by rfl))⟩) (by intros; rfl))) (by decide) (by decide) (by rfl))))
  QeO))
 unfold wK
 exact q
theorem vM : LK jH "first" .globalImplicit := by nofun
theorem vS : LK jH "hands" .local := by nofun
theorem vQ : LK jH "lines" .cell := by nofun
theorem vO : LK jH "range" .globalImplicit := by nofun
theorem vN : LK jH "tuple" .globalImplicit := by nofun
theorem vI : FnScope ["hands", "lines"] ["hands"] (defScope jH) := ⟨rfl, rfl, rfl, by nofun, rfl, by nofun, by nofun⟩
theorem JK (T : Txt K mg) : L2.Binds K T.yX ["hands"] [] := T.yQ.binds (ps := ["hands"]) fun _ _ _ _ _ _ us hl => le1 (fun _ => rfl) us hl
theorem JO (T : Txt K mg) : FnOk P w K mg base CX0 2 T.zg T.yX ["hands"] (spOf K 1 jy) := by
 have ZP := ZJ (P := P) (w := w) (base := base) T
 have ZN := ZK T
 have q : FnOk P w K mg base CX0 (1 + 1) T.zg T.yX ["hands"] (spOf K 1 (runDef 2 wL)) := by
  refine Qg1 (k := 1) (N := ["hands", "lines"]) (body := wL) T.yQ vI rfl rfl (fun cdv A outer s H E hr => ?_)
  exact (@QeP _ _ _ _ _ (@QgW _ _ _ _ _ _ QgQ 1 vI.nd rfl _ vQ _ (@Qeo _ _ _ _ _ (Qen (@Qeo _ _ _ _ _ (Qen Qdp (Qen Qdm (Qen Qdm (Qen (@Qeo _ _ _ _ _ (Qen Qdm (Qen Qdm (Qen Qdm Qem)))) Qem))))) (Qen (@Qeo _ _ _ _ _ (Qen Qdp (Qen Qdm (Qen Qdm (Qen (@Qeo _ _ _ _ _ (Qen Qdm (Qen Qdm (Qen Qdm Qem)))) Qem))))) (Qen (@Qeo _ _ _ _ _ (Qen Qdp (Qen Qdm Qem))) (Qen (@Qeo _ _ _ _ _ (Qen Qdp (Qen Qdm Qem))) Qem))))) (by decide) (by rfl))
  (@QeP _ _ _ _ _ (@QeQ _ _ _ _ (@Qeo _ _ _ _ _ (Qen (@Qeo _ _ _ _ _ (Qen (@Qeo _ _ _ _ _ (Qen (QgZ QgQ vM ZP (hr.mono (by decide)) T.wK T.v8.kp ZN ZM (Qen Qdm Qem) (QgX QgY)) (Qen Qdm Qem))) Qem)) (Qen (@Qfh _ _ _ _ _ _ _ _ (@Qfm _) (QgQ.glo _ vN) T.jw jG (QhT QhH (@Qfc _ _ _ _ _ _ _ _ _ _ _ _ _ _ rfl (@QgS _ _ _ QgQ (by nofun)) (@QgT _ ["hands", "lines"] _ ["hand", "lines"] 1 [1] rfl (by nofun)) (@Qe6 _ _ _ _ _ _ (QgQ.glo _ vO) T.ye (QgU QgQ 0 rfl vS ZH) (by rfl)) (fun _ _ _ => ⟨(@QgV _ _ _ _ (QgR (rfl)) 0 (show List.Nodup (["hand", "lines"] : List Str) by nofun) rfl .local (by nofun) (by decide)), (@Qe9 _), (@Qeo _ _ _ _ _ (Qen (@Qeo _ _ _ _ _ (Qen Qdm (Qen Qdm Qem))) (Qen (QgU (k := .free) (QgR (rfl)) 1 rfl (by nofun) ZL) Qem)))⟩) (by intros; rfl))) (by decide) (by decide) (by rfl)) Qem))))
  QeO))
 unfold jy
 exact q
theorem z0 : LK jM "_law_base" .local := by nofun
theorem z7 : LK jM "_law_cell" .local := by nofun
theorem yh : LK jM "_law_cells" .local := by nofun
theorem j5 : LK jM "_law_number" .local := by nofun
theorem ve : LK jM "_law_script" .local := by nofun
theorem Ji : LK jM "list" .globalImplicit := by nofun
theorem vE : LK jM "reversed" .globalImplicit := by nofun
theorem zK : FnScope ["_law_script", "_law_base", "_law_cells", "_law_number", "_law_cell"] ["_law_script", "_law_base"] (defScope jM) := ⟨rfl, rfl, rfl, by nofun, rfl, by nofun, by nofun⟩
theorem Zi (T : Txt K mg) : L2.Binds K T.zO ["_law_script", "_law_base"] [] := T.wC.binds (ps := ["_law_script", "_law_base"]) fun _ _ _ _ _ _ us hl => le2 (fun _ _ => rfl) us hl
theorem Zg (T : Txt K mg) : FnOk P w K mg base CX0 1 T.z5 T.zO ["_law_script", "_law_base"] (spOf K 2 yA) := by
 have q : FnOk P w K mg base CX0 (0 + 1) T.z5 T.zO ["_law_script", "_law_base"] (spOf K 2 (runDef 5 wH)) := by
  refine Qg1 (k := 0) (N := ["_law_script", "_law_base", "_law_cells", "_law_number", "_law_cell"]) (body := wH) T.wC zK rfl rfl (fun cdv A outer s H E hr => ?_)
  exact (@QeP _ _ _ _ _ (@Qfd _ _ _ _ _ _ _ _ _ _ _ 2 _ _ _ _ _ _ zK.nd rfl (QgQ.loc _ _ yh (by decide)).1 (QgQ.loc _ _ yh (by decide)).2 rfl (@QgS _ _ _ QgQ (by nofun)) (@QgT _ ["_law_script", "_law_base", "_law_cells", "_law_number", "_law_cell"] _ ["_law_cell"] 1 [] rfl (by nofun)) (@Qe5 _ _ _ _ (@QfR _ _ _ _ _ _ _ _ _ (QgU QgQ 0 rfl ve vK) (@QfQ _ _ _ (QgU QgQ 1 rfl z0 Jf)) (@QfQ _ _ _ Qdm))) (fun _ _ _ => ⟨(@QgV _ _ _ _ (QgR (rfl)) 0 (show List.Nodup (["_law_cell"] : List Str) by nofun) rfl .local (by nofun) (by decide)), (@Qe9 _), (@Qf2 _ _ _ _ _ _ _ _ _ _ (@Qf3 _ rfl) ((QgR (rfl)).glo _ (by nofun)) T.vC ZG (QgU (k := .local) (QgR (rfl)) 0 rfl (by nofun) zD) (@Qdr _ _ _ _ _ _ _ _ (@Qeb _) Qdm (QgU (k := .local) (QgR (rfl)) 0 rfl (by nofun) zD)) (by decide) (by decide) (by rfl) (by rfl) (by rfl))⟩) (by rfl) (by intros; rfl))
  (@QeP _ _ _ _ _ (@QgW _ _ _ _ _ _ QgQ 3 zK.nd rfl _ j5 _ (@Qdr _ _ _ _ _ _ _ _ (@QfO _) Qdm (@Qdr _ _ _ _ _ _ _ _ (@Qec _) Qdm (QgU QgQ 1 rfl z0 Jf))) (by decide) (by rfl))
  (@QeP _ _ _ _ _ (@Qe7 _ _ _ _ _ _ _ _ PassesOwn.never rfl (@Qe4 _ _ _ _ (QgU QgQ 2 rfl yh vY)) (@QgV _ _ _ _ QgQ 4 zK.nd rfl .local z7 (by decide))
   (@QeP _ _ _ _ _ (@QgW _ _ _ _ _ _ QgQ 3 zK.nd rfl _ j5 _ (@Qdr _ _ _ _ _ _ _ _ (@Qee _) (@Qdr _ _ _ _ _ _ _ _ (@QfO _) (@Qdr _ _ _ _ _ _ _ _ (@QfO _) (@Qdr _ _ _ _ _ _ _ _ (@Qec _) (QgU QgQ 3 rfl j5 j1) Qdm) (@Qdr _ _ _ _ _ _ _ _ (@Qee _) (QgU QgQ 4 rfl z7 zD) Qdm)) Qdm) Qdm) (by decide) (by rfl))
   QeO) (by intros; rfl))
  (@QeP _ _ _ _ _ (@QeQ _ _ _ _ (@Qgi _ _ _ _ _ _ (@Qgh _ _ _ _ _ _ _ _ _ _ _ (QgU QgQ 3 rfl j5 j1) (@Qgh _ _ _ _ _ _ _ _ _ _ _ Qdm (@Qgh _ _ _ _ _ _ _ _ _ _ _ (@Qeq _ _ _ (@Qgd _ _ _ _ _ _ _ rfl (QgQ.glo _ Ji) T.vq ZO (QgQ.glo _ vE) T.zw Zm (@Qfc _ _ _ _ _ _ _ _ _ _ _ _ _ _ rfl (@QgS _ _ _ QgQ (by nofun)) (@QgT _ ["_law_script", "_law_base", "_law_cells", "_law_number", "_law_cell"] _ ["_law_cell"] 1 [] rfl (by nofun)) (@Qe4 _ _ _ _ (QgU QgQ 2 rfl yh vY)) (fun _ _ _ => ⟨(@QgV _ _ _ _ (QgR (rfl)) 0 (show List.Nodup (["_law_cell"] : List Str) by nofun) rfl .local (by nofun) (by decide)), (@Qfa _ _ _ (@Qez _ _ _ _ _ _ _ _ (@Qel _) (QgU (k := .local) (QgR (rfl)) 0 rfl (by nofun) zD) (@Qdr _ _ _ _ _ _ _ _ (@Qef _) Qdm Qdm) (Qbo _))), (QgU (k := .local) (QgR (rfl)) 0 rfl (by nofun) zD)⟩) (by intros; rfl)) (by rfl) (by rfl))) (@Qgg _ _)))) (by rfl) (by rfl) (by simp) (by decide) (by decide)))
  QeO))))
 unfold yA
 exact q
theorem jc : LK jT "_law_deal_here" .local := by nofun
theorem yU : LK jT "_law_many" .local := by nofun
theorem j8 : LK jT "_law_number" .local := by nofun
theorem yv : LK jT "_law_one" .local := by nofun
theorem zT : LK jT "_law_other" .local := by nofun
theorem Js : LK jT "len" .globalImplicit := by nofun
theorem wl : FnScope ["_law_deal_here", "_law_many", "_law_number", "_law_one", "_law_other"] ["_law_deal_here", "_law_many"] (defScope jT) := ⟨rfl, rfl, rfl, by nofun, rfl, by nofun, by nofun⟩
theorem Zr (T : Txt K mg) : L2.Binds K T.zL ["_law_deal_here", "_law_many"] [] := T.wA.binds (ps := ["_law_deal_here", "_law_many"]) fun _ _ _ _ _ _ us hl => le2 (fun _ _ => rfl) us hl
theorem Zf (T : Txt K mg) : FnOk P w K mg base CX0 1 T.z4 T.zL ["_law_deal_here", "_law_many"] (spOf K 2 yz) := by
 have q : FnOk P w K mg base CX0 (0 + 1) T.z4 T.zL ["_law_deal_here", "_law_many"] (spOf K 2 (runDef 5 wJ)) := by
  refine Qg1 (k := 0) (N := ["_law_deal_here", "_law_many", "_law_number", "_law_one", "_law_other"]) (body := wJ) T.wA wl rfl rfl (fun cdv A outer s H E hr => ?_)
  exact (@QeP _ _ _ _ _ (@Qf6 _ _ _ _ _ _ PassesOwn.never (L2.PW.pt (@QeC _ _ _ _ _ _ _ (@Qez _ _ _ _ _ _ _ _ (QfL (Qg0 hr)) (Qeu (Qg0 hr) (QgU QgQ 0 rfl jc jo) Qdp (fun _ _ => rfl)) Qdm (Qbo _)) (@QeA _ _ _ _ (@Qez _ _ _ _ _ _ _ _ (@Qek _) (@Qfe _ _ _ _ _ _ _ _ (@Qfk _) (QgQ.glo _ Js) T.jq jp (Qeu (Qg0 hr) (QgU QgQ 0 rfl jc jo) Qdp (fun _ _ => rfl)) (by decide) (by decide) (by rfl)) Qdm (Qbo _)))))
   (@QeP _ _ _ _ _ (@QeW _ _ _ _ _ _ (@Qf4 _ _ _ _ _ (Qeu (Qg0 hr) (QgU QgQ 0 rfl jc jo) Qdp (fun _ _ => rfl)) (by rfl) (by rfl)) (@QeY _ _ _ _ _ _ (Qg0 hr) (QgU QgQ 0 rfl jc jo) Qdp (by intros; rfl)) (by rfl) (by rfl) (by rfl))
   QeO))
  (@QeP _ _ _ _ _ (@QgW _ _ _ _ _ _ QgQ 2 wl.nd rfl _ j8 _ (Qeu (Qg0 hr) (QgU QgQ 0 rfl jc jo) Qdp (fun _ _ => rfl)) (by decide) (by rfl))
  (@QeP _ _ _ _ _ (@QeS _ _ _ _ _ _ _ (@Qez _ _ _ _ _ _ _ _ (@Qek _) (QgU QgQ 2 rfl j8 j1) Qdm (Qbo _))
   (@QeP _ _ _ _ _ (@QeW _ _ _ _ _ _ (@Qdr _ _ _ _ _ _ _ _ (@Qed _) (QgU QgQ 2 rfl j8 j1) (QgU QgQ 1 rfl yU jA)) (@QeY _ _ _ _ _ _ (Qg0 hr) (QgU QgQ 0 rfl jc jo) Qdp (by intros; rfl)) (by rfl) (by rfl) (by rfl))
   (@QeP _ _ _ _ _ (@QeQ _ _ _ _ (@Qdr _ _ _ _ _ _ _ _ (@Qee _) (QgU QgQ 2 rfl j8 j1) (QgU QgQ 1 rfl yU jA)))
   QeO)) _
   QeO)
  (@QeP _ _ _ _ _ (@QgW _ _ _ _ _ _ QgQ 3 wl.nd rfl _ yv _ (@Qdr _ _ _ _ _ _ _ _ (@Qee _) (@Qdr _ _ _ _ _ _ _ _ (@QfO _) (@Qdr _ _ _ _ _ _ _ _ (@Qec _) (Qeu (Qg0 hr) (QgU QgQ 0 rfl jc jo) Qdp (fun _ _ => rfl)) Qdm) Qdm) Qdm) (by decide) (by rfl))
  (@QeP _ _ _ _ _ (@QeW _ _ _ _ _ _ (@Qdr _ _ _ _ _ _ _ _ (@Qee _) (@Qdr _ _ _ _ _ _ _ _ (@QfO _) (@Qdr _ _ _ _ _ _ _ _ (@Qec _) (QgU QgQ 3 rfl yv jL) Qdm) Qdm) Qdm) (@QeY _ _ _ _ _ _ (Qg0 hr) (QgU QgQ 0 rfl jc jo) Qdp (by intros; rfl)) (by rfl) (by rfl) (by rfl))
  (@QeP _ _ _ _ _ (@QgW _ _ _ _ _ _ QgQ 4 wl.nd rfl _ zT _ (@Qdr _ _ _ _ _ _ _ _ (@Qee _) (@Qdr _ _ _ _ _ _ _ _ (@Qec _) (Qeu (Qg0 hr) (QgU QgQ 0 rfl jc jo) Qdp (fun _ _ => rfl)) (Qeu (Qg0 hr) (QgU QgQ 0 rfl jc jo) Qdp (fun _ _ => rfl))) Qdm) (by decide) (by rfl))
  (@QeP _ _ _ _ _ (@QeQ _ _ _ _ (@Qdr _ _ _ _ _ _ _ _ (@Qee _) (@Qdr _ _ _ _ _ _ _ _ (@QfO _) (@Qdr _ _ _ _ _ _ _ _ (@Qec _) (@Qdr _ _ _ _ _ _ _ _ (@Qee _) (@Qdr _ _ _ _ _ _ _ _ (@Qec _) (QgU QgQ 3 rfl yv jL) (QgU QgQ 3 rfl yv jL)) Qdm) Qdm) (QgU QgQ 4 rfl zT JZ)) (QgU QgQ 1 rfl yU jA)))
  QeO)))))))
 unfold yz
 exact q
theorem zx : LK jV "_law_number" .local := by nofun
theorem Jb : LK jV "bool" .globalImplicit := by nofun
theorem Jh : LK jV "int" .globalImplicit := by nofun
theorem zy : LK jV "isinstance" .globalImplicit := by nofun
theorem J0 : FnScope ["_law_number"] ["_law_number"] (defScope jV) := ⟨rfl, rfl, rfl, by nofun, rfl, by nofun, by nofun⟩
theorem vT (T : Txt K mg) : L2.Binds K T.zn ["_law_number"] [] := T.zG.binds (ps := ["_law_number"]) fun _ _ _ _ _ _ us hl => le1 (fun _ => rfl) us hl
theorem v5 (T : Txt K mg) : FnOk P w K mg base CX0 1 T.zF T.zn ["_law_number"] (spOf K 1 yn) := by
 have q : FnOk P w K mg base CX0 (0 + 1) T.zF T.zn ["_law_number"] (spOf K 1 (runDef 1 w9)) := by
  refine Qg1 (k := 0) (N := ["_law_number"]) (body := w9) T.zG J0 rfl rfl (fun cdv A outer s H E hr => ?_)
  exact (@QeP _ _ _ _ _ (@QeQ _ _ _ _ (@QeG _ _ _ _ _ _ _ (@QfB _ _ _ _ _ _ _ _ Qfw (QgQ.glo _ zy) T.ji (QgQ.glo _ Jh) T.vz ZE (QgU QgQ 0 rfl zx j1) ju (by decide) (by decide) (by rfl) (by rfl) (by rfl)) (QeF (@QeH _ _ _ _ (@QfB _ _ _ _ _ _ _ _ Qfx (QgQ.glo _ zy) T.ji (QgQ.glo _ Jb) T.vj ZQ (QgU QgQ 0 rfl zx j1) ju (by decide) (by decide) (by rfl) (by rfl) (by rfl))))))
  QeO)
 unfold yn
 exact q
theorem zf : LK jK "_law_things" .local := by nofun
theorem v4 : LK jK "all" .globalImplicit := by nofun
theorem wG : LK jK "isinstance" .globalImplicit := by nofun
theorem vG : LK jK "tuple" .globalImplicit := by nofun
theorem JH : FnScope ["_law_things", "_law_many"] ["_law_things", "_law_many"] (defScope jK) := ⟨rfl, rfl, rfl, by nofun, rfl, by nofun, by nofun⟩
theorem wj (T : Txt K mg) : L2.Binds K T.yL ["_law_things", "_law_many"] [] := T.jS.binds (ps := ["_law_things", "_law_many"]) fun _ _ _ _ _ _ us hl => le2 (fun _ _ => rfl) us hl
theorem wf (T : Txt K mg) : FnOk P w K mg base CX0 2 T.yZ T.yL ["_law_things", "_law_many"] (spOf K 2 jh) := by
 have vc := v5 (P := P) (w := w) (base := base) T
 have vf := vT T
 have q : FnOk P w K mg base CX0 (1 + 1) T.yZ T.yL ["_law_things", "_law_many"] (spOf K 2 (runDef 2 wv)) := by
  refine Qg1 (k := 1) (N := ["_law_things", "_law_many"]) (body := wv) T.jS JH rfl rfl (fun cdv A outer s H E hr => ?_)
  exact (@QeP _ _ _ _ _ (@QeQ _ _ _ _ (@QeG _ _ _ _ _ _ _ (@QfB _ _ _ _ _ _ _ _ Qfy (QgQ.glo _ wG) T.ji (QgQ.glo _ vG) T.jw jG (QgU QgQ 0 rfl zf vJ) ju (by decide) (by decide) (by rfl) (by rfl) (by rfl)) (QeF (@Qfg _ _ _ _ _ _ _ _ (@Qfu _ rfl) (QgQ.glo _ v4) T.vF ZF (QhT QhG (@Qfc _ _ _ _ _ _ _ _ _ _ _ _ _ _ rfl (@QgS _ _ _ QgQ (by nofun)) (@QgT _ ["_law_things", "_law_many"] _ ["_law_one", "_law_many"] 1 [1] rfl (by nofun)) (@Qe4 _ _ _ _ (QgU QgQ 0 rfl zf vJ)) (fun _ _ _ => ⟨(@QgV _ _ _ _ (QgR (rfl)) 0 (show List.Nodup (["_law_one", "_law_many"] : List Str) by nofun) rfl .local (by nofun) (by decide)), (@Qe9 _), (@QeG _ _ _ _ _ _ _ (QgZ (QgR (rfl)) (by nofun) vc (hr.mono (by decide)) T.yn T.zG.kp vf vX (Qen (QgU (k := .local) (QgR (rfl)) 0 rfl (by nofun) jL) Qem) (QgX QgY)) (QeF (@QeJ _ _ _ _ _ _ _ _ _ _ _ _ (@Qej _) Qei Qdm (QgU (k := .local) (QgR (rfl)) 0 rfl (by nofun) jL) (QgU (k := .free) (QgR (rfl)) 1 rfl (by nofun) jA) (by with_unfolding_all rfl))))⟩) (by intros; rfl))) (by decide) (by decide) (by rfl)))))
  QeO)
 unfold jh
 exact q
theorem wq : LK jn "_law_numbers" .globalImplicit := by nofun
theorem jZ : LK jn "_law_pair" .local := by nofun
theorem jN : LK jn "_law_row" .local := by nofun
theorem jC : LK jn "_law_table" .local := by nofun
theorem y8 : LK jn "isinstance" .globalImplicit := by nofun
theorem jO : LK jn "len" .globalImplicit := by nofun
theorem zV : LK jn "tuple" .globalImplicit := by nofun
theorem z6 : FnScope ["_law_table", "_law_row", "_law_pair"] ["_law_table"] (defScope jn) := ⟨rfl, rfl, rfl, by nofun, rfl, by nofun, by nofun⟩
theorem Jo (T : Txt K mg) : L2.Binds K T.yB ["_law_table"] [] := T.zt.binds (ps := ["_law_table"]) fun _ _ _ _ _ _ us hl => le1 (fun _ => rfl) us hl
theorem Jp (T : Txt K mg) : FnOk P w K mg base CX0 3 T.yH T.yB ["_law_table"] (spOf K 1 yo) := by
 have j0 := wf (P := P) (w := w) (base := base) T
 have j2 := wj T
 have q : FnOk P w K mg base CX0 (2 + 1) T.yH T.yB ["_law_table"] (spOf K 1 (runDef 3 we)) := by
  refine Qg1 (k := 2) (N := ["_law_table", "_law_row", "_law_pair"]) (body := we) T.zt z6 rfl rfl (fun cdv A outer s H E hr => ?_)
  exact (@QeP _ _ _ _ _ (@QeS _ _ _ _ _ _ _ (L2.PW.pt (@QeD _ _ _ _ _ _ _ (@QeE _ _ _ _ (@Qey _ _ _ (@QfB _ _ _ _ _ _ _ _ Qfy (QgQ.glo _ y8) T.ji (QgQ.glo _ zV) T.jw jG (QgU QgQ 0 rfl jC j9) ju (by decide) (by decide) (by rfl) (by rfl) (by rfl)) (by intros; rfl))) (@QeB _ _ _ _ (@Qez _ _ _ _ _ _ _ _ (QfL (Qg0 hr)) (@Qfe _ _ _ _ _ _ _ _ (@Qfk _) (QgQ.glo _ jO) T.jq jp (QgU QgQ 0 rfl jC j9) (by decide) (by decide) (by rfl)) Qdm (Qbo _)))))
   (@QeP _ _ _ _ _ (@QeQ _ _ _ _ (@Qdn _ _ _ _))
   QeO) _
   QeO)
  (@QeP _ _ _ _ _ (QhR QhG (@Qe7 _ _ _ _ _ _ _ _ PassesOwn.never rfl (@Qe4 _ _ _ _ (QgU QgQ 0 rfl jC j9)) (@QgV _ _ _ _ QgQ 1 z6.nd rfl .local jN (by decide))
   (@QeP _ _ _ _ _ (@QeS _ _ _ _ _ _ _ (L2.PW.pt (@QeD _ _ _ _ _ _ _ (@QeE _ _ _ _ (@Qey _ _ _ (@QfB _ _ _ _ _ _ _ _ Qfy (QgQ.glo _ y8) T.ji (QgQ.glo _ zV) T.jw jG (QgU QgQ 1 rfl jN z1) ju (by decide) (by decide) (by rfl) (by rfl) (by rfl)) (by intros; rfl))) (@QeD _ _ _ _ _ _ _ (@Qez _ _ _ _ _ _ _ _ (QfL (Qg0 hr)) (@Qfe _ _ _ _ _ _ _ _ (@Qfk _) (QgQ.glo _ jO) T.jq jp (QgU QgQ 1 rfl jN z1) (by decide) (by decide) (by rfl)) Qdm (Qbo _)) (@QeB _ _ _ _ (@Qez _ _ _ _ _ _ _ _ (QfM (Qg0 hr)) (@Qfe _ _ _ _ _ _ _ _ (@Qfk _) (QgQ.glo _ jO) T.jq jp (QgU QgQ 1 rfl jN z1) (by decide) (by decide) (by rfl)) (@Qfe _ _ _ _ _ _ _ _ (@Qfk _) (QgQ.glo _ jO) T.jq jp (Qeu (Qg0 hr) (QgU QgQ 0 rfl jC j9) Qdm (fun _ _ => rfl)) (by decide) (by decide) (by rfl)) (Qbo _))))))
    (@QeP _ _ _ _ _ (@QeQ _ _ _ _ (@Qdn _ _ _ _))
    QeO) _
    QeO)
   (@QeP _ _ _ _ _ (QhR QhG (@Qe7 _ _ _ _ _ _ _ _ PassesOwn.never rfl (@Qe4 _ _ _ _ (QgU QgQ 1 rfl jN z1)) (@QgV _ _ _ _ QgQ 2 z6.nd rfl .local jZ (by decide))
    (@QeP _ _ _ _ _ (@QeS _ _ _ _ _ _ _ (L2.PW.pt (@QeD _ _ _ _ _ _ _ (@QeE _ _ _ _ (@Qey _ _ _ (QgZ QgQ wq j0 (hr.mono (by decide)) T.jh T.jS.kp j2 yq (Qen (QgU QgQ 2 rfl jZ va) (Qen (@Qdr _ _ _ _ _ _ _ _ (@Qef _) Qdm Qdm) Qem)) (QgX (QgX QgY))) (by intros; rfl))) (@QeD _ _ _ _ _ _ _ (@Qez _ _ _ _ _ _ _ _ (QfM (Qg0 hr)) (@Qfe _ _ _ _ _ _ _ _ (@Qfk _) (QgQ.glo _ jO) T.jq jp (QgU QgQ 2 rfl jZ va) (by decide) (by decide) (by rfl)) Qdm (Qbo _)) (@QeB _ _ _ _ (@Qez _ _ _ _ _ _ _ _ (@Qel _) (Qeu (Qg0 hr) (QgU QgQ 2 rfl jZ va) Qdm (fun _ _ => rfl)) (@Qfe _ _ _ _ _ _ _ _ (@Qfk _) (QgQ.glo _ jO) T.jq jp (QgU QgQ 0 rfl jC j9) (by decide) (by decide) (by rfl)) (Qbo _))))))
     (@QeP _ _ _ _ _ (@QeQ _ _ _ _ (@Qdn _ _ _ _))
     QeO) _
     QeO)
    QeO) (by intros; rfl)))
   QeO)) (by intros; rfl)))
  (@QeP _ _ _ _ _ (@QeQ _ _ _ _ (@Qdn _ _ _ _))
  QeO)))
 unfold yo
 exact q
theorem zk : LK jg "_law_house" .local := by nofun
theorem jb : LK jg "_law_line" .cell := by nofun
theorem wX : LK jg "_law_many" .local := by nofun
theorem yj : LK jg "_law_numbers" .globalImplicit := by nofun
theorem yu : LK jg "_law_table" .local := by nofun
theorem wW : LK jg "_law_whole" .globalImplicit := by nofun
theorem wE : LK jg "isinstance" .globalImplicit := by nofun
theorem yb : LK jg "len" .globalImplicit := by nofun
theorem vU : LK jg "max" .globalImplicit := by nofun
theorem vB : LK jg "tuple" .globalImplicit := by nofun
theorem vv : FnScope ["_law_house", "_law_line", "_law_many", "_law_table"] ["_law_house", "_law_line", "_law_many"] (defScope jg) := ⟨rfl, rfl, rfl, by nofun, rfl, by nofun, by nofun⟩
theorem Jy (T : Txt K mg) : L2.Binds K T.yJ ["_law_house", "_law_line", "_law_many"] [] := T.zQ.binds (ps := ["_law_house", "_law_line", "_law_many"]) fun _ _ _ _ _ _ us hl => le3 (fun _ _ _ => rfl) us hl
theorem Jx (T : Txt K mg) : FnOk P w K mg base CX0 3 T.yW T.yJ ["_law_house", "_law_line", "_law_many"] (spOf K 3 yx) := by
 have j0 := wf (P := P) (w := w) (base := base) T
 have j2 := wj T
 have vc := v5 (P := P) (w := w) (base := base) T
 have vf := vT T
 have q : FnOk P w K mg base CX0 (2 + 1) T.yW T.yJ ["_law_house", "_law_line", "_law_many"] (spOf K 3 (runDef 4 wu)) := by
  refine Qg1 (k := 2) (N := ["_law_house", "_law_line", "_law_many", "_law_table"]) (body := wu) T.zQ vv rfl rfl (fun cdv A outer s H E hr => ?_)
  exact (@QeP _ _ _ _ _ (@QeS _ _ _ _ _ _ _ (L2.PW.pt (@QeD _ _ _ _ _ _ _ (@QeE _ _ _ _ (@Qey _ _ _ (@QfB _ _ _ _ _ _ _ _ Qfy (QgQ.glo _ wE) T.ji (QgQ.glo _ vB) T.jw jG (QgU QgQ 1 rfl jb jd) ju (by decide) (by decide) (by rfl) (by rfl) (by rfl)) (by intros; rfl))) (@QeB _ _ _ _ (@Qez _ _ _ _ _ _ _ _ (@Qf1 _ (Qg0 hr)) (@Qfe _ _ _ _ _ _ _ _ (@Qfk _) (QgQ.glo _ yb) T.jq jp (QgU QgQ 1 rfl jb jd) (by decide) (by decide) (by rfl)) (@Qeo _ _ _ _ _ (Qen Qdm (Qen Qdm Qem))) rfl))))
   (@QeP _ _ _ _ _ (@QeQ _ _ _ _ (@Qdn _ _ _ _))
   QeO) _
   QeO)
  (@QeP _ _ _ _ _ (@QeS _ _ _ _ _ _ _ (@Qez _ _ _ _ _ _ _ _ (QfL (Qg0 hr)) (@Qfe _ _ _ _ _ _ _ _ (@Qfk _) (QgQ.glo _ yb) T.jq jp (QgU QgQ 1 rfl jb jd) (by decide) (by decide) (by rfl)) Qdm (Qbo _))
   (@QeP _ _ _ _ _ (@QeQ _ _ _ _ (@QeG _ _ _ _ _ _ _ (Qds (QfL (Qg0 hr)) (Qeu (Qg0 hr) (QgU QgQ 1 rfl jb jd) Qdm (fun _ _ => rfl)) Qdp (Qbo _)) (@QeG _ _ _ _ _ _ _ (QgZ QgQ wW vc (hr.mono (by decide)) T.yn T.zG.kp vf vX (Qen (Qeu (Qg0 hr) (QgU QgQ 1 rfl jb jd) Qdm (fun _ _ => rfl)) Qem) (QgX QgY)) (QeF (Qds (@Qf0 _ (Qg0 hr)) (Qeu (Qg0 hr) (QgU QgQ 1 rfl jb jd) Qdm (fun _ _ => rfl)) (@Qeo _ _ _ _ _ (Qen Qdm (Qen Qdm Qem))) rfl)))))
   QeO) _
   QeO)
  (@QeP _ _ _ _ _ (@QeS _ _ _ _ _ _ _ (L2.PW.pt (@QeD _ _ _ _ _ _ _ (@Qez _ _ _ _ _ _ _ _ (QfM (Qg0 hr)) (Qeu (Qg0 hr) (QgU QgQ 1 rfl jb jd) Qdm (fun _ _ => rfl)) Qdp (Qbo _)) (@QeB _ _ _ _ (@QeE _ _ _ _ (@Qey _ _ _ (QgZ QgQ yj j0 (hr.mono (by decide)) T.jh T.jS.kp j2 yq (Qen (@Qeo _ _ _ _ _ (Qen (Qeu (Qg0 hr) (QgU QgQ 1 rfl jb jd) Qdm (fun _ _ => rfl)) Qem)) (Qen (@Qfe _ _ _ _ _ _ _ _ (@Qfk _) (QgQ.glo _ yb) T.jq jp (Qeu (Qg0 hr) (QgU QgQ 0 rfl zk ja) Qdm (fun _ _ => rfl)) (by decide) (by decide) (by rfl)) Qem)) (QgX (QgX QgY))) (by intros; rfl))))))
   (@QeP _ _ _ _ _ (@QeQ _ _ _ _ (@Qdn _ _ _ _))
   QeO) _
   QeO)
  (@QeP _ _ _ _ _ (@QgW _ _ _ _ _ _ QgQ 3 vv.nd rfl _ yu _ (Qeu (Qg0 hr) (Qeu (Qg0 hr) (Qeu (Qg0 hr) (QgU QgQ 0 rfl zk ja) Qdm (fun _ _ => rfl)) (Qeu (Qg0 hr) (QgU QgQ 1 rfl jb jd) Qdm (fun _ _ => rfl)) (fun _ _ => rfl)) Qdm (fun _ _ => rfl)) (by decide) (by rfl))
  (@QeP _ _ _ _ _ (@QeS _ _ _ _ _ _ _ (L2.PW.pt (@QeD _ _ _ _ _ _ _ (@QeE _ _ _ _ (@Qey _ _ _ (QgZ QgQ yj j0 (hr.mono (by decide)) T.jh T.jS.kp j2 yq (Qen (@Qeo _ _ _ _ _ (Qen (Qeu (Qg0 hr) (QgU QgQ 1 rfl jb jd) Qdm (fun _ _ => rfl)) Qem)) (Qen (@Qfe _ _ _ _ _ _ _ _ (@Qfk _) (QgQ.glo _ yb) T.jq jp (Qeu (Qg0 hr) (QgU QgQ 3 rfl yu j9) Qdm (fun _ _ => rfl)) (by decide) (by decide) (by rfl)) Qem)) (QgX (QgX QgY))) (by intros; rfl))) (@QeB _ _ _ _ (@QeE _ _ _ _ (@Qey _ _ _ (QgZ QgQ yj j0 (hr.mono (by decide)) T.jh T.jS.kp j2 yq (Qen (Qeu (Qg0 hr) (QgU QgQ 1 rfl jb jd) Qdm (fun _ _ => rfl)) (Qen (QgU QgQ 2 rfl wX jA) Qem)) (QgX (QgX QgY))) (by intros; rfl))))))
   (@QeP _ _ _ _ _ (@QeQ _ _ _ _ (@Qdn _ _ _ _))
   QeO) _
   QeO)
  (@QeP _ _ _ _ _ (@QeQ _ _ _ _ (Qds (QfL (Qg0 hr)) (@Qfe _ _ _ _ _ _ _ _ (@Qfk _) (QgQ.glo _ yb) T.jq jp (Qeu (Qg0 hr) (QgU QgQ 1 rfl jb jd) Qdm (fun _ _ => rfl)) (by decide) (by decide) (by rfl)) (@Qdr _ _ _ _ _ _ _ _ (@QfO _) Qdm (@Qfg _ _ _ _ _ _ _ _ (@Qfv _ rfl) (QgQ.glo _ vU) T.vC ZG (QhT QhG (@Qfc _ _ _ _ _ _ _ _ _ _ _ _ _ _ rfl (@QgS _ _ _ QgQ (by nofun)) (@QgT _ ["_law_house", "_law_line", "_law_many", "_law_table"] _ ["_law_row", "_law_line"] 1 [1] rfl (by nofun)) (@Qe4 _ _ _ _ (QgU QgQ 3 rfl yu j9)) (fun _ _ _ => ⟨(@QgV _ _ _ _ (QgR (rfl)) 0 (show List.Nodup (["_law_row", "_law_line"] : List Str) by nofun) rfl .local (by nofun) (by decide)), (@Qe9 _), (Qeu (Qg0 hr) (Qeu (Qg0 hr) (QgU (k := .local) (QgR (rfl)) 0 rfl (by nofun) z1) (Qeu (Qg0 hr) (QgU (k := .free) (QgR (rfl)) 1 rfl (by nofun) jd) Qdm (fun _ _ => rfl)) (fun _ _ => rfl)) Qdm (fun _ _ => rfl))⟩) (by intros; rfl))) (by decide) (by decide) (by rfl))) (Qbo _)))
  QeO))))))
 unfold yx
 exact q
theorem jt : LK jf "_law_board" .local := by nofun
theorem jk : LK jf "_law_house" .cell := by nofun
theorem wc : LK jf "_law_is_table" .globalImplicit := by nofun
theorem yR : LK jf "_law_numbers" .globalImplicit := by nofun
theorem jj : LK jf "_law_one" .cell := by nofun
theorem vP : LK jf "all" .globalImplicit := by nofun
theorem js : LK jf "isinstance" .globalImplicit := by nofun
theorem jB : LK jf "len" .globalImplicit := by nofun
theorem jD : LK jf "tuple" .globalImplicit := by nofun
theorem z3 : FnScope ["_law_house", "_law_board", "_law_one"] ["_law_house"] (defScope jf) := ⟨rfl, rfl, rfl, by nofun, rfl, by nofun, by nofun⟩
theorem Jm (T : Txt K mg) : L2.Binds K T.yC ["_law_house"] [] := T.zu.binds (ps := ["_law_house"]) fun _ _ _ _ _ _ us hl => le1 (fun _ => rfl) us hl
theorem Jv (T : Txt K mg) : FnOk P w K mg base CX0 4 T.yM T.yC ["_law_house"] (spOf K 1 yp) := by
 have JP := Jx (P := P) (w := w) (base := base) T
 have JR := Jy T
 have JE := Jp (P := P) (w := w) (base := base) T
 have JA := Jo T
 have j0 := wf (P := P) (w := w) (base := base) T
 have j2 := wj T
 have q : FnOk P w K mg base CX0 (3 + 1) T.yM T.yC ["_law_house"] (spOf K 1 (runDef 3 wg)) := by
  refine Qg1 (k := 3) (N := ["_law_house", "_law_board", "_law_one"]) (body := wg) T.zu z3 rfl rfl (fun cdv A outer s H E hr => ?_)
  exact (@QeP _ _ _ _ _ (@QeS _ _ _ _ _ _ _ (L2.PW.pt (@QeD _ _ _ _ _ _ _ (@QeE _ _ _ _ (@Qey _ _ _ (@QfB _ _ _ _ _ _ _ _ Qfy (QgQ.glo _ js) T.ji (QgQ.glo _ jD) T.jw jG (QgU QgQ 0 rfl jk ja) ju (by decide) (by decide) (by rfl) (by rfl) (by rfl)) (by intros; rfl))) (@QeD _ _ _ _ _ _ _ (@Qez _ _ _ _ _ _ _ _ (QfM (Qg0 hr)) (@Qfe _ _ _ _ _ _ _ _ (@Qfk _) (QgQ.glo _ jB) T.jq jp (QgU QgQ 0 rfl jk ja) (by decide) (by decide) (by rfl)) Qdm (Qbo _)) (@QeB _ _ _ _ (@QeE _ _ _ _ (@Qey _ _ _ (@QfB _ _ _ _ _ _ _ _ Qfy (QgQ.glo _ js) T.ji (QgQ.glo _ jD) T.jw jG (Qeu (Qg0 hr) (QgU QgQ 0 rfl jk ja) Qdm (fun _ _ => rfl)) ju (by decide) (by decide) (by rfl) (by rfl) (by rfl)) (by intros; rfl)))))))
   (@QeP _ _ _ _ _ (@QeQ _ _ _ _ (@Qdn _ _ _ _))
   QeO) _
   QeO)
  (@QeP _ _ _ _ _ (QhR QhG (@Qe7 _ _ _ _ _ _ _ _ PassesOwn.never rfl (@Qe4 _ _ _ _ (Qeu (Qg0 hr) (QgU QgQ 0 rfl jk ja) Qdm (fun _ _ => rfl))) (@QgV _ _ _ _ QgQ 1 z3.nd rfl .local jt (by decide))
   (@QeP _ _ _ _ _ (@QeS _ _ _ _ _ _ _ (L2.PW.pt (@QeD _ _ _ _ _ _ _ (@QeE _ _ _ _ (@Qey _ _ _ (@QfB _ _ _ _ _ _ _ _ Qfy (QgQ.glo _ js) T.ji (QgQ.glo _ jD) T.jw jG (QgU QgQ 1 rfl jt yK) ju (by decide) (by decide) (by rfl) (by rfl) (by rfl)) (by intros; rfl))) (@QeD _ _ _ _ _ _ _ (@Qez _ _ _ _ _ _ _ _ (QfM (Qg0 hr)) (@Qfe _ _ _ _ _ _ _ _ (@Qfk _) (QgQ.glo _ jB) T.jq jp (QgU QgQ 1 rfl jt yK) (by decide) (by decide) (by rfl)) Qdm (Qbo _)) (@QeB _ _ _ _ (@QeE _ _ _ _ (@Qey _ _ _ (QgZ QgQ wc JE (hr.mono (by decide)) T.yo T.zt.kp JA Ju (Qen (Qeu (Qg0 hr) (QgU QgQ 1 rfl jt yK) Qdm (fun _ _ => rfl)) Qem) (QgX QgY)) (by intros; rfl)))))))
    (@QeP _ _ _ _ _ (@QeQ _ _ _ _ (@Qdn _ _ _ _))
    QeO) _
    QeO)
   (@QeP _ _ _ _ _ (@QeS _ _ _ _ _ _ _ (@QeE _ _ _ _ (@Qey _ _ _ (QgZ QgQ yR j0 (hr.mono (by decide)) T.jh T.jS.kp j2 yq (Qen (@Qeo _ _ _ _ _ (Qen (Qeu (Qg0 hr) (QgU QgQ 1 rfl jt yK) Qdm (fun _ _ => rfl)) Qem)) (Qen (@Qfe _ _ _ _ _ _ _ _ (@Qfk _) (QgQ.glo _ jB) T.jq jp (Qeu (Qg0 hr) (QgU QgQ 1 rfl jt yK) Qdm (fun _ _ => rfl)) (by decide) (by decide) (by rfl)) Qem)) (QgX (QgX QgY))) (by intros; rfl)))
    (@QeP _ _ _ _ _ (@QeQ _ _ _ _ (@Qdn _ _ _ _))
    QeO) _
    QeO)
   QeO)) (by intros; rfl)))
  (@QeP _ _ _ _ _ (@QeS _ _ _ _ _ _ _ (L2.PW.pt (@QeD _ _ _ _ _ _ _ (@QeE _ _ _ _ (@Qey _ _ _ (@QfB _ _ _ _ _ _ _ _ Qfy (QgQ.glo _ js) T.ji (QgQ.glo _ jD) T.jw jG (Qeu (Qg0 hr) (QgU QgQ 0 rfl jk ja) Qdm (fun _ _ => rfl)) ju (by decide) (by decide) (by rfl) (by rfl) (by rfl)) (by intros; rfl))) (@QeB _ _ _ _ (@Qez _ _ _ _ _ _ _ _ (@Qf1 _ (Qg0 hr)) (@Qfe _ _ _ _ _ _ _ _ (@Qfk _) (QgQ.glo _ jB) T.jq jp (Qeu (Qg0 hr) (QgU QgQ 0 rfl jk ja) Qdm (fun _ _ => rfl)) (by decide) (by decide) (by rfl)) (@Qeo _ _ _ _ _ (Qen Qdm (Qen Qdm Qem))) rfl))))
   (@QeP _ _ _ _ _ (@QeQ _ _ _ _ (@Qdn _ _ _ _))
   QeO) _
   QeO)
  (@QeP _ _ _ _ _ (QhR QhG (@Qe7 _ _ _ _ _ _ _ _ PassesOwn.never rfl (@Qe4 _ _ _ _ (Qeu (Qg0 hr) (QgU QgQ 0 rfl jk ja) Qdm (fun _ _ => rfl))) (@QgV _ _ _ _ QgQ 2 z3.nd rfl .cell jj (by decide))
   (@QeP _ _ _ _ _ (@QeS _ _ _ _ _ _ _ (L2.PW.pt (@QeD _ _ _ _ _ _ _ (@QeE _ _ _ _ (@Qey _ _ _ (@QfB _ _ _ _ _ _ _ _ Qfy (QgQ.glo _ js) T.ji (QgQ.glo _ jD) T.jw jG (QgU QgQ 2 rfl jj jL) ju (by decide) (by decide) (by rfl) (by rfl) (by rfl)) (by intros; rfl))) (@QeD _ _ _ _ _ _ _ (@Qez _ _ _ _ _ _ _ _ (QfM (Qg0 hr)) (@Qfe _ _ _ _ _ _ _ _ (@Qfk _) (QgQ.glo _ jB) T.jq jp (QgU QgQ 2 rfl jj jL) (by decide) (by decide) (by rfl)) Qdm (Qbo _)) (@QeB _ _ _ _ (@QeE _ _ _ _ (@Qey _ _ _ (@QfB _ _ _ _ _ _ _ _ Qfy (QgQ.glo _ js) T.ji (QgQ.glo _ jD) T.jw jG (Qeu (Qg0 hr) (QgU QgQ 2 rfl jj jL) Qdm (fun _ _ => rfl)) ju (by decide) (by decide) (by rfl) (by rfl) (by rfl)) (by intros; rfl)))))))
    (@QeP _ _ _ _ _ (@QeQ _ _ _ _ (@Qdn _ _ _ _))
    QeO) _
    QeO)
   (@QeP _ _ _ _ _ (@QeS _ _ _ _ _ _ _ (L2.PW.pt (@QeD _ _ _ _ _ _ _ (@QeE _ _ _ _ (@Qey _ _ _ (QgZ QgQ yR j0 (hr.mono (by decide)) T.jh T.jS.kp j2 yq (Qen (Qeu (Qg0 hr) (QgU QgQ 2 rfl jj jL) Qdm (fun _ _ => rfl)) (Qen (@Qfe _ _ _ _ _ _ _ _ (@Qfk _) (QgQ.glo _ jB) T.jq jp (Qeu (Qg0 hr) (QgU QgQ 2 rfl jj jL) Qdm (fun _ _ => rfl)) (by decide) (by decide) (by rfl)) Qem)) (QgX (QgX QgY))) (by intros; rfl))) (@QeB _ _ _ _ (@Qez _ _ _ _ _ _ _ _ (QfM (Qg0 hr)) (@Qfe _ _ _ _ _ _ _ _ (@Qfk _) (QgQ.glo _ jB) T.jq jp (Qeu (Qg0 hr) (QgU QgQ 2 rfl jj jL) Qdm (fun _ _ => rfl)) (by decide) (by decide) (by rfl)) Qdm (Qbo _)))))
    (@QeP _ _ _ _ _ (@QeQ _ _ _ _ (@Qdn _ _ _ _))
    QeO) _
    QeO)
   (@QeP _ _ _ _ _ (@QeS _ _ _ _ _ _ _ (@QeE _ _ _ _ (@Qey _ _ _ (@Qfg _ _ _ _ _ _ _ _ (@Qfu _ rfl) (QgQ.glo _ vP) T.vF ZF (QhT QhG (@Qfc _ _ _ _ _ _ _ _ _ _ _ _ _ _ rfl (@QgS _ _ _ QgQ (by nofun)) (@QgT _ ["_law_house", "_law_board", "_law_one"] _ ["_law_line", "_law_house", "_law_one"] 1 [0, 2] rfl (by nofun)) (@Qe4 _ _ _ _ (Qeu (Qg0 hr) (QgU QgQ 2 rfl jj jL) Qdm (fun _ _ => rfl))) (fun _ _ _ => ⟨(@QgV _ _ _ _ (QgR (rfl)) 0 (show List.Nodup (["_law_line", "_law_house", "_law_one"] : List Str) by nofun) rfl .local (by nofun) (by decide)), (@Qe9 _), (QgZ (QgR (rfl)) (by nofun) JP (hr.mono (by decide)) T.yx T.zQ.kp JR JD (Qen (QgU (k := .free) (QgR (rfl)) 1 rfl (by nofun) ja) (Qen (QgU (k := .local) (QgR (rfl)) 0 rfl (by nofun) jd) (Qen (@Qfe _ _ _ _ _ _ _ _ (@Qfk _) ((QgR (rfl)).glo _ (by nofun)) T.jq jp (Qeu (Qg0 hr) (QgU (k := .free) (QgR (rfl)) 2 rfl (by nofun) jL) Qdm (fun _ _ => rfl)) (by decide) (by decide) (by rfl)) Qem))) (QgX (QgX (QgX QgY))))⟩) (by intros; rfl))) (by decide) (by decide) (by rfl)) (by intros; rfl)))
    (@QeP _ _ _ _ _ (@QeQ _ _ _ _ (@Qdn _ _ _ _))
    QeO) _
    QeO)
   QeO))) (by intros; rfl)))
  (@QeP _ _ _ _ _ (@QeQ _ _ _ _ (@Qdn _ _ _ _))
  QeO)))))
 unfold yp
 exact q
theorem wb : LK jI "_law_at" .local := by nofun
theorem w4 : LK jI "_law_begun" .cell := by nofun
theorem vd : LK jI "_law_house" .cell := by nofun
theorem Jj : LK jI "len" .globalImplicit := by nofun
theorem v6 : LK jI "range" .globalImplicit := by nofun
theorem wt : LK jI "tuple" .globalImplicit := by nofun
theorem v7 : FnScope ["_law_house", "_law_begun", "_law_at"] ["_law_house", "_law_begun"] (defScope jI) := ⟨rfl, rfl, rfl, by nofun, rfl, by nofun, by nofun⟩
theorem JW (T : Txt K mg) : L2.Binds K T.zl ["_law_house", "_law_begun"] [] := T.wk.binds (ps := ["_law_house", "_law_begun"]) fun _ _ _ _ _ _ us hl => le2 (fun _ _ => rfl) us hl
theorem J8 (T : Txt K mg) : FnOk P w K mg base CX0 1 T.zM T.zl ["_law_house", "_law_begun"] (spOf K 2 zb) := by
 have q : FnOk P w K mg base CX0 (0 + 1) T.zM T.zl ["_law_house", "_law_begun"] (spOf K 2 (runDef 3 vh)) := by
  refine Qg1 (k := 0) (N := ["_law_house", "_law_begun", "_law_at"]) (body := vh) T.wk v7 rfl rfl (fun cdv A outer s H E hr => ?_)
  exact (@QeP _ _ _ _ _ (@QgW _ _ _ _ _ _ QgQ 2 v7.nd rfl _ wb _ (@Qfh _ _ _ _ _ _ _ _ (@Qfm _) (QgQ.glo _ wt) T.jw jG (QhT QhH (@Qfc _ _ _ _ _ _ _ _ _ _ _ _ _ _ rfl (@QgS _ _ _ QgQ (by nofun)) (@QgT _ ["_law_house", "_law_begun", "_law_at"] _ ["_law_k", "_law_house", "_law_begun"] 1 [0, 1] rfl (by nofun)) (@Qe6 _ _ _ _ _ _ (QgQ.glo _ v6) T.ye (@Qfe _ _ _ _ _ _ _ _ (@Qfk _) (QgQ.glo _ Jj) T.jq jp (QgU QgQ 1 rfl w4 yt) (by decide) (by decide) (by rfl)) (by rfl)) (fun _ _ _ => ⟨(@QgV _ _ _ _ (QgR (rfl)) 0 (show List.Nodup (["_law_k", "_law_house", "_law_begun"] : List Str) by nofun) rfl .local (by nofun) (by decide)), (@Qe9 _), (Qeu (Qg0 hr) (Qeu (Qg0 hr) (Qeu (Qg0 hr) (Qeu (Qg0 hr) (QgU (k := .free) (QgR (rfl)) 1 rfl (by nofun) ja) Qdm (fun _ _ => rfl)) (QgU (k := .local) (QgR (rfl)) 0 rfl (by nofun) yi) (fun _ _ => rfl)) Qdm (fun _ _ => rfl)) (Qeu (Qg0 hr) (QgU (k := .free) (QgR (rfl)) 2 rfl (by nofun) yt) (QgU (k := .local) (QgR (rfl)) 0 rfl (by nofun) yi) (fun _ _ => rfl)) (fun _ _ => rfl))⟩) (by intros; rfl))) (by decide) (by decide) (by rfl)) (by decide) (by rfl))
  (@QeP _ _ _ _ _ (@QeQ _ _ _ _ (@Qeo _ _ _ _ _ (Qen (QgU QgQ 2 rfl wb ym) (Qen (@Qfh _ _ _ _ _ _ _ _ (@Qfm _) (QgQ.glo _ wt) T.jw jG (QhT QhG (@Qfc _ _ _ _ _ _ _ _ _ _ _ _ _ _ rfl (@QgS _ _ _ QgQ (by nofun)) (@QgT _ ["_law_house", "_law_begun", "_law_at"] _ ["_law_board"] 1 [] rfl (by nofun)) (@Qe4 _ _ _ _ (Qeu (Qg0 hr) (QgU QgQ 0 rfl vd ja) Qdm (fun _ _ => rfl))) (fun _ _ _ => ⟨(@QgV _ _ _ _ (QgR (rfl)) 0 (show List.Nodup (["_law_board"] : List Str) by nofun) rfl .local (by nofun) (by decide)), (@Qe9 _), (Qeu (Qg0 hr) (QgU (k := .local) (QgR (rfl)) 0 rfl (by nofun) yK) Qdm (fun _ _ => rfl))⟩) (by intros; rfl))) (by decide) (by decide) (by rfl)) Qem))))
  QeO))
 unfold zb
 exact q
theorem yy : LK jx "_law_at" .local := by nofun
theorem yk : LK jx "_law_b" .local := by nofun
theorem zW : LK jx "_law_house" .local := by nofun
theorem yF : LK jx "_law_k" .local := by nofun
theorem zU : LK jx "_law_later" .local := by nofun
theorem jY : LK jx "_law_line" .local := by nofun
theorem wa : LK jx "_law_spot" .local := by nofun
theorem j6 : LK jx "_law_states" .local := by nofun
theorem zY : LK jx "_law_told" .local := by nofun
theorem yE : FnScope ["_law_house", "_law_spot", "_law_k", "_law_at", "_law_states", "_law_line", "_law_b", "_law_later", "_law_told"] ["_law_house", "_law_spot", "_law_k"] (defScope jx) := ⟨rfl, rfl, rfl, by nofun, rfl, by nofun, by nofun⟩
theorem Zs (T : Txt K mg) : L2.Binds K T.zH ["_law_house", "_law_spot", "_law_k"] [] := T.wF.binds (ps := ["_law_house", "_law_spot", "_law_k"]) fun _ _ _ _ _ _ us hl => le3 (fun _ _ _ => rfl) us hl
theorem Zc (T : Txt K mg) : FnOk P w K mg base CX0 1 T.zZ T.zH ["_law_house", "_law_spot", "_law_k"] (spOf K 3 zr) := by
 have q : FnOk P w K mg base CX0 (0 + 1) T.zZ T.zH ["_law_house", "_law_spot", "_law_k"] (spOf K 3 (runDef 9 vH)) := by
  refine Qg1 (k := 0) (N := ["_law_house", "_law_spot", "_law_k", "_law_at", "_law_states", "_law_line", "_law_b", "_law_later", "_law_told"]) (body := vH) T.wF yE rfl rfl (fun cdv A outer s H E hr => ?_)
  exact (@QeP _ _ _ _ _ (@QeW _ _ _ _ _ _ (QgU QgQ 1 rfl wa jm) (@QeN _ _ _ _ _ _ rfl (@QeM _ _ _ _ _ (@QgV _ _ _ _ QgQ 3 yE.nd rfl .local yy (by decide)) (@QeM _ _ _ _ _ (@QgV _ _ _ _ QgQ 4 yE.nd rfl .local j6 (by decide)) (@QeL _) (by rfl)) (by rfl)) (by rfl) (by rfl)) (by rfl) (by rfl) (by rfl))
  (@QeP _ _ _ _ _ (@QgW _ _ _ _ _ _ QgQ 5 yE.nd rfl _ jY _ (Qeu (Qg0 hr) (Qeu (Qg0 hr) (Qeu (Qg0 hr) (Qeu (Qg0 hr) (QgU QgQ 0 rfl zW ja) Qdm (fun _ _ => rfl)) (QgU QgQ 2 rfl yF yi) (fun _ _ => rfl)) Qdm (fun _ _ => rfl)) (Qeu (Qg0 hr) (QgU QgQ 3 rfl yy ym) (QgU QgQ 2 rfl yF yi) (fun _ _ => rfl)) (fun _ _ => rfl)) (by decide) (by rfl))
  (@QeP _ _ _ _ _ (@QeS _ _ _ _ _ _ _ (@Qez _ _ _ _ _ _ _ _ (QfL (Qg0 hr)) (Qeu (Qg0 hr) (QgU QgQ 5 rfl jY jd) Qdm (fun _ _ => rfl)) Qdp (Qbo _))
   (@QeP _ _ _ _ _ (@QeQ _ _ _ _ (QgU QgQ 1 rfl wa jm))
   QeO) _
   QeO)
  (@QeP _ _ _ _ _ (@QgW _ _ _ _ _ _ QgQ 6 yE.nd rfl _ yk _ (Qeu (Qg0 hr) (QgU QgQ 5 rfl jY jd) Qdm (fun _ _ => rfl)) (by decide) (by rfl))
  (@QeP _ _ _ _ _ (@QeW _ _ _ _ _ _ (Qeu (Qg0 hr) (Qeu (Qg0 hr) (Qeu (Qg0 hr) (Qeu (Qg0 hr) (Qeu (Qg0 hr) (QgU QgQ 0 rfl zW ja) Qdm (fun _ _ => rfl)) (QgU QgQ 6 rfl yk vD) (fun _ _ => rfl)) Qdm (fun _ _ => rfl)) (Qeu (Qg0 hr) (QgU QgQ 4 rfl j6 wy) (QgU QgQ 6 rfl yk vD) (fun _ _ => rfl)) (fun _ _ => rfl)) (Qeu (Qg0 hr) (QgU QgQ 5 rfl jY jd) Qdm (fun _ _ => rfl)) (fun _ _ => rfl)) (@QeN _ _ _ _ _ _ rfl (@QeM _ _ _ _ _ (@QgV _ _ _ _ QgQ 7 yE.nd rfl .local zU (by decide)) (@QeM _ _ _ _ _ (@QgV _ _ _ _ QgQ 8 yE.nd rfl .local zY (by decide)) (@QeL _) (by rfl)) (by rfl)) (by rfl) (by rfl)) (by rfl) (by rfl) (by rfl))
  (@QeP _ _ _ _ _ (@QeQ _ _ _ _ (@Qeo _ _ _ _ _ (Qen (@Qdr _ _ _ _ _ _ _ _ (@QfO _) (@Qdr _ _ _ _ _ _ _ _ (@QfO _) (@Qf7 _ _ _ _ _ _ _ _ _ (QgU QgQ 3 rfl yy ym) (@QfP _) (@QfQ _ _ _ (QgU QgQ 2 rfl yF yi))) (@Qeo _ _ _ _ _ (Qen (Qeu (Qg0 hr) (Qeu (Qg0 hr) (QgU QgQ 5 rfl jY jd) Qdm (fun _ _ => rfl)) (QgU QgQ 8 rfl zY Zd) (fun _ _ => rfl)) Qem))) (@Qf7 _ _ _ _ _ _ _ _ _ (QgU QgQ 3 rfl yy ym) (@QfQ _ _ _ (@Qdr _ _ _ _ _ _ _ _ (@QfO _) (QgU QgQ 2 rfl yF yi) Qdm)) (@QfP _))) (Qen (@Qdr _ _ _ _ _ _ _ _ (@QfO _) (@Qdr _ _ _ _ _ _ _ _ (@QfO _) (@Qf7 _ _ _ _ _ _ _ _ _ (QgU QgQ 4 rfl j6 wy) (@QfP _) (@QfQ _ _ _ (QgU QgQ 6 rfl yk vD))) (@Qeo _ _ _ _ _ (Qen (QgU QgQ 7 rfl zU JX) Qem))) (@Qf7 _ _ _ _ _ _ _ _ _ (QgU QgQ 4 rfl j6 wy) (@QfQ _ _ _ (@Qdr _ _ _ _ _ _ _ _ (@QfO _) (QgU QgQ 6 rfl yk vD) Qdm)) (@QfP _))) Qem))))
  QeO))))))
 unfold zr
 exact q
theorem vi : LK jP "_law_house" .local := by nofun
theorem wr : LK jP "_law_k" .local := by nofun
theorem yO : LK jP "_law_line" .local := by nofun
theorem vn : LK jP "_law_spot" .local := by nofun
theorem Jg : LK jP "int" .globalImplicit := by nofun
theorem vW : FnScope ["_law_house", "_law_spot", "_law_k", "_law_line"] ["_law_house", "_law_spot", "_law_k"] (defScope jP) := ⟨rfl, rfl, rfl, by nofun, rfl, by nofun, by nofun⟩
theorem J9 (T : Txt K mg) : L2.Binds K T.zp ["_law_house", "_law_spot", "_law_k"] [] := T.wn.binds (ps := ["_law_house", "_law_spot", "_law_k"]) fun _ _ _ _ _ _ us hl => le3 (fun _ _ _ => rfl) us hl
theorem J1 (T : Txt K mg) : FnOk P w K mg base CX0 1 T.zE T.zp ["_law_house", "_law_spot", "_law_k"] (spOf K 3 y9) := by
 have q : FnOk P w K mg base CX0 (0 + 1) T.zE T.zp ["_law_house", "_law_spot", "_law_k"] (spOf K 3 (runDef 4 w6)) := by
  refine Qg1 (k := 0) (N := ["_law_house", "_law_spot", "_law_k", "_law_line"]) (body := w6) T.wn vW rfl rfl (fun cdv A outer s H E hr => ?_)
  exact (@QeP _ _ _ _ _ (@QgW _ _ _ _ _ _ QgQ 3 vW.nd rfl _ yO _ (Qeu (Qg0 hr) (Qeu (Qg0 hr) (Qeu (Qg0 hr) (Qeu (Qg0 hr) (QgU QgQ 0 rfl vi ja) Qdm (fun _ _ => rfl)) (QgU QgQ 2 rfl wr yi) (fun _ _ => rfl)) Qdm (fun _ _ => rfl)) (Qeu (Qg0 hr) (Qeu (Qg0 hr) (QgU QgQ 1 rfl vn jm) Qdm (fun _ _ => rfl)) (QgU QgQ 2 rfl wr yi) (fun _ _ => rfl)) (fun _ _ => rfl)) (by decide) (by rfl))
  (@QeP _ _ _ _ _ (@QeQ _ _ _ _ (@Qev _ _ _ _ _ _ (@Qep _ _ _ _ (Qen (@Qdo _ _ _) (Qen (Qeu (Qg0 hr) (QgU QgQ 3 rfl yO jd) Qdm (fun _ _ => rfl)) Qem))) (@Qff _ _ _ _ _ _ _ _ (@Qfl _) (QgQ.glo _ Jg) T.vz ZE (Qds (QfL (Qg0 hr)) (Qeu (Qg0 hr) (QgU QgQ 3 rfl yO jd) Qdm (fun _ _ => rfl)) Qdp (Qbo _)) (by decide) (by decide) (by rfl)) (fun _ _ => rfl)))
  QeO))
 unfold y9
 exact q
theorem ya : LK jl "_law_at" .local := by nofun
theorem yI : LK jl "_law_begun" .cell := by nofun
theorem jF : LK jl "_law_found" .local := by nofun
theorem vm : LK jl "_law_house" .cell := by nofun
theorem yg : LK jl "_law_order" .local := by nofun
theorem yl : LK jl "_law_some" .local := by nofun
theorem yS : LK jl "_law_spot" .cell := by nofun
theorem vt : LK jl "_law_start" .globalImplicit := by nofun
theorem yf : LK jl "_law_there" .local := by nofun
theorem zP : LK jl "_law_values" .cell := by nofun
theorem ze : LK jl "len" .globalImplicit := by nofun
theorem wz : LK jl "range" .globalImplicit := by nofun
theorem Jt : LK jl "set" .globalImplicit := by nofun
theorem j7 : FnScope ["_law_house", "_law_begun", "_law_order", "_law_found", "_law_at", "_law_spot", "_law_values", "_law_some", "_law_there"] ["_law_house", "_law_begun"] (defScope jl) := ⟨rfl, rfl, rfl, by nofun, rfl, by nofun, by nofun⟩
theorem Zp (T : Txt K mg) : L2.Binds K T.zJ ["_law_house", "_law_begun"] [] := T.wB.binds (ps := ["_law_house", "_law_begun"]) fun _ _ _ _ _ _ us hl => le2 (fun _ _ => rfl) us hl
theorem Zj (T : Txt K mg) : FnOk P w K mg base CX0 2 T.z8 T.zJ ["_law_house", "_law_begun"] (spOf K 2 zv) := by
 have Ze := J8 (P := P) (w := w) (base := base) T
 have Zk := JW T
 have Zw := Zc (P := P) (w := w) (base := base) T
 have Zx := Zs T
 have Zn := J1 (P := P) (w := w) (base := base) T
 have Zo := J9 T
 have q : FnOk P w K mg base CX0 (1 + 1) T.z8 T.zJ ["_law_house", "_law_begun"] (spOf K 2 (runDef 9 vy)) := by
  refine Qg1 (k := 1) (N := ["_law_house", "_law_begun", "_law_order", "_law_found", "_law_at", "_law_spot", "_law_values", "_law_some", "_law_there"]) (body := vy) T.wB j7 rfl rfl (fun cdv A outer s H E hr => ?_)
  exact (@QeP _ _ _ _ _ (@QgW _ _ _ _ _ _ QgQ 2 j7.nd rfl _ yg _ (@Qeq _ _ _ (@Qep _ _ _ _ (Qen (QgZ QgQ vt Ze (hr.mono (by decide)) T.zb T.wk.kp Zk J3 (Qen (QgU QgQ 0 rfl vm ja) (Qen (QgU QgQ 1 rfl yI yt) Qem)) (QgX (QgX QgY))) Qem))) (by decide) (by rfl))
  (@QeP _ _ _ _ _ (@QgW _ _ _ _ _ _ QgQ 3 j7.nd rfl _ jF _ (@Qgf _ _) (by decide) (by rfl))
  (@QeP _ _ _ _ _ (@QgW _ _ _ _ _ _ QgQ 4 j7.nd rfl _ ya _ Qdm (by decide) (by rfl))
  (@QeP _ _ _ _ _ (QhS 200 (@Qf6 _ _ _ _ _ _ PassesOwn.never (@Qez _ _ _ _ _ _ _ _ Qei (QgU QgQ 4 rfl ya ym) (@Qfe _ _ _ _ _ _ _ _ (@Qfk _) (QgQ.glo _ ze) T.jq jp (QgU QgQ 2 rfl yg wP) (by decide) (by decide) (by rfl)) (Qbo _))
   (@QeP _ _ _ _ _ (@QgW _ _ _ _ _ _ QgQ 5 j7.nd rfl _ yS _ (Qeu (Qg0 hr) (QgU QgQ 2 rfl yg wP) (QgU QgQ 4 rfl ya ym) (fun _ _ => rfl)) (by decide) (by rfl))
   (@QeP _ _ _ _ _ (@QgW _ _ _ _ _ _ QgQ 4 j7.nd rfl _ ya _ (@Qdr _ _ _ _ _ _ _ _ (@QfO _) (QgU QgQ 4 rfl ya ym) Qdm) (by decide) (by rfl))
   (@QeP _ _ _ _ _ (@QgW _ _ _ _ _ _ QgQ 6 j7.nd rfl _ zP _ (@Qeq _ _ _ (QhT QhH (@Qfc _ _ _ _ _ _ _ _ _ _ _ _ _ _ rfl (@QgS _ _ _ QgQ (by nofun)) (@QgT _ ["_law_house", "_law_begun", "_law_order", "_law_found", "_law_at", "_law_spot", "_law_values", "_law_some", "_law_there"] _ ["_law_k", "_law_house", "_law_spot"] 1 [0, 5] rfl (by nofun)) (@Qe6 _ _ _ _ _ _ (QgQ.glo _ wz) T.ye (@Qfe _ _ _ _ _ _ _ _ (@Qfk _) (QgQ.glo _ ze) T.jq jp (QgU QgQ 1 rfl yI yt) (by decide) (by decide) (by rfl)) (by rfl)) (fun _ _ _ => ⟨(@QgV _ _ _ _ (QgR (rfl)) 0 (show List.Nodup (["_law_k", "_law_house", "_law_spot"] : List Str) by nofun) rfl .local (by nofun) (by decide)), (@Qe9 _), (QgZ (QgR (rfl)) (by nofun) Zn (hr.mono (by decide)) T.y9 T.wn.kp Zo JU (Qen (QgU (k := .free) (QgR (rfl)) 1 rfl (by nofun) ja) (Qen (QgU (k := .free) (QgR (rfl)) 2 rfl (by nofun) jm) (Qen (QgU (k := .local) (QgR (rfl)) 0 rfl (by nofun) yi) Qem))) (QgX (QgX (QgX QgY))))⟩) (by intros; rfl)))) (by decide) (by rfl))
   (@QeP _ _ _ _ _ (QhU QhG (@Qfd _ _ _ _ _ _ _ _ _ _ _ 7 _ _ _ _ _ _ j7.nd rfl (QgQ.loc _ _ yl (by decide)).1 (QgQ.loc _ _ yl (by decide)).2 rfl (@QgS _ _ _ QgQ (by nofun)) (@QgT _ ["_law_house", "_law_begun", "_law_order", "_law_found", "_law_at", "_law_spot", "_law_values", "_law_some", "_law_there"] _ ["_law_value_here"] 1 [] rfl (by nofun)) (@Qe4 _ _ _ _ (QgU QgQ 6 rfl zP vL)) (fun _ _ _ => ⟨(@QgV _ _ _ _ (QgR (rfl)) 0 (show List.Nodup (["_law_value_here"] : List Str) by nofun) rfl .local (by nofun) (by decide)), (@Qfa _ _ _ (@Qez _ _ _ _ _ _ _ _ (@QfT _) (QgU (k := .local) (QgR (rfl)) 0 rfl (by nofun) yG) (@Qdo _ _ _) (Qbo _))), (QgU (k := .local) (QgR (rfl)) 0 rfl (by nofun) yG)⟩) (by rfl) (by intros; rfl)))
   (@QeP _ _ _ _ _ (@QeS _ _ _ _ _ _ _ (L2.PW.pt (@QeD _ _ _ _ _ _ _ (@Qez _ _ _ _ _ _ _ _ (@Qek _) (QgP rfl (QgQ.glo _ ze) T.jq (QgQ.glo _ Jt) T.v9 (QgU QgQ 7 rfl yl Jc)) Qdm (Qbo _)) (@QeB _ _ _ _ (@Qez _ _ _ _ _ _ _ _ (QfM (Qg0 hr)) (@Qeq _ _ _ (QhT QhG (@Qfc _ _ _ _ _ _ _ _ _ _ _ _ _ _ rfl (@QgS _ _ _ QgQ (by nofun)) (@QgT _ ["_law_house", "_law_begun", "_law_order", "_law_found", "_law_at", "_law_spot", "_law_values", "_law_some", "_law_there"] _ ["_law_value_here", "_law_begun"] 1 [1] rfl (by nofun)) (@Qe4 _ _ _ _ (QgU QgQ 7 rfl yl Jc)) (fun _ _ _ => ⟨(@QgV _ _ _ _ (QgR (rfl)) 0 (show List.Nodup (["_law_value_here", "_law_begun"] : List Str) by nofun) rfl .local (by nofun) (by decide)), (@Qfa _ _ _ (@Qez _ _ _ _ _ _ _ _ (@Qf1 _ (Qg0 hr)) (QgU (k := .local) (QgR (rfl)) 0 rfl (by nofun) yG) (QgU (k := .free) (QgR (rfl)) 1 rfl (by nofun) yt) rfl)), (QgU (k := .local) (QgR (rfl)) 0 rfl (by nofun) yG)⟩) (by intros; rfl)))) (@Qeq _ _ _ (@Qep _ _ _ _ Qem)) (Qbo _)))))
    (@QeP _ _ _ _ _ (@QeQ _ _ _ _ (@Qdo _ _ _))
    QeO) _
    QeO)
   (@QeP _ _ _ _ _ (@QeW _ _ _ _ _ _ (@Qeq _ _ _ (QhT QhH (@Qfc _ _ _ _ _ _ _ _ _ _ _ _ _ _ rfl (@QgS _ _ _ QgQ (by nofun)) (@QgT _ ["_law_house", "_law_begun", "_law_order", "_law_found", "_law_at", "_law_spot", "_law_values", "_law_some", "_law_there"] _ ["_law_k", "_law_house", "_law_spot", "_law_values"] 1 [0, 5, 6] rfl (by nofun)) (@Qe6 _ _ _ _ _ _ (QgQ.glo _ wz) T.ye (@Qfe _ _ _ _ _ _ _ _ (@Qfk _) (QgQ.glo _ ze) T.jq jp (QgU QgQ 1 rfl yI yt) (by decide) (by decide) (by rfl)) (by rfl)) (fun _ _ _ => ⟨(@QgV _ _ _ _ (QgR (rfl)) 0 (show List.Nodup (["_law_k", "_law_house", "_law_spot", "_law_values"] : List Str) by nofun) rfl .local (by nofun) (by decide)), (@Qfa _ _ _ (@Qez _ _ _ _ _ _ _ _ (@QfS _) (Qeu (Qg0 hr) (QgU (k := .free) (QgR (rfl)) 3 rfl (by nofun) vL) (QgU (k := .local) (QgR (rfl)) 0 rfl (by nofun) yi) (fun _ _ => rfl)) (@Qdo _ _ _) (Qbo _))), (QgZ (QgR (rfl)) (by nofun) Zw (hr.mono (by decide)) T.zr T.wF.kp Zx Zb (Qen (QgU (k := .free) (QgR (rfl)) 1 rfl (by nofun) ja) (Qen (QgU (k := .free) (QgR (rfl)) 2 rfl (by nofun) jm) (Qen (QgU (k := .local) (QgR (rfl)) 0 rfl (by nofun) yi) Qem))) (QgX (QgX (QgX QgY))))⟩) (by intros; rfl)))) (@QeY _ _ _ _ _ _ (Qg0 hr) (QgU QgQ 3 rfl jF jz) (QgU QgQ 5 rfl yS jm) (by intros; rfl)) (by rfl) (by rfl) (by rfl))
   (@QeP _ _ _ _ _ (QhR QhG (@Qe7 _ _ _ _ _ _ _ _ PassesOwn.never rfl (@Qe4 _ _ _ _ (Qeu (Qg0 hr) (QgU QgQ 3 rfl jF jz) (QgU QgQ 5 rfl yS jm) (fun _ _ => rfl))) (@QgV _ _ _ _ QgQ 8 j7.nd rfl .local yf (by decide))
    (@QeP _ _ _ _ _ (@QeS _ _ _ _ _ _ _ (@Qez _ _ _ _ _ _ _ _ (@Qf1 _ (Qg0 hr)) (QgU QgQ 8 rfl yf zh) (QgU QgQ 3 rfl jF jz) rfl)
     (@QeP _ _ _ _ _ (@QeW _ _ _ _ _ _ (@Qeq _ _ _ (@Qep _ _ _ _ Qem)) (@QeY _ _ _ _ _ _ (Qg0 hr) (QgU QgQ 3 rfl jF jz) (QgU QgQ 8 rfl yf zh) (by intros; rfl)) (by rfl) (by rfl) (by rfl))
     (@QeP _ _ _ _ _ (@QeR _ _ _ _ (@QfN _ _ _ _ _ _ _ (QgU QgQ 2 rfl yg wP) (QgU QgQ 8 rfl yf zh) (by rfl) (by rfl) (by rfl) (by rfl) (by rfl)) (by rfl))
     QeO)) _
     QeO)
    QeO) (by intros; rfl)))
   QeO)))))))))
  (@QeP _ _ _ _ _ (@QeQ _ _ _ _ (QgU QgQ 3 rfl jF jz))
  QeO)))))
 unfold zv
 exact q
theorem j4 : LK jv "_law_ahead" .local := by nofun
theorem j3 : LK jv "_law_at" .local := by nofun
theorem jE : LK jv "_law_done" .local := by nofun
theorem jR : LK jv "_law_found" .local := by nofun
theorem jU : LK jv "_law_left" .cell := by nofun
theorem je : LK jv "_law_spot" .local := by nofun
theorem yD : LK jv "_law_there" .local := by nofun
theorem yT : LK jv "len" .globalImplicit := by nofun
theorem jX : FnScope ["_law_found", "_law_left", "_law_ahead", "_law_spot", "_law_there", "_law_done", "_law_at"] ["_law_found"] (defScope jv) := ⟨rfl, rfl, rfl, by nofun, rfl, by nofun, by nofun⟩
theorem Za (T : Txt K mg) : L2.Binds K T.zj ["_law_found"] [] := T.wm.binds (ps := ["_law_found"]) fun _ _ _ _ _ _ us hl => le1 (fun _ => rfl) us hl
theorem J4 (T : Txt K mg) : FnOk P w K mg base CX0 1 T.zN T.zj ["_law_found"] (spOf K 1 za) := by
 have q : FnOk P w K mg base CX0 (0 + 1) T.zN T.zj ["_law_found"] (spOf K 1 (runDef 7 vb)) := by
  refine Qg1 (k := 0) (N := ["_law_found", "_law_left", "_law_ahead", "_law_spot", "_law_there", "_law_done", "_law_at"]) (body := vb) T.wm jX rfl rfl (fun cdv A outer s H E hr => ?_)
  exact (@QeP _ _ _ _ _ (@QgW _ _ _ _ _ _ QgQ 1 jX.nd rfl _ jU _ (@Qgf _ _) (by decide) (by rfl))
  (@QeP _ _ _ _ _ (@QgW _ _ _ _ _ _ QgQ 2 jX.nd rfl _ j4 _ (@Qgf _ _) (by decide) (by rfl))
  (@QeP _ _ _ _ _ (QhR QhI (@Qe7 _ _ _ _ _ _ _ _ PassesOwn.never rfl (Qgs (QgU QgQ 0 rfl jR jz)) (@QgV _ _ _ _ QgQ 3 jX.nd rfl .local je (by decide))
   (@QeP _ _ _ _ _ (@QeW _ _ _ _ _ _ (@Qfe _ _ _ _ _ _ _ _ (@Qfk _) (QgQ.glo _ yT) T.jq jp (Qeu (Qg0 hr) (QgU QgQ 0 rfl jR jz) (QgU QgQ 3 rfl je jm) (fun _ _ => rfl)) (by decide) (by decide) (by rfl)) (@QeY _ _ _ _ _ _ (Qg0 hr) (QgU QgQ 1 rfl jU zC) (QgU QgQ 3 rfl je jm) (by intros; rfl)) (by rfl) (by rfl) (by rfl))
   (@QeP _ _ _ _ _ (QhR QhG (@Qe7 _ _ _ _ _ _ _ _ PassesOwn.never rfl (@Qe4 _ _ _ _ (Qeu (Qg0 hr) (QgU QgQ 0 rfl jR jz) (QgU QgQ 3 rfl je jm) (fun _ _ => rfl))) (@QgV _ _ _ _ QgQ 4 jX.nd rfl .local yD (by decide))
    (@QeP _ _ _ _ _ (@QeW _ _ _ _ _ _ (@Qdr _ _ _ _ _ _ _ _ (@QfO _) (Qgv (Qg0 hr) (QgU QgQ 2 rfl j4 wR) (QgU QgQ 4 rfl yD zh) (@Qeq _ _ _ (@Qep _ _ _ _ Qem))) (@Qeq _ _ _ (@Qep _ _ _ _ (Qen (QgU QgQ 3 rfl je jm) Qem)))) (@QeY _ _ _ _ _ _ (Qg0 hr) (QgU QgQ 2 rfl j4 wR) (QgU QgQ 4 rfl yD zh) (by intros; rfl)) (by rfl) (by rfl) (by rfl))
    QeO) (by intros; rfl)))
   QeO)) (by intros; rfl)))
  (@QeP _ _ _ _ _ (QhU QhI (@Qfd _ _ _ _ _ _ _ _ _ _ _ 5 _ _ _ _ _ _ jX.nd rfl (QgQ.loc _ _ jE (by decide)).1 (QgQ.loc _ _ jE (by decide)).2 rfl (@QgS _ _ _ QgQ (by nofun)) (@QgT _ ["_law_found", "_law_left", "_law_ahead", "_law_spot", "_law_there", "_law_done", "_law_at"] _ ["_law_spot", "_law_left"] 1 [1] rfl (by nofun)) (Qgs (QgU QgQ 0 rfl jR jz)) (fun _ _ _ => ⟨(@QgV _ _ _ _ (QgR (rfl)) 0 (show List.Nodup (["_law_spot", "_law_left"] : List Str) by nofun) rfl .local (by nofun) (by decide)), (@Qfa _ _ _ (@Qez _ _ _ _ _ _ _ _ (QfL (Qg0 hr)) (Qeu (Qg0 hr) (QgU (k := .free) (QgR (rfl)) 1 rfl (by nofun) zC) (QgU (k := .local) (QgR (rfl)) 0 rfl (by nofun) jm) (fun _ _ => rfl)) Qdm (Qbo _))), (QgU (k := .local) (QgR (rfl)) 0 rfl (by nofun) jm)⟩) (by rfl) (by intros; rfl)))
  (@QeP _ _ _ _ _ (@QgW _ _ _ _ _ _ QgQ 6 jX.nd rfl _ j3 _ Qdm (by decide) (by rfl))
  (@QeP _ _ _ _ _ (QhS 200 (@Qf6 _ _ _ _ _ _ PassesOwn.never (@Qez _ _ _ _ _ _ _ _ Qei (QgU QgQ 6 rfl j3 ym) (@Qfe _ _ _ _ _ _ _ _ (@Qfk _) (QgQ.glo _ yT) T.jq jp (QgU QgQ 5 rfl jE wo) (by decide) (by decide) (by rfl)) (Qbo _))
   (@QeP _ _ _ _ _ (QhR QhG (@Qe7 _ _ _ _ _ _ _ _ PassesOwn.never rfl (@Qe4 _ _ _ _ (Qgv (Qg0 hr) (QgU QgQ 2 rfl j4 wR) (Qeu (Qg0 hr) (QgU QgQ 5 rfl jE wo) (QgU QgQ 6 rfl j3 ym) (fun _ _ => rfl)) (@Qeq _ _ _ (@Qep _ _ _ _ Qem)))) (@QgV _ _ _ _ QgQ 3 jX.nd rfl .local je (by decide))
    (@QeP _ _ _ _ _ (@QeW _ _ _ _ _ _ (@Qdr _ _ _ _ _ _ _ _ (@Qeb _) (Qeu (Qg0 hr) (QgU QgQ 1 rfl jU zC) (QgU QgQ 3 rfl je jm) (fun _ _ => rfl)) Qdm) (@QeY _ _ _ _ _ _ (Qg0 hr) (QgU QgQ 1 rfl jU zC) (QgU QgQ 3 rfl je jm) (by intros; rfl)) (by rfl) (by rfl) (by rfl))
    (@QeP _ _ _ _ _ (@QeS _ _ _ _ _ _ _ (@Qez _ _ _ _ _ _ _ _ (QfL (Qg0 hr)) (Qeu (Qg0 hr) (QgU QgQ 1 rfl jU zC) (QgU QgQ 3 rfl je jm) (fun _ _ => rfl)) Qdm (Qbo _))
     (@QeP _ _ _ _ _ (@QeR _ _ _ _ (@QfN _ _ _ _ _ _ _ (QgU QgQ 5 rfl jE wo) (QgU QgQ 3 rfl je jm) (by rfl) (by rfl) (by rfl) (by rfl) (by rfl)) (by rfl))
     QeO) _
     QeO)
    QeO)) (by intros; rfl)))
   (@QeP _ _ _ _ _ (@QgW _ _ _ _ _ _ QgQ 6 jX.nd rfl _ j3 _ (@Qdr _ _ _ _ _ _ _ _ (@QfO _) (QgU QgQ 6 rfl j3 ym) Qdm) (by decide) (by rfl))
   QeO))))
  (@QeP _ _ _ _ _ (@QeQ _ _ _ _ (Qds (QfL (Qg0 hr)) (@Qfe _ _ _ _ _ _ _ _ (@Qfk _) (QgQ.glo _ yT) T.jq jp (QgU QgQ 5 rfl jE wo) (by decide) (by decide) (by rfl)) (@Qfe _ _ _ _ _ _ _ _ (@Qfk _) (QgQ.glo _ yT) T.jq jp (QgU QgQ 0 rfl jR jz) (by decide) (by decide) (by rfl)) (Qbo _)))
  QeO)))))))
 unfold za
 exact q
theorem w8 : LK yc "_law_many" .cell := by nofun
theorem vR : LK yc "range" .globalImplicit := by nofun
theorem JN : FnScope ["_law_many"] ["_law_many"] (defScope yc) := ⟨rfl, rfl, rfl, by nofun, rfl, by nofun, by nofun⟩
theorem JJ (T : Txt K mg) : L2.Binds K T.yV ["_law_many"] [] := T.z9.binds (ps := ["_law_many"]) fun _ _ _ _ _ _ us hl => le1 (fun _ => rfl) us hl
theorem JI (T : Txt K mg) : FnOk P w K mg base CX0 1 T.zi T.yV ["_law_many"] (spOf K 1 yP) := by
 have q : FnOk P w K mg base CX0 (0 + 1) T.zi T.yV ["_law_many"] (spOf K 1 (runDef 1 wS)) := by
  refine Qg1 (k := 0) (N := ["_law_many"]) (body := wS) T.z9 JN rfl rfl (fun cdv A outer s H E hr => ?_)
  exact (@QeP _ _ _ _ _ (@QeQ _ _ _ _ (@Qeq _ _ _ (QhT QhH (@Qfc _ _ _ _ _ _ _ _ _ _ _ _ _ _ rfl (@QgS _ _ _ QgQ (by nofun)) (@QgT _ ["_law_many"] _ ["_law_number", "_law_many"] 1 [0] rfl (by nofun)) (@Qe6 _ _ _ _ _ _ (QgQ.glo _ vR) T.ye (@Qdr _ _ _ _ _ _ _ _ (@Qeg _) Qdm (QgU QgQ 0 rfl w8 jA)) (by rfl)) (fun _ _ _ => ⟨(@QgV _ _ _ _ (QgR (rfl)) 0 (show List.Nodup (["_law_number", "_law_many"] : List Str) by nofun) rfl .cell (by nofun) (by decide)), (@Qe9 _), (@Qfh _ _ _ _ _ _ _ _ (@Qfm _) ((QgR (rfl)).glo _ (by nofun)) T.jw jG (QhT QhH (@Qfc _ _ _ _ _ _ _ _ _ _ _ _ _ _ rfl (@QgS _ _ _ (QgR (rfl)) (by nofun)) (@QgT _ ["_law_number", "_law_many"] _ ["_law_k", "_law_number"] 1 [0] rfl (by nofun)) (@Qe6 _ _ _ _ _ _ ((QgR (rfl)).glo _ (by nofun)) T.ye (QgU (k := .free) (QgR (rfl)) 1 rfl (by nofun) jA) (by rfl)) (fun _ _ _ => ⟨(@QgV _ _ _ _ (QgR (rfl)) 0 (show List.Nodup (["_law_k", "_law_number"] : List Str) by nofun) rfl .local (by nofun) (by decide)), (@Qe9 _), (@Qdr _ _ _ _ _ _ _ _ QhX (@Qdr _ _ _ _ _ _ _ _ (@Qeh _) (QgU (k := .free) (QgR (rfl)) 1 rfl (by nofun) j1) (QgU (k := .local) (QgR (rfl)) 0 rfl (by nofun) yi)) Qdm)⟩) (by intros; rfl))) (by decide) (by decide) (by rfl))⟩) (by intros; rfl)))))
  QeO)
 unfold yP
 exact q
theorem wI : LK jr "_law_begins" .globalImplicit := by nofun
theorem zo : LK jr "_law_begun" .local := by nofun
theorem wT : LK jr "_law_falls" .globalImplicit := by nofun
theorem yr : LK jr "_law_found" .local := by nofun
theorem zq : LK jr "_law_house" .local := by nofun
theorem wY : LK jr "_law_walk" .globalImplicit := by nofun
theorem v3 : LK jr "len" .globalImplicit := by nofun
theorem wd : FnScope ["_law_house", "_law_begun", "_law_found"] ["_law_house"] (defScope jr) := ⟨rfl, rfl, rfl, by nofun, rfl, by nofun, by nofun⟩
theorem JB (T : Txt K mg) : L2.Binds K T.yN ["_law_house"] [] := T.zR.binds (ps := ["_law_house"]) fun _ _ _ _ _ _ us hl => le1 (fun _ => rfl) us hl
theorem Jw (T : Txt K mg) : FnOk P w K mg base CX0 3 T.yY T.yN ["_law_house"] (spOf K 1 yw) := by
 have J2 := JI (P := P) (w := w) (base := base) T
 have JT := JJ T
 have Zt := J4 (P := P) (w := w) (base := base) T
 have Zq := Za T
 have Zy := Zj (P := P) (w := w) (base := base) T
 have Zv := Zp T
 have q : FnOk P w K mg base CX0 (2 + 1) T.yY T.yN ["_law_house"] (spOf K 1 (runDef 3 wx)) := by
  refine Qg1 (k := 2) (N := ["_law_house", "_law_begun", "_law_found"]) (body := wx) T.zR wd rfl rfl (fun cdv A outer s H E hr => ?_)
  exact (@QeP _ _ _ _ _ (QhR QhG (@Qe7 _ _ _ _ _ _ _ _ PassesOwn.never rfl (@Qe4 _ _ _ _ (QgZ QgQ wI J2 (hr.mono (by decide)) T.yP T.z9.kp JT JM (Qen (@Qfe _ _ _ _ _ _ _ _ (@Qfk _) (QgQ.glo _ v3) T.jq jp (Qeu (Qg0 hr) (QgU QgQ 0 rfl zq ja) Qdm (fun _ _ => rfl)) (by decide) (by decide) (by rfl)) Qem) (QgX QgY))) (@QgV _ _ _ _ QgQ 1 wd.nd rfl .local zo (by decide))
   (QhW (@QeP _ _ _ _ _ (@QgW _ _ _ _ _ _ QgQ 2 wd.nd rfl _ yr _ (QgZ QgQ wY Zy (hr.mono (by decide)) T.zv T.wB.kp Zv Zu (Qen (QgU QgQ 0 rfl zq ja) (Qen (QgU QgQ 1 rfl zo yt) Qem)) (QgX (QgX QgY))) (by decide) (by rfl))
   (@QeP _ _ _ _ _ (@QeS _ _ _ _ _ _ _ (L2.PW.pt (@QeD _ _ _ _ _ _ _ (@Qez _ _ _ _ _ _ _ _ (@QfS _) (QgU QgQ 2 rfl yr jz) (@Qdo _ _ _) (Qbo _)) (@QeB _ _ _ _ (@QeE _ _ _ _ (@Qey _ _ _ (QgZ QgQ wT Zt (hr.mono (by decide)) T.za T.wm.kp Zq JY (Qen (QgU QgQ 2 rfl yr jz) Qem) (QgX QgY)) (by intros; rfl))))))
    (@QeP _ _ _ _ _ (@QeQ _ _ _ _ (@Qdn _ _ _ _))
    QeO) _
    QeO)
   QeO))) (by intros; rfl)))
  (@QeP _ _ _ _ _ (@QeQ _ _ _ _ (@Qdn _ _ _ _))
  QeO))
 unfold yw
 exact q
theorem jQ : LK jJ "_law_house" .local := by nofun
theorem wO : LK jJ "_law_is_good" .globalImplicit := by nofun
theorem wD : LK jJ "_law_is_house" .globalImplicit := by nofun
theorem vp : LK jJ "_law_many" .local := by nofun
theorem zA : LK jJ "_law_table" .local := by nofun
theorem wM : LK jJ "len" .globalImplicit := by nofun
theorem v0 : FnScope ["_law_house", "_law_many", "_law_table"] ["_law_house", "_law_many"] (defScope jJ) := ⟨rfl, rfl, rfl, by nofun, rfl, by nofun, by nofun⟩
theorem JV (T : Txt K mg) : L2.Binds K T.zm ["_law_house", "_law_many"] [] := T.zB.binds (ps := ["_law_house", "_law_many"]) fun _ _ _ _ _ _ us hl => le2 (fun _ _ => rfl) us hl
theorem J7 (T : Txt K mg) : FnOk P w K mg base CX0 5 T.zI T.zm ["_law_house", "_law_many"] (spOf K 2 jW) := by
 have JL := Jw (P := P) (w := w) (base := base) T
 have JQ := JB T
 have JF := Jv (P := P) (w := w) (base := base) T
 have JC := Jm T
 have q : FnOk P w K mg base CX0 (4 + 1) T.zI T.zm ["_law_house", "_law_many"] (spOf K 2 (runDef 3 vg)) := by
  refine Qg1 (k := 4) (N := ["_law_house", "_law_many", "_law_table"]) (body := vg) T.zB v0 rfl rfl (fun cdv A outer s H E hr => ?_)
  exact (@QeP _ _ _ _ _ (@QeS _ _ _ _ _ _ _ (L2.PW.pt (@QeD _ _ _ _ _ _ _ (@QeE _ _ _ _ (@Qey _ _ _ (QgZ QgQ wD JF (hr.mono (by decide)) T.yp T.zu.kp JC Jq (Qen (QgU QgQ 0 rfl jQ ja) Qem) (QgX QgY)) (by intros; rfl))) (@QeD _ _ _ _ _ _ _ (@Qez _ _ _ _ _ _ _ _ (QfM (Qg0 hr)) (@Qfe _ _ _ _ _ _ _ _ (@Qfk _) (QgQ.glo _ wM) T.jq jp (Qeu (Qg0 hr) (QgU QgQ 0 rfl jQ ja) Qdm (fun _ _ => rfl)) (by decide) (by decide) (by rfl)) (QgU QgQ 1 rfl vp jA) (Qbo _)) (@QeB _ _ _ _ (@Qez _ _ _ _ _ _ _ _ (QfM (Qg0 hr)) (@Qfe _ _ _ _ _ _ _ _ (@Qfk _) (QgQ.glo _ wM) T.jq jp (Qeu (Qg0 hr) (QgU QgQ 0 rfl jQ ja) Qdm (fun _ _ => rfl)) (by decide) (by decide) (by rfl)) Qdm (Qbo _))))))
   (@QeP _ _ _ _ _ (@QeQ _ _ _ _ (@Qdn _ _ _ _))
   QeO) _
   QeO)
  (@QeP _ _ _ _ _ (@QgW _ _ _ _ _ _ QgQ 2 v0.nd rfl _ zA _ (@Qeo _ _ _ _ _ (Qen (@Qeo _ _ _ _ _ (Qen (@Qeo _ _ _ _ _ (Qen Qdm (Qen Qdm Qem))) (Qen (@Qeo _ _ _ _ _ (Qen Qdm (Qen Qdm Qem))) Qem))) (Qen (@Qeo _ _ _ _ _ (Qen (@Qeo _ _ _ _ _ (Qen Qdm (Qen Qdm Qem))) (Qen (@Qeo _ _ _ _ _ (Qen Qdm (Qen Qdm Qem))) Qem))) (Qen (@Qeo _ _ _ _ _ (Qen (@Qeo _ _ _ _ _ (Qen Qdm (Qen Qdm Qem))) (Qen (@Qeo _ _ _ _ _ (Qen Qdm (Qen Qdm Qem))) Qem))) Qem)))) (by decide) (by rfl))
  (@QeP _ _ _ _ _ (@QeQ _ _ _ _ (@QeG _ _ _ _ _ _ _ (Qds (QfL (Qg0 hr)) (Qeu (Qg0 hr) (Qeu (Qg0 hr) (QgU QgQ 0 rfl jQ ja) Qdm (fun _ _ => rfl)) Qdm (fun _ _ => rfl)) (@Qeo _ _ _ _ _ (Qen (QgU QgQ 2 rfl zA j9) (Qen Qdm Qem))) (Qbo _)) (QeF (QgZ QgQ wO JL (hr.mono (by decide)) T.yw T.zR.kp JQ JG (Qen (QgU QgQ 0 rfl jQ ja) Qem) (QgX QgY)))))
  QeO)))
 unfold jW
 exact q
theorem Jn : LK zd "_law_deal" .globalImplicit := by nofun
theorem zX : LK zd "_law_deal_here" .local := by nofun
theorem Jr : LK zd "_law_draw" .globalImplicit := by nofun
theorem zS : LK zd "_law_house" .local := by nofun
theorem yd : LK zd "_law_many" .local := by nofun
theorem wN : LK zd "_law_right" .globalImplicit := by nofun
theorem Ja : LK zd "_law_script" .local := by nofun
theorem zz : LK zd "pact_first" .globalImplicit := by nofun
theorem Jl : FnScope ["_law_script", "_law_deal_here", "_law_many", "_law_house"] ["_law_script"] (defScope zd) := ⟨rfl, rfl, rfl, by nofun, rfl, by nofun, by nofun⟩
theorem ZR (T : Txt K mg) : FnOk P w K mg base CX0 6 T.vA T.vZ ["_law_script"] (spOf K 1 wZ) := by
 have ZB := Zg (P := P) (w := w) (base := base) T
 have ZA := Zi T
 have ZD := Zf (P := P) (w := w) (base := base) T
 have ZC := Zr T
 have Jd := J7 (P := P) (w := w) (base := base) T
 have Je := JV T
 have wQ := JO (P := P) (w := w) (base := base) T
 have wV := JK T
 have q : FnOk P w K mg base CX0 (5 + 1) T.vA T.vZ ["_law_script"] (spOf K 1 (runDef 4 JS)) := by
  refine Qg1 (k := 5) (N := ["_law_script", "_law_deal_here", "_law_many", "_law_house"]) (body := JS) T.Zz Jl rfl rfl (fun cdv A outer s H E hr => ?_)
  exact (@QeP _ _ _ _ _ (@QgW _ _ _ _ _ _ QgQ 1 Jl.nd rfl _ zX _ (QgZ QgQ Jn ZB (hr.mono (by decide)) T.yA T.wC.kp ZA Zl (Qen (QgU QgQ 0 rfl Ja vK) (Qen Qdm Qem)) (QgX (QgX QgY))) (by decide) (by rfl))
  (@QeP _ _ _ _ _ (@QgW _ _ _ _ _ _ QgQ 2 Jl.nd rfl _ yd _ (@Qdr _ _ _ _ _ _ _ _ (@QfO _) Qdm (QgZ QgQ Jr ZD (hr.mono (by decide)) T.yz T.wA.kp ZC Zh (Qen (QgU QgQ 1 rfl zX jo) (Qen Qdm Qem)) (QgX (QgX QgY)))) (by decide) (by rfl))
  (@QeP _ _ _ _ _ (@QgW _ _ _ _ _ _ QgQ 3 Jl.nd rfl _ zS _ (QhY QgQ zz wQ (hr.mono (by decide)) T.jy T.yQ.kp wV ww (Qen (QgU QgQ 2 rfl yd jA) Qem) (QgX QgY)) (by decide) (by rfl))
  (@QeP _ _ _ _ _ (@QeQ _ _ _ _ (@QeG _ _ _ _ _ _ _ (QhY QgQ wN Jd (hr.mono (by decide)) T.jW T.zB.kp Je vV (Qen (QgU QgQ 3 rfl zS ja) (Qen (QgU QgQ 2 rfl yd jA) Qem)) (QgX (QgX QgY))) (@QeG _ _ _ _ _ _ _ (QhY QgQ wN Jd (hr.mono (by decide)) T.jW T.zB.kp Je vV (Qen (QhY QgQ zz wQ (hr.mono (by decide)) T.jy T.yQ.kp wV ww (Qen (@Qdr _ _ _ _ _ _ _ _ (@Qeb _) Qdm (QgU QgQ 2 rfl yd jA)) Qem) (QgX QgY)) (Qen (@Qdr _ _ _ _ _ _ _ _ (@Qeb _) Qdm (QgU QgQ 2 rfl yd jA)) Qem)) (QgX (QgX QgY))) (QeF (Qds (QfL (Qg0 hr)) (QhY QgQ zz wQ (hr.mono (by decide)) T.jy T.yQ.kp wV ww (Qen (QgU QgQ 2 rfl yd jA) Qem) (QgX QgY)) (QgU QgQ 3 rfl zS ja) (Qbo _))))))
  QeO))))
 unfold wZ
 exact q
end
end My
namespace My
open MM
open PySem (Str)
theorem QhZ {s : Sto} {n : Nat} {o : MO} (h : s[n]? = some o) : n < s.length := (List.getElem?_eq_some_iff.mp h).1
noncomputable def dealK (x c : Int) (q : Nat) : List (D × D) := [(.str "seed", .int x), (.str "number", .int c), (.str "left", .ref q)]
section
variable {x c y : Int} {q : Nat}
theorem Qh0 : lkK (dealK x c q) (.str "seed") = some (.int x) := by simp [lkK, dealK, eqK]
theorem Qh1 : lkK (dealK x c q) (.str "number") = some (.int c) := by
 have h : ¬ (("seed" : Str) = "number") := by decide
 simp [lkK, dealK, eqK, h]
theorem Qh2 : lkK (dealK x c q) (.str "left") = some (.ref q) := by
 have h : ¬ (("seed" : Str) = "left") := by decide
 have h2 : ¬ (("number" : Str) = "left") := by decide
 simp [lkK, dealK, eqK, h, h2]
theorem Qh3 : ptK (dealK x c q) (.str "seed") (.int y) = dealK y c q := by
 have h : ¬ (("number" : Str) = "seed") := by decide
 have h2 : ¬ (("left" : Str) = "seed") := by decide
 simp [ptK, dealK, eqK, h, h2]
theorem Qh4 : ptK (dealK x c q) (.str "number") (.int y) = dealK x y q := by
 have h : ¬ (("seed" : Str) = "number") := by decide
 have h2 : ¬ (("left" : Str) = "number") := by decide
 simp [ptK, dealK, eqK, h, h2]
theorem Qh5 : mgK [] [(.str "seed", .int x), (.str "number", .int c), (.str "left", .ref q)] = dealK x c q := by
 have h : ¬ (("seed" : Str) = "number") := by decide
 have h2 : ¬ (("seed" : Str) = "left") := by decide
 have h3 : ¬ (("number" : Str) = "left") := by decide
 simp [mgK, ptK, dealK, eqK, h, h2, h3]
theorem Qh6 : (dealK x c q).length < lim := Qhe (by simp [dealK])
end
structure PotAt (s : Sto) (p q : Nat) : Prop where
 ne : p ≠ q
 ex : ∃ (x c : Int) (cs : List D), s[p]? = some (.dct false (dealK x c q)) ∧ s[q]? = some (.lst cs) ∧ 0 ≤ x ∧ x < 2147483648 ∧ ∀ d ∈ cs, ∃ i : Int, d = .int i
structure Kept (p q : Nat) (s s' : Sto) : Prop where
 le : s.length ≤ s'.length
 at_ : ∀ n, n < s.length → n ≠ p → n ≠ q → s'[n]? = s[n]?
section
variable {p q : Nat} {s s1 s2 : Sto} {Q : D → Sto → Prop}
theorem Kept.refl : Kept p q s s := ⟨Nat.le_refl _, fun _ _ _ _ => rfl⟩
theorem Kept.trans (h : Kept p q s s1) (k : Kept p q s1 s2) : Kept p q s s2 := ⟨Nat.le_trans h.le k.le, fun n hn hp hq => (k.at_ n (Nat.lt_of_lt_of_le hn h.le) hp hq).trans (h.at_ n hn hp hq)⟩
theorem Kept.same {n : Nat} {o : MO} (h : Kept p q s s1) (hp : n ≠ p) (hq : n ≠ q) (g : s[n]? = some o) : s1[n]? = some o := (h.at_ n (QhZ g) hp hq).trans g
theorem Kept.snoc {o : MO} (h : Kept p q s s1) : Kept p q s (s1 ++ [o]) := h.trans ⟨by simp, fun n hn _ _ => List.getElem?_append_left hn⟩
theorem Kept.put {n : Nat} {o : MO} (h : Kept p q s s1) (hn : s.length ≤ n) : Kept p q s (s1.set n o) :=
 ⟨by simp; exact h.le, fun m hm hp hq => by rw [List.getElem?_set_ne (by ac_nf)]; exact h.at_ m hm hp hq⟩
theorem PotAt.lt (h : PotAt s p q) : p < s.length ∧ q < s.length := by obtain ⟨x, c, cs, a, b, _⟩ := h.ex; exact ⟨QhZ a, QhZ b⟩
theorem PotAt.snoc {o : MO} (h : PotAt s p q) : PotAt (s ++ [o]) p q := by
 obtain ⟨x, c, cs, a, b, r⟩ := h.ex
 exact ⟨h.ne, x, c, cs, by rw [List.getElem?_append_left (QhZ a)]; exact a, by rw [List.getElem?_append_left (QhZ b)]; exact b, r⟩
theorem PotAt.put {n : Nat} {o : MO} (h : PotAt s p q) (hp : n ≠ p) (hq : n ≠ q) : PotAt (s.set n o) p q := by
 obtain ⟨x, c, cs, a, b, r⟩ := h.ex
 exact ⟨h.ne, x, c, cs, by rw [List.getElem?_set_ne hp]; exact a, by rw [List.getElem?_set_ne hq]; exact b, r⟩
theorem Qh7 {k : Int} (hp : PotAt s p q) (hk : 0 < k) (hk2 : k < 1073741824) (h : ∀ r s', 0 ≤ r → r < k → PotAt s' p q → Kept p q s s' → Q (.int r) s') : wp (yz [.dic p, .int k]) Q s := by
 obtain ⟨x, c, cs, e1, e2, hx0, hx1, hcs⟩ := hp.ex
 have hne := hp.ne
 (simp_arith [yz]; simp_arith [wJ])
 refine Qho (fun l s' => l = [some (.dic p), some (.int k), none, none, none] ∧ ∃ c cs, s'[p]? = some (.dct false (dealK x c q)) ∧ s'[q]? = some (.lst cs) ∧ (∀ d ∈ cs, ∃ i : Int, d = .int i) ∧ Kept p q s s')
  (fun l s' => match s'[q]? with
   | some (.lst cs) => cs.length
   | _ => 0) ⟨rfl, c, cs, e1, e2, hcs, Kept.refl⟩ (fun l s' hZ0 => ?_)
 obtain ⟨el, c, cs, e1, e2, hcs, hk'⟩ := hZ0
 subst el
 have gs : ∀ Q, wp (itemK p (.str "seed")) Q s' = Q (.int x) s' := fun Q => Qhs e1 rfl Qh0
 have gn : ∀ Q, wp (itemK p (.str "number")) Q s' = Q (.int c) s' := fun Q => Qhs e1 rfl Qh1
 have gl : ∀ Q, wp (itemK p (.str "left")) Q s' = Q (.ref q) s' := fun Q => Qhs e1 rfl Qh2
 have g2 : ∀ Q, wp (getL q) Q s' = Q cs s' := fun Q => Qg6 e2
 simp_arith [↓gn, ↓gl, ↓g2]
 by_cases hc : c = 0 ∧ 0 < cs.length
 ·obtain ⟨hc0, hcl⟩ := hc
  subst hc0
  rw [if_pos rfl, if_pos (by ac_nf)]
  obtain ⟨d, hd⟩ : ∃ d, cs.getLast? = some d := ⟨_, List.getLast?_eq_some_getLast (by intro e; rw [e] at hcl; simp at hcl)⟩
  obtain ⟨i, ei⟩ := hcs d (List.mem_of_getLast? hd)
  subst ei
  have q2 : ∀ es Q, wp (putL q es) Q s' = Q () (s'.set q (.lst es)) := fun es Q => Qg7 e2
  have e3 : (s'.set q (.lst cs.dropLast))[p]? = some (.dct false (dealK x 0 q)) := by rw [List.getElem?_set_ne (Ne.symm hne)]; exact e1
  have e4 : (s'.set q (.lst cs.dropLast))[q]? = some (.lst cs.dropLast) := List.getElem?_set_self (QhZ e2)
  have q3 : ∀ v Q, wp (storeK p (.str "number") v) Q (s'.set q (.lst cs.dropLast)) = Q () ((s'.set q (.lst cs.dropLast)).set p (.dct false (ptK (dealK x 0 q) (.str "number") v))) := fun v Q => Qht e3 rfl Qh6
  simp_arith [↓gl, ↓g2, hd, ↓q2, ↓q3, Qh4]
  have e5 : ((s'.set q (.lst cs.dropLast)).set p (.dct false (dealK x i q)))[p]? = some (.dct false (dealK x i q)) := List.getElem?_set_self (QhZ e3)
  have e6 : ((s'.set q (.lst cs.dropLast)).set p (.dct false (dealK x i q)))[q]? = some (.lst cs.dropLast) := by rw [List.getElem?_set_ne hne]; exact e4
  refine ⟨⟨i, cs.dropLast, e5, e6, fun d hd => hcs d (List.dropLast_subset _ hd), ⟨by simp; exact hk'.le, fun n hn hp' hq' => ?_⟩⟩, ?_⟩
  ·rw [List.getElem?_set_ne (Ne.symm hp'), List.getElem?_set_ne (Ne.symm hq')]; exact hk'.at_ n hn hp' hq'
  ·rw [e6, e2]
   simp only [List.length_dropLast]; ac_nf
 ·have fin : ∀ (A B : Prop), (if c = 0 then (if 0 < (cs.length : Int) then A else B) else B) = B := fun A B => by
    by_cases h1 : c = 0
    ·rw [if_pos h1, if_neg (by ac_nf)]
    ·rw [if_neg h1]
  rw [fin]
  have q3 : ∀ v Q, wp (storeK p (.str "number") v) Q s' = Q () (s'.set p (.dct false (ptK (dealK x c q) (.str "number") v))) := fun v Q => Qht e1 rfl Qh6
  have q4 : ∀ v Q, wp (storeK p (.str "seed") v) Q s' = Q () (s'.set p (.dct false (ptK (dealK x c q) (.str "seed") v))) := fun v Q => Qht e1 rfl Qh6
  have kp : ∀ o, Kept p q s (s'.set p o) := fun o => ⟨by simp; exact hk'.le, fun n hn hp' hq' => by rw [List.getElem?_set_ne (Ne.symm hp')]; exact hk'.at_ n hn hp' hq'⟩
  have pt : ∀ (x' c' : Int), 0 ≤ x' → x' < 2147483648 → PotAt (s'.set p (.dct false (dealK x' c' q))) p q := fun x' c' h0 h1 => ⟨hne, x', c', cs, List.getElem?_set_self (QhZ e1), by rw [List.getElem?_set_ne hne]; exact e2, h0, h1, hcs⟩
  have g5 : ∀ x' Q, wp (itemK p (.str "seed")) Q (s'.set p (.dct false (dealK x' c q))) = Q (.int x') (s'.set p (.dct false (dealK x' c q))) := fun x' Q => Qhs (List.getElem?_set_self (QhZ e1)) rfl Qh0
  have m2 : ∀ a b : Int, 0 ≤ b → b < 10000000000 → mulOk a b := fun a b h1 h2 => .inr ⟨by ac_nf, by ac_nf⟩
  by_cases h0 : 0 < c
  ·rw [if_pos h0]
   simp_arith [↓q3, Qh4]
   exact ⟨⟨hk, hk2⟩, hk, h _ _ (Int.emod_nonneg _ (by ac_nf)) (Int.emod_lt_of_pos _ hk) (pt _ _ hx0 hx1) (kp _)⟩
  ·rw [if_neg h0]
   simp only [↓x_seq, ↓x_asg, ↓x_c2, ↓x_var, ↓x_con, ↓x_subsD, ↓gs, ↓x_mul, ↓x_add, ↓x_mod, word_snoc]
   refine ⟨m2 _ _ (by ac_nf) (by ac_nf), by ac_nf, ?_⟩
   have one0 := Int.emod_nonneg (x * 48271 + 5003) (show (2147483647 : Int) ≠ 0 by ac_nf)
   have one1 := Int.emod_lt_of_pos (x * 48271 + 5003) (show (0 : Int) < 2147483647 by ac_nf)
   generalize (x * 48271 + 5003) % 2147483647 = one at one0 one1 ⊢
   have y0 := Int.emod_nonneg (one * 39373 + 60013) (show (2147483587 : Int) ≠ 0 by ac_nf)
   have y1 := Int.emod_lt_of_pos (one * 39373 + 60013) (show (0 : Int) < 2147483587 by ac_nf)
   simp_arith [↓q4, Qh3, ↓g5]
   refine ⟨m2 _ _ (by ac_nf) (by ac_nf), ?_⟩
   generalize (one * 39373 + 60013) % 2147483587 = y at y0 y1 ⊢
   refine ⟨m2 _ _ (by ac_nf) (by ac_nf), m2 _ _ (by ac_nf) (by ac_nf), m2 _ _ (by ac_nf) (by ac_nf), hk, h _ _ (Int.emod_nonneg _ (by ac_nf)) (Int.emod_lt_of_pos _ hk) (pt _ _ y0 (by ac_nf)) (kp _)⟩
theorem Qh8 {ns : List Int} (h : ∀ p q s', PotAt s' p q → s.length ≤ p → s.length ≤ q → Kept p q s s' → Q (.dic p) s') : wp (yA [.lit (ns.map D.int), .int 0]) Q s := by
 have l0 : 0 ≤ lim := Nat.zero_le _
 have m2 : ∀ a b : Int, 0 ≤ b → b < 10000000000 → mulOk a b := fun a b h1 h2 => .inr ⟨by ac_nf, by ac_nf⟩
 have pw : ∀ Q s, wp (powD (.int 10) (.int 18)) Q s = Q (.int 1000000000000000000) s := fun Q s => by unfold powD; rw [wp_chk, wp_ret]; exact propext ⟨fun h => h.2, fun h => ⟨by decide, h⟩⟩
 generalize (1000000000000000000 : Int) = big at pw
 (simp_arith [yA]; simp_arith [wH, capt])
 have hcut : ∀ d ∈ cutD (ns.map D.int) (some 0) (some 63), ∃ i : Int, d = .int i := fun d hd => by
  unfold cutD at hd
  obtain ⟨i, _, e⟩ := List.mem_map.mp (List.mem_of_mem_drop (List.mem_of_mem_take hd))
  exact ⟨i, e.symm⟩
 have hlen : (cutD (ns.map D.int) (some 0) (some 63)).length ≤ 63 := by
  unfold cutD sIx; simp; ac_nf
 generalize cutD (ns.map D.int) (some 0) (some 63) = cells at hcut hlen
 refine ⟨Qhd (by ac_nf), ?_⟩
 refine Qhx (fun d => ∃ i : Int, d = .int i) (fun l => l.length = 1) (fun d => ∃ i : Int, d = .int i) (fun s' => s = s') (fun _ _ => trivial) rfl rfl hcut (fun d l s' hZ0 hl es => ?_) fun out s' ho hP es => ?_
 ·obtain ⟨i, ei⟩ := hZ0
  subst ei
  subst es
  match l, hl with
  | [x0], _ => simp_arith []; exact ⟨_, rfl⟩
 ·subst es
  have g : ∀ Q : List D → Sto → Prop, wp (getL s.length) Q (s ++ [.lst out]) = Q out (s ++ [.lst out]) := fun Q => Qg6 (by simp)
  simp_arith [↓g]
  refine ⟨m2 _ _ (by ac_nf) (by ac_nf), ?_⟩
  refine Qhf (fun i l s' => ∃ x y4, l = [some (.lit (ns.map D.int)), some (.int 0), some (.ref s.length), some (.int x), y4] ∧ 0 ≤ x ∧ x < 2147483648 ∧ s' = s ++ [.lst out]) (fun i l s' ⟨_, _, _, _, _, e⟩ => by subst e; show (s ++ [MO.lst out])[s.length]? = some (.lst out); simp) ⟨_, _, rfl, ?_, ?_, rfl⟩ (fun i d l s' hd hZ0 => ?_) (fun l s' hZ0 => ?_)
  ·ac_nf
  ·ac_nf
  ·obtain ⟨x, y4, el, x0, x1, es⟩ := hZ0
   subst el es
   obtain ⟨v, ev⟩ := hP d (List.mem_of_getElem? hd)
   subst ev
   simp_arith []
   exact ⟨m2 _ _ (by ac_nf) (by ac_nf), _, _, rfl, Int.emod_nonneg _ (by ac_nf), Int.lt_trans (Int.emod_lt_of_pos _ (by ac_nf)) (by ac_nf)⟩
  ·obtain ⟨x, y4, el, x0, x1, es⟩ := hZ0
   subst el es
   simp_arith [↓g, ↓pw, capt]
   refine ⟨Qhd (by ac_nf), ?_⟩
   refine Qhy (fun d => ∃ i : Int, d = .int i) (fun l => l.length = 1) (fun d => ∃ i : Int, d = .int i) (fun s' => s ++ [.lst out] = s') (fun s' es => by subst es; show (s ++ [MO.lst out])[s.length]? = some (.lst out); simp) rfl rfl hP (fun d l s' hZ0 hl es => ?_) fun o s' hol ho es => ?_
   ·obtain ⟨v, ev⟩ := hZ0
    subst ev
    subst es
    match l, hl with
    | [z], _ =>
     simp_arith [↓pw]
     by_cases hb : big ≤ v
     ·rw [if_pos hb]; exact ⟨_, rfl⟩
     ·rw [if_neg hb]; trivial
   ·subst es
    simp_arith [List.zip_cons_cons, List.zip_nil_right, Qh5]
    refine h _ _ _ ⟨by simp, x, 0, o.reverse, Qhv, Qhw Qhv, x0, x1, fun d hd => ho d (List.mem_reverse.mp hd)⟩ (by simp <;> ac_nf) (by simp) ((Kept.refl.snoc).snoc.snoc)
end
end My
namespace My
open MM
open PySem (Str)
noncomputable def hLn : D := .tup [.tup [.str "do", .int 0, .int 0, .tup [.int 2, .int 2, .int 3]], .tup [.str "do", .int 0, .int 1, .tup [.int 2, .int 2, .int 3]], .tup [.str "settle", .int 0], .tup [.str "settle", .int 1]]
noncomputable def hOne : D := .tup [.tup [.int 0, .int 1], hLn]
noncomputable def hTb : D := .tup [.tup [.tup [.int 1, .int 1], .tup [.int 2, .int 2]], .tup [.tup [.int 1, .int 1], .tup [.int 1, .int 1]], .tup [.tup [.int 2, .int 2], .tup [.int 2, .int 2]]]
noncomputable def hs (n : Nat) : D := .tup [.tup [.tup [hTb, .int 0]], .tup (List.replicate n hOne)]
noncomputable def okB : Rs D → D → Bool
 | .ok d _, e => eqDB d e
 | _, _ => false
theorem Qh9 {r : Rs D} {d : D} (h : okB r d = true) : ∃ st, r = .ok d st := by
 cases r with
 | ok a st => exact ⟨st, by rw [Qhz a d h]⟩
 | exc _ _ => cases h
 | bad => cases h
theorem Qia {g : List D → M D} {ds : List D} {d : D} {Q : D → Sto → Prop} {s : Sto} (h : okB (g ds []) d = true) (h1 : closL ds = true) (h2 : closD d = true) : wp (cRun g ds) Q s = Q d s := by
 obtain ⟨st, e⟩ := Qh9 h
 apply wp_eq
 unfold cRun
 rw [h1, e]
 dsimp only
 rw [if_pos h2]
theorem Qib {g : List D → M D} {a : CA} {l : Loc} {Q : D → Sto → Prop} {s : Sto} : wp (cCallE g a l) Q s = wp (a l) (fun ds s' => wp (cRun g ds) Q s') s := by
 unfold cCallE
 rw [Qg5]
section
variable {Q : D → Sto → Prop} {s : Sto}
theorem p2 : wp (cRun jy [.int 2]) Q s = Q (hs 2) s := Qia (by nofun) (by nofun) (by nofun)
theorem p3 : wp (cRun jy [.int 3]) Q s = Q (hs 3) s := Qia (by nofun) (by nofun) (by nofun)
theorem r2 : wp (cRun jW [hs 2, .int 2]) Q s = Q (.bl true) s := Qia (by nofun) (by nofun) (by nofun)
theorem r3 : wp (cRun jW [hs 3, .int 3]) Q s = Q (.bl true) s := Qia (by nofun) (by nofun) (by nofun)
theorem e_of {ds : List D} (h : eqF 50 (.tup ds) (.tup ds) = some true) : wp (eqD (.tup ds) (.tup ds)) Q s = Q (.bl true) s := by
 apply wp_eq
 unfold eqD eqB bnd
 dsimp only
 rw [h]
 rfl
theorem e2 : wp (eqD (hs 2) (hs 2)) Q s = Q (.bl true) s := e_of (by nofun)
theorem e3 : wp (eqD (hs 3) (hs 3)) Q s = Q (.bl true) s := e_of (by nofun)
end
theorem Qic (ns : List Int) (h : ns.length ≤ 63) (s : Sto) (Q : D → Sto → Prop) (hQ : ∀ s, Q (.bl true) s) : wp (wZ [.lit (ns.map D.int)]) Q s := by
 (simp_arith [wZ]; simp_arith [JS])
 refine Qh8 fun p q s1 hp hlp hlq hk => ?_
 simp_arith []
 refine Qh7 hp (by ac_nf) (by ac_nf) fun r s2 r0 r1 hp2 hk2 => ?_
 by_cases h0 : r = 0
 ·subst h0
  have q2 : (2 : Int) + 0 = 2 := rfl
  have q3 : (5 : Int) - 2 = 3 := rfl
  simp_arith [↓Qib, q2, q3, ↓p2, ↓p3, ↓r2, ↓r3, ↓e2, ↓e3]
  exact hQ _
 ·have e1 : r = 1 := by ac_nf
  subst e1
  have q2 : (2 : Int) + 1 = 3 := rfl
  have q3 : (5 : Int) - 3 = 2 := rfl
  simp_arith [↓Qib, q2, q3, ↓p2, ↓p3, ↓r2, ↓r3, ↓e2, ↓e3]
  exact hQ _
theorem law_true (ns : List Int) (h : ns.length ≤ 63) : ∃ st', wZ [.lit (ns.map D.int)] [] = .ok (.bl true) st' := Qhu (Qic ns h [] (fun a _ => a = .bl true) fun _ => rfl)
end My
namespace My
open PySem PySem.Spec PyProof.Rows L2 MM
theorem txt_mk {K : PySem.W.Frag} {h : Heap} {mg : Str → Option Value} {fa : Addr} (X : K.In h) (G : h.Ns mainGlobals mg) (hfa : mg "law" = some (.ref fa))
  {f0 f1 f2 f3 f4 f5 f6 f7 f8 f9 f10 f11 f12 f13 f14 f15 f16 f17 : Addr} {od0 an0 od1 an1 od2 an2 od3 an3 od4 an4 od5 an5 od6 an6 od7 an7 od8 an8 od9 an9 od10 an10 od11 an11 od12 an12 od13 an13 od14 an14 od15 an15 od16 an16 od17 an17 : Option Addr} {sl0 sl1 sl2 sl3 sl4 sl5 sl6 sl7 sl8 sl9 sl10 sl11 sl12 sl13 sl14 sl15 sl16 sl17 : Array (Option Value)} {oc0 kV0 dc0 pm0 cd0 ct0 oc1 kV1 dc1 pm1 cd1 ct1 oc2 kV2 dc2 pm2 cd2 ct2 oc3 kV3 dc3 pm3 cd3 ct3 oc4 kV4 dc4 pm4 cd4 ct4 oc5 kV5 dc5 pm5 cd5 ct5 oc6 kV6 dc6 pm6 cd6 ct6 oc7 kV7 dc7 pm7 cd7 ct7 oc8 kV8 dc8 pm8 cd8 ct8 oc9 kV9 dc9 pm9 cd9 ct9 oc10 kV10 dc10 pm10 cd10 ct10 oc11 kV11 dc11 pm11 cd11 ct11 oc12 kV12 dc12 pm12 cd12 ct12 oc13 kV13 dc13 pm13 cd13 ct13 oc14 kV14 dc14 pm14 cd14 ct14 oc15 kV15 dc15 pm15 cd15 ct15 oc16 kV16 dc16 pm16 cd16 ct16 oc17 kV17 dc17 pm17 cd17 ct17 : Value}
  (a0 : PySem.W.nsIn K mainGlobals "first" = some (some (.ref f0))) (l0 : K.lookup f0 = some ⟨oc0, od0, .func (PySem.W.fnOf "first" "first" (defArgs zc) (defBody zc) (defScope zc) .none kV0 dc0 pm0 an0 cd0 ct0), sl0⟩) (c0 : PySem.W.codeIn K cd0 "first" = true) (k0 : PySem.W.keepIn K (.ref f0) = true)
  (a1 : PySem.W.nsIn K mainGlobals "pact_first" = some (some (.ref f1))) (l1 : K.lookup f1 = some ⟨oc1, od1, .func (PySem.W.fnOf "pact_first" "pact_first" (defArgs jH) (defBody jH) (defScope jH) .none kV1 dc1 pm1 an1 cd1 ct1), sl1⟩) (c1 : PySem.W.codeIn K cd1 "pact_first" = true) (k1 : PySem.W.keepIn K (.ref f1) = true)
  (a2 : PySem.W.nsIn K mainGlobals "_law_deal" = some (some (.ref f2))) (l2 : K.lookup f2 = some ⟨oc2, od2, .func (PySem.W.fnOf "_law_deal" "_law_deal" (defArgs jM) (defBody jM) (defScope jM) .none kV2 dc2 pm2 an2 cd2 ct2), sl2⟩) (c2 : PySem.W.codeIn K cd2 "_law_deal" = true) (k2 : PySem.W.keepIn K (.ref f2) = true)
  (a3 : PySem.W.nsIn K mainGlobals "_law_draw" = some (some (.ref f3))) (l3 : K.lookup f3 = some ⟨oc3, od3, .func (PySem.W.fnOf "_law_draw" "_law_draw" (defArgs jT) (defBody jT) (defScope jT) .none kV3 dc3 pm3 an3 cd3 ct3), sl3⟩) (c3 : PySem.W.codeIn K cd3 "_law_draw" = true) (k3 : PySem.W.keepIn K (.ref f3) = true)
  (a4 : PySem.W.nsIn K mainGlobals "_law_whole" = some (some (.ref f4))) (l4 : K.lookup f4 = some ⟨oc4, od4, .func (PySem.W.fnOf "_law_whole" "_law_whole" (defArgs jV) (defBody jV) (defScope jV) .none kV4 dc4 pm4 an4 cd4 ct4), sl4⟩) (c4 : PySem.W.codeIn K cd4 "_law_whole" = true) (k4 : PySem.W.keepIn K (.ref f4) = true)
  (a5 : PySem.W.nsIn K mainGlobals "_law_numbers" = some (some (.ref f5))) (l5 : K.lookup f5 = some ⟨oc5, od5, .func (PySem.W.fnOf "_law_numbers" "_law_numbers" (defArgs jK) (defBody jK) (defScope jK) .none kV5 dc5 pm5 an5 cd5 ct5), sl5⟩) (c5 : PySem.W.codeIn K cd5 "_law_numbers" = true) (k5 : PySem.W.keepIn K (.ref f5) = true)
  (a6 : PySem.W.nsIn K mainGlobals "_law_is_table" = some (some (.ref f6))) (l6 : K.lookup f6 = some ⟨oc6, od6, .func (PySem.W.fnOf "_law_is_table" "_law_is_table" (defArgs jn) (defBody jn) (defScope jn) .none kV6 dc6 pm6 an6 cd6 ct6), sl6⟩) (c6 : PySem.W.codeIn K cd6 "_law_is_table" = true) (k6 : PySem.W.keepIn K (.ref f6) = true)
  (a7 : PySem.W.nsIn K mainGlobals "_law_is_line" = some (some (.ref f7))) (l7 : K.lookup f7 = some ⟨oc7, od7, .func (PySem.W.fnOf "_law_is_line" "_law_is_line" (defArgs jg) (defBody jg) (defScope jg) .none kV7 dc7 pm7 an7 cd7 ct7), sl7⟩) (c7 : PySem.W.codeIn K cd7 "_law_is_line" = true) (k7 : PySem.W.keepIn K (.ref f7) = true)
  (a8 : PySem.W.nsIn K mainGlobals "_law_is_house" = some (some (.ref f8))) (l8 : K.lookup f8 = some ⟨oc8, od8, .func (PySem.W.fnOf "_law_is_house" "_law_is_house" (defArgs jf) (defBody jf) (defScope jf) .none kV8 dc8 pm8 an8 cd8 ct8), sl8⟩) (c8 : PySem.W.codeIn K cd8 "_law_is_house" = true) (k8 : PySem.W.keepIn K (.ref f8) = true)
  (a9 : PySem.W.nsIn K mainGlobals "_law_start" = some (some (.ref f9))) (l9 : K.lookup f9 = some ⟨oc9, od9, .func (PySem.W.fnOf "_law_start" "_law_start" (defArgs jI) (defBody jI) (defScope jI) .none kV9 dc9 pm9 an9 cd9 ct9), sl9⟩) (c9 : PySem.W.codeIn K cd9 "_law_start" = true) (k9 : PySem.W.keepIn K (.ref f9) = true)
  (a10 : PySem.W.nsIn K mainGlobals "_law_turn" = some (some (.ref f10))) (l10 : K.lookup f10 = some ⟨oc10, od10, .func (PySem.W.fnOf "_law_turn" "_law_turn" (defArgs jx) (defBody jx) (defScope jx) .none kV10 dc10 pm10 an10 cd10 ct10), sl10⟩) (c10 : PySem.W.codeIn K cd10 "_law_turn" = true) (k10 : PySem.W.keepIn K (.ref f10) = true)
  (a11 : PySem.W.nsIn K mainGlobals "_law_value" = some (some (.ref f11))) (l11 : K.lookup f11 = some ⟨oc11, od11, .func (PySem.W.fnOf "_law_value" "_law_value" (defArgs jP) (defBody jP) (defScope jP) .none kV11 dc11 pm11 an11 cd11 ct11), sl11⟩) (c11 : PySem.W.codeIn K cd11 "_law_value" = true) (k11 : PySem.W.keepIn K (.ref f11) = true)
  (a12 : PySem.W.nsIn K mainGlobals "_law_walk" = some (some (.ref f12))) (l12 : K.lookup f12 = some ⟨oc12, od12, .func (PySem.W.fnOf "_law_walk" "_law_walk" (defArgs jl) (defBody jl) (defScope jl) .none kV12 dc12 pm12 an12 cd12 ct12), sl12⟩) (c12 : PySem.W.codeIn K cd12 "_law_walk" = true) (k12 : PySem.W.keepIn K (.ref f12) = true)
  (a13 : PySem.W.nsIn K mainGlobals "_law_falls" = some (some (.ref f13))) (l13 : K.lookup f13 = some ⟨oc13, od13, .func (PySem.W.fnOf "_law_falls" "_law_falls" (defArgs jv) (defBody jv) (defScope jv) .none kV13 dc13 pm13 an13 cd13 ct13), sl13⟩) (c13 : PySem.W.codeIn K cd13 "_law_falls" = true) (k13 : PySem.W.keepIn K (.ref f13) = true)
  (a14 : PySem.W.nsIn K mainGlobals "_law_begins" = some (some (.ref f14))) (l14 : K.lookup f14 = some ⟨oc14, od14, .func (PySem.W.fnOf "_law_begins" "_law_begins" (defArgs yc) (defBody yc) (defScope yc) .none kV14 dc14 pm14 an14 cd14 ct14), sl14⟩) (c14 : PySem.W.codeIn K cd14 "_law_begins" = true) (k14 : PySem.W.keepIn K (.ref f14) = true)
  (a15 : PySem.W.nsIn K mainGlobals "_law_is_good" = some (some (.ref f15))) (l15 : K.lookup f15 = some ⟨oc15, od15, .func (PySem.W.fnOf "_law_is_good" "_law_is_good" (defArgs jr) (defBody jr) (defScope jr) .none kV15 dc15 pm15 an15 cd15 ct15), sl15⟩) (c15 : PySem.W.codeIn K cd15 "_law_is_good" = true) (k15 : PySem.W.keepIn K (.ref f15) = true)
  (a16 : PySem.W.nsIn K mainGlobals "_law_right" = some (some (.ref f16))) (l16 : K.lookup f16 = some ⟨oc16, od16, .func (PySem.W.fnOf "_law_right" "_law_right" (defArgs jJ) (defBody jJ) (defScope jJ) .none kV16 dc16 pm16 an16 cd16 ct16), sl16⟩) (c16 : PySem.W.codeIn K cd16 "_law_right" = true) (k16 : PySem.W.keepIn K (.ref f16) = true)
  (a17 : PySem.W.nsIn K mainGlobals "law" = some (some (.ref f17))) (l17 : K.lookup f17 = some ⟨oc17, od17, .func (PySem.W.fnOf "law" "law" (defArgs zd) (defBody zd) (defScope zd) .none kV17 dc17 pm17 an17 cd17 ct17), sl17⟩) (c17 : PySem.W.codeIn K cd17 "law" = true) (k17 : PySem.W.keepIn K (.ref f17) = true)
  (vF : PySem.W.nsIn K mainGlobals "all" = some none)
  (vj : PySem.W.nsIn K mainGlobals "bool" = some none)
  (vz : PySem.W.nsIn K mainGlobals "int" = some none)
  (ji : PySem.W.nsIn K mainGlobals "isinstance" = some none)
  (jq : PySem.W.nsIn K mainGlobals "len" = some none)
  (vq : PySem.W.nsIn K mainGlobals "list" = some none)
  (vC : PySem.W.nsIn K mainGlobals "max" = some none)
  (ye : PySem.W.nsIn K mainGlobals "range" = some none)
  (zw : PySem.W.nsIn K mainGlobals "reversed" = some none)
  (v9 : PySem.W.nsIn K mainGlobals "set" = some none)
  (jw : PySem.W.nsIn K mainGlobals "tuple" = some none) :
  ∃ T : Txt K mg, T.vA = fa := by
 have e : some (Value.ref fa) = some (Value.ref f17) := hfa.symm.trans (PySem.W.mg_of X G a17)
 have e2 : fa = f17 := by injection e with e1; injection e1
 exact ⟨{ vx := f0, wU := _, v8 := QcL (st := zc) l0 c0 k0, wK := PySem.W.mg_of X G a0, zg := f1, yX := _, yQ := QcL (st := jH) l1 c1 k1, jy := PySem.W.mg_of X G a1, z5 := f2, zO := _, wC := QcL (st := jM) l2 c2 k2, yA := PySem.W.mg_of X G a2, z4 := f3, zL := _, wA := QcL (st := jT) l3 c3 k3, yz := PySem.W.mg_of X G a3, zF := f4, zn := _, zG := QcL (st := jV) l4 c4 k4, yn := PySem.W.mg_of X G a4, yZ := f5, yL := _, jS := QcL (st := jK) l5 c5 k5, jh := PySem.W.mg_of X G a5, yH := f6, yB := _, zt := QcL (st := jn) l6 c6 k6, yo := PySem.W.mg_of X G a6, yW := f7, yJ := _, zQ := QcL (st := jg) l7 c7 k7, yx := PySem.W.mg_of X G a7, yM := f8, yC := _, zu := QcL (st := jf) l8 c8 k8, yp := PySem.W.mg_of X G a8, zM := f9, zl := _, wk := QcL (st := jI) l9 c9 k9, zb := PySem.W.mg_of X G a9, zZ := f10, zH := _, wF := QcL (st := jx) l10 c10 k10, zr := PySem.W.mg_of X G a10, zE := f11, zp := _, wn := QcL (st := jP) l11 c11 k11, y9 := PySem.W.mg_of X G a11, z8 := f12, zJ := _, wB := QcL (st := jl) l12 c12 k12, zv := PySem.W.mg_of X G a12, zN := f13, zj := _, wm := QcL (st := jv) l13 c13 k13, za := PySem.W.mg_of X G a13, zi := f14, yV := _, z9 := QcL (st := yc) l14 c14 k14, yP := PySem.W.mg_of X G a14, yY := f15, yN := _, zR := QcL (st := jr) l15 c15 k15, yw := PySem.W.mg_of X G a15, zI := f16, zm := _, zB := QcL (st := jJ) l16 c16 k16, jW := PySem.W.mg_of X G a16, vA := f17, vZ := _, Zz := QcL (st := zd) l17 c17 k17, wZ := PySem.W.mg_of X G a17, vF := PySem.W.mg_none_of X G vF, vj := PySem.W.mg_none_of X G vj, vz := PySem.W.mg_none_of X G vz, ji := PySem.W.mg_none_of X G ji, jq := PySem.W.mg_none_of X G jq, vq := PySem.W.mg_none_of X G vq, vC := PySem.W.mg_none_of X G vC, ye := PySem.W.mg_none_of X G ye, zw := PySem.W.mg_none_of X G zw, v9 := PySem.W.mg_none_of X G v9, jw := PySem.W.mg_none_of X G jw }, e2.symm⟩
theorem walk {l : PySem.W.OpenLaw} {q : Program} {loose : List Str} {XP : (Str → Option Value) → Heap → Prop} {YP : World → Heap → Prop} {d : DefRec} {K : Params → PySem.W.Frag} (hn : l.most = some 63) (hdf : d.params.defaults = [])
  (hY : ∀ (w : World) (h : Heap), YP w h → (K w.params).In h) (F : ∀ (w : World) (mg : Str → Option Value) (fa : Addr) (h : Heap), (K w.params).In h → h.Ns mainGlobals mg → mg d.name = some (.ref fa) → ∃ T : Txt (K w.params) mg, T.vA = fa) :
  PySem.W.WalkO q loose XP YP l.row.toRowW d [] (fun f vs => PySem.call f vs) := by
 refine L2.walk_ofK (n := 63) (k := 6) (x := "_law_script") (CX := CX0) (K := K) (sp := fun K => spOf K 1 wZ) hn (by decide) hdf ⟨rfl, by decide, by decide⟩ hY (fun w mg fa h kin ns hmg => ?_) (fun K H a ns hl hO hS => Qg3 hO hS (law_true ns hl)) (fun _ _ _ _ z => z)
 obtain ⟨T, e⟩ := F w mg fa h kin ns hmg
 subst e
 refine ⟨T.vZ, fun s u => ?_, fun base _ _ => ZR T⟩
 obtain ⟨oc, od, kV, doc, pm, an, cdv, ct, osl, e, lk, hcd⟩ := T.Zz.ex
 rw [e]
 exact .of_eq rfl
end My
noncomputable def  PySem.W.Fast.tw8270072476138666040 : PySem.Program := PySem.Challenge.pw_pactboards_k57_whole_pacts_of_first_thin
theorem PySem.W.Fast.te8270072476138666040 : PySem.Challenge.pw_pactboards_k57_whole_pacts_of_first_thin = PySem.W.Fast.tw8270072476138666040 := rfl
open PySem PySem.W PyProof.Rows
set_option maxHeartbeats 0 in
theorem PySem.Challenge.cw_pactboards_k57_whole_pacts_of_first_thin_holds : PySem.Challenge.rw_pactboards_k57_whole_pacts_of_first_thin.Holds := by
 w_on; o_law; k_head; (case hw => w_witness2)
 k_fill
 refine My.walk (l := PySem.Challenge.rw_pactboards_k57_whole_pacts_of_first_thin) rfl rfl (fun w h Y => PySem.W.kIn_of Y) ?F
 case F =>
  intro w mg fa h KX G hmg
  refine' My.txt_mk KX G hmg ?a0 ?l0 ?c0 ?k0 ?a1 ?l1 ?c1 ?k1 ?a2 ?l2 ?c2 ?k2 ?a3 ?l3 ?c3 ?k3 ?a4 ?l4 ?c4 ?k4 ?a5 ?l5 ?c5 ?k5 ?a6 ?l6 ?c6 ?k6 ?a7 ?l7 ?c7 ?k7 ?a8 ?l8 ?c8 ?k8 ?a9 ?l9 ?c9 ?k9 ?a10 ?l10 ?c10 ?k10 ?a11 ?l11 ?c11 ?k11 ?a12 ?l12 ?c12 ?k12 ?a13 ?l13 ?c13 ?k13 ?a14 ?l14 ?c14 ?k14 ?a15 ?l15 ?c15 ?k15 ?a16 ?l16 ?c16 ?k16 ?a17 ?l17 ?c17 ?k17 ?vF ?vj ?vz ?ji ?jq ?vq ?vC ?ye ?zw ?v9 ?jw
  case a0 | l0 | c0 | k0 | a1 | l1 | c1 | k1 | a2 | l2 | c2 | k2 | a3 | l3 | c3 | k3 | a4 | l4 | c4 | k4 | a5 | l5 | c5 | k5 | a6 | l6 | c6 | k6 | a7 | l7 | c7 | k7 | a8 | l8 | c8 | k8 | a9 | l9 | c9 | k9 | a10 | l10 | c10 | k10 | a11 | l11 | c11 | k11 | a12 | l12 | c12 | k12 | a13 | l13 | c13 | k13 | a14 | l14 | c14 | k14 | a15 | l15 | c15 | k15 | a16 | l16 | c16 | k16 | a17 | l17 | c17 | k17 | vF | vj | vz | ji | jq | vq | vC | ye | zw | v9 | jw => k_is