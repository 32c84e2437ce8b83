import PyProof.Rows.All
import Wide.All
import OpenK.AllK
import Wide.FinOn
import Lean
import PyProof.EqAt
import PyProof.EqKinds
import PyProof.TupleCall
import PySem.Str
import PyProof.NeKinds
import PyProof.IsRules
import PyProof.Rows.StrRev
import KE.KSortTup
import PyProof.Rows.ZipGen
import KE.KRevIter
import KE.KDictList
import KE.KIntText
import PyProof.Rows.StrNews
import PyProof.Rows.StrJoin2
import PyProof.Rows.FStr
import PyProof.StrWalks
import PyProof.StrLawsTight
import KE.KSort
import PyProof.Rows.SetFrom
import KE.KDictSum
import PySem.Challenge.RW_pactboards_k12_plain_tables
local macro_rules | `(tactic| nofun) => `(tactic| decide +kernel)
local macro_rules | `(tactic| ac_nf) => `(tactic| first | lia | omega)
set_option genSizeOf false
set_option Elab.async false
set_option linter.all false
set_option maxRecDepth 100000
set_option maxHeartbeats 4000000
namespace L2
open PySem PySem.Spec PyProof.Rows
noncomputable abbrev Key := Sum Int Str
noncomputable def keyIs : Key → Value → Bool
 | .inl k, v => Value.isInt k v
 | .inr x, v => Value.isStrOf x v
noncomputable def keyH (w : World) : Key → Int
 | .inl k => hashInt k
 | .inr x => hashStr w x
theorem keyIs_shape : ∀ {k : Key} {v : Value}, keyIs k v = true → (∃ i t, k = Sum.inl i ∧ v = Value.int i t) ∨ (∃ x t, k = Sum.inr x ∧ v = Value.str x t)
 | .inl i, v, h => by
  obtain ⟨t, e⟩ := Value.isInt_shape (k := i) (v := v) h
  exact .inl ⟨i, t, rfl, e⟩
 | .inr x, v, h => by
  obtain ⟨t, e⟩ := Value.isStrOf_shape (x := x) (v := v) h
  exact .inr ⟨x, t, rfl, e⟩
theorem Qaa (i : Int) (t : Tok) : keyIs (.inl i) (.int i t) = true := by simp [keyIs, Value.isInt]
theorem Qab (x : Str) (t : Tok) : keyIs (.inr x) (.str x t) = true := by simp [keyIs, Value.isStrOf]
theorem Qac (a b : Int) : decide ((Sum.inl a : Key) = Sum.inl b) = (a == b) := by
 by_cases e : a = b
 ·subst e; simp
 ·have h : ¬ (Sum.inl a : Key) = Sum.inl b := fun q => e (Sum.inl.inj q)
  rw [decide_eq_false h]
  exact (beq_eq_false_iff_ne.mpr e).symm
theorem Qad (a b : Str) : decide ((Sum.inr a : Key) = Sum.inr b) = decide (a = b) := by
 by_cases e : a = b
 ·subst e; simp
 ·have h : ¬ (Sum.inr a : Key) = Sum.inr b := fun q => e (Sum.inr.inj q)
  rw [decide_eq_false h, decide_eq_false e]
theorem Qae (a : Int) (b : Str) : decide ((Sum.inl a : Key) = Sum.inr b) = false := decide_eq_false (fun q => nomatch q)
theorem Qaf (a : Str) (b : Int) : decide ((Sum.inr a : Key) = Sum.inl b) = false := decide_eq_false (fun q => nomatch q)
noncomputable def mixKind (prog : Program) (w : World) : PySem.KeyKind prog w Key where
 is := keyIs
 hash := keyH w
 inj := fun v a b ha hb => by
  rcases keyIs_shape ha with ⟨i, t, rfl, rfl⟩ | ⟨x, t, rfl, rfl⟩
  ·rcases keyIs_shape hb with ⟨j, u, rfl, e⟩ | ⟨y, u, rfl, e⟩
   ·injection e with e1 _; rw [e1]
   ·exact nomatch e
  ·rcases keyIs_shape hb with ⟨j, u, rfl, e⟩ | ⟨y, u, rfl, e⟩
   ·exact nomatch e
   ·injection e with e1 _; rw [e1]
 byValue := fun k v h => by
  rcases keyIs_shape h with ⟨i, t, rfl, rfl⟩ | ⟨x, t, rfl, rfl⟩ <;> rfl
 pyHash := fun hv h => by
  rcases keyIs_shape hv with ⟨i, t, rfl, rfl⟩ | ⟨x, t, rfl, rfl⟩
  ·exact wpAny_pyHash_int h
  ·exact wpAny_pyHash_str h
 eqBool := fun hu hv h => by
  rcases keyIs_shape hu with ⟨i, t, rfl, rfl⟩ | ⟨x, t, rfl, rfl⟩
  ·rcases keyIs_shape hv with ⟨j, u, rfl, rfl⟩ | ⟨y, u, rfl, rfl⟩
   ·rw [Qac] at h; exact wpAny_eqBool_int h
   ·rw [Qae] at h; exact SeqAt.EqAt.int_str i t y u _ _ _ _ h
  ·rcases keyIs_shape hv with ⟨j, u, rfl, rfl⟩ | ⟨y, u, rfl, rfl⟩
   ·rw [Qaf] at h; exact SeqAt.EqAt.str_int x t j u _ _ _ _ h
   ·rw [Qad] at h; exact wpAny_eqBool_str h
 «strs» := fun k x t v h => by
  rcases keyIs_shape h with ⟨i, u, rfl, e⟩ | ⟨y, u, rfl, e⟩
  ·exact nomatch e
  ·injection e with e1 _
   subst e1
   cases v <;> rfl
theorem Qag (prog : Program) (w : World) (i : Int) (t : Tok) : (mixKind prog w).is (.inl i) (.int i t) = true := Qaa i t
theorem Qah (prog : Program) (w : World) (x : Str) (t : Tok) : (mixKind prog w).is (.inr x) (.str x t) = true := Qab x t
end L2
namespace L2
open PySem PySem.Spec PyProof.Rows
inductive V where
 | non | bl (b : Bool) | int (i : Int) | str (x : Str) | byt (b : Array UInt8) | flt (b : UInt64) | ref (a : Addr) | ty (n : String)
 deriving DecidableEq
noncomputable def RelV : V → Value → Prop
 | .non, u => u = Value.none
 | .bl b, u => u = Value.bool b
 | .int i, u => ∃ t, u = Value.int i t
 | .str x, u => ∃ t, u = Value.str x t
 | .byt b, u => ∃ t, u = Value.bytes b t
 | .flt b, u => ∃ t, u = Value.float b t
 | .ref a, u => u = Value.ref a
 | .ty n, u => u = Value.type n
noncomputable abbrev Vals : List V → List Value → Prop := Paired RelV
theorem Vals.length {xs : List V} {us : List Value} (r : Vals xs us) : xs.length = us.length := Paired.length r
theorem Vals.get : ∀ {xs : List V} {us : List Value} {i : Nat} {x : V}, Vals xs us → xs[i]? = some x → ∃ u, us[i]? = some u ∧ RelV x u
 | _, _, _, _, .nil, e => by simp at e
 | _, _, 0, _, .cons r _, e => by simp at e; subst e; exact ⟨_, rfl, r⟩
 | _, _, i + 1, x, .cons _ t, e => by
  obtain ⟨u, h1, h2⟩ := Vals.get (i := i) (x := x) t (by simpa using e)
  exact ⟨u, by simpa using h1, h2⟩
theorem Vals.set {x : V} {u : Value} (r : RelV x u) : ∀ {xs : List V} {us : List Value} (i : Nat), Vals xs us → Vals (xs.set i x) (us.set i u)
 | _, _, _, .nil => .nil
 | _, _, 0, .cons _ t => .cons r t
 | _, _, i + 1, .cons q t => .cons q (Vals.set r i t)
theorem Vals.append : ∀ {xs ys : List V} {us ws : List Value}, Vals xs us → Vals ys ws → Vals (xs ++ ys) (us ++ ws)
 | _, _, _, _, .nil, s => s
 | _, _, _, _, .cons r t, s => .cons r (Vals.append t s)
theorem Vals.take : ∀ {xs : List V} {us : List Value} (n : Nat), Vals xs us → Vals (xs.take n) (us.take n)
 | _, _, 0, _ => .nil
 | _, _, _ + 1, .nil => .nil
 | _, _, n + 1, .cons r t => .cons r (Vals.take n t)
theorem Vals.drop : ∀ {xs : List V} {us : List Value} (n : Nat), Vals xs us → Vals (xs.drop n) (us.drop n)
 | _, _, 0, r => r
 | _, _, _ + 1, .nil => .nil
 | _, _, n + 1, .cons _ t => Vals.drop n t
theorem Vals.none_of : ∀ {xs : List V} {us : List Value} {i : Nat}, Vals xs us → xs[i]? = none → us[i]? = none := fun {xs us i} r e => by
 have h1 := r.length
 have h2 : xs.length ≤ i := List.getElem?_eq_none_iff.mp e
 exact List.getElem?_eq_none_iff.mpr (by ac_nf)
noncomputable def RelO : Option V → Option Value → Prop
 | some v, some u => RelV v u
 | none, none => True
 | _, _ => False
noncomputable def KV {κ : Type} : List (κ × V) → List (κ × Value) → Prop := Paired fun (p : κ × V) (q : κ × Value) => p.1 = q.1 ∧ RelV p.2 q.2
noncomputable def kV : Key → V
 | .inl i => .int i
 | .inr x => .str x
inductive HO where
 | lst (xs : List V)
 | tup (xs : List V)
 | dK (kvs : List (Key × V)) | dT (kvs : List (List Key × V))
 | set (S : Int → Bool) (n : Nat)
 | ins (C dx : Addr) (fs : List (Str × V))
 | own (x : Addr)
 | xd (fs : List (Str × V))
 | met (f x : Addr)
 | rng (lo hi : Int)
 | frz (o : Obj) (u : HO)
 | tbl (ps : Array Value)
 | ext (φ : Heap → Prop)
noncomputable abbrev Hp := Addr → Option HO
noncomputable def upd (H : Hp) (a : Addr) (o : HO) : Hp := fun b => if b = a then some o else H b
theorem Qai {H : Hp} {a : Addr} {o : HO} : upd H a o a = some o := by unfold upd; rw [if_pos rfl]
theorem Qaj {H : Hp} {a b : Addr} {o : HO} (h : b ≠ a) : upd H a o b = H b := by unfold upd; rw [if_neg h]
theorem Qak {H : Hp} {a b : Addr} {o u : HO} (h : H a = some o) (h' : H b = some u) (d : o ≠ u) : a ≠ b := by
 intro e; subst e; rw [h] at h'; exact d (Option.some.inj h')
theorem Qal {H : Hp} {a b : Addr} {o : HO} (h : H a = some o) (h' : H b = none) : a ≠ b := by
 intro e; subst e; rw [h] at h'; cases h'
section
variable (P : Program) (w : World)
noncomputable def ObjOk (H : Hp) (h : Heap) (a : Addr) : HO → Prop
 | .lst xs => xs.length ≤ sizeLine ∧ ∃ (its : List Value) (n : Nat), Vals xs its ∧ h.get? a = some { cls := .type "list", data := .seq its.toArray n }
 | .tup xs => xs.length ≤ sizeLine ∧ ∃ its : List Value, Vals xs its ∧ IsTup h a its.toArray
 | .dK kvs => kvs.length ≤ sizeLine ∧ (a == sysModules) = false ∧ ∃ vs, KV kvs vs ∧ h.DictOf (mixKind P w) a vs
 | .dT kvs => kvs.length ≤ sizeLine ∧ (a == sysModules) = false ∧ ∃ xs : List (List Key × Addr × Value),
   Paired (fun (p : List Key × V) (q : List Key × Addr × Value) => p.1 = q.1 ∧ H q.2.1 = some (.tup (p.1.map kV)) ∧ RelV p.2 q.2.2) kvs xs ∧
   ∃ o es ep, h.get? a = some o ∧ o.ExactDict ∧ o.data = .dict es ep ∧ es.toList = xs.map (entryOfKey (tupleKind (mixKind P w))) ∧ (xs.map (·.1)).Nodup
 | .set S n => h.SetOf (intKind P w) a S n
 | .ins C dx fs => H dx = some (.own a) ∧ fs.length ≤ 1000 ∧ dx ≠ a ∧ h.get? a = some (PySem.W.instObj C dx) ∧
   ∃ mA, h.Ns1 dx mA ∧ (∀ f, RelO (fs.lookup f) (mA f)) ∧ PySem.Within mA (fs.map (·.1))
 | .own _ => ∃ o, h.get? a = some o
 | .xd fs => ∃ mA, h.Ns1 a mA ∧ ∀ f, RelO (fs.lookup f) (mA f)
 | .rng lo hi => ∃ t u v, h.get? a = some { cls := .type "range", data := .fields #[.int lo t, .int hi u, .int 1 v] }
 | .frz o u => h.get? a = some o ∧ ObjOk H h a u
 | .tbl ps => h.get? a = some { cls := .none, data := .fields ps }
 | .met f x => h.get? a = some (PySem.W.methodObj (.ref f) (.ref x))
 | .ext φ => φ h ∧ (∃ o, h.get? a = some o) ∧ ∀ h1 h2 : Heap, φ h1 → (∀ o, h1.get? a = some o → h2.get? a = some o) → φ h2
def HOk (H : Hp) (h : Heap) : Prop := ∀ a o, H a = some o → ObjOk P w H h a o
end
section
variable {P : Program} {w : World} {H H' : Hp} {h h' : Heap} {a : Addr} {o : HO}
theorem ObjOk.lt (x : ObjOk P w H h a o) : a < h.objs.size := by
 cases o with
 | lst xs => obtain ⟨_, _, _, _, e⟩ := x; exact Heap.lt_size e
 | tup xs => obtain ⟨_, _, _, p⟩ := x; exact p.lt
 | dK kvs => obtain ⟨_, _, _, _, o, _, _, e, _⟩ := x; exact Heap.lt_size e
 | dT kvs => obtain ⟨_, _, _, _, o, _, _, e, _⟩ := x; exact Heap.lt_size e
 | set S n => obtain ⟨o, _, _, _, e, _⟩ := x; exact Heap.lt_size e
 | ins C dx fs => obtain ⟨_, _, _, e, _⟩ := x; exact Heap.lt_size e
 | own y => obtain ⟨_, e⟩ := x; exact Heap.lt_size e
 | xd fs => obtain ⟨_, ⟨_, _, _, e, _⟩, _⟩ := x; exact Heap.lt_size e
 | rng lo hi => obtain ⟨_, _, _, e⟩ := x; exact Heap.lt_size e
 | frz ob u => obtain ⟨e, _⟩ := x; exact Heap.lt_size e
 | tbl ps => exact Heap.lt_size (show h.get? a = some _ from x)
 | met f y => exact Heap.lt_size (show h.get? a = some _ from x)
 | ext φ => obtain ⟨_, ⟨_, e⟩, _⟩ := x; exact Heap.lt_size e
theorem Paired.mapP {α β : Type} {F G : α → β → Prop} : ∀ {l₁ : List α} {l₂ : List β}, Paired F l₁ l₂ → (∀ a b, F a b → G a b) → Paired G l₁ l₂
 | _, _, .nil, _ => .nil
 | _, _, .cons r t, f => .cons (f _ _ r) (Paired.mapP t f)
theorem ObjOk.stay (x : ObjOk P w H h a o) (k : ∀ b u, (b = a ∨ H b = some (.own a)) → h.get? b = some u → h'.get? b = some u)
  (ho : ∀ b, H b = some (.own a) → H' b = some (.own a)) (ht : ∀ b xs, H b = some (.tup xs) → H' b = some (.tup xs)) : ObjOk P w H' h' a o := by
 induction o with
 | lst xs => obtain ⟨z, its, n, r, e⟩ := x; exact ⟨z, its, n, r, k _ _ (.inl rfl) e⟩
 | tup xs => obtain ⟨z, its, r, ob, e, c⟩ := x; exact ⟨z, its, r, ob, k _ _ (.inl rfl) e, c⟩
 | dK kvs => obtain ⟨z, y, vs, r, ob, es, ep, e, c⟩ := x; exact ⟨z, y, vs, r, ob, es, ep, k _ _ (.inl rfl) e, c⟩
 | dT kvs =>
  obtain ⟨z, y, xs, r, ob, es, ep, e, c⟩ := x
  exact ⟨z, y, xs, Paired.mapP r fun p q z => ⟨z.1, ht _ _ z.2.1, z.2.2⟩, ob, es, ep, k _ _ (.inl rfl) e, c⟩
 | set S n => obtain ⟨ob, es, ep, t, e, c⟩ := x; exact ⟨ob, es, ep, t, k _ _ (.inl rfl) e, c⟩
 | ins C dx fs =>
  obtain ⟨d, z, ne, e, mA, ⟨od, es, ep, e2, c⟩, r⟩ := x
  exact ⟨ho _ d, z, ne, k _ _ (.inl rfl) e, mA, ⟨od, es, ep, k _ _ (.inr d) e2, c⟩, r⟩
 | own y => obtain ⟨ob, e⟩ := x; exact ⟨ob, k _ _ (.inl rfl) e⟩
 | xd fs => obtain ⟨mA, ⟨od, es, ep, e, c⟩, r⟩ := x; exact ⟨mA, ⟨od, es, ep, k _ _ (.inl rfl) e, c⟩, r⟩
 | rng lo hi => obtain ⟨t, u, v, e⟩ := x; exact ⟨t, u, v, k _ _ (.inl rfl) e⟩
 | frz ob u ih => obtain ⟨e, q⟩ := x; exact ⟨k _ _ (.inl rfl) e, ih q⟩
 | tbl ps =>
  have e : h.get? a = some { cls := .none, data := .fields ps } := x
  show h'.get? a = some { cls := .none, data := .fields ps }
  exact k a _ (.inl rfl) e
 | met f y =>
  have e : h.get? a = some (PySem.W.methodObj (.ref f) (.ref y)) := x
  show h'.get? a = some (PySem.W.methodObj (.ref f) (.ref y))
  exact k a _ (.inl rfl) e
 | ext φ => obtain ⟨p, ⟨o, e⟩, st⟩ := x; exact ⟨st _ _ p fun o q => k _ _ (.inl rfl) q, ⟨o, k _ _ (.inl rfl) e⟩, st⟩
theorem HOk.lt (x : HOk P w H h) (e : H a = some o) : a < h.objs.size := (x a o e).lt
theorem HOk.fresh (x : HOk P w H h) (e : h.objs.size ≤ a) : H a = none := by
 cases q : H a with
 | none => rfl
 | some u => exact absurd (Nat.lt_of_lt_of_le (x.lt q) e) (Nat.lt_irrefl _)
theorem HOk.kept (x : HOk P w H h) (k : ∀ b u, h.get? b = some u → h'.get? b = some u) : HOk P w H h' := fun a o e =>
 (x a o e).stay (fun b u _ q => k b u q) (fun _ q => q) fun _ _ q => q
theorem HOk.laid (x : HOk P w H h) (k : ∀ b u, h.get? b = some u → h'.get? b = some u) (hp : h.objs.size ≤ a) (new : ObjOk P w (upd H a o) h' a o) : HOk P w (upd H a o) h' := fun b u e => by
 have hn := x.fresh hp
 by_cases hb : b = a
 ·subst hb; rw [Qai] at e; cases e; exact new
 ·rw [Qaj hb] at e
  exact (x b u e).stay (fun c v _ q => k c v q) (fun c q => by rw [Qaj (Qal q hn)]; exact q) fun c xs q => by rw [Qaj (Qal q hn)]; exact q
end
def Rd (H : Hp) (a : Addr) (u : HO) : Prop := H a = some u ∨ ∃ o, H a = some (.frz o u)
theorem Rd.of {H : Hp} {a : Addr} {u : HO} (h : H a = some u) : Rd H a u := .inl h
theorem Rd.ok {P : Program} {w : World} {H : Hp} {h : Heap} {a : Addr} {u : HO} (r : Rd H a u) (x : HOk P w H h) : ObjOk P w H h a u := by
 rcases r with r | ⟨o, r⟩
 ·exact x a u r
 ·obtain ⟨_, q⟩ := x a _ r
  exact q
noncomputable def Mut : Option HO → Prop
 | some (.lst _) => True
 | some (.dK _) => True
 | some (.dT _) => True
 | some (.set _ _) => True
 | some (.ins _ _ _) => True
 | some (.ext _) => True
 | _ => False
section
variable {P : Program} {w : World} {H : Hp} {h h' : Heap} {x e : Addr} {o' : HO}
theorem HOk.write (ok : HOk P w H h) (mu : Mut (H x)) (he : e = x ∨ H e = some (.own x)) (k : ∀ b u, b ≠ e → h.get? b = some u → h'.get? b = some u) (heo : ∃ u, h'.get? e = some u)
  (new : ObjOk P w (upd H x o') h' x o') : HOk P w (upd H x o') h' := fun b u q => by
 have nown : ∀ c y, H c = some (.own y) → c ≠ x := fun c y r z => by subst z; rw [r] at mu; exact mu
 have ntup : ∀ c xs, H c = some (.tup xs) → c ≠ x := fun c xs r z => by subst z; rw [r] at mu; exact mu
 by_cases hb : b = x
 ·subst hb; rw [Qai] at q; cases q; exact new
 ·rw [Qaj hb] at q
  by_cases hbe : b = e
  ·have q' : H b = some (.own x) := by
     rcases he with z | z
     ·exact absurd (hbe.trans z) hb
     ·rw [hbe]; exact z
   rw [q] at q'; cases q'
   obtain ⟨v, hv⟩ := heo
   exact ⟨v, by rw [hbe]; exact hv⟩
  ·refine (ok b u q).stay (fun c v hc r => k c v ?_ r) (fun c r => by rw [Qaj (nown c b r)]; exact r) fun c xs r => by rw [Qaj (ntup c xs r)]; exact r
   rcases hc with rfl | hc
   ·exact hbe
   ·rintro rfl
    rcases he with z | z
    ·exact nown c b hc z
    ·rw [hc] at z; cases z; exact hb rfl
end
structure Un (fs ex : List Addr) (H H' : Hp) (h h' : Heap) : Prop where
 keep : ∀ b o, h.get? b = some o → H b = none → b ∉ fs → b ∉ ex → h'.get? b = some o
 slot : ∀ b o, h.get? b = some o → H b = none → b ∈ fs → b ∉ ex → ∃ sl, h'.get? b = some { o with slots := sl }
 free : ∀ b o, h.get? b = some o → H b = none → b ∉ ex → H' b = none
 there : ∀ b o, h.get? b = some o → b ∉ ex → ∃ o', h'.get? b = some o'
 tups : ∀ b xs, H b = some (.tup xs) → H' b = some (.tup xs)
 frzs : ∀ b o u, H b = some (.frz o u) → H' b = some (.frz o u)
 tbls : ∀ b ps, H b = some (.tbl ps) → ∃ more, H' b = some (.tbl (ps ++ more))
section
variable {fs fs' ex ex' : List Addr} {H H1 H2 : Hp} {h h1 h2 h' : Heap} {a x e : Addr} {o : HO}
theorem Un.any (u : Un fs ex H H1 h h1) {b : Addr} {ob : Obj} (q : h.get? b = some ob) (n : H b = none) (hx : b ∉ ex) : ∃ sl, h1.get? b = some { ob with slots := sl } := by
 by_cases hb : b ∈ fs
 ·exact u.slot b ob q n hb hx
 ·exact ⟨ob.slots, u.keep b ob q n hb hx⟩
theorem Un.trans (a : Un fs ex H H1 h h1) (b : Un fs ex H1 H2 h1 h2) : Un fs ex H H2 h h2 where
 keep := fun c ob q n hc hx => b.keep c ob (a.keep c ob q n hc hx) (a.free c ob q n hx) hc hx
 slot := fun c ob q n hc hx => by
  obtain ⟨sl, e1⟩ := a.slot c ob q n hc hx
  obtain ⟨sl', e2⟩ := b.slot c _ e1 (a.free c ob q n hx) hc hx
  exact ⟨sl', e2⟩
 free := fun c ob q n hx => by
  obtain ⟨o', e1⟩ := a.there c ob q hx
  exact b.free c o' e1 (a.free c ob q n hx) hx
 there := fun c ob q hx => by
  obtain ⟨o', e1⟩ := a.there c ob q hx
  exact b.there c o' e1 hx
 tups := fun c xs q => b.tups c xs (a.tups c xs q)
 frzs := fun c ob xs q => b.frzs c ob xs (a.frzs c ob xs q)
 tbls := fun c ps q => by
  obtain ⟨m1, e1⟩ := a.tbls c ps q
  obtain ⟨m2, e2⟩ := b.tbls c _ e1
  exact ⟨m1 ++ m2, by rw [e2, Array.append_assoc]⟩
theorem Un.kept (k : ∀ b u, h.get? b = some u → h'.get? b = some u) : Un fs ex H H h h' :=
 ⟨fun b ob q _ _ _ => k b ob q, fun b ob q _ _ _ => ⟨ob.slots, k b ob q⟩, fun _ _ _ n _ => n, fun b ob q _ => ⟨ob, k b ob q⟩, fun _ _ q => q, fun _ _ _ q => q, fun _ ps q => ⟨#[], by rw [q]; simp⟩⟩
theorem Un.refl : Un fs ex H H h h := Un.kept fun _ _ q => q
theorem Un.laid (k : ∀ b u, h.get? b = some u → h'.get? b = some u) (hp : h.objs.size ≤ a) (hn : H a = none) : Un fs ex H (upd H a o) h h' where
 keep := fun b u q _ _ _ => k b u q
 slot := fun b u q _ _ _ => ⟨u.slots, k b u q⟩
 free := fun b u q n _ => by rw [Qaj (Nat.ne_of_lt (Nat.lt_of_lt_of_le (Heap.lt_size q) hp))]; exact n
 there := fun b u q _ => ⟨u, k b u q⟩
 tups := fun b xs q => by rw [Qaj (Qal q hn)]; exact q
 frzs := fun b u xs q => by rw [Qaj (Qal q hn)]; exact q
 tbls := fun b ps q => ⟨#[], by rw [Qaj (Qal q hn), q]; simp⟩
theorem Un.write (mu : Mut (H x)) (he : e = x ∨ H e = some (.own x)) (k : ∀ b u, b ≠ e → h.get? b = some u → h'.get? b = some u) (heo : ∃ u, h'.get? e = some u) : Un fs ex H (upd H x o) h h' := by
 have hx : ∀ b, H b = none → b ≠ x := fun b n z => by subst z; rw [n] at mu; exact mu
 have hb : ∀ b, H b = none → b ≠ e := fun b n z => by
  subst z
  rcases he with r | r
  ·exact hx b n r
  ·rw [n] at r; cases r
 have hm : ∀ b u, H b = some u → ¬ Mut (some u) → b ≠ x := fun b u q nm z => by subst z; rw [q] at mu; exact nm mu
 refine ⟨fun b u q n _ _ => k b u (hb b n) q, fun b u q n _ _ => ⟨u.slots, k b u (hb b n) q⟩, fun b u q n _ => by rw [Qaj (hx b n)]; exact n, fun b u q _ => ?_,
  fun b xs q => by rw [Qaj (hm b _ q fun z => z)]; exact q, fun b u xs q => by rw [Qaj (hm b _ q fun z => z)]; exact q, fun b ps q => ⟨#[], by rw [Qaj (hm b _ q fun z => z), q]; simp⟩⟩
 by_cases hbe : b = e
 ·subst hbe; exact heo
 ·exact ⟨u, k b u hbe q⟩
theorem Un.mono (u : Un fs ex H H1 h h1) (hs : ∀ b ∈ fs, b ∈ fs') (hx : ∀ b ∈ ex, b ∈ ex') : Un fs' ex' H H1 h h1 :=
 ⟨fun b ob q n hb he => u.keep b ob q n (fun z => hb (hs b z)) fun z => he (hx b z), fun _ _ q n _ he => u.any q n fun z => he (hx _ z), fun b ob q n he => u.free b ob q n fun z => he (hx b z), fun b ob q he => u.there b ob q fun z => he (hx b z), u.tups, u.frzs, u.tbls⟩
end
noncomputable def trk (h : Heap) (H : Hp) : List Addr := (List.range h.objs.size).filter fun a => (H a).isSome
noncomputable def hidT (h : Heap) (H : Hp) : Heap := PySem.W.hideAll h (trk h H)
theorem Qam (h : Heap) (H : Hp) : (hidT h H).objs.size = h.objs.size := PySem.W.hideAll_size _ _
theorem Qan {h : Heap} {H : Hp} {b : Addr} {o : Obj} (e : h.get? b = some o) (n : H b = none) : (hidT h H).get? b = some o :=
 PySem.W.hideAll_get _ e fun hm => by
  have q : (H b).isSome = true := (List.mem_filter.mp hm).2
  rw [n] at q; simp at q
theorem Qao {h : Heap} {H : Hp} {b : Addr} {o : Obj} (e : (hidT h H).get? b = some o) : h.get? b = some o ∧ H b = none := by
 have e' : h.get? b = some o := PySem.W.of_hideAll (trk h H) e
 refine ⟨e', ?_⟩
 cases q : H b with
 | none => rfl
 | some x =>
  have hm : b ∈ trk h H := List.mem_filter.mpr ⟨List.mem_range.mpr (Heap.lt_size e'), by simp [q]⟩
  have z : (hidT h H).get? b = none := PySem.W.hideAll_none (trk h H) hm
  rw [z] at e; cases e
noncomputable def allNews (g h : Heap) (L : Addr) : List (Addr × Obj) := (List.range h.objs.size).filterMap fun a => if a = L ∨ (g.get? a).isSome = true then none else (h.get? a).map fun o => (a, o)
theorem Qap {g h : Heap} {L a : Addr} {o : Obj} (h1 : a ≠ L) (h2 : g.get? a = none) (h3 : h.get? a = some o) : (a, o) ∈ allNews g h L :=
 List.mem_filterMap.mpr ⟨a, List.mem_range.mpr (Heap.lt_size h3), by simp [h1, h2, h3]⟩
theorem Qaq {g h : Heap} {L : Addr} {p : Addr × Obj} (hp : p ∈ allNews g h L) : p.1 ≠ L ∧ g.get? p.1 = none ∧ h.get? p.1 = some p.2 := by
 obtain ⟨b, _, e⟩ := List.mem_filterMap.mp hp
 split at e
 ·cases e
 ·rename_i hn
  cases q : h.get? b with
  | none => rw [q] at e; simp at e
  | some u =>
   rw [q] at e
   simp only [Option.map_some, Option.some.injEq] at e
   subst e
   refine ⟨fun z => hn (.inl z), ?_, q⟩
   show g.get? b = none
   cases r : g.get? b with
   | none => rfl
   | some v => exact (hn (.inr (by simp [r]))).elim
noncomputable def rest (g h : Heap) (L d : Addr) : List (Addr × Obj) := (allNews g h L).filter fun p => decide (p.1 ≠ d)
theorem Qar {g h : Heap} {L : Addr} : News g L h (allNews g h L) := fun p hp => let ⟨a, b, c⟩ := Qaq hp; ⟨c, a, b⟩
end L2
namespace L2
open PySem PySem.Spec PyProof.Rows
structure Mod (K : PySem.W.Frag) (mg : Str → Option Value) (base : Heap) : Prop where
 kin : K.In base
 glob : base.Ns mainGlobals mg
 blt : ∃ mb, base.Ns builtinsNs mb ∧ ∀ x : Str, x ≠ "__name__" → mb x = bootBuiltins x
 nolimit : base.NoLimit
structure Cx where
 prog : Program
 w : World
 K : PySem.W.Frag
 mg : Str → Option Value
 base : Heap
 A : Around
 N : List Str
 s₀ : Shared
 H₀ : Hp
 env : Env
 outer : List Env
 stack : List Env
 ex : List Addr
 fn : Str → Bool
 calm : Bool
 pn : List (Addr × Obj)
 xe : Value → Shared → Prop
noncomputable def frs (l : List Env) : List Addr := l.filterMap (·.frame)
noncomputable abbrev Cx.fs (X : Cx) : List Addr := frs X.outer
def Vis (sc : Scope) (x : Str) : Prop := sc.names.lookup x = some .local ∨ sc.names.lookup x = some .cell ∨ sc.names.lookup x = some .free
def Loc (sc : Scope) (x : Str) : Prop := sc.names.lookup x = some .local ∨ sc.names.lookup x = some .cell
def Look (env : Env) (h : Heap) (m : Str → Option Value) (x : Str) (u : Value) : Prop :=
 (env.kindOf x = some .local ∧ m x = some u) ∨ ((env.kindOf x = some .cell ∨ env.kindOf x = some .free) ∧ ∃ c, env.cells.lookup x = some c ∧ h.IsCell c (some u))
structure Cx.Ok (X : Cx) : Prop where
 mod : Mod X.K X.mg X.base
 kind : X.env.scope.kind = .function
 glob : X.env.globals = mainGlobals
 blt : X.env.builtins = builtinsNs
 above : X.s₀.heap.objs.size ≤ X.env.locals
 inj : ∀ x y c, X.env.cells.lookup x = some c → X.env.cells.lookup y = some c → x = y
 has : ∀ x, (X.env.kindOf x = some .cell ∨ X.env.kindOf x = some .free) → ∃ c, X.env.cells.lookup x = some c
 cab : ∀ x c, X.fn x = true → X.env.cells.lookup x = some c → X.s₀.heap.objs.size ≤ c
 hd : X.calm = true → X.A.handled = none
 frames : X.A.frames = some X.stack
 stk : X.stack = X.outer ∨ (X.stack = X.env :: X.outer ∧ X.env.frame = some X.env.locals)
 exf : ∀ b ∈ X.ex, b ≠ X.env.locals ∧ ∀ x c, X.env.cells.lookup x = some c → c ≠ b
 bs : ∀ b o, X.base.get? b = some o → X.s₀.heap.get? b = some o ∧ X.H₀ b = none
 bsz : X.base.objs.size ≤ X.s₀.heap.objs.size
 noex : ∀ b o, X.base.get? b = some o → b ∉ X.ex
 exfs : ∀ b ∈ X.ex, b ∉ X.fs
 funs : X.s₀.heap.FunFrames X.base X.outer
 frf : ∀ b ∈ X.fs, X.H₀ b = none
structure Inv (X : Cx) (pins : List (Addr × Obj)) (σ : List (Option V)) (H : Hp) (s : Shared) : Prop where
 ok : X.Ok
 os : s.os = X.s₀.os
 bare : AllBare s.gens
 base : Un X.fs X.ex X.H₀ H X.s₀.heap s.heap
 loc : ∃ m, s.heap.Ns X.env.locals m ∧ ∀ (i : Nat) (x : Str) (v : V), X.N[i]? = some x → σ[i]? = some (some v) → Vis X.env.scope x → ∃ u, RelV v u ∧ Look X.env s.heap m x u
 cell : ∀ x c, X.env.cells.lookup x = some c → ∃ v, s.heap.IsCell c v
 free : H X.env.locals = none
 freeC : ∀ x c, X.env.cells.lookup x = some c → H c = none
 pin : ∀ p ∈ X.pn ++ pins, s.heap.get? p.1 = some p.2 ∧ H p.1 = none ∧ p.1 ≠ X.env.locals ∧ p.1 ∉ X.fs ∧ ∀ v, p.2.data ≠ .cell v
 hok : HOk X.prog X.w H s.heap
 len : σ.length = X.N.length
section
variable {X : Cx} {pins : List (Addr × Obj)} {σ : List (Option V)} {H H' : Hp} {s : Shared} {h' : Heap}
theorem Cx.Ok.nofr (ok : X.Ok) {b : Addr} {o : Obj} (e : X.base.get? b = some o) : b ∉ X.fs := fun hb => by
 have := (ok.funs.mem hb).1
 rw [e] at this; cases this
theorem Inv.bs (I : Inv X pins σ H s) : ∀ b o, X.base.get? b = some o → s.heap.get? b = some o ∧ H b = none := fun b o e =>
 ⟨I.base.keep b o (I.ok.bs b o e).1 (I.ok.bs b o e).2 (I.ok.nofr e) (I.ok.noex b o e), I.base.free b o (I.ok.bs b o e).1 (I.ok.bs b o e).2 (I.ok.noex b o e)⟩
theorem Inv.bk (I : Inv X pins σ H s) : ∀ b o, X.base.get? b = some o → s.heap.get? b = some o := fun b o e => (I.bs b o e).1
theorem Inv.mod (I : Inv X pins σ H s) : Mod X.K X.mg X.base := I.ok.mod
theorem Inv.kIn (I : Inv X pins σ H s) : X.K.In s.heap := I.ok.mod.kin.keeps I.bk
theorem Inv.nolimit (I : Inv X pins σ H s) : s.heap.NoLimit := I.ok.mod.nolimit.keeps I.bk
theorem Inv.fr (I : Inv X pins σ H s) : ∃ m, Fr X.base X.env.locals s.heap m :=
 let ⟨m, hn, _⟩ := I.loc
 ⟨m, hn, I.bk, Nat.le_trans I.ok.bsz I.ok.above⟩
theorem Inv.lt (I : Inv X pins σ H s) : X.env.locals < s.heap.objs.size := let ⟨_, hn, _⟩ := I.loc; hn.lt
theorem Inv.sz (I : Inv X pins σ H s) : X.s₀.heap.objs.size ≤ s.heap.objs.size := Nat.le_trans I.ok.above (Nat.le_of_lt I.lt)
theorem Inv.nofs (I : Inv X pins σ H s) {a : Addr} (h : s.heap.objs.size ≤ a) : a ∉ X.fs := fun hb => by
 obtain ⟨_, o, ho, _⟩ := I.ok.funs.mem hb
 exact absurd (Nat.lt_of_lt_of_le (Heap.lt_size ho) (Nat.le_trans I.sz h)) (Nat.lt_irrefl _)
theorem Inv.cne (I : Inv X pins σ H s) : ∀ x c, X.env.cells.lookup x = some c → c ≠ X.env.locals := fun x c e z => by
 obtain ⟨v, o, ho, hd⟩ := I.cell x c e
 obtain ⟨m, ⟨o', es, ep, ho', hd', _⟩, _⟩ := I.loc
 rw [z, ho'] at ho; cases ho; rw [hd'] at hd; cases hd
theorem Inv.funs (I : Inv X pins σ H s) : s.heap.FunFrames X.base X.outer := by
 have all : ∀ (l : List Env), (∀ b ∈ frs l, b ∈ X.fs) → X.s₀.heap.FunFrames X.base l → s.heap.FunFrames X.base l := by
  intro l
  induction l with
  | nil => intro _ _; trivial
  | cons env r ih =>
   intro hs hl
   obtain ⟨hk, ⟨L, o, hf, hn, ho, hd⟩, hr⟩ := hl
   have hL : L ∈ X.fs := hs L (by unfold frs; rw [List.filterMap_cons, hf]; exact List.mem_cons_self)
   obtain ⟨sl, e⟩ := I.base.slot L o ho (I.ok.frf L hL) hL fun z => I.ok.exfs L z hL
   exact ⟨hk, ⟨L, _, hf, hn, e, hd⟩, ih (fun b hb => hs b (by unfold frs; rw [List.filterMap_cons, hf]; exact List.mem_cons_of_mem _ hb)) hr⟩
 exact all X.outer (fun _ hb => hb) I.ok.funs
theorem Inv.stack (I : Inv X pins σ H s) : s.heap.FunFrames X.base X.stack := by
 rcases I.ok.stk with e | ⟨e, hf⟩
 ·rw [e]; exact I.funs
 ·rw [e]
  obtain ⟨m, hn, _⟩ := I.loc
  refine .cons (by rw [I.ok.kind]; decide) hf hn ?_ I.funs
  exact Heap.get?_none_of_le (Nat.le_trans I.ok.bsz I.ok.above)
theorem Inv.stkSub (I : Inv X pins σ H s) : ∀ b ∈ frs X.stack, b ∈ X.env.locals :: X.fs := fun b hb => by
 rcases I.ok.stk with e | ⟨e, hf⟩
 ·rw [e] at hb; exact List.mem_cons_of_mem _ hb
 ·rw [e] at hb
  unfold frs at hb
  rw [List.filterMap_cons, hf] at hb
  exact hb
theorem Inv.stkFree (I : Inv X pins σ H s) : ∀ b ∈ frs X.stack, H b = none := fun b hb => by
 rcases List.mem_cons.mp (I.stkSub b hb) with e | hb
 ·rw [e]; exact I.free
 ·obtain ⟨_, o, ho, _⟩ := I.ok.funs.mem hb
  exact I.base.free b o ho (I.ok.frf b hb) fun z => I.ok.exfs b z hb
theorem Inv.step {g' : Array GenState} {t' : Nat} {d' : Drawn} {ch : List Addr} (I : Inv X pins σ H s)
  (hch : ∀ b ∈ ch, (b ∈ X.ex ∨ X.s₀.heap.objs.size ≤ b) ∧ b ≠ X.env.locals ∧ (∀ x c, X.env.cells.lookup x = some c → c ≠ b) ∧ ∀ p ∈ X.pn ++ pins, p.1 ≠ b)
  (keep : ∀ b o, b ≠ X.env.locals → b ∉ X.fs → b ∉ ch → s.heap.get? b = some o → H b = none → h'.get? b = some o)
  (slot : ∀ b o, b ≠ X.env.locals → b ∈ X.fs → b ∉ ch → s.heap.get? b = some o → H b = none → ∃ sl, h'.get? b = some { o with slots := sl }) (free : ∀ b o, b ∉ ch → s.heap.get? b = some o → H b = none → H' b = none)
  (there : ∀ b o, b ∉ ch → s.heap.get? b = some o → ∃ o', h'.get? b = some o')
  (tups : ∀ b xs, H b = some (.tup xs) → H' b = some (.tup xs)) (frzs : ∀ b o u, H b = some (.frz o u) → H' b = some (.frz o u)) (tbls : ∀ b ps, H b = some (.tbl ps) → ∃ more, H' b = some (.tbl (ps ++ more)))
  (ns : ∀ m, s.heap.Ns X.env.locals m → h'.Ns X.env.locals m) (hok : HOk X.prog X.w H' h') (hg : AllBare g') :
  Inv X pins σ H' { s with heap := h', gens := g', drawn := d', toks := t' } := by
 have neL : ∀ b o, X.s₀.heap.get? b = some o → b ≠ X.env.locals := fun b o e => Nat.ne_of_lt (Nat.lt_of_lt_of_le (Heap.lt_size e) I.ok.above)
 have neC : ∀ b o, X.s₀.heap.get? b = some o → b ∉ X.ex → b ∉ ch := fun b o e hx hb => by
  rcases (hch b hb).1 with z | z
  ·exact hx z
  ·exact absurd (Nat.lt_of_lt_of_le (Heap.lt_size e) z) (Nat.lt_irrefl _)
 have cellK : ∀ x c, X.env.cells.lookup x = some c → ∀ v, s.heap.IsCell c v → h'.IsCell c v := fun x c e v pq1 => by
  obtain ⟨o, ho, hd⟩ := pq1
  have nch : c ∉ ch := fun z => (hch c z).2.2.1 x c e rfl
  by_cases hc : c ∈ X.fs
  ·obtain ⟨sl, q⟩ := slot c o (I.cne x c e) hc nch ho (I.freeC x c e)
   exact ⟨_, q, hd⟩
  ·exact ⟨o, keep c o (I.cne x c e) hc nch ho (I.freeC x c e), hd⟩
 refine ⟨I.ok, I.os, hg, ⟨fun b o e n hb hx => ?_, fun b o e n hb hx => ?_, fun b o e n hx => ?_, fun b o e hx => ?_, fun b xs e => tups b xs (I.base.tups b xs e), fun b o xs e => frzs b o xs (I.base.frzs b o xs e), fun b ps e => ?_⟩, ?_, fun x c e => ?_, ?_, fun x c e => ?_, fun p hp => ?_, hok, I.len⟩
 ·exact keep b o (neL b o e) hb (neC b o e hx) (I.base.keep b o e n hb hx) (I.base.free b o e n hx)
 ·obtain ⟨sl, e1⟩ := I.base.slot b o e n hb hx
  obtain ⟨sl', e2⟩ := slot b _ (neL b o e) hb (neC b o e hx) e1 (I.base.free b o e n hx)
  exact ⟨sl', e2⟩
 ·obtain ⟨o', e1⟩ := I.base.there b o e hx
  exact free b o' (neC b o e hx) e1 (I.base.free b o e n hx)
 ·obtain ⟨o', e1⟩ := I.base.there b o e hx
  exact there b o' (neC b o e hx) e1
 ·obtain ⟨m1, e1⟩ := I.base.tbls b ps e
  obtain ⟨m2, e2⟩ := tbls b _ e1
  exact ⟨m1 ++ m2, by rw [e2, Array.append_assoc]⟩
 ·obtain ⟨m, hn, hl⟩ := I.loc
  refine ⟨m, ns m hn, fun i x v e1 e2 e3 => ?_⟩
  obtain ⟨u, r, l⟩ := hl i x v e1 e2 e3
  refine ⟨u, r, ?_⟩
  rcases l with l | ⟨k, c, e, z⟩
  ·exact .inl l
  ·exact .inr ⟨k, c, e, cellK x c e _ z⟩
 ·obtain ⟨v, z⟩ := I.cell x c e
  exact ⟨v, cellK x c e v z⟩
 ·obtain ⟨m, ⟨o, _, _, ho, _⟩, _⟩ := I.loc
  exact free _ o (fun z => (hch _ z).2.1 rfl) ho I.free
 ·obtain ⟨v, o, ho, hd⟩ := I.cell x c e
  exact free c o (fun z => (hch c z).2.2.1 x c e rfl) ho (I.freeC x c e)
 ·obtain ⟨e, n, ne, nf, d⟩ := I.pin p hp
  have nch : p.1 ∉ ch := fun z => (hch p.1 z).2.2.2 p hp rfl
  exact ⟨keep p.1 p.2 ne nf nch e n, free p.1 p.2 nch e n, ne, nf, d⟩
theorem Inv.un {t' : Nat} (I : Inv X pins σ H s) (u : Un X.fs [] H H' s.heap h') (hok : HOk X.prog X.w H' h') : Inv X pins σ H' { s with heap := h', toks := t' } := by
 obtain ⟨m, ⟨o, es, ep, ho, r⟩, _⟩ := id I.loc
 obtain ⟨sl, hL⟩ := u.any ho I.free (by simp)
 exact I.step (g' := s.gens) (d' := s.drawn) (ch := []) (fun _ z => nomatch z) (fun b o _ hb _ e n => u.keep b o e n hb (by simp)) (fun b o _ hb _ e n => u.slot b o e n hb (by simp)) (fun b o _ e n => u.free b o e n (by simp)) (fun b o _ e => u.there b o e (by simp)) u.tups u.frzs u.tbls (fun m' hm => by
  obtain ⟨o', es', ep', ho', r'⟩ := hm
  rw [ho] at ho'; cases ho'
  exact ⟨_, es', ep', hL, r'⟩) hok I.bare
theorem Inv.call {g' : Array GenState} {t' : Nat} {d' : Drawn} {ch : List Addr} (I : Inv X pins σ H s) (u : Un (frs X.stack) ch H H' s.heap h') (hok : HOk X.prog X.w H' h') (hg : AllBare g')
  (hch : ∀ b ∈ ch, (b ∈ X.ex ∨ X.s₀.heap.objs.size ≤ b) ∧ b ≠ X.env.locals ∧ (∀ x c, X.env.cells.lookup x = some c → c ≠ b) ∧ ∀ p ∈ X.pn ++ pins, p.1 ≠ b) :
  Inv X pins σ H' { s with heap := h', gens := g', drawn := d', toks := t' } := by
 obtain ⟨m, ⟨o, es, ep, ho, r⟩, _⟩ := id I.loc
 obtain ⟨sl, hL⟩ := u.any ho I.free fun z => (hch _ z).2.1 rfl
 exact I.step (ch := ch) hch (fun b o hL hb hc e n => u.keep b o e n (fun z => (List.mem_cons.mp (I.stkSub b z)).elim hL hb) hc) (fun b o _ _ hc e n => u.any e n hc) (fun b o hc e n => u.free b o e n hc) (fun b o hc e => u.there b o e hc) u.tups u.frzs u.tbls (fun m' hm => by
  obtain ⟨o', es', ep', ho', r'⟩ := hm
  rw [ho] at ho'; cases ho'
  exact ⟨_, es', ep', hL, r'⟩) hok hg
theorem Inv.turned {t' : Nat} {it : Addr} (I : Inv X pins σ H s) (k : ∀ b o, b ≠ it → s.heap.get? b = some o → h'.get? b = some o) (hn : H it = none) (hL : it ≠ X.env.locals)
  (h1 : it ∈ X.ex ∨ X.s₀.heap.objs.size ≤ it) (h2 : ∀ x c, X.env.cells.lookup x = some c → c ≠ it) (h3 : ∀ p ∈ X.pn ++ pins, p.1 ≠ it) : Inv X pins σ H { s with heap := h', toks := t' } := by
 have nit : ∀ b u, H b = some u → b ≠ it := fun b u e z => by rw [z, hn] at e; cases e
 refine I.step (g' := s.gens) (d' := s.drawn) (ch := [it]) (fun b hb => ?_) (fun b o _ _ hc e _ => k b o (fun z => hc (by simp [z])) e) (fun b o _ _ hc e _ => ⟨o.slots, k b o (fun z => hc (by simp [z])) e⟩) (fun _ _ _ _ n => n)
  (fun b o hc e => ⟨o, k b o (fun z => hc (by simp [z])) e⟩) (fun _ _ e => e) (fun _ _ _ e => e) (fun b ps e => ⟨#[], by rw [e]; simp⟩) (fun m hm => ?_) (fun b u e => ?_) I.bare
 ·have e : b = it := by simpa using hb
  subst e
  exact ⟨h1, hL, h2, h3⟩
 ·obtain ⟨o, es, ep, ho, r⟩ := hm
  exact ⟨o, es, ep, k _ o (Ne.symm hL) ho, r⟩
 ·refine (I.hok b u e).stay (fun c v hc q => k c v ?_ q) (fun _ q => q) fun _ _ q => q
  rcases hc with z | z
  ·rw [z]; exact nit b u e
  ·exact nit c _ z
theorem Inv.tok (I : Inv X pins σ H s) (t : Nat) : Inv X pins σ H { s with toks := t } := I.un (h' := s.heap) (t' := t) Un.refl I.hok
theorem Inv.kept {t' : Nat} (I : Inv X pins σ H s) (k : ∀ b u, s.heap.get? b = some u → h'.get? b = some u) : Inv X pins σ H { s with heap := h', toks := t' } := I.un (Un.kept k) (I.hok.kept k)
theorem Inv.laid {a : Addr} {o : HO} {t' : Nat} (I : Inv X pins σ H s) (k : ∀ b u, s.heap.get? b = some u → h'.get? b = some u) (hp : s.heap.objs.size ≤ a) (new : ObjOk X.prog X.w (upd H a o) h' a o) :
  Inv X pins σ (upd H a o) { s with heap := h', toks := t' } := I.un (Un.laid k hp (I.hok.fresh hp)) (I.hok.laid k hp new)
theorem Inv.write {x e : Addr} {o : HO} {t' : Nat} (I : Inv X pins σ H s) (mu : Mut (H x)) (he : e = x ∨ H e = some (.own x)) (k : ∀ b u, b ≠ e → s.heap.get? b = some u → h'.get? b = some u) (heo : ∃ u, h'.get? e = some u)
  (new : ObjOk X.prog X.w (upd H x o) h' x o) : Inv X pins σ (upd H x o) { s with heap := h', toks := t' } := I.un (Un.write mu he k heo) (I.hok.write mu he k heo new)
theorem Inv.pins_of {pins' : List (Addr × Obj)} (I : Inv X pins σ H s) (h : ∀ p ∈ pins', s.heap.get? p.1 = some p.2 ∧ H p.1 = none ∧ p.1 ≠ X.env.locals ∧ p.1 ∉ X.fs ∧ ∀ v, p.2.data ≠ .cell v) : Inv X pins' σ H s :=
 ⟨I.ok, I.os, I.bare, I.base, I.loc, I.cell, I.free, I.freeC, fun p hp => (List.mem_append.mp hp).elim (fun z => I.pin p (List.mem_append_left _ z)) (h p), I.hok, I.len⟩
theorem Qas {N : List Str} (hN : N.Nodup) {i j : Nat} {x : Str} (a : N[i]? = some x) (b : N[j]? = some x) : i = j := by
 obtain ⟨h1, e1⟩ := List.getElem?_eq_some_iff.mp a
 obtain ⟨h2, e2⟩ := List.getElem?_eq_some_iff.mp b
 exact (List.getElem_inj hN).mp (e1.trans e2.symm)
theorem Qat {M : Model} {A : Around} {E : Value → Shared → Prop} {i : Nat} {x : Str} {v : V} {u : Value} {Q : Unit → Shared → Prop} (I : Inv X pins σ H s) (hN : X.N.Nodup) (hi : X.N[i]? = some x) (hx : Loc X.env.scope x) (r : RelV v u)
  (h : ∀ s', Inv X pins (σ.set i (some v)) H s' → (∃ a, Heap.SameBut a s.heap s'.heap ∧ (a = X.env.locals ∨ X.env.cells.lookup x = some a)) → Q () s') (hf : X.fn x = true ∨ X.env.scope.names.lookup x = some .local := by first | exact .inl rfl | exact .inr rfl | assumption) : wpAny M A (storeName X.env x u) Q E s := by
 obtain ⟨m, hn, hl⟩ := id I.loc
 have hcls : (X.env.scope.kind == .class || (X.env.scope.kind == .module && X.env.locals != X.env.globals)) = false := by rw [I.ok.kind]; rfl
 have hiσ : i < σ.length := by rw [I.len]; exact (List.getElem?_eq_some_iff.mp hi).1
 have cne := I.cne
 have tracked : ∀ {a : Addr} {h' : Heap}, (∃ o, s.heap.get? a = some o ∧ H a = none) → Heap.SameBut a s.heap h' → HOk X.prog X.w H h' := fun {a h'} ha hs b ob e => by
  obtain ⟨_, _, hfree⟩ := ha
  refine (I.hok b ob e).stay (fun c w' hc q => (hs.2 c ?_).trans q) (fun _ q => q) fun _ _ q => q
  rintro rfl
  rcases hc with rfl | hc
  ·rw [hfree] at e; cases e
  ·rw [hfree] at hc; cases hc
 rcases hx with hk | hk
 ·refine wpAny_storeName_local hk hn (fun h' hn' hs => ?_) hcls
  obtain ⟨oL, _, _, hoL, _⟩ := id hn
  refine h _ ⟨I.ok, I.os, I.bare, ⟨fun b o e n hb hx => ?_, fun b o e n hb hx => ?_, I.base.free, fun b o e hx => ?_, I.base.tups, I.base.frzs, I.base.tbls⟩, ⟨_, hn', fun j y v' e1 e2 e3 => ?_⟩, fun y c e => ?_, I.free, I.freeC, fun p hp => ?_, tracked ⟨oL, hoL, I.free⟩ hs, by simpa using I.len⟩ ⟨_, hs, .inl rfl⟩
  ·exact (hs.2 b (Nat.ne_of_lt (Nat.lt_of_lt_of_le (Heap.lt_size e) I.ok.above))).trans (I.base.keep b o e n hb hx)
  ·obtain ⟨sl, e1⟩ := I.base.slot b o e n hb hx
   exact ⟨sl, (hs.2 b (Nat.ne_of_lt (Nat.lt_of_lt_of_le (Heap.lt_size e) I.ok.above))).trans e1⟩
  ·obtain ⟨o', e1⟩ := I.base.there b o e hx
   exact ⟨o', (hs.2 b (Nat.ne_of_lt (Nat.lt_of_lt_of_le (Heap.lt_size e) I.ok.above))).trans e1⟩
  ·by_cases hj : j = i
   ·subst hj
    rw [hi] at e1; cases e1
    rw [List.getElem?_set_self hiσ] at e2
    cases e2
    exact ⟨u, r, .inl ⟨hk, by simp⟩⟩
   ·rw [List.getElem?_set_ne (Ne.symm hj)] at e2
    obtain ⟨u', r', q⟩ := hl j y v' e1 e2 e3
    refine ⟨u', r', ?_⟩
    rcases q with ⟨k, e⟩ | ⟨k, c, e, z⟩
    ·refine .inl ⟨k, ?_⟩
     have : y ≠ x := fun e => hj (Qas hN e1 (e ▸ hi))
     simp [this, e]
    ·exact .inr ⟨k, c, e, z.sameBut hs (cne y c e)⟩
  ·obtain ⟨w', z⟩ := I.cell y c e
   exact ⟨w', z.sameBut hs (cne y c e)⟩
  ·obtain ⟨e, n, ne, nf, d⟩ := I.pin p hp
   exact ⟨(hs.2 p.1 ne).trans e, n, ne, nf, d⟩
 ·have hfn : X.fn x = true := by
    rcases hf with z | z
    ·exact z
    ·rw [z] at hk; cases hk
  obtain ⟨c, hc⟩ := I.ok.has x (.inl hk)
  obtain ⟨w', z⟩ := I.cell x c hc
  refine wpAny_storeName_cell I.ok.kind hk hc z (fun h' hc' hs => ?_)
  obtain ⟨oc, hoc, hocd⟩ := id z
  refine h { s with heap := h' } ⟨I.ok, I.os, I.bare, ⟨fun b o e n hb hx => ?_, fun b o e n hb hx => ?_, I.base.free, fun b o e hx => ?_, I.base.tups, I.base.frzs, I.base.tbls⟩, ⟨m, hn.sameBut hs (Ne.symm (cne x c hc)), fun j y v' e1 e2 e3 => ?_⟩, fun y c' e => ?_, I.free, I.freeC, fun p hp => ?_, tracked ⟨oc, hoc, I.freeC x c hc⟩ hs, by simpa using I.len⟩ ⟨c, hs, .inr hc⟩
  ·exact (hs.2 b (Nat.ne_of_lt (Nat.lt_of_lt_of_le (Heap.lt_size e) (I.ok.cab x c hfn hc)))).trans (I.base.keep b o e n hb hx)
  ·obtain ⟨sl, e1⟩ := I.base.slot b o e n hb hx
   exact ⟨sl, (hs.2 b (Nat.ne_of_lt (Nat.lt_of_lt_of_le (Heap.lt_size e) (I.ok.cab x c hfn hc)))).trans e1⟩
  ·obtain ⟨o', e1⟩ := I.base.there b o e hx
   exact ⟨o', (hs.2 b (Nat.ne_of_lt (Nat.lt_of_lt_of_le (Heap.lt_size e) (I.ok.cab x c hfn hc)))).trans e1⟩
  ·by_cases hj : j = i
   ·subst hj
    rw [hi] at e1; cases e1
    rw [List.getElem?_set_self hiσ] at e2
    cases e2
    exact ⟨u, r, .inr ⟨.inl hk, c, hc, hc'⟩⟩
   ·rw [List.getElem?_set_ne (Ne.symm hj)] at e2
    obtain ⟨u', r', q⟩ := hl j y v' e1 e2 e3
    refine ⟨u', r', ?_⟩
    rcases q with q | ⟨k, c', e, z'⟩
    ·exact .inl q
    ·refine .inr ⟨k, c', e, z'.sameBut hs ?_⟩
     rintro rfl
     exact hj (Qas hN e1 (I.ok.inj _ _ _ e hc ▸ hi))
  ·by_cases hcc : c' = c
   ·subst hcc; exact ⟨_, hc'⟩
   ·obtain ⟨w2, z2⟩ := I.cell y c' e
    exact ⟨w2, z2.sameBut hs hcc⟩
  ·obtain ⟨e, n, ne, nf, d⟩ := I.pin p hp
   refine ⟨(hs.2 p.1 ?_).trans e, n, ne, nf, d⟩
   intro q
   rw [q, hoc] at e
   have q' : oc = p.2 := Option.some.inj e
   exact d w' (by rw [← q']; exact hocd)
theorem Qau {M : Model} {A : Around} {E : Value → Shared → Prop} {i : Nat} {x : Str} {v : V} {u : Value} {Q : Unit → Shared → Prop} (I : Inv X pins σ H s) (hN : X.N.Nodup) (hi : X.N[i]? = some x) (hx : Loc X.env.scope x) (r : RelV v u)
  (h : ∀ s', Inv X pins (σ.set i (some v)) H s' → Q () s') (hf : X.fn x = true ∨ X.env.scope.names.lookup x = some .local := by first | exact .inl rfl | exact .inr rfl | assumption) : wpAny M A (storeName X.env x u) Q E s :=
 Qat I hN hi hx r (fun s' I' _ => h s' I') hf
theorem Inv.call' {s' : Shared} {ch : List Addr} (I : Inv X pins σ H s) (ho : s'.os = s.os) (u : Un (frs X.stack) ch H H' s.heap s'.heap) (hok : HOk X.prog X.w H' s'.heap) (hg : AllBare s'.gens)
  (hch : ∀ b ∈ ch, (b ∈ X.ex ∨ X.s₀.heap.objs.size ≤ b) ∧ b ≠ X.env.locals ∧ (∀ x c, X.env.cells.lookup x = some c → c ≠ b) ∧ ∀ p ∈ X.pn ++ pins, p.1 ≠ b) : Inv X pins σ H' s' := by
 obtain ⟨h', g', d', t', o'⟩ := s'
 have e : o' = s.os := ho
 subst e
 exact I.call (g' := g') (t' := t') (d' := d') u hok hg hch
end
noncomputable abbrev XK := Value → Option Addr → Hp → Prop
noncomputable abbrev St := List (Option V)
noncomputable abbrev VK := V → Hp → Prop
noncomputable abbrev TE := St → Hp → VK → Prop
noncomputable abbrev TT := St → Hp → (Bool → Hp → Prop) → Prop
noncomputable abbrev TA := St → Hp → (List V → Hp → Prop) → Prop
structure Ends where
 nx : St → Hp → Prop
 rt : VK
 bk : St → Hp → Prop := fun _ _ => False
 ct : St → Hp → Prop := fun _ _ => False
noncomputable abbrev TS := Ends → St → Hp → Prop
def EP (X : Cx) (pins : List (Addr × Obj)) (σ : St) (Q : VK) (u : Value) (s' : Shared) : Prop := ∃ v H', Inv X pins σ H' s' ∧ RelV v u ∧ Q v H'
def TP (X : Cx) (pins : List (Addr × Obj)) (σ : St) (Q : Bool → Hp → Prop) (b : Bool) (s' : Shared) : Prop := ∃ H', Inv X pins σ H' s' ∧ Q b H'
def AP (X : Cx) (pins : List (Addr × Obj)) (σ : St) (Q : List V → Hp → Prop) (us : List Value) (s' : Shared) : Prop := ∃ vs H', Inv X pins σ H' s' ∧ Vals vs us ∧ Q vs H'
def SP (X : Cx) (pins : List (Addr × Obj)) (D : Ends) (f : Flow) (s' : Shared) : Prop :=
 match f with
 | .next => ∃ σ' H', Inv X pins σ' H' s' ∧ D.nx σ' H'
 | .brk => ∃ σ' H', Inv X pins σ' H' s' ∧ D.bk σ' H'
 | .cont => ∃ σ' H', Inv X pins σ' H' s' ∧ D.ct σ' H'
 | .ret u => ∃ v σ' H', Inv X pins σ' H' s' ∧ RelV v u ∧ D.rt v H'
def PE (X : Cx) (e : Expr) (t : TE) : Prop :=
 ∀ (pins : List (Addr × Obj)) (s : Shared) (σ : St) (H : Hp) (Q : VK), Inv X pins σ H s → t σ H Q → wpAny (model X.prog X.w) X.A (eval e X.env) (EP X pins σ Q) X.xe s
def PT (X : Cx) (e : Expr) (t : TT) : Prop :=
 ∀ (pins : List (Addr × Obj)) (s : Shared) (σ : St) (H : Hp) (Q : Bool → Hp → Prop), Inv X pins σ H s → t σ H Q → wpAny (model X.prog X.w) X.A (isTrue e X.env (eval e X.env)) (TP X pins σ Q) X.xe s
def PW (X : Cx) (e : Expr) (t : TT) : Prop :=
 ∀ (whole : Sem Value) (pins : List (Addr × Obj)) (s : Shared) (σ : St) (H : Hp) (Q : Bool → Hp → Prop), Inv X pins σ H s → t σ H Q → wpAny (model X.prog X.w) X.A (isTrue e X.env whole) (TP X pins σ Q) X.xe s
theorem PW.pt {X : Cx} {e : Expr} {t : TT} (h : PW X e t) : PT X e t := h _
def PA (X : Cx) (es : List Expr) (t : TA) : Prop :=
 ∀ (pos : Pos) (pins : List (Addr × Obj)) (s : Shared) (σ : St) (H : Hp) (Q : List V → Hp → Prop), Inv X pins σ H s → t σ H Q → wpAny (model X.prog X.w) X.A (spliced (backTo pos (starEach es X.env))) (AP X pins σ Q) X.xe s
def PS (X : Cx) (st : Stmt) (t : TS) : Prop :=
 ∀ (pins : List (Addr × Obj)) (s : Shared) (σ : St) (H : Hp) (D : Ends), Inv X pins σ H s → t D σ H → wpAny (model X.prog X.w) X.A (exec st X.env) (SP X pins D) X.xe s
def PSs (X : Cx) (st : List Stmt) (t : TS) : Prop :=
 ∀ (pins : List (Addr × Obj)) (s : Shared) (σ : St) (H : Hp) (D : Ends), Inv X pins σ H s → t D σ H → wpAny (model X.prog X.w) X.A (execs st X.env) (SP X pins D) X.xe s
theorem thn {α : Type} {t : Sem α} {Q Q' : α → Shared → Prop} {M : Model} {A : Around} {E : Value → Shared → Prop} {s : Shared} (h : wpAny M A t Q E s) (hQ : ∀ a s, Q a s → Q' a s) : wpAny M A t Q' E s := wpAny_mono h hQ fun _ _ x => x
end L2
namespace L2
open PySem PySem.Spec PyProof.Rows
section
variable {X : Cx}
noncomputable def tVar (i : Nat) : TE := fun σ H Q => ∃ v, σ[i]? = some (some v) ∧ Q v H
noncomputable def tC (v : V) : TE := fun _ H Q => Q v H
theorem Qav {i : Nat} {x : Str} {pos : Pos} (hN : X.N[i]? = some x) (hv : Vis X.env.scope x) (hd : (x == ("__debug__" : Str)) = false := by decide) (hcd : (x == ("__classdict__" : Str)) = false := by decide) : PE X (.Name x pos) (tVar i) := by
 intro pins s σ H Q I h
 obtain ⟨v, e, h⟩ := h
 obtain ⟨m, hn, hl⟩ := I.loc
 obtain ⟨u, r, l⟩ := hl i x v hN e hv
 have fin : EP X pins σ Q u s := ⟨v, H, I, r, h⟩
 rcases l with ⟨hk, hm⟩ | ⟨hk, c, hc, hcell⟩
 ·exact wpAny_Name (wpAny_loadName_local I.ok.kind hk hn hm fin) hd
 ·rcases hk with hk | hk
  ·exact wpAny_Name (wpAny_loadName_cell I.ok.kind hk hc hcell fin) hd
  ·exact wpAny_Name (wpAny_loadName_free I.ok.kind hk hc hcell fin hcd) hd
theorem Qaw {i j pos} : PE X (.Constant (.int i) j pos) (tC (.int i)) := fun _ _ _ H _ I h => wpAny_Constant_int ⟨.int i, H, I.tok _, ⟨_, rfl⟩, h⟩
theorem Qax {b j pos} : PE X (.Constant (.bool b) j pos) (tC (.bl b)) := fun _ _ _ H _ I h => Constant_bool ⟨.bl b, H, I, rfl, h⟩
def Gl (X : Cx) (x : Str) : Prop := X.env.kindOf x = some .globalImplicit
theorem Qay {E : Value → Shared → Prop} {pins : List (Addr × Obj)} {s : Shared} {σ : St} {H : Hp} {x : Str} {u : Value} {pos : Pos} {Q : Value → Shared → Prop} (I : Inv X pins σ H s) (hg : Gl X x) (hm : X.mg x = some u) (h : Q u s)
  (hd : (x == ("__debug__" : Str)) = false := by decide) : wpAny (model X.prog X.w) X.A (eval (.Name x pos) X.env) Q E s :=
 Calls.Name_function_global I.ok.kind hg (Calls.loadGlobal_global (by rw [I.ok.glob]; exact I.mod.glob.keeps I.bk) hm h) hd
theorem Qaz {E : Value → Shared → Prop} {pins : List (Addr × Obj)} {s : Shared} {σ : St} {H : Hp} {x : Str} {u : Value} {pos : Pos} {Q : Value → Shared → Prop} (I : Inv X pins σ H s) (hg : Gl X x) (hm : X.mg x = none) (hv : bootBuiltins x = some u) (h : Q u s)
  (hn : x ≠ "__name__" := by decide) (hd : (x == ("__debug__" : Str)) = false := by decide) : wpAny (model X.prog X.w) X.A (eval (.Name x pos) X.env) Q E s := by
 obtain ⟨mb, h1, h2⟩ := I.mod.blt
 exact Calls.Name_function_global I.ok.kind hg (Calls.loadGlobal_builtin (by rw [I.ok.glob]; exact I.mod.glob.keeps I.bk) hm (by rw [I.ok.blt]; exact h1.keeps I.bk) ((h2 x hn).trans hv) h) hd
theorem QaA {x : Str} {v : V} {u : Value} {pos : Pos} (hg : Gl X x) (hm : X.mg x = none) (hv : bootBuiltins x = some u) (r : RelV v u) (hn : x ≠ "__name__" := by decide) (hd : (x == ("__debug__" : Str)) = false := by decide) : PE X (.Name x pos) (tC v) :=
 fun _ _ _ H _ I h => Qaz I hg hm hv ⟨v, H, I, r, h⟩ hn hd
variable {a b : Expr} {ta tb : TE} {pos : Pos}
variable {tA tB' : TT} {rest : List Expr}
noncomputable def tOr (t u : TT) : TT := fun σ H Q => t σ H fun c H1 => if c = true then Q true H1 else u σ H1 Q
noncomputable def tNot (t : TT) : TT := fun σ H Q => t σ H fun c H1 => Q (!c) H1
theorem QaB (ha : PT X a tA) : PW X (.BoolOp .Or [a] pos) tA := by
 intro wh pins s σ H Q I h
 refine isTrue_or (thn (ha pins s σ H Q I h) fun c s1 e => ?_)
 cases c with
 | false => exact isTrue_or_nil e
 | true => exact e
theorem QaC (ha : PT X a tA) (hb : PW X (.BoolOp .Or (b :: rest) pos) tB') : PW X (.BoolOp .Or (a :: b :: rest) pos) (tOr tA tB') := by
 intro wh pins s σ H Q I h
 refine isTrue_or (thn (ha pins s σ H _ I h) fun c s1 pq2 => ?_)
 obtain ⟨H1, I1, q1⟩ := pq2
 cases c with
 | true => exact ⟨H1, I1, q1⟩
 | false => exact hb wh pins s1 σ H1 Q I1 q1
theorem QaD (ha : PT X a tA) : PT X (.UnaryOp .Not a pos) (tNot tA) := by
 intro pins s σ H Q I h
 exact isTrue_not (ha pins s σ H (fun c H1 => Q (!c) H1) I h)
noncomputable def tAndV (ta tb : TE) : TE := fun σ H Q => ta σ H fun x H1 => ∃ c, x = .bl c ∧ if c = true then tb σ H1 Q else Q (.bl false) H1
noncomputable def tOrV (ta tb : TE) : TE := fun σ H Q => ta σ H fun x H1 => ∃ c, x = .bl c ∧ if c = true then Q (.bl true) H1 else tb σ H1 Q
theorem QaE {op} {t : TE} (h : PE X a t) : PE X (.BoolOp op [a] pos) t := fun pins s σ H Q I hw => BoolOp_one (h pins s σ H Q I hw)
theorem QaF (ha : PE X a ta) (hb : PE X (.BoolOp .And (b :: rest) pos) tb) : PE X (.BoolOp .And (a :: b :: rest) pos) (tAndV ta tb) := by
 intro pins s σ H Q I h
 refine BoolOp_and (thn (ha pins s σ H _ I h) fun v s1 pq3 => ?_)
 obtain ⟨x, H1, I1, r1, q1⟩ := pq3
 obtain ⟨c, rfl, q1⟩ := q1
 cases r1
 refine wpAny_truthy_bool ?_
 cases c with
 | true => exact hb pins s1 σ H1 Q I1 q1
 | false => exact ⟨.bl false, H1, I1, rfl, q1⟩
theorem QaG (ha : PE X a ta) (hb : PE X (.BoolOp .Or (b :: rest) pos) tb) : PE X (.BoolOp .Or (a :: b :: rest) pos) (tOrV ta tb) := by
 intro pins s σ H Q I h
 refine BoolOp_or (thn (ha pins s σ H _ I h) fun v s1 pq4 => ?_)
 obtain ⟨x, H1, I1, r1, q1⟩ := pq4
 obtain ⟨c, rfl, q1⟩ := q1
 cases r1
 refine wpAny_truthy_bool ?_
 cases c with
 | false => exact hb pins s1 σ H1 Q I1 q1
 | true => exact ⟨.bl true, H1, I1, rfl, q1⟩
end
end L2
namespace L2
open PySem PySem.Spec PyProof.Rows
def SqL (K : PySem.W.Frag) (H : Hp) (a : Addr) (xs : List V) : Prop :=
 Rd H a (.lst xs) ∨
  ∃ (o : Obj) (its : Array Value) (n : Nat), K.lookup a = some o ∧ o.cls = .type "list" ∧ o.dict = none ∧ o.data = .seq its n ∧ its.size ≤ sizeLine ∧ Vals xs its.toList
def SqT (K : PySem.W.Frag) (H : Hp) (a : Addr) (xs : List V) : Prop :=
 Rd H a (.tup xs) ∨
  ∃ (o : Obj) (its : Array Value) (n : Nat), K.lookup a = some o ∧ o.cls = .type "tuple" ∧ o.data = .seq its n ∧ its.size ≤ sizeLine ∧ Vals xs its.toList
noncomputable def absV : Value → Option V
 | .none => some .non
 | .bool b => some (.bl b)
 | .int i _ => some (.int i)
 | .str x _ => some (.str x)
 | .bytes b _ => some (.byt b)
 | .float b _ => some (.flt b)
 | .ref a => some (.ref a)
 | .type n => some (.ty n)
 | _ => none
theorem RelV.abs {x : V} {u : Value} (r : RelV x u) : absV u = some x := by
 cases x with
 | non => cases r; rfl
 | bl _ => cases r; rfl
 | int _ => obtain ⟨t, rfl⟩ := r; rfl
 | str _ => obtain ⟨t, rfl⟩ := r; rfl
 | byt _ => obtain ⟨t, rfl⟩ := r; rfl
 | flt _ => obtain ⟨t, rfl⟩ := r; rfl
 | ref _ => cases r; rfl
 | ty _ => cases r; rfl
theorem RelV.inj {x y : V} {u : Value} (r : RelV x u) (q : RelV y u) : x = y := Option.some.inj (r.abs.symm.trans q.abs)
theorem Vals.inj : ∀ {xs ys : List V} {us : List Value}, Vals xs us → Vals ys us → xs = ys
 | _, _, _, .nil, .nil => rfl
 | _, _, _, .cons r t, .cons r' t' => by rw [r.inj r', Vals.inj t t']
section
variable {X : Cx} {pins : List (Addr × Obj)} {σ : St} {H : Hp} {s : Shared} {a : Addr} {xs ys : List V}
theorem SqL.of {K : PySem.W.Frag} (h : H a = some (.lst xs)) : SqL K H a xs := .inl (.inl h)
theorem SqT.of {K : PySem.W.Frag} (h : H a = some (.tup xs)) : SqT K H a xs := .inl (.inl h)
theorem Inv.list (I : Inv X pins σ H s) (h : SqL X.K H a xs) : ∃ its : List Value, Vals xs its ∧ PlainL s.heap a its.toArray ∧ xs.length ≤ sizeLine := by
 rcases h with h | ⟨o, its, n, hk, hc, hd, hs, hz, r⟩
 ·obtain ⟨z, its, n, r, e⟩ := h.ok I.hok
  exact ⟨its, r, ⟨_, n, e, rfl, rfl, rfl⟩, z⟩
 ·refine ⟨its.toList, r, ⟨o, n, I.kIn a o hk, hc, hd, by simpa using hs⟩, ?_⟩
  have e := r.length
  simp only [Array.length_toList] at e
  ac_nf
theorem Inv.tuple (I : Inv X pins σ H s) (h : SqT X.K H a xs) : ∃ its : List Value, Vals xs its ∧ IsTup s.heap a its.toArray ∧ xs.length ≤ sizeLine := by
 rcases h with h | ⟨o, its, n, hk, hc, hs, hz, r⟩
 ·obtain ⟨z, its, r, p⟩ := h.ok I.hok
  exact ⟨its, r, p, z⟩
 ·refine ⟨its.toList, r, ⟨o, I.kIn a o hk, hc, n, by simpa using hs⟩, ?_⟩
  have e := r.length
  simp only [Array.length_toList] at e
  ac_nf
theorem Inv.list_inj (I : Inv X pins σ H s) (h : SqL X.K H a xs) (h' : SqL X.K H a ys) : xs = ys := by
 obtain ⟨its, r, ⟨o, n, e, _, _, d⟩, _⟩ := I.list h
 obtain ⟨its', r', ⟨o', n', e', _, _, d'⟩, _⟩ := I.list h'
 rw [e] at e'; cases e'
 rw [d] at d'
 injection d' with d1 _
 have : its = its' := by simpa using congrArg Array.toList d1
 subst this
 exact r.inj r'
theorem Inv.tuple_inj (I : Inv X pins σ H s) (h : SqT X.K H a xs) (h' : SqT X.K H a ys) : xs = ys := by
 obtain ⟨its, r, ⟨o, e, _, n, d⟩, _⟩ := I.tuple h
 obtain ⟨its', r', ⟨o', e', _, n', d'⟩, _⟩ := I.tuple h'
 rw [e] at e'; cases e'
 rw [d] at d'
 injection d' with d1 _
 have : its = its' := by simpa using congrArg Array.toList d1
 subst this
 exact r.inj r'
end
noncomputable abbrev Cx.wish (X : Cx) (E : Value → Shared → Prop) : Cx := { X with xe := E }
noncomputable abbrev Cx.nox (X : Cx) : Cx := X.wish fun _ _ => False
theorem Cx.Ok.wish {X : Cx} (ok : X.Ok) (E : Value → Shared → Prop) : (X.wish E).Ok :=
 ⟨ok.mod, ok.kind, ok.glob, ok.blt, ok.above, ok.inj, ok.has, ok.cab, ok.hd, ok.frames, ok.stk, ok.exf, ok.bs, ok.bsz, ok.noex, ok.exfs, ok.funs, ok.frf⟩
theorem Cx.Ok.unwish {X : Cx} {E : Value → Shared → Prop} (ok : (X.wish E).Ok) : X.Ok :=
 ⟨ok.mod, ok.kind, ok.glob, ok.blt, ok.above, ok.inj, ok.has, ok.cab, ok.hd, ok.frames, ok.stk, ok.exf, ok.bs, ok.bsz, ok.noex, ok.exfs, ok.funs, ok.frf⟩
section
variable {X : Cx} {pins : List (Addr × Obj)} {σ : St} {H : Hp} {s : Shared} {E : Value → Shared → Prop}
theorem Inv.wish (I : Inv X pins σ H s) (E : Value → Shared → Prop) : Inv (X.wish E) pins σ H s := ⟨I.ok.wish E, I.os, I.bare, I.base, I.loc, I.cell, I.free, I.freeC, I.pin, I.hok, I.len⟩
theorem Inv.unwish (I : Inv (X.wish E) pins σ H s) : Inv X pins σ H s := ⟨I.ok.unwish, I.os, I.bare, I.base, I.loc, I.cell, I.free, I.freeC, I.pin, I.hok, I.len⟩
theorem SP.unwish {D : Ends} {f : Flow} {s' : Shared} (h : SP (X.wish E) pins D f s') : SP X pins D f s' := by
 cases f with
 | next => obtain ⟨σ', H', I, q⟩ := h; exact ⟨σ', H', I.unwish, q⟩
 | brk => obtain ⟨σ', H', I, q⟩ := h; exact ⟨σ', H', I.unwish, q⟩
 | cont => obtain ⟨σ', H', I, q⟩ := h; exact ⟨σ', H', I.unwish, q⟩
 | ret u => obtain ⟨v, σ', H', I, r, q⟩ := h; exact ⟨v, σ', H', I.unwish, r, q⟩
theorem PE.nox {e : Expr} {t : TE} (h : PE X.nox e t) : PE X e t := fun pins s σ H Q I hw =>
 wpAny_mono (h pins s σ H Q (I.wish _) hw) (fun _ _ pq5 => by obtain ⟨v, H', I', r, q⟩ := pq5; exact ⟨v, H', I'.unwish, r, q⟩) fun _ _ z => False.elim z
theorem PT.nox {e : Expr} {t : TT} (h : PT X.nox e t) : PT X e t := fun pins s σ H Q I hw =>
 wpAny_mono (h pins s σ H Q (I.wish _) hw) (fun _ _ pq6 => by obtain ⟨H', I', q⟩ := pq6; exact ⟨H', I'.unwish, q⟩) fun _ _ z => False.elim z
theorem PSs.nox {st : List Stmt} {t : TS} (h : PSs X.nox st t) : PSs X st t := fun pins s σ H D I hw =>
 wpAny_mono (h pins s σ H D (I.wish _) hw) (fun _ _ q => q.unwish) fun _ _ z => False.elim z
end
section
variable {X : Cx} {st : Stmt} {rest : List Stmt} {t u : TS} {e : Expr} {te : TE} {pos : Pos}
noncomputable def tNext : TS := fun D σ H => D.nx σ H
noncomputable def tSeq (t u : TS) : TS := fun D σ H => t { D with nx := u D } σ H
theorem QaH : PSs X [] tNext := fun _ _ σ H _ I h => wpAny_execs_nil ⟨σ, H, I, h⟩
theorem QaI (h1 : PS X st t) (h2 : PSs X rest u) : PSs X (st :: rest) (tSeq t u) := by
 intro pins s σ H D I h
 refine wpAny_execs_cons (thn (h1 pins s σ H { D with nx := u D } I h) fun f s1 q => ?_)
 cases f with
 | next =>
  obtain ⟨σ', H', I', q⟩ := q
  exact h2 pins s1 σ' H' D I' q
 | ret v => exact q
 | brk => exact q
 | cont => exact q
theorem Inv.quiet {pins : List (Addr × Obj)} {σ : St} {H : Hp} {s : Shared} (I : Inv X pins σ H s) : interactive X.env = false := by simp [interactive, I.ok.kind]
noncomputable def tDrop (te : TE) : TS := fun D σ H => te σ H fun _ H1 => D.nx σ H1
theorem QaJ (he : PE X e te) (hs : swapsWith e none pos.line X.env = pure false := by rfl) : PS X (.Expr e pos) (tDrop te) := by
 intro pins s σ H D I h
 exact wpAny_Expr_any (thn (he pins s σ H _ I h) fun v s1 pq7 => by obtain ⟨x, H1, I1, r1, q1⟩ := pq7; exact ⟨σ, H1, I1, q1⟩) I.quiet hs
noncomputable def tRet (te : TE) : TS := fun D σ H => te σ H D.rt
theorem QaK (he : PE X e te) : PS X (.Return (some e) pos) (tRet te) := by
 intro pins s σ H D I h
 exact wpAny_Return_some (thn (he pins s σ H _ I h) fun v s1 pq8 => by obtain ⟨x, H1, I1, r1, q1⟩ := pq8; exact ⟨x, σ, H1, I1, r1, q1⟩)
noncomputable def tIfS (c : TT) (t u : TS) : TS := fun D σ H => c σ H fun b H1 => if b = true then t D σ H1 else u D σ H1
theorem QaL {c : Expr} {a b : List Stmt} {tc : TT} (hc : PT X c tc) (ha : PSs X a t) (hb : PSs X b u) : PS X (.If c a b pos) (tIfS tc t u) := by
 intro pins s σ H D I h
 refine wpAny_If (thn (hc pins s σ H _ I h) fun d s1 pq9 => ?_)
 obtain ⟨H1, I1, q1⟩ := pq9
 cases d with
 | true => exact ha pins s1 σ H1 D I1 q1
 | false => exact hb pins s1 σ H1 D I1 q1
end
noncomputable abbrev TG := V → St → Hp → (St → Hp → Prop) → Prop
noncomputable abbrev TGs := List V → St → Hp → (St → Hp → Prop) → Prop
def PG (X : Cx) (target : Expr) (t : TG) : Prop :=
 ∀ (pins : List (Addr × Obj)) (s : Shared) (σ : St) (H : Hp) (v : V) (u : Value) (Q : St → Hp → Prop), Inv X pins σ H s → RelV v u → t v σ H Q →
  wpAny (model X.prog X.w) X.A (assign target X.env u) (fun _ s' => ∃ σ' H', Inv X pins σ' H' s' ∧ Q σ' H') X.xe s
def PGs (X : Cx) (ts : List Expr) (t : TGs) : Prop :=
 ∀ (pins : List (Addr × Obj)) (s : Shared) (σ : St) (H : Hp) (vs : List V) (us : List Value) (Q : St → Hp → Prop), Inv X pins σ H s → Vals vs us → t vs σ H Q →
  wpAny (model X.prog X.w) X.A (assignInOrder ((assignEach ts X.env).map (·.2)) us) (fun _ s' => ∃ σ' H', Inv X pins σ' H' s' ∧ Q σ' H') X.xe s
noncomputable abbrev TSet := V → V → V → Hp → (Hp → Prop) → Prop
def PSet (X : Cx) (t : TSet) : Prop :=
 ∀ (pins : List (Addr × Obj)) (s : Shared) (σ : St) (H : Hp) (o i v : V) (ov iv u : Value) (Q : Hp → Prop), Inv X pins σ H s → RelV o ov → RelV i iv → RelV v u → t o i v H Q →
  wpAny (model X.prog X.w) X.A (setItem ov iv u) (fun _ s' => ∃ H', Inv X pins σ H' s' ∧ Q H') X.xe s
section
variable {X : Cx} {pos : Pos}
noncomputable def gName (i : Nat) : TG := fun v σ H Q => Q (σ.set i (some v)) H
theorem QaM {i : Nat} {x : Str} (hN : X.N.Nodup) (hi : X.N[i]? = some x) (hx : Loc X.env.scope x) (hf : X.fn x = true ∨ X.env.scope.names.lookup x = some .local := by first | exact .inl rfl | exact .inr rfl | assumption) : PG X (.Name x pos) (gName i) := by
 intro pins s σ H v u Q I r h
 exact wpAny_assign_Name (Qau I hN hi hx r (fun s' I' => ⟨_, H, I', h⟩) hf)
noncomputable def gNil : TGs := fun vs σ H Q => vs = [] ∧ Q σ H
noncomputable def gCons (t : TG) (u : TGs) : TGs := fun vs σ H Q => ∃ v r, vs = v :: r ∧ t v σ H fun σ' H' => u r σ' H' Q
theorem QaN : PGs X [] gNil := by
 intro pins s σ H vs us Q I r h
 obtain ⟨e, h⟩ := h
 subst e
 cases r
 exact assignInOrder_nil ⟨σ, H, I, h⟩
theorem QaO {e : Expr} {es : List Expr} {t : TG} {u : TGs} (h1 : PG X e t) (h2 : PGs X es u)
  (hs : (assignEach (e :: es) X.env).map (·.2) = assign e X.env :: (assignEach es X.env).map (·.2) := by rfl) : PGs X (e :: es) (gCons t u) := by
 intro pins s σ H vs us Q I r h
 obtain ⟨v, vr, e1, h⟩ := h
 subst e1
 cases r with
 | cons r rr =>
  rw [hs]
  refine assignInOrder_cons (thn (h1 pins s σ H _ _ _ I r h) fun _ s1 pq10 => ?_)
  obtain ⟨σ1, H1, I1, q1⟩ := pq10
  exact h2 pins s1 σ1 H1 _ _ Q I1 rr q1
noncomputable def gTup (K : PySem.W.Frag) (n : Nat) (t : TGs) : TG := fun v σ H Q => ∃ a xs, v = .ref a ∧ SqT K H a xs ∧ xs.length = n ∧ t xs σ H Q
theorem QaP {es : List Expr} {k : Nat} {t : TGs} {n : Nat} (hc : X.calm = true) (h : PGs X es t)
  (hn : (assignEach es X.env).length = n := by rfl) (hst : (assignEach es X.env).findIdx? (·.1) = none := by rfl) : PG X (.Tuple es k pos) (gTup X.K n t) := by
 intro pins s σ H v u Q I r hw
 obtain ⟨a, xs, e1, hq, hl, hw⟩ := hw
 subst e1
 cases r
 obtain ⟨its, rv, ht, hz⟩ := I.tuple hq
 refine assign_Tuple_tuple (I.ok.hd hc) ht (by simp [hn, ← hl, rv.length]) hst fun h' hx => ?_
 have I1 : Inv X pins σ H { s with heap := h' } := I.kept (t' := s.toks) fun b o e => hx b o (Nat.ne_of_lt (Heap.lt_size e)) e
 exact h pins _ σ H xs _ Q I1 (by simpa using rv) hw
noncomputable def gSub (to ti : TE) (t : TSet) : TG := fun v σ H Q => to σ H fun o H1 => ti σ H1 fun i H2 => t o i v H2 fun H3 => Q σ H3
theorem QaQ {o i : Expr} {to ti : TE} {t : TSet} (ho : PE X o to) (hi : PE X i ti) (hs : PSet X t)
  (ha : ∀ v, assign (.Subscript o i pos) X.env v = (do
   let ov ← holding [v] (eval o X.env)
   let iv ← holding [v, ov] (eval i X.env)
   standAt pos
   holding [v, ov, iv] (setItem ov iv v)
   release [v, ov, iv] []) := by intro _; rfl) : PG X (.Subscript o i pos) (gSub to ti t) := by
 intro pins s σ H v u Q I r h
 rw [ha]
 refine wpAny_bind (wpAny_holding (thn (ho pins s σ H _ I h) fun ov s1 pq11 => ?_))
 obtain ⟨x, H1, I1, r1, q1⟩ := pq11
 refine wpAny_bind (wpAny_holding (thn (hi pins s1 σ H1 _ I1 q1) fun iv s2 pq12 => ?_))
 obtain ⟨y, H2, I2, r2, q2⟩ := pq12
 refine wpAny_bind (wpAny_standAt (wpAny_bind (wpAny_holding (thn (hs pins s2 σ H2 x y v ov iv u _ I2 r1 r2 r q2) fun _ s3 pq13 => ?_))))
 obtain ⟨H3, I3, q3⟩ := pq13
 exact wpAny_release ⟨σ, H3, I3, q3⟩
noncomputable def tAsg (te : TE) (g : TG) : TS := fun D σ H => te σ H fun x H1 => g x σ H1 D.nx
theorem QaR {tg e : Expr} {te : TE} {g : TG} (he : PE X e te) (hg : PG X tg g) (hs : swapsWithSole [tg] e pos.line X.env = pure false := by rfl) (hw : swappedStores [tg] e X.env = pure none := by rfl)
  (h1 : (assignEach [tg] X.env).map (·.2) = [assign tg X.env] := by rfl) : PS X (.Assign [tg] e pos) (tAsg te g) := by
 intro pins s σ H D I h
 refine wpAny_Assign_stores (thn (he pins s σ H _ I h) fun v s1 ⟨x, H1, I1, r1, q1⟩ => ?_) hs hw
 rw [h1]
 exact thn (hg pins s1 σ H1 x v _ I1 r1 q1) fun _ s2 q => q
theorem QaS {i : Nat} {x : Str} {e : Expr} {te : TE} {pos' : Pos} (hN : X.N.Nodup) (hi : X.N[i]? = some x) (hx : Loc X.env.scope x) (he : PE X e te) (hs : swapsWith e (some (.Name x pos')) pos.line X.env = pure false := by rfl) (hf : X.fn x = true ∨ X.env.scope.names.lookup x = some .local := by first | exact .inl rfl | exact .inr rfl | assumption) :
  PS X (.Assign [.Name x pos'] e pos) (tAsg te (gName i)) := by
 intro pins s σ H D I h
 refine wpAny_Assign_Name (thn (he pins s σ H _ I h) fun v s1 ⟨y, H1, I1, r1, q1⟩ => ?_) hs
 exact Qau I1 hN hi hx r1 (fun s2 I2 => ⟨_, H1, I2, q1⟩) hf
end
section
variable {X : Cx} {pos : Pos}
end
structure It where
 go : Nat → Hp → Prop
 yld : Nat → Hp → V → Hp → Prop
 stop : Nat → Hp → Prop
def FpOk (X : Cx) (pins : List (Addr × Obj)) (H : Hp) (b : Addr) : Prop :=
 H b = none ∧ b ≠ X.env.locals ∧ b ∉ X.fs ∧ (b ∈ X.ex ∨ X.s₀.heap.objs.size ≤ b) ∧ (∀ x c, X.env.cells.lookup x = some c → c ≠ b) ∧ ∀ p ∈ X.pn ++ pins, p.1 ≠ b
theorem Inv.fpOk {X : Cx} {pins : List (Addr × Obj)} {σ : St} {H H' : Hp} {s : Shared} {b : Addr} (I : Inv X pins σ H s) (hb : s.heap.objs.size ≤ b) (hn : H' b = none) : FpOk X pins H' b := by
 refine ⟨hn, Nat.ne_of_gt (Nat.lt_of_lt_of_le I.lt hb), I.nofs hb, .inr (Nat.le_trans I.sz hb), fun x c e z => ?_, fun p hp z => ?_⟩
 ·obtain ⟨v, q⟩ := I.cell x c e
  exact absurd (Nat.lt_of_lt_of_le q.lt (by rw [z]; exact hb)) (Nat.lt_irrefl _)
 ·exact absurd (Nat.lt_of_lt_of_le (Heap.lt_size (I.pin p hp).1) (by rw [z]; exact hb)) (Nat.lt_irrefl _)
structure Turn (P : Program) (w : World) (K : PySem.W.Frag) (tg : Expr) (J : It) (fp : List Addr) (it : Addr) (tn : Nat → Heap → Prop) : Prop where
 mem : it ∈ fp
 obj : ∀ i h, tn i h → ∀ b ∈ fp, ∃ o, h.get? b = some o ∧ ∀ v, o.data ≠ .cell v
 keep : ∀ i h h', tn i h → (∀ b ∈ fp, ∀ o, h.get? b = some o → h'.get? b = some o) → tn i h'
 item : ∀ (X : Cx), X.prog = P → X.w = w → X.K = K → X.calm = true → ∀ (i : Nat) (pins : List (Addr × Obj)) (s : Shared) (σ : St) (H : Hp) (E : Value → Shared → Prop), Inv X pins σ H s → (∀ b ∈ fp, FpOk X pins H b) → tn i s.heap → J.go i H →
  wpAny (model P w) X.A (pyNext (.ref it)) (fun r s1 => ∃ u, r = some u ∧
   wpAny (model P w) X.A (letOwnedTupleGo tg (.ref it) u) (fun _ s2 => ∃ x H', Inv X pins σ H' s2 ∧ RelV x u ∧ J.yld i H x H' ∧ tn (i + 1) s2.heap ∧ ∀ b ∈ fp, H' b = none) E s1) E s
 done : ∀ (X : Cx), X.prog = P → X.w = w → X.K = K → X.calm = true → ∀ (i : Nat) (pins : List (Addr × Obj)) (s : Shared) (σ : St) (H : Hp) (E : Value → Shared → Prop), Inv X pins σ H s → (∀ b ∈ fp, FpOk X pins H b) → tn i s.heap → J.stop i H →
  wpAny (model P w) X.A (pyNext (.ref it)) (fun r s1 => r = none ∧ Inv X pins σ H s1) E s
 self : ∀ (A : Around) (i : Nat) (s : Shared) (Q : Value → Shared → Prop) (E : Value → Shared → Prop), tn i s.heap → Q (.ref it) s → wpAny (model P w) A (pyIter (.ref it)) Q E s
noncomputable abbrev TI := St → Hp → (It → Hp → Prop) → Prop
def PIE (X : Cx) (pins : List (Addr × Obj)) (σ : St) (tg : Expr) (R : It → Hp → Prop) (itv : Value) (s2 : Shared) : Prop :=
 ∃ (it : Addr) (fp : List Addr) (tn : Nat → Heap → Prop) (J : It) (H' : Hp), itv = .ref it ∧ Inv X pins σ H' s2 ∧ Turn X.prog X.w X.K tg J fp it tn ∧ tn 0 s2.heap ∧ (∀ b ∈ fp, FpOk X pins H' b) ∧ R J H'
def PI (X : Cx) (tg iter : Expr) (wi : TI) : Prop :=
 ∀ (pins : List (Addr × Obj)) (s : Shared) (σ : St) (H : Hp) (R : It → Hp → Prop), Inv X pins σ H s → wi σ H R →
  wpAny (model X.prog X.w) X.A (eval iter X.env) (fun v s1 => wpAny (model X.prog X.w) X.A (pyIter v) (PIE X pins σ tg R) X.xe s1) X.xe s
theorem QaT {M : Model} {A : Around} {E : Value → Shared → Prop} {s : Shared} {tg : Expr} {it : Addr} {u : Value} {o : Obj} {n : String} {vs : Array Value} {Q : Unit → Shared → Prop} (ho : s.heap.get? it = some o) (hc : o.cls = .type n) (hd : o.data = .fields vs)
  (hn : ["enumerate", "zip", "dict_itemiterator", "dict_reverseitemiterator", "odict_iterator", "itertools.zip_longest", "itertools.pairwise"].contains n = false) (hQ : Q () s) : wpAny M A (letOwnedTupleGo tg (.ref it) u) Q E s := by
 unfold letOwnedTupleGo
 cases tg <;> first
  | exact wpAny_pure hQ
  | (cases u <;> first
    | exact wpAny_pure hQ
    | (refine wpAny_bind (wpAny_load ho ?_)
       rw [hc, hd]
       show wpAny M A (if (["enumerate", "zip", "dict_itemiterator", "dict_reverseitemiterator", "odict_iterator", "itertools.zip_longest", "itertools.pairwise"].contains n && vs[0]? == some (rawInt _)) = true then _ else _) Q E s
       rw [if_neg (by intro h; rw [hn, Bool.false_and] at h; cases h)]
       exact wpAny_pure hQ))
noncomputable def Itl (K : PySem.W.Frag) (a : Addr) : It :=
 ⟨fun i H => ∃ xs x, SqL K H a xs ∧ xs[i]? = some x, fun i H x H' => H' = H ∧ ∀ xs, SqL K H a xs → xs[i]? = some x, fun i H => ∃ xs, SqL K H a xs ∧ xs.length ≤ i⟩
noncomputable def Itt (K : PySem.W.Frag) (a : Addr) : It :=
 ⟨fun i H => ∃ xs x, SqT K H a xs ∧ xs[i]? = some x, fun i H x H' => H' = H ∧ ∀ xs, SqT K H a xs → xs[i]? = some x, fun i H => ∃ xs, SqT K H a xs ∧ xs.length ≤ i⟩
noncomputable def Itr (lo : Int) (n : Nat) : It := ⟨fun i _ => i < n, fun i H x H' => H' = H ∧ x = .int (lo + i), fun i _ => n ≤ i⟩
theorem QaU {P : Program} {w : World} {K : PySem.W.Frag} {tg : Expr} (a it : Addr) : Turn P w K tg (Itl K a) [it] it (fun i h => h.IsListIter it a i) where
 mem := by simp
 obj := fun i h st b hb => by
  have e : b = it := by simpa using hb
  subst e
  obtain ⟨o, e, c, d⟩ := st
  exact ⟨o, e, fun v z => by rw [d] at z; cases z⟩
 keep := fun i h h' st k => st.at fun o e => k it (by simp) o e
 item := by
  intro X hP hw hK hc i pins s σ H E I hf st hg
  subst hP hw hK
  obtain ⟨xs, x, hq, hx⟩ := hg
  obtain ⟨its, rv, p, hz⟩ := I.list hq
  obtain ⟨u, hu, ru⟩ := rv.get hx
  obtain ⟨f0, f1, f2, f3, f4, f5⟩ := hf it (by simp)
  refine wpAny_pyNext_list_item st p.isList (x := u) (by simpa using hu) fun h' st' sb => ?_
  have I1 : Inv X pins σ H { s with heap := h' } := I.turned (t' := s.toks) (fun b o hb e => (sb.2 b hb).trans e) f0 f1 f3 f4 f5
  obtain ⟨o, e, c, d⟩ := id st'
  exact ⟨u, rfl, QaT (s := { s with heap := h' }) e c d (by decide) ⟨x, H, I1, ru, ⟨rfl, fun ys hy => by rw [I.list_inj hy hq]; exact hx⟩, st', fun b hb => (hf b hb).1⟩⟩
 done := by
  intro X hP hw hK hc i pins s σ H E I hf st hg
  subst hP hw hK
  obtain ⟨xs, hq, hx⟩ := hg
  obtain ⟨its, rv, p, hz⟩ := I.list hq
  obtain ⟨f0, f1, f2, f3, f4, f5⟩ := hf it (by simp)
  have hl := rv.length
  exact wpAny_pyNext_list_end (I.ok.hd hc) st p.isList (by simp; ac_nf) fun h' eb => ⟨rfl, I.turned (t' := s.toks) (fun b o hb e => eb b o hb e) f0 f1 f3 f4 f5⟩
 self := fun _ _ _ _ _ st h => wpAny_pyIter_listiter st h
theorem QaV {P : Program} {w : World} {K : PySem.W.Frag} {tg : Expr} (a it : Addr) : Turn P w K tg (Itt K a) [it] it (fun i h => h.IsTupleIter it a i) where
 mem := by simp
 obj := fun i h st b hb => by
  have e : b = it := by simpa using hb
  subst e
  obtain ⟨o, e, c, d⟩ := st
  exact ⟨o, e, fun v z => by rw [d] at z; cases z⟩
 keep := fun i h h' st k => st.at fun o e => k it (by simp) o e
 item := by
  intro X hP hw hK hc i pins s σ H E I hf st hg
  subst hP hw hK
  obtain ⟨xs, x, hq, hx⟩ := hg
  obtain ⟨its, rv, p, hz⟩ := I.tuple hq
  obtain ⟨u, hu, ru⟩ := rv.get hx
  obtain ⟨f0, f1, f2, f3, f4, f5⟩ := hf it (by simp)
  refine wpAny_pyNext_tuple_item st (show s.heap.IsTuple a its.toArray from p) (x := u) (by simpa using hu) fun h' st' sb => ?_
  have I1 : Inv X pins σ H { s with heap := h' } := I.turned (t' := s.toks) (fun b o hb e => (sb.2 b hb).trans e) f0 f1 f3 f4 f5
  obtain ⟨o, e, c, d⟩ := id st'
  exact ⟨u, rfl, QaT (s := { s with heap := h' }) e c d (by decide) ⟨x, H, I1, ru, ⟨rfl, fun ys hy => by rw [I.tuple_inj hy hq]; exact hx⟩, st', fun b hb => (hf b hb).1⟩⟩
 done := by
  intro X hP hw hK hc i pins s σ H E I hf st hg
  subst hP hw hK
  obtain ⟨xs, hq, hx⟩ := hg
  obtain ⟨its, rv, p, hz⟩ := I.tuple hq
  obtain ⟨f0, f1, f2, f3, f4, f5⟩ := hf it (by simp)
  have hl := rv.length
  exact wpAny_pyNext_tuple_end (I.ok.hd hc) st (show s.heap.IsTuple a its.toArray from p) (by simp; ac_nf) fun h' eb => ⟨rfl, I.turned (t' := s.toks) (fun b o hb e => eb b o hb e) f0 f1 f3 f4 f5⟩
 self := fun _ _ _ _ _ st h => wpAny_pyIter_tupleiter st h
theorem QaW {P : Program} {w : World} {K : PySem.W.Frag} {tg : Expr} (it : Addr) (lo : Int) (n : Nat) : Turn P w K tg (Itr lo n) [it] it (fun i h => IsRangeIter h it (lo + (i : Nat) * 1) ((n : Int) - (i : Nat)) 1) where
 mem := by simp
 obj := fun i h st b hb => by
  have e : b = it := by simpa using hb
  subst e
  exact ⟨_, st, fun v z => by
   have z' : Data.fields _ = Data.cell v := z
   cases z'⟩
 keep := fun i h h' st k => k it (by simp) _ st
 item := by
  intro X hP hw hK hc i pins s σ H E I hf st hg
  subst hP hw hK
  obtain ⟨f0, f1, f2, f3, f4, f5⟩ := hf it (by simp)
  have W := Walks.range (prog := X.prog) (w := X.w) (I.ok.hd hc) it lo 1 n
  refine W.item i s _ _ hg st fun v h' tk hv st' kk => ?_
  obtain ⟨t, rfl⟩ := hv
  have I1 : Inv X pins σ H { s with heap := h', toks := tk } := I.turned (fun b o hb e => kk b o (by simpa using hb) e) f0 f1 f3 f4 f5
  refine ⟨_, rfl, QaT (s := { s with heap := h', toks := tk }) (n := "range_iterator") st' rfl rfl (by decide) ⟨.int (lo + i), H, I1, ⟨t, ?_⟩, ⟨rfl, rfl⟩, st', fun b hb => (hf b hb).1⟩⟩
  rw [Int.mul_one]
 done := by
  intro X hP hw hK hc i pins s σ H E I hf st hg
  subst hP hw hK
  obtain ⟨f0, f1, f2, f3, f4, f5⟩ := hf it (by simp)
  exact wpAny_pyNext_range_end (I.ok.hd hc) st (by have : n ≤ i := hg; ac_nf) fun h' eb => ⟨rfl, I.turned (t' := s.toks) (fun b o hb e => eb b o hb e) f0 f1 f3 f4 f5⟩
 self := fun _ _ _ _ _ st h => wpAny_pyIter_rangeiter st h
end L2
namespace L2
open PySem PySem.Spec PyProof.Rows
section
variable {X : Cx} {tg : Expr}
theorem QaX {pins : List (Addr × Obj)} {σ : St} {H : Hp} {s : Shared} {R : It → Hp → Prop} {E : Value → Shared → Prop} {lo hi : Int} {t u v : Tok} {tk : Nat} (I : Inv X pins σ H s) (h1 : -(2 ^ 62) ≤ lo) (h2 : lo < 2 ^ 62) (h3 : -(2 ^ 62) ≤ hi) (h4 : hi < 2 ^ 62)
  (q : R (Itr lo (hi - lo).toNat) H) : wpAny (model X.prog X.w) X.A (pyIter (.ref s.heap.objs.size)) (PIE X pins σ tg R) E { s with heap := s.heap.push { cls := .type "range", data := .fields #[.int lo t, .int hi u, .int 1 v] }, toks := tk } := by
 refine wpAny_pyIter_range (IsRange.new ..) (small_one h1 h2 h3 h4) ?_
 have I1 : Inv X pins σ H { s with heap := s.heap.push { cls := .type "range", data := .fields #[.int lo t, .int hi u, .int 1 v] }, toks := tk } := I.kept fun b o e => Heap.get?_push_of_some _ e
 refine ⟨(s.heap.push { cls := .type "range", data := .fields #[.int lo t, .int hi u, .int 1 v] }).objs.size, [(s.heap.push { cls := .type "range", data := .fields #[.int lo t, .int hi u, .int 1 v] }).objs.size], _, _, H, rfl,
  I1.kept (t' := tk) fun b o e => Heap.get?_push_of_some _ e, QaW _ lo (hi - lo).toNat, ?_, fun b hb => ?_, q⟩
 ·have e1 : lo + ((0 : Nat) : Int) * 1 = lo := by simp
  have e2 : (((hi - lo).toNat : Nat) : Int) - ((0 : Nat) : Int) = Builtin.Range.rangeSize lo hi 1 := by rw [rangeSize_one]; split <;> ac_nf
  show IsRangeIter _ _ (lo + ((0 : Nat) : Int) * 1) ((((hi - lo).toNat : Nat) : Int) - ((0 : Nat) : Int)) 1
  rw [e1, e2]
  exact Heap.get?_push_size _ rfl
 ·have e : b = (s.heap.push { cls := .type "range", data := .fields #[.int lo t, .int hi u, .int 1 v] }).objs.size := by simpa using hb
  subst e
  exact I1.fpOk (Nat.le_refl _) (I1.hok.fresh (Nat.le_refl _))
noncomputable def iRng1 (ta : TA) : TI := fun σ H R => ta σ H fun vs H1 => ∃ j : Int, vs = [.int j] ∧ -(2 ^ 62) ≤ j ∧ j < 2 ^ 62 ∧ R (Itr 0 j.toNat) H1
noncomputable def iRng2 (ta : TA) : TI := fun σ H R => ta σ H fun vs H1 => ∃ i j : Int, vs = [.int i, .int j] ∧ (-(2 ^ 62) ≤ i ∧ i < 2 ^ 62 ∧ -(2 ^ 62) ≤ j ∧ j < 2 ^ 62) ∧ R (Itr i (j - i).toNat) H1
theorem QaY {a : Expr} {ta : TA} {p pos : Pos} (hg : Gl X "range") (hm : X.mg "range" = none) (ha : PA X [a] ta) (hs : starEach [a] X.env = [(false, eval a X.env)] := by rfl) : PI X tg (.Call (.Name "range" p) [a] [] pos) (iRng1 ta) := by
 intro pins s σ H R I h
 refine Call_ (Qaz I hg hm boot_range (PyProof.Rows.callWith_type1 (thn (ha pos pins s σ H _ I h) fun us s1 ⟨vs, H1, I1, r1, q1⟩ => ?_) hs rfl))
 obtain ⟨j, e, q1, q2, q⟩ := q1
 subst e
 cases r1 with
 | cons r rr =>
  cases rr
  obtain ⟨t, rfl⟩ := r
  exact call_range_1 (QaX I1 (by ac_nf) (by ac_nf) q1 q2 (by simpa using q))
noncomputable def tFor (wi : TI) (g : TG) (tb : TS) : TS := fun D σ H => wi σ H fun J H1 => ∃ W : Nat → Nat → St → Hp → Prop, (∃ m, W 0 m σ H1) ∧ ∀ i m σ H, W i m σ H →
 (J.stop i H ∧ D.nx σ H) ∨ (J.go i H ∧ ∃ N : St → Hp → Prop, (∀ σ' H', N σ' H' → ∃ m', m' < m ∧ W (i + 1) m' σ' H') ∧ ∀ x H', J.yld i H x H' → g x σ H' fun σ2 H2 => tb { D with nx := N, ct := N, bk := D.nx } σ2 H2)
noncomputable def pinsAt (fp : List Addr) (h : Heap) : List (Addr × Obj) := fp.filterMap fun b => (h.get? b).map fun o => (b, o)
theorem QaZ {fp : List Addr} {h : Heap} {b : Addr} {o : Obj} (hb : b ∈ fp) (e : h.get? b = some o) : (b, o) ∈ pinsAt fp h := List.mem_filterMap.mpr ⟨b, hb, by rw [e]; rfl⟩
theorem Qa0 {fp : List Addr} {h : Heap} {p : Addr × Obj} (hp : p ∈ pinsAt fp h) : p.1 ∈ fp ∧ h.get? p.1 = some p.2 := by
 obtain ⟨b, hb, e⟩ := List.mem_filterMap.mp hp
 cases q : h.get? b with
 | none => rw [q] at e; cases e
 | some o =>
  rw [q] at e
  have e' : (b, o) = p := Option.some.inj e
  subst e'
  exact ⟨hb, q⟩
theorem Inv.pinned {pins : List (Addr × Obj)} {σ : St} {H : Hp} {s : Shared} {fp : List Addr} (I : Inv X pins σ H s) (hf : ∀ b ∈ fp, FpOk X pins H b) (ho : ∀ b ∈ fp, ∃ o, s.heap.get? b = some o ∧ ∀ v, o.data ≠ .cell v) : Inv X (pins ++ pinsAt fp s.heap) σ H s :=
 I.pins_of fun p hp => (List.mem_append.mp hp).elim (fun z => I.pin p (List.mem_append_right _ z)) fun z => by
  obtain ⟨hb, e⟩ := Qa0 z
  obtain ⟨f0, f1, f2, _⟩ := hf p.1 hb
  obtain ⟨o, e', d⟩ := ho p.1 hb
  rw [e] at e'; cases e'
  exact ⟨e, f0, f1, f2, d⟩
theorem Inv.unpinned {pins pl : List (Addr × Obj)} {σ : St} {H : Hp} {s : Shared} (I : Inv X (pins ++ pl) σ H s) : Inv X pins σ H s := I.pins_of fun p hp => I.pin p (List.mem_append_right _ (List.mem_append_left _ hp))
theorem Qa1 {iter : Expr} {body : List Stmt} {wi : TI} {g : TG} {tb : TS} {pos : Pos} (hp : PassesOwn (model X.prog X.w) X.A X.env X.xe) (hc : X.calm = true) (hi : PI X tg iter wi) (hg : PG X tg g) (hb : PSs X body tb)
  (hs : ∀ x, foldedSetIterable iter X.env x = pure x := by intro _; rfl) : PS X (.For tg iter body [] pos) (tFor wi g tb) := by
 intro pins s σ H D I h
 refine wpAny_For (thn (hi pins s σ H _ I h) fun v s1 h1 => thn h1 fun itv s2 h2 => ?_) hs
 obtain ⟨it, fp, tn, J, H2, e, I2, T, st2, f2, W, ⟨m0, w0⟩, turn⟩ := h2
 subst e
 have stat : ∀ {H' : Hp}, (∀ b ∈ fp, H' b = none) → ∀ b ∈ fp, FpOk X pins H' b := fun hn b hb => ⟨hn b hb, (f2 b hb).2⟩
 refine codeAny_forLoop_any (fun n s' => ∃ i σ' H', Inv X pins σ' H' s' ∧ tn i s'.heap ∧ (∀ b ∈ fp, H' b = none) ∧ W i n σ' H') ?_ m0 ⟨0, σ, H2, I2, st2, fun b hb => (f2 b hb).1, w0⟩
 rintro n s3 ⟨i, σ3, H3, I3, st3, fr3, w3⟩
 rcases turn i n σ3 H3 w3 with ⟨stop, qn⟩ | ⟨go, N, hN, step⟩
 ·refine wpAny_passesOwn hp (thn (T.done X rfl rfl rfl hc i pins s3 σ3 H3 X.xe I3 (stat fr3) st3 stop) fun r s4 pq17 => ?_)
  obtain ⟨hr, I4⟩ := pq17
  subst hr
  exact wpAny_execs_nil ⟨σ3, H3, I4, qn⟩
 ·refine wpAny_passesOwn hp (thn (T.item X rfl rfl rfl hc i pins s3 σ3 H3 X.xe I3 (stat fr3) st3 go) fun r s4 pq18 => ?_)
  obtain ⟨u, hr, h4⟩ := pq18
  subst hr
  refine wpAny_passesOwn hp (thn h4 fun _ s5 pq19 => ?_)
  obtain ⟨x, H5, I5, r5, y5, st5, fr5⟩ := pq19
  have I5' := I5.pinned (stat fr5) (T.obj _ _ st5)
  refine wpAny_passesOwn hp (thn (hg _ s5 σ3 H5 x u _ I5' r5 (step x H5 y5)) fun _ s6 pq20 => ?_)
  obtain ⟨σ6, H6, I6, q6⟩ := pq20
  refine wpAny_passesOwn hp (thn (hb _ s6 σ6 H6 _ I6 q6) fun f s7 q7 => ?_)
  have again : ∀ {σ7 : St} {H7 : Hp}, Inv X (pins ++ pinsAt fp s5.heap) σ7 H7 s7 → N σ7 H7 → ∃ m, m < n ∧ ∃ i σ' H', Inv X pins σ' H' s7 ∧ tn i s7.heap ∧ (∀ b ∈ fp, H' b = none) ∧ W i m σ' H' := fun {σ7 H7} I7 n7 => by
   obtain ⟨m', hm, w7⟩ := hN σ7 H7 n7
   refine ⟨m', hm, i + 1, σ7, H7, I7.unpinned, T.keep _ _ _ st5 fun b hb o e => (I7.pin (b, o) (List.mem_append_right _ (List.mem_append_right _ (QaZ hb e)))).1, fun b hb => ?_, w7⟩
   obtain ⟨o, e, d⟩ := T.obj _ _ st5 b hb
   exact (I7.pin (b, o) (List.mem_append_right _ (List.mem_append_right _ (QaZ hb e)))).2.1
  cases f with
  | next => obtain ⟨σ7, H7, I7, n7⟩ := q7; exact again I7 n7
  | cont => obtain ⟨σ7, H7, I7, n7⟩ := q7; exact again I7 n7
  | brk => obtain ⟨σ7, H7, I7, q7⟩ := q7; exact ⟨σ7, H7, I7.unpinned, q7⟩
  | ret v => obtain ⟨x7, σ7, H7, I7, r7, q7⟩ := q7; exact ⟨x7, σ7, H7, I7.unpinned, r7, q7⟩
end
end L2
namespace L2
open PySem PySem.Spec PyProof.Rows
noncomputable abbrev R2 := V → V → Hp → VK → Prop
def OpR (X : Cx) (f : Value → Value → Sem Value) (r : R2) : Prop :=
 ∀ (pins : List (Addr × Obj)) (s : Shared) (σ : St) (H : Hp) (x y : V) (v u : Value) (Q : VK), Inv X pins σ H s → RelV x v → RelV y u → r x y H Q →
  wpAny (model X.prog X.w) X.A (f v u) (EP X pins σ Q) X.xe s
def CallR (X : Cx) (f : Value) (r : List V → Hp → VK → Prop) : Prop :=
 ∀ (pins : List (Addr × Obj)) (s : Shared) (σ : St) (H : Hp) (xs : List V) (us : List Value) (Q : VK), Inv X pins σ H s → Vals xs us → r xs H Q →
  wpAny (model X.prog X.w) X.A (call f us) (EP X pins σ Q) X.xe s
def TruR (X : Cx) (r : V → Hp → (Bool → Hp → Prop) → Prop) : Prop :=
 ∀ (pins : List (Addr × Obj)) (s : Shared) (σ : St) (H : Hp) (x : V) (v : Value) (Q : Bool → Hp → Prop), Inv X pins σ H s → RelV x v → r x H Q →
  wpAny (model X.prog X.w) X.A (truthy v) (TP X pins σ Q) X.xe s
noncomputable def tOp (r : R2) (ta tb : TE) : TE := fun σ H Q => ta σ H fun x H1 => tb σ H1 fun y H2 => r x y H2 Q
noncomputable def rI (C : Int → Int → Prop) (g : Int → Int → V) : R2 := fun x y H Q => ∃ i j, x = .int i ∧ y = .int j ∧ C i j ∧ Q (g i j) H
noncomputable def rI0 (g : Int → Int → V) : R2 := fun x y H Q => ∃ i j, x = .int i ∧ y = .int j ∧ Q (g i j) H
section
variable {X : Cx} {a b c : Expr} {ta tb tc : TE} {pos : Pos}
theorem binT (ha : PE X a ta) (hb : PE X b tb) {pins : List (Addr × Obj)} {s : Shared} {σ : St} {H : Hp} {R : V → V → Hp → Prop} (I : Inv X pins σ H s)
  (h : ta σ H fun x H1 => tb σ H1 fun y H2 => R x y H2) {Q : Value → Shared → Prop} {f : Value → Value → Sem Value}
  (hf : ∀ v u s2 x y H2, Inv X pins σ H2 s2 → RelV x v → RelV y u → R x y H2 → wpAny (model X.prog X.w) X.A (f v u) Q X.xe s2) :
  wpAny (model X.prog X.w) X.A (eval a X.env) (fun v s₁ => wpAny (model X.prog X.w) X.A (eval b X.env) (fun u s₂ => wpAny (model X.prog X.w) X.A (f v u) Q X.xe s₂) X.xe s₁) X.xe s := by
 refine thn (ha pins s σ H _ I h) fun v s1 pq21 => ?_
 obtain ⟨x, H1, I1, r1, q1⟩ := pq21
 refine thn (hb pins s1 σ H1 _ I1 q1) fun u s2 pq22 => ?_
 obtain ⟨y, H2, I2, r2, q2⟩ := pq22
 exact hf v u s2 x y H2 I2 r1 r2 q2
theorem Qa2 {op : Operator} {r : R2} (ho : OpR X (binaryOp op) r) (ha : PE X a ta) (hb : PE X b tb) : PE X (.BinOp a op b pos) (tOp r ta tb) := by
 intro pins s σ H Q I h
 exact wpAny_BinOp (binT ha hb I h fun v u s2 x y H2 I2 rx ry q => ho pins s2 σ H2 x y v u Q I2 rx ry q)
theorem opI {f : Value → Value → Sem Value} {C : Int → Int → Prop} {g : Int → Int → Int}
  (rule : ∀ (i j : Int) (t u : Tok) (s : Shared) (Q : Value → Shared → Prop) (E : Value → Shared → Prop), C i j → Q (.int (g i j) s.toks) { s with toks := s.toks + 1 } → wpAny (model X.prog X.w) X.A (f (.int i t) (.int j u)) Q E s) :
  OpR X f (rI C fun i j => .int (g i j)) := by
 intro pins s σ H x y v u Q I rx ry h
 obtain ⟨i, j, rfl, rfl, hc, q⟩ := h
 obtain ⟨t, rfl⟩ := rx
 obtain ⟨t', rfl⟩ := ry
 exact rule i j t t' s _ _ hc ⟨.int (g i j), H, I.tok _, ⟨_, rfl⟩, q⟩
theorem opI0 {f : Value → Value → Sem Value} {g : Int → Int → Int}
  (rule : ∀ (i j : Int) (t u : Tok) (s : Shared) (Q : Value → Shared → Prop) (E : Value → Shared → Prop), Q (.int (g i j) s.toks) { s with toks := s.toks + 1 } → wpAny (model X.prog X.w) X.A (f (.int i t) (.int j u)) Q E s) :
  OpR X f (rI0 fun i j => .int (g i j)) := by
 intro pins s σ H x y v u Q I rx ry h
 obtain ⟨i, j, rfl, rfl, q⟩ := h
 obtain ⟨t, rfl⟩ := rx
 obtain ⟨t', rfl⟩ := ry
 exact rule i j t t' s _ _ ⟨.int (g i j), H, I.tok _, ⟨_, rfl⟩, q⟩
theorem opB0 {f : Value → Value → Sem Value} {g : Int → Int → Bool}
  (rule : ∀ (i j : Int) (t u : Tok) (s : Shared) (Q : Value → Shared → Prop) (E : Value → Shared → Prop), Q (.bool (g i j)) s → wpAny (model X.prog X.w) X.A (f (.int i t) (.int j u)) Q E s) :
  OpR X f (rI0 fun i j => .bl (g i j)) := by
 intro pins s σ H x y v u Q I rx ry h
 obtain ⟨i, j, rfl, rfl, q⟩ := h
 obtain ⟨t, rfl⟩ := rx
 obtain ⟨t', rfl⟩ := ry
 exact rule i j t t' s _ _ ⟨.bl (g i j), H, I, rfl, q⟩
def CDiv (i j : Int) : Prop := 0 < j ∧ j < 1073741824
def CPow (i j : Int) : Prop := 0 ≤ j ∧ j ≤ 1000000 ∧ i.natAbs < 2 ^ 64
def CMul (i j : Int) : Prop := (-(2 ^ 64) < i ∧ i < 2 ^ 64) ∨ (-(2 ^ 64) < j ∧ j < 2 ^ 64)
theorem CMul.ok {i j : Int} (h : CMul i j) : IntMulOk i j := by
 rcases h with ⟨h1, h2⟩ | ⟨h1, h2⟩
 ·exact .of_left (intBits_le_64 h1 h2)
 ·exact .of_right (intBits_le_64 h1 h2)
theorem Qa3 : OpR X (binaryOp .Add) (rI0 fun i j => .int (i + j)) := opI0 fun _ _ _ _ _ _ _ q => add_int q
theorem Qa4 : OpR X (binaryOp .Mult) (rI CMul fun i j => .int (i * j)) := opI fun _ _ _ _ _ _ _ hc q => mul_int q hc.ok
theorem Qa5 : OpR X (binaryOp .FloorDiv) (rI CDiv fun i j => .int (i / j)) := opI fun i j _ _ _ _ _ hc q => by
 have h1 : (0 : Int) < j := hc.1
 have h2 : j < 1073741824 := hc.2
 exact floordiv_int (by ac_nf) (by rw [Int.fdiv_eq_ediv_of_nonneg i (by ac_nf)]; exact q) (.inl (PyProof.noPylong_small (by ac_nf)))
theorem Qa6 : OpR X (binaryOp .Mod) (rI (fun _ j => 0 < j) fun i j => .int (i % j)) := opI fun i j _ _ _ _ _ hc q => by
 have h1 : (0 : Int) < j := hc
 exact mod_int' (by ac_nf) (by rw [Int.fmod_eq_emod_of_nonneg i (by ac_nf)]; exact q)
theorem Qa7 : OpR X (binaryOp .Pow) (rI CPow fun i j => .int (i ^ j.toNat)) := opI fun _ _ _ _ _ _ _ hc q => pow_int_small hc.1 hc.2.1 hc.2.2 q
end
section
variable {X : Cx} {a b c : Expr} {ta tb tc : TE} {pos : Pos}
theorem Qa8 : OpR X (compareOp .Lt) (rI0 fun i j => .bl (decide (i < j))) := opB0 fun _ _ _ _ _ _ _ q => lt_int q
theorem Qa9 : OpR X (compareOp .Gt) (rI0 fun i j => .bl (decide (j < i))) := opB0 fun _ _ _ _ _ _ _ q => gt_int q
theorem Qba : OpR X (compareOp .GtE) (rI0 fun i j => .bl (decide (j ≤ i))) := opB0 fun _ _ _ _ _ _ _ q => ge_int q
theorem OpR.or {f : Value → Value → Sem Value} {r r' : R2} (h : OpR X f r) (h' : OpR X f r') : OpR X f (fun x y H Q => r x y H Q ∨ r' x y H Q) := by
 intro pins s σ H x y v u Q I rx ry q
 rcases q with q | q
 ·exact h pins s σ H x y v u Q I rx ry q
 ·exact h' pins s σ H x y v u Q I rx ry q
theorem Qbb (b : Expr) {op : CmpOp} (h : op ≠ .In := by decide) (h2 : op ≠ .NotIn := by decide) : behindInMarks op b = false := by
 have e1 : (op == CmpOp.In) = false := by cases op <;> first | rfl | exact absurd rfl h
 have e2 : (op == CmpOp.NotIn) = false := by cases op <;> first | rfl | exact absurd rfl h2
 cases b <;> simp [behindInMarks, e1, e2]
theorem Qbc {op : CmpOp} {r : R2} (ho : OpR X (compareOp op) r) (ha : PE X a ta) (hb : PE X b tb) (hm : behindInMarks op b = false) : PE X (.Compare a [op] [b] pos) (tOp r ta tb) := by
 intro pins s σ H Q I h
 exact wpAny_Compare1 (binT ha hb I h fun v u s2 x y H2 I2 rx ry q => ho pins s2 σ H2 x y v u Q I2 rx ry q) hm
noncomputable def tTest (t : TE) : TT := fun σ H Q => t σ H fun x H' => ∃ k, x = .bl k ∧ Q k H'
theorem Qbd {op : CmpOp} {r : R2} (ho : OpR X (compareOp op) r) (ha : PE X a ta) (hb : PE X b tb) (hm : behindInMarks op b = false) : PT X (.Compare a [op] [b] pos) (tTest (tOp r ta tb)) := by
 intro pins s σ H Q I h
 refine wpAny_isTrue_Compare1 (thn (ha pins s σ H _ I h) fun v s1 ⟨x, H1, I1, r1, q1⟩ => thn (hb pins s1 σ H1 _ I1 q1) fun u s2 ⟨y, H2, I2, r2, q2⟩ =>
  thn (ho pins s2 σ H2 x y v u _ I2 r1 r2 q2) fun c s3 ⟨z, H3, I3, r3, k, e, q3⟩ => ?_) hm
 subst e
 cases r3
 exact wpAny_truthy_bool ⟨H3, I3, q3⟩
def TruV (K : PySem.W.Frag) (x : V) (H : Hp) (k : Bool) : Prop :=
 match x with
 | .non => k = false
 | .bl b => k = b
 | .int i => k = (i != 0)
 | .str y => y.length ≤ sizeLine ∧ k = ((y.length : Int) != 0)
 | .byt y => y.size ≤ sizeLine ∧ k = ((y.size : Int) != 0)
 | .ref p => (∃ xs, SqL K H p xs ∧ k = !xs.isEmpty) ∨ (∃ xs, SqT K H p xs ∧ k = !xs.isEmpty) ∨ ∃ kvs, H p = some (.dK kvs) ∧ k = !kvs.isEmpty
 | _ => False
theorem Qbe {κ : Type} {kvs : List (κ × V)} {vs : List (κ × Value)} (r : KV kvs vs) : (!vs.isEmpty) = !kvs.isEmpty := by
 cases r <;> rfl
theorem Qbf {xs : List V} {its : List Value} (r : Vals xs its) : (!its.toArray.isEmpty) = !xs.isEmpty := by
 cases r <;> simp
theorem Qbg : (sizeLine : Nat) < 2 ^ 63 := by rw [sizeLine_eq]; decide
theorem Qbh : TruR X (fun x H Q => ∃ k, TruV X.K x H k ∧ Q k H) := by
 intro pins s σ H x v Q I rx h
 obtain ⟨k, e, q⟩ := h
 have hl := Qbg
 have hs : sizeLine = 16777216 := sizeLine_eq
 cases x with
 | non =>
  cases rx
  have e' : k = false := e
  subst e'
  exact truthy_none ⟨H, I, q⟩
 | bl b =>
  cases rx
  have e' : k = b := e
  subst e'
  exact wpAny_truthy_bool ⟨H, I, q⟩
 | int i =>
  obtain ⟨t, rfl⟩ := rx
  have e' : k = (i != 0) := e
  subst e'
  exact PySem.P.truthy_int ⟨H, I, q⟩
 | str y =>
  obtain ⟨t, rfl⟩ := rx
  obtain ⟨hy, e'⟩ : y.length ≤ sizeLine ∧ k = ((y.length : Int) != 0) := e
  subst e'
  exact PySem.P.truthy_str (by ac_nf) ⟨H, I.tok _, q⟩
 | byt y =>
  obtain ⟨t, rfl⟩ := rx
  obtain ⟨hy, e'⟩ : y.size ≤ sizeLine ∧ k = ((y.size : Int) != 0) := e
  subst e'
  exact PySem.W.truthy_bytes (by ac_nf) ⟨H, I.tok _, q⟩
 | ref p =>
  cases rx
  have e' : (∃ xs, SqL X.K H p xs ∧ k = !xs.isEmpty) ∨ (∃ xs, SqT X.K H p xs ∧ k = !xs.isEmpty) ∨ ∃ kvs, H p = some (.dK kvs) ∧ k = !kvs.isEmpty := e
  rcases e' with ⟨xs, hx, e'⟩ | ⟨xs, hx, e'⟩ | ⟨kvs, hx, e'⟩
  ·subst e'
   obtain ⟨its, r, pl, hz⟩ := I.list hx
   have hlen := r.length
   exact wpAny_truthy_list pl.isList (by simp only [List.size_toArray]; ac_nf) ⟨H, I.tok _, by rw [Qbf r]; exact q⟩
  ·subst e'
   obtain ⟨its, r, pl, hz⟩ := I.tuple hx
   have hlen := r.length
   exact truthy_tuple pl (by simp only [List.size_toArray]; ac_nf) ⟨H, I.tok _, by rw [Qbf r]; exact q⟩
  ·subst e'
   obtain ⟨hz, hS, vs, r, m⟩ : kvs.length ≤ sizeLine ∧ (p == sysModules) = false ∧ ∃ vs, KV kvs vs ∧ s.heap.DictOf (mixKind X.prog X.w) p vs := I.hok p _ hx
   have hlen : kvs.length = vs.length := Paired.length r
   exact wpAny_truthy_dict hS m (by ac_nf) ⟨H, I.tok _, by rw [Qbe r]; exact q⟩
 | _ => exact (show False from e).elim
theorem Qbi (ha : PE X a ta) (he : ∀ whole, isTrue a X.env whole = (do let v ← whole; standAt a.pos; holding [v] (truthy v))) :
  PT X a (fun σ H Q => ta σ H fun x H' => ∃ k, TruV X.K x H' k ∧ Q k H') := by
 intro pins s σ H Q I h
 exact isTrue_plain (thn (ha pins s σ H _ I h) fun v s1 pq23 => by obtain ⟨x, H1, I1, r1, q1⟩ := pq23; exact Qbh pins s1 σ H1 x v Q I1 r1 q1) (he _)
theorem Qbj : OpR X (binaryOp .Add) (fun x y H Q => ∃ i j, x = .str i ∧ y = .str j ∧ i.length + j.length ≤ sizeLine ∧ Q (.str (i ++ j)) H) := by
 intro pins s σ H x y v u Q I rx ry h
 obtain ⟨i, j, rfl, rfl, hz, q⟩ := h
 obtain ⟨t, rfl⟩ := rx
 obtain ⟨t', rfl⟩ := ry
 exact add_str (fun t' tk => ⟨.str (i ++ j), H, I.tok _, ⟨_, rfl⟩, q⟩) hz
theorem Qbk {x : V} {us : List Value} (r : Vals [x] us) : ∃ u, us = [u] ∧ RelV x u := by
 cases r with
 | cons r1 r2 => cases r2; exact ⟨_, rfl, r1⟩
theorem Qbl {x y : V} {us : List Value} (r : Vals [x, y] us) : ∃ u w', us = [u, w'] ∧ RelV x u ∧ RelV y w' := by
 cases r with
 | cons r1 r2 =>
  cases r2 with
  | cons r3 r4 => cases r4; exact ⟨_, _, rfl, r1, r3⟩
theorem Qbm : CallR X (.type "int") (fun xs H Q => (∃ i, xs = [.int i] ∧ Q (.int i) H) ∨ ∃ k, xs = [.bl k] ∧ Q (.int (if k then 1 else 0)) H) := by
 intro pins s σ H xs us Q I r h
 rcases h with ⟨i, rfl, q⟩ | ⟨k, rfl, q⟩
 ·obtain ⟨u, rfl, t, rfl⟩ := Qbk r
  exact call_int_int ⟨.int i, H, I, ⟨_, rfl⟩, q⟩
 ·obtain ⟨u, rfl, r1⟩ := Qbk r
  cases r1
  exact call_int_bool ⟨.int (if k then 1 else 0), H, I.tok _, ⟨_, rfl⟩, q⟩
end
end L2
namespace L2
open PySem PySem.Spec PyProof.Rows
structure ObjM (h : Heap) (x dx C : Addr) (mA : Str → Option Value) : Prop where
 obj : h.get? x = some (PySem.W.instObj C dx)
 ns : h.Ns1 dx mA
 ne : dx ≠ x
theorem Qbn {h : Heap} {dx : Addr} {mA : Str → Option Value} (n : h.Ns1 dx mA) : ∃ od, h.get? dx = some od ∧ ∀ name, PySem.W.lookIn name od = some (mA name) := by
 obtain ⟨o, es, ep, ho, hd, hk, _, hm⟩ := n
 refine ⟨o, ho, fun name => ?_⟩
 have e := hm name
 unfold nsFind findBy at e
 rw [← Array.find?_toList] at e
 unfold PySem.W.lookIn
 rw [hd]
 dsimp only
 split
 ·rename_i y q
  rw [q] at e
  exact congrArg some e
 ·rename_i q
  rw [q] at e
  have a : es.toList.any (·.refKey) = false := by
   rw [List.any_eq_false]
   intro y hy
   obtain ⟨z, t, hkey⟩ := hk y (Array.mem_toList_iff.mp hy)
   simp [DictEntry.refKey, hkey]
  have a' : ¬ es.toList.any (·.refKey) = true := by rw [a]; exact Bool.false_ne_true
  rw [if_neg a']
  exact congrArg some e
theorem ObjM.look {h : Heap} {x dx C : Addr} {mA : Str → Option Value} (I : ObjM h x dx C mA) : ∃ od, PySem.W.InstAt h x (PySem.W.instObj C dx) C (some od) ∧ ∀ name, PySem.W.lookIn name od = some (mA name) :=
 let ⟨od, ho, hl⟩ := Qbn I.ns
 ⟨od, ⟨I.obj, rfl, rfl, ho⟩, hl⟩
section
variable {prog : Program} {w : World} {A : Around} {E : Value → Shared → Prop} {s : Shared} {K : PySem.W.Frag} {x dx C f : Addr} {mA : Str → Option Value} {name : Str} {v : Value}
end
theorem RelO.some_of {v : V} {o : Option Value} (r : RelO (some v) o) : ∃ u, o = some u ∧ RelV v u := by
 cases o with
 | none => exact (show False from r).elim
 | some u => exact ⟨u, rfl, r⟩
theorem RelO.none_of {o : Option Value} (r : RelO none o) : o = none := by
 cases o with
 | none => rfl
 | some u => exact (show False from r).elim
section
variable {P : Program} {w : World} {H H' : Hp} {h h' : Heap} {a C dx : Addr} {fs fs' : List (Str × V)}
theorem Qbo (hok : HOk P w H h) (e : H a = some (.ins C dx fs)) : ∃ mA, ObjM h a dx C mA ∧ (∀ f, RelO (fs.lookup f) (mA f)) ∧ PySem.Within mA (fs.map (·.1)) ∧ fs.length ≤ 1000 ∧ H dx = some (.own a) := by
 obtain ⟨d, z, ne, ob, mA, n, r, q⟩ := (show ObjOk P w H h a (.ins C dx fs) from hok a _ e)
 exact ⟨mA, ⟨ob, n, ne⟩, r, q, z, d⟩
end
structure Cls (K : PySem.W.Frag) (C : Addr) : Prop where
 pg : PySem.W.plainGet K C Str.empty = true
 hd : PySem.W.hasDictIn K C = true
 po : PySem.W.plainOver K C = true
 sa : PySem.W.findIn K (.ref C) "__setattr__" = some (some (.builtin "object.__setattr__"))
theorem Cls.get {K : PySem.W.Frag} {C : Addr} (c : Cls K C) (f : Str) : PySem.W.plainGet K C f = true := c.pg
structure Con (K : PySem.W.Frag) (C : Addr) (f : Str) (v : V) (u : Value) : Prop where
 at_ : PySem.W.findIn K (.ref C) f = some (some u)
 rel : RelV v u
 get : PySem.W.specialIn K u "__get__" = some none
 cp : PySem.W.copiedNames.contains f = false
structure Meth (K : PySem.W.Frag) (C : Addr) (m : Str) (f : Addr) : Prop where
 at_ : PySem.W.findIn K (.ref C) m = some (some (.ref f))
 fn : PySem.W.isFn K (.ref f) = true
 kp : PySem.W.keepIn K (.ref f) = true
section
variable {X : Cx} {pins : List (Addr × Obj)} {σ : St} {H : Hp} {s : Shared} {a C dx : Addr} {fs : List (Str × V)} {f : Str} {v : V} {A : Around} {E : Value → Shared → Prop}
theorem Inv.made (I : Inv X pins σ H s) : Inv X pins σ (upd (upd H s.heap.objs.size (.own (s.heap.objs.size + 1))) (s.heap.objs.size + 1) (.ins C s.heap.objs.size []))
  { s with heap := (s.heap.push PySem.W.emptyDict).push (PySem.W.instObj C s.heap.objs.size) } := by
 have e1 : (s.heap.push PySem.W.emptyDict).get? s.heap.objs.size = some PySem.W.emptyDict := Heap.get?_push_size s.heap rfl
 have e2 : ((s.heap.push PySem.W.emptyDict).push (PySem.W.instObj C s.heap.objs.size)).get? (s.heap.objs.size + 1) = some (PySem.W.instObj C s.heap.objs.size) := by
  have := Heap.get?_push_size (s.heap.push PySem.W.emptyDict) (o := PySem.W.instObj C s.heap.objs.size) rfl
  rwa [Heap.size_push] at this
 have e3 : (s.heap.push PySem.W.emptyDict).Ns s.heap.objs.size (fun _ => none) := ⟨PySem.W.emptyDict, #[], _, e1, rfl, (fun e he => absurd he (by simp)), fun _ => rfl⟩
 have I1 := I.laid (a := s.heap.objs.size) (o := .own (s.heap.objs.size + 1)) (h' := s.heap.push PySem.W.emptyDict) (t' := s.toks) (fun b u q => Heap.get?_push_of_some _ q) (Nat.le_refl _) ⟨_, e1⟩
 refine I1.laid (a := s.heap.objs.size + 1) (o := .ins C s.heap.objs.size []) (t' := s.toks) (fun b u q => Heap.get?_push_of_some _ q) (Nat.le_of_eq (Heap.size_push _ _)) ?_
 have ne : s.heap.objs.size ≠ s.heap.objs.size + 1 := Nat.ne_of_lt (Nat.lt_succ_self _)
 refine ⟨by rw [Qaj ne, Qai], Nat.zero_le _, ne, e2, fun _ => none, (Heap.Ns1.of_empty e3).at fun o q => Heap.get?_push_of_some _ q, fun _ => True.intro, fun y hy => absurd rfl hy⟩
end
section
variable {X : Cx} {o e value : Expr} {f : Str} {pos pos' tpos : Pos} {ta tv : TE}
end
section
variable {X : Cx} {pins : List (Addr × Obj)} {σ : St} {H : Hp} {s : Shared} {A : Around} {E : Value → Shared → Prop} {Q : Value → Shared → Prop} {c : Value} {b : Bool}
inductive TyOf (K : PySem.W.Frag) (H : Hp) : V → Value → Prop where
 | non : TyOf K H .non (.type "NoneType")
 | bl (x : Bool) : TyOf K H (.bl x) (.type "bool")
 | int (i : Int) : TyOf K H (.int i) (.type "int")
 | str (x : Str) : TyOf K H (.str x) (.type "str")
 | flt (x : UInt64) : TyOf K H (.flt x) (.type "float")
 | lst {a : Addr} {xs : List V} (e : H a = some (.lst xs)) : TyOf K H (.ref a) (.type "list")
 | frz {a : Addr} {o : Obj} {xs : List V} (e : H a = some (.frz o (.lst xs))) : TyOf K H (.ref a) (.type "list")
 | tup {a : Addr} {xs : List V} (e : H a = some (.tup xs)) : TyOf K H (.ref a) (.type "tuple")
 | dK {a : Addr} {kvs : List (Key × V)} (e : H a = some (.dK kvs)) : TyOf K H (.ref a) (.type "dict")
 | dT {a : Addr} {kvs : List (List Key × V)} (e : H a = some (.dT kvs)) : TyOf K H (.ref a) (.type "dict")
 | ins {a C dx : Addr} {fs : List (Str × V)} (e : H a = some (.ins C dx fs)) (cl : Cls K C) (ha : PySem.W.findIn K (.ref C) "__class__" = some (some (.builtin "object.__class__")))
   (hn : PySem.W.specialIn K (.builtin "object.__class__") "__get__" = some (some (.builtin "getset_descriptor.__get__"))) (htk : PySem.W.takesIn K (.builtin "object.__class__") = some true)
   (hm : PySem.W.mroIn K C (.type "object") = some true) : TyOf K H (.ref a) (.ref C)
theorem Qbp {x : V} {u t : Value} (I : Inv X pins σ H s) (rx : RelV x u) (ty : TyOf X.K H x t) (e : PySem.W.kitOne X.K t c = some b) (h : ∀ tk, Q (.bool b) { s with toks := tk }) :
  wpAny (model X.prog X.w) A (call (.builtin "isinstance") [u, c]) Q E s := by
 cases ty with
 | non => cases (show u = Value.none from rx); exact PySem.W.kia_one PySem.W.kitx_none I.kIn True.intro e (fun z => nomatch z) h
 | bl y => cases (show u = Value.bool y from rx); exact PySem.W.kia_one PySem.W.kitx_bool I.kIn True.intro e (fun z => nomatch z) h
 | int i => obtain ⟨t, q⟩ := (show ∃ t, u = Value.int i t from rx); cases q; exact PySem.W.kia_one PySem.W.kitx_int I.kIn True.intro e (fun z => nomatch z) h
 | str y => obtain ⟨t, q⟩ := (show ∃ t, u = Value.str y t from rx); cases q; exact PySem.W.kia_one PySem.W.kitx_str I.kIn True.intro e (fun z => nomatch z) h
 | flt y => obtain ⟨t, q⟩ := (show ∃ t, u = Value.float y t from rx); cases q; exact PySem.W.kia_one PySem.W.kitx_float I.kIn True.intro e (fun z => nomatch z) h
 | @lst a xs ea =>
  cases (show u = Value.ref a from rx)
  obtain ⟨_, _, n, _, h1⟩ := (show ObjOk X.prog X.w H s.heap a (.lst xs) from I.hok a _ ea)
  exact PySem.W.kia_one PySem.W.kitx_list I.kIn ⟨_, h1, rfl⟩ e (fun z => nomatch z) h
 | @frz a ob xs ea =>
  cases (show u = Value.ref a from rx)
  obtain ⟨_, _, _, n, _, h1⟩ := (show ObjOk X.prog X.w H s.heap a (.frz ob (.lst xs)) from I.hok a _ ea)
  exact PySem.W.kia_one PySem.W.kitx_list I.kIn ⟨_, h1, rfl⟩ e (fun z => nomatch z) h
 | @tup a xs ea =>
  cases (show u = Value.ref a from rx)
  obtain ⟨_, _, _, p⟩ := (show ObjOk X.prog X.w H s.heap a (.tup xs) from I.hok a _ ea)
  obtain ⟨o, h1, h2, _⟩ := p
  exact PySem.W.kia_one PySem.W.kitx_tuple I.kIn ⟨o, h1, h2⟩ e (fun z => nomatch z) h
 | @dK a kvs ea =>
  cases (show u = Value.ref a from rx)
  obtain ⟨_, _, vs, _, p⟩ := (show ObjOk X.prog X.w H s.heap a (.dK kvs) from I.hok a _ ea)
  obtain ⟨o, es, ep, h1, h2, _⟩ := p
  exact PySem.W.kia_one PySem.W.kitx_dict I.kIn ⟨o, h1, h2.1⟩ e (fun z => nomatch z) h
 | @dT a kvs ea =>
  cases (show u = Value.ref a from rx)
  obtain ⟨_, _, xs, _, o, es, ep, h1, h2, _⟩ := (show ObjOk X.prog X.w H s.heap a (.dT kvs) from I.hok a _ ea)
  exact PySem.W.kia_one PySem.W.kitx_dict I.kIn ⟨o, h1, h2.1⟩ e (fun z => nomatch z) h
 | @ins a C dx fs ea cl ha hn htk hm =>
  cases (show u = Value.ref a from rx)
  obtain ⟨mA, O, _⟩ := Qbo I.hok ea
  obtain ⟨od, J, _⟩ := O.look
  exact PySem.W.kia_one (PySem.W.kitx_own (cl.get _) cl.hd ha hn htk hm) I.kIn J e (fun z => nomatch z) h
end
end L2
namespace L2
open PySem PySem.Spec PyProof.Rows
structure Room (k : Nat) (A : Around) : Prop where
 hd : A.handled = none
 dp : A.depth + 3 * k + 5 < recursionLimit
 un : A.units + 16 * k + 200 < cLine
theorem Room.mono {j k : Nat} {A : Around} (r : Room k A) (h : j ≤ k) : Room j A := ⟨r.hd, by have := r.dp; ac_nf, by have := r.un; ac_nf⟩
theorem Room.deeper {k : Nat} {A : Around} (r : Room (k + 1) A) (env : Env) : Room k (A.deeper env) :=
 ⟨r.hd, by have := r.dp; show A.depth + 1 + 3 * k + 5 < _; ac_nf, by have := r.un; show A.units + 3 + 16 * k + 200 < _; ac_nf⟩
theorem Room.in1 {k : Nat} {A : Around} (r : Room (k + 1) A) : Room k A.in1 :=
 ⟨r.hd, by have := r.dp; show A.depth + 3 * k + 5 < _; ac_nf, by have := r.un; show A.units + 1 + 16 * k + 200 < _; ac_nf⟩
theorem Qbq {A : Around} {C : Addr} {us : List Value} {kw : List (Str × Value)} : (A.under (.builtin "type.__call__" ⟨.ref C :: us, kw⟩)).depth = A.depth + 1 := by
 first | rfl | simp [Around.under, Code.weight, Code.isCreation, Code.isGuard, Code.isCaller, Code.frames, Code.isFrame, guardIds]
theorem Qbr {A : Around} {C : Addr} {us : List Value} {kw : List (Str × Value)} : (A.under (.builtin "type.__call__" ⟨.ref C :: us, kw⟩)).units = A.units + 1 := by
 first | rfl | simp [Around.under, Code.cUnits, Code.frames, Code.isFrame]
theorem Room.make {k : Nat} {A : Around} (r : Room (k + 1) A) (C : Addr) (us : List Value) (kw : List (Str × Value)) : Room k (A.under (.builtin "type.__call__" ⟨.ref C :: us, kw⟩)) :=
 ⟨r.hd, by have := r.dp; rw [Qbq]; ac_nf, by have := r.un; rw [Qbr]; ac_nf⟩
theorem Room.depth {k : Nat} {A : Around} (r : Room k A) : A.depth < recursionLimit := by have := r.dp; ac_nf
theorem Room.units {k : Nat} {A : Around} (r : Room k A) : A.units + 64 < cLine := by have := r.un; ac_nf
noncomputable def tNil : TA := fun _ H Q => Q [] H
noncomputable def tCons (ta : TE) (tr : TA) : TA := fun σ H Q => ta σ H fun x H1 => tr σ H1 fun xs H2 => Q (x :: xs) H2
section
variable {X : Cx} {e : Expr} {es : List Expr} {te : TE} {t : TA} {pos : Pos}
theorem Qbs : PA X [] tNil := fun _ _ _ _ H Q I h => Calls.spliced_nil ⟨[], H, I, .nil, h⟩
theorem Qbt (ha : PE X e te) (hr : PA X es t) (hs : starEach (e :: es) X.env = (false, eval e X.env) :: starEach es X.env := by rfl) : PA X (e :: es) (tCons te t) := by
 intro pos pins s σ H Q I h
 rw [hs]
 show wpAny _ _ (spliced ((false, eval e X.env) :: backTo pos (starEach es X.env))) _ _ s
 refine Calls.spliced_cons (thn (ha pins s σ H _ I h) fun u s1 pq24 => ?_)
 obtain ⟨x, H1, I1, r1, q1⟩ := pq24
 exact thn (hr pos pins s1 σ H1 _ I1 q1) fun us s2 pq25 => by obtain ⟨xs, H2, I2, r2, q2⟩ := pq25; exact ⟨x :: xs, H2, I2, .cons r1 r2, q2⟩
noncomputable def tTup (t : TA) : TE := fun σ H Q => t σ H fun xs H1 => xs.length ≤ sizeLine ∧ ∀ p, H1 p = none → Q (.ref p) (upd H1 p (.tup xs))
noncomputable def tLst (t : TA) : TE := fun σ H Q => t σ H fun xs H1 => xs.length ≤ sizeLine ∧ ∀ p, H1 p = none → Q (.ref p) (upd H1 p (.lst xs))
theorem Qbu {x1} (h : PA X es t) : PE X (.Tuple es x1 pos) (tTup t) := by
 intro pins s σ H Q I hq
 refine wpAny_Tuple_spliced (thn (h pos pins s σ H _ I hq) fun us s1 ⟨xs, H1, I1, r, z, q⟩ => ⟨by rw [← r.length]; exact z, ?_⟩)
 have hf : H1 s1.heap.objs.size = none := I1.hok.fresh (Nat.le_refl _)
 refine ⟨.ref s1.heap.objs.size, upd H1 s1.heap.objs.size (.tup xs), I1.laid (t' := s1.toks) (fun b u e => Heap.get?_push_of_some _ e) (Nat.le_refl _) ?_, rfl, q _ hf⟩
 exact ⟨z, us, r, ⟨_, Heap.get?_push_size _ rfl, rfl, _, rfl⟩⟩
theorem Qbv (h : PA X es t) : PE X (.List es pos) (tLst t) := by
 intro pins s σ H Q I hq
 refine wpAny_List_spliced (thn (h pos pins s σ H _ I hq) fun us s1 ⟨xs, H1, I1, r, z, q⟩ => ⟨by rw [← r.length]; exact z, ?_⟩)
 have hf : H1 s1.heap.objs.size = none := I1.hok.fresh (Nat.le_refl _)
 refine ⟨.ref s1.heap.objs.size, upd H1 s1.heap.objs.size (.lst xs), I1.laid (t' := s1.toks) (fun b u e => Heap.get?_push_of_some _ e) (Nat.le_refl _) ?_, rfl, q _ hf⟩
 exact ⟨z, us, 0, r, Heap.get?_push_size _ rfl⟩
end
noncomputable abbrev Sp := List V → Hp → VK → XK → Prop
noncomputable abbrev CXT := List Env → Hp → Shared → XK → Value → Shared → Prop
structure Env0 (P : Program) (w : World) (K : PySem.W.Frag) (mg : Str → Option Value) (base : Heap) (A : Around) (outer : List Env) (s : Shared) (H : Hp) : Prop where
 frames : A.frames = some outer
 mod : Mod K mg base
 bs : ∀ b o, base.get? b = some o → s.heap.get? b = some o ∧ H b = none
 bsz : base.objs.size ≤ s.heap.objs.size
 funs : s.heap.FunFrames base outer
 frf : ∀ b ∈ frs outer, H b = none
 hok : HOk P w H s.heap
 bare : AllBare s.gens
def CE (outer : List Env) (P : Program) (w : World) (H : Hp) (s : Shared) (Q : VK) (u : Value) (s' : Shared) : Prop :=
 ∃ v H', s'.os = s.os ∧ AllBare s'.gens ∧ Un (frs outer) [] H H' s.heap s'.heap ∧ HOk P w H' s'.heap ∧ RelV v u ∧ Q v H'
def CR (CX : CXT) (outer : List Env) (P : Program) (w : World) (H : Hp) (s : Shared) (Q : VK) (E : XK) (r : Result) (s' : Shared) : Prop :=
 match r with
 | .ok (.ret u) => CE outer P w H s Q u s'
 | .ok _ => False
 | .error e => CX outer H s E e s'
structure FnOk (P : Program) (w : World) (K : PySem.W.Frag) (mg : Str → Option Value) (base : Heap) (CX : CXT) (k : Nat) (f : Addr) (fd : FuncData) (ps : List Str) (sp : Sp) : Prop where
 len : ∀ vs H Q E, sp vs H Q E → vs.length = ps.length
 run : ∀ (A : Around) (outer : List Env) (s : Shared) (H : Hp) (args : Args) (us : List Value) (vs : List V) (Q : VK) (E : XK), Room k A → Env0 P w K mg base A outer s H → BindsTo s fd args (ps.zip us) → Vals vs us → sp vs H Q E →
  codeAny (model P w) A (.call (.ref f) args) (CR CX outer P w H s Q E) s
theorem FnOk.mono {P : Program} {w : World} {K : PySem.W.Frag} {mg : Str → Option Value} {base : Heap} {CX : CXT} {j k : Nat} {f : Addr} {fd : FuncData} {ps : List Str} {sp : Sp} (F : FnOk P w K mg base CX j f fd ps sp) (h : j ≤ k) :
  FnOk P w K mg base CX k f fd ps sp := ⟨F.len, fun A outer s H args us vs Q E hr => F.run A outer s H args us vs Q E (hr.mono h)⟩
theorem FnOk.imp {P : Program} {w : World} {K : PySem.W.Frag} {mg : Str → Option Value} {base : Heap} {CX : CXT} {k : Nat} {f : Addr} {fd : FuncData} {ps : List Str} {sp sp' : Sp} (F : FnOk P w K mg base CX k f fd ps sp)
  (h : ∀ vs H Q E, sp' vs H Q E → sp vs H Q E) : FnOk P w K mg base CX k f fd ps sp' :=
 ⟨fun vs H Q E q => F.len vs H Q E (h _ _ _ _ q), fun A outer s H args us vs Q E hr he hb hv hs => F.run A outer s H args us vs Q E hr he hb hv (h _ _ _ _ hs)⟩
theorem Env0.make {P : Program} {w : World} {K : PySem.W.Frag} {mg : Str → Option Value} {base : Heap} {A : Around} {outer : List Env} {s : Shared} {H : Hp} (e : Env0 P w K mg base A outer s H) (C : Addr) (us : List Value) (kw : List (Str × Value)) :
  Env0 P w K mg base (A.under (.builtin "type.__call__" ⟨.ref C :: us, kw⟩)) outer s H := ⟨by first | exact e.frames | (simpa [Around.under, Code.envs, Code.isFrame, pushEnvs] using e.frames), e.mod, e.bs, e.bsz, e.funs, e.frf, e.hok, e.bare⟩
theorem Env0.in1 {P : Program} {w : World} {K : PySem.W.Frag} {mg : Str → Option Value} {base : Heap} {A : Around} {outer : List Env} {s : Shared} {H : Hp} (e : Env0 P w K mg base A outer s H) :
  Env0 P w K mg base A.in1 outer s H := ⟨e.frames, e.mod, e.bs, e.bsz, e.funs, e.frf, e.hok, e.bare⟩
section
variable {X : Cx} {pins : List (Addr × Obj)} {σ : St} {H : Hp} {s s' : Shared}
theorem Inv.env0 (I : Inv X pins σ H s) : Env0 X.prog X.w X.K X.mg X.base X.A X.stack s H :=
 ⟨I.ok.frames, I.ok.mod, I.bs, Nat.le_trans I.ok.bsz I.sz, I.stack, I.stkFree, I.hok, I.bare⟩
theorem Inv.after {Q : VK} {u : Value} (I : Inv X pins σ H s) (h : CE X.stack X.prog X.w H s Q u s') : EP X pins σ Q u s' := by
 obtain ⟨v, H', os, bare, un, hok, r, q⟩ := h
 obtain ⟨hh, g, d, t, os'⟩ := s'
 obtain rfl : os' = s.os := os
 exact ⟨v, H', I.call (h' := hh) (g' := g) (d' := d) (t' := t) (ch := []) un hok bare (fun b z => absurd z (by simp)), r, q⟩
end
noncomputable def tCall (sp : Sp) (dvs : List V) (E : XK) (t : TA) : TE := fun σ H Q => t σ H fun vs H1 => sp (vs ++ dvs) H1 Q E
def Binds (K : PySem.W.Frag) (fd : FuncData) (ps : List Str) (ds : List Value) : Prop :=
 ∀ (s : Shared) (us : List Value), K.In s.heap → (us ++ ds).length = ps.length → BindsTo s fd ⟨us, []⟩ (ps.zip (us ++ ds))
theorem Binds.all {K : PySem.W.Frag} {fd : FuncData} {ps : List Str} (h : ∀ us : List Value, us.length = ps.length → bindArgs fd ⟨us, []⟩ = pure (ps.zip us)) : Binds K fd ps [] := fun s us _ hl => by
 rw [List.append_nil] at hl ⊢
 exact .of_eq (h us hl)
def Passes (CX : CXT) (X : Cx) (E : XK) : Prop := ∀ (pins : List (Addr × Obj)) (σ : St) (H : Hp) (s : Shared) (e : Value) (s' : Shared), Inv X pins σ H s → CX X.stack H s E e s' → X.xe e s'
section
variable {X : Cx} {CX : CXT} {k : Nat} {f C : Addr} {fd : FuncData} {ps : List Str} {sp : Sp} {dvs : List V} {ds : List Value} {E : XK} {x m : Str} {p pos apos : Pos} {e o : Expr} {es : List Expr} {ta : TE} {t : TA}
theorem Qbw {pins : List (Addr × Obj)} {σ : St} {H : Hp} {s : Shared} {Q : VK} {us : List Value} {vs : List V} (F : FnOk X.prog X.w X.K X.mg X.base CX k f fd ps sp) (hr : Room k X.A) (hb : Binds X.K fd ps ds) (hd : Vals dvs ds) (hx : Passes CX X E)
  (I : Inv X pins σ H s) (r : Vals vs us) (h : sp (vs ++ dvs) H Q E) : wpAny (model X.prog X.w) X.A (call (.ref f) us) (EP X pins σ Q) X.xe s := by
 have r2 : Vals (vs ++ dvs) (us ++ ds) := r.append hd
 have hl : (us ++ ds).length = ps.length := by rw [← r2.length]; exact F.len _ _ _ _ h
 refine wpAny_call (codeAny_mono (F.run X.A X.stack s H ⟨us, []⟩ (us ++ ds) (vs ++ dvs) Q E hr I.env0 (hb s us I.kIn hl) r2 h) fun r s' hq => ?_)
 cases r with
 | error e => exact hx pins σ H s e s' I hq
 | ok fl =>
  cases fl with
  | ret u => exact I.after hq
  | next => exact False.elim hq
  | brk => exact False.elim hq
  | cont => exact False.elim hq
theorem Qbx (F : FnOk X.prog X.w X.K X.mg X.base CX k f fd ps sp) (hr : Room k X.A) (hg : Gl X x) (hm : X.mg x = some (.ref f)) (hk : PySem.W.keepIn X.K (.ref f) = true) (hb : Binds X.K fd ps ds) (hd : Vals dvs ds) (hx : Passes CX X E)
  (ha : PA X (e :: es) t) (hdb : (x == ("__debug__" : Str)) = false := by decide) (he : starEach (e :: es) X.env = (false, eval e X.env) :: starEach es X.env := by rfl) (hpl : (backTo pos (starEach es X.env)).any (·.1) = false := by rfl) :
  PE X (.Call (.Name x p) (e :: es) [] pos) (tCall sp dvs E t) := by
 intro pins s σ H Q I h
 refine wpAny_Call_Name_kw (Qay I hg hm ?_ hdb)
 refine PySem.W.callWith_K (h₀ := X.base) I.ok.mod.kin hk (thn (ha pos pins s σ H _ I h) fun us s1 ⟨vs, H1, I1, r, q⟩ => ⟨I1.kIn, ?_⟩) he hpl
 exact Qbw F hr hb hd hx I1 r q
structure Mk (K : PySem.W.Frag) (C f : Addr) : Prop where
 makes : PySem.W.makesIn K C = true
 init : PySem.W.findIn K (.ref C) "__init__" = some (some (.ref f))
 fn : PySem.W.isFn K (.ref f) = true
 kp : PySem.W.keepIn K (.ref C) = true
end
section
variable {X : Cx} {CX : CXT} {k : Nat} {f C : Addr} {fd : FuncData} {ps ks : List Str} {sp : Sp} {E : XK} {x m : Str} {p pos apos kpos : Pos} {e o : Expr} {es : List Expr} {kws : List Keyword} {te ta : TE} {t tk : TA} {nm : Option Str}
structure KBinds (K : PySem.W.Frag) (fd : FuncData) (ps ks : List Str) (g : List Value → List Value → List Value) (gV : List V → List V → List V) : Prop where
 to : ∀ (s : Shared) (us ws : List Value), K.In s.heap → (g us ws).length = ps.length → BindsTo s fd ⟨us, ks.zip ws⟩ (ps.zip (g us ws))
 rel : ∀ {vs : List V} {us : List Value} {zs : List V} {ws : List Value}, Vals vs us → Vals zs ws → Vals (gV vs zs) (g us ws)
variable {g : List Value → List Value → List Value} {gV : List V → List V → List V}
end
structure FnScope (N P : List Str) (sc : Scope) : Prop where
 kind : sc.kind = .function
 co : sc.isCoroutine = false
 gen : sc.isGenerator = false
 nd : N.Nodup
 pre : N.take P.length = P
 par : ∀ x ∈ P, sc.names.lookup x = some .local ∨ sc.names.lookup x = some .cell
 nofree : ∀ y ∈ sc.names, y.2 ≠ .free
theorem Qby {kindOf : Str → Option NameKind} {x : Str} : ∀ {binds : List (Str × Value)} {m : Str → Option Value}, (∀ v, (x, v) ∉ binds) → bindL kindOf binds m x = m x
 | [], _, _ => rfl
 | (n, v) :: r, m, h => by
  unfold bindL
  rw [Qby fun w hw => h w (List.mem_cons_of_mem _ hw)]
  split
  ·have : x ≠ n := by rintro rfl; exact h v List.mem_cons_self
   simp [this]
  ·rfl
theorem Qbz {kindOf : Str → Option NameKind} {x : Str} : ∀ {binds : List (Str × Value)} {m : Str → Option Value}, (∀ v, (x, v) ∉ binds) → bindC kindOf binds m x = m x
 | [], _, _ => rfl
 | (n, v) :: r, m, h => by
  unfold bindC
  rw [Qbz fun w hw => h w (List.mem_cons_of_mem _ hw)]
  split
  ·rfl
  ·have : x ≠ n := by rintro rfl; exact h v List.mem_cons_self
   simp [this]
theorem QbA {kindOf : Str → Option NameKind} {x : Str} {v : Value} : ∀ {P : List Str} {vs : List Value} {i : Nat} {m : Str → Option Value}, P.Nodup → P[i]? = some x → vs[i]? = some v → kindOf x = some .local →
  bindL kindOf (P.zip vs) m x = some v
 | [], _, _, _, _, h, _, _ => by simp at h
 | _ :: _, [], _, _, _, _, h, _ => by simp at h
 | p :: P, w :: vs, 0, m, nd, h1, h2, hk => by
  simp at h1 h2; subst h1; subst h2
  show bindL kindOf ((p, w) :: P.zip vs) m p = _
  unfold bindL
  rw [Qby fun v hv => (List.nodup_cons.mp nd).1 (List.of_mem_zip hv).1, if_pos hk]
  simp
 | p :: P, w :: vs, i + 1, m, nd, h1, h2, hk => by
  show bindL kindOf ((p, w) :: P.zip vs) m x = _
  unfold bindL
  exact QbA (i := i) (List.nodup_cons.mp nd).2 (by simpa using h1) (by simpa using h2) hk
theorem QbB {kindOf : Str → Option NameKind} {x : Str} {v : Value} : ∀ {P : List Str} {vs : List Value} {i : Nat} {m : Str → Option Value}, P.Nodup → P[i]? = some x → vs[i]? = some v → kindOf x ≠ some .local →
  bindC kindOf (P.zip vs) m x = some v
 | [], _, _, _, _, h, _, _ => by simp at h
 | _ :: _, [], _, _, _, _, h, _ => by simp at h
 | p :: P, w :: vs, 0, m, nd, h1, h2, hk => by
  simp at h1 h2; subst h1; subst h2
  show bindC kindOf ((p, w) :: P.zip vs) m p = _
  unfold bindC
  rw [Qbz fun v hv => (List.nodup_cons.mp nd).1 (List.of_mem_zip hv).1, if_neg hk]
  simp
 | p :: P, w :: vs, i + 1, m, nd, h1, h2, hk => by
  show bindC kindOf ((p, w) :: P.zip vs) m x = _
  unfold bindC
  exact QbB (i := i) (List.nodup_cons.mp nd).2 (by simpa using h1) (by simpa using h2) hk
noncomputable def start (N : List Str) (vs : List V) : St := vs.map some ++ List.replicate (N.length - vs.length) none
noncomputable def cxOf (CX : CXT) (P : Program) (w : World) (K : PySem.W.Frag) (mg : Str → Option Value) (base : Heap) (N : List Str) (qual : Str) (scope : Scope) (f : Addr) (cd : Value) (A : Around) (outer : List Env) (s : Shared) (H : Hp) (E : XK) : Cx where
 prog := P
 w := w
 K := K
 mg := mg
 base := base
 A := A.deeper (envOfC qual scope s.heap.objs.size f cd)
 N := N
 s₀ := s
 H₀ := H
 env := envOfC qual scope s.heap.objs.size f cd
 outer := outer
 stack := envOfC qual scope s.heap.objs.size f cd :: outer
 ex := []
 calm := true
 fn := fun _ => true
 pn := []
 xe := fun e s' => wpAny (model P w) (A.deeper (envOfC qual scope s.heap.objs.size f cd)) (leaving (envOfC qual scope s.heap.objs.size f cd) e) (fun _ s'' => CX outer H s E e s'') (fun e' s'' => CX outer H s E e' s'') s'
theorem QbC {sc : Scope} {n : Nat} {x : Str} (h : sc.names.lookup x = some .cell) : ∃ c, (cellsFrom n sc.names []).lookup x = some c := by
 have q := PySem.W.cellsFrom_some sc.names n [] (.inl h)
 exact Option.isSome_iff_exists.mp q
theorem QbD {CX : CXT} {P : Program} {w : World} {K : PySem.W.Frag} {mg : Str → Option Value} {base : Heap} {N ps : List Str} {qual : Str} {scope : Scope} {f : Addr} {cd : Value} {A : Around} {outer : List Env} {s s1 : Shared} {H : Hp} {E : XK} {us : List Value} {vs : List V}
  (S : FnScope N ps scope) (hd : A.handled = none) (e0 : Env0 P w K mg base A outer s H) (hl : vs.length = ps.length) (r : Vals vs us)
  (x : InCallC s s.heap.objs.size (bindL (envOfC qual scope s.heap.objs.size f cd).kindOf (ps.zip us) fun _ => none) (cellsFrom (s.heap.objs.size + 1) scope.names []) (bindC (envOfC qual scope s.heap.objs.size f cd).kindOf (ps.zip us) fun _ => none) s1) :
  Inv (cxOf CX P w K mg base N qual scope f cd A outer s H E) [] (start N vs) H s1 := by
 have hpl : ps.length ≤ N.length := by have := congrArg List.length S.pre; rw [List.length_take] at this; ac_nf
 obtain ⟨h1, tk, rfl, hk⟩ := x.done
 have noA : ∀ b : Addr, b ∉ (cxOf CX P w K mg base N qual scope f cd A outer s H E).ex := fun b z => absurd (show b ∈ ([] : List Addr) from z) (by simp)
 refine ⟨⟨e0.mod, S.kind, rfl, rfl, Nat.le_refl _, fun y z c h1 h2 => ?_, fun y hy => ?_, fun y c _ h => ?_, fun _ => hd, Around.frames_deeper e0.frames, .inr ⟨rfl, rfl⟩, fun b z => absurd z (noA b), e0.bs, e0.bsz, fun b _ _ => noA b, fun b z => absurd z (noA b), e0.funs, e0.frf⟩,
  rfl, e0.bare, Un.kept hk, ⟨_, x.toInCall.ns, fun i y v h1 h2 h3 => ?_⟩, fun y c h => ⟨_, x.cell y c h⟩, e0.hok.fresh (Nat.le_refl _), fun y c h => ?_, fun p hp => absurd (show p ∈ ([] : List (Addr × Obj)) from hp) (by simp), e0.hok.kept hk, ?_⟩
 ·exact name_of_addr x.apart (PySem.mem_of_lookup h1) (PySem.mem_of_lookup h2)
 ·have hy : scope.names.lookup y = some .cell ∨ scope.names.lookup y = some .free := hy
  rcases hy with hy | hy
  ·exact QbC hy
  ·exact absurd rfl (S.nofree _ (PySem.mem_of_lookup hy))
 ·exact Nat.le_of_lt (x.above y c (PySem.mem_of_lookup h))
 ·have hi : i < vs.length := by
    unfold start at h2
    by_cases hi : i < vs.length
    ·exact hi
    ·rw [List.getElem?_append_right (by simpa using hi)] at h2
     rw [List.getElem?_replicate] at h2
     split at h2 <;> cases h2
  have ha : vs[i]? = some v := by
   unfold start at h2
   rw [List.getElem?_append_left (by simpa using hi), List.getElem?_map] at h2
   cases e : vs[i]? with
   | none => rw [e] at h2; cases h2
   | some a => rw [e] at h2; cases h2; rfl
  obtain ⟨u, hu, rv⟩ := r.get ha
  have hp : ps[i]? = some y := by
   rw [← S.pre, List.getElem?_take_of_lt (by ac_nf)]; exact h1
  have ndP : ps.Nodup := by rw [← S.pre]; exact S.nd.sublist (List.take_sublist _ _)
  refine ⟨u, rv, ?_⟩
  rcases S.par y (List.mem_of_getElem? hp) with k | k
  ·exact .inl ⟨k, QbA ndP hp hu k⟩
  ·obtain ⟨c, e⟩ := QbC (n := s.heap.objs.size + 1) k
   refine .inr ⟨.inl k, c, e, ?_⟩
   have q := x.cell y c e
   rw [QbB ndP hp hu (by show scope.names.lookup y ≠ _; rw [k]; decide)] at q
   exact q
 ·exact e0.hok.fresh (Nat.le_of_lt (x.above y c (PySem.mem_of_lookup h)))
 ·unfold start
  show _ = N.length
  rw [List.length_append, List.length_map, List.length_replicate]
  ac_nf
theorem QbE {CX : CXT} {P : Program} {w : World} {K : PySem.W.Frag} {mg : Str → Option Value} {base : Heap} {k : Nat} {f : Addr} {name qual : Str} {params : Arguments} {body : List Stmt} {scope : Scope} {dV kV doc pm cdv ct oc : Value} {an od : Option Addr}
  {osl : Array (Option Value)} {N ps : List Str} {sp : Sp} (lk : K.lookup f = some ⟨oc, od, .func (PySem.W.fnOf name qual params body scope dV kV doc pm an cdv ct), osl⟩) (hcd : PySem.W.codeIn K cdv qual = true) (S : FnScope N ps scope)
  (len : ∀ vs H Q E, sp vs H Q E → vs.length = ps.length)
  (hbody : ∀ (A : Around) (outer : List Env) (s : Shared) (H : Hp) (vs : List V) (Q : VK) (E : XK), Room k (A.deeper (envOfC qual scope s.heap.objs.size f cdv)) → sp vs H Q E →
   ∃ t, PSs (cxOf CX P w K mg base N qual scope f cdv A outer s H E) body t ∧ t { nx := fun _ H' => Q .non H', rt := Q } (start N vs) H) :
  FnOk P w K mg base CX (k + 1) f (PySem.W.fnOf name qual params body scope dV kV doc pm an cdv ct) ps sp := by
 refine ⟨len, fun A outer s H args us vs Q E hr e0 hb r hsp => ?_⟩
 have hl := len _ _ _ _ hsp
 have KX : K.In s.heap := e0.mod.kin.keeps fun b o e => (e0.bs b o e).1
 have lim : s.heap.NoLimit := e0.mod.nolimit.keeps fun b o e => (e0.bs b o e).1
 have hkind : ∀ y ∈ ps.zip us, scope.names.lookup y.1 = some .local ∨ (scope.names.lookup y.1 = some .cell ∧ ((cellsFrom (s.heap.objs.size + 1) scope.names []).lookup y.1).isSome = true) := fun pq29 hy => by
  obtain ⟨n, v⟩ := pq29
  rcases S.par n (List.of_mem_zip hy).1 with q | q
  ·exact .inl q
  ·exact .inr ⟨q, PySem.W.cellsFrom_some _ _ _ (.inl q)⟩
 refine codeAny_call_function hr.depth (KX _ _ lk) rfl S.co S.gen rfl (PySem.W.codeRec_of KX hcd) (hb _ _ _ _ ?_)
 refine wpAny_newFunctionEnv_cells S.kind hkind fun env he s1 x => ?_
 subst he
 refine ⟨lim.keeps x.toInCall.keep, codeAny_func ?_⟩
 obtain ⟨t, ht, hq⟩ := hbody A outer s H vs Q E (hr.deeper _) hsp
 have I : Inv (cxOf CX P w K mg base N qual scope f cdv A outer s H E) [] (start N vs) H s1 := QbD S hr.hd e0 hl r x
 refine wpAny_mono (ht [] s1 (start N vs) H _ I hq) (fun fl s' hs => ?_) fun e s' hs => hs
 have fin : ∀ {σ' : St} {H' : Hp} {v : V} {u : Value}, Inv (cxOf CX P w K mg base N qual scope f cdv A outer s H E) [] σ' H' s' → RelV v u → Q v H' → CE outer P w H s Q u s' :=
  fun {σ' H' v u} J rv q => ⟨v, H', J.os, J.bare, J.base, J.hok, rv, q⟩
 cases fl with
 | ret u =>
  obtain ⟨v, σ', H', J, rv, q⟩ := hs
  exact fin J rv q
 | next =>
  obtain ⟨σ', H', J, q⟩ := hs
  exact fin (v := V.non) (u := Value.none) J rfl q
 | brk =>
  obtain ⟨_, _, _, q⟩ := hs
  exact False.elim q
 | cont =>
  obtain ⟨_, _, _, q⟩ := hs
  exact False.elim q
end L2
namespace L2
open PySem PySem.Spec PyProof.Rows
section
variable {X : Cx} {x : Str} {p pos : Pos} {e : Expr} {es : List Expr} {t : TA} {id T : String} {r : List V → Hp → VK → Prop}
noncomputable def tCB (r : List V → Hp → VK → Prop) (t : TA) : TE := fun σ H Q => t σ H fun vs H1 => r vs H1 Q
theorem QbF (hc : CallR X (.builtin id) r) (hg : Gl X x) (hm : X.mg x = none) (hv : bootBuiltins x = some (.builtin id)) (ha : PA X (e :: es) t) (hn : x ≠ "__name__" := by decide) (hdb : (x == ("__debug__" : Str)) = false := by decide)
  (he : starEach (e :: es) X.env = (false, eval e X.env) :: starEach es X.env := by rfl) (hpl : (backTo pos (starEach es X.env)).any (·.1) = false := by rfl) : PE X (.Call (.Name x p) (e :: es) [] pos) (tCB r t) := by
 intro pins s σ H Q I h
 refine wpAny_Call_Name_kw (Qaz I hg hm hv ?_ hn hdb)
 exact PyProof.Rows.callWith_builtin1 (thn (ha pos pins s σ H _ I h) fun us s1 pq30 => by obtain ⟨vs, H1, I1, r1, q1⟩ := pq30; exact hc pins s1 σ H1 vs us Q I1 r1 q1) he hpl
theorem QbG (hc : CallR X (.type T) r) (hg : Gl X x) (hm : X.mg x = none) (hv : bootBuiltins x = some (.type T)) (ha : PA X (e :: es) t) (hn : x ≠ "__name__" := by decide) (hdb : (x == ("__debug__" : Str)) = false := by decide)
  (he : starEach (e :: es) X.env = (false, eval e X.env) :: starEach es X.env := by rfl) (hpl : (backTo pos (starEach es X.env)).any (·.1) = false := by rfl) : PE X (.Call (.Name x p) (e :: es) [] pos) (tCB r t) := by
 intro pins s σ H Q I h
 refine wpAny_Call_Name_kw (Qaz I hg hm hv ?_ hn hdb)
 exact PyProof.Rows.callWith_type1 (thn (ha pos pins s σ H _ I h) fun us s1 pq31 => by obtain ⟨vs, H1, I1, r1, q1⟩ := pq31; exact hc pins s1 σ H1 vs us Q I1 r1 q1) he hpl
end
end L2
namespace HT
open PySem PyProof.Rows
section
open PySem.SeqAt
open PySem.AutoSeq1 (wpAny_loadPart')
open PySem.MeetsSeq PySem.MeetsSeq2 PySem.MeetsSeq3
end
section
variable {prog : Program} {w : World} {A : Around} {E : Value → Shared → Prop} {s : Shared}
theorem cat_tup {t b : Addr} {vs ws : List Value} {Q : Value → Shared → Prop} (ht : IsTup s.heap t vs.toArray) (hb : IsTup s.heap b ws.toArray) (hv : vs ≠ [])
  (h1 : ws = [] → Q (.ref t) s) (h2 : ws ≠ [] → Q (.ref s.heap.objs.size) { s with heap := s.heap.push { cls := .type "tuple", data := .seq (vs ++ ws).toArray } })
  (hsz : vs.length + ws.length ≤ sizeLine) : wpAny (model prog w) A (binaryOp .Add (.ref t) (.ref b)) Q E s := by
 obtain ⟨⟨cls, dd, data, sl⟩, ho, hc, n, hd⟩ := id ht
 obtain ⟨⟨cls2, dd2, data2, sl2⟩, ho2, hc2, n2, hd2⟩ := id hb
 simp only at hc hd hc2 hd2
 subst hc hd hc2 hd2
 have e : vs.toArray ++ ws.toArray = (vs ++ ws).toArray := by simp
 by_cases hw : ws = []
 ·exact concat_meets ⟨_, ho, rfl⟩ ⟨_, ho2, rfl⟩ noFill_tuple_add seq_tuple_add PySem.F.slot_tuple_add PySem.F.entry_tuple_add (PySem.F.args_tuple_add_2 _ _)
    (tuple_addW1 t b vs.toArray ws.toArray n n2 dd dd2 sl sl2 (by simpa using hv) (by simp [hw])) ⟨ho, ho2, h1 hw⟩
 ·refine concat_meets ⟨_, ho, rfl⟩ ⟨_, ho2, rfl⟩ noFill_tuple_add seq_tuple_add PySem.F.slot_tuple_add PySem.F.entry_tuple_add (PySem.F.args_tuple_add_2 _ _)
    (tuple_addW2 t b vs.toArray ws.toArray n n2 dd dd2 sl sl2 (by simpa using hv) (by simpa using hw) (by rw [List.size_toArray, List.size_toArray]; exact hsz)) ⟨ho, ho2, ?_⟩
  rw [e]
  exact h2 hw
noncomputable def sIx (n d : Nat) : Option Int → Nat
 | none => d
 | some v => if v < 0 then (v + (n : Int)).toNat else min v.toNat n
end
end HT
namespace L2
open PySem PySem.Spec PyProof.Rows
noncomputable abbrev TO := St → Hp → (Option Int → Hp → Prop) → Prop
def PO (X : Cx) (e : Option Expr) (t : TO) : Prop :=
 ∀ (pins : List (Addr × Obj)) (s : Shared) (σ : St) (H : Hp) (Q : Option Int → Hp → Prop), Inv X pins σ H s → t σ H Q →
  wpAny (model X.prog X.w) X.A (evalPart e X.env) (fun u s' => ∃ o H', Inv X pins σ H' s' ∧ IsPart u o ∧ Q o H') X.xe s
noncomputable def tNoPart : TO := fun _ H Q => Q none H
noncomputable def tPart (t : TE) : TO := fun σ H Q => t σ H fun x H1 => ∃ i, x = .int i ∧ Q (some i) H1
theorem QbH {ns : List Int} : ∀ {us : List Value}, Vals (ns.map V.int) us → IntsAre us ns := by
 induction ns with
 | nil => intro us r; rw [List.map_nil] at r; cases r; exact .nil
 | cons n ns ih =>
  intro us r
  rw [List.map_cons] at r
  cases r with
  | cons r1 r2 =>
   obtain ⟨t, e⟩ := r1
   subst e
   exact .cons n t (ih r2)
section
variable {X : Cx} {e : Expr} {te : TE} {lo hi : Option Expr} {tl th : TO} {pos p2 : Pos}
theorem QbI : PO X none tNoPart := by
 intro pins s σ H Q I h
 rw [evalPart_none]
 exact wpAny_pure ⟨none, H, I, .none, h⟩
theorem QbJ (h : PE X e te) : PO X (some e) (tPart te) := by
 intro pins s σ H Q I hw
 rw [evalPart_some]
 refine thn (h pins s σ H _ I hw) fun u s1 pq32 => ?_
 obtain ⟨x, H1, I1, r1, q1⟩ := pq32
 obtain ⟨i, rfl, q⟩ := q1
 obtain ⟨t, rfl⟩ := r1
 exact ⟨some i, H1, I1, .int i t, q⟩
def SlR (X : Cx) (r : V → Option Int → Option Int → Hp → VK → Prop) : Prop :=
 ∀ (pins : List (Addr × Obj)) (s : Shared) (σ : St) (H : Hp) (x : V) (v vl vu : Value) (lo hi : Option Int) (sl : Addr) (Q : VK), Inv X pins σ H s → RelV x v → s.heap.IsSliceOf sl vl vu .none → IsPart vl lo → IsPart vu hi → r x lo hi H Q →
  ∃ T id, typeLookup (.type T) "__getitem__" = pure (some (.builtin id)) ∧ s.TypeIs v T ∧ wpAny (model X.prog X.w) X.A (getItem v (.ref sl)) (EP X pins σ Q) X.xe s
theorem SlR.or {r r' : V → Option Int → Option Int → Hp → VK → Prop} (h : SlR X r) (h' : SlR X r') : SlR X (fun x lo hi H Q => r x lo hi H Q ∨ r' x lo hi H Q) := by
 intro pins s σ H x v vl vu lo hi sl Q I rx hs pl pu q
 rcases q with q | q
 ·exact h pins s σ H x v vl vu lo hi sl Q I rx hs pl pu q
 ·exact h' pins s σ H x v vl vu lo hi sl Q I rx hs pl pu q
noncomputable def tSl (r : V → Option Int → Option Int → Hp → VK → Prop) (te : TE) (tl th : TO) : TE := fun σ H Q => te σ H fun x H1 => tl σ H1 fun l H2 => th σ H2 fun u H3 => r x l u H3 Q
theorem QbK {r : V → Option Int → Option Int → Hp → VK → Prop} (hr : SlR X r) (he : PE X e te) (hl : PO X lo tl) (hu : PO X hi th) : PE X (.Subscript e (.Slice lo hi none p2) pos) (tSl r te tl th) := by
 intro pins s σ H Q I h
 refine Subscript_ (thn (he pins s σ H _ I h) fun v s1 pq33 => ?_)
 obtain ⟨x, H1, I1, r1, q1⟩ := pq33
 refine wpAny_Slice (thn (hl pins s1 σ H1 _ I1 q1) fun vl s2 ⟨l, H2, I2, pl, q2⟩ => thn (hu pins s2 σ H2 _ I2 q2) fun vu s3 pq35 => ?_)
 obtain ⟨u, H3, I3, pu, q3⟩ := pq35
 rw [evalPart_none]
 refine wpAny_pure ?_
 have I4 : Inv X pins σ H3 { s3 with heap := s3.heap.push { cls := .type "slice", data := .fields #[vl, vu, .none] } } := I3.kept (t' := s3.toks) fun b ob q => Heap.get?_push_of_some _ q
 obtain ⟨T, id, hT, ht, hg⟩ := hr pins { s3 with heap := s3.heap.push { cls := .type "slice", data := .fields #[vl, vu, .none] } } σ H3 x v vl vu l u s3.heap.objs.size Q I4 r1 (Heap.IsSliceOf.new ..) pl pu q3
 show wpAny (model X.prog X.w) X.A (subscriptTail e (.Slice lo hi none p2) v (.ref s3.heap.objs.size)) (EP X pins σ Q) X.xe { s3 with heap := s3.heap.push { cls := .type "slice", data := .fields #[vl, vu, .none] } }
 exact tail_any (ops := [.ref s3.heap.objs.size, v]) ht hT hg (by with_unfolding_all rfl)
noncomputable def cutV (xs : List V) (lo hi : Option Int) : List V := (xs.drop (HT.sIx xs.length 0 lo)).take (HT.sIx xs.length xs.length hi - HT.sIx xs.length 0 lo)
theorem QbL (xs : List V) (lo hi : Option Int) : (cutV xs lo hi).length ≤ xs.length := by
 unfold cutV
 rw [List.length_take, List.length_drop]
 ac_nf
noncomputable def rCatT (K : PySem.W.Frag) : R2 := fun x y H Q => ∃ a b xs ys, x = .ref a ∧ y = .ref b ∧ SqT K H a xs ∧ SqT K H b ys ∧ xs ≠ [] ∧ xs.length + ys.length ≤ sizeLine ∧
 (ys = [] → Q (.ref a) H) ∧ (ys ≠ [] → ∀ p, H p = none → Q (.ref p) (upd H p (.tup (xs ++ ys))))
theorem Vals.nil_iff {xs : List V} {us : List Value} (r : Vals xs us) : us = [] ↔ xs = [] := by
 cases r with
 | nil => simp
 | cons _ _ => simp
theorem QbM : OpR X (binaryOp .Add) (rCatT X.K) := by
 intro pins s σ H x y v u Q I rx ry h
 obtain ⟨a, b, xs, ys, rfl, rfl, ha, hb, hx, hz, q1, q2⟩ := h
 cases rx
 cases ry
 obtain ⟨its, r1, p1, _⟩ := I.tuple ha
 obtain ⟨its2, r2, p2, _⟩ := I.tuple hb
 refine HT.cat_tup p1 p2 (fun z => hx (r1.nil_iff.mp z)) (fun z => ⟨.ref a, H, I, rfl, q1 (r2.nil_iff.mp z)⟩) (fun z => ?_) (by rw [← r1.length, ← r2.length]; exact hz)
 refine ⟨.ref s.heap.objs.size, _, I.laid (t' := s.toks) (o := .tup (xs ++ ys)) (fun b ob q => Heap.get?_push_of_some _ q) (Nat.le_refl _) ?_, rfl, q2 (fun w => z (r2.nil_iff.mpr w)) _ (I.hok.fresh (Nat.le_refl _))⟩
 exact ⟨by rw [List.length_append]; exact hz, _, r1.append r2, IsTup.new _ _⟩
end
end L2
namespace L2
open PySem PySem.Spec PyProof.Rows
noncomputable def ixN (n : Nat) (i : Int) : Option Nat := if 0 ≤ i then (if i < n then some i.toNat else none) else if -(n : Int) ≤ i then some (i + n).toNat else none
noncomputable def atI {α : Type} (xs : List α) (i : Int) : Option α := (ixN xs.length i).bind fun j => xs[j]?
theorem QbN {n : Nat} {i : Int} {j : Nat} (h : ixN n i = some j) : seqIndex? i n = some j ∧ j < n ∧ -(n : Int) ≤ i ∧ i < n := by
 unfold ixN at h
 by_cases h0 : 0 ≤ i
 ·rw [if_pos h0] at h
  by_cases h1 : i < n
  ·rw [if_pos h1] at h
   have e : i.toNat = j := Option.some.inj h
   exact ⟨by rw [seqIndex_of h0 h1, e], by ac_nf, by ac_nf, h1⟩
  ·rw [if_neg h1] at h; cases h
 ·rw [if_neg h0] at h
  by_cases h1 : -(n : Int) ≤ i
  ·rw [if_pos h1] at h
   have e : (i + n).toNat = j := Option.some.inj h
   exact ⟨by rw [seqIndex_neg (by ac_nf) h1, e], by ac_nf, h1, by ac_nf⟩
  ·rw [if_neg h1] at h; cases h
theorem QbO {α : Type} {xs : List α} {i : Int} {v : α} (h : atI xs i = some v) : ∃ j, seqIndex? i xs.length = some j ∧ xs[j]? = some v ∧ j < xs.length ∧ -(xs.length : Int) ≤ i ∧ i < xs.length := by
 unfold atI at h
 cases e : ixN xs.length i with
 | none => rw [e] at h; cases h
 | some j =>
  rw [e] at h
  obtain ⟨h1, h2, h3, h4⟩ := QbN e
  exact ⟨j, h1, h, h2, h3, h4⟩
def PlainIx (b : Expr) : Prop := ∀ o i, subscripted b false o i = operate [o, i] (getItem o i)
def IxR (X : Cx) (r : R2) : Prop :=
 ∀ (value slice : Expr) (pins : List (Addr × Obj)) (s : Shared) (σ : St) (H : Hp) (x y : V) (v u : Value) (Q : VK), Inv X pins σ H s → RelV x v → RelV y u → r x y H Q →
  subscripted slice false v u = operate [v, u] (getItem v u) → wpAny (model X.prog X.w) X.A (subscriptTail value slice v u) (EP X pins σ Q) X.xe s
def MtR (X : Cx) (id : String) (r : V → List V → Hp → VK → Prop) : Prop :=
 ∀ (pins : List (Addr × Obj)) (s : Shared) (σ : St) (H : Hp) (x : V) (xs : List V) (v : Value) (us : List Value) (Q : VK), Inv X pins σ H s → RelV x v → Vals xs us → r x xs H Q →
  wpAny (model X.prog X.w) X.A (call (.builtin id) (v :: us)) (EP X pins σ Q) X.xe s
section
variable {X : Cx} {a b : Expr} {ta tb : TE} {pos : Pos}
theorem IxR.or {r r' : R2} (h : IxR X r) (h' : IxR X r') : IxR X (fun x y H Q => r x y H Q ∨ r' x y H Q) := by
 intro value slice pins s σ H x y v u Q I rx ry q hs
 rcases q with q | q
 ·exact h value slice pins s σ H x y v u Q I rx ry q hs
 ·exact h' value slice pins s σ H x y v u Q I rx ry q hs
theorem MtR.or {id : String} {r r' : V → List V → Hp → VK → Prop} (h : MtR X id r) (h' : MtR X id r') : MtR X id (fun x xs H Q => r x xs H Q ∨ r' x xs H Q) := by
 intro pins s σ H x xs v us Q I rx rs q
 rcases q with q | q
 ·exact h pins s σ H x xs v us Q I rx rs q
 ·exact h' pins s σ H x xs v us Q I rx rs q
theorem QbP {r : R2} (hr : IxR X r) (ha : PE X a ta) (hb : PE X b tb) (hs : PlainIx b) : PE X (.Subscript a b pos) (tOp r ta tb) := by
 intro pins s σ H Q I h
 exact Subscript_ (binT ha hb I h fun v u s2 x y H2 I2 rx ry q => hr a b pins s2 σ H2 x y v u Q I2 rx ry q (hs _ _))
noncomputable def rIxL (K : PySem.W.Frag) : R2 := fun x y H Q => ∃ p xs i v, x = .ref p ∧ y = .int i ∧ SqL K H p xs ∧ atI xs i = some v ∧ Q v H
noncomputable def rIxT (K : PySem.W.Frag) : R2 := fun x y H Q => ∃ p xs i v, x = .ref p ∧ y = .int i ∧ SqT K H p xs ∧ atI xs i = some v ∧ Q v H
noncomputable def rIxS : R2 := fun x y H Q => ∃ z i c, x = .str z ∧ y = .int i ∧ z.length ≤ sizeLine ∧ atI z.cps.toList i = some c ∧ Q (.str ⟨#[c]⟩) H
theorem QbQ : IxR X (rIxL X.K) := by
 intro value slice pins s σ H x y v u Q I rx ry h hs
 obtain ⟨p, xs, i, z, rfl, rfl, hq, he, q⟩ := h
 cases rx
 obtain ⟨t, rfl⟩ := ry
 obtain ⟨its, r, pl, hz⟩ := I.list hq
 obtain ⟨j, h1, h2, h3, h4, h5⟩ := QbO he
 obtain ⟨w, ew, rw'⟩ := r.get h2
 have hl := r.length
 have hn := Qbg
 have fin : EP X pins σ Q w s := ⟨z, H, I, rw', q⟩
 by_cases h0 : 0 ≤ i
 ·have hj : i.toNat = j := by
    rw [seqIndex_of h0 h5] at h1
    exact Option.some.inj h1
  exact item_listR pl.isList h0 (by ac_nf) (by rw [hj]; simpa using ew) fin hs
 ·have hj : (i + (its.toArray.size : Int)).toNat = j := by
    rw [seqIndex_neg (by ac_nf) h4] at h1
    rw [List.size_toArray, ← hl]
    exact Option.some.inj h1
  exact subscriptTail_builtinR (x := w) pl.isList.typeIs slot_list_getitem.lookup
   (wpAny_getItem_list_neg (Q := fun r s' => r = w ∧ EP X pins σ Q r s') pl.isList (by ac_nf) (by rw [List.size_toArray] <;> ac_nf) (by ac_nf) (by rw [hj]; simpa using ew) ⟨rfl, fin⟩) hs
theorem QbR : IxR X (rIxT X.K) := by
 intro value slice pins s σ H x y v u Q I rx ry h hs
 obtain ⟨p, xs, i, z, rfl, rfl, hq, he, q⟩ := h
 cases rx
 obtain ⟨t, rfl⟩ := ry
 obtain ⟨its, r, pl, hz⟩ := I.tuple hq
 obtain ⟨j, h1, h2, h3, h4, h5⟩ := QbO he
 obtain ⟨w, ew, rw'⟩ := r.get h2
 have hl := r.length
 have hn := Qbg
 have fin : EP X pins σ Q w s := ⟨z, H, I, rw', q⟩
 exact subscriptTail_builtinR (x := w) pl.typeIs slot_tuple_getitem.lookup
  (getItem_tuple (j := j) (Q := fun r s' => r = w ∧ EP X pins σ Q r s') pl (by ac_nf) (by ac_nf) (by rw [List.size_toArray, ← hl]; exact h1) (by simpa using ew) ⟨rfl, fin⟩) hs
theorem QbS : IxR X rIxS := by
 intro value slice pins s σ H x y v u Q I rx ry h hs
 obtain ⟨z, i, c, rfl, rfl, hz, he, q⟩ := h
 obtain ⟨t, rfl⟩ := rx
 obtain ⟨t', rfl⟩ := ry
 obtain ⟨j, h1, h2, h3, h4, h5⟩ := QbO he
 have hl : z.cps.toList.length = z.length := by simp [Str.length]
 rw [hl] at h1 h4 h5
 have hn := Qbg
 exact tail_any (typeIs_str s z t) slot_str_getitem.lookup (getItem_str (c := c) (by
  have e1 : decide (i < -(2 ^ 63 : Int)) = false := decide_eq_false (by ac_nf)
  have e2 : decide (i ≥ 2 ^ 63) = false := decide_eq_false (by ac_nf)
  rw [e1, e2, Bool.or_false]) (by rw [h1]; simpa using h2) ⟨.str ⟨#[c]⟩, H, I.tok _, ⟨_, rfl⟩, q⟩) hs
noncomputable def rIx (K : PySem.W.Frag) : R2 := fun x y H Q => rIxL K x y H Q ∨ rIxT K x y H Q ∨ rIxS x y H Q
theorem QbT : IxR X (rIx X.K) := QbQ.or (QbR.or QbS)
theorem QbU (its : List Value) (n j : Nat) (u : Value) : Obj.mapSeq (·.setIfInBounds j u) { cls := .type "list", data := .seq its.toArray n } = { cls := .type "list", data := .seq (its.set j u).toArray n } := by
 simp [Obj.mapSeq]
theorem Inv.lst {pins : List (Addr × Obj)} {σ : St} {H : Hp} {s : Shared} {p : Addr} {xs : List V} (I : Inv X pins σ H s) (h : H p = some (.lst xs)) :
  ∃ (its : List Value) (n : Nat), Vals xs its ∧ s.heap.get? p = some { cls := .type "list", data := .seq its.toArray n } ∧ xs.length ≤ sizeLine := by
 obtain ⟨z, its, n, r, e⟩ := I.hok p _ h
 exact ⟨its, n, r, e, z⟩
theorem Inv.lstUpd {pins : List (Addr × Obj)} {σ : St} {H : Hp} {s : Shared} {p : Addr} {xs ys : List V} {its its' : List Value} {n n' : Nat} {f : Obj → Obj} (I : Inv X pins σ H s) (h : H p = some (.lst xs))
  (ho : s.heap.get? p = some { cls := .type "list", data := .seq its.toArray n }) (hf : f { cls := .type "list", data := .seq its.toArray n } = { cls := .type "list", data := .seq its'.toArray n' }) (r : Vals ys its') (hz : ys.length ≤ sizeLine) (t : Nat) :
  Inv X pins σ (upd H p (.lst ys)) { s with heap := s.heap.update p f, toks := t } := by
 have e : (s.heap.update p f).get? p = some { cls := .type "list", data := .seq its'.toArray n' } := by
  rw [Heap.get?_update_self f ho (by rw [hf] <;> rfl), hf]
 refine I.write (x := p) (e := p) (by rw [h]; trivial) (.inl rfl) (fun b u hb q => (Heap.get?_update_other _ _ (Ne.symm hb)).trans q) ⟨_, e⟩ ?_
 exact ⟨hz, its', n', r, e⟩
noncomputable def rSetL : V → V → V → Hp → (Hp → Prop) → Prop := fun o i v H Q => ∃ p xs k j, o = .ref p ∧ i = .int k ∧ H p = some (.lst xs) ∧ ixN xs.length k = some j ∧ Q (upd H p (.lst (xs.set j v)))
theorem QbV : PSet X rSetL := by
 intro pins s σ H o i v ov iv u Q I ro ri rv h
 obtain ⟨p, xs, k, j, rfl, rfl, hp, hj, q⟩ := h
 cases ro
 obtain ⟨t, rfl⟩ := ri
 obtain ⟨its, n, r, ho, hz⟩ := I.lst hp
 obtain ⟨h1, h2, h3, h4⟩ := QbN hj
 have hl := r.length
 have hn := Qbg
 have I' : Inv X pins σ (upd H p (.lst (xs.set j v))) { s with heap := s.heap.update p (Obj.mapSeq (·.setIfInBounds j u)) } :=
  I.lstUpd hp ho (QbU its n j u) (r.set rv j) (by rw [List.length_set]; exact hz) s.toks
 by_cases h0 : 0 ≤ k
 ·have hk : k.toNat = j := by
    rw [seqIndex_of h0 h4] at h1
    exact Option.some.inj h1
  exact PySem.W.ki_setAt ho h0 (by ac_nf) (by rw [List.size_toArray, ← hl]; exact h4) (by rw [hk]; exact ⟨_, I', q⟩)
 ·have hk : (k + (its.toArray.size : Int)).toNat = j := by
    rw [seqIndex_neg (by ac_nf) h3] at h1
    rw [List.size_toArray, ← hl]
    exact Option.some.inj h1
  exact PySem.W.ki_setBack ho (by ac_nf) (by rw [List.size_toArray, ← hl]; exact h3) (by ac_nf) (by rw [hk]; exact ⟨_, I', q⟩)
theorem QbW (lo hi : Option Int) (n : Nat) : (sliceBounds lo hi none n).1 = ((HT.sIx n 0 lo : Nat) : Int) ∧ (sliceBounds lo hi none n).2.1 = ((HT.sIx n n hi : Nat) : Int) ∧ (sliceBounds lo hi none n).2.2 = 1 := by
 refine ⟨?_, ?_, rfl⟩
 ·cases lo with
  | none => simp [sliceBounds, HT.sIx]
  | some i =>
   simp only [sliceBounds, HT.sIx, Option.getD_none, show (1 : Int) > 0 by decide, if_true]
   by_cases h : i < 0
   ·simp only [h, if_true] <;> ac_nf
   ·simp only [h, if_false] <;> ac_nf
 ·cases hi with
  | none => simp [sliceBounds, HT.sIx]
  | some i =>
   simp only [sliceBounds, HT.sIx, Option.getD_none, show (1 : Int) > 0 by decide, if_true]
   by_cases h : i < 0
   ·simp only [h, if_true] <;> ac_nf
   ·simp only [h, if_false] <;> ac_nf
theorem QbX (its : List Value) (lo hi : Option Int) : slicePick its.toArray lo hi none = ((its.drop (HT.sIx its.length 0 lo)).take (HT.sIx its.length its.length hi - HT.sIx its.length 0 lo)).toArray := by
 obtain ⟨h1, h2, h3⟩ := QbW lo hi its.toArray.size
 unfold slicePick
 rw [h1, h2, h3]
 simp only [sliceRange_one, pick_run, List.size_toArray] <;> rfl
noncomputable def rSlL (K : PySem.W.Frag) : V → Option Int → Option Int → Hp → VK → Prop := fun x lo hi H Q => ∃ a xs, x = .ref a ∧ SqL K H a xs ∧ ∀ p, H p = none → Q (.ref p) (upd H p (.lst (cutV xs lo hi)))
theorem QbY : SlR X (rSlL X.K) := by
 intro pins s σ H x v vl vu lo hi sl Q I rx hs pl pu h
 obtain ⟨a, xs, rfl, hx, q⟩ := h
 cases rx
 obtain ⟨its, r, ht, hz⟩ := I.list hx
 have hlen := r.length
 refine ⟨"list", _, slot_list_getitem.lookup, ht.isList.typeIs, ?_⟩
 refine wpAny_getItem_list_slice ht.isList hs pl pu .none (by simp) ?_ (by rw [List.size_toArray] <;> ac_nf)
 rw [QbX, ← hlen]
 refine ⟨.ref s.heap.objs.size, _, I.laid (t' := s.toks) (o := .lst (cutV xs lo hi)) (fun b ob q => Heap.get?_push_of_some _ q) (Nat.le_refl _) ?_, rfl, q _ (I.hok.fresh (Nat.le_refl _))⟩
 exact ⟨Nat.le_trans (QbL xs lo hi) hz, _, 0, (r.drop (HT.sIx xs.length 0 lo)).take (HT.sIx xs.length xs.length hi - HT.sIx xs.length 0 lo), Heap.get?_push_size _ rfl⟩
theorem QbZ : CallR X (.builtin "len") (fun xs H Q => ∃ p ys, xs = [.ref p] ∧ (SqL X.K H p ys ∨ SqT X.K H p ys) ∧ Q (.int ys.length) H) := by
 intro pins s σ H xs us Q I r h
 obtain ⟨p, ys, rfl, hq, q⟩ := h
 obtain ⟨u, rfl, rx⟩ := Qbk r
 cases rx
 have hn := Qbg
 rcases hq with hq | hq
 ·obtain ⟨its, r', pl, hz⟩ := I.list hq
  have hlen := r'.length
  exact Calls.call_len_list pl.isList (by simp only [List.size_toArray] <;> ac_nf) ⟨.int ys.length, H, I.tok _, ⟨s.toks + 1, by rw [List.size_toArray, hlen]⟩, q⟩
 ·obtain ⟨its, r', pl, hz⟩ := I.tuple hq
  have hlen := r'.length
  exact len_tuple pl (by simp only [List.size_toArray] <;> ac_nf) ⟨.int ys.length, H, I.tok _, ⟨s.toks + 1, by rw [List.size_toArray, hlen]⟩, q⟩
theorem Qb0 : CallR X (.builtin "len") (fun xs H Q => ∃ z, xs = [.str z] ∧ z.length ≤ sizeLine ∧ Q (.int z.length) H) := by
 intro pins s σ H xs us Q I r h
 obtain ⟨z, rfl, hz, q⟩ := h
 obtain ⟨u, rfl, t, rfl⟩ := Qbk r
 have hn := Qbg
 exact len_str (by ac_nf) ⟨.int z.length, H, I.tok _, ⟨_, rfl⟩, q⟩
theorem CallR.or {f : Value} {r r' : List V → Hp → VK → Prop} (h : CallR X f r) (h' : CallR X f r') : CallR X f (fun xs H Q => r xs H Q ∨ r' xs H Q) := by
 intro pins s σ H xs us Q I rs q
 rcases q with q | q
 ·exact h pins s σ H xs us Q I rs q
 ·exact h' pins s σ H xs us Q I rs q
theorem Qb1 : CallR X (.type "tuple") (fun xs H Q => ∃ p ys, xs = [.ref p] ∧ ((SqL X.K H p ys ∧ ∀ l, H l = none → Q (.ref l) (upd H l (.tup ys))) ∨ (SqT X.K H p ys ∧ Q (.ref p) H))) := by
 intro pins s σ H xs us Q I r h
 obtain ⟨p, ys, rfl, h⟩ := h
 obtain ⟨u, rfl, rx⟩ := Qbk r
 cases rx
 rcases h with ⟨hq, q⟩ | ⟨hq, q⟩
 ·obtain ⟨its, r', pl, hz⟩ := I.list hq
  have hlen := r'.length
  refine call_tuple_list pl.isList (fun h' kp => ?_) (by simp only [List.size_toArray] <;> ac_nf)
  have I1 : Inv X pins σ H { s with heap := h' } := I.kept (t' := s.toks) kp
  have I2 : Inv X pins σ (upd H h'.objs.size (.tup ys)) { s with heap := h'.push { cls := .type "tuple", data := .seq its.toArray } } :=
   I1.laid (t' := s.toks) (fun b o e => Heap.get?_push_of_some _ e) (Nat.le_refl _) (show ObjOk X.prog X.w _ _ _ (.tup ys) from ⟨hz, its, r', IsTup.new _ _⟩)
  exact ⟨.ref h'.objs.size, _, I2, rfl, q _ (I1.hok.fresh (Nat.le_refl _))⟩
 ·obtain ⟨its, r', pl, hz⟩ := I.tuple hq
  exact call_tuple_same pl ⟨.ref p, H, I, rfl, q⟩
def tyV (K : PySem.W.Frag) (T : String) (x : V) (H : Hp) : Prop := match x with
 | .str _ => T = "str"
 | .int _ => T = "int"
 | .ref p => (T = "list" ∧ ∃ xs, SqL K H p xs) ∨ (T = "tuple" ∧ ∃ o, K.lookup p = some o ∧ o.cls = .type "tuple" ∧ o.dict = none) ∨
   (T = "dict" ∧ ((∃ kvs, H p = some (.dK kvs)) ∨ ∃ kvs, H p = some (.dT kvs))) ∨ (T = "set" ∧ ∃ S n, H p = some (.set S n))
 | _ => False
theorem Qb2 {pins : List (Addr × Obj)} {σ : St} {H : Hp} {s : Shared} {T : String} {x : V} {v : Value} (I : Inv X pins σ H s) (r : RelV x v) (ty : tyV X.K T x H) :
  s.TypeIs v T ∧ ∀ a, v = .ref a → ∃ ob, s.heap.get? a = some ob ∧ ob.dict = none := by
 cases x with
 | str z =>
  obtain ⟨t, rfl⟩ := r
  cases (show T = "str" from ty)
  exact ⟨typeIs_str s z t, fun _ e => nomatch e⟩
 | int i =>
  obtain ⟨t, rfl⟩ := r
  cases (show T = "int" from ty)
  exact ⟨typeIs_int s i t, fun _ e => nomatch e⟩
 | ref p =>
  cases r
  rcases ty with ⟨rfl, xs, hq⟩ | ⟨rfl, o, hk, hc, hd⟩ | ⟨rfl, hk⟩ | ⟨rfl, S, n, hk⟩
  ·obtain ⟨its, _, pl, _⟩ := I.list hq
   refine ⟨pl.isList.typeIs, fun a e => ?_⟩
   cases e
   obtain ⟨o, n, e, c, hd, _⟩ := pl
   exact ⟨o, e, hd⟩
  ·refine ⟨⟨o, I.kIn p o hk, hc⟩, fun a e => ?_⟩
   cases e
   exact ⟨o, I.kIn _ o hk, hd⟩
  ·have z : ∃ o, s.heap.get? p = some o ∧ o.ExactDict := by
     rcases hk with ⟨kvs, hk⟩ | ⟨kvs, hk⟩
     ·obtain ⟨_, _, _, _, o, _, _, e, ex, _⟩ := I.hok p _ hk
      exact ⟨o, e, ex⟩
     ·obtain ⟨_, _, _, _, o, _, _, e, ex, _⟩ := I.hok p _ hk
      exact ⟨o, e, ex⟩
   obtain ⟨o, e, ex⟩ := z
   refine ⟨⟨o, e, ex.1⟩, fun a e2 => ?_⟩
   cases e2
   exact ⟨o, e, ex.2.1⟩
  ·obtain ⟨o, _, _, _, e, ex, _⟩ := I.hok p _ hk
   refine ⟨⟨o, e, ex.1⟩, fun a e2 => ?_⟩
   cases e2
   exact ⟨o, e, ex.2.1⟩
 | _ => exact False.elim ty
noncomputable def tBM (K : PySem.W.Frag) (T : String) (r : V → List V → Hp → VK → Prop) (to : TE) (t : TA) : TE := fun σ H Q => to σ H fun x H1 => tyV K T x H1 ∧ t σ H1 fun xs H2 => r x xs H2 Q
variable {o e : Expr} {es : List Expr} {to : TE} {t : TA} {name : Str} {apos cpos : Pos} {T id : String} {r : V → List V → Hp → VK → Prop}
theorem Qb3 (pa : PlainAttrs T) (slot : Slot T name id) (hty : typeOf (.builtin id) = pure (.type "method_descriptor")) (hm : MtR X id r) (ho : PE X o to) (ha : PA X (e :: es) t)
  (hbase : attributeBase o name X.env (eval o X.env) = eval o X.env := by rfl)
  (hfew : ((backTo cpos (starEach (e :: es) X.env)).all (fun x => !x.1) && (backToKw cpos (keywordEach [] X.env)).all (fun x => x.1.isSome)
   && decide ((e :: es).length + ([] : List Keyword).length + (if ([] : List Keyword).isEmpty then 0 else 1) < 30)) = true := by rfl)
  (hline : (apos.endLine == cpos.line) = true := by rfl) (hs : starEach (e :: es) X.env = (false, eval e X.env) :: starEach es X.env := by rfl) (hplain : (backTo cpos (starEach es X.env)).any (·.1) = false := by rfl) :
  PE X (.Call (.Attribute o name apos) (e :: es) [] cpos) (tBM X.K T r to t) := by
 intro pins s σ H Q I h
 refine wpAny_Call_method_late hbase hfew hline rfl (thn (ho pins s σ H _ I h) fun v s1 pq36 => ?_)
 obtain ⟨x, H1, I1, r1, ty, q1⟩ := pq36
 obtain ⟨h1, h2⟩ := Qb2 I1 r1 ty
 refine ⟨T, id, pa, slot, hty, h1, h2, ?_⟩
 have hA := ha cpos pins s1 σ H1 _ I1 q1
 rw [hs] at hA ⊢
 refine Calls.callWith_builtin (by show (false || (backTo cpos (starEach es X.env)).any (·.1)) = false; rw [hplain] <;> rfl) (Calls.evalArgs_plain ?_)
 exact thn hA fun us s2 pq37 => by obtain ⟨vs, H2, I2, r2, q2⟩ := pq37; exact hm pins s2 σ H2 x vs v us Q I2 r1 r2 q2
/- xs.append(e), list.index on a module's tuple .. are MtR facts of 06m -/
end
end L2
namespace L2
open PySem PySem.Spec PyProof.Rows
def MtM (X : Cx) (id : String) (r : V → List V → Hp → VK → Prop) : Prop :=
 ∀ (pins : List (Addr × Obj)) (s : Shared) (σ : St) (H : Hp) (x : V) (xs : List V) (v : Value) (us : List Value) (Q : VK), Inv X pins σ H s → RelV x v → Vals xs us → r x xs H Q →
  wpAny (model X.prog X.w) X.A (call (.builtin id) (v :: us)) (EP X pins σ Q) X.xe s
theorem Vals.one {x : V} {us : List Value} (h : Vals [x] us) : ∃ u, us = [u] ∧ RelV x u := by
 cases h with
 | cons r h => cases h; exact ⟨_, rfl, r⟩
theorem Vals.two {x y : V} {us : List Value} (h : Vals [x, y] us) : ∃ u v, us = [u, v] ∧ RelV x u ∧ RelV y v := by
 cases h with
 | cons r h => cases h with
  | cons q h => cases h; exact ⟨_, _, rfl, r, q⟩
theorem Vals.zero : ∀ {us : List Value}, Vals [] us → us = []
 | _, .nil => rfl
theorem Vals.dropLast {xs : List V} {us : List Value} (h : Vals xs us) : Vals xs.dropLast us.dropLast := by
 induction h with
 | nil => exact .nil
 | cons r t ih =>
  cases t with
  | nil => exact .nil
  | cons q t' => exact .cons r ih
theorem Vals.reverse {xs : List V} {us : List Value} (h : Vals xs us) : Vals xs.reverse us.reverse := by
 induction h with
 | nil => exact .nil
 | cons r t ih => rw [List.reverse_cons, List.reverse_cons]; exact Vals.append ih (.cons r .nil)
theorem Vals.rep {xs : List V} {us : List Value} (h : Vals xs us) : ∀ k : Nat, Vals (List.replicate k xs).flatten (List.replicate k us).flatten
 | 0 => .nil
 | k + 1 => by
  rw [List.replicate_succ, List.replicate_succ, List.flatten_cons, List.flatten_cons]
  exact Vals.append h (Vals.rep h k)
section
variable {X : Cx} {pins : List (Addr × Obj)} {σ : St} {H : Hp} {s : Shared} {l b : Addr} {xs ys zs : List V}
theorem Inv.lset {its its' : List Value} {n : Nat} {f : Array Value → Array Value} {t' : Nat} (I : Inv X pins σ H s) (hH : H l = some (.lst xs))
  (e : s.heap.get? l = some { cls := .type "list", data := .seq its.toArray n }) (hf : f its.toArray = its'.toArray) (hv : Vals ys its') (hz : ys.length ≤ sizeLine) :
  Inv X pins σ (upd H l (.lst ys)) { s with heap := s.heap.update l (Obj.mapSeq f), toks := t' } := by
 have q := PySem.IsL.update e f
 rw [hf] at q
 refine I.write (x := l) (e := l) (by rw [hH]; exact trivial) (.inl rfl) (fun b' u hb hu => (Heap.get?_update_other s.heap (Obj.mapSeq f) (Ne.symm hb)).trans hu) ⟨_, q⟩ ?_
 exact ⟨hz, its', _, hv, q⟩
theorem Inv.lnew {its : List Value} {t' : Nat} (I : Inv X pins σ H s) (hv : Vals ys its) (hz : ys.length ≤ sizeLine) :
  Inv X pins σ (upd H s.heap.objs.size (.lst ys)) { s with heap := s.heap.push { cls := .type "list", data := .seq its.toArray }, toks := t' } :=
 I.laid (fun _ _ q => Heap.get?_push_of_some _ q) (Nat.le_refl _) ⟨hz, its, 0, hv, Heap.get?_push_size _ rfl⟩
theorem Inv.fresh (I : Inv X pins σ H s) : H s.heap.objs.size = none := I.hok.fresh (Nat.le_refl _)
theorem Inv.lstM (I : Inv X pins σ H s) (hH : H l = some (.lst xs)) : xs.length ≤ sizeLine ∧ ∃ (its : List Value) (n : Nat), Vals xs its ∧ xs.length = its.length ∧ s.heap.get? l = some { cls := .type "list", data := .seq its.toArray n } := by
 obtain ⟨z, its, n, r, e⟩ := I.hok l _ hH
 exact ⟨z, its, n, r, r.length, e⟩
theorem Qb4 {n : Nat} (h : n ≤ sizeLine) : Builtin.List.listTooLong n = false := by
 unfold Builtin.List.listTooLong
 exact decide_eq_false (by ac_nf)
end
section
variable {X : Cx}
noncomputable def rAppend : V → List V → Hp → VK → Prop := fun x vs H Q => ∃ l xs y, x = .ref l ∧ vs = [y] ∧ H l = some (.lst xs) ∧ xs.length < sizeLine ∧ Q .non (upd H l (.lst (xs ++ [y])))
theorem Qb5 : MtM X "list.append" rAppend := by
 intro pins s σ H x vs v us Q I rx rv h
 obtain ⟨l, xs, y, rfl, rfl, hH, hz, q⟩ := h
 cases rx
 obtain ⟨u, rfl, ru⟩ := rv.one
 obtain ⟨z, its, n, r, hl, e⟩ := I.lstM hH
 refine call_meets F.slot_list_append ⟨_, e, rfl⟩ F.entry_list_append (F.args_list_append_2 _ _) (PySem.list_append l its.toArray n u (by rw [List.size_toArray]; ac_nf)) ⟨e, ?_⟩
 refine ⟨.non, _, I.lset (its' := its ++ [u]) hH e (by simp) (r.append (.cons ru .nil)) ?_, rfl, q⟩
 rw [List.length_append, List.length_singleton]
 ac_nf
noncomputable def rCat : R2 := fun x y H Q => ∃ l b xs zs, x = .ref l ∧ y = .ref b ∧ H l = some (.lst xs) ∧ H b = some (.lst zs) ∧ xs.length + zs.length ≤ sizeLine ∧ ∀ p, H p = none → Q (.ref p) (upd H p (.lst (xs ++ zs)))
theorem Qb6 : OpR X (binaryOp .Add) rCat := by
 intro pins s σ H x y v u Q I rx ry h
 obtain ⟨l, b, xs, zs, rfl, rfl, hH, hB, hz, q⟩ := h
 cases rx
 cases ry
 obtain ⟨z, its, n, r, hl, e⟩ := I.lstM hH
 obtain ⟨z2, its2, n2, r2, hl2, e2⟩ := I.lstM hB
 refine PySem.P.add_list e e2 ?_ (by rw [List.size_toArray, List.size_toArray]; ac_nf)
 have ea : its.toArray ++ its2.toArray = (its ++ its2).toArray := by simp
 rw [ea]
 exact ⟨.ref _, _, I.lnew (t' := s.toks) (r.append r2) (by rw [List.length_append]; ac_nf), rfl, q _ I.fresh⟩
end
section
variable {prog : Program} {w : World} {A : Around} {E : Value → Shared → Prop} {s : Shared}
theorem Qb7 {a c n : Nat} (hac : a ≤ c) (hc : c ≤ n) : sliceBounds (some (a : Int)) (some (c : Int)) none n = ((a : Int), (c : Int), 1) := by
 simp only [sliceBounds, Option.getD_none]
 have h1 : ¬ ((a : Int) < 0) := by ac_nf
 have h2 : ¬ ((c : Int) < 0) := by ac_nf
 simp only [h1, h2, if_false, show (1 : Int) > 0 by decide, if_true]
 congr 1
 ·ac_nf
 ·congr 1; ac_nf
theorem Qb8 {l b sl : Addr} {items new : Array Value} {n n2 : Nat} {vl vu : Value} {a c : Nat} {Q : Unit → Shared → Prop}
  (e : s.heap.get? l = some { cls := .type "list", data := .seq items n }) (e2 : s.heap.get? b = some { cls := .type "list", data := .seq new n2 }) (hne : l ≠ b)
  (hs : s.heap.IsSliceOf sl vl vu .none) (pl : IsPart vl (some (a : Int))) (pu : IsPart vu (some (c : Int))) (hac : a ≤ c) (hc : c ≤ items.size)
  (hsz : items.size + new.size ≤ sizeLine) (h : Q () { s with heap := s.heap.update l (Obj.mapSeq fun xs => xs.extract 0 a ++ new ++ xs.extract c xs.size) }) :
  wpAny (model prog w) A (setItem (.ref l) (.ref sl) (.ref b)) Q E s := by
 have hl : s.heap.IsList l items := PySem.IsL.isList e
 have hb : s.heap.IsList b new := PySem.IsL.isList e2
 obtain ⟨os, hos, hcs, hds⟩ := id hs
 have hTs : s.TypeIs (.ref sl) "slice" := ⟨os, hos, hcs⟩
 have hstep : ¬ ((rawPart none == rawInt 0) = true) := Bool.false_ne_true
 have hsame : Builtin.List.listSameRef (.ref l) (.ref b) = false := by
  unfold Builtin.List.listSameRef
  exact beq_eq_false_iff_ne.mpr hne
 have hmax : (max (a : Int) (c : Int)).toNat = c := by ac_nf
 have hz' : ((fun xs : Array Value => xs.extract 0 a ++ new ++ xs.extract c xs.size) items).size ≤ sizeLine + 1 := by
  simp only [Array.size_append, Array.size_extract]
  ac_nf
 unfold setItem
 try with_reducible refine wpAny_holding ?_
 first | refine wpAny_bind (wpAny_pure ?_) | skip
 refine wpAny_bind (wpAny_sequenceKey hl.typeIs (by decide) ?_)
 refine wpAny_bind (wpAny_callSpecial?_slot (name := Str.ofString "__setitem__") hl.typeIs slot_list_setitem
  (wpAny_call_entry slot_list_setitem hl.typeIs entry_list_setitem ?_ (args_list_setitem _ _ _)))
 show wpAny _ _ (Builtin.List.listSubscript? (.ref sl) >>= _) _ _ s
 refine wpAny_bind ?_
 unfold Builtin.List.listSubscript?
 refine wpAny_bind (wpAny_specialOf hTs slice_no_index ?_)
 simp only [Option.isNone_none, if_true]
 refine wpAny_pure ?_
 show wpAny _ _ (typeOf (.ref sl) >>= _) _ _ s
 refine wpAny_bind (wpAny_typeOf hTs ?_)
 first
  | rw [if_neg (by decide)]
  | refine PySem.W.KFB.if_not (by decide) ?_
 rw [listSliceParts_eq]
 refine wpAny_bind (wpAny_bind (wpAny_field hos hds (x := .none) rfl (wpAny_bind (wpAny_listPart .none ?_))))
 rw [if_neg hstep]
 refine wpAny_bind (wpAny_field hos hds (x := vl) rfl (wpAny_bind (wpAny_listPart pl ?_)))
 refine wpAny_bind (wpAny_field hos hds (x := vu) rfl (wpAny_bind (wpAny_listPart pu (wpAny_pure ?_))))
 first
  | simp only [hsame, Bool.false_eq_true, if_false]
  | refine PySem.W.KFB.if_not hsame ?_
  | (dsimp only
     rw [if_neg (by rw [hsame]; exact Bool.false_ne_true)])
 refine wpAny_bind (m := Builtin.List.listAllItems (.ref b) "must assign iterable to extended slice") ?_
 unfold Builtin.List.listAllItems
 refine wpAny_bind (wpAny_typeOf hb.typeIs ?_)
 first
  | refine PySem.W.KFB.if_so (by decide) ?_
  | rw [if_pos (by decide)]
  | simp only [beq_self_eq_true, Bool.true_or, if_true]
 unfold Builtin.List.listItems
 refine wpAny_bind (wpAny_seqItems e2 rfl (wpAny_pure ?_))
 refine wpAny_bind (wpAny_bind (wpAny_seqItems e rfl (wpAny_pure ?_)))
 refine wpAny_bind (wpAny_of_eq ((sliceIndices_raw (some (a : Int)) (some (c : Int)) none items.size (by simp)).trans (congrArg (pure : Int × Int × Int → Sem (Int × Int × Int)) (Qb7 hac hc))) ?_)
 show wpAny _ _ (if ((1 : Int) == 1) = true then _ else _) _ _ s
 rw [if_pos (by decide)]
 refine wpAny_bind (wpAny_rule ?_)
 first
  | simp only [Qb4 hsz, Bool.false_eq_true, if_false]
  | refine PySem.W.KFB.if_not (Qb4 hsz) ?_
 first | refine wpAny_bind (wpAny_pure ?_) | skip
 show wpAny _ _ (updateSeq l (fun xs => xs.extract 0 ((a : Int)).toNat ++ new ++ xs.extract (max (a : Int) (c : Int)).toNat xs.size) >>= _) _ _ s
 rw [hmax, Int.toNat_natCast]
 refine wpAny_bind (wpAny_updateSeq (hz := Nat.le_trans (Nat.le_add_right _ _) hsz) (_hz' := hz') e rfl ?_)
 refine wpAny_bind (wpAny_letGo ?_)
 first
  | exact wpAny_bind (wpAny_pure (wpAny_pure ⟨.none, rfl, wpAny_pure h⟩))
  | exact wpAny_pure ⟨.none, rfl, wpAny_pure h⟩
end
section
variable {X : Cx}
end
end L2
namespace Att
open PySem PySem.W PySem.Calls PyProof.Rows
theorem Qb9 {P : Params} {h : Heap} : ∀ (ns : List Int) (vs : List Value), WellAll P h vs (ns.map WData.int) → IntsAre vs ns := by
 intro ns
 induction ns with
 | nil =>
  intro vs w
  rw [List.map_nil] at w
  cases w
  exact .nil
 | cons n ns ih =>
  intro vs w
  rw [List.map_cons] at w
  cases w with
  | cons a b =>
   cases a
   exact .cons _ _ (ih _ b)
theorem Qca {l : OpenLaw} {n : Nat} (hn : l.most = some n) {P : Params} {h : Heap} {args : List WData} {vals : List Value}
  (hpre : l.row.toRowW.claim.pre args = true) (hwl : WellAll P h vals args) :
  ∃ a vs ns, vals = [Value.ref a] ∧ args = [WData.list (ns.map WData.int)] ∧ h.get? a = some { cls := .type "list", data := .seq vs.toArray } ∧ IntsAre vs ns ∧ ns.length ≤ n := by
 have hsh : WShape.hasAll [] args [.list .int] = true := (pre_splitW hpre).1
 have hc : l.pre.holds [] { args := args } = true := (pre_splitW hpre).2
 obtain ⟨d, r, rfl, h1, h2⟩ := hasAllW_cons hsh
 obtain rfl := hasAllW_nil h2
 obtain ⟨xs, rfl, h3⟩ := hasW_list h1
 obtain ⟨ns, rfl⟩ := items_int h3
 have hlen : ns.length ≤ n := by
  unfold OpenLaw.pre at hc
  have h4 : (WTm.not (.lt (.lit (.int (n : Int))) (.len (.arg 0)))).holds [] { args := [.list (ns.map .int)] } = true := by
   have h4 := (holds_andW hc).1
   rw [hn] at h4
   exact h4
  have h5 := condW_of h4 (w_not (w_lt w_lit (w_len_list (w_arg rfl))))
  rw [List.length_map] at h5
  refine Nat.le_of_not_lt fun q => ?_
  have q' : (n : Int) < ((ns.length : Nat) : Int) := by ac_nf
  first
   | (rw [decide_eq_true q'] at h5; exact absurd h5 (by decide))
   | (simp at h5; ac_nf)
 cases hwl with
 | cons w1 w2 =>
  cases w2
  cases w1 with
  | list ho hall => exact ⟨_, _, ns, rfl, rfl, ho, Qb9 ns _ hall, hlen⟩
theorem Qcb (l : OpenLaw) (args : List WData) : l.row.toRowW.claim.post args (.bool true) args = true :=
 postW_of (r := l.row.toRowW) (X := (true == true))
  (show WShape.has [] (.bool true) .bool = true by first | rfl | decide | simp [WShape.has, WShape.arms, WShape.armsAll])
  (show (WTm.eq .res (.lit (.bool true))).value [] { args := args, res := some (.bool true), after := args } = some (.bool (true == true)) from w_eq_bool (w_res rfl) w_lit) rfl
theorem attach_call {l : OpenLaw} {n : Nat} {q : Program} {loose : List Str} {XP : (Str → Option Value) → Heap → Prop} {YP : World → Heap → Prop} {d : DefRec}
  (hn : l.most = some n) (hdf : d.params.defaults = [])
  (call : ∀ (w : World) (s₀ s₁ : Shared) (mg mb : Str → Option Value) (fa : Addr) (o : Obj) (pm cd doc : Value) (a : Addr) (vs : List Value) (ns : List Int),
   Ground q loose [] XP w s₀ mg mb s₁.heap → YP w s₁.heap →
   s₁.heap.get? fa = some o → o.data = .func (docDef d.name d.params d.body d.scope pm cd doc) → s₁.heap.CodeRec cd d.name → mg d.name = some (.ref fa) →
   s₁.heap.get? a = some { cls := .type "list", data := .seq vs.toArray } → IntsAre vs ns → ns.length ≤ n → s₁.gens = #[] →
   codeAny (model l.prog w) callerA (.call (.ref fa) ⟨[.ref a], []⟩) (fun r s' => r = .ok (.ret (.bool true)) ∧ OldK s₁.heap s'.heap ∧ s'.os = s₁.os ∧ AllBare s'.gens) s₁) :
  WalkO q loose XP YP l.row.toRowW d [] (fun f vs => PySem.call f vs) := by
 intro w s₀ s₁ mg mb G Y fa o pm cd doc dV kV ho hd hcd hD hmg hg args vals as hpre hlay hrd hwl hlo
 obtain rfl : dV = .none := Dflts.none hD hdf
 obtain rfl : kV = .none := Dflts.noKw hD
 obtain ⟨a, vs, ns, rfl, rfl, hobj, hints, hlen⟩ := Qca hn hpre hwl
 refine enter_call (codeAny_mono (call w s₀ s₁ mg mb fa o pm cd doc a vs ns G Y ho (fd_plain hd) hcd hmg hobj hints hlen hg) fun r s' hq => ?_)
 obtain ⟨rfl, h2, h3, h4⟩ := hq
 exact ⟨.inl ⟨.bool true, .bool true, [], rfl, fun _ => rfl, .bool true, Qcb l _, fun _ => ⟨List.Pairwise.nil, fun _ hm => (nomatch hm)⟩⟩, h2, h3, h4⟩
section
variable {prog : Program} {w : World} {A : Around} {E : Value → Shared → Prop} {s : Shared} {K : Frag}
noncomputable def ledger (h : Heap) (L d : Addr) : List (Addr × Obj) := (List.range h.objs.size).filterMap fun a => if a = L ∨ a = d then none else (h.get? a).map fun o => (a, o)
end
end Att
namespace L2
open PySem PySem.Spec PyProof.Rows
theorem Qcc : ∀ {vs : List Value} {ns : List Int}, IntsAre vs ns → Vals (ns.map V.int) vs
 | _, _, .nil => .nil
 | _, _, .cons n t h => .cons ⟨t, rfl⟩ (Qcc h)
def Only (H : Hp) : Prop := ∀ b, H b = none ∨ ∃ o xs, H b = some (.frz o (.lst xs))
theorem Qcd {P : Program} {w : World} {K : PySem.W.Frag} {mg mb : Str → Option Value} {CX : CXT} {k : Nat} {fa a : Addr} {fd : FuncData} {x : Str} {sp : Sp} {s₁ : Shared} {vs : List Value} {ns : List Int}
  (KX : K.In s₁.heap) (hns : s₁.heap.Ns mainGlobals mg) (hb : s₁.heap.Ns builtinsNs mb) (hbb : ∀ x : Str, x ≠ "__name__" → mb x = bootBuiltins x) (hlim : s₁.heap.NoLimit) (hg : s₁.gens = #[])
  (ha : s₁.heap.get? a = some { cls := .type "list", data := .seq vs.toArray }) (hi : IntsAre vs ns) (hl : ns.length ≤ sizeLine) (hr : Room k callerA)
  (F : ∀ base : Heap, K.In base → base.Ns mainGlobals mg → FnOk P w K mg base CX k fa fd [x] sp) (hbind : ∀ (s : Shared) (u : Value), BindsTo s fd ⟨[u], []⟩ [(x, u)])
  (hsp : ∀ H : Hp, Only H → SqL K H a (ns.map V.int) → sp [.ref a] H (fun v _ => v = .bl true) fun _ _ _ => False)
  (hCX : ∀ H e s', CX [] H s₁ (fun _ _ _ => False) e s' → False) :
  codeAny (model P w) callerA (.call (.ref fa) ⟨[.ref a], []⟩) (fun r s' => r = .ok (.ret (.bool true)) ∧ OldK s₁.heap s'.heap ∧ s'.os = s₁.os ∧ AllBare s'.gens) s₁ := by
 have rv := Qcc hi
 have lenV := hi.length
 have core : ∀ H : Hp, Only H → SqL K H a (ns.map V.int) → HOk P w H s₁.heap → (∀ b, H b ≠ none → b = a) → (H a ≠ none → K.lookup a = none) →
   codeAny (model P w) callerA (.call (.ref fa) ⟨[.ref a], []⟩) (fun r s' => r = .ok (.ret (.bool true)) ∧ OldK s₁.heap s'.heap ∧ s'.os = s₁.os ∧ AllBare s'.gens) s₁ := by
  intro H hO hS hok hA hK
  have base_of : ∀ {b : Addr} {o : Obj}, s₁.heap.get? b = some o → H b = none → (hidT s₁.heap H).get? b = some o := fun e n => Qan e n
  have noA : ∀ {b : Addr} {o : Obj} {es : Array DictEntry} {ep : Nat}, s₁.heap.get? b = some o → o.data = .dict es ep → H b = none := fun {b o es ep} e d => by
   cases q : H b with
   | none => rfl
   | some u =>
    have e' : b = a := hA b (by rw [q]; simp)
    subst e'
    rw [ha] at e; cases e
    have d' : Data.seq vs.toArray _ = Data.dict es ep := d
    cases d'
  have nsK : ∀ {b : Addr} {m : Str → Option Value}, s₁.heap.Ns b m → (hidT s₁.heap H).Ns b m := fun {b m} pq38 => by obtain ⟨o, es, ep, e, d, r⟩ := pq38; exact ⟨o, es, ep, base_of e (noA e d), d, r⟩
  have hKb : K.In (hidT s₁.heap H) := fun b o e => base_of (KX b o e) (by
   cases q : H b with
   | none => rfl
   | some u =>
    have e' : b = a := hA b (by rw [q]; simp)
    subst e'
    rw [hK (by rw [q]; simp)] at e; cases e)
  have hM : Mod K mg (hidT s₁.heap H) := ⟨hKb, nsK hns, ⟨mb, nsK hb, hbb⟩, let ⟨mc, h1, h2⟩ := hlim; ⟨mc, nsK h1, h2⟩⟩
  have e0 : Env0 P w K mg (hidT s₁.heap H) callerA [] s₁ H := ⟨rfl, hM, fun b o e => Qao e, Nat.le_of_eq (Qam _ _), trivial, fun b hb => absurd (show b ∈ ([] : List Addr) from hb) (by simp), hok, .of_eq hg⟩
  refine codeAny_mono ((F _ hKb (nsK hns)).run callerA [] s₁ H ⟨[.ref a], []⟩ [.ref a] [.ref a] _ _ hr e0 (hbind s₁ (.ref a)) (.cons rfl .nil) (hsp H hO hS)) fun r s' h => ?_
  cases r with
  | error e => exact (hCX H e s' h).elim
  | ok fl =>
   cases fl with
   | next => exact False.elim h
   | brk => exact False.elim h
   | cont => exact False.elim h
   | ret u =>
    obtain ⟨v, H', os, bare, un, hok', r', q⟩ := h
    have q' : v = .bl true := q
    subst q'
    obtain rfl : u = Value.bool true := r'
    refine ⟨rfl, OldK.of_keep fun b o e => ?_, os, bare⟩
    cases q : H b with
    | none => exact un.keep b o e q (by intro z; exact absurd (show b ∈ ([] : List Addr) from z) (by simp)) (by simp)
    | some u =>
     rcases hO b with z | ⟨ob, xs, z⟩
     ·rw [q] at z; cases z
     ·have z2 := un.frzs b ob _ z
      obtain ⟨e1, _⟩ := hok b _ z
      obtain ⟨e2, _⟩ := hok' b _ z2
      rw [e] at e1; cases e1
      exact e2
 cases hk : K.lookup a with
 | some o =>
  have e := KX a o hk
  rw [ha] at e
  cases e
  refine core (fun _ => none) (fun _ => .inl rfl) (.inr ⟨_, vs.toArray, _, hk, rfl, rfl, rfl, by rw [List.size_toArray, lenV]; exact hl, by simpa using rv⟩) (fun b u z => by have z' : (none : Option HO) = some u := z; cases z') (fun b z => absurd rfl z) fun z => absurd rfl z
 | none =>
  refine core (fun b => if b = a then some (.frz { cls := .type "list", data := .seq vs.toArray } (.lst (ns.map V.int))) else none) (fun b => ?_) (.inl (.inr ⟨{ cls := .type "list", data := .seq vs.toArray }, if_pos rfl⟩)) (fun b u z => ?_) (fun b z => ?_) fun _ => hk
  ·by_cases hb : b = a
   ·exact .inr ⟨_, _, if_pos hb⟩
   ·exact .inl (if_neg hb)
  ·by_cases hb : b = a
   ·have z' := (if_pos hb).symm.trans z
    cases z'
    subst hb
    exact ⟨ha, by rw [List.length_map]; exact hl, vs, _, rv, ha⟩
   ·have z' := (if_neg hb).symm.trans z
    cases z'
  ·by_cases hb : b = a
   ·exact hb
   ·exact absurd (if_neg hb) z
end L2
namespace L2
open PySem PySem.Spec PyProof.Rows
noncomputable abbrev KOf {K : PySem.W.Frag} {h : Heap} (_ : K.In h) : PySem.W.Frag := K
theorem walk_of {l : PySem.W.OpenLaw} {n k : Nat} {q : Program} {loose : List Str} {XP : (Str → Option Value) → Heap → Prop} {YP : World → Heap → Prop} {d : DefRec} {K : Params → PySem.W.Frag} {CX : World → CXT} {sp : World → Sp} {x : Str}
  (hn : l.most = some n) (hn2 : n ≤ sizeLine) (hdf : d.params.defaults = []) (hr : Room k callerA)
  (hY : ∀ (w : World) (h : Heap), YP w h → (K w.params).In h)
  (F : ∀ (w : World) (mg : Str → Option Value) (fa : Addr) (h : Heap), (K w.params).In h → h.Ns mainGlobals mg → mg d.name = some (.ref fa) →
   ∃ fd : FuncData, (∀ (s : Shared) (u : Value), BindsTo s fd ⟨[u], []⟩ [(x, u)]) ∧
    ∀ base : Heap, (K w.params).In base → base.Ns mainGlobals mg → FnOk l.prog w (K w.params) mg base (CX w) k fa fd [x] (sp w))
  (hsp : ∀ (w : World) (H : Hp) (a : Addr) (ns : List Int), ns.length ≤ n → Only H → SqL (K w.params) H a (ns.map V.int) → sp w [.ref a] H (fun v _ => v = .bl true) fun _ _ _ => False)
  (hCX : ∀ (w : World) (H : Hp) (s : Shared) (e : Value) (s' : Shared), CX w [] H s (fun _ _ _ => False) e s' → False) :
  PySem.W.WalkO q loose XP YP l.row.toRowW d [] (fun f vs => PySem.call f vs) := by
 refine Att.attach_call hn hdf fun w s₀ s₁ mg mb fa o pm cd doc a vs ns G Y ho hd hcd hmg hobj hints hlen hg => ?_
 have KX := hY w _ Y
 obtain ⟨fd, hb, hF⟩ := F w mg fa _ KX G.T.g hmg
 exact Qcd KX G.T.g G.T.b G.T.builtins G.T.nolimit hg hobj hints (Nat.le_trans hlen hn2) hr hF hb (fun H hO hS => hsp w H a ns hlen hO hS) fun H e s' => hCX w H s₁ e s'
theorem walk_ofK {l : PySem.W.OpenLaw} {n k : Nat} {q : Program} {loose : List Str} {XP : (Str → Option Value) → Heap → Prop} {YP : World → Heap → Prop} {d : DefRec} {K : Params → PySem.W.Frag} {CX : CXT} {sp : PySem.W.Frag → Sp} {x : Str}
  (hn : l.most = some n) (hn2 : n ≤ sizeLine) (hdf : d.params.defaults = []) (hr : Room k callerA)
  (hY : ∀ (w : World) (h : Heap), YP w h → (K w.params).In h)
  (F : ∀ (w : World) (mg : Str → Option Value) (fa : Addr) (h : Heap), (K w.params).In h → h.Ns mainGlobals mg → mg d.name = some (.ref fa) →
   ∃ fd : FuncData, (∀ (s : Shared) (u : Value), BindsTo s fd ⟨[u], []⟩ [(x, u)]) ∧
    ∀ base : Heap, (K w.params).In base → base.Ns mainGlobals mg → FnOk l.prog w (K w.params) mg base CX k fa fd [x] (sp (K w.params)))
  (hsp : ∀ (K : PySem.W.Frag) (H : Hp) (a : Addr) (ns : List Int), ns.length ≤ n → Only H → SqL K H a (ns.map V.int) → sp K [.ref a] H (fun v _ => v = .bl true) fun _ _ _ => False)
  (hCX : ∀ (H : Hp) (s : Shared) (e : Value) (s' : Shared), CX [] H s (fun _ _ _ => False) e s' → False) :
  PySem.W.WalkO q loose XP YP l.row.toRowW d [] (fun f vs => PySem.call f vs) :=
 walk_of (K := K) (CX := fun _ => CX) (sp := fun w => sp (K w.params)) hn hn2 hdf hr hY F (fun w H a ns h1 h2 h3 => hsp (K w.params) H a ns h1 h2 h3) fun _ H s e s' => hCX H s e s'
end L2
/- THE LAST THEOREM (shape; LID, My.* are yours):
  My.Adr: a structure of the addresses that your layer names (classes, functions); My.Txt K t: a structure (Prop) of the equations over K;
  My.txt_mk : {K} {implicit addresses ..} (e1 : nsIn K mainGlobals "law" = some (some (.ref f))) (e2 : K.lookup f = some ⟨oc, od, .func (fnOf "law" "law" params body scope dV kV doc pm an cdv ct), sl⟩) (e3 : codeIn K cdv "law" = true) .. : ∃ t, My.Txt K t
set_option maxHeartbeats 0 in
theorem PySem.Challenge.cw_LID_holds : PySem.Challenge.rw_LID.Holds := by
 w_on; o_law; k_head; (case hw => w_witness2)
 k_fill
 refine L2.walk_of (l := PySem.Challenge.rw_LID) (n := 63) (k := 40) (x := "script") (CX := fun w => ..) (sp := fun _ => My.sp_law) rfl (by decide) rfl ⟨rfl, by decide, by decide⟩ (fun w h Y => PySem.W.kIn_of Y) ?F ?S ?C
 case F =>
  intro w mg fa h KX G hmg
  have T : ∃ t, My.Txt (L2.KOf KX) t := by
   dsimp only [L2.KOf]                          -- K must stand as «<heap const> w.params» for k_is
   refine' My.txt_mk ?e1 ?e2 ?e3 ..
   (case e1 => PySem.W.k_is)                    -- in the order: a name -> its address -> its object -> its parts
   (case e2 => PySem.W.k_is)
   ..
  obtain ⟨t, T⟩ := T
  have e0 := hmg.symm.trans (PySem.W.mg_of KX G T.law)
  cases e0                                       -- fa is the law's own address
  exact ⟨_, fun s u => .of_eq rfl, fun base kb nb => My.law_fn T kb nb⟩     -- if «.of_eq rfl» comes too early: refine' ⟨_, ?b, fun base kb nb => My.law_fn T kb nb⟩; exact fun s u => .of_eq rfl
 case S => exact fun w H a ns hl hO hS => ..
 case C => exact ..
(the tactic k_is has no namespace: write k_is) -/
namespace L2
open PySem PySem.Spec PyProof.Rows
noncomputable def defArgs (s : Stmt) : Arguments := match s with
 | .FunctionDef _ a _ _ _ _ _ _ _ _ => a
 | _ => { posonlyargs := [], args := [], vararg := none, kwonlyargs := [], kw_defaults := [], kwarg := none, defaults := [] }
noncomputable def defBody (s : Stmt) : List Stmt := match s with
 | .FunctionDef _ _ b _ _ _ _ _ _ _ => b
 | _ => []
noncomputable def defScope (s : Stmt) : Scope := match s with
 | .FunctionDef _ _ _ _ _ _ sc _ _ _ => sc
 | _ => { kind := .function, names := [], isGenerator := false, isCoroutine := false }
noncomputable abbrev CX0 : CXT := fun _ _ _ _ _ _ => False
noncomputable abbrev E0 : XK := fun _ _ _ => False
theorem Qce {X : Cx} : Passes CX0 X E0 := fun _ _ _ _ _ _ _ h => h.elim
structure Fun (K : PySem.W.Frag) (x qual : Str) (st : Stmt) (f : Addr) (fd : FuncData) : Prop where
 ex : ∃ (oc : Value) (od : Option Addr) (kV doc pm : Value) (an : Option Addr) (cdv ct : Value) (osl : Array (Option Value)),
  fd = PySem.W.fnOf x qual (defArgs st) (defBody st) (defScope st) .none kV doc pm an cdv ct ∧ K.lookup f = some ⟨oc, od, .func fd, osl⟩ ∧ PySem.W.codeIn K cdv qual = true
 kp : PySem.W.keepIn K (.ref f) = true
section
variable {P : Program} {w : World} {K : PySem.W.Frag} {mg : Str → Option Value} {base : Heap}
theorem Fun.ok {x qual : Str} {st : Stmt} {f : Addr} {fd : FuncData} {N ps : List Str} {k : Nat} {sp : Sp} (F : Fun K x qual st f fd) (S : FnScope N ps (defScope st)) (len : ∀ vs H Q E, sp vs H Q E → vs.length = ps.length)
  (hbody : ∀ (cdv : Value) (A : Around) (outer : List Env) (s : Shared) (H : Hp) (vs : List V) (Q : VK) (E : XK), Room k (A.deeper (envOfC qual (defScope st) s.heap.objs.size f cdv)) → sp vs H Q E →
   ∃ t, PSs (cxOf CX0 P w K mg base N qual (defScope st) f cdv A outer s H E).nox (defBody st) t ∧ t { nx := fun _ H' => Q .non H', rt := Q } (start N vs) H) : FnOk P w K mg base CX0 (k + 1) f fd ps sp := by
 obtain ⟨oc, od, kV, doc, pm, an, cdv, ct, osl, rfl, lk, hcd⟩ := F.ex
 refine QbE lk hcd S len fun A outer s H vs Q E hr hsp => ?_
 obtain ⟨t, h, q⟩ := hbody cdv A outer s H vs Q E hr hsp
 exact ⟨t, h.nox, q⟩
theorem Fun.binds {x qual : Str} {st : Stmt} {f : Addr} {fd : FuncData} {ps : List Str} (F : Fun K x qual st f fd)
  (h : ∀ (kV doc pm : Value) (an : Option Addr) (cdv ct : Value) (us : List Value), us.length = ps.length → bindArgs (PySem.W.fnOf x qual (defArgs st) (defBody st) (defScope st) .none kV doc pm an cdv ct) ⟨us, []⟩ = pure (ps.zip us)) : Binds K fd ps [] := by
 obtain ⟨oc, od, kV, doc, pm, an, cdv, ct, osl, rfl, lk, hcd⟩ := F.ex
 exact .all (h kV doc pm an cdv ct)
theorem Qcf {x qual : Str} {st : Stmt} {f : Addr} {oc : Value} {od an : Option Addr} {osl : Array (Option Value)} {kV doc pm cdv ct : Value} (l : K.lookup f = some ⟨oc, od, .func (PySem.W.fnOf x qual (defArgs st) (defBody st) (defScope st) .none kV doc pm an cdv ct), osl⟩)
  (c : PySem.W.codeIn K cdv qual = true) (k : PySem.W.keepIn K (.ref f) = true) : Fun K x qual st f (PySem.W.fnOf x qual (defArgs st) (defBody st) (defScope st) .none kV doc pm an cdv ct) := ⟨⟨oc, od, kV, doc, pm, an, cdv, ct, osl, rfl, l, c⟩, k⟩
end
section
variable {X : Cx}
theorem pv (i : Nat) {x : Str} {pos : Pos} (hN : X.N[i]? = some x := by rfl) (hv : Vis X.env.scope x := by first | exact Or.inl rfl | exact Or.inr (Or.inl rfl) | exact Or.inr (Or.inr rfl)) (hd : (x == ("__debug__" : Str)) = false := by decide)
  (hcd : (x == ("__classdict__" : Str)) = false := by decide) : PE X (.Name x pos) (tVar i) := Qav hN hv hd hcd
end
def Same (H H' : Hp) : Prop := ∀ b o, H b = some o → H' b = some o
theorem Same.refl (H : Hp) : Same H H := fun _ _ h => h
theorem Same.trans {H H1 H2 : Hp} (a : Same H H1) (b : Same H1 H2) : Same H H2 := fun c o h => b c o (a c o h)
theorem Same.free {H H' : Hp} (e : Same H H') {l : Addr} (h : H' l = Option.none) : H l = Option.none := by
 cases q : H l with
 | none => rfl
 | some o =>
  rw [e l o q] at h
  cases h
theorem Same.seq {K : PySem.W.Frag} {H H' : Hp} {a : Addr} {xs : List V} (e : Same H H') (h : SqL K H a xs) : SqL K H' a xs := by
 rcases h with (h | ⟨o, h⟩) | h
 ·exact .inl (.inl (e _ _ h))
 ·exact .inl (.inr ⟨o, e _ _ h⟩)
 ·exact .inr h
end L2
namespace L2
open PySem PySem.Spec PyProof.Rows
section
variable {κ : Type} [DecidableEq κ]
noncomputable def valV (kvs : List (κ × V)) (k : κ) : Option V := (kvs.find? fun kv => decide (kv.1 = k)).map (·.2)
noncomputable def putK (kvs : List (κ × V)) (k : κ) (v : V) : List (κ × V) :=
 if (kvs.any fun kv => decide (kv.1 = k)) = true then kvs.map (fun kv => if kv.1 = k then (kv.1, v) else kv) else kvs ++ [(k, v)]
noncomputable def dropK (kvs : List (κ × V)) (k : κ) : List (κ × V) := kvs.filter fun kv => decide (kv.1 ≠ k)
theorem Qcg {p : κ × V} {r : List (κ × V)} {k : κ} (e : p.1 = k) : valV (p :: r) k = some p.2 := by simp [valV, List.find?_cons, e]
theorem Qch {p : κ × V} {r : List (κ × V)} {k : κ} (e : ¬ p.1 = k) : valV (p :: r) k = valV r k := by simp [valV, List.find?_cons, e]
theorem Qci (k : κ) : ∀ kvs : List (κ × V), (kvs.any fun kv => decide (kv.1 = k)) = (valV kvs k).isSome
 | [] => rfl
 | p :: r => by
  rw [List.any_cons]
  by_cases e : p.1 = k
  ·simp only [Qcg e, decide_eq_true e, Bool.true_or, Option.isSome_some]
  ·rw [Qch e, decide_eq_false e, Bool.false_or]; exact Qci k r
theorem Qcj (kvs : List (κ × V)) (k : κ) (v : V) : (putK kvs k v).length ≤ kvs.length + 1 := by
 unfold putK
 split
 ·rw [List.length_map]; ac_nf
 ·rw [List.length_append, List.length_cons, List.length_nil]; ac_nf
theorem RelO.isSome_eq {o : Option V} {u : Option Value} (r : RelO o u) : o.isSome = u.isSome := by
 cases o with
 | none => cases u with
  | none => rfl
  | some _ => exact (show False from r).elim
 | some _ => cases u with
  | none => exact (show False from r).elim
  | some _ => rfl
theorem RelO.getD {o : Option V} {u : Option Value} {d : V} {d' : Value} (r : RelO o u) (rd : RelV d d') : RelV (o.getD d) (u.getD d') := by
 cases o with
 | none => cases u with
  | none => exact rd
  | some _ => exact (show False from r).elim
 | some _ => cases u with
  | none => exact (show False from r).elim
  | some _ => exact r
theorem KV.val {kvs : List (κ × V)} {vs : List (κ × Value)} (r : KV kvs vs) (k : κ) : RelO (valV kvs k) (valueAt vs k) := by
 unfold KV at r
 induction r with
 | nil => exact True.intro
 | @cons p q ps qs h t ih =>
  obtain ⟨h1, h2⟩ := h
  by_cases e : p.1 = k
  ·have e' : q.1 = k := h1.symm.trans e
   have b : valueAt (q :: qs) k = some q.2 := by simp [valueAt, List.find?_cons, e']
   rw [Qcg e, b]; exact h2
  ·have e' : ¬ q.1 = k := fun z => e (h1.trans z)
   have b : valueAt (q :: qs) k = valueAt qs k := by simp [valueAt, List.find?_cons, e']
   rw [Qch e, b]; exact ih
theorem KV.any {kvs : List (κ × V)} {vs : List (κ × Value)} (r : KV kvs vs) (k : κ) : (kvs.any fun kv => decide (kv.1 = k)) = vs.any fun kv => decide (kv.1 = k) := by
 unfold KV at r
 induction r with
 | nil => rfl
 | cons h t ih => rw [List.any_cons, List.any_cons, ih, h.1]
theorem KV.repl {kvs : List (κ × V)} {vs : List (κ × Value)} (r : KV kvs vs) (k : κ) {y : V} {u : Value} (ry : RelV y u) :
  KV (kvs.map fun kv => if kv.1 = k then (kv.1, y) else kv) (vs.map fun kv => if kv.1 = k then (kv.1, u) else kv) := by
 unfold KV at r ⊢
 induction r with
 | nil => exact .nil
 | @cons p q ps qs h t ih =>
  rw [List.map_cons, List.map_cons]
  refine .cons ?_ ih
  obtain ⟨h1, h2⟩ := h
  by_cases e : p.1 = k
  ·rw [if_pos e, if_pos (h1.symm.trans e)]; exact ⟨h1, ry⟩
  ·rw [if_neg e, if_neg (fun z => e (h1.trans z))]; exact ⟨h1, h2⟩
theorem KV.put {kvs : List (κ × V)} {vs : List (κ × Value)} (r : KV kvs vs) (k : κ) {y : V} {u : Value} (ry : RelV y u) : KV (putK kvs k y) (stored vs k u) := by
 unfold putK stored
 rw [r.any k]
 by_cases e : (vs.any fun kv => decide (kv.1 = k)) = true
 ·rw [if_pos e, if_pos e]; exact r.repl k ry
 ·rw [if_neg e, if_neg e]; exact Paired.snoc r ⟨rfl, ry⟩
theorem KV.drop {kvs : List (κ × V)} {vs : List (κ × Value)} (r : KV kvs vs) (k : κ) : KV (dropK kvs k) (without vs k) := by
 unfold KV at r ⊢
 unfold dropK without
 induction r with
 | nil => exact .nil
 | @cons p q ps qs h t ih =>
  obtain ⟨h1, h2⟩ := h
  rw [List.filter_cons, List.filter_cons]
  by_cases e : p.1 = k
  ·have a : ¬ decide (p.1 ≠ k) = true := by simp [e]
   have b : ¬ decide (q.1 ≠ k) = true := by simp [h1.symm.trans e]
   rw [if_neg a, if_neg b]; exact ih
  ·have e' : ¬ q.1 = k := fun z => e (h1.trans z)
   have a : decide (p.1 ≠ k) = true := by simp [e]
   have b : decide (q.1 ≠ k) = true := by simp [e']
   rw [if_pos a, if_pos b]; exact .cons ⟨h1, h2⟩ ih
theorem KV.keys {kvs : List (κ × V)} {vs : List (κ × Value)} (r : KV kvs vs) : kvs.map (·.1) = vs.map (·.1) := by
 unfold KV at r
 induction r with
 | nil => rfl
 | cons h t ih => rw [List.map_cons, List.map_cons, ih, h.1]
theorem KV.length {kvs : List (κ × V)} {vs : List (κ × Value)} (r : KV kvs vs) : kvs.length = vs.length := Paired.length r
end
theorem Qck {P : Program} {w : World} {k : Key} {u : Value} (r : RelV (kV k) u) : (mixKind P w).is k u = true := by
 cases k with
 | inl i => obtain ⟨t, e⟩ := (show ∃ t, u = Value.int i t from r); subst e; exact Qag P w i t
 | inr x => obtain ⟨t, e⟩ := (show ∃ t, u = Value.str x t from r); subst e; exact Qah P w x t
theorem Qcl {P : Program} {w : World} : ∀ {ks : List Key} {us : List Value}, Vals (ks.map kV) us → ItemsAre (mixKind P w) ks us
 | [], _, r => by rw [List.map_nil] at r; cases r; exact .nil
 | k :: ks, _, r => by
  rw [List.map_cons] at r
  cases r with
  | cons h t => exact .cons (Qck h) (Qcl t)
noncomputable abbrev KT (H : Hp) : List (List Key × V) → List (List Key × Addr × Value) → Prop := Paired fun p q => p.1 = q.1 ∧ H q.2.1 = some (.tup (p.1.map kV)) ∧ RelV p.2 q.2.2
theorem KT.val {H : Hp} {kvs : List (List Key × V)} {xs : List (List Key × Addr × Value)} (r : KT H kvs xs) (k : List Key) : RelO (valV kvs k) ((atKey xs k).map (·.2)) := by
 induction r with
 | nil => exact True.intro
 | @cons p q ps qs h t ih =>
  obtain ⟨h1, _, h2⟩ := h
  by_cases e : p.1 = k
  ·have e' : q.1 = k := h1.symm.trans e
   have b : atKey (q :: qs) k = some q.2 := by simp [atKey, List.find?_cons, e']
   rw [Qcg e, b]; exact h2
  ·have e' : ¬ q.1 = k := fun z => e (h1.trans z)
   have b : atKey (q :: qs) k = atKey qs k := by simp [atKey, List.find?_cons, e']
   rw [Qch e, b]; exact ih
theorem KT.repl {H : Hp} {kvs : List (List Key × V)} {xs : List (List Key × Addr × Value)} (r : KT H kvs xs) (k : List Key) {y : V} {u : Value} (ry : RelV y u) :
  KT H (kvs.map fun kv => if kv.1 = k then (kv.1, y) else kv) (xs.map (putAt k u)) := by
 induction r with
 | nil => exact .nil
 | @cons p q ps qs h t ih =>
  rw [List.map_cons, List.map_cons]
  refine .cons ?_ ih
  obtain ⟨h1, h2, h3⟩ := h
  unfold putAt
  by_cases e : p.1 = k
  ·rw [if_pos e, if_pos (h1.symm.trans e)]; exact ⟨h1, h2, ry⟩
  ·rw [if_neg e, if_neg (fun z => e (h1.trans z))]; exact ⟨h1, h2, h3⟩
theorem KT.put {H : Hp} {kvs : List (List Key × V)} {xs : List (List Key × Addr × Value)} (r : KT H kvs xs) (k : List Key) {b : Addr} {y : V} {u : Value} (hb : H b = some (.tup (k.map kV))) (ry : RelV y u) :
  KT H (putK kvs k y) (storedH xs k b u) := by
 have e : (kvs.any fun kv => decide (kv.1 = k)) = (atKey xs k).isSome := by
  rw [Qci, (r.val k).isSome_eq, Option.isSome_map]
 unfold putK storedH
 rw [e]
 by_cases q : (atKey xs k).isSome = true
 ·rw [if_pos q, if_pos q]; exact r.repl k ry
 ·rw [if_neg q, if_neg q]; exact Paired.snoc r ⟨rfl, hb, ry⟩
theorem KT.keeps {H H' : Hp} {kvs : List (List Key × V)} {xs : List (List Key × Addr × Value)} (r : KT H kvs xs) (ht : ∀ b ys, H b = some (.tup ys) → H' b = some (.tup ys)) : KT H' kvs xs :=
 Paired.mapP r fun _ _ z => ⟨z.1, ht _ _ z.2.1, z.2.2⟩
section
variable {P : Program} {w : World} {H : Hp} {h : Heap} {a : Addr}
theorem Qcm {u : HO} (ok : HOk P w H h) (e : Rd H a u) : ObjOk P w H h a u := e.ok ok
theorem Qcn {kvs : List (Key × V)} (ok : HOk P w H h) (e : Rd H a (.dK kvs)) : kvs.length ≤ sizeLine ∧ (a == sysModules) = false ∧ ∃ vs, KV kvs vs ∧ h.DictOf (mixKind P w) a vs :=
 show ObjOk P w H h a (.dK kvs) from Qcm ok e
theorem Qco {kvs : List (Key × V)} (ok : HOk P w H h) (e : H a = some (.dK kvs)) : kvs.length ≤ sizeLine ∧ (a == sysModules) = false ∧ ∃ vs, KV kvs vs ∧ h.DictOf (mixKind P w) a vs := Qcn ok (.inl e)
theorem Qcp {ks : List Key} (ok : HOk P w H h) (e : H a = some (.tup (ks.map kV))) : (tupleKind (mixKind P w)).is h ks a := by
 obtain ⟨_, its, r, o, h1, h2, n, h3⟩ := (show ObjOk P w H h a (.tup (ks.map kV)) from ok a _ e)
 exact ⟨o, its.toArray, n, h1, h2, h3, by simpa using Qcl r⟩
theorem Qcq {kvs : List (List Key × V)} (ok : HOk P w H h) (e : Rd H a (.dT kvs)) : kvs.length ≤ sizeLine ∧ (a == sysModules) = false ∧
  ∃ xs, KT H kvs xs ∧ h.DictOfH (tupleKind (mixKind P w)) a xs := by
 obtain ⟨z, y, xs, r, o, es, ep, h1, h2, h3, h4, h5⟩ := (show ObjOk P w H h a (.dT kvs) from Qcm ok e)
 refine ⟨z, y, xs, r, o, es, ep, h1, h2, h3, h4, fun x hx => ?_, h5⟩
 have all : ∀ {l : List (List Key × V)} {m : List (List Key × Addr × Value)}, KT H l m → ∀ x ∈ m, (tupleKind (mixKind P w)).is h x.1 x.2.1 := by
  intro l m q
  induction q with
  | nil => intro x hx; exact nomatch hx
  | @cons p q ps qs hq t ih =>
   intro x hx
   rcases List.mem_cons.mp hx with e | hx
   ·subst e
    exact Qcp ok (by rw [← hq.1]; exact hq.2.1)
   ·exact ih x hx
 exact all r x hx
theorem Qcr {kvs : List (List Key × V)} (ok : HOk P w H h) (e : H a = some (.dT kvs)) : kvs.length ≤ sizeLine ∧ (a == sysModules) = false ∧
  ∃ xs, KT H kvs xs ∧ h.DictOfH (tupleKind (mixKind P w)) a xs := Qcq ok (.inl e)
end
def DGet (H : Hp) (a : Addr) (y : V) (r : Option V) : Prop :=
 (∃ kvs k, Rd H a (.dK kvs) ∧ y = kV k ∧ r = valV kvs k) ∨ ∃ kvs k b, Rd H a (.dT kvs) ∧ y = .ref b ∧ H b = some (.tup (k.map kV)) ∧ r = valV kvs k
def DPut (H : Hp) (a : Addr) (y v : V) (H' : Hp) : Prop :=
 (∃ kvs k, H a = some (.dK kvs) ∧ y = kV k ∧ kvs.length < sizeLine ∧ H' = upd H a (.dK (putK kvs k v))) ∨
 ∃ kvs k b, H a = some (.dT kvs) ∧ y = .ref b ∧ H b = some (.tup (k.map kV)) ∧ kvs.length < sizeLine ∧ H' = upd H a (.dT (putK kvs k v))
theorem DGet.k {H : Hp} {a : Addr} {kvs : List (Key × V)} {k : Key} (e : H a = some (.dK kvs)) : DGet H a (kV k) (valV kvs k) := .inl ⟨kvs, k, .inl e, rfl, rfl⟩
theorem DGet.t {H : Hp} {a b : Addr} {kvs : List (List Key × V)} {k : List Key} (e : H a = some (.dT kvs)) (eb : H b = some (.tup (k.map kV))) : DGet H a (.ref b) (valV kvs k) := .inr ⟨kvs, k, b, .inl e, rfl, eb, rfl⟩
theorem DPut.k {H : Hp} {a : Addr} {kvs : List (Key × V)} {k : Key} {v : V} (e : H a = some (.dK kvs)) (hl : kvs.length < sizeLine) : DPut H a (kV k) v (upd H a (.dK (putK kvs k v))) := .inl ⟨kvs, k, e, rfl, hl, rfl⟩
theorem DPut.t {H : Hp} {a b : Addr} {kvs : List (List Key × V)} {k : List Key} {v : V} (e : H a = some (.dT kvs)) (eb : H b = some (.tup (k.map kV))) (hl : kvs.length < sizeLine) :
  DPut H a (.ref b) v (upd H a (.dT (putK kvs k v))) := .inr ⟨kvs, k, b, e, rfl, eb, hl, rfl⟩
section
variable {X : Cx} {pins : List (Addr × Obj)} {σ : St} {H : Hp} {s : Shared} {a : Addr} {y v : V} {u r : Value} {o : Option V} {A : Around} {E : Value → Shared → Prop}
theorem Qcs {Q : Value → Shared → Prop} (hu : A.units + 1 < cLine) (I : Inv X pins σ H s) (g : DGet H a y (some v)) (ry : RelV y u) (h : ∀ w' s', Inv X pins σ H s' → RelV v w' → Q w' s') :
  wpAny (model X.prog X.w) A (getItem (.ref a) u) Q E s := by
 rcases g with ⟨kvs, k, e, ey, l⟩ | ⟨kvs, k, b, e, ey, eb, l⟩
 ·subst ey
  obtain ⟨z, hd, vs, rel, dd⟩ := Qcn I.hok e
  obtain ⟨w', hw, rw'⟩ := RelO.some_of (v := v) (o := valueAt vs k) (by rw [l]; exact rel.val k)
  exact wpAny_getItem_of (Qck ry) dd.mapOf hw (h w' _ (I.tok _) rw')
 ·subst ey
  cases (show u = Value.ref b from ry)
  obtain ⟨z, hd, xs, rel, dd⟩ := Qcq I.hok e
  obtain ⟨w', hw, rw'⟩ := RelO.some_of (v := v) (o := (atKey xs k).map (·.2)) (by rw [l]; exact rel.val k)
  obtain ⟨p, hp, hp2⟩ := Option.map_eq_some_iff.mp hw
  refine wpAny_getItem_heap (tupleKind_room_in1 hu) (Qcp I.hok eb) dd hp ?_
  rw [hp2]
  exact h w' _ (I.tok _) rw'
theorem Qct {h' : Heap} {t' : Nat} {ob : HO} (I : Inv X pins σ H s) (mu : Mut (H a)) (hs : Heap.SameBut a s.heap h') (he : ∃ q, h'.get? a = some q) (new : ObjOk X.prog X.w (upd H a ob) h' a ob) :
  Inv X pins σ (upd H a ob) { s with heap := h', toks := t' } :=
 I.write (x := a) (e := a) mu (.inl rfl) (fun b q hb z => (hs.2 b hb).trans z) he new
theorem Qcu {P : Program} {w : World} {H' : Hp} {h' : Heap} {kvs : List (Key × V)} {vs : List (Key × Value)} (z : kvs.length ≤ sizeLine) (hd : (a == sysModules) = false) (rel : KV kvs vs) (dd : h'.DictOf (mixKind P w) a vs) :
  ObjOk P w H' h' a (.dK kvs) := ⟨z, hd, vs, rel, dd⟩
theorem Qcv {H' : Hp} {Q : Unit → Shared → Prop} (hu : A.units + 1 < cLine) (I : Inv X pins σ H s) (g : DPut H a y v H') (ry : RelV y u) (rv : RelV v r) (h : ∀ s', Inv X pins σ H' s' → Q () s') :
  wpAny (model X.prog X.w) A (setItem (.ref a) u r) Q E s := by
 rcases g with ⟨kvs, k, e, ey, l, eH⟩ | ⟨kvs, k, b, e, ey, eb, l, eH⟩
 ·subst ey eH
  obtain ⟨z, hd, vs, rel, dd⟩ := Qco I.hok e
  have hz : vs.length ≤ sizeLine := by rw [← rel.length]; exact z
  have hl : (putK kvs k v).length ≤ sizeLine := by have := Qcj kvs k v; ac_nf
  refine wpAny_setItem_pairs (hsz := hz) (Qck ry) dd fun h' dd' hs => h _ ?_
  have he : ∃ q, h'.get? a = some q := let ⟨q, _, _, hq, _⟩ := dd'; ⟨q, hq⟩
  exact Qct I (by rw [e]; exact True.intro) hs he (Qcu hl hd (rel.put k rv) dd')
 ·subst ey eH
  cases (show u = Value.ref b from ry)
  obtain ⟨z, hd, xs, rel, dd⟩ := Qcr I.hok e
  have hz : xs.length ≤ sizeLine := by rw [← Paired.length rel]; exact z
  have hl : (putK kvs k v).length ≤ sizeLine := by have := Qcj kvs k v; ac_nf
  refine wpAny_setItem_heap (hsz := hz) (tupleKind_room_in1 hu) (Qcp I.hok eb) dd fun h' dd' hs => h _ ?_
  obtain ⟨q, es, ep, hq, h2, h3, h4, _, h5⟩ := dd'
  refine Qct I (by rw [e]; exact True.intro) hs ⟨q, hq⟩ ⟨hl, hd, _, (rel.put k eb rv).keeps fun c ys ec => ?_, q, es, ep, hq, h2, h3, h4, h5⟩
  rw [Qaj (Qak ec e (fun z => nomatch z))]
  exact ec
end
section
variable {X : Cx} {pins : List (Addr × Obj)} {σ : St} {H : Hp} {s : Shared} {a : Addr} {kvs : List (Key × V)} {k : Key} {u : Value} {A : Around} {E : Value → Shared → Prop}
theorem Qcw {Q : Value → Shared → Prop} (I : Inv X pins σ H s) (e : Rd H a (.dK kvs)) (h : ∀ t s', Inv X pins σ H s' → Q (.int kvs.length t) s') : wpAny (model X.prog X.w) A (call (.builtin "len") [.ref a]) Q E s := by
 obtain ⟨z, hd, vs, rel, dd⟩ := Qcn I.hok e
 refine call_len_dict hd dd (by rw [← rel.length]; rw [sizeLine_eq] at z; ac_nf) ?_
 rw [← rel.length]
 exact h _ _ (I.tok _)
end
section
variable {X : Cx} {o i e value : Expr} {pos pos' tpos : Pos} {td ty tv : TE}
end
section
variable {X : Cx} {pos : Pos}
end
noncomputable def mergeK (kvs more : List (Key × V)) : List (Key × V) := more.foldl (fun acc kv => putK acc kv.1 kv.2) kvs
theorem KV.merge : ∀ {more : List (Key × V)} {rs : List (Key × Value)} {kvs : List (Key × V)} {vs : List (Key × Value)}, KV more rs → KV kvs vs → KV (mergeK kvs more) (merged vs rs) := by
 intro more rs kvs vs r
 unfold KV at r
 induction r generalizing kvs vs with
 | nil => intro q; exact q
 | @cons p q ps qs h t ih =>
  intro r0
  have e : KV (putK kvs p.1 p.2) (stored vs q.1 q.2) := by
   have := r0.put p.1 h.2
   rw [← h.1]; exact this
  exact ih e
structure M1 (X : Cx) (o : Expr) (m : Str) (apos : Pos) (e : Expr) (cpos : Pos) : Prop where
 base : attributeBase o m X.env (eval o X.env) = eval o X.env
 few : ((backTo cpos (starEach [e] X.env)).all (fun x => !x.1) && (backToKw cpos (keywordEach [] X.env)).all (fun x => x.1.isSome)
  && decide (([e] : List Expr).length + ([] : List Keyword).length + (if ([] : List Keyword).isEmpty then 0 else 1) < 30)) = true
 line : (apos.endLine == cpos.line) = true
 trees : backTo cpos (starEach [e] X.env) = [(false, eval e X.env)]
structure M2 (X : Cx) (o : Expr) (m : Str) (apos : Pos) (e f : Expr) (cpos : Pos) : Prop where
 base : attributeBase o m X.env (eval o X.env) = eval o X.env
 few : ((backTo cpos (starEach [e, f] X.env)).all (fun x => !x.1) && (backToKw cpos (keywordEach [] X.env)).all (fun x => x.1.isSome)
  && decide (([e, f] : List Expr).length + ([] : List Keyword).length + (if ([] : List Keyword).isEmpty then 0 else 1) < 30)) = true
 line : (apos.endLine == cpos.line) = true
 trees : backTo cpos (starEach [e, f] X.env) = [(false, eval e X.env), (false, eval f X.env)]
end L2
namespace MM
open PySem PySem.Spec PyProof.Rows L2
section
variable {prog : Program} {w : World} {K : Type} [DecidableEq K] (knd : KeyKind prog w K)
inductive TIts (h : Heap) : List (List K) → List Value → Prop
 | nil : TIts h [] []
 | cons {k : List K} {b : Addr} {ks : List (List K)} {vs : List Value} : IsTupleKey knd h k b → TIts h ks vs → TIts h (k :: ks) (.ref b :: vs)
def IsNestKey (h : Heap) (ks : List (List K)) (a : Addr) : Prop := ∃ o items n, h.get? a = some o ∧ o.cls = .type "tuple" ∧ o.data = .seq items n ∧ TIts knd h ks items.toList
variable {knd}
theorem TIts.inj {h : Heap} {x y : List (List K)} {vs : List Value} (a : TIts knd h x vs) (b : TIts knd h y vs) : x = y := by
 induction a generalizing y with
 | nil => cases b; rfl
 | cons a t ih => cases b with
  | cons b u => rw [a.inj b, ih u]
theorem IsNestKey.typeIs {s : Shared} {ks : List (List K)} {a : Addr} (x : IsNestKey knd s.heap ks a) : s.TypeIs (.ref a) "tuple" := let ⟨o, _, _, ho, hc, _⟩ := x; ⟨o, ho, hc⟩
theorem IsNestKey.inj {h : Heap} {a : Addr} {x y : List (List K)} (hx : IsNestKey knd h x a) (hy : IsNestKey knd h y a) : x = y := by
 obtain ⟨o, items, n, ho, _, hd, hi⟩ := hx
 obtain ⟨o', items', n', ho', _, hd', hi'⟩ := hy
 cases ho.symm.trans ho'
 rw [hd] at hd'
 injection hd' with h1 _
 subst h1
 exact hi.inj hi'
theorem TIts.keeps {h h' : Heap} {d : Addr} {o : Obj} {es ep} (ho : h.get? d = some o) (hd : o.data = .dict es ep) (hs : Heap.SameBut d h h') : ∀ {x : List (List K)} {vs : List Value}, TIts knd h x vs → TIts knd h' x vs
 | _, _, .nil => .nil
 | _, _, .cons a t => .cons (a.keeps ho hd hs) (TIts.keeps ho hd hs t)
theorem IsNestKey.keeps {h h' : Heap} {ks : List (List K)} {a d : Addr} {o : Obj} {es ep} (x : IsNestKey knd h ks a) (ho : h.get? d = some o) (hd : o.data = .dict es ep) (hs : Heap.SameBut d h h') :
  IsNestKey knd h' ks a := by
 obtain ⟨o', items, n, ho', hc, hd', hi⟩ := x
 have hne : a ≠ d := by
  rintro rfl
  obtain rfl : o' = o := Option.some.inj (ho'.symm.trans ho)
  rw [hd] at hd'; exact nomatch hd'
 exact ⟨o', items, n, (hs.2 a hne).trans ho', hc, hd', hi.keeps ho hd hs⟩
noncomputable def nestHash (knd : KeyKind prog w K) (ks : List (List K)) : Int := reduceHash (Builtin.Tuple.tupleHashOf (ks.map (tupleKeyHash knd)))
noncomputable def nestDraws : List (List K) → Nat
 | [] => 0
 | k :: ks => (k.length + 1) + nestDraws ks
variable {A : Around} {E : Value → Shared → Prop} {s : Shared}
theorem Qcx (k : List K) : ∀ (l : List (List K)), nestDraws (l ++ [k]) = nestDraws l + (k.length + 1)
 | [] => by simp [nestDraws]
 | x :: l => by simp [nestDraws, Qcx k l]; ac_nf
theorem Qcy {ks : List (List K)} {a : Addr} {Q : Int → Shared → Prop} (hu : A.units + 1 < cLine) (hk : IsNestKey knd s.heap ks a) (h : Q (nestHash knd ks) { s with toks := s.toks + (nestDraws ks + 1) }) :
  wpAny (model prog w) A (pyHash (.ref a)) Q E s := by
 have hT := hk.typeIs
 obtain ⟨o, items, n, ho, _, hd, hi⟩ := hk
 unfold pyHash
 first | unfold pyHashByItsType | skip
 first | refine wpAny_bind (wpAny_cRoomFor_or (.inr (by ac_nf)) ?_) | skip
 refine wpAny_bind (wpAny_specialOf hT F.slot_tuple_hash.lookup ?_)
 show wpAny _ _ (if (some (Value.builtin "tuple.__hash__") == some Value.none) = true then _ else _) Q E s
 rw [if_neg (by rw [beq_builtin_none]; exact Bool.false_ne_true)]
 refine wpAny_bind (wpAny_specialOf hT F.slot_tuple_hash.lookup ?_)
 show wpAny _ _ (callSpecialIfBoundUnlessNone? (.ref a) "__hash__" _ >>= _) Q E s
 refine wpAny_bind (wpAny_callSpecialIfBoundUnlessNone?_slot hT F.slot_tuple_hash (wpAny_call_entry F.slot_tuple_hash hT F.entry_tuple_hash ?_ (F.args_tuple_hash_1 _)))
 show wpAny _ _ (Builtin.Tuple.tupleItemsOf (.ref a) >>= _) _ _ s
 refine wpAny_bind (wpAny_tupleItemsOf ho hd ?_)
 refine wpAny_bind ?_
 rw [← Array.forIn_toList]
 refine wpAny_forIn_list _
  (fun rest (b : Array Int) s' => ∃ done left, ks = done ++ left ∧ TIts knd s.heap left rest ∧ b.toList = done.map (tupleKeyHash knd) ∧ s' = { s with toks := s.toks + nestDraws done })
  _ ?_ ?_ _ _ ⟨[], ks, rfl, hi, rfl, rfl⟩
 ·rintro x rest b s' ⟨done, left, rfl, hl, hb, rfl⟩
  cases hl with
  | @cons k b' ks' _ h1 hl' =>
   refine wpAny_bind (wpAny_pyHash_tuple (knd := knd) (ks := k) hu h1 ?_)
   first
    | exact wpAny_pure ⟨done ++ [k], ks', by simp, hl', by simp [hb], by simp [Qcx, Nat.add_assoc]⟩
    | exact wpAny_bind (wpAny_pure (wpAny_pure ⟨done ++ [k], ks', by simp, hl', by simp [hb], by simp [Qcx, Nat.add_assoc]⟩))
 ·rintro b s' ⟨done, left, rfl, hl, hb, rfl⟩
  cases hl
  rw [List.append_nil] at h
  show wpAny _ _ (retInt (Builtin.Tuple.tupleHashOf b.toList)) _ _ _
  rw [hb]
  refine wpAny_ret_mkInt ?_
  show wpAny _ _ (if (decide (-(2 : Int) ^ 63 ≤ Builtin.Tuple.tupleHashOf (done.map (tupleKeyHash knd))) && decide (Builtin.Tuple.tupleHashOf (done.map (tupleKeyHash knd)) < 2 ^ 63)) = true then _ else _) Q E _
  unfold nestHash reduceHash at h
  by_cases hr : (decide (-(2 : Int) ^ 63 ≤ Builtin.Tuple.tupleHashOf (done.map (tupleKeyHash knd))) && decide (Builtin.Tuple.tupleHashOf (done.map (tupleKeyHash knd)) < 2 ^ 63)) = true
  ·rw [if_pos hr]
   rw [if_pos hr] at h
   exact wpAny_pure (by simpa [Nat.add_assoc] using h)
  ·rw [if_neg hr]
   rw [if_neg hr] at h
   exact wpAny_bind (wpAny_rule (wpAny_pure (by simpa [Nat.add_assoc] using h)))
theorem Qcz {x y : List (List K)} {a b : Addr} {P : Fin → Shared → Prop} (hu : A.units < cLine) (hx : IsNestKey knd s.heap x a) (hy : IsNestKey knd s.heap y b) (h : P (.done (.ret (.bool (decide (x = y))))) s) :
  wpAny (model prog w) A (Builtin.«tuple.__eq__» ⟨[.ref a, .ref b], []⟩) P E s := by
 have hTb := hy.typeIs
 obtain ⟨oa, xs, na, hoa, _, hda, hia⟩ := hx
 obtain ⟨ob, ys, nb, hob, _, hdb, hib⟩ := hy
 show wpAny _ _ (isInstance (.ref b) (.type "tuple") >>= _) _ _ s
 refine wpAny_bind (wpAny_isInstance hTb isSubtype_tuple_tuple ?_)
 simp only [Bool.not_true, Bool.false_eq_true, if_false]
 refine wpAny_bind (wpAny_tupleItemsOf hoa hda ?_)
 refine wpAny_bind (wpAny_tupleItemsOf hob hdb ?_)
 refine wpAny_bind ?_
 refine wpAny_forIn_list _
  (fun rest r s' => r.1 = none ∧ s' = s ∧ ∃ x' y' xs' ys', rest = List.zip xs' ys' ∧ TIts knd s.heap x' xs' ∧ TIts knd s.heap y' ys' ∧ decide (x' = y') = decide (x = y) ∧ (xs'.length == ys'.length) = (xs.size == ys.size))
  _ ?_ ?_ _ _ ⟨rfl, rfl, x, y, xs.toList, ys.toList, rfl, hia, hib, rfl, by simp⟩
 ·rintro ⟨u, v⟩ rest r s' ⟨hr, rfl, x', y', xs', ys', hz, hx', hy', hdec, hlen⟩
  cases hx' with
  | nil => simp at hz
  | @cons k1 u' x'' xs'' h1 hx'' =>
   cases hy' with
   | nil => simp at hz
   | @cons k2 v' y'' ys'' h2 hy'' =>
    simp only [List.zip_cons_cons, List.cons.injEq, Prod.mk.injEq] at hz
    obtain ⟨⟨rfl, rfl⟩, rfl⟩ := hz
    refine wpAny_bind (wpAny_eqBool_tuple (knd := knd) (x := k1) (y := k2) hu h1 h2 ?_)
    by_cases hk : k1 = k2
    ·subst hk
     rw [decide_eq_true rfl]
     simp only [Bool.not_true, Bool.false_eq_true, if_false]
     refine wpAny_pure ⟨rfl, rfl, x'', y'', xs'', ys'', rfl, hx'', hy'', ?_, by simpa using hlen⟩
     rw [← hdec]
     by_cases hxy : x'' = y''
     ·simp [hxy]
     ·simp [hxy]
    ·rw [decide_eq_false hk]
     simp only [Bool.not_false, if_true]
     have hf : decide (x = y) = false := by rw [← hdec]; simp [hk]
     rw [hf] at h
     exact wpAny_bind (wpAny_pure (wpAny_pure (wpAny_pure h)))
 ·rintro ⟨r1, r2⟩ s' ⟨hr, rfl, x', y', xs', ys', hz, hx', hy', hdec, hlen⟩
  simp only at hr
  subst hr
  refine wpAny_pure ?_
  have hfin : (xs.size == ys.size) = decide (x = y) := by
   rw [← hdec, ← hlen]
   cases hx' with
   | nil =>
    cases hy' with
    | nil => simp
    | cons _ _ => simp
   | cons _ _ =>
    cases hy' with
    | nil => simp
    | cons _ _ => simp at hz
  show P (.done (.ret (.bool (xs.size == ys.size)))) s'
  rw [hfin]; exact h
theorem QcA {x y : List (List K)} {a b : Addr} {Q : Bool → Shared → Prop} (hu : A.units + 1 < cLine) (hx : IsNestKey knd s.heap x a) (hy : IsNestKey knd s.heap y b) (h : Q (decide (x = y)) s) :
  wpAny (model prog w) A (eqBool (.ref a) (.ref b)) Q E s := by
 unfold eqBool
 try with_reducible refine wpAny_holding ?_
 show wpAny _ _ (if (Value.ref a == Value.ref b) = true then _ else _) Q E s
 by_cases hab : (Value.ref a == Value.ref b) = true
 ·rw [if_pos hab]
  have e : a = b := by have := eq_of_beq hab; injection this
  subst e
  obtain rfl := hx.inj hy
  exact wpAny_bind (wpAny_rule (wpAny_pure (by simpa using h)))
 ·rw [if_neg hab]
  exact wpAny_bind (wpAny_richCompare_same_room (op := .Eq) hx.typeIs hy.typeIs F.slot_tuple_eq
   (wpAny_call_entry F.slot_tuple_eq hx.typeIs F.entry_tuple_eq (Qcz (by exact hu) hx hy ⟨_, rfl, (fun e => nomatch e), wpAny_truthy_bool h⟩) (F.args_tuple_eq_2 _ _)) (by ac_nf))
theorem QcB {n : Nat} {ks : List K} {a : Addr} {Q : Bool → Shared → Prop} (hk : IsTupleKey knd s.heap ks a) (h : Q true s) : wpAny (model prog w) A (eqIsQuiet (n + 1) (.ref a)) Q E s := by
 have hT := hk.typeIs
 obtain ⟨o, items, n, ho, _, hd, hi⟩ := hk
 unfold eqIsQuiet
 refine wpAny_bind (wpAny_specialOf hT F.slot_tuple_eq.lookup ?_)
 show wpAny _ _ (isInstance (.ref a) (.type "tuple") >>= _) _ _ s
 refine wpAny_bind (wpAny_isInstance hT isSubtype_tuple_tuple ?_)
 simp only [Bool.not_true, Bool.false_eq_true, if_false]
 refine wpAny_bind (wpAny_seqItems ho hd ?_)
 refine wpAny_bind ?_
 show wpAny _ _ (forIn items _ _) _ _ s
 rw [← Array.forIn_toList]
 refine wpAny_forIn_list _ (fun rest r s' => r.1 = none ∧ s' = s ∧ ∀ v ∈ rest, carriedByValue v = true) _ ?_ ?_ _ _ ⟨rfl, rfl, hi.byValue⟩
 ·rintro v rest r s' ⟨hr, rfl, hall⟩
  rw [eqIsQuiet_byValue _ (hall v List.mem_cons_self)]
  refine wpAny_bind (wpAny_pure ?_)
  simp only [Bool.not_true, Bool.false_eq_true, if_false]
  exact wpAny_pure ⟨rfl, rfl, fun u hu' => hall u (List.mem_cons_of_mem _ hu')⟩
 ·rintro ⟨r1, r2⟩ s' ⟨hr, rfl, _⟩
  simp only at hr
  subst hr
  exact wpAny_pure h
theorem QcC {ks : List (List K)} {a : Addr} {Q : Bool → Shared → Prop} (hk : IsNestKey knd s.heap ks a) (h : Q true s) : wpAny (model prog w) A (eqIsQuiet 8 (.ref a)) Q E s := by
 have hT := hk.typeIs
 obtain ⟨o, items, n, ho, _, hd, hi⟩ := hk
 unfold eqIsQuiet
 refine wpAny_bind (wpAny_specialOf hT F.slot_tuple_eq.lookup ?_)
 show wpAny _ _ (isInstance (.ref a) (.type "tuple") >>= _) _ _ s
 refine wpAny_bind (wpAny_isInstance hT isSubtype_tuple_tuple ?_)
 simp only [Bool.not_true, Bool.false_eq_true, if_false]
 refine wpAny_bind (wpAny_seqItems ho hd ?_)
 refine wpAny_bind ?_
 show wpAny _ _ (forIn items _ _) _ _ s
 rw [← Array.forIn_toList]
 refine wpAny_forIn_list _ (fun rest r s' => r.1 = none ∧ s' = s ∧ ∃ left, TIts knd s.heap left rest) _ ?_ ?_ _ _ ⟨rfl, rfl, ks, hi⟩
 ·rintro v rest r s' ⟨hr, rfl, left, hall⟩
  cases hall with
  | cons h1 hl =>
   refine wpAny_bind (QcB (n := 6) h1 ?_)
   simp only [Bool.not_true, Bool.false_eq_true, if_false]
   exact wpAny_pure ⟨rfl, rfl, _, hl⟩
 ·rintro ⟨r1, r2⟩ s' ⟨hr, rfl, _⟩
  simp only at hr
  subst hr
  exact wpAny_pure h
end
noncomputable def nestKind {prog : Program} {w : World} {K : Type} [DecidableEq K] (knd : KeyKind prog w K) : HeapKind prog w (List (List K)) where
 is := IsNestKey knd
 hash := nestHash knd
 draws := fun ks => nestDraws ks + 1
 room := fun A => A.units + 1 < cLine
 inj := fun hx hy => hx.inj hy
 keeps := fun x ho hd hs => x.keeps ho hd hs
 pyHash := fun hu hk h => Qcy hu hk h
 eqBool := fun hu hx hy h => QcA hu hx hy h
 quiet := fun hk h => QcC hk h
end MM
namespace MM
open PySem
inductive D where
 | non | bl (b : Bool) | int (i : Int) | str (x : Str) | tup (ds : List D) | lit (ds : List D) | ref (n : Nat) | dic (n : Nat)
inductive MO where
 | lst (ds : List D) | dct (b : Bool) (kvs : List (D × D))
noncomputable abbrev Sto := List MO
structure Exn where
 cls : Nat
 args : List D
inductive Rs (α : Type) where
 | ok (a : α) (s : Sto) | exc (x : Exn) (s : Sto) | bad
noncomputable def M (α : Type) := Sto → Rs α
section
variable {α β : Type}
noncomputable def ret (a : α) : M α := fun s => .ok a s
noncomputable def bnd (m : M α) (f : α → M β) : M β := fun s => match m s with
 | .ok a s' => f a s'
 | .exc x s' => .exc x s'
 | .bad => .bad
noncomputable def bad : M α := fun _ => .bad
@[irreducible] noncomputable def chk (c : Prop) [Decidable c] (m : M α) : M α := if c then m else bad
end
noncomputable abbrev Loc := List (Option D)
noncomputable abbrev CE := Loc → M D
noncomputable abbrev CT := Loc → M Bool
noncomputable abbrev CA := Loc → M (List D)
inductive Flw where
 | next (l : Loc) | ret (d : D) | brk (l : Loc) | cnt (l : Loc)
noncomputable abbrev CS := Loc → M Flw
noncomputable def lim : Nat := 2 ^ 24
noncomputable def alloc (o : MO) : M D := fun s => .ok (.ref s.length) (s ++ [o])
noncomputable def getL (n : Nat) : M (List D) := fun s => match s[n]? with
 | some (.lst ds) => .ok ds s
 | _ => .bad
noncomputable def putL (n : Nat) (ds : List D) : M Unit := fun s => match s[n]? with
 | some (.lst _) => .ok () (s.set n (.lst ds))
 | _ => .bad
noncomputable def getDc (n : Nat) : M (Bool × List (D × D)) := fun s => match s[n]? with
 | some (.dct b kvs) => .ok (b, kvs) s
 | _ => .bad
noncomputable def putDc (n : Nat) (b : Bool) (kvs : List (D × D)) : M Unit := fun s => match s[n]? with
 | some (.dct c _) => if b = c then .ok () (s.set n (.dct b kvs)) else .bad
 | _ => .bad
mutual
noncomputable def eqK : D → D → Bool
 | .int i, .int j => decide (i = j)
 | .str x, .str y => decide (x = y)
 | .tup xs, .tup ys => eqKs xs ys
 | _, _ => false
noncomputable def eqKs : List D → List D → Bool
 | [], [] => true
 | x :: xs, y :: ys => eqK x y && eqKs xs ys
 | _, _ => false
end
noncomputable def intsK : List D → Option (List Int)
 | [] => some []
 | .int i :: ds => (intsK ds).map (i :: ·)
 | _ => none
noncomputable def rowsK : List D → Option (List (List Int))
 | [] => some []
 | .tup xs :: ds => match intsK xs, rowsK ds with
  | some r, some rs => some (r :: rs)
  | _, _ => none
 | _ => none
noncomputable def stK : D → Option (List (List Int))
 | .tup ds => rowsK ds
 | _ => none
noncomputable def kOk : Bool → D → Bool
 | false, .int _ => true
 | false, .str _ => true
 | true, d => (stK d).isSome
 | _, _ => false
noncomputable def lkK (kvs : List (D × D)) (k : D) : Option D := (kvs.find? fun p => eqK p.1 k).map (·.2)
noncomputable def ptK (kvs : List (D × D)) (k v : D) : List (D × D) := if (kvs.any fun p => eqK p.1 k) = true then kvs.map fun p => if eqK p.1 k = true then (p.1, v) else p else kvs ++ [(k, v)]
noncomputable def mgK (kvs more : List (D × D)) : List (D × D) := more.foldl (fun acc p => ptK acc p.1 p.2) kvs
noncomputable def itemK (n : Nat) (k : D) : M D := bnd (getDc n) fun p => chk (kOk p.1 k = true) (match lkK p.2 k with
 | some d => ret d
 | none => bad)
noncomputable def storeK (n : Nat) (k v : D) : M Unit := bnd (getDc n) fun p => chk (kOk p.1 k = true ∧ p.2.length < lim) (putDc n p.1 (ptK p.2 k v))
noncomputable def hasK (n : Nat) (k : D) : M Bool := bnd (getDc n) fun p => chk (kOk p.1 k = true) (ret (lkK p.2 k).isSome)
noncomputable def seqOf : D → M (List D)
 | .tup ds => ret ds
 | .lit ds => ret ds
 | .ref n => getL n
 | _ => bad
noncomputable def ixN (n : Nat) (i : Int) : Option Nat := if 0 ≤ i then (if i < n then some i.toNat else none) else (if -(n : Int) ≤ i then some (i + n).toNat else none)
noncomputable def addD : D → D → M D
 | .int i, .int j => ret (.int (i + j))
 | .str x, .str y => chk (x.length + y.length ≤ lim) (ret (.str (x ++ y)))
 | .tup x, .tup y => chk (x.length + y.length ≤ lim) (ret (.tup (x ++ y)))
 | .ref a, .ref b => bnd (getL a) fun x => bnd (getL b) fun y => chk (x.length + y.length ≤ lim) (alloc (.lst (x ++ y)))
 | _, _ => bad
noncomputable def subD : D → D → M D
 | .int i, .int j => ret (.int (i - j))
 | _, _ => bad
def mulOk (i j : Int) : Prop := (-(2 ^ 64) < i ∧ i < 2 ^ 64) ∨ (-(2 ^ 64) < j ∧ j < 2 ^ 64)
noncomputable instance (i j : Int) : Decidable (mulOk i j) := by unfold mulOk; infer_instance
noncomputable def mulD : D → D → M D
 | .int i, .int j => chk (mulOk i j) (ret (.int (i * j)))
 | _, _ => bad
noncomputable def fdivD : D → D → M D
 | .int i, .int j => chk (0 < j ∧ j < 1073741824) (ret (.int (i / j)))
 | _, _ => bad
noncomputable def modD : D → D → M D
 | .int i, .int j => chk (0 < j) (ret (.int (i % j)))
 | _, _ => bad
noncomputable def powD : D → D → M D
 | .int i, .int j => chk (0 ≤ j ∧ j ≤ 1000000 ∧ i.natAbs < 2 ^ 64) (ret (.int (i ^ j.toNat)))
 | _, _ => bad
noncomputable def shlD : D → D → M D
 | .int i, .int j => chk (0 ≤ j ∧ j ≤ 1000000 ∧ i.natAbs < 2 ^ 64) (ret (.int (i * 2 ^ j.toNat)))
 | _, _ => bad
noncomputable def negD : D → M D
 | .int i => ret (.int (-i))
 | _ => bad
noncomputable def cmpI (p : Int → Int → Bool) : D → D → M D
 | .int i, .int j => ret (.bl (p i j))
 | _, _ => bad
noncomputable def ltD := cmpI fun i j => decide (i < j)
noncomputable def leD := cmpI fun i j => decide (i ≤ j)
noncomputable def gtD := cmpI fun i j => decide (j < i)
noncomputable def geD := cmpI fun i j => decide (j ≤ i)
noncomputable def allF (f : D → D → Option Bool) : List D → List D → Option Bool
 | [], [] => some true
 | x :: xs, y :: ys => match f x y with
  | some true => allF f xs ys
  | some false => (allF f xs ys).map fun _ => false
  | none => none
 | _ :: _, [] => some false
 | [], _ :: _ => some false
noncomputable def eqS (g : List D → List D → Option Bool) : D → D → Option Bool
 | .non, .non => some true
 | .non, .bl _ => some false
 | .non, .int _ => some false
 | .non, .str _ => some false
 | .non, .tup _ => some false
 | .bl _, .non => some false
 | .bl a, .bl b => some (a == b)
 | .bl a, .int b => some ((if a then 1 else 0) == b)
 | .bl _, .str _ => some false
 | .bl _, .tup _ => some false
 | .int _, .non => some false
 | .int a, .bl b => some (a == (if b then 1 else 0))
 | .int a, .int b => some (a == b)
 | .int _, .str _ => some false
 | .int _, .tup _ => some false
 | .str _, .non => some false
 | .str _, .bl _ => some false
 | .str _, .int _ => some false
 | .str a, .str b => some (a == b)
 | .str _, .tup _ => some false
 | .tup _, .non => some false
 | .tup _, .bl _ => some false
 | .tup _, .int _ => some false
 | .tup _, .str _ => some false
 | .tup xs, .tup ys => g xs ys
 | _, _ => none
noncomputable def eqF : Nat → D → D → Option Bool
 | 0, d, e => eqS (fun _ _ => none) d e
 | n + 1, d, e => eqS (allF (eqF n)) d e
noncomputable def eqB (d e : D) : M Bool := match d, e with
 | .ref a, .ref b => bnd (getL a) fun x => bnd (getL b) fun y => match (if x.length = y.length then allF (eqF 50) x y else some false) with
  | some r => ret r
  | none => bad
 | .ref a, .non => bnd (getL a) fun _ => ret false
 | .non, .ref a => bnd (getL a) fun _ => ret false
 | d, e => match eqF 50 d e with
  | some r => ret r
  | none => bad
noncomputable def eqD (d e : D) : M D := bnd (eqB d e) fun b => ret (.bl b)
noncomputable def neD (d e : D) : M D := bnd (eqB d e) fun b => ret (.bl !b)
noncomputable def isND : D → M D
 | .non => ret (.bl true)
 | _ => ret (.bl false)
noncomputable def notND : D → M D
 | .non => ret (.bl false)
 | _ => ret (.bl true)
noncomputable def itemD (ds : List D) (i : Int) : M D := match ixN ds.length i with
 | some k => match ds[k]? with
  | some d => ret d
  | none => bad
 | none => bad
noncomputable def subsD : D → D → M D
 | .tup ds, .int i => itemD ds i
 | .lit ds, .int i => itemD ds i
 | .ref n, .int i => bnd (getL n) fun ds => itemD ds i
 | .dic n, k => itemK n k
 | .str x, .int i => chk (x.length ≤ lim) (match ixN x.length i with
  | some k => match x.cps.toList[k]? with
   | some c => ret (.str ⟨#[c]⟩)
   | none => bad
  | none => bad)
 | _, _ => bad
noncomputable def truD : D → M Bool
 | .non => ret false
 | .bl b => ret b
 | .int i => ret (i != 0)
 | .str x => chk (x.length ≤ lim) (ret ((x.length : Int) != 0))
 | .tup ds => ret (!ds.isEmpty)
 | .lit ds => ret (!ds.isEmpty)
 | .ref n => bnd (getL n) fun ds => ret (!ds.isEmpty)
 | .dic _ => bad
noncomputable def cVar (i : Nat) : CE := fun l => match l[i]? with
 | some (some d) => ret d
 | _ => bad
noncomputable def cCon (d : D) : CE := fun _ => ret d
noncomputable def c1 (g : D → M D) (a : CE) : CE := fun l => bnd (a l) g
noncomputable def c2 (g : D → D → M D) (a b : CE) : CE := fun l => bnd (a l) fun x => bnd (b l) fun y => g x y
noncomputable def cNil : CA := fun _ => ret []
noncomputable def cCons (a : CE) (r : CA) : CA := fun l => bnd (a l) fun x => bnd (r l) fun xs => ret (x :: xs)
noncomputable def cTup (a : CA) : CE := fun l => bnd (a l) fun xs => chk (xs.length ≤ lim) (ret (.tup xs))
noncomputable def cChain (f g : D → D → M D) (a b c : CE) : CE := fun l => bnd (a l) fun x => bnd (b l) fun y => bnd (f x y) fun z => match z with
 | .bl true => bnd (c l) fun w => g y w
 | .bl false => ret (.bl false)
 | _ => bad
noncomputable def cAnd (a b : CE) : CE := fun l => bnd (a l) fun x => match x with
 | .bl true => b l
 | .bl false => ret (.bl false)
 | _ => bad
noncomputable def cOr (a b : CE) : CE := fun l => bnd (a l) fun x => match x with
 | .bl true => ret (.bl true)
 | .bl false => b l
 | _ => bad
noncomputable def cNot (a : CE) : CE := fun l => bnd (a l) fun x => match x with
 | .bl b => ret (.bl !b)
 | _ => bad
noncomputable def cIfE (t : CT) (a b : CE) : CE := fun l => bnd (t l) fun c => if c = true then a l else b l
noncomputable def cCall (g : List D → M D) (a : CA) : CE := fun l => bnd (a l) g
noncomputable def tVal (a : CE) : CT := fun l => bnd (a l) truD
noncomputable def tCmpB (a : CE) : CT := fun l => bnd (a l) fun x => match x with
 | .bl b => ret b
 | _ => bad
noncomputable def tAndB (a b : CT) : CT := fun l => bnd (a l) fun c => if c = true then b l else ret false
noncomputable def tOrB (a b : CT) : CT := fun l => bnd (a l) fun c => if c = true then ret true else b l
noncomputable def tNotB (a : CT) : CT := fun l => bnd (a l) fun c => ret !c
structure Wk where
 ds : List D
 same : Sto → Prop
noncomputable abbrev CI := Loc → M Wk
open Classical in
noncomputable def  chkS (p : Sto → Prop) : M Unit := fun s => if p s then .ok () s else .bad
noncomputable def anySt : Sto → Prop := fun _ => True
noncomputable def sameL (n : Nat) (ds : List D) : Sto → Prop := fun s => s[n]? = some (.lst ds)
noncomputable def iSeq (a : CE) : CI := fun l => bnd (a l) fun x => match x with
 | .tup ds => ret ⟨ds, anySt⟩
 | .lit ds => ret ⟨ds, anySt⟩
 | .ref n => bnd (getL n) fun ds => ret ⟨ds, sameL n ds⟩
 | _ => bad
noncomputable def rngD (lo : Int) (n : Nat) : List D := (List.range n).map fun k => .int (lo + (k : Nat))
noncomputable def iRng1 (a : CE) : CI := fun l => bnd (a l) fun x => match x with
 | .int j => chk (-(2 ^ 62) ≤ j ∧ j < 2 ^ 62) (ret ⟨rngD 0 j.toNat, anySt⟩)
 | _ => bad
noncomputable def iRng2 (a b : CE) : CI := fun l => bnd (a l) fun x => bnd (b l) fun y => match x, y with
 | .int i, .int j => chk ((-(2 ^ 62) ≤ i ∧ i < 2 ^ 62) ∧ (-(2 ^ 62) ≤ j ∧ j < 2 ^ 62)) (ret ⟨rngD i (j - i).toNat, anySt⟩)
 | _, _ => bad
noncomputable def iTmp (a : CA) : CI := fun l => bnd (a l) fun ds => ret ⟨ds, anySt⟩
noncomputable def iEnum (a : CE) : CI := fun l => bnd (a l) fun x => match x with
 | .tup ds => ret ⟨(rngD 0 ds.length).zipWith (fun i d => .tup [i, d]) ds, anySt⟩
 | _ => bad
noncomputable abbrev CG := D → Loc → M Loc
noncomputable def gVar (i : Nat) : CG := fun d l => ret (l.set i (some d))
noncomputable def gsNil : List D → Loc → M Loc
 | [], l => ret l
 | _, _ => bad
noncomputable def gsCons (g : CG) (r : List D → Loc → M Loc) : List D → Loc → M Loc
 | d :: ds, l => bnd (g d l) fun l' => r ds l'
 | _, _ => bad
noncomputable def gTupD (n : Nat) (r : List D → Loc → M Loc) : CG := fun d l => match d with
 | .tup ds => chk (ds.length = n) (r ds l)
 | _ => bad
noncomputable def capt (n : Nat) (caps : List Nat) (l : Loc) : Loc := List.replicate n none ++ caps.map fun i => (l[i]?).join
noncomputable def  collect (g : CG) (t : CT) (e : CE) (same : Sto → Prop) : List D → Loc → M (List D)
 | [], _ => bnd (chkS same) fun _ => ret []
 | d :: ds, l => bnd (chkS same) fun _ => bnd (g d l) fun l' => bnd (t l') fun b => if b = true then bnd (e l') fun x => bnd (collect g t e same ds l') fun xs => ret (x :: xs) else collect g t e same ds l'
noncomputable def  aComp (n : Nat) (caps : List Nat) (i : CI) (g : CG) (t : CT) (e : CE) : CA := fun l => bnd (i l) fun w => chk (w.ds.length ≤ lim) (collect g t e w.same w.ds (capt n caps l))
noncomputable def sIx (n d : Nat) : Option Int → Nat
 | none => d
 | some v => if v < 0 then (v + (n : Int)).toNat else min v.toNat n
noncomputable def cutD (xs : List D) (lo hi : Option Int) : List D := (xs.drop (sIx xs.length 0 lo)).take (sIx xs.length xs.length hi - sIx xs.length 0 lo)
noncomputable abbrev CO := Loc → M (Option Int)
noncomputable def oNone : CO := fun _ => ret none
noncomputable def oSome (a : CE) : CO := fun l => bnd (a l) fun x => match x with
 | .int i => ret (some i)
 | _ => bad
noncomputable def aSlice (a : CE) (lo hi : CO) : CA := fun l => bnd (a l) fun x => bnd (lo l) fun i => bnd (hi l) fun j => match x with
 | .lit ds => ret (cutD ds i j)
 | .ref n => bnd (getL n) fun ds => ret (cutD ds i j)
 | _ => bad
noncomputable def cSliceT (a : CE) (lo hi : CO) : CE := fun l => bnd (a l) fun x => bnd (lo l) fun i => bnd (hi l) fun j => match x with
 | .tup ds => chk (¬(sIx ds.length 0 i = 0 ∧ sIx ds.length ds.length j = ds.length)) (ret (.tup (cutD ds i j)))
 | _ => bad
noncomputable def tTrue : CT := fun _ => ret true
noncomputable def cKeep (a : CA) : CE := fun l => bnd (a l) fun ds => alloc (.lst ds)
noncomputable def aDisp (a : CA) : CA := fun l => bnd (a l) fun xs => chk (xs.length ≤ lim) (ret xs)
noncomputable def cTmpSub (a : CA) (b : CE) : CE := fun l => bnd (a l) fun ds => bnd (b l) fun i => match i with
 | .int k => itemD ds k
 | _ => bad
noncomputable def cTmp (g : List D → M D) (a : CA) : CE := fun l => bnd (a l) g
noncomputable def sNext : CS := fun l => ret (.next l)
noncomputable def sSeq (a b : CS) : CS := fun l => bnd (a l) fun f => match f with
 | .next l' => b l'
 | f => ret f
noncomputable def sAsg (g : CG) (a : CE) : CS := fun l => bnd (a l) fun d => bnd (g d l) fun l' => ret (.next l')
noncomputable def sRet (a : CE) : CS := fun l => bnd (a l) fun d => ret (.ret d)
noncomputable def sExp (a : CE) : CS := fun l => bnd (a l) fun _ => ret (.next l)
noncomputable def sIf (t : CT) (a b : CS) : CS := fun l => bnd (t l) fun c => if c = true then a l else b l
noncomputable def  forD (g : CG) (b : CS) (same : Sto → Prop) : List D → CS
 | [], l => bnd (chkS same) fun _ => ret (.next l)
 | d :: ds, l => bnd (chkS same) fun _ => bnd (g d l) fun l' => bnd (b l') fun f => match f with
  | .next l2 => forD g b same ds l2
  | .cnt l2 => forD g b same ds l2
  | .brk l2 => ret (.next l2)
  | .ret d => ret (.ret d)
noncomputable def  sFor (i : CI) (g : CG) (b : CS) : CS := fun l => bnd (i l) fun w => forD g b w.same w.ds l
noncomputable def flwD : Flw → M D
 | .ret d => ret d
 | .next _ => ret .non
 | _ => bad
noncomputable def runDef (n : Nat) (body : CS) (ds : List D) : M D := bnd (body (ds.map some ++ List.replicate (n - ds.length) none)) flwD
noncomputable def setItemD (o i v : D) : M Unit := match o, i with
 | .ref n, .int k => bnd (getL n) fun ds => match ixN ds.length k with
  | some j => putL n (ds.set j v)
  | none => bad
 | .dic n, k => storeK n k v
 | _, _ => bad
noncomputable def gSubD (o i : CE) : CG := fun v l => bnd (o l) fun y => bnd (i l) fun z => bnd (setItemD y z v) fun _ => ret l
noncomputable def lenD : D → M D
 | .tup ds => ret (.int ds.length)
 | .lit ds => ret (.int ds.length)
 | .ref n => bnd (getL n) fun ds => ret (.int ds.length)
 | .str x => chk (x.length ≤ lim) (ret (.int x.length))
 | .dic n => bnd (getDc n) fun p => ret (.int p.2.length)
 | _ => bad
noncomputable def appendL (n : Nat) (v : D) : M D := bnd (getL n) fun ds => chk (ds.length < lim) (bnd (putL n (ds ++ [v])) fun _ => ret .non)
noncomputable def cAppend (a b : CE) : CE := fun l => bnd (a l) fun x => match x with
 | .ref n => bnd (b l) fun v => appendL n v
 | _ => bad
noncomputable def cClear (a : CE) : CE := fun l => bnd (a l) fun x => match x with
 | .ref n => bnd (putL n []) fun _ => ret .non
 | _ => bad
noncomputable def intD : D → M D
 | .int i => ret (.int i)
 | .bl b => ret (.int (if b then 1 else 0))
 | _ => bad
noncomputable def tupleD : D → M D
 | .tup ds => ret (.tup ds)
 | .lit ds => ret (.tup ds)
 | .ref n => bnd (getL n) fun ds => ret (.tup ds)
 | _ => bad
noncomputable def isTy : D → Option (List String)
 | .non => some ["NoneType"]
 | .bl _ => some ["bool", "int"]
 | .int _ => some ["int"]
 | .str _ => some ["str"]
 | .tup _ => some ["tuple"]
 | .lit _ => some ["list"]
 | .ref _ => some ["list"]
 | .dic _ => none
noncomputable def numsL : List D → Option (List Int)
 | [] => some []
 | .int i :: ds => (numsL ds).map (i :: ·)
 | _ => none
noncomputable def boolsL : List D → Option (List Bool)
 | [] => some []
 | .bl b :: ds => (boolsL ds).map (b :: ·)
 | _ => none
noncomputable def maxD (ds : List D) : M D := match numsL ds with
 | some (n :: ns) => ret (.int (ns.foldl max n))
 | _ => bad
noncomputable def allD (ds : List D) : M D := match boolsL ds with
 | some bs => ret (.bl (bs.all id))
 | _ => bad
noncomputable def tupL (ds : List D) : M D := ret (.tup ds)
noncomputable def lenL (ds : List D) : M D := ret (.int ds.length)
noncomputable def isInst (ts : List String) (d : D) : M D := match isTy d with
 | some us => ret (.bl (ts.any fun t => us.contains t))
 | none => bad
noncomputable def isD : D → D → M D
 | .bl a, .bl b => ret (.bl (a == b))
 | x, .non => isND x
 | _, _ => bad
noncomputable def isntD : D → D → M D
 | .bl a, .bl b => ret (.bl !(a == b))
 | x, .non => notND x
 | _, _ => bad
noncomputable def flatD : D → Bool
 | .non => true
 | .bl _ => true
 | .int _ => true
 | .str _ => true
 | _ => false
noncomputable def eqFl : D → D → Bool
 | .non, .non => true
 | .bl a, .bl b => a == b
 | .bl a, .int b => (if a then 1 else 0) == b
 | .int a, .bl b => a == (if b then 1 else 0)
 | .int a, .int b => a == b
 | .str a, .str b => a == b
 | _, _ => false
noncomputable def inL (x : D) (ds : List D) : M D := chk (flatD x = true ∧ ds.all flatD = true) (ret (.bl (ds.any fun d => eqFl d x)))
noncomputable def ninL (x : D) (ds : List D) : M D := chk (flatD x = true ∧ ds.all flatD = true) (ret (.bl !(ds.any fun d => eqFl d x)))
noncomputable def inD (x y : D) : M D := match y with
 | .dic n => bnd (hasK n x) fun b => ret (.bl b)
 | y => bnd (seqOf y) (inL x)
noncomputable def ninD (x y : D) : M D := match y with
 | .dic n => bnd (hasK n x) fun b => ret (.bl !b)
 | y => bnd (seqOf y) (ninL x)
noncomputable def allocK (b : Bool) (kvs : List (D × D)) : M D := fun s => .ok (.dic s.length) (s ++ [.dct b kvs])
noncomputable def cDNew (b : Bool) : CE := fun _ => allocK b []
noncomputable def cDisp (ks : List D) (vs : CA) : CE := fun l => bnd (vs l) fun xs => chk (ks.length = xs.length) (allocK false (mgK [] (ks.zip xs)))
noncomputable def aTimes (a : CA) (b : CE) : CA := fun l => bnd (a l) fun xs => bnd (b l) fun k => match k with
 | .int k => chk ((-(2 ^ 63) ≤ k ∧ k < 2 ^ 63) ∧ xs.length * k.toNat ≤ lim) (ret (List.replicate k.toNat xs).flatten)
 | _ => bad
noncomputable def aRev (a : CA) : CA := fun l => bnd (a l) fun ds => ret ds.reverse
noncomputable def cInTmp (g : D → List D → M D) (a : CE) (b : CA) : CE := fun l => bnd (a l) fun x => bnd (b l) fun ds => g x ds
noncomputable def min2D : D → D → M D
 | .int i, .int j => ret (.int (min i j))
 | _, _ => bad
noncomputable def max2D : D → D → M D
 | .int i, .int j => ret (.int (max i j))
 | _, _ => bad
noncomputable def listD (d : D) : M D := bnd (seqOf d) fun ds => alloc (.lst ds)
noncomputable def cPop (a : CE) : CE := fun l => bnd (a l) fun x => match x with
 | .ref n => bnd (getL n) fun ds => match ds.getLast? with
  | some d => bnd (putL n ds.dropLast) fun _ => ret d
  | none => bad
 | _ => bad
noncomputable def cReverse (a : CE) : CE := fun l => bnd (a l) fun x => match x with
 | .ref n => bnd (getL n) fun ds => bnd (putL n ds.reverse) fun _ => ret .non
 | _ => bad
noncomputable def aBack (a : CE) : CA := fun l => bnd (a l) fun x => match x with
 | .ref n => getL n |> fun m => bnd m fun ds => ret ds.reverse
 | _ => bad
end MM
namespace MM
open PySem PySem.Spec PyProof.Rows L2
noncomputable abbrev St := L2.St
def FzL (K : PySem.W.Frag) (H : Hp) (a : Addr) (xs : List V) : Prop :=
 (∃ o, H a = some (.frz o (.lst xs))) ∨
  ∃ (o : Obj) (its : Array Value) (n : Nat), K.lookup a = some o ∧ o.cls = .type "list" ∧ o.dict = none ∧ o.data = .seq its n ∧ its.size ≤ sizeLine ∧ Vals xs its.toList
theorem FzL.seq {K : PySem.W.Frag} {H : Hp} {a : Addr} {xs : List V} (h : FzL K H a xs) : SqL K H a xs := by
 rcases h with ⟨o, h⟩ | h
 ·exact .inl (.inr ⟨o, h⟩)
 ·exact .inr h
noncomputable def kO : HO → Nat
 | .lst _ => 0
 | .dK _ => 1
 | .ext _ => 2
 | _ => 3
noncomputable abbrev NK := List (List Int)
noncomputable def nH (k : NK) : Int := reduceHash (Builtin.Tuple.tupleHashOf (k.map fun r => reduceHash (Builtin.Tuple.tupleHashOf (r.map hashInt))))
noncomputable def nEnt (x : NK × Addr × Value) : DictEntry := ⟨nH x.1, .ref x.2.1, x.2.2⟩
def NOk (a : Addr) (es : List (NK × Addr × V)) (h : Heap) : Prop := es.length ≤ sizeLine ∧ (a == sysModules) = false ∧ ∃ xs : List (NK × Addr × Value), Paired (fun (p : NK × Addr × V) (q : NK × Addr × Value) => p.1 = q.1 ∧ p.2.1 = q.2.1 ∧ RelV p.2.2 q.2.2) es xs ∧
 ∃ o es' ep, h.get? a = some o ∧ o.ExactDict ∧ o.data = .dict es' ep ∧ es'.toList = xs.map nEnt ∧ (xs.map (·.1)).Nodup
noncomputable def nstO (a : Addr) (es : List (NK × Addr × V)) : HO := .ext (NOk a es)
noncomputable def rowD (r : List Int) : D := .tup (r.map .int)
noncomputable def stD (k : NK) : D := .tup (k.map rowD)
noncomputable def keyD : Key → D
 | .inl i => .int i
 | .inr x => .str x
mutual
inductive Rep (K : PySem.W.Frag) (ρ : List Addr) (H : Hp) : V → D → Prop
 | non : Rep K ρ H .non .non
 | bl (b : Bool) : Rep K ρ H (.bl b) (.bl b)
 | int (i : Int) : Rep K ρ H (.int i) (.int i)
 | str (x : Str) : Rep K ρ H (.str x) (.str x)
 | tup {a : Addr} {vs : List V} {ds : List D} (h : SqT K H a vs) (r : Reps K ρ H vs ds) : Rep K ρ H (.ref a) (.tup ds)
 | lit {a : Addr} {vs : List V} {ds : List D} (h : FzL K H a vs) (r : Reps K ρ H vs ds) : Rep K ρ H (.ref a) (.lit ds)
 | ref {a : Addr} {n : Nat} (k : ∃ o, H a = some o ∧ kO o = 0) (h : ρ[n]? = some a) : Rep K ρ H (.ref a) (.ref n)
 | dic {a : Addr} {n : Nat} (k : ∃ o, H a = some o ∧ (kO o = 1 ∨ kO o = 2)) (h : ρ[n]? = some a) : Rep K ρ H (.ref a) (.dic n)
inductive Reps (K : PySem.W.Frag) (ρ : List Addr) (H : Hp) : List V → List D → Prop
 | nil : Reps K ρ H [] []
 | cons {v : V} {d : D} {vs : List V} {ds : List D} (r : Rep K ρ H v d) (t : Reps K ρ H vs ds) : Reps K ρ H (v :: vs) (d :: ds)
end
noncomputable def ObR (K : PySem.W.Frag) (ρ : List Addr) (H : Hp) (a : Addr) : MO → Prop
 | .lst ds => ∃ vs, H a = some (.lst vs) ∧ Reps K ρ H vs ds
 | .dct false kvs => ∃ es, H a = some (.dK es) ∧ Paired (fun (p : Key × V) (q : D × D) => keyD p.1 = q.1 ∧ Rep K ρ H p.2 q.2) es kvs
 | .dct true kvs => ∃ es, H a = some (nstO a es) ∧ Paired (fun (p : NK × Addr × V) (q : D × D) => stD p.1 = q.1 ∧ Rep K ρ H (.ref p.2.1) q.1 ∧ Rep K ρ H p.2.2 q.2) es kvs
structure SR (K : PySem.W.Frag) (ρ : List Addr) (H : Hp) (st : Sto) : Prop where
 len : ρ.length = st.length
 nd : ρ.Nodup
 ob : ∀ (n : Nat) (a : Addr) (o : MO), ρ[n]? = some a → st[n]? = some o → ObR K ρ H a o
def LR (K : PySem.W.Frag) (ρ : List Addr) (H : Hp) (σ : St) (l : Loc) : Prop :=
 σ.length = l.length ∧ ∀ (i : Nat) (d : D), l[i]? = some (some d) → ∃ v, σ[i]? = some (some v) ∧ Rep K ρ H v d
structure Ex (ρ : List Addr) (H : Hp) (ρ' : List Addr) (H' : Hp) : Prop where
 pre : ∃ τ, ρ' = ρ ++ τ ∧ ∀ a ∈ τ, H a = none
 fix : ∀ a o, kO o = 3 → H a = some o → H' a = some o
 oth : ∀ a o, a ∉ ρ → H a = some o → H' a = some o
 knd : ∀ a o, H a = some o → ∃ o', H' a = some o' ∧ kO o' = kO o
structure Up (ρ : List Addr) (H : Hp) (ρ' : List Addr) (H' : Hp) : Prop where
 pre : ∃ τ, ρ' = ρ ++ τ
 fix : ∀ a o, kO o = 3 → H a = some o → H' a = some o
 knd : ∀ a o, H a = some o → ∃ o', H' a = some o' ∧ kO o' = kO o
section
variable {K : PySem.W.Frag} {ρ ρ1 ρ2 : List Addr} {H H1 H2 : Hp} {st st1 : Sto} {v : V} {d : D} {vs : List V} {ds : List D} {a : Addr}
theorem Ex.lst (x : Ex ρ H ρ1 H1) (a : Addr) (xs : List V) (na : a ∉ ρ) (h : H a = some (.lst xs)) : H1 a = some (.lst xs) := x.oth a _ na h
theorem Ex.trk (x : Ex ρ H ρ1 H1) (a : Addr) (o : HO) (h : H a = some o) : H1 a ≠ none := by
 obtain ⟨o', e, _⟩ := x.knd a o h
 rw [e]; exact fun z => nomatch z
theorem Ex.up (x : Ex ρ H ρ1 H1) : Up ρ H ρ1 H1 := ⟨let ⟨τ, e, _⟩ := x.pre; ⟨τ, e⟩, x.fix, x.knd⟩
theorem Up.grow {τ : List Addr} : Up ρ H (ρ ++ τ) H := ⟨⟨τ, rfl⟩, fun _ _ _ e => e, fun _ o e => ⟨o, e, rfl⟩⟩
theorem Ex.refl : Ex ρ H ρ H := ⟨⟨[], by simp, by simp⟩, fun _ _ _ e => e, fun _ _ _ e => e, fun _ o e => ⟨o, e, rfl⟩⟩
theorem Ex.trans (x : Ex ρ H ρ1 H1) (y : Ex ρ1 H1 ρ2 H2) : Ex ρ H ρ2 H2 := by
 obtain ⟨τ1, rfl, f1⟩ := x.pre
 obtain ⟨τ2, rfl, f2⟩ := y.pre
 refine ⟨⟨τ1 ++ τ2, by simp, fun a ha => ?_⟩, fun a o no e => y.fix a o no (x.fix a o no e), fun a o na e => ?_, fun a o e => ?_⟩
 ·rcases List.mem_append.mp ha with ha | ha
  ·exact f1 a ha
  ·cases q : H a with
   | none => rfl
   | some o => exact absurd (f2 a ha) (x.trk a o q)
 ·refine y.oth a o (fun z => ?_) (x.oth a o na e)
  rcases List.mem_append.mp z with z | z
  ·exact na z
  ·rw [f1 a z] at e; cases e
 ·obtain ⟨o1, e1, k1⟩ := x.knd a o e
  obtain ⟨o2, e2, k2⟩ := y.knd a o1 e1
  exact ⟨o2, e2, k2.trans k1⟩
theorem Ex.new {o : HO} (h : H a = none) : Ex ρ H ρ (upd H a o) :=
 ⟨⟨[], by simp, by simp⟩, fun b u _ e => by rw [Qaj (Qal e h)]; exact e, fun b u _ e => by rw [Qaj (Qal e h)]; exact e,
  fun b u e => ⟨u, by rw [Qaj (Qal e h)]; exact e, rfl⟩⟩
theorem Ex.newO {o : HO} (h : H a = none) : Ex ρ H (ρ ++ [a]) (upd H a o) :=
 ⟨⟨[a], rfl, fun b hb => by rw [List.mem_singleton] at hb; rw [hb]; exact h⟩, (Ex.new (ρ := ρ) h).fix, (Ex.new (ρ := ρ) h).oth, (Ex.new (ρ := ρ) h).knd⟩
theorem Ex.newL {vs : List V} (h : H a = none) : Ex ρ H (ρ ++ [a]) (upd H a (.lst vs)) := Ex.newO h
theorem SqT.mono (x : Up ρ H ρ1 H1) (h : SqT K H a vs) : SqT K H1 a vs := by
 rcases h with h | h
 ·rcases h with h | ⟨o, h⟩
  ·exact .inl (.inl (x.fix a _ rfl h))
  ·exact .inl (.inr ⟨o, x.fix a _ rfl h⟩)
 ·exact .inr h
theorem FzL.mono (x : Up ρ H ρ1 H1) (h : FzL K H a vs) : FzL K H1 a vs := by
 rcases h with ⟨o, h⟩ | h
 ·exact .inl ⟨o, x.fix a _ rfl h⟩
 ·exact .inr h
theorem QcD {α : Type} {l τ : List α} {n : Nat} {a : α} (h : l[n]? = some a) : (l ++ τ)[n]? = some a := by
 rw [List.getElem?_append_left (List.getElem?_eq_some_iff.mp h).1]; exact h
mutual
theorem Rep.up (x : Up ρ H ρ1 H1) : ∀ {v : V} {d : D}, Rep K ρ H v d → Rep K ρ1 H1 v d
 | _, _, .non => .non
 | _, _, .bl b => .bl b
 | _, _, .int i => .int i
 | _, _, .str y => .str y
 | _, _, .tup h r => .tup (SqT.mono x h) (Reps.up x r)
 | _, _, .lit h r => .lit (FzL.mono x h) (Reps.up x r)
 | _, _, .ref ⟨o, ho, hk⟩ h => by
  obtain ⟨τ, e⟩ := x.pre
  obtain ⟨o', ho', hk'⟩ := x.knd _ o ho
  exact .ref ⟨o', ho', hk'.trans hk⟩ (by rw [e]; exact QcD h)
 | _, _, .dic ⟨o, ho, hk⟩ h => by
  obtain ⟨τ, e⟩ := x.pre
  obtain ⟨o', ho', hk'⟩ := x.knd _ o ho
  exact .dic ⟨o', ho', by rw [hk']; exact hk⟩ (by rw [e]; exact QcD h)
theorem Reps.up (x : Up ρ H ρ1 H1) : ∀ {vs : List V} {ds : List D}, Reps K ρ H vs ds → Reps K ρ1 H1 vs ds
 | _, _, .nil => .nil
 | _, _, .cons r t => .cons (Rep.up x r) (Reps.up x t)
end
theorem Rep.mono (r : Rep K ρ H v d) (x : Ex ρ H ρ1 H1) : Rep K ρ1 H1 v d := r.up x.up
theorem Reps.mono (r : Reps K ρ H vs ds) (x : Ex ρ H ρ1 H1) : Reps K ρ1 H1 vs ds := r.up x.up
theorem Reps.length : ∀ {vs : List V} {ds : List D}, Reps K ρ H vs ds → vs.length = ds.length
 | _, _, .nil => rfl
 | _, _, .cons _ t => by simp [Reps.length t]
theorem Reps.get : ∀ {vs : List V} {ds : List D} {i : Nat} {d : D}, Reps K ρ H vs ds → ds[i]? = some d → ∃ v, vs[i]? = some v ∧ Rep K ρ H v d
 | _, _, _, _, .nil, e => by simp at e
 | _, _, 0, _, .cons r _, e => by simp at e; subst e; exact ⟨_, rfl, r⟩
 | _, _, i + 1, _, .cons _ t, e => by
  obtain ⟨v, h1, h2⟩ := Reps.get (i := i) t (by simpa using e)
  exact ⟨v, by simpa using h1, h2⟩
theorem Reps.app : ∀ {vs ws : List V} {ds es : List D}, Reps K ρ H vs ds → Reps K ρ H ws es → Reps K ρ H (vs ++ ws) (ds ++ es)
 | _, _, _, _, .nil, s => s
 | _, _, _, _, .cons r t, s => .cons r (Reps.app t s)
theorem Reps.set : ∀ {vs : List V} {ds : List D} {v : V} {d : D} (i : Nat), Reps K ρ H vs ds → Rep K ρ H v d → Reps K ρ H (vs.set i v) (ds.set i d)
 | _, _, _, _, _, .nil, _ => .nil
 | _, _, _, _, 0, .cons _ t, r => .cons r t
 | _, _, _, _, i + 1, .cons q t, r => .cons q (Reps.set i t r)
theorem Reps.take : ∀ {vs : List V} {ds : List D} (n : Nat), Reps K ρ H vs ds → Reps K ρ H (vs.take n) (ds.take n)
 | _, _, 0, _ => .nil
 | _, _, _ + 1, .nil => .nil
 | _, _, n + 1, .cons r t => .cons r (Reps.take n t)
theorem Reps.drop : ∀ {vs : List V} {ds : List D} (n : Nat), Reps K ρ H vs ds → Reps K ρ H (vs.drop n) (ds.drop n)
 | _, _, 0, r => r
 | _, _, _ + 1, .nil => .nil
 | _, _, n + 1, .cons _ t => Reps.drop n t
theorem LR.mono {σ : St} {l : Loc} (x : Ex ρ H ρ1 H1) (h : LR K ρ H σ l) : LR K ρ1 H1 σ l :=
 ⟨h.1, fun i d e => let ⟨v, e1, r⟩ := h.2 i d e; ⟨v, e1, r.mono x⟩⟩
theorem SR.at (s : SR K ρ H st) {n : Nat} {o : MO} (e : st[n]? = some o) : ∃ a, ρ[n]? = some a ∧ ObR K ρ H a o := by
 have hl : n < ρ.length := by rw [s.len]; exact (List.getElem?_eq_some_iff.mp e).1
 have q : ρ[n]? = some ρ[n] := List.getElem?_eq_getElem hl
 exact ⟨_, q, s.ob n _ o q e⟩
theorem SR.seq (s : SR K ρ H st) {n : Nat} (e : st[n]? = some (.lst ds)) : ∃ a vs, ρ[n]? = some a ∧ H a = some (.lst vs) ∧ Reps K ρ H vs ds := by
 obtain ⟨a, h, vs, q, r⟩ := s.at e
 exact ⟨a, vs, h, q, r⟩
theorem ObR.ex {o : MO} (h : ObR K ρ H a o) : ∃ u, H a = some u := by
 cases o with
 | lst ds => obtain ⟨vs, q, _⟩ := h; exact ⟨_, q⟩
 | dct b kvs => cases b <;> (obtain ⟨vs, q, _⟩ := h; exact ⟨_, q⟩)
theorem SR.fresh (s : SR K ρ H st) (h : H a = none) : a ∉ ρ := fun z => by
 obtain ⟨n, hn⟩ := List.getElem?_of_mem z
 have hl : n < st.length := by rw [← s.len]; exact (List.getElem?_eq_some_iff.mp hn).1
 obtain ⟨u, q⟩ := ObR.ex (s.ob n a _ hn (List.getElem?_eq_getElem hl))
 rw [h] at q; cases q
theorem QcE {n : Nat} {xs : List D} {s' : Sto} (h : getL n st = .ok xs s') : s' = st ∧ st[n]? = some (.lst xs) := by
 unfold getL at h
 cases e : st[n]? with
 | none => rw [e] at h; cases h
 | some o =>
  rw [e] at h
  cases o with
  | lst ds => cases h; exact ⟨rfl, rfl⟩
  | dct _ _ => cases h
theorem Paired.mapS {α β : Type} {F G : α → β → Prop} : ∀ {l₁ : List α} {l₂ : List β}, Paired F l₁ l₂ → (∀ a b, F a b → G a b) → Paired G l₁ l₂
 | _, _, .nil, _ => .nil
 | _, _, .cons r t, f => .cons (f _ _ r) (Paired.mapS t f)
theorem ObR.mono {o : MO} (x : Up ρ H ρ1 H1) (h : ObR K ρ H a o) (hk : ∀ u, H a = some u → H1 a = some u) : ObR K ρ1 H1 a o := by
 cases o with
 | lst ds =>
  obtain ⟨vs, q, r⟩ := h
  exact ⟨vs, hk _ q, r.up x⟩
 | dct b kvs =>
  cases b with
  | false =>
   obtain ⟨es, q, r⟩ := h
   exact ⟨es, hk _ q, Paired.mapS r fun p q z => ⟨z.1, z.2.up x⟩⟩
  | true =>
   obtain ⟨es, q, r⟩ := h
   exact ⟨es, hk _ q, Paired.mapS r fun p q z => ⟨z.1, z.2.1.up x, z.2.2.up x⟩⟩
theorem SR.new {o : HO} (s : SR K ρ H st) (h : H a = none) : SR K ρ (upd H a o) st :=
 ⟨s.len, s.nd, fun n b ob e1 e2 => ObR.mono (o := ob) (Ex.new (ρ := ρ) h).up (s.ob n b ob e1 e2) fun vs q => by rw [Qaj (Qal q h)]; exact q⟩
theorem SR.keepO {o' : MO} (s : SR K ρ H st) (na : a ∉ ρ) (r : ObR K ρ H a o') : SR K (ρ ++ [a]) H (st ++ [o']) := by
 have hl := s.len
 have old : ∀ (n : Nat) (b : Addr), (ρ ++ [a])[n]? = some b → (n < ρ.length ∧ ρ[n]? = some b) ∨ (n = ρ.length ∧ b = a) := fun n b e => by
  by_cases hn : n < ρ.length
  ·rw [List.getElem?_append_left hn] at e; exact .inl ⟨hn, e⟩
  ·rw [List.getElem?_append_right (by ac_nf)] at e
   have hz : n - ρ.length = 0 := by
    cases q : n - ρ.length with
    | zero => rfl
    | succ k => rw [q] at e; simp at e
   rw [hz] at e
   simp at e
   exact .inr ⟨by ac_nf, e.symm⟩
 refine ⟨by simp [hl], List.nodup_append.mpr ⟨s.nd, by simp, fun x hx y hy => ?_⟩, fun n b o e1 e2 => ?_⟩
 ·rw [List.mem_singleton] at hy
  subst hy
  exact fun z => na (z ▸ hx)
 ·rcases old n b e1 with ⟨hn, f1⟩ | ⟨hn, f1⟩
  ·rw [List.getElem?_append_left (by ac_nf)] at e2
   exact ObR.mono (o := o) Up.grow (s.ob n b o f1 e2) fun _ q => q
  ·subst f1
   have : o = o' := by
    rw [hn, hl, List.getElem?_append_right (Nat.le_refl _)] at e2
    simp at e2; exact e2.symm
   subst this
   exact ObR.mono (o := o) Up.grow r fun _ q => q
theorem SR.keep (s : SR K ρ H st) (h : H a = some (.lst vs)) (na : a ∉ ρ) (r : Reps K ρ H vs ds) : SR K (ρ ++ [a]) H (st ++ [.lst ds]) := s.keepO na ⟨vs, h, r⟩
theorem SR.putO (s : SR K ρ H st) {n : Nat} {o' : MO} {u u' : HO} (hl : n < st.length) (ha : ρ[n]? = some a) (hu : H a = some u) (k3 : kO u ≠ 3) (hk : kO u' = kO u) (r : ObR K ρ (upd H a u') a o') :
  SR K ρ (upd H a u') (st.set n o') ∧ Ex ρ H ρ (upd H a u') := by
 have x : Ex ρ H ρ (upd H a u') := by
  refine ⟨⟨[], by simp, by simp⟩, fun b o no q => ?_, fun b xs nb q => ?_, fun b o q => ?_⟩
  ·have : b ≠ a := fun z => by subst z; rw [hu] at q; cases q; exact k3 no
   rw [Qaj this]; exact q
  ·have : b ≠ a := fun z => by subst z; exact nb (List.mem_of_getElem? ha)
   rw [Qaj this]; exact q
  ·by_cases z : b = a
   ·subst z; rw [hu] at q; cases q; exact ⟨u', Qai, hk⟩
   ·exact ⟨o, by rw [Qaj z]; exact q, rfl⟩
 refine ⟨⟨by simp [s.len], s.nd, fun m b o e1 e2 => ?_⟩, x⟩
 by_cases z : m = n
 ·subst z
  rw [ha] at e1; cases e1
  rw [List.getElem?_set_self hl] at e2; cases e2
  exact r
 ·rw [List.getElem?_set_ne (Ne.symm z)] at e2
  refine ObR.mono (o := o) x.up (s.ob m b o e1 e2) fun us q => ?_
  have : b ≠ a := fun w => by
   subst w
   exact z ((List.getElem?_inj (List.getElem?_eq_some_iff.mp e1).1 s.nd).mp (e1.trans ha.symm))
  rw [Qaj this]; exact q
theorem SR.put (s : SR K ρ H st) {n : Nat} {ws : List V} (hl : n < st.length) (ha : ρ[n]? = some a) (hw : H a = some (.lst ws)) (r : Reps K ρ H vs ds) :
  SR K ρ (upd H a (.lst vs)) (st.set n (.lst ds)) ∧ Ex ρ H ρ (upd H a (.lst vs)) := by
 have u : Up ρ H ρ (upd H a (.lst vs)) := by
  refine ⟨⟨[], by simp⟩, fun b o no q => ?_, fun b o q => ?_⟩
  ·have : b ≠ a := fun z => by subst z; rw [hw] at q; cases q; exact nomatch no
   rw [Qaj this]; exact q
  ·by_cases z : b = a
   ·subst z; rw [hw] at q; cases q; exact ⟨_, Qai, rfl⟩
   ·exact ⟨o, by rw [Qaj z]; exact q, rfl⟩
 exact s.putO hl ha hw (by show (0 : Nat) ≠ 3; decide) rfl ⟨vs, Qai, r.up u⟩
theorem QcF (k : ∃ o, H a = some o ∧ kO o = 0) : ∃ vs, H a = some (.lst vs) := by
 obtain ⟨o, e, hk⟩ := k
 cases o with
 | lst vs => exact ⟨vs, e⟩
 | _ => exact nomatch hk
def Post {α : Type} (K : PySem.W.Frag) (ρ : List Addr) (H : Hp) (r : Rs α) (R : α → Sto → List Addr → Hp → Prop) : Prop := match r with
 | .ok a st => ∀ ρ' H', Ex ρ H ρ' H' → SR K ρ' H' st → R a st ρ' H'
 | _ => False
theorem Post.left {α : Type} {r : Rs α} {R : α → Sto → List Addr → Hp → Prop} (x : Ex ρ H ρ1 H1) (h : Post K ρ H r R) : Post K ρ1 H1 r R := by
 cases r with
 | ok a st => exact fun ρ' H' y s => h ρ' H' (x.trans y) s
 | exc _ _ => exact h
 | bad => exact h
theorem Post.imp {α : Type} {r : Rs α} {R R' : α → Sto → List Addr → Hp → Prop} (h : Post K ρ H r R) (f : ∀ a st ρ' H', Ex ρ H ρ' H' → SR K ρ' H' st → R a st ρ' H' → R' a st ρ' H') : Post K ρ H r R' := by
 cases r with
 | ok a st => exact fun ρ' H' y s => f a st ρ' H' y s (h ρ' H' y s)
 | exc _ _ => exact h
 | bad => exact h
theorem Post.bnd {α β : Type} {m : M α} {f : α → M β} {R : β → Sto → List Addr → Hp → Prop} (h : Post K ρ H (bnd m f st) R) : Post K ρ H (m st) fun a st' ρ' H' => Post K ρ' H' (f a st') R := by
 unfold MM.bnd at h
 cases e : m st with
 | ok a s' =>
  rw [e] at h
  exact fun ρ' H' y s => h.left y
 | exc _ _ => rw [e] at h; exact h
 | bad => rw [e] at h; exact h
theorem Post.ret {α : Type} {a : α} {R : α → Sto → List Addr → Hp → Prop} (h : Post K ρ H (MM.ret a st) R) (s : SR K ρ H st) : R a st ρ H := h ρ H Ex.refl s
theorem Post.chk {α : Type} {c : Prop} [Decidable c] {m : M α} {R : α → Sto → List Addr → Hp → Prop} (h : Post K ρ H (MM.chk c m st) R) : c ∧ Post K ρ H (m st) R := by
 unfold MM.chk at h
 by_cases hc : c
 ·rw [if_pos hc] at h; exact ⟨hc, h⟩
 ·rw [if_neg hc] at h; exact h.elim
theorem Post.getL {n : Nat} {R : List D → Sto → List Addr → Hp → Prop} (h : Post K ρ H (MM.getL n st) R) (s : SR K ρ H st) : ∃ xs, st[n]? = some (.lst xs) ∧ R xs st ρ H := by
 cases e : MM.getL n st with
 | ok xs s' =>
  obtain ⟨rfl, q⟩ := QcE e
  rw [e] at h
  exact ⟨xs, q, h ρ H Ex.refl s⟩
 | exc _ _ => rw [e] at h; exact h.elim
 | bad => rw [e] at h; exact h.elim
noncomputable def tOf (K : PySem.W.Frag) (f : CE) : TE := fun σ H Q => ∃ ρ l st, LR K ρ H σ l ∧ SR K ρ H st ∧ Post K ρ H (f l st) fun d _ ρ' H' => ∀ v, Rep K ρ' H' v d → Q v H'
noncomputable def ttOf (K : PySem.W.Frag) (f : CT) : TT := fun σ H Q => ∃ ρ l st, LR K ρ H σ l ∧ SR K ρ H st ∧ Post K ρ H (f l st) fun b _ _ H' => Q b H'
noncomputable def taOf (K : PySem.W.Frag) (f : CA) : TA := fun σ H Q => ∃ ρ l st, LR K ρ H σ l ∧ SR K ρ H st ∧ Post K ρ H (f l st) fun ds _ ρ' H' => ∀ vs, Reps K ρ' H' vs ds → Q vs H'
noncomputable def tlOf (K : PySem.W.Frag) (f : CA) : TE := fun σ H Q => ∃ ρ l st, LR K ρ H σ l ∧ SR K ρ H st ∧ Post K ρ H (f l st) fun ds _ ρ' H' => ∀ a vs, H a = none → a ∉ ρ' → H' a = some (.lst vs) → Reps K ρ' H' vs ds → Q (.ref a) H'
noncomputable def tsOf (K : PySem.W.Frag) (c : CS) : TS := fun G σ H => ∃ ρ l st, LR K ρ H σ l ∧ SR K ρ H st ∧ Post K ρ H (c l st) fun f _ ρ' H' => match f with
 | .next l' => ∀ σ', LR K ρ' H' σ' l' → G.nx σ' H'
 | .ret d => ∀ v, Rep K ρ' H' v d → G.rt v H'
 | .brk l' => ∀ σ', LR K ρ' H' σ' l' → G.bk σ' H'
 | .cnt l' => ∀ σ', LR K ρ' H' σ' l' → G.ct σ' H'
noncomputable def tgOf (K : PySem.W.Frag) (g : CG) : TG := fun v σ H Q => ∃ ρ l st d, LR K ρ H σ l ∧ SR K ρ H st ∧ Rep K ρ H v d ∧ Post K ρ H (g d l st) fun l' _ ρ' H' => ∀ σ', LR K ρ' H' σ' l' → Q σ' H'
noncomputable def tgsOf (K : PySem.W.Frag) (g : List D → Loc → M Loc) : TGs := fun vs σ H Q => ∃ ρ l st ds, LR K ρ H σ l ∧ SR K ρ H st ∧ Reps K ρ H vs ds ∧ Post K ρ H (g ds l st) fun l' _ ρ' H' => ∀ σ', LR K ρ' H' σ' l' → Q σ' H'
noncomputable def rOf (K : PySem.W.Frag) (g : D → D → M D) : R2 := fun x y H Q => ∃ ρ st d e, SR K ρ H st ∧ Rep K ρ H x d ∧ Rep K ρ H y e ∧ Post K ρ H (g d e st) fun r _ ρ' H' => ∀ v, Rep K ρ' H' v r → Q v H'
noncomputable def uOf (K : PySem.W.Frag) (g : D → M D) : V → Hp → VK → Prop := fun x H Q => ∃ ρ st d, SR K ρ H st ∧ Rep K ρ H x d ∧ Post K ρ H (g d st) fun r _ ρ' H' => ∀ v, Rep K ρ' H' v r → Q v H'
noncomputable def kOf (K : PySem.W.Frag) (g : List D → M D) : List V → Hp → VK → Prop := fun xs H Q => ∃ ρ st ds, SR K ρ H st ∧ Reps K ρ H xs ds ∧ Post K ρ H (g ds st) fun r _ ρ' H' => ∀ v, Rep K ρ' H' v r → Q v H'
noncomputable def spOf (K : PySem.W.Frag) (n : Nat) (g : List D → M D) : Sp := fun vs H Q _ => vs.length = n ∧ kOf K g vs H Q
end
section
variable {X : Cx} {a b c : Expr} {pos : Pos}
abbrev SE (X : Cx) (e : Expr) (f : CE) : Prop := PE X e (tOf X.K f)
abbrev SL (X : Cx) (e : Expr) (f : CA) : Prop := PE X e (tlOf X.K f)
abbrev ST (X : Cx) (e : Expr) (f : CT) : Prop := PT X e (ttOf X.K f)
abbrev SA (X : Cx) (es : List Expr) (f : CA) : Prop := PA X es (taOf X.K f)
abbrev SS (X : Cx) (s : Stmt) (f : CS) : Prop := PS X s (tsOf X.K f)
abbrev SSs (X : Cx) (s : List Stmt) (f : CS) : Prop := PSs X s (tsOf X.K f)
theorem _root_.L2.PE.of {e : Expr} {t t' : TE} (h : PE X e t) (f : ∀ σ H Q, t' σ H Q → t σ H Q) : PE X e t' := fun pins s σ H Q I q => h pins s σ H Q I (f σ H Q q)
theorem _root_.L2.PT.of {e : Expr} {t t' : TT} (h : PT X e t) (f : ∀ σ H Q, t' σ H Q → t σ H Q) : PT X e t' := fun pins s σ H Q I q => h pins s σ H Q I (f σ H Q q)
theorem _root_.L2.PA.of {e : List Expr} {t t' : TA} (h : PA X e t) (f : ∀ σ H Q, t' σ H Q → t σ H Q) : PA X e t' := fun pos pins s σ H Q I q => h pos pins s σ H Q I (f σ H Q q)
theorem _root_.L2.PS.of {e : Stmt} {t t' : TS} (h : PS X e t) (f : ∀ D σ H, t' D σ H → t D σ H) : PS X e t' := fun pins s σ H D I q => h pins s σ H D I (f D σ H q)
theorem _root_.L2.PSs.of {e : List Stmt} {t t' : TS} (h : PSs X e t) (f : ∀ D σ H, t' D σ H → t D σ H) : PSs X e t' := fun pins s σ H D I q => h pins s σ H D I (f D σ H q)
theorem _root_.L2.PG.of {e : Expr} {t t' : TG} (h : PG X e t) (f : ∀ v σ H Q, t' v σ H Q → t v σ H Q) : PG X e t' := fun pins s σ H v u Q I r q => h pins s σ H v u Q I r (f v σ H Q q)
theorem _root_.L2.PGs.of {e : List Expr} {t t' : TGs} (h : PGs X e t) (f : ∀ v σ H Q, t' v σ H Q → t v σ H Q) : PGs X e t' := fun pins s σ H v u Q I r q => h pins s σ H v u Q I r (f v σ H Q q)
theorem _root_.L2.OpR.of {f : Value → Value → Sem Value} {r r' : R2} (h : OpR X f r) (g : ∀ x y H Q, r' x y H Q → r x y H Q) : OpR X f r' := fun pins s σ H x y v u Q I rx ry q => h pins s σ H x y v u Q I rx ry (g x y H Q q)
theorem _root_.L2.CallR.of {f : Value} {r r' : List V → Hp → VK → Prop} (h : CallR X f r) (g : ∀ x H Q, r' x H Q → r x H Q) : CallR X f r' := fun pins s σ H x u Q I rx q => h pins s σ H x u Q I rx (g x H Q q)
variable {fa fb fc : CE}
theorem QcG (i : Nat) {x : Str} (h : PE X (.Name x pos) (tVar i)) : SE X (.Name x pos) (cVar i) := h.of fun σ H Q pq39 => by
 obtain ⟨ρ, l, st, lr, sr, p⟩ := pq39
 unfold cVar at p
 cases e : l[i]? with
 | none => rw [e] at p; exact p.elim
 | some o =>
  rw [e] at p
  cases o with
  | none => exact p.elim
  | some d =>
   obtain ⟨v, e1, r⟩ := lr.2 i d e
   exact ⟨v, e1, p.ret sr v r⟩
theorem QcH {i : Int} {j : Nat} : SE X (.Constant (.int i) j pos) (cCon (.int i)) := (Qaw (i := i) (j := j) (pos := pos)).of fun σ H Q pq40 => by obtain ⟨ρ, l, st, lr, sr, p⟩ := pq40; exact p.ret sr _ (.int i)
theorem QcI {i : Bool} {j : Nat} : SE X (.Constant (.bool i) j pos) (cCon (.bl i)) := (Qax (b := i) (j := j) (pos := pos)).of fun σ H Q pq41 => by obtain ⟨ρ, l, st, lr, sr, p⟩ := pq41; exact p.ret sr _ (.bl i)
theorem QcJ {g : D → D → M D} {r : R2} (hr : ∀ x y H Q, rOf X.K g x y H Q → r x y H Q) : ∀ σ H Q, tOf X.K (c2 g fa fb) σ H Q → tOp r (tOf X.K fa) (tOf X.K fb) σ H Q := fun σ H Q pq42 =>
 by obtain ⟨ρ, l, st, lr, sr, p⟩ := pq42; exact ⟨ρ, l, st, lr, sr, p.bnd.imp fun d st1 ρ1 H1 x1 s1 p1 v rv => ⟨ρ1, l, st1, lr.mono x1, s1, p1.bnd.imp fun e st2 ρ2 H2 x2 s2 p2 u ru => hr _ _ _ _ ⟨ρ2, st2, d, e, s2, rv.mono x2, ru, p2⟩⟩⟩
theorem QcK {op : Operator} {g : D → D → M D} (ho : OpR X (binaryOp op) (rOf X.K g)) (ha : SE X a fa) (hb : SE X b fb) : SE X (.BinOp a op b pos) (c2 g fa fb) :=
 (Qa2 ho ha hb).of (QcJ fun _ _ _ _ h => h)
theorem QcL {op : CmpOp} {g : D → D → M D} (ho : OpR X (compareOp op) (rOf X.K g)) (ha : SE X a fa) (hb : SE X b fb) (hm : behindInMarks op b = false) : SE X (.Compare a [op] [b] pos) (c2 g fa fb) :=
 (Qbc ho ha hb hm).of (QcJ fun _ _ _ _ h => h)
end
theorem _root_.Exists.el {α β γ : Type} {A B C : α → β → γ → Prop} {G : Prop} (h : ∃ a b c, A a b c ∧ B a b c ∧ C a b c) (k : ∀ a b c, A a b c → B a b c → C a b c → G) : G := by
 obtain ⟨ρ, l, st, a, b, c⟩ := h; exact k ρ l st a b c
theorem tOf.el {K : PySem.W.Frag} {f : CE} {σ : St} {H : Hp} {Q : VK} {C : Prop} (h : tOf K f σ H Q) (k : ∀ ρ l st, LR K ρ H σ l → SR K ρ H st → Post K ρ H (f l st) (fun d _ ρ' H' => ∀ v, Rep K ρ' H' v d → Q v H') → C) : C := by
 obtain ⟨ρ, l, st, a, b, c⟩ := h; exact k ρ l st a b c
theorem ttOf.el {K : PySem.W.Frag} {f : CT} {σ : St} {H : Hp} {Q : Bool → Hp → Prop} {C : Prop} (h : ttOf K f σ H Q) (k : ∀ ρ l st, LR K ρ H σ l → SR K ρ H st → Post K ρ H (f l st) (fun b _ _ H' => Q b H') → C) : C := by
 obtain ⟨ρ, l, st, a, b, c⟩ := h; exact k ρ l st a b c
theorem tsOf.el {K : PySem.W.Frag} {c : CS} {σ : St} {H : Hp} {G : Ends} {C : Prop} (h : tsOf K c G σ H) (k : ∀ ρ l st, LR K ρ H σ l → SR K ρ H st → Post K ρ H (c l st) (fun f _ ρ' H' => match f with
 | .next l' => ∀ σ', LR K ρ' H' σ' l' → G.nx σ' H'
 | .ret d => ∀ v, Rep K ρ' H' v d → G.rt v H'
 | .brk l' => ∀ σ', LR K ρ' H' σ' l' → G.bk σ' H'
 | .cnt l' => ∀ σ', LR K ρ' H' σ' l' → G.ct σ' H') → C) : C := by
 obtain ⟨ρ, l, st, a, b, c⟩ := h; exact k ρ l st a b c
end MM
namespace MM
open PySem PySem.Spec PyProof.Rows L2
theorem QcM : ∀ (a b : List Int), eqKs (a.map .int) (b.map .int) = decide (a = b)
 | [], [] => by simp [eqKs]
 | [], _ :: _ => by simp [eqKs]
 | _ :: _, [] => by simp [eqKs]
 | x :: xs, y :: ys => by
  rw [List.map_cons, List.map_cons]
  show (eqK (.int x) (.int y) && eqKs _ _) = _
  rw [QcM xs ys]
  show (decide (x = y) && _) = _
  simp [Bool.decide_and]
theorem QcN : ∀ (a b : List (List Int)), eqKs (a.map rowD) (b.map rowD) = decide (a = b)
 | [], [] => by simp [eqKs]
 | [], _ :: _ => by simp [eqKs]
 | _ :: _, [] => by simp [eqKs]
 | x :: xs, y :: ys => by
  rw [List.map_cons, List.map_cons]
  show (eqK (rowD x) (rowD y) && eqKs _ _) = _
  rw [QcN xs ys]
  show (eqKs (x.map .int) (y.map .int) && _) = _
  rw [QcM]
  simp [Bool.decide_and]
theorem QcO (a b : NK) : eqK (stD a) (stD b) = decide (a = b) := QcN a b
theorem QcP (a b : Key) : eqK (keyD a) (keyD b) = decide (a = b) := by
 cases a <;> cases b <;> simp [keyD, eqK]
theorem QcQ : ∀ {ds : List D} {r : List Int}, intsK ds = some r → ds = r.map .int
 | [], r, h => by simp [intsK] at h; subst h; rfl
 | d :: ds, r, h => by
  cases d with
  | int i =>
   unfold intsK at h
   cases e : intsK ds with
   | none => rw [e] at h; cases h
   | some q =>
    rw [e] at h
    cases h
    rw [List.map_cons, QcQ e]
  | _ => cases h
theorem QcR : ∀ {ds : List D} {r : NK}, rowsK ds = some r → ds = r.map rowD
 | [], r, h => by simp [rowsK] at h; subst h; rfl
 | d :: ds, r, h => by
  cases d with
  | tup xs =>
   unfold rowsK at h
   cases e : intsK xs with
   | none => rw [e] at h; cases h
   | some q =>
    cases e2 : rowsK ds with
    | none => rw [e, e2] at h; cases h
    | some q2 =>
     rw [e, e2] at h
     cases h
     rw [List.map_cons, ← QcR e2]
     show _ = D.tup (q.map .int) :: ds
     rw [← QcQ e]
  | _ => cases h
theorem QcS {d : D} {r : NK} (h : stK d = some r) : d = stD r := by
 cases d with
 | tup ds => show D.tup ds = D.tup _; rw [QcR h]
 | _ => cases h
theorem QcT {d : D} (h : kOk true d = true) : ∃ k, d = stD k := by
 cases e : stK d with
 | none =>
  have : kOk true d = (stK d).isSome := by cases d <;> rfl
  rw [this, e] at h; cases h
 | some k => exact ⟨k, QcS e⟩
theorem QcU {d : D} (h : kOk false d = true) : ∃ k, d = keyD k := by
 cases d with
 | int i => exact ⟨.inl i, rfl⟩
 | str x => exact ⟨.inr x, rfl⟩
 | _ => cases h
section
variable {X : Cx} {K : PySem.W.Frag} {ρ : List Addr} {H : Hp} {st : Sto} {pins : List (Addr × Obj)} {σ : St} {s : Shared} {a b : Addr}
theorem QcV {k : Key} {v : V} (r : Rep K ρ H v (keyD k)) : v = kV k := by
 cases k with
 | inl i => cases r; rfl
 | inr x => cases r; rfl
noncomputable abbrev KR (K : PySem.W.Frag) (ρ : List Addr) (H : Hp) : List (Key × V) → List (D × D) → Prop := Paired fun (p : Key × V) (q : D × D) => keyD p.1 = q.1 ∧ Rep K ρ H p.2 q.2
noncomputable def RO (K : PySem.W.Frag) (ρ : List Addr) (H : Hp) : Option V → Option D → Prop
 | some v, some d => Rep K ρ H v d
 | none, none => True
 | _, _ => False
theorem RO.some_of {o : Option V} {d : D} (h : RO K ρ H o (some d)) : ∃ v, o = some v ∧ Rep K ρ H v d := by
 cases o with
 | none => exact h.elim
 | some v => exact ⟨v, rfl, h⟩
theorem RO.isSome_eq {o : Option V} {d : Option D} (h : RO K ρ H o d) : o.isSome = d.isSome := by
 cases o <;> cases d <;> first | rfl | exact h.elim
theorem KR.val {es : List (Key × V)} {kvs : List (D × D)} (r : KR K ρ H es kvs) (k : Key) : RO K ρ H (valV es k) (lkK kvs (keyD k)) := by
 induction r with
 | nil => exact True.intro
 | @cons p q ps qs h t ih =>
  obtain ⟨h1, h2⟩ := h
  unfold lkK
  rw [List.find?_cons, ← h1, QcP]
  by_cases e : p.1 = k
  ·rw [Qcg e, decide_eq_true e]; exact h2
  ·rw [Qch e, decide_eq_false e]; exact ih
theorem KR.any {es : List (Key × V)} {kvs : List (D × D)} (r : KR K ρ H es kvs) (k : Key) : (es.any fun kv => decide (kv.1 = k)) = kvs.any fun p => eqK p.1 (keyD k) := by
 induction r with
 | nil => rfl
 | @cons p q ps qs h t ih => rw [List.any_cons, List.any_cons, ih, ← h.1, QcP]
theorem KR.put {es : List (Key × V)} {kvs : List (D × D)} (r : KR K ρ H es kvs) (k : Key) {v : V} {d : D} (rv : Rep K ρ H v d) : KR K ρ H (L2.putK es k v) (ptK kvs (keyD k) d) := by
 unfold L2.putK ptK
 rw [r.any k]
 by_cases e : (kvs.any fun p => eqK p.1 (keyD k)) = true
 ·rw [if_pos e, if_pos e]
  clear e
  induction r with
  | nil => exact .nil
  | @cons p q ps qs h t ih =>
   rw [List.map_cons, List.map_cons]
   refine .cons ?_ ih
   rw [← h.1, QcP]
   by_cases e : p.1 = k
   ·rw [if_pos e, if_pos (decide_eq_true e)]; exact ⟨rfl, rv⟩
   ·rw [if_neg e, if_neg (by rw [decide_eq_false e]; exact Bool.false_ne_true)]; exact h
 ·rw [if_neg e, if_neg e]
  exact Paired.snoc r ⟨rfl, rv⟩
theorem KR.up {ρ1 : List Addr} {H1 : Hp} (x : Up ρ H ρ1 H1) {es : List (Key × V)} {kvs : List (D × D)} (r : KR K ρ H es kvs) : KR K ρ1 H1 es kvs := Paired.mapS r fun _ _ z => ⟨z.1, z.2.up x⟩
theorem KR.length {es : List (Key × V)} {kvs : List (D × D)} (r : KR K ρ H es kvs) : es.length = kvs.length := Paired.length r
noncomputable abbrev NR (K : PySem.W.Frag) (ρ : List Addr) (H : Hp) : List (NK × Addr × V) → List (D × D) → Prop := Paired fun (p : NK × Addr × V) (q : D × D) => stD p.1 = q.1 ∧ Rep K ρ H (.ref p.2.1) q.1 ∧ Rep K ρ H p.2.2 q.2
noncomputable abbrev NX : List (NK × Addr × V) → List (NK × Addr × Value) → Prop := Paired fun (p : NK × Addr × V) (q : NK × Addr × Value) => p.1 = q.1 ∧ p.2.1 = q.2.1 ∧ RelV p.2.2 q.2.2
noncomputable abbrev nkd (X : Cx) : HeapKind X.prog X.w NK := nestKind (intKind X.prog X.w)
theorem QcW {P : Program} {w : World} : ∀ {r : List Int} {vs : List V} {us : List Value}, Reps K ρ H vs (r.map .int) → Vals vs us → ItemsAre (intKind P w) r us
 | [], _, _, h, g => by cases h; cases g; exact .nil
 | i :: r, _, _, h, g => by
  cases h with
  | cons h1 ht =>
   cases h1
   cases g with
   | cons g1 gt =>
    obtain ⟨t, e⟩ := g1
    subst e
    exact .cons (by show Value.isInt i (Value.int i t) = true; simp [Value.isInt]) (QcW ht gt)
theorem QcX {r : List Int} {v : V} {u : Value} (I : Inv X pins σ H s) (h : Rep X.K ρ H v (rowD r)) (g : RelV v u) : ∃ b, u = .ref b ∧ IsTupleKey (intKind X.prog X.w) s.heap r b := by
 cases h with
 | @tup b vs ds h q =>
  have e : u = Value.ref b := g
  subst e
  obtain ⟨its, rv, ⟨o, h1, h2, n, h3⟩, _⟩ := I.tuple h
  exact ⟨b, rfl, o, its.toArray, n, h1, h2, h3, by simpa using QcW q rv⟩
theorem QcY (I : Inv X pins σ H s) : ∀ {k : NK} {vs : List V} {us : List Value}, Reps X.K ρ H vs (k.map rowD) → Vals vs us → TIts (intKind X.prog X.w) s.heap k us
 | [], _, _, h, g => by cases h; cases g; exact .nil
 | r :: k, _, _, h, g => by
  cases h with
  | cons h1 ht =>
   cases g with
   | cons g1 gt =>
    obtain ⟨b, e, hb⟩ := QcX I h1 g1
    subst e
    exact .cons hb (QcY I ht gt)
theorem QcZ {k : NK} {v : V} {u : Value} (I : Inv X pins σ H s) (h : Rep X.K ρ H v (stD k)) (g : RelV v u) : ∃ b, v = .ref b ∧ u = .ref b ∧ (nkd X).is s.heap k b := by
 cases h with
 | @tup b vs ds h q =>
  have e : u = Value.ref b := g
  subst e
  obtain ⟨its, rv, ⟨o, h1, h2, n, h3⟩, _⟩ := I.tuple h
  exact ⟨b, rfl, rfl, o, its.toArray, n, h1, h2, h3, by simpa using QcY I q rv⟩
theorem Qc0 {es : List (NK × Addr × V)} {kvs : List (D × D)} (I : Inv X pins σ H s) (e : H a = some (nstO a es)) (r : NR X.K ρ H es kvs) :
  es.length ≤ sizeLine ∧ (a == sysModules) = false ∧ ∃ xs, NX es xs ∧ s.heap.DictOfH (nkd X) a xs := by
 obtain ⟨⟨z, y, xs, rx, o, es', ep, h1, h2, h3, h4, h5⟩, w1, w2⟩ := (show ObjOk X.prog X.w H s.heap a (nstO a es) from I.hok a _ e)
 refine ⟨z, y, xs, rx, o, es', ep, h1, h2, h3, h4, ?_, h5⟩
 clear h1 h2 h3 h4 h5 e z y w1 w2
 induction rx generalizing kvs with
 | nil => intro x hx; exact nomatch hx
 | @cons p q ps qs h t ih =>
  cases r with
  | cons g gt =>
   intro x hx
   rcases List.mem_cons.mp hx with e | hx
   ·subst e
    obtain ⟨b, e1, _, hb⟩ := QcZ I (by rw [g.1]; exact g.2.1) (show RelV (.ref p.2.1) (.ref p.2.1) from rfl)
    cases e1
    rw [← h.1, ← h.2.1]
    exact hb
   ·exact ih gt x hx
theorem Qc1 {H' : Hp} {h' : Heap} {P : Program} {w : World} {es : List (NK × Addr × V)} {xs : List (NK × Addr × Value)} (z : es.length ≤ sizeLine) (y : (a == sysModules) = false) (r : NX es xs) (dd : h'.DictOfH (nestKind (intKind P w)) a xs) :
  ObjOk P w H' h' a (nstO a es) := by
 obtain ⟨o, es', ep, h1, h2, h3, h4, _, h5⟩ := dd
 refine ⟨⟨z, y, xs, r, o, es', ep, h1, h2, h3, h4, h5⟩, ⟨o, h1⟩, ?_⟩
 rintro g1 g2 ⟨z, y, xs, r, o, es', ep, h1, h2⟩ k
 exact ⟨z, y, xs, r, o, es', ep, k o h1, h2⟩
noncomputable def valN (es : List (NK × Addr × V)) (k : NK) : Option V := (es.find? fun p => decide (p.1 = k)).map (·.2.2)
noncomputable def putN (es : List (NK × Addr × V)) (k : NK) (b : Addr) (v : V) : List (NK × Addr × V) := if (es.any fun p => decide (p.1 = k)) = true then es.map (fun p => if p.1 = k then (p.1, p.2.1, v) else p) else es ++ [(k, b, v)]
theorem NR.val {es : List (NK × Addr × V)} {kvs : List (D × D)} (r : NR K ρ H es kvs) (k : NK) : RO K ρ H (valN es k) (lkK kvs (stD k)) := by
 induction r with
 | nil => exact True.intro
 | @cons p q ps qs h t ih =>
  obtain ⟨h1, _, h2⟩ := h
  unfold lkK valN
  rw [List.find?_cons, List.find?_cons, ← h1, QcO]
  by_cases e : p.1 = k
  ·rw [decide_eq_true e]; exact h2
  ·rw [decide_eq_false e]; exact ih
theorem NX.val {es : List (NK × Addr × V)} {xs : List (NK × Addr × Value)} (r : NX es xs) (k : NK) : RelO (valN es k) ((atKey xs k).map (·.2)) := by
 induction r with
 | nil => exact True.intro
 | @cons p q ps qs h t ih =>
  obtain ⟨h1, _, h2⟩ := h
  unfold atKey valN
  rw [List.find?_cons, List.find?_cons, ← h1]
  by_cases e : p.1 = k
  ·rw [decide_eq_true e]; exact h2
  ·rw [decide_eq_false e]; exact ih
theorem NX.put {es : List (NK × Addr × V)} {xs : List (NK × Addr × Value)} (r : NX es xs) (k : NK) (b : Addr) {v : V} {u : Value} (rv : RelV v u) : NX (putN es k b v) (storedH xs k b u) := by
 have e : (es.any fun p => decide (p.1 = k)) = (atKey xs k).isSome := by
  clear rv
  induction r with
  | nil => rfl
  | @cons p q ps qs h t ih =>
   rw [List.any_cons, ih]
   unfold atKey
   rw [List.find?_cons, ← h.1]
   by_cases e : p.1 = k
   ·rw [decide_eq_true e]; rfl
   ·rw [decide_eq_false e]; rfl
 unfold putN storedH
 rw [e]
 by_cases q : (atKey xs k).isSome = true
 ·rw [if_pos q, if_pos q]
  clear q e
  induction r with
  | nil => exact .nil
  | @cons p q ps qs h t ih =>
   rw [List.map_cons, List.map_cons]
   refine .cons ?_ ih
   unfold putAt
   by_cases e : p.1 = k
   ·rw [if_pos e, if_pos (h.1.symm.trans e)]; exact ⟨h.1, h.2.1, rv⟩
   ·rw [if_neg e, if_neg (fun z => e (h.1.trans z))]; exact h
 ·rw [if_neg q, if_neg q]; exact Paired.snoc r ⟨rfl, rfl, rv⟩
theorem NR.put {es : List (NK × Addr × V)} {kvs : List (D × D)} (r : NR K ρ H es kvs) (k : NK) (b : Addr) {v : V} {d : D} (rk : Rep K ρ H (.ref b) (stD k)) (rv : Rep K ρ H v d) : NR K ρ H (putN es k b v) (ptK kvs (stD k) d) := by
 have e : (es.any fun p => decide (p.1 = k)) = kvs.any fun p => eqK p.1 (stD k) := by
  clear rk rv
  induction r with
  | nil => rfl
  | @cons p q ps qs h t ih => rw [List.any_cons, List.any_cons, ih, ← h.1, QcO]
 unfold putN ptK
 rw [e]
 clear e
 by_cases e : (kvs.any fun p => eqK p.1 (stD k)) = true
 ·rw [if_pos e, if_pos e]
  clear e
  induction r with
  | nil => exact .nil
  | @cons p q ps qs h t ih =>
   rw [List.map_cons, List.map_cons]
   refine .cons ?_ ih
   by_cases e : p.1 = k
   ·have z : eqK q.1 (stD k) = true := by rw [← h.1, QcO]; exact decide_eq_true e
    rw [if_pos e, if_pos z]; exact ⟨h.1, h.2.1, rv⟩
   ·have z : ¬ eqK q.1 (stD k) = true := by rw [← h.1, QcO, decide_eq_false e]; exact Bool.false_ne_true
    rw [if_neg e, if_neg z]; exact h
 ·rw [if_neg e, if_neg e]
  exact Paired.snoc r ⟨rfl, rk, rv⟩
theorem NR.up {ρ1 : List Addr} {H1 : Hp} (x : Up ρ H ρ1 H1) {es : List (NK × Addr × V)} {kvs : List (D × D)} (r : NR K ρ H es kvs) : NR K ρ1 H1 es kvs := Paired.mapS r fun _ _ z => ⟨z.1, z.2.1.up x, z.2.2.up x⟩
theorem NR.length {es : List (NK × Addr × V)} {kvs : List (D × D)} (r : NR K ρ H es kvs) : es.length = kvs.length := Paired.length r
theorem Qc2 (es : List (NK × Addr × V)) (k : NK) (b : Addr) (v : V) : (putN es k b v).length ≤ es.length + 1 := by
 unfold putN
 split
 ·rw [List.length_map]; ac_nf
 ·rw [List.length_append, List.length_cons, List.length_nil]; ac_nf
theorem Qc3 {n : Nat} {p : Bool × List (D × D)} {s' : Sto} (h : getDc n st = .ok p s') : s' = st ∧ st[n]? = some (.dct p.1 p.2) := by
 unfold getDc at h
 cases e : st[n]? with
 | none => rw [e] at h; cases h
 | some o =>
  rw [e] at h
  cases o with
  | lst ds => cases h
  | dct b kvs => cases h; exact ⟨rfl, rfl⟩
theorem Post.getDc {n : Nat} {R : Bool × List (D × D) → Sto → List Addr → Hp → Prop} (h : Post K ρ H (MM.getDc n st) R) (s : SR K ρ H st) : ∃ b kvs, st[n]? = some (.dct b kvs) ∧ R (b, kvs) st ρ H := by
 cases e : MM.getDc n st with
 | ok xs s' =>
  obtain ⟨rfl, q⟩ := Qc3 e
  rw [e] at h
  exact ⟨xs.1, xs.2, q, h ρ H Ex.refl s⟩
 | exc _ _ => rw [e] at h; exact h.elim
 | bad => rw [e] at h; exact h.elim
theorem Qc4 {b : Bool} {kvs : List (D × D)} {k d : D} {y : V} {u : Value} {Q : Value → Shared → Prop} {E : Value → Shared → Prop} {A : Around} (hu : A.units + 2 < cLine) (I : Inv X pins σ H s) (g : ObR X.K ρ H a (.dct b kvs)) (rk : Rep X.K ρ H y k) (hk : kOk b k = true) (hl : lkK kvs k = some d) (ry : RelV y u)
  (h : ∀ v w' s', Inv X pins σ H s' → Rep X.K ρ H v d → RelV v w' → Q w' s') : wpAny (model X.prog X.w) A (getItem (.ref a) u) Q E s := by
 cases b with
 | false =>
  obtain ⟨es, e, r⟩ := g
  obtain ⟨k, rfl⟩ := QcU hk
  cases QcV rk
  have q := KR.val r k
  rw [hl] at q
  obtain ⟨v, e1, rv⟩ := q.some_of
  exact Qcs (by ac_nf) I (by have := DGet.k (k := k) e; rw [e1] at this; exact this) ry fun w' s' I' rw' => h v w' s' I' rv rw'
 | true =>
  obtain ⟨es, e, r⟩ := g
  obtain ⟨k, rfl⟩ := QcT hk
  have q := NR.val r k
  rw [hl] at q
  obtain ⟨v, e1, rv⟩ := q.some_of
  obtain ⟨_, hd, xs, rx, dd⟩ := Qc0 I e r
  obtain ⟨c, e2, e3, hc⟩ := QcZ I rk ry
  subst e3
  obtain ⟨w', hw, rw'⟩ := RelO.some_of (v := v) (o := (atKey xs k).map (·.2)) (by rw [← e1]; exact NX.val rx k)
  obtain ⟨p, hp, hp2⟩ := Option.map_eq_some_iff.mp hw
  refine wpAny_getItem_heap (knd := nkd X) (show A.in1.units + 1 < cLine from hu) hc dd hp ?_
  rw [hp2]
  exact h v w' _ (I.tok _) rv rw'
theorem Qc5 {n : Nat} {b : Bool} {kvs : List (D × D)} {k d : D} {y v : V} {u r' : Value} {Q : Unit → Shared → Prop} {E : Value → Shared → Prop} {A : Around} (hu : A.units + 2 < cLine) (I : Inv X pins σ H s) (sr : SR X.K ρ H st) (ha : ρ[n]? = some a) (hn : st[n]? = some (.dct b kvs))
  (rk : Rep X.K ρ H y k) (hk : kOk b k = true) (hl : kvs.length < sizeLine) (rv : Rep X.K ρ H v d) (ry : RelV y u) (rr : RelV v r')
  (h : ∀ H' s', Inv X pins σ H' s' → SR X.K ρ H' (st.set n (.dct b (ptK kvs k d))) → Ex ρ H ρ H' → Q () s') : wpAny (model X.prog X.w) A (setItem (.ref a) u r') Q E s := by
 have hlt := (List.getElem?_eq_some_iff.mp hn).1
 have g := sr.ob n a _ ha hn
 cases b with
 | false =>
  obtain ⟨es, e, r⟩ := g
  obtain ⟨k, rfl⟩ := QcU hk
  cases QcV rk
  have w := sr.putO (o' := .dct false (ptK kvs (keyD k) d)) (u' := .dK (L2.putK es k v)) hlt ha e (by show (1 : Nat) ≠ 3; decide) rfl ⟨_, Qai, (KR.put r k rv).up ?_⟩
  ·exact Qcv (by ac_nf) I (DPut.k (k := k) e (by rw [KR.length r]; exact hl)) ry rr fun s' I' => h _ s' I' w.1 w.2
  ·refine ⟨⟨[], by simp⟩, fun c o no q => ?_, fun c o q => ?_⟩
   ·rw [Qaj fun z => by subst z; rw [e] at q; cases q; exact nomatch no]; exact q
   ·by_cases z : c = a
    ·subst z; rw [e] at q; cases q; exact ⟨_, Qai, rfl⟩
    ·exact ⟨o, by rw [Qaj z]; exact q, rfl⟩
 | true =>
  obtain ⟨es, e, r⟩ := g
  obtain ⟨k, rfl⟩ := QcT hk
  obtain ⟨_, hd, xs, rx, dd⟩ := Qc0 I e r
  obtain ⟨c, e2, e3, hc⟩ := QcZ I rk ry
  subst e2 e3
  have w := sr.putO (o' := .dct true (ptK kvs (stD k) d)) (u' := nstO a (putN es k c v)) hlt ha e (by show (2 : Nat) ≠ 3; decide) rfl ⟨_, Qai, (NR.put r k c rk rv).up ?_⟩
  ·have hz : xs.length ≤ sizeLine := by
     rw [← Paired.length rx, NR.length r]; ac_nf
   refine wpAny_setItem_heap (knd := nkd X) (hsz := hz) (show A.in1.units + 1 < cLine from hu) hc dd fun h' dd' hs => h _ _ ?_ w.1 w.2
   have he : ∃ q, h'.get? a = some q := let ⟨q, _, _, hq, _⟩ := dd'; ⟨q, hq⟩
   refine Qct I (by rw [e]; exact True.intro) hs he (Qc1 ?_ hd (NX.put rx k c rr) dd')
   have := Qc2 es k c v
   rw [NR.length r] at this
   ac_nf
  ·refine ⟨⟨[], by simp⟩, fun c o no q => ?_, fun c o q => ?_⟩
   ·rw [Qaj fun z => by subst z; rw [e] at q; cases q; exact nomatch no]; exact q
   ·by_cases z : c = a
    ·subst z; rw [e] at q; cases q; exact ⟨_, Qai, rfl⟩
    ·exact ⟨o, by rw [Qaj z]; exact q, rfl⟩
end
end MM
namespace MM
open PySem PySem.Spec PyProof.Rows L2
noncomputable abbrev NoE : Value → Shared → Prop := fun _ _ => False
noncomputable def tests (ifs : List Expr) (env : Env) : Sem Bool := forIn ifs true fun c r => if r = true then do let ok ← isTrue c env (eval c env); pure (ForInStep.yield ok) else pure (ForInStep.yield r)
section
variable {prog : Program} {w : World} {A : Around} {R : Result → Shared → Prop} {s : Shared}
theorem Qc6 {elt target iter : Expr} {ifs : List Expr} {scope : Scope} {pos : Pos} {it acc : Value} {env : Env} (I : Nat → Shared → Prop)
  (turn : ∀ n s, I n s → wpAny (model prog w) A (pyNext it) (fun r s₁ => match r with
   | none => R (.ok .next) s₁
   | some v => wpAny (model prog w) A (letOwnedTupleGo target it v) (fun _ s₁' => wpAny (model prog w) A (assign target env v) (fun _ s₂ =>
     wpAny (model prog w) A (tests ifs env) (fun ok s₃ =>
      if ok = true then wpAny (model prog w) A (eval elt env) (fun x s₄ =>
       wpAny (model prog w) A (call (.builtin "list.append") [acc, x]) (fun _ s₅ => ∃ m, m < n ∧ I m s₅) NoE s₄) NoE s₃
      else ∃ m, m < n ∧ I m s₃) NoE s₂) NoE s₁') NoE s₁) NoE s)
  (n : Nat) (h : I n s) : codeAny (model prog w) A (.compLoop (.ListComp elt [⟨target, iter, ifs, 0⟩] scope pos) 0 it acc env) R s := by
 refine codeAny_loop rfl I (fun n s hI => ?_) n h
 show wpAny _ A ((compTurn (.ListComp elt [⟨target, iter, ifs, 0⟩] scope pos) 0 it acc env).onRaise (fun x => do noteFrame x env; theTreesLotGoes x)) _ _ s
 refine wpAny_noted ?_
 rw [compTurn_list]
 refine wpAny_bind (wpAny_standAt (wpAny_bind (wpAny_mono (turn n s hI) (fun r s₁ h₁ => ?_) fun _ _ h' => h'.elim)))
 cases r with
 | none => exact wpAny_pure h₁
 | some v =>
  refine wpAny_bind (wpAny_mono h₁ (fun _ s₁' h₁' => ?_) fun _ _ h' => h'.elim)
  refine wpAny_bind (wpAny_mono h₁' (fun _ s₂ h₂ => wpAny_bind (wpAny_mono h₂ (fun ok s₃ h₃ => ?_) fun _ _ h' => h'.elim)) fun _ _ h' => h'.elim)
  cases ok with
  | false => exact wpAny_pure ⟨rfl, h₃⟩
  | true =>
   exact wpAny_bind (wpAny_bind (wpAny_mono h₃ (fun x s₄ h₄ => wpAny_bind (wpAny_mono h₄ (fun _ s₅ h₅ => wpAny_pure (wpAny_pure ⟨rfl, h₅⟩)) fun _ _ h' => h'.elim)) fun _ _ h' => h'.elim))
end
noncomputable def clOf : List (Str × NameKind) → List (Str × Addr) → List (Str × Addr) → List (Str × Addr)
 | [], _, acc => acc
 | (n, k) :: r, cells, acc => clOf r cells (if k == .free then (match cells.lookup n with | some c => (n, c) :: acc | none => acc) else acc)
theorem Qc7 {env : Env} : ∀ (names : List (Str × NameKind)) (acc : List (Str × Addr)), (∀ x, (x, NameKind.free) ∈ names → ∃ c, env.cells.lookup x = some c) →
  (forIn names acc fun (x : Str × NameKind) r => if (x.2 == NameKind.free) = true then (do let a ← cellOf env x.1; pure (ForInStep.yield ((x.1, a) :: r)) : Sem _) else pure (ForInStep.yield r)) = (pure (clOf names env.cells acc) : Sem _)
 | [], acc, _ => rfl
 | (n, k) :: r, acc, h => by
  rw [List.forIn_cons]
  by_cases hk : (k == NameKind.free) = true
  ·have e : k = .free := by simpa using hk
   subst e
   obtain ⟨c, hc⟩ := h n List.mem_cons_self
   have q : cellOf env n = pure c := by unfold cellOf; rw [hc]
   simp only [beq_self_eq_true, if_true, q]
   unfold clOf
   simp only [beq_self_eq_true, if_true, hc]
   exact Qc7 r ((n, c) :: acc) fun x hx => h x (List.mem_cons_of_mem _ hx)
  ·simp only [hk, if_false]
   unfold clOf
   simp only [hk, if_false]
   exact Qc7 r acc fun x hx => h x (List.mem_cons_of_mem _ hx)
theorem Qc8 {scope : Scope} {env : Env} (h : ∀ x, (x, NameKind.free) ∈ scope.names → ∃ c, env.cells.lookup x = some c) : closureFor scope env = pure (clOf scope.names env.cells []) := by
 have q := Qc7 (env := env) scope.names [] h
 simp only [closureFor]
 exact congrArg (fun m => m >>= fun cs => pure cs) q
theorem Qc9 {α : Type} {x y : Str} {v : α} {r : List (Str × α)} (h : x ≠ y) : List.lookup x ((y, v) :: r) = r.lookup x := by
 rw [List.lookup_cons]
 have : (x == y) = false := beq_eq_false_iff_ne.mpr h
 rw [this]
theorem Qda {α : Type} {x : Str} {v : α} {r : List (Str × α)} : List.lookup x ((x, v) :: r) = some v := by
 rw [List.lookup_cons, beq_self_eq_true]
theorem clOf_of {cells : List (Str × Addr)} {x : Str} {c : Addr} : ∀ (names : List (Str × NameKind)) (acc : List (Str × Addr)), (clOf names cells acc).lookup x = some c → cells.lookup x = some c ∨ acc.lookup x = some c
 | [], acc, h => .inr h
 | (n, k) :: r, acc, h => by
  unfold clOf at h
  rcases clOf_of r _ h with q | q
  ·exact .inl q
  ·split at q
   ·split at q
    ·rename_i c' hc
     by_cases hx : x = n
     ·subst hx
      rw [Qda] at q
      cases q
      exact .inl hc
     ·rw [Qc9 hx] at q; exact .inr q
    ·exact .inr q
   ·exact .inr q
theorem Qdb {cells : List (Str × Addr)} {x : Str} {c : Addr} (hc : cells.lookup x = some c) : ∀ (names : List (Str × NameKind)) (acc : List (Str × Addr)), ((x, NameKind.free) ∈ names ∨ acc.lookup x = some c) → (∀ d, acc.lookup x = some d → d = c) → (clOf names cells acc).lookup x = some c
 | [], acc, h, _ => by
  rcases h with h | h
  ·cases h
  ·exact h
 | (n, k) :: r, acc, h, ha => by
  unfold clOf
  by_cases hx : x = n
  ·subst hx
   by_cases hk : (k == NameKind.free) = true
   ·rw [if_pos hk, hc]
    exact Qdb hc r _ (.inr Qda) fun d hd => by rw [Qda] at hd; cases hd; rfl
   ·rw [if_neg hk]
    refine Qdb hc r _ ?_ ha
    rcases h with h | h
    ·rcases List.mem_cons.mp h with e | e
     ·cases e; exact absurd rfl hk
     ·exact .inl e
    ·exact .inr h
  ·have step : ∀ acc', acc'.lookup x = acc.lookup x → (clOf r cells acc').lookup x = some c := fun acc' e => by
     refine Qdb hc r acc' ?_ (by rw [e]; exact ha)
     rcases h with h | h
     ·rcases List.mem_cons.mp h with z | z
      ·cases z; exact absurd rfl hx
      ·exact .inl z
     ·exact .inr (by rw [e]; exact h)
   refine step _ ?_
   split
   ·split
    ·exact Qc9 hx
    ·rfl
   ·rfl
theorem cellsFrom_of {x : Str} {c : Addr} : ∀ (names : List (Str × NameKind)) (n : Nat) (acc : List (Str × Addr)), (cellsFrom n names acc).lookup x = some c → n ≤ c ∨ acc.lookup x = some c
 | [], _, _, h => .inr h
 | (y, k) :: r, n, acc, h => by
  unfold cellsFrom at h
  split at h
  ·rcases cellsFrom_of r (n + 1) _ h with q | q
   ·exact .inl (by ac_nf)
   ·by_cases hx : x = y
    ·subst hx; rw [Qda] at q; cases q; exact .inl (Nat.le_refl _)
    ·rw [Qc9 hx] at q; exact .inr q
  ·exact cellsFrom_of r n acc h
theorem Qdc : ∀ (names : List (Str × NameKind)) (n : Nat) (acc : List (Str × Addr)), (∀ x y c, acc.lookup x = some c → acc.lookup y = some c → x = y) → (∀ x c, acc.lookup x = some c → c < n) →
  ∀ x y c, (cellsFrom n names acc).lookup x = some c → (cellsFrom n names acc).lookup y = some c → x = y
 | [], _, _, hi, _ => hi
 | (z, k) :: r, n, acc, hi, hb => by
  unfold cellsFrom
  split
  ·refine Qdc r (n + 1) _ (fun x y c h1 h2 => ?_) (fun x c h => ?_)
   ·by_cases hx : x = z
    ·subst hx
     rw [Qda] at h1; cases h1
     by_cases hy : y = x
     ·exact hy.symm
     ·rw [Qc9 hy] at h2
      exact absurd (hb y _ h2) (Nat.lt_irrefl _)
    ·rw [Qc9 hx] at h1
     by_cases hy : y = z
     ·subst hy
      rw [Qda] at h2; cases h2
      exact absurd (hb x _ h1) (Nat.lt_irrefl _)
     ·rw [Qc9 hy] at h2; exact hi x y c h1 h2
   ·by_cases hx : x = z
    ·subst hx; rw [Qda] at h; cases h; exact Nat.lt_succ_self _
    ·rw [Qc9 hx] at h; exact Nat.lt_succ_of_lt (hb x c h)
  ·exact Qdc r n acc hi hb
theorem cellsFrom_cell {x : Str} {c : Addr} : ∀ (names : List (Str × NameKind)) (h : Heap) (acc : List (Str × Addr)), (cellsFrom h.objs.size names acc).lookup x = some c → acc.lookup x = some c ∨ ((pushCells h names).IsCell c none ∧ h.objs.size ≤ c)
 | [], _, _, q => .inl q
 | (y, k) :: r, h, acc, q => by
  unfold cellsFrom at q
  unfold pushCells
  split at q
  ·rename_i hk
   rw [if_pos hk]
   rw [← Heap.size_push h { cls := .type "cell", data := .cell none }] at q
   rcases cellsFrom_cell r _ _ q with z | z
   ·by_cases hx : x = y
    ·subst hx; rw [Qda] at z; cases z
     refine .inr ⟨?_, Nat.le_refl _⟩
     refine ⟨{ cls := .type "cell", data := .cell none }, pushCells_keeps r _ _ _ (Heap.get?_push_size _ rfl), rfl⟩
    ·rw [Qc9 hx] at z; exact .inl z
   ·refine .inr ⟨z.1, ?_⟩
    have := z.2
    rw [Heap.size_push] at this
    ac_nf
  ·rename_i hk
   rw [if_neg hk]
   exact cellsFrom_cell r h acc q
theorem Qdd {x : Str} : ∀ (names : List (Str × NameKind)) (n : Nat) (acc : List (Str × Addr)), (x, NameKind.cell) ∉ names → (cellsFrom n names acc).lookup x = acc.lookup x
 | [], _, _, _ => rfl
 | (y, k) :: r, n, acc, h => by
  unfold cellsFrom
  split
  ·rename_i hk
   have e : k = .cell := by simpa using hk
   subst e
   have hx : x ≠ y := fun z => h (by rw [z]; exact List.mem_cons_self)
   rw [Qdd r (n + 1) _ fun z => h (List.mem_cons_of_mem _ z), Qc9 hx]
  ·exact Qdd r n acc fun z => h (List.mem_cons_of_mem _ z)
theorem Qde {α β : Type} (f : Str → α → β) (x : Str) : ∀ (l : List (Str × α)), (l.map fun p => (p.1, f p.1 p.2)).lookup x = (l.lookup x).map (f x)
 | [] => rfl
 | (y, v) :: r => by
  by_cases hx : x = y
  ·subst hx
   rw [List.map_cons, Qda, Qda]; rfl
  ·rw [List.map_cons, Qc9 hx, Qc9 hx]; exact Qde f x r
theorem Qdf (scope : Scope) (env : Env) (x : Str) :
  (relabel scope env).names.lookup x = (scope.names.lookup x).map fun k => if (k == NameKind.free && env.scope.kind == .function && env.kindOf x == some .cell) = true then .cell else k := by
 have e : (relabel scope env).names = scope.names.map fun p => (p.1, (fun (n : Str) k => if (k == NameKind.free && env.scope.kind == .function && env.kindOf n == some .cell) = true then NameKind.cell else k) p.1 p.2) := by
  show scope.names.map _ = _
  congr 1
  funext p
  obtain ⟨n, k⟩ := p
  dsimp only
  split <;> rfl
 rw [e]
 exact Qde (fun (n : Str) k => if (k == NameKind.free && env.scope.kind == .function && env.kindOf n == some .cell) = true then NameKind.cell else k) x scope.names
theorem Qdg {M : Model} {A : Around} {E : Value → Shared → Prop} {s : Shared} {scope : Scope} {globals : Addr} {cl : List (Str × Addr)} {qual : Str} {env : Env} {Q : Env → Shared → Prop}
  (h : Q { scope := scope, locals := s.heap.objs.size, globals := globals, cells := cellsFrom (s.heap.objs.size + 1) scope.names cl, qual := qual, func := none, code := env.code, frame := env.frame, builtins := env.builtins }
   { s with heap := pushCells (s.heap.push { cls := .type "dict", data := .dict #[] }) scope.names }) : wpAny M A (newFunctionEnv scope globals cl [] qual none .none (some env)) Q E s := by
 simp only [newFunctionEnv, Option.isSome_some, if_true]
 refine wpAny_bind (wpAny_alloc ?_)
 refine wpAny_bind (wpAny_layCells _ (fun name kind cells => by cases hkc : kind == NameKind.cell <;> simp [hkc]) _ _ _ _ ?_)
 rw [show ({ s with heap := s.heap.push { cls := .type "dict", data := .dict #[] } } : Shared).heap.objs.size = s.heap.objs.size + 1 from Heap.size_push ..]
 exact wpAny_bind (wpAny_pure (wpAny_pure h))
noncomputable def cxC (X : Cx) (N : List Str) (scope : Scope) (fp : List Addr) (s : Shared) (H : Hp) : Cx where
 prog := X.prog
 w := X.w
 K := X.K
 mg := X.mg
 base := X.base
 A := X.A
 N := N
 s₀ := s
 H₀ := H
 env := compEnvC scope (cellsFrom (s.heap.objs.size + 1) scope.names (clOf scope.names X.env.cells [])) s.heap.objs.size X.env
 outer := X.stack
 stack := X.stack
 ex := fp
 fn := fun x => decide (scope.names.lookup x = some .local ∨ scope.names.lookup x = some .cell)
 calm := X.calm
 pn := []
 xe := NoE
structure CompScope (X : Cx) (scope : Scope) : Prop where
 kind : scope.kind = .function
 names : ∀ x ∈ scope.names, x.2 = .local → scope.names.lookup x.1 = some .local
 free : ∀ x, (x, NameKind.free) ∈ scope.names → X.env.kindOf x = some .cell ∨ X.env.kindOf x = some .free
 once : ∀ x, (x, NameKind.free) ∈ scope.names → (x, NameKind.cell) ∉ scope.names
 own : ∀ x, (x, NameKind.free) ∈ scope.names → scope.names.lookup x ≠ some .local
noncomputable def capV (n : Nat) (ix : List Nat) (σ : St) : St := List.replicate n none ++ ix.map fun i => (σ[i]?).join
structure CompNames (X : Cx) (scope : Scope) (N : List Str) (n : Nat) (ix : List Nat) : Prop where
 len : N.length = n + ix.length
 cap : ∀ (j i : Nat) (x : Str), ix[j]? = some i → N[n + j]? = some x → X.N[i]? = some x ∧ scope.names.lookup x = some .free
theorem clOf_mem {cells : List (Str × Addr)} {x : Str} {c : Addr} : ∀ (names : List (Str × NameKind)) (acc : List (Str × Addr)), (clOf names cells acc).lookup x = some c → (x, NameKind.free) ∈ names ∨ acc.lookup x = some c
 | [], acc, h => .inr h
 | (n, k) :: r, acc, h => by
  unfold clOf at h
  rcases clOf_mem r _ h with q | q
  ·exact .inl (List.mem_cons_of_mem _ q)
  ·split at q
   ·rename_i hk
    have e : k = .free := by simpa using hk
    subst e
    split at q
    ·by_cases hx : x = n
     ·subst hx; exact .inl List.mem_cons_self
     ·rw [Qc9 hx] at q; exact .inr q
    ·exact .inr q
   ·exact .inr q
theorem Qdh {X : Cx} {scope : Scope} {cells : List (Str × Addr)} {x : Str} {c : Addr} (h : (clOf scope.names cells []).lookup x = some c) (hf : scope.names.lookup x = some .local ∨ scope.names.lookup x = some .cell) (S : CompScope X scope) : False := by
 rcases clOf_mem _ _ h with q | q
 ·rcases hf with z | z
  ·exact S.own x q z
  ·exact S.once x q (PySem.mem_of_lookup z)
 ·cases q
section
variable {X : Cx} {pins : List (Addr × Obj)} {σ : St} {H : Hp} {s : Shared} {scope : Scope} {N : List Str} {fp : List Addr}
theorem Qdi (I : Inv X pins σ H s) {x : Str} {c : Addr} (h : (clOf scope.names X.env.cells []).lookup x = some c) : X.env.cells.lookup x = some c ∧ c < s.heap.objs.size ∧ (∃ v, s.heap.IsCell c v) ∧ H c = none := by
 rcases clOf_of _ _ h with q | q
 ·obtain ⟨v, z⟩ := I.cell x c q
  exact ⟨q, z.lt, ⟨v, z⟩, I.freeC x c q⟩
 ·cases q
theorem Qdj (I : Inv X pins σ H s) (S : CompScope X scope) (hfp : ∀ b ∈ fp, FpOk X pins H b) (hlt : ∀ b ∈ fp, b < s.heap.objs.size) : (cxC X N scope fp s H).Ok := by
 have inj : ∀ x y c, (cellsFrom (s.heap.objs.size + 1) scope.names (clOf scope.names X.env.cells [])).lookup x = some c → (cellsFrom (s.heap.objs.size + 1) scope.names (clOf scope.names X.env.cells [])).lookup y = some c → x = y :=
  Qdc scope.names _ _ (fun x y c h1 h2 => I.ok.inj x y c (Qdi I h1).1 (Qdi I h2).1) fun x c h => Nat.lt_succ_of_lt (Qdi I h).2.1
 refine ⟨I.ok.mod, S.kind, I.ok.glob, I.ok.blt, Nat.le_refl _, inj, fun x hx => ?_, fun x c hf hc => ?_, I.ok.hd, I.ok.frames, .inl rfl, fun b hb => ?_, I.bs, Nat.le_trans I.ok.bsz I.sz, fun b o e hb => ?_, fun b hb z => ?_, I.stack, I.stkFree⟩
 ·have hx' : (relabel scope X.env).names.lookup x = some .cell ∨ (relabel scope X.env).names.lookup x = some .free := hx
  rw [Qdf] at hx'
  cases e : scope.names.lookup x with
  | none => rw [e] at hx'; rcases hx' with z | z <;> cases z
  | some k =>
   refine Option.isSome_iff_exists.mp (PySem.W.cellsFrom_some scope.names _ _ ?_)
   cases k with
   | cell => exact .inl e
   | free =>
    have hm := PySem.mem_of_lookup e
    obtain ⟨c, hc⟩ := I.ok.has x (S.free x hm)
    exact .inr (by rw [Qdb hc scope.names [] (.inl hm) fun d hd => by cases hd]; rfl)
   | _ =>
    rw [e] at hx'
    rcases hx' with z | z <;> (simp at z)
 ·have hc' : (cellsFrom (s.heap.objs.size + 1) scope.names (clOf scope.names X.env.cells [])).lookup x = some c := hc
  rcases cellsFrom_of _ _ _ hc' with q | q
  ·exact Nat.le_of_succ_le q
  ·exfalso
   have hf' : scope.names.lookup x = some .local ∨ scope.names.lookup x = some .cell := of_decide_eq_true hf
   exact Qdh q hf' S
 ·obtain ⟨f0, f1, f2, f3, f4, f5⟩ := hfp b hb
  refine ⟨Nat.ne_of_lt (hlt b hb), fun x c hc z => ?_⟩
  have hc' : (cellsFrom (s.heap.objs.size + 1) scope.names (clOf scope.names X.env.cells [])).lookup x = some c := hc
  rcases cellsFrom_of _ _ _ hc' with q | q
  ·rw [z] at q
   exact absurd (Nat.lt_of_lt_of_le (Nat.lt_succ_of_lt (hlt b hb)) q) (Nat.lt_irrefl _)
  ·exact f4 x c (Qdi I q).1 z
 ·obtain ⟨f0, f1, f2, f3, f4, f5⟩ := hfp b hb
  rcases f3 with z | z
  ·exact I.ok.noex b o e z
  ·exact absurd (Nat.lt_of_lt_of_le (Nat.lt_of_lt_of_le (Heap.lt_size e) I.ok.bsz) z) (Nat.lt_irrefl _)
 ·obtain ⟨f0, f1, f2, f3, f4, f5⟩ := hfp b hb
  rcases List.mem_cons.mp (I.stkSub b z) with q | q
  ·exact f1 q
  ·exact f2 q
noncomputable abbrev heapC (h : Heap) (scope : Scope) : Heap := pushCells (h.push { cls := .type "dict", data := .dict #[] }) scope.names
theorem Qdk (h : Heap) (scope : Scope) : ∀ b o, h.get? b = some o → (heapC h scope).get? b = some o := fun b o e => pushCells_keeps _ _ b o (Heap.get?_push_of_some _ e)
theorem Qdl {n : Nat} {ix : List Nat} (I : Inv X pins σ H s) (S : CompScope X scope) (T : CompNames X scope N n ix) (hfp : ∀ b ∈ fp, FpOk X pins H b) (hlt : ∀ b ∈ fp, b < s.heap.objs.size) :
  Inv (cxC X N scope fp s H) [] (capV n ix σ) H { s with heap := heapC s.heap scope } := by
 have kp := Qdk s.heap scope
 have hns : (heapC s.heap scope).Ns s.heap.objs.size fun _ => none := (Heap.Ns.new s.heap (.type "dict")).keeps (pushCells_keeps _ _)
 have cells : ∀ x c, (cellsFrom (s.heap.objs.size + 1) scope.names (clOf scope.names X.env.cells [])).lookup x = some c →
   (∃ v, (heapC s.heap scope).IsCell c v) ∧ H c = none := fun x c h => by
  have h' : (cellsFrom (s.heap.push { cls := .type "dict", data := .dict #[] }).objs.size scope.names (clOf scope.names X.env.cells [])).lookup x = some c := by rw [Heap.size_push]; exact h
  rcases cellsFrom_cell _ _ _ h' with q | ⟨q, z⟩
  ·obtain ⟨_, _, ⟨v, hv⟩, hn⟩ := Qdi I q
   exact ⟨⟨v, hv.keeps kp⟩, hn⟩
  ·refine ⟨⟨none, q⟩, I.hok.fresh ?_⟩
   rw [Heap.size_push] at z
   ac_nf
 refine ⟨Qdj I S hfp hlt, rfl, I.bare, Un.kept kp, ⟨_, hns, fun i x v h1 h2 h3 => ?_⟩, fun x c h => (cells x c h).1, I.hok.fresh (Nat.le_refl _), fun x c h => (cells x c h).2, fun p hp => absurd (show p ∈ ([] : List (Addr × Obj)) from hp) (by simp), I.hok.kept kp, ?_⟩
 ·have h1' : N[i]? = some x := h1
  have h2' : (List.replicate n none ++ ix.map fun i => (σ[i]?).join)[i]? = some (some v) := h2
  have hi : n ≤ i := Nat.le_of_not_lt fun z => by
   rw [List.getElem?_append_left (by simpa using z), List.getElem?_replicate] at h2'
   split at h2' <;> cases h2'
  rw [List.getElem?_append_right (by simpa using hi), List.length_replicate, List.getElem?_map] at h2'
  cases e : ix[i - n]? with
  | none => rw [e] at h2'; cases h2'
  | some k =>
   rw [e] at h2'
   have hj : (σ[k]?).join = some v := Option.some.inj h2'
   have hk : σ[k]? = some (some v) := by
    cases q : σ[k]? with
    | none => rw [q] at hj; cases hj
    | some o => rw [q] at hj; exact congrArg some hj
   obtain ⟨hN, hfr⟩ := T.cap (i - n) k x e (by rw [show n + (i - n) = i by ac_nf]; exact h1')
   have hm := PySem.mem_of_lookup hfr
   have kx := S.free x hm
   obtain ⟨m, hn, hl⟩ := I.loc
   obtain ⟨u, ru, lk⟩ := hl k x v hN hk (by
    rcases kx with z | z
    ·exact .inr (.inl z)
    ·exact .inr (.inr z))
   have lk2 : ∃ c, X.env.cells.lookup x = some c ∧ s.heap.IsCell c (some u) := by
    rcases lk with ⟨z, _⟩ | ⟨_, c, hc, q⟩
    ·rcases kx with y | y <;> (rw [y] at z; cases z)
    ·exact ⟨c, hc, q⟩
   obtain ⟨c, hc, q⟩ := lk2
   refine ⟨u, ru, .inr ⟨?_, c, ?_, q.keeps kp⟩⟩
   ·show (relabel scope X.env).names.lookup x = some .cell ∨ (relabel scope X.env).names.lookup x = some .free
    rw [Qdf, hfr, Option.map_some]
    by_cases hq : (NameKind.free == NameKind.free && X.env.scope.kind == .function && X.env.kindOf x == some .cell) = true
    ·rw [if_pos hq]; exact .inl rfl
    ·rw [if_neg hq]; exact .inr rfl
   ·show (cellsFrom (s.heap.objs.size + 1) scope.names (clOf scope.names X.env.cells [])).lookup x = some c
    rw [Qdd _ _ _ (S.once x hm)]
    exact Qdb hc scope.names [] (.inl hm) fun d hd => by cases hd
 ·show (List.replicate n none ++ ix.map fun i => (σ[i]?).join).length = N.length
  rw [List.length_append, List.length_replicate, List.length_map, T.len]
noncomputable def tComp (wi : TI) (n : Nat) (ix : List Nat) (g : TG) (tt : TT) (te : TE) : TE := fun σ H Q => wi σ H fun J H1 => ∀ l, H1 l = none → ∃ W : Nat → Nat → St → Hp → Prop, (∃ m, W 0 m (capV n ix σ) (upd H1 l (.lst []))) ∧
 ∀ i m σ' H', W i m σ' H' → (J.stop i H' ∧ Q (.ref l) H') ∨ (J.go i H' ∧ ∀ x H2, J.yld i H' x H2 → g x σ' H2 fun σ2 H3 => tt σ2 H3 fun b H4 =>
  if b = true then te σ2 H4 fun v H5 => ∃ ys, H5 l = some (.lst ys) ∧ ys.length < sizeLine ∧ ∃ m', m' < m ∧ W (i + 1) m' σ2 (upd H5 l (.lst (ys ++ [v]))) else ∃ m', m' < m ∧ W (i + 1) m' σ2 H4)
def PIfs (X : Cx) (ifs : List Expr) (tt : TT) : Prop :=
 ∀ (pins : List (Addr × Obj)) (s : Shared) (σ : St) (H : Hp) (Q : Bool → Hp → Prop), Inv X pins σ H s → tt σ H Q → wpAny (model X.prog X.w) X.A (tests ifs X.env) (TP X pins σ Q) X.xe s
theorem Qdm : PIfs X [] (fun _ H Q => Q true H) := fun pins s σ H Q I h => wpAny_tests_nil ⟨H, I, h⟩
theorem Qdn {c : Expr} {tt : TT} (h : PT X c tt) : PIfs X [c] tt := fun pins s σ H Q I q => wpAny_tests_one (h pins s σ H Q I q)
structure CFree (X : Cx) (pins : List (Addr × Obj)) (C : Addr) (H : Hp) (s : Shared) : Prop where
 ns : ∃ m, s.heap.Ns C m
 free : H C = none
 loc : C ≠ X.env.locals
 cell : ∀ x c, X.env.cells.lookup x = some c → c ≠ C
 sz : X.s₀.heap.objs.size ≤ C
 pin : ∀ p ∈ X.pn ++ pins, p.1 ≠ C
theorem CFree.go {C : Addr} {h' : Heap} (c : CFree X pins C H s) (I : Inv X pins σ H s) (hs : Heap.SameBut C s.heap h') : Inv X pins σ H { s with heap := h' } :=
 I.turned (t' := s.toks) (fun b o hb e => (hs.2 b hb).trans e) c.free c.loc (.inr c.sz) c.cell c.pin
theorem Qdo {elt target iter : Expr} {ifs : List Expr} {pos : Pos} {n : Nat} {ix : List Nat} {wi : TI} {g : TG} {tt : TT} {te : TE} {use : Option (Value → Sem Unit)} {Q : Value → Shared → Prop} {QH : VK}
  (hc : X.calm = true) (S : CompScope X scope) (T : CompNames X scope N n ix) (hi : PI X target iter wi)
  (blk : ∀ (fp : List Addr) (s : Shared) (H : Hp), PG (cxC X N scope fp s H) target g ∧ PIfs (cxC X N scope fp s H) ifs tt ∧ PE (cxC X N scope fp s H) elt te)
  (hs : ∀ x, foldedSetIterable iter X.env x = pure x) (I : Inv X pins σ H s) (h : tComp wi n ix g tt te σ H QH)
  (fin : ∀ (l C : Addr) (H' : Hp) (s' : Shared), Inv X pins σ H' s' → QH (.ref l) H' → CFree X pins C H' s' → compPost (model X.prog X.w) X.A X.xe use Q (.ref l) C (.ok .next) s') :
  wpAny (model X.prog X.w) X.A (comprehension (.ListComp elt [⟨target, iter, ifs, 0⟩] scope pos) scope X.env (firstIterPos [⟨target, iter, ifs, 0⟩] pos) (newList []) false (eval iter X.env) use) Q X.xe s := by
 have hclos : closureFor scope X.env = pure (clOf scope.names X.env.cells []) := Qc8 fun x hx => I.ok.has x (S.free x hx)
 refine wpAny_comprehension_free rfl hs hclos S.kind S.names ?_
 refine thn (hi pins s σ H _ I h) fun v s1 h1 => thn h1 fun itv s2 h2 => ?_
 obtain ⟨it, fp, tn, J, H2, rfl, I2, TT, st2, f2, rest⟩ := h2
 refine wpAny_newObj_type (hd := by size_fits) ?_
 have hf2 : H2 s2.heap.objs.size = none := I2.hok.fresh (Nat.le_refl _)
 obtain ⟨W, ⟨m0, w0⟩, turn⟩ := rest _ hf2
 have fl : ∀ b ∈ fp, b < s2.heap.objs.size := fun b hb => by
  obtain ⟨o, e, _⟩ := TT.obj _ _ st2 b hb
  exact Heap.lt_size e
 have f3 : ∀ b ∈ fp, FpOk X pins (upd H2 s2.heap.objs.size (.lst [])) b := fun b hb => by
  obtain ⟨f0, fr⟩ := f2 b hb
  refine ⟨?_, fr⟩
  rw [Qaj (Nat.ne_of_lt (fl b hb))]
  exact f0
 have I3 : Inv X pins σ (upd H2 s2.heap.objs.size (.lst [])) { s2 with heap := s2.heap.push { cls := .type "list", dict := none, data := .seq ([] : List Value).toArray } } :=
  I2.laid (t' := s2.toks) (fun b o e => Heap.get?_push_of_some _ e) (Nat.le_refl _) ⟨Nat.zero_le _, [], 0, .nil, Heap.get?_push_size _ rfl⟩
 have tn3 : tn 0 (s2.heap.push { cls := .type "list", dict := none, data := .seq ([] : List Value).toArray }) := TT.keep _ _ _ st2 fun b hb o e => Heap.get?_push_of_some _ e
 have fl3 : ∀ b ∈ fp, b < (s2.heap.push { cls := .type "list", dict := none, data := .seq ([] : List Value).toArray }).objs.size := fun b hb => by
  rw [Heap.size_push]; exact Nat.lt_succ_of_lt (fl b hb)
 generalize s2.heap.objs.size = l at *
 generalize hs3 : ({ s2 with heap := s2.heap.push { cls := .type "list", dict := none, data := .seq ([] : List Value).toArray } } : Shared) = s3 at *
 have e3 : s2.heap.push { cls := .type "list", dict := none, data := .seq ([] : List Value).toArray } = s3.heap := by rw [← hs3]
 rw [e3] at tn3 fl3
 generalize upd H2 l (.lst []) = H3 at *
 refine Qdg ?_
 have I4 := Qdl (N := N) (n := n) (ix := ix) I3 S T f3 fl3
 obtain ⟨bg, bt, be⟩ := blk fp s3 H3
 have tn4 : tn 0 (heapC s3.heap scope) := TT.keep _ _ _ tn3 fun b hb o e => Qdk _ _ _ _ e
 have fr4 : ∀ b ∈ fp, H3 b = none := fun b hb => (f3 b hb).1
 show codeAny (model X.prog X.w) X.A (.compStart (.ListComp elt [⟨target, iter, ifs, 0⟩] scope pos) 0 (.ref it) (.ref l) (cxC X N scope fp s3 H3).env) (compPost (model X.prog X.w) X.A X.xe use Q (.ref l) s3.heap.objs.size) { s3 with heap := heapC s3.heap scope }
 have fpx : ∀ {σ' : St} {H' : Hp} {s' : Shared}, Inv (cxC X N scope fp s3 H3) [] σ' H' s' → (∀ b ∈ fp, H' b = none) → ∀ b ∈ fp, FpOk (cxC X N scope fp s3 H3) [] H' b := fun I' hn b hb => by
  have q := I'.ok.exf b hb
  exact ⟨hn b hb, q.1, I'.ok.exfs b hb, .inl hb, q.2, fun p hp => absurd (show p ∈ ([] : List (Addr × Obj)) from hp) (by simp)⟩
 have hc' : (cxC X N scope fp s3 H3).calm = true := hc
 have loop : codeAny (model X.prog X.w) X.A (.compLoop (.ListComp elt [⟨target, iter, ifs, 0⟩] scope pos) 0 (.ref it) (.ref l) (cxC X N scope fp s3 H3).env) (compPost (model X.prog X.w) X.A X.xe use Q (.ref l) s3.heap.objs.size) { s3 with heap := heapC s3.heap scope } := by
  refine Qc6 (fun k s' => ∃ i σ' H', Inv (cxC X N scope fp s3 H3) [] σ' H' s' ∧ tn i s'.heap ∧ (∀ b ∈ fp, H' b = none) ∧ W i k σ' H') ?_ m0 ⟨0, _, H3, I4, tn4, fr4, w0⟩
  rintro k s5 ⟨i, σ5, H5, I5, tn5, fr5, w5⟩
  rcases turn i k σ5 H5 w5 with ⟨stop, q⟩ | ⟨go, step⟩
  ·refine thn (TT.done (cxC X N scope fp s3 H3) rfl rfl rfl hc' i [] s5 σ5 H5 NoE I5 (fpx I5 fr5) tn5 stop) fun r s6 pq43 => ?_
   obtain ⟨hr, I6⟩ := pq43
   subst hr
   have J6 : Inv X pins σ H5 s6 := I3.call' I6.os I6.base I6.hok I6.bare fun b hb => by
    obtain ⟨g0, g1, g2, g3, g4, g5⟩ := f3 b hb
    exact ⟨g3, g1, g4, g5⟩
   obtain ⟨m, hn, _⟩ := I6.loc
   refine fin l s3.heap.objs.size H5 s6 J6 q ⟨⟨m, hn⟩, I6.free, Nat.ne_of_gt I3.lt, fun x c e => ?_, I3.sz, fun p hp => ?_⟩
   ·obtain ⟨v, z⟩ := I3.cell x c e
    exact Nat.ne_of_lt z.lt
   ·exact Nat.ne_of_lt (Heap.lt_size (I3.pin p hp).1)
  ·refine thn (TT.item (cxC X N scope fp s3 H3) rfl rfl rfl hc' i [] s5 σ5 H5 NoE I5 (fpx I5 fr5) tn5 go) fun r s6 pq44 => ?_
   obtain ⟨u, hr, h6⟩ := pq44
   subst hr
   refine thn h6 fun _ s7 pq45 => ?_
   obtain ⟨x, H7, I7, r7, y7, tn7, fr7⟩ := pq45
   have I7' := I7.pinned (fpx I7 fr7) (TT.obj _ _ tn7)
   refine thn (bg _ s7 σ5 H7 x u _ I7' r7 (step x H7 y7)) fun _ s8 pq46 => ?_
   obtain ⟨σ8, H8, I8, q8⟩ := pq46
   refine thn (bt _ s8 σ8 H8 _ I8 q8) fun ok s9 pq47 => ?_
   obtain ⟨H9, I9, q9⟩ := pq47
   have again : ∀ {s' : Shared} {H' : Hp}, Inv (cxC X N scope fp s3 H3) ([] ++ pinsAt fp s7.heap) σ8 H' s' → (∃ m', m' < k ∧ W (i + 1) m' σ8 H') →
     ∃ m, m < k ∧ ∃ i σ' H', Inv (cxC X N scope fp s3 H3) [] σ' H' s' ∧ tn i s'.heap ∧ (∀ b ∈ fp, H' b = none) ∧ W i m σ' H' := fun {s' H'} I' pq48 => by
    obtain ⟨m', hm, w'⟩ := pq48
    refine ⟨m', hm, i + 1, σ8, H', I'.unpinned, TT.keep _ _ _ tn7 fun b hb o e => (I'.pin (b, o) (List.mem_append_right _ (List.mem_append_right _ (QaZ hb e)))).1, fun b hb => ?_, w'⟩
    obtain ⟨o, e, d⟩ := TT.obj _ _ tn7 b hb
    exact (I'.pin (b, o) (List.mem_append_right _ (List.mem_append_right _ (QaZ hb e)))).2.1
   cases ok with
   | false => exact again I9 q9
   | true =>
    refine thn (be _ s9 σ8 H9 _ I9 q9) fun xv s10 pq49 => ?_
    obtain ⟨v, H10, I10, r10, ys, hy, hz, q10⟩ := pq49
    refine thn (Qb5 (X := cxC X N scope fp s3 H3) _ s10 σ8 H10 (.ref l) [v] (.ref l) [xv] (fun _ H' => H' = upd H10 l (.lst (ys ++ [v]))) I10 rfl (.cons r10 .nil) ⟨l, ys, v, rfl, rfl, hy, hz, rfl⟩) fun _ s11 pq50 => ?_
    obtain ⟨_, H11, I11, _, e⟩ := pq50
    subst e
    exact again I11 q10
 exact codeAny_compStart_list loop (TT.self _ 0 _ _ _ tn4 loop)
theorem Qdp {elt target iter : Expr} {ifs : List Expr} {pos : Pos} {n : Nat} {ix : List Nat} {wi : TI} {g : TG} {tt : TT} {te : TE}
  (hc : X.calm = true) (S : CompScope X scope) (T : CompNames X scope N n ix) (hi : PI X target iter wi)
  (blk : ∀ (fp : List Addr) (s : Shared) (H : Hp), PG (cxC X N scope fp s H) target g ∧ PIfs (cxC X N scope fp s H) ifs tt ∧ PE (cxC X N scope fp s H) elt te)
  (hs : ∀ x, foldedSetIterable iter X.env x = pure x := by intro _; rfl) : PE X (.ListComp elt [⟨target, iter, ifs, 0⟩] scope pos) (tComp wi n ix g tt te) := by
 intro pins s σ H Q I h
 rw [eval_ListComp]
 refine Qdo (use := none) hc S T hi blk hs I h fun l C H' s' I' q c => ?_
 obtain ⟨m, hn⟩ := c.ns
 exact ⟨m, hn, fun h' hs' => ⟨.ref l, H', c.go I' hs', rfl, q⟩⟩
theorem Qdq {elt target iter : Expr} {ifs : List Expr} {pos pos' spos : Pos} {n i : Nat} {ix : List Nat} {wi : TI} {g : TG} {tt : TT} {te : TE} {x : Str}
  (hN : X.N.Nodup) (hi' : X.N[i]? = some x) (hx : L2.Loc X.env.scope x) (hf : X.fn x = true ∨ X.env.scope.names.lookup x = some .local)
  (hc : X.calm = true) (S : CompScope X scope) (T : CompNames X scope N n ix) (hi : PI X target iter wi)
  (blk : ∀ (fp : List Addr) (s : Shared) (H : Hp), PG (cxC X N scope fp s H) target g ∧ PIfs (cxC X N scope fp s H) ifs tt ∧ PE (cxC X N scope fp s H) elt te)
  (hsw : swapsWith (.ListComp elt [⟨target, iter, ifs, 0⟩] scope pos) (some (.Name x pos')) spos.line X.env = pure true)
  (hs : ∀ x, foldedSetIterable iter X.env x = pure x := by intro _; rfl) : PS X (.Assign [.Name x pos'] (.ListComp elt [⟨target, iter, ifs, 0⟩] scope pos) spos) (tAsg (tComp wi n ix g tt te) (gName i)) := by
 intro pins s σ H D I h
 rw [exec_Assign_Name_used _ _ _ _ hsw]
 refine wpAny_bind (wpAny_standAt (wpAny_bind ?_))
 show wpAny _ _ (comprehension (.ListComp elt [⟨target, iter, ifs, 0⟩] scope pos) scope X.env _ (newList []) false (eval iter X.env) (some (assign (.Name x pos') X.env)) >>= fun _ => pure ()) _ _ s
 refine wpAny_bind (wpAny_mono (Qdo (use := some (assign (.Name x pos') X.env)) (Q := fun _ s' => SP X pins D .next s') hc S T hi blk hs I h fun l C H' s' I' q c => ?_) (fun _ s' hq => wpAny_pure (wpAny_pure hq)) fun _ _ e => e)
 obtain ⟨m, hn⟩ := c.ns
 refine wpAny_assign_Name (Qat I' hN hi' hx (v := .ref l) rfl (fun s2 I2 ⟨b, hb, hb2⟩ => ?_) hf)
 have hbC : b ≠ C := by
  rcases hb2 with z | z
  ·rw [z]; exact c.loc.symm
  ·exact c.cell x b z
 refine ⟨m, hn.sameBut hb hbC.symm, fun h' hs' => ⟨_, H', ?_, q⟩⟩
 exact CFree.go ⟨⟨m, hn.sameBut hb hbC.symm⟩, c.free, c.loc, c.cell, c.sz, c.pin⟩ I2 hs'
end
end MM
namespace MM
open PySem PySem.Spec PyProof.Rows L2
section
variable {X : Cx} {a b c e : Expr} {es : List Expr} {pos : Pos} {fa fb fc : CE} {ca cb : CA} {K : PySem.W.Frag} {ρ : List Addr} {H : Hp} {st : Sto}
theorem Qdr {K : PySem.W.Frag} {g : D → D → M D} {x y : V} {H : Hp} {Q : VK} (hg : ∀ d e, (∃ i j, d = D.int i ∧ e = D.int j) ∨ g d e = bad) (h : rOf K g x y H Q) :
  ∃ (i j : Int) (ρ : List Addr) (st : Sto), x = .int i ∧ y = .int j ∧ SR K ρ H st ∧ Post K ρ H (g (.int i) (.int j) st) (fun r _ ρ' H' => ∀ v, Rep K ρ' H' v r → Q v H') := by
 obtain ⟨ρ, st, d, e, sr, rx, ry, p⟩ := h
 rcases hg d e with ⟨i, j, e1, e2⟩ | hb
 ·subst e1 e2; cases rx; cases ry; exact ⟨_, _, ρ, st, rfl, rfl, sr, p⟩
 ·rw [hb] at p; exact p.elim
theorem Qds : OpR X (binaryOp .Mult) (rOf X.K mulD) := Qa4.of fun x y H Q h => by
 obtain ⟨i, j, ρ, st, rfl, rfl, sr, p⟩ := Qdr (by intro d e; cases d <;> cases e <;> first | exact .inl ⟨_, _, rfl, rfl⟩ | exact .inr rfl) h
 exact ⟨_, _, rfl, rfl, p.chk.1, p.chk.2.ret sr _ (.int _)⟩
theorem Qdt : OpR X (binaryOp .FloorDiv) (rOf X.K fdivD) := Qa5.of fun x y H Q h => by
 obtain ⟨i, j, ρ, st, rfl, rfl, sr, p⟩ := Qdr (by intro d e; cases d <;> cases e <;> first | exact .inl ⟨_, _, rfl, rfl⟩ | exact .inr rfl) h
 exact ⟨_, _, rfl, rfl, p.chk.1, p.chk.2.ret sr _ (.int _)⟩
theorem Qdu : OpR X (binaryOp .Mod) (rOf X.K modD) := Qa6.of fun x y H Q h => by
 obtain ⟨i, j, ρ, st, rfl, rfl, sr, p⟩ := Qdr (by intro d e; cases d <;> cases e <;> first | exact .inl ⟨_, _, rfl, rfl⟩ | exact .inr rfl) h
 exact ⟨_, _, rfl, rfl, p.chk.1, p.chk.2.ret sr _ (.int _)⟩
theorem Qdv : OpR X (binaryOp .Pow) (rOf X.K powD) := Qa7.of fun x y H Q h => by
 obtain ⟨i, j, ρ, st, rfl, rfl, sr, p⟩ := Qdr (by intro d e; cases d <;> cases e <;> first | exact .inl ⟨_, _, rfl, rfl⟩ | exact .inr rfl) h
 exact ⟨_, _, rfl, rfl, p.chk.1, p.chk.2.ret sr _ (.int _)⟩
theorem Qdw : OpR X (compareOp .Lt) (rOf X.K ltD) := Qa8.of fun x y H Q h => by
 obtain ⟨i, j, ρ, st, rfl, rfl, sr, p⟩ := Qdr (by intro d e; cases d <;> cases e <;> first | exact .inl ⟨_, _, rfl, rfl⟩ | exact .inr rfl) h
 exact ⟨_, _, rfl, rfl, p.ret sr _ (.bl _)⟩
theorem Qdx : OpR X (compareOp .Gt) (rOf X.K gtD) := Qa9.of fun x y H Q h => by
 obtain ⟨i, j, ρ, st, rfl, rfl, sr, p⟩ := Qdr (by intro d e; cases d <;> cases e <;> first | exact .inl ⟨_, _, rfl, rfl⟩ | exact .inr rfl) h
 exact ⟨_, _, rfl, rfl, p.ret sr _ (.bl _)⟩
theorem Qdy : OpR X (compareOp .GtE) (rOf X.K geD) := Qba.of fun x y H Q h => by
 obtain ⟨i, j, ρ, st, rfl, rfl, sr, p⟩ := Qdr (by intro d e; cases d <;> cases e <;> first | exact .inl ⟨_, _, rfl, rfl⟩ | exact .inr rfl) h
 exact ⟨_, _, rfl, rfl, p.ret sr _ (.bl _)⟩
theorem Qdz : SA X [] cNil := Qbs.of fun σ H Q h_ => h_.el fun ρ l st lr sr p => p.ret sr [] .nil
theorem QdA (ha : SE X e fa) (hr : SA X es ca) (hs : starEach (e :: es) X.env = (false, eval e X.env) :: starEach es X.env := by rfl) : SA X (e :: es) (cCons fa ca) :=
 (Qbt ha hr hs).of fun σ H Q h_ => h_.el fun ρ l st lr sr p => ⟨ρ, l, st, lr, sr, p.bnd.imp fun d st1 ρ1 H1 x1 s1 p1 v rv => ⟨ρ1, l, st1, lr.mono x1, s1, p1.bnd.imp fun ds st2 ρ2 H2 x2 s2 p2 vs rvs => p2.ret s2 _ (.cons (rv.mono x2) rvs)⟩⟩
theorem QdB {k : Nat} (h : SA X es ca) : SE X (.Tuple es k pos) (cTup ca) := (Qbu h).of fun σ H Q h_ => h_.el fun ρ l st lr sr p => ⟨ρ, l, st, lr, sr, p.bnd.imp fun ds st1 ρ1 H1 x1 s1 p1 vs rvs => by
 obtain ⟨hl, p2⟩ := p1.chk
 refine ⟨by rw [rvs.length]; exact hl, fun q hq => ?_⟩
 exact p2 ρ1 _ (Ex.new hq) (s1.new hq) _ (.tup (SqT.of Qai) (rvs.mono (Ex.new hq)))⟩
theorem QdC (h : SA X es ca) : SL X (.List es pos) (aDisp ca) := (Qbv h).of fun σ H Q h_ => h_.el fun ρ l st lr sr p => ⟨ρ, l, st, lr, sr, p.bnd.imp fun ds st1 ρ1 H1 x1 s1 p1 vs rvs => by
 obtain ⟨hl, p2⟩ := p1.chk
 refine ⟨by rw [rvs.length]; exact hl, fun q hq => ?_⟩
 have hn : H q = none := by
  cases z : H q with
  | none => rfl
  | some o => exact absurd hq (x1.trk q o z)
 exact p2 ρ1 _ (Ex.new hq) (s1.new hq) q vs hn (s1.fresh hq) Qai (rvs.mono (Ex.new hq))⟩
theorem Post.bnd0 {α β : Type} {m : M α} {f : α → M β} {R : β → Sto → List Addr → Hp → Prop} (h : Post K ρ H (MM.bnd m f st) R) : Post K ρ H (m st) fun a st' _ _ => Post K ρ H (f a st') R := by
 unfold MM.bnd at h
 cases e : m st with
 | ok a s' =>
  rw [e] at h
  exact fun ρ' H' y s => h
 | exc _ _ => rw [e] at h; exact h
 | bad => rw [e] at h; exact h
theorem QdD (h : SL X e ca) : SE X e (cKeep ca) := h.of fun σ H Q h_ => h_.el fun ρ l st lr sr p => ⟨ρ, l, st, lr, sr, p.bnd0.imp fun ds st1 ρ1 H1 x1 s1 p1 a vs ha na hv rvs => by
 have x : Ex ρ H (ρ1 ++ [a]) H1 := by
  obtain ⟨τ, e, f⟩ := x1.pre
  refine ⟨⟨τ ++ [a], by rw [e, List.append_assoc], fun b hb => ?_⟩, x1.fix, x1.oth, x1.knd⟩
  rcases List.mem_append.mp hb with hb | hb
  ·exact f b hb
  ·rw [List.mem_singleton] at hb; rw [hb]; exact ha
 refine p1 (ρ1 ++ [a]) H1 x (s1.keep hv na rvs) _ (.ref ⟨_, hv, rfl⟩ ?_)
 rw [← s1.len]; simp⟩
theorem _root_.L2.IxR.of {r r' : R2} (h : IxR X r) (g : ∀ x y H Q, r' x y H Q → r x y H Q) : IxR X r' := fun value slice pins s σ H x y v u Q I rx ry q hs => h value slice pins s σ H x y v u Q I rx ry (g x y H Q q) hs
theorem Post.item {ds : List D} {i : Int} {R : D → Sto → List Addr → Hp → Prop} (h : Post K ρ H (itemD ds i st) R) (s : SR K ρ H st) : ∃ k d, L2.ixN ds.length i = some k ∧ ds[k]? = some d ∧ R d st ρ H := by
 unfold itemD at h
 cases e : MM.ixN ds.length i with
 | none => rw [e] at h; exact h.elim
 | some k =>
  rw [e] at h
  cases e2 : ds[k]? with
  | none => dsimp only at h; rw [e2] at h; exact h.elim
  | some d => dsimp only at h; rw [e2] at h; exact ⟨k, d, e, e2, h.ret s⟩
theorem QdE {vs : List V} {ds : List D} {i : Int} {k : Nat} {d : D} (r : Reps K ρ H vs ds) (h1 : L2.ixN ds.length i = some k) (h2 : ds[k]? = some d) : ∃ v, atI vs i = some v ∧ Rep K ρ H v d := by
 obtain ⟨v, e, rv⟩ := r.get h2
 refine ⟨v, ?_, rv⟩
 unfold atI
 rw [r.length, h1]
 exact e
theorem Post.itemK {n : Nat} {k : D} {R : D → Sto → List Addr → Hp → Prop} (h : Post K ρ H (MM.itemK n k st) R) (s : SR K ρ H st) : ∃ b kvs d, st[n]? = some (.dct b kvs) ∧ kOk b k = true ∧ lkK kvs k = some d ∧ R d st ρ H := by
 obtain ⟨b, kvs, e, p1⟩ := Post.getDc (Post.bnd h) s
 obtain ⟨hk, p2⟩ := Post.chk p1
 cases e2 : lkK kvs k with
 | none => dsimp only at p2; rw [e2] at p2; exact p2.elim
 | some d => dsimp only at p2; rw [e2] at p2; exact ⟨b, kvs, d, e, hk, e2, p2.ret s⟩
theorem ObR.dictIs {X : Cx} {pins : List (Addr × Obj)} {σ : St} {s : Shared} {a : Addr} {b : Bool} {kvs : List (D × D)} (I : Inv X pins σ H s) (g : ObR X.K ρ H a (.dct b kvs)) : s.TypeIs (.ref a) "dict" := by
 cases b with
 | false =>
  obtain ⟨es, e, r⟩ := g
  obtain ⟨_, _, vs, _, dd⟩ := Qco I.hok e
  exact dd.typeIs
 | true =>
  obtain ⟨es, e, r⟩ := g
  obtain ⟨_, _, xs, _, dd⟩ := Qc0 I e r
  exact dd.typeIs
theorem QdF (hu : X.A.units + 60 < cLine) : IxR X (fun x y H Q => ∃ (ρ : List Addr) (st : Sto) (n : Nat) (a : Addr) (b : Bool) (kvs : List (D × D)) (k d : D), x = .ref a ∧ SR X.K ρ H st ∧ ρ[n]? = some a ∧ st[n]? = some (.dct b kvs) ∧ Rep X.K ρ H y k ∧ kOk b k = true ∧ lkK kvs k = some d ∧ ∀ v, Rep X.K ρ H v d → Q v H) := by
 intro value slice pins s σ H x y v u Q I rx ry pq104 hs; obtain ⟨ρ, st, n, a, b, kvs, k, d, ex, sr, ha, hn, rk, hk, hl, q⟩ := pq104
 subst ex
 cases rx
 have g := sr.ob n a _ ha hn
 exact tail_any (ObR.dictIs I g) PySem.F.slot_dict_getitem.lookup (Qc4 (by ac_nf) I g rk hk hl ry fun v w' s' I' rv rw' => ⟨v, H, I', rw', q v rv⟩) hs
theorem QdG {x y : V} {d e : D} {Q : VK} (sr : SR K ρ H st) (rx : Rep K ρ H x d) (ry : Rep K ρ H y e) (hd : ∀ n, d ≠ .dic n) (p : Post K ρ H (subsD d e st) fun r _ ρ' H' => ∀ v, Rep K ρ' H' v r → Q v H') : rIx K x y H Q := by
 cases ry with
 | int i =>
  cases rx with
  | dic _ _ => exact absurd rfl (hd _)
  | tup h r =>
   obtain ⟨k, d, h1, h2, q⟩ := Post.item p sr
   obtain ⟨v, h3, rv⟩ := QdE r h1 h2
   exact .inr (.inl ⟨_, _, i, v, rfl, rfl, h, h3, q v rv⟩)
  | lit h r =>
   obtain ⟨k, d, h1, h2, q⟩ := Post.item p sr
   obtain ⟨v, h3, rv⟩ := QdE r h1 h2
   exact .inl ⟨_, _, i, v, rfl, rfl, h.seq, h3, q v rv⟩
  | ref _ h =>
   obtain ⟨xs, e, p1⟩ := Post.getL (Post.bnd p) sr
   obtain ⟨a, vs, ha, hv, r⟩ := sr.seq e
   rw [h] at ha; cases ha
   obtain ⟨k, d, h1, h2, q⟩ := Post.item p1 sr
   obtain ⟨v, h3, rv⟩ := QdE r h1 h2
   exact .inl ⟨_, _, i, v, rfl, rfl, SqL.of hv, h3, q v rv⟩
  | str z =>
   obtain ⟨hz, p1⟩ := Post.chk p
   cases e : MM.ixN z.length i with
   | none => rw [e] at p1; exact p1.elim
   | some k =>
    rw [e] at p1
    cases e2 : z.cps.toList[k]? with
    | none => dsimp only at p1; rw [e2] at p1; exact p1.elim
    | some c =>
     dsimp only at p1
     rw [e2] at p1
     refine .inr (.inr ⟨z, i, c, rfl, rfl, hz, ?_, p1.ret sr _ (.str _)⟩)
     unfold atI
     rw [show z.cps.toList.length = z.length by simp [Str.length]]
     show (L2.ixN z.length i).bind _ = _
     rw [show L2.ixN z.length i = some k from e]
     exact e2
  | _ => exact p.elim
 | _ => cases rx <;> first | exact absurd rfl (hd _) | exact p.elim
theorem ixd (hu : X.A.units + 60 < cLine) : IxR X (rOf X.K subsD) := (QbT.or (QdF hu)).of fun x y H Q pq52 => by
 obtain ⟨ρ, st, d, e, sr, rx, ry, p⟩ := pq52
 by_cases hd : ∃ n, d = .dic n
 ·obtain ⟨n, rfl⟩ := hd
  cases rx with
  | @dic a n _ h =>
   have p' : Post X.K ρ H (itemK n e st) fun r _ ρ' H' => ∀ (v : V), Rep X.K ρ' H' v r → Q v H' := by cases ry <;> exact p
   obtain ⟨b, kvs, d, e1, hk, hl, q⟩ := Post.itemK p' sr
   exact .inr ⟨ρ, st, n, a, b, kvs, e, d, rfl, sr, h, e1, ry, hk, hl, q⟩
 ·exact .inl (QdG sr rx ry (fun n z => hd ⟨n, z⟩) p)
theorem QdH (hu : X.A.units + 60 < cLine) (ha : SE X a fa) (hb : SE X b fb) (hs : PlainIx b) : SE X (.Subscript a b pos) (c2 subsD fa fb) := (QbP (ixd hu) ha hb hs).of (QcJ fun _ _ _ _ h => h)
theorem QdI (ha : SL X a ca) (hb : SE X b fb) (hs : PlainIx b) : SE X (.Subscript a b pos) (cTmpSub ca fb) := (QbP QbQ ha hb hs).of fun σ H Q h_ => h_.el fun ρ l st lr sr p =>
 ⟨ρ, l, st, lr, sr, p.bnd.imp fun ds st1 ρ1 H1 x1 s1 p1 a vs ha na hv rvs => ⟨ρ1, l, st1, lr.mono x1, s1, p1.bnd.imp fun e st2 ρ2 H2 x2 s2 p2 u ru => by
  cases ru with
  | int i =>
   obtain ⟨k, d, h1, h2, q⟩ := Post.item p2 s2
   obtain ⟨v, h3, rv⟩ := QdE (rvs.mono x2) h1 h2
   exact ⟨a, vs, i, v, rfl, rfl, SqL.of (x2.lst a vs na hv), h3, q v rv⟩
  | _ => exact p2.elim⟩⟩
theorem QdJ {CX : CXT} {k n : Nat} {f : Addr} {fd : FuncData} {ps : List Str} {g : List D → M D} {x : Str} {p : Pos} (F : FnOk X.prog X.w X.K X.mg X.base CX k f fd ps (spOf X.K n g)) (hr : Room k X.A) (hg : Gl X x) (hm : X.mg x = some (.ref f))
  (hk : PySem.W.keepIn X.K (.ref f) = true) (hb : Binds X.K fd ps []) (hx : Passes CX X E0) (ha : SA X (e :: es) ca) (hn : ∀ l st ds st', ca l st = .ok ds st' → ds.length = n) (hdb : (x == ("__debug__" : Str)) = false := by decide)
  (he : starEach (e :: es) X.env = (false, eval e X.env) :: starEach es X.env := by rfl) (hpl : (backTo pos (starEach es X.env)).any (·.1) = false := by rfl) : SE X (.Call (.Name x p) (e :: es) [] pos) (cCall g ca) :=
 (Qbx F hr hg hm hk hb .nil hx ha hdb he hpl).of fun σ H Q h_ => h_.el fun ρ l st lr sr p => ⟨ρ, l, st, lr, sr, by
  have q := Post.bnd p
  cases ec : ca l st with
  | bad => rw [ec] at q; exact q
  | exc _ _ => rw [ec] at q; exact q
  | ok ds st1 =>
   rw [ec] at q
   intro ρ1 H1 x1 s1 vs rvs
   refine ⟨by rw [List.append_nil, rvs.length]; exact hn l st ds st1 ec, ρ1, st1, ds, s1, by rw [List.append_nil]; exact rvs, q ρ1 H1 x1 s1⟩⟩
variable {ta tb : CT}
theorem QdK {d : D} {v : V} {R : Bool → Sto → List Addr → Hp → Prop} (p : Post K ρ H (truD d st) R) (sr : SR K ρ H st) (rv : Rep K ρ H v d) : ∃ k, TruV K v H k ∧ R k st ρ H := by
 cases rv with
 | non => exact ⟨false, rfl, p.ret sr⟩
 | bl b => exact ⟨b, rfl, p.ret sr⟩
 | int i => exact ⟨_, rfl, p.ret sr⟩
 | str x => exact ⟨_, ⟨(Post.chk p).1, rfl⟩, (Post.chk p).2.ret sr⟩
 | @tup a vs ds h r =>
  refine ⟨!vs.isEmpty, .inr (.inl ⟨vs, h, rfl⟩), ?_⟩
  have : vs.isEmpty = ds.isEmpty := by
   have := r.length
   cases vs <;> cases ds <;> simp_all
  rw [this]; exact p.ret sr
 | @lit a vs ds h r =>
  refine ⟨!vs.isEmpty, .inl ⟨vs, h.seq, rfl⟩, ?_⟩
  have : vs.isEmpty = ds.isEmpty := by
   have := r.length
   cases vs <;> cases ds <;> simp_all
  rw [this]; exact p.ret sr
 | ref _ h =>
  obtain ⟨ds, e, p1⟩ := Post.getL (Post.bnd p) sr
  obtain ⟨a, vs, ha, hv, r⟩ := sr.seq e
  rw [h] at ha; cases ha
  refine ⟨!vs.isEmpty, .inl ⟨vs, SqL.of hv, rfl⟩, ?_⟩
  have : vs.isEmpty = ds.isEmpty := by
   have := r.length
   cases vs <;> cases ds <;> simp_all
  rw [this]; exact p1.ret sr
 | dic _ _ => exact p.elim
theorem QdL (ha : SE X a fa) (he : ∀ whole, isTrue a X.env whole = (do let v ← whole; standAt a.pos; holding [v] (truthy v)) := by intro _; rfl) : ST X a (tVal fa) :=
 (Qbi ha he).of fun σ H Q h_ => h_.el fun ρ l st lr sr p => ⟨ρ, l, st, lr, sr, p.bnd.imp fun d st1 ρ1 H1 x1 s1 p1 v rv => QdK p1 s1 rv⟩
theorem QdM {op : CmpOp} {g : D → D → M D} (ho : OpR X (compareOp op) (rOf X.K g)) (ha : SE X a fa) (hb : SE X b fb) (hm : behindInMarks op b = false) : ST X (.Compare a [op] [b] pos) (tCmpB (c2 g fa fb)) :=
 (Qbd ho ha hb hm).of fun σ H Q h_ => h_.el fun ρ l st lr sr p => QcJ (X := X) (fun _ _ _ _ h => h) _ _ _ ⟨ρ, l, st, lr, sr, p.bnd.imp fun d st1 ρ1 H1 x1 s1 p1 v rv => by
  cases rv with
  | bl k => exact ⟨k, rfl, p1.ret s1⟩
  | _ => exact p1.elim⟩
theorem QdN (ha : ST X a ta) : PW X (.BoolOp .Or [a] pos) (ttOf X.K ta) := QaB ha
theorem _root_.L2.PW.of {e : Expr} {t t' : TT} (h : PW X e t) (f : ∀ σ H Q, t' σ H Q → t σ H Q) : PW X e t' := fun whole pins s σ H Q I q => h whole pins s σ H Q I (f σ H Q q)
theorem QdO {rest : List Expr} (ha : ST X a ta) (hb : PW X (.BoolOp .Or (b :: rest) pos) (ttOf X.K tb)) : PW X (.BoolOp .Or (a :: b :: rest) pos) (ttOf X.K (tOrB ta tb)) :=
 (QaC ha hb).of fun σ H Q h_ => h_.el fun ρ l st lr sr p => ⟨ρ, l, st, lr, sr, p.bnd.imp fun c st1 ρ1 H1 x1 s1 p1 => by
  cases c with
  | true => exact p1.ret s1
  | false => exact ⟨ρ1, l, st1, lr.mono x1, s1, p1⟩⟩
theorem QdP (ha : ST X a ta) : ST X (.UnaryOp .Not a pos) (tNotB ta) := (QaD ha).of fun σ H Q h_ => h_.el fun ρ l st lr sr p => ⟨ρ, l, st, lr, sr, p.bnd.imp fun c st1 ρ1 H1 x1 s1 p1 => p1.ret s1⟩
theorem QdQ {op : BoolOp} (h : SE X a fa) : SE X (.BoolOp op [a] pos) fa := QaE h
theorem QdR {rest : List Expr} (ha : SE X a fa) (hb : SE X (.BoolOp .And (b :: rest) pos) fb) : SE X (.BoolOp .And (a :: b :: rest) pos) (cAnd fa fb) :=
 (QaF ha hb).of fun σ H Q h_ => h_.el fun ρ l st lr sr p => ⟨ρ, l, st, lr, sr, p.bnd.imp fun d st1 ρ1 H1 x1 s1 p1 v rv => by
  cases rv with
  | bl c =>
   refine ⟨c, rfl, ?_⟩
   cases c with
   | true => exact ⟨ρ1, l, st1, lr.mono x1, s1, p1⟩
   | false => exact p1.ret s1 _ (.bl false)
  | _ => exact p1.elim⟩
theorem QdS {rest : List Expr} (ha : SE X a fa) (hb : SE X (.BoolOp .Or (b :: rest) pos) fb) : SE X (.BoolOp .Or (a :: b :: rest) pos) (cOr fa fb) :=
 (QaG ha hb).of fun σ H Q h_ => h_.el fun ρ l st lr sr p => ⟨ρ, l, st, lr, sr, p.bnd.imp fun d st1 ρ1 H1 x1 s1 p1 v rv => by
  cases rv with
  | bl c =>
   refine ⟨c, rfl, ?_⟩
   cases c with
   | true => exact p1.ret s1 _ (.bl true)
   | false => exact ⟨ρ1, l, st1, lr.mono x1, s1, p1⟩
  | _ => exact p1.elim⟩
end
end MM
namespace MM
open PySem PySem.Spec PyProof.Rows L2
theorem LR.set {K : PySem.W.Frag} {ρ : List Addr} {H : Hp} {σ : St} {l : Loc} {v : V} {d : D} (h : LR K ρ H σ l) (i : Nat) (r : Rep K ρ H v d) : LR K ρ H (σ.set i (some v)) (l.set i (some d)) := by
 refine ⟨by simp [h.1], fun j e q => ?_⟩
 by_cases z : i = j
 ·subst z
  by_cases hl : i < l.length
  ·rw [List.getElem?_set_self hl] at q
   cases q
   exact ⟨v, by rw [List.getElem?_set_self (by rw [h.1]; exact hl)], r⟩
  ·rw [List.getElem?_eq_none (by simp; ac_nf)] at q; cases q
 ·rw [List.getElem?_set_ne z] at q
  obtain ⟨w, e1, r1⟩ := h.2 j e q
  exact ⟨w, by rw [List.getElem?_set_ne z]; exact e1, r1⟩
theorem LR.start {K : PySem.W.Frag} {ρ : List Addr} {H : Hp} {N : List Str} {vs : List V} {ds : List D} (r : Reps K ρ H vs ds) : LR K ρ H (L2.start N vs) (ds.map some ++ List.replicate (N.length - ds.length) none) := by
 have hl := r.length
 unfold L2.start
 refine ⟨by simp [hl], fun i d e => ?_⟩
 by_cases hi : i < ds.length
 ·rw [List.getElem?_append_left (by simpa using hi), List.getElem?_map] at e
  cases q : ds[i]? with
  | none => rw [q] at e; cases e
  | some d' =>
   rw [q] at e
   have e' : d' = d := Option.some.inj (Option.some.inj e)
   subst e'
   obtain ⟨v, hv, rv⟩ := r.get q
   refine ⟨v, ?_, rv⟩
   rw [List.getElem?_append_left (by simp; ac_nf), List.getElem?_map, hv]; rfl
 ·rw [List.getElem?_append_right (by simpa using hi), List.getElem?_replicate] at e
  split at e <;> cases e
section
variable {X : Cx} {a b c e tg : Expr} {es : List Expr} {s : Stmt} {ss : List Stmt} {pos : Pos} {fa fb fc : CE} {ca cb : CA} {ta tb : CT} {cs cr : CS} {K : PySem.W.Frag} {ρ : List Addr} {H : Hp} {st : Sto}
abbrev SG (X : Cx) (e : Expr) (g : CG) : Prop := PG X e (tgOf X.K g)
abbrev SGs (X : Cx) (e : List Expr) (g : List D → Loc → M Loc) : Prop := PGs X e (tgsOf X.K g)
theorem QdT {i : Nat} {x : Str} (h : PG X (.Name x pos) (gName i)) : SG X (.Name x pos) (gVar i) := h.of fun v σ H Q pq53 => by obtain ⟨ρ, l, st, d, lr, sr, rv, p⟩ := pq53; exact p.ret sr _ (lr.set i rv)
theorem QdU : SGs X [] gsNil := QaN.of fun vs σ H Q pq54 => by
 obtain ⟨ρ, l, st, ds, lr, sr, rvs, p⟩ := pq54
 cases rvs with
 | nil => exact ⟨rfl, p.ret sr σ lr⟩
 | cons _ _ => exact p.elim
theorem QdV {g : CG} {r : List D → Loc → M Loc} (h1 : SG X e g) (h2 : SGs X es r) (hs : (assignEach (e :: es) X.env).map (·.2) = assign e X.env :: (assignEach es X.env).map (·.2) := by rfl) : SGs X (e :: es) (gsCons g r) :=
 (QaO h1 h2 hs).of fun vs σ H Q pq55 => by
  obtain ⟨ρ, l, st, ds, lr, sr, rvs, p⟩ := pq55
  cases rvs with
  | nil => exact p.elim
  | cons rv rt => exact ⟨_, _, rfl, ρ, l, st, _, lr, sr, rv, (Post.bnd p).imp fun l1 st1 ρ1 H1 x1 s1 p1 σ1 lr1 => ⟨ρ1, l1, st1, _, lr1, s1, rt.mono x1, p1⟩⟩
theorem QdW {k n : Nat} {r : List D → Loc → M Loc} (hc : X.calm = true) (h : SGs X es r) (hn : (assignEach es X.env).length = n := by rfl) (hst : (assignEach es X.env).findIdx? (·.1) = none := by rfl) : SG X (.Tuple es k pos) (gTupD n r) :=
 (QaP hc h hn hst).of fun v σ H Q pq56 => by
  obtain ⟨ρ, l, st, d, lr, sr, rv, p⟩ := pq56
  cases rv with
  | tup h r => exact ⟨_, _, rfl, h, by rw [r.length]; exact (Post.chk p).1, ρ, l, st, _, lr, sr, r, (Post.chk p).2⟩
  | _ => exact p.elim
theorem QdX : SSs X [] sNext := QaH.of fun G σ H h_ => h_.el fun ρ l st lr sr p => p.ret sr σ lr
theorem QdY (h1 : SS X s cs) (h2 : SSs X ss cr) : SSs X (s :: ss) (sSeq cs cr) := (QaI h1 h2).of fun G σ H h_ => h_.el fun ρ l st lr sr p => ⟨ρ, l, st, lr, sr, p.bnd.imp fun f st1 ρ1 H1 x1 s1 p1 => by
 cases f with
 | next l' => exact fun σ' lr' => ⟨ρ1, l', st1, lr', s1, p1⟩
 | ret d => exact p1.ret s1
 | brk l' => exact p1.ret s1
 | cnt l' => exact p1.ret s1⟩
theorem QdZ (h : SE X e fa) : SS X (.Return (some e) pos) (sRet fa) := (QaK h).of fun G σ H h_ => h_.el fun ρ l st lr sr p => ⟨ρ, l, st, lr, sr, p.bnd.imp fun d st1 ρ1 H1 x1 s1 p1 v rv => p1.ret s1 v rv⟩
theorem Qd0 (h : SE X e fa) (hs : swapsWith e none pos.line X.env = pure false := by rfl) : SS X (.Expr e pos) (sExp fa) := (QaJ h hs).of fun G σ H h_ => h_.el fun ρ l st lr sr p =>
 ⟨ρ, l, st, lr, sr, p.bnd.imp fun d st1 ρ1 H1 x1 s1 p1 v rv => p1.ret s1 σ (lr.mono x1)⟩
theorem Qd1 (hc : ST X c ta) (ha : SSs X ss cs) {sr : List Stmt} (hb : SSs X sr cr) : SS X (.If c ss sr pos) (sIf ta cs cr) := (QaL hc ha hb).of fun G σ H h_ => h_.el fun ρ l st lr sr p =>
 ⟨ρ, l, st, lr, sr, p.bnd.imp fun k st1 ρ1 H1 x1 s1 p1 => by
  cases k with
  | true => exact ⟨ρ1, l, st1, lr.mono x1, s1, p1⟩
  | false => exact ⟨ρ1, l, st1, lr.mono x1, s1, p1⟩⟩
theorem Qd2 {g : CG} {te : TE} {tg : TG} (he : ∀ σ H Q, tOf X.K fa σ H Q → te σ H Q) (hg : ∀ v σ H Q, tgOf X.K g v σ H Q → tg v σ H Q) : ∀ G σ H, tsOf X.K (sAsg g fa) G σ H → tAsg te tg G σ H := fun G σ H h_ => h_.el fun ρ l st lr sr p =>
 he _ _ _ ⟨ρ, l, st, lr, sr, p.bnd.imp fun d st1 ρ1 H1 x1 s1 p1 v rv => hg _ _ _ _ ⟨ρ1, l, st1, d, lr.mono x1, s1, rv, p1.bnd.imp fun l2 st2 ρ2 H2 x2 s2 p2 σ2 lr2 => p2.ret s2 σ2 lr2⟩⟩
theorem Qd3 {i : Nat} : ∀ v σ H Q, tgOf X.K (gVar i) v σ H Q → gName i v σ H Q := fun v σ H Q pq57 => by obtain ⟨ρ, l, st, d, lr, sr, rv, p⟩ := pq57; exact p.ret sr _ (lr.set i rv)
theorem Qd4 {i : Nat} {x : Str} {pos' : Pos} (hN : X.N.Nodup) (hi : X.N[i]? = some x) (hx : L2.Loc X.env.scope x) (he : SE X e fa) (hs : swapsWith e (some (.Name x pos')) pos.line X.env = pure false := by rfl)
  (hf : X.fn x = true ∨ X.env.scope.names.lookup x = some .local := by first | exact .inl rfl | exact .inr rfl | assumption) : SS X (.Assign [.Name x pos'] e pos) (sAsg (gVar i) fa) :=
 (QaS hN hi hx he hs hf).of (Qd2 (fun _ _ _ h => h) Qd3)
theorem Qd5 {g : CG} (he : SE X e fa) (hg : SG X tg g) (hs : swapsWithSole [tg] e pos.line X.env = pure false := by rfl) (hw : swappedStores [tg] e X.env = pure none := by rfl)
  (h1 : (assignEach [tg] X.env).map (·.2) = [assign tg X.env] := by rfl) : SS X (.Assign [tg] e pos) (sAsg g fa) := (QaR he hg hs hw h1).of (Qd2 (fun _ _ _ h => h) fun _ _ _ _ h => h)
theorem Post.storeK {n : Nat} {k v : D} {R : Unit → Sto → List Addr → Hp → Prop} (h : Post K ρ H (MM.storeK n k v st) R) (s : SR K ρ H st) : ∃ b kvs, st[n]? = some (.dct b kvs) ∧ kOk b k = true ∧ kvs.length < lim ∧ Post K ρ H (.ok () (st.set n (.dct b (ptK kvs k v)))) R := by
 obtain ⟨b, kvs, e, p1⟩ := Post.getDc (Post.bnd h) s
 obtain ⟨⟨hk, hl⟩, p2⟩ := Post.chk p1
 refine ⟨b, kvs, e, hk, hl, ?_⟩
 unfold putDc at p2
 rw [e] at p2
 simpa using p2
noncomputable def rSetD (X : Cx) : V → V → V → Hp → (Hp → Prop) → Prop := fun o i v H Q => ∃ (ρ : List Addr) (st : Sto) (n : Nat) (a : Addr) (b : Bool) (kvs : List (D × D)) (k d : D), o = .ref a ∧ SR X.K ρ H st ∧ ρ[n]? = some a ∧ st[n]? = some (.dct b kvs) ∧ Rep X.K ρ H i k ∧ kOk b k = true ∧ kvs.length < sizeLine ∧ Rep X.K ρ H v d ∧
 ∀ H', SR X.K ρ H' (st.set n (.dct b (ptK kvs k d))) → Ex ρ H ρ H' → Q H'
theorem Qd6 (hu : X.A.units + 60 < cLine) : PSet X (rSetD X) := by
 intro pins s σ H o i v ov iv u Q I ro ri rv pq105; obtain ⟨ρ, st, n, a, b, kvs, k, d, eo, sr, ha, hn, rk, hk, hl, rd, q⟩ := pq105
 subst eo
 cases ro
 exact Qc5 (by ac_nf) I sr ha hn rk hk hl rd ri rv fun H' s' I' s3 x3 => ⟨H', I', q H' s3 x3⟩
theorem _root_.L2.PSet.or {t t' : TSet} (h : PSet X t) (h' : PSet X t') : PSet X (fun o i v H Q => t o i v H Q ∨ t' o i v H Q) := by
 intro pins s σ H o i v ov iv u Q I ro ri rv q
 rcases q with q | q
 ·exact h pins s σ H o i v ov iv u Q I ro ri rv q
 ·exact h' pins s σ H o i v ov iv u Q I ro ri rv q
theorem Qd7 {to ti : CE} {o i : Expr} (hu : X.A.units + 60 < cLine) (ho : SE X o to) (hi : SE X i ti)
  (ha : ∀ v, assign (.Subscript o i pos) X.env v = (do
   let ov ← holding [v] (eval o X.env)
   let iv ← holding [v, ov] (eval i X.env)
   standAt pos
   holding [v, ov, iv] (setItem ov iv v)
   release [v, ov, iv] []) := by intro _; rfl) : SG X (.Subscript o i pos) (gSubD to ti) :=
 (QaQ ho hi (QbV.or (Qd6 hu)) ha).of fun v σ H Q pq58 => by obtain ⟨ρ, l, st, d, lr, sr, rv, p⟩ := pq58; exact ⟨ρ, l, st, lr, sr, p.bnd.imp fun y st1 ρ1 H1 x1 s1 p1 u ru => ⟨ρ1, l, st1, lr.mono x1, s1, p1.bnd.imp fun z st2 ρ2 H2 x2 s2 p2 w rw' => by
  have ru2 := ru.mono x2
  have rd : Rep X.K ρ2 H2 v d := (rv.mono x1).mono x2
  cases ru2 with
  | ref _ h =>
   cases rw' with
   | int k =>
    obtain ⟨ds, e, p3⟩ := Post.getL (Post.bnd (Post.bnd p2)) s2
    obtain ⟨a, vs, ha, hv, r⟩ := s2.seq e
    rw [h] at ha; cases ha
    cases e2 : MM.ixN ds.length k with
    | none => rw [e2] at p3; exact p3.elim
    | some j =>
     rw [e2] at p3
     have hl := (List.getElem?_eq_some_iff.mp e).1
     obtain ⟨s3, x3⟩ := s2.put hl h hv (r.set j rd)
     refine .inl ⟨_, vs, k, j, rfl, rfl, hv, by rw [r.length]; exact e2, ?_⟩
     have p4 : Post X.K ρ2 H2 (putL _ (ds.set j d) st2) _ := p3
     unfold putL at p4
     rw [e] at p4
     exact (p4 ρ2 _ x3 s3).ret s3 σ (((lr.mono x1).mono x2).mono x3)
   | _ => exact (Post.bnd p2).elim
  | @dic a n _ h =>
   have p' : Post X.K ρ2 H2 (storeK n z d st2) fun a st' ρ' H' => Post X.K ρ' H' (MM.ret l st') fun l' _ ρ' H' => ∀ σ', LR X.K ρ' H' σ' l' → Q σ' H' := by cases rw' <;> exact Post.bnd p2
   obtain ⟨b, kvs, e1, hk, hl, q⟩ := Post.storeK p' s2
   exact .inr ⟨ρ2, st2, n, a, b, kvs, z, d, rfl, s2, h, e1, rw', hk, hl, rd, fun H3 s3 x3 => (q ρ2 H3 x3 s3).ret s3 σ (((lr.mono x1).mono x2).mono x3)⟩
  | _ => exact (Post.bnd p2).elim⟩⟩
theorem Qd8 {P : Program} {w : World} {K : PySem.W.Frag} {mg : Str → Option Value} {base : Heap} {x qual : Str} {sd : Stmt} {f : Addr} {fd : FuncData} {N ps : List Str} {k : Nat} {body : CS} (F : Fun K x qual sd f fd) (S : FnScope N ps (defScope sd))
  (hbody : ∀ (cdv : Value) (A : Around) (outer : List Env) (s : Shared) (H : Hp) (E : XK), Room k (A.deeper (envOfC qual (defScope sd) s.heap.objs.size f cdv)) → SSs (cxOf CX0 P w K mg base N qual (defScope sd) f cdv A outer s H E).nox (defBody sd) body) :
  FnOk P w K mg base CX0 (k + 1) f fd ps (spOf K ps.length (runDef N.length body)) := by
 refine F.ok S (fun vs H Q E h => h.1) (fun cdv A outer s H vs Q E hr h => ⟨_, hbody cdv A outer s H E hr, ?_⟩)
 obtain ⟨hl, ρ, st, ds, sr, rvs, p⟩ := h
 refine ⟨ρ, _, st, LR.start rvs, sr, ?_⟩
 unfold runDef at p
 exact p.bnd.imp fun f st1 ρ1 H1 x1 s1 p1 => by
  cases f with
  | next l => exact fun σ' _ => p1.ret s1 _ .non
  | ret d => exact fun v rv => p1.ret s1 v rv
  | brk l => exact p1.elim
  | cnt l => exact p1.elim
def ItR (K : PySem.W.Frag) (ρ0 : List Addr) (H0 : Hp) (w : Wk) (J : It) : Prop := ∀ ρ H st, Ex ρ0 H0 ρ H → SR K ρ H st → w.same st → J.stop w.ds.length H ∧ ∀ (i : Nat) (d : D), w.ds[i]? = some d → J.go i H ∧ ∀ x H', J.yld i H x H' → Ex ρ H ρ H' ∧ SR K ρ H' st ∧ Rep K ρ H' x d
noncomputable def tiOf (K : PySem.W.Frag) (f : CI) : TI := fun σ H R => ∃ ρ l st, LR K ρ H σ l ∧ SR K ρ H st ∧ Post K ρ H (f l st) fun w _ ρ' H' => ∀ J, ItR K ρ' H' w J → R J H'
abbrev SI (X : Cx) (tg e : Expr) (f : CI) : Prop := PI X tg e (tiOf X.K f)
theorem _root_.L2.PI.of {tg e : Expr} {t t' : TI} (h : PI X tg e t) (f : ∀ σ H R, t' σ H R → t σ H R) : PI X tg e t' := fun pins s σ H R I q => h pins s σ H R I (f σ H R q)
theorem Qd9 {ρ0 : List Addr} {H0 : Hp} {ds : List D} {p : Sto → Prop} {a : Addr} (h : ∀ ρ H st, Ex ρ0 H0 ρ H → SR K ρ H st → p st → ∃ vs, SqL K H a vs ∧ Reps K ρ H vs ds) : ItR K ρ0 H0 ⟨ds, p⟩ (Itl K a) := fun ρ H st x s q => by
 obtain ⟨vs, hv, r⟩ := h ρ H st x s q
 refine ⟨⟨vs, hv, by rw [r.length]; exact Nat.le_refl _⟩, fun i d e => ?_⟩
 obtain ⟨v, e1, rv⟩ := r.get e
 refine ⟨⟨vs, v, hv, e1⟩, fun y H' pq59 => ?_⟩
 obtain ⟨e2, e3⟩ := pq59
 subst e2
 have := e3 vs hv
 rw [e1] at this; cases this
 exact ⟨Ex.refl, s, rv⟩
theorem Qea {ρ0 : List Addr} {H0 : Hp} {ds : List D} {p : Sto → Prop} {a : Addr} (h : ∀ ρ H st, Ex ρ0 H0 ρ H → SR K ρ H st → p st → ∃ vs, SqT K H a vs ∧ Reps K ρ H vs ds) : ItR K ρ0 H0 ⟨ds, p⟩ (Itt K a) := fun ρ H st x s q => by
 obtain ⟨vs, hv, r⟩ := h ρ H st x s q
 refine ⟨⟨vs, hv, by rw [r.length]; exact Nat.le_refl _⟩, fun i d e => ?_⟩
 obtain ⟨v, e1, rv⟩ := r.get e
 refine ⟨⟨vs, v, hv, e1⟩, fun y H' pq60 => ?_⟩
 obtain ⟨e2, e3⟩ := pq60
 subst e2
 have := e3 vs hv
 rw [e1] at this; cases this
 exact ⟨Ex.refl, s, rv⟩
theorem Qeb {ρ0 : List Addr} {H0 : Hp} {lo : Int} {n : Nat} : ItR K ρ0 H0 ⟨rngD lo n, anySt⟩ (Itr lo n) := fun ρ H st x s _ => by
 refine ⟨by show n ≤ (rngD lo n).length; unfold rngD; simp, fun i d e => ?_⟩
 have hi : i < n := by
  have := (List.getElem?_eq_some_iff.mp e).1
  simpa [rngD] using this
 refine ⟨hi, fun y H' pq61 => ?_⟩
 obtain ⟨e2, e3⟩ := pq61
 subst e2 e3
 have : d = .int (lo + (i : Nat)) := by
  unfold rngD at e
  rw [List.getElem?_map, List.getElem?_range hi] at e
  exact (Option.some.inj e).symm
 subst this
 exact ⟨Ex.refl, s, .int _⟩
theorem Qec {l : Expr} {tl : TE} (hl : PE X l tl) : PI X tg l (fun σ H R => tl σ H fun x H1 => ∃ a, x = .ref a ∧ ((∃ xs, SqL X.K H1 a xs) ∧ R (Itl X.K a) H1 ∨ (∃ xs, SqT X.K H1 a xs) ∧ R (Itt X.K a) H1)) := by
 intro pins s σ H R I h
 refine thn (hl pins s σ H _ I h) fun v s1 pq62 => ?_
 obtain ⟨x, H1, I1, r1, a, e, q⟩ := pq62
 subst e
 cases r1
 rcases q with ⟨⟨xs, hq⟩, q⟩ | ⟨⟨xs, hq⟩, q⟩
 ·obtain ⟨its, rv, p, hz⟩ := I1.list hq
  refine wpAny_pyIter_list p.isList ?_
  refine ⟨s1.heap.objs.size, [s1.heap.objs.size], _, _, H1, rfl, I1.kept (t' := s1.toks) fun b o e => Heap.get?_push_of_some _ e, QaU a _, ⟨_, Heap.get?_push_size _ rfl, rfl, rfl⟩, fun b hb => ?_, q⟩
  have e : b = s1.heap.objs.size := by simpa using hb
  subst e
  exact I1.fpOk (Nat.le_refl _) (I1.hok.fresh (Nat.le_refl _))
 ·obtain ⟨its, rv, p, hz⟩ := I1.tuple hq
  refine wpAny_pyIter_tuple (show s1.heap.IsTuple a its.toArray from p) ?_
  refine ⟨s1.heap.objs.size, [s1.heap.objs.size], _, _, H1, rfl, I1.kept (t' := s1.toks) fun b o e => Heap.get?_push_of_some _ e, QaV a _, ⟨_, Heap.get?_push_size _ rfl, rfl, rfl⟩, fun b hb => ?_, q⟩
  have e : b = s1.heap.objs.size := by simpa using hb
  subst e
  exact I1.fpOk (Nat.le_refl _) (I1.hok.fresh (Nat.le_refl _))
theorem Qed (h : SE X e fa) : SI X tg e (iSeq fa) := (Qec h).of fun σ H R h_ => h_.el fun ρ l st lr sr p => ⟨ρ, l, st, lr, sr, p.bnd.imp fun d st1 ρ1 H1 x1 s1 p1 v rv => by
 cases rv with
 | @tup a vs ds h r => exact ⟨a, rfl, .inr ⟨⟨vs, h⟩, p1.ret s1 _ (Qea fun ρ H st x s _ => ⟨vs, SqT.mono x.up h, r.mono x⟩)⟩⟩
 | @lit a vs ds h r => exact ⟨a, rfl, .inl ⟨⟨vs, h.seq⟩, p1.ret s1 _ (Qd9 fun ρ H st x s _ => ⟨vs, (FzL.mono x.up h).seq, r.mono x⟩)⟩⟩
 | @ref a n _ h =>
  obtain ⟨ds, e, p2⟩ := Post.getL (Post.bnd p1) s1
  obtain ⟨a', vs, ha, hv, r⟩ := s1.seq e
  rw [h] at ha; cases ha
  refine ⟨a, rfl, .inl ⟨⟨vs, SqL.of hv⟩, p2.ret s1 _ (Qd9 fun ρ H st x s q => ?_)⟩⟩
  obtain ⟨a2, ws, ha2, hw, rw'⟩ := s.seq q
  obtain ⟨τ, eτ, _⟩ := x.pre
  rw [eτ, QcD h] at ha2; cases ha2
  exact ⟨ws, SqL.of hw, rw'⟩
 | _ => exact p1.elim⟩
theorem Qee {p : Pos} (hg : Gl X "range") (hm : X.mg "range" = none) (h : SE X a fa) (hs : starEach [a] X.env = [(false, eval a X.env)] := by rfl) : SI X tg (.Call (.Name "range" p) [a] [] pos) (MM.iRng1 fa) :=
 (QaY (tg := tg) (p := p) (pos := pos) hg hm (QdA h Qdz hs) hs).of fun σ H R h_ => h_.el fun ρ l st lr sr p => ⟨ρ, l, st, lr, sr, by
  have q := Post.bnd p
  unfold cCons
  show Post X.K ρ H (bnd (fa l) _ st) _
  unfold MM.bnd
  cases e : fa l st with
  | bad => rw [e] at q; exact q
  | exc _ _ => rw [e] at q; exact q
  | ok d st1 =>
   rw [e] at q
   show ∀ ρ' H', Ex ρ H ρ' H' → SR X.K ρ' H' st1 → _
   intro ρ1 H1 x1 s1 vs rvs
   have p1 := q ρ1 H1 x1 s1
   cases rvs with
   | cons rv rt =>
    cases rt
    cases rv with
    | int j =>
     obtain ⟨⟨h1, h2⟩, p2⟩ := Post.chk p1
     exact ⟨j, rfl, h1, h2, p2.ret s1 _ Qeb⟩
    | _ => exact p1.elim⟩
theorem Post.chkS {p : Sto → Prop} {R : Unit → Sto → List Addr → Hp → Prop} (h : Post K ρ H (MM.chkS p st) R) (s : SR K ρ H st) : p st ∧ R () st ρ H := by
 unfold MM.chkS at h
 by_cases hp : p st
 ·rw [if_pos hp] at h; exact ⟨hp, h ρ H Ex.refl s⟩
 ·rw [if_neg hp] at h; exact h.elim
theorem Qef {iter : Expr} {body : List Stmt} {ci : CI} {g : CG} {cb : CS} (hp : PassesOwn (model X.prog X.w) X.A X.env X.xe) (hc : X.calm = true) (hi : SI X tg iter ci) (hg : SG X tg g) (hb : SSs X body cb)
  (hs : ∀ x, foldedSetIterable iter X.env x = pure x := by intro _; rfl) : SS X (.For tg iter body [] pos) (sFor ci g cb) := (Qa1 hp hc hi hg hb hs).of fun G σ H h_ => h_.el fun ρ l st lr sr p =>
 ⟨ρ, l, st, lr, sr, p.bnd.imp fun w st1 ρ1 H1 x1 s1 p1 J hJ => by
  refine ⟨fun i m σ' H' => m = w.ds.length - i ∧ i ≤ w.ds.length ∧ ∃ ρ' l' st', Ex ρ1 H1 ρ' H' ∧ LR X.K ρ' H' σ' l' ∧ SR X.K ρ' H' st' ∧ Post X.K ρ' H' (forD g cb w.same (w.ds.drop i) l' st') fun f _ ρ' H' => match f with
   | .next l' => ∀ σ', LR X.K ρ' H' σ' l' → G.nx σ' H'
   | .ret d => ∀ v, Rep X.K ρ' H' v d → G.rt v H'
   | .brk l' => ∀ σ', LR X.K ρ' H' σ' l' → G.bk σ' H'
   | .cnt l' => ∀ σ', LR X.K ρ' H' σ' l' → G.ct σ' H', ⟨w.ds.length, by simp, Nat.zero_le _, ρ1, l, st1, Ex.refl, lr.mono x1, s1, p1⟩, ?_⟩
  rintro i m σ2 H2 ⟨rfl, hi, ρ2, l2, st2, x2, lr2, s2, p2⟩
  by_cases hlt : i < w.ds.length
  ·have ed : w.ds.drop i = w.ds[i] :: w.ds.drop (i + 1) := List.drop_eq_getElem_cons hlt
   rw [ed] at p2
   unfold forD at p2
   obtain ⟨sm, p3⟩ := Post.chkS (Post.bnd p2) s2
   obtain ⟨_, go⟩ := hJ ρ2 H2 st2 x2 s2 sm
   obtain ⟨g1, g2⟩ := go i w.ds[i] (List.getElem?_eq_getElem hlt)
   refine .inr ⟨g1, fun σ3 H3 => ∃ ρ3 l3 st3, Ex ρ1 H1 ρ3 H3 ∧ LR X.K ρ3 H3 σ3 l3 ∧ SR X.K ρ3 H3 st3 ∧ Post X.K ρ3 H3 (forD g cb w.same (w.ds.drop (i + 1)) l3 st3) fun f _ ρ' H' => match f with
    | .next l' => ∀ σ', LR X.K ρ' H' σ' l' → G.nx σ' H'
    | .ret d => ∀ v, Rep X.K ρ' H' v d → G.rt v H'
    | .brk l' => ∀ σ', LR X.K ρ' H' σ' l' → G.bk σ' H'
    | .cnt l' => ∀ σ', LR X.K ρ' H' σ' l' → G.ct σ' H', fun σ3 H3 q => ⟨_, by ac_nf, rfl, hlt, q⟩, fun y H3 hy => ?_⟩
   obtain ⟨x3, s3, rv⟩ := g2 y H3 hy
   refine ⟨ρ2, l2, st2, _, lr2.mono x3, s3, rv, (Post.left x3 (Post.bnd p3)).imp fun l4 st4 ρ4 H4 x4 s4 p4 σ4 lr4 => ⟨ρ4, l4, st4, lr4, s4, (Post.bnd p4).imp fun f st5 ρ5 H5 x5 s5 p5 => ?_⟩⟩
   have x5' : Ex ρ1 H1 ρ5 H5 := (x2.trans x3).trans (x4.trans x5)
   cases f with
   | next l5 => exact fun σ5 lr5 => ⟨ρ5, l5, st5, x5', lr5, s5, p5⟩
   | cnt l5 => exact fun σ5 lr5 => ⟨ρ5, l5, st5, x5', lr5, s5, p5⟩
   | brk l5 => exact fun σ5 lr5 => p5.ret s5 σ5 lr5
   | ret d => exact fun v rv => p5.ret s5 v rv
  ·have e : i = w.ds.length := by ac_nf
   subst e
   rw [List.drop_length] at p2
   unfold forD at p2
   obtain ⟨sm, p3⟩ := Post.chkS (Post.bnd p2) s2
   obtain ⟨g1, _⟩ := hJ ρ2 H2 st2 x2 s2 sm
   exact .inl ⟨g1, p3.ret s2 σ2 lr2⟩⟩
end
end MM
namespace MM
open PySem PySem.Spec PyProof.Rows L2
section
variable {X : Cx} {a b c e tg : Expr} {es : List Expr} {pos : Pos} {fa fb fc : CE} {ca cb : CA} {ta tb : CT} {K : PySem.W.Frag} {ρ : List Addr} {H : Hp} {st : Sto} {x : Str} {p : Pos} {id T : String}
theorem Qeg {n : Nat} {ix : List Nat} {σ : St} {l : Loc} (h : LR K ρ H σ l) : LR K ρ H (capV n ix σ) (capt n ix l) := by
 unfold capV capt
 refine ⟨by simp, fun i d e => ?_⟩
 have hi : n ≤ i := Nat.le_of_not_lt fun z => by
  rw [List.getElem?_append_left (by simpa using z), List.getElem?_replicate] at e
  split at e <;> cases e
 rw [List.getElem?_append_right (by simpa using hi), List.length_replicate, List.getElem?_map] at e
 cases q : ix[i - n]? with
 | none => rw [q] at e; cases e
 | some k =>
  rw [q] at e
  have hj : (l[k]?).join = some d := Option.some.inj e
  have hk : l[k]? = some (some d) := by
   cases z : l[k]? with
   | none => rw [z] at hj; cases hj
   | some o => rw [z] at hj; exact congrArg some hj
  obtain ⟨v, hv, rv⟩ := h.2 k d hk
  refine ⟨v, ?_, rv⟩
  rw [List.getElem?_append_right (by simpa using hi), List.length_replicate, List.getElem?_map, q]
  show some ((σ[k]?).join) = some (some v)
  rw [hv]; rfl
abbrev SIfs (X : Cx) (ifs : List Expr) (t : CT) : Prop := PIfs X ifs (ttOf X.K t)
theorem Qeh : SIfs X [] tTrue := fun pins s σ H Q I h_ => h_.el fun ρ l st lr sr p => Qdm pins s σ H Q I (p.ret sr)
theorem Qei (h : ST X c ta) : SIfs X [c] ta := Qdn h
theorem Ex.own {ρ' : List Addr} {H' : Hp} {q : Addr} {ws : List V} (x : Ex ρ H ρ' H') (h : H q = none) : Ex ρ H ρ' (upd H' q (.lst ws)) := by
 have ne : ∀ b o, H b = some o → b ≠ q := fun b o e z => by rw [z, h] at e; cases e
 exact ⟨x.pre, fun b o no e => by rw [Qaj (ne b o e)]; exact x.fix b o no e, fun b xs nb e => by rw [Qaj (ne b _ e)]; exact x.oth b xs nb e, fun b o e => by rw [Qaj (ne b o e)]; exact x.knd b o e⟩
theorem Up.own {ρ' : List Addr} {H' : Hp} {q : Addr} {vs ws : List V} (h : H' q = some (.lst vs)) : Up ρ' H' ρ' (upd H' q (.lst ws)) :=
 ⟨⟨[], by simp⟩, fun b o no e => by rw [Qaj fun z => by subst z; rw [h] at e; cases e; exact nomatch no]; exact e,
  fun b o e => by
   by_cases z : b = q
   ·subst z; rw [h] at e; cases e; exact ⟨_, Qai, rfl⟩
   ·exact ⟨o, by rw [Qaj z]; exact e, rfl⟩⟩
theorem LR.up {ρ' : List Addr} {H' : Hp} {σ : St} {l : Loc} (x : Up ρ H ρ' H') (h : LR K ρ H σ l) : LR K ρ' H' σ l := ⟨h.1, fun i d e => let ⟨v, e1, r⟩ := h.2 i d e; ⟨v, e1, r.up x⟩⟩
theorem SR.own {q : Addr} {vs ws : List V} (s : SR K ρ H st) (h : H q = some (.lst vs)) (nq : q ∉ ρ) : SR K ρ (upd H q (.lst ws)) st :=
 ⟨s.len, s.nd, fun n b o e1 e2 => ObR.mono (o := o) (Up.own h) (s.ob n b o e1 e2) fun us e => by rw [Qaj (fun (z : b = q) => nq (by rw [← z]; exact List.mem_of_getElem? e1))]; exact e⟩
theorem Qej {ci : CI} {g : CG} {n : Nat} {ix : List Nat} : ∀ σ H Q, tlOf K (aComp n ix ci g ta fa) σ H Q → tComp (tiOf K ci) n ix (tgOf K g) (ttOf K ta) (tOf K fa) σ H Q := fun σ H Q h_ => h_.el fun ρ l st lr sr p =>
 ⟨ρ, l, st, lr, sr, p.bnd0.imp fun w st1 ρ1 H1 x1 s1 p1 J hJ q hq => by
  obtain ⟨hz, p2⟩ := Post.chk p1
  have hn : H q = none := by
   cases z : H q with
   | none => rfl
   | some o => exact absurd hq (x1.trk q o z)
  refine ⟨fun i m σ' H' => m = w.ds.length - i ∧ i ≤ w.ds.length ∧ ∃ ρ' l' st' done vs, Ex ρ H ρ' H' ∧ Ex ρ1 H1 ρ' H' ∧ LR K ρ' H' σ' l' ∧ SR K ρ' H' st' ∧ q ∉ ρ' ∧ H' q = some (.lst vs) ∧ Reps K ρ' H' vs done ∧ done.length ≤ i ∧
   Post K ρ H (collect g ta fa w.same (w.ds.drop i) l' st') (fun rest st2 ρ2 H2 => ∀ a ws, H a = none → a ∉ ρ2 → H2 a = some (.lst ws) → Reps K ρ2 H2 ws (done ++ rest) → Q (.ref a) H2),
   ⟨w.ds.length, by simp, Nat.zero_le _, ρ1, capt n ix l, st1, [], [], x1.trans (Ex.new hq), Ex.new hq, Qeg ((lr.mono x1).mono (Ex.new hq)), s1.new hq, s1.fresh hq, Qai, .nil, Nat.zero_le _, p2⟩, ?_⟩
  rintro i m σ2 H2 ⟨rfl, hi, ρ2, l2, st2, done, vs, x2, y2, lr2, s2, nq, hv, rvs, hd, p3⟩
  by_cases hlt : i < w.ds.length
  ·have ed : w.ds.drop i = w.ds[i] :: w.ds.drop (i + 1) := List.drop_eq_getElem_cons hlt
   rw [ed] at p3
   unfold collect at p3
   obtain ⟨sm, p4⟩ := Post.chkS (p3.bnd0.left x2) s2
   obtain ⟨_, go⟩ := hJ ρ2 H2 st2 y2 s2 sm
   obtain ⟨g1, g2⟩ := go i w.ds[i] (List.getElem?_eq_getElem hlt)
   refine .inr ⟨g1, fun y H3 hy => ?_⟩
   obtain ⟨x3, s3, rv⟩ := g2 y H3 hy
   refine ⟨ρ2, l2, st2, _, lr2.mono x3, s3, rv, (p4.bnd0.left (x2.trans x3)).imp fun l4 st4 ρ4 H4 x4 s4 p5 σ4 lr4 => ⟨ρ4, l4, st4, lr4, s4, (p5.bnd0.left (x2.trans (x3.trans x4))).imp fun b st5 ρ5 H5 x5 s5 p6 => ?_⟩⟩
   have y5 : Ex ρ2 H2 ρ5 H5 := x3.trans (x4.trans x5)
   have out : ∀ {ρ' : List Addr} {H' : Hp}, Ex ρ2 H2 ρ' H' → q ∉ ρ' := fun z hm => by
    obtain ⟨τ, e, f⟩ := z.pre
    rw [e] at hm
    rcases List.mem_append.mp hm with hm | hm
    ·exact nq hm
    ·rw [f q hm] at hv; cases hv
   cases b with
   | false => exact ⟨_, by ac_nf, rfl, hlt, ρ5, l4, st5, done, vs, x2.trans y5, y2.trans y5, lr4.mono x5, s5, out y5, y5.lst q vs nq hv, rvs.mono y5, Nat.le_succ_of_le hd, p6⟩
   | true =>
    refine ⟨ρ5, l4, st5, lr4.mono x5, s5, (p6.bnd0.left (x2.trans y5)).imp fun d st6 ρ6 H6 x6 s6 p7 v rv6 => ?_⟩
    have y6 : Ex ρ2 H2 ρ6 H6 := y5.trans x6
    have hv6 := y6.lst q vs nq hv
    have u6 : Up ρ6 H6 ρ6 (upd H6 q (.lst (vs ++ [v]))) := Up.own hv6
    refine ⟨vs, hv6, ?_, _, by ac_nf, rfl, hlt, ρ6, l4, st6, done ++ [d], vs ++ [v], (x2.trans y6).own hn, (y2.trans y6).own hq, LR.up u6 ((lr4.mono x5).mono x6), s6.own hv6 (out y6), out y6, Qai,
     Reps.app ((rvs.mono y6).up u6) (.cons (rv6.up u6) .nil), by simp; ac_nf, ?_⟩
    ·have e1 := rvs.length
     have e2 : w.ds.length ≤ sizeLine := hz
     ac_nf
    ·refine p7.bnd0.imp fun rest st8 ρ8 H8 x8 s8 p8 a ws ha na hw rws => ?_
     exact p8 ρ8 H8 x8 s8 a ws ha na hw (by rw [List.append_cons]; exact rws)
  ·have e : i = w.ds.length := by ac_nf
   subst e
   rw [List.drop_length] at p3
   unfold collect at p3
   obtain ⟨sm, p4⟩ := Post.chkS (p3.bnd0.left x2) s2
   obtain ⟨g1, _⟩ := hJ ρ2 H2 st2 y2 s2 sm
   refine .inl ⟨g1, p4 ρ2 H2 x2 s2 q vs hn nq hv (by rw [List.append_nil]; exact rvs)⟩⟩
theorem Qek {scope : Scope} {N : List Str} {ifs : List Expr} {n : Nat} {ix : List Nat} {ci : CI} {g : CG} (hc : X.calm = true) (S : CompScope X scope) (T : CompNames X scope N n ix) (hi : SI X tg b ci)
  (blk : ∀ (fp : List Addr) (s : Shared) (H : Hp), SG (cxC X N scope fp s H) tg g ∧ SIfs (cxC X N scope fp s H) ifs ta ∧ SE (cxC X N scope fp s H) e fa)
  (hs : ∀ x, foldedSetIterable b X.env x = pure x := by intro _; rfl) : SL X (.ListComp e [⟨tg, b, ifs, 0⟩] scope pos) (aComp n ix ci g ta fa) := (Qdp hc S T hi blk hs).of Qej
theorem Qel {scope : Scope} {N : List Str} {ifs : List Expr} {n i : Nat} {ix : List Nat} {ci : CI} {g : CG} {y : Str} {pos' spos : Pos}
  (hN : X.N.Nodup) (hi' : X.N[i]? = some y) (hy : L2.Loc X.env.scope y) (hf : X.fn y = true ∨ X.env.scope.names.lookup y = some .local)
  (hc : X.calm = true) (S : CompScope X scope) (T : CompNames X scope N n ix) (hi : SI X tg b ci)
  (blk : ∀ (fp : List Addr) (s : Shared) (H : Hp), SG (cxC X N scope fp s H) tg g ∧ SIfs (cxC X N scope fp s H) ifs ta ∧ SE (cxC X N scope fp s H) e fa)
  (hsw : swapsWith (.ListComp e [⟨tg, b, ifs, 0⟩] scope pos) (some (.Name y pos')) spos.line X.env = pure true)
  (hs : ∀ x, foldedSetIterable b X.env x = pure x := by intro _; rfl) : SS X (.Assign [.Name y pos'] (.ListComp e [⟨tg, b, ifs, 0⟩] scope pos) spos) (sAsg (gVar i) (cKeep (aComp n ix ci g ta fa))) :=
 (Qdq hN hi' hy hf hc S T hi blk hsw hs).of (Qd2 (fun σ H Q h_ => h_.el fun ρ l st lr sr p => Qej _ _ _ ⟨ρ, l, st, lr, sr, p.bnd0.imp fun ds st1 ρ1 H1 x1 s1 p1 a vs ha na hv rvs => by
  have x : Ex ρ H (ρ1 ++ [a]) H1 := by
   obtain ⟨τ, e, f⟩ := x1.pre
   refine ⟨⟨τ ++ [a], by rw [e, List.append_assoc], fun b hb => ?_⟩, x1.fix, x1.oth, x1.knd⟩
   rcases List.mem_append.mp hb with hb | hb
   ·exact f b hb
   ·rw [List.mem_singleton] at hb; rw [hb]; exact ha
  refine p1 (ρ1 ++ [a]) H1 x (s1.keep hv na rvs) _ (.ref ⟨_, hv, rfl⟩ ?_)
  rw [← s1.len]; simp⟩) Qd3)
theorem Qem {g : D → M D} (hc : CallR X (.builtin id) (fun xs H Q => ∃ v, xs = [v] ∧ uOf X.K g v H Q)) (hg : Gl X x) (hm : X.mg x = none) (hv : bootBuiltins x = some (.builtin id)) (ha : SE X e fa) (hn : x ≠ "__name__" := by decide) (hdb : (x == ("__debug__" : Str)) = false := by decide)
  (he : starEach [e] X.env = [(false, eval e X.env)] := by rfl) : SE X (.Call (.Name x p) [e] [] pos) (c1 g fa) :=
 (QbF hc hg hm hv (Qbt ha Qbs he) hn hdb he rfl).of fun σ H Q h_ => h_.el fun ρ l st lr sr p => ⟨ρ, l, st, lr, sr, p.bnd.imp fun d st1 ρ1 H1 x1 s1 p1 v rv => ⟨v, rfl, ρ1, st1, d, s1, rv, p1⟩⟩
theorem Qen {g : D → M D} (hc : CallR X (.type T) (fun xs H Q => ∃ v, xs = [v] ∧ uOf X.K g v H Q)) (hg : Gl X x) (hm : X.mg x = none) (hv : bootBuiltins x = some (.type T)) (ha : SE X e fa) (hn : x ≠ "__name__" := by decide) (hdb : (x == ("__debug__" : Str)) = false := by decide)
  (he : starEach [e] X.env = [(false, eval e X.env)] := by rfl) : SE X (.Call (.Name x p) [e] [] pos) (c1 g fa) :=
 (QbG hc hg hm hv (Qbt ha Qbs he) hn hdb he rfl).of fun σ H Q h_ => h_.el fun ρ l st lr sr p => ⟨ρ, l, st, lr, sr, p.bnd.imp fun d st1 ρ1 H1 x1 s1 p1 v rv => ⟨v, rfl, ρ1, st1, d, s1, rv, p1⟩⟩
noncomputable def lOf (K : PySem.W.Frag) (g : List D → M D) : List V → Hp → VK → Prop := fun xs H Q => ∃ a vs ρ st ds, xs = [.ref a] ∧ SqL K H a vs ∧ SR K ρ H st ∧ Reps K ρ H vs ds ∧ Post K ρ H (g ds st) fun r _ ρ' H' => ∀ v, Rep K ρ' H' v r → Q v H'
theorem Qeo {g : List D → M D} (hc : CallR X (.builtin id) (lOf X.K g)) (hg : Gl X x) (hm : X.mg x = none) (hv : bootBuiltins x = some (.builtin id)) (ha : SL X e ca) (hn : x ≠ "__name__" := by decide) (hdb : (x == ("__debug__" : Str)) = false := by decide)
  (he : starEach [e] X.env = [(false, eval e X.env)] := by rfl) : SE X (.Call (.Name x p) [e] [] pos) (cTmp g ca) :=
 (QbF hc hg hm hv (Qbt ha Qbs he) hn hdb he rfl).of fun σ H Q h_ => h_.el fun ρ l st lr sr p => ⟨ρ, l, st, lr, sr, p.bnd.imp fun ds st1 ρ1 H1 x1 s1 p1 a vs ha na hv rvs => ⟨a, vs, ρ1, st1, ds, rfl, SqL.of hv, s1, rvs, p1⟩⟩
theorem Qep {g : List D → M D} (hc : CallR X (.type T) (lOf X.K g)) (hg : Gl X x) (hm : X.mg x = none) (hv : bootBuiltins x = some (.type T)) (ha : SL X e ca) (hn : x ≠ "__name__" := by decide) (hdb : (x == ("__debug__" : Str)) = false := by decide)
  (he : starEach [e] X.env = [(false, eval e X.env)] := by rfl) : SE X (.Call (.Name x p) [e] [] pos) (cTmp g ca) :=
 (QbG hc hg hm hv (Qbt ha Qbs he) hn hdb he rfl).of fun σ H Q h_ => h_.el fun ρ l st lr sr p => ⟨ρ, l, st, lr, sr, p.bnd.imp fun ds st1 ρ1 H1 x1 s1 p1 a vs ha na hv rvs => ⟨a, vs, ρ1, st1, ds, rfl, SqL.of hv, s1, rvs, p1⟩⟩
theorem Qeq {prog : Program} {w : World} {A : Around} {E : Value → Shared → Prop} {s : Shared} {K : Type} [DecidableEq K] {knd : HeapKind prog w K} {d : Addr} {xs : List (K × Addr × Value)} {Q : Value → Shared → Prop} (hd : (d == sysModules) = false) (hm : s.heap.DictOfH knd d xs) (hfit : (xs.length : Int) < 2 ^ 63)
  (h : Q (.int xs.length (s.toks + 1)) { s with toks := s.toks + 1 + 1 }) : wpAny (model prog w) A (call (.builtin "len") [.ref d]) Q E s := by
 refine Calls.call_function_entry kind_len plain_len entry_len (args_len1 _) ?_
 unfold Builtin.«len»
 have meet : MeetsIn prog w (Builtin.«dict.__len__» ⟨[.ref d], []⟩) (fun _ R s => ∃ xs, s.heap.DictOfH knd d xs ∧ R (.ok (.ret (.int xs.length s.toks))) { s with toks := s.toks + 1 }) := .of_wp fun A R s pq63 => by
  obtain ⟨xs, hm, h⟩ := pq63
  obtain ⟨o, es, ep, ho, hc, hdat, he, _, hn⟩ := hm
  show wpAny _ _ (dictSize d >>= _) _ _ s
  unfold dictSize
  refine wpAny_bind (wpAny_bind (wpAny_dictEntries ho hdat (wpAny_pure ?_)))
  show wpAny _ _ (Builtin.Dict.pendingCount d >>= _) _ _ s
  refine wpAny_bind (wpAny_pendingCount_other hd ?_)
  refine wpAny_ret_mkInt ?_
  rw [Nat.add_zero, size_of_entries he]; exact h
 refine wpAny_bind (m := oneArg "len" _) (wpAny_pure ?_)
 refine wpAny_bind (m := callSpecial? (.ref d) (Str.ofString "__len__")) (wpAny_callSpecial?_slot (name := Str.ofString "__len__") hm.typeIs F.slot_dict_len
  (call_meetsIn F.slot_dict_len hm.typeIs F.entry_dict_len (F.args_dict_len_1 _) meet ⟨xs, hm, ?_⟩))
 show wpAny _ _ _ _ _ { s with toks := s.toks + 1 }
 refine wpAny_bind (wpAny_holding (wpAny_pure ?_))
 refine wpAny_bind (wpAny_letGo ?_)
 show wpAny _ _ (if ((xs.length : Nat) : Int) < 0 then _ else _) _ _ _
 rw [if_neg (by ac_nf)]
 show wpAny _ _ (if ((xs.length : Nat) : Int) ≥ 2 ^ 63 then _ else _) _ _ _
 rw [if_neg (by ac_nf)]
 exact wpAny_bind (wpAny_mkInt (wpAny_pure ⟨_, rfl, h⟩))
theorem Qer : CallR X (.builtin "len") (fun xs H Q => ∃ (ρ : List Addr) (st : Sto) (n : Nat) (a : Addr) (b : Bool) (kvs : List (D × D)), xs = [.ref a] ∧ SR X.K ρ H st ∧ ρ[n]? = some a ∧ st[n]? = some (.dct b kvs) ∧ Q (.int kvs.length) H) := by
 intro pins s σ H xs us Q I r pq106; obtain ⟨ρ, st, n, a, b, kvs, e, sr, ha, hn, q⟩ := pq106
 subst e
 obtain ⟨u, rfl, ru⟩ := Qbk r
 cases ru
 have g := sr.ob n a _ ha hn
 cases b with
 | false =>
  obtain ⟨es, e, r⟩ := g
  rw [← KR.length r] at q
  exact Qcw I (.inl e) fun t s' I' => ⟨.int es.length, H, I', ⟨t, rfl⟩, q⟩
 | true =>
  obtain ⟨es, e, r⟩ := g
  obtain ⟨z, hd, xs, rx, dd⟩ := Qc0 I e r
  rw [← NR.length r, Paired.length rx] at q
  have hz : xs.length ≤ sizeLine := by rw [← Paired.length rx]; exact z
  exact Qeq hd dd (by rw [sizeLine_eq] at hz; ac_nf) ⟨.int xs.length, H, I.tok _, ⟨_, rfl⟩, q⟩
theorem Qes : CallR X (.builtin "len") (fun xs H Q => ∃ v, xs = [v] ∧ uOf X.K lenD v H Q) := ((QbZ.or Qb0).or Qer).of fun xs H Q pq64 => by
 obtain ⟨v, e, ρ, st, d, sr, rv, p⟩ := pq64
 cases rv with
 | @tup a vs ds h r => exact .inl (.inl ⟨a, vs, e, .inr h, by rw [r.length]; exact p.ret sr _ (.int _)⟩)
 | @lit a vs ds h r => exact .inl (.inl ⟨a, vs, e, .inl h.seq, by rw [r.length]; exact p.ret sr _ (.int _)⟩)
 | @ref a n _ h =>
  obtain ⟨ds, e2, p1⟩ := Post.getL (Post.bnd p) sr
  obtain ⟨a', vs, ha, hv, r⟩ := sr.seq e2
  rw [h] at ha; cases ha
  exact .inl (.inl ⟨a, vs, e, .inl (SqL.of hv), by rw [r.length]; exact p1.ret sr _ (.int _)⟩)
 | str z => exact .inl (.inr ⟨z, e, (Post.chk p).1, (Post.chk p).2.ret sr _ (.int _)⟩)
 | @dic a n _ h =>
  obtain ⟨b, kvs, e2, p1⟩ := Post.getDc (Post.bnd p) sr
  exact .inr ⟨ρ, st, n, a, b, kvs, e, sr, h, e2, p1.ret sr _ (.int _)⟩
 | _ => exact p.elim
theorem Qet : CallR X (.builtin "len") (lOf X.K lenL) := QbZ.of fun xs H Q pq65 => by obtain ⟨a, vs, ρ, st, ds, e, hv, sr, r, p⟩ := pq65; exact ⟨a, vs, e, .inl hv, by rw [r.length]; exact p.ret sr _ (.int _)⟩
theorem Qeu : CallR X (.type "int") (fun xs H Q => ∃ v, xs = [v] ∧ uOf X.K intD v H Q) := Qbm.of fun xs H Q pq66 => by
 obtain ⟨v, e, ρ, st, d, sr, rv, p⟩ := pq66
 cases rv with
 | int i => exact .inl ⟨i, e, p.ret sr _ (.int _)⟩
 | bl k => exact .inr ⟨k, e, p.ret sr _ (.int _)⟩
 | _ => exact p.elim
theorem Qev : CallR X (.type "tuple") (fun xs H Q => ∃ v, xs = [v] ∧ uOf X.K tupleD v H Q) := Qb1.of fun xs H Q pq67 => by
 obtain ⟨v, e, ρ, st, d, sr, rv, p⟩ := pq67
 cases rv with
 | @tup a vs ds h r => exact ⟨a, vs, e, .inr ⟨h, p.ret sr _ (.tup h r)⟩⟩
 | @lit a vs ds h r => exact ⟨a, vs, e, .inl ⟨h.seq, fun l hl => p ρ _ (Ex.new hl) (sr.new hl) _ (.tup (SqT.of Qai) (r.mono (Ex.new hl)))⟩⟩
 | @ref a n _ h =>
  obtain ⟨ds, e2, p1⟩ := Post.getL (Post.bnd p) sr
  obtain ⟨a', vs, ha, hv, r⟩ := sr.seq e2
  rw [h] at ha; cases ha
  exact ⟨a, vs, e, .inl ⟨SqL.of hv, fun l hl => p1 ρ _ (Ex.new hl) (sr.new hl) _ (.tup (SqT.of Qai) (r.mono (Ex.new hl)))⟩⟩
 | _ => exact p.elim
theorem Qew : CallR X (.type "tuple") (lOf X.K tupL) := Qb1.of fun xs H Q pq68 =>
 by obtain ⟨a, vs, ρ, st, ds, e, hv, sr, r, p⟩ := pq68; exact ⟨a, vs, e, .inl ⟨hv, fun l hl => p ρ _ (Ex.new hl) (sr.new hl) _ (.tup (SqT.of Qai) (r.mono (Ex.new hl)))⟩⟩
end
end MM
namespace MM
open PySem PySem.Spec PyProof.Rows L2
section
variable {X : Cx} {a b c e tg : Expr} {es : List Expr} {pos : Pos} {fa fb fc : CE} {ca cb : CA} {ta tb : CT} {K : PySem.W.Frag} {ρ : List Addr} {H : Hp} {st : Sto} {x : Str} {p : Pos} {T : String}
theorem Qex {ds : List D} {ns : List Int} {vs : List V} (h : numsL ds = some ns) (g : Reps K ρ H vs ds) : vs = ns.map V.int := by
 induction ds generalizing ns vs with
 | nil => cases g; cases h; rfl
 | cons d ds ih =>
  cases g with
  | cons r t =>
   cases r with
   | int i =>
    unfold numsL at h
    cases q : numsL ds with
    | none => rw [q] at h; cases h
    | some ms =>
     rw [q] at h
     have h' : i :: ms = _ := Option.some.inj h
     subst h'
     rw [ih q t]; rfl
   | _ => cases h
theorem Qey : ∀ {ds : List D} {ns : List Bool} {vs : List V}, boolsL ds = some ns → Reps K ρ H vs ds → vs = ns.map V.bl
 | [], _, _, h, .nil => by cases h; rfl
 | .bl i :: ds, _, _, h, .cons r t => by
  unfold boolsL at h
  cases q : boolsL ds with
  | none => rw [q] at h; cases h
  | some ms =>
   rw [q] at h
   have h' : i :: ms = _ := Option.some.inj h
   subst h'
   cases r
   rw [Qey q t]; rfl
 | .non :: _, _, _, h, _ => by cases h
 | .int _ :: _, _, _, h, _ => by cases h
 | .str _ :: _, _, _, h, _ => by cases h
 | .tup _ :: _, _, _, h, _ => by cases h
 | .lit _ :: _, _, _, h, _ => by cases h
 | .ref _ :: _, _, _, h, _ => by cases h
theorem Qez : ∀ {bs : List Bool} {us : List Value}, Vals (bs.map V.bl) us → us = bs.map Value.bool
 | [], _, .nil => rfl
 | _ :: _, _, .cons r t => by cases r; rw [Qez t]; rfl
theorem QeA (hc : X.calm = true) : CallR X (.builtin "all") (fun xs H Q => ∃ (l : Addr) (bs : List Bool), xs = [.ref l] ∧ SqL X.K H l (bs.map V.bl) ∧ Q (.bl (bs.all id)) H) := by
 intro pins s σ H xs us Q I r h
 obtain ⟨l, bs, rfl, hq, q⟩ := h
 obtain ⟨u, rfl, rx⟩ := Qbk r
 cases rx
 obtain ⟨its, rv, pl, hz⟩ := I.list hq
 have ei := Qez rv
 subst ei
 refine call_all_walk (wpAny_pyIter_list pl.isList ?_)
 have hlt : l < s.heap.objs.size := by
  obtain ⟨o, ho, _⟩ := pl.isList
  exact Heap.lt_size ho
 refine ⟨s.heap.objs.size, _, _, _, _, _, fun i => (bs[i]?).getD true, rfl, Walks.list (A := X.A.in1) (I.ok.hd hc) s.heap.objs.size l (Nat.ne_of_lt hlt) (bs.map Value.bool).toArray, ⟨⟨_, Heap.get?_push_size _ rfl, rfl, rfl⟩, ?_⟩, ?_, fun h' tk hk => ?_⟩
 ·obtain ⟨o, ho, hr⟩ := pl.isList
  exact ⟨o, Heap.get?_push_of_some _ ho, hr⟩
 ·intro i v s' Q' E' hv hQ
  have hv' : (bs.map Value.bool)[i]? = some v := by simpa using hv
  rw [List.getElem?_map] at hv'
  dsimp only at hQ
  cases e : bs[i]? with
  | none => rw [e] at hv'; cases hv'
  | some k =>
   rw [e] at hv' hQ
   have : v = Value.bool k := (Option.some.inj hv').symm
   subst this
   exact wpAny_truthy_bool hQ
 ·have e : (List.range (bs.map Value.bool).toArray.size).all (fun i => (bs[i]?).getD true) = bs.all id := by
    have hs : (bs.map Value.bool).toArray.size = bs.length := by simp
    rw [hs, Bool.eq_iff_iff, List.all_eq_true, List.all_eq_true]
    constructor
    ·intro hh k hk
     obtain ⟨i, hi⟩ := List.getElem?_of_mem hk
     have := hh i (List.mem_range.mpr (List.getElem?_eq_some_iff.mp hi).1)
     rw [hi] at this; exact this
    ·intro hh i hi
     have hl := List.mem_range.mp hi
     rw [List.getElem?_eq_getElem hl]
     exact hh _ (List.getElem_mem hl)
  rw [e]
  exact ⟨.bl _, H, I.kept (t' := tk) fun b o hb => hk b o (by simp; exact Nat.ne_of_lt (Heap.lt_size hb)) (Heap.get?_push_of_some _ hb), rfl, q⟩
theorem QeB : ∀ (ns : List Int) (n : Int), ns.foldl max n ∈ n :: ns ∧ ∀ a ∈ n :: ns, a ≤ ns.foldl max n
 | [], n => ⟨by simp, by simp⟩
 | m :: ns, n => by
  obtain ⟨h1, h2⟩ := QeB ns (max n m)
  rw [List.foldl_cons]
  refine ⟨?_, fun a ha => ?_⟩
  ·rcases List.mem_cons.mp h1 with e | e
   ·rw [e]
    by_cases hm : n ≤ m
    ·rw [Int.max_eq_right hm]; simp
    ·rw [Int.max_eq_left (by ac_nf)]; simp
   ·exact List.mem_cons_of_mem _ (List.mem_cons_of_mem _ e)
  ·have hx := h2 (max n m) List.mem_cons_self
   rcases List.mem_cons.mp ha with e | e
   ·subst e; exact Int.le_trans (Int.le_max_left ..) hx
   ·rcases List.mem_cons.mp e with e | e
    ·subst e; exact Int.le_trans (Int.le_max_right ..) hx
    ·exact h2 a (List.mem_cons_of_mem _ e)
theorem QeC {vs : List Value} {ns : List Int} (hi : IntsAre vs ns) : ∃ xs, vs.toArray = intItems xs ∧ ns = xs.toList.map (·.1) := by
 obtain ⟨xs, e⟩ := hi.allInts.items
 exact ⟨xs, e, by rw [← hi.numsOf, ← nums_intItems, ← e]⟩
theorem QeD (hc : X.calm = true) : CallR X (.builtin "max") (fun xs H Q => ∃ (l : Addr) (n : Int) (ns : List Int), xs = [.ref l] ∧ SqL X.K H l ((n :: ns).map V.int) ∧ Q (.int (ns.foldl max n)) H) := by
 intro pins s σ H xs us Q I r h
 obtain ⟨l, n, ns, rfl, hq, q⟩ := h
 obtain ⟨u, rfl, rx⟩ := Qbk r
 cases rx
 obtain ⟨its, rv, pl, hz⟩ := I.list hq
 obtain ⟨ys, e, en⟩ := QeC (QbH rv)
 have hl := pl.isList
 rw [e] at hl
 have hsz : ys.size = ns.length + 1 := by have := congrArg List.length en; simpa using this.symm
 refine max_intList (I.ok.hd hc) hl (by ac_nf) fun v h' tk hv hk => ?_
 obtain ⟨t, rfl⟩ := intItems_at hv
 obtain ⟨b1, b2⟩ := argBest_gt (numAt ys) (ys.size - 1)
 obtain ⟨f1, f2⟩ := QeB ns n
 generalize argBest (fun i j => decide (numAt ys i > numAt ys j)) (ys.size - 1) = k at b1 b2 ⊢
 have hin : numAt ys k ∈ n :: ns := by
  rw [en, numAt_eq]
  exact getD_mem (by rw [← en]; simp; ac_nf)
 have hge : ns.foldl max n ≤ numAt ys k := by
  rw [en] at f1
  obtain ⟨j, hj, ej⟩ := mem_getD f1
  rw [← ej, ← numAt_eq]
  exact b2 j (by rw [← en] at hj; simp at hj; ac_nf)
 have hM : numAt ys k = ns.foldl max n := Int.le_antisymm (f2 _ hin) hge
 rw [hM]
 exact ⟨.int _, H, I.kept (t' := tk) hk, ⟨t, rfl⟩, q⟩
theorem QeE (hc : X.calm = true) : CallR X (.builtin "all") (lOf X.K allD) := (QeA hc).of fun xs H Q pq69 => by
 obtain ⟨a, vs, ρ, st, ds, e, hv, sr, r, p⟩ := pq69
 unfold allD at p
 cases q : boolsL ds with
 | none => rw [q] at p; exact p.elim
 | some bs =>
  rw [q] at p
  have := Qey q r
  subst this
  exact ⟨a, bs, e, hv, p.ret sr _ (.bl _)⟩
theorem QeF (hc : X.calm = true) : CallR X (.builtin "max") (lOf X.K maxD) := (QeD hc).of fun xs H Q pq70 => by
 obtain ⟨a, vs, ρ, st, ds, e, hv, sr, r, p⟩ := pq70
 unfold maxD at p
 cases q : numsL ds with
 | none => rw [q] at p; exact p.elim
 | some ns =>
  rw [q] at p
  have := Qex q r
  subst this
  cases ns with
  | nil => exact p.elim
  | cons n ns => exact ⟨a, n, ns, e, hv, p.ret sr _ (.int _)⟩
structure TyTab (T : String) : Prop where
 non : ∀ K, PySem.W.kitOne K (.type "NoneType") (.type T) = some (["NoneType"].contains T)
 bl : ∀ K, PySem.W.kitOne K (.type "bool") (.type T) = some (["bool", "int"].contains T)
 int : ∀ K, PySem.W.kitOne K (.type "int") (.type T) = some (["int"].contains T)
 str : ∀ K, PySem.W.kitOne K (.type "str") (.type T) = some (["str"].contains T)
 tup : ∀ K, PySem.W.kitOne K (.type "tuple") (.type T) = some (["tuple"].contains T)
 lst : ∀ K, PySem.W.kitOne K (.type "list") (.type T) = some (["list"].contains T)
theorem QeG : TyTab "bool" := ⟨fun _ => rfl, fun _ => rfl, fun _ => rfl, fun _ => rfl, fun _ => rfl, fun _ => rfl⟩
theorem QeH {pins : List (Addr × Obj)} {σ : St} {s : Shared} {Q : Value → Shared → Prop} {t : String} {u : Addr} {k : Bool} (I : Inv X pins σ H s) (ht : ∃ o, s.heap.get? u = some o ∧ o.cls = .type t) (hx : t = "tuple" ∨ t = "list") (e : PySem.W.kitOne X.K (.type t) (.type T) = some k)
  (h : ∀ tk, Q (.bool k) { s with toks := tk }) : wpAny (model X.prog X.w) X.A (call (.builtin "isinstance") [.ref u, .type T]) Q X.xe s := by
 rcases hx with rfl | rfl
 ·exact PySem.W.kia_one PySem.W.kitx_tuple I.kIn ht e (fun z => nomatch z) h
 ·exact PySem.W.kia_one PySem.W.kitx_list I.kIn ht e (fun z => nomatch z) h
theorem QeI (B : TyTab T) : CallR X (.builtin "isinstance") (fun xs H Q => ∃ v, xs = [v, .ty T] ∧ uOf X.K (isInst [T]) v H Q) := by
 intro pins s σ H xs us Q I r pq107; obtain ⟨v, e, ρ, st, d, sr, rv, p⟩ := pq107
 subst e
 obtain ⟨u, w', rfl, ru, rw'⟩ := Qbl r
 have ew : w' = Value.type T := rw'
 subst ew
 have fin : ∀ k : Bool, Q (.bl k) H → ∀ tk, EP X pins σ Q (.bool k) { s with toks := tk } := fun k q tk => ⟨.bl k, H, I.tok tk, rfl, q⟩
 cases rv with
 | non =>
  refine Qbp I ru .non (B.non _) (fin _ ?_)
  simpa [isInst, isTy] using p.ret sr _ (.bl _)
 | bl k =>
  refine Qbp I ru (.bl k) (B.bl _) (fin _ ?_)
  simpa [isInst, isTy] using p.ret sr _ (.bl _)
 | int k =>
  refine Qbp I ru (.int k) (B.int _) (fin _ ?_)
  simpa [isInst, isTy] using p.ret sr _ (.bl _)
 | str k =>
  refine Qbp I ru (.str k) (B.str _) (fin _ ?_)
  simpa [isInst, isTy] using p.ret sr _ (.bl _)
 | tup h r =>
  have eu : u = Value.ref _ := ru
  subst eu
  obtain ⟨its, _, ⟨o, h1, h2, _⟩, _⟩ := I.tuple h
  refine QeH I ⟨o, h1, h2⟩ (.inl rfl) (B.tup _) (fin _ ?_)
  simpa [isInst, isTy] using p.ret sr _ (.bl _)
 | lit h r =>
  have eu : u = Value.ref _ := ru
  subst eu
  obtain ⟨its, _, pl, _⟩ := I.list h.seq
  obtain ⟨o, h1, h2, _⟩ := pl.isList
  refine QeH I ⟨o, h1, h2⟩ (.inr rfl) (B.lst _) (fin _ ?_)
  simpa [isInst, isTy] using p.ret sr _ (.bl _)
 | @ref a n kk h =>
  have eu : u = Value.ref _ := ru
  subst eu
  obtain ⟨vs, hv⟩ := QcF kk
  obtain ⟨its, _, pl, _⟩ := I.list (SqL.of hv)
  obtain ⟨o, h1, h2, _⟩ := pl.isList
  refine QeH I ⟨o, h1, h2⟩ (.inr rfl) (B.lst _) (fin _ ?_)
  simpa [isInst, isTy] using p.ret sr _ (.bl _)
 | dic _ _ => exact p.elim
theorem QeJ {y : Str} {p1 : Pos} (B : TyTab T) (hg : Gl X "isinstance") (hm : X.mg "isinstance" = none) (hgT : Gl X y) (hmT : X.mg y = none) (hvT : bootBuiltins y = some (.type T)) (ha : SE X e fa) (hv : bootBuiltins "isinstance" = some (.builtin "isinstance"))
  (hnT : y ≠ "__name__" := by decide) (hdT : (y == ("__debug__" : Str)) = false := by decide)
  (he : starEach [e, .Name y p1] X.env = (false, eval e X.env) :: starEach [.Name y p1] X.env := by rfl) (he2 : starEach [.Name y p1] X.env = (false, eval (.Name y p1) X.env) :: starEach [] X.env := by rfl) (hpl : (backTo pos (starEach [.Name y p1] X.env)).any (·.1) = false := by rfl) :
  SE X (.Call (.Name "isinstance" p) [e, .Name y p1] [] pos) (c1 (isInst [T]) fa) :=
 (QbF (QeI B) hg hm hv (Qbt ha (Qbt (QaA (v := .ty T) hgT hmT hvT rfl hnT hdT) Qbs he2) he) (by decide) (by decide) he hpl).of fun σ H Q h_ => h_.el fun ρ l st lr sr p => ⟨ρ, l, st, lr, sr, p.bnd.imp fun d st1 ρ1 H1 x1 s1 p1 v rv => ⟨v, rfl, ρ1, st1, d, s1, rv, p1⟩⟩
end
end MM
namespace MM
open PySem PySem.Spec PyProof.Rows L2
section
variable {X : Cx} {K : PySem.W.Frag} {ρ : List Addr} {H : Hp} {st : Sto} {pins : List (Addr × Obj)} {σ : St} {s : Shared}
theorem QeK {f : D → D → Option Bool} : ∀ {xs ys : List D} {r : Bool}, allF f xs ys = some r → ∀ (j : Nat) (x y : D), xs[j]? = some x → ys[j]? = some y → ∃ k, f x y = some k
 | [], _, _, _, j, x, y, h, _ => by cases j <;> cases h
 | _ :: _, [], _, _, j, x, y, _, h => by cases j <;> cases h
 | a :: xs, b :: ys, r, h, j, x, y, hx, hy => by
  unfold allF at h
  cases e : f a b with
  | none => rw [e] at h; cases h
  | some k =>
   cases j with
   | zero => cases hx; cases hy; exact ⟨k, e⟩
   | succ j =>
    rw [e] at h
    have hx' : xs[j]? = some x := hx
    have hy' : ys[j]? = some y := hy
    cases k with
    | true => exact QeK h j x y hx' hy'
    | false =>
     cases e2 : allF f xs ys with
     | none => rw [e2] at h; cases h
     | some r' => exact QeK e2 j x y hx' hy'
noncomputable def itE (f : D → D → Option Bool) (xs ys : List D) (j : Nat) : Bool := match xs[j]?, ys[j]? with
 | some x, some y => (f x y).getD false
 | _, _ => true
theorem QeL {f : D → D → Option Bool} : ∀ {xs ys : List D} {r : Bool}, allF f xs ys = some r → r = ((List.range (min xs.length ys.length)).all (itE f xs ys) && xs.length == ys.length)
 | [], [], _, h => by cases h; rfl
 | _ :: _, [], _, h => by cases h; simp
 | [], _ :: _, _, h => by cases h; simp
 | a :: xs, b :: ys, r, h => by
  have step : (List.range (min (a :: xs).length (b :: ys).length)).all (itE f (a :: xs) (b :: ys)) = ((f a b).getD false && (List.range (min xs.length ys.length)).all (itE f xs ys)) := by
   have e : min (a :: xs).length (b :: ys).length = min xs.length ys.length + 1 := by simp only [List.length_cons]; ac_nf
   rw [e, List.range_succ_eq_map, List.all_cons, List.all_map]
   rfl
  rw [step]
  unfold allF at h
  cases e : f a b with
  | none => rw [e] at h; cases h
  | some k =>
   rw [e] at h
   cases k with
   | true =>
    have := QeL h
    simp only [Option.getD_some, Bool.true_and, List.length_cons]
    rw [this]
    congr 1
    rw [Bool.eq_iff_iff]; simp
   | false =>
    simp only [Option.getD_some, Bool.false_and]
    cases e2 : allF f xs ys with
    | none => rw [e2] at h; cases h
    | some r' => rw [e2] at h; cases h; rfl
theorem Vals.at {vs : List V} {us : List Value} {j : Nat} {u : Value} (r : Vals vs us) (h : us[j]? = some u) : ∃ v, vs[j]? = some v ∧ RelV v u := by
 have hl := r.length
 have hj : j < vs.length := by rw [hl]; exact (List.getElem?_eq_some_iff.mp h).1
 obtain ⟨u', e, ru⟩ := r.get (List.getElem?_eq_getElem hj)
 rw [h] at e; cases e
 exact ⟨_, List.getElem?_eq_getElem hj, ru⟩
theorem Reps.at {vs : List V} {ds : List D} {j : Nat} {v : V} (r : Reps K ρ H vs ds) (h : vs[j]? = some v) : ∃ d, ds[j]? = some d ∧ Rep K ρ H v d := by
 have hl := r.length
 have hj : j < ds.length := by rw [← hl]; exact (List.getElem?_eq_some_iff.mp h).1
 obtain ⟨v', e, rv⟩ := r.get (List.getElem?_eq_getElem hj)
 rw [h] at e; cases e
 exact ⟨_, List.getElem?_eq_getElem hj, rv⟩
theorem QeM {g : List D → List D → Option Bool} {v : V} {d e : D} {r : Bool} (I : Inv X pins σ H s) (hg : ∀ xs ys vs k, Reps X.K ρ H vs xs → Reps X.K ρ H vs ys → g xs ys = some k → k = true) (h : eqS g d e = some r) (r1 : Rep X.K ρ H v d) (r2 : Rep X.K ρ H v e) : r = true := by
 cases r1 with
 | non => cases r2; cases h; rfl
 | bl b => cases r2; cases h; simp
 | int b => cases r2; cases h; simp
 | str b => cases r2; cases h; simp
 | tup h1 q1 =>
  cases r2 with
  | tup h2 q2 =>
   have := I.tuple_inj h1 h2
   subst this
   exact hg _ _ _ _ q1 q2 h
  | _ => cases h
 | lit _ _ => cases r2 <;> cases h
 | ref _ _ => cases r2 <;> cases h
 | dic _ _ => cases r2 <;> cases h
theorem QeN {f : D → D → Option Bool} (hf : ∀ v d e k, Rep K ρ H v d → Rep K ρ H v e → f d e = some k → k = true) {xs ys : List D} {vs : List V} {k : Bool} (h1 : Reps K ρ H vs xs) (h2 : Reps K ρ H vs ys) (h : allF f xs ys = some k) : k = true := by
 induction xs generalizing ys vs k with
 | nil => cases h1; cases h2; cases h; rfl
 | cons x xs ih =>
  cases h1 with
  | cons a b => cases h2 with
   | cons c d =>
    unfold allF at h
    cases e : f _ _ with
    | none => rw [e] at h; cases h
    | some k =>
     rw [e] at h
     have := hf _ _ _ _ a c e
     subst this
     exact ih b d h
theorem QeO (I : Inv X pins σ H s) : ∀ (n : Nat) {v : V} {d e : D} {r : Bool}, eqF n d e = some r → Rep X.K ρ H v d → Rep X.K ρ H v e → r = true
 | 0, _, _, _, _, h, r1, r2 => QeM I (fun _ _ _ _ _ _ z => by cases z) h r1 r2
 | n + 1, _, _, _, _, h, r1, r2 => QeM I (fun xs ys vs k q1 q2 z => QeN (fun v d e k a b c => QeO I n c a b) q1 q2 z) h r1 r2
open SeqAt in
theorem QeP {g : List D → List D → Option Bool} {A : Around} {v w : V} {u1 u2 : Value} {d e : D} {r : Bool} (I : Inv X pins σ H s) (hu : A.units < cLine)
  (hg : ∀ xs ys k, g xs ys = some k → ∀ vs ws its its2, Reps X.K ρ H vs xs → Reps X.K ρ H ws ys → Vals vs its → Vals ws its2 →
   ∃ e : Nat → Bool, k = ((List.range (min its.length its2.length)).all e && its.length == its2.length) ∧ ∀ (j : Nat) x y, its[j]? = some x → its2[j]? = some y → EqAt A.in1 s x y (e j))
  (hs : ∀ xs ys vs k, Reps X.K ρ H vs xs → Reps X.K ρ H vs ys → g xs ys = some k → k = true)
  (h : eqS g d e = some r) (r1 : Rep X.K ρ H v d) (r2 : Rep X.K ρ H w e) (v1 : RelV v u1) (v2 : RelV w u2) : RcAt A s u1 u2 r ∧ RcNeAt A s u1 u2 (!r) ∧ EqAt A s u1 u2 r := by
 cases r1 with
 | lit _ _ => cases r2 <;> cases h
 | ref _ _ => cases r2 <;> cases h
 | dic _ _ => cases r2 <;> cases h
 | non =>
  cases (show u1 = Value.none from v1)
  cases r2 with
  | non => cases (show u2 = Value.none from v2); cases h; exact ⟨.none_none, .none_none, .same _⟩
  | bl b => cases (show u2 = Value.bool b from v2); cases h; exact ⟨.none_bool b, .none_bool b, .none_bool b⟩
  | int b => obtain ⟨t, rfl⟩ := (show ∃ t, u2 = Value.int b t from v2); cases h; exact ⟨.none_int b t, .none_int b t, .none_int b t⟩
  | str b => obtain ⟨t, rfl⟩ := (show ∃ t, u2 = Value.str b t from v2); cases h; exact ⟨.none_str b t, .none_str b t, .none_str b t⟩
  | tup h2 q2 => cases (show u2 = Value.ref _ from v2); cases h; obtain ⟨_, _, p, _⟩ := I.tuple h2; exact ⟨.none_tuple p hu, .none_tuple p hu, .none_tuple p hu⟩
  | _ => cases h
 | bl a =>
  cases (show u1 = Value.bool a from v1)
  cases r2 with
  | non => cases (show u2 = Value.none from v2); cases h; exact ⟨.bool_none a, .bool_none a, .bool_none a⟩
  | bl b => cases (show u2 = Value.bool b from v2); cases h; exact ⟨.bool_bool a b, .bool_bool a b, .bool_bool a b⟩
  | int b => obtain ⟨t, rfl⟩ := (show ∃ t, u2 = Value.int b t from v2); cases h; exact ⟨.bool_int a b t, .bool_int a b t, .bool_int a b t⟩
  | str b => obtain ⟨t, rfl⟩ := (show ∃ t, u2 = Value.str b t from v2); cases h; exact ⟨.bool_str a b t, .bool_str a b t, .bool_str a b t⟩
  | tup h2 q2 => cases (show u2 = Value.ref _ from v2); cases h; obtain ⟨_, _, p, _⟩ := I.tuple h2; exact ⟨.bool_tuple a p hu, .bool_tuple a p hu, .bool_tuple a p hu⟩
  | _ => cases h
 | int a =>
  obtain ⟨t1, rfl⟩ := (show ∃ t, u1 = Value.int a t from v1)
  cases r2 with
  | non => cases (show u2 = Value.none from v2); cases h; exact ⟨.int_none a t1, .int_none a t1, .int_none a t1⟩
  | bl b => cases (show u2 = Value.bool b from v2); cases h; exact ⟨.int_bool a t1 b, .int_bool a t1 b, .int_bool a t1 b⟩
  | int b => obtain ⟨t, rfl⟩ := (show ∃ t, u2 = Value.int b t from v2); cases h; exact ⟨.int_int a t1 b t, .int_int a t1 b t, .int_int a t1 b t⟩
  | str b => obtain ⟨t, rfl⟩ := (show ∃ t, u2 = Value.str b t from v2); cases h; exact ⟨.int_str a t1 b t, .int_str a t1 b t, .int_str a t1 b t⟩
  | tup h2 q2 => cases (show u2 = Value.ref _ from v2); cases h; obtain ⟨_, _, p, _⟩ := I.tuple h2; exact ⟨.int_tuple a t1 p hu, .int_tuple a t1 p hu, .int_tuple a t1 p hu⟩
  | _ => cases h
 | str a =>
  obtain ⟨t1, rfl⟩ := (show ∃ t, u1 = Value.str a t from v1)
  cases r2 with
  | non => cases (show u2 = Value.none from v2); cases h; exact ⟨.str_none a t1, .str_none a t1, .str_none a t1⟩
  | bl b => cases (show u2 = Value.bool b from v2); cases h; exact ⟨.str_bool a t1 b, .str_bool a t1 b, .str_bool a t1 b⟩
  | int b => obtain ⟨t, rfl⟩ := (show ∃ t, u2 = Value.int b t from v2); cases h; exact ⟨.str_int a t1 b t, .str_int a t1 b t, .str_int a t1 b t⟩
  | str b => obtain ⟨t, rfl⟩ := (show ∃ t, u2 = Value.str b t from v2); cases h; exact ⟨.str_str a t1 b t, .str_str a t1 b t, .str_str a t1 b t⟩
  | tup h2 q2 => cases (show u2 = Value.ref _ from v2); cases h; obtain ⟨_, _, p, _⟩ := I.tuple h2; exact ⟨.str_tuple a t1 p hu, .str_tuple a t1 p hu, .str_tuple a t1 p hu⟩
  | _ => cases h
 | @tup l1 vs xs h1 q1 =>
  cases (show u1 = Value.ref _ from v1)
  obtain ⟨its, rv, p, _⟩ := I.tuple h1
  cases r2 with
  | non => cases (show u2 = Value.none from v2); cases h; exact ⟨.tuple_none p hu, .tuple_none p hu, .tuple_none p hu⟩
  | bl b => cases (show u2 = Value.bool b from v2); cases h; exact ⟨.tuple_bool b p hu, .tuple_bool b p hu, .tuple_bool b p hu⟩
  | int b => obtain ⟨t, rfl⟩ := (show ∃ t, u2 = Value.int b t from v2); cases h; exact ⟨.tuple_int b t p hu, .tuple_int b t p hu, .tuple_int b t p hu⟩
  | str b => obtain ⟨t, rfl⟩ := (show ∃ t, u2 = Value.str b t from v2); cases h; exact ⟨.tuple_str b t p hu, .tuple_str b t p hu, .tuple_str b t p hu⟩
  | @tup l2 ws ys h2 q2 =>
   cases (show u2 = Value.ref _ from v2)
   obtain ⟨its2, rw', p2, _⟩ := I.tuple h2
   obtain ⟨ef, ek, he⟩ := hg xs ys r h vs ws its its2 q1 q2 rv rw'
   have hit : ∀ j (a1 : j < its.toArray.size) (a2 : j < its2.toArray.size), EqAt A.in1 s its.toArray[j] its2.toArray[j] (ef j) := fun j a1 a2 =>
    he j _ _ (by rw [List.getElem_toArray]; exact List.getElem?_eq_getElem (by simpa using a1)) (by rw [List.getElem_toArray]; exact List.getElem?_eq_getElem (by simpa using a2))
   have k1 := RcAt.tuples (A := A) (s := s) p p2 hu hit
   have k2 := RcNeAt.tuples (A := A) (s := s) p p2 hu hit
   simp only [List.size_toArray] at k1 k2
   rw [← ek] at k1 k2
   refine ⟨k1, k2, ?_⟩
   by_cases hl : l1 = l2
   ·subst hl
    have := I.tuple_inj h1 h2
    subst this
    rw [hs xs ys vs r q1 q2 h]
    exact .same _
   ·exact .of_refs hl k1
  | _ => cases h
open SeqAt in
theorem QeQ {n : Nat} {A : Around} (I : Inv X pins σ H s)
  (ih : ∀ {v w : V} {u1 u2 : Value} {d e : D} {r : Bool}, eqF n d e = some r → Rep X.K ρ H v d → Rep X.K ρ H w e → RelV v u1 → RelV w u2 → EqAt A s u1 u2 r)
  {xs ys : List D} {k : Bool} (h : allF (eqF n) xs ys = some k) {vs ws : List V} {its its2 : List Value} (q1 : Reps X.K ρ H vs xs) (q2 : Reps X.K ρ H ws ys) (rv : Vals vs its) (rw' : Vals ws its2) :
  ∃ e : Nat → Bool, k = ((List.range (min its.length its2.length)).all e && its.length == its2.length) ∧ ∀ (j : Nat) x y, its[j]? = some x → its2[j]? = some y → EqAt A s x y (e j) := by
 refine ⟨itE (eqF n) xs ys, ?_, fun j x y hx hy => ?_⟩
 ·have l1 := rv.length
  have l2 := rw'.length
  have l3 := q1.length
  have l4 := q2.length
  rw [← l1, ← l2, l3, l4]
  exact QeL h
 ·obtain ⟨v, hv, ru⟩ := Vals.at rv hx
  obtain ⟨w, hw, rw2⟩ := Vals.at rw' hy
  obtain ⟨d, hd, rd⟩ := Reps.at q1 hv
  obtain ⟨e, he, re⟩ := Reps.at q2 hw
  obtain ⟨r, hr⟩ := QeK h j d e hd he
  have : itE (eqF n) xs ys j = r := by unfold itE; rw [hd, he]; dsimp only; rw [hr]; rfl
  rw [this]
  exact ih hr rd re ru rw2
open SeqAt in
theorem QeR (I : Inv X pins σ H s) : ∀ (n : Nat) {A : Around} {v w : V} {u1 u2 : Value} {d e : D} {r : Bool}, A.units + n < cLine → eqF n d e = some r → Rep X.K ρ H v d → Rep X.K ρ H w e → RelV v u1 → RelV w u2 → RcAt A s u1 u2 r ∧ RcNeAt A s u1 u2 (!r) ∧ EqAt A s u1 u2 r
 | 0, _, _, _, _, _, _, _, _, hu, h, r1, r2, v1, v2 => QeP I hu (fun _ _ _ z => by cases z) (fun _ _ _ _ _ _ z => by cases z) h r1 r2 v1 v2
 | n + 1, A, _, _, _, _, _, _, _, hu, h, r1, r2, v1, v2 => QeP I (by ac_nf)
   (fun xs ys k z vs ws its its2 q1 q2 rv rw' => QeQ I (fun h r1 r2 v1 v2 => (QeR I n (A := A.in1) (by show A.units + 1 + n < cLine; ac_nf) h r1 r2 v1 v2).2.2) z q1 q2 rv rw')
   (fun xs ys vs k q1 q2 z => QeN (fun v d e k a b c => QeO I n c a b) q1 q2 z) h r1 r2 v1 v2
end
end MM
namespace MM
open PySem PySem.Spec PyProof.Rows L2
section
variable {X : Cx} {K : PySem.W.Frag} {ρ : List Addr} {H : Hp} {st : Sto} {pins : List (Addr × Obj)} {σ : St} {s : Shared}
open SeqAt in
theorem QeS (hu : X.A.units + 60 < cLine) (I : Inv X pins σ H s) (sr : SR X.K ρ H st) {d e : D} {x y : V} {v u : Value} {R : Bool → Sto → List Addr → Hp → Prop} (r1 : Rep X.K ρ H x d) (r2 : Rep X.K ρ H y e) (rx : RelV x v) (ry : RelV y u)
  (p : Post X.K ρ H (eqB d e st) R) : ∃ r, R r st ρ H ∧ RcAt X.A s v u r ∧ RcNeAt X.A s v u (!r) := by
 have hu' : X.A.units < cLine := by ac_nf
 have gen : Post X.K ρ H ((match eqF 50 d e with | some r => ret r | none => bad : M Bool) st) R → ∃ r, R r st ρ H ∧ RcAt X.A s v u r ∧ RcNeAt X.A s v u (!r) := fun q => by
  cases h : eqF 50 d e with
  | none => rw [h] at q; exact q.elim
  | some r =>
   rw [h] at q
   obtain ⟨k1, k2, _⟩ := QeR I 50 (A := X.A) (by ac_nf) h r1 r2 rx ry
   exact ⟨r, q.ret sr, k1, k2⟩
 cases r1 with
 | non =>
  cases r2 with
  | @ref a n _ h =>
   obtain ⟨ds, e2, p1⟩ := Post.getL (Post.bnd p) sr
   obtain ⟨a', vs, ha, hv, r⟩ := sr.seq e2
   rw [h] at ha; cases ha
   cases (show v = Value.none from rx)
   cases (show u = Value.ref a from ry)
   obtain ⟨_, _, pl, _⟩ := I.list (SqL.of hv)
   exact ⟨false, p1.ret sr, .none_list pl.isList hu', .none_list pl.isList hu'⟩
  | _ => exact gen p
 | @ref a n _ h =>
  cases r2 with
  | non =>
   obtain ⟨ds, e2, p1⟩ := Post.getL (Post.bnd p) sr
   obtain ⟨a', vs, ha, hv, r⟩ := sr.seq e2
   rw [h] at ha; cases ha
   cases (show u = Value.none from ry)
   cases (show v = Value.ref a from rx)
   obtain ⟨_, _, pl, _⟩ := I.list (SqL.of hv)
   exact ⟨false, p1.ret sr, .list_none pl.isList hu', .list_none pl.isList hu'⟩
  | @ref b m _ h' =>
   obtain ⟨xs, e2, p1⟩ := Post.getL (Post.bnd p) sr
   obtain ⟨ys, e3, p2⟩ := Post.getL (Post.bnd p1) sr
   obtain ⟨a', vs, ha, hv, q1⟩ := sr.seq e2
   obtain ⟨b', ws, hb, hw, q2⟩ := sr.seq e3
   rw [h] at ha; cases ha
   rw [h'] at hb; cases hb
   cases (show v = Value.ref a from rx)
   cases (show u = Value.ref b from ry)
   obtain ⟨its, rv, pl, _⟩ := I.list (SqL.of hv)
   obtain ⟨its2, rw', pl2, _⟩ := I.list (SqL.of hw)
   have l1 := rv.length
   have l2 := rw'.length
   have l3 := q1.length
   have l4 := q2.length
   by_cases hl : xs.length = ys.length
   ·rw [if_pos hl] at p2
    cases h2 : allF (eqF 50) xs ys with
    | none => rw [h2] at p2; exact p2.elim
    | some r =>
     rw [h2] at p2
     obtain ⟨ef, ek, he⟩ := QeQ (A := X.A.in1) I (fun h r1 r2 v1 v2 => (QeR I 50 (A := X.A.in1) (by show X.A.units + 1 + 50 < cLine; ac_nf) h r1 r2 v1 v2).2.2) h2 q1 q2 rv rw'
     have hsz : its.toArray.size = its2.toArray.size := by rw [List.size_toArray, List.size_toArray]; ac_nf
     have hit : ∀ j (a1 : j < its.toArray.size) (a2 : j < its2.toArray.size), EqAt X.A.in1 s its.toArray[j] its2.toArray[j] (ef j) := fun j a1 a2 =>
      he j _ _ (by rw [List.getElem_toArray]; exact List.getElem?_eq_getElem (by simpa using a1)) (by rw [List.getElem_toArray]; exact List.getElem?_eq_getElem (by simpa using a2))
     have ek2 : (List.range its.toArray.size).all ef = r := by
      rw [ek, List.size_toArray]
      have : its.length = its2.length := by ac_nf
      rw [this]; simp
     have k1 := RcAt.lists (A := X.A) (s := s) pl.isList pl2.isList hsz hu' hit
     have k2 := RcNeAt.lists (A := X.A) (s := s) pl.isList pl2.isList hsz hu' hit
     rw [ek2] at k1 k2
     exact ⟨r, p2.ret sr, k1, k2⟩
   ·rw [if_neg hl] at p2
    have hne : (its.toArray.size != its2.toArray.size) = true := by
     rw [List.size_toArray, List.size_toArray]
     simp
     ac_nf
    exact ⟨false, p2.ret sr, .lists_lengths pl.isList pl2.isList hne hu', .lists_lengths pl.isList pl2.isList hne hu'⟩
  | _ => exact gen p
 | _ => cases r2 <;> exact gen p
theorem QeT (hu : X.A.units + 60 < cLine) : OpR X (compareOp .Eq) (rOf X.K eqD) := by
 intro pins s σ H x y v u Q I rx ry pq108; obtain ⟨ρ, st, d, e, sr, r1, r2, p⟩ := pq108
 obtain ⟨r, q, k1, _⟩ := QeS hu I sr r1 r2 rx ry p.bnd
 exact k1 _ _ _ _ ⟨.bl r, H, I, rfl, q.ret sr _ (.bl _)⟩
theorem QeU (hu : X.A.units + 60 < cLine) : OpR X (compareOp .NotEq) (rOf X.K neD) := by
 intro pins s σ H x y v u Q I rx ry pq109; obtain ⟨ρ, st, d, e, sr, r1, r2, p⟩ := pq109
 obtain ⟨r, q, _, k2⟩ := QeS hu I sr r1 r2 rx ry p.bnd
 exact k2 _ _ _ _ ⟨.bl (!r), H, I, rfl, q.ret sr _ (.bl _)⟩
end
section
variable {X : Cx} {a b c e o tg : Expr} {es : List Expr} {pos apos cpos : Pos} {fa fb fc : CE} {ca cb : CA} {ta tb : CT} {K : PySem.W.Frag} {ρ : List Addr} {H : Hp} {st : Sto} {x : Str} {p : Pos} {T : String}
theorem QeV (ho : SE X o fa) (ha : SE X e fb) (hbase : attributeBase o "append" X.env (eval o X.env) = eval o X.env := by rfl)
  (hfew : ((backTo cpos (starEach [e] X.env)).all (fun x => !x.1) && (backToKw cpos (keywordEach [] X.env)).all (fun x => x.1.isSome)
   && decide ([e].length + ([] : List Keyword).length + (if ([] : List Keyword).isEmpty then 0 else 1) < 30)) = true := by rfl)
  (hline : (apos.endLine == cpos.line) = true := by rfl) (hs : starEach [e] X.env = (false, eval e X.env) :: starEach [] X.env := by rfl) (hplain : (backTo cpos (starEach [] X.env)).any (·.1) = false := by rfl) :
  SE X (.Call (.Attribute o "append" apos) [e] [] cpos) (cAppend fa fb) :=
 (Qb3 PySem.F.plainAttrs_list PySem.F.slot_list_append PySem.F.type_list_append Qb5 ho (Qbt ha Qbs hs) hbase hfew hline hs hplain).of fun σ H Q h_ => h_.el fun ρ l st lr sr p => ⟨ρ, l, st, lr, sr, p.bnd.imp fun d st1 ρ1 H1 x1 s1 p1 v rv => by
  cases rv with
  | @ref a n kk h =>
   have hl : n < st1.length := by rw [← s1.len]; exact (List.getElem?_eq_some_iff.mp h).1
   obtain ⟨vs0, hv0⟩ := QcF kk
   refine ⟨.inl ⟨rfl, vs0, SqL.of hv0⟩, ρ1, l, st1, lr.mono x1, s1, (Post.bnd p1).imp fun y st2 ρ2 H2 x2 s2 p2 w rw' => ?_⟩
   have h2 : ρ2[n]? = some a := by
    obtain ⟨τ, e, _⟩ := x2.pre
    rw [e]; exact QcD h
   obtain ⟨ds, e2, p3⟩ := Post.getL (Post.bnd p2) s2
   obtain ⟨a', vs, ha, hv, r⟩ := s2.seq e2
   rw [h2] at ha; cases ha
   obtain ⟨hz, p4⟩ := Post.chk p3
   obtain ⟨s3, x3⟩ := s2.put (List.getElem?_eq_some_iff.mp e2).1 h2 hv (Reps.app r (.cons rw' .nil))
   have p5 := Post.bnd p4
   unfold putL at p5
   rw [e2] at p5
   exact ⟨a, vs, w, rfl, rfl, hv, by rw [r.length]; exact hz, (p5 ρ2 _ x3 s3).ret s3 _ .non⟩
  | _ => exact p1.elim⟩
theorem QeW : OpR X (binaryOp .Add) (rOf X.K addD) := by
 intro pins s σ H x y v u Q I rx ry pq110; obtain ⟨ρ, st, d, e, sr, r1, r2, p⟩ := pq110
 cases r1 with
 | int i =>
  cases r2 with
  | int j => exact Qa3 pins s σ H _ _ v u Q I rx ry ⟨i, j, rfl, rfl, p.ret sr _ (.int _)⟩
  | _ => exact p.elim
 | str i =>
  cases r2 with
  | str j => exact Qbj pins s σ H _ _ v u Q I rx ry ⟨i, j, rfl, rfl, (Post.chk p).1, (Post.chk p).2.ret sr _ (.str _)⟩
  | _ => exact p.elim
 | ref _ h =>
  cases r2 with
  | ref _ h' =>
   obtain ⟨xs, e2, p1⟩ := Post.getL (Post.bnd p) sr
   obtain ⟨ys, e3, p2⟩ := Post.getL (Post.bnd p1) sr
   obtain ⟨a', vs, ha, hv, q1⟩ := sr.seq e2
   obtain ⟨b', ws, hb, hw, q2⟩ := sr.seq e3
   rw [h] at ha; cases ha
   rw [h'] at hb; cases hb
   obtain ⟨hz, p3⟩ := Post.chk p2
   refine Qb6 pins s σ H _ _ v u Q I rx ry ⟨_, _, vs, ws, rfl, rfl, hv, hw, by rw [q1.length, q2.length]; exact hz, fun q hq => ?_⟩
   have nq := sr.fresh hq
   have x1 : Ex ρ H (ρ ++ [q]) (upd H q (.lst (vs ++ ws))) := Ex.newL hq
   refine p3 _ _ x1 ((sr.new hq).keep Qai nq ((Reps.app q1 q2).mono (Ex.new hq))) _ (.ref ⟨_, Qai, rfl⟩ ?_)
   rw [← sr.len]; simp
  | _ => exact p.elim
 | tup h1 q1 =>
  cases r2 with
  | tup h2 q2 =>
   obtain ⟨hz, p2⟩ := Post.chk p
   rename_i a1 vs xs b1 ws ys
   by_cases hx : vs = []
   ·subst hx
    cases q1
    obtain ⟨its, v1, ht, _⟩ := I.tuple h1
    obtain ⟨its2, v2, hb, _⟩ := I.tuple h2
    cases v1
    have ev : v = Value.ref a1 := rx
    have eu : u = Value.ref b1 := ry
    subst ev eu
    obtain ⟨⟨cls, dd, data, sl⟩, ho, hc, n, hd⟩ := ht
    obtain ⟨⟨cls2, dd2, data2, sl2⟩, ho2, hc2, n2, hd2⟩ := hb
    simp only at hc hd hc2 hd2
    subst hc hd hc2 hd2
    refine concat_meets (E := X.xe) ⟨_, ho, rfl⟩ ⟨_, ho2, rfl⟩ noFill_tuple_add seq_tuple_add PySem.F.slot_tuple_add PySem.F.entry_tuple_add (PySem.F.args_tuple_add_2 _ _) (tuple_addW0 a1 b1 _ _ n n2 dd dd2 sl sl2 (by simp)) ⟨ho, ho2, ?_⟩
    exact ⟨.ref b1, H, I, rfl, p2.ret sr _ (.tup h2 q2)⟩
   ·refine QbM pins s σ H _ _ v u Q I rx ry ⟨_, _, vs, ws, rfl, rfl, h1, h2, hx, by rw [q1.length, q2.length]; exact hz, fun he => ?_, fun _ q hq => ?_⟩
    ·subst he
     cases q2
     rw [List.append_nil] at p2
     exact p2.ret sr _ (.tup h1 q1)
    ·exact p2 _ _ (Ex.new hq) (sr.new hq) _ (.tup (SqT.of Qai) ((Reps.app q1 q2).mono (Ex.new hq)))
  | _ => exact p.elim
 | _ => cases r2 <;> exact p.elim
theorem _root_.L2.SlR.of {r r' : V → Option Int → Option Int → Hp → VK → Prop} (h : SlR X r) (g : ∀ x lo hi H Q, r' x lo hi H Q → r x lo hi H Q) : SlR X r' := fun pins s σ H x v vl vu lo hi sl Q I rx hs pl pu q => h pins s σ H x v vl vu lo hi sl Q I rx hs pl pu (g x lo hi H Q q)
noncomputable def toOf (K : PySem.W.Frag) (f : CO) : TO := fun σ H Q => ∃ ρ l st, LR K ρ H σ l ∧ SR K ρ H st ∧ Post K ρ H (f l st) fun o _ _ H' => Q o H'
abbrev SO (X : Cx) (e : Option Expr) (f : CO) : Prop := PO X e (toOf X.K f)
theorem QeX : SO X none oNone := fun pins s σ H Q I h_ => h_.el fun ρ l st lr sr p => QbI pins s σ H Q I (p.ret sr)
theorem QeY (h : SE X e fa) : SO X (some e) (oSome fa) := fun pins s σ H Q I h_ => h_.el fun ρ l st lr sr p => QbJ h pins s σ H Q I ⟨ρ, l, st, lr, sr, p.bnd.imp fun d st1 ρ1 H1 x1 s1 p1 v rv => by
 cases rv with
 | int i => exact ⟨i, rfl, p1.ret s1⟩
 | _ => exact p1.elim⟩
theorem Reps.cut {vs : List V} {ds : List D} (r : Reps K ρ H vs ds) (lo hi : Option Int) : Reps K ρ H (cutV vs lo hi) (cutD ds lo hi) := by
 unfold cutV cutD
 have e : ∀ n d o, HT.sIx n d o = MM.sIx n d o := fun n d o => by cases o <;> rfl
 rw [e, e, r.length]
 exact (r.drop _).take _
theorem QeZ {lo hi : Option Expr} {fl fh : CO} {p2 : Pos} (h : SE X e fa) (hl : SO X lo fl) (hh : SO X hi fh) : SL X (.Subscript e (.Slice lo hi none p2) pos) (aSlice fa fl fh) :=
 (QbK QbY h hl hh).of fun σ H Q h_ => h_.el fun ρ l st lr sr p => ⟨ρ, l, st, lr, sr, p.bnd0.imp fun d st1 ρ1 H1 x1 s1 p1 v rv => ⟨ρ1, l, st1, lr.mono x1, s1, (p1.bnd0.left x1).imp fun i st2 ρ2 H2 x2 s2 p2 => ⟨ρ2, l, st2, (lr.mono x1).mono x2, s2, (p2.bnd0.left (x1.trans x2)).imp fun j st3 ρ3 H3 x3 s3 p3 => by
  have rv3 := (rv.mono x2).mono x3
  have x03 := x1.trans (x2.trans x3)
  have fin : ∀ {a : Addr} {vs : List V} {ds : List D}, SqL X.K H3 a vs → Reps X.K ρ3 H3 vs ds → Post X.K ρ H (ret (cutD ds i j) st3) (fun ds _ ρ' H' => ∀ a vs, H a = none → a ∉ ρ' → H' a = some (.lst vs) → Reps X.K ρ' H' vs ds → Q (.ref a) H') → rSlL X.K (.ref a) i j H3 Q := fun {a vs ds} hs r q =>
   ⟨a, vs, rfl, hs, fun q1 hq1 => by
    have hn : H q1 = none := by
     cases z : H q1 with
     | none => rfl
     | some o => exact absurd hq1 (x03.trk q1 o z)
    exact q ρ3 _ (x03.trans (Ex.new hq1)) (s3.new hq1) q1 _ hn (s3.fresh hq1) Qai ((Reps.cut r i j).mono (Ex.new hq1))⟩
  cases rv3 with
  | lit h r => exact fin h.seq r p3
  | ref _ h =>
   obtain ⟨ds, e2, p4⟩ := Post.getL (p3.bnd0.left x03) s3
   obtain ⟨a', vs, ha, hv, r⟩ := s3.seq e2
   rw [h] at ha; cases ha
   exact fin (SqL.of hv) r p4
  | _ => exact p3.elim⟩⟩⟩
end
end MM
namespace MM
open PySem PySem.Spec PyProof.Rows L2
open PySem.AutoSeq1 (wpAny_loadPart')
theorem Qe0 (l : Addr) (items : Array Value) (n : Nat) (dct : Option Addr) (sl : Array (Option Value)) :
  Meets (Builtin.«enumerate.__new__» ⟨[.type "enumerate", .ref l], []⟩) (fun _ R s => s.heap.get? l = some { cls := .type "tuple", dict := dct, data := .seq items n, slots := sl } ∧
   R (.ok (.ret (.ref (s.heap.push { cls := .type "tuple_iterator", data := .fields #[.ref l, .int 0 0] }).objs.size)))
    { s with heap := (s.heap.push { cls := .type "tuple_iterator", data := .fields #[.ref l, .int 0 0] }).push { cls := .type "enumerate", data := .fields #[.none, .bool false, .ref s.heap.objs.size, rawInt 0, .none, .none] } }) :=
 .of_wp fun prog w A R s h => by
  obtain ⟨hp, g, d, tk, os⟩ := s; obtain ⟨hl, h⟩ := h; have hsub := sub_enumerate
  have hT : Heap.IsTuple (Shared.heap ⟨hp, g, d, tk, os⟩) l items := ⟨_, hl, rfl, n, rfl⟩
  wp_walk using wpAny_loadPart' hl; refine wpAny_stack_any fun st => wpAny_pure ?_; split
  ·rename_i c _ _ _ _ _; cases (c == Value.type "enumerate") <;> (wp_walk using wpAny_loadPart' hl, wpAny_pyIter_tuple hT; exact ⟨_, rfl, h⟩)
  ·wp_walk using wpAny_loadPart' hl, wpAny_pyIter_tuple hT; exact ⟨_, rfl, h⟩
section
variable {prog : Program} {w : World} {A : Around} {E : Value → Shared → Prop} {s : Shared}
theorem Qe1 {l : Addr} {items : Array Value} {Q : Value → Shared → Prop} (hL : s.heap.IsTuple l items)
  (h : ∀ h', IsEnum h' (s.heap.objs.size + 1) s.heap.objs.size 0 .none → h'.IsTupleIter s.heap.objs.size l 0 → h'.objs.size = s.heap.objs.size + 2 → (∀ b o, s.heap.get? b = some o → h'.get? b = some o) → Q (.ref (s.heap.objs.size + 1)) { s with heap := h' }) :
  wpAny (model prog w) A (call (.type "enumerate") [.ref l]) Q E s := by
 obtain ⟨⟨c, dct, dt, sl⟩, hl, hc, n, hd⟩ := hL
 replace hc : c = .type "tuple" := hc
 replace hd : dt = .seq items n := hd
 subst hc hd
 refine callType_new F.called_enumerate (by decide) (F.typeCall_enumerate_1 _) (F.newCall_enumerate_1 _) (fun obj => F.args_object_init_2 obj _) F.entry_enumerate_new (Qe0 l items n dct sl) ⟨hl, ?_⟩
 have hz : (s.heap.push { cls := .type "tuple_iterator", data := .fields #[.ref l, .int 0 0] }).objs.size = s.heap.objs.size + 1 := Heap.size_push ..
 show _ ∧ _; rw [hz]
 have he : IsEnum ((s.heap.push { cls := .type "tuple_iterator", data := .fields #[.ref l, .int 0 0] }).push { cls := .type "enumerate", data := .fields #[.none, .bool false, .ref s.heap.objs.size, rawInt 0, .none, .none] }) (s.heap.objs.size + 1) s.heap.objs.size 0 .none := by
  have q := Heap.get?_push_size (s.heap.push { cls := .type "tuple_iterator", data := .fields #[.ref l, .int 0 0] }) (o := { cls := .type "enumerate", data := .fields #[.none, .bool false, .ref s.heap.objs.size, rawInt 0, .none, .none] }) rfl
  rw [hz] at q; exact q
 exact ⟨⟨_, he, rfl⟩, h _ he ⟨_, Heap.get?_push_of_some _ (Heap.get?_push_size _ rfl), rfl, rfl⟩ (by rw [Heap.size_push, hz]) fun b o x => Heap.get?_push_of_some _ (Heap.get?_push_of_some _ x)⟩
theorem Qe2 {it l : Addr} {i : Nat} {items} {x : Value} {Q : Value → Shared → Prop} (hit : s.heap.IsTupleIter it l i) (hl : s.heap.IsTuple l items) (hx : items[i]? = some x)
  (hQ : ∀ h', h'.IsTupleIter it l (i + 1) → Heap.SameBut it s.heap h' → Q x { s with heap := h' }) : wpAny (model prog w) A (Builtin.SmallTypes.nextOf (.ref it)) Q E s := by
 obtain ⟨o, ho, hc, hd⟩ := id hit; obtain ⟨ol, hol, _, nl, hdl⟩ := hl
 unfold Builtin.SmallTypes.nextOf
 refine wpAny_bind (wpAny_callSpecial?_slot (name := Str.ofString "__next__") hit.typeIs F.slot_tuple_iterator_next (wpAny_call_entry F.slot_tuple_iterator_next hit.typeIs F.entry_tuple_iterator_next ?_ (F.args_tuple_iterator_next_1 _)))
 show wpAny _ _ (field (.ref it) 0 >>= _) _ _ s; refine wpAny_bind (wpAny_field ho hd (x := .ref l) rfl ?_)
 show wpAny _ _ (if (Value.ref l == Value.none) = true then _ else _) _ _ s; rw [if_neg (show ¬ ((Value.ref l == Value.none) = true) from Bool.false_ne_true)]
 show wpAny _ _ (field (.ref it) 1 >>= _) _ _ s; refine wpAny_bind (wpAny_field ho hd (x := .int i 0) rfl ?_)
 show wpAny _ _ (seqItems? (.ref l) >>= _) _ _ s; refine wpAny_bind (wpAny_seqItems hol hdl ?_); simp only [Int.toNat_natCast, hx]
 refine wpAny_bind (wpAny_setField ho hd (by simp) (wpAny_pure ⟨x, rfl, wpAny_pure (hQ _ ⟨_, Heap.get?_update_self _ ho (Obj.isFreed_of_fields (Obj.data_mapFields hd _)), (Obj.cls_mapFields ..).trans hc, ?_⟩ (Heap.SameBut.update ..))⟩))
 rw [Obj.data_mapFields hd]; simp [rawInt]
theorem Qe3 {it l : Addr} {i : Nat} {items} {Q : Value → Shared → Prop} (hh : A.handled = none) (hit : s.heap.IsTupleIter it l i) (hl : s.heap.IsTuple l items) (hx : items[i]? = none)
  (hE : ∀ h' e, Heap.ExtBut it s.heap h' → (∃ o, h'.get? e = some o ∧ o.cls = .type "StopIteration") → E (.ref e) { s with heap := h' }) : wpAny (model prog w) A (Builtin.SmallTypes.nextOf (.ref it)) Q E s := by
 obtain ⟨o, ho, hc, hd⟩ := id hit; obtain ⟨ol, hol, _, nl, hdl⟩ := hl
 unfold Builtin.SmallTypes.nextOf
 refine wpAny_bind (wpAny_callSpecial?_slot (name := Str.ofString "__next__") hit.typeIs F.slot_tuple_iterator_next (wpAny_call_entry F.slot_tuple_iterator_next hit.typeIs F.entry_tuple_iterator_next ?_ (F.args_tuple_iterator_next_1 _)))
 show wpAny _ _ (field (.ref it) 0 >>= _) _ _ s; refine wpAny_bind (wpAny_field ho hd (x := .ref l) rfl ?_)
 show wpAny _ _ (if (Value.ref l == Value.none) = true then _ else _) _ _ s; rw [if_neg (show ¬ ((Value.ref l == Value.none) = true) from Bool.false_ne_true)]
 show wpAny _ _ (field (.ref it) 1 >>= _) _ _ s; refine wpAny_bind (wpAny_field ho hd (x := .int i 0) rfl ?_)
 show wpAny _ _ (seqItems? (.ref l) >>= _) _ _ s; refine wpAny_bind (wpAny_seqItems hol hdl ?_); simp only [Int.toNat_natCast, hx]
 refine wpAny_bind (wpAny_rule (wpAny_bind (wpAny_setField ho hd (by simp) ?_))); show wpAny _ _ (newExc (.type "StopIteration") [] >>= _) _ _ _
 refine wpAny_bind ?_; simp only [newExc, newTuple]; refine wpAny_bind (wpAny_newObj_type ?_ (by size_fits))
 refine wpAny_bind (m := firstArgMember _ _) (wpAny_of_eq (a := Value.none) (by first | rfl | (simp only [firstArgMember]; rfl)) (wpAny_newObj_type ?_ (by size_fits)))
 simp only [raiseNew]; refine wpAny_bind (wpAny_handled ?_); first | rw [show A.in1.handled = none from hh] | rw [hh]
 exact wpAny_bind (wpAny_pure (wpAny_throw (hE _ _ (((Heap.SameBut.update ..).extBut.push _).push _) ⟨_, Heap.get?_push_size _ rfl, rfl⟩)))
end
theorem Qe4 {prog : Program} {w : World} {A : Around} (hh : A.handled = none) (it l : Addr) (hne : l ≠ it) (items : Array Value) :
  Draws prog w A it [it, l] items.size (fun i v => items[i]? = some v) (fun i h => h.IsTupleIter it l i ∧ h.IsTuple l items) where
 live := fun _ _ st => let ⟨o, ho, _⟩ := st.1; ⟨o, ho⟩
 frame := fun _ _ _ st hk => ⟨let ⟨o, e, r⟩ := st.1; ⟨o, hk it (by simp) o e, r⟩, let ⟨o, e, r⟩ := st.2; ⟨o, hk l (by simp) o e, r⟩⟩
 item := fun i s Q E hi st hQ => Qe2 st.1 st.2 (x := items[i]) (by simp [hi]) fun h' hit' hs' => hQ _ h' s.toks (by simp [hi]) ⟨hit', st.2.extBut hs'.extBut hne⟩ hs'
 done := fun s Q E st hE => Qe3 hh st.1 st.2 (by simp) hE
noncomputable def Ite (K : PySem.W.Frag) (a : Addr) : It :=
 ⟨fun i H => ∃ xs x, SqT K H a xs ∧ xs[i]? = some x, fun i H x H' => ∃ T v, x = .ref T ∧ H T = none ∧ (∀ xs, SqT K H a xs → xs[i]? = some v) ∧ H' = upd H T (.tup [.int i, v]), fun i H => ∃ xs, SqT K H a xs ∧ xs.length ≤ i⟩
section
variable {X : Cx} {tg : Expr} {es : List Expr} {pos : Pos} {fa : CE} {K : PySem.W.Frag} {ρ : List Addr} {H : Hp} {st : Sto}
theorem Qe5 {P : Program} {w : World} {k : Nat} (a e it : Addr) (hei : e ≠ it) : Turn P w K (.Tuple es k pos) (Ite K a) [e, it] e (fun i h => (∃ old, IsEnum h e it i old) ∧ h.IsTupleIter it a i) where
 mem := by simp
 obj := fun i h pq71 b hb => by
  obtain ⟨⟨old, he⟩, hit⟩ := pq71
  rcases List.mem_cons.mp hb with z | z
  ·subst z; exact ⟨_, he, fun v q => by cases q⟩
  ·have z' : b = it := by simpa using z
   subst z'
   obtain ⟨o, e, c, d⟩ := hit
   exact ⟨o, e, fun v q => by rw [d] at q; cases q⟩
 keep := fun i h h' pq72 kp => by obtain ⟨⟨old, he⟩, hit⟩ := pq72; exact ⟨⟨old, kp e (by simp) _ he⟩, let ⟨o, x, r⟩ := hit; ⟨o, kp it (by simp) o x, r⟩⟩
 item := by
  intro X hP hw hK hc i pins s σ H E I hf pq111 hg; obtain ⟨⟨old, he⟩, hit⟩ := pq111
  subst hP hw hK
  obtain ⟨xs, x, hq, hx⟩ := hg
  obtain ⟨its, rv, p, hz⟩ := I.tuple hq
  obtain ⟨u, hu, ru⟩ := rv.get hx
  have hlt : i < its.toArray.size := by rw [List.size_toArray]; exact (List.getElem?_eq_some_iff.mp hu).1
  obtain ⟨f0, f1, f2, f3, f4, f5⟩ := hf e (by simp)
  obtain ⟨g0, g1, g2, g3, g4, g5⟩ := hf it (by simp)
  have hai : a ≠ it := fun z => by
   obtain ⟨o, e1, c, _⟩ := hit
   obtain ⟨o', e2, c', _⟩ := p
   rw [z, e1] at e2; cases e2; rw [c] at c'; exact absurd (Value.type.inj c') (by decide)
  have hae : a ≠ e := fun z => by
   obtain ⟨o', e2, c', _⟩ := p
   rw [z, he] at e2; cases e2; exact absurd (Value.type.inj c') (by decide)
  have D := Qe4 (prog := X.prog) (w := X.w) (A := X.A.in1) (I.ok.hd hc) it a hai its.toArray
  refine wpAny_pyNext_enum_itemD D he ⟨hit, p⟩ hlt hei (by simp; exact ⟨hei, hae.symm⟩) fun y h' tk hP ho hst hT hsz hk => ?_
  have ey : y = u := by
   have : its.toArray[i]? = some u := by simpa using hu
   rw [this] at hP; cases hP; rfl
  subst ey
  refine ⟨_, rfl, wpAny_letOwnedTupleGo_enum ho fun h2 he2 hs2 => ?_⟩
  have helt : e < s.heap.objs.size := Heap.lt_size he
  have hTn : H s.heap.objs.size = none := I.hok.fresh (Nat.le_refl _)
  have keep : ∀ b o, b ≠ e → b ≠ it → s.heap.get? b = some o → h2.get? b = some o := fun b o hb1 hb2 e1 => (hs2.2 b hb1).trans (hk b o hb1 hb2 e1)
  have hT2 : h2.get? s.heap.objs.size = some { cls := .type "tuple", data := .seq #[.int i tk, y] } := (hs2.2 _ (Nat.ne_of_gt helt)).trans hT
  have I2 : Inv X pins σ (upd H s.heap.objs.size (.tup [.int i, x])) { s with heap := h2, toks := tk + 1 } := by
   have ne : ∀ b o, H b = some o → b ≠ e ∧ b ≠ it := fun b o q => ⟨fun z => (by rw [z, f0] at q; cases q), fun z => (by rw [z, g0] at q; cases q)⟩
   refine I.step (g' := s.gens) (d' := s.drawn) (ch := [e, it]) (fun b hb => ?_) (fun b o _ _ hc' e1 _ => keep b o (fun z => hc' (by simp [z])) (fun z => hc' (by simp [z])) e1)
    (fun b o _ _ hc' e1 _ => ⟨o.slots, keep b o (fun z => hc' (by simp [z])) (fun z => hc' (by simp [z])) e1⟩) (fun b o hc' e1 n1 => by rw [Qaj (Nat.ne_of_lt (Heap.lt_size e1))]; exact n1) (fun b o hc' e1 => ⟨o, keep b o (fun z => hc' (by simp [z])) (fun z => hc' (by simp [z])) e1⟩)
    (fun b ys q => by rw [Qaj (Qal q hTn)]; exact q) (fun b o ys q => by rw [Qaj (Qal q hTn)]; exact q) (fun b ps q => ⟨#[], by rw [Qaj (Qal q hTn), q]; simp⟩) (fun m hm => ?_) ?_ I.bare
   ·rcases List.mem_cons.mp hb with z | z
    ·subst z; exact ⟨f3, f1, f4, f5⟩
    ·have z' : b = it := by simpa using z
     subst z'; exact ⟨g3, g1, g4, g5⟩
   ·obtain ⟨o, es', ep, e1, r⟩ := hm
    exact ⟨o, es', ep, keep _ o f1.symm g1.symm e1, r⟩
   ·intro b o q
    by_cases hb : b = s.heap.objs.size
    ·subst hb
     rw [Qai] at q; cases q
     exact ⟨by show 2 ≤ sizeLine; decide, [.int i tk, y], .cons ⟨tk, rfl⟩ (.cons ru .nil), ⟨_, hT2, rfl, _, rfl⟩⟩
    ·rw [Qaj hb] at q
     have := ne b o q
     refine (I.hok b o q).stay (fun c v hc' r => keep c v ?_ ?_ r) (fun c q' => by rw [Qaj (Qal q' hTn)]; exact q') fun c ys q' => by rw [Qaj (Qal q' hTn)]; exact q'
     ·rcases hc' with z | z
      ·rw [z]; exact this.1
      ·exact (ne c _ z).1
     ·rcases hc' with z | z
      ·rw [z]; exact this.2
      ·exact (ne c _ z).2
  refine ⟨.ref s.heap.objs.size, _, I2, rfl, ⟨_, x, rfl, hTn, fun ys hy => by rw [I.tuple_inj hy hq]; exact hx, rfl⟩, ⟨⟨y, by simpa using he2⟩, let ⟨o, x1, r⟩ := hst.1; ⟨o, (hs2.2 it hei.symm).trans x1, r⟩⟩, fun b hb => ?_⟩
  rw [Qaj]
  ·exact (hf b hb).1
  ·intro z
   have : b < s.heap.objs.size := by
    rcases List.mem_cons.mp hb with q | q
    ·rw [q]; exact helt
    ·have q' : b = it := by simpa using q
     rw [q']; obtain ⟨o, x1, _⟩ := hit; exact Heap.lt_size x1
   exact absurd this (by rw [z]; exact Nat.lt_irrefl _)
 done := by
  intro X hP hw hK hc i pins s σ H E I hf pq112 hg; obtain ⟨⟨old, he⟩, hit⟩ := pq112
  subst hP hw hK
  obtain ⟨xs, hq, hx⟩ := hg
  obtain ⟨its, rv, p, hz⟩ := I.tuple hq
  obtain ⟨g0, g1, g2, g3, g4, g5⟩ := hf it (by simp)
  have hl := rv.length
  have hT : s.TypeIs (.ref e) "enumerate" := ⟨_, he, rfl⟩
  unfold pyNext
  refine wpAny_bind (wpAny_attempt (wpAny_callSpecial?_slot (name := Str.ofString "__next__") hT F.slot_enumerate_next (wpAny_call_entry F.slot_enumerate_next hT F.entry_enumerate_next ?_ (F.args_enumerate_next_1 _))))
  show wpAny _ _ (field (.ref e) 2 >>= _) _ _ _; refine wpAny_bind (wpAny_field he rfl (x := .ref it) rfl ?_)
  refine wpAny_bind (Qe3 (A := X.A.in1) (I.ok.hd hc) hit p (by simp; ac_nf) fun h' x he' pq73 => ?_)
  obtain ⟨o, ho, hc'⟩ := pq73
  exact wpAny_bind (wpAny_isInstance (T := "StopIteration") (b := true) ⟨o, ho, hc'⟩ isSubtype_stop (wpAny_pure ⟨rfl, I.turned (t' := s.toks) (fun b o hb e => he' b o hb e) g0 g1 g3 g4 g5⟩))
 self := fun _ _ _ _ _ pq74 h => by obtain ⟨⟨old, he⟩, _⟩ := pq74; exact wpAny_pyIter_enum he h
theorem Qe6 {b : Expr} {p tpos : Pos} {k : Nat} (hg : Gl X "enumerate") (hm : X.mg "enumerate" = none) (h : SE X b fa) (hs : starEach [b] X.env = [(false, eval b X.env)] := by rfl) :
  SI X (.Tuple es k tpos) (.Call (.Name "enumerate" p) [b] [] pos) (iEnum fa) := by
 intro pins s σ H R I pq113; obtain ⟨ρ, l, st, lr, sr, q⟩ := pq113
 refine Call_ (Qaz I hg hm boot_enumerate (PyProof.Rows.callWith_type1 (thn (QdA h Qdz hs pos pins s σ H (fun vs H1 => ∃ a xs, vs = [.ref a] ∧ SqT X.K H1 a xs ∧ R (Ite X.K a) H1) I ⟨ρ, l, st, lr, sr, ?_⟩) fun us s1 ⟨vs, H1, I1, r1, q1⟩ => ?_) hs rfl))
 ·have q' := Post.bnd q
  show Post X.K ρ H (MM.bnd (fa l) _ st) _
  unfold MM.bnd
  cases e : fa l st with
  | bad => rw [e] at q'; exact q'
  | exc _ _ => rw [e] at q'; exact q'
  | ok d st1 =>
   rw [e] at q'
   show ∀ ρ' H', Ex ρ H ρ' H' → SR X.K ρ' H' st1 → _
   intro ρ1 H1 x1 s1 vs rvs
   have p1 := q' ρ1 H1 x1 s1
   cases rvs with
   | cons rv rt =>
    cases rt
    cases rv with
    | @tup a ws ds ht r =>
     refine ⟨a, ws, rfl, ht, p1.ret s1 _ ?_⟩
     intro ρ2 H2 st2 x2 s2 _
     have hl := r.length
     have ht2 : SqT X.K H2 a ws := SqT.mono x2.up ht
     have len : ((rngD 0 ds.length).zipWith (fun i d => D.tup [i, d]) ds).length = ds.length := by simp [rngD]
     refine ⟨⟨ws, ht2, by rw [len, hl]; exact Nat.le_refl _⟩, fun i d e1 => ?_⟩
     have hi : i < ds.length := by rw [← len]; exact (List.getElem?_eq_some_iff.mp e1).1
     have ed : d = .tup [.int i, ds[i]] := by
      rw [List.getElem?_zipWith, rngD, List.getElem?_map, List.getElem?_range hi, List.getElem?_eq_getElem hi] at e1
      have := Option.some.inj e1
      rw [← this]; simp
     subst ed
     obtain ⟨v, hv, rv⟩ := (r.mono x2).get (List.getElem?_eq_getElem hi)
     refine ⟨⟨ws, v, ht2, hv⟩, fun y H3 pq76 => ?_⟩
     obtain ⟨T, w, ey, hn, hw, eH⟩ := pq76
     subst ey eH
     have ew := hw ws ht2
     rw [hv] at ew; cases ew
     have x3 : Ex ρ2 H2 ρ2 (upd H2 T (.tup [.int i, v])) := Ex.new hn
     exact ⟨x3, s2.new hn, .tup (SqT.of Qai) (.cons (.int _) (.cons (rv.mono x3) .nil))⟩
    | _ => exact p1.elim
 ·obtain ⟨a, xs, e, hq, hR⟩ := q1
  subst e
  obtain ⟨u, rfl, ru⟩ := Qbk r1
  cases ru
  obtain ⟨its, rv, p1, hz⟩ := I1.tuple hq
  refine Qe1 p1 fun h' he hit hsz kp => wpAny_pyIter_enum he ?_
  have I2 : Inv X pins σ H1 { s1 with heap := h' } := I1.kept (t' := s1.toks) kp
  refine ⟨s1.heap.objs.size + 1, [s1.heap.objs.size + 1, s1.heap.objs.size], _, Ite X.K a, H1, rfl, I2, Qe5 a (s1.heap.objs.size + 1) s1.heap.objs.size (Nat.succ_ne_self _), ⟨⟨_, he⟩, hit⟩, fun b hb => ?_, hR⟩
  have hle : s1.heap.objs.size ≤ b := by
   rcases List.mem_cons.mp hb with z | z
   ·rw [z]; exact Nat.le_succ _
   ·have z' : b = s1.heap.objs.size := by simpa using z
    rw [z']; exact Nat.le_refl _
  exact I1.fpOk hle (I1.hok.fresh hle)
end
end MM
namespace MM
open PySem PySem.Spec PyProof.Rows L2
section
variable {X : Cx} {K : PySem.W.Frag} {ρ : List Addr} {H : Hp} {st : Sto}
theorem Post.hasK {n : Nat} {k : D} {R : Bool → Sto → List Addr → Hp → Prop} (h : Post K ρ H (MM.hasK n k st) R) (s : SR K ρ H st) : ∃ b kvs, st[n]? = some (.dct b kvs) ∧ kOk b k = true ∧ R (lkK kvs k).isSome st ρ H := by
 obtain ⟨b, kvs, e, p1⟩ := Post.getDc (Post.bnd h) s
 obtain ⟨hk, p2⟩ := Post.chk p1
 exact ⟨b, kvs, e, hk, p2.ret s⟩
end
section
variable {X : Cx} {a b c e o tg : Expr} {es : List Expr} {pos apos cpos : Pos} {fa fb fc : CE} {ca cb : CA} {ta tb : CT} {K : PySem.W.Frag} {ρ : List Addr} {H : Hp} {st : Sto} {x : Str} {p : Pos} {T id : String} {body : List Stmt} {cs : CS}
end
end MM
namespace MM
open PySem PySem.Spec PyProof.Rows L2
section
variable {X : Cx} {e st : Expr} {pos p2 p3 p4 : Pos} {fa : CE} {te : TE} {j : Nat}
end
end MM
namespace MM
open PySem
end MM
namespace MM
open PySem PySem.Spec PyProof.Rows L2
section
variable {prog : Program} {w : World} {A : Around} {s : Shared} {Q : Bool → Shared → Prop}
end
section
variable {X : Cx} {K : PySem.W.Frag} {ρ : List Addr} {H : Hp} {st : Sto}
theorem Qe7 {h : Heap} {a : Addr} {m m' : Str → Option Value} (x : h.Ns a m) (y : h.Ns a m') : m = m' := by
 obtain ⟨o, es, ep, e1, e2, _, e3⟩ := x
 obtain ⟨o', es', ep', f1, f2, _, f3⟩ := y
 rw [e1] at f1; cases f1
 rw [e2] at f2; cases f2
 funext n
 rw [← e3 n, f3 n]
theorem Reps.pick : ∀ {vs : List V} {ds : List D} (i : Nat), Reps K ρ H vs ds → Rep K ρ H (vs.getD i .non) (ds.getD i .non)
 | _, _, _, .nil => by simp; exact .non
 | _, _, 0, .cons r t => by simpa using r
 | _, _, i + 1, .cons r t => by simpa using Reps.pick i t
theorem Vals.pick : ∀ {vs : List V} {us : List Value} (i : Nat), Vals vs us → RelV (vs.getD i .non) (us.getD i .none)
 | _, _, _, .nil => by simp; rfl
 | _, _, 0, .cons r t => by simpa using r
 | _, _, i + 1, .cons r t => by simpa using Vals.pick i t
theorem Reps.picks {vs : List V} {ds : List D} (r : Reps K ρ H vs ds) : ∀ (p : List Nat), Reps K ρ H (p.map fun i => vs.getD i .non) (p.map fun i => ds.getD i .non)
 | [] => .nil
 | i :: p => .cons (Reps.pick i r) (Reps.picks r p)
theorem Vals.picks {vs : List V} {us : List Value} (r : Vals vs us) : ∀ (p : List Nat), Vals (p.map fun i => vs.getD i .non) (p.map fun i => us.getD i .none)
 | [] => .nil
 | i :: p => .cons (Vals.pick i r) (Vals.picks r p)
theorem Qe8 {P : Program} {w : World} {H : Hp} {h : Heap} {a : Addr} {o : HO} (x : ObjOk P w H h a o) : ∃ ob, h.get? a = some ob := by
 cases o with
 | lst _ => obtain ⟨_, _, _, _, e⟩ := x; exact ⟨_, e⟩
 | tup _ => obtain ⟨_, _, _, ob, e, _⟩ := x; exact ⟨_, e⟩
 | dK _ => obtain ⟨_, _, _, _, ob, _, _, e, _⟩ := x; exact ⟨_, e⟩
 | dT _ => obtain ⟨_, _, _, _, ob, _, _, e, _⟩ := x; exact ⟨_, e⟩
 | set _ _ => obtain ⟨ob, _, _, _, e, _⟩ := x; exact ⟨_, e⟩
 | ins _ _ _ => obtain ⟨_, _, _, e, _⟩ := x; exact ⟨_, e⟩
 | own _ => obtain ⟨_, e⟩ := x; exact ⟨_, e⟩
 | xd _ => obtain ⟨_, ⟨_, _, _, e, _⟩, _⟩ := x; exact ⟨_, e⟩
 | rng _ _ => obtain ⟨_, _, _, e⟩ := x; exact ⟨_, e⟩
 | frz _ _ => obtain ⟨e, _⟩ := x; exact ⟨_, e⟩
 | tbl _ => exact ⟨_, (show h.get? a = some _ from x)⟩
 | met _ _ => exact ⟨_, (show h.get? a = some _ from x)⟩
 | ext _ => obtain ⟨_, ⟨_, e⟩, _⟩ := x; exact ⟨_, e⟩
end
end MM
namespace MM
open PySem PySem.Spec PyProof.Rows L2
section
variable {X : Cx} {pins : List (Addr × Obj)} {σ : St} {H : Hp} {s : Shared} {h' : Heap} {ch : List Addr}
end
section
variable {X : Cx} {tg : Expr} {es : List Expr} {pos : Pos} {fa fb : CE} {K : PySem.W.Frag} {ρ : List Addr} {H : Hp} {st : Sto}
end
end MM
namespace MM
open PySem PySem.Spec PyProof.Rows L2
structure Src (prog : Program) (w : World) (A : Around) (it src : Addr) (val : Nat → Option Value) (P : Nat → Heap → Prop) : Prop where
 there : ∀ k h, P k h → ∃ o, h.get? it = some o
 keep : ∀ k h h', P k h → (∀ b, b = it ∨ b = src → ∀ o, h.get? b = some o → h'.get? b = some o) → P k h'
 item : ∀ k x (s : Shared) (Q : Value → Shared → Prop) (E : Value → Shared → Prop), P k s.heap → val k = some x → (∀ h', P (k + 1) h' → Heap.SameBut it s.heap h' → Q x { s with heap := h' }) → wpAny (model prog w) A (Builtin.SmallTypes.nextOf (.ref it)) Q E s
 done : ∀ k (s : Shared) (Q : Value → Shared → Prop) (E : Value → Shared → Prop), P k s.heap → val k = none → (∀ h' e, Heap.ExtBut it s.heap h' → (∃ o, h'.get? e = some o ∧ o.cls = .type "StopIteration") → E (.ref e) { s with heap := h' }) → wpAny (model prog w) A (Builtin.SmallTypes.nextOf (.ref it)) Q E s
section
variable {prog : Program} {w : World} {A : Around} {E : Value → Shared → Prop} {s : Shared} {z tI tO i1 i2 l1 l2 : Addr} {v1 v2 : Nat → Option Value} {P1 P2 : Nat → Heap → Prop} {k : Nat} {u v : Value}
end
section
variable {prog : Program} {w : World} {A : Around} {E : Value → Shared → Prop} {s : Shared}
end
section
variable {X : Cx} {tg : Expr} {es : List Expr} {pos : Pos} {fa fb : CE} {K : PySem.W.Frag} {ρ : List Addr} {H : Hp} {st : Sto}
theorem atI {h h' : Heap} {it l : Addr} {k : Nat} (x : h.IsTupleIter it l k) (e : ∀ o, h.get? it = some o → h'.get? it = some o) : h'.IsTupleIter it l k := let ⟨o, e1, r⟩ := x; ⟨o, e o e1, r⟩
end
end MM
namespace PySem.F
end PySem.F
namespace MM
open PySem PySem.Spec PyProof.Rows L2
section
variable {prog : Program} {w : World} {A : Around} {E : Value → Shared → Prop} {s : Shared} {r : Addr}
end
theorem Vals.reverse : ∀ {xs : List V} {us : List Value}, Vals xs us → Vals xs.reverse us.reverse
 | _, _, .nil => .nil
 | _, _, .cons r t => by
  rw [List.reverse_cons, List.reverse_cons]; exact L2.Vals.append (Vals.reverse t) (.cons r .nil)
section
variable {X : Cx} {a b c e o tg : Expr} {es : List Expr} {pos pos' apos cpos p p' : Pos} {fa fb fc : CE} {ca cb : CA} {K : PySem.W.Frag} {ρ : List Addr} {H : Hp} {st : Sto} {te : TE}
theorem Reps.rep {vs : List V} {ds : List D} (h : Reps K ρ H vs ds) : ∀ k : Nat, Reps K ρ H (List.replicate k vs).flatten (List.replicate k ds).flatten
 | 0 => .nil
 | k + 1 => by
  rw [List.replicate_succ, List.replicate_succ, List.flatten_cons, List.flatten_cons]
  exact Reps.app h (Reps.rep h k)
theorem KR.zip : ∀ {ks : List Key} {vs : List V} {ds : List D}, Reps K ρ H vs ds → KR K ρ H (ks.zip vs) ((ks.map keyD).zip ds)
 | [], _, _, _ => .nil
 | k :: ks, _, _, .nil => .nil
 | k :: ks, _, _, .cons r t => .cons ⟨rfl, r⟩ (KR.zip t)
theorem KR.merge : ∀ {more : List (Key × V)} {rs : List (D × D)} {es : List (Key × V)} {kvs : List (D × D)}, KR K ρ H more rs → KR K ρ H es kvs → KR K ρ H (mergeK es more) (mgK kvs rs)
 | _, _, _, _, .nil, q => q
 | _, _, es, kvs, .cons (a := p) (b := q) (l₁ := ps) (l₂ := qs) h t, r => by
  have z := KR.put r p.1 h.2
  rw [h.1] at z
  show KR K ρ H (mergeK (L2.putK es p.1 p.2) ps) (mgK (ptK kvs q.1 q.2) qs)
  exact KR.merge (more := ps) (rs := qs) t z
end
end MM
namespace MM
end MM
namespace MM
open PySem PySem.Spec PyProof.Rows L2
mutual
theorem Qe9 : ∀ {a b c : D}, eqK a b = true → eqK b c = true → eqK a c = true
 | .int i, b, c, h1, h2 => by
  obtain ⟨j, rfl⟩ : ∃ j, b = .int j := by cases b <;> simp [eqK] at h1 ⊢
  obtain ⟨k, rfl⟩ : ∃ j, c = .int j := by cases c <;> simp [eqK] at h2 ⊢
  simp [eqK] at h1 h2 ⊢; ac_nf
 | .str i, b, c, h1, h2 => by
  obtain ⟨j, rfl⟩ : ∃ j, b = .str j := by cases b <;> simp [eqK] at h1 ⊢
  obtain ⟨k, rfl⟩ : ∃ j, c = .str j := by cases c <;> simp [eqK] at h2 ⊢
  simp [eqK] at h1 h2 ⊢; rw [h1, h2]
 | .tup xs, b, c, h1, h2 => by
  obtain ⟨ys, rfl⟩ : ∃ j, b = .tup j := by cases b <;> simp [eqK] at h1 ⊢
  obtain ⟨zs, rfl⟩ : ∃ j, c = .tup j := by cases c <;> simp [eqK] at h2 ⊢
  rw [eqK] at h1 h2 ⊢
  exact eqKs_trans h1 h2
 | .non, _, _, h1, _ => by simp [eqK] at h1
 | .bl _, _, _, h1, _ => by simp [eqK] at h1
 | .lit _, _, _, h1, _ => by simp [eqK] at h1
 | .ref _, _, _, h1, _ => by simp [eqK] at h1
 | .dic _, _, _, h1, _ => by simp [eqK] at h1
theorem eqKs_trans : ∀ {a b c : List D}, eqKs a b = true → eqKs b c = true → eqKs a c = true
 | [], b, c, h1, h2 => by
  cases b with
  | nil => exact h2
  | cons _ _ => simp [eqKs] at h1
 | x :: xs, b, c, h1, h2 => by
  cases b with
  | nil => simp [eqKs] at h1
  | cons y ys =>
   cases c with
   | nil => simp [eqKs] at h2
   | cons z zs =>
    rw [eqKs, Bool.and_eq_true] at h1 h2 ⊢
    exact ⟨Qe9 h1.1 h2.1, eqKs_trans h1.2 h2.2⟩
end
section
variable {X : Cx} {pins : List (Addr × Obj)} {σ : St} {H : Hp} {s : Shared} {ρ : List Addr}
end
end MM
namespace MM
open PySem PyProof.Rows L2
section
variable {prog : Program} {w : World} {K : Type} [DecidableEq K] {knd : HeapKind prog w K} {A : Around} {E : Value → Shared → Prop} {s : Shared} {d a : Addr} {k : K} {xs : List (K × Addr × Value)}
end
section
variable {X : Cx} {pins : List (Addr × Obj)} {σ : St} {H : Hp} {s : Shared} {ρ : List Addr} {st : Sto} {a : Addr}
end
end MM
namespace MM
open PySem PySem.W PyProof.Rows L2
section
variable {prog : Program} {w : World} {A : Around} {E : Value → Shared → Prop} {s : Shared} {d it : Addr} {es : Array DictEntry} {ep i : Nat}
def EnAt (h : Heap) (d : Addr) (es : Array DictEntry) (ep : Nat) : Prop := ∃ o, h.get? d = some o ∧ o.ExactDict ∧ o.data = .dict es ep
theorem EnAt.typeIs (x : EnAt s.heap d es ep) : s.TypeIs (.ref d) "dict" := by
 obtain ⟨o, g, c, _⟩ := x
 exact ⟨o, g, c.1⟩
theorem EnAt.keep {h h' : Heap} (x : EnAt h d es ep) (k : ∀ o, h.get? d = some o → h'.get? d = some o) : EnAt h' d es ep := by
 obtain ⟨o, g, r⟩ := x
 exact ⟨o, k o g, r⟩
theorem EnAt.lt {h : Heap} (x : EnAt h d es ep) : d < h.objs.size := by
 obtain ⟨o, g, _⟩ := x
 exact Heap.lt_size g
end
end MM
namespace MM
open PySem
end MM
namespace MM
open PySem PySem.W PyProof.Rows L2
section
variable {X : Cx}
theorem NR.keys {K : PySem.W.Frag} {ρ : List Addr} {H : Hp} {es : List (NK × Addr × V)} {kvs : List (D × D)} (r : NR K ρ H es kvs) : Reps K ρ H (es.map fun p => V.ref p.2.1) (kvs.map (·.1)) := by
 induction r with
 | nil => exact .nil
 | cons h t ih => exact .cons h.2.1 ih
end
end MM
namespace MM
open PySem PyProof.Rows L2
section
variable {X : Cx}
end
section
open PySem.Builtin.Str
variable {prog : Program} {w : World} {A : Around} {E : Value → Shared → Prop} {s : Shared}
end
section
variable {X : Cx}
end
end MM
namespace MM
open PySem PyProof.Rows L2
section
variable {X : Cx} {K : PySem.W.Frag} {ρ : List Addr} {H : Hp} {st : Sto}
end
end MM
namespace MM
open PySem PyProof.Rows L2
noncomputable abbrev CF := Str → Loc → M D
section
variable {X : Cx} {e : Expr} {es : List Expr} {pos : Pos} {fa : CE} {r : CF} {te : TE}
end
end MM
namespace MM
open PySem PyProof.Rows L2
section
variable {X : Cx} {K : PySem.W.Frag} {tg e : Expr} {fa : CE} {te : TE}
end
end MM
namespace MM
open PySem PySem.StrLaws Builtin.Str
structure Mrk (y : Str) (m k : Nat) : Prop where
 lt : k < y.length
 at_ : y.cps.toList[k]? = some m
 un : ∀ j, y.cps.toList[j]? = some m → j = k
 kind : Builtin.Str.strKind y ≤ 1
theorem At.mark {x y : Str} {m k i : Nat} (h : Mrk y m k) (a : At x y x.length i) : x.cps.toList[i + k]? = some m := by
 have e := a.2
 rw [subAt_eq, beq_iff_eq] at e
 have e2 : ((x.cps.toList.drop i).take y.length)[k]? = some m := by rw [e]; exact h.at_
 rw [List.getElem?_take_of_lt h.lt, List.getElem?_drop] at e2
 exact e2
end MM
namespace MM
noncomputable def sv (m : Nat) : List Nat := (List.range 4).filter fun i => m.testBit i
noncomputable def orAll (m : Nat) (vs : List Nat) : Nat := vs.foldl (fun m v => m ||| 1 <<< v) m
noncomputable def smalls : List D → Option (List Nat)
 | [] => some []
 | .int i :: ds => if 0 ≤ i ∧ i < 4 then (smalls ds).map (i.toNat :: ·) else none
 | _ => none
noncomputable def sortSetL (ds : List D) : M D := match smalls ds with
 | some ns => chk (orAll 0 ns ≠ 0) (alloc (.lst ((sv (orAll 0 ns)).map fun v => .int (v : Nat))))
 | none => bad
end MM
namespace MM
open PySem PySem.W PyProof.Rows L2
noncomputable def tb (led : Bool) (m : Nat) : SetTable := ⟨7, (sv m).toArray, #[], 0, led, 0, true⟩
theorem Qfa : ∀ led : Bool, ∀ m : Nat, m < 16 → ∀ v : Nat, v < 4 → m.testBit v = false → (tb led m).freeSlot (v : Int) = some (v, false) := by nofun
theorem Qfb : ∀ led : Bool, ∀ m : Nat, m < 16 → ∀ v : Nat, v < 4 → m.testBit v = false → (tb led m).put v = (tb led (m ||| 1 <<< v), SetTable.below (tb led m).place v) ∧ (sv (m ||| 1 <<< v)) = (sv m).take (SetTable.below (tb led m).place v) ++ v :: (sv m).drop (SetTable.below (tb led m).place v) ∧ (m ||| 1 <<< v) < 16 := by nofun
theorem Qfc : ∀ led : Bool, ∀ m : Nat, m < 16 → (tb led m).fits (sv m).length = true ∧ (tb led m).tooFull = false ∧ (sv m).length ≤ 4 := by nofun
theorem Qfd : ∀ m : Nat, m < 16 → ∀ v : Nat, v < 4 → (m.testBit v = true ↔ v ∈ sv m) := by nofun
theorem Qfe : ∀ m : Nat, m < 16 → ∀ v ∈ sv m, v < 4 := by nofun
theorem Qff : ∀ m : Nat, m < 16 → ∀ v : Nat, v < 4 → m.testBit v = true → m ||| 1 <<< v = m := by nofun
theorem Qfg (led : Bool) : SetTable.fresh 0 0 led = tb led 0 := by cases led <;> rfl
def EnI (e : Int × Value) (v : Nat) : Prop := e.1 = (v : Int) ∧ ∃ t, e.2 = .int v t
def SsAt (led : Bool) (h : Heap) (a : Addr) (m : Nat) : Prop := ∃ o es ep, h.get? a = some o ∧ o.ExactSet ∧ o.data = .set es ep (tb led m) ∧ Paired EnI es.toList (sv m)
theorem Paired.memL {α β : Type} {F : α → β → Prop} : ∀ {l₁ : List α} {l₂ : List β}, Paired F l₁ l₂ → ∀ a ∈ l₁, ∃ b ∈ l₂, F a b
 | _, _, .nil, a, h => by cases h
 | _, _, .cons r t, a, h => by
  rcases List.mem_cons.mp h with e | e
  ·subst e; exact ⟨_, by simp, r⟩
  ·obtain ⟨b, hb, q⟩ := Paired.memL t a e; exact ⟨b, by simp [hb], q⟩
theorem Paired.memR {α β : Type} {F : α → β → Prop} : ∀ {l₁ : List α} {l₂ : List β}, Paired F l₁ l₂ → ∀ b ∈ l₂, ∃ a ∈ l₁, F a b
 | _, _, .nil, a, h => by cases h
 | _, _, .cons r t, a, h => by
  rcases List.mem_cons.mp h with e | e
  ·subst e; exact ⟨_, by simp, r⟩
  ·obtain ⟨b, hb, q⟩ := Paired.memR t a e; exact ⟨b, by simp [hb], q⟩
theorem Paired.ins {α β : Type} {F : α → β → Prop} {a : α} {b : β} (r : F a b) : ∀ {l₁ : List α} {l₂ : List β} (p : Nat), Paired F l₁ l₂ → Paired F (l₁.take p ++ a :: l₁.drop p) (l₂.take p ++ b :: l₂.drop p)
 | _, _, 0, t => .cons r t
 | _, _, p + 1, .nil => .cons r .nil
 | _, _, p + 1, .cons q t => .cons q (Paired.ins r p t)
theorem Qfh {v : Nat} (h : v < 4) : hashInt (v : Int) = v := by
 match v, h with
 | 0, _ => rfl
 | 1, _ => rfl
 | 2, _ => rfl
 | 3, _ => rfl
section
variable {prog : Program} {w : World} {A : Around} {E : Value → Shared → Prop} {s : Shared} {a : Addr} {led : Bool} {m v : Nat}
theorem Qfi {es : List (Int × Value)} {vs : List Nat} (hv : ∀ v ∈ vs, v < 4) (h : Paired EnI es vs) : ElemsOf (intKind prog w) es := fun e he => by
 obtain ⟨v, hm, e1, t, e2⟩ := Paired.memL h e he
 refine ⟨⟨(v : Int), ?_, ?_⟩, by rw [e2]; rfl⟩
 ·rw [e2]; exact beq_self_eq_true (v : Int)
 ·rw [e1]; exact (Qfh (hv v hm)).symm
theorem Qfj {k : Int} {e : Int × Value} {v : Nat} (h : EnI e v) : (intKind prog w).is k e.2 = decide (k = (v : Int)) := by
 obtain ⟨_, t, e2⟩ := h
 rw [e2]
 refine (show _ = ((v : Int) == k) from rfl).trans ?_
 by_cases z : k = (v : Int)
 ·subst z; simp
 ·have z' : ¬ (v : Int) = k := fun q => z q.symm
  rw [decide_eq_false z]; exact beq_eq_false_iff_ne.mpr z'
theorem Qfk {tk : Tok} {Q : Bool → Shared → Prop} (hm : m < 16) (hv : v < 4) (x : SsAt led s.heap a m)
  (q : ∀ h' b, SsAt led h' a (m ||| 1 <<< v) → Heap.SameBut a s.heap h' → Q b { s with heap := h', toks := s.toks + 1 }) : wpAny (model prog w) A (setAdd a (.int v tk)) Q E s := by
 obtain ⟨o, es, ep, g, c, gd, pr⟩ := x
 have hl := pr.length
 obtain ⟨f1, f2, f3⟩ := Qfc led m hm
 have ft : (tb led m).fits es.size = true := by rw [← Array.length_toList, hl]; exact f1
 have hz : es.size ≤ 4 := by rw [← Array.length_toList, hl]; exact f3
 have el : ElemsOf (intKind prog w) es.toList := Qfi (Qfe m hm) pr
 unfold setAdd
 refine wpAny_holding (wpAny_bind (wpAny_pyHash_int ?_))
 unfold setAddHashed
 refine wpAny_holding ?_
 rw [setAddHashedIn.eq_def]
 dsimp only
 refine wpAny_bind (wpAny_setState_of (s := { s with toks := s.toks + 1 }) g gd ft ?_)
 dsimp only
 rw [if_pos (byScan_of (knd := intKind prog w) rfl (Nat.lt_of_le_of_lt hz (by decide)) el)]
 refine wpAny_bind ?_
 unfold setAddByScan
 refine wpAny_bind (wpAny_rule (wpAny_bind ?_))
 unfold setScan
 refine wpAny_setScanFrom_of (s := { s with toks := s.toks + 1 }) (knd := intKind prog w) (k := (v : Int)) (x := .int v tk) (beq_self_eq_true (v : Int)) g gd ft es.toList 0 el ?_
 by_cases hb : m.testBit v = true
 ·obtain ⟨e, he, hE⟩ := Paired.memR pr v ((Qfd m hm v hv).mp hb)
  have hs : (List.findIdx? (fun e => (intKind prog w).is (v : Int) e.snd) es.toList).isSome = true := by
   rw [List.findIdx?_isSome, List.any_eq_true]
   exact ⟨e, he, by rw [Qfj hE]; simp⟩
  obtain ⟨j, hj⟩ := Option.isSome_iff_exists.mp hs
  rw [hj]
  dsimp only
  refine wpAny_pure (wpAny_pure ?_)
  have em := Qff m hm v hv hb
  exact q s.heap false (by rw [em]; exact ⟨o, es, ep, g, c, gd, pr⟩) ⟨rfl, fun _ _ => rfl⟩
 ·have hb' : m.testBit v = false := by simpa using hb
  have hn : List.findIdx? (fun e => (intKind prog w).is (v : Int) e.snd) es.toList = none := by
   rw [List.findIdx?_eq_none_iff]
   intro e he
   obtain ⟨u, hu, hE⟩ := Paired.memL pr e he
   rw [Qfj hE]
   apply decide_eq_false
   intro z
   have : v = u := by ac_nf
   subst this
   exact hb ((Qfd m hm v hv).mpr hu)
  rw [hn]
  dsimp only
  obtain ⟨p1, p2, p3⟩ := Qfb led m hm v hv hb'
  have sz : (SetTable.insertAt es (SetTable.below (tb led m).place v) (((v : Int), Value.int v tk))).toList.length = (sv (m ||| 1 <<< v)).length := by
   rw [SetTable.toList_insertAt, p2]
   simp [hl]
  obtain ⟨f4, f5, f6⟩ := Qfc led _ p3
  have f7 : (tb led (m ||| 1 <<< v)).fits (SetTable.insertAt es (SetTable.below (tb led m).place v) (((v : Int), Value.int v tk))).size = true := by
   rw [← Array.length_toList, sz]; exact f4
  have ly : layNew (tb led m) es (hashInt (v : Int)) (.int v tk) = (SetTable.insertAt es (SetTable.below (tb led m).place v) ((v : Int), .int v tk), tb led (m ||| 1 <<< v), false, false) := by
   unfold layNew
   rw [Qfh hv, Qfa led m hm v hv hb']
   dsimp only
   rw [p1]
   dsimp only
   unfold SetTable.orStandIn
   rw [if_pos f7, f7]
   rfl
  show wpAny _ _ (match layNew (tb led m) es (hashInt (v : Int)) (.int v tk) with | (es, t, wasDummy, gave) => _) _ _ _
  rw [ly]
  dsimp only
  refine wpAny_bind ?_
  show wpAny _ _ (pure ()) _ _ _
  refine wpAny_pure ?_
  rw [if_pos (show (tb led (m ||| 1 <<< v)).plain = true from rfl), hashByValue_scannable 8 (x := .int v tk) rfl]
  refine wpAny_bind (wpAny_pure ?_)
  rw [if_pos (show plainKind (.int v tk) = true from rfl)]
  have sl : (SetTable.insertAt es (SetTable.below (tb led m).place v) (((v : Int), Value.int v tk))).size ≤ sizeLine := by
   rw [← Array.length_toList, sz]; exact Nat.le_trans f6 (by decide)
  refine wpAny_bind (wpAny_storeSet_of (s := { s with toks := s.toks + 1 }) g gd ?_ sl)
  rw [f5, if_neg (by decide)]
  refine wpAny_pure (wpAny_pure ?_)
  have up : (s.heap.update a (Obj.putSet (SetTable.insertAt es (SetTable.below (tb led m).place v) (((v : Int), Value.int v tk))) (tb led (m ||| 1 <<< v)))).get? a = some { cls := o.cls, dict := o.dict, data := .set (SetTable.insertAt es (SetTable.below (tb led m).place v) (((v : Int), Value.int v tk))) (ep + 1) (tb led (m ||| 1 <<< v)), slots := o.slots } := by
   obtain ⟨oc, od, oo, os⟩ := o
   cases gd
   exact Heap.get?_update_self _ g rfl
  refine q _ _ ⟨_, _, _, up, c, rfl, ?_⟩ (Heap.SameBut.update ..)
  rw [SetTable.toList_insertAt, p2]
  exact Paired.ins ⟨rfl, tk, rfl⟩ _ pr
theorem Qfl : ∀ m : Nat, m < 16 → ∀ v : Nat, v < 4 → m ||| 1 <<< v < 16 := by nofun
theorem SsAt.keep {h h' : Heap} (x : SsAt led h a m) (k : ∀ o, h.get? a = some o → h'.get? a = some o) : SsAt led h' a m := by
 obtain ⟨o, es, ep, g, r⟩ := x
 exact ⟨o, es, ep, k o g, r⟩
theorem SsAt.lt {h : Heap} (x : SsAt led h a m) : a < h.objs.size := by
 obtain ⟨o, es, ep, g, r⟩ := x
 exact Heap.lt_size g
theorem SsAt.typeIs (x : SsAt led s.heap a m) : s.TypeIs (.ref a) "set" := by
 obtain ⟨o, es, ep, g, c, r⟩ := x
 exact ⟨o, g, c.1⟩
theorem Qfm {S I l : Addr} {items : Array Value} {ns : List Nat} {R : Result → Shared → Prop} (hh : A.handled = none) (nI : S ≠ I) (nl : l ≠ S) (il : l ≠ I)
  (hi : ∀ (i : Nat) (x : Value), items[i]? = some x → ∃ (v : Nat) (t : Tok), x = Value.int v t ∧ v < 4 ∧ ns[i]? = some v) (hl : ns.length = items.size) :
  ∀ (k i : Nat) (s : Shared) (m : Nat), items.size - i = k → s.heap.IsListIter I l i → s.heap.IsList l items → SsAt led s.heap S m → m < 16 →
   (∀ h' tk, SsAt led h' S (orAll m (ns.drop i)) → (∀ b o, b ≠ S → b ≠ I → s.heap.get? b = some o → h'.get? b = some o) → R (.ok (.ret .none)) { s with heap := h', toks := tk }) →
   codeAny (model prog w) A (.builtin "set.update.loop" ⟨[.ref S, .ref I], []⟩) R s := by
 intro k
 induction k with
 | zero =>
  intro i s m e z x y hm q
  refine codeAny_builtin F.entry_set_update_loop ?_
  unfold Builtin.«set.update.loop»
  dsimp only
  refine wpAny_bind (wpAny_pyNext_list_end (by first | exact hh | simpa using hh) z x (by simp; ac_nf) fun h' he => ?_)
  dsimp only
  refine wpAny_pure (q h' _ ?_ fun b o h1 h2 g => he b o h2 g)
  rw [List.drop_eq_nil_of_le (by ac_nf)]
  exact y.keep fun o g => he S o nI g
 | succ k ih =>
  intro i s m e z x y hm q
  have hlt : i < items.size := by ac_nf
  obtain ⟨v, t, ex, hv, hn⟩ := hi i items[i] (Array.getElem?_eq_getElem hlt)
  refine codeAny_builtin F.entry_set_update_loop ?_
  unfold Builtin.«set.update.loop»
  dsimp only
  refine wpAny_bind (wpAny_pyNext_list_item z x (Array.getElem?_eq_getElem hlt) fun h' z' sb => ?_)
  dsimp only
  rw [ex]
  refine wpAny_bind (wpAny_holding (Qfk (s := { s with heap := h' }) hm hv (y.keep fun o g => by rw [sb.2 S nI]; exact g) fun h2 b y2 sb2 => ?_))
  refine wpAny_pure ⟨plainId_quiet F.plain_set_update_loop _, ih (i + 1) _ _ (by ac_nf) (z'.at fun o g => by rw [sb2.2 I (Ne.symm nI)]; exact g) ?_ y2 (Qfl m hm v hv) fun h3 tk y3 kp => ?_⟩
  ·obtain ⟨o, g, r⟩ := x
   exact ⟨o, by show h2.get? l = _; rw [sb2.2 l nl, sb.2 l il]; exact g, r⟩
  ·refine q h3 tk ?_ fun b o h1 h2' g => kp b o h1 h2' ?_
   ·rw [List.drop_eq_getElem_cons (by ac_nf)]
    have : ns[i]'(by ac_nf) = v := by
     have := List.getElem?_eq_getElem (l := ns) (i := i) (by ac_nf)
     rw [hn] at this
     exact (Option.some.inj this).symm
    rw [this]
    exact y3
   ·show h2.get? b = _
    rw [sb2.2 b h1, sb.2 b h2']
    exact g
theorem Qfn {b : Value} {Q₁ : Value → Shared → Prop}
  (h : Q₁ (.ref s.heap.objs.size) { s with heap := s.heap.push { cls := .type "set", data := .set #[] 0 (tb (!w.params.followText "set-order") 0) } }) :
  codeAny (model prog w) A (Code.call (.builtin "set.__new__") { pos := [.type "set", b] }) (wants Q₁ E) s := by
 refine codeAny_call_builtin F.plain_set_new F.entry_set_new ?_
 rw [F.newCall_set_1]
 refine wpAny_pure ?_
 unfold Builtin.«set.__new__»
 refine wpAny_bind ?_
 unfold Builtin.Frozenset.newClass
 dsimp only
 refine wpAny_bind (wpAny_pure ?_)
 rw [if_neg (by decide), sub_set_self]
 refine wpAny_bind (wpAny_pure ?_)
 rw [if_neg (by decide)]
 refine wpAny_pure (wpAny_bind ?_)
 unfold newSet setsByText
 refine wpAny_bind (wpAny_bind (wpAny_askSetting (wpAny_pure ?_)))
 dsimp only
 rw [Qfg]
 refine wpAny_newObj_type ?_ (by size_fits)
 exact wpAny_pure h
theorem Qfo {l : Addr} {items : Array Value} {ns : List Nat} {Q : Value → Shared → Prop} (hh : A.handled = none) (x : s.heap.IsList l items)
  (hi : ∀ (i : Nat) (x : Value), items[i]? = some x → ∃ (v : Nat) (t : Tok), x = Value.int v t ∧ v < 4 ∧ ns[i]? = some v) (hl : ns.length = items.size)
  (q : ∀ h' tk, SsAt (!w.params.followText "set-order") h' s.heap.objs.size (orAll 0 ns) → (∀ (b : Nat) (o : Obj), b < s.heap.objs.size → s.heap.get? b = some o → h'.get? b = some o) → Q (.ref s.heap.objs.size) { s with heap := h', toks := tk }) :
  wpAny (model prog w) A (call (.type "set") [.ref l]) Q E s := by
 have F0 := F.called_set
 refine wpAny_call (codeAny_of_tree ?_)
 show wpAny _ _ (pure (Fin.again _)) _ _ _
 refine wpAny_pure ⟨Code.quiet_builtin _ (by nofun), codeAny_builtin entry_typeCall ?_⟩
 unfold Builtin.«type.__call__»
 dsimp only
 rw [if_neg (by rw [F0.notType]; decide), if_neg (by rw [F0.canCreate]; decide), F.typeCall_set_1]
 refine wpAny_bind (wpAny_pure ?_)
 rw [F.mro_set]
 refine wpAny_bind (wpAny_pure ?_)
 rw [if_neg (by decide), F0.made]
 refine wpAny_bind (wpAny_pure ?_)
 dsimp only
 refine wpAny_bind (wpAny_pure (wpAny_bind (wpAny_holding (wpAny_call (Qfn (s := s) ?_)))))
 have g0 : (s.heap.push { cls := .type "set", data := .set #[] 0 (tb (!w.params.followText "set-order") 0) }).get? s.heap.objs.size = some { cls := .type "set", data := .set #[] 0 (tb (!w.params.followText "set-order") 0) } := Heap.get?_push_size _ rfl
 have T : ({ s with heap := s.heap.push { cls := .type "set", data := .set #[] 0 (tb (!w.params.followText "set-order") 0) } } : Shared).TypeIs (.ref s.heap.objs.size) "set" := ⟨_, g0, rfl⟩
 refine wpAny_bind (wpAny_isInstance T sub_set_self ?_)
 rw [if_neg (by decide)]
 refine wpAny_bind (wpAny_holding (wpAny_callSpecial?_slot T F0.init (wpAny_call (codeAny_call_builtin (by nofun) F.entry_set_init (check_set_init_1 T ?_)))))
 unfold Builtin.«set.__init__»
 refine wpAny_bind ?_
 unfold noKeywords
 rw [if_pos (show ({ pos := [Value.ref s.heap.objs.size, Value.ref l] } : Args).kw.isEmpty = true from rfl)]
 refine wpAny_pure ?_
 dsimp only
 refine wpAny_bind ?_
 unfold typeNameOfCut shownTypeOf
 refine wpAny_bind (wpAny_bind (wpAny_typeOf T ?_))
 rw [if_neg (by decide)]
 refine wpAny_pure ?_
 unfold typeNameCut
 dsimp only
 show wpAny _ _ (pure "set") _ _ _
 refine wpAny_pure (wpAny_bind ?_)
 show wpAny _ _ (pure ()) _ _ _
 refine wpAny_pure (wpAny_bind (wpAny_pure (wpAny_bind ?_)))
 unfold setUsed
 refine wpAny_bind (wpAny_setState_of (s := { s with heap := s.heap.push { cls := .type "set", data := .set #[] 0 (tb (!w.params.followText "set-order") 0) } }) g0 rfl (by exact (Qfc _ 0 (by decide)).1) (wpAny_pure ?_))
 dsimp only
 rw [if_neg (by cases w.params.followText "set-order" <;> decide)]
 refine wpAny_bind ?_
 unfold Builtin.Frozenset.updateFrom
 have L1 : ({ s with heap := s.heap.push { cls := .type "set", data := .set #[] 0 (tb (!w.params.followText "set-order") 0) } } : Shared).TypeIs (.ref l) "list" := by
  obtain ⟨o, g, c, _⟩ := x
  exact ⟨o, Heap.get?_push_of_some _ g, c⟩
 refine wpAny_bind ?_
 unfold Builtin.Frozenset.isAnySet orM
 refine wpAny_bind (wpAny_isInstance L1 F.sub_list_set ?_)
 dsimp only [toBool]
 refine wpAny_isInstance L1 F.sub_list_frozenset ?_
 rw [if_neg (by decide)]
 refine wpAny_bind (wpAny_typeOf L1 ?_)
 rw [if_neg (by decide)]
 have hlt : l < s.heap.objs.size := by
  obtain ⟨o, g, _⟩ := x
  exact Heap.lt_size g
 have X1 : (s.heap.push { cls := .type "set", data := .set #[] 0 (tb (!w.params.followText "set-order") 0) }).IsList l items := by
  obtain ⟨o, g, r⟩ := x
  exact ⟨o, Heap.get?_push_of_some _ g, r⟩
 refine wpAny_bind (wpAny_pyIter_list (s := { s with heap := s.heap.push { cls := .type "set", data := .set #[] 0 (tb (!w.params.followText "set-order") 0) } }) X1 (wpAny_bind (wpAny_runValue ?_)))
 have sz1 : (s.heap.push { cls := .type "set", data := .set #[] 0 (tb (!w.params.followText "set-order") 0) }).objs.size = s.heap.objs.size + 1 := by simp [Heap.push]
 refine Qfm (led := !w.params.followText "set-order") (ns := ns) (by exact hh) (Nat.ne_of_lt (by rw [sz1]; exact Nat.lt_succ_self _)) (Nat.ne_of_lt hlt) (Nat.ne_of_lt (by rw [sz1]; exact Nat.lt_succ_of_lt hlt)) hi hl _ 0 _ 0 rfl ⟨_, Heap.get?_push_size _ rfl, rfl, rfl⟩ ?_ ?_ (by decide) fun h' tk y kp => ?_
 ·obtain ⟨o, g, r⟩ := X1
  exact ⟨o, Heap.get?_push_of_some _ g, r⟩
 ·exact ⟨_, _, _, Heap.get?_push_of_some _ g0, ⟨rfl, rfl, rfl⟩, rfl, .nil⟩
 ·refine wpAny_pure (wpAny_pure ?_)
  dsimp only
  rw [if_neg (by decide)]
  exact wpAny_pure (q h' tk y fun b o hb g => kp b o (Nat.ne_of_lt hb) (Nat.ne_of_lt (by rw [sz1]; exact Nat.lt_succ_of_lt hb)) (Heap.get?_push_of_some _ (Heap.get?_push_of_some _ g)))
end
end MM
namespace MM
open PySem PySem.W PyProof.Rows L2
theorem Qfp : entryFor table "set_iterator.__next__" = some Builtin.«set_iterator.__next__» := entryFor_of_tree (by rfl)
theorem Qfq : entryFor table "set.__iter__" = some Builtin.«frozenset.__iter__» := entryFor_alias (id' := "frozenset.__iter__") (by rfl) (by nofun) (by nofun) (by rfl)
theorem Qfr : typeLookup (Value.type "set_iterator") (Str.ofString "__next__") = pure (some (Value.builtin "set_iterator.__next__")) := by rfl
theorem Qfs : Slot "set_iterator" (Str.ofString "__next__") "set_iterator.__next__" := Slot.of (owner := "set_iterator") (n := "__next__") Qfr (by nofun) (by nofun) (by nofun) (Or.inl (by nofun)) (by rw [isSubtype_type]; rfl) (by nofun)
theorem Qft (a : Value) : argsOk "set_iterator.__next__" { pos := [a] } := by rfl
theorem Qfu : typeLookup (Value.type "set_iterator") (Str.ofString "__iter__") = pure (some (Value.builtin "set_iterator.__iter__")) := by rfl
theorem Qfv : Slot "set_iterator" (Str.ofString "__iter__") "set_iterator.__iter__" := Slot.of (owner := "set_iterator") (n := "__iter__") Qfu (by nofun) (by nofun) (by nofun) (Or.inl (by nofun)) (by rw [isSubtype_type]; rfl) (by nofun)
theorem Qfw (a : Value) : argsOk "set_iterator.__iter__" { pos := [a] } := by rfl
theorem Qfx : entryFor table "set_iterator.__iter__" = some Builtin.«dict_keyiterator.__iter__» := entryFor_alias (id' := "dict_keyiterator.__iter__") (by rfl) (by nofun) (by nofun) (by rfl)
theorem Qfy {α : Type} {next : Nat → Nat} : ∀ (n k : Nat) (xs : List α) (acc : Array α), xs.length = n → (pickOrder.go next n k xs acc).toList.Perm (acc.toList ++ xs)
 | 0, k, xs, acc, h => by
  unfold pickOrder.go
  rw [List.eq_nil_of_length_eq_zero h]; simp
 | n + 1, k, xs, acc, h => by
  unfold pickOrder.go
  have hlt : next k % xs.length < xs.length := Nat.mod_lt _ (by ac_nf)
  rw [List.getElem?_eq_getElem hlt]
  dsimp only
  refine (Qfy n (k + 1) _ _ (by rw [List.length_eraseIdx]; split <;> ac_nf)).trans ?_
  rw [Array.toList_push, List.append_assoc]
  refine List.Perm.append_left _ ?_
  rw [List.singleton_append]
  rw [List.eraseIdx_eq_take_drop_succ]
  refine List.perm_middle.symm.trans ?_
  rw [← List.drop_eq_getElem_cons hlt, List.take_append_drop]
theorem Qfz {α : Type} {next : Nat → Nat} {xs : Array α} : (pickOrder next xs).toList.Perm xs.toList := by
 unfold pickOrder
 exact (Qfy xs.size 0 xs.toList #[] (by simp)).trans (by simp)
noncomputable def ordE (w : World) (a : Addr) (es : Array (Int × Value)) (ep : Nat) : List (Int × Value) := if w.params.followText "set-order" = true then (pickOrder (w.params.setOrder a ep) es).toList else es.toList
noncomputable def slotAt (b : Bool) (m i : Nat) : Nat := if b = true then 0 else match i with
 | 0 => 0
 | k + 1 => (sv m).getD k 0 + 1
def IsSetIt (w : World) (h : Heap) (it a : Addr) (m i ep : Nat) : Prop := ∃ o, h.get? it = some o ∧ o.cls = .type "set_iterator" ∧ o.data = .fields #[.int (slotAt (w.params.followText "set-order") m i) 0, .int i 0, .ref a, .int (sv m).length 0, .int ep 0]
def SsX (led : Bool) (h : Heap) (a : Addr) (m : Nat) (es : Array (Int × Value)) (ep : Nat) : Prop := ∃ o, h.get? a = some o ∧ o.ExactSet ∧ o.data = .set es ep (tb led m) ∧ Paired EnI es.toList (sv m)
theorem QfA : ∀ m : Nat, m < 16 → ∀ i : Nat, i ≤ 4 → i ≤ (sv m).length → SetTable.below (sv m).toArray (slotAt false m i) = i := by nofun
section
variable {prog : Program} {w : World} {A : Around} {E : Value → Shared → Prop} {s : Shared} {a it : Addr} {led : Bool} {m i ep : Nat} {es : Array (Int × Value)}
theorem SsX.keep {h h' : Heap} (x : SsX led h a m es ep) (k : ∀ o, h.get? a = some o → h'.get? a = some o) : SsX led h' a m es ep := by
 obtain ⟨o, g, r⟩ := x
 exact ⟨o, k o g, r⟩
theorem SsX.lt {h : Heap} (x : SsX led h a m es ep) : a < h.objs.size := by
 obtain ⟨o, g, r⟩ := x
 exact Heap.lt_size g
theorem SsX.typeIs (x : SsX led s.heap a m es ep) : s.TypeIs (.ref a) "set" := by
 obtain ⟨o, g, c, r⟩ := x
 exact ⟨o, g, c.1⟩
theorem IsSetIt.typeIs (z : IsSetIt w s.heap it a m i ep) : s.TypeIs (.ref it) "set_iterator" := by
 obtain ⟨o, g, c, r⟩ := z
 exact ⟨o, g, c⟩
theorem QfB {Q : Value → Shared → Prop} (hm : m < 16) (x : SsX led s.heap a m es ep)
  (q : Q (.ref s.heap.objs.size) { s with heap := s.heap.push { cls := .type "set_iterator", data := .fields #[.int (slotAt (w.params.followText "set-order") m 0) 0, .int 0 0, .ref a, .int (sv m).length 0, .int ep 0] } }) :
  wpAny (model prog w) A (pyIter (.ref a)) Q E s := by
 have T := x.typeIs
 obtain ⟨o, g, c, gd, pr⟩ := x
 have hl := pr.length
 obtain ⟨f1, f2, f3⟩ := Qfc led m hm
 have ft : (tb led m).fits es.size = true := by rw [← Array.length_toList, hl]; exact f1
 have hz : es.size = (sv m).length := by rw [← Array.length_toList, hl]
 refine wpAny_pyIter_slot T F.slot_set_iter (wpAny_call_entry F.slot_set_iter T Qfq ?_ (F.args_set_iter_1 _))
 unfold Builtin.«frozenset.__iter__» Builtin.Frozenset.slot0
 refine wpAny_bind (wpAny_bind ?_)
 show wpAny _ _ (pure (Value.ref a, [])) _ _ s
 refine wpAny_pure (wpAny_pure (wpAny_bind ?_))
 unfold Builtin.Frozenset.sizeOf setEntries
 refine wpAny_bind (wpAny_bind (wpAny_setState_of g gd ft (wpAny_pure (wpAny_pure (wpAny_bind ?_)))))
 unfold setDrawn setsByText
 refine wpAny_bind (wpAny_setState_of g gd ft (wpAny_bind (wpAny_bind (wpAny_askSetting (wpAny_pure (wpAny_pure ?_))))))
 dsimp only
 rw [if_neg (by show ¬ ((!_ && (!true && _)) = true); simp)]
 refine wpAny_bind (wpAny_pure (wpAny_bind (wpAny_setEpoch_of g gd ft ?_)))
 unfold newFields
 refine wpAny_bind (wpAny_newObj_type (wpAny_pure ⟨_, rfl, "set_iterator", _, ⟨_, Heap.get?_push_size _ rfl, rfl⟩, Qfr, ?_⟩))
 have e0 : ∀ b : Bool, slotAt b m 0 = 0 := fun b => by cases b <;> rfl
 rw [e0] at q
 rw [hz]
 simpa [rawInt] using q
theorem QfC {Q : Option (Value × Nat) → Shared → Prop} (hm : m < 16) (hi : i ≤ (sv m).length) (x : SsX (!w.params.followText "set-order") s.heap a m es ep)
  (q : Q ((ordE w a es ep)[i]?.map fun e => (e.2, slotAt (w.params.followText "set-order") m (i + 1))) s) :
  wpAny (model prog w) A (setNext a (slotAt (w.params.followText "set-order") m i) i ep) Q E s := by
 obtain ⟨o, g, c, gd, pr⟩ := x
 have hl := pr.length
 obtain ⟨f1, f2, f3⟩ := Qfc (!w.params.followText "set-order") m hm
 have ft : (tb (!w.params.followText "set-order") m).fits es.size = true := by rw [← Array.length_toList, hl]; exact f1
 have hz : es.size = (sv m).length := by rw [← Array.length_toList, hl]
 unfold setNext setsByText
 refine wpAny_bind (wpAny_setState_of g gd ft (wpAny_bind (wpAny_bind (wpAny_askSetting (wpAny_pure ?_)))))
 dsimp only
 show wpAny _ _ (if w.params.followText "set-order" = true then _ else _) _ _ s
 unfold ordE at q
 cases hb : w.params.followText "set-order" with
 | true =>
  rw [hb] at q
  rw [if_pos rfl, if_neg (by simp)]
  unfold setWalk setsByText
  refine wpAny_bind (wpAny_bind (wpAny_setState_of g gd ft (wpAny_bind (wpAny_bind (wpAny_askSetting (wpAny_pure ?_))))))
  dsimp only
  show wpAny _ _ (if w.params.followText "set-order" = true then _ else _) _ _ s
  rw [hb, if_pos rfl]
  refine wpAny_bind (wpAny_askSetting (wpAny_pure (wpAny_pure ?_)))
  rw [if_pos rfl] at q
  rw [← Array.getElem?_toList]
  exact q
 | false =>
  rw [hb] at q hb
  rw [if_neg (by decide), if_neg (by show ¬ ((!true && _) = true); simp)]
  refine wpAny_bind ?_
  show wpAny _ _ (if (!(!false) && !es.isEmpty) = true then _ else _) _ _ s
  rw [if_neg (by simp)]
  refine wpAny_pure (wpAny_pure ?_)
  have bl := QfA m hm i (by ac_nf) hi
  rw [if_neg (by decide)] at q
  show Q (match es[SetTable.below (sv m).toArray (slotAt false m i)]?, (sv m).toArray[SetTable.below (sv m).toArray (slotAt false m i)]? with
   | some (fst, x), some j => some (x, j + 1)
   | x, x_1 => none) s
  rw [bl]
  by_cases hlt : i < (sv m).length
  ·have h1 : i < es.size := by ac_nf
   have e1 : es.toList[i]? = some es[i] := by rw [Array.getElem?_toList, Array.getElem?_eq_getElem h1]
   have e2 : (sv m).toArray[i]? = some ((sv m)[i]) := by rw [List.getElem?_toArray, List.getElem?_eq_getElem hlt]
   have e3 : slotAt false m (i + 1) = (sv m)[i] + 1 := by
    show (sv m).getD i 0 + 1 = _
    rw [List.getD_eq_getElem?_getD, List.getElem?_eq_getElem hlt]; rfl
   rw [e1, e3] at q
   rw [Array.getElem?_eq_getElem h1, e2]
   exact q
  ·have e1 : es.toList[i]? = none := by rw [List.getElem?_eq_none (by rw [Array.length_toList]; ac_nf)]
   rw [e1] at q
   rw [Array.getElem?_eq_none (by ac_nf)]
   exact q
theorem QfD : (ordE w a es ep).Perm es.toList := by
 unfold ordE
 split
 ·exact Qfz
 ·exact List.Perm.refl _
theorem QfE (pr : Paired EnI es.toList (sv m)) : (ordE w a es ep).length = (sv m).length := by rw [QfD.length_eq, pr.length]
theorem QfF {Q : Option Value → Shared → Prop} {e : Int × Value} (hm : m < 16) (hi : i ≤ (sv m).length) (ne : a ≠ it) (z : IsSetIt w s.heap it a m i ep) (x : SsX (!w.params.followText "set-order") s.heap a m es ep) (hx : (ordE w a es ep)[i]? = some e)
  (q : ∀ h', IsSetIt w h' it a m (i + 1) ep → Heap.SameBut it s.heap h' → Q (some e.2) { s with heap := h' }) : wpAny (model prog w) A (pyNext (.ref it)) Q E s := by
 have T := z.typeIs
 obtain ⟨o, g, c, gd⟩ := id z
 obtain ⟨od, gx, cx, dx, pr⟩ := id x
 have hl := pr.length
 obtain ⟨f1, f2, f3⟩ := Qfc (!w.params.followText "set-order") m hm
 have ft : (tb (!w.params.followText "set-order") m).fits es.size = true := by rw [← Array.length_toList, hl]; exact f1
 have hz : es.size = (sv m).length := by rw [← Array.length_toList, hl]
 unfold pyNext
 refine wpAny_bind (wpAny_attempt (wpAny_callSpecial?_slot (name := Str.ofString "__next__") T Qfs (wpAny_call_entry Qfs T Qfp ?_ (Qft _))))
 unfold Builtin.«set_iterator.__next__»
 refine wpAny_bind ?_
 show wpAny _ _ (pure (Value.ref it, [])) _ _ s
 refine wpAny_pure ?_
 dsimp only
 refine wpAny_bind (wpAny_fieldsOf g gd ?_)
 dsimp only
 unfold setEntries
 refine wpAny_bind (wpAny_bind (wpAny_setState_of gx dx ft (wpAny_pure ?_)))
 dsimp only
 rw [if_neg (by rw [hz]; simp)]
 refine wpAny_bind ?_
 have e1 : ∀ n : Nat, (n : Int).toNat = n := fun n => Int.toNat_natCast n
 rw [e1, e1, e1]
 refine QfC hm hi x ?_
 rw [hx]
 dsimp only [Option.map_some]
 refine wpAny_bind (wpAny_setField g gd (by simp) ?_)
 have g2 : (s.heap.update it (Obj.mapFields (·.setIfInBounds 0 (rawInt (slotAt (w.params.followText "set-order") m (i + 1) : Nat))))).get? it = some (Obj.mapFields (·.setIfInBounds 0 (rawInt (slotAt (w.params.followText "set-order") m (i + 1) : Nat))) o) := Heap.get?_update_self _ g (Obj.isFreed_of_fields (Obj.data_mapFields gd _))
 refine wpAny_bind (wpAny_setField (s := { s with heap := _ }) g2 (Obj.data_mapFields gd _) (by simp) ?_)
 refine wpAny_pure ⟨_, rfl, wpAny_pure ?_⟩
 refine q _ ⟨_, Heap.get?_update_self _ g2 (Obj.isFreed_of_fields (Obj.data_mapFields (Obj.data_mapFields gd _) _)), ?_, ?_⟩ ?_
 ·exact (Obj.cls_mapFields ..).trans ((Obj.cls_mapFields ..).trans c)
 ·rw [Obj.data_mapFields (Obj.data_mapFields gd _)]; simp [rawInt]
 ·exact ⟨(Heap.SameBut.update _ it _).1.trans (Heap.SameBut.update _ it _).1, fun b hb => ((Heap.SameBut.update _ it _).2 b hb).trans ((Heap.SameBut.update _ it _).2 b hb)⟩
theorem QfG {Q : Option Value → Shared → Prop} (hh : A.handled = none) (hm : m < 16) (hi : i ≤ (sv m).length) (z : IsSetIt w s.heap it a m i ep) (x : SsX (!w.params.followText "set-order") s.heap a m es ep) (hx : (ordE w a es ep)[i]? = none)
  (q : ∀ h', Heap.ExtBut it s.heap h' → Q none { s with heap := h' }) : wpAny (model prog w) A (pyNext (.ref it)) Q E s := by
 have T := z.typeIs
 obtain ⟨o, g, c, gd⟩ := id z
 obtain ⟨od, gx, cx, dx, pr⟩ := id x
 have hl := pr.length
 obtain ⟨f1, f2, f3⟩ := Qfc (!w.params.followText "set-order") m hm
 have ft : (tb (!w.params.followText "set-order") m).fits es.size = true := by rw [← Array.length_toList, hl]; exact f1
 have hz : es.size = (sv m).length := by rw [← Array.length_toList, hl]
 unfold pyNext
 refine wpAny_bind (wpAny_attempt (wpAny_callSpecial?_slot (name := Str.ofString "__next__") T Qfs (wpAny_call_entry Qfs T Qfp ?_ (Qft _))))
 unfold Builtin.«set_iterator.__next__»
 refine wpAny_bind ?_
 show wpAny _ _ (pure (Value.ref it, [])) _ _ s
 refine wpAny_pure ?_
 dsimp only
 refine wpAny_bind (wpAny_fieldsOf g gd ?_)
 dsimp only
 unfold setEntries
 refine wpAny_bind (wpAny_bind (wpAny_setState_of gx dx ft (wpAny_pure ?_)))
 dsimp only
 rw [if_neg (by rw [hz]; simp)]
 refine wpAny_bind ?_
 have e1 : ∀ n : Nat, (n : Int).toNat = n := fun n => Int.toNat_natCast n
 rw [e1, e1, e1]
 refine QfC hm hi x ?_
 rw [hx]
 dsimp only [Option.map_none]
 refine wpAny_bind (wpAny_setField g gd (by simp) ?_)
 refine wpAny_bind ?_
 simp only [newExc, newTuple]
 refine wpAny_bind (wpAny_newObj_type ?_ (by size_fits))
 refine wpAny_bind (m := firstArgMember _ _) (wpAny_of_eq (a := Value.none) (by first | rfl | (simp only [firstArgMember]; rfl)) (wpAny_newObj_type ?_ (by size_fits)))
 simp only [raiseNew]
 refine wpAny_bind (wpAny_handled ?_)
 rw [show A.in1.handled = none from hh]
 refine wpAny_bind (wpAny_pure (wpAny_throw ?_)); refine wpAny_bind (wpAny_isInstance (T := "StopIteration") (b := true) ⟨_, Heap.get?_push_size _ rfl, rfl⟩ isSubtype_stop ?_)
 exact wpAny_pure (q _ (((Heap.SameBut.update ..).extBut.push _).push _))
theorem QfH {Q : Value → Shared → Prop} (z : IsSetIt w s.heap it a m i ep) (q : Q (.ref it) s) : wpAny (model prog w) A (pyIter (.ref it)) Q E s := by
 have T := z.typeIs
 refine wpAny_pyIter_slot T Qfv (wpAny_call_entry Qfv T Qfx ?_ (Qfw _))
 unfold Builtin.«dict_keyiterator.__iter__»
 refine wpAny_bind ?_
 show wpAny _ _ (pure (Value.ref it, [])) _ _ s
 refine wpAny_pure (wpAny_pure ⟨_, rfl, "set_iterator", _, T, Qfr, q⟩)
theorem QfI {Q : Bool → Shared → Prop} (T : s.TypeIs (.ref a) "set") (q : Q false s) : wpAny (model prog w) A (Builtin.List.listLengthHint (.ref a)) Q E s := by
 unfold Builtin.List.listLengthHint
 refine wpAny_bind (wpAny_specialOf T F.slot_set_len.lookup ?_)
 dsimp only
 rw [show splitId "set.__len__" = some ("set", "__len__") from by nofun]
 dsimp only
 refine wpAny_bind (wpAny_isInstance T sub_set_self ?_)
 rw [if_neg (by decide)]
 rw [if_pos (by nofun)]
 refine wpAny_bind (wpAny_typeOf T ?_)
 exact wpAny_pure q
theorem QfJ (hh : A.handled = none) (I a : Addr) (ne : a ≠ I) (hm : m < 16) (es : Array (Int × Value)) (ep : Nat) (pr : Paired EnI es.toList (sv m)) :
  Walks prog w A I [I, a] [I] (sv m).length (fun i v => ∃ e, (ordE w a es ep)[i]? = some e ∧ v = e.2) (fun i h => i ≤ (sv m).length ∧ IsSetIt w h I a m i ep ∧ SsX (!w.params.followText "set-order") h a m es ep) where
 sub := fun b hb => by simp at hb; simp [hb]
 frame := fun _ _ _ z k => ⟨z.1, by obtain ⟨o, g, r⟩ := z.2.1; exact ⟨o, k I (by simp) o g, r⟩, z.2.2.keep fun o e => k a (by simp) o e⟩
 item := fun i s Q E hi z q => by
  have hlt : i < (ordE w a es ep).length := by rw [QfE pr]; exact hi
  refine QfF hm z.1 ne z.2.1 z.2.2 (List.getElem?_eq_getElem hlt) fun h' z' hs => ?_
  exact q _ h' s.toks ⟨_, List.getElem?_eq_getElem hlt, rfl⟩ ⟨hi, z', z.2.2.keep fun o e => hs.extBut a o ne e⟩ fun b o hb e => hs.extBut b o (fun h => hb (by simp [h])) e
 done := fun s Q E z q => QfG hh hm z.1 z.2.1 z.2.2 (by rw [List.getElem?_eq_none]; rw [QfE pr]; exact Nat.le_refl _) fun h' he => q h' s.toks fun b o hb e => he b o (fun h => hb (by simp [h])) e
 self := fun _ _ _ _ z q => QfH z.2.1 q
theorem QfK (hm : m < 16) (pr : Paired EnI es.toList (sv m)) : KdlSrc prog w "set" a a (sv m).length (fun i v => ∃ e, (ordE w a es ep)[i]? = some e ∧ v = e.2) (fun h => SsX (!w.params.followText "set-order") h a m es ep) where
 type := fun _ x => x.typeIs
 there := fun _ x => ⟨x.lt, x.lt⟩
 keep := fun _ _ x k => x.keep fun o e => k a (.inl rfl) o e
 notList := by decide
 notTuple := by decide
 hint := fun _ _ _ _ x q => QfI x.typeIs q
 iter := fun _ _ hh x => ⟨_, _, (fun _ _ q => QfB hm x q), QfJ hh _ a (Nat.ne_of_lt x.lt) hm es ep pr, ⟨Nat.zero_le _, ⟨_, Heap.get?_push_size _ rfl, rfl, rfl⟩, x.keep fun o e => Heap.get?_push_of_some _ e⟩⟩
end
end MM
namespace MM
open PySem PySem.W PyProof.Rows L2
noncomputable def setO (X : Cx) (a : Addr) (m : Nat) : HO := .ext fun h => SsAt (!X.w.params.followText "set-order") h a m
theorem QfL : ∀ {ns : List Nat} {m : Nat}, m < 16 → (∀ v ∈ ns, v < 4) → orAll m ns < 16
 | [], m, hm, _ => hm
 | v :: ns, m, hm, h => QfL (ns := ns) (m := m ||| 1 <<< v) (Qfl m hm v (h v (by simp))) fun u hu => h u (by simp [hu])
theorem QfM : ∀ m : Nat, m < 16 → m ≠ 0 → (sv m).isEmpty = false := by nofun
theorem QfN : ∀ m : Nat, m < 16 → lks_asc ((sv m).map fun v : Nat => (v : Int)) = true := by nofun
theorem QfO : ∀ {l : List (Int × Value)}, (∀ e ∈ l, ∃ v, EnI e v) → lks_nums (l.map (·.2)) = l.map (·.1) ∧ kf_ints (l.map (·.2)) = true
 | [], _ => ⟨rfl, rfl⟩
 | e :: l, h => by
  obtain ⟨v, e1, t, e2⟩ := h e (by simp)
  obtain ⟨h1, h2⟩ := QfO (l := l) fun x hx => h x (by simp [hx])
  rw [List.map_cons, List.map_cons, e2]
  refine ⟨?_, ?_⟩
  ·rw [lks_nums.eq_def]
   dsimp only
   rw [h1, e1]
  ·rw [kf_ints.eq_def]
   exact h2
theorem QfP : ∀ {l : List (Int × Value)} {vs : List Nat}, Paired EnI l vs → l.map (·.1) = vs.map fun v : Nat => (v : Int)
 | _, _, .nil => rfl
 | _, _, .cons r t => by rw [List.map_cons, List.map_cons, QfP t, r.1]
theorem QfQ : ∀ (vs : List Nat) (i : Nat) (t : Nat → Tok), L2.Vals (vs.map fun v : Nat => V.int v) (lks_vals (vs.map fun v : Nat => (v : Int)) i t)
 | [], _, _ => .nil
 | v :: vs, i, t => by
  rw [List.map_cons, List.map_cons, lks_vals.eq_2]
  exact .cons ⟨_, rfl⟩ (QfQ vs (i + 1) t)
section
variable {X : Cx}
theorem QfR (hc : X.calm = true) : CallR X (.type "set") (fun xs H Q => ∃ (l : Addr) (ns : List Nat), xs = [.ref l] ∧ SqL X.K H l (ns.map fun v : Nat => V.int v) ∧ (∀ v ∈ ns, v < 4) ∧ ∀ q, H q = none → Q (.ref q) (upd H q (setO X q (orAll 0 ns)))) := by
 intro pins s σ H xs us Q I r h
 obtain ⟨l, ns, rfl, hq, h4, q⟩ := h
 obtain ⟨u, rfl, rx⟩ := Qbk r
 cases rx
 obtain ⟨its, rv, pl, hz⟩ := I.list hq
 have hl := rv.length
 rw [List.length_map] at hl
 refine Qfo (ns := ns) (I.ok.hd hc) pl.isList (fun i x hx => ?_) (by simp; ac_nf) fun h' tk y kp => ?_
 ·rw [List.getElem?_toArray] at hx
  have hi : i < ns.length := by have := (List.getElem?_eq_some_iff.mp hx).1; ac_nf
  obtain ⟨u, hu, ru⟩ := rv.get (i := i) (x := V.int ns[i]) (by rw [List.getElem?_map, List.getElem?_eq_getElem hi]; rfl)
  rw [hx] at hu
  cases hu
  obtain ⟨t, et⟩ := ru
  exact ⟨ns[i], t, et, h4 _ (List.getElem_mem hi), List.getElem?_eq_getElem hi⟩
 ·have kp' : ∀ (b : Addr) (o : Obj), s.heap.get? b = some o → h'.get? b = some o := fun b o e => kp b o (Heap.lt_size e) e
  refine ⟨.ref s.heap.objs.size, _, I.laid (t' := tk) kp' (Nat.le_refl _) (show ObjOk X.prog X.w _ h' _ (setO X _ (orAll 0 ns)) from ⟨y, ?_, fun h1 h2 y1 k => y1.keep k⟩), rfl, q _ (I.hok.fresh (Nat.le_refl _))⟩
  obtain ⟨o, es, ep, g, _⟩ := y
  exact ⟨o, g⟩
theorem QfS (hc : X.calm = true) : CallR X (.builtin "sorted") (fun xs H Q => ∃ (a : Addr) (m : Nat), xs = [.ref a] ∧ H a = some (setO X a m) ∧ m < 16 ∧ m ≠ 0 ∧ ∀ q, H q = none → Q (.ref q) (upd H q (.lst ((sv m).map fun v : Nat => V.int v)))) := by
 intro pins s σ H xs us Q I r h
 obtain ⟨a, mm, rfl, hq, hm, h0, q⟩ := h
 obtain ⟨u, rfl, rx⟩ := Qbk r
 cases rx
 obtain ⟨y, _, _⟩ := (show ObjOk X.prog X.w H s.heap a (setO X a mm) from I.hok a _ hq)
 obtain ⟨oS, es, ep, gS, cS, dS, pr⟩ := y
 obtain ⟨f1, f2, f3⟩ := Qfc (!X.w.params.followText "set-order") mm hm
 obtain ⟨m, F⟩ := I.fr
 have N : News X.base X.env.locals s.heap (allNews X.base s.heap X.env.locals) := Qar
 have kept : ∀ h', Fr X.base X.env.locals h' m → News X.base X.env.locals h' (allNews X.base s.heap X.env.locals) → ∀ b o, b ≠ X.env.locals → s.heap.get? b = some o → h'.get? b = some o := fun h' F' N' b o hb e => by
  cases z : X.base.get? b with
  | some u =>
   have := F.keep b u z
   rw [e] at this; cases this
   exact F'.keep b _ z
  | none => exact (N' (b, o) (Qap hb z e)).1
 refine kdu_sorted (QfK (a := a) (ep := ep) hm pr) (I.ok.hd hc) F N ⟨oS, gS, cS, dS, pr⟩ (Nat.le_trans f3 (by decide)) fun D h' tk vs F' N' hD hvl hP => ?_
 have ev : vs = (ordE X.w a es ep).map (·.2) := by
  apply List.ext_getElem?
  intro i
  cases hx : vs[i]? with
  | none =>
   have := List.getElem?_eq_none_iff.mp hx
   rw [List.getElem?_eq_none (by rw [List.length_map, QfE pr]; ac_nf)]
  | some v =>
   obtain ⟨e, e1, e2⟩ := hP i v hx
   rw [List.getElem?_map, e1, e2]; rfl
 have enI : ∀ e ∈ ordE X.w a es ep, ∃ v, EnI e v := fun e he => by
  obtain ⟨v, _, hv⟩ := Paired.memL pr e (QfD.mem_iff.mp he)
  exact ⟨v, hv⟩
 obtain ⟨n1, n2⟩ := QfO enI
 rw [← ev] at n1 n2
 have pm : (lks_nums vs).isPerm ((sv mm).map fun v : Nat => (v : Int)) = true := by
  rw [List.isPerm_iff, n1, ← QfP pr]
  exact QfD.map _
 have hDL := (N' _ (List.mem_cons_self ..)).2.1
 have hDb := (N' _ (List.mem_cons_self ..)).2.2
 have hDs : s.heap.get? D = none := by
  cases z : s.heap.get? D with
  | none => rfl
  | some o => exact absurd (hD _ (Qap hDL hDb z)) (Nat.lt_irrefl _)
 have hDH : H D = none := by
  cases z : H D with
  | none => rfl
  | some o =>
   obtain ⟨ob, e⟩ := Qe8 (I.hok D o z)
   rw [hDs] at e; cases e
 have hne : vs.isEmpty = false := by
  have z := QfM mm hm h0
  cases hvs : vs with
  | nil =>
   rw [hvs] at hvl
   cases hsv : sv mm with
   | nil => rw [hsv] at z; cases z
   | cons _ _ => rw [hsv] at hvl; cases hvl
  | cons _ _ => rfl
 refine lks_sort (D := D) (its := vs.toArray) (n := 0) (q := (sv mm).map fun v : Nat => (v : Int)) F' N' (fun t => Upd.head fun z hz => Nat.ne_of_lt (hD z hz)) n2 (by unfold lks_ok; rw [pm, QfN mm hm]; rfl) hne (by show vs.length < 64; ac_nf) fun t h3 F3 N3 => ?_
 have N4 : News X.base X.env.locals h3 (allNews X.base s.heap X.env.locals) := fun z hz => N3 z (List.mem_cons_of_mem _ hz)
 have hD3 := (N3 _ (List.mem_cons_self ..)).1
 have kp := kept h3 F3 N4
 have hsz : ((sv mm).map fun v : Nat => V.int v).length ≤ sizeLine := by rw [List.length_map]; exact Nat.le_trans f3 (by decide)
 have hfree := I.free
 suffices I3 : Inv X pins σ (upd H D (.lst ((sv mm).map fun v : Nat => V.int v))) { s with heap := h3, gens := s.gens, drawn := s.drawn, toks := tk } by
  exact ⟨.ref D, _, I3, rfl, q D hDH⟩
 refine I.step (g' := s.gens) (d' := s.drawn) (t' := tk) (ch := []) (fun b hb => by cases hb) (fun b o h1 _ _ e _ => kp b o h1 e) (fun b o h1 _ _ e _ => ⟨o.slots, kp b o h1 e⟩)
  (fun b o _ e n1 => by rw [Qaj (fun z => by rw [z, hDs] at e; cases e)]; exact n1)
  (fun b o _ e => by
   by_cases z : b = X.env.locals
   ·obtain ⟨o', _, _, ho', _⟩ := F3.ns
    exact ⟨o', by rw [z]; exact ho'⟩
   ·exact ⟨o, kp b o z e⟩)
  (fun b ys e => by rw [Qaj (Qal e hDH)]; exact e) (fun b o ys e => by rw [Qaj (Qal e hDH)]; exact e) (fun b ps e => ⟨#[], by rw [Qaj (Qal e hDH), e]; simp⟩)
  (fun m' hm => by rw [← Qe7 F.ns hm]; exact F3.ns) ?_ I.bare
 intro b o e
 by_cases z : b = D
 ·subst z
  rw [Qai] at e; cases e
  exact ⟨hsz, _, _, QfQ (sv mm) 0 t, hD3⟩
 ·rw [Qaj z] at e
  refine (I.hok b o e).stay (fun c u hb e1 => kp c u (fun zz => ?_) e1) (fun c e1 => by rw [Qaj (Qal e1 hDH)]; exact e1) (fun c ys e1 => by rw [Qaj (Qal e1 hDH)]; exact e1)
  rcases hb with y | y
  ·rw [y] at zz; rw [zz, hfree] at e; cases e
  ·rw [zz, hfree] at y; cases y
theorem QfT {K : PySem.W.Frag} {ρ : List Addr} {H : Hp} : ∀ {vs : List V} {ds : List D} {ns : List Nat}, Reps K ρ H vs ds → smalls ds = some ns → vs = ns.map (fun v : Nat => V.int v) ∧ ∀ v ∈ ns, v < 4
 | _, _, ns, .nil, e => by cases e; exact ⟨rfl, fun v hv => by cases hv⟩
 | _, _, ns, .cons r t, e => by
  cases r with
  | int i =>
   unfold smalls at e
   by_cases h : 0 ≤ i ∧ i < 4
   ·rw [if_pos h] at e
    cases e2 : smalls _ with
    | none => rw [e2] at e; cases e
    | some ms =>
     rw [e2] at e
     cases e
     obtain ⟨h1, h2⟩ := QfT t e2
     refine ⟨by rw [List.map_cons, ← h1, Int.toNat_of_nonneg h.1], fun v hv => ?_⟩
     rcases List.mem_cons.mp hv with z | z
     ·subst z; ac_nf
     ·exact h2 v z
   ·rw [if_neg h] at e; cases e
  | _ => cases e
theorem QfU {e : Expr} {ca : CA} {p1 p2 pos2 pos : Pos} (hc : X.calm = true) (hg1 : Gl X "sorted") (hm1 : X.mg "sorted" = none) (hg2 : Gl X "set") (hm2 : X.mg "set" = none) (ha : SL X e ca)
  (he : starEach [e] X.env = [(false, eval e X.env)] := by rfl)
  (he2 : starEach [Expr.Call (.Name "set" p2) [e] [] pos2] X.env = [(false, eval (.Call (.Name "set" p2) [e] [] pos2) X.env)] := by rfl) : SE X (.Call (.Name "sorted" p1) [.Call (.Name "set" p2) [e] [] pos2] [] pos) (cTmp sortSetL ca) :=
 (QbF (QfS hc) hg1 hm1 rfl (Qbt (QbG (QfR hc) hg2 hm2 rfl (Qbt ha Qbs he) (by decide) (by decide) he rfl) Qbs he2) (by decide) (by decide) he2 rfl).of fun σ H Q h_ => h_.el fun ρ l st lr sr p => ⟨ρ, l, st, lr, sr, p.bnd.imp fun ds st1 ρ1 H1 x1 s1 p1 a vs ha na hv rvs => by
  unfold sortSetL at p1
  cases e1 : smalls ds with
  | none => rw [e1] at p1; exact p1.elim
  | some ns =>
   rw [e1] at p1
   obtain ⟨hne, p2⟩ := Post.chk p1
   obtain ⟨ev, h4⟩ := QfT rvs e1
   subst ev
   refine ⟨a, ns, rfl, SqL.of hv, h4, fun q hq => ⟨q, orAll 0 ns, rfl, Qai, QfL (by decide) h4, hne, fun b hb => ?_⟩⟩
   have nl := (s1.new (o := setO X q (orAll 0 ns)) hq).fresh hb
   have rr : ∀ (ρ' : List Addr) (H' : Hp) (vs : List Nat), Reps X.K ρ' H' (vs.map fun v : Nat => V.int v) (vs.map fun v : Nat => D.int v) := fun ρ' H' vs => by
    induction vs with
    | nil => exact .nil
    | cons v vs ih => exact .cons (.int _) ih
   have s2 := ((s1.new (o := setO X q (orAll 0 ns)) hq).new hb).keep (a := b) (ds := (sv (orAll 0 ns)).map fun v : Nat => D.int v) Qai nl (rr _ _ _)
   refine p2 _ _ ((Ex.new hq).trans (Ex.newL hb)) s2 _ (.ref ⟨_, Qai, rfl⟩ ?_)
   rw [← s1.len]; simp⟩
end
end MM
namespace MM
open PySem PySem.Spec PyProof.Rows L2
structure NameOk (x : Str) : Prop where
 d : (x == ("__debug__" : Str)) = false
 c : (x == ("__classdict__" : Str)) = false
 n : x ≠ "__name__"
theorem nok {x : Str} (h : ((x == ("__debug__" : Str)) || (x == ("__classdict__" : Str)) || decide (x = ("__name__" : Str))) = false) : NameOk x := by
 rw [Bool.or_eq_false_iff, Bool.or_eq_false_iff] at h
 exact ⟨h.1.1, h.1.2, of_decide_eq_false h.2⟩
structure Sc (X : Cx) (sc : Scope) : Prop where
 vis : ∀ x k, sc.names.lookup x = some k → (k = .local ∨ k = .cell ∨ k = .free) → Vis X.env.scope x
 cel : ∀ x, (sc.names.lookup x = some .cell ∨ sc.names.lookup x = some .free) → (X.env.kindOf x = some .cell ∨ X.env.kindOf x = some .free)
 glo : ∀ x, sc.names.lookup x = some .globalImplicit → Gl X x
 loc : ∀ x k, sc.names.lookup x = some k → (k = .local ∨ k = .cell) → L2.Loc X.env.scope x ∧ (X.fn x = true ∨ X.env.scope.names.lookup x = some .local)
 calm : X.calm = true
theorem QfV {P : Program} {w : World} {K : PySem.W.Frag} {mg : Str → Option Value} {base : Heap} {N : List Str} {qual : Str} {sc : Scope} {f : Addr} {cdv : Value} {A : Around} {outer : List Env} {s : Shared} {H : Hp} {E : XK} :
  Sc (cxOf CX0 P w K mg base N qual sc f cdv A outer s H E).nox sc where
 vis := fun x k h hk => by
  rcases hk with z | z | z <;> subst z
  ·exact .inl h
  ·exact .inr (.inl h)
  ·exact .inr (.inr h)
 cel := fun x h => h
 glo := fun x h => h
 loc := fun x k h hk => ⟨by rcases hk with z | z <;> subst z; exact .inl h; exact .inr h, .inl rfl⟩
 calm := rfl
theorem QfW {X : Cx} {N : List Str} {scope : Scope} {fp : List Addr} {s : Shared} {H : Hp} (hc : X.calm = true) : Sc (cxC X N scope fp s H) scope where
 vis := fun x k h hk => by
  show (relabel scope X.env).names.lookup x = _ ∨ (relabel scope X.env).names.lookup x = _ ∨ (relabel scope X.env).names.lookup x = _
  rw [Qdf, h, Option.map_some]
  rcases hk with z | z | z <;> subst z
  ·exact .inl rfl
  ·exact .inr (.inl rfl)
  ·by_cases hq : (NameKind.free == NameKind.free && X.env.scope.kind == .function && X.env.kindOf x == some .cell) = true
   ·rw [if_pos hq]; exact .inr (.inl rfl)
   ·rw [if_neg hq]; exact .inr (.inr rfl)
 cel := fun x h => by
  show (relabel scope X.env).names.lookup x = _ ∨ (relabel scope X.env).names.lookup x = _
  rcases h with h | h <;> rw [Qdf, h, Option.map_some]
  ·exact .inl rfl
  ·by_cases hq : (NameKind.free == NameKind.free && X.env.scope.kind == .function && X.env.kindOf x == some .cell) = true
   ·rw [if_pos hq]; exact .inl rfl
   ·rw [if_neg hq]; exact .inr rfl
 glo := fun x h => by
  show (relabel scope X.env).names.lookup x = _
  rw [Qdf, h, Option.map_some]; rfl
 loc := fun x k h hk => by
  refine ⟨?_, .inl ?_⟩
  ·show (relabel scope X.env).names.lookup x = _ ∨ (relabel scope X.env).names.lookup x = _
   rw [Qdf, h, Option.map_some]
   rcases hk with z | z <;> subst z
   ·exact .inl rfl
   ·exact .inr rfl
  ·show decide (scope.names.lookup x = some .local ∨ scope.names.lookup x = some .cell) = true
   rw [h]
   rcases hk with z | z <;> subst z <;> decide
 calm := hc
noncomputable def compChk (sc scope : Scope) : Bool :=
 (scope.kind == .function) && scope.names.all (fun p => p.2 != .local || scope.names.lookup p.1 == some .local) &&
 scope.names.all (fun p => p.2 != .free || ((sc.names.lookup p.1 == some .cell || sc.names.lookup p.1 == some .free) && !scope.names.contains (p.1, .cell) && scope.names.lookup p.1 != some .local))
theorem QfX {X : Cx} {sc scope : Scope} (S : Sc X sc) (h : compChk sc scope = true) : CompScope X scope := by
 unfold compChk at h
 rw [Bool.and_eq_true, Bool.and_eq_true] at h
 obtain ⟨⟨h1, h2⟩, h3⟩ := h
 rw [List.all_eq_true] at h2 h3
 have fr : ∀ x, (x, NameKind.free) ∈ scope.names → (sc.names.lookup x = some .cell ∨ sc.names.lookup x = some .free) ∧ (x, NameKind.cell) ∉ scope.names ∧ scope.names.lookup x ≠ some .local := fun x hx => by
  have q := h3 _ hx
  simp only [bne_self_eq_false, Bool.false_or, Bool.and_eq_true, Bool.or_eq_true, beq_iff_eq, Bool.not_eq_true', bne_iff_ne, ne_eq] at q
  obtain ⟨⟨q1, q2⟩, q3⟩ := q
  refine ⟨q1, fun z => ?_, q3⟩
  have : scope.names.contains (x, NameKind.cell) = true := List.contains_iff_mem.mpr z
  rw [this] at q2; cases q2
 refine ⟨by simpa using h1, fun p hp hl => ?_, fun x hx => S.cel x (fr x hx).1, fun x hx => (fr x hx).2.1, fun x hx => (fr x hx).2.2⟩
 have q := h2 p hp
 rw [hl] at q
 simpa using q
noncomputable def namesChk (N0 : List Str) (scope : Scope) (N : List Str) (n : Nat) (ix : List Nat) : Bool :=
 N.length == n + ix.length && (List.range ix.length).all fun j => match ix[j]?, N[n + j]? with
  | some i, some x => N0[i]? == some x && scope.names.lookup x == some .free
  | _, _ => false
theorem QfY {X : Cx} {N0 : List Str} {scope : Scope} {N : List Str} {n : Nat} {ix : List Nat} (hX : X.N = N0) (h : namesChk N0 scope N n ix = true) : CompNames X scope N n ix := by
 unfold namesChk at h
 rw [Bool.and_eq_true, List.all_eq_true] at h
 refine ⟨by simpa using h.1, fun j i x hj hx => ?_⟩
 have q := h.2 j (List.mem_range.mpr (List.getElem?_eq_some_iff.mp hj).1)
 rw [hj, hx] at q
 simp only [Bool.and_eq_true, beq_iff_eq] at q
 rw [hX]
 exact q
section
variable {X : Cx} {sc : Scope} {a b c e o tg : Expr} {es : List Expr} {pos p : Pos} {fa fb fc : CE} {ca cb : CA} {x : Str} {T id : String}
theorem QfZ (S : Sc X sc) (i : Nat) (hN : X.N[i]? = some x) {k : NameKind} (h : sc.names.lookup x = some k) (n : NameOk x) (hk : k = .local ∨ k = .cell ∨ k = .free := by decide) : SE X (.Name x pos) (cVar i) := QcG i (Qav hN (S.vis x k h hk) n.d n.c)
theorem Qf0 (S : Sc X sc) (i : Nat) (nd : X.N.Nodup) (hN : X.N[i]? = some x) {k : NameKind} (h : sc.names.lookup x = some k) (hk : k = .local ∨ k = .cell := by decide) : SG X (.Name x pos) (gVar i) :=
 QdT (QaM nd hN (S.loc x k h hk).1 (S.loc x k h hk).2)
theorem Qf1 (S : Sc X sc) (i : Nat) (nd : X.N.Nodup) (hN : X.N[i]? = some x) {k : NameKind} (h : sc.names.lookup x = some k) {pos' : Pos} (he : SE X e fa) (hk : k = .local ∨ k = .cell := by decide) (hs : swapsWith e (some (.Name x pos')) pos.line X.env = pure false := by rfl) :
  SS X (.Assign [.Name x pos'] e pos) (sAsg (gVar i) fa) := Qd4 nd hN (S.loc x k h hk).1 he hs (S.loc x k h hk).2
theorem Qf2 {n : Nat} (h : ∀ l st ds st', ca l st = .ok ds st' → ds.length = n) : ∀ l st ds st', cCons fa ca l st = .ok ds st' → ds.length = n + 1 := fun l st ds st' e => by
 unfold cCons bnd at e
 cases q : fa l st with
 | ok d s1 =>
  rw [q] at e
  dsimp only at e
  cases q2 : ca l s1 with
  | ok es s2 =>
   rw [q2] at e
   have := h l s1 es s2 q2
   cases e
   simp [this]
  | exc _ _ => rw [q2] at e; cases e
  | bad => rw [q2] at e; cases e
 | exc _ _ => rw [q] at e; cases e
 | bad => rw [q] at e; cases e
theorem Qf3 : ∀ l st ds st', cNil l st = .ok ds st' → ds.length = 0 := fun l st ds st' e => by cases e; rfl
theorem Qf4 {k n : Nat} {f : Addr} {fd : FuncData} {ps : List Str} {g : List D → M D} (S : Sc X sc) (h : sc.names.lookup x = some .globalImplicit) (F : FnOk X.prog X.w X.K X.mg X.base CX0 k f fd ps (spOf X.K n g)) (hr : Room k X.A) (hm : X.mg x = some (.ref f))
  (hk : PySem.W.keepIn X.K (.ref f) = true) (hb : Binds X.K fd ps []) (nk : NameOk x) (ha : SA X (e :: es) ca) (hn : ∀ l st ds st', ca l st = .ok ds st' → ds.length = n)
  (he : starEach (e :: es) X.env = (false, eval e X.env) :: starEach es X.env := by rfl) (hpl : (backTo pos (starEach es X.env)).any (·.1) = false := by rfl) : SE X (.Call (.Name x p) (e :: es) [] pos) (cCall g ca) :=
 QdJ F hr (S.glo x h) hm hk hb Qce ha hn nk.d he hpl
end
theorem Qf5 {k : Nat} {X : Cx} (h : Room k X.A) : X.A.units + 60 < cLine := by have := h.units; ac_nf
end MM
namespace MM
open PySem PySem.Spec PyProof.Rows L2
theorem Qf6 {P : Program} {w : World} {K : PySem.W.Frag} {mg : Str → Option Value} {base : Heap} {x qual : Str} {sd : Stmt} {f : Addr} {fd : FuncData} {N ps : List Str} {k n m : Nat} {body : CS} (F : Fun K x qual sd f fd) (S : FnScope N ps (defScope sd)) (hn : ps.length = n) (hm : N.length = m)
  (hbody : ∀ (cdv : Value) (A : Around) (outer : List Env) (s : Shared) (H : Hp) (E : XK), Room k (A.deeper (envOfC qual (defScope sd) s.heap.objs.size f cdv)) → SSs (cxOf CX0 P w K mg base N qual (defScope sd) f cdv A outer s H E).nox (defBody sd) body) :
  FnOk P w K mg base CX0 (k + 1) f fd ps (spOf K n (runDef m body)) := by
 subst hn hm
 exact Qd8 F S hbody
end MM
namespace MM
open PySem PySem.Spec PyProof.Rows L2
theorem Qf7 {K : PySem.W.Frag} {ρ : List Addr} {H : Hp} : ∀ (ns : List Int), Reps K ρ H (ns.map V.int) (ns.map D.int)
 | [] => .nil
 | n :: ns => .cons (.int n) (Qf7 ns)
theorem Qf8 {K : PySem.W.Frag} {H : Hp} {a : Addr} {ns : List Int} {g : List D → M D} (hO : Only H) (hS : SqL K H a (ns.map V.int)) (h : ∃ st', g [.lit (ns.map D.int)] [] = .ok (.bl true) st') :
  spOf K 1 g [.ref a] H (fun v _ => v = .bl true) fun _ _ _ => False := by
 obtain ⟨st', e⟩ := h
 have fz : FzL K H a (ns.map V.int) := by
  rcases hS with (h | ⟨o, h⟩) | h
  ·rcases hO a with z | ⟨ob, xs, z⟩ <;> (rw [z] at h; cases h)
  ·exact .inl ⟨o, h⟩
  ·exact .inr h
 refine ⟨rfl, [], [], _, ⟨rfl, List.nodup_nil, fun n b o z => by cases z⟩, .cons (.lit fz (Qf7 ns)) .nil, ?_⟩
 rw [e]
 intro ρ' H' _ _ v rv
 cases rv
 rfl
abbrev LK (st : Stmt) (x : Str) (k : NameKind) : Prop := (defScope st).names.lookup x = some k
@[elab_as_elim] theorem le1 {A : Type} {P : List A → Prop} (h : ∀ a, P [a]) (us : List A) (hl : us.length = 1) : P us := by
 cases us with
 | nil => cases hl
 | cons a t => cases t with
  | nil => exact h a
  | cons b u => simp at hl
@[elab_as_elim] theorem le2 {A : Type} {P : List A → Prop} (h : ∀ a0 a1, P [a0, a1]) (us : List A) (hl : us.length = 2) : P us := by
 cases us with
 | nil => cases hl
 | cons a t => exact le1 (P := fun t => P (a :: t)) (h a) t (Nat.succ.inj hl)
@[elab_as_elim] theorem le3 {A : Type} {P : List A → Prop} (h : ∀ a0 a1 a2, P [a0, a1, a2]) (us : List A) (hl : us.length = 3) : P us := by
 cases us with
 | nil => cases hl
 | cons a t => exact le2 (P := fun t => P (a :: t)) (h a) t (Nat.succ.inj hl)
@[elab_as_elim] theorem le4 {A : Type} {P : List A → Prop} (h : ∀ a0 a1 a2 a3, P [a0, a1, a2, a3]) (us : List A) (hl : us.length = 4) : P us := by
 cases us with
 | nil => cases hl
 | cons a t => exact le3 (P := fun t => P (a :: t)) (h a) t (Nat.succ.inj hl)
@[elab_as_elim] theorem le5 {A : Type} {P : List A → Prop} (h : ∀ a0 a1 a2 a3 a4, P [a0, a1, a2, a3, a4]) (us : List A) (hl : us.length = 5) : P us := by
 cases us with
 | nil => cases hl
 | cons a t => exact le4 (P := fun t => P (a :: t)) (h a) t (Nat.succ.inj hl)
@[elab_as_elim] theorem le6 {A : Type} {P : List A → Prop} (h : ∀ a0 a1 a2 a3 a4 a5, P [a0, a1, a2, a3, a4, a5]) (us : List A) (hl : us.length = 6) : P us := by
 cases us with
 | nil => cases hl
 | cons a t => exact le5 (P := fun t => P (a :: t)) (h a) t (Nat.succ.inj hl)
end MM
namespace MM
open PySem PySem.Spec PyProof.Rows L2
structure FunD (K : PySem.W.Frag) (x qual : Str) (st : Stmt) (f : Addr) (fd : FuncData) (u : Value) : Prop where
 ex : ∃ (oc : Value) (od : Option Addr) (kV doc pm : Value) (an : Option Addr) (cdv ct : Value) (osl : Array (Option Value)) (T : Addr) (o : Obj) (n : Nat),
  fd = PySem.W.fnOf x qual (defArgs st) (defBody st) (defScope st) (.ref T) kV doc pm an cdv ct ∧ K.lookup f = some ⟨oc, od, .func fd, osl⟩ ∧ PySem.W.codeIn K cdv qual = true ∧ K.lookup T = some o ∧ o.data = .seq #[u] n
 kp : PySem.W.keepIn K (.ref f) = true
section
variable {P : Program} {w : World} {K : PySem.W.Frag} {mg : Str → Option Value} {base : Heap} {x qual : Str} {st : Stmt} {f : Addr} {fd : FuncData} {u : Value} {ps : List Str}
theorem FunD.binds {ds : List Value} (F : FunD K x qual st f fd u)
  (h : ∀ (T : Addr) (kV doc pm : Value) (an : Option Addr) (cdv ct : Value) (us : List Value), (us ++ ds).length = ps.length → ∃ k : Option (Array Value) → Sem (List (Str × Value)), bindArgs (PySem.W.fnOf x qual (defArgs st) (defBody st) (defScope st) (.ref T) kV doc pm an cdv ct) ⟨us, []⟩ = seqItems? (.ref T) >>= k ∧ k (some #[u]) = pure (ps.zip (us ++ ds))) : Binds K fd ps ds := by
 obtain ⟨oc, od, kV, doc, pm, an, cdv, ct, osl, T, o, n, rfl, lk, hcd, lt, ht⟩ := F.ex
 intro s us KX hl
 obtain ⟨k, h1, h2⟩ := h T kV doc pm an cdv ct us hl
 exact BindsTo.of_defaults (T := T) rfl (KX T o lt) ht h1 h2
end
section
variable {X : Cx} {sc : Scope} {e : Expr} {es : List Expr} {pos p : Pos} {ca : CA} {x : Str}
end
end MM
namespace MM
open PySem
noncomputable abbrev At {α : Type} (_ : α → Sto → Prop) : Type := Sto
inductive wp {α : Type} (m : M α) (Q : α → Sto → Prop) (s : At Q) : Prop
 | intro (a : α) (s' : Sto) (h : m s = .ok a s') (q : Q a s') : wp m Q s
theorem Qf9 {α : Type} {m : M α} {Q : α → Sto → Prop} {s : Sto} : wp m Q s = (match m s with
 | .ok a s' => Q a s'
 | _ => False) := by
 apply propext
 constructor
 ·rintro ⟨a, s', h, q⟩; rw [h]; exact q
 ·intro h
  cases e : m s with
  | ok a s' => rw [e] at h; exact ⟨a, s', e, h⟩
  | exc _ _ => rw [e] at h; exact h.elim
  | bad => rw [e] at h; exact h.elim
section
variable {α β : Type} {Q : α → Sto → Prop} {s : Sto}
theorem wp_eq {m : M α} {a : α} {s' : Sto} (h : m s = .ok a s') : wp m Q s = Q a s' := by rw [Qf9, h]
theorem wp_no {m : M α} (h : m s = .bad) : wp m Q s = False := by rw [Qf9, h]
theorem wp_cg {m : M β} {Q Q' : β → Sto → Prop} {s : Sto} (h : ∀ a s', Q a s' = Q' a s') : wp m Q s = wp m Q' s := by
 rw [show Q = Q' from funext fun a => funext fun t => h a t]
theorem wp_ret {a : α} : wp (ret a) Q s = Q a s := wp_eq rfl
theorem wp_bad : wp (bad : M α) Q s = False := wp_no rfl
theorem Qga {m : M β} {f : β → M α} : wp (bnd m f) Q s = wp m (fun a s' => wp (f a) Q s') s := by
 simp only [Qf9]
 unfold bnd
 cases m s <;> rfl
theorem wp_chk {c : Prop} [Decidable c] {m : M α} : wp (chk c m) Q s = (c ∧ wp m Q s) := by
 unfold chk
 by_cases h : c
 ·simp [h]
 ·simp [h, wp_bad]
theorem wp_alloc {o : MO} {Q : D → Sto → Prop} : wp (alloc o) Q s = Q (.ref s.length) (s ++ [o]) := wp_eq rfl
theorem Qgb {n : Nat} {ds : List D} {Q : List D → Sto → Prop} (h : s[n]? = some (.lst ds)) : wp (getL n) Q s = Q ds s := by
 rw [Qf9]; unfold getL; rw [h]
theorem Qgc {n : Nat} {ds es : List D} {Q : Unit → Sto → Prop} (h : s[n]? = some (.lst ds)) : wp (putL n es) Q s = Q () (s.set n (.lst es)) := by
 rw [Qf9]; unfold putL; rw [h]
theorem Qgd {m : M α} {Q' : α → Sto → Prop} (h : wp m Q s) (f : ∀ a s', Q a s' → Q' a s') : wp m Q' s := by
 simp only [Qf9] at *
 cases e : m s with
 | ok a s' => rw [e] at h; exact f a s' h
 | exc _ _ => rw [e] at h; exact h
 | bad => rw [e] at h; exact h
theorem Qge {c : Prop} [Decidable c] {m n : M α} : wp (if c then m else n) Q s = if c then wp m Q s else wp n Q s := by split <;> rfl
end
theorem ix20 : MM.ixN 2 0 = some 0 := rfl
theorem ix21 : MM.ixN 2 1 = some 1 := rfl
theorem Qgf {ds : List D} {i : Int} {d : D} (h0 : 0 ≤ i) (h : ds[i.toNat]? = some d) : itemD ds i = ret d := by
 have hl : i.toNat < ds.length := (List.getElem?_eq_some_iff.mp h).1
 unfold itemD MM.ixN
 rw [if_pos h0, if_pos (by ac_nf)]
 dsimp only
 rw [h]
theorem wp_run {n : Nat} {b : CS} {ds : List D} {Q : D → Sto → Prop} {s : Sto} : wp (runDef n b ds) Q s = wp (b (ds.map some ++ List.replicate (n - ds.length) none)) (fun f s' => wp (flwD f) Q s') s := by
 unfold runDef; rw [Qga]
theorem Qgg {g : CG} {b : CS} {same : Sto → Prop} {Q : Flw → Sto → Prop} (W : List D → Loc → Sto → Prop)
  (hend : ∀ l s, W [] l s → wp (chkS same) (fun _ s' => Q (.next l) s') s)
  (hstep : ∀ d ds l s, W (d :: ds) l s → wp (chkS same) (fun _ s1 => wp (g d l) (fun l1 s2 => wp (b l1) (fun f s3 => match f with
   | .next l2 => W ds l2 s3
   | .cnt l2 => W ds l2 s3
   | .brk l2 => Q (.next l2) s3
   | .ret d => Q (.ret d) s3) s2) s1) s) : ∀ ds l s, W ds l s → wp (forD g b same ds l) Q s := by
 intro ds
 induction ds with
 | nil =>
  intro l s h
  unfold forD
  rw [Qga]
  exact Qgd (hend l s h) fun _ s' q => by rw [wp_ret]; exact q
 | cons d ds ih =>
  intro l s h
  unfold forD
  rw [Qga]
  refine Qgd (hstep d ds l s h) fun _ s1 q => ?_
  rw [Qga]
  refine Qgd q fun l1 s2 q => ?_
  rw [Qga]
  refine Qgd q fun f s3 q => ?_
  cases f with
  | next l2 => exact ih l2 s3 q
  | cnt l2 => exact ih l2 s3 q
  | brk l2 => show wp (ret _) _ _; rw [wp_ret]; exact q
  | ret d => show wp (ret _) _ _; rw [wp_ret]; exact q
theorem Qgh {g : CG} {t : CT} {e : CE} {same : Sto → Prop} {Q : List D → Sto → Prop} (W : List D → List D → Loc → Sto → Prop)
  (hend : ∀ out l s, W out [] l s → wp (chkS same) (fun _ s' => Q out s') s)
  (hstep : ∀ out d ds l s, W out (d :: ds) l s → wp (chkS same) (fun _ s1 => wp (g d l) (fun l1 s2 => wp (t l1) (fun b s3 => if b = true then wp (e l1) (fun x s4 => W (out ++ [x]) ds l1 s4) s3 else W out ds l1 s3) s2) s1) s) :
  ∀ ds out l s, W out ds l s → wp (collect g t e same ds l) (fun xs s' => Q (out ++ xs) s') s := by
 intro ds
 induction ds with
 | nil =>
  intro out l s h
  unfold collect
  rw [Qga]
  exact Qgd (hend out l s h) fun _ s' q => by rw [wp_ret, List.append_nil]; exact q
 | cons d ds ih =>
  intro out l s h
  unfold collect
  rw [Qga]
  refine Qgd (hstep out d ds l s h) fun _ s1 q => ?_
  rw [Qga]
  refine Qgd q fun l1 s2 q => ?_
  rw [Qga]
  refine Qgd q fun b s3 q => ?_
  cases b with
  | false => exact ih out l1 s3 q
  | true =>
   show wp (bnd (e l1) _) _ s3
   rw [Qga]
   refine Qgd q fun x s4 q => ?_
   rw [Qga]
   refine Qgd (ih (out ++ [x]) l1 s4 q) fun xs s5 q => ?_
   rw [wp_ret]
   rw [List.append_assoc] at q
   exact q
theorem Qgi {e : CE} {xs : List D} {same : Sto → Prop} {caps : Loc} {s : Sto} {Q : List D → Sto → Prop} (W : Nat → List D → Sto → Prop) (hs : ∀ i out s, W i out s → same s) (h0 : W 0 [] s)
  (hstep : ∀ (i : Nat) d out s, xs[i]? = some d → W i out s → wp (e (some d :: caps)) (fun x s' => W (i + 1) (out ++ [x]) s') s) (hend : ∀ out s, W xs.length out s → Q out s) :
  wp (collect (gVar 0) tTrue e same xs (none :: caps)) Q s := by
 have chk : ∀ {s : Sto} {R : Unit → Sto → Prop}, same s → R () s → wp (chkS same) R s := fun h r => by rw [Qf9]; unfold chkS; rw [if_pos h]; exact r
 refine Qgh (Q := Q) (fun out ds l s => ∃ i x0, ds = xs.drop i ∧ i ≤ xs.length ∧ l = x0 :: caps ∧ W i out s) (fun out l s ⟨i, x0, e1, hi, _, w⟩ => ?_) (fun out d ds l s ⟨i, x0, e1, hi, el, w⟩ => ?_) xs [] _ s ⟨0, none, by simp, Nat.zero_le _, rfl, h0⟩
 ·have : i = xs.length := by
    have := congrArg List.length e1
    simp at this; ac_nf
  subst this
  exact chk (hs _ _ _ w) (hend out s w)
 ·subst el
  have hlt : i < xs.length := by
   have := congrArg List.length e1
   simp at this; ac_nf
  rw [List.drop_eq_getElem_cons hlt] at e1
  obtain ⟨e2, e3⟩ := List.cons.inj e1
  refine chk (hs _ _ _ w) ?_
  show wp (ret _) _ s
  rw [wp_ret]
  show wp (ret true) _ s
  rw [wp_ret]
  show wp (e (some d :: caps)) _ s
  exact Qgd (hstep i d out s (by rw [e2]; exact List.getElem?_eq_getElem hlt) w) fun x s' q => ⟨i + 1, some d, e3, hlt, rfl, q⟩
theorem Qgj {n i : Nat} (h : i < n) : (rngD 0 n)[i]? = some (.int i) := by
 unfold rngD
 rw [List.getElem?_map, List.getElem?_range h]; simp
theorem Qgk {n i : Nat} {d : D} (h : (rngD 0 n)[i]? = some d) : i < n ∧ d = .int i := by
 have hi : i < n := by
  have := (List.getElem?_eq_some_iff.mp h).1
  simpa [rngD] using this
 rw [Qgj hi] at h; cases h
 exact ⟨hi, rfl⟩
theorem Qgl (n : Nat) : (rngD 0 n).length = n := by simp [rngD]
theorem Qgm {n : Nat} (h : n ≤ 1000) : n ≤ lim := Nat.le_trans h (by decide)
theorem Qgn {n : Nat} (h : n ≤ 1000) : n < lim := Nat.lt_of_le_of_lt h (by decide)
theorem Qgo {g : CG} {b : CS} {same : Sto → Prop} {xs : List D} {l : Loc} {s : Sto} {Q : Flw → Sto → Prop} (W : Nat → Loc → Sto → Prop) (hs : ∀ i l s, W i l s → same s) (h0 : W 0 l s)
  (hstep : ∀ (i : Nat) d l s, xs[i]? = some d → W i l s → wp (g d l) (fun l1 s2 => wp (b l1) (fun f s3 => match f with
   | .next l2 => W (i + 1) l2 s3
   | .cnt l2 => W (i + 1) l2 s3
   | .brk l2 => Q (.next l2) s3
   | .ret d => Q (.ret d) s3) s2) s) (hend : ∀ l s, W xs.length l s → Q (.next l) s) : wp (forD g b same xs l) Q s := by
 have chk : ∀ {s : Sto} {R : Unit → Sto → Prop}, same s → R () s → wp (chkS same) R s := fun h r => by rw [Qf9]; unfold chkS; rw [if_pos h]; exact r
 refine Qgg (fun ds l s => ∃ i, ds = xs.drop i ∧ i ≤ xs.length ∧ W i l s) (fun l s ⟨i, e1, hi, w⟩ => ?_) (fun d ds l s ⟨i, e1, hi, w⟩ => ?_) xs l s ⟨0, by simp, Nat.zero_le _, h0⟩
 ·have : i = xs.length := by
    have := congrArg List.length e1
    simp at this; ac_nf
  subst this
  exact chk (hs _ _ _ w) (hend l s w)
 ·have hlt : i < xs.length := by
    have := congrArg List.length e1
    simp at this; ac_nf
  rw [List.drop_eq_getElem_cons hlt] at e1
  obtain ⟨e2, e3⟩ := List.cons.inj e1
  refine chk (hs _ _ _ w) ?_
  refine Qgd (hstep i d l s (by rw [e2]; exact List.getElem?_eq_getElem hlt) w) fun l1 s2 q => Qgd q fun f s3 q => ?_
  cases f with
  | next l2 => exact ⟨i + 1, e3, hlt, q⟩
  | cnt l2 => exact ⟨i + 1, e3, hlt, q⟩
  | brk l2 => exact q
  | ret d => exact q
end MM
local macro_rules | `(tactic| bv_omega) => `(tactic| first | rfl | exact MM.wp_eq rfl | exact MM.wp_no rfl)
local macro_rules | `(tactic| ac_rfl) => `(tactic| first | rfl | simp only [MM.wp_ret, MM.wp_alloc, MM.wp_bad] | (refine MM.wp_cg fun _ _ => ?_; simp only [MM.wp_ret, MM.wp_alloc, MM.wp_bad]))
namespace MM
open PySem
theorem nr {α : Sort u} {a b : α} (h : a = b) : a = b := h
section
variable {Q : D → Sto → Prop} {R : Flw → Sto → Prop} {T : Bool → Sto → Prop} {A : List D → Sto → Prop} {G : Loc → Sto → Prop} {I : Wk → Sto → Prop} {s : Sto} {l : Loc}
theorem x_seq {a b : CS} : wp (sSeq a b l) R s = wp (a l) (fun f s' => match f with
  | .next l' => wp (b l') R s'
  | .ret d => R (.ret d) s'
  | .brk l' => R (.brk l') s'
  | .cnt l' => R (.cnt l') s') s := by
 unfold sSeq; rw [Qga]; congr 1; funext f s'; cases f <;> first | bv_omega
theorem x_next : wp (sNext l) R s = R (.next l) s := wp_eq rfl
theorem x_asg {g : CG} {a : CE} : wp (sAsg g a l) R s = wp (a l) (fun d s' => wp (g d l) (fun l' s'' => R (.next l') s'') s') s := by
 unfold sAsg; rw [Qga]; congr 1; funext d s'; rw [Qga]; ac_rfl
theorem x_ret {a : CE} : wp (sRet a l) R s = wp (a l) (fun d s' => R (.ret d) s') s := by
 unfold sRet; rw [Qga]; ac_rfl
theorem x_exp {a : CE} : wp (sExp a l) R s = wp (a l) (fun d s' => R (.next l) s') s := by
 unfold sExp; rw [Qga]; ac_rfl
theorem x_if {t : CT} {a b : CS} : wp (sIf t a b l) R s = wp (t l) (fun c s' => if c = true then wp (a l) R s' else wp (b l) R s') s := by
 unfold sIf; rw [Qga]; congr 1; funext c s'; rw [Qge]
theorem x_cmp {a : CE} : wp (tCmpB a l) T s = wp (a l) (fun x s' => match x with
  | .bl b => T b s'
  | _ => False) s := by
 unfold tCmpB; rw [Qga]; congr 1; funext x s'; cases x <;> first | bv_omega
theorem x_val {a : CE} : wp (tVal a l) T s = wp (a l) (fun x s' => wp (truD x) T s') s := by unfold tVal; rw [Qga]
theorem x_not {a : CT} : wp (tNotB a l) T s = wp (a l) (fun x s' => T (!x) s') s := by unfold tNotB; rw [Qga]; ac_rfl
theorem x_and {a b : CT} : wp (tAndB a b l) T s = wp (a l) (fun c s' => if c = true then wp (b l) T s' else T false s') s := by
 unfold tAndB; rw [Qga]; congr 1; funext c s'; rw [Qge]; ac_rfl
theorem x_or {a b : CT} : wp (tOrB a b l) T s = wp (a l) (fun c s' => if c = true then T true s' else wp (b l) T s') s := by
 unfold tOrB; rw [Qga]; congr 1; funext c s'; rw [Qge]; ac_rfl
theorem x_gvar {i : Nat} {d : D} : wp (gVar i d l) G s = G (l.set i (some d)) s := wp_eq rfl
theorem x_g0 {d : D} {b : Option D} {r : Loc} {Q : Loc → Sto → Prop} : wp (gVar 0 d (b :: r)) Q s = Q (some d :: r) s := x_gvar
theorem x_g1 {a0 : Option D} {d : D} {b : Option D} {r : Loc} {Q : Loc → Sto → Prop} : wp (gVar 1 d (a0 :: b :: r)) Q s = Q (a0 :: some d :: r) s := x_gvar
theorem x_g2 {a0 a1 : Option D} {d : D} {b : Option D} {r : Loc} {Q : Loc → Sto → Prop} : wp (gVar 2 d (a0 :: a1 :: b :: r)) Q s = Q (a0 :: a1 :: some d :: r) s := x_gvar
theorem x_g3 {a0 a1 a2 : Option D} {d : D} {b : Option D} {r : Loc} {Q : Loc → Sto → Prop} : wp (gVar 3 d (a0 :: a1 :: a2 :: b :: r)) Q s = Q (a0 :: a1 :: a2 :: some d :: r) s := x_gvar
theorem x_g4 {a0 a1 a2 a3 : Option D} {d : D} {b : Option D} {r : Loc} {Q : Loc → Sto → Prop} : wp (gVar 4 d (a0 :: a1 :: a2 :: a3 :: b :: r)) Q s = Q (a0 :: a1 :: a2 :: a3 :: some d :: r) s := x_gvar
theorem x_g5 {a0 a1 a2 a3 a4 : Option D} {d : D} {b : Option D} {r : Loc} {Q : Loc → Sto → Prop} : wp (gVar 5 d (a0 :: a1 :: a2 :: a3 :: a4 :: b :: r)) Q s = Q (a0 :: a1 :: a2 :: a3 :: a4 :: some d :: r) s := x_gvar
theorem x_g6 {a0 a1 a2 a3 a4 a5 : Option D} {d : D} {b : Option D} {r : Loc} {Q : Loc → Sto → Prop} : wp (gVar 6 d (a0 :: a1 :: a2 :: a3 :: a4 :: a5 :: b :: r)) Q s = Q (a0 :: a1 :: a2 :: a3 :: a4 :: a5 :: some d :: r) s := x_gvar
theorem x_g7 {a0 a1 a2 a3 a4 a5 a6 : Option D} {d : D} {b : Option D} {r : Loc} {Q : Loc → Sto → Prop} : wp (gVar 7 d (a0 :: a1 :: a2 :: a3 :: a4 :: a5 :: a6 :: b :: r)) Q s = Q (a0 :: a1 :: a2 :: a3 :: a4 :: a5 :: a6 :: some d :: r) s := x_gvar
theorem x_g8 {a0 a1 a2 a3 a4 a5 a6 a7 : Option D} {d : D} {b : Option D} {r : Loc} {Q : Loc → Sto → Prop} : wp (gVar 8 d (a0 :: a1 :: a2 :: a3 :: a4 :: a5 :: a6 :: a7 :: b :: r)) Q s = Q (a0 :: a1 :: a2 :: a3 :: a4 :: a5 :: a6 :: a7 :: some d :: r) s := x_gvar
theorem x_g9 {a0 a1 a2 a3 a4 a5 a6 a7 a8 : Option D} {d : D} {b : Option D} {r : Loc} {Q : Loc → Sto → Prop} : wp (gVar 9 d (a0 :: a1 :: a2 :: a3 :: a4 :: a5 :: a6 :: a7 :: a8 :: b :: r)) Q s = Q (a0 :: a1 :: a2 :: a3 :: a4 :: a5 :: a6 :: a7 :: a8 :: some d :: r) s := x_gvar
theorem x_g10 {a0 a1 a2 a3 a4 a5 a6 a7 a8 a9 : Option D} {d : D} {b : Option D} {r : Loc} {Q : Loc → Sto → Prop} : wp (gVar 10 d (a0 :: a1 :: a2 :: a3 :: a4 :: a5 :: a6 :: a7 :: a8 :: a9 :: b :: r)) Q s = Q (a0 :: a1 :: a2 :: a3 :: a4 :: a5 :: a6 :: a7 :: a8 :: a9 :: some d :: r) s := x_gvar
theorem x_g11 {a0 a1 a2 a3 a4 a5 a6 a7 a8 a9 a10 : Option D} {d : D} {b : Option D} {r : Loc} {Q : Loc → Sto → Prop} : wp (gVar 11 d (a0 :: a1 :: a2 :: a3 :: a4 :: a5 :: a6 :: a7 :: a8 :: a9 :: a10 :: b :: r)) Q s = Q (a0 :: a1 :: a2 :: a3 :: a4 :: a5 :: a6 :: a7 :: a8 :: a9 :: a10 :: some d :: r) s := x_gvar
theorem x_g12 {a0 a1 a2 a3 a4 a5 a6 a7 a8 a9 a10 a11 : Option D} {d : D} {b : Option D} {r : Loc} {Q : Loc → Sto → Prop} : wp (gVar 12 d (a0 :: a1 :: a2 :: a3 :: a4 :: a5 :: a6 :: a7 :: a8 :: a9 :: a10 :: a11 :: b :: r)) Q s = Q (a0 :: a1 :: a2 :: a3 :: a4 :: a5 :: a6 :: a7 :: a8 :: a9 :: a10 :: a11 :: some d :: r) s := x_gvar
theorem x_g13 {a0 a1 a2 a3 a4 a5 a6 a7 a8 a9 a10 a11 a12 : Option D} {d : D} {b : Option D} {r : Loc} {Q : Loc → Sto → Prop} : wp (gVar 13 d (a0 :: a1 :: a2 :: a3 :: a4 :: a5 :: a6 :: a7 :: a8 :: a9 :: a10 :: a11 :: a12 :: b :: r)) Q s = Q (a0 :: a1 :: a2 :: a3 :: a4 :: a5 :: a6 :: a7 :: a8 :: a9 :: a10 :: a11 :: a12 :: some d :: r) s := x_gvar
theorem x_g14 {a0 a1 a2 a3 a4 a5 a6 a7 a8 a9 a10 a11 a12 a13 : Option D} {d : D} {b : Option D} {r : Loc} {Q : Loc → Sto → Prop} : wp (gVar 14 d (a0 :: a1 :: a2 :: a3 :: a4 :: a5 :: a6 :: a7 :: a8 :: a9 :: a10 :: a11 :: a12 :: a13 :: b :: r)) Q s = Q (a0 :: a1 :: a2 :: a3 :: a4 :: a5 :: a6 :: a7 :: a8 :: a9 :: a10 :: a11 :: a12 :: a13 :: some d :: r) s := x_gvar
theorem x_gsub {o i : CE} {d : D} : wp (gSubD o i d l) G s = wp (o l) (fun y s1 => wp (i l) (fun z s2 => wp (setItemD y z d) (fun _ s3 => G l s3) s2) s1) s := by
 unfold gSubD; rw [Qga]; congr 1; funext y s1; rw [Qga]; congr 1; funext z s2; rw [Qga]; ac_rfl
theorem x_var {i : Nat} : wp (cVar i l) Q s = match l[i]? with
  | some (some d) => Q d s
  | _ => False := by
 unfold cVar; rcases l[i]? with _ | _ | d <;> first | bv_omega
theorem x_v0 {d : D} {r : Loc} : wp (cVar 0 (some d :: r)) Q s = Q d s := x_var
theorem x_v1 {a0 : Option D} {d : D} {r : Loc} : wp (cVar 1 (a0 :: some d :: r)) Q s = Q d s := x_var
theorem x_v2 {a0 a1 : Option D} {d : D} {r : Loc} : wp (cVar 2 (a0 :: a1 :: some d :: r)) Q s = Q d s := x_var
theorem x_v3 {a0 a1 a2 : Option D} {d : D} {r : Loc} : wp (cVar 3 (a0 :: a1 :: a2 :: some d :: r)) Q s = Q d s := x_var
theorem x_v4 {a0 a1 a2 a3 : Option D} {d : D} {r : Loc} : wp (cVar 4 (a0 :: a1 :: a2 :: a3 :: some d :: r)) Q s = Q d s := x_var
theorem x_v5 {a0 a1 a2 a3 a4 : Option D} {d : D} {r : Loc} : wp (cVar 5 (a0 :: a1 :: a2 :: a3 :: a4 :: some d :: r)) Q s = Q d s := x_var
theorem x_v6 {a0 a1 a2 a3 a4 a5 : Option D} {d : D} {r : Loc} : wp (cVar 6 (a0 :: a1 :: a2 :: a3 :: a4 :: a5 :: some d :: r)) Q s = Q d s := x_var
theorem x_v7 {a0 a1 a2 a3 a4 a5 a6 : Option D} {d : D} {r : Loc} : wp (cVar 7 (a0 :: a1 :: a2 :: a3 :: a4 :: a5 :: a6 :: some d :: r)) Q s = Q d s := x_var
theorem x_v8 {a0 a1 a2 a3 a4 a5 a6 a7 : Option D} {d : D} {r : Loc} : wp (cVar 8 (a0 :: a1 :: a2 :: a3 :: a4 :: a5 :: a6 :: a7 :: some d :: r)) Q s = Q d s := x_var
theorem x_v9 {a0 a1 a2 a3 a4 a5 a6 a7 a8 : Option D} {d : D} {r : Loc} : wp (cVar 9 (a0 :: a1 :: a2 :: a3 :: a4 :: a5 :: a6 :: a7 :: a8 :: some d :: r)) Q s = Q d s := x_var
theorem x_v10 {a0 a1 a2 a3 a4 a5 a6 a7 a8 a9 : Option D} {d : D} {r : Loc} : wp (cVar 10 (a0 :: a1 :: a2 :: a3 :: a4 :: a5 :: a6 :: a7 :: a8 :: a9 :: some d :: r)) Q s = Q d s := x_var
theorem x_v11 {a0 a1 a2 a3 a4 a5 a6 a7 a8 a9 a10 : Option D} {d : D} {r : Loc} : wp (cVar 11 (a0 :: a1 :: a2 :: a3 :: a4 :: a5 :: a6 :: a7 :: a8 :: a9 :: a10 :: some d :: r)) Q s = Q d s := x_var
theorem x_v12 {a0 a1 a2 a3 a4 a5 a6 a7 a8 a9 a10 a11 : Option D} {d : D} {r : Loc} : wp (cVar 12 (a0 :: a1 :: a2 :: a3 :: a4 :: a5 :: a6 :: a7 :: a8 :: a9 :: a10 :: a11 :: some d :: r)) Q s = Q d s := x_var
theorem x_v13 {a0 a1 a2 a3 a4 a5 a6 a7 a8 a9 a10 a11 a12 : Option D} {d : D} {r : Loc} : wp (cVar 13 (a0 :: a1 :: a2 :: a3 :: a4 :: a5 :: a6 :: a7 :: a8 :: a9 :: a10 :: a11 :: a12 :: some d :: r)) Q s = Q d s := x_var
theorem x_v14 {a0 a1 a2 a3 a4 a5 a6 a7 a8 a9 a10 a11 a12 a13 : Option D} {d : D} {r : Loc} : wp (cVar 14 (a0 :: a1 :: a2 :: a3 :: a4 :: a5 :: a6 :: a7 :: a8 :: a9 :: a10 :: a11 :: a12 :: a13 :: some d :: r)) Q s = Q d s := x_var
theorem x_con {d : D} : wp (cCon d l) Q s = Q d s := wp_eq rfl
theorem x_c1 {g : D → M D} {a : CE} : wp (c1 g a l) Q s = wp (a l) (fun x s' => wp (g x) Q s') s := by unfold c1; rw [Qga]
theorem x_c2 {g : D → D → M D} {a b : CE} : wp (c2 g a b l) Q s = wp (a l) (fun x s' => wp (b l) (fun y s'' => wp (g x y) Q s'') s') s := by
 unfold c2; rw [Qga]; congr 1; funext x s'; rw [Qga]
theorem x_call {g : List D → M D} {a : CA} : wp (cCall g a l) Q s = wp (a l) (fun x s' => wp (g x) Q s') s := by unfold cCall; rw [Qga]
theorem x_nil : wp (cNil l) A s = A [] s := wp_eq rfl
theorem x_cons {a : CE} {r : CA} : wp (cCons a r l) A s = wp (a l) (fun x s' => wp (r l) (fun xs s'' => A (x :: xs) s'') s') s := by
 unfold cCons; rw [Qga]; congr 1; funext x s'; rw [Qga]; ac_rfl
theorem x_tup {a : CA} : wp (cTup a l) Q s = wp (a l) (fun xs s' => xs.length ≤ lim ∧ Q (.tup xs) s') s := by
 unfold cTup; rw [Qga]; congr 1; funext x s'; rw [wp_chk]; ac_rfl
theorem x_disp {a : CA} : wp (aDisp a l) A s = wp (a l) (fun xs s' => xs.length ≤ lim ∧ A xs s') s := by
 unfold aDisp; rw [Qga]; congr 1; funext x s'; rw [wp_chk]; ac_rfl
theorem x_keep {a : CA} : wp (cKeep a l) Q s = wp (a l) (fun xs s' => Q (.ref s'.length) (s' ++ [.lst xs])) s := by
 unfold cKeep; rw [Qga]; ac_rfl
theorem x_tmp {g : List D → M D} {a : CA} : wp (cTmp g a l) Q s = wp (a l) (fun x s' => wp (g x) Q s') s := by unfold cTmp; rw [Qga]
theorem x_comp {n : Nat} {caps : List Nat} {i : CI} {g : CG} {t : CT} {e : CE} : wp (aComp n caps i g t e l) A s = wp (i l) (fun w s' => w.ds.length ≤ lim ∧ wp (collect g t e w.same w.ds (capt n caps l)) A s') s := by
 unfold aComp; rw [Qga]; congr 1; funext x s'; rw [wp_chk]
theorem x_for {i : CI} {g : CG} {b : CS} : wp (sFor i g b l) R s = wp (i l) (fun w s' => wp (forD g b w.same w.ds l) R s') s := by
 unfold sFor; rw [Qga]
theorem x_rng {a : CE} : wp (MM.iRng1 a l) I s = wp (a l) (fun x s' => match x with
  | .int j => (-(2 ^ 62) ≤ j ∧ j < 2 ^ 62) ∧ I ⟨rngD 0 j.toNat, anySt⟩ s'
  | _ => False) s := by
 unfold MM.iRng1; rw [Qga]; congr 1; funext x s'; cases x <;> first | bv_omega | (dsimp only; rw [wp_chk]; ac_rfl)
theorem x_iseq {a : CE} : wp (iSeq a l) I s = wp (a l) (fun x s' => match x with
  | .tup ds => I ⟨ds, anySt⟩ s'
  | .lit ds => I ⟨ds, anySt⟩ s'
  | .ref n => wp (getL n) (fun ds s'' => I ⟨ds, sameL n ds⟩ s'') s'
  | _ => False) s := by
 unfold iSeq; rw [Qga]; congr 1; funext x s'; cases x <;> first | bv_omega | (dsimp only; rw [Qga]; ac_rfl)
theorem x_add {i j : Int} : wp (addD (.int i) (.int j)) Q s = Q (.int (i + j)) s := wp_eq rfl
theorem x_sub {i j : Int} : wp (subD (.int i) (.int j)) Q s = Q (.int (i - j)) s := wp_eq rfl
theorem x_mul {i j : Int} : wp (mulD (.int i) (.int j)) Q s = (mulOk i j ∧ Q (.int (i * j)) s) := by unfold mulD; rw [wp_chk]; ac_rfl
theorem x_div {i j : Int} : wp (fdivD (.int i) (.int j)) Q s = ((0 < j ∧ j < 1073741824) ∧ Q (.int (i / j)) s) := by unfold fdivD; rw [wp_chk]; ac_rfl
theorem x_mod {i j : Int} : wp (modD (.int i) (.int j)) Q s = (0 < j ∧ Q (.int (i % j)) s) := by unfold modD; rw [wp_chk]; ac_rfl
theorem x_lt {i j : Int} : wp (ltD (.int i) (.int j)) Q s = Q (.bl (decide (i < j))) s := wp_eq rfl
theorem x_le {i j : Int} : wp (leD (.int i) (.int j)) Q s = Q (.bl (decide (i ≤ j))) s := wp_eq rfl
theorem x_gt {i j : Int} : wp (gtD (.int i) (.int j)) Q s = Q (.bl (decide (j < i))) s := wp_eq rfl
theorem x_ge {i j : Int} : wp (geD (.int i) (.int j)) Q s = Q (.bl (decide (j ≤ i))) s := wp_eq rfl
theorem x_eq {i j : Int} : wp (eqD (.int i) (.int j)) Q s = Q (.bl (i == j)) s := wp_eq rfl
theorem x_ne {i j : Int} : wp (neD (.int i) (.int j)) Q s = Q (.bl !(i == j)) s := wp_eq rfl
theorem x_subsT {ds : List D} {i : Int} : wp (subsD (.tup ds) (.int i)) Q s = wp (itemD ds i) Q s := nr rfl
theorem x_subsL {ds : List D} {i : Int} : wp (subsD (.lit ds) (.int i)) Q s = wp (itemD ds i) Q s := nr rfl
theorem x_subsR {n : Nat} {i : Int} : wp (subsD (.ref n) (.int i)) Q s = wp (getL n) (fun ds s' => wp (itemD ds i) Q s') s := by
 unfold subsD; rw [Qga]
theorem x_lenT {ds : List D} : wp (lenD (.tup ds)) Q s = Q (.int ds.length) s := wp_eq rfl
theorem x_lenL {ds : List D} : wp (lenD (.lit ds)) Q s = Q (.int ds.length) s := wp_eq rfl
theorem x_lenR {n : Nat} : wp (lenD (.ref n)) Q s = wp (getL n) (fun ds s' => Q (.int ds.length) s') s := by unfold lenD; rw [Qga]; ac_rfl
theorem x_intB {b : Bool} : wp (intD (.bl b)) Q s = Q (.int (if b then 1 else 0)) s := wp_eq rfl
theorem x_intI {i : Int} : wp (intD (.int i)) Q s = Q (.int i) s := wp_eq rfl
theorem x_setR {n : Nat} {i : Int} {v : D} {U : Unit → Sto → Prop} : wp (setItemD (.ref n) (.int i) v) U s = wp (getL n) (fun ds s' => wp (match MM.ixN ds.length i with
  | some j => putL n (ds.set j v)
  | none => bad) U s') s := by
 unfold setItemD; rw [Qga] <;> congr 1
theorem x_retF {d : D} : wp (flwD (.ret d)) Q s = Q d s := wp_eq rfl
theorem x_nextF : wp (flwD (.next l)) Q s = Q .non s := wp_eq rfl
end
end MM
namespace MM
open PySem
theorem x_slice {a : CE} {lo hi : CO} {A : List D → Sto → Prop} {s : Sto} {l : Loc} : wp (aSlice a lo hi l) A s = wp (a l) (fun x s1 => wp (lo l) (fun i s2 => wp (hi l) (fun j s3 => match x with
  | .lit ds => A (cutD ds i j) s3
  | .ref n => wp (getL n) (fun ds s4 => A (cutD ds i j) s4) s3
  | _ => False) s2) s1) s := by
 unfold aSlice; rw [Qga]; congr 1; funext x s1; rw [Qga]; congr 1; funext i s2; rw [Qga]; congr 1; funext j s3; cases x <;> first | bv_omega | (dsimp only; rw [Qga]; ac_rfl)
theorem x_none {A : Option Int → Sto → Prop} {s : Sto} {l : Loc} : wp (oNone l) A s = A none s := wp_eq rfl
theorem x_some {a : CE} {A : Option Int → Sto → Prop} {s : Sto} {l : Loc} : wp (oSome a l) A s = wp (a l) (fun x s1 => match x with
  | .int i => A (some i) s1
  | _ => False) s := by
 unfold oSome; rw [Qga]; congr 1; funext x s1; cases x <;> first | bv_omega
theorem x_enum {a : CE} {I : Wk → Sto → Prop} {s : Sto} {l : Loc} : wp (iEnum a l) I s = wp (a l) (fun x s' => match x with
  | .tup ds => I ⟨(rngD 0 ds.length).zipWith (fun i d => .tup [i, d]) ds, anySt⟩ s'
  | _ => False) s := by
 unfold iEnum; rw [Qga]; congr 1; funext x s'; cases x <;> first | bv_omega
theorem x_gtup {n : Nat} {r : List D → Loc → M Loc} {ds : List D} {G : Loc → Sto → Prop} {s : Sto} {l : Loc} : wp (gTupD n r (.tup ds) l) G s = (ds.length = n ∧ wp (r ds l) G s) := by
 unfold gTupD; rw [wp_chk]
theorem x_gcons {g : CG} {r : List D → Loc → M Loc} {d : D} {ds : List D} {G : Loc → Sto → Prop} {s : Sto} {l : Loc} : wp (gsCons g r (d :: ds) l) G s = wp (g d l) (fun l' s' => wp (r ds l') G s') s := by
 unfold gsCons; rw [Qga]
theorem x_gnil {G : Loc → Sto → Prop} {s : Sto} {l : Loc} : wp (gsNil [] l) G s = G l s := wp_eq rfl
def Ext (s s' : Sto) : Prop := ∃ t, s' = s ++ t
theorem Ext.refl (s : Sto) : Ext s s := ⟨[], by simp⟩
theorem Ext.snoc {s s' : Sto} (h : Ext s s') (o : MO) : Ext s (s' ++ [o]) := by obtain ⟨t, e⟩ := h; exact ⟨t ++ [o], by rw [e]; simp⟩
theorem Ext.trans {s s' s2 : Sto} (h : Ext s s') (k : Ext s' s2) : Ext s s2 := by obtain ⟨t, e⟩ := h; obtain ⟨u, f⟩ := k; exact ⟨t ++ u, by rw [f, e]; simp⟩
theorem Ext.at_ {s s' : Sto} {n : Nat} {o : MO} (h : Ext s s') (k : s[n]? = some o) : s'[n]? = some o := by
 obtain ⟨t, e⟩ := h
 rw [e, List.getElem?_append_left (List.getElem?_eq_some_iff.mp k).1]; exact k
theorem Qgp {α : Type} (f : α → Int) (xs : List α) : numsL (xs.map fun x => .int (f x)) = some (xs.map f) := by
 induction xs with
 | nil => rfl
 | cons x xs ih => simp only [List.map_cons, numsL, ih]; ac_rfl
theorem Qgq {α : Type} {m : M α} {v : α} {s : Sto} {Q : α → Sto → Prop} (h : wp m (fun a s' => a = v ∧ s' = s) s) : wp m Q s = Q v s := by
 simp only [Qf9] at *
 cases e : m s with
 | ok a s' => rw [e] at h; obtain ⟨h1, h2⟩ := h; subst h1; subst h2; ac_rfl
 | exc _ _ => rw [e] at h; exact h.elim
 | bad => rw [e] at h; exact h.elim
theorem Qgr {a b : Nat} {x y : List D} {Q : D → Sto → Prop} {s : Sto} (h1 : s[a]? = some (.lst x)) (h2 : s[b]? = some (.lst y)) : wp (addD (.ref a) (.ref b)) Q s = (x.length + y.length ≤ lim ∧ Q (.ref s.length) (s ++ [.lst (x ++ y)])) := by
 unfold addD; rw [Qga, Qgb h1, Qga, Qgb h2, wp_chk]; ac_rfl
theorem Qgs (n : Nat) : boolsL (List.replicate n (.bl true)) = some (List.replicate n true) := by
 induction n with
 | zero => rfl
 | succ n ih => rw [List.replicate_succ, List.replicate_succ]; simp only [boolsL, ih]; ac_rfl
def andB (x : D) (p q : Prop) : Prop := match x with
 | .bl true => p
 | .bl false => q
 | _ => False
theorem andB_t {p q : Prop} : andB (.bl true) p q = p := nr rfl
theorem andB_f {p q : Prop} : andB (.bl false) p q = q := nr rfl
section
variable {Q : D → Sto → Prop} {T : Bool → Sto → Prop} {R : Flw → Sto → Prop} {s : Sto} {l : Loc}
theorem x_andE {a b : CE} : wp (cAnd a b l) Q s = wp (a l) (fun x s' => andB x (wp (b l) Q s') (Q (.bl false) s')) s := by
 unfold cAnd; rw [Qga]; congr 1; funext x s'; rcases x with _ | b | _ | _ | _ | _ | _ | _ <;> first | bv_omega | (cases b <;> first | bv_omega)
theorem x_orE {a b : CE} : wp (cOr a b l) Q s = wp (a l) (fun x s' => andB x (Q (.bl true) s') (wp (b l) Q s')) s := by
 unfold cOr; rw [Qga]; congr 1; funext x s'; rcases x with _ | b | _ | _ | _ | _ | _ | _ <;> first | bv_omega | (cases b <;> first | bv_omega)
theorem x_notE {a : CE} : wp (cNot a l) Q s = wp (a l) (fun x s' => match x with
  | .bl b => Q (.bl !b) s'
  | _ => False) s := by
 unfold cNot; rw [Qga]; congr 1; funext x s'; cases x <;> first | bv_omega
theorem x_ifE {t : CT} {a b : CE} : wp (cIfE t a b l) Q s = wp (t l) (fun c s' => if c = true then wp (a l) Q s' else wp (b l) Q s') s := by
 unfold cIfE; rw [Qga]; congr 1; funext c s'; rw [Qge]
theorem x_truB {b : Bool} : wp (truD (.bl b)) T s = T b s := wp_eq rfl
theorem x_isB {b : Bool} : wp (isInst ["bool"] (.bl b)) Q s = Q (.bl true) s := wp_eq rfl
theorem x_eqB {a b : Bool} : wp (eqD (.bl a) (.bl b)) Q s = Q (.bl (a == b)) s := wp_eq rfl
theorem x_neB {a b : Bool} : wp (neD (.bl a) (.bl b)) Q s = Q (.bl !(a == b)) s := wp_eq rfl
theorem x_tupL {ds : List D} : wp (tupL ds) Q s = Q (.tup ds) s := wp_eq rfl
theorem x_lenLL {ds : List D} : wp (lenL ds) Q s = Q (.int ds.length) s := wp_eq rfl
theorem x_item0 {d : D} {ds : List D} : wp (itemD (d :: ds) 0) Q s = Q d s := by
 rw [Qgf (d := d) (by ac_nf) rfl, wp_ret]
theorem x_item1 {d e : D} {ds : List D} : wp (itemD (d :: e :: ds) 1) Q s = Q e s := by
 rw [Qgf (d := e) (by ac_nf) rfl, wp_ret]
theorem x_item2 {d e f : D} {ds : List D} : wp (itemD (d :: e :: f :: ds) 2) Q s = Q f s := by
 rw [Qgf (d := f) (by ac_nf) rfl, wp_ret]
theorem x_item3 {d e f g : D} {ds : List D} : wp (itemD (d :: e :: f :: g :: ds) 3) Q s = Q g s := by
 rw [Qgf (d := g) (by ac_nf) rfl, wp_ret]
theorem Qgt {ds : List D} {i : Nat} {d : D} (h : ds[i]? = some d) : wp (itemD ds i) Q s = Q d s := by
 rw [Qgf (d := d) (by ac_nf) (by simpa using h), wp_ret]
theorem x_tTrue : wp (tTrue l) T s = T true s := wp_eq rfl
theorem x_iTmp {a : CA} {I : Wk → Sto → Prop} : wp (iTmp a l) I s = wp (a l) (fun ds s' => I ⟨ds, anySt⟩ s') s := by unfold iTmp; rw [Qga]; ac_rfl
end
noncomputable def  bP (p : Prop) : Bool := @decide p (Classical.propDecidable p)
theorem Qgu {p : Prop} : bP p = true ↔ p := by unfold bP; exact @decide_eq_true_iff p (Classical.propDecidable p)
theorem Qgv {p : Prop} (h : p) : bP p = true := Qgu.mpr h
theorem Qgw {p : Prop} (h : ¬p) : bP p = false := by
 cases e : bP p with
 | false => rfl
 | true => exact (h (Qgu.mp e)).elim
theorem Qgx {p q : Prop} (h : p ↔ q) : bP p = bP q := by
 by_cases k : p
 ·rw [Qgv k, Qgv (h.mp k)]
 ·rw [Qgw k, Qgw fun z => k (h.mpr z)]
theorem Qgy {b : Bool} {p : Prop} (h : b = true ↔ p) : b = bP p := by
 cases b with
 | true => exact (Qgv (h.mp rfl)).symm
 | false => exact (Qgw fun k => by cases h.mpr k).symm
theorem Qgz {p q : Prop} : (bP p || bP q) = bP (p ∨ q) := Qgy (by rw [Bool.or_eq_true, Qgu, Qgu])
theorem QgA {p q : Prop} : (bP p && bP q) = bP (p ∧ q) := Qgy (by rw [Bool.and_eq_true, Qgu, Qgu])
theorem andB_or {p q : Prop} {Q : D → Sto → Prop} {s : Sto} : andB (.bl (bP p)) (Q (.bl true) s) (Q (.bl (bP q)) s) = Q (.bl (bP (p ∨ q))) s := by
 rw [← Qgz]
 cases bP p <;> simp [andB]
theorem andB_and {p q : Prop} {Q : D → Sto → Prop} {s : Sto} : andB (.bl (bP p)) (Q (.bl (bP q)) s) (Q (.bl false) s) = Q (.bl (bP (p ∧ q))) s := by
 rw [← QgA]
 cases bP p <;> simp [andB]
noncomputable def upto {α : Type} (n : Nat) (f : Nat → α) : List α := (List.range n).map f
theorem QgB {α : Type} {n i : Nat} {f : Nat → α} (h : i < n) : (upto n f)[i]? = some (f i) := by unfold upto; rw [List.getElem?_map, List.getElem?_range h]; ac_rfl
theorem QgC {α : Type} {n i : Nat} {f : Nat → α} {x : α} (h : (upto n f)[i]? = some x) : i < n ∧ x = f i := by
 have hi : i < n := by
  have := (List.getElem?_eq_some_iff.mp h).1
  simpa [upto] using this
 rw [QgB hi] at h; cases h; exact ⟨hi, rfl⟩
theorem QgD {α : Type} {n : Nat} {f : Nat → α} : (upto n f).length = n := by simp [upto]
theorem QgE {α : Type} {n : Nat} {f : Nat → α} : upto (n + 1) f = upto n f ++ [f n] := by unfold upto; rw [List.range_succ, List.map_append]; ac_rfl
theorem QgF {α : Type} {n : Nat} {xs : List α} {f : Nat → α} (hl : xs.length = n) (h : ∀ i, i < n → xs[i]? = some (f i)) : xs = upto n f := by
 apply List.ext_getElem?
 intro i
 by_cases hi : i < n
 ·rw [h i hi, QgB hi]
 ·rw [List.getElem?_eq_none (by ac_nf), List.getElem?_eq_none (by rw [QgD]; ac_nf)]
theorem QgG {α β : Type} {n : Nat} {f : Nat → α} {g : α → β} : (upto n f).map g = upto n fun i => g (f i) := by unfold upto; rw [List.map_map]; ac_rfl
theorem QgH {n : Nat} : rngD 0 n = upto n fun i => .int i := by unfold rngD upto; congr 1; funext k; simp
theorem QgI {n : Nat} {f : Nat → Bool} : boolsL (upto n fun i => .bl (f i)) = some (upto n f) := by
 have : ∀ (xs : List Nat), boolsL (xs.map fun i => .bl (f i)) = some (xs.map f) := by
  intro xs
  induction xs with
  | nil => rfl
  | cons x xs ih => simp only [List.map_cons, boolsL, ih]; ac_rfl
 exact this _
theorem QgJ {n : Nat} {p : Nat → Prop} {Q : D → Sto → Prop} {s : Sto} : wp (allD (upto n fun i => .bl (bP (p i)))) Q s = Q (.bl (bP (∀ i, i < n → p i))) s := by
 unfold allD; rw [QgI]
 have : (upto n fun i => bP (p i)).all id = bP (∀ i, i < n → p i) := Qgy (by simp [upto, List.all_map, Qgu])
 dsimp only; rw [this, wp_ret]
theorem QgK {g : CG} {e : CE} {same : Sto → Prop} {ds : List D} {l0 : Loc} {f : Nat → D} {Q : List D → Sto → Prop} {s : Sto} (I : Loc → Prop) (hs : same s) (h0 : I l0)
  (h : ∀ i d l, ds[i]? = some d → I l → ∃ l', (∀ G, wp (g d l) G s = G l' s) ∧ I l' ∧ ∀ Q, wp (e l') Q s = Q (f i) s) :
  wp (collect g tTrue e same ds l0) Q s = Q (upto ds.length f) s := by
 have chk : ∀ {R : Unit → Sto → Prop}, R () s → wp (chkS same) R s := fun r => by rw [Qf9]; unfold chkS; rw [if_pos hs]; exact r
 apply Qgq
 refine Qgh (Q := fun out s' => out = upto ds.length f ∧ s' = s) (fun out xs l s' => ∃ i, xs = ds.drop i ∧ i ≤ ds.length ∧ I l ∧ out = upto i f ∧ s' = s) (fun out l s' ⟨i, e1, hi, _, e2, es⟩ => ?_) (fun out d xs l s' ⟨i, e1, hi, hI, e2, es⟩ => ?_) ds [] _ s ⟨0, by simp, Nat.zero_le _, h0, rfl, rfl⟩
 ·have : i = ds.length := by
    have := congrArg List.length e1
    simp at this; ac_nf
  subst this
  subst es
  exact chk ⟨e2, rfl⟩
 ·have hlt : i < ds.length := by
    have := congrArg List.length e1
    simp at this; ac_nf
  rw [List.drop_eq_getElem_cons hlt] at e1
  obtain ⟨e3, e4⟩ := List.cons.inj e1
  obtain ⟨l', q1, q2, q3⟩ := h i d l (by rw [e3]; exact List.getElem?_eq_getElem hlt) hI
  subst es
  refine chk ?_
  rw [q1]
  show wp (ret true) _ s'
  rw [wp_ret]
  show wp (e l') _ s'
  rw [q3]
  exact ⟨i + 1, e4, hlt, q2, by rw [e2, QgE], rfl⟩
theorem QgL {e : CE} {same : Sto → Prop} {ds : List D} {caps : Loc} {f : Nat → D} {Q : List D → Sto → Prop} {s : Sto} (hs : same s) (h : ∀ i d, ds[i]? = some d → ∀ Q, wp (e (some d :: caps)) Q s = Q (f i) s) :
  wp (collect (gVar 0) tTrue e same ds (none :: caps)) Q s = Q (upto ds.length f) s :=
 QgK (fun l => ∃ x, l = x :: caps) hs ⟨none, rfl⟩ fun i d l hd pq83 => by obtain ⟨x, el⟩ := pq83; exact ⟨some d :: caps, fun G => by rw [el, x_gvar]; rfl, ⟨_, rfl⟩, h i d hd⟩
theorem QgM {e : CE} {same : Sto → Prop} {ds : List D} {caps : Loc} {f : Nat → D} {Q : List D → Sto → Prop} {s : Sto} (hs : same s) (h : ∀ i d, ds[i]? = some d → ∃ a b, d = .tup [a, b] ∧ ∀ Q, wp (e (some a :: some b :: caps)) Q s = Q (f i) s) :
  wp (collect (gTupD 2 (gsCons (gVar 0) (gsCons (gVar 1) gsNil))) tTrue e same ds (none :: none :: caps)) Q s = Q (upto ds.length f) s :=
 QgK (fun l => ∃ x y, l = x :: y :: caps) hs ⟨none, none, rfl⟩ fun i d l hd pq84 => by
  obtain ⟨x, y, el⟩ := pq84
  obtain ⟨a, b, ed, q⟩ := h i d hd
  refine ⟨some a :: some b :: caps, fun G => ?_, ⟨_, _, rfl⟩, q⟩
  rw [ed, el, x_gtup, x_gcons, x_gvar, x_gcons, x_gvar, x_gnil]
  exact propext ⟨fun h => h.2, fun h => ⟨rfl, h⟩⟩
section
variable {n : Nat} {f : Nat → D} {Q : D → Sto → Prop} {s : Sto}
theorem QgN {i : Nat} (h : i < n) : wp (itemD (upto n f) (i : Int)) Q s = Q (f i) s := Qgt (QgB h)
theorem QgO (h : 0 < n) : wp (itemD (upto n f) 0) Q s = Q (f 0) s := by
 have := @Qgt Q s (upto n f) 0 (f 0) (QgB h); simpa using this
end
theorem QgP {s : Sto} : anySt s := trivial
theorem QgQ {g : CG} {b : CS} {same : Sto → Prop} {n : Nat} {f : Nat → D} {l : Loc} {s : Sto} {Q : Flw → Sto → Prop} (W : Nat → Loc → Sto → Prop) (hs : ∀ i l s, W i l s → same s) (h0 : W 0 l s)
  (hstep : ∀ (i : Nat) l s, i < n → W i l s → wp (g (f i) l) (fun l1 s2 => wp (b l1) (fun f s3 => match f with
   | .next l2 => W (i + 1) l2 s3
   | .cnt l2 => W (i + 1) l2 s3
   | .brk l2 => Q (.next l2) s3
   | .ret d => Q (.ret d) s3) s2) s) (hend : ∀ l s, W n l s → Q (.next l) s) : wp (forD g b same (upto n f) l) Q s :=
 Qgo W hs h0 (fun i d l s hd w => by obtain ⟨hi, e⟩ := QgC hd; subst e; exact hstep i l s hi w) (fun l s w => hend l s (by rw [QgD] at w; exact w))
theorem QgR {e : CE} {same : Sto → Prop} {n : Nat} {g : Nat → D} {caps : Loc} {f : Nat → D} {Q : List D → Sto → Prop} {s : Sto} (hs : same s) (h : ∀ i, i < n → ∀ Q, wp (e (some (g i) :: caps)) Q s = Q (f i) s) :
  wp (collect (gVar 0) tTrue e same (upto n g) (none :: caps)) Q s = Q (upto n f) s := by
 rw [QgL (f := f) hs (fun i d hd => by obtain ⟨hi, e⟩ := QgC hd; subst e; exact h i hi), QgD]
theorem QgS {a b : Nat} : ((a : Int) == (b : Int)) = bP (a = b) := Qgy (by rw [beq_iff_eq]; ac_nf)
theorem QgT {n : Nat} {f : Nat → D} : (rngD 0 n).zipWith (fun i d => D.tup [i, d]) (upto n f) = upto n fun i => .tup [.int i, f i] := by
 apply QgF
 ·simp [rngD, upto]
 ·intro i hi
  rw [List.getElem?_zipWith, Qgj hi, QgB hi]
theorem QgU {e : CE} {same : Sto → Prop} {n : Nat} {a b : Nat → D} {caps : Loc} {f : Nat → D} {Q : List D → Sto → Prop} {s : Sto} (hs : same s) (h : ∀ i, i < n → ∀ Q, wp (e (some (a i) :: some (b i) :: caps)) Q s = Q (f i) s) :
  wp (collect (gTupD 2 (gsCons (gVar 0) (gsCons (gVar 1) gsNil))) tTrue e same (upto n fun i => .tup [a i, b i]) (none :: none :: caps)) Q s = Q (upto n f) s := by
 rw [QgM (f := f) hs (fun i d hd => by obtain ⟨hi, e⟩ := QgC hd; exact ⟨_, _, e, h i hi⟩), QgD]
end MM
namespace MM
open PySem
section
variable {Q : D → Sto → Prop} {T : Bool → Sto → Prop} {R : Flw → Sto → Prop} {A : List D → Sto → Prop} {s : Sto} {l : Loc}
theorem x_chain {f g : D → D → M D} {a b c : CE} : wp (cChain f g a b c l) Q s = wp (a l) (fun x s1 => wp (b l) (fun y s2 => wp (f x y) (fun z s3 => andB z (wp (c l) (fun w s4 => wp (g y w) Q s4) s3) (Q (.bl false) s3)) s2) s1) s := by
 unfold cChain; rw [Qga]; congr 1; funext x s1; rw [Qga]; congr 1; funext y s2; rw [Qga]; congr 1; funext z s3
 rcases z with _ | b | _ | _ | _ | _ | _ | _ <;> first | bv_omega | (cases b <;> first | bv_omega | (dsimp only; rw [Qga]; first | ac_rfl | (refine congrArg _ ?_; refine wp_cg fun _ _ => ?_; simp only [wp_ret, wp_alloc, wp_bad])))
theorem x_append {a b : CE} : wp (cAppend a b l) Q s = wp (a l) (fun x s1 => match x with
  | .ref n => wp (b l) (fun v s2 => wp (getL n) (fun ds s3 => ds.length < lim ∧ wp (putL n (ds ++ [v])) (fun _ s4 => Q .non s4) s3) s2) s1
  | _ => False) s := by
 unfold cAppend; rw [Qga]; congr 1; funext x s1
 cases x <;> first | bv_omega | (dsimp only; rw [Qga]; congr 1; funext v s2; unfold appendL; rw [Qga]; congr 1; funext ds s3; rw [wp_chk, Qga]; first | ac_rfl | (refine congrArg _ ?_; refine wp_cg fun _ _ => ?_; simp only [wp_ret, wp_alloc, wp_bad]))
theorem x_clear {a : CE} : wp (cClear a l) Q s = wp (a l) (fun x s1 => match x with
  | .ref n => wp (putL n []) (fun _ s4 => Q .non s4) s1
  | _ => False) s := by
 unfold cClear; rw [Qga]; congr 1; funext x s1
 cases x <;> first | bv_omega | (dsimp only; rw [Qga]; first | ac_rfl | (refine congrArg _ ?_; refine wp_cg fun _ _ => ?_; simp only [wp_ret, wp_alloc, wp_bad]))
theorem x_pop {a : CE} : wp (cPop a l) Q s = wp (a l) (fun x s1 => match x with
  | .ref n => wp (getL n) (fun ds s2 => match ds.getLast? with
   | some d => wp (putL n ds.dropLast) (fun _ s4 => Q d s4) s2
   | none => False) s1
  | _ => False) s := by
 unfold cPop; rw [Qga]; congr 1; funext x s1
 cases x <;> first | bv_omega | (dsimp only; rw [Qga]; congr 1; funext ds s2; cases ds.getLast? <;> first | bv_omega | (dsimp only; rw [Qga]; first | ac_rfl | (refine congrArg _ ?_; refine wp_cg fun _ _ => ?_; simp only [wp_ret, wp_alloc, wp_bad])))
theorem x_reverse {a : CE} : wp (cReverse a l) Q s = wp (a l) (fun x s1 => match x with
  | .ref n => wp (getL n) (fun ds s2 => wp (putL n ds.reverse) (fun _ s4 => Q .non s4) s2) s1
  | _ => False) s := by
 unfold cReverse; rw [Qga]; congr 1; funext x s1
 cases x <;> first | bv_omega | (dsimp only; rw [Qga]; congr 1; funext ds s2; rw [Qga]; first | ac_rfl | (refine congrArg _ ?_; refine wp_cg fun _ _ => ?_; simp only [wp_ret, wp_alloc, wp_bad]))
theorem x_back {a : CE} : wp (aBack a l) A s = wp (a l) (fun x s1 => match x with
  | .ref n => wp (getL n) (fun ds s2 => A ds.reverse s2) s1
  | _ => False) s := by
 unfold aBack; rw [Qga]; congr 1; funext x s1
 cases x <;> first | bv_omega | (dsimp only; rw [Qga]; first | ac_rfl | (refine congrArg _ ?_; refine wp_cg fun _ _ => ?_; simp only [wp_ret, wp_alloc, wp_bad]))
theorem x_listT {ds : List D} : wp (listD (.tup ds)) Q s = Q (.ref s.length) (s ++ [.lst ds]) := wp_eq rfl
theorem x_listR {n : Nat} : wp (listD (.ref n)) Q s = wp (getL n) (fun ds s1 => Q (.ref s1.length) (s1 ++ [.lst ds])) s := by unfold listD seqOf; rw [Qga]; (try dsimp only); (try rw [Qga]); refine wp_cg fun _ _ => ?_; simp only [wp_ret, wp_alloc, wp_bad]
theorem x_tupleT {ds : List D} : wp (tupleD (.tup ds)) Q s = Q (.tup ds) s := wp_eq rfl
theorem x_tupleR {n : Nat} : wp (tupleD (.ref n)) Q s = wp (getL n) (fun ds s1 => Q (.tup ds) s1) s := by unfold tupleD; rw [Qga]; (try dsimp only); (try rw [Qga]); refine wp_cg fun _ _ => ?_; simp only [wp_ret, wp_alloc, wp_bad]
theorem x_isntB {a b : Bool} : wp (isntD (.bl a) (.bl b)) Q s = Q (.bl !(a == b)) s := wp_eq rfl
theorem x_isB2 {a b : Bool} : wp (isD (.bl a) (.bl b)) Q s = Q (.bl (a == b)) s := wp_eq rfl
theorem x_inTu {x : D} {ds : List D} : wp (inD x (.tup ds)) Q s = wp (inL x ds) Q s := nr rfl
theorem x_eqStr {a b : Str} : wp (eqD (.str a) (.str b)) Q s = Q (.bl (a == b)) s := wp_eq rfl
theorem x_neStr {a b : Str} : wp (neD (.str a) (.str b)) Q s = Q (.bl !(a == b)) s := wp_eq rfl
theorem x_isiL {n : Nat} : wp (isInst ["list"] (.ref n)) Q s = Q (.bl true) s := wp_eq rfl
theorem x_isiT {ds : List D} : wp (isInst ["tuple"] (.tup ds)) Q s = Q (.bl true) s := wp_eq rfl
theorem x_isiI {i : Int} : wp (isInst ["int"] (.int i)) Q s = Q (.bl true) s := wp_eq rfl
theorem x_isiB {i : Int} : wp (isInst ["bool"] (.int i)) Q s = Q (.bl false) s := wp_eq rfl
theorem x_isiBN : wp (isInst ["bool"] .non) Q s = Q (.bl false) s := wp_eq rfl
theorem x_neg {i : Int} : wp (negD (.int i)) Q s = Q (.int (-i)) s := wp_eq rfl
theorem x_min2 {i j : Int} : wp (min2D (.int i) (.int j)) Q s = Q (.int (min i j)) s := wp_eq rfl
theorem x_max2 {i j : Int} : wp (max2D (.int i) (.int j)) Q s = Q (.int (max i j)) s := wp_eq rfl
theorem x_rng2 {a b : CE} {I : Wk → Sto → Prop} : wp (MM.iRng2 a b l) I s = wp (a l) (fun x s1 => wp (b l) (fun y s2 => match x, y with
  | .int i, .int j => ((-(2 ^ 62) ≤ i ∧ i < 2 ^ 62) ∧ (-(2 ^ 62) ≤ j ∧ j < 2 ^ 62)) ∧ I ⟨rngD i (j - i).toNat, anySt⟩ s2
  | _, _ => False) s1) s := by
 unfold MM.iRng2; rw [Qga]; congr 1; funext x s1; rw [Qga]; congr 1; funext y s2
 cases x <;> cases y <;> first | bv_omega | (dsimp only; rw [wp_chk]; first | ac_rfl | (refine congrArg _ ?_; refine wp_cg fun _ _ => ?_; simp only [wp_ret, wp_alloc, wp_bad]))
theorem x_shl {i j : Int} : wp (shlD (.int i) (.int j)) Q s = ((0 ≤ j ∧ j ≤ 1000000 ∧ i.natAbs < 2 ^ 64) ∧ Q (.int (i * 2 ^ j.toNat)) s) := by unfold shlD; rw [wp_chk]; first | ac_rfl | (refine congrArg _ ?_; refine wp_cg fun _ _ => ?_; simp only [wp_ret, wp_alloc, wp_bad])
theorem x_addT {x y : List D} : wp (addD (.tup x) (.tup y)) Q s = (x.length + y.length ≤ lim ∧ Q (.tup (x ++ y)) s) := by unfold addD; rw [wp_chk]; first | ac_rfl | (refine congrArg _ ?_; refine wp_cg fun _ _ => ?_; simp only [wp_ret, wp_alloc, wp_bad])
theorem x_tmpSub {a : CA} {b : CE} : wp (cTmpSub a b l) Q s = wp (a l) (fun ds s1 => wp (b l) (fun i s2 => match i with
  | .int k => wp (itemD ds k) Q s2
  | _ => False) s1) s := by
 unfold cTmpSub; rw [Qga]; congr 1; funext ds s1; rw [Qga]; congr 1; funext i s2; cases i <;> first | bv_omega
theorem x_inTmp {g : D → List D → M D} {a : CE} {b : CA} : wp (cInTmp g a b l) Q s = wp (a l) (fun x s1 => wp (b l) (fun ds s2 => wp (g x ds) Q s2) s1) s := by
 unfold cInTmp; rw [Qga]; congr 1; funext x s1; rw [Qga]
end
theorem ite_t {p q : Prop} : (if true = true then p else q) = p := if_pos rfl
theorem ite_f {p q : Prop} : (if false = true then p else q) = q := if_neg (by simp)
theorem Ext.put {s s' : Sto} {n : Nat} {o : MO} (h : Ext s s') (hn : s.length ≤ n) : Ext s (s'.set n o) := by
 obtain ⟨t, e⟩ := h
 exact ⟨t.set (n - s.length) o, by rw [e, List.set_append_right _ _ hn]⟩
theorem Ext.le {s s' : Sto} (h : Ext s s') : s.length ≤ s'.length := by obtain ⟨t, e⟩ := h; rw [e]; simp
end MM
namespace MM
open PySem
section
variable {Q : D → Sto → Prop} {s : Sto} {l : Loc}
theorem x_sliceT {a : CE} {lo hi : CO} : wp (cSliceT a lo hi l) Q s = wp (a l) (fun x s1 => wp (lo l) (fun i s2 => wp (hi l) (fun j s3 => match x with
  | .tup ds => ¬(sIx ds.length 0 i = 0 ∧ sIx ds.length ds.length j = ds.length) ∧ Q (.tup (cutD ds i j)) s3
  | _ => False) s2) s1) s := by
 unfold cSliceT; rw [Qga]; congr 1; funext x s1; rw [Qga]; congr 1; funext i s2; rw [Qga]; congr 1; funext j s3; cases x <;> first | bv_omega | (dsimp only; rw [wp_chk]; ac_rfl)
inductive Pd : Nat → D → Prop
 | non {n} : Pd n .non
 | bl {n} (b) : Pd n (.bl b)
 | int {n} (i) : Pd n (.int i)
 | str {n} (x) : Pd n (.str x)
 | tup {n} {ds : List D} (h : ∀ d ∈ ds, Pd n d) : Pd (n + 1) (.tup ds)
theorem Pd.up {n : Nat} {d : D} (h : Pd n d) : Pd (n + 1) d := by
 induction h with
 | non => exact .non
 | bl b => exact .bl b
 | int i => exact .int i
 | str x => exact .str x
 | tup h ih => exact .tup ih
theorem QgV {f : D → D → Option Bool} : ∀ {ds : List D}, (∀ d ∈ ds, f d d = some true) → allF f ds ds = some true
 | [], _ => rfl
 | d :: ds, h => by
  unfold allF
  rw [h d (by simp)]
  exact QgV fun x hx => h x (by simp [hx])
theorem Pd.eq {n : Nat} {d : D} (h : Pd n d) : eqF n d d = some true := by
 induction h with
 | @non n => cases n <;> first | bv_omega
 | @bl n b => cases n <;> exact congrArg some (beq_self_eq_true b)
 | @int n i => cases n <;> exact congrArg some (beq_self_eq_true i)
 | @str n x => cases n <;> exact congrArg some (beq_self_eq_true x)
 | @tup n ds h ih => exact QgV ih
theorem Pd.le {n m : Nat} {d : D} (h : Pd n d) (hm : n ≤ m) : Pd m d := by
 induction m with
 | zero => have : n = 0 := by ac_nf
           subst this; exact h
 | succ m ih =>
  by_cases e : n = m + 1
  ·subst e; exact h
  ·exact (ih (by ac_nf)).up
end
end MM
namespace MM
open PySem
section
variable {α β : Type} {γ : Sort _}
theorem y_dec {p : Prop} [Decidable p] : (decide p = true) = p := _root_.decide_eq_true_eq
theorem y_rs {n : Nat} {a : α} : List.replicate (n + 1) a = a :: List.replicate n a := nr rfl
theorem y_rz {a : α} : List.replicate 0 a = [] := nr rfl
theorem y_js {x : Option α} : (some x).join = x := nr rfl
theorem y_mc {f : α → β} {a : α} {l : List α} : List.map f (a :: l) = f a :: List.map f l := nr rfl
theorem y_mn {f : α → β} : List.map f [] = [] := nr rfl
theorem y_ca {a : α} {l k : List α} : (a :: l) ++ k = a :: (l ++ k) := nr rfl
theorem y_na {l : List α} : [] ++ l = l := nr rfl
theorem y_g0 {a : α} {l : List α} : (a :: l)[0]? = some a := nr rfl
theorem y_gs {a : α} {l : List α} {i : Nat} : (a :: l)[i + 1]? = l[i]? := by simp
theorem y_s0 {a b : α} {l : List α} : (a :: l).set 0 b = b :: l := nr rfl
theorem y_ss {a b : α} {l : List α} {i : Nat} : (a :: l).set (i + 1) b = a :: l.set i b := nr rfl
theorem y_lc {a : α} {l : List α} : (a :: l).length = l.length + 1 := nr rfl
theorem y_ln : ([] : List α).length = 0 := nr rfl
theorem y_ge {a b : Int} : (a ≥ b) = (b ≤ a) := nr rfl
theorem y_it {c d : γ} : (if True then c else d) = c := if_pos trivial
theorem y_if {c d : γ} : (if False then c else d) = d := if_neg (fun h => h)
theorem y_at {p : Prop} : (p ∧ True) = p := and_true p
theorem y_ta {p : Prop} : (True ∧ p) = p := true_and p
theorem y_nt : (!true) = false := nr rfl
theorem y_nf : (!false) = true := nr rfl
end
section
variable {Q : D → Sto → Prop} {U : Unit → Sto → Prop} {A : List D → Sto → Prop} {s : Sto} {l : Loc}
theorem x_subsD {n : Nat} {k : D} : wp (subsD (.dic n) k) Q s = wp (itemK n k) Q s := by cases k <;> first | bv_omega
theorem x_setD {n : Nat} {k v : D} : wp (setItemD (.dic n) k v) U s = wp (storeK n k v) U s := by cases k <;> first | bv_omega
theorem x_inDc {n : Nat} {k : D} : wp (inD k (.dic n)) Q s = wp (hasK n k) (fun b s' => Q (.bl b) s') s := by unfold inD; rw [Qga]; ac_rfl
theorem x_ninDc {n : Nat} {k : D} : wp (ninD k (.dic n)) Q s = wp (hasK n k) (fun b s' => Q (.bl !b) s') s := by unfold ninD; rw [Qga]; ac_rfl
theorem x_dnew {b : Bool} : wp (cDNew b l) Q s = Q (.dic s.length) (s ++ [.dct b []]) := wp_eq rfl
theorem x_cdisp {ks : List D} {vs : CA} : wp (cDisp ks vs l) Q s = wp (vs l) (fun xs s' => ks.length = xs.length ∧ Q (.dic s'.length) (s' ++ [.dct false (mgK [] (ks.zip xs))])) s := by
 unfold cDisp; rw [Qga]; congr 1; funext xs s'; rw [wp_chk]; rw [show ∀ kvs, wp (allocK false kvs) Q s' = Q (.dic s'.length) (s' ++ [.dct false kvs]) from fun _ => wp_eq rfl]
theorem x_arev {a : CA} : wp (aRev a l) A s = wp (a l) (fun ds s' => A ds.reverse s') s := by unfold aRev; rw [Qga]; ac_rfl
end
theorem x_times {a : CA} {b : CE} {A : List D → Sto → Prop} {s : Sto} {l : Loc} : wp (aTimes a b l) A s = wp (a l) (fun xs s1 => wp (b l) (fun k s2 => match k with
  | .int k => ((-(2 ^ 63) ≤ k ∧ k < 2 ^ 63) ∧ xs.length * k.toNat ≤ lim) ∧ A (List.replicate k.toNat xs).flatten s2
  | _ => False) s1) s := by
 unfold aTimes; rw [Qga]; congr 1; funext xs s1; rw [Qga]; congr 1; funext k s2; cases k <;> first | bv_omega | (dsimp only; rw [wp_chk]; ac_rfl)
theorem QgW {m : M D} {s : Sto} (h : wp m (fun d _ => d = .bl true) s) : ∃ st', m s = .ok (.bl true) st' := by
 rw [Qf9] at h
 cases e : m s with
 | ok a s' => rw [e] at h; exact ⟨s', by rw [show a = .bl true from h]⟩
 | exc _ _ => rw [e] at h; exact h.elim
 | bad => rw [e] at h; exact h.elim
section
variable {Q : D → Sto → Prop} {A : List D → Sto → Prop} {s : Sto}
end
end MM
local macro_rules
 | `(tactic| simp_arith [$a,*]) => `(tactic| simp only [↓MM.x_seq, ↓MM.x_next, ↓MM.x_asg, ↓MM.x_ret, ↓MM.x_exp, ↓MM.x_if, ↓MM.x_cmp, ↓MM.x_andE, ↓MM.x_orE, ↓MM.x_notE, ↓MM.x_ifE, ↓MM.x_truB, ↓MM.x_isB, ↓MM.x_eqB, ↓MM.x_neB, ↓MM.x_tupL, ↓MM.x_lenLL, ↓MM.x_item0, ↓MM.x_item1, ↓MM.x_item2, ↓MM.x_item3, ↓MM.x_tTrue, ↓MM.x_iTmp, ↓MM.x_enum, ↓MM.x_gtup, ↓MM.x_gcons, ↓MM.x_gnil, ↓MM.x_slice, ↓MM.x_none, ↓MM.x_some, ↓MM.x_val, ↓MM.x_not, ↓MM.x_and, ↓MM.x_or, ↓MM.x_g0, ↓MM.x_g1, ↓MM.x_g2, ↓MM.x_g3, ↓MM.x_g4, ↓MM.x_g5, ↓MM.x_g6, ↓MM.x_g7, ↓MM.x_g8, ↓MM.x_g9, ↓MM.x_g10, ↓MM.x_g11, ↓MM.x_g12, ↓MM.x_g13, ↓MM.x_g14, MM.x_gvar, ↓MM.x_gsub, ↓MM.x_v0, ↓MM.x_v1, ↓MM.x_v2, ↓MM.x_v3, ↓MM.x_v4, ↓MM.x_v5, ↓MM.x_v6, ↓MM.x_v7, ↓MM.x_v8, ↓MM.x_v9, ↓MM.x_v10, ↓MM.x_v11, ↓MM.x_v12, ↓MM.x_v13, ↓MM.x_v14, MM.x_var, ↓MM.x_con, ↓MM.x_c1, ↓MM.x_c2, ↓MM.x_call, ↓MM.x_nil, ↓MM.x_cons, ↓MM.x_tup, ↓MM.x_disp, ↓MM.x_keep, ↓MM.x_tmp, ↓MM.x_comp, ↓MM.x_for, ↓MM.x_rng, ↓MM.x_iseq, ↓MM.x_add, ↓MM.x_sub, ↓MM.x_mul, ↓MM.x_div, ↓MM.x_mod, ↓MM.x_lt, ↓MM.x_le, ↓MM.x_gt, ↓MM.x_ge, ↓MM.x_eq, ↓MM.x_ne, ↓MM.x_subsT, ↓MM.x_subsL, ↓MM.x_subsR, ↓MM.x_lenT, ↓MM.x_lenL, ↓MM.x_lenR, ↓MM.x_intB, ↓MM.x_intI, ↓MM.x_setR, ↓MM.x_retF, ↓MM.x_nextF, ↓MM.wp_run, ↓MM.wp_ret, ↓MM.wp_chk, ↓MM.wp_alloc, MM.andB_t, MM.andB_f, MM.andB_or, MM.andB_and, MM.y_dec, MM.y_rs, MM.y_rz, MM.y_js, MM.y_mc, MM.y_mn, MM.y_ca, MM.y_na, MM.y_g0, MM.y_gs, MM.y_s0, MM.y_ss, MM.y_lc, MM.y_ln, Nat.reduceAdd, Nat.reduceSub, MM.y_ge, Int.reduceLE, Int.reduceLT, MM.y_it, MM.y_if, MM.y_at, MM.y_ta, beq_iff_eq, ↓MM.x_chain, ↓MM.x_append, ↓MM.x_clear, ↓MM.x_pop, ↓MM.x_reverse, ↓MM.x_back, ↓MM.x_listT, ↓MM.x_listR, ↓MM.x_tupleT, ↓MM.x_tupleR, ↓MM.x_isntB, ↓MM.x_isB2, ↓MM.x_inTu, ↓MM.x_eqStr, ↓MM.x_neStr, ↓MM.x_isiL, ↓MM.x_isiT, ↓MM.x_isiI, ↓MM.x_isiB, ↓MM.x_isiBN, ↓MM.x_neg, ↓MM.x_min2, ↓MM.x_max2, ↓MM.x_rng2, ↓MM.x_shl, ↓MM.x_addT, ↓MM.x_tmpSub, ↓MM.x_inTmp, MM.ite_t, MM.ite_f, MM.y_nt, MM.y_nf, ↓MM.x_sliceT, ↓MM.x_subsD, ↓MM.x_setD, ↓MM.x_inDc, ↓MM.x_ninDc, ↓MM.x_dnew, ↓MM.x_cdisp, ↓MM.x_arev, ↓MM.x_times, Nat.reduceLT, Nat.reduceLeDiff, $a,*])
namespace MM
open PySem
noncomputable def pr : List Nat → Nat
 | [] => 1
 | b :: bs => b * pr bs
section
variable {Q : List D → Sto → Prop} {s : Sto}
theorem QgX {g : CG} {t : CT} {e : CE} {same : Sto → Prop} {l0 : Loc} (I : Loc → Prop) (p : D → Bool) (f : D → D) (hs : same s) : ∀ (ds : List D) (l0 : Loc), I l0 → (∀ d ∈ ds, ∀ l, I l → ∃ l', (∀ G, wp (g d l) G s = G l' s) ∧ I l' ∧ (∀ T, wp (t l') T s = T (p d) s) ∧ ∀ Q, wp (e l') Q s = Q (f d) s) →
  ∀ Q, wp (collect g t e same ds l0) Q s = Q ((ds.filter p).map f) s
 | [], l0, _, _, Q => by
  unfold collect
  rw [Qga]
  rw [show wp (chkS same) (fun a s' => wp (ret []) Q s') s = Q [] s from by rw [Qf9]; unfold chkS; rw [if_pos hs]; exact wp_ret]
  rfl
 | d :: ds, l0, h0, h, Q => by
  obtain ⟨l', q1, q2, q3, q4⟩ := h d (by simp) l0 h0
  have ih := QgX (l0 := l0) I p f hs ds l' q2 fun x hx => h x (by simp [hx])
  unfold collect
  rw [Qga, show ∀ R : Unit → Sto → Prop, wp (chkS same) R s = R () s from fun R => by rw [Qf9]; unfold chkS; rw [if_pos hs], Qga, q1, Qga, q3]
  cases hp : p d with
  | true =>
   rw [if_pos rfl, Qga, q4, Qga, ih, wp_ret, List.filter_cons, if_pos hp]
   rfl
  | false => rw [if_neg (by simp), ih, List.filter_cons, if_neg (by rw [hp]; simp)]
end
end MM
namespace MM
open PySem
section
variable {l : Loc} {Q : D → Sto → Prop} {A : List D → Sto → Prop} {I : Wk → Sto → Prop} {s : Sto}
end
end MM
namespace My
open PySem MM
noncomputable def  yW : CS :=
  (sSeq (sRet (c2 subsD (c2 subsD (c2 subsD (cVar 0) (cVar 1)) (cVar 2)) (cCon (.int 0))))
  sNext)
@[irreducible] noncomputable def  jE : List D → M D := runDef 3 yW
noncomputable def  zS : CS :=
  (sSeq (sRet (c2 addD (cCon (.int 1)) (cTmp maxD (aComp 1 [1] (iSeq (cVar 0)) (gVar 0) tTrue (c2 subsD (c2 subsD (cVar 0) (cVar 1)) (cCon (.int 1)))))))
  sNext)
@[irreducible] noncomputable def  ya : List D → M D := runDef 2 zS
noncomputable def  zU : CS :=
  (sSeq (sRet (cTmp allD (aComp 2 [1] (iEnum (cVar 0)) (gTupD 2 (gsCons (gVar 0) (gsCons (gVar 1) gsNil))) tTrue (c2 eqD (c2 subsD (c2 subsD (cVar 1) (cVar 2)) (cCon (.int 0))) (cVar 0)))))
  sNext)
@[irreducible] noncomputable def  jy : List D → M D := runDef 2 zU
noncomputable def  zj : CS :=
  (sSeq (sAsg (gVar 2) (cCall jE (cCons (cVar 0) (cCons (cCon (.int 0)) (cCons (cVar 1) cNil)))))
  (sSeq (sRet (cAnd (c2 eqD (cCall ya (cCons (cVar 0) (cCons (cVar 1) cNil))) (cCon (.int 1))) (cTmp allD (aComp 1 [1, 2] (iSeq (cVar 0)) (gVar 0) tTrue (c2 eqD (c2 subsD (c2 subsD (cVar 0) (cVar 1)) (cCon (.int 0))) (cVar 2))))))
  sNext))
@[irreducible] noncomputable def  js : List D → M D := runDef 3 zj
noncomputable def  zD : CS :=
  (sSeq (sRet (cTmp allD (aComp 1 [0] (MM.iRng1 (c1 lenD (c2 subsD (cVar 0) (cCon (.int 0))))) (gVar 0) tTrue (cOr (cCall jy (cCons (cVar 1) (cCons (cVar 0) cNil))) (cCall js (cCons (cVar 1) (cCons (cVar 0) cNil)))))))
  sNext)
@[irreducible] noncomputable def  jQ : List D → M D := runDef 1 zD
noncomputable def  wC : CS :=
  (sSeq (sAsg (gVar 2) (c2 addD (c2 mulD (cCon (.int 104729)) (cVar 1)) (cCon (.int 17))))
  (sSeq (sIf (tCmpB (c2 ltD (cVar 1) (c1 lenD (cVar 0))))
   (sSeq (sAsg (gVar 2) (c2 subsD (cVar 0) (cVar 1)))
   sNext)
   (sSeq (sIf (tCmpB (c2 gtD (c1 lenD (cVar 0)) (cCon (.int 0))))
    (sSeq (sAsg (gVar 2) (c2 addD (cVar 2) (c2 mulD (c2 modD (c2 subsD (cVar 0) (c2 modD (cVar 1) (c1 lenD (cVar 0)))) (cCon (.int 2147483629))) (cCon (.int 48611)))))
    sNext)
    sNext)
   sNext))
  (sSeq (sAsg (gVar 3) (c2 modD (c2 addD (c2 addD (c2 mulD (c2 modD (cVar 2) (cCon (.int 2147483629))) (cCon (.int 48271))) (c2 mulD (cCon (.int 7919)) (cVar 1))) (cCon (.int 11))) (cCon (.int 2147483629))))
  (sSeq (sRet (cKeep (aDisp (cCons (c2 mulD (cVar 2) (c1 intD (c2 geD (cVar 2) (c2 powD (cCon (.int 10)) (cCon (.int 18)))))) (cCons (cVar 3) cNil)))))
  sNext))))
@[irreducible] noncomputable def  yb : List D → M D := runDef 4 wC
noncomputable def  zF : CS :=
  (sSeq (sIf (tCmpB (c2 gtD (c2 subsD (cVar 0) (cCon (.int 0))) (cCon (.int 0))))
   (sSeq (sAsg (gVar 2) (c2 modD (c2 subsD (cVar 0) (cCon (.int 0))) (cVar 1)))
   (sSeq (sAsg (gSubD (cVar 0) (cCon (.int 0))) (c2 fdivD (c2 subsD (cVar 0) (cCon (.int 0))) (cVar 1)))
   (sSeq (sRet (cVar 2))
   sNext)))
   sNext)
  (sSeq (sAsg (gSubD (cVar 0) (cCon (.int 1))) (c2 modD (c2 addD (c2 mulD (c2 subsD (cVar 0) (cCon (.int 1))) (cCon (.int 48271))) (cCon (.int 12345))) (cCon (.int 2147483647))))
  (sSeq (sRet (c2 modD (c2 addD (c2 fdivD (c2 modD (c2 mulD (c2 subsD (cVar 0) (cCon (.int 1))) (c2 subsD (cVar 0) (cCon (.int 1)))) (cCon (.int 2147483629))) (cCon (.int 7))) (c2 subsD (cVar 0) (cCon (.int 1)))) (cVar 1)))
  sNext)))
@[irreducible] noncomputable def  ja : List D → M D := runDef 3 zF
noncomputable def  zI : CS :=
  (sSeq (sAsg (gVar 4) (cCall ja (cCons (cVar 0) (cCons (cVar 2) cNil))))
  (sSeq (sAsg (gVar 5) (cKeep (aComp 1 [0, 3] (MM.iRng1 (cVar 2)) (gVar 0) tTrue (cCall ja (cCons (cVar 1) (cCons (cVar 2) cNil))))))
  (sSeq (sIf (tCmpB (c2 eqD (cVar 1) (cCon (.int 1))))
   (sSeq (sRet (cKeep (aComp 1 [5] (MM.iRng1 (cVar 2)) (gVar 0) tTrue (cTup (cCons (cVar 0) (cCons (c2 subsD (cVar 1) (cVar 0)) cNil))))))
   sNext)
   sNext)
  (sSeq (sIf (tCmpB (c2 eqD (cVar 1) (cCon (.int 2))))
   (sSeq (sRet (cKeep (aComp 1 [4] (MM.iRng1 (cVar 2)) (gVar 0) tTrue (cTup (cCons (cVar 1) (cCons (cCon (.int 0)) cNil))))))
   sNext)
   sNext)
  (sSeq (sIf (tCmpB (c2 eqD (cVar 1) (cCon (.int 3))))
   (sSeq (sRet (cKeep (aComp 1 [2, 4, 5] (MM.iRng1 (cVar 2)) (gVar 0) tTrue (cTup (cCons (c2 modD (c2 addD (cVar 0) (cVar 2)) (cVar 1)) (cCons (c2 subsD (cVar 3) (cVar 0)) cNil))))))
   sNext)
   sNext)
  (sSeq (sIf (tCmpB (c2 eqD (cVar 1) (cCon (.int 4))))
   (sSeq (sRet (cKeep (aComp 1 [4] (MM.iRng1 (cVar 2)) (gVar 0) tTrue (cTup (cCons (cVar 1) (cCons (cVar 0) cNil))))))
   sNext)
   sNext)
  (sSeq (sRet (cKeep (aComp 1 [0, 2, 5] (MM.iRng1 (cVar 2)) (gVar 0) tTrue (cTup (cCons (cCall ja (cCons (cVar 1) (cCons (cVar 2) cNil))) (cCons (c2 subsD (cVar 3) (cVar 0)) cNil))))))
  sNext)))))))
@[irreducible] noncomputable def  jO : List D → M D := runDef 6 zI
noncomputable def  zg : CS :=
  (sSeq (sAsg (gVar 1) (c2 addD (cCon (.int 1)) (cCall ja (cCons (cVar 0) (cCons (cCon (.int 4)) cNil)))))
  (sSeq (sAsg (gVar 2) (c2 addD (cCon (.int 1)) (cCall ja (cCons (cVar 0) (cCons (cCon (.int 4)) cNil)))))
  (sSeq (sAsg (gVar 3) (cCall ja (cCons (cVar 0) (cCons (cCon (.int 6)) cNil))))
  (sSeq (sAsg (gVar 4) (cKeep (aDisp cNil)))
  (sSeq (sFor (MM.iRng1 (c2 addD (cCon (.int 1)) (cCall ja (cCons (cVar 0) (cCons (cCon (.int 4)) cNil))))) (gVar 5)
   (sSeq (sAsg (gVar 6) (cTmpSub (aDisp (cCons (cCon (.int 0)) (cCons (cVar 3) (cCons (cVar 3) (cCons (c2 addD (cCon (.int 1)) (cCall ja (cCons (cVar 0) (cCons (cCon (.int 2)) cNil)))) cNil))))) (cCall ja (cCons (cVar 0) (cCons (cCon (.int 4)) cNil)))))
   (sSeq (sIf (tCmpB (c2 eqD (cVar 3) (cCon (.int 5))))
    (sSeq (sAsg (gVar 6) (c2 addD (cCon (.int 1)) (cCall ja (cCons (cVar 0) (cCons (cCon (.int 2)) cNil)))))
    sNext)
    sNext)
   (sSeq (sExp (cAppend (cVar 4) (cCall jO (cCons (cVar 0) (cCons (cVar 6) (cCons (cVar 1) (cCons (cVar 2) cNil)))))))
   sNext))))
  (sSeq (sAsg (gVar 7) (cKeep (aComp 1 [4] (MM.iRng1 (cVar 1)) (gVar 0) tTrue (cKeep (aComp 1 [0] (iSeq (cVar 1)) (gVar 0) tTrue (c2 subsD (cVar 0) (cVar 1)))))))
  (sSeq (sIf (tCmpB (c2 eqD (cCall ja (cCons (cVar 0) (cCons (cCon (.int 4)) cNil))) (cCon (.int 1))))
   (sSeq (sAsg (gVar 8) (cCall ja (cCons (cVar 0) (cCons (cVar 1) cNil))))
   (sSeq (sAsg (gVar 9) (cCall ja (cCons (cVar 0) (cCons (c1 lenD (cVar 4)) cNil))))
   (sSeq (sAsg (gTupD 2 (gsCons (gVar 10) (gsCons (gVar 11) gsNil))) (c2 subsD (c2 subsD (cVar 7) (cVar 8)) (cVar 9)))
   (sSeq (sAsg (gSubD (c2 subsD (cVar 7) (cVar 8)) (cVar 9)) (cTmpSub (aDisp (cCons (cTup (cCons (cCall ja (cCons (cVar 0) (cCons (cVar 1) cNil))) (cCons (cVar 11) cNil))) (cCons (cTup (cCons (cVar 10) (cCons (cCall ja (cCons (cVar 0) (cCons (cCon (.int 4)) cNil))) cNil))) cNil))) (cCall ja (cCons (cVar 0) (cCons (cCon (.int 2)) cNil)))))
   sNext))))
   sNext)
  (sSeq (sRet (cTmp tupL (aComp 1 [] (iSeq (cVar 7)) (gVar 0) tTrue (c1 tupleD (cVar 0)))))
  sNext))))))))
@[irreducible] noncomputable def  jU : List D → M D := runDef 12 zg
noncomputable def  zb : CS :=
  (sSeq (sRet (cKeep (aComp 1 [0] (MM.iRng1 (c2 addD (cCon (.int 2)) (cTmp lenL (aSlice (cVar 0) (oSome (cCon (.int 2))) (oSome (cCon (.int 12))))))) (gVar 0) tTrue (cCall jU (cCons (cCall yb (cCons (cVar 1) (cCons (cVar 0) cNil))) cNil)))))
  sNext)
@[irreducible] noncomputable def  jL : List D → M D := runDef 1 zb
noncomputable def  zi : CS :=
  (sSeq (sRet (cAnd (c1 (isInst ["bool"]) (cVar 0)) (c2 eqD (cVar 0) (cVar 1))))
  sNext)
@[irreducible] noncomputable def  jt : List D → M D := runDef 2 zi
noncomputable def  zG : CS :=
  (sSeq (sAsg (gVar 2) (cKeep (aComp 1 [0, 1] (MM.iRng1 (c1 lenD (cVar 0))) (gVar 0) (tCmpB (c2 neD (c2 subsD (c2 subsD (c2 subsD (cVar 1) (cVar 0)) (cVar 2)) (cCon (.int 0))) (cVar 0))) (cVar 0))))
  (sSeq (sRet (c2 eqD (c1 lenD (cVar 2)) (cCon (.int 0))))
  sNext))
@[irreducible] noncomputable def  jX : List D → M D := runDef 3 zG
noncomputable def  yT : CS :=
  (sSeq (sAsg (gVar 2) (cTmp sortSetL (aComp 1 [1] (iSeq (cVar 0)) (gVar 0) tTrue (c2 subsD (c2 subsD (cVar 0) (cVar 1)) (cCon (.int 0))))))
  (sSeq (sAsg (gVar 3) (cTmp sortSetL (aComp 1 [1] (iSeq (cVar 0)) (gVar 0) tTrue (c2 subsD (c2 subsD (cVar 0) (cVar 1)) (cCon (.int 1))))))
  (sSeq (sRet (cAnd (c2 eqD (c1 lenD (cVar 2)) (cCon (.int 1))) (c2 eqD (cVar 3) (cKeep (aDisp (cCons (cCon (.int 0)) cNil))))))
  sNext)))
@[irreducible] noncomputable def  jM : List D → M D := runDef 4 yT
noncomputable def  zl : CS :=
  (sSeq (sAsg (gVar 1) (cCon (.bl true)))
  (sSeq (sFor (MM.iRng1 (c1 lenD (c2 subsD (cVar 0) (cCon (.int 0))))) (gVar 2)
   (sSeq (sAsg (gVar 3) (cCall jX (cCons (cVar 0) (cCons (cVar 2) cNil))))
   (sSeq (sAsg (gVar 4) (cCall jM (cCons (cVar 0) (cCons (cVar 2) cNil))))
   (sSeq (sAsg (gVar 1) (cAnd (cVar 1) (cOr (cVar 3) (cVar 4))))
   (sSeq (sIf (tOrB (tNotB (tVal (cCall jt (cCons (cCall jy (cCons (cVar 0) (cCons (cVar 2) cNil))) (cCons (cVar 3) cNil))))) (tNotB (tVal (cCall jt (cCons (cCall js (cCons (cVar 0) (cCons (cVar 2) cNil))) (cCons (cVar 4) cNil))))))
    (sSeq (sRet (cCon (.bl false)))
    sNext)
    sNext)
   sNext)))))
  (sSeq (sRet (cCall jt (cCons (cCall jQ (cCons (cVar 0) cNil)) (cCons (cVar 1) cNil))))
  sNext)))
@[irreducible] noncomputable def  jV : List D → M D := runDef 5 zl
noncomputable def  vx : CS :=
  (sSeq (sAsg (gVar 1) (cCall jL (cCons (cVar 0) cNil)))
  (sSeq (sRet (cTmp allD (aComp 1 [] (iSeq (c2 addD (cVar 1) (cKeep (aSlice (cVar 1) oNone (oSome (cCon (.int 1))))))) (gVar 0) tTrue (cCall jV (cCons (cVar 0) cNil)))))
  sNext))
@[irreducible] noncomputable def  zT : List D → M D := runDef 2 vx
end My
namespace My
open PySem PySem.Spec PyProof.Rows L2 MM
noncomputable def top (i : Nat) : Stmt := PySem.Challenge.pw_pactboards_k12_plain_tables.main.body.getD i (.Pass ⟨0, 0, 0, 0⟩)
noncomputable abbrev jC : Stmt := top 1
noncomputable abbrev j9 : Stmt := top 2
noncomputable abbrev jY : Stmt := top 3
noncomputable abbrev jv : Stmt := top 4
noncomputable abbrev jI : Stmt := top 5
noncomputable abbrev jH : Stmt := top 7
noncomputable abbrev jP : Stmt := top 8
noncomputable abbrev jw : Stmt := top 9
noncomputable abbrev je : Stmt := top 10
noncomputable abbrev jD : Stmt := top 11
noncomputable abbrev jB : Stmt := top 12
noncomputable abbrev jJ : Stmt := top 13
noncomputable abbrev jr : Stmt := top 14
noncomputable abbrev jh : Stmt := top 15
noncomputable abbrev zn : Stmt := top 16
theorem Jm : NameOk "_law_box" := nok (by nofun)
theorem jb : NameOk "_law_box_here" := nok (by nofun)
theorem zo : NameOk "_law_cell" := nok (by nofun)
theorem yc : NameOk "_law_d" := nok (by nofun)
theorem v6 : NameOk "_law_deed" := nok (by nofun)
theorem wZ : NameOk "_law_deed_here" := nok (by nofun)
theorem zM : NameOk "_law_deeds" := nok (by nofun)
theorem vK : NameOk "_law_digit" := nok (by nofun)
theorem wf : NameOk "_law_due" := nok (by nofun)
theorem wx : NameOk "_law_found" := nok (by nofun)
theorem zk : NameOk "_law_goal" := nok (by nofun)
theorem vI : NameOk "_law_goals" := nok (by nofun)
theorem ze : NameOk "_law_k" := nok (by nofun)
theorem yF : NameOk "_law_kind" := nok (by nofun)
theorem vn : NameOk "_law_laying" := nok (by nofun)
theorem wT : NameOk "_law_lays" := nok (by nofun)
theorem vT : NameOk "_law_look" := nok (by nofun)
theorem wq : NameOk "_law_looks" := nok (by nofun)
theorem z1 : NameOk "_law_many" := nok (by nofun)
theorem vC : NameOk "_law_moved" := nok (by nofun)
theorem vO : NameOk "_law_right" := nok (by nofun)
theorem wj : NameOk "_law_row" := nok (by nofun)
theorem jN : NameOk "_law_s" := nok (by nofun)
theorem jG : NameOk "_law_script" := nok (by nofun)
theorem v7 : NameOk "_law_seed" := nok (by nofun)
theorem jl : NameOk "_law_states" := nok (by nofun)
theorem vJ : NameOk "_law_table" := nok (by nofun)
theorem jf : NameOk "_law_table_here" := nok (by nofun)
theorem vq : NameOk "_law_tables" := nok (by nofun)
theorem zq : NameOk "_law_tables_here" := nok (by nofun)
theorem jk : NameOk "_law_take" := nok (by nofun)
theorem yJ : NameOk "_law_told" := nok (by nofun)
theorem vd : NameOk "_law_top" := nok (by nofun)
theorem zL : NameOk "_law_truth" := nok (by nofun)
theorem wb : NameOk "_law_way" := nok (by nofun)
theorem Jo : NameOk "answers" := nok (by nofun)
theorem yN : NameOk "deed" := nok (by nofun)
theorem Jw : NameOk "goal" := nok (by nofun)
theorem wE : NameOk "is_laying" := nok (by nofun)
theorem w8 : NameOk "is_look" := nok (by nofun)
theorem v8 : NameOk "is_plain" := nok (by nofun)
theorem vw : NameOk "next_state" := nok (by nofun)
theorem vD : NameOk "row" := nok (by nofun)
theorem vG : NameOk "state" := nok (by nofun)
theorem ye : NameOk "table" := nok (by nofun)
theorem w9 : bootBuiltins ("all" : Str) = some (.builtin "all") := by nofun
theorem Jx : bootBuiltins ("bool" : Str) = some (.type "bool") := by nofun
theorem Jz : bootBuiltins ("int" : Str) = some (.type "int") := by nofun
theorem vt : bootBuiltins ("isinstance" : Str) = some (.builtin "isinstance") := by nofun
theorem yK : bootBuiltins ("len" : Str) = some (.builtin "len") := by nofun
theorem JA : bootBuiltins ("max" : Str) = some (.builtin "max") := by nofun
theorem vA : bootBuiltins ("tuple" : Str) = some (.type "tuple") := by nofun
set_option genInjectivity false in
structure Txt (K : PySem.W.Frag) (mg : Str → Option Value) where
 yv : Addr
 yg : FuncData
 yS : Fun K "next_state" "next_state" jC yv yg
 jE : mg "next_state" = some (.ref yv)
 zp : Addr
 yV : FuncData
 zQ : Fun K "answers" "answers" j9 zp yV
 ya : mg "answers" = some (.ref zp)
 zv : Addr
 yZ : FuncData
 zu : Fun K "is_look" "is_look" jY zv yZ
 jy : mg "is_look" = some (.ref zv)
 yx : Addr
 yt : FuncData
 yA : Fun K "is_laying" "is_laying" jv yx yt
 js : mg "is_laying" = some (.ref yx)
 yU : Addr
 yB : FuncData
 zE : Fun K "is_plain" "is_plain" jI yU yB
 jQ : mg "is_plain" = some (.ref yU)
 zt : Addr
 y4 : FuncData
 zR : Fun K "_law_box" "_law_box" jH zt y4
 yb : mg "_law_box" = some (.ref zt)
 y8 : Addr
 yy : FuncData
 ji : Fun K "_law_take" "_law_take" jP y8 yy
 ja : mg "_law_take" = some (.ref y8)
 yX : Addr
 yH : FuncData
 zB : Fun K "_law_deed" "_law_deed" jw yX yH
 jO : mg "_law_deed" = some (.ref yX)
 yD : Addr
 ym : FuncData
 zh : Fun K "_law_table" "_law_table" je yD ym
 jU : mg "_law_table" = some (.ref yD)
 yo : Addr
 yi : FuncData
 y0 : Fun K "_law_tables" "_law_tables" jD yo yi
 jL : mg "_law_tables" = some (.ref yo)
 yG : Addr
 yl : FuncData
 yk : Fun K "_law_truth" "_law_truth" jB yG yl
 jt : mg "_law_truth" = some (.ref yG)
 za : Addr
 yC : FuncData
 zH : Fun K "_law_look" "_law_look" jJ za yC
 jX : mg "_law_look" = some (.ref za)
 yq : Addr
 yh : FuncData
 yY : Fun K "_law_laying" "_law_laying" jr yq yh
 jM : mg "_law_laying" = some (.ref yq)
 yz : Addr
 yu : FuncData
 zm : Fun K "_law_right" "_law_right" jh yz yu
 jV : mg "_law_right" = some (.ref yz)
 wg : Addr
 wr : FuncData
 Jf : Fun K "law" "law" zn wg wr
 zT : mg "law" = some (.ref wg)
 zC : mg "all" = none
 z6 : mg "bool" = none
 yj : mg "enumerate" = none
 wF : mg "int" = none
 j6 : mg "isinstance" = none
 yd : mg "len" = none
 wG : mg "max" = none
 jA : mg "range" = none
 wd : mg "set" = none
 yL : mg "sorted" = none
 zf : mg "tuple" = none
section
variable {P : Program} {w : World} {K : PySem.W.Frag} {mg : Str → Option Value} {base : Heap}
theorem wB : LK jC "deed" .local := by nofun
theorem wo : LK jC "state" .local := by nofun
theorem wm : LK jC "table" .local := by nofun
theorem vk : FnScope ["table", "state", "deed"] ["table", "state", "deed"] (defScope jC) := ⟨rfl, rfl, rfl, by nofun, rfl, by nofun, by nofun⟩
theorem vm (T : Txt K mg) : L2.Binds K T.yg ["table", "state", "deed"] [] := T.yS.binds (ps := ["table", "state", "deed"]) fun _ _ _ _ _ _ us hl => le3 (fun _ _ _ => rfl) us hl
theorem vh (T : Txt K mg) : FnOk P w K mg base CX0 1 T.yv T.yg ["table", "state", "deed"] (spOf K 3 jE) := by
 have q : FnOk P w K mg base CX0 (0 + 1) T.yv T.yg ["table", "state", "deed"] (spOf K 3 (runDef 3 yW)) := by
  refine Qf6 (k := 0) (N := ["table", "state", "deed"]) (body := yW) T.yS vk rfl rfl (fun cdv A outer s H E hr => ?_)
  exact (@QdY _ _ _ _ _ (@QdZ _ _ _ _ (QdH (Qf5 hr) (QdH (Qf5 hr) (QdH (Qf5 hr) (QfZ QfV 0 rfl wm ye) (QfZ QfV 1 rfl wo vG) (fun _ _ => rfl)) (QfZ QfV 2 rfl wB yN) (fun _ _ => rfl)) QcH (fun _ _ => rfl)))
  QdX)
 unfold jE
 exact q
theorem ve : LK j9 "max" .globalImplicit := by nofun
theorem w4 : LK j9 "table" .local := by nofun
theorem Jk : FnScope ["table", "deed"] ["table", "deed"] (defScope j9) := ⟨rfl, rfl, rfl, by nofun, rfl, by nofun, by nofun⟩
theorem Jn (T : Txt K mg) : L2.Binds K T.yV ["table", "deed"] [] := T.zQ.binds (ps := ["table", "deed"]) fun _ _ _ _ _ _ us hl => le2 (fun _ _ => rfl) us hl
theorem Jp (T : Txt K mg) : FnOk P w K mg base CX0 1 T.zp T.yV ["table", "deed"] (spOf K 2 ya) := by
 have q : FnOk P w K mg base CX0 (0 + 1) T.zp T.yV ["table", "deed"] (spOf K 2 (runDef 2 zS)) := by
  refine Qf6 (k := 0) (N := ["table", "deed"]) (body := zS) T.zQ Jk rfl rfl (fun cdv A outer s H E hr => ?_)
  exact (@QdY _ _ _ _ _ (@QdZ _ _ _ _ (@QcK _ _ _ _ _ _ _ _ (@QeW _) QcH (@Qeo _ _ _ _ _ _ _ _ (@QeF _ rfl) (QfV.glo _ ve) T.wG JA (@Qek _ _ _ _ _ _ _ _ _ _ _ _ _ _ rfl (@QfX _ _ _ QfV (by nofun)) (@QfY _ ["table", "deed"] _ ["row", "deed"] 1 [1] rfl (by nofun)) (@Qed _ _ _ _ (QfZ QfV 0 rfl w4 ye)) (fun _ _ _ => ⟨(@Qf0 _ _ _ _ (QfW (rfl)) 0 (show List.Nodup (["row", "deed"] : List Str) by nofun) rfl .local (by nofun) (by decide)), (@Qeh _), (QdH (Qf5 hr) (QdH (Qf5 hr) (QfZ (k := .local) (QfW (rfl)) 0 rfl (by nofun) vD) (QfZ (k := .free) (QfW (rfl)) 1 rfl (by nofun) yN) (fun _ _ => rfl)) QcH (fun _ _ => rfl))⟩) (by intros; rfl)) (by decide) (by decide) (by rfl))))
  QdX)
 unfold ya
 exact q
theorem vf : LK jY "all" .globalImplicit := by nofun
theorem z8 : LK jY "enumerate" .globalImplicit := by nofun
theorem wW : LK jY "table" .local := by nofun
theorem Jh : FnScope ["table", "deed"] ["table", "deed"] (defScope jY) := ⟨rfl, rfl, rfl, by nofun, rfl, by nofun, by nofun⟩
theorem vc (T : Txt K mg) : L2.Binds K T.yZ ["table", "deed"] [] := T.zu.binds (ps := ["table", "deed"]) fun _ _ _ _ _ _ us hl => le2 (fun _ _ => rfl) us hl
theorem va (T : Txt K mg) : FnOk P w K mg base CX0 1 T.zv T.yZ ["table", "deed"] (spOf K 2 jy) := by
 have q : FnOk P w K mg base CX0 (0 + 1) T.zv T.yZ ["table", "deed"] (spOf K 2 (runDef 2 zU)) := by
  refine Qf6 (k := 0) (N := ["table", "deed"]) (body := zU) T.zu Jh rfl rfl (fun cdv A outer s H E hr => ?_)
  exact (@QdY _ _ _ _ _ (@QdZ _ _ _ _ (@Qeo _ _ _ _ _ _ _ _ (@QeE _ rfl) (QfV.glo _ vf) T.zC w9 (@Qek _ _ _ _ _ _ _ _ _ _ _ _ _ _ rfl (@QfX _ _ _ QfV (by nofun)) (@QfY _ ["table", "deed"] _ ["state", "row", "deed"] 2 [1] rfl (by nofun)) (@Qe6 _ _ _ _ _ _ _ _ (QfV.glo _ z8) T.yj (QfZ QfV 0 rfl wW ye) (by rfl)) (fun _ _ _ => ⟨(@QdW _ _ _ _ _ _ rfl (@QdV _ _ _ _ _ (@Qf0 _ _ _ _ (QfW (rfl)) 0 (show List.Nodup (["state", "row", "deed"] : List Str) by nofun) rfl .local (by nofun) (by decide)) (@QdV _ _ _ _ _ (@Qf0 _ _ _ _ (QfW (rfl)) 1 (show List.Nodup (["state", "row", "deed"] : List Str) by nofun) rfl .local (by nofun) (by decide)) (@QdU _) (by rfl)) (by rfl)) (by rfl) (by rfl)), (@Qeh _), (QcL (QeT (Qf5 hr)) (QdH (Qf5 hr) (QdH (Qf5 hr) (QfZ (k := .local) (QfW (rfl)) 1 rfl (by nofun) vD) (QfZ (k := .free) (QfW (rfl)) 2 rfl (by nofun) yN) (fun _ _ => rfl)) QcH (fun _ _ => rfl)) (QfZ (k := .local) (QfW (rfl)) 0 rfl (by nofun) vG) (Qbb _))⟩) (by intros; rfl)) (by decide) (by decide) (by rfl)))
  QdX)
 unfold jy
 exact q
theorem wY : LK jv "all" .globalImplicit := by nofun
theorem wl : LK jv "answers" .globalImplicit := by nofun
theorem zy : LK jv "deed" .cell := by nofun
theorem wJ : LK jv "goal" .cell := by nofun
theorem zO : LK jv "next_state" .globalImplicit := by nofun
theorem yr : LK jv "table" .local := by nofun
theorem wt : FnScope ["table", "deed", "goal"] ["table", "deed"] (defScope jv) := ⟨rfl, rfl, rfl, by nofun, rfl, by nofun, by nofun⟩
theorem wz (T : Txt K mg) : L2.Binds K T.yt ["table", "deed"] [] := T.yA.binds (ps := ["table", "deed"]) fun _ _ _ _ _ _ us hl => le2 (fun _ _ => rfl) us hl
theorem wv (T : Txt K mg) : FnOk P w K mg base CX0 2 T.yx T.yt ["table", "deed"] (spOf K 2 js) := by
 have Jt := Jp (P := P) (w := w) (base := base) T
 have Js := Jn T
 have vL := vh (P := P) (w := w) (base := base) T
 have vQ := vm T
 have q : FnOk P w K mg base CX0 (1 + 1) T.yx T.yt ["table", "deed"] (spOf K 2 (runDef 3 zj)) := by
  refine Qf6 (k := 1) (N := ["table", "deed", "goal"]) (body := zj) T.yA wt rfl rfl (fun cdv A outer s H E hr => ?_)
  exact (@QdY _ _ _ _ _ (@Qf1 _ _ _ _ _ _ QfV 2 wt.nd rfl _ wJ _ (Qf4 QfV zO vL (hr.mono (by decide)) T.jE T.yS.kp vQ vw (QdA (QfZ QfV 0 rfl yr ye) (QdA QcH (QdA (QfZ QfV 1 rfl zy yN) Qdz))) (Qf2 (Qf2 (Qf2 Qf3)))) (by decide) (by rfl))
  (@QdY _ _ _ _ _ (@QdZ _ _ _ _ (@QdR _ _ _ _ _ _ _ (QcL (QeT (Qf5 hr)) (Qf4 QfV wl Jt (hr.mono (by decide)) T.ya T.zQ.kp Js Jo (QdA (QfZ QfV 0 rfl yr ye) (QdA (QfZ QfV 1 rfl zy yN) Qdz)) (Qf2 (Qf2 Qf3))) QcH (Qbb _)) (QdQ (@Qeo _ _ _ _ _ _ _ _ (@QeE _ rfl) (QfV.glo _ wY) T.zC w9 (@Qek _ _ _ _ _ _ _ _ _ _ _ _ _ _ rfl (@QfX _ _ _ QfV (by nofun)) (@QfY _ ["table", "deed", "goal"] _ ["row", "deed", "goal"] 1 [1, 2] rfl (by nofun)) (@Qed _ _ _ _ (QfZ QfV 0 rfl yr ye)) (fun _ _ _ => ⟨(@Qf0 _ _ _ _ (QfW (rfl)) 0 (show List.Nodup (["row", "deed", "goal"] : List Str) by nofun) rfl .local (by nofun) (by decide)), (@Qeh _), (QcL (QeT (Qf5 hr)) (QdH (Qf5 hr) (QdH (Qf5 hr) (QfZ (k := .local) (QfW (rfl)) 0 rfl (by nofun) vD) (QfZ (k := .free) (QfW (rfl)) 1 rfl (by nofun) yN) (fun _ _ => rfl)) QcH (fun _ _ => rfl)) (QfZ (k := .free) (QfW (rfl)) 2 rfl (by nofun) Jw) (Qbb _))⟩) (by intros; rfl)) (by decide) (by decide) (by rfl)))))
  QdX))
 unfold js
 exact q
theorem w6 : LK jI "all" .globalImplicit := by nofun
theorem vb : LK jI "len" .globalImplicit := by nofun
theorem wI : LK jI "range" .globalImplicit := by nofun
theorem wL : LK jI "table" .cell := by nofun
theorem Ja : FnScope ["table"] ["table"] (defScope jI) := ⟨rfl, rfl, rfl, by nofun, rfl, by nofun, by nofun⟩
theorem vY (T : Txt K mg) : L2.Binds K T.yB ["table"] [] := T.zE.binds (ps := ["table"]) fun _ _ _ _ _ _ us hl => le1 (fun _ => rfl) us hl
theorem vU (T : Txt K mg) : FnOk P w K mg base CX0 3 T.yU T.yB ["table"] (spOf K 1 jQ) := by
 have z3 := wv (P := P) (w := w) (base := base) T
 have z0 := wz T
 have wu := va (P := P) (w := w) (base := base) T
 have wA := vc T
 have q : FnOk P w K mg base CX0 (2 + 1) T.yU T.yB ["table"] (spOf K 1 (runDef 1 zD)) := by
  refine Qf6 (k := 2) (N := ["table"]) (body := zD) T.zE Ja rfl rfl (fun cdv A outer s H E hr => ?_)
  exact (@QdY _ _ _ _ _ (@QdZ _ _ _ _ (@Qeo _ _ _ _ _ _ _ _ (@QeE _ rfl) (QfV.glo _ w6) T.zC w9 (@Qek _ _ _ _ _ _ _ _ _ _ _ _ _ _ rfl (@QfX _ _ _ QfV (by nofun)) (@QfY _ ["table"] _ ["deed", "table"] 1 [0] rfl (by nofun)) (@Qee _ _ _ _ _ _ (QfV.glo _ wI) T.jA (@Qem _ _ _ _ _ _ _ _ (@Qes _) (QfV.glo _ vb) T.yd yK (QdH (Qf5 hr) (QfZ QfV 0 rfl wL ye) QcH (fun _ _ => rfl)) (by decide) (by decide) (by rfl)) (by rfl)) (fun _ _ _ => ⟨(@Qf0 _ _ _ _ (QfW (rfl)) 0 (show List.Nodup (["deed", "table"] : List Str) by nofun) rfl .local (by nofun) (by decide)), (@Qeh _), (@QdS _ _ _ _ _ _ _ (Qf4 (QfW (rfl)) (by nofun) wu (hr.mono (by decide)) T.jy T.zu.kp wA w8 (QdA (QfZ (k := .free) (QfW (rfl)) 1 rfl (by nofun) ye) (QdA (QfZ (k := .local) (QfW (rfl)) 0 rfl (by nofun) yN) Qdz)) (Qf2 (Qf2 Qf3))) (QdQ (Qf4 (QfW (rfl)) (by nofun) z3 (hr.mono (by decide)) T.js T.yA.kp z0 wE (QdA (QfZ (k := .free) (QfW (rfl)) 1 rfl (by nofun) ye) (QdA (QfZ (k := .local) (QfW (rfl)) 0 rfl (by nofun) yN) Qdz)) (Qf2 (Qf2 Qf3)))))⟩) (by intros; rfl)) (by decide) (by decide) (by rfl)))
  QdX)
 unfold jQ
 exact q
theorem ju : LK jH "_law_cell" .local := by nofun
theorem jW : LK jH "_law_k" .local := by nofun
theorem jz : LK jH "_law_script" .local := by nofun
theorem zc : LK jH "_law_seed" .local := by nofun
theorem vg : LK jH "int" .globalImplicit := by nofun
theorem zd : LK jH "len" .globalImplicit := by nofun
theorem y9 : FnScope ["_law_script", "_law_k", "_law_cell", "_law_seed"] ["_law_script", "_law_k"] (defScope jH) := ⟨rfl, rfl, rfl, by nofun, rfl, by nofun, by nofun⟩
theorem Jb (T : Txt K mg) : L2.Binds K T.y4 ["_law_script", "_law_k"] [] := T.zR.binds (ps := ["_law_script", "_law_k"]) fun _ _ _ _ _ _ us hl => le2 (fun _ _ => rfl) us hl
theorem Ji (T : Txt K mg) : FnOk P w K mg base CX0 1 T.zt T.y4 ["_law_script", "_law_k"] (spOf K 2 yb) := by
 have q : FnOk P w K mg base CX0 (0 + 1) T.zt T.y4 ["_law_script", "_law_k"] (spOf K 2 (runDef 4 wC)) := by
  refine Qf6 (k := 0) (N := ["_law_script", "_law_k", "_law_cell", "_law_seed"]) (body := wC) T.zR y9 rfl rfl (fun cdv A outer s H E hr => ?_)
  exact (@QdY _ _ _ _ _ (@Qf1 _ _ _ _ _ _ QfV 2 y9.nd rfl _ ju _ (@QcK _ _ _ _ _ _ _ _ (@QeW _) (@QcK _ _ _ _ _ _ _ _ (@Qds _) QcH (QfZ QfV 1 rfl jW ze)) QcH) (by decide) (by rfl))
  (@QdY _ _ _ _ _ (@Qd1 _ _ _ _ _ _ _ (@QdM _ _ _ _ _ _ _ _ Qdw (QfZ QfV 1 rfl jW ze) (@Qem _ _ _ _ _ _ _ _ (@Qes _) (QfV.glo _ zd) T.yd yK (QfZ QfV 0 rfl jz jG) (by decide) (by decide) (by rfl)) (Qbb _))
   (@QdY _ _ _ _ _ (@Qf1 _ _ _ _ _ _ QfV 2 y9.nd rfl _ ju _ (QdH (Qf5 hr) (QfZ QfV 0 rfl jz jG) (QfZ QfV 1 rfl jW ze) (fun _ _ => rfl)) (by decide) (by rfl))
   QdX) _
   (@QdY _ _ _ _ _ (@Qd1 _ _ _ _ _ _ _ (@QdM _ _ _ _ _ _ _ _ (@Qdx _) (@Qem _ _ _ _ _ _ _ _ (@Qes _) (QfV.glo _ zd) T.yd yK (QfZ QfV 0 rfl jz jG) (by decide) (by decide) (by rfl)) QcH (Qbb _))
    (@QdY _ _ _ _ _ (@Qf1 _ _ _ _ _ _ QfV 2 y9.nd rfl _ ju _ (@QcK _ _ _ _ _ _ _ _ (@QeW _) (QfZ QfV 2 rfl ju zo) (@QcK _ _ _ _ _ _ _ _ (@Qds _) (@QcK _ _ _ _ _ _ _ _ (@Qdu _) (QdH (Qf5 hr) (QfZ QfV 0 rfl jz jG) (@QcK _ _ _ _ _ _ _ _ (@Qdu _) (QfZ QfV 1 rfl jW ze) (@Qem _ _ _ _ _ _ _ _ (@Qes _) (QfV.glo _ zd) T.yd yK (QfZ QfV 0 rfl jz jG) (by decide) (by decide) (by rfl))) (fun _ _ => rfl)) QcH) QcH)) (by decide) (by rfl))
    QdX) _
    QdX)
   QdX))
  (@QdY _ _ _ _ _ (@Qf1 _ _ _ _ _ _ QfV 3 y9.nd rfl _ zc _ (@QcK _ _ _ _ _ _ _ _ (@Qdu _) (@QcK _ _ _ _ _ _ _ _ (@QeW _) (@QcK _ _ _ _ _ _ _ _ (@QeW _) (@QcK _ _ _ _ _ _ _ _ (@Qds _) (@QcK _ _ _ _ _ _ _ _ (@Qdu _) (QfZ QfV 2 rfl ju zo) QcH) QcH) (@QcK _ _ _ _ _ _ _ _ (@Qds _) QcH (QfZ QfV 1 rfl jW ze))) QcH) QcH) (by decide) (by rfl))
  (@QdY _ _ _ _ _ (@QdZ _ _ _ _ (@QdD _ _ _ (@QdC _ _ _ _ (QdA (@QcK _ _ _ _ _ _ _ _ (@Qds _) (QfZ QfV 2 rfl ju zo) (@Qen _ _ _ _ _ _ _ _ (@Qeu _) (QfV.glo _ vg) T.wF Jz (QcL (@Qdy _) (QfZ QfV 2 rfl ju zo) (@QcK _ _ _ _ _ _ _ _ (@Qdv _) QcH QcH) (Qbb _)) (by decide) (by decide) (by rfl))) (QdA (QfZ QfV 3 rfl zc v7) Qdz)))))
  QdX))))
 unfold yb
 exact q
theorem jg : LK jP "_law_box_here" .local := by nofun
theorem yM : LK jP "_law_digit" .local := by nofun
theorem yf : LK jP "_law_many" .local := by nofun
theorem wQ : FnScope ["_law_box_here", "_law_many", "_law_digit"] ["_law_box_here", "_law_many"] (defScope jP) := ⟨rfl, rfl, rfl, by nofun, rfl, by nofun, by nofun⟩
theorem wU (T : Txt K mg) : L2.Binds K T.yy ["_law_box_here", "_law_many"] [] := T.ji.binds (ps := ["_law_box_here", "_law_many"]) fun _ _ _ _ _ _ us hl => le2 (fun _ _ => rfl) us hl
theorem wS (T : Txt K mg) : FnOk P w K mg base CX0 1 T.y8 T.yy ["_law_box_here", "_law_many"] (spOf K 2 ja) := by
 have q : FnOk P w K mg base CX0 (0 + 1) T.y8 T.yy ["_law_box_here", "_law_many"] (spOf K 2 (runDef 3 zF)) := by
  refine Qf6 (k := 0) (N := ["_law_box_here", "_law_many", "_law_digit"]) (body := zF) T.ji wQ rfl rfl (fun cdv A outer s H E hr => ?_)
  exact (@QdY _ _ _ _ _ (@Qd1 _ _ _ _ _ _ _ (@QdM _ _ _ _ _ _ _ _ (@Qdx _) (QdH (Qf5 hr) (QfZ QfV 0 rfl jg jb) QcH (fun _ _ => rfl)) QcH (Qbb _))
   (@QdY _ _ _ _ _ (@Qf1 _ _ _ _ _ _ QfV 2 wQ.nd rfl _ yM _ (@QcK _ _ _ _ _ _ _ _ (@Qdu _) (QdH (Qf5 hr) (QfZ QfV 0 rfl jg jb) QcH (fun _ _ => rfl)) (QfZ QfV 1 rfl yf z1)) (by decide) (by rfl))
   (@QdY _ _ _ _ _ (@Qd5 _ _ _ _ _ _ (@QcK _ _ _ _ _ _ _ _ (@Qdt _) (QdH (Qf5 hr) (QfZ QfV 0 rfl jg jb) QcH (fun _ _ => rfl)) (QfZ QfV 1 rfl yf z1)) (@Qd7 _ _ _ _ _ _ (Qf5 hr) (QfZ QfV 0 rfl jg jb) QcH (by intros; rfl)) (by rfl) (by rfl) (by rfl))
   (@QdY _ _ _ _ _ (@QdZ _ _ _ _ (QfZ QfV 2 rfl yM vK))
   QdX))) _
   QdX)
  (@QdY _ _ _ _ _ (@Qd5 _ _ _ _ _ _ (@QcK _ _ _ _ _ _ _ _ (@Qdu _) (@QcK _ _ _ _ _ _ _ _ (@QeW _) (@QcK _ _ _ _ _ _ _ _ (@Qds _) (QdH (Qf5 hr) (QfZ QfV 0 rfl jg jb) QcH (fun _ _ => rfl)) QcH) QcH) QcH) (@Qd7 _ _ _ _ _ _ (Qf5 hr) (QfZ QfV 0 rfl jg jb) QcH (by intros; rfl)) (by rfl) (by rfl) (by rfl))
  (@QdY _ _ _ _ _ (@QdZ _ _ _ _ (@QcK _ _ _ _ _ _ _ _ (@Qdu _) (@QcK _ _ _ _ _ _ _ _ (@QeW _) (@QcK _ _ _ _ _ _ _ _ (@Qdt _) (@QcK _ _ _ _ _ _ _ _ (@Qdu _) (@QcK _ _ _ _ _ _ _ _ (@Qds _) (QdH (Qf5 hr) (QfZ QfV 0 rfl jg jb) QcH (fun _ _ => rfl)) (QdH (Qf5 hr) (QfZ QfV 0 rfl jg jb) QcH (fun _ _ => rfl))) QcH) QcH) (QdH (Qf5 hr) (QfZ QfV 0 rfl jg jb) QcH (fun _ _ => rfl))) (QfZ QfV 1 rfl yf z1)))
  QdX)))
 unfold ja
 exact q
theorem zK : LK jw "_law_box_here" .cell := by nofun
theorem we : LK jw "_law_goal" .cell := by nofun
theorem jT : LK jw "_law_kind" .local := by nofun
theorem jo : LK jw "_law_states" .cell := by nofun
theorem wa : LK jw "_law_take" .globalImplicit := by nofun
theorem wc : LK jw "_law_told" .cell := by nofun
theorem jF : LK jw "range" .globalImplicit := by nofun
theorem zY : FnScope ["_law_box_here", "_law_kind", "_law_states", "_law_top", "_law_goal", "_law_told"] ["_law_box_here", "_law_kind", "_law_states", "_law_top"] (defScope jw) := ⟨rfl, rfl, rfl, by nofun, rfl, by nofun, by nofun⟩
theorem vZ (T : Txt K mg) : L2.Binds K T.yH ["_law_box_here", "_law_kind", "_law_states", "_law_top"] [] := T.zB.binds (ps := ["_law_box_here", "_law_kind", "_law_states", "_law_top"]) fun _ _ _ _ _ _ us hl => le4 (fun _ _ _ _ => rfl) us hl
theorem v0 (T : Txt K mg) : FnOk P w K mg base CX0 2 T.yX T.yH ["_law_box_here", "_law_kind", "_law_states", "_law_top"] (spOf K 4 jO) := by
 have jm := wS (P := P) (w := w) (base := base) T
 have jn := wU T
 have q : FnOk P w K mg base CX0 (1 + 1) T.yX T.yH ["_law_box_here", "_law_kind", "_law_states", "_law_top"] (spOf K 4 (runDef 6 zI)) := by
  refine Qf6 (k := 1) (N := ["_law_box_here", "_law_kind", "_law_states", "_law_top", "_law_goal", "_law_told"]) (body := zI) T.zB zY rfl rfl (fun cdv A outer s H E hr => ?_)
  exact (@QdY _ _ _ _ _ (@Qf1 _ _ _ _ _ _ QfV 4 zY.nd rfl _ we _ (Qf4 QfV wa jm (hr.mono (by decide)) T.ja T.ji.kp jn jk (QdA (QfZ QfV 0 rfl zK jb) (QdA (QfZ QfV 2 rfl jo jl) Qdz)) (Qf2 (Qf2 Qf3))) (by decide) (by rfl))
  (@QdY _ _ _ _ _ (@Qf1 _ _ _ _ _ _ QfV 5 zY.nd rfl _ wc _ (@QdD _ _ _ (@Qek _ _ _ _ _ _ _ _ _ _ _ _ _ _ rfl (@QfX _ _ _ QfV (by nofun)) (@QfY _ ["_law_box_here", "_law_kind", "_law_states", "_law_top", "_law_goal", "_law_told"] _ ["_law_s", "_law_box_here", "_law_top"] 1 [0, 3] rfl (by nofun)) (@Qee _ _ _ _ _ _ (QfV.glo _ jF) T.jA (QfZ QfV 2 rfl jo jl) (by rfl)) (fun _ _ _ => ⟨(@Qf0 _ _ _ _ (QfW (rfl)) 0 (show List.Nodup (["_law_s", "_law_box_here", "_law_top"] : List Str) by nofun) rfl .local (by nofun) (by decide)), (@Qeh _), (Qf4 (QfW (rfl)) (by nofun) jm (hr.mono (by decide)) T.ja T.ji.kp jn jk (QdA (QfZ (k := .free) (QfW (rfl)) 1 rfl (by nofun) jb) (QdA (QfZ (k := .free) (QfW (rfl)) 2 rfl (by nofun) vd) Qdz)) (Qf2 (Qf2 Qf3)))⟩) (by intros; rfl))) (by decide) (by rfl))
  (@QdY _ _ _ _ _ (@Qd1 _ _ _ _ _ _ _ (@QdM _ _ _ _ _ _ _ _ (QeT (Qf5 hr)) (QfZ QfV 1 rfl jT yF) QcH (Qbb _))
   (@QdY _ _ _ _ _ (@QdZ _ _ _ _ (@QdD _ _ _ (@Qek _ _ _ _ _ _ _ _ _ _ _ _ _ _ rfl (@QfX _ _ _ QfV (by nofun)) (@QfY _ ["_law_box_here", "_law_kind", "_law_states", "_law_top", "_law_goal", "_law_told"] _ ["_law_s", "_law_told"] 1 [5] rfl (by nofun)) (@Qee _ _ _ _ _ _ (QfV.glo _ jF) T.jA (QfZ QfV 2 rfl jo jl) (by rfl)) (fun _ _ _ => ⟨(@Qf0 _ _ _ _ (QfW (rfl)) 0 (show List.Nodup (["_law_s", "_law_told"] : List Str) by nofun) rfl .local (by nofun) (by decide)), (@Qeh _), (@QdB _ _ _ _ _ (QdA (QfZ (k := .local) (QfW (rfl)) 0 rfl (by nofun) jN) (QdA (QdH (Qf5 hr) (QfZ (k := .free) (QfW (rfl)) 1 rfl (by nofun) yJ) (QfZ (k := .local) (QfW (rfl)) 0 rfl (by nofun) jN) (fun _ _ => rfl)) Qdz)))⟩) (by intros; rfl))))
   QdX) _
   QdX)
  (@QdY _ _ _ _ _ (@Qd1 _ _ _ _ _ _ _ (@QdM _ _ _ _ _ _ _ _ (QeT (Qf5 hr)) (QfZ QfV 1 rfl jT yF) QcH (Qbb _))
   (@QdY _ _ _ _ _ (@QdZ _ _ _ _ (@QdD _ _ _ (@Qek _ _ _ _ _ _ _ _ _ _ _ _ _ _ rfl (@QfX _ _ _ QfV (by nofun)) (@QfY _ ["_law_box_here", "_law_kind", "_law_states", "_law_top", "_law_goal", "_law_told"] _ ["_law_s", "_law_goal"] 1 [4] rfl (by nofun)) (@Qee _ _ _ _ _ _ (QfV.glo _ jF) T.jA (QfZ QfV 2 rfl jo jl) (by rfl)) (fun _ _ _ => ⟨(@Qf0 _ _ _ _ (QfW (rfl)) 0 (show List.Nodup (["_law_s", "_law_goal"] : List Str) by nofun) rfl .local (by nofun) (by decide)), (@Qeh _), (@QdB _ _ _ _ _ (QdA (QfZ (k := .free) (QfW (rfl)) 1 rfl (by nofun) zk) (QdA QcH Qdz)))⟩) (by intros; rfl))))
   QdX) _
   QdX)
  (@QdY _ _ _ _ _ (@Qd1 _ _ _ _ _ _ _ (@QdM _ _ _ _ _ _ _ _ (QeT (Qf5 hr)) (QfZ QfV 1 rfl jT yF) QcH (Qbb _))
   (@QdY _ _ _ _ _ (@QdZ _ _ _ _ (@QdD _ _ _ (@Qek _ _ _ _ _ _ _ _ _ _ _ _ _ _ rfl (@QfX _ _ _ QfV (by nofun)) (@QfY _ ["_law_box_here", "_law_kind", "_law_states", "_law_top", "_law_goal", "_law_told"] _ ["_law_s", "_law_states", "_law_goal", "_law_told"] 1 [2, 4, 5] rfl (by nofun)) (@Qee _ _ _ _ _ _ (QfV.glo _ jF) T.jA (QfZ QfV 2 rfl jo jl) (by rfl)) (fun _ _ _ => ⟨(@Qf0 _ _ _ _ (QfW (rfl)) 0 (show List.Nodup (["_law_s", "_law_states", "_law_goal", "_law_told"] : List Str) by nofun) rfl .local (by nofun) (by decide)), (@Qeh _), (@QdB _ _ _ _ _ (QdA (@QcK _ _ _ _ _ _ _ _ (@Qdu _) (@QcK _ _ _ _ _ _ _ _ (@QeW _) (QfZ (k := .local) (QfW (rfl)) 0 rfl (by nofun) jN) (QfZ (k := .free) (QfW (rfl)) 2 rfl (by nofun) zk)) (QfZ (k := .free) (QfW (rfl)) 1 rfl (by nofun) jl)) (QdA (QdH (Qf5 hr) (QfZ (k := .free) (QfW (rfl)) 3 rfl (by nofun) yJ) (QfZ (k := .local) (QfW (rfl)) 0 rfl (by nofun) jN) (fun _ _ => rfl)) Qdz)))⟩) (by intros; rfl))))
   QdX) _
   QdX)
  (@QdY _ _ _ _ _ (@Qd1 _ _ _ _ _ _ _ (@QdM _ _ _ _ _ _ _ _ (QeT (Qf5 hr)) (QfZ QfV 1 rfl jT yF) QcH (Qbb _))
   (@QdY _ _ _ _ _ (@QdZ _ _ _ _ (@QdD _ _ _ (@Qek _ _ _ _ _ _ _ _ _ _ _ _ _ _ rfl (@QfX _ _ _ QfV (by nofun)) (@QfY _ ["_law_box_here", "_law_kind", "_law_states", "_law_top", "_law_goal", "_law_told"] _ ["_law_s", "_law_goal"] 1 [4] rfl (by nofun)) (@Qee _ _ _ _ _ _ (QfV.glo _ jF) T.jA (QfZ QfV 2 rfl jo jl) (by rfl)) (fun _ _ _ => ⟨(@Qf0 _ _ _ _ (QfW (rfl)) 0 (show List.Nodup (["_law_s", "_law_goal"] : List Str) by nofun) rfl .local (by nofun) (by decide)), (@Qeh _), (@QdB _ _ _ _ _ (QdA (QfZ (k := .free) (QfW (rfl)) 1 rfl (by nofun) zk) (QdA (QfZ (k := .local) (QfW (rfl)) 0 rfl (by nofun) jN) Qdz)))⟩) (by intros; rfl))))
   QdX) _
   QdX)
  (@QdY _ _ _ _ _ (@QdZ _ _ _ _ (@QdD _ _ _ (@Qek _ _ _ _ _ _ _ _ _ _ _ _ _ _ rfl (@QfX _ _ _ QfV (by nofun)) (@QfY _ ["_law_box_here", "_law_kind", "_law_states", "_law_top", "_law_goal", "_law_told"] _ ["_law_s", "_law_box_here", "_law_states", "_law_told"] 1 [0, 2, 5] rfl (by nofun)) (@Qee _ _ _ _ _ _ (QfV.glo _ jF) T.jA (QfZ QfV 2 rfl jo jl) (by rfl)) (fun _ _ _ => ⟨(@Qf0 _ _ _ _ (QfW (rfl)) 0 (show List.Nodup (["_law_s", "_law_box_here", "_law_states", "_law_told"] : List Str) by nofun) rfl .local (by nofun) (by decide)), (@Qeh _), (@QdB _ _ _ _ _ (QdA (Qf4 (QfW (rfl)) (by nofun) jm (hr.mono (by decide)) T.ja T.ji.kp jn jk (QdA (QfZ (k := .free) (QfW (rfl)) 1 rfl (by nofun) jb) (QdA (QfZ (k := .free) (QfW (rfl)) 2 rfl (by nofun) jl) Qdz)) (Qf2 (Qf2 Qf3))) (QdA (QdH (Qf5 hr) (QfZ (k := .free) (QfW (rfl)) 3 rfl (by nofun) yJ) (QfZ (k := .local) (QfW (rfl)) 0 rfl (by nofun) jN) (fun _ _ => rfl)) Qdz)))⟩) (by intros; rfl))))
  QdX)))))))
 unfold jO
 exact q
theorem jc : LK je "_law_box_here" .local := by nofun
theorem yn : LK je "_law_d" .local := by nofun
theorem z4 : LK je "_law_deed" .globalImplicit := by nofun
theorem j2 : LK je "_law_deeds" .cell := by nofun
theorem yP : LK je "_law_goal" .local := by nofun
theorem wy : LK je "_law_k" .local := by nofun
theorem j8 : LK je "_law_kind" .local := by nofun
theorem yp : LK je "_law_s" .local := by nofun
theorem jx : LK je "_law_states" .local := by nofun
theorem jq : LK je "_law_table_here" .local := by nofun
theorem jd : LK je "_law_take" .globalImplicit := by nofun
theorem yO : LK je "_law_told" .local := by nofun
theorem yR : LK je "_law_top" .local := by nofun
theorem jR : LK je "_law_way" .local := by nofun
theorem wX : LK je "len" .globalImplicit := by nofun
theorem zr : LK je "range" .globalImplicit := by nofun
theorem wD : LK je "tuple" .globalImplicit := by nofun
theorem jp : FnScope ["_law_box_here", "_law_states", "_law_top", "_law_way", "_law_deeds", "_law_k", "_law_kind", "_law_table_here", "_law_s", "_law_d", "_law_goal", "_law_told"] ["_law_box_here"] (defScope je) := ⟨rfl, rfl, rfl, by nofun, rfl, by nofun, by nofun⟩
theorem vM (T : Txt K mg) : L2.Binds K T.ym ["_law_box_here"] [] := T.zh.binds (ps := ["_law_box_here"]) fun _ _ _ _ _ _ us hl => le1 (fun _ => rfl) us hl
theorem vz (T : Txt K mg) : FnOk P w K mg base CX0 3 T.yD T.ym ["_law_box_here"] (spOf K 1 jU) := by
 have Jl := v0 (P := P) (w := w) (base := base) T
 have Jq := vZ T
 have jm := wS (P := P) (w := w) (base := base) T
 have jn := wU T
 have q : FnOk P w K mg base CX0 (2 + 1) T.yD T.ym ["_law_box_here"] (spOf K 1 (runDef 12 zg)) := by
  refine Qf6 (k := 2) (N := ["_law_box_here", "_law_states", "_law_top", "_law_way", "_law_deeds", "_law_k", "_law_kind", "_law_table_here", "_law_s", "_law_d", "_law_goal", "_law_told"]) (body := zg) T.zh jp rfl rfl (fun cdv A outer s H E hr => ?_)
  exact (@QdY _ _ _ _ _ (@Qf1 _ _ _ _ _ _ QfV 1 jp.nd rfl _ jx _ (@QcK _ _ _ _ _ _ _ _ (@QeW _) QcH (Qf4 QfV jd jm (hr.mono (by decide)) T.ja T.ji.kp jn jk (QdA (QfZ QfV 0 rfl jc jb) (QdA QcH Qdz)) (Qf2 (Qf2 Qf3)))) (by decide) (by rfl))
  (@QdY _ _ _ _ _ (@Qf1 _ _ _ _ _ _ QfV 2 jp.nd rfl _ yR _ (@QcK _ _ _ _ _ _ _ _ (@QeW _) QcH (Qf4 QfV jd jm (hr.mono (by decide)) T.ja T.ji.kp jn jk (QdA (QfZ QfV 0 rfl jc jb) (QdA QcH Qdz)) (Qf2 (Qf2 Qf3)))) (by decide) (by rfl))
  (@QdY _ _ _ _ _ (@Qf1 _ _ _ _ _ _ QfV 3 jp.nd rfl _ jR _ (Qf4 QfV jd jm (hr.mono (by decide)) T.ja T.ji.kp jn jk (QdA (QfZ QfV 0 rfl jc jb) (QdA QcH Qdz)) (Qf2 (Qf2 Qf3))) (by decide) (by rfl))
  (@QdY _ _ _ _ _ (@Qf1 _ _ _ _ _ _ QfV 4 jp.nd rfl _ j2 _ (@QdD _ _ _ (@QdC _ _ _ _ Qdz)) (by decide) (by rfl))
  (@QdY _ _ _ _ _ (@Qef _ _ _ _ _ _ _ _ PassesOwn.never rfl (@Qee _ _ _ _ _ _ (QfV.glo _ zr) T.jA (@QcK _ _ _ _ _ _ _ _ (@QeW _) QcH (Qf4 QfV jd jm (hr.mono (by decide)) T.ja T.ji.kp jn jk (QdA (QfZ QfV 0 rfl jc jb) (QdA QcH Qdz)) (Qf2 (Qf2 Qf3)))) (by rfl)) (@Qf0 _ _ _ _ QfV 5 jp.nd rfl .local wy (by decide))
   (@QdY _ _ _ _ _ (@Qf1 _ _ _ _ _ _ QfV 6 jp.nd rfl _ j8 _ (@QdI _ _ _ _ _ _ (@QdC _ _ _ _ (QdA QcH (QdA (QfZ QfV 3 rfl jR wb) (QdA (QfZ QfV 3 rfl jR wb) (QdA (@QcK _ _ _ _ _ _ _ _ (@QeW _) QcH (Qf4 QfV jd jm (hr.mono (by decide)) T.ja T.ji.kp jn jk (QdA (QfZ QfV 0 rfl jc jb) (QdA QcH Qdz)) (Qf2 (Qf2 Qf3)))) Qdz))))) (Qf4 QfV jd jm (hr.mono (by decide)) T.ja T.ji.kp jn jk (QdA (QfZ QfV 0 rfl jc jb) (QdA QcH Qdz)) (Qf2 (Qf2 Qf3))) (fun _ _ => rfl)) (by decide) (by rfl))
   (@QdY _ _ _ _ _ (@Qd1 _ _ _ _ _ _ _ (@QdM _ _ _ _ _ _ _ _ (QeT (Qf5 hr)) (QfZ QfV 3 rfl jR wb) QcH (Qbb _))
    (@QdY _ _ _ _ _ (@Qf1 _ _ _ _ _ _ QfV 6 jp.nd rfl _ j8 _ (@QcK _ _ _ _ _ _ _ _ (@QeW _) QcH (Qf4 QfV jd jm (hr.mono (by decide)) T.ja T.ji.kp jn jk (QdA (QfZ QfV 0 rfl jc jb) (QdA QcH Qdz)) (Qf2 (Qf2 Qf3)))) (by decide) (by rfl))
    QdX) _
    QdX)
   (@QdY _ _ _ _ _ (@Qd0 _ _ _ _ (@QeV _ _ _ _ _ _ _ (QfZ QfV 4 rfl j2 zM) (Qf4 QfV z4 Jl (hr.mono (by decide)) T.jO T.zB.kp Jq v6 (QdA (QfZ QfV 0 rfl jc jb) (QdA (QfZ QfV 6 rfl j8 yF) (QdA (QfZ QfV 1 rfl jx jl) (QdA (QfZ QfV 2 rfl yR vd) Qdz)))) (Qf2 (Qf2 (Qf2 (Qf2 Qf3))))) (by rfl) (by rfl) (by rfl) (by rfl) (by rfl)) (by rfl))
   QdX))) (by intros; rfl))
  (@QdY _ _ _ _ _ (@Qel _ _ _ _ _ _ _ _ _ _ _ 7 _ _ _ _ _ _ jp.nd rfl (QfV.loc _ _ jq (by decide)).1 (QfV.loc _ _ jq (by decide)).2 rfl (@QfX _ _ _ QfV (by nofun)) (@QfY _ ["_law_box_here", "_law_states", "_law_top", "_law_way", "_law_deeds", "_law_k", "_law_kind", "_law_table_here", "_law_s", "_law_d", "_law_goal", "_law_told"] _ ["_law_s", "_law_deeds"] 1 [4] rfl (by nofun)) (@Qee _ _ _ _ _ _ (QfV.glo _ zr) T.jA (QfZ QfV 1 rfl jx jl) (by rfl)) (fun _ _ _ => ⟨(@Qf0 _ _ _ _ (QfW (rfl)) 0 (show List.Nodup (["_law_s", "_law_deeds"] : List Str) by nofun) rfl .cell (by nofun) (by decide)), (@Qeh _), (@QdD _ _ _ (@Qek _ _ _ _ _ _ _ _ _ _ _ _ _ _ rfl (@QfX _ _ _ (QfW (rfl)) (by nofun)) (@QfY _ ["_law_s", "_law_deeds"] _ ["_law_deed_here", "_law_s"] 1 [0] rfl (by nofun)) (@Qed _ _ _ _ (QfZ (k := .free) (QfW (rfl)) 1 rfl (by nofun) zM)) (fun _ _ _ => ⟨(@Qf0 _ _ _ _ (QfW (rfl)) 0 (show List.Nodup (["_law_deed_here", "_law_s"] : List Str) by nofun) rfl .local (by nofun) (by decide)), (@Qeh _), (QdH (Qf5 hr) (QfZ (k := .local) (QfW (rfl)) 0 rfl (by nofun) wZ) (QfZ (k := .free) (QfW (rfl)) 1 rfl (by nofun) jN) (fun _ _ => rfl))⟩) (by intros; rfl)))⟩) (by rfl) (by intros; rfl))
  (@QdY _ _ _ _ _ (@Qd1 _ _ _ _ _ _ _ (@QdM _ _ _ _ _ _ _ _ (QeT (Qf5 hr)) (Qf4 QfV jd jm (hr.mono (by decide)) T.ja T.ji.kp jn jk (QdA (QfZ QfV 0 rfl jc jb) (QdA QcH Qdz)) (Qf2 (Qf2 Qf3))) QcH (Qbb _))
   (@QdY _ _ _ _ _ (@Qf1 _ _ _ _ _ _ QfV 8 jp.nd rfl _ yp _ (Qf4 QfV jd jm (hr.mono (by decide)) T.ja T.ji.kp jn jk (QdA (QfZ QfV 0 rfl jc jb) (QdA (QfZ QfV 1 rfl jx jl) Qdz)) (Qf2 (Qf2 Qf3))) (by decide) (by rfl))
   (@QdY _ _ _ _ _ (@Qf1 _ _ _ _ _ _ QfV 9 jp.nd rfl _ yn _ (Qf4 QfV jd jm (hr.mono (by decide)) T.ja T.ji.kp jn jk (QdA (QfZ QfV 0 rfl jc jb) (QdA (@Qem _ _ _ _ _ _ _ _ (@Qes _) (QfV.glo _ wX) T.yd yK (QfZ QfV 4 rfl j2 zM) (by decide) (by decide) (by rfl)) Qdz)) (Qf2 (Qf2 Qf3))) (by decide) (by rfl))
   (@QdY _ _ _ _ _ (@Qd5 _ _ _ _ _ _ (QdH (Qf5 hr) (QdH (Qf5 hr) (QfZ QfV 7 rfl jq jf) (QfZ QfV 8 rfl yp jN) (fun _ _ => rfl)) (QfZ QfV 9 rfl yn yc) (fun _ _ => rfl)) (@QdW _ _ _ _ _ _ rfl (@QdV _ _ _ _ _ (@Qf0 _ _ _ _ QfV 10 jp.nd rfl .local yP (by decide)) (@QdV _ _ _ _ _ (@Qf0 _ _ _ _ QfV 11 jp.nd rfl .local yO (by decide)) (@QdU _) (by rfl)) (by rfl)) (by rfl) (by rfl)) (by rfl) (by rfl) (by rfl))
   (@QdY _ _ _ _ _ (@Qd5 _ _ _ _ _ _ (@QdI _ _ _ _ _ _ (@QdC _ _ _ _ (QdA (@QdB _ _ _ _ _ (QdA (Qf4 QfV jd jm (hr.mono (by decide)) T.ja T.ji.kp jn jk (QdA (QfZ QfV 0 rfl jc jb) (QdA (QfZ QfV 1 rfl jx jl) Qdz)) (Qf2 (Qf2 Qf3))) (QdA (QfZ QfV 11 rfl yO yJ) Qdz))) (QdA (@QdB _ _ _ _ _ (QdA (QfZ QfV 10 rfl yP zk) (QdA (Qf4 QfV jd jm (hr.mono (by decide)) T.ja T.ji.kp jn jk (QdA (QfZ QfV 0 rfl jc jb) (QdA QcH Qdz)) (Qf2 (Qf2 Qf3))) Qdz))) Qdz))) (Qf4 QfV jd jm (hr.mono (by decide)) T.ja T.ji.kp jn jk (QdA (QfZ QfV 0 rfl jc jb) (QdA QcH Qdz)) (Qf2 (Qf2 Qf3))) (fun _ _ => rfl)) (@Qd7 _ _ _ _ _ _ (Qf5 hr) (QdH (Qf5 hr) (QfZ QfV 7 rfl jq jf) (QfZ QfV 8 rfl yp jN) (fun _ _ => rfl)) (QfZ QfV 9 rfl yn yc) (by intros; rfl)) (by rfl) (by rfl) (by rfl))
   QdX)))) _
   QdX)
  (@QdY _ _ _ _ _ (@QdZ _ _ _ _ (@Qep _ _ _ _ _ _ _ _ (@Qew _) (QfV.glo _ wD) T.zf vA (@Qek _ _ _ _ _ _ _ _ _ _ _ _ _ _ rfl (@QfX _ _ _ QfV (by nofun)) (@QfY _ ["_law_box_here", "_law_states", "_law_top", "_law_way", "_law_deeds", "_law_k", "_law_kind", "_law_table_here", "_law_s", "_law_d", "_law_goal", "_law_told"] _ ["_law_row"] 1 [] rfl (by nofun)) (@Qed _ _ _ _ (QfZ QfV 7 rfl jq jf)) (fun _ _ _ => ⟨(@Qf0 _ _ _ _ (QfW (rfl)) 0 (show List.Nodup (["_law_row"] : List Str) by nofun) rfl .local (by nofun) (by decide)), (@Qeh _), (@Qen _ _ _ _ _ _ _ _ (@Qev _) ((QfW (rfl)).glo _ (by nofun)) T.zf vA (QfZ (k := .local) (QfW (rfl)) 0 rfl (by nofun) wj) (by decide) (by decide) (by rfl))⟩) (by intros; rfl)) (by decide) (by decide) (by rfl)))
  QdX))))))))
 unfold jU
 exact q
theorem zJ : LK jD "_law_script" .cell := by nofun
theorem wO : LK jD "len" .globalImplicit := by nofun
theorem wn : LK jD "range" .globalImplicit := by nofun
theorem vv : FnScope ["_law_script"] ["_law_script"] (defScope jD) := ⟨rfl, rfl, rfl, by nofun, rfl, by nofun, by nofun⟩
theorem vo (T : Txt K mg) : L2.Binds K T.yi ["_law_script"] [] := T.y0.binds (ps := ["_law_script"]) fun _ _ _ _ _ _ us hl => le1 (fun _ => rfl) us hl
theorem vi (T : Txt K mg) : FnOk P w K mg base CX0 4 T.yo T.yi ["_law_script"] (spOf K 1 jL) := by
 have Ju := Ji (P := P) (w := w) (base := base) T
 have Jr := Jb T
 have v5 := vz (P := P) (w := w) (base := base) T
 have v9 := vM T
 have q : FnOk P w K mg base CX0 (3 + 1) T.yo T.yi ["_law_script"] (spOf K 1 (runDef 1 zb)) := by
  refine Qf6 (k := 3) (N := ["_law_script"]) (body := zb) T.y0 vv rfl rfl (fun cdv A outer s H E hr => ?_)
  exact (@QdY _ _ _ _ _ (@QdZ _ _ _ _ (@QdD _ _ _ (@Qek _ _ _ _ _ _ _ _ _ _ _ _ _ _ rfl (@QfX _ _ _ QfV (by nofun)) (@QfY _ ["_law_script"] _ ["_law_k", "_law_script"] 1 [0] rfl (by nofun)) (@Qee _ _ _ _ _ _ (QfV.glo _ wn) T.jA (@QcK _ _ _ _ _ _ _ _ (@QeW _) QcH (@Qeo _ _ _ _ _ _ _ _ (@Qet _) (QfV.glo _ wO) T.yd yK (@QeZ _ _ _ _ _ _ _ _ _ (QfZ QfV 0 rfl zJ jG) (@QeY _ _ _ QcH) (@QeY _ _ _ QcH)) (by decide) (by decide) (by rfl))) (by rfl)) (fun _ _ _ => ⟨(@Qf0 _ _ _ _ (QfW (rfl)) 0 (show List.Nodup (["_law_k", "_law_script"] : List Str) by nofun) rfl .local (by nofun) (by decide)), (@Qeh _), (Qf4 (QfW (rfl)) (by nofun) v5 (hr.mono (by decide)) T.jU T.zh.kp v9 vJ (QdA (Qf4 (QfW (rfl)) (by nofun) Ju (hr.mono (by decide)) T.yb T.zR.kp Jr Jm (QdA (QfZ (k := .free) (QfW (rfl)) 1 rfl (by nofun) jG) (QdA (QfZ (k := .local) (QfW (rfl)) 0 rfl (by nofun) ze) Qdz)) (Qf2 (Qf2 Qf3))) Qdz) (Qf2 Qf3))⟩) (by intros; rfl))))
  QdX)
 unfold jL
 exact q
theorem z9 : LK jB "_law_due" .local := by nofun
theorem yI : LK jB "_law_found" .local := by nofun
theorem wP : LK jB "bool" .globalImplicit := by nofun
theorem zP : LK jB "isinstance" .globalImplicit := by nofun
theorem vE : FnScope ["_law_found", "_law_due"] ["_law_found", "_law_due"] (defScope jB) := ⟨rfl, rfl, rfl, by nofun, rfl, by nofun, by nofun⟩
theorem vy (T : Txt K mg) : L2.Binds K T.yl ["_law_found", "_law_due"] [] := T.yk.binds (ps := ["_law_found", "_law_due"]) fun _ _ _ _ _ _ us hl => le2 (fun _ _ => rfl) us hl
theorem vR (T : Txt K mg) : FnOk P w K mg base CX0 1 T.yG T.yl ["_law_found", "_law_due"] (spOf K 2 jt) := by
 have q : FnOk P w K mg base CX0 (0 + 1) T.yG T.yl ["_law_found", "_law_due"] (spOf K 2 (runDef 2 zi)) := by
  refine Qf6 (k := 0) (N := ["_law_found", "_law_due"]) (body := zi) T.yk vE rfl rfl (fun cdv A outer s H E hr => ?_)
  exact (@QdY _ _ _ _ _ (@QdZ _ _ _ _ (@QdR _ _ _ _ _ _ _ (@QeJ _ _ _ _ _ _ _ _ QeG (QfV.glo _ zP) T.j6 (QfV.glo _ wP) T.z6 Jx (QfZ QfV 0 rfl yI wx) vt (by decide) (by decide) (by rfl) (by rfl) (by rfl)) (QdQ (QcL (QeT (Qf5 hr)) (QfZ QfV 0 rfl yI wx) (QfZ QfV 1 rfl z9 wf) (Qbb _)))))
  QdX)
 unfold jt
 exact q
theorem j5 : LK jJ "_law_moved" .local := by nofun
theorem zw : LK jJ "_law_table_here" .cell := by nofun
theorem zV : LK jJ "len" .globalImplicit := by nofun
theorem wH : LK jJ "range" .globalImplicit := by nofun
theorem wR : FnScope ["_law_table_here", "_law_d", "_law_moved"] ["_law_table_here", "_law_d"] (defScope jJ) := ⟨rfl, rfl, rfl, by nofun, rfl, by nofun, by nofun⟩
theorem v4 (T : Txt K mg) : L2.Binds K T.yC ["_law_table_here", "_law_d"] [] := T.zH.binds (ps := ["_law_table_here", "_law_d"]) fun _ _ _ _ _ _ us hl => le2 (fun _ _ => rfl) us hl
theorem vW (T : Txt K mg) : FnOk P w K mg base CX0 1 T.za T.yC ["_law_table_here", "_law_d"] (spOf K 2 jX) := by
 have q : FnOk P w K mg base CX0 (0 + 1) T.za T.yC ["_law_table_here", "_law_d"] (spOf K 2 (runDef 3 zG)) := by
  refine Qf6 (k := 0) (N := ["_law_table_here", "_law_d", "_law_moved"]) (body := zG) T.zH wR rfl rfl (fun cdv A outer s H E hr => ?_)
  exact (@QdY _ _ _ _ _ (@Qel _ _ _ _ _ _ _ _ _ _ _ 2 _ _ _ _ _ _ wR.nd rfl (QfV.loc _ _ j5 (by decide)).1 (QfV.loc _ _ j5 (by decide)).2 rfl (@QfX _ _ _ QfV (by nofun)) (@QfY _ ["_law_table_here", "_law_d", "_law_moved"] _ ["_law_s", "_law_table_here", "_law_d"] 1 [0, 1] rfl (by nofun)) (@Qee _ _ _ _ _ _ (QfV.glo _ wH) T.jA (@Qem _ _ _ _ _ _ _ _ (@Qes _) (QfV.glo _ zV) T.yd yK (QfZ QfV 0 rfl zw jf) (by decide) (by decide) (by rfl)) (by rfl)) (fun _ _ _ => ⟨(@Qf0 _ _ _ _ (QfW (rfl)) 0 (show List.Nodup (["_law_s", "_law_table_here", "_law_d"] : List Str) by nofun) rfl .local (by nofun) (by decide)), (@Qei _ _ _ (@QdM _ _ _ _ _ _ _ _ (QeU (Qf5 hr)) (QdH (Qf5 hr) (QdH (Qf5 hr) (QdH (Qf5 hr) (QfZ (k := .free) (QfW (rfl)) 1 rfl (by nofun) jf) (QfZ (k := .local) (QfW (rfl)) 0 rfl (by nofun) jN) (fun _ _ => rfl)) (QfZ (k := .free) (QfW (rfl)) 2 rfl (by nofun) yc) (fun _ _ => rfl)) QcH (fun _ _ => rfl)) (QfZ (k := .local) (QfW (rfl)) 0 rfl (by nofun) jN) (Qbb _))), (QfZ (k := .local) (QfW (rfl)) 0 rfl (by nofun) jN)⟩) (by rfl) (by intros; rfl))
  (@QdY _ _ _ _ _ (@QdZ _ _ _ _ (QcL (QeT (Qf5 hr)) (@Qem _ _ _ _ _ _ _ _ (@Qes _) (QfV.glo _ zV) T.yd yK (QfZ QfV 2 rfl j5 vC) (by decide) (by decide) (by rfl)) QcH (Qbb _)))
  QdX))
 unfold jX
 exact q
theorem yw : LK jr "_law_goals" .local := by nofun
theorem j3 : LK jr "_law_table_here" .local := by nofun
theorem yE : LK jr "_law_told" .local := by nofun
theorem wK : LK jr "len" .globalImplicit := by nofun
theorem zA : LK jr "set" .globalImplicit := by nofun
theorem yQ : LK jr "sorted" .globalImplicit := by nofun
theorem zx : FnScope ["_law_table_here", "_law_d", "_law_goals", "_law_told"] ["_law_table_here", "_law_d"] (defScope jr) := ⟨rfl, rfl, rfl, by nofun, rfl, by nofun, by nofun⟩
theorem vp (T : Txt K mg) : L2.Binds K T.yh ["_law_table_here", "_law_d"] [] := T.yY.binds (ps := ["_law_table_here", "_law_d"]) fun _ _ _ _ _ _ us hl => le2 (fun _ _ => rfl) us hl
theorem vj (T : Txt K mg) : FnOk P w K mg base CX0 1 T.yq T.yh ["_law_table_here", "_law_d"] (spOf K 2 jM) := by
 have q : FnOk P w K mg base CX0 (0 + 1) T.yq T.yh ["_law_table_here", "_law_d"] (spOf K 2 (runDef 4 yT)) := by
  refine Qf6 (k := 0) (N := ["_law_table_here", "_law_d", "_law_goals", "_law_told"]) (body := yT) T.yY zx rfl rfl (fun cdv A outer s H E hr => ?_)
  exact (@QdY _ _ _ _ _ (@Qf1 _ _ _ _ _ _ QfV 2 zx.nd rfl _ yw _ (QfU rfl (QfV.glo _ yQ) T.yL (QfV.glo _ zA) T.wd (@Qek _ _ _ _ _ _ _ _ _ _ _ _ _ _ rfl (@QfX _ _ _ QfV (by nofun)) (@QfY _ ["_law_table_here", "_law_d", "_law_goals", "_law_told"] _ ["_law_row", "_law_d"] 1 [1] rfl (by nofun)) (@Qed _ _ _ _ (QfZ QfV 0 rfl j3 jf)) (fun _ _ _ => ⟨(@Qf0 _ _ _ _ (QfW (rfl)) 0 (show List.Nodup (["_law_row", "_law_d"] : List Str) by nofun) rfl .local (by nofun) (by decide)), (@Qeh _), (QdH (Qf5 hr) (QdH (Qf5 hr) (QfZ (k := .local) (QfW (rfl)) 0 rfl (by nofun) wj) (QfZ (k := .free) (QfW (rfl)) 1 rfl (by nofun) yc) (fun _ _ => rfl)) QcH (fun _ _ => rfl))⟩) (by intros; rfl))) (by decide) (by rfl))
  (@QdY _ _ _ _ _ (@Qf1 _ _ _ _ _ _ QfV 3 zx.nd rfl _ yE _ (QfU rfl (QfV.glo _ yQ) T.yL (QfV.glo _ zA) T.wd (@Qek _ _ _ _ _ _ _ _ _ _ _ _ _ _ rfl (@QfX _ _ _ QfV (by nofun)) (@QfY _ ["_law_table_here", "_law_d", "_law_goals", "_law_told"] _ ["_law_row", "_law_d"] 1 [1] rfl (by nofun)) (@Qed _ _ _ _ (QfZ QfV 0 rfl j3 jf)) (fun _ _ _ => ⟨(@Qf0 _ _ _ _ (QfW (rfl)) 0 (show List.Nodup (["_law_row", "_law_d"] : List Str) by nofun) rfl .local (by nofun) (by decide)), (@Qeh _), (QdH (Qf5 hr) (QdH (Qf5 hr) (QfZ (k := .local) (QfW (rfl)) 0 rfl (by nofun) wj) (QfZ (k := .free) (QfW (rfl)) 1 rfl (by nofun) yc) (fun _ _ => rfl)) QcH (fun _ _ => rfl))⟩) (by intros; rfl))) (by decide) (by rfl))
  (@QdY _ _ _ _ _ (@QdZ _ _ _ _ (@QdR _ _ _ _ _ _ _ (QcL (QeT (Qf5 hr)) (@Qem _ _ _ _ _ _ _ _ (@Qes _) (QfV.glo _ wK) T.yd yK (QfZ QfV 2 rfl yw vI) (by decide) (by decide) (by rfl)) QcH (Qbb _)) (QdQ (QcL (QeT (Qf5 hr)) (QfZ QfV 3 rfl yE yJ) (@QdD _ _ _ (@QdC _ _ _ _ (QdA QcH Qdz))) (Qbb _)))))
  QdX)))
 unfold jM
 exact q
theorem jK : LK jh "_law_d" .local := by nofun
theorem jS : LK jh "_law_due" .local := by nofun
theorem zN : LK jh "_law_laying" .globalImplicit := by nofun
theorem j4 : LK jh "_law_lays" .local := by nofun
theorem z7 : LK jh "_law_look" .globalImplicit := by nofun
theorem j1 : LK jh "_law_looks" .local := by nofun
theorem jj : LK jh "_law_table_here" .local := by nofun
theorem j0 : LK jh "_law_truth" .globalImplicit := by nofun
theorem zW : LK jh "is_laying" .globalImplicit := by nofun
theorem wk : LK jh "is_look" .globalImplicit := by nofun
theorem z5 : LK jh "is_plain" .globalImplicit := by nofun
theorem wV : LK jh "len" .globalImplicit := by nofun
theorem ww : LK jh "range" .globalImplicit := by nofun
theorem j7 : FnScope ["_law_table_here", "_law_due", "_law_d", "_law_looks", "_law_lays"] ["_law_table_here"] (defScope jh) := ⟨rfl, rfl, rfl, by nofun, rfl, by nofun, by nofun⟩
theorem vF (T : Txt K mg) : L2.Binds K T.yu ["_law_table_here"] [] := T.zm.binds (ps := ["_law_table_here"]) fun _ _ _ _ _ _ us hl => le1 (fun _ => rfl) us hl
theorem vN (T : Txt K mg) : FnOk P w K mg base CX0 4 T.yz T.yu ["_law_table_here"] (spOf K 1 jV) := by
 have vB := vj (P := P) (w := w) (base := base) T
 have vP := vp T
 have Jc := vW (P := P) (w := w) (base := base) T
 have Je := v4 T
 have zX := vR (P := P) (w := w) (base := base) T
 have zZ := vy T
 have z3 := wv (P := P) (w := w) (base := base) T
 have z0 := wz T
 have wu := va (P := P) (w := w) (base := base) T
 have wA := vc T
 have Jj := vU (P := P) (w := w) (base := base) T
 have Jg := vY T
 have q : FnOk P w K mg base CX0 (3 + 1) T.yz T.yu ["_law_table_here"] (spOf K 1 (runDef 5 zl)) := by
  refine Qf6 (k := 3) (N := ["_law_table_here", "_law_due", "_law_d", "_law_looks", "_law_lays"]) (body := zl) T.zm j7 rfl rfl (fun cdv A outer s H E hr => ?_)
  exact (@QdY _ _ _ _ _ (@Qf1 _ _ _ _ _ _ QfV 1 j7.nd rfl _ jS _ (@QcI _ _ _ _) (by decide) (by rfl))
  (@QdY _ _ _ _ _ (@Qef _ _ _ _ _ _ _ _ PassesOwn.never rfl (@Qee _ _ _ _ _ _ (QfV.glo _ ww) T.jA (@Qem _ _ _ _ _ _ _ _ (@Qes _) (QfV.glo _ wV) T.yd yK (QdH (Qf5 hr) (QfZ QfV 0 rfl jj jf) QcH (fun _ _ => rfl)) (by decide) (by decide) (by rfl)) (by rfl)) (@Qf0 _ _ _ _ QfV 2 j7.nd rfl .local jK (by decide))
   (@QdY _ _ _ _ _ (@Qf1 _ _ _ _ _ _ QfV 3 j7.nd rfl _ j1 _ (Qf4 QfV z7 Jc (hr.mono (by decide)) T.jX T.zH.kp Je vT (QdA (QfZ QfV 0 rfl jj jf) (QdA (QfZ QfV 2 rfl jK yc) Qdz)) (Qf2 (Qf2 Qf3))) (by decide) (by rfl))
   (@QdY _ _ _ _ _ (@Qf1 _ _ _ _ _ _ QfV 4 j7.nd rfl _ j4 _ (Qf4 QfV zN vB (hr.mono (by decide)) T.jM T.yY.kp vP vn (QdA (QfZ QfV 0 rfl jj jf) (QdA (QfZ QfV 2 rfl jK yc) Qdz)) (Qf2 (Qf2 Qf3))) (by decide) (by rfl))
   (@QdY _ _ _ _ _ (@Qf1 _ _ _ _ _ _ QfV 1 j7.nd rfl _ jS _ (@QdR _ _ _ _ _ _ _ (QfZ QfV 1 rfl jS wf) (QdQ (@QdS _ _ _ _ _ _ _ (QfZ QfV 3 rfl j1 wq) (QdQ (QfZ QfV 4 rfl j4 wT))))) (by decide) (by rfl))
   (@QdY _ _ _ _ _ (@Qd1 _ _ _ _ _ _ _ (L2.PW.pt (@QdO _ _ _ _ _ _ _ (@QdP _ _ _ _ (@QdL _ _ _ (Qf4 QfV j0 zX (hr.mono (by decide)) T.jt T.yk.kp zZ zL (QdA (Qf4 QfV wk wu (hr.mono (by decide)) T.jy T.zu.kp wA w8 (QdA (QfZ QfV 0 rfl jj jf) (QdA (QfZ QfV 2 rfl jK yc) Qdz)) (Qf2 (Qf2 Qf3))) (QdA (QfZ QfV 3 rfl j1 wq) Qdz)) (Qf2 (Qf2 Qf3))) (by intros; rfl))) (@QdN _ _ _ _ (@QdP _ _ _ _ (@QdL _ _ _ (Qf4 QfV j0 zX (hr.mono (by decide)) T.jt T.yk.kp zZ zL (QdA (Qf4 QfV zW z3 (hr.mono (by decide)) T.js T.yA.kp z0 wE (QdA (QfZ QfV 0 rfl jj jf) (QdA (QfZ QfV 2 rfl jK yc) Qdz)) (Qf2 (Qf2 Qf3))) (QdA (QfZ QfV 4 rfl j4 wT) Qdz)) (Qf2 (Qf2 Qf3))) (by intros; rfl))))))
    (@QdY _ _ _ _ _ (@QdZ _ _ _ _ (@QcI _ _ _ _))
    QdX) _
    QdX)
   QdX)))) (by intros; rfl))
  (@QdY _ _ _ _ _ (@QdZ _ _ _ _ (Qf4 QfV j0 zX (hr.mono (by decide)) T.jt T.yk.kp zZ zL (QdA (Qf4 QfV z5 Jj (hr.mono (by decide)) T.jQ T.zE.kp Jg v8 (QdA (QfZ QfV 0 rfl jj jf) Qdz) (Qf2 Qf3)) (QdA (QfZ QfV 1 rfl jS wf) Qdz)) (Qf2 (Qf2 Qf3))))
  QdX)))
 unfold jV
 exact q
theorem wN : LK zn "_law_script" .local := by nofun
theorem wM : LK zn "_law_tables" .globalImplicit := by nofun
theorem jZ : LK zn "_law_tables_here" .local := by nofun
theorem Jd : LK zn "all" .globalImplicit := by nofun
theorem Jv : FnScope ["_law_script", "_law_tables_here"] ["_law_script"] (defScope zn) := ⟨rfl, rfl, rfl, by nofun, rfl, by nofun, by nofun⟩
theorem Jy (T : Txt K mg) : FnOk P w K mg base CX0 5 T.wg T.wr ["_law_script"] (spOf K 1 zT) := by
 have vV := vN (P := P) (w := w) (base := base) T
 have vX := vF T
 have vS := vi (P := P) (w := w) (base := base) T
 have vH := vo T
 have q : FnOk P w K mg base CX0 (4 + 1) T.wg T.wr ["_law_script"] (spOf K 1 (runDef 2 vx)) := by
  refine Qf6 (k := 4) (N := ["_law_script", "_law_tables_here"]) (body := vx) T.Jf Jv rfl rfl (fun cdv A outer s H E hr => ?_)
  exact (@QdY _ _ _ _ _ (@Qf1 _ _ _ _ _ _ QfV 1 Jv.nd rfl _ jZ _ (Qf4 QfV wM vS (hr.mono (by decide)) T.jL T.y0.kp vH vq (QdA (QfZ QfV 0 rfl wN jG) Qdz) (Qf2 Qf3)) (by decide) (by rfl))
  (@QdY _ _ _ _ _ (@QdZ _ _ _ _ (@Qeo _ _ _ _ _ _ _ _ (@QeE _ rfl) (QfV.glo _ Jd) T.zC w9 (@Qek _ _ _ _ _ _ _ _ _ _ _ _ _ _ rfl (@QfX _ _ _ QfV (by nofun)) (@QfY _ ["_law_script", "_law_tables_here"] _ ["_law_table_here"] 1 [] rfl (by nofun)) (@Qed _ _ _ _ (@QcK _ _ _ _ _ _ _ _ (@QeW _) (QfZ QfV 1 rfl jZ zq) (@QdD _ _ _ (@QeZ _ _ _ _ _ _ _ _ _ (QfZ QfV 1 rfl jZ zq) (@QeX _) (@QeY _ _ _ QcH))))) (fun _ _ _ => ⟨(@Qf0 _ _ _ _ (QfW (rfl)) 0 (show List.Nodup (["_law_table_here"] : List Str) by nofun) rfl .local (by nofun) (by decide)), (@Qeh _), (Qf4 (QfW (rfl)) (by nofun) vV (hr.mono (by decide)) T.jV T.zm.kp vX vO (QdA (QfZ (k := .local) (QfW (rfl)) 0 rfl (by nofun) jf) Qdz) (Qf2 Qf3))⟩) (by intros; rfl)) (by decide) (by decide) (by rfl)))
  QdX))
 unfold zT
 exact q
end
end My
namespace My
open MM
open PySem (Str)
def BoxAt (s : Sto) (b : Nat) : Prop := ∃ x y : Int, s[b]? = some (.lst [.int x, .int y]) ∧ 0 ≤ y ∧ y < 2147483648
structure Kept (b : Nat) (s s' : Sto) : Prop where
 le : s.length ≤ s'.length
 at_ : ∀ n, n < s.length → n ≠ b → s'[n]? = s[n]?
theorem Kept.refl (b : Nat) (s : Sto) : Kept b s s := ⟨Nat.le_refl _, fun _ _ _ => rfl⟩
theorem Kept.trans {b : Nat} {s s1 s2 : Sto} (h : Kept b s s1) (k : Kept b s1 s2) : Kept b s s2 :=
 ⟨Nat.le_trans h.le k.le, fun n hn hb => (k.at_ n (Nat.lt_of_lt_of_le hn h.le) hb).trans (h.at_ n hn hb)⟩
theorem QgY {s : Sto} {b : Nat} {k : Int} {Q : D → Sto → Prop} (hb : BoxAt s b) (hk : 0 < k) (hk2 : k < 1073741824)
  (h : ∀ r s', 0 ≤ r → r < k → BoxAt s' b → s'.length = s.length → (∀ n, n ≠ b → s'[n]? = s[n]?) → Q (.int r) s') : wp (ja [.ref b, .int k]) Q s := by
 obtain ⟨x, y, e, h0, h1⟩ := hb
 have hl : b < s.length := (List.getElem?_eq_some_iff.mp e).1
 have es : ∀ ds : List D, (s.set b (.lst ds))[b]? = some (.lst ds) := fun ds => List.getElem?_set_self hl
 have eo : ∀ (ds : List D) (n : Nat), n ≠ b → (s.set b (.lst ds))[n]? = s[n]? := fun ds n hn => List.getElem?_set_ne (Ne.symm hn)
 have fin : ∀ (x' y' : Int) (r : Int), 0 ≤ y' → y' < 2147483648 → 0 ≤ r → r < k → Q (.int r) (s.set b (.lst [.int x', .int y'])) := fun x' y' r a1 a2 a3 a4 =>
  h r _ a3 a4 ⟨x', y', es _, a1, a2⟩ (by simp) (eo _)
 have q1 : ∀ Q, wp (getL b) Q s = Q [.int x, .int y] s := fun Q => Qgb e
 have q2 : ∀ es' Q, wp (putL b es') Q s = Q () (s.set b (.lst es')) := fun es' Q => Qgc e
 have q3 : ∀ ds Q, wp (getL b) Q (s.set b (MO.lst ds)) = Q ds (s.set b (MO.lst ds)) := fun ds Q => Qgb (es ds)
 have q4 : ∀ ds es' Q, wp (putL b es') Q (s.set b (MO.lst ds)) = Q () ((s.set b (MO.lst ds)).set b (.lst es')) := fun ds es' Q => Qgc (es ds)
 (simp_arith [ja]; simp_arith [zF, ↓q1, ↓q2, ↓q3, ↓q4, ix20, ix21, List.set_cons_zero, List.set_cons_succ])
 by_cases hx : 0 < x
 ·rw [if_pos hx]
  refine ⟨hk, ⟨hk, hk2⟩, ?_⟩
  exact fin _ _ _ h0 h1 (Int.emod_nonneg _ (by ac_nf)) (Int.emod_lt_of_pos _ hk)
 ·rw [if_neg hx]
  have y1 := Int.emod_nonneg (y * 48271 + 12345) (show (2147483647 : Int) ≠ 0 by decide)
  have y2 := Int.emod_lt_of_pos (y * 48271 + 12345) (show (0 : Int) < 2147483647 by decide)
  generalize (y * 48271 + 12345) % 2147483647 = z at *
  refine ⟨.inl ⟨by ac_nf, by ac_nf⟩, .inl ⟨by ac_nf, by ac_nf⟩, hk, fin _ _ _ y1 (by ac_nf) (Int.emod_nonneg _ (by ac_nf)) (Int.emod_lt_of_pos _ hk)⟩
theorem Kept.of {b : Nat} {s s' : Sto} (h1 : s'.length = s.length) (h2 : ∀ n, n ≠ b → s'[n]? = s[n]?) : Kept b s s' := ⟨by ac_nf, fun n _ hn => h2 n hn⟩
theorem Kept.snoc {b : Nat} {s : Sto} (o : MO) : Kept b s (s ++ [o]) := ⟨by simp, fun n hn _ => List.getElem?_append_left hn⟩
theorem Kept.box {b : Nat} {s s' : Sto} (hb : BoxAt s b) (o : MO) : BoxAt (s ++ [o]) b := by
 obtain ⟨x, y, e, h0, h1⟩ := hb
 exact ⟨x, y, by rw [List.getElem?_append_left (List.getElem?_eq_some_iff.mp e).1]; exact e, h0, h1⟩
theorem QgZ {s : Sto} {b : Nat} {k : Int} {Q : D → Sto → Prop} (hb : BoxAt s b) (hk : 0 < k) (hk2 : k < 1073741824)
  (h : ∀ r s', 0 ≤ r → r < k → BoxAt s' b → Kept b s s' → Q (.int r) s') : wp (ja [.ref b, .int k]) Q s :=
 QgY hb hk hk2 fun r s' h1 h2 h3 h4 h5 => h r s' h1 h2 h3 (Kept.of h4 h5)
def PairD (S : Int) (d : D) : Prop := ∃ g t : Int, d = .tup [.int g, .int t] ∧ 0 ≤ g ∧ g < S ∧ 0 ≤ t ∧ t < 4
structure ListAt (s : Sto) (n : Nat) (k : Nat) (P : D → Prop) (ds : List D) : Prop where
 at_ : s[n]? = some (.lst ds)
 len : ds.length = k
 all : ∀ d ∈ ds, P d
theorem ListAt.kept {b : Nat} {s s' : Sto} {n k : Nat} {P : D → Prop} {ds : List D} (h : ListAt s n k P ds) (q : Kept b s s') (hn : n ≠ b) : ListAt s' n k P ds :=
 ⟨(q.at_ n (List.getElem?_eq_some_iff.mp h.at_).1 hn).trans h.at_, h.len, h.all⟩
theorem Qg0 {s : Sto} {b : Nat} {top : Int} {n : Nat} {caps : Loc} {e : CE} {Q : List D → Sto → Prop} (hb : BoxAt s b) (h1 : 0 < top) (h2 : top < 1073741824)
  (he : ∀ d, e (some d :: caps) = ja [.ref b, .int top]) (h : ∀ ds s', ds.length = n → (∀ d ∈ ds, ∃ t : Int, d = .int t ∧ 0 ≤ t ∧ t < top) → BoxAt s' b → Kept b s s' → Q ds s') :
  wp (collect (gVar 0) tTrue e anySt (rngD 0 n) (none :: caps)) Q s := by
 refine Qgi (fun i out s' => out.length = i ∧ (∀ d ∈ out, ∃ t : Int, d = .int t ∧ 0 ≤ t ∧ t < top) ∧ BoxAt s' b ∧ Kept b s s') (fun _ _ s _ => trivial) ⟨rfl, by simp, hb, Kept.refl _ _⟩ (fun i d out s1 _ ⟨a1, a2, a3, a4⟩ => ?_) (fun out s1 pq86 => by obtain ⟨a1, a2, a3, a4⟩ := pq86; exact h out s1 (by rw [a1, Qgl]) a2 a3 a4)
 rw [he]
 refine QgZ a3 h1 h2 fun r s2 r0 r1 b2 k2 => ⟨by simp [a1], fun d hd => ?_, b2, a4.trans k2⟩
 rcases List.mem_append.mp hd with hd | hd
 ·exact a2 d hd
 ·rw [List.mem_singleton] at hd; exact ⟨r, hd, r0, r1⟩
theorem Qg1 {s : Sto} {b : Nat} {kind S top : Int} {Q : D → Sto → Prop} (hb : BoxAt s b) (hS : 1 ≤ S) (hS2 : S ≤ 4) (ht : 1 ≤ top) (ht2 : top ≤ 4)
  (h : ∀ n ds s', s.length ≤ n → ListAt s' n S.toNat (PairD S) ds → BoxAt s' b → Kept b s s' → Q (.ref n) s') : wp (jO [.ref b, .int kind, .int S, .int top]) Q s := by
 (simp_arith [jO]; simp_arith [zI])
 refine QgZ hb (by ac_nf) (by ac_nf) fun goal s1 g0 g1 b1 k1 => ?_
 simp_arith []
 have e1 : b < s.length := by obtain ⟨x, y, e, _⟩ := hb; exact (List.getElem?_eq_some_iff.mp e).1
 have hSb : (-(2:Int) ^ 62 ≤ S ∧ S < 2 ^ 62) := ⟨by ac_nf, by ac_nf⟩
 have hSl : (rngD 0 S.toNat).length ≤ lim := Qgm (by rw [Qgl]; ac_nf)
 refine ⟨hSb, hSl, ?_⟩
 refine Qg0 b1 (by ac_nf) (by ac_nf) (fun d => rfl) fun told s2 t1 t2 b2 k2 => ?_
 simp_arith []
 have k3 : Kept b s (s2 ++ [.lst told]) := (k1.trans k2).trans (Kept.snoc _)
 have b3 : BoxAt (s2 ++ [.lst told]) b := Kept.box (s' := s) b2 _
 have q3 : (s2 ++ [MO.lst told])[s2.length]? = some (.lst told) := by simp
 have hle : s.length ≤ s2.length := Nat.le_trans k1.le k2.le
 have nb : s2.length ≠ b := by ac_nf
 generalize hs3 : s2 ++ [MO.lst told] = s3 at *
 have l3 : s3.length = s2.length + 1 := by rw [← hs3]; simp
 have got : ∀ i : Nat, i < S.toNat → ∃ t : Int, told[i]? = some (.int t) ∧ 0 ≤ t ∧ t < 4 := fun i hi => by
  have hl : i < told.length := by ac_nf
  obtain ⟨t, e, t0, t9⟩ := t2 told[i] (List.getElem_mem hl)
  exact ⟨t, by rw [List.getElem?_eq_getElem hl, e], t0, by ac_nf⟩
 have fin : ∀ {e : CE} {caps : Loc}, (∀ (i : Nat) s', i < S.toNat → BoxAt s' b → Kept b s3 s' → wp (e (some (.int i) :: caps)) (fun x s2 => PairD S x ∧ BoxAt s2 b ∧ Kept b s3 s2) s') →
   wp (collect (gVar 0) tTrue e anySt (rngD 0 S.toNat) (none :: caps)) (fun a s' => wp (flwD (Flw.ret (.ref s'.length))) Q (s' ++ [.lst a])) s3 := fun {e caps} he => by
  refine Qgi (fun i out s' => out.length = i ∧ (∀ d ∈ out, PairD S d) ∧ BoxAt s' b ∧ Kept b s3 s') (fun _ _ s _ => trivial) ⟨rfl, by simp, b3, Kept.refl _ _⟩ (fun i d out s1 hd ⟨a1, a2, a3, a4⟩ => ?_) (fun out s1 ⟨a1, a2, a3, a4⟩ => ?_)
  ·obtain ⟨hi, ed⟩ := Qgk hd
   subst ed
   refine Qgd (he i s1 hi a3 a4) fun x s2 ⟨p1, p2, p3⟩ => ⟨by simp [a1], fun d hd => ?_, p2, p3⟩
   rcases List.mem_append.mp hd with hd | hd
   ·exact a2 d hd
   ·rw [List.mem_singleton] at hd; rw [hd]; exact p1
  ·refine (show Q (.ref s1.length) _ → _ from fun q => by rw [x_retF]; exact q) (h s1.length out _ (Nat.le_trans hle (by have := a4.le; ac_nf)) ⟨by simp, by rw [a1, Qgl], a2⟩ (Kept.box (s' := s) a3 _) ((k3.trans a4).trans (Kept.snoc _)))
 have told_at : ∀ (i : Nat) s', i < S.toNat → Kept b s3 s' → ∃ t : Int, (0 ≤ t ∧ t < 4) ∧ (∀ Q, wp (getL s2.length) Q s' = Q told s') ∧ ∀ Q s, wp (itemD told (i : Int)) Q s = Q (.int t) s := fun i s' hi kk => by
  obtain ⟨t, e, t0⟩ := got i hi
  refine ⟨t, t0, fun Q => Qgb ((kk.at_ _ (by ac_nf) nb).trans q3), fun Q s => by rw [Qgf (d := .int t) (by ac_nf) (by simpa using e), wp_ret]⟩
 have g2 : goal < S := g1
 split
 ·refine ⟨hSb, hSl, fin (caps := [some (.ref s2.length)]) fun i s' hi b4 k4 => ?_⟩
  obtain ⟨t, t0, e5, e6⟩ := told_at i s' hi k4
  simp_arith [↓e5, ↓e6]
  exact ⟨Qgm (by decide), ⟨_, _, rfl, by ac_nf, by ac_nf, t0⟩, b4, k4⟩
 split
 ·refine ⟨hSb, hSl, fin (caps := [some (.int goal)]) fun i s' hi b4 k4 => ?_⟩
  simp_arith []
  exact ⟨Qgm (by decide), ⟨_, _, rfl, g0, g2, by ac_nf, by ac_nf⟩, b4, k4⟩
 split
 ·refine ⟨hSb, hSl, fin (caps := [some (.int S), some (.int goal), some (.ref s2.length)]) fun i s' hi b4 k4 => ?_⟩
  obtain ⟨t, t0, e5, e6⟩ := told_at i s' hi k4
  simp_arith [↓e5, ↓e6]
  exact ⟨by ac_nf, Qgm (by decide), ⟨_, _, rfl, Int.emod_nonneg _ (by ac_nf), Int.emod_lt_of_pos _ (by ac_nf), t0⟩, b4, k4⟩
 split
 ·refine ⟨hSb, hSl, fin (caps := [some (.int goal)]) fun i s' hi b4 k4 => ?_⟩
  simp_arith []
  exact ⟨Qgm (by decide), ⟨_, _, rfl, g0, g2, by ac_nf, by ac_nf⟩, b4, k4⟩
 ·refine ⟨hSb, hSl, fin (caps := [some (.ref b), some (.int S), some (.ref s2.length)]) fun i s' hi b4 k4 => ?_⟩
  simp_arith []
  refine QgZ b4 (by ac_nf) (by ac_nf) fun r s5 r0 r1 b5 k5 => ?_
  obtain ⟨t, t0, e5, e6⟩ := told_at i s5 hi (k4.trans k5)
  simp_arith [↓e5, ↓e6]
  exact ⟨Qgm (by decide), ⟨_, _, rfl, r0, r1, t0⟩, b5, k4.trans k5⟩
def RowAt (s : Sto) (b dn : Nat) (S : Int) (d : D) : Prop := ∃ n ds, d = .ref n ∧ n ≠ b ∧ ListAt s n dn (PairD S) ds
theorem RowAt.kept {b dn : Nat} {S : Int} {s s' : Sto} {d : D} (h : RowAt s b dn S d) (q : Kept b s s') : RowAt s' b dn S d := by
 obtain ⟨n, ds, e, hn, h⟩ := h
 exact ⟨n, ds, e, hn, h.kept q hn⟩
theorem RowAt.put {b dn : Nat} {S : Int} {s : Sto} {d : D} {m : Nat} {es : List D} (h : RowAt s b dn S d) (q : es.length = dn) (q2 : ∀ x ∈ es, PairD S x) : RowAt (s.set m (.lst es)) b dn S d := by
 obtain ⟨n, ds, e, hn, h⟩ := h
 have hl : n < s.length := (List.getElem?_eq_some_iff.mp h.at_).1
 by_cases hm : m = n
 ·subst hm
  exact ⟨m, es, e, hn, ⟨List.getElem?_set_self hl, q, q2⟩⟩
 ·exact ⟨n, ds, e, hn, ⟨by rw [List.getElem?_set_ne hm]; exact h.at_, h.len, h.all⟩⟩
def IsTable (t : D) : Prop := ∃ (S : Int) (dn : Nat) (rows : List D), t = .tup rows ∧ 1 ≤ S ∧ S ≤ 4 ∧ rows.length = S.toNat ∧ 1 ≤ dn ∧ dn ≤ 4 ∧
 ∀ r ∈ rows, ∃ ds, r = .tup ds ∧ ds.length = dn ∧ ∀ d ∈ ds, PairD S d
theorem Qg2 {s : Sto} {b dn n7 : Nat} {S : Int} {rows : List D} {caps : Loc} {e : CE} {Q : List D → Sto → Prop} (hS : 1 ≤ S) (hS2 : S ≤ 4) (hd : 1 ≤ dn) (hd2 : dn ≤ 4) (h7 : s[n7]? = some (.lst rows)) (hl : rows.length = S.toNat)
  (hr : ∀ d ∈ rows, RowAt s b dn S d) (he : ∀ d, e (some d :: caps) = tupleD d) (h : ∀ out, IsTable (.tup out) → Q out s) :
  wp (collect (gVar 0) tTrue e (sameL n7 rows) rows (none :: caps)) Q s := by
 refine Qgi (fun i out s' => s' = s ∧ out.length = i ∧ ∀ r ∈ out, ∃ ds, r = .tup ds ∧ ds.length = dn ∧ ∀ d ∈ ds, PairD S d) (fun _ _ s' h => by rw [h.1]; exact h7) ⟨rfl, rfl, by simp⟩ (fun i d out s1 hdd ⟨a1, a2, a3⟩ => ?_) (fun out s1 ⟨a1, a2, a3⟩ => ?_)
 ·subst a1
  obtain ⟨n, ds, e1, hn, q⟩ := hr d (List.mem_of_getElem? hdd)
  rw [he, e1]
  show wp (bnd (getL n) _) _ _
  rw [Qga, Qgb q.at_, wp_ret]
  refine ⟨rfl, by simp [a2], fun r hr => ?_⟩
  rcases List.mem_append.mp hr with hr | hr
  ·exact a3 r hr
  ·rw [List.mem_singleton] at hr; exact ⟨ds, hr, q.len, q.all⟩
 ·subst a1
  exact h out ⟨S, dn, out, rfl, hS, hS2, by rw [a2, hl], hd, hd2, a3⟩
end My
namespace My
open MM
open PySem (Str)
theorem BoxAt.lt {s : Sto} {b : Nat} (h : BoxAt s b) : b < s.length := by obtain ⟨x, y, e, _⟩ := h; exact (List.getElem?_eq_some_iff.mp e).1
theorem BoxAt.put {s : Sto} {b m : Nat} {es : List D} (h : BoxAt s b) (hm : m ≠ b) : BoxAt (s.set m (.lst es)) b := by
 obtain ⟨x, y, e, h0, h1⟩ := h
 exact ⟨x, y, by rw [List.getElem?_set_ne hm]; exact e, h0, h1⟩
theorem Qg3 {s : Sto} {b n4 : Nat} {S : Int} {i : Nat} {outs : List D} {caps : Loc} {e : CE} {Q : List D → Sto → Prop} (hi : i < S.toNat) (h4 : s[n4]? = some (.lst outs)) (hr : ∀ d ∈ outs, RowAt s b S.toNat S d)
  (he : ∀ d, e (some d :: caps) = subsD d (.int i)) (h : ∀ ds, ds.length = outs.length → (∀ d ∈ ds, PairD S d) → Q ds s) :
  wp (collect (gVar 0) tTrue e (sameL n4 outs) outs (none :: caps)) Q s := by
 refine Qgi (fun i out s' => s' = s ∧ out.length = i ∧ ∀ r ∈ out, PairD S r) (fun _ _ s' h => by rw [h.1]; exact h4) ⟨rfl, rfl, by simp⟩ (fun k d out s1 hdd ⟨a1, a2, a3⟩ => ?_) (fun out s1 ⟨a1, a2, a3⟩ => ?_)
 ·subst a1
  obtain ⟨n, ds, e1, hn, q⟩ := hr d (List.mem_of_getElem? hdd)
  rw [he, e1]
  show wp (bnd (getL n) _) _ _
  have hl : i < ds.length := by rw [q.len]; exact hi
  rw [Qga, Qgb q.at_, Qgf (d := ds[i]) (by ac_nf) (by simp [List.getElem?_eq_getElem hl]), wp_ret]
  refine ⟨rfl, by simp [a2], fun r hr => ?_⟩
  rcases List.mem_append.mp hr with hr | hr
  ·exact a3 r hr
  ·rw [List.mem_singleton] at hr; rw [hr]; exact q.all _ (List.getElem_mem hl)
 ·subst a1
  exact h out a2 a3
theorem RowAt.other {b dn m : Nat} {S : Int} {s : Sto} {d : D} {o : MO} (h : RowAt s b dn S d) (hd : d ≠ .ref m) : RowAt (s.set m o) b dn S d := by
 obtain ⟨n, ds, e, hn, h⟩ := h
 have : m ≠ n := fun e2 => hd (by rw [e, e2])
 exact ⟨n, ds, e, hn, ⟨by rw [List.getElem?_set_ne this]; exact h.at_, h.len, h.all⟩⟩
theorem Qg4 {s : Sto} {b : Nat} {Q : D → Sto → Prop} (hb : BoxAt s b) (h : ∀ t s', IsTable t → BoxAt s' b → Kept b s s' → Q t s') : wp (jU [.ref b]) Q s := by
 (simp_arith [jU]; simp_arith [zg])
 refine QgZ hb (by ac_nf) (by ac_nf) fun r1 s1 r10 r11 b1 k1 => ?_
 simp_arith []
 refine QgZ b1 (by ac_nf) (by ac_nf) fun r2 s2 r20 r21 b2 k2 => ?_
 simp_arith []
 refine QgZ b2 (by ac_nf) (by ac_nf) fun v3 s3 r30 r31 b3 k3 => ?_
 simp_arith []
 have hle : s.length ≤ s3.length := Nat.le_trans k1.le (Nat.le_trans k2.le k3.le)
 have k4 : Kept b s (s3 ++ [.lst []]) := ((k1.trans k2).trans k3).trans (Kept.snoc _)
 have b4 : BoxAt (s3 ++ [.lst []]) b := Kept.box (s' := s) b3 _
 have q4 : (s3 ++ [MO.lst []])[s3.length]? = some (.lst []) := by simp
 have n4b : s3.length ≠ b := by have := b3.lt; have := hb.lt; ac_nf
 generalize hs : s3 ++ [MO.lst []] = s4 at *
 have l4 : s4.length = s3.length + 1 := by rw [← hs]; simp
 generalize hn4 : s3.length = n4 at *
 have hS1 : 1 ≤ 1 + r1 := by ac_nf
 have hS2 : 1 + r1 ≤ 4 := by ac_nf
 have ht1 : 1 ≤ 1 + r2 := by ac_nf
 have ht2 : 1 + r2 ≤ 4 := by ac_nf
 generalize hSe : 1 + r1 = S at *
 generalize hte : 1 + r2 = top at *
 refine ⟨Nat.zero_le _, ?_⟩
 refine QgZ b4 (by ac_nf) (by ac_nf) fun r4 s5 r40 r41 b5 k5 => ?_
 simp_arith []
 have q5 : s5[n4]? = some (.lst []) := (k5.at_ n4 (by ac_nf) n4b).trans q4
 refine ⟨⟨by ac_nf, by ac_nf⟩, ?_⟩
 refine Qgo (fun i l s' => ∃ x5 x6 outs, l = [some (.ref b), some (.int S), some (.int top), some (.int v3), some (.ref n4), x5, x6, none, none, none, none, none] ∧ s'[n4]? = some (.lst outs) ∧ outs.length = i ∧ (∀ d ∈ outs, RowAt s' b S.toNat S d) ∧ (∀ d ∈ outs, d ≠ .ref n4) ∧ BoxAt s' b ∧ s.length ≤ s'.length ∧ ∀ n, n < s.length → n ≠ b → s'[n]? = s[n]?) (fun _ _ _ _ => trivial) ⟨_, _, [], rfl, q5, rfl, by simp, by simp, b5, Nat.le_trans hle (by have := k5.le; ac_nf), fun n hn hb => (k4.trans k5).at_ n hn hb⟩ (fun i d l s' hd ⟨x5, x6, outs, el, q6, l6, r6, d6, b6, le6, k6⟩ => ?_) (fun l s' ⟨x5, x6, outs, el, q6, l6, r6, d6, b6, le6, k6⟩ => ?_)
 ·obtain ⟨hi, ed⟩ := Qgk hd
  subst ed
  subst el
  simp_arith []
  have hlt4 : n4 < s'.length := (List.getElem?_eq_some_iff.mp q6).1
  have go : ∀ (kind : Int) (sx : Sto), BoxAt sx b → Kept b s' sx → wp (jO [D.ref b, .int kind, D.int S, D.int top]) (fun d s2 => wp (getL n4) (fun a s3 => a.length < lim ∧ wp (putL n4 (a ++ [d])) (fun _ s9 => ∃ outs, s9[n4]? = some (.lst outs) ∧ outs.length = i + 1 ∧ (∀ d ∈ outs, RowAt s9 b S.toNat S d) ∧ (∀ d ∈ outs, d ≠ .ref n4) ∧ BoxAt s9 b ∧ s.length ≤ s9.length ∧ ∀ n, n < s.length → n ≠ b → s9[n]? = s[n]?) s3) s2) sx := fun kind sx hbx kx => by
   refine Qg1 hbx hS1 hS2 ht1 ht2 fun n ds s2 hn hl hb2 hk => ?_
   have kk := kx.trans hk
   have e : s2[n4]? = some (.lst outs) := (kk.at_ n4 hlt4 n4b).trans q6
   have lx := kx.le
   have l2 := kk.le
   rw [Qgb e]
   refine ⟨Qgn (by ac_nf), ?_⟩
   rw [Qgc e]
   have nn : (D.ref n) ≠ .ref n4 := fun h => by cases h; ac_nf
   have bl := b6.lt
   refine ⟨outs ++ [.ref n], List.getElem?_set_self (by ac_nf), by simp [l6], fun d hd => ?_, fun d hd => ?_, hb2.put n4b, by rw [List.length_set]; ac_nf, fun m hm hmb => ?_⟩
   ·rcases List.mem_append.mp hd with hd | hd
    ·exact ((r6 d hd).kept kk).other (d6 d hd)
    ·rw [List.mem_singleton] at hd; rw [hd]
     exact RowAt.other ⟨n, ds, rfl, by ac_nf, hl⟩ nn
   ·rcases List.mem_append.mp hd with hd | hd
    ·exact d6 d hd
    ·rw [List.mem_singleton] at hd; rw [hd]; exact nn
   ·rw [List.getElem?_set_ne (by ac_nf), kk.at_ m (by ac_nf) hmb, k6 m hm hmb]
  refine QgZ b6 (by ac_nf) (by ac_nf) fun ra sa ra0 ra1 ba ka => ?_
  simp_arith []
  refine ⟨Qgm (by decide), ?_⟩
  refine QgZ ba (by ac_nf) (by ac_nf) fun rb sb rb0 rb1 bb kb => ?_
  simp_arith []
  have hit : ∃ kind : Int, itemD [.int 0, .int v3, .int v3, .int (1 + ra)] rb = ret (.int kind) := by
   have : rb = 0 ∨ rb = 1 ∨ rb = 2 ∨ rb = 3 := by ac_nf
   rcases this with h | h | h | h <;> subst h <;> exact ⟨_, rfl⟩
  obtain ⟨kind, e1⟩ := hit
  simp_arith [e1]
  split
  ·refine QgZ bb (by ac_nf) (by ac_nf) fun rc sc rc0 rc1 bc kc => ?_
   simp_arith []
   exact Qgd (go (1 + rc) sc bc ((ka.trans kb).trans kc)) fun d s2 q => Qgd q fun a3 s3 pq96 => by obtain ⟨q1, q2⟩ := pq96; exact ⟨q1, Qgd q2 fun _ s9 pq97 => by
    obtain ⟨outs, q⟩ := pq97
    simp_arith []
    exact ⟨_, _, outs, rfl, q⟩⟩
  ·exact Qgd (go kind sb bb (ka.trans kb)) fun d s2 q => Qgd q fun a3 s3 pq98 => by obtain ⟨q1, q2⟩ := pq98; exact ⟨q1, Qgd q2 fun _ s9 pq99 => by
     obtain ⟨outs, q⟩ := pq99
     simp_arith []
     exact ⟨_, _, outs, rfl, q⟩⟩
 ·subst el
  simp_arith []
  rw [Qgl] at l6
  refine ⟨⟨by ac_nf, by ac_nf⟩, Qgm (by rw [Qgl]; ac_nf), ?_⟩
  have hd1 : 1 ≤ outs.length := by ac_nf
  have hd2 : outs.length ≤ 4 := by ac_nf
  have hlt4 : n4 < s'.length := (List.getElem?_eq_some_iff.mp q6).1
  refine Qgi (caps := [some (.ref n4)]) (fun i out s7 => out.length = i ∧ (∀ d ∈ out, RowAt s7 b outs.length S d) ∧ BoxAt s7 b ∧ Kept b s' s7 ∧ ∀ m, .ref m ∈ out → s'.length ≤ m) (fun _ _ _ _ => trivial) ⟨rfl, by simp, b6, Kept.refl _ _, by simp⟩ (fun i d out s7 hd ⟨a1, a2, a3, a4, a5⟩ => ?_) (fun rows s7 ⟨a1, a2, a3, a4, a5⟩ => ?_)
  ·obtain ⟨hi, ed⟩ := Qgk hd
   subst ed
   have e4 : s7[n4]? = some (.lst outs) := (a4.at_ n4 hlt4 n4b).trans q6
   have q9 : ∀ Q, wp (getL n4) Q s7 = Q outs s7 := fun Q => Qgb e4
   simp_arith [↓q9]
   refine ⟨Qgm (by ac_nf), ?_⟩
   refine Qg3 (b := b) hi e4 (fun d hd => (r6 d hd).kept a4) (fun d => rfl) fun ds p1 p2 => ?_
   refine ⟨by simp [a1], fun d hd => ?_, Kept.box (s' := s) a3 _, a4.trans (Kept.snoc _), fun m hm => ?_⟩
   ·rcases List.mem_append.mp hd with hd | hd
    ·exact (a2 d hd).kept (Kept.snoc _)
    ·rw [List.mem_singleton] at hd; rw [hd]
     exact ⟨s7.length, ds, rfl, by have := a3.lt; ac_nf, ⟨by simp, p1, p2⟩⟩
   ·rcases List.mem_append.mp hm with hm | hm
    ·exact a5 m hm
    ·rw [List.mem_singleton] at hm; cases hm; exact a4.le
  ·rw [Qgl] at a1
   have k8 : Kept b s' (s7 ++ [.lst rows]) := a4.trans (Kept.snoc _)
   have b8 : BoxAt (s7 ++ [.lst rows]) b := Kept.box (s' := s) a3 _
   have q8 : (s7 ++ [MO.lst rows])[s7.length]? = some (.lst rows) := by simp
   have r8 : ∀ d ∈ rows, RowAt (s7 ++ [.lst rows]) b outs.length S d := fun d hd => (a2 d hd).kept (Kept.snoc _)
   have n7b : s7.length ≠ b := by have := a3.lt; ac_nf
   have n7o : ∀ d ∈ rows, d ≠ .ref s7.length := fun d hd e => by
    obtain ⟨n, ds, e1, hn, q⟩ := a2 d hd
    rw [e1] at e; cases e
    have := (List.getElem?_eq_some_iff.mp q.at_).1
    ac_nf
   have l8 : (s7 ++ [MO.lst rows]).length = s7.length + 1 := by simp
   generalize s7 ++ [MO.lst rows] = s8 at *
   generalize s7.length = n7 at *
   have kf : ∀ sx, Kept b s8 sx → Kept b s sx := fun sx k => Kept.trans (s1 := s') ⟨le6, k6⟩ (k8.trans k)
   simp_arith []
   refine QgZ b8 (by ac_nf) (by ac_nf) fun rc s9 rc0 rc1 b9 k9 => ?_
   simp_arith []
   have h7 : ∀ sx, Kept b s8 sx → sx[n7]? = some (.lst rows) := fun sx k => (k.at_ n7 (by ac_nf) n7b).trans q8
   have l7 := k8.le
   have h4 : ∀ sx, Kept b s8 sx → sx[n4]? = some (.lst outs) := fun sx k => ((k8.trans k).at_ n4 hlt4 n4b).trans q6
   split
   ·refine QgZ b9 (by ac_nf) (by ac_nf) fun x8 sa xa0 xa1 ba ka => ?_
    simp_arith []
    rw [Qgb (h4 sa (k9.trans ka))]
    simp_arith []
    refine QgZ ba (by ac_nf) (by ac_nf) fun x9 sb xb0 xb1 bb kb => ?_
    simp_arith []
    have kb' := (k9.trans ka).trans kb
    have hx8 : x8.toNat < rows.length := by ac_nf
    obtain ⟨n, ds, e1, hn, q⟩ := r8 rows[x8.toNat] (List.getElem_mem hx8)
    have i1 : ∀ Q s, wp (itemD rows x8) Q s = Q (.ref n) s := fun Q s => by rw [Qgf (d := .ref n) xa0 (by rw [List.getElem?_eq_getElem hx8, e1]), wp_ret]
    have hx9 : x9.toNat < ds.length := by rw [q.len]; ac_nf
    obtain ⟨g, u, e2, g0, g1, u0⟩ := q.all ds[x9.toNat] (List.getElem_mem hx9)
    have i2 : ∀ Q s, wp (itemD ds x9) Q s = Q (.tup [.int g, .int u]) s := fun Q s => by rw [Qgf (d := .tup [.int g, .int u]) xb0 (by rw [List.getElem?_eq_getElem hx9, e2]), wp_ret]
    have hq : ∀ sx, Kept b s8 sx → sx[n]? = some (.lst ds) := fun sx k => (q.kept k hn).at_
    have w1 : ∀ Q, wp (getL n7) Q sb = Q rows sb := fun Q => Qgb (h7 sb kb')
    have w2 : ∀ Q, wp (getL n) Q sb = Q ds sb := fun Q => Qgb (hq sb kb')
    simp_arith [↓w1, ↓i1, ↓w2, ↓i2]
    refine QgZ bb (by ac_nf) (by ac_nf) fun xc sc xc0 xc1 bc kc => ?_
    simp_arith []
    refine ⟨Qgm (by decide), ?_⟩
    refine QgZ bc (by ac_nf) (by ac_nf) fun xd sd xd0 xd1 bd kd => ?_
    simp_arith []
    refine ⟨Qgm (by decide), Qgm (by decide), ?_⟩
    refine QgZ bd (by ac_nf) (by ac_nf) fun xe se xe0 xe1 be ke => ?_
    simp_arith []
    have ke' := ((kb'.trans kc).trans kd).trans ke
    have hv : ∃ v, itemD [.tup [.int xc, .int u], .tup [.int g, .int xd]] xe = ret v ∧ PairD S v := by
     have : xe = 0 ∨ xe = 1 := by ac_nf
     rcases this with h | h <;> subst h
     ·exact ⟨_, rfl, _, _, rfl, xc0, xc1, u0⟩
     ·exact ⟨_, rfl, _, _, rfl, g0, g1, xd0, xd1⟩
    obtain ⟨v, i3, pv⟩ := hv
    have i4 : ixN ds.length x9 = some x9.toNat := by unfold MM.ixN; rw [if_pos xb0, if_pos (by ac_nf)]
    have hnn : n ≠ n7 := fun e => n7o _ (List.getElem_mem hx8) (by rw [e1, e])
    have h7' : (se.set n (.lst (ds.set x9.toNat v)))[n7]? = some (.lst rows) := by rw [List.getElem?_set_ne hnn]; exact h7 se ke'
    simp_arith [i3, Qgb (h7 se ke'), i1, Qgb (hq se ke'), i4, Qgc (hq se ke'), Qgb h7']
    refine ⟨Qgm (by ac_nf), ?_⟩
    refine Qg2 (b := b) (S := S) (dn := outs.length) hS1 hS2 hd1 hd2 h7' (by ac_nf) (fun d hd => ((r8 d hd).kept ke').put (by simp [q.len]) (fun x hx => ?_)) (fun d => rfl) fun out ho => ?_
    ·rcases List.mem_or_eq_of_mem_set hx with hx | hx
     ·exact q.all x hx
     ·rw [hx]; exact pv
    ·show wp (ret _) _ _
     rw [wp_ret, x_retF]
     have hnl : s'.length ≤ n := a5 n (by rw [← e1]; exact List.getElem_mem hx8)
     have kz := kf se ke'
     exact h _ _ ho (be.put hn) ⟨by rw [List.length_set]; exact kz.le, fun m hm hmb => by rw [List.getElem?_set_ne (by ac_nf)]; exact kz.at_ m hm hmb⟩
   ·rw [Qgb (h7 s9 k9)]
    refine ⟨Qgm (by ac_nf), ?_⟩
    refine Qg2 (b := b) (S := S) (dn := outs.length) hS1 hS2 hd1 hd2 (h7 s9 k9) (by ac_nf) (fun d hd => (r8 d hd).kept k9) (fun d => rfl) fun out ho => ?_
    show wp (ret _) _ _
    rw [wp_ret, x_retF]
    exact h _ _ ho b9 (kf _ k9)
end My
namespace My
open MM
open PySem (Str)
noncomputable def  g_box (A B C E F G H T U : Int) : CS :=
  (sSeq (sAsg (gVar 2) (c2 addD (c2 mulD (cCon (.int A)) (cVar 1)) (cCon (.int B))))
  (sSeq (sIf (tCmpB (c2 ltD (cVar 1) (c1 lenD (cVar 0))))
   (sSeq (sAsg (gVar 2) (c2 subsD (cVar 0) (cVar 1)))
   sNext)
   (sSeq (sIf (tCmpB (c2 gtD (c1 lenD (cVar 0)) (cCon (.int 0))))
    (sSeq (sAsg (gVar 2) (c2 addD (cVar 2) (c2 mulD (c2 modD (c2 subsD (cVar 0) (c2 modD (cVar 1) (c1 lenD (cVar 0)))) (cCon (.int C))) (cCon (.int E)))))
    sNext)
    sNext)
   sNext))
  (sSeq (sAsg (gVar 3) (c2 modD (c2 addD (c2 addD (c2 mulD (c2 modD (cVar 2) (cCon (.int C))) (cCon (.int F))) (c2 mulD (cCon (.int G)) (cVar 1))) (cCon (.int H))) (cCon (.int C))))
  (sSeq (sRet (cKeep (aDisp (cCons (c2 mulD (cVar 2) (c1 intD (c2 geD (cVar 2) (c2 powD (cCon (.int T)) (cCon (.int U)))))) (cCons (cVar 3) cNil)))))
  sNext))))
theorem Qg5 {s : Sto} {ns : List Int} {i A B C E F G H T U P : Int} {Q : D → Sto → Prop} (hi0 : 0 ≤ i) (hC : 0 < C) (hC2 : C ≤ 2147483648) (p1 : mulOk A i) (p2 : mulOk G i) (p3 : ∀ x, mulOk x E) (p4 : ∀ x, mulOk x F) (hpow : ∀ Q s, wp (powD (.int T) (.int U)) Q s = Q (.int P) s) (p5 : ∀ v : Int, mulOk v (if P ≤ v then 1 else 0))
  (h : ∀ o, BoxAt (s ++ [o]) s.length → Q (.ref s.length) (s ++ [o])) : wp (runDef 4 (g_box A B C E F G H T U) [.lit (ns.map D.int), .int i]) Q s := by
 have fin : ∀ x y : Int, Q (.ref s.length) (s ++ [.lst [.int x, .int (y % C)]]) := fun x y =>
  h _ ⟨x, y % C, by simp, Int.emod_nonneg _ (by ac_nf), by have := Int.emod_lt_of_pos y hC; ac_nf⟩
 have item : ∀ j : Int, 0 ≤ j → j < ns.length → ∃ v : Int, ∀ Q s, wp (itemD (ns.map D.int) j) Q s = Q (.int v) s := fun j h0 h1 => by
  have hl : j.toNat < ns.length := by ac_nf
  exact ⟨ns[j.toNat], fun Q s => by rw [Qgf h0 (by rw [List.getElem?_map, List.getElem?_eq_getElem hl]; rfl), wp_ret]⟩
 by_cases hlt : i < ns.length
 ·obtain ⟨v, e⟩ := item i hi0 hlt
  simp_arith [g_box, List.length_map, hlt, ↓e, ↓hpow, p1, p2, p3, p4, p5, hC]
  exact ⟨Qgm (by ac_nf), fin _ _⟩
 by_cases hpos : 0 < (ns.length : Int)
 ·obtain ⟨v, e⟩ := item (i % ns.length) (Int.emod_nonneg _ (by ac_nf)) (Int.emod_lt_of_pos _ hpos)
  simp_arith [g_box, List.length_map, hlt, hpos, ↓e, ↓hpow, p1, p2, p3, p4, p5, hC]
  exact ⟨Qgm (by ac_nf), fin _ _⟩
 ·simp_arith [g_box, List.length_map, hlt, hpos, ↓hpow, p1, p2, p3, p4, p5, hC]
  exact ⟨Qgm (by ac_nf), fin _ _⟩
theorem Qg6 {s : Sto} {ns : List Int} {i : Int} {Q : D → Sto → Prop} (hi0 : 0 ≤ i) (h : ∀ o, BoxAt (s ++ [o]) s.length → Q (.ref s.length) (s ++ [o])) : wp (yb [.lit (ns.map D.int), .int i]) Q s := by
 have m1 : ∀ k i : Int, 0 ≤ k → k < 10000000 → mulOk k i := fun k i h1 h2 => .inl ⟨by ac_nf, by ac_nf⟩
 have m2 : ∀ i k : Int, 0 ≤ k → k < 10000000 → mulOk i k := fun i k h1 h2 => .inr ⟨by ac_nf, by ac_nf⟩
 unfold yb
 exact Qg5 (A := 104729) (B := 17) (C := 2147483629) (E := 48611) (F := 48271) (G := 7919) (H := 11) (T := 10) (U := 18) (P := 1000000000000000000) hi0 (by ac_nf) (by ac_nf) (m1 _ _ (by ac_nf) (by ac_nf)) (m1 _ _ (by ac_nf) (by ac_nf)) (fun x => m2 _ _ (by ac_nf) (by ac_nf)) (fun x => m2 _ _ (by ac_nf) (by ac_nf)) (fun Q s => wp_eq (by unfold powD chk; rfl)) (fun v => m2 _ _ (by split <;> ac_nf) (by split <;> ac_nf)) h
theorem Qg7 {xs : List D} {lo hi : Option Int} : (cutD xs lo hi).length ≤ xs.length := by
 unfold cutD; rw [List.length_take, List.length_drop]; ac_nf
end My
namespace My
open MM
open PySem (Str)
theorem Qg8 {ns : List Int} {Q : D → Sto → Prop} {s : Sto} (hn : ns.length ≤ 63) (h : ∀ n ts s', s'[n]? = some (.lst ts) → 1 ≤ ts.length → ts.length ≤ 100 → (∀ t ∈ ts, IsTable t) → Q (.ref n) s') : wp (jL [.lit (ns.map D.int)]) Q s := by
 have cl := @Qg7 (ns.map D.int) (some 2) (some 12)
 rw [List.length_map] at cl
 (simp_arith [jL]; simp_arith [zb, ↓x_slice, ↓x_some, lenL, capt])
 refine ⟨⟨by ac_nf, by ac_nf⟩, Qgm (by rw [Qgl]; ac_nf), ?_⟩
 refine Qgi (fun i out s' => out.length = i ∧ ∀ t ∈ out, IsTable t) (fun _ _ _ _ => trivial) ⟨rfl, by simp⟩ (fun i d out s7 hd ⟨a1, a2⟩ => ?_) (fun ts s7 ⟨a1, a2⟩ => ?_)
 ·obtain ⟨hi, ed⟩ := Qgk hd
  subst ed
  simp_arith []
  refine Qg6 (by ac_nf) fun o hb => ?_
  simp_arith []
  refine Qg4 hb fun t s' ht _ _ => ⟨by simp [a1], fun x hx => ?_⟩
  rcases List.mem_append.mp hx with hx | hx
  ·exact a2 x hx
  ·rw [List.mem_singleton] at hx; rw [hx]; exact ht
 ·rw [Qgl] at a1
  simp_arith []
  exact h _ ts _ (by simp) (by ac_nf) (by ac_nf) a2
end My
namespace My
open MM
open PySem (Str)
noncomputable def tabD (S dn : Nat) (nx un : Nat → Nat → Nat) : D := .tup (upto S fun s => .tup (upto dn fun d => .tup [.int (nx s d : Nat), .int (un s d : Nat)]))
theorem Qg9 {t : D} (h : IsTable t) : ∃ S dn nx un, t = tabD S dn nx un ∧ 1 ≤ S ∧ S ≤ 4 ∧ 1 ≤ dn ∧ dn ≤ 4 ∧ ∀ s d, s < S → d < dn → nx s d < S ∧ un s d < 4 := by
 obtain ⟨S, dn, rows, et, hS1, hS2, hl, hd1, hd2, hr⟩ := h
 have key : ∀ s : Nat, ∃ p : Nat → Nat × Nat, s < S.toNat → rows[s]? = some (.tup (upto dn fun d => .tup [.int ((p d).1 : Nat), .int ((p d).2 : Nat)])) ∧ ∀ d, d < dn → (p d).1 < S.toNat ∧ (p d).2 < 4 := by
  intro s
  by_cases hs : s < S.toNat
  ·have hlt : s < rows.length := by ac_nf
   obtain ⟨ds, e, hdl, hp⟩ := hr rows[s] (List.getElem_mem hlt)
   have k2 : ∀ d : Nat, ∃ p : Nat × Nat, d < dn → ds[d]? = some (.tup [.int (p.1 : Nat), .int (p.2 : Nat)]) ∧ p.1 < S.toNat ∧ p.2 < 4 := by
    intro d
    by_cases hd : d < dn
    ·have hdt : d < ds.length := by ac_nf
     obtain ⟨g, u, e2, g0, g1, u0, u9⟩ := hp ds[d] (List.getElem_mem hdt)
     refine ⟨(g.toNat, u.toNat), fun _ => ⟨?_, by show g.toNat < S.toNat; ac_nf, by show u.toNat < 4; ac_nf⟩⟩
     rw [List.getElem?_eq_getElem hdt, e2, Int.toNat_of_nonneg g0, Int.toNat_of_nonneg u0]
    ·exact ⟨(0, 0), fun h => (hd h).elim⟩
   refine ⟨fun d => Classical.choose (k2 d), fun _ => ⟨?_, fun d hd => (Classical.choose_spec (k2 d) hd).2⟩⟩
   rw [List.getElem?_eq_getElem hlt, e]
   congr 2
   exact QgF hdl fun d hd => (Classical.choose_spec (k2 d) hd).1
  ·exact ⟨fun _ => (0, 0), fun h => (hs h).elim⟩
 refine ⟨S.toNat, dn, fun s d => (Classical.choose (key s) d).1, fun s d => (Classical.choose (key s) d).2, ?_, by ac_nf, by ac_nf, hd1, hd2, fun s d hs hd => (Classical.choose_spec (key s) hs).2 d hd⟩
 rw [et]
 unfold tabD
 congr 1
 exact QgF hl fun s hs => (Classical.choose_spec (key s) hs).1
end My
namespace My
open MM
open PySem (Str)
section
variable {S dn : Nat} {nx un : Nat → Nat → Nat} {Q : D → Sto → Prop} {s : Sto}
theorem Qha {j : Nat} (hi : 0 < S) (hj : j < dn) : wp (jE [tabD S dn nx un, .int 0, .int j]) Q s = Q (.int (nx 0 j : Nat)) s := by
 (simp_arith [jE]; simp_arith [yW, tabD, ↓QgO hi, ↓QgN hj])
theorem Qhb {j : Nat} (hS : S ≤ 4) (hj : j < dn) : wp (jy [tabD S dn nx un, .int j]) Q s = Q (.bl (bP (∀ i, i < S → nx i j = i))) s := by
 have w : ∀ Q s, wp (collect (gTupD 2 (gsCons (gVar 0) (gsCons (gVar 1) gsNil))) tTrue (c2 eqD (c2 subsD (c2 subsD (cVar 1) (cVar 2)) (cCon (.int 0))) (cVar 0)) anySt (upto S fun i => .tup [.int i, .tup (upto dn fun d => D.tup [.int (nx i d : Nat), .int (un i d : Nat)])]) [none, none, some (.int j)]) Q s = Q (upto S fun i => .bl (bP (nx i j = i))) s := fun Q s => QgU QgP fun i hi Q => by
  simp_arith [↓QgN hj, QgS]
 have hl : S ≤ lim := Qgm (by ac_nf)
 (simp_arith [jy]; simp_arith [zU, tabD, capt, QgT, QgD, ↓w, ↓QgJ, hl])
theorem Qhc {j : Nat} (hS1 : 1 ≤ S) (hS : S ≤ 4) (hj : j < dn) : ∃ m : Nat, ((m = 1 ↔ ∀ i, i < S → un i j = 0) ∧ ∀ Q s, wp (ya [tabD S dn nx un, .int j]) Q s = Q (.int m) s) := by
 have w : ∀ Q s, wp (collect (gVar 0) tTrue (c2 subsD (c2 subsD (cVar 0) (cVar 1)) (cCon (.int 1))) anySt (upto S fun s => .tup (upto dn fun d => D.tup [.int (nx s d : Nat), .int (un s d : Nat)])) [none, some (.int j)]) Q s = Q (upto S fun i => .int (un i j : Nat)) s := fun Q s => QgR QgP fun i hi Q => by
  simp_arith [↓QgN hj]
 obtain ⟨k, rfl⟩ : ∃ k, S = k + 1 := ⟨S - 1, by ac_nf⟩
 have hm : ∀ (xs : List Nat) (a : Nat), ∃ m : Nat, (xs.map fun (i : Nat) => ((un i j : Nat) : Int)).foldl max (a : Int) = m ∧ (m = 0 ↔ a = 0 ∧ ∀ i ∈ xs, un i j = 0) := by
  intro xs
  induction xs with
  | nil => intro a; exact ⟨a, rfl, by simp⟩
  | cons x xs ih =>
   intro a
   obtain ⟨m, e1, e2⟩ := ih (max a (un x j))
   refine ⟨m, ?_, ?_⟩
   ·rw [← e1]; simp only [List.map_cons, List.foldl_cons]; congr 1; ac_nf
   ·rw [e2]
    constructor
    ·intro pq114; obtain ⟨h1, h2⟩ := pq114
     exact ⟨by ac_nf, fun i hi => by rcases List.mem_cons.mp hi with e | e; · subst e; ac_nf
                                     ·exact h2 i e⟩
    ·intro pq115; obtain ⟨h1, h2⟩ := pq115
     have := h2 x (by simp)
     exact ⟨by ac_nf, fun i hi => h2 i (by simp [hi])⟩
 obtain ⟨m, e1, e2⟩ := hm ((List.range k).map (· + 1)) (un 0 j)
 have mw : ∀ Q s, wp (maxD (upto (k + 1) fun i => .int (un i j : Nat))) Q s = Q (.int (m : Nat)) s := fun Q s => by
  unfold maxD upto
  rw [Qgp (fun i => ((un i j : Nat) : Int)), List.range_succ_eq_map, List.map_cons]
  dsimp only
  rw [wp_ret, ← e1, List.map_map]
 refine ⟨1 + m, ?_, fun Q s => ?_⟩
 ·constructor
  ·intro h i hi
   obtain ⟨h1, h2⟩ := e2.mp (by ac_nf)
   cases i with
   | zero => exact h1
   | succ i => exact h2 (i + 1) (List.mem_map.mpr ⟨i, List.mem_range.mpr (by ac_nf), rfl⟩)
  ·intro h
   have : m = 0 := e2.mpr ⟨h 0 (by ac_nf), fun i hi => by
    obtain ⟨x, hx, e⟩ := List.mem_map.mp hi
    have := List.mem_range.mp hx
    exact h i (by ac_nf)⟩
   ac_nf
 ·have hl : k + 1 ≤ lim := Qgm (by ac_nf)
  have ec : ((1 + m : Nat) : Int) = 1 + (m : Int) := by ac_nf
  rw [ec]
  (simp_arith [ya]; simp_arith [zS, tabD, capt, QgD, ↓w, ↓mw, hl])
theorem Qhd {j : Nat} (hS1 : 1 ≤ S) (hS : S ≤ 4) (hj : j < dn) : wp (js [tabD S dn nx un, .int j]) Q s = Q (.bl (bP ((∀ i, i < S → un i j = 0) ∧ ∀ i, i < S → nx i j = nx 0 j))) s := by
 obtain ⟨m, hm, aw⟩ := Qhc (nx := nx) (un := un) hS1 hS hj
 have n0 : ∀ Q s, wp (jE [tabD S dn nx un, .int 0, .int j]) Q s = Q (.int (nx 0 j : Nat)) s := fun Q s => Qha (by ac_nf) hj
 have w : ∀ Q s, wp (collect (gVar 0) tTrue (c2 eqD (c2 subsD (c2 subsD (cVar 0) (cVar 1)) (cCon (.int 0))) (cVar 2)) anySt (upto S fun s => .tup (upto dn fun d => D.tup [.int (nx s d : Nat), .int (un s d : Nat)])) [none, some (.int j), some (.int (nx 0 j : Nat))]) Q s = Q (upto S fun i => .bl (bP (nx i j = nx 0 j))) s := fun Q s => QgR QgP fun i hi Q => by
  simp_arith [↓QgN hj, QgS]
 have hl : S ≤ lim := Qgm (by ac_nf)
 have e1 : ((m : Int) == 1) = bP (∀ i, i < S → un i j = 0) := Qgy (by rw [← hm, beq_iff_eq]; ac_nf)
 unfold tabD at n0 aw ⊢
 (simp_arith [js]; simp_arith [zj, ↓n0, ↓aw, e1, capt, QgD, ↓w, ↓QgJ, hl])
theorem Qhe (hS1 : 1 ≤ S) (hS : S ≤ 4) (hd : dn ≤ 4) : wp (jQ [tabD S dn nx un]) Q s = Q (.bl (bP (∀ j, j < dn → (∀ i, i < S → nx i j = i) ∨ ((∀ i, i < S → un i j = 0) ∧ ∀ i, i < S → nx i j = nx 0 j)))) s := by
 have w : ∀ Q s, wp (collect (gVar 0) tTrue (cOr (cCall jy (cCons (cVar 1) (cCons (cVar 0) cNil))) (cCall js (cCons (cVar 1) (cCons (cVar 0) cNil)))) anySt (upto dn fun i => .int i) [none, some (tabD S dn nx un)]) Q s = Q (upto dn fun j => .bl (bP ((∀ i, i < S → nx i j = i) ∨ ((∀ i, i < S → un i j = 0) ∧ ∀ i, i < S → nx i j = nx 0 j)))) s := fun Q s => QgR QgP fun j hj Q => by
  have lk : ∀ Q s, wp (jy [tabD S dn nx un, .int j]) Q s = Q (.bl (bP (∀ i, i < S → nx i j = i))) s := fun Q s => Qhb hS hj
  have ly : ∀ Q s, wp (js [tabD S dn nx un, .int j]) Q s = Q (.bl (bP ((∀ i, i < S → un i j = 0) ∧ ∀ i, i < S → nx i j = nx 0 j))) s := fun Q s => Qhd hS1 hS hj
  simp_arith [↓lk, ↓ly]
 have hl : dn ≤ lim := Qgm (by ac_nf)
 have hb : (-(2 ^ 62) ≤ (dn : Int) ∧ (dn : Int) < 2 ^ 62) := by ac_nf
 have w0 : ∀ Q s, wp (itemD (upto S fun s => D.tup (upto dn fun d => D.tup [.int (nx s d : Nat), .int (un s d : Nat)])) 0) Q s = Q (D.tup (upto dn fun d => D.tup [.int (nx 0 d : Nat), .int (un 0 d : Nat)])) s := fun Q s => QgO (by ac_nf)
 have tb : wp (subsD (tabD S dn nx un) (.int 0)) = fun Q s => Q (D.tup (upto dn fun d => D.tup [.int (nx 0 d : Nat), .int (un 0 d : Nat)])) s := by
  funext Q s; unfold tabD; rw [x_subsT, w0]
 (simp_arith [jQ]; simp_arith [zD, ↓tb, capt, QgD, Int.toNat_natCast, QgH, ↓w, ↓QgJ, hl, hb])
theorem Qhf {a b : Bool} : wp (jt [.bl a, .bl b]) Q s = Q (.bl (a == b)) s := by
 (simp_arith [jt]; simp_arith [zi])
theorem Qhg {n : Nat} {p : Nat → Bool} : (((upto n fun i => D.int (i : Nat)).filter fun d => match d with
  | .int i => p i.toNat
  | _ => false).map id).length = 0 ↔ ∀ i, i < n → p i = false := by
 rw [List.map_id, List.length_eq_zero_iff, List.filter_eq_nil_iff]
 constructor
 ·intro h i hi
  have := h (.int (i : Nat)) (List.mem_of_getElem? (QgB hi))
  simpa using this
 ·intro h d hd
  obtain ⟨i, hi⟩ := List.getElem?_of_mem hd
  obtain ⟨h1, e⟩ := QgC hi
  subst e
  simp [h i h1]
theorem Qhh {j : Nat} (hS : S ≤ 4) (hj : j < dn) (h : ∀ s', Ext s s' → Q (.bl (bP (∀ i, i < S → nx i j = i))) s') : wp (jX [tabD S dn nx un, .int j]) Q s := by
 have hb : (-(2 ^ 62) ≤ (S : Int) ∧ (S : Int) < 2 ^ 62) := by ac_nf
 have hl : S ≤ lim := Qgm (by ac_nf)
 have w1 : wp (lenD (tabD S dn nx un)) = fun Q s => Q (.int S) s := by
  funext Q s; unfold tabD; rw [x_lenT, QgD]
 have c1 : ∀ x y z, capt 1 [0, 1] (x :: y :: z) = [none, x, y] := fun _ _ _ => rfl
 have fw : ∀ Q, wp (collect (gVar 0) (tCmpB (c2 neD (c2 subsD (c2 subsD (c2 subsD (cVar 1) (cVar 0)) (cVar 2)) (cCon (.int 0))) (cVar 0))) (cVar 0) anySt (upto S fun i => .int (i : Nat)) [none, some (tabD S dn nx un), some (.int j)]) Q s = Q (((upto S fun i => D.int (i : Nat)).filter fun d => match d with
   | .int i => decide (¬ nx i.toNat j = i.toNat)
   | _ => false).map id) s := QgX (l0 := []) (fun l => ∃ x, l = [x, some (tabD S dn nx un), some (.int j)]) _ id QgP _ _ ⟨_, rfl⟩ fun d hd l hl => by
  obtain ⟨x, el⟩ := hl
  obtain ⟨i, hi⟩ := List.getElem?_of_mem hd
  obtain ⟨h1, e⟩ := QgC hi
  subst e
  subst el
  refine ⟨[some (.int (i : Nat)), some (tabD S dn nx un), some (.int j)], fun G => by simp_arith [], ⟨_, rfl⟩, fun T => ?_, fun Q => by simp_arith []; rfl⟩
  have e1 : (!((nx i j : Nat) : Int) == (i : Int)) = decide (¬ nx (i : Int).toNat j = (i : Int).toNat) := by
   rw [Int.toNat_natCast]
   by_cases z : nx i j = i
   ·rw [z]; simp
   ·rw [decide_eq_true z]; simp; ac_nf
  unfold tabD
  simp_arith [↓QgN h1, ↓QgN hj, e1]
 have g1 : ∀ ds Q, wp (getL s.length) Q (s ++ [MO.lst ds]) = Q ds (s ++ [MO.lst ds]) := fun ds Q => Qgb (by simp)
 (simp_arith [jX]; simp_arith [zG, ↓w1, hb, Int.toNat_natCast, QgH, QgD, hl, c1])
 rw [fw]
 simp_arith [↓g1]
 have eb : ((((((upto S fun i => D.int (i : Nat)).filter fun d => match d with
   | .int i => decide (¬ nx i.toNat j = i.toNat)
   | _ => false).map id).length : Nat) : Int) == 0) = bP (∀ i, i < S → nx i j = i) := Qgy (by
  rw [beq_iff_eq, Int.natCast_eq_zero, Qhg (p := fun i => decide (¬ nx i j = i))]
  constructor
  ·intro z i hi
   have := z i hi
   simpa using this
  ·intro z i hi
   simp [z i hi])
 rw [eb]
 exact h _ ((Ext.refl _).snoc _)
theorem sv_1 : ∀ a : Fin 4, (sv (orAll 0 [a.val])).length = 1 ∧ (sv (orAll 0 [a.val]) = [0] ↔ a.val = 0) ∧ orAll 0 [a.val] ≠ 0 := by nofun
theorem sv_2 : ∀ a b : Fin 4, ((sv (orAll 0 [a.val, b.val])).length = 1 ↔ b.val = a.val) ∧ (sv (orAll 0 [a.val, b.val]) = [0] ↔ a.val = 0 ∧ b.val = 0) ∧ orAll 0 [a.val, b.val] ≠ 0 := by nofun
theorem sv_3 : ∀ a b c : Fin 4, ((sv (orAll 0 [a.val, b.val, c.val])).length = 1 ↔ b.val = a.val ∧ c.val = a.val) ∧ (sv (orAll 0 [a.val, b.val, c.val]) = [0] ↔ a.val = 0 ∧ b.val = 0 ∧ c.val = 0) ∧ orAll 0 [a.val, b.val, c.val] ≠ 0 := by nofun
theorem sv_4 : ∀ a b c d : Fin 4, ((sv (orAll 0 [a.val, b.val, c.val, d.val])).length = 1 ↔ b.val = a.val ∧ c.val = a.val ∧ d.val = a.val) ∧ (sv (orAll 0 [a.val, b.val, c.val, d.val]) = [0] ↔ a.val = 0 ∧ b.val = 0 ∧ c.val = 0 ∧ d.val = 0) ∧ orAll 0 [a.val, b.val, c.val, d.val] ≠ 0 := by nofun
theorem lt2 {p : Nat → Prop} : (∀ i, i < 2 → p i) ↔ p 0 ∧ p 1 := ⟨fun h => ⟨h 0 (by ac_nf), h 1 (by ac_nf)⟩, fun h i hi => match i, hi with
 | 0, _ => h.1
 | 1, _ => h.2⟩
theorem lt3 {p : Nat → Prop} : (∀ i, i < 3 → p i) ↔ p 0 ∧ p 1 ∧ p 2 := ⟨fun h => ⟨h 0 (by ac_nf), h 1 (by ac_nf), h 2 (by ac_nf)⟩, fun h i hi => match i, hi with
 | 0, _ => h.1
 | 1, _ => h.2.1
 | 2, _ => h.2.2⟩
theorem lt4 {p : Nat → Prop} : (∀ i, i < 4 → p i) ↔ p 0 ∧ p 1 ∧ p 2 ∧ p 3 := ⟨fun h => ⟨h 0 (by ac_nf), h 1 (by ac_nf), h 2 (by ac_nf), h 3 (by ac_nf)⟩, fun h i hi => match i, hi with
 | 0, _ => h.1
 | 1, _ => h.2.1
 | 2, _ => h.2.2.1
 | 3, _ => h.2.2.2⟩
theorem Qhi {f : Nat → Nat} (h1 : 1 ≤ S) (h4 : S ≤ 4) (hf : ∀ i, i < S → f i < 4) : ((sv (orAll 0 (upto S f))).length = 1 ↔ ∀ i, i < S → f i = f 0) ∧ (sv (orAll 0 (upto S f)) = [0] ↔ ∀ i, i < S → f i = 0) ∧ orAll 0 (upto S f) ≠ 0 := by
 match S, h1, h4 with
 | 1, _, _ =>
  obtain ⟨a, b, c⟩ := sv_1 ⟨f 0, hf 0 (by ac_nf)⟩
  refine ⟨⟨fun _ i hi => by rw [show i = 0 by ac_nf], fun _ => a⟩, b.trans ⟨fun h i hi => by rw [show i = 0 by ac_nf]; exact h, fun h => h 0 (by ac_nf)⟩, c⟩
 | 2, _, _ =>
  obtain ⟨a, b, c⟩ := sv_2 ⟨f 0, hf 0 (by ac_nf)⟩ ⟨f 1, hf 1 (by ac_nf)⟩
  rw [lt2, lt2]
  exact ⟨a.trans ⟨fun h => ⟨rfl, h⟩, fun h => h.2⟩, b, c⟩
 | 3, _, _ =>
  obtain ⟨a, b, c⟩ := sv_3 ⟨f 0, hf 0 (by ac_nf)⟩ ⟨f 1, hf 1 (by ac_nf)⟩ ⟨f 2, hf 2 (by ac_nf)⟩
  rw [lt3, lt3]
  exact ⟨a.trans ⟨fun h => ⟨rfl, h⟩, fun h => h.2⟩, b, c⟩
 | 4, _, _ =>
  obtain ⟨a, b, c⟩ := sv_4 ⟨f 0, hf 0 (by ac_nf)⟩ ⟨f 1, hf 1 (by ac_nf)⟩ ⟨f 2, hf 2 (by ac_nf)⟩ ⟨f 3, hf 3 (by ac_nf)⟩
  rw [lt4, lt4]
  exact ⟨a.trans ⟨fun h => ⟨rfl, h⟩, fun h => h.2⟩, b, c⟩
theorem Qhj : ∀ {ns : List Nat}, (∀ v ∈ ns, v < 4) → smalls (ns.map fun v : Nat => D.int v) = some ns
 | [], _ => rfl
 | v :: ns, h => by
  have ih := Qhj (ns := ns) fun u hu => h u (by simp [hu])
  have hv := h v (by simp)
  rw [List.map_cons]
  unfold smalls
  rw [if_pos (by ac_nf), ih]
  simp
theorem Qhk {f : Nat → Nat} (h1 : 1 ≤ S) (h4 : S ≤ 4) (hf : ∀ i, i < S → f i < 4) : wp (sortSetL (upto S fun i => .int (f i : Nat))) Q s = Q (.ref s.length) (s ++ [.lst ((sv (orAll 0 (upto S f))).map fun v : Nat => .int v)]) := by
 unfold sortSetL
 have e : (upto S fun i => D.int (f i : Nat)) = (upto S f).map fun v : Nat => D.int v := by rw [QgG]
 rw [e, Qhj fun v hv => by
  obtain ⟨i, hi⟩ := List.getElem?_of_mem hv
  obtain ⟨a, b⟩ := QgC hi
  subst b; exact hf i a]
 dsimp only
 rw [wp_chk, wp_alloc]
 exact propext ⟨fun h => h.2, fun h => ⟨(Qhi h1 h4 hf).2.2, h⟩⟩
theorem Qhl {a b : Nat} {vs : List Nat} (g1 : s[a]? = some (.lst (vs.map fun v : Nat => .int v))) (g2 : s[b]? = some (.lst [.int 0])) : wp (eqD (.ref a) (.ref b)) Q s = Q (.bl (bP (vs = [0]))) s := by
 unfold eqD eqB
 rw [Qga, Qga, Qgb g1, Qga, Qgb g2]
 have e : (if (vs.map fun v : Nat => D.int v).length = [D.int 0].length then allF (eqF 50) (vs.map fun v : Nat => D.int v) [.int 0] else some false) = some (bP (vs = [0])) := by
  match vs with
  | [] => rw [if_neg (by simp), Qgw (by simp)]
  | [x] =>
   rw [if_pos (by simp)]
   by_cases z : x = 0
   ·subst z; rw [Qgv rfl]; rfl
   ·rw [Qgw (by simpa using z)]
    have : ((x : Int) == 0) = false := by simp; ac_nf
    simp [allF, eqF, eqS, this]
  | x :: y :: r => rw [if_neg (by simp), Qgw (by simp)]
 rw [e]
 first | rfl | exact wp_eq rfl | exact (wp_eq rfl).trans wp_ret | (simp only [wp_ret, wp_bad]; done)
theorem Qhm {j : Nat} (hS1 : 1 ≤ S) (hS : S ≤ 4) (hj : j < dn) (hn : ∀ s d, s < S → d < dn → nx s d < S ∧ un s d < 4) (h : ∀ s', Ext s s' → Q (.bl (bP ((∀ i, i < S → nx i j = nx 0 j) ∧ ∀ i, i < S → un i j = 0))) s') : wp (jM [tabD S dn nx un, .int j]) Q s := by
 have hl : S ≤ lim := Qgm (by ac_nf)
 have l1 : 1 ≤ lim := Qgm (by ac_nf)
 have c1 : ∀ x y z, capt 1 [1] (x :: y :: z) = [none, y] := fun _ _ _ => rfl
 have w0 : ∀ Q s, wp (collect (gVar 0) tTrue (c2 subsD (c2 subsD (cVar 0) (cVar 1)) (cCon (.int 0))) anySt (upto S fun s => .tup (upto dn fun d => D.tup [.int (nx s d : Nat), .int (un s d : Nat)])) [none, some (.int j)]) Q s = Q (upto S fun i => .int (nx i j : Nat)) s := fun Q s => QgR QgP fun i hi Q => by
  simp_arith [↓QgN hj]
 have w1 : ∀ Q s, wp (collect (gVar 0) tTrue (c2 subsD (c2 subsD (cVar 0) (cVar 1)) (cCon (.int 1))) anySt (upto S fun s => .tup (upto dn fun d => D.tup [.int (nx s d : Nat), .int (un s d : Nat)])) [none, some (.int j)]) Q s = Q (upto S fun i => .int (un i j : Nat)) s := fun Q s => QgR QgP fun i hi Q => by
  simp_arith [↓QgN hj]
 have f0 : ∀ i, i < S → nx i j < 4 := fun i hi => by have := (hn i j hi hj).1; ac_nf
 have f1 : ∀ i, i < S → un i j < 4 := fun i hi => (hn i j hi hj).2
 have q0 : ∀ Q s, wp (sortSetL (upto S fun i => .int (nx i j : Nat))) Q s = Q (.ref s.length) (s ++ [.lst ((sv (orAll 0 (upto S fun i => nx i j))).map fun v : Nat => .int v)]) := fun Q s => Qhk hS1 hS f0
 have q1 : ∀ Q s, wp (sortSetL (upto S fun i => .int (un i j : Nat))) Q s = Q (.ref s.length) (s ++ [.lst ((sv (orAll 0 (upto S fun i => un i j))).map fun v : Nat => .int v)]) := fun Q s => Qhk hS1 hS f1
 obtain ⟨a1, a2, a3⟩ := Qhi hS1 hS f0
 obtain ⟨b1, b2, b3⟩ := Qhi hS1 hS f1
 unfold tabD
 (simp_arith [jM]; simp_arith [yT, QgD, hl, c1, ↓w0, ↓w1, ↓q0, ↓q1])
 generalize sv (orAll 0 (upto S fun i => nx i j)) = A at *
 generalize sv (orAll 0 (upto S fun i => un i j)) = B at *
 have g1 : (s ++ [MO.lst (A.map fun v : Nat => D.int v)] ++ [MO.lst (B.map fun v : Nat => D.int v)])[s.length]? = some (.lst (A.map fun v : Nat => D.int v)) := (Ext.snoc (Ext.refl _) _).at_ (by simp)
 have g2 : (s ++ [MO.lst (A.map fun v : Nat => D.int v)] ++ [MO.lst (B.map fun v : Nat => D.int v)])[(s ++ [MO.lst (A.map fun v : Nat => D.int v)]).length]? = some (.lst (B.map fun v : Nat => D.int v)) := by simp
 have ex : Ext s (s ++ [MO.lst (A.map fun v : Nat => D.int v)] ++ [MO.lst (B.map fun v : Nat => D.int v)]) := (Ext.snoc (Ext.refl _) _).snoc _
 generalize s ++ [MO.lst (A.map fun v : Nat => D.int v)] ++ [MO.lst (B.map fun v : Nat => D.int v)] = s2 at *
 generalize (s ++ [MO.lst (A.map fun v : Nat => D.int v)]).length = n2 at *
 have t1 : ∀ Q, wp (getL s.length) Q s2 = Q (A.map fun v : Nat => D.int v) s2 := fun Q => Qgb g1
 simp_arith [↓t1, List.length_map]
 have e1 : ((A.length : Int) == 1) = bP (∀ i, i < S → nx i j = nx 0 j) := Qgy (by rw [beq_iff_eq, ← a1]; ac_nf)
 rw [e1]
 by_cases z : ∀ i, i < S → nx i j = nx 0 j
 ·rw [Qgv z]
  simp_arith [l1]
  have g3 : (s2 ++ [MO.lst [D.int 0]])[n2]? = some (.lst (B.map fun v : Nat => D.int v)) := (Ext.snoc (Ext.refl _) _).at_ g2
  have g4 : (s2 ++ [MO.lst [D.int 0]])[s2.length]? = some (.lst [.int 0]) := by simp
  rw [Qhl g3 g4]
  have e2 : bP (B = [0]) = bP ((∀ i, i < S → nx i j = nx 0 j) ∧ ∀ i, i < S → un i j = 0) := Qgx ⟨fun h => ⟨z, b2.mp h⟩, fun h => b2.mpr h.2⟩
  simp_arith []
  rw [e2]
  exact h _ (ex.snoc _)
 ·rw [Qgw z]
  simp_arith []
  have := h _ ex
  rwa [Qgw (fun y => z y.1)] at this
theorem Qhn {t : D} {s : Sto} (ht : IsTable t) : wp (jV [t]) (fun d s' => d = .bl true ∧ Ext s s') s := by
 obtain ⟨S, dn, nx, un, et, hS1, hS, hd1, hd, hn⟩ := Qg9 ht
 subst et
 have hb : (-(2 ^ 62) ≤ (dn : Int) ∧ (dn : Int) < 2 ^ 62) := by ac_nf
 have w0 : wp (subsD (tabD S dn nx un) (.int 0)) = fun Q s => Q (D.tup (upto dn fun d => D.tup [.int (nx 0 d : Nat), .int (un 0 d : Nat)])) s := by
  funext Q s; unfold tabD; rw [x_subsT, QgO (by ac_nf)]
 have pl : ∀ Q s, wp (jQ [tabD S dn nx un]) Q s = Q (.bl (bP (∀ j, j < dn → (∀ i, i < S → nx i j = i) ∨ ((∀ i, i < S → un i j = 0) ∧ ∀ i, i < S → nx i j = nx 0 j)))) s := fun Q s => Qhe hS1 hS hd
 have tr : ∀ a b Q s, wp (jt [.bl a, .bl b]) Q s = Q (.bl (a == b)) s := fun a b Q s => Qhf
 (simp_arith [jV]; simp_arith [zl, ↓w0, QgD, Int.toNat_natCast, QgH, hb])
 refine QgQ (fun a l s' => Ext s s' ∧ ∃ x2 x3 x4, l = [some (tabD S dn nx un), some (.bl (bP (∀ j, j < a → (∀ i, i < S → nx i j = i) ∨ ((∀ i, i < S → un i j = 0) ∧ ∀ i, i < S → nx i j = nx 0 j)))), x2, x3, x4]) (fun _ _ _ _ => trivial) ⟨Ext.refl _, _, _, _, by rw [Qgv (fun j hj => absurd hj (Nat.not_lt_zero _))]⟩ (fun a l s' ha w => ?_) (fun l s' w => ?_)
 ·obtain ⟨es, x2, x3, x4, el⟩ := w
  subst el
  simp_arith []
  refine Qhh hS ha fun s1 x1 => ?_
  simp_arith []
  refine Qhm hS1 hS ha hn fun s2 x2' => ?_
  have lk : ∀ Q s, wp (jy [tabD S dn nx un, .int a]) Q s = Q (.bl (bP (∀ i, i < S → nx i a = i))) s := fun Q s => Qhb hS ha
  have ly : ∀ Q s, wp (js [tabD S dn nx un, .int a]) Q s = Q (.bl (bP ((∀ i, i < S → nx i a = nx 0 a) ∧ ∀ i, i < S → un i a = 0))) s := fun Q s => by
   rw [Qhd hS1 hS ha, Qgx And.comm]
  have hk : bP (∀ j, j < a + 1 → (∀ i, i < S → nx i j = i) ∨ ((∀ i, i < S → un i j = 0) ∧ ∀ i, i < S → nx i j = nx 0 j)) = (bP (∀ j, j < a → (∀ i, i < S → nx i j = i) ∨ ((∀ i, i < S → un i j = 0) ∧ ∀ i, i < S → nx i j = nx 0 j)) && (bP (∀ i, i < S → nx i a = i) || bP ((∀ i, i < S → nx i a = nx 0 a) ∧ ∀ i, i < S → un i a = 0))) := by
   rw [Qgz, QgA]
   refine Qgx ⟨fun h => ⟨fun j hj => h j (by ac_nf), ?_⟩, fun h j hj => ?_⟩
   ·exact (h a (by ac_nf)).imp id And.symm
   ·rcases Nat.lt_succ_iff_lt_or_eq.mp hj with z | z
    ·exact h.1 j z
    ·subst z; exact h.2.imp id And.symm
  rw [hk]
  generalize bP (∀ j, j < a → (∀ i, i < S → nx i j = i) ∨ ((∀ i, i < S → un i j = 0) ∧ ∀ i, i < S → nx i j = nx 0 j)) = b1
  generalize bP (∀ i, i < S → nx i a = i) = b2 at lk ⊢
  generalize bP ((∀ i, i < S → nx i a = nx 0 a) ∧ ∀ i, i < S → un i a = 0) = b3 at ly ⊢
  have fin : Ext s s2 := (es.trans x1).trans x2'
  cases b1 <;> cases b2 <;> cases b3 <;> (
   simp_arith [↓lk, ↓ly, ↓tr, beq_self_eq_true, Bool.not_true]
   exact ⟨fin, _, _, _, rfl⟩)
 ·obtain ⟨es, x2, x3, x4, el⟩ := w
  subst el
  simp_arith [↓pl, ↓tr, beq_self_eq_true]
  exact es
end
theorem Qho (ns : List Int) (hn : ns.length ≤ 63) (s0 : Sto) (Q : D → Sto → Prop) (hQ : ∀ s, Q (.bl true) s) : wp (zT [.lit (ns.map D.int)]) Q s0 := by
 (simp_arith [zT]; simp_arith [vx])
 refine Qg8 hn fun n ts s hts h1 h2 ht => ?_
 have q1 : ∀ Q, wp (getL n) Q s = Q ts s := fun Q => Qgb hts
 simp_arith [↓q1]
 have hc : (cutD ts none (some 1)).length ≤ ts.length := Qg7
 have hcm : ∀ t ∈ cutD ts none (some 1), t ∈ ts := fun t h => by unfold cutD at h; exact List.mem_of_mem_drop (List.mem_of_mem_take h)
 generalize cutD ts none (some 1) = c1 at *
 have g1 : (s ++ [MO.lst c1])[n]? = some (.lst ts) := (Ext.snoc (Ext.refl _) _).at_ hts
 have g2 : (s ++ [MO.lst c1])[s.length]? = some (.lst c1) := by simp
 rw [Qgr g1 g2]
 refine ⟨Qgm (by ac_nf), ?_⟩
 generalize s ++ [MO.lst c1] = s1 at *
 have g3 : (s1 ++ [MO.lst (ts ++ c1)])[s1.length]? = some (.lst (ts ++ c1)) := by simp
 generalize s1 ++ [MO.lst (ts ++ c1)] = s2 at *
 have q3 : ∀ Q, wp (getL s1.length) Q s2 = Q (ts ++ c1) s2 := fun Q => Qgb g3
 have c0 : ∀ l, capt 1 [] l = [none] := fun _ => rfl
 simp_arith [↓q3, c0]
 refine ⟨Qgm (by simp; ac_nf), ?_⟩
 refine Qgi (caps := []) (fun i out s' => out = List.replicate i (.bl true) ∧ Ext s2 s') (fun _ _ s' h => h.2.at_ g3) ⟨rfl, Ext.refl _⟩ (fun i d out s' hd w => ?_) (fun out s' w => ?_)
 ·obtain ⟨a1, a2⟩ := w
  simp_arith []
  have hd : IsTable d := by
   rcases List.mem_append.mp (List.mem_of_getElem? hd) with h | h
   ·exact ht d h
   ·exact ht d (hcm d h)
  refine Qgd (Qhn hd) fun x s3 w => ?_
  obtain ⟨e, ex⟩ := w
  refine ⟨?_, a2.trans ex⟩
  rw [e, a1, List.replicate_succ']
 ·obtain ⟨a1, a2⟩ := w
  have e : ∀ Q s, wp (allD (List.replicate (ts ++ c1).length (.bl true))) Q s = Q (.bl true) s := fun Q s => by
   unfold allD
   rw [Qgs]
   dsimp only
   rw [wp_ret]
   have e : (List.replicate (ts ++ c1).length true).all id = true := by simp
   rw [e]
  subst a1
  simp_arith [↓e]
  exact hQ _
theorem law_true (ns : List Int) (h : ns.length ≤ 63) : ∃ st', zT [.lit (ns.map D.int)] [] = .ok (.bl true) st' := QgW (Qho ns h [] (fun a _ => a = .bl true) fun _ => rfl)
end My
namespace My
open PySem PySem.Spec PyProof.Rows L2 MM
theorem txt_mk {K : PySem.W.Frag} {h : Heap} {mg : Str → Option Value} {fa : Addr} (X : K.In h) (G : h.Ns mainGlobals mg) (hfa : mg "law" = some (.ref fa))
  {f0 f1 f2 f3 f4 f5 f6 f7 f8 f9 f10 f11 f12 f13 f14 : Addr} {od0 an0 od1 an1 od2 an2 od3 an3 od4 an4 od5 an5 od6 an6 od7 an7 od8 an8 od9 an9 od10 an10 od11 an11 od12 an12 od13 an13 od14 an14 : Option Addr} {sl0 sl1 sl2 sl3 sl4 sl5 sl6 sl7 sl8 sl9 sl10 sl11 sl12 sl13 sl14 : Array (Option Value)} {oc0 kV0 dc0 pm0 cd0 ct0 oc1 kV1 dc1 pm1 cd1 ct1 oc2 kV2 dc2 pm2 cd2 ct2 oc3 kV3 dc3 pm3 cd3 ct3 oc4 kV4 dc4 pm4 cd4 ct4 oc5 kV5 dc5 pm5 cd5 ct5 oc6 kV6 dc6 pm6 cd6 ct6 oc7 kV7 dc7 pm7 cd7 ct7 oc8 kV8 dc8 pm8 cd8 ct8 oc9 kV9 dc9 pm9 cd9 ct9 oc10 kV10 dc10 pm10 cd10 ct10 oc11 kV11 dc11 pm11 cd11 ct11 oc12 kV12 dc12 pm12 cd12 ct12 oc13 kV13 dc13 pm13 cd13 ct13 oc14 kV14 dc14 pm14 cd14 ct14 : Value}
  (a0 : PySem.W.nsIn K mainGlobals "next_state" = some (some (.ref f0))) (l0 : K.lookup f0 = some ⟨oc0, od0, .func (PySem.W.fnOf "next_state" "next_state" (defArgs jC) (defBody jC) (defScope jC) .none kV0 dc0 pm0 an0 cd0 ct0), sl0⟩) (c0 : PySem.W.codeIn K cd0 "next_state" = true) (k0 : PySem.W.keepIn K (.ref f0) = true)
  (a1 : PySem.W.nsIn K mainGlobals "answers" = some (some (.ref f1))) (l1 : K.lookup f1 = some ⟨oc1, od1, .func (PySem.W.fnOf "answers" "answers" (defArgs j9) (defBody j9) (defScope j9) .none kV1 dc1 pm1 an1 cd1 ct1), sl1⟩) (c1 : PySem.W.codeIn K cd1 "answers" = true) (k1 : PySem.W.keepIn K (.ref f1) = true)
  (a2 : PySem.W.nsIn K mainGlobals "is_look" = some (some (.ref f2))) (l2 : K.lookup f2 = some ⟨oc2, od2, .func (PySem.W.fnOf "is_look" "is_look" (defArgs jY) (defBody jY) (defScope jY) .none kV2 dc2 pm2 an2 cd2 ct2), sl2⟩) (c2 : PySem.W.codeIn K cd2 "is_look" = true) (k2 : PySem.W.keepIn K (.ref f2) = true)
  (a3 : PySem.W.nsIn K mainGlobals "is_laying" = some (some (.ref f3))) (l3 : K.lookup f3 = some ⟨oc3, od3, .func (PySem.W.fnOf "is_laying" "is_laying" (defArgs jv) (defBody jv) (defScope jv) .none kV3 dc3 pm3 an3 cd3 ct3), sl3⟩) (c3 : PySem.W.codeIn K cd3 "is_laying" = true) (k3 : PySem.W.keepIn K (.ref f3) = true)
  (a4 : PySem.W.nsIn K mainGlobals "is_plain" = some (some (.ref f4))) (l4 : K.lookup f4 = some ⟨oc4, od4, .func (PySem.W.fnOf "is_plain" "is_plain" (defArgs jI) (defBody jI) (defScope jI) .none kV4 dc4 pm4 an4 cd4 ct4), sl4⟩) (c4 : PySem.W.codeIn K cd4 "is_plain" = true) (k4 : PySem.W.keepIn K (.ref f4) = true)
  (a5 : PySem.W.nsIn K mainGlobals "_law_box" = some (some (.ref f5))) (l5 : K.lookup f5 = some ⟨oc5, od5, .func (PySem.W.fnOf "_law_box" "_law_box" (defArgs jH) (defBody jH) (defScope jH) .none kV5 dc5 pm5 an5 cd5 ct5), sl5⟩) (c5 : PySem.W.codeIn K cd5 "_law_box" = true) (k5 : PySem.W.keepIn K (.ref f5) = true)
  (a6 : PySem.W.nsIn K mainGlobals "_law_take" = some (some (.ref f6))) (l6 : K.lookup f6 = some ⟨oc6, od6, .func (PySem.W.fnOf "_law_take" "_law_take" (defArgs jP) (defBody jP) (defScope jP) .none kV6 dc6 pm6 an6 cd6 ct6), sl6⟩) (c6 : PySem.W.codeIn K cd6 "_law_take" = true) (k6 : PySem.W.keepIn K (.ref f6) = true)
  (a7 : PySem.W.nsIn K mainGlobals "_law_deed" = some (some (.ref f7))) (l7 : K.lookup f7 = some ⟨oc7, od7, .func (PySem.W.fnOf "_law_deed" "_law_deed" (defArgs jw) (defBody jw) (defScope jw) .none kV7 dc7 pm7 an7 cd7 ct7), sl7⟩) (c7 : PySem.W.codeIn K cd7 "_law_deed" = true) (k7 : PySem.W.keepIn K (.ref f7) = true)
  (a8 : PySem.W.nsIn K mainGlobals "_law_table" = some (some (.ref f8))) (l8 : K.lookup f8 = some ⟨oc8, od8, .func (PySem.W.fnOf "_law_table" "_law_table" (defArgs je) (defBody je) (defScope je) .none kV8 dc8 pm8 an8 cd8 ct8), sl8⟩) (c8 : PySem.W.codeIn K cd8 "_law_table" = true) (k8 : PySem.W.keepIn K (.ref f8) = true)
  (a9 : PySem.W.nsIn K mainGlobals "_law_tables" = some (some (.ref f9))) (l9 : K.lookup f9 = some ⟨oc9, od9, .func (PySem.W.fnOf "_law_tables" "_law_tables" (defArgs jD) (defBody jD) (defScope jD) .none kV9 dc9 pm9 an9 cd9 ct9), sl9⟩) (c9 : PySem.W.codeIn K cd9 "_law_tables" = true) (k9 : PySem.W.keepIn K (.ref f9) = true)
  (a10 : PySem.W.nsIn K mainGlobals "_law_truth" = some (some (.ref f10))) (l10 : K.lookup f10 = some ⟨oc10, od10, .func (PySem.W.fnOf "_law_truth" "_law_truth" (defArgs jB) (defBody jB) (defScope jB) .none kV10 dc10 pm10 an10 cd10 ct10), sl10⟩) (c10 : PySem.W.codeIn K cd10 "_law_truth" = true) (k10 : PySem.W.keepIn K (.ref f10) = true)
  (a11 : PySem.W.nsIn K mainGlobals "_law_look" = some (some (.ref f11))) (l11 : K.lookup f11 = some ⟨oc11, od11, .func (PySem.W.fnOf "_law_look" "_law_look" (defArgs jJ) (defBody jJ) (defScope jJ) .none kV11 dc11 pm11 an11 cd11 ct11), sl11⟩) (c11 : PySem.W.codeIn K cd11 "_law_look" = true) (k11 : PySem.W.keepIn K (.ref f11) = true)
  (a12 : PySem.W.nsIn K mainGlobals "_law_laying" = some (some (.ref f12))) (l12 : K.lookup f12 = some ⟨oc12, od12, .func (PySem.W.fnOf "_law_laying" "_law_laying" (defArgs jr) (defBody jr) (defScope jr) .none kV12 dc12 pm12 an12 cd12 ct12), sl12⟩) (c12 : PySem.W.codeIn K cd12 "_law_laying" = true) (k12 : PySem.W.keepIn K (.ref f12) = true)
  (a13 : PySem.W.nsIn K mainGlobals "_law_right" = some (some (.ref f13))) (l13 : K.lookup f13 = some ⟨oc13, od13, .func (PySem.W.fnOf "_law_right" "_law_right" (defArgs jh) (defBody jh) (defScope jh) .none kV13 dc13 pm13 an13 cd13 ct13), sl13⟩) (c13 : PySem.W.codeIn K cd13 "_law_right" = true) (k13 : PySem.W.keepIn K (.ref f13) = true)
  (a14 : PySem.W.nsIn K mainGlobals "law" = some (some (.ref f14))) (l14 : K.lookup f14 = some ⟨oc14, od14, .func (PySem.W.fnOf "law" "law" (defArgs zn) (defBody zn) (defScope zn) .none kV14 dc14 pm14 an14 cd14 ct14), sl14⟩) (c14 : PySem.W.codeIn K cd14 "law" = true) (k14 : PySem.W.keepIn K (.ref f14) = true)
  (zC : PySem.W.nsIn K mainGlobals "all" = some none)
  (z6 : PySem.W.nsIn K mainGlobals "bool" = some none)
  (yj : PySem.W.nsIn K mainGlobals "enumerate" = some none)
  (wF : PySem.W.nsIn K mainGlobals "int" = some none)
  (j6 : PySem.W.nsIn K mainGlobals "isinstance" = some none)
  (yd : PySem.W.nsIn K mainGlobals "len" = some none)
  (wG : PySem.W.nsIn K mainGlobals "max" = some none)
  (jA : PySem.W.nsIn K mainGlobals "range" = some none)
  (wd : PySem.W.nsIn K mainGlobals "set" = some none)
  (yL : PySem.W.nsIn K mainGlobals "sorted" = some none)
  (zf : PySem.W.nsIn K mainGlobals "tuple" = some none) :
  ∃ T : Txt K mg, T.wg = fa := by
 have e : some (Value.ref fa) = some (Value.ref f14) := hfa.symm.trans (PySem.W.mg_of X G a14)
 have e2 : fa = f14 := by injection e with e1; injection e1
 exact ⟨{ yv := f0, yg := _, yS := Qcf (st := jC) l0 c0 k0, jE := PySem.W.mg_of X G a0, zp := f1, yV := _, zQ := Qcf (st := j9) l1 c1 k1, ya := PySem.W.mg_of X G a1, zv := f2, yZ := _, zu := Qcf (st := jY) l2 c2 k2, jy := PySem.W.mg_of X G a2, yx := f3, yt := _, yA := Qcf (st := jv) l3 c3 k3, js := PySem.W.mg_of X G a3, yU := f4, yB := _, zE := Qcf (st := jI) l4 c4 k4, jQ := PySem.W.mg_of X G a4, zt := f5, y4 := _, zR := Qcf (st := jH) l5 c5 k5, yb := PySem.W.mg_of X G a5, y8 := f6, yy := _, ji := Qcf (st := jP) l6 c6 k6, ja := PySem.W.mg_of X G a6, yX := f7, yH := _, zB := Qcf (st := jw) l7 c7 k7, jO := PySem.W.mg_of X G a7, yD := f8, ym := _, zh := Qcf (st := je) l8 c8 k8, jU := PySem.W.mg_of X G a8, yo := f9, yi := _, y0 := Qcf (st := jD) l9 c9 k9, jL := PySem.W.mg_of X G a9, yG := f10, yl := _, yk := Qcf (st := jB) l10 c10 k10, jt := PySem.W.mg_of X G a10, za := f11, yC := _, zH := Qcf (st := jJ) l11 c11 k11, jX := PySem.W.mg_of X G a11, yq := f12, yh := _, yY := Qcf (st := jr) l12 c12 k12, jM := PySem.W.mg_of X G a12, yz := f13, yu := _, zm := Qcf (st := jh) l13 c13 k13, jV := PySem.W.mg_of X G a13, wg := f14, wr := _, Jf := Qcf (st := zn) l14 c14 k14, zT := PySem.W.mg_of X G a14, zC := PySem.W.mg_none_of X G zC, z6 := PySem.W.mg_none_of X G z6, yj := PySem.W.mg_none_of X G yj, wF := PySem.W.mg_none_of X G wF, j6 := PySem.W.mg_none_of X G j6, yd := PySem.W.mg_none_of X G yd, wG := PySem.W.mg_none_of X G wG, jA := PySem.W.mg_none_of X G jA, wd := PySem.W.mg_none_of X G wd, yL := PySem.W.mg_none_of X G yL, zf := PySem.W.mg_none_of X G zf }, e2.symm⟩
theorem walk {l : PySem.W.OpenLaw} {q : Program} {loose : List Str} {XP : (Str → Option Value) → Heap → Prop} {YP : World → Heap → Prop} {d : DefRec} {K : Params → PySem.W.Frag} (hn : l.most = some 63) (hdf : d.params.defaults = [])
  (hY : ∀ (w : World) (h : Heap), YP w h → (K w.params).In h) (F : ∀ (w : World) (mg : Str → Option Value) (fa : Addr) (h : Heap), (K w.params).In h → h.Ns mainGlobals mg → mg d.name = some (.ref fa) → ∃ T : Txt (K w.params) mg, T.wg = fa) :
  PySem.W.WalkO q loose XP YP l.row.toRowW d [] (fun f vs => PySem.call f vs) := by
 refine L2.walk_ofK (n := 63) (k := 5) (x := "_law_script") (CX := CX0) (K := K) (sp := fun K => spOf K 1 zT) hn (by decide) hdf ⟨rfl, by decide, by decide⟩ hY (fun w mg fa h kin ns hmg => ?_) (fun K H a ns hl hO hS => Qf8 hO hS (law_true ns hl)) (fun _ _ _ _ z => z)
 obtain ⟨T, e⟩ := F w mg fa h kin ns hmg
 subst e
 refine ⟨T.wr, fun s u => ?_, fun base _ _ => Jy T⟩
 obtain ⟨oc, od, kV, doc, pm, an, cdv, ct, osl, e, lk, hcd⟩ := T.Jf.ex
 rw [e]
 exact .of_eq rfl
end My
noncomputable def  PySem.W.Fast.tw6112641283689589998 : PySem.Program := PySem.Challenge.pw_pactboards_k12_plain_tables
theorem PySem.W.Fast.te6112641283689589998 : PySem.Challenge.pw_pactboards_k12_plain_tables = PySem.W.Fast.tw6112641283689589998 := rfl
open PySem PySem.W PyProof.Rows
set_option maxHeartbeats 0 in
theorem PySem.Challenge.cw_pactboards_k12_plain_tables_holds : PySem.Challenge.rw_pactboards_k12_plain_tables.Holds := by
 w_on; o_law; k_head; (case hw => w_witness2)
 k_fill
 refine My.walk (l := PySem.Challenge.rw_pactboards_k12_plain_tables) rfl rfl (fun w h Y => PySem.W.kIn_of Y) ?F
 case F =>
  intro w mg fa h KX G hmg
  refine' My.txt_mk KX G hmg ?a0 ?l0 ?c0 ?k0 ?a1 ?l1 ?c1 ?k1 ?a2 ?l2 ?c2 ?k2 ?a3 ?l3 ?c3 ?k3 ?a4 ?l4 ?c4 ?k4 ?a5 ?l5 ?c5 ?k5 ?a6 ?l6 ?c6 ?k6 ?a7 ?l7 ?c7 ?k7 ?a8 ?l8 ?c8 ?k8 ?a9 ?l9 ?c9 ?k9 ?a10 ?l10 ?c10 ?k10 ?a11 ?l11 ?c11 ?k11 ?a12 ?l12 ?c12 ?k12 ?a13 ?l13 ?c13 ?k13 ?a14 ?l14 ?c14 ?k14 ?zC ?z6 ?yj ?wF ?j6 ?yd ?wG ?jA ?wd ?yL ?zf
  case a0 | l0 | c0 | k0 | a1 | l1 | c1 | k1 | a2 | l2 | c2 | k2 | a3 | l3 | c3 | k3 | a4 | l4 | c4 | k4 | a5 | l5 | c5 | k5 | a6 | l6 | c6 | k6 | a7 | l7 | c7 | k7 | a8 | l8 | c8 | k8 | a9 | l9 | c9 | k9 | a10 | l10 | c10 | k10 | a11 | l11 | c11 | k11 | a12 | l12 | c12 | k12 | a13 | l13 | c13 | k13 | a14 | l14 | c14 | k14 | zC | z6 | yj | wF | j6 | yd | wG | jA | wd | yL | zf => k_is