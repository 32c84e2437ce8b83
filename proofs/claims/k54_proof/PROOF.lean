import PyProof.Rows.All
import Wide.All
import OpenK.AllK
import Wide.FinOn
import Lean
import PyProof.EqAt
import PyProof.EqKinds
import PyProof.TupleCall
import PySem.Str
import PyProof.NeKinds
import PyProof.IsRules
import PyProof.Rows.StrRev
import KE.KSortTup
import PyProof.Rows.ZipGen
import KE.KRevIter
import KE.KDictList
import KE.KIntText
import PyProof.Rows.StrNews
import PyProof.Rows.StrJoin2
import PyProof.Rows.FStr
import PyProof.StrWalks
import PyProof.StrLawsTight
import PySem.Challenge.RW_pactboards_k54_known_tables
local macro_rules | `(tactic| nofun) => `(tactic| decide +kernel)
local macro_rules | `(tactic| ac_nf) => `(tactic| first | lia | omega)
set_option genSizeOf false
set_option Elab.async false
set_option linter.all false
set_option maxRecDepth 100000
set_option maxHeartbeats 4000000
namespace L2
open PySem PySem.Spec PyProof.Rows
noncomputable abbrev Key := Sum Int Str
noncomputable def keyIs : Key → Value → Bool
 | .inl k, v => Value.isInt k v
 | .inr x, v => Value.isStrOf x v
noncomputable def keyH (w : World) : Key → Int
 | .inl k => hashInt k
 | .inr x => hashStr w x
theorem keyIs_shape : ∀ {k : Key} {v : Value}, keyIs k v = true → (∃ i t, k = Sum.inl i ∧ v = Value.int i t) ∨ (∃ x t, k = Sum.inr x ∧ v = Value.str x t)
 | .inl i, v, h => by
  obtain ⟨t, e⟩ := Value.isInt_shape (k := i) (v := v) h
  exact .inl ⟨i, t, rfl, e⟩
 | .inr x, v, h => by
  obtain ⟨t, e⟩ := Value.isStrOf_shape (x := x) (v := v) h
  exact .inr ⟨x, t, rfl, e⟩
theorem Qaa (i : Int) (t : Tok) : keyIs (.inl i) (.int i t) = true := by simp [keyIs, Value.isInt]
theorem Qab (x : Str) (t : Tok) : keyIs (.inr x) (.str x t) = true := by simp [keyIs, Value.isStrOf]
theorem Qac (a b : Int) : decide ((Sum.inl a : Key) = Sum.inl b) = (a == b) := by
 by_cases e : a = b
 ·subst e; simp
 ·have h : ¬ (Sum.inl a : Key) = Sum.inl b := fun q => e (Sum.inl.inj q)
  rw [decide_eq_false h]
  exact (beq_eq_false_iff_ne.mpr e).symm
theorem Qad (a b : Str) : decide ((Sum.inr a : Key) = Sum.inr b) = decide (a = b) := by
 by_cases e : a = b
 ·subst e; simp
 ·have h : ¬ (Sum.inr a : Key) = Sum.inr b := fun q => e (Sum.inr.inj q)
  rw [decide_eq_false h, decide_eq_false e]
theorem Qae (a : Int) (b : Str) : decide ((Sum.inl a : Key) = Sum.inr b) = false := decide_eq_false (fun q => nomatch q)
theorem Qaf (a : Str) (b : Int) : decide ((Sum.inr a : Key) = Sum.inl b) = false := decide_eq_false (fun q => nomatch q)
noncomputable def mixKind (prog : Program) (w : World) : PySem.KeyKind prog w Key where
 is := keyIs
 hash := keyH w
 inj := fun v a b ha hb => by
  rcases keyIs_shape ha with ⟨i, t, rfl, rfl⟩ | ⟨x, t, rfl, rfl⟩
  ·rcases keyIs_shape hb with ⟨j, u, rfl, e⟩ | ⟨y, u, rfl, e⟩
   ·injection e with e1 _; rw [e1]
   ·exact nomatch e
  ·rcases keyIs_shape hb with ⟨j, u, rfl, e⟩ | ⟨y, u, rfl, e⟩
   ·exact nomatch e
   ·injection e with e1 _; rw [e1]
 byValue := fun k v h => by
  rcases keyIs_shape h with ⟨i, t, rfl, rfl⟩ | ⟨x, t, rfl, rfl⟩ <;> rfl
 pyHash := fun hv h => by
  rcases keyIs_shape hv with ⟨i, t, rfl, rfl⟩ | ⟨x, t, rfl, rfl⟩
  ·exact wpAny_pyHash_int h
  ·exact wpAny_pyHash_str h
 eqBool := fun hu hv h => by
  rcases keyIs_shape hu with ⟨i, t, rfl, rfl⟩ | ⟨x, t, rfl, rfl⟩
  ·rcases keyIs_shape hv with ⟨j, u, rfl, rfl⟩ | ⟨y, u, rfl, rfl⟩
   ·rw [Qac] at h; exact wpAny_eqBool_int h
   ·rw [Qae] at h; exact SeqAt.EqAt.int_str i t y u _ _ _ _ h
  ·rcases keyIs_shape hv with ⟨j, u, rfl, rfl⟩ | ⟨y, u, rfl, rfl⟩
   ·rw [Qaf] at h; exact SeqAt.EqAt.str_int x t j u _ _ _ _ h
   ·rw [Qad] at h; exact wpAny_eqBool_str h
 «strs» := fun k x t v h => by
  rcases keyIs_shape h with ⟨i, u, rfl, e⟩ | ⟨y, u, rfl, e⟩
  ·exact nomatch e
  ·injection e with e1 _
   subst e1
   cases v <;> rfl
theorem Qag (prog : Program) (w : World) (i : Int) (t : Tok) : (mixKind prog w).is (.inl i) (.int i t) = true := Qaa i t
theorem Qah (prog : Program) (w : World) (x : Str) (t : Tok) : (mixKind prog w).is (.inr x) (.str x t) = true := Qab x t
end L2
namespace L2
open PySem PySem.Spec PyProof.Rows
inductive V where
 | non | bl (b : Bool) | int (i : Int) | str (x : Str) | byt (b : Array UInt8) | flt (b : UInt64) | ref (a : Addr) | ty (n : String)
 deriving DecidableEq
noncomputable def RelV : V → Value → Prop
 | .non, u => u = Value.none
 | .bl b, u => u = Value.bool b
 | .int i, u => ∃ t, u = Value.int i t
 | .str x, u => ∃ t, u = Value.str x t
 | .byt b, u => ∃ t, u = Value.bytes b t
 | .flt b, u => ∃ t, u = Value.float b t
 | .ref a, u => u = Value.ref a
 | .ty n, u => u = Value.type n
noncomputable abbrev Vals : List V → List Value → Prop := Paired RelV
theorem Vals.length {xs : List V} {us : List Value} (r : Vals xs us) : xs.length = us.length := Paired.length r
theorem Vals.get : ∀ {xs : List V} {us : List Value} {i : Nat} {x : V}, Vals xs us → xs[i]? = some x → ∃ u, us[i]? = some u ∧ RelV x u
 | _, _, _, _, .nil, e => by simp at e
 | _, _, 0, _, .cons r _, e => by simp at e; subst e; exact ⟨_, rfl, r⟩
 | _, _, i + 1, x, .cons _ t, e => by
  obtain ⟨u, h1, h2⟩ := Vals.get (i := i) (x := x) t (by simpa using e)
  exact ⟨u, by simpa using h1, h2⟩
theorem Vals.set {x : V} {u : Value} (r : RelV x u) : ∀ {xs : List V} {us : List Value} (i : Nat), Vals xs us → Vals (xs.set i x) (us.set i u)
 | _, _, _, .nil => .nil
 | _, _, 0, .cons _ t => .cons r t
 | _, _, i + 1, .cons q t => .cons q (Vals.set r i t)
theorem Vals.append : ∀ {xs ys : List V} {us ws : List Value}, Vals xs us → Vals ys ws → Vals (xs ++ ys) (us ++ ws)
 | _, _, _, _, .nil, s => s
 | _, _, _, _, .cons r t, s => .cons r (Vals.append t s)
theorem Vals.take : ∀ {xs : List V} {us : List Value} (n : Nat), Vals xs us → Vals (xs.take n) (us.take n)
 | _, _, 0, _ => .nil
 | _, _, _ + 1, .nil => .nil
 | _, _, n + 1, .cons r t => .cons r (Vals.take n t)
theorem Vals.drop : ∀ {xs : List V} {us : List Value} (n : Nat), Vals xs us → Vals (xs.drop n) (us.drop n)
 | _, _, 0, r => r
 | _, _, _ + 1, .nil => .nil
 | _, _, n + 1, .cons _ t => Vals.drop n t
theorem Vals.none_of : ∀ {xs : List V} {us : List Value} {i : Nat}, Vals xs us → xs[i]? = none → us[i]? = none := fun {xs us i} r e => by
 have h1 := r.length
 have h2 : xs.length ≤ i := List.getElem?_eq_none_iff.mp e
 exact List.getElem?_eq_none_iff.mpr (by ac_nf)
noncomputable def RelO : Option V → Option Value → Prop
 | some v, some u => RelV v u
 | none, none => True
 | _, _ => False
noncomputable def KV {κ : Type} : List (κ × V) → List (κ × Value) → Prop := Paired fun (p : κ × V) (q : κ × Value) => p.1 = q.1 ∧ RelV p.2 q.2
noncomputable def kV : Key → V
 | .inl i => .int i
 | .inr x => .str x
inductive HO where
 | lst (xs : List V)
 | tup (xs : List V)
 | dK (kvs : List (Key × V)) | dT (kvs : List (List Key × V))
 | set (S : Int → Bool) (n : Nat)
 | ins (C dx : Addr) (fs : List (Str × V))
 | own (x : Addr)
 | xd (fs : List (Str × V))
 | met (f x : Addr)
 | rng (lo hi : Int)
 | frz (o : Obj) (u : HO)
 | tbl (ps : Array Value)
 | ext (φ : Heap → Prop)
noncomputable abbrev Hp := Addr → Option HO
noncomputable def upd (H : Hp) (a : Addr) (o : HO) : Hp := fun b => if b = a then some o else H b
theorem Qai {H : Hp} {a : Addr} {o : HO} : upd H a o a = some o := by unfold upd; rw [if_pos rfl]
theorem Qaj {H : Hp} {a b : Addr} {o : HO} (h : b ≠ a) : upd H a o b = H b := by unfold upd; rw [if_neg h]
theorem Qak {H : Hp} {a b : Addr} {o u : HO} (h : H a = some o) (h' : H b = some u) (d : o ≠ u) : a ≠ b := by
 intro e; subst e; rw [h] at h'; exact d (Option.some.inj h')
theorem Qal {H : Hp} {a b : Addr} {o : HO} (h : H a = some o) (h' : H b = none) : a ≠ b := by
 intro e; subst e; rw [h] at h'; cases h'
section
variable (P : Program) (w : World)
noncomputable def ObjOk (H : Hp) (h : Heap) (a : Addr) : HO → Prop
 | .lst xs => xs.length ≤ sizeLine ∧ ∃ (its : List Value) (n : Nat), Vals xs its ∧ h.get? a = some { cls := .type "list", data := .seq its.toArray n }
 | .tup xs => xs.length ≤ sizeLine ∧ ∃ its : List Value, Vals xs its ∧ IsTup h a its.toArray
 | .dK kvs => kvs.length ≤ sizeLine ∧ (a == sysModules) = false ∧ ∃ vs, KV kvs vs ∧ h.DictOf (mixKind P w) a vs
 | .dT kvs => kvs.length ≤ sizeLine ∧ (a == sysModules) = false ∧ ∃ xs : List (List Key × Addr × Value),
   Paired (fun (p : List Key × V) (q : List Key × Addr × Value) => p.1 = q.1 ∧ H q.2.1 = some (.tup (p.1.map kV)) ∧ RelV p.2 q.2.2) kvs xs ∧
   ∃ o es ep, h.get? a = some o ∧ o.ExactDict ∧ o.data = .dict es ep ∧ es.toList = xs.map (entryOfKey (tupleKind (mixKind P w))) ∧ (xs.map (·.1)).Nodup
 | .set S n => h.SetOf (intKind P w) a S n
 | .ins C dx fs => H dx = some (.own a) ∧ fs.length ≤ 1000 ∧ dx ≠ a ∧ h.get? a = some (PySem.W.instObj C dx) ∧
   ∃ mA, h.Ns1 dx mA ∧ (∀ f, RelO (fs.lookup f) (mA f)) ∧ PySem.Within mA (fs.map (·.1))
 | .own _ => ∃ o, h.get? a = some o
 | .xd fs => ∃ mA, h.Ns1 a mA ∧ ∀ f, RelO (fs.lookup f) (mA f)
 | .rng lo hi => ∃ t u v, h.get? a = some { cls := .type "range", data := .fields #[.int lo t, .int hi u, .int 1 v] }
 | .frz o u => h.get? a = some o ∧ ObjOk H h a u
 | .tbl ps => h.get? a = some { cls := .none, data := .fields ps }
 | .met f x => h.get? a = some (PySem.W.methodObj (.ref f) (.ref x))
 | .ext φ => φ h ∧ (∃ o, h.get? a = some o) ∧ ∀ h1 h2 : Heap, φ h1 → (∀ o, h1.get? a = some o → h2.get? a = some o) → φ h2
def HOk (H : Hp) (h : Heap) : Prop := ∀ a o, H a = some o → ObjOk P w H h a o
end
section
variable {P : Program} {w : World} {H H' : Hp} {h h' : Heap} {a : Addr} {o : HO}
theorem ObjOk.lt (x : ObjOk P w H h a o) : a < h.objs.size := by
 cases o with
 | lst xs => obtain ⟨_, _, _, _, e⟩ := x; exact Heap.lt_size e
 | tup xs => obtain ⟨_, _, _, p⟩ := x; exact p.lt
 | dK kvs => obtain ⟨_, _, _, _, o, _, _, e, _⟩ := x; exact Heap.lt_size e
 | dT kvs => obtain ⟨_, _, _, _, o, _, _, e, _⟩ := x; exact Heap.lt_size e
 | set S n => obtain ⟨o, _, _, _, e, _⟩ := x; exact Heap.lt_size e
 | ins C dx fs => obtain ⟨_, _, _, e, _⟩ := x; exact Heap.lt_size e
 | own y => obtain ⟨_, e⟩ := x; exact Heap.lt_size e
 | xd fs => obtain ⟨_, ⟨_, _, _, e, _⟩, _⟩ := x; exact Heap.lt_size e
 | rng lo hi => obtain ⟨_, _, _, e⟩ := x; exact Heap.lt_size e
 | frz ob u => obtain ⟨e, _⟩ := x; exact Heap.lt_size e
 | tbl ps => exact Heap.lt_size (show h.get? a = some _ from x)
 | met f y => exact Heap.lt_size (show h.get? a = some _ from x)
 | ext φ => obtain ⟨_, ⟨_, e⟩, _⟩ := x; exact Heap.lt_size e
theorem Paired.mapP {α β : Type} {F G : α → β → Prop} : ∀ {l₁ : List α} {l₂ : List β}, Paired F l₁ l₂ → (∀ a b, F a b → G a b) → Paired G l₁ l₂
 | _, _, .nil, _ => .nil
 | _, _, .cons r t, f => .cons (f _ _ r) (Paired.mapP t f)
theorem ObjOk.stay (x : ObjOk P w H h a o) (k : ∀ b u, (b = a ∨ H b = some (.own a)) → h.get? b = some u → h'.get? b = some u)
  (ho : ∀ b, H b = some (.own a) → H' b = some (.own a)) (ht : ∀ b xs, H b = some (.tup xs) → H' b = some (.tup xs)) : ObjOk P w H' h' a o := by
 induction o with
 | lst xs => obtain ⟨z, its, n, r, e⟩ := x; exact ⟨z, its, n, r, k _ _ (.inl rfl) e⟩
 | tup xs => obtain ⟨z, its, r, ob, e, c⟩ := x; exact ⟨z, its, r, ob, k _ _ (.inl rfl) e, c⟩
 | dK kvs => obtain ⟨z, y, vs, r, ob, es, ep, e, c⟩ := x; exact ⟨z, y, vs, r, ob, es, ep, k _ _ (.inl rfl) e, c⟩
 | dT kvs =>
  obtain ⟨z, y, xs, r, ob, es, ep, e, c⟩ := x
  exact ⟨z, y, xs, Paired.mapP r fun p q z => ⟨z.1, ht _ _ z.2.1, z.2.2⟩, ob, es, ep, k _ _ (.inl rfl) e, c⟩
 | set S n => obtain ⟨ob, es, ep, t, e, c⟩ := x; exact ⟨ob, es, ep, t, k _ _ (.inl rfl) e, c⟩
 | ins C dx fs =>
  obtain ⟨d, z, ne, e, mA, ⟨od, es, ep, e2, c⟩, r⟩ := x
  exact ⟨ho _ d, z, ne, k _ _ (.inl rfl) e, mA, ⟨od, es, ep, k _ _ (.inr d) e2, c⟩, r⟩
 | own y => obtain ⟨ob, e⟩ := x; exact ⟨ob, k _ _ (.inl rfl) e⟩
 | xd fs => obtain ⟨mA, ⟨od, es, ep, e, c⟩, r⟩ := x; exact ⟨mA, ⟨od, es, ep, k _ _ (.inl rfl) e, c⟩, r⟩
 | rng lo hi => obtain ⟨t, u, v, e⟩ := x; exact ⟨t, u, v, k _ _ (.inl rfl) e⟩
 | frz ob u ih => obtain ⟨e, q⟩ := x; exact ⟨k _ _ (.inl rfl) e, ih q⟩
 | tbl ps =>
  have e : h.get? a = some { cls := .none, data := .fields ps } := x
  show h'.get? a = some { cls := .none, data := .fields ps }
  exact k a _ (.inl rfl) e
 | met f y =>
  have e : h.get? a = some (PySem.W.methodObj (.ref f) (.ref y)) := x
  show h'.get? a = some (PySem.W.methodObj (.ref f) (.ref y))
  exact k a _ (.inl rfl) e
 | ext φ => obtain ⟨p, ⟨o, e⟩, st⟩ := x; exact ⟨st _ _ p fun o q => k _ _ (.inl rfl) q, ⟨o, k _ _ (.inl rfl) e⟩, st⟩
theorem HOk.lt (x : HOk P w H h) (e : H a = some o) : a < h.objs.size := (x a o e).lt
theorem HOk.fresh (x : HOk P w H h) (e : h.objs.size ≤ a) : H a = none := by
 cases q : H a with
 | none => rfl
 | some u => exact absurd (Nat.lt_of_lt_of_le (x.lt q) e) (Nat.lt_irrefl _)
theorem HOk.kept (x : HOk P w H h) (k : ∀ b u, h.get? b = some u → h'.get? b = some u) : HOk P w H h' := fun a o e =>
 (x a o e).stay (fun b u _ q => k b u q) (fun _ q => q) fun _ _ q => q
theorem HOk.laid (x : HOk P w H h) (k : ∀ b u, h.get? b = some u → h'.get? b = some u) (hp : h.objs.size ≤ a) (new : ObjOk P w (upd H a o) h' a o) : HOk P w (upd H a o) h' := fun b u e => by
 have hn := x.fresh hp
 by_cases hb : b = a
 ·subst hb; rw [Qai] at e; cases e; exact new
 ·rw [Qaj hb] at e
  exact (x b u e).stay (fun c v _ q => k c v q) (fun c q => by rw [Qaj (Qal q hn)]; exact q) fun c xs q => by rw [Qaj (Qal q hn)]; exact q
end
def Rd (H : Hp) (a : Addr) (u : HO) : Prop := H a = some u ∨ ∃ o, H a = some (.frz o u)
theorem Rd.of {H : Hp} {a : Addr} {u : HO} (h : H a = some u) : Rd H a u := .inl h
theorem Rd.ok {P : Program} {w : World} {H : Hp} {h : Heap} {a : Addr} {u : HO} (r : Rd H a u) (x : HOk P w H h) : ObjOk P w H h a u := by
 rcases r with r | ⟨o, r⟩
 ·exact x a u r
 ·obtain ⟨_, q⟩ := x a _ r
  exact q
noncomputable def Mut : Option HO → Prop
 | some (.lst _) => True
 | some (.dK _) => True
 | some (.dT _) => True
 | some (.set _ _) => True
 | some (.ins _ _ _) => True
 | some (.ext _) => True
 | _ => False
section
variable {P : Program} {w : World} {H : Hp} {h h' : Heap} {x e : Addr} {o' : HO}
theorem HOk.write (ok : HOk P w H h) (mu : Mut (H x)) (he : e = x ∨ H e = some (.own x)) (k : ∀ b u, b ≠ e → h.get? b = some u → h'.get? b = some u) (heo : ∃ u, h'.get? e = some u)
  (new : ObjOk P w (upd H x o') h' x o') : HOk P w (upd H x o') h' := fun b u q => by
 have nown : ∀ c y, H c = some (.own y) → c ≠ x := fun c y r z => by subst z; rw [r] at mu; exact mu
 have ntup : ∀ c xs, H c = some (.tup xs) → c ≠ x := fun c xs r z => by subst z; rw [r] at mu; exact mu
 by_cases hb : b = x
 ·subst hb; rw [Qai] at q; cases q; exact new
 ·rw [Qaj hb] at q
  by_cases hbe : b = e
  ·have q' : H b = some (.own x) := by
     rcases he with z | z
     ·exact absurd (hbe.trans z) hb
     ·rw [hbe]; exact z
   rw [q] at q'; cases q'
   obtain ⟨v, hv⟩ := heo
   exact ⟨v, by rw [hbe]; exact hv⟩
  ·refine (ok b u q).stay (fun c v hc r => k c v ?_ r) (fun c r => by rw [Qaj (nown c b r)]; exact r) fun c xs r => by rw [Qaj (ntup c xs r)]; exact r
   rcases hc with rfl | hc
   ·exact hbe
   ·rintro rfl
    rcases he with z | z
    ·exact nown c b hc z
    ·rw [hc] at z; cases z; exact hb rfl
end
structure Un (fs ex : List Addr) (H H' : Hp) (h h' : Heap) : Prop where
 keep : ∀ b o, h.get? b = some o → H b = none → b ∉ fs → b ∉ ex → h'.get? b = some o
 slot : ∀ b o, h.get? b = some o → H b = none → b ∈ fs → b ∉ ex → ∃ sl, h'.get? b = some { o with slots := sl }
 free : ∀ b o, h.get? b = some o → H b = none → b ∉ ex → H' b = none
 there : ∀ b o, h.get? b = some o → b ∉ ex → ∃ o', h'.get? b = some o'
 tups : ∀ b xs, H b = some (.tup xs) → H' b = some (.tup xs)
 frzs : ∀ b o u, H b = some (.frz o u) → H' b = some (.frz o u)
 tbls : ∀ b ps, H b = some (.tbl ps) → ∃ more, H' b = some (.tbl (ps ++ more))
section
variable {fs fs' ex ex' : List Addr} {H H1 H2 : Hp} {h h1 h2 h' : Heap} {a x e : Addr} {o : HO}
theorem Un.any (u : Un fs ex H H1 h h1) {b : Addr} {ob : Obj} (q : h.get? b = some ob) (n : H b = none) (hx : b ∉ ex) : ∃ sl, h1.get? b = some { ob with slots := sl } := by
 by_cases hb : b ∈ fs
 ·exact u.slot b ob q n hb hx
 ·exact ⟨ob.slots, u.keep b ob q n hb hx⟩
theorem Un.trans (a : Un fs ex H H1 h h1) (b : Un fs ex H1 H2 h1 h2) : Un fs ex H H2 h h2 where
 keep := fun c ob q n hc hx => b.keep c ob (a.keep c ob q n hc hx) (a.free c ob q n hx) hc hx
 slot := fun c ob q n hc hx => by
  obtain ⟨sl, e1⟩ := a.slot c ob q n hc hx
  obtain ⟨sl', e2⟩ := b.slot c _ e1 (a.free c ob q n hx) hc hx
  exact ⟨sl', e2⟩
 free := fun c ob q n hx => by
  obtain ⟨o', e1⟩ := a.there c ob q hx
  exact b.free c o' e1 (a.free c ob q n hx) hx
 there := fun c ob q hx => by
  obtain ⟨o', e1⟩ := a.there c ob q hx
  exact b.there c o' e1 hx
 tups := fun c xs q => b.tups c xs (a.tups c xs q)
 frzs := fun c ob xs q => b.frzs c ob xs (a.frzs c ob xs q)
 tbls := fun c ps q => by
  obtain ⟨m1, e1⟩ := a.tbls c ps q
  obtain ⟨m2, e2⟩ := b.tbls c _ e1
  exact ⟨m1 ++ m2, by rw [e2, Array.append_assoc]⟩
theorem Un.kept (k : ∀ b u, h.get? b = some u → h'.get? b = some u) : Un fs ex H H h h' :=
 ⟨fun b ob q _ _ _ => k b ob q, fun b ob q _ _ _ => ⟨ob.slots, k b ob q⟩, fun _ _ _ n _ => n, fun b ob q _ => ⟨ob, k b ob q⟩, fun _ _ q => q, fun _ _ _ q => q, fun _ ps q => ⟨#[], by rw [q]; simp⟩⟩
theorem Un.refl : Un fs ex H H h h := Un.kept fun _ _ q => q
theorem Un.laid (k : ∀ b u, h.get? b = some u → h'.get? b = some u) (hp : h.objs.size ≤ a) (hn : H a = none) : Un fs ex H (upd H a o) h h' where
 keep := fun b u q _ _ _ => k b u q
 slot := fun b u q _ _ _ => ⟨u.slots, k b u q⟩
 free := fun b u q n _ => by rw [Qaj (Nat.ne_of_lt (Nat.lt_of_lt_of_le (Heap.lt_size q) hp))]; exact n
 there := fun b u q _ => ⟨u, k b u q⟩
 tups := fun b xs q => by rw [Qaj (Qal q hn)]; exact q
 frzs := fun b u xs q => by rw [Qaj (Qal q hn)]; exact q
 tbls := fun b ps q => ⟨#[], by rw [Qaj (Qal q hn), q]; simp⟩
theorem Un.write (mu : Mut (H x)) (he : e = x ∨ H e = some (.own x)) (k : ∀ b u, b ≠ e → h.get? b = some u → h'.get? b = some u) (heo : ∃ u, h'.get? e = some u) : Un fs ex H (upd H x o) h h' := by
 have hx : ∀ b, H b = none → b ≠ x := fun b n z => by subst z; rw [n] at mu; exact mu
 have hb : ∀ b, H b = none → b ≠ e := fun b n z => by
  subst z
  rcases he with r | r
  ·exact hx b n r
  ·rw [n] at r; cases r
 have hm : ∀ b u, H b = some u → ¬ Mut (some u) → b ≠ x := fun b u q nm z => by subst z; rw [q] at mu; exact nm mu
 refine ⟨fun b u q n _ _ => k b u (hb b n) q, fun b u q n _ _ => ⟨u.slots, k b u (hb b n) q⟩, fun b u q n _ => by rw [Qaj (hx b n)]; exact n, fun b u q _ => ?_,
  fun b xs q => by rw [Qaj (hm b _ q fun z => z)]; exact q, fun b u xs q => by rw [Qaj (hm b _ q fun z => z)]; exact q, fun b ps q => ⟨#[], by rw [Qaj (hm b _ q fun z => z), q]; simp⟩⟩
 by_cases hbe : b = e
 ·subst hbe; exact heo
 ·exact ⟨u, k b u hbe q⟩
theorem Un.mono (u : Un fs ex H H1 h h1) (hs : ∀ b ∈ fs, b ∈ fs') (hx : ∀ b ∈ ex, b ∈ ex') : Un fs' ex' H H1 h h1 :=
 ⟨fun b ob q n hb he => u.keep b ob q n (fun z => hb (hs b z)) fun z => he (hx b z), fun _ _ q n _ he => u.any q n fun z => he (hx _ z), fun b ob q n he => u.free b ob q n fun z => he (hx b z), fun b ob q he => u.there b ob q fun z => he (hx b z), u.tups, u.frzs, u.tbls⟩
end
noncomputable def trk (h : Heap) (H : Hp) : List Addr := (List.range h.objs.size).filter fun a => (H a).isSome
noncomputable def hidT (h : Heap) (H : Hp) : Heap := PySem.W.hideAll h (trk h H)
theorem Qam (h : Heap) (H : Hp) : (hidT h H).objs.size = h.objs.size := PySem.W.hideAll_size _ _
theorem Qan {h : Heap} {H : Hp} {b : Addr} {o : Obj} (e : h.get? b = some o) (n : H b = none) : (hidT h H).get? b = some o :=
 PySem.W.hideAll_get _ e fun hm => by
  have q : (H b).isSome = true := (List.mem_filter.mp hm).2
  rw [n] at q; simp at q
theorem Qao {h : Heap} {H : Hp} {b : Addr} {o : Obj} (e : (hidT h H).get? b = some o) : h.get? b = some o ∧ H b = none := by
 have e' : h.get? b = some o := PySem.W.of_hideAll (trk h H) e
 refine ⟨e', ?_⟩
 cases q : H b with
 | none => rfl
 | some x =>
  have hm : b ∈ trk h H := List.mem_filter.mpr ⟨List.mem_range.mpr (Heap.lt_size e'), by simp [q]⟩
  have z : (hidT h H).get? b = none := PySem.W.hideAll_none (trk h H) hm
  rw [z] at e; cases e
noncomputable def allNews (g h : Heap) (L : Addr) : List (Addr × Obj) := (List.range h.objs.size).filterMap fun a => if a = L ∨ (g.get? a).isSome = true then none else (h.get? a).map fun o => (a, o)
noncomputable def rest (g h : Heap) (L d : Addr) : List (Addr × Obj) := (allNews g h L).filter fun p => decide (p.1 ≠ d)
end L2
namespace L2
open PySem PySem.Spec PyProof.Rows
structure Mod (K : PySem.W.Frag) (mg : Str → Option Value) (base : Heap) : Prop where
 kin : K.In base
 glob : base.Ns mainGlobals mg
 blt : ∃ mb, base.Ns builtinsNs mb ∧ ∀ x : Str, x ≠ "__name__" → mb x = bootBuiltins x
 nolimit : base.NoLimit
structure Cx where
 prog : Program
 w : World
 K : PySem.W.Frag
 mg : Str → Option Value
 base : Heap
 A : Around
 N : List Str
 s₀ : Shared
 H₀ : Hp
 env : Env
 outer : List Env
 stack : List Env
 ex : List Addr
 fn : Str → Bool
 calm : Bool
 pn : List (Addr × Obj)
 xe : Value → Shared → Prop
noncomputable def frs (l : List Env) : List Addr := l.filterMap (·.frame)
noncomputable abbrev Cx.fs (X : Cx) : List Addr := frs X.outer
def Vis (sc : Scope) (x : Str) : Prop := sc.names.lookup x = some .local ∨ sc.names.lookup x = some .cell ∨ sc.names.lookup x = some .free
def Loc (sc : Scope) (x : Str) : Prop := sc.names.lookup x = some .local ∨ sc.names.lookup x = some .cell
def Look (env : Env) (h : Heap) (m : Str → Option Value) (x : Str) (u : Value) : Prop :=
 (env.kindOf x = some .local ∧ m x = some u) ∨ ((env.kindOf x = some .cell ∨ env.kindOf x = some .free) ∧ ∃ c, env.cells.lookup x = some c ∧ h.IsCell c (some u))
structure Cx.Ok (X : Cx) : Prop where
 mod : Mod X.K X.mg X.base
 kind : X.env.scope.kind = .function
 glob : X.env.globals = mainGlobals
 blt : X.env.builtins = builtinsNs
 above : X.s₀.heap.objs.size ≤ X.env.locals
 inj : ∀ x y c, X.env.cells.lookup x = some c → X.env.cells.lookup y = some c → x = y
 has : ∀ x, (X.env.kindOf x = some .cell ∨ X.env.kindOf x = some .free) → ∃ c, X.env.cells.lookup x = some c
 cab : ∀ x c, X.fn x = true → X.env.cells.lookup x = some c → X.s₀.heap.objs.size ≤ c
 hd : X.calm = true → X.A.handled = none
 frames : X.A.frames = some X.stack
 stk : X.stack = X.outer ∨ (X.stack = X.env :: X.outer ∧ X.env.frame = some X.env.locals)
 exf : ∀ b ∈ X.ex, b ≠ X.env.locals ∧ ∀ x c, X.env.cells.lookup x = some c → c ≠ b
 bs : ∀ b o, X.base.get? b = some o → X.s₀.heap.get? b = some o ∧ X.H₀ b = none
 bsz : X.base.objs.size ≤ X.s₀.heap.objs.size
 noex : ∀ b o, X.base.get? b = some o → b ∉ X.ex
 exfs : ∀ b ∈ X.ex, b ∉ X.fs
 funs : X.s₀.heap.FunFrames X.base X.outer
 frf : ∀ b ∈ X.fs, X.H₀ b = none
structure Inv (X : Cx) (pins : List (Addr × Obj)) (σ : List (Option V)) (H : Hp) (s : Shared) : Prop where
 ok : X.Ok
 os : s.os = X.s₀.os
 bare : AllBare s.gens
 base : Un X.fs X.ex X.H₀ H X.s₀.heap s.heap
 loc : ∃ m, s.heap.Ns X.env.locals m ∧ ∀ (i : Nat) (x : Str) (v : V), X.N[i]? = some x → σ[i]? = some (some v) → Vis X.env.scope x → ∃ u, RelV v u ∧ Look X.env s.heap m x u
 cell : ∀ x c, X.env.cells.lookup x = some c → ∃ v, s.heap.IsCell c v
 free : H X.env.locals = none
 freeC : ∀ x c, X.env.cells.lookup x = some c → H c = none
 pin : ∀ p ∈ X.pn ++ pins, s.heap.get? p.1 = some p.2 ∧ H p.1 = none ∧ p.1 ≠ X.env.locals ∧ p.1 ∉ X.fs ∧ ∀ v, p.2.data ≠ .cell v
 hok : HOk X.prog X.w H s.heap
 len : σ.length = X.N.length
section
variable {X : Cx} {pins : List (Addr × Obj)} {σ : List (Option V)} {H H' : Hp} {s : Shared} {h' : Heap}
theorem Cx.Ok.nofr (ok : X.Ok) {b : Addr} {o : Obj} (e : X.base.get? b = some o) : b ∉ X.fs := fun hb => by
 have := (ok.funs.mem hb).1
 rw [e] at this; cases this
theorem Inv.bs (I : Inv X pins σ H s) : ∀ b o, X.base.get? b = some o → s.heap.get? b = some o ∧ H b = none := fun b o e =>
 ⟨I.base.keep b o (I.ok.bs b o e).1 (I.ok.bs b o e).2 (I.ok.nofr e) (I.ok.noex b o e), I.base.free b o (I.ok.bs b o e).1 (I.ok.bs b o e).2 (I.ok.noex b o e)⟩
theorem Inv.bk (I : Inv X pins σ H s) : ∀ b o, X.base.get? b = some o → s.heap.get? b = some o := fun b o e => (I.bs b o e).1
theorem Inv.mod (I : Inv X pins σ H s) : Mod X.K X.mg X.base := I.ok.mod
theorem Inv.kIn (I : Inv X pins σ H s) : X.K.In s.heap := I.ok.mod.kin.keeps I.bk
theorem Inv.nolimit (I : Inv X pins σ H s) : s.heap.NoLimit := I.ok.mod.nolimit.keeps I.bk
theorem Inv.fr (I : Inv X pins σ H s) : ∃ m, Fr X.base X.env.locals s.heap m :=
 let ⟨m, hn, _⟩ := I.loc
 ⟨m, hn, I.bk, Nat.le_trans I.ok.bsz I.ok.above⟩
theorem Inv.lt (I : Inv X pins σ H s) : X.env.locals < s.heap.objs.size := let ⟨_, hn, _⟩ := I.loc; hn.lt
theorem Inv.sz (I : Inv X pins σ H s) : X.s₀.heap.objs.size ≤ s.heap.objs.size := Nat.le_trans I.ok.above (Nat.le_of_lt I.lt)
theorem Inv.nofs (I : Inv X pins σ H s) {a : Addr} (h : s.heap.objs.size ≤ a) : a ∉ X.fs := fun hb => by
 obtain ⟨_, o, ho, _⟩ := I.ok.funs.mem hb
 exact absurd (Nat.lt_of_lt_of_le (Heap.lt_size ho) (Nat.le_trans I.sz h)) (Nat.lt_irrefl _)
theorem Inv.cne (I : Inv X pins σ H s) : ∀ x c, X.env.cells.lookup x = some c → c ≠ X.env.locals := fun x c e z => by
 obtain ⟨v, o, ho, hd⟩ := I.cell x c e
 obtain ⟨m, ⟨o', es, ep, ho', hd', _⟩, _⟩ := I.loc
 rw [z, ho'] at ho; cases ho; rw [hd'] at hd; cases hd
theorem Inv.funs (I : Inv X pins σ H s) : s.heap.FunFrames X.base X.outer := by
 have all : ∀ (l : List Env), (∀ b ∈ frs l, b ∈ X.fs) → X.s₀.heap.FunFrames X.base l → s.heap.FunFrames X.base l := by
  intro l
  induction l with
  | nil => intro _ _; trivial
  | cons env r ih =>
   intro hs hl
   obtain ⟨hk, ⟨L, o, hf, hn, ho, hd⟩, hr⟩ := hl
   have hL : L ∈ X.fs := hs L (by unfold frs; rw [List.filterMap_cons, hf]; exact List.mem_cons_self)
   obtain ⟨sl, e⟩ := I.base.slot L o ho (I.ok.frf L hL) hL fun z => I.ok.exfs L z hL
   exact ⟨hk, ⟨L, _, hf, hn, e, hd⟩, ih (fun b hb => hs b (by unfold frs; rw [List.filterMap_cons, hf]; exact List.mem_cons_of_mem _ hb)) hr⟩
 exact all X.outer (fun _ hb => hb) I.ok.funs
theorem Inv.stack (I : Inv X pins σ H s) : s.heap.FunFrames X.base X.stack := by
 rcases I.ok.stk with e | ⟨e, hf⟩
 ·rw [e]; exact I.funs
 ·rw [e]
  obtain ⟨m, hn, _⟩ := I.loc
  refine .cons (by rw [I.ok.kind]; decide) hf hn ?_ I.funs
  exact Heap.get?_none_of_le (Nat.le_trans I.ok.bsz I.ok.above)
theorem Inv.stkSub (I : Inv X pins σ H s) : ∀ b ∈ frs X.stack, b ∈ X.env.locals :: X.fs := fun b hb => by
 rcases I.ok.stk with e | ⟨e, hf⟩
 ·rw [e] at hb; exact List.mem_cons_of_mem _ hb
 ·rw [e] at hb
  unfold frs at hb
  rw [List.filterMap_cons, hf] at hb
  exact hb
theorem Inv.stkFree (I : Inv X pins σ H s) : ∀ b ∈ frs X.stack, H b = none := fun b hb => by
 rcases List.mem_cons.mp (I.stkSub b hb) with e | hb
 ·rw [e]; exact I.free
 ·obtain ⟨_, o, ho, _⟩ := I.ok.funs.mem hb
  exact I.base.free b o ho (I.ok.frf b hb) fun z => I.ok.exfs b z hb
theorem Inv.step {g' : Array GenState} {t' : Nat} {d' : Drawn} {ch : List Addr} (I : Inv X pins σ H s)
  (hch : ∀ b ∈ ch, (b ∈ X.ex ∨ X.s₀.heap.objs.size ≤ b) ∧ b ≠ X.env.locals ∧ (∀ x c, X.env.cells.lookup x = some c → c ≠ b) ∧ ∀ p ∈ X.pn ++ pins, p.1 ≠ b)
  (keep : ∀ b o, b ≠ X.env.locals → b ∉ X.fs → b ∉ ch → s.heap.get? b = some o → H b = none → h'.get? b = some o)
  (slot : ∀ b o, b ≠ X.env.locals → b ∈ X.fs → b ∉ ch → s.heap.get? b = some o → H b = none → ∃ sl, h'.get? b = some { o with slots := sl }) (free : ∀ b o, b ∉ ch → s.heap.get? b = some o → H b = none → H' b = none)
  (there : ∀ b o, b ∉ ch → s.heap.get? b = some o → ∃ o', h'.get? b = some o')
  (tups : ∀ b xs, H b = some (.tup xs) → H' b = some (.tup xs)) (frzs : ∀ b o u, H b = some (.frz o u) → H' b = some (.frz o u)) (tbls : ∀ b ps, H b = some (.tbl ps) → ∃ more, H' b = some (.tbl (ps ++ more)))
  (ns : ∀ m, s.heap.Ns X.env.locals m → h'.Ns X.env.locals m) (hok : HOk X.prog X.w H' h') (hg : AllBare g') :
  Inv X pins σ H' { s with heap := h', gens := g', drawn := d', toks := t' } := by
 have neL : ∀ b o, X.s₀.heap.get? b = some o → b ≠ X.env.locals := fun b o e => Nat.ne_of_lt (Nat.lt_of_lt_of_le (Heap.lt_size e) I.ok.above)
 have neC : ∀ b o, X.s₀.heap.get? b = some o → b ∉ X.ex → b ∉ ch := fun b o e hx hb => by
  rcases (hch b hb).1 with z | z
  ·exact hx z
  ·exact absurd (Nat.lt_of_lt_of_le (Heap.lt_size e) z) (Nat.lt_irrefl _)
 have cellK : ∀ x c, X.env.cells.lookup x = some c → ∀ v, s.heap.IsCell c v → h'.IsCell c v := fun x c e v pq1 => by
  obtain ⟨o, ho, hd⟩ := pq1
  have nch : c ∉ ch := fun z => (hch c z).2.2.1 x c e rfl
  by_cases hc : c ∈ X.fs
  ·obtain ⟨sl, q⟩ := slot c o (I.cne x c e) hc nch ho (I.freeC x c e)
   exact ⟨_, q, hd⟩
  ·exact ⟨o, keep c o (I.cne x c e) hc nch ho (I.freeC x c e), hd⟩
 refine ⟨I.ok, I.os, hg, ⟨fun b o e n hb hx => ?_, fun b o e n hb hx => ?_, fun b o e n hx => ?_, fun b o e hx => ?_, fun b xs e => tups b xs (I.base.tups b xs e), fun b o xs e => frzs b o xs (I.base.frzs b o xs e), fun b ps e => ?_⟩, ?_, fun x c e => ?_, ?_, fun x c e => ?_, fun p hp => ?_, hok, I.len⟩
 ·exact keep b o (neL b o e) hb (neC b o e hx) (I.base.keep b o e n hb hx) (I.base.free b o e n hx)
 ·obtain ⟨sl, e1⟩ := I.base.slot b o e n hb hx
  obtain ⟨sl', e2⟩ := slot b _ (neL b o e) hb (neC b o e hx) e1 (I.base.free b o e n hx)
  exact ⟨sl', e2⟩
 ·obtain ⟨o', e1⟩ := I.base.there b o e hx
  exact free b o' (neC b o e hx) e1 (I.base.free b o e n hx)
 ·obtain ⟨o', e1⟩ := I.base.there b o e hx
  exact there b o' (neC b o e hx) e1
 ·obtain ⟨m1, e1⟩ := I.base.tbls b ps e
  obtain ⟨m2, e2⟩ := tbls b _ e1
  exact ⟨m1 ++ m2, by rw [e2, Array.append_assoc]⟩
 ·obtain ⟨m, hn, hl⟩ := I.loc
  refine ⟨m, ns m hn, fun i x v e1 e2 e3 => ?_⟩
  obtain ⟨u, r, l⟩ := hl i x v e1 e2 e3
  refine ⟨u, r, ?_⟩
  rcases l with l | ⟨k, c, e, z⟩
  ·exact .inl l
  ·exact .inr ⟨k, c, e, cellK x c e _ z⟩
 ·obtain ⟨v, z⟩ := I.cell x c e
  exact ⟨v, cellK x c e v z⟩
 ·obtain ⟨m, ⟨o, _, _, ho, _⟩, _⟩ := I.loc
  exact free _ o (fun z => (hch _ z).2.1 rfl) ho I.free
 ·obtain ⟨v, o, ho, hd⟩ := I.cell x c e
  exact free c o (fun z => (hch c z).2.2.1 x c e rfl) ho (I.freeC x c e)
 ·obtain ⟨e, n, ne, nf, d⟩ := I.pin p hp
  have nch : p.1 ∉ ch := fun z => (hch p.1 z).2.2.2 p hp rfl
  exact ⟨keep p.1 p.2 ne nf nch e n, free p.1 p.2 nch e n, ne, nf, d⟩
theorem Inv.un {t' : Nat} (I : Inv X pins σ H s) (u : Un X.fs [] H H' s.heap h') (hok : HOk X.prog X.w H' h') : Inv X pins σ H' { s with heap := h', toks := t' } := by
 obtain ⟨m, ⟨o, es, ep, ho, r⟩, _⟩ := id I.loc
 obtain ⟨sl, hL⟩ := u.any ho I.free (by simp)
 exact I.step (g' := s.gens) (d' := s.drawn) (ch := []) (fun _ z => nomatch z) (fun b o _ hb _ e n => u.keep b o e n hb (by simp)) (fun b o _ hb _ e n => u.slot b o e n hb (by simp)) (fun b o _ e n => u.free b o e n (by simp)) (fun b o _ e => u.there b o e (by simp)) u.tups u.frzs u.tbls (fun m' hm => by
  obtain ⟨o', es', ep', ho', r'⟩ := hm
  rw [ho] at ho'; cases ho'
  exact ⟨_, es', ep', hL, r'⟩) hok I.bare
theorem Inv.call {g' : Array GenState} {t' : Nat} {d' : Drawn} {ch : List Addr} (I : Inv X pins σ H s) (u : Un (frs X.stack) ch H H' s.heap h') (hok : HOk X.prog X.w H' h') (hg : AllBare g')
  (hch : ∀ b ∈ ch, (b ∈ X.ex ∨ X.s₀.heap.objs.size ≤ b) ∧ b ≠ X.env.locals ∧ (∀ x c, X.env.cells.lookup x = some c → c ≠ b) ∧ ∀ p ∈ X.pn ++ pins, p.1 ≠ b) :
  Inv X pins σ H' { s with heap := h', gens := g', drawn := d', toks := t' } := by
 obtain ⟨m, ⟨o, es, ep, ho, r⟩, _⟩ := id I.loc
 obtain ⟨sl, hL⟩ := u.any ho I.free fun z => (hch _ z).2.1 rfl
 exact I.step (ch := ch) hch (fun b o hL hb hc e n => u.keep b o e n (fun z => (List.mem_cons.mp (I.stkSub b z)).elim hL hb) hc) (fun b o _ _ hc e n => u.any e n hc) (fun b o hc e n => u.free b o e n hc) (fun b o hc e => u.there b o e hc) u.tups u.frzs u.tbls (fun m' hm => by
  obtain ⟨o', es', ep', ho', r'⟩ := hm
  rw [ho] at ho'; cases ho'
  exact ⟨_, es', ep', hL, r'⟩) hok hg
theorem Inv.turned {t' : Nat} {it : Addr} (I : Inv X pins σ H s) (k : ∀ b o, b ≠ it → s.heap.get? b = some o → h'.get? b = some o) (hn : H it = none) (hL : it ≠ X.env.locals)
  (h1 : it ∈ X.ex ∨ X.s₀.heap.objs.size ≤ it) (h2 : ∀ x c, X.env.cells.lookup x = some c → c ≠ it) (h3 : ∀ p ∈ X.pn ++ pins, p.1 ≠ it) : Inv X pins σ H { s with heap := h', toks := t' } := by
 have nit : ∀ b u, H b = some u → b ≠ it := fun b u e z => by rw [z, hn] at e; cases e
 refine I.step (g' := s.gens) (d' := s.drawn) (ch := [it]) (fun b hb => ?_) (fun b o _ _ hc e _ => k b o (fun z => hc (by simp [z])) e) (fun b o _ _ hc e _ => ⟨o.slots, k b o (fun z => hc (by simp [z])) e⟩) (fun _ _ _ _ n => n)
  (fun b o hc e => ⟨o, k b o (fun z => hc (by simp [z])) e⟩) (fun _ _ e => e) (fun _ _ _ e => e) (fun b ps e => ⟨#[], by rw [e]; simp⟩) (fun m hm => ?_) (fun b u e => ?_) I.bare
 ·have e : b = it := by simpa using hb
  subst e
  exact ⟨h1, hL, h2, h3⟩
 ·obtain ⟨o, es, ep, ho, r⟩ := hm
  exact ⟨o, es, ep, k _ o (Ne.symm hL) ho, r⟩
 ·refine (I.hok b u e).stay (fun c v hc q => k c v ?_ q) (fun _ q => q) fun _ _ q => q
  rcases hc with z | z
  ·rw [z]; exact nit b u e
  ·exact nit c _ z
theorem Inv.tok (I : Inv X pins σ H s) (t : Nat) : Inv X pins σ H { s with toks := t } := I.un (h' := s.heap) (t' := t) Un.refl I.hok
theorem Inv.kept {t' : Nat} (I : Inv X pins σ H s) (k : ∀ b u, s.heap.get? b = some u → h'.get? b = some u) : Inv X pins σ H { s with heap := h', toks := t' } := I.un (Un.kept k) (I.hok.kept k)
theorem Inv.laid {a : Addr} {o : HO} {t' : Nat} (I : Inv X pins σ H s) (k : ∀ b u, s.heap.get? b = some u → h'.get? b = some u) (hp : s.heap.objs.size ≤ a) (new : ObjOk X.prog X.w (upd H a o) h' a o) :
  Inv X pins σ (upd H a o) { s with heap := h', toks := t' } := I.un (Un.laid k hp (I.hok.fresh hp)) (I.hok.laid k hp new)
theorem Inv.write {x e : Addr} {o : HO} {t' : Nat} (I : Inv X pins σ H s) (mu : Mut (H x)) (he : e = x ∨ H e = some (.own x)) (k : ∀ b u, b ≠ e → s.heap.get? b = some u → h'.get? b = some u) (heo : ∃ u, h'.get? e = some u)
  (new : ObjOk X.prog X.w (upd H x o) h' x o) : Inv X pins σ (upd H x o) { s with heap := h', toks := t' } := I.un (Un.write mu he k heo) (I.hok.write mu he k heo new)
theorem Inv.pins_of {pins' : List (Addr × Obj)} (I : Inv X pins σ H s) (h : ∀ p ∈ pins', s.heap.get? p.1 = some p.2 ∧ H p.1 = none ∧ p.1 ≠ X.env.locals ∧ p.1 ∉ X.fs ∧ ∀ v, p.2.data ≠ .cell v) : Inv X pins' σ H s :=
 ⟨I.ok, I.os, I.bare, I.base, I.loc, I.cell, I.free, I.freeC, fun p hp => (List.mem_append.mp hp).elim (fun z => I.pin p (List.mem_append_left _ z)) (h p), I.hok, I.len⟩
theorem Qap {N : List Str} (hN : N.Nodup) {i j : Nat} {x : Str} (a : N[i]? = some x) (b : N[j]? = some x) : i = j := by
 obtain ⟨h1, e1⟩ := List.getElem?_eq_some_iff.mp a
 obtain ⟨h2, e2⟩ := List.getElem?_eq_some_iff.mp b
 exact (List.getElem_inj hN).mp (e1.trans e2.symm)
theorem Qaq {M : Model} {A : Around} {E : Value → Shared → Prop} {i : Nat} {x : Str} {v : V} {u : Value} {Q : Unit → Shared → Prop} (I : Inv X pins σ H s) (hN : X.N.Nodup) (hi : X.N[i]? = some x) (hx : Loc X.env.scope x) (r : RelV v u)
  (h : ∀ s', Inv X pins (σ.set i (some v)) H s' → (∃ a, Heap.SameBut a s.heap s'.heap ∧ (a = X.env.locals ∨ X.env.cells.lookup x = some a)) → Q () s') (hf : X.fn x = true ∨ X.env.scope.names.lookup x = some .local := by first | exact .inl rfl | exact .inr rfl | assumption) : wpAny M A (storeName X.env x u) Q E s := by
 obtain ⟨m, hn, hl⟩ := id I.loc
 have hcls : (X.env.scope.kind == .class || (X.env.scope.kind == .module && X.env.locals != X.env.globals)) = false := by rw [I.ok.kind]; rfl
 have hiσ : i < σ.length := by rw [I.len]; exact (List.getElem?_eq_some_iff.mp hi).1
 have cne := I.cne
 have tracked : ∀ {a : Addr} {h' : Heap}, (∃ o, s.heap.get? a = some o ∧ H a = none) → Heap.SameBut a s.heap h' → HOk X.prog X.w H h' := fun {a h'} ha hs b ob e => by
  obtain ⟨_, _, hfree⟩ := ha
  refine (I.hok b ob e).stay (fun c w' hc q => (hs.2 c ?_).trans q) (fun _ q => q) fun _ _ q => q
  rintro rfl
  rcases hc with rfl | hc
  ·rw [hfree] at e; cases e
  ·rw [hfree] at hc; cases hc
 rcases hx with hk | hk
 ·refine wpAny_storeName_local hk hn (fun h' hn' hs => ?_) hcls
  obtain ⟨oL, _, _, hoL, _⟩ := id hn
  refine h _ ⟨I.ok, I.os, I.bare, ⟨fun b o e n hb hx => ?_, fun b o e n hb hx => ?_, I.base.free, fun b o e hx => ?_, I.base.tups, I.base.frzs, I.base.tbls⟩, ⟨_, hn', fun j y v' e1 e2 e3 => ?_⟩, fun y c e => ?_, I.free, I.freeC, fun p hp => ?_, tracked ⟨oL, hoL, I.free⟩ hs, by simpa using I.len⟩ ⟨_, hs, .inl rfl⟩
  ·exact (hs.2 b (Nat.ne_of_lt (Nat.lt_of_lt_of_le (Heap.lt_size e) I.ok.above))).trans (I.base.keep b o e n hb hx)
  ·obtain ⟨sl, e1⟩ := I.base.slot b o e n hb hx
   exact ⟨sl, (hs.2 b (Nat.ne_of_lt (Nat.lt_of_lt_of_le (Heap.lt_size e) I.ok.above))).trans e1⟩
  ·obtain ⟨o', e1⟩ := I.base.there b o e hx
   exact ⟨o', (hs.2 b (Nat.ne_of_lt (Nat.lt_of_lt_of_le (Heap.lt_size e) I.ok.above))).trans e1⟩
  ·by_cases hj : j = i
   ·subst hj
    rw [hi] at e1; cases e1
    rw [List.getElem?_set_self hiσ] at e2
    cases e2
    exact ⟨u, r, .inl ⟨hk, by simp⟩⟩
   ·rw [List.getElem?_set_ne (Ne.symm hj)] at e2
    obtain ⟨u', r', q⟩ := hl j y v' e1 e2 e3
    refine ⟨u', r', ?_⟩
    rcases q with ⟨k, e⟩ | ⟨k, c, e, z⟩
    ·refine .inl ⟨k, ?_⟩
     have : y ≠ x := fun e => hj (Qap hN e1 (e ▸ hi))
     simp [this, e]
    ·exact .inr ⟨k, c, e, z.sameBut hs (cne y c e)⟩
  ·obtain ⟨w', z⟩ := I.cell y c e
   exact ⟨w', z.sameBut hs (cne y c e)⟩
  ·obtain ⟨e, n, ne, nf, d⟩ := I.pin p hp
   exact ⟨(hs.2 p.1 ne).trans e, n, ne, nf, d⟩
 ·have hfn : X.fn x = true := by
    rcases hf with z | z
    ·exact z
    ·rw [z] at hk; cases hk
  obtain ⟨c, hc⟩ := I.ok.has x (.inl hk)
  obtain ⟨w', z⟩ := I.cell x c hc
  refine wpAny_storeName_cell I.ok.kind hk hc z (fun h' hc' hs => ?_)
  obtain ⟨oc, hoc, hocd⟩ := id z
  refine h { s with heap := h' } ⟨I.ok, I.os, I.bare, ⟨fun b o e n hb hx => ?_, fun b o e n hb hx => ?_, I.base.free, fun b o e hx => ?_, I.base.tups, I.base.frzs, I.base.tbls⟩, ⟨m, hn.sameBut hs (Ne.symm (cne x c hc)), fun j y v' e1 e2 e3 => ?_⟩, fun y c' e => ?_, I.free, I.freeC, fun p hp => ?_, tracked ⟨oc, hoc, I.freeC x c hc⟩ hs, by simpa using I.len⟩ ⟨c, hs, .inr hc⟩
  ·exact (hs.2 b (Nat.ne_of_lt (Nat.lt_of_lt_of_le (Heap.lt_size e) (I.ok.cab x c hfn hc)))).trans (I.base.keep b o e n hb hx)
  ·obtain ⟨sl, e1⟩ := I.base.slot b o e n hb hx
   exact ⟨sl, (hs.2 b (Nat.ne_of_lt (Nat.lt_of_lt_of_le (Heap.lt_size e) (I.ok.cab x c hfn hc)))).trans e1⟩
  ·obtain ⟨o', e1⟩ := I.base.there b o e hx
   exact ⟨o', (hs.2 b (Nat.ne_of_lt (Nat.lt_of_lt_of_le (Heap.lt_size e) (I.ok.cab x c hfn hc)))).trans e1⟩
  ·by_cases hj : j = i
   ·subst hj
    rw [hi] at e1; cases e1
    rw [List.getElem?_set_self hiσ] at e2
    cases e2
    exact ⟨u, r, .inr ⟨.inl hk, c, hc, hc'⟩⟩
   ·rw [List.getElem?_set_ne (Ne.symm hj)] at e2
    obtain ⟨u', r', q⟩ := hl j y v' e1 e2 e3
    refine ⟨u', r', ?_⟩
    rcases q with q | ⟨k, c', e, z'⟩
    ·exact .inl q
    ·refine .inr ⟨k, c', e, z'.sameBut hs ?_⟩
     rintro rfl
     exact hj (Qap hN e1 (I.ok.inj _ _ _ e hc ▸ hi))
  ·by_cases hcc : c' = c
   ·subst hcc; exact ⟨_, hc'⟩
   ·obtain ⟨w2, z2⟩ := I.cell y c' e
    exact ⟨w2, z2.sameBut hs hcc⟩
  ·obtain ⟨e, n, ne, nf, d⟩ := I.pin p hp
   refine ⟨(hs.2 p.1 ?_).trans e, n, ne, nf, d⟩
   intro q
   rw [q, hoc] at e
   have q' : oc = p.2 := Option.some.inj e
   exact d w' (by rw [← q']; exact hocd)
theorem Qar {M : Model} {A : Around} {E : Value → Shared → Prop} {i : Nat} {x : Str} {v : V} {u : Value} {Q : Unit → Shared → Prop} (I : Inv X pins σ H s) (hN : X.N.Nodup) (hi : X.N[i]? = some x) (hx : Loc X.env.scope x) (r : RelV v u)
  (h : ∀ s', Inv X pins (σ.set i (some v)) H s' → Q () s') (hf : X.fn x = true ∨ X.env.scope.names.lookup x = some .local := by first | exact .inl rfl | exact .inr rfl | assumption) : wpAny M A (storeName X.env x u) Q E s :=
 Qaq I hN hi hx r (fun s' I' _ => h s' I') hf
theorem Inv.call' {s' : Shared} {ch : List Addr} (I : Inv X pins σ H s) (ho : s'.os = s.os) (u : Un (frs X.stack) ch H H' s.heap s'.heap) (hok : HOk X.prog X.w H' s'.heap) (hg : AllBare s'.gens)
  (hch : ∀ b ∈ ch, (b ∈ X.ex ∨ X.s₀.heap.objs.size ≤ b) ∧ b ≠ X.env.locals ∧ (∀ x c, X.env.cells.lookup x = some c → c ≠ b) ∧ ∀ p ∈ X.pn ++ pins, p.1 ≠ b) : Inv X pins σ H' s' := by
 obtain ⟨h', g', d', t', o'⟩ := s'
 have e : o' = s.os := ho
 subst e
 exact I.call (g' := g') (t' := t') (d' := d') u hok hg hch
end
noncomputable abbrev XK := Value → Option Addr → Hp → Prop
noncomputable abbrev St := List (Option V)
noncomputable abbrev VK := V → Hp → Prop
noncomputable abbrev TE := St → Hp → VK → Prop
noncomputable abbrev TT := St → Hp → (Bool → Hp → Prop) → Prop
noncomputable abbrev TA := St → Hp → (List V → Hp → Prop) → Prop
structure Ends where
 nx : St → Hp → Prop
 rt : VK
 bk : St → Hp → Prop := fun _ _ => False
 ct : St → Hp → Prop := fun _ _ => False
noncomputable abbrev TS := Ends → St → Hp → Prop
def EP (X : Cx) (pins : List (Addr × Obj)) (σ : St) (Q : VK) (u : Value) (s' : Shared) : Prop := ∃ v H', Inv X pins σ H' s' ∧ RelV v u ∧ Q v H'
def TP (X : Cx) (pins : List (Addr × Obj)) (σ : St) (Q : Bool → Hp → Prop) (b : Bool) (s' : Shared) : Prop := ∃ H', Inv X pins σ H' s' ∧ Q b H'
def AP (X : Cx) (pins : List (Addr × Obj)) (σ : St) (Q : List V → Hp → Prop) (us : List Value) (s' : Shared) : Prop := ∃ vs H', Inv X pins σ H' s' ∧ Vals vs us ∧ Q vs H'
def SP (X : Cx) (pins : List (Addr × Obj)) (D : Ends) (f : Flow) (s' : Shared) : Prop :=
 match f with
 | .next => ∃ σ' H', Inv X pins σ' H' s' ∧ D.nx σ' H'
 | .brk => ∃ σ' H', Inv X pins σ' H' s' ∧ D.bk σ' H'
 | .cont => ∃ σ' H', Inv X pins σ' H' s' ∧ D.ct σ' H'
 | .ret u => ∃ v σ' H', Inv X pins σ' H' s' ∧ RelV v u ∧ D.rt v H'
def PE (X : Cx) (e : Expr) (t : TE) : Prop :=
 ∀ (pins : List (Addr × Obj)) (s : Shared) (σ : St) (H : Hp) (Q : VK), Inv X pins σ H s → t σ H Q → wpAny (model X.prog X.w) X.A (eval e X.env) (EP X pins σ Q) X.xe s
def PT (X : Cx) (e : Expr) (t : TT) : Prop :=
 ∀ (pins : List (Addr × Obj)) (s : Shared) (σ : St) (H : Hp) (Q : Bool → Hp → Prop), Inv X pins σ H s → t σ H Q → wpAny (model X.prog X.w) X.A (isTrue e X.env (eval e X.env)) (TP X pins σ Q) X.xe s
def PW (X : Cx) (e : Expr) (t : TT) : Prop :=
 ∀ (whole : Sem Value) (pins : List (Addr × Obj)) (s : Shared) (σ : St) (H : Hp) (Q : Bool → Hp → Prop), Inv X pins σ H s → t σ H Q → wpAny (model X.prog X.w) X.A (isTrue e X.env whole) (TP X pins σ Q) X.xe s
theorem PW.pt {X : Cx} {e : Expr} {t : TT} (h : PW X e t) : PT X e t := h _
def PA (X : Cx) (es : List Expr) (t : TA) : Prop :=
 ∀ (pos : Pos) (pins : List (Addr × Obj)) (s : Shared) (σ : St) (H : Hp) (Q : List V → Hp → Prop), Inv X pins σ H s → t σ H Q → wpAny (model X.prog X.w) X.A (spliced (backTo pos (starEach es X.env))) (AP X pins σ Q) X.xe s
def PS (X : Cx) (st : Stmt) (t : TS) : Prop :=
 ∀ (pins : List (Addr × Obj)) (s : Shared) (σ : St) (H : Hp) (D : Ends), Inv X pins σ H s → t D σ H → wpAny (model X.prog X.w) X.A (exec st X.env) (SP X pins D) X.xe s
def PSs (X : Cx) (st : List Stmt) (t : TS) : Prop :=
 ∀ (pins : List (Addr × Obj)) (s : Shared) (σ : St) (H : Hp) (D : Ends), Inv X pins σ H s → t D σ H → wpAny (model X.prog X.w) X.A (execs st X.env) (SP X pins D) X.xe s
theorem thn {α : Type} {t : Sem α} {Q Q' : α → Shared → Prop} {M : Model} {A : Around} {E : Value → Shared → Prop} {s : Shared} (h : wpAny M A t Q E s) (hQ : ∀ a s, Q a s → Q' a s) : wpAny M A t Q' E s := wpAny_mono h hQ fun _ _ x => x
end L2
namespace L2
open PySem PySem.Spec PyProof.Rows
section
variable {X : Cx}
noncomputable def tVar (i : Nat) : TE := fun σ H Q => ∃ v, σ[i]? = some (some v) ∧ Q v H
noncomputable def tC (v : V) : TE := fun _ H Q => Q v H
theorem Qas {i : Nat} {x : Str} {pos : Pos} (hN : X.N[i]? = some x) (hv : Vis X.env.scope x) (hd : (x == ("__debug__" : Str)) = false := by decide) (hcd : (x == ("__classdict__" : Str)) = false := by decide) : PE X (.Name x pos) (tVar i) := by
 intro pins s σ H Q I h
 obtain ⟨v, e, h⟩ := h
 obtain ⟨m, hn, hl⟩ := I.loc
 obtain ⟨u, r, l⟩ := hl i x v hN e hv
 have fin : EP X pins σ Q u s := ⟨v, H, I, r, h⟩
 rcases l with ⟨hk, hm⟩ | ⟨hk, c, hc, hcell⟩
 ·exact wpAny_Name (wpAny_loadName_local I.ok.kind hk hn hm fin) hd
 ·rcases hk with hk | hk
  ·exact wpAny_Name (wpAny_loadName_cell I.ok.kind hk hc hcell fin) hd
  ·exact wpAny_Name (wpAny_loadName_free I.ok.kind hk hc hcell fin hcd) hd
theorem Qat {i j pos} : PE X (.Constant (.int i) j pos) (tC (.int i)) := fun _ _ _ H _ I h => wpAny_Constant_int ⟨.int i, H, I.tok _, ⟨_, rfl⟩, h⟩
theorem Qau {b j pos} : PE X (.Constant (.bool b) j pos) (tC (.bl b)) := fun _ _ _ H _ I h => Constant_bool ⟨.bl b, H, I, rfl, h⟩
theorem Qav {j pos} : PE X (.Constant .none j pos) (tC .non) := fun _ _ _ H _ I h => Constant_none ⟨.non, H, I, rfl, h⟩
theorem Qaw {x j pos} : PE X (.Constant (.str x) j pos) (tC (.str x)) := fun _ _ _ H _ I h => Calls.Constant_str ⟨.str x, H, I.tok _, ⟨_, rfl⟩, h⟩
def Gl (X : Cx) (x : Str) : Prop := X.env.kindOf x = some .globalImplicit
theorem Qax {E : Value → Shared → Prop} {pins : List (Addr × Obj)} {s : Shared} {σ : St} {H : Hp} {x : Str} {u : Value} {pos : Pos} {Q : Value → Shared → Prop} (I : Inv X pins σ H s) (hg : Gl X x) (hm : X.mg x = some u) (h : Q u s)
  (hd : (x == ("__debug__" : Str)) = false := by decide) : wpAny (model X.prog X.w) X.A (eval (.Name x pos) X.env) Q E s :=
 Calls.Name_function_global I.ok.kind hg (Calls.loadGlobal_global (by rw [I.ok.glob]; exact I.mod.glob.keeps I.bk) hm h) hd
theorem Qay {E : Value → Shared → Prop} {pins : List (Addr × Obj)} {s : Shared} {σ : St} {H : Hp} {x : Str} {u : Value} {pos : Pos} {Q : Value → Shared → Prop} (I : Inv X pins σ H s) (hg : Gl X x) (hm : X.mg x = none) (hv : bootBuiltins x = some u) (h : Q u s)
  (hn : x ≠ "__name__" := by decide) (hd : (x == ("__debug__" : Str)) = false := by decide) : wpAny (model X.prog X.w) X.A (eval (.Name x pos) X.env) Q E s := by
 obtain ⟨mb, h1, h2⟩ := I.mod.blt
 exact Calls.Name_function_global I.ok.kind hg (Calls.loadGlobal_builtin (by rw [I.ok.glob]; exact I.mod.glob.keeps I.bk) hm (by rw [I.ok.blt]; exact h1.keeps I.bk) ((h2 x hn).trans hv) h) hd
theorem Qaz {x : Str} {v : V} {u : Value} {pos : Pos} (hg : Gl X x) (hm : X.mg x = some u) (r : RelV v u) (hd : (x == ("__debug__" : Str)) = false := by decide) : PE X (.Name x pos) (tC v) :=
 fun _ _ _ H _ I h => Qax I hg hm ⟨v, H, I, r, h⟩ hd
variable {a b : Expr} {ta tb : TE} {pos : Pos}
variable {tA tB' : TT} {rest : List Expr}
noncomputable def tAnd (t u : TT) : TT := fun σ H Q => t σ H fun c H1 => if c = true then u σ H1 Q else Q false H1
noncomputable def tOr (t u : TT) : TT := fun σ H Q => t σ H fun c H1 => if c = true then Q true H1 else u σ H1 Q
noncomputable def tNot (t : TT) : TT := fun σ H Q => t σ H fun c H1 => Q (!c) H1
theorem QaA (ha : PT X a tA) : PW X (.BoolOp .And [a] pos) tA := by
 intro wh pins s σ H Q I h
 refine isTrue_and (thn (ha pins s σ H Q I h) fun c s1 e => ?_)
 cases c with
 | true => exact isTrue_and_nil e
 | false => exact e
theorem QaB (ha : PT X a tA) : PW X (.BoolOp .Or [a] pos) tA := by
 intro wh pins s σ H Q I h
 refine isTrue_or (thn (ha pins s σ H Q I h) fun c s1 e => ?_)
 cases c with
 | false => exact isTrue_or_nil e
 | true => exact e
theorem QaC (ha : PT X a tA) (hb : PW X (.BoolOp .And (b :: rest) pos) tB') : PW X (.BoolOp .And (a :: b :: rest) pos) (tAnd tA tB') := by
 intro wh pins s σ H Q I h
 refine isTrue_and (thn (ha pins s σ H _ I h) fun c s1 pq2 => ?_)
 obtain ⟨H1, I1, q1⟩ := pq2
 cases c with
 | true => exact hb wh pins s1 σ H1 Q I1 q1
 | false => exact ⟨H1, I1, q1⟩
theorem QaD (ha : PT X a tA) (hb : PW X (.BoolOp .Or (b :: rest) pos) tB') : PW X (.BoolOp .Or (a :: b :: rest) pos) (tOr tA tB') := by
 intro wh pins s σ H Q I h
 refine isTrue_or (thn (ha pins s σ H _ I h) fun c s1 pq3 => ?_)
 obtain ⟨H1, I1, q1⟩ := pq3
 cases c with
 | true => exact ⟨H1, I1, q1⟩
 | false => exact hb wh pins s1 σ H1 Q I1 q1
theorem QaE (ha : PT X a tA) : PT X (.UnaryOp .Not a pos) (tNot tA) := by
 intro pins s σ H Q I h
 exact isTrue_not (ha pins s σ H (fun c H1 => Q (!c) H1) I h)
noncomputable def tAndV (ta tb : TE) : TE := fun σ H Q => ta σ H fun x H1 => ∃ c, x = .bl c ∧ if c = true then tb σ H1 Q else Q (.bl false) H1
noncomputable def tOrV (ta tb : TE) : TE := fun σ H Q => ta σ H fun x H1 => ∃ c, x = .bl c ∧ if c = true then Q (.bl true) H1 else tb σ H1 Q
theorem QaF {op} {t : TE} (h : PE X a t) : PE X (.BoolOp op [a] pos) t := fun pins s σ H Q I hw => BoolOp_one (h pins s σ H Q I hw)
theorem QaG (ha : PE X a ta) (hb : PE X (.BoolOp .And (b :: rest) pos) tb) : PE X (.BoolOp .And (a :: b :: rest) pos) (tAndV ta tb) := by
 intro pins s σ H Q I h
 refine BoolOp_and (thn (ha pins s σ H _ I h) fun v s1 pq4 => ?_)
 obtain ⟨x, H1, I1, r1, q1⟩ := pq4
 obtain ⟨c, rfl, q1⟩ := q1
 cases r1
 refine wpAny_truthy_bool ?_
 cases c with
 | true => exact hb pins s1 σ H1 Q I1 q1
 | false => exact ⟨.bl false, H1, I1, rfl, q1⟩
theorem QaH (ha : PE X a ta) (hb : PE X (.BoolOp .Or (b :: rest) pos) tb) : PE X (.BoolOp .Or (a :: b :: rest) pos) (tOrV ta tb) := by
 intro pins s σ H Q I h
 refine BoolOp_or (thn (ha pins s σ H _ I h) fun v s1 pq5 => ?_)
 obtain ⟨x, H1, I1, r1, q1⟩ := pq5
 obtain ⟨c, rfl, q1⟩ := q1
 cases r1
 refine wpAny_truthy_bool ?_
 cases c with
 | false => exact hb pins s1 σ H1 Q I1 q1
 | true => exact ⟨.bl true, H1, I1, rfl, q1⟩
end
end L2
namespace L2
open PySem PySem.Spec PyProof.Rows
def SqL (K : PySem.W.Frag) (H : Hp) (a : Addr) (xs : List V) : Prop :=
 Rd H a (.lst xs) ∨
  ∃ (o : Obj) (its : Array Value) (n : Nat), K.lookup a = some o ∧ o.cls = .type "list" ∧ o.dict = none ∧ o.data = .seq its n ∧ its.size ≤ sizeLine ∧ Vals xs its.toList
def SqT (K : PySem.W.Frag) (H : Hp) (a : Addr) (xs : List V) : Prop :=
 Rd H a (.tup xs) ∨
  ∃ (o : Obj) (its : Array Value) (n : Nat), K.lookup a = some o ∧ o.cls = .type "tuple" ∧ o.data = .seq its n ∧ its.size ≤ sizeLine ∧ Vals xs its.toList
noncomputable def absV : Value → Option V
 | .none => some .non
 | .bool b => some (.bl b)
 | .int i _ => some (.int i)
 | .str x _ => some (.str x)
 | .bytes b _ => some (.byt b)
 | .float b _ => some (.flt b)
 | .ref a => some (.ref a)
 | .type n => some (.ty n)
 | _ => none
theorem RelV.abs {x : V} {u : Value} (r : RelV x u) : absV u = some x := by
 cases x with
 | non => cases r; rfl
 | bl _ => cases r; rfl
 | int _ => obtain ⟨t, rfl⟩ := r; rfl
 | str _ => obtain ⟨t, rfl⟩ := r; rfl
 | byt _ => obtain ⟨t, rfl⟩ := r; rfl
 | flt _ => obtain ⟨t, rfl⟩ := r; rfl
 | ref _ => cases r; rfl
 | ty _ => cases r; rfl
theorem RelV.inj {x y : V} {u : Value} (r : RelV x u) (q : RelV y u) : x = y := Option.some.inj (r.abs.symm.trans q.abs)
theorem Vals.inj : ∀ {xs ys : List V} {us : List Value}, Vals xs us → Vals ys us → xs = ys
 | _, _, _, .nil, .nil => rfl
 | _, _, _, .cons r t, .cons r' t' => by rw [r.inj r', Vals.inj t t']
section
variable {X : Cx} {pins : List (Addr × Obj)} {σ : St} {H : Hp} {s : Shared} {a : Addr} {xs ys : List V}
theorem SqL.of {K : PySem.W.Frag} (h : H a = some (.lst xs)) : SqL K H a xs := .inl (.inl h)
theorem SqT.of {K : PySem.W.Frag} (h : H a = some (.tup xs)) : SqT K H a xs := .inl (.inl h)
theorem Inv.list (I : Inv X pins σ H s) (h : SqL X.K H a xs) : ∃ its : List Value, Vals xs its ∧ PlainL s.heap a its.toArray ∧ xs.length ≤ sizeLine := by
 rcases h with h | ⟨o, its, n, hk, hc, hd, hs, hz, r⟩
 ·obtain ⟨z, its, n, r, e⟩ := h.ok I.hok
  exact ⟨its, r, ⟨_, n, e, rfl, rfl, rfl⟩, z⟩
 ·refine ⟨its.toList, r, ⟨o, n, I.kIn a o hk, hc, hd, by simpa using hs⟩, ?_⟩
  have e := r.length
  simp only [Array.length_toList] at e
  ac_nf
theorem Inv.tuple (I : Inv X pins σ H s) (h : SqT X.K H a xs) : ∃ its : List Value, Vals xs its ∧ IsTup s.heap a its.toArray ∧ xs.length ≤ sizeLine := by
 rcases h with h | ⟨o, its, n, hk, hc, hs, hz, r⟩
 ·obtain ⟨z, its, r, p⟩ := h.ok I.hok
  exact ⟨its, r, p, z⟩
 ·refine ⟨its.toList, r, ⟨o, I.kIn a o hk, hc, n, by simpa using hs⟩, ?_⟩
  have e := r.length
  simp only [Array.length_toList] at e
  ac_nf
theorem Inv.list_inj (I : Inv X pins σ H s) (h : SqL X.K H a xs) (h' : SqL X.K H a ys) : xs = ys := by
 obtain ⟨its, r, ⟨o, n, e, _, _, d⟩, _⟩ := I.list h
 obtain ⟨its', r', ⟨o', n', e', _, _, d'⟩, _⟩ := I.list h'
 rw [e] at e'; cases e'
 rw [d] at d'
 injection d' with d1 _
 have : its = its' := by simpa using congrArg Array.toList d1
 subst this
 exact r.inj r'
theorem Inv.tuple_inj (I : Inv X pins σ H s) (h : SqT X.K H a xs) (h' : SqT X.K H a ys) : xs = ys := by
 obtain ⟨its, r, ⟨o, e, _, n, d⟩, _⟩ := I.tuple h
 obtain ⟨its', r', ⟨o', e', _, n', d'⟩, _⟩ := I.tuple h'
 rw [e] at e'; cases e'
 rw [d] at d'
 injection d' with d1 _
 have : its = its' := by simpa using congrArg Array.toList d1
 subst this
 exact r.inj r'
end
noncomputable abbrev Cx.wish (X : Cx) (E : Value → Shared → Prop) : Cx := { X with xe := E }
noncomputable abbrev Cx.nox (X : Cx) : Cx := X.wish fun _ _ => False
theorem Cx.Ok.wish {X : Cx} (ok : X.Ok) (E : Value → Shared → Prop) : (X.wish E).Ok :=
 ⟨ok.mod, ok.kind, ok.glob, ok.blt, ok.above, ok.inj, ok.has, ok.cab, ok.hd, ok.frames, ok.stk, ok.exf, ok.bs, ok.bsz, ok.noex, ok.exfs, ok.funs, ok.frf⟩
theorem Cx.Ok.unwish {X : Cx} {E : Value → Shared → Prop} (ok : (X.wish E).Ok) : X.Ok :=
 ⟨ok.mod, ok.kind, ok.glob, ok.blt, ok.above, ok.inj, ok.has, ok.cab, ok.hd, ok.frames, ok.stk, ok.exf, ok.bs, ok.bsz, ok.noex, ok.exfs, ok.funs, ok.frf⟩
section
variable {X : Cx} {pins : List (Addr × Obj)} {σ : St} {H : Hp} {s : Shared} {E : Value → Shared → Prop}
theorem Inv.wish (I : Inv X pins σ H s) (E : Value → Shared → Prop) : Inv (X.wish E) pins σ H s := ⟨I.ok.wish E, I.os, I.bare, I.base, I.loc, I.cell, I.free, I.freeC, I.pin, I.hok, I.len⟩
theorem Inv.unwish (I : Inv (X.wish E) pins σ H s) : Inv X pins σ H s := ⟨I.ok.unwish, I.os, I.bare, I.base, I.loc, I.cell, I.free, I.freeC, I.pin, I.hok, I.len⟩
theorem SP.unwish {D : Ends} {f : Flow} {s' : Shared} (h : SP (X.wish E) pins D f s') : SP X pins D f s' := by
 cases f with
 | next => obtain ⟨σ', H', I, q⟩ := h; exact ⟨σ', H', I.unwish, q⟩
 | brk => obtain ⟨σ', H', I, q⟩ := h; exact ⟨σ', H', I.unwish, q⟩
 | cont => obtain ⟨σ', H', I, q⟩ := h; exact ⟨σ', H', I.unwish, q⟩
 | ret u => obtain ⟨v, σ', H', I, r, q⟩ := h; exact ⟨v, σ', H', I.unwish, r, q⟩
theorem PE.nox {e : Expr} {t : TE} (h : PE X.nox e t) : PE X e t := fun pins s σ H Q I hw =>
 wpAny_mono (h pins s σ H Q (I.wish _) hw) (fun _ _ pq6 => by obtain ⟨v, H', I', r, q⟩ := pq6; exact ⟨v, H', I'.unwish, r, q⟩) fun _ _ z => False.elim z
theorem PT.nox {e : Expr} {t : TT} (h : PT X.nox e t) : PT X e t := fun pins s σ H Q I hw =>
 wpAny_mono (h pins s σ H Q (I.wish _) hw) (fun _ _ pq7 => by obtain ⟨H', I', q⟩ := pq7; exact ⟨H', I'.unwish, q⟩) fun _ _ z => False.elim z
theorem PSs.nox {st : List Stmt} {t : TS} (h : PSs X.nox st t) : PSs X st t := fun pins s σ H D I hw =>
 wpAny_mono (h pins s σ H D (I.wish _) hw) (fun _ _ q => q.unwish) fun _ _ z => False.elim z
end
section
variable {X : Cx} {st : Stmt} {rest : List Stmt} {t u : TS} {e : Expr} {te : TE} {pos : Pos}
noncomputable def tNext : TS := fun D σ H => D.nx σ H
noncomputable def tSeq (t u : TS) : TS := fun D σ H => t { D with nx := u D } σ H
theorem QaI : PSs X [] tNext := fun _ _ σ H _ I h => wpAny_execs_nil ⟨σ, H, I, h⟩
theorem QaJ (h1 : PS X st t) (h2 : PSs X rest u) : PSs X (st :: rest) (tSeq t u) := by
 intro pins s σ H D I h
 refine wpAny_execs_cons (thn (h1 pins s σ H { D with nx := u D } I h) fun f s1 q => ?_)
 cases f with
 | next =>
  obtain ⟨σ', H', I', q⟩ := q
  exact h2 pins s1 σ' H' D I' q
 | ret v => exact q
 | brk => exact q
 | cont => exact q
theorem Inv.quiet {pins : List (Addr × Obj)} {σ : St} {H : Hp} {s : Shared} (I : Inv X pins σ H s) : interactive X.env = false := by simp [interactive, I.ok.kind]
noncomputable def tRet (te : TE) : TS := fun D σ H => te σ H D.rt
theorem QaK (he : PE X e te) : PS X (.Return (some e) pos) (tRet te) := by
 intro pins s σ H D I h
 exact wpAny_Return_some (thn (he pins s σ H _ I h) fun v s1 pq8 => by obtain ⟨x, H1, I1, r1, q1⟩ := pq8; exact ⟨x, σ, H1, I1, r1, q1⟩)
noncomputable def tIfS (c : TT) (t u : TS) : TS := fun D σ H => c σ H fun b H1 => if b = true then t D σ H1 else u D σ H1
theorem QaL {c : Expr} {a b : List Stmt} {tc : TT} (hc : PT X c tc) (ha : PSs X a t) (hb : PSs X b u) : PS X (.If c a b pos) (tIfS tc t u) := by
 intro pins s σ H D I h
 refine wpAny_If (thn (hc pins s σ H _ I h) fun d s1 pq9 => ?_)
 obtain ⟨H1, I1, q1⟩ := pq9
 cases d with
 | true => exact ha pins s1 σ H1 D I1 q1
 | false => exact hb pins s1 σ H1 D I1 q1
noncomputable def tNever : TS := fun _ _ _ => False
theorem QaM : PS X st tNever := fun _ _ _ _ _ _ h => h.elim
end
noncomputable abbrev TG := V → St → Hp → (St → Hp → Prop) → Prop
noncomputable abbrev TGs := List V → St → Hp → (St → Hp → Prop) → Prop
def PG (X : Cx) (target : Expr) (t : TG) : Prop :=
 ∀ (pins : List (Addr × Obj)) (s : Shared) (σ : St) (H : Hp) (v : V) (u : Value) (Q : St → Hp → Prop), Inv X pins σ H s → RelV v u → t v σ H Q →
  wpAny (model X.prog X.w) X.A (assign target X.env u) (fun _ s' => ∃ σ' H', Inv X pins σ' H' s' ∧ Q σ' H') X.xe s
def PGs (X : Cx) (ts : List Expr) (t : TGs) : Prop :=
 ∀ (pins : List (Addr × Obj)) (s : Shared) (σ : St) (H : Hp) (vs : List V) (us : List Value) (Q : St → Hp → Prop), Inv X pins σ H s → Vals vs us → t vs σ H Q →
  wpAny (model X.prog X.w) X.A (assignInOrder ((assignEach ts X.env).map (·.2)) us) (fun _ s' => ∃ σ' H', Inv X pins σ' H' s' ∧ Q σ' H') X.xe s
noncomputable abbrev TSet := V → V → V → Hp → (Hp → Prop) → Prop
def PSet (X : Cx) (t : TSet) : Prop :=
 ∀ (pins : List (Addr × Obj)) (s : Shared) (σ : St) (H : Hp) (o i v : V) (ov iv u : Value) (Q : Hp → Prop), Inv X pins σ H s → RelV o ov → RelV i iv → RelV v u → t o i v H Q →
  wpAny (model X.prog X.w) X.A (setItem ov iv u) (fun _ s' => ∃ H', Inv X pins σ H' s' ∧ Q H') X.xe s
section
variable {X : Cx} {pos : Pos}
noncomputable def gName (i : Nat) : TG := fun v σ H Q => Q (σ.set i (some v)) H
theorem QaN {i : Nat} {x : Str} (hN : X.N.Nodup) (hi : X.N[i]? = some x) (hx : Loc X.env.scope x) (hf : X.fn x = true ∨ X.env.scope.names.lookup x = some .local := by first | exact .inl rfl | exact .inr rfl | assumption) : PG X (.Name x pos) (gName i) := by
 intro pins s σ H v u Q I r h
 exact wpAny_assign_Name (Qar I hN hi hx r (fun s' I' => ⟨_, H, I', h⟩) hf)
noncomputable def gNil : TGs := fun vs σ H Q => vs = [] ∧ Q σ H
noncomputable def gCons (t : TG) (u : TGs) : TGs := fun vs σ H Q => ∃ v r, vs = v :: r ∧ t v σ H fun σ' H' => u r σ' H' Q
theorem QaO : PGs X [] gNil := by
 intro pins s σ H vs us Q I r h
 obtain ⟨e, h⟩ := h
 subst e
 cases r
 exact assignInOrder_nil ⟨σ, H, I, h⟩
theorem QaP {e : Expr} {es : List Expr} {t : TG} {u : TGs} (h1 : PG X e t) (h2 : PGs X es u)
  (hs : (assignEach (e :: es) X.env).map (·.2) = assign e X.env :: (assignEach es X.env).map (·.2) := by rfl) : PGs X (e :: es) (gCons t u) := by
 intro pins s σ H vs us Q I r h
 obtain ⟨v, vr, e1, h⟩ := h
 subst e1
 cases r with
 | cons r rr =>
  rw [hs]
  refine assignInOrder_cons (thn (h1 pins s σ H _ _ _ I r h) fun _ s1 pq10 => ?_)
  obtain ⟨σ1, H1, I1, q1⟩ := pq10
  exact h2 pins s1 σ1 H1 _ _ Q I1 rr q1
noncomputable def gTup (K : PySem.W.Frag) (n : Nat) (t : TGs) : TG := fun v σ H Q => ∃ a xs, v = .ref a ∧ SqT K H a xs ∧ xs.length = n ∧ t xs σ H Q
theorem QaQ {es : List Expr} {k : Nat} {t : TGs} {n : Nat} (hc : X.calm = true) (h : PGs X es t)
  (hn : (assignEach es X.env).length = n := by rfl) (hst : (assignEach es X.env).findIdx? (·.1) = none := by rfl) : PG X (.Tuple es k pos) (gTup X.K n t) := by
 intro pins s σ H v u Q I r hw
 obtain ⟨a, xs, e1, hq, hl, hw⟩ := hw
 subst e1
 cases r
 obtain ⟨its, rv, ht, hz⟩ := I.tuple hq
 refine assign_Tuple_tuple (I.ok.hd hc) ht (by simp [hn, ← hl, rv.length]) hst fun h' hx => ?_
 have I1 : Inv X pins σ H { s with heap := h' } := I.kept (t' := s.toks) fun b o e => hx b o (Nat.ne_of_lt (Heap.lt_size e)) e
 exact h pins _ σ H xs _ Q I1 (by simpa using rv) hw
noncomputable def gSub (to ti : TE) (t : TSet) : TG := fun v σ H Q => to σ H fun o H1 => ti σ H1 fun i H2 => t o i v H2 fun H3 => Q σ H3
theorem QaR {o i : Expr} {to ti : TE} {t : TSet} (ho : PE X o to) (hi : PE X i ti) (hs : PSet X t)
  (ha : ∀ v, assign (.Subscript o i pos) X.env v = (do
   let ov ← holding [v] (eval o X.env)
   let iv ← holding [v, ov] (eval i X.env)
   standAt pos
   holding [v, ov, iv] (setItem ov iv v)
   release [v, ov, iv] []) := by intro _; rfl) : PG X (.Subscript o i pos) (gSub to ti t) := by
 intro pins s σ H v u Q I r h
 rw [ha]
 refine wpAny_bind (wpAny_holding (thn (ho pins s σ H _ I h) fun ov s1 pq11 => ?_))
 obtain ⟨x, H1, I1, r1, q1⟩ := pq11
 refine wpAny_bind (wpAny_holding (thn (hi pins s1 σ H1 _ I1 q1) fun iv s2 pq12 => ?_))
 obtain ⟨y, H2, I2, r2, q2⟩ := pq12
 refine wpAny_bind (wpAny_standAt (wpAny_bind (wpAny_holding (thn (hs pins s2 σ H2 x y v ov iv u _ I2 r1 r2 r q2) fun _ s3 pq13 => ?_))))
 obtain ⟨H3, I3, q3⟩ := pq13
 exact wpAny_release ⟨σ, H3, I3, q3⟩
noncomputable def tAsg (te : TE) (g : TG) : TS := fun D σ H => te σ H fun x H1 => g x σ H1 D.nx
theorem QaS {tg e : Expr} {te : TE} {g : TG} (he : PE X e te) (hg : PG X tg g) (hs : swapsWithSole [tg] e pos.line X.env = pure false := by rfl) (hw : swappedStores [tg] e X.env = pure none := by rfl)
  (h1 : (assignEach [tg] X.env).map (·.2) = [assign tg X.env] := by rfl) : PS X (.Assign [tg] e pos) (tAsg te g) := by
 intro pins s σ H D I h
 refine wpAny_Assign_stores (thn (he pins s σ H _ I h) fun v s1 ⟨x, H1, I1, r1, q1⟩ => ?_) hs hw
 rw [h1]
 exact thn (hg pins s1 σ H1 x v _ I1 r1 q1) fun _ s2 q => q
theorem QaT {i : Nat} {x : Str} {e : Expr} {te : TE} {pos' : Pos} (hN : X.N.Nodup) (hi : X.N[i]? = some x) (hx : Loc X.env.scope x) (he : PE X e te) (hs : swapsWith e (some (.Name x pos')) pos.line X.env = pure false := by rfl) (hf : X.fn x = true ∨ X.env.scope.names.lookup x = some .local := by first | exact .inl rfl | exact .inr rfl | assumption) :
  PS X (.Assign [.Name x pos'] e pos) (tAsg te (gName i)) := by
 intro pins s σ H D I h
 refine wpAny_Assign_Name (thn (he pins s σ H _ I h) fun v s1 ⟨y, H1, I1, r1, q1⟩ => ?_) hs
 exact Qar I1 hN hi hx r1 (fun s2 I2 => ⟨_, H1, I2, q1⟩) hf
end
section
variable {X : Cx} {pos : Pos}
noncomputable def tWhile (c : TT) (tb : TS) : TS := fun D σ H => ∃ W : Nat → St → Hp → Prop, (∃ m, W m σ H) ∧ ∀ m σ H, W m σ H →
 c σ H fun b H1 => if b = true then ∃ N : St → Hp → Prop, (∀ σ' H', N σ' H' → ∃ m', m' < m ∧ W m' σ' H') ∧ tb { D with nx := N, ct := N, bk := D.nx } σ H1 else D.nx σ H1
theorem QaU {c : Expr} {body : List Stmt} {tc : TT} {tb : TS} (hp : PassesOwn (model X.prog X.w) X.A X.env X.xe) (hc : PT X c tc) (hb : PSs X body tb) : PS X (.While c body [] pos) (tWhile tc tb) := by
 intro pins s σ H D I h
 obtain ⟨W, ⟨m0, w0⟩, turn⟩ := h
 refine wpAny_While (codeAny_whileLoop (fun n s' => ∃ σ' H', Inv X pins σ' H' s' ∧ W n σ' H') ?_ m0 ⟨σ, H, I, w0⟩)
 rintro n s1 ⟨σ1, H1, I1, w1⟩
 refine wpAny_passesOwn hp (thn (hc pins s1 σ1 H1 _ I1 (turn n σ1 H1 w1)) fun b s2 pq16 => ?_)
 obtain ⟨H2, I2, q2⟩ := pq16
 cases b with
 | true =>
  obtain ⟨N, hN, q2⟩ := q2
  rw [if_pos rfl]
  refine wpAny_passesOwn hp (thn (hb pins s2 σ1 H2 _ I2 q2) fun f s3 q3 => ?_)
  cases f with
  | next =>
   obtain ⟨σ3, H3, I3, n3⟩ := q3
   obtain ⟨m', hm, w3⟩ := hN σ3 H3 n3
   exact ⟨m', hm, σ3, H3, I3, w3⟩
  | cont =>
   obtain ⟨σ3, H3, I3, n3⟩ := q3
   obtain ⟨m', hm, w3⟩ := hN σ3 H3 n3
   exact ⟨m', hm, σ3, H3, I3, w3⟩
  | brk => exact q3
  | ret v => exact q3
 | false =>
  rw [if_neg Bool.false_ne_true]
  exact wpAny_execs_nil ⟨σ1, H2, I2, q2⟩
end
structure It where
 go : Nat → Hp → Prop
 yld : Nat → Hp → V → Hp → Prop
 stop : Nat → Hp → Prop
def FpOk (X : Cx) (pins : List (Addr × Obj)) (H : Hp) (b : Addr) : Prop :=
 H b = none ∧ b ≠ X.env.locals ∧ b ∉ X.fs ∧ (b ∈ X.ex ∨ X.s₀.heap.objs.size ≤ b) ∧ (∀ x c, X.env.cells.lookup x = some c → c ≠ b) ∧ ∀ p ∈ X.pn ++ pins, p.1 ≠ b
theorem Inv.fpOk {X : Cx} {pins : List (Addr × Obj)} {σ : St} {H H' : Hp} {s : Shared} {b : Addr} (I : Inv X pins σ H s) (hb : s.heap.objs.size ≤ b) (hn : H' b = none) : FpOk X pins H' b := by
 refine ⟨hn, Nat.ne_of_gt (Nat.lt_of_lt_of_le I.lt hb), I.nofs hb, .inr (Nat.le_trans I.sz hb), fun x c e z => ?_, fun p hp z => ?_⟩
 ·obtain ⟨v, q⟩ := I.cell x c e
  exact absurd (Nat.lt_of_lt_of_le q.lt (by rw [z]; exact hb)) (Nat.lt_irrefl _)
 ·exact absurd (Nat.lt_of_lt_of_le (Heap.lt_size (I.pin p hp).1) (by rw [z]; exact hb)) (Nat.lt_irrefl _)
structure Turn (P : Program) (w : World) (K : PySem.W.Frag) (tg : Expr) (J : It) (fp : List Addr) (it : Addr) (tn : Nat → Heap → Prop) : Prop where
 mem : it ∈ fp
 obj : ∀ i h, tn i h → ∀ b ∈ fp, ∃ o, h.get? b = some o ∧ ∀ v, o.data ≠ .cell v
 keep : ∀ i h h', tn i h → (∀ b ∈ fp, ∀ o, h.get? b = some o → h'.get? b = some o) → tn i h'
 item : ∀ (X : Cx), X.prog = P → X.w = w → X.K = K → X.calm = true → ∀ (i : Nat) (pins : List (Addr × Obj)) (s : Shared) (σ : St) (H : Hp) (E : Value → Shared → Prop), Inv X pins σ H s → (∀ b ∈ fp, FpOk X pins H b) → tn i s.heap → J.go i H →
  wpAny (model P w) X.A (pyNext (.ref it)) (fun r s1 => ∃ u, r = some u ∧
   wpAny (model P w) X.A (letOwnedTupleGo tg (.ref it) u) (fun _ s2 => ∃ x H', Inv X pins σ H' s2 ∧ RelV x u ∧ J.yld i H x H' ∧ tn (i + 1) s2.heap ∧ ∀ b ∈ fp, H' b = none) E s1) E s
 done : ∀ (X : Cx), X.prog = P → X.w = w → X.K = K → X.calm = true → ∀ (i : Nat) (pins : List (Addr × Obj)) (s : Shared) (σ : St) (H : Hp) (E : Value → Shared → Prop), Inv X pins σ H s → (∀ b ∈ fp, FpOk X pins H b) → tn i s.heap → J.stop i H →
  wpAny (model P w) X.A (pyNext (.ref it)) (fun r s1 => r = none ∧ Inv X pins σ H s1) E s
 self : ∀ (A : Around) (i : Nat) (s : Shared) (Q : Value → Shared → Prop) (E : Value → Shared → Prop), tn i s.heap → Q (.ref it) s → wpAny (model P w) A (pyIter (.ref it)) Q E s
noncomputable abbrev TI := St → Hp → (It → Hp → Prop) → Prop
def PIE (X : Cx) (pins : List (Addr × Obj)) (σ : St) (tg : Expr) (R : It → Hp → Prop) (itv : Value) (s2 : Shared) : Prop :=
 ∃ (it : Addr) (fp : List Addr) (tn : Nat → Heap → Prop) (J : It) (H' : Hp), itv = .ref it ∧ Inv X pins σ H' s2 ∧ Turn X.prog X.w X.K tg J fp it tn ∧ tn 0 s2.heap ∧ (∀ b ∈ fp, FpOk X pins H' b) ∧ R J H'
def PI (X : Cx) (tg iter : Expr) (wi : TI) : Prop :=
 ∀ (pins : List (Addr × Obj)) (s : Shared) (σ : St) (H : Hp) (R : It → Hp → Prop), Inv X pins σ H s → wi σ H R →
  wpAny (model X.prog X.w) X.A (eval iter X.env) (fun v s1 => wpAny (model X.prog X.w) X.A (pyIter v) (PIE X pins σ tg R) X.xe s1) X.xe s
theorem QaV {M : Model} {A : Around} {E : Value → Shared → Prop} {s : Shared} {tg : Expr} {it : Addr} {u : Value} {o : Obj} {n : String} {vs : Array Value} {Q : Unit → Shared → Prop} (ho : s.heap.get? it = some o) (hc : o.cls = .type n) (hd : o.data = .fields vs)
  (hn : ["enumerate", "zip", "dict_itemiterator", "dict_reverseitemiterator", "odict_iterator", "itertools.zip_longest", "itertools.pairwise"].contains n = false) (hQ : Q () s) : wpAny M A (letOwnedTupleGo tg (.ref it) u) Q E s := by
 unfold letOwnedTupleGo
 cases tg <;> first
  | exact wpAny_pure hQ
  | (cases u <;> first
    | exact wpAny_pure hQ
    | (refine wpAny_bind (wpAny_load ho ?_)
       rw [hc, hd]
       show wpAny M A (if (["enumerate", "zip", "dict_itemiterator", "dict_reverseitemiterator", "odict_iterator", "itertools.zip_longest", "itertools.pairwise"].contains n && vs[0]? == some (rawInt _)) = true then _ else _) Q E s
       rw [if_neg (by intro h; rw [hn, Bool.false_and] at h; cases h)]
       exact wpAny_pure hQ))
noncomputable def Itl (K : PySem.W.Frag) (a : Addr) : It :=
 ⟨fun i H => ∃ xs x, SqL K H a xs ∧ xs[i]? = some x, fun i H x H' => H' = H ∧ ∀ xs, SqL K H a xs → xs[i]? = some x, fun i H => ∃ xs, SqL K H a xs ∧ xs.length ≤ i⟩
noncomputable def Itt (K : PySem.W.Frag) (a : Addr) : It :=
 ⟨fun i H => ∃ xs x, SqT K H a xs ∧ xs[i]? = some x, fun i H x H' => H' = H ∧ ∀ xs, SqT K H a xs → xs[i]? = some x, fun i H => ∃ xs, SqT K H a xs ∧ xs.length ≤ i⟩
noncomputable def Itr (lo : Int) (n : Nat) : It := ⟨fun i _ => i < n, fun i H x H' => H' = H ∧ x = .int (lo + i), fun i _ => n ≤ i⟩
theorem QaW {P : Program} {w : World} {K : PySem.W.Frag} {tg : Expr} (a it : Addr) : Turn P w K tg (Itl K a) [it] it (fun i h => h.IsListIter it a i) where
 mem := by simp
 obj := fun i h st b hb => by
  have e : b = it := by simpa using hb
  subst e
  obtain ⟨o, e, c, d⟩ := st
  exact ⟨o, e, fun v z => by rw [d] at z; cases z⟩
 keep := fun i h h' st k => st.at fun o e => k it (by simp) o e
 item := by
  intro X hP hw hK hc i pins s σ H E I hf st hg
  subst hP hw hK
  obtain ⟨xs, x, hq, hx⟩ := hg
  obtain ⟨its, rv, p, hz⟩ := I.list hq
  obtain ⟨u, hu, ru⟩ := rv.get hx
  obtain ⟨f0, f1, f2, f3, f4, f5⟩ := hf it (by simp)
  refine wpAny_pyNext_list_item st p.isList (x := u) (by simpa using hu) fun h' st' sb => ?_
  have I1 : Inv X pins σ H { s with heap := h' } := I.turned (t' := s.toks) (fun b o hb e => (sb.2 b hb).trans e) f0 f1 f3 f4 f5
  obtain ⟨o, e, c, d⟩ := id st'
  exact ⟨u, rfl, QaV (s := { s with heap := h' }) e c d (by decide) ⟨x, H, I1, ru, ⟨rfl, fun ys hy => by rw [I.list_inj hy hq]; exact hx⟩, st', fun b hb => (hf b hb).1⟩⟩
 done := by
  intro X hP hw hK hc i pins s σ H E I hf st hg
  subst hP hw hK
  obtain ⟨xs, hq, hx⟩ := hg
  obtain ⟨its, rv, p, hz⟩ := I.list hq
  obtain ⟨f0, f1, f2, f3, f4, f5⟩ := hf it (by simp)
  have hl := rv.length
  exact wpAny_pyNext_list_end (I.ok.hd hc) st p.isList (by simp; ac_nf) fun h' eb => ⟨rfl, I.turned (t' := s.toks) (fun b o hb e => eb b o hb e) f0 f1 f3 f4 f5⟩
 self := fun _ _ _ _ _ st h => wpAny_pyIter_listiter st h
theorem QaX {P : Program} {w : World} {K : PySem.W.Frag} {tg : Expr} (a it : Addr) : Turn P w K tg (Itt K a) [it] it (fun i h => h.IsTupleIter it a i) where
 mem := by simp
 obj := fun i h st b hb => by
  have e : b = it := by simpa using hb
  subst e
  obtain ⟨o, e, c, d⟩ := st
  exact ⟨o, e, fun v z => by rw [d] at z; cases z⟩
 keep := fun i h h' st k => st.at fun o e => k it (by simp) o e
 item := by
  intro X hP hw hK hc i pins s σ H E I hf st hg
  subst hP hw hK
  obtain ⟨xs, x, hq, hx⟩ := hg
  obtain ⟨its, rv, p, hz⟩ := I.tuple hq
  obtain ⟨u, hu, ru⟩ := rv.get hx
  obtain ⟨f0, f1, f2, f3, f4, f5⟩ := hf it (by simp)
  refine wpAny_pyNext_tuple_item st (show s.heap.IsTuple a its.toArray from p) (x := u) (by simpa using hu) fun h' st' sb => ?_
  have I1 : Inv X pins σ H { s with heap := h' } := I.turned (t' := s.toks) (fun b o hb e => (sb.2 b hb).trans e) f0 f1 f3 f4 f5
  obtain ⟨o, e, c, d⟩ := id st'
  exact ⟨u, rfl, QaV (s := { s with heap := h' }) e c d (by decide) ⟨x, H, I1, ru, ⟨rfl, fun ys hy => by rw [I.tuple_inj hy hq]; exact hx⟩, st', fun b hb => (hf b hb).1⟩⟩
 done := by
  intro X hP hw hK hc i pins s σ H E I hf st hg
  subst hP hw hK
  obtain ⟨xs, hq, hx⟩ := hg
  obtain ⟨its, rv, p, hz⟩ := I.tuple hq
  obtain ⟨f0, f1, f2, f3, f4, f5⟩ := hf it (by simp)
  have hl := rv.length
  exact wpAny_pyNext_tuple_end (I.ok.hd hc) st (show s.heap.IsTuple a its.toArray from p) (by simp; ac_nf) fun h' eb => ⟨rfl, I.turned (t' := s.toks) (fun b o hb e => eb b o hb e) f0 f1 f3 f4 f5⟩
 self := fun _ _ _ _ _ st h => wpAny_pyIter_tupleiter st h
theorem QaY {P : Program} {w : World} {K : PySem.W.Frag} {tg : Expr} (it : Addr) (lo : Int) (n : Nat) : Turn P w K tg (Itr lo n) [it] it (fun i h => IsRangeIter h it (lo + (i : Nat) * 1) ((n : Int) - (i : Nat)) 1) where
 mem := by simp
 obj := fun i h st b hb => by
  have e : b = it := by simpa using hb
  subst e
  exact ⟨_, st, fun v z => by
   have z' : Data.fields _ = Data.cell v := z
   cases z'⟩
 keep := fun i h h' st k => k it (by simp) _ st
 item := by
  intro X hP hw hK hc i pins s σ H E I hf st hg
  subst hP hw hK
  obtain ⟨f0, f1, f2, f3, f4, f5⟩ := hf it (by simp)
  have W := Walks.range (prog := X.prog) (w := X.w) (I.ok.hd hc) it lo 1 n
  refine W.item i s _ _ hg st fun v h' tk hv st' kk => ?_
  obtain ⟨t, rfl⟩ := hv
  have I1 : Inv X pins σ H { s with heap := h', toks := tk } := I.turned (fun b o hb e => kk b o (by simpa using hb) e) f0 f1 f3 f4 f5
  refine ⟨_, rfl, QaV (s := { s with heap := h', toks := tk }) (n := "range_iterator") st' rfl rfl (by decide) ⟨.int (lo + i), H, I1, ⟨t, ?_⟩, ⟨rfl, rfl⟩, st', fun b hb => (hf b hb).1⟩⟩
  rw [Int.mul_one]
 done := by
  intro X hP hw hK hc i pins s σ H E I hf st hg
  subst hP hw hK
  obtain ⟨f0, f1, f2, f3, f4, f5⟩ := hf it (by simp)
  exact wpAny_pyNext_range_end (I.ok.hd hc) st (by have : n ≤ i := hg; ac_nf) fun h' eb => ⟨rfl, I.turned (t' := s.toks) (fun b o hb e => eb b o hb e) f0 f1 f3 f4 f5⟩
 self := fun _ _ _ _ _ st h => wpAny_pyIter_rangeiter st h
end L2
namespace L2
open PySem PySem.Spec PyProof.Rows
section
variable {X : Cx} {tg : Expr}
noncomputable def iList (K : PySem.W.Frag) (tl : TE) : TI := fun σ H R => tl σ H fun x H1 => ∃ a, x = .ref a ∧ (∃ xs, SqL K H1 a xs) ∧ R (Itl K a) H1
theorem QaZ {l : Expr} {tl : TE} (hl : PE X l tl) : PI X tg l (iList X.K tl) := by
 intro pins s σ H R I h
 refine thn (hl pins s σ H _ I h) fun v s1 pq17 => ?_
 obtain ⟨x, H1, I1, r1, q1⟩ := pq17
 obtain ⟨a, e, ⟨xs, hq⟩, q⟩ := q1
 subst e
 cases r1
 obtain ⟨its, rv, p, hz⟩ := I1.list hq
 refine wpAny_pyIter_list p.isList ?_
 refine ⟨s1.heap.objs.size, [s1.heap.objs.size], _, _, H1, rfl, I1.kept (t' := s1.toks) fun b o e => Heap.get?_push_of_some _ e, QaW a _, ⟨_, Heap.get?_push_size _ rfl, rfl, rfl⟩, fun b hb => ?_, q⟩
 have e : b = s1.heap.objs.size := by simpa using hb
 subst e
 exact I1.fpOk (Nat.le_refl _) (I1.hok.fresh (Nat.le_refl _))
theorem Qa0 {pins : List (Addr × Obj)} {σ : St} {H : Hp} {s : Shared} {R : It → Hp → Prop} {E : Value → Shared → Prop} {lo hi : Int} {t u v : Tok} {tk : Nat} (I : Inv X pins σ H s) (h1 : -(2 ^ 62) ≤ lo) (h2 : lo < 2 ^ 62) (h3 : -(2 ^ 62) ≤ hi) (h4 : hi < 2 ^ 62)
  (q : R (Itr lo (hi - lo).toNat) H) : wpAny (model X.prog X.w) X.A (pyIter (.ref s.heap.objs.size)) (PIE X pins σ tg R) E { s with heap := s.heap.push { cls := .type "range", data := .fields #[.int lo t, .int hi u, .int 1 v] }, toks := tk } := by
 refine wpAny_pyIter_range (IsRange.new ..) (small_one h1 h2 h3 h4) ?_
 have I1 : Inv X pins σ H { s with heap := s.heap.push { cls := .type "range", data := .fields #[.int lo t, .int hi u, .int 1 v] }, toks := tk } := I.kept fun b o e => Heap.get?_push_of_some _ e
 refine ⟨(s.heap.push { cls := .type "range", data := .fields #[.int lo t, .int hi u, .int 1 v] }).objs.size, [(s.heap.push { cls := .type "range", data := .fields #[.int lo t, .int hi u, .int 1 v] }).objs.size], _, _, H, rfl,
  I1.kept (t' := tk) fun b o e => Heap.get?_push_of_some _ e, QaY _ lo (hi - lo).toNat, ?_, fun b hb => ?_, q⟩
 ·have e1 : lo + ((0 : Nat) : Int) * 1 = lo := by simp
  have e2 : (((hi - lo).toNat : Nat) : Int) - ((0 : Nat) : Int) = Builtin.Range.rangeSize lo hi 1 := by rw [rangeSize_one]; split <;> ac_nf
  show IsRangeIter _ _ (lo + ((0 : Nat) : Int) * 1) ((((hi - lo).toNat : Nat) : Int) - ((0 : Nat) : Int)) 1
  rw [e1, e2]
  exact Heap.get?_push_size _ rfl
 ·have e : b = (s.heap.push { cls := .type "range", data := .fields #[.int lo t, .int hi u, .int 1 v] }).objs.size := by simpa using hb
  subst e
  exact I1.fpOk (Nat.le_refl _) (I1.hok.fresh (Nat.le_refl _))
noncomputable def iRng1 (ta : TA) : TI := fun σ H R => ta σ H fun vs H1 => ∃ j : Int, vs = [.int j] ∧ -(2 ^ 62) ≤ j ∧ j < 2 ^ 62 ∧ R (Itr 0 j.toNat) H1
noncomputable def iRng2 (ta : TA) : TI := fun σ H R => ta σ H fun vs H1 => ∃ i j : Int, vs = [.int i, .int j] ∧ (-(2 ^ 62) ≤ i ∧ i < 2 ^ 62 ∧ -(2 ^ 62) ≤ j ∧ j < 2 ^ 62) ∧ R (Itr i (j - i).toNat) H1
theorem Qa1 {a : Expr} {ta : TA} {p pos : Pos} (hg : Gl X "range") (hm : X.mg "range" = none) (ha : PA X [a] ta) (hs : starEach [a] X.env = [(false, eval a X.env)] := by rfl) : PI X tg (.Call (.Name "range" p) [a] [] pos) (iRng1 ta) := by
 intro pins s σ H R I h
 refine Call_ (Qay I hg hm boot_range (PyProof.Rows.callWith_type1 (thn (ha pos pins s σ H _ I h) fun us s1 ⟨vs, H1, I1, r1, q1⟩ => ?_) hs rfl))
 obtain ⟨j, e, q1, q2, q⟩ := q1
 subst e
 cases r1 with
 | cons r rr =>
  cases rr
  obtain ⟨t, rfl⟩ := r
  exact call_range_1 (Qa0 I1 (by ac_nf) (by ac_nf) q1 q2 (by simpa using q))
theorem Qa2 {a b : Expr} {ta : TA} {p pos : Pos} (hg : Gl X "range") (hm : X.mg "range" = none) (ha : PA X [a, b] ta) (hs : starEach [a, b] X.env = [(false, eval a X.env), (false, eval b X.env)] := by rfl) (hs2 : starEach [b] X.env = [(false, eval b X.env)] := by rfl) :
  PI X tg (.Call (.Name "range" p) [a, b] [] pos) (iRng2 ta) := by
 intro pins s σ H R I h
 refine Call_ (Qay I hg hm boot_range (PyProof.Rows.callWith_type1 (thn (ha pos pins s σ H _ I h) fun us s1 ⟨vs, H1, I1, r1, q1⟩ => ?_) (by rw [hs, hs2]) (by rw [hs2]; rfl)))
 obtain ⟨i, j, e, ⟨q1, q2, q3, q4⟩, q⟩ := q1
 subst e
 cases r1 with
 | cons r rr =>
  cases rr with
  | cons r' rr =>
   cases rr
   obtain ⟨t, rfl⟩ := r
   obtain ⟨t', rfl⟩ := r'
   exact call_range_2 (Qa0 I1 q1 q2 q3 q4 q)
noncomputable def tFor (wi : TI) (g : TG) (tb : TS) : TS := fun D σ H => wi σ H fun J H1 => ∃ W : Nat → Nat → St → Hp → Prop, (∃ m, W 0 m σ H1) ∧ ∀ i m σ H, W i m σ H →
 (J.stop i H ∧ D.nx σ H) ∨ (J.go i H ∧ ∃ N : St → Hp → Prop, (∀ σ' H', N σ' H' → ∃ m', m' < m ∧ W (i + 1) m' σ' H') ∧ ∀ x H', J.yld i H x H' → g x σ H' fun σ2 H2 => tb { D with nx := N, ct := N, bk := D.nx } σ2 H2)
noncomputable def pinsAt (fp : List Addr) (h : Heap) : List (Addr × Obj) := fp.filterMap fun b => (h.get? b).map fun o => (b, o)
theorem Qa3 {fp : List Addr} {h : Heap} {b : Addr} {o : Obj} (hb : b ∈ fp) (e : h.get? b = some o) : (b, o) ∈ pinsAt fp h := List.mem_filterMap.mpr ⟨b, hb, by rw [e]; rfl⟩
theorem Qa4 {fp : List Addr} {h : Heap} {p : Addr × Obj} (hp : p ∈ pinsAt fp h) : p.1 ∈ fp ∧ h.get? p.1 = some p.2 := by
 obtain ⟨b, hb, e⟩ := List.mem_filterMap.mp hp
 cases q : h.get? b with
 | none => rw [q] at e; cases e
 | some o =>
  rw [q] at e
  have e' : (b, o) = p := Option.some.inj e
  subst e'
  exact ⟨hb, q⟩
theorem Inv.pinned {pins : List (Addr × Obj)} {σ : St} {H : Hp} {s : Shared} {fp : List Addr} (I : Inv X pins σ H s) (hf : ∀ b ∈ fp, FpOk X pins H b) (ho : ∀ b ∈ fp, ∃ o, s.heap.get? b = some o ∧ ∀ v, o.data ≠ .cell v) : Inv X (pins ++ pinsAt fp s.heap) σ H s :=
 I.pins_of fun p hp => (List.mem_append.mp hp).elim (fun z => I.pin p (List.mem_append_right _ z)) fun z => by
  obtain ⟨hb, e⟩ := Qa4 z
  obtain ⟨f0, f1, f2, _⟩ := hf p.1 hb
  obtain ⟨o, e', d⟩ := ho p.1 hb
  rw [e] at e'; cases e'
  exact ⟨e, f0, f1, f2, d⟩
theorem Inv.unpinned {pins pl : List (Addr × Obj)} {σ : St} {H : Hp} {s : Shared} (I : Inv X (pins ++ pl) σ H s) : Inv X pins σ H s := I.pins_of fun p hp => I.pin p (List.mem_append_right _ (List.mem_append_left _ hp))
theorem Qa5 {iter : Expr} {body : List Stmt} {wi : TI} {g : TG} {tb : TS} {pos : Pos} (hp : PassesOwn (model X.prog X.w) X.A X.env X.xe) (hc : X.calm = true) (hi : PI X tg iter wi) (hg : PG X tg g) (hb : PSs X body tb)
  (hs : ∀ x, foldedSetIterable iter X.env x = pure x := by intro _; rfl) : PS X (.For tg iter body [] pos) (tFor wi g tb) := by
 intro pins s σ H D I h
 refine wpAny_For (thn (hi pins s σ H _ I h) fun v s1 h1 => thn h1 fun itv s2 h2 => ?_) hs
 obtain ⟨it, fp, tn, J, H2, e, I2, T, st2, f2, W, ⟨m0, w0⟩, turn⟩ := h2
 subst e
 have stat : ∀ {H' : Hp}, (∀ b ∈ fp, H' b = none) → ∀ b ∈ fp, FpOk X pins H' b := fun hn b hb => ⟨hn b hb, (f2 b hb).2⟩
 refine codeAny_forLoop_any (fun n s' => ∃ i σ' H', Inv X pins σ' H' s' ∧ tn i s'.heap ∧ (∀ b ∈ fp, H' b = none) ∧ W i n σ' H') ?_ m0 ⟨0, σ, H2, I2, st2, fun b hb => (f2 b hb).1, w0⟩
 rintro n s3 ⟨i, σ3, H3, I3, st3, fr3, w3⟩
 rcases turn i n σ3 H3 w3 with ⟨stop, qn⟩ | ⟨go, N, hN, step⟩
 ·refine wpAny_passesOwn hp (thn (T.done X rfl rfl rfl hc i pins s3 σ3 H3 X.xe I3 (stat fr3) st3 stop) fun r s4 pq20 => ?_)
  obtain ⟨hr, I4⟩ := pq20
  subst hr
  exact wpAny_execs_nil ⟨σ3, H3, I4, qn⟩
 ·refine wpAny_passesOwn hp (thn (T.item X rfl rfl rfl hc i pins s3 σ3 H3 X.xe I3 (stat fr3) st3 go) fun r s4 pq21 => ?_)
  obtain ⟨u, hr, h4⟩ := pq21
  subst hr
  refine wpAny_passesOwn hp (thn h4 fun _ s5 pq22 => ?_)
  obtain ⟨x, H5, I5, r5, y5, st5, fr5⟩ := pq22
  have I5' := I5.pinned (stat fr5) (T.obj _ _ st5)
  refine wpAny_passesOwn hp (thn (hg _ s5 σ3 H5 x u _ I5' r5 (step x H5 y5)) fun _ s6 pq23 => ?_)
  obtain ⟨σ6, H6, I6, q6⟩ := pq23
  refine wpAny_passesOwn hp (thn (hb _ s6 σ6 H6 _ I6 q6) fun f s7 q7 => ?_)
  have again : ∀ {σ7 : St} {H7 : Hp}, Inv X (pins ++ pinsAt fp s5.heap) σ7 H7 s7 → N σ7 H7 → ∃ m, m < n ∧ ∃ i σ' H', Inv X pins σ' H' s7 ∧ tn i s7.heap ∧ (∀ b ∈ fp, H' b = none) ∧ W i m σ' H' := fun {σ7 H7} I7 n7 => by
   obtain ⟨m', hm, w7⟩ := hN σ7 H7 n7
   refine ⟨m', hm, i + 1, σ7, H7, I7.unpinned, T.keep _ _ _ st5 fun b hb o e => (I7.pin (b, o) (List.mem_append_right _ (List.mem_append_right _ (Qa3 hb e)))).1, fun b hb => ?_, w7⟩
   obtain ⟨o, e, d⟩ := T.obj _ _ st5 b hb
   exact (I7.pin (b, o) (List.mem_append_right _ (List.mem_append_right _ (Qa3 hb e)))).2.1
  cases f with
  | next => obtain ⟨σ7, H7, I7, n7⟩ := q7; exact again I7 n7
  | cont => obtain ⟨σ7, H7, I7, n7⟩ := q7; exact again I7 n7
  | brk => obtain ⟨σ7, H7, I7, q7⟩ := q7; exact ⟨σ7, H7, I7.unpinned, q7⟩
  | ret v => obtain ⟨x7, σ7, H7, I7, r7, q7⟩ := q7; exact ⟨x7, σ7, H7, I7.unpinned, r7, q7⟩
end
end L2
namespace L2
open PySem PySem.Spec PyProof.Rows
noncomputable abbrev R2 := V → V → Hp → VK → Prop
def OpR (X : Cx) (f : Value → Value → Sem Value) (r : R2) : Prop :=
 ∀ (pins : List (Addr × Obj)) (s : Shared) (σ : St) (H : Hp) (x y : V) (v u : Value) (Q : VK), Inv X pins σ H s → RelV x v → RelV y u → r x y H Q →
  wpAny (model X.prog X.w) X.A (f v u) (EP X pins σ Q) X.xe s
def CallR (X : Cx) (f : Value) (r : List V → Hp → VK → Prop) : Prop :=
 ∀ (pins : List (Addr × Obj)) (s : Shared) (σ : St) (H : Hp) (xs : List V) (us : List Value) (Q : VK), Inv X pins σ H s → Vals xs us → r xs H Q →
  wpAny (model X.prog X.w) X.A (call f us) (EP X pins σ Q) X.xe s
def TruR (X : Cx) (r : V → Hp → (Bool → Hp → Prop) → Prop) : Prop :=
 ∀ (pins : List (Addr × Obj)) (s : Shared) (σ : St) (H : Hp) (x : V) (v : Value) (Q : Bool → Hp → Prop), Inv X pins σ H s → RelV x v → r x H Q →
  wpAny (model X.prog X.w) X.A (truthy v) (TP X pins σ Q) X.xe s
noncomputable def tOp (r : R2) (ta tb : TE) : TE := fun σ H Q => ta σ H fun x H1 => tb σ H1 fun y H2 => r x y H2 Q
noncomputable def rI (C : Int → Int → Prop) (g : Int → Int → V) : R2 := fun x y H Q => ∃ i j, x = .int i ∧ y = .int j ∧ C i j ∧ Q (g i j) H
noncomputable def rI0 (g : Int → Int → V) : R2 := fun x y H Q => ∃ i j, x = .int i ∧ y = .int j ∧ Q (g i j) H
section
variable {X : Cx} {a b c : Expr} {ta tb tc : TE} {pos : Pos}
theorem binT (ha : PE X a ta) (hb : PE X b tb) {pins : List (Addr × Obj)} {s : Shared} {σ : St} {H : Hp} {R : V → V → Hp → Prop} (I : Inv X pins σ H s)
  (h : ta σ H fun x H1 => tb σ H1 fun y H2 => R x y H2) {Q : Value → Shared → Prop} {f : Value → Value → Sem Value}
  (hf : ∀ v u s2 x y H2, Inv X pins σ H2 s2 → RelV x v → RelV y u → R x y H2 → wpAny (model X.prog X.w) X.A (f v u) Q X.xe s2) :
  wpAny (model X.prog X.w) X.A (eval a X.env) (fun v s₁ => wpAny (model X.prog X.w) X.A (eval b X.env) (fun u s₂ => wpAny (model X.prog X.w) X.A (f v u) Q X.xe s₂) X.xe s₁) X.xe s := by
 refine thn (ha pins s σ H _ I h) fun v s1 pq24 => ?_
 obtain ⟨x, H1, I1, r1, q1⟩ := pq24
 refine thn (hb pins s1 σ H1 _ I1 q1) fun u s2 pq25 => ?_
 obtain ⟨y, H2, I2, r2, q2⟩ := pq25
 exact hf v u s2 x y H2 I2 r1 r2 q2
theorem Qa6 {op : Operator} {r : R2} (ho : OpR X (binaryOp op) r) (ha : PE X a ta) (hb : PE X b tb) : PE X (.BinOp a op b pos) (tOp r ta tb) := by
 intro pins s σ H Q I h
 exact wpAny_BinOp (binT ha hb I h fun v u s2 x y H2 I2 rx ry q => ho pins s2 σ H2 x y v u Q I2 rx ry q)
theorem opI {f : Value → Value → Sem Value} {C : Int → Int → Prop} {g : Int → Int → Int}
  (rule : ∀ (i j : Int) (t u : Tok) (s : Shared) (Q : Value → Shared → Prop) (E : Value → Shared → Prop), C i j → Q (.int (g i j) s.toks) { s with toks := s.toks + 1 } → wpAny (model X.prog X.w) X.A (f (.int i t) (.int j u)) Q E s) :
  OpR X f (rI C fun i j => .int (g i j)) := by
 intro pins s σ H x y v u Q I rx ry h
 obtain ⟨i, j, rfl, rfl, hc, q⟩ := h
 obtain ⟨t, rfl⟩ := rx
 obtain ⟨t', rfl⟩ := ry
 exact rule i j t t' s _ _ hc ⟨.int (g i j), H, I.tok _, ⟨_, rfl⟩, q⟩
theorem opI0 {f : Value → Value → Sem Value} {g : Int → Int → Int}
  (rule : ∀ (i j : Int) (t u : Tok) (s : Shared) (Q : Value → Shared → Prop) (E : Value → Shared → Prop), Q (.int (g i j) s.toks) { s with toks := s.toks + 1 } → wpAny (model X.prog X.w) X.A (f (.int i t) (.int j u)) Q E s) :
  OpR X f (rI0 fun i j => .int (g i j)) := by
 intro pins s σ H x y v u Q I rx ry h
 obtain ⟨i, j, rfl, rfl, q⟩ := h
 obtain ⟨t, rfl⟩ := rx
 obtain ⟨t', rfl⟩ := ry
 exact rule i j t t' s _ _ ⟨.int (g i j), H, I.tok _, ⟨_, rfl⟩, q⟩
theorem opB0 {f : Value → Value → Sem Value} {g : Int → Int → Bool}
  (rule : ∀ (i j : Int) (t u : Tok) (s : Shared) (Q : Value → Shared → Prop) (E : Value → Shared → Prop), Q (.bool (g i j)) s → wpAny (model X.prog X.w) X.A (f (.int i t) (.int j u)) Q E s) :
  OpR X f (rI0 fun i j => .bl (g i j)) := by
 intro pins s σ H x y v u Q I rx ry h
 obtain ⟨i, j, rfl, rfl, q⟩ := h
 obtain ⟨t, rfl⟩ := rx
 obtain ⟨t', rfl⟩ := ry
 exact rule i j t t' s _ _ ⟨.bl (g i j), H, I, rfl, q⟩
def CDiv (i j : Int) : Prop := 0 < j ∧ j < 1073741824
def CPow (i j : Int) : Prop := 0 ≤ j ∧ j ≤ 1000000 ∧ i.natAbs < 2 ^ 64
def CMul (i j : Int) : Prop := (-(2 ^ 64) < i ∧ i < 2 ^ 64) ∨ (-(2 ^ 64) < j ∧ j < 2 ^ 64)
theorem CMul.ok {i j : Int} (h : CMul i j) : IntMulOk i j := by
 rcases h with ⟨h1, h2⟩ | ⟨h1, h2⟩
 ·exact .of_left (intBits_le_64 h1 h2)
 ·exact .of_right (intBits_le_64 h1 h2)
theorem Qa7 : OpR X (binaryOp .Add) (rI0 fun i j => .int (i + j)) := opI0 fun _ _ _ _ _ _ _ q => add_int q
theorem Qa8 : OpR X (binaryOp .Sub) (rI0 fun i j => .int (i - j)) := opI0 fun _ _ _ _ _ _ _ q => sub_int q
theorem Qa9 : OpR X (binaryOp .Mult) (rI CMul fun i j => .int (i * j)) := opI fun _ _ _ _ _ _ _ hc q => mul_int q hc.ok
theorem Qba : OpR X (binaryOp .FloorDiv) (rI CDiv fun i j => .int (i / j)) := opI fun i j _ _ _ _ _ hc q => by
 have h1 : (0 : Int) < j := hc.1
 have h2 : j < 1073741824 := hc.2
 exact floordiv_int (by ac_nf) (by rw [Int.fdiv_eq_ediv_of_nonneg i (by ac_nf)]; exact q) (.inl (PyProof.noPylong_small (by ac_nf)))
theorem Qbb : OpR X (binaryOp .Mod) (rI (fun _ j => 0 < j) fun i j => .int (i % j)) := opI fun i j _ _ _ _ _ hc q => by
 have h1 : (0 : Int) < j := hc
 exact mod_int' (by ac_nf) (by rw [Int.fmod_eq_emod_of_nonneg i (by ac_nf)]; exact q)
theorem Qbc : OpR X (binaryOp .Pow) (rI CPow fun i j => .int (i ^ j.toNat)) := opI fun _ _ _ _ _ _ _ hc q => pow_int_small hc.1 hc.2.1 hc.2.2 q
end
section
variable {X : Cx} {a b c : Expr} {ta tb tc : TE} {pos : Pos}
theorem Qbd {pins : List (Addr × Obj)} {σ : St} {H : Hp} {s : Shared} {Q : VK} {k k' : Bool} (I : Inv X pins σ H s) (q : Q (.bl k) H) (e : k = k') : EP X pins σ Q (.bool k') s := by
 subst e
 exact ⟨.bl k, H, I, rfl, q⟩
theorem Qbe : OpR X (compareOp .Lt) (rI0 fun i j => .bl (decide (i < j))) := opB0 fun _ _ _ _ _ _ _ q => lt_int q
theorem Qbf : OpR X (compareOp .LtE) (rI0 fun i j => .bl (decide (i ≤ j))) := opB0 fun _ _ _ _ _ _ _ q => le_int q
theorem Qbg : OpR X (compareOp .Gt) (rI0 fun i j => .bl (decide (j < i))) := opB0 fun _ _ _ _ _ _ _ q => gt_int q
theorem Qbh : OpR X (compareOp .GtE) (rI0 fun i j => .bl (decide (j ≤ i))) := opB0 fun _ _ _ _ _ _ _ q => ge_int q
theorem Qbi : OpR X (compareOp .In) (fun x y H Q => ∃ i j, x = .str i ∧ y = .str j ∧ Q (.bl (!(Builtin.Str.occurrences j i 0 j.length 1).isEmpty)) H) := by
 intro pins s σ H x y v u Q I rx ry h
 obtain ⟨i, j, rfl, rfl, q⟩ := h
 obtain ⟨t, rfl⟩ := rx
 obtain ⟨t', rfl⟩ := ry
 exact in_str (Qbd I q rfl)
theorem Qbj : OpR X (compareOp .IsNot) (fun x y H Q => y = .non ∧ Q (.bl (!decide (x = .non))) H) := by
 intro pins s σ H x y v u Q I rx ry h
 obtain ⟨rfl, q⟩ := h
 cases ry
 refine isnot_none_gen (Qbd I q ?_)
 cases x <;> first
  | (cases rx; rfl)
  | (obtain ⟨t, rfl⟩ := rx; rfl)
theorem OpR.or {f : Value → Value → Sem Value} {r r' : R2} (h : OpR X f r) (h' : OpR X f r') : OpR X f (fun x y H Q => r x y H Q ∨ r' x y H Q) := by
 intro pins s σ H x y v u Q I rx ry q
 rcases q with q | q
 ·exact h pins s σ H x y v u Q I rx ry q
 ·exact h' pins s σ H x y v u Q I rx ry q
theorem Qbk (b : Expr) {op : CmpOp} (h : op ≠ .In := by decide) (h2 : op ≠ .NotIn := by decide) : behindInMarks op b = false := by
 have e1 : (op == CmpOp.In) = false := by cases op <;> first | rfl | exact absurd rfl h
 have e2 : (op == CmpOp.NotIn) = false := by cases op <;> first | rfl | exact absurd rfl h2
 cases b <;> simp [behindInMarks, e1, e2]
theorem Qbl {op : CmpOp} {r : R2} (ho : OpR X (compareOp op) r) (ha : PE X a ta) (hb : PE X b tb) (hm : behindInMarks op b = false) : PE X (.Compare a [op] [b] pos) (tOp r ta tb) := by
 intro pins s σ H Q I h
 exact wpAny_Compare1 (binT ha hb I h fun v u s2 x y H2 I2 rx ry q => ho pins s2 σ H2 x y v u Q I2 rx ry q) hm
noncomputable def tTest (t : TE) : TT := fun σ H Q => t σ H fun x H' => ∃ k, x = .bl k ∧ Q k H'
theorem Qbm {op : CmpOp} {r : R2} (ho : OpR X (compareOp op) r) (ha : PE X a ta) (hb : PE X b tb) (hm : behindInMarks op b = false) : PT X (.Compare a [op] [b] pos) (tTest (tOp r ta tb)) := by
 intro pins s σ H Q I h
 refine wpAny_isTrue_Compare1 (thn (ha pins s σ H _ I h) fun v s1 ⟨x, H1, I1, r1, q1⟩ => thn (hb pins s1 σ H1 _ I1 q1) fun u s2 ⟨y, H2, I2, r2, q2⟩ =>
  thn (ho pins s2 σ H2 x y v u _ I2 r1 r2 q2) fun c s3 ⟨z, H3, I3, r3, k, e, q3⟩ => ?_) hm
 subst e
 cases r3
 exact wpAny_truthy_bool ⟨H3, I3, q3⟩
noncomputable def tChain (r r' : R2) (ta tb tc : TE) : TE := fun σ H Q => ta σ H fun x H1 => tb σ H1 fun y H2 => r x y H2 fun z H3 => ∃ k, z = .bl k ∧
 (if k = true then tc σ H3 fun w' H4 => r' y w' H4 Q else Q (.bl false) H3)
theorem Qbn {op op' : CmpOp} {r r' : R2} (ho : OpR X (compareOp op) r) (ho' : OpR X (compareOp op') r') (ha : PE X a ta) (hb : PE X b tb) (hc : PE X c tc)
  (hm : lastMarks [op, op'] [b, c] = false := by with_unfolding_all rfl) : PE X (.Compare a [op, op'] [b, c] pos) (tChain r r' ta tb tc) := by
 intro pins s σ H Q I h
 refine Compare_chain (thn (ha pins s σ H _ I h) fun v s1 ⟨x, H1, I1, r1, q1⟩ => chain_link (thn (hb pins s1 σ H1 _ I1 q1) fun u s2 ⟨y, H2, I2, r2, q2⟩ =>
  thn (ho pins s2 σ H2 x y v u _ I2 r1 r2 q2) fun d s3 ⟨z, H3, I3, r3, k, e, q3⟩ => ?_)) hm
 subst e
 cases r3
 refine wpAny_truthy_bool ?_
 cases k with
 | false => exact ite_ff ⟨.bl false, H3, I3, rfl, q3⟩
 | true => exact ite_tt (chain_last (thn (hc pins s3 σ H3 _ I3 q3) fun w' s4 ⟨z', H4, I4, r4, q4⟩ => ho' pins s4 σ H4 y z' u w' Q I4 r2 r4 q4))
theorem Qbo {op op' : CmpOp} {r r' : R2} (ho : OpR X (compareOp op) r) (ho' : OpR X (compareOp op') r') (ha : PE X a ta) (hb : PE X b tb) (hc : PE X c tc)
  (hm : lastMarks [op, op'] [b, c] = false := by with_unfolding_all rfl) : PT X (.Compare a [op, op'] [b, c] pos) (tTest (tChain r r' ta tb tc)) := by
 intro pins s σ H Q I h
 refine isTrue_chain (thn (ha pins s σ H _ I h) fun v s1 ⟨x, H1, I1, r1, q1⟩ => test_link (thn (hb pins s1 σ H1 _ I1 q1) fun u s2 ⟨y, H2, I2, r2, q2⟩ =>
  thn (ho pins s2 σ H2 x y v u _ I2 r1 r2 q2) fun d s3 ⟨z, H3, I3, r3, k, e, q3⟩ => ?_)) hm
 subst e
 cases r3
 refine wpAny_truthy_bool ?_
 cases k with
 | false =>
  obtain ⟨k', e', q'⟩ := q3
  cases e'
  exact ite_ff ⟨H3, I3, q'⟩
 | true =>
  refine ite_tt (test_last (thn (hc pins s3 σ H3 _ I3 q3) fun w' s4 ⟨z', H4, I4, r4, q4⟩ => thn (ho' pins s4 σ H4 y z' u w' _ I4 r2 r4 q4) fun d' s5 ⟨z2, H5, I5, r5, k2, e2, q5⟩ => ?_))
  subst e2
  cases r5
  exact wpAny_truthy_bool ⟨H5, I5, q5⟩
def TruV (K : PySem.W.Frag) (x : V) (H : Hp) (k : Bool) : Prop :=
 match x with
 | .non => k = false
 | .bl b => k = b
 | .int i => k = (i != 0)
 | .str y => y.length ≤ sizeLine ∧ k = ((y.length : Int) != 0)
 | .byt y => y.size ≤ sizeLine ∧ k = ((y.size : Int) != 0)
 | .ref p => (∃ xs, SqL K H p xs ∧ k = !xs.isEmpty) ∨ (∃ xs, SqT K H p xs ∧ k = !xs.isEmpty) ∨ ∃ kvs, H p = some (.dK kvs) ∧ k = !kvs.isEmpty
 | _ => False
theorem Qbp {κ : Type} {kvs : List (κ × V)} {vs : List (κ × Value)} (r : KV kvs vs) : (!vs.isEmpty) = !kvs.isEmpty := by
 cases r <;> rfl
theorem Qbq {xs : List V} {its : List Value} (r : Vals xs its) : (!its.toArray.isEmpty) = !xs.isEmpty := by
 cases r <;> simp
theorem Qbr : (sizeLine : Nat) < 2 ^ 63 := by rw [sizeLine_eq]; decide
theorem Qbs : TruR X (fun x H Q => ∃ k, TruV X.K x H k ∧ Q k H) := by
 intro pins s σ H x v Q I rx h
 obtain ⟨k, e, q⟩ := h
 have hl := Qbr
 have hs : sizeLine = 16777216 := sizeLine_eq
 cases x with
 | non =>
  cases rx
  have e' : k = false := e
  subst e'
  exact truthy_none ⟨H, I, q⟩
 | bl b =>
  cases rx
  have e' : k = b := e
  subst e'
  exact wpAny_truthy_bool ⟨H, I, q⟩
 | int i =>
  obtain ⟨t, rfl⟩ := rx
  have e' : k = (i != 0) := e
  subst e'
  exact PySem.P.truthy_int ⟨H, I, q⟩
 | str y =>
  obtain ⟨t, rfl⟩ := rx
  obtain ⟨hy, e'⟩ : y.length ≤ sizeLine ∧ k = ((y.length : Int) != 0) := e
  subst e'
  exact PySem.P.truthy_str (by ac_nf) ⟨H, I.tok _, q⟩
 | byt y =>
  obtain ⟨t, rfl⟩ := rx
  obtain ⟨hy, e'⟩ : y.size ≤ sizeLine ∧ k = ((y.size : Int) != 0) := e
  subst e'
  exact PySem.W.truthy_bytes (by ac_nf) ⟨H, I.tok _, q⟩
 | ref p =>
  cases rx
  have e' : (∃ xs, SqL X.K H p xs ∧ k = !xs.isEmpty) ∨ (∃ xs, SqT X.K H p xs ∧ k = !xs.isEmpty) ∨ ∃ kvs, H p = some (.dK kvs) ∧ k = !kvs.isEmpty := e
  rcases e' with ⟨xs, hx, e'⟩ | ⟨xs, hx, e'⟩ | ⟨kvs, hx, e'⟩
  ·subst e'
   obtain ⟨its, r, pl, hz⟩ := I.list hx
   have hlen := r.length
   exact wpAny_truthy_list pl.isList (by simp only [List.size_toArray]; ac_nf) ⟨H, I.tok _, by rw [Qbq r]; exact q⟩
  ·subst e'
   obtain ⟨its, r, pl, hz⟩ := I.tuple hx
   have hlen := r.length
   exact truthy_tuple pl (by simp only [List.size_toArray]; ac_nf) ⟨H, I.tok _, by rw [Qbq r]; exact q⟩
  ·subst e'
   obtain ⟨hz, hS, vs, r, m⟩ : kvs.length ≤ sizeLine ∧ (p == sysModules) = false ∧ ∃ vs, KV kvs vs ∧ s.heap.DictOf (mixKind X.prog X.w) p vs := I.hok p _ hx
   have hlen : kvs.length = vs.length := Paired.length r
   exact wpAny_truthy_dict hS m (by ac_nf) ⟨H, I.tok _, by rw [Qbp r]; exact q⟩
 | _ => exact (show False from e).elim
theorem Qbt (ha : PE X a ta) (he : ∀ whole, isTrue a X.env whole = (do let v ← whole; standAt a.pos; holding [v] (truthy v))) :
  PT X a (fun σ H Q => ta σ H fun x H' => ∃ k, TruV X.K x H' k ∧ Q k H') := by
 intro pins s σ H Q I h
 exact isTrue_plain (thn (ha pins s σ H _ I h) fun v s1 pq26 => by obtain ⟨x, H1, I1, r1, q1⟩ := pq26; exact Qbs pins s1 σ H1 x v Q I1 r1 q1) (he _)
theorem Qbu : OpR X (binaryOp .Add) (fun x y H Q => ∃ i j, x = .str i ∧ y = .str j ∧ i.length + j.length ≤ sizeLine ∧ Q (.str (i ++ j)) H) := by
 intro pins s σ H x y v u Q I rx ry h
 obtain ⟨i, j, rfl, rfl, hz, q⟩ := h
 obtain ⟨t, rfl⟩ := rx
 obtain ⟨t', rfl⟩ := ry
 exact add_str (fun t' tk => ⟨.str (i ++ j), H, I.tok _, ⟨_, rfl⟩, q⟩) hz
theorem Qbv {x : V} {us : List Value} (r : Vals [x] us) : ∃ u, us = [u] ∧ RelV x u := by
 cases r with
 | cons r1 r2 => cases r2; exact ⟨_, rfl, r1⟩
theorem Qbw {x y : V} {us : List Value} (r : Vals [x, y] us) : ∃ u w', us = [u, w'] ∧ RelV x u ∧ RelV y w' := by
 cases r with
 | cons r1 r2 =>
  cases r2 with
  | cons r3 r4 => cases r4; exact ⟨_, _, rfl, r1, r3⟩
theorem Qbx (hc : X.calm = true) : CallR X (.builtin "max") (fun xs H Q => ∃ i j, xs = [.int i, .int j] ∧ Q (.int (if j > i then j else i)) H) := by
 intro pins s σ H xs us Q I r h
 obtain ⟨i, j, rfl, q⟩ := h
 obtain ⟨u, w', rfl, ⟨t, rfl⟩, ⟨t', rfl⟩⟩ := Qbw r
 refine max_two_ints (I.ok.hd hc) fun h' tk k => ⟨_, H, I.kept k, ?_, q⟩
 by_cases hj : j > i
 ·rw [if_pos hj, if_pos hj]; exact ⟨_, rfl⟩
 ·rw [if_neg hj, if_neg hj]; exact ⟨_, rfl⟩
theorem Qby : CallR X (.type "int") (fun xs H Q => (∃ i, xs = [.int i] ∧ Q (.int i) H) ∨ ∃ k, xs = [.bl k] ∧ Q (.int (if k then 1 else 0)) H) := by
 intro pins s σ H xs us Q I r h
 rcases h with ⟨i, rfl, q⟩ | ⟨k, rfl, q⟩
 ·obtain ⟨u, rfl, t, rfl⟩ := Qbv r
  exact call_int_int ⟨.int i, H, I, ⟨_, rfl⟩, q⟩
 ·obtain ⟨u, rfl, r1⟩ := Qbv r
  cases r1
  exact call_int_bool ⟨.int (if k then 1 else 0), H, I.tok _, ⟨_, rfl⟩, q⟩
end
end L2
namespace L2
open PySem PySem.Spec PyProof.Rows
structure ObjM (h : Heap) (x dx C : Addr) (mA : Str → Option Value) : Prop where
 obj : h.get? x = some (PySem.W.instObj C dx)
 ns : h.Ns1 dx mA
 ne : dx ≠ x
theorem Qbz {h : Heap} {dx : Addr} {mA : Str → Option Value} (n : h.Ns1 dx mA) : ∃ od, h.get? dx = some od ∧ ∀ name, PySem.W.lookIn name od = some (mA name) := by
 obtain ⟨o, es, ep, ho, hd, hk, _, hm⟩ := n
 refine ⟨o, ho, fun name => ?_⟩
 have e := hm name
 unfold nsFind findBy at e
 rw [← Array.find?_toList] at e
 unfold PySem.W.lookIn
 rw [hd]
 dsimp only
 split
 ·rename_i y q
  rw [q] at e
  exact congrArg some e
 ·rename_i q
  rw [q] at e
  have a : es.toList.any (·.refKey) = false := by
   rw [List.any_eq_false]
   intro y hy
   obtain ⟨z, t, hkey⟩ := hk y (Array.mem_toList_iff.mp hy)
   simp [DictEntry.refKey, hkey]
  have a' : ¬ es.toList.any (·.refKey) = true := by rw [a]; exact Bool.false_ne_true
  rw [if_neg a']
  exact congrArg some e
theorem ObjM.look {h : Heap} {x dx C : Addr} {mA : Str → Option Value} (I : ObjM h x dx C mA) : ∃ od, PySem.W.InstAt h x (PySem.W.instObj C dx) C (some od) ∧ ∀ name, PySem.W.lookIn name od = some (mA name) :=
 let ⟨od, ho, hl⟩ := Qbz I.ns
 ⟨od, ⟨I.obj, rfl, rfl, ho⟩, hl⟩
section
variable {prog : Program} {w : World} {A : Around} {E : Value → Shared → Prop} {s : Shared} {K : PySem.W.Frag} {x dx C f : Addr} {mA : Str → Option Value} {name : Str} {v : Value}
end
theorem RelO.some_of {v : V} {o : Option Value} (r : RelO (some v) o) : ∃ u, o = some u ∧ RelV v u := by
 cases o with
 | none => exact (show False from r).elim
 | some u => exact ⟨u, rfl, r⟩
theorem RelO.none_of {o : Option Value} (r : RelO none o) : o = none := by
 cases o with
 | none => rfl
 | some u => exact (show False from r).elim
section
variable {P : Program} {w : World} {H H' : Hp} {h h' : Heap} {a C dx : Addr} {fs fs' : List (Str × V)}
end
structure Cls (K : PySem.W.Frag) (C : Addr) : Prop where
 pg : PySem.W.plainGet K C Str.empty = true
 hd : PySem.W.hasDictIn K C = true
 po : PySem.W.plainOver K C = true
 sa : PySem.W.findIn K (.ref C) "__setattr__" = some (some (.builtin "object.__setattr__"))
theorem Cls.get {K : PySem.W.Frag} {C : Addr} (c : Cls K C) (f : Str) : PySem.W.plainGet K C f = true := c.pg
structure Con (K : PySem.W.Frag) (C : Addr) (f : Str) (v : V) (u : Value) : Prop where
 at_ : PySem.W.findIn K (.ref C) f = some (some u)
 rel : RelV v u
 get : PySem.W.specialIn K u "__get__" = some none
 cp : PySem.W.copiedNames.contains f = false
structure Meth (K : PySem.W.Frag) (C : Addr) (m : Str) (f : Addr) : Prop where
 at_ : PySem.W.findIn K (.ref C) m = some (some (.ref f))
 fn : PySem.W.isFn K (.ref f) = true
 kp : PySem.W.keepIn K (.ref f) = true
section
variable {X : Cx} {pins : List (Addr × Obj)} {σ : St} {H : Hp} {s : Shared} {a C dx : Addr} {fs : List (Str × V)} {f : Str} {v : V} {A : Around} {E : Value → Shared → Prop}
theorem Inv.made (I : Inv X pins σ H s) : Inv X pins σ (upd (upd H s.heap.objs.size (.own (s.heap.objs.size + 1))) (s.heap.objs.size + 1) (.ins C s.heap.objs.size []))
  { s with heap := (s.heap.push PySem.W.emptyDict).push (PySem.W.instObj C s.heap.objs.size) } := by
 have e1 : (s.heap.push PySem.W.emptyDict).get? s.heap.objs.size = some PySem.W.emptyDict := Heap.get?_push_size s.heap rfl
 have e2 : ((s.heap.push PySem.W.emptyDict).push (PySem.W.instObj C s.heap.objs.size)).get? (s.heap.objs.size + 1) = some (PySem.W.instObj C s.heap.objs.size) := by
  have := Heap.get?_push_size (s.heap.push PySem.W.emptyDict) (o := PySem.W.instObj C s.heap.objs.size) rfl
  rwa [Heap.size_push] at this
 have e3 : (s.heap.push PySem.W.emptyDict).Ns s.heap.objs.size (fun _ => none) := ⟨PySem.W.emptyDict, #[], _, e1, rfl, (fun e he => absurd he (by simp)), fun _ => rfl⟩
 have I1 := I.laid (a := s.heap.objs.size) (o := .own (s.heap.objs.size + 1)) (h' := s.heap.push PySem.W.emptyDict) (t' := s.toks) (fun b u q => Heap.get?_push_of_some _ q) (Nat.le_refl _) ⟨_, e1⟩
 refine I1.laid (a := s.heap.objs.size + 1) (o := .ins C s.heap.objs.size []) (t' := s.toks) (fun b u q => Heap.get?_push_of_some _ q) (Nat.le_of_eq (Heap.size_push _ _)) ?_
 have ne : s.heap.objs.size ≠ s.heap.objs.size + 1 := Nat.ne_of_lt (Nat.lt_succ_self _)
 refine ⟨by rw [Qaj ne, Qai], Nat.zero_le _, ne, e2, fun _ => none, (Heap.Ns1.of_empty e3).at fun o q => Heap.get?_push_of_some _ q, fun _ => True.intro, fun y hy => absurd rfl hy⟩
end
section
variable {X : Cx} {o e value : Expr} {f : Str} {pos pos' tpos : Pos} {ta tv : TE}
end
section
variable {X : Cx} {pins : List (Addr × Obj)} {σ : St} {H : Hp} {s : Shared} {A : Around} {E : Value → Shared → Prop} {Q : Value → Shared → Prop} {c : Value} {b : Bool}
inductive TyOf (K : PySem.W.Frag) (H : Hp) : V → Value → Prop where
 | non : TyOf K H .non (.type "NoneType")
 | bl (x : Bool) : TyOf K H (.bl x) (.type "bool")
 | int (i : Int) : TyOf K H (.int i) (.type "int")
 | str (x : Str) : TyOf K H (.str x) (.type "str")
 | flt (x : UInt64) : TyOf K H (.flt x) (.type "float")
 | lst {a : Addr} {xs : List V} (e : H a = some (.lst xs)) : TyOf K H (.ref a) (.type "list")
 | frz {a : Addr} {o : Obj} {xs : List V} (e : H a = some (.frz o (.lst xs))) : TyOf K H (.ref a) (.type "list")
 | tup {a : Addr} {xs : List V} (e : H a = some (.tup xs)) : TyOf K H (.ref a) (.type "tuple")
 | dK {a : Addr} {kvs : List (Key × V)} (e : H a = some (.dK kvs)) : TyOf K H (.ref a) (.type "dict")
 | dT {a : Addr} {kvs : List (List Key × V)} (e : H a = some (.dT kvs)) : TyOf K H (.ref a) (.type "dict")
 | ins {a C dx : Addr} {fs : List (Str × V)} (e : H a = some (.ins C dx fs)) (cl : Cls K C) (ha : PySem.W.findIn K (.ref C) "__class__" = some (some (.builtin "object.__class__")))
   (hn : PySem.W.specialIn K (.builtin "object.__class__") "__get__" = some (some (.builtin "getset_descriptor.__get__"))) (htk : PySem.W.takesIn K (.builtin "object.__class__") = some true)
   (hm : PySem.W.mroIn K C (.type "object") = some true) : TyOf K H (.ref a) (.ref C)
end
end L2
namespace L2
open PySem PySem.Spec PyProof.Rows
structure Room (k : Nat) (A : Around) : Prop where
 hd : A.handled = none
 dp : A.depth + 3 * k + 5 < recursionLimit
 un : A.units + 16 * k + 200 < cLine
theorem Room.mono {j k : Nat} {A : Around} (r : Room k A) (h : j ≤ k) : Room j A := ⟨r.hd, by have := r.dp; ac_nf, by have := r.un; ac_nf⟩
theorem Room.deeper {k : Nat} {A : Around} (r : Room (k + 1) A) (env : Env) : Room k (A.deeper env) :=
 ⟨r.hd, by have := r.dp; show A.depth + 1 + 3 * k + 5 < _; ac_nf, by have := r.un; show A.units + 3 + 16 * k + 200 < _; ac_nf⟩
theorem Room.in1 {k : Nat} {A : Around} (r : Room (k + 1) A) : Room k A.in1 :=
 ⟨r.hd, by have := r.dp; show A.depth + 3 * k + 5 < _; ac_nf, by have := r.un; show A.units + 1 + 16 * k + 200 < _; ac_nf⟩
theorem QbA {A : Around} {C : Addr} {us : List Value} {kw : List (Str × Value)} : (A.under (.builtin "type.__call__" ⟨.ref C :: us, kw⟩)).depth = A.depth + 1 := by
 first | rfl | simp [Around.under, Code.weight, Code.isCreation, Code.isGuard, Code.isCaller, Code.frames, Code.isFrame, guardIds]
theorem QbB {A : Around} {C : Addr} {us : List Value} {kw : List (Str × Value)} : (A.under (.builtin "type.__call__" ⟨.ref C :: us, kw⟩)).units = A.units + 1 := by
 first | rfl | simp [Around.under, Code.cUnits, Code.frames, Code.isFrame]
theorem Room.make {k : Nat} {A : Around} (r : Room (k + 1) A) (C : Addr) (us : List Value) (kw : List (Str × Value)) : Room k (A.under (.builtin "type.__call__" ⟨.ref C :: us, kw⟩)) :=
 ⟨r.hd, by have := r.dp; rw [QbA]; ac_nf, by have := r.un; rw [QbB]; ac_nf⟩
theorem Room.depth {k : Nat} {A : Around} (r : Room k A) : A.depth < recursionLimit := by have := r.dp; ac_nf
theorem Room.units {k : Nat} {A : Around} (r : Room k A) : A.units + 64 < cLine := by have := r.un; ac_nf
noncomputable def tNil : TA := fun _ H Q => Q [] H
noncomputable def tCons (ta : TE) (tr : TA) : TA := fun σ H Q => ta σ H fun x H1 => tr σ H1 fun xs H2 => Q (x :: xs) H2
section
variable {X : Cx} {e : Expr} {es : List Expr} {te : TE} {t : TA} {pos : Pos}
theorem QbC : PA X [] tNil := fun _ _ _ _ H Q I h => Calls.spliced_nil ⟨[], H, I, .nil, h⟩
theorem QbD (ha : PE X e te) (hr : PA X es t) (hs : starEach (e :: es) X.env = (false, eval e X.env) :: starEach es X.env := by rfl) : PA X (e :: es) (tCons te t) := by
 intro pos pins s σ H Q I h
 rw [hs]
 show wpAny _ _ (spliced ((false, eval e X.env) :: backTo pos (starEach es X.env))) _ _ s
 refine Calls.spliced_cons (thn (ha pins s σ H _ I h) fun u s1 pq27 => ?_)
 obtain ⟨x, H1, I1, r1, q1⟩ := pq27
 exact thn (hr pos pins s1 σ H1 _ I1 q1) fun us s2 pq28 => by obtain ⟨xs, H2, I2, r2, q2⟩ := pq28; exact ⟨x :: xs, H2, I2, .cons r1 r2, q2⟩
noncomputable def tTup (t : TA) : TE := fun σ H Q => t σ H fun xs H1 => xs.length ≤ sizeLine ∧ ∀ p, H1 p = none → Q (.ref p) (upd H1 p (.tup xs))
noncomputable def tLst (t : TA) : TE := fun σ H Q => t σ H fun xs H1 => xs.length ≤ sizeLine ∧ ∀ p, H1 p = none → Q (.ref p) (upd H1 p (.lst xs))
theorem QbE {x1} (h : PA X es t) : PE X (.Tuple es x1 pos) (tTup t) := by
 intro pins s σ H Q I hq
 refine wpAny_Tuple_spliced (thn (h pos pins s σ H _ I hq) fun us s1 ⟨xs, H1, I1, r, z, q⟩ => ⟨by rw [← r.length]; exact z, ?_⟩)
 have hf : H1 s1.heap.objs.size = none := I1.hok.fresh (Nat.le_refl _)
 refine ⟨.ref s1.heap.objs.size, upd H1 s1.heap.objs.size (.tup xs), I1.laid (t' := s1.toks) (fun b u e => Heap.get?_push_of_some _ e) (Nat.le_refl _) ?_, rfl, q _ hf⟩
 exact ⟨z, us, r, ⟨_, Heap.get?_push_size _ rfl, rfl, _, rfl⟩⟩
theorem QbF (h : PA X es t) : PE X (.List es pos) (tLst t) := by
 intro pins s σ H Q I hq
 refine wpAny_List_spliced (thn (h pos pins s σ H _ I hq) fun us s1 ⟨xs, H1, I1, r, z, q⟩ => ⟨by rw [← r.length]; exact z, ?_⟩)
 have hf : H1 s1.heap.objs.size = none := I1.hok.fresh (Nat.le_refl _)
 refine ⟨.ref s1.heap.objs.size, upd H1 s1.heap.objs.size (.lst xs), I1.laid (t' := s1.toks) (fun b u e => Heap.get?_push_of_some _ e) (Nat.le_refl _) ?_, rfl, q _ hf⟩
 exact ⟨z, us, 0, r, Heap.get?_push_size _ rfl⟩
end
noncomputable abbrev Sp := List V → Hp → VK → XK → Prop
noncomputable abbrev CXT := List Env → Hp → Shared → XK → Value → Shared → Prop
structure Env0 (P : Program) (w : World) (K : PySem.W.Frag) (mg : Str → Option Value) (base : Heap) (A : Around) (outer : List Env) (s : Shared) (H : Hp) : Prop where
 frames : A.frames = some outer
 mod : Mod K mg base
 bs : ∀ b o, base.get? b = some o → s.heap.get? b = some o ∧ H b = none
 bsz : base.objs.size ≤ s.heap.objs.size
 funs : s.heap.FunFrames base outer
 frf : ∀ b ∈ frs outer, H b = none
 hok : HOk P w H s.heap
 bare : AllBare s.gens
def CE (outer : List Env) (P : Program) (w : World) (H : Hp) (s : Shared) (Q : VK) (u : Value) (s' : Shared) : Prop :=
 ∃ v H', s'.os = s.os ∧ AllBare s'.gens ∧ Un (frs outer) [] H H' s.heap s'.heap ∧ HOk P w H' s'.heap ∧ RelV v u ∧ Q v H'
def CR (CX : CXT) (outer : List Env) (P : Program) (w : World) (H : Hp) (s : Shared) (Q : VK) (E : XK) (r : Result) (s' : Shared) : Prop :=
 match r with
 | .ok (.ret u) => CE outer P w H s Q u s'
 | .ok _ => False
 | .error e => CX outer H s E e s'
structure FnOk (P : Program) (w : World) (K : PySem.W.Frag) (mg : Str → Option Value) (base : Heap) (CX : CXT) (k : Nat) (f : Addr) (fd : FuncData) (ps : List Str) (sp : Sp) : Prop where
 len : ∀ vs H Q E, sp vs H Q E → vs.length = ps.length
 run : ∀ (A : Around) (outer : List Env) (s : Shared) (H : Hp) (args : Args) (us : List Value) (vs : List V) (Q : VK) (E : XK), Room k A → Env0 P w K mg base A outer s H → BindsTo s fd args (ps.zip us) → Vals vs us → sp vs H Q E →
  codeAny (model P w) A (.call (.ref f) args) (CR CX outer P w H s Q E) s
theorem FnOk.mono {P : Program} {w : World} {K : PySem.W.Frag} {mg : Str → Option Value} {base : Heap} {CX : CXT} {j k : Nat} {f : Addr} {fd : FuncData} {ps : List Str} {sp : Sp} (F : FnOk P w K mg base CX j f fd ps sp) (h : j ≤ k) :
  FnOk P w K mg base CX k f fd ps sp := ⟨F.len, fun A outer s H args us vs Q E hr => F.run A outer s H args us vs Q E (hr.mono h)⟩
theorem FnOk.imp {P : Program} {w : World} {K : PySem.W.Frag} {mg : Str → Option Value} {base : Heap} {CX : CXT} {k : Nat} {f : Addr} {fd : FuncData} {ps : List Str} {sp sp' : Sp} (F : FnOk P w K mg base CX k f fd ps sp)
  (h : ∀ vs H Q E, sp' vs H Q E → sp vs H Q E) : FnOk P w K mg base CX k f fd ps sp' :=
 ⟨fun vs H Q E q => F.len vs H Q E (h _ _ _ _ q), fun A outer s H args us vs Q E hr he hb hv hs => F.run A outer s H args us vs Q E hr he hb hv (h _ _ _ _ hs)⟩
theorem Env0.make {P : Program} {w : World} {K : PySem.W.Frag} {mg : Str → Option Value} {base : Heap} {A : Around} {outer : List Env} {s : Shared} {H : Hp} (e : Env0 P w K mg base A outer s H) (C : Addr) (us : List Value) (kw : List (Str × Value)) :
  Env0 P w K mg base (A.under (.builtin "type.__call__" ⟨.ref C :: us, kw⟩)) outer s H := ⟨by first | exact e.frames | (simpa [Around.under, Code.envs, Code.isFrame, pushEnvs] using e.frames), e.mod, e.bs, e.bsz, e.funs, e.frf, e.hok, e.bare⟩
theorem Env0.in1 {P : Program} {w : World} {K : PySem.W.Frag} {mg : Str → Option Value} {base : Heap} {A : Around} {outer : List Env} {s : Shared} {H : Hp} (e : Env0 P w K mg base A outer s H) :
  Env0 P w K mg base A.in1 outer s H := ⟨e.frames, e.mod, e.bs, e.bsz, e.funs, e.frf, e.hok, e.bare⟩
section
variable {X : Cx} {pins : List (Addr × Obj)} {σ : St} {H : Hp} {s s' : Shared}
theorem Inv.env0 (I : Inv X pins σ H s) : Env0 X.prog X.w X.K X.mg X.base X.A X.stack s H :=
 ⟨I.ok.frames, I.ok.mod, I.bs, Nat.le_trans I.ok.bsz I.sz, I.stack, I.stkFree, I.hok, I.bare⟩
theorem Inv.after {Q : VK} {u : Value} (I : Inv X pins σ H s) (h : CE X.stack X.prog X.w H s Q u s') : EP X pins σ Q u s' := by
 obtain ⟨v, H', os, bare, un, hok, r, q⟩ := h
 obtain ⟨hh, g, d, t, os'⟩ := s'
 obtain rfl : os' = s.os := os
 exact ⟨v, H', I.call (h' := hh) (g' := g) (d' := d) (t' := t) (ch := []) un hok bare (fun b z => absurd z (by simp)), r, q⟩
end
noncomputable def tCall (sp : Sp) (dvs : List V) (E : XK) (t : TA) : TE := fun σ H Q => t σ H fun vs H1 => sp (vs ++ dvs) H1 Q E
def Binds (K : PySem.W.Frag) (fd : FuncData) (ps : List Str) (ds : List Value) : Prop :=
 ∀ (s : Shared) (us : List Value), K.In s.heap → (us ++ ds).length = ps.length → BindsTo s fd ⟨us, []⟩ (ps.zip (us ++ ds))
theorem Binds.all {K : PySem.W.Frag} {fd : FuncData} {ps : List Str} (h : ∀ us : List Value, us.length = ps.length → bindArgs fd ⟨us, []⟩ = pure (ps.zip us)) : Binds K fd ps [] := fun s us _ hl => by
 rw [List.append_nil] at hl ⊢
 exact .of_eq (h us hl)
def Passes (CX : CXT) (X : Cx) (E : XK) : Prop := ∀ (pins : List (Addr × Obj)) (σ : St) (H : Hp) (s : Shared) (e : Value) (s' : Shared), Inv X pins σ H s → CX X.stack H s E e s' → X.xe e s'
section
variable {X : Cx} {CX : CXT} {k : Nat} {f C : Addr} {fd : FuncData} {ps : List Str} {sp : Sp} {dvs : List V} {ds : List Value} {E : XK} {x m : Str} {p pos apos : Pos} {e o : Expr} {es : List Expr} {ta : TE} {t : TA}
theorem QbG {pins : List (Addr × Obj)} {σ : St} {H : Hp} {s : Shared} {Q : VK} {us : List Value} {vs : List V} (F : FnOk X.prog X.w X.K X.mg X.base CX k f fd ps sp) (hr : Room k X.A) (hb : Binds X.K fd ps ds) (hd : Vals dvs ds) (hx : Passes CX X E)
  (I : Inv X pins σ H s) (r : Vals vs us) (h : sp (vs ++ dvs) H Q E) : wpAny (model X.prog X.w) X.A (call (.ref f) us) (EP X pins σ Q) X.xe s := by
 have r2 : Vals (vs ++ dvs) (us ++ ds) := r.append hd
 have hl : (us ++ ds).length = ps.length := by rw [← r2.length]; exact F.len _ _ _ _ h
 refine wpAny_call (codeAny_mono (F.run X.A X.stack s H ⟨us, []⟩ (us ++ ds) (vs ++ dvs) Q E hr I.env0 (hb s us I.kIn hl) r2 h) fun r s' hq => ?_)
 cases r with
 | error e => exact hx pins σ H s e s' I hq
 | ok fl =>
  cases fl with
  | ret u => exact I.after hq
  | next => exact False.elim hq
  | brk => exact False.elim hq
  | cont => exact False.elim hq
theorem QbH (F : FnOk X.prog X.w X.K X.mg X.base CX k f fd ps sp) (hr : Room k X.A) (hg : Gl X x) (hm : X.mg x = some (.ref f)) (hk : PySem.W.keepIn X.K (.ref f) = true) (hb : Binds X.K fd ps ds) (hd : Vals dvs ds) (hx : Passes CX X E)
  (ha : PA X (e :: es) t) (hdb : (x == ("__debug__" : Str)) = false := by decide) (he : starEach (e :: es) X.env = (false, eval e X.env) :: starEach es X.env := by rfl) (hpl : (backTo pos (starEach es X.env)).any (·.1) = false := by rfl) :
  PE X (.Call (.Name x p) (e :: es) [] pos) (tCall sp dvs E t) := by
 intro pins s σ H Q I h
 refine wpAny_Call_Name_kw (Qax I hg hm ?_ hdb)
 refine PySem.W.callWith_K (h₀ := X.base) I.ok.mod.kin hk (thn (ha pos pins s σ H _ I h) fun us s1 ⟨vs, H1, I1, r, q⟩ => ⟨I1.kIn, ?_⟩) he hpl
 exact QbG F hr hb hd hx I1 r q
structure Mk (K : PySem.W.Frag) (C f : Addr) : Prop where
 makes : PySem.W.makesIn K C = true
 init : PySem.W.findIn K (.ref C) "__init__" = some (some (.ref f))
 fn : PySem.W.isFn K (.ref f) = true
 kp : PySem.W.keepIn K (.ref C) = true
end
section
variable {X : Cx} {CX : CXT} {k : Nat} {f C : Addr} {fd : FuncData} {ps ks : List Str} {sp : Sp} {E : XK} {x m : Str} {p pos apos kpos : Pos} {e o : Expr} {es : List Expr} {kws : List Keyword} {te ta : TE} {t tk : TA} {nm : Option Str}
structure KBinds (K : PySem.W.Frag) (fd : FuncData) (ps ks : List Str) (g : List Value → List Value → List Value) (gV : List V → List V → List V) : Prop where
 to : ∀ (s : Shared) (us ws : List Value), K.In s.heap → (g us ws).length = ps.length → BindsTo s fd ⟨us, ks.zip ws⟩ (ps.zip (g us ws))
 rel : ∀ {vs : List V} {us : List Value} {zs : List V} {ws : List Value}, Vals vs us → Vals zs ws → Vals (gV vs zs) (g us ws)
variable {g : List Value → List Value → List Value} {gV : List V → List V → List V}
end
structure FnScope (N P : List Str) (sc : Scope) : Prop where
 kind : sc.kind = .function
 co : sc.isCoroutine = false
 gen : sc.isGenerator = false
 nd : N.Nodup
 pre : N.take P.length = P
 par : ∀ x ∈ P, sc.names.lookup x = some .local ∨ sc.names.lookup x = some .cell
 nofree : ∀ y ∈ sc.names, y.2 ≠ .free
theorem QbI {kindOf : Str → Option NameKind} {x : Str} : ∀ {binds : List (Str × Value)} {m : Str → Option Value}, (∀ v, (x, v) ∉ binds) → bindL kindOf binds m x = m x
 | [], _, _ => rfl
 | (n, v) :: r, m, h => by
  unfold bindL
  rw [QbI fun w hw => h w (List.mem_cons_of_mem _ hw)]
  split
  ·have : x ≠ n := by rintro rfl; exact h v List.mem_cons_self
   simp [this]
  ·rfl
theorem QbJ {kindOf : Str → Option NameKind} {x : Str} : ∀ {binds : List (Str × Value)} {m : Str → Option Value}, (∀ v, (x, v) ∉ binds) → bindC kindOf binds m x = m x
 | [], _, _ => rfl
 | (n, v) :: r, m, h => by
  unfold bindC
  rw [QbJ fun w hw => h w (List.mem_cons_of_mem _ hw)]
  split
  ·rfl
  ·have : x ≠ n := by rintro rfl; exact h v List.mem_cons_self
   simp [this]
theorem QbK {kindOf : Str → Option NameKind} {x : Str} {v : Value} : ∀ {P : List Str} {vs : List Value} {i : Nat} {m : Str → Option Value}, P.Nodup → P[i]? = some x → vs[i]? = some v → kindOf x = some .local →
  bindL kindOf (P.zip vs) m x = some v
 | [], _, _, _, _, h, _, _ => by simp at h
 | _ :: _, [], _, _, _, _, h, _ => by simp at h
 | p :: P, w :: vs, 0, m, nd, h1, h2, hk => by
  simp at h1 h2; subst h1; subst h2
  show bindL kindOf ((p, w) :: P.zip vs) m p = _
  unfold bindL
  rw [QbI fun v hv => (List.nodup_cons.mp nd).1 (List.of_mem_zip hv).1, if_pos hk]
  simp
 | p :: P, w :: vs, i + 1, m, nd, h1, h2, hk => by
  show bindL kindOf ((p, w) :: P.zip vs) m x = _
  unfold bindL
  exact QbK (i := i) (List.nodup_cons.mp nd).2 (by simpa using h1) (by simpa using h2) hk
theorem QbL {kindOf : Str → Option NameKind} {x : Str} {v : Value} : ∀ {P : List Str} {vs : List Value} {i : Nat} {m : Str → Option Value}, P.Nodup → P[i]? = some x → vs[i]? = some v → kindOf x ≠ some .local →
  bindC kindOf (P.zip vs) m x = some v
 | [], _, _, _, _, h, _, _ => by simp at h
 | _ :: _, [], _, _, _, _, h, _ => by simp at h
 | p :: P, w :: vs, 0, m, nd, h1, h2, hk => by
  simp at h1 h2; subst h1; subst h2
  show bindC kindOf ((p, w) :: P.zip vs) m p = _
  unfold bindC
  rw [QbJ fun v hv => (List.nodup_cons.mp nd).1 (List.of_mem_zip hv).1, if_neg hk]
  simp
 | p :: P, w :: vs, i + 1, m, nd, h1, h2, hk => by
  show bindC kindOf ((p, w) :: P.zip vs) m x = _
  unfold bindC
  exact QbL (i := i) (List.nodup_cons.mp nd).2 (by simpa using h1) (by simpa using h2) hk
noncomputable def start (N : List Str) (vs : List V) : St := vs.map some ++ List.replicate (N.length - vs.length) none
noncomputable def cxOf (CX : CXT) (P : Program) (w : World) (K : PySem.W.Frag) (mg : Str → Option Value) (base : Heap) (N : List Str) (qual : Str) (scope : Scope) (f : Addr) (cd : Value) (A : Around) (outer : List Env) (s : Shared) (H : Hp) (E : XK) : Cx where
 prog := P
 w := w
 K := K
 mg := mg
 base := base
 A := A.deeper (envOfC qual scope s.heap.objs.size f cd)
 N := N
 s₀ := s
 H₀ := H
 env := envOfC qual scope s.heap.objs.size f cd
 outer := outer
 stack := envOfC qual scope s.heap.objs.size f cd :: outer
 ex := []
 calm := true
 fn := fun _ => true
 pn := []
 xe := fun e s' => wpAny (model P w) (A.deeper (envOfC qual scope s.heap.objs.size f cd)) (leaving (envOfC qual scope s.heap.objs.size f cd) e) (fun _ s'' => CX outer H s E e s'') (fun e' s'' => CX outer H s E e' s'') s'
theorem QbM {sc : Scope} {n : Nat} {x : Str} (h : sc.names.lookup x = some .cell) : ∃ c, (cellsFrom n sc.names []).lookup x = some c := by
 have q := PySem.W.cellsFrom_some sc.names n [] (.inl h)
 exact Option.isSome_iff_exists.mp q
theorem QbN {CX : CXT} {P : Program} {w : World} {K : PySem.W.Frag} {mg : Str → Option Value} {base : Heap} {N ps : List Str} {qual : Str} {scope : Scope} {f : Addr} {cd : Value} {A : Around} {outer : List Env} {s s1 : Shared} {H : Hp} {E : XK} {us : List Value} {vs : List V}
  (S : FnScope N ps scope) (hd : A.handled = none) (e0 : Env0 P w K mg base A outer s H) (hl : vs.length = ps.length) (r : Vals vs us)
  (x : InCallC s s.heap.objs.size (bindL (envOfC qual scope s.heap.objs.size f cd).kindOf (ps.zip us) fun _ => none) (cellsFrom (s.heap.objs.size + 1) scope.names []) (bindC (envOfC qual scope s.heap.objs.size f cd).kindOf (ps.zip us) fun _ => none) s1) :
  Inv (cxOf CX P w K mg base N qual scope f cd A outer s H E) [] (start N vs) H s1 := by
 have hpl : ps.length ≤ N.length := by have := congrArg List.length S.pre; rw [List.length_take] at this; ac_nf
 obtain ⟨h1, tk, rfl, hk⟩ := x.done
 have noA : ∀ b : Addr, b ∉ (cxOf CX P w K mg base N qual scope f cd A outer s H E).ex := fun b z => absurd (show b ∈ ([] : List Addr) from z) (by simp)
 refine ⟨⟨e0.mod, S.kind, rfl, rfl, Nat.le_refl _, fun y z c h1 h2 => ?_, fun y hy => ?_, fun y c _ h => ?_, fun _ => hd, Around.frames_deeper e0.frames, .inr ⟨rfl, rfl⟩, fun b z => absurd z (noA b), e0.bs, e0.bsz, fun b _ _ => noA b, fun b z => absurd z (noA b), e0.funs, e0.frf⟩,
  rfl, e0.bare, Un.kept hk, ⟨_, x.toInCall.ns, fun i y v h1 h2 h3 => ?_⟩, fun y c h => ⟨_, x.cell y c h⟩, e0.hok.fresh (Nat.le_refl _), fun y c h => ?_, fun p hp => absurd (show p ∈ ([] : List (Addr × Obj)) from hp) (by simp), e0.hok.kept hk, ?_⟩
 ·exact name_of_addr x.apart (PySem.mem_of_lookup h1) (PySem.mem_of_lookup h2)
 ·have hy : scope.names.lookup y = some .cell ∨ scope.names.lookup y = some .free := hy
  rcases hy with hy | hy
  ·exact QbM hy
  ·exact absurd rfl (S.nofree _ (PySem.mem_of_lookup hy))
 ·exact Nat.le_of_lt (x.above y c (PySem.mem_of_lookup h))
 ·have hi : i < vs.length := by
    unfold start at h2
    by_cases hi : i < vs.length
    ·exact hi
    ·rw [List.getElem?_append_right (by simpa using hi)] at h2
     rw [List.getElem?_replicate] at h2
     split at h2 <;> cases h2
  have ha : vs[i]? = some v := by
   unfold start at h2
   rw [List.getElem?_append_left (by simpa using hi), List.getElem?_map] at h2
   cases e : vs[i]? with
   | none => rw [e] at h2; cases h2
   | some a => rw [e] at h2; cases h2; rfl
  obtain ⟨u, hu, rv⟩ := r.get ha
  have hp : ps[i]? = some y := by
   rw [← S.pre, List.getElem?_take_of_lt (by ac_nf)]; exact h1
  have ndP : ps.Nodup := by rw [← S.pre]; exact S.nd.sublist (List.take_sublist _ _)
  refine ⟨u, rv, ?_⟩
  rcases S.par y (List.mem_of_getElem? hp) with k | k
  ·exact .inl ⟨k, QbK ndP hp hu k⟩
  ·obtain ⟨c, e⟩ := QbM (n := s.heap.objs.size + 1) k
   refine .inr ⟨.inl k, c, e, ?_⟩
   have q := x.cell y c e
   rw [QbL ndP hp hu (by show scope.names.lookup y ≠ _; rw [k]; decide)] at q
   exact q
 ·exact e0.hok.fresh (Nat.le_of_lt (x.above y c (PySem.mem_of_lookup h)))
 ·unfold start
  show _ = N.length
  rw [List.length_append, List.length_map, List.length_replicate]
  ac_nf
theorem QbO {CX : CXT} {P : Program} {w : World} {K : PySem.W.Frag} {mg : Str → Option Value} {base : Heap} {k : Nat} {f : Addr} {name qual : Str} {params : Arguments} {body : List Stmt} {scope : Scope} {dV kV doc pm cdv ct oc : Value} {an od : Option Addr}
  {osl : Array (Option Value)} {N ps : List Str} {sp : Sp} (lk : K.lookup f = some ⟨oc, od, .func (PySem.W.fnOf name qual params body scope dV kV doc pm an cdv ct), osl⟩) (hcd : PySem.W.codeIn K cdv qual = true) (S : FnScope N ps scope)
  (len : ∀ vs H Q E, sp vs H Q E → vs.length = ps.length)
  (hbody : ∀ (A : Around) (outer : List Env) (s : Shared) (H : Hp) (vs : List V) (Q : VK) (E : XK), Room k (A.deeper (envOfC qual scope s.heap.objs.size f cdv)) → sp vs H Q E →
   ∃ t, PSs (cxOf CX P w K mg base N qual scope f cdv A outer s H E) body t ∧ t { nx := fun _ H' => Q .non H', rt := Q } (start N vs) H) :
  FnOk P w K mg base CX (k + 1) f (PySem.W.fnOf name qual params body scope dV kV doc pm an cdv ct) ps sp := by
 refine ⟨len, fun A outer s H args us vs Q E hr e0 hb r hsp => ?_⟩
 have hl := len _ _ _ _ hsp
 have KX : K.In s.heap := e0.mod.kin.keeps fun b o e => (e0.bs b o e).1
 have lim : s.heap.NoLimit := e0.mod.nolimit.keeps fun b o e => (e0.bs b o e).1
 have hkind : ∀ y ∈ ps.zip us, scope.names.lookup y.1 = some .local ∨ (scope.names.lookup y.1 = some .cell ∧ ((cellsFrom (s.heap.objs.size + 1) scope.names []).lookup y.1).isSome = true) := fun pq32 hy => by
  obtain ⟨n, v⟩ := pq32
  rcases S.par n (List.of_mem_zip hy).1 with q | q
  ·exact .inl q
  ·exact .inr ⟨q, PySem.W.cellsFrom_some _ _ _ (.inl q)⟩
 refine codeAny_call_function hr.depth (KX _ _ lk) rfl S.co S.gen rfl (PySem.W.codeRec_of KX hcd) (hb _ _ _ _ ?_)
 refine wpAny_newFunctionEnv_cells S.kind hkind fun env he s1 x => ?_
 subst he
 refine ⟨lim.keeps x.toInCall.keep, codeAny_func ?_⟩
 obtain ⟨t, ht, hq⟩ := hbody A outer s H vs Q E (hr.deeper _) hsp
 have I : Inv (cxOf CX P w K mg base N qual scope f cdv A outer s H E) [] (start N vs) H s1 := QbN S hr.hd e0 hl r x
 refine wpAny_mono (ht [] s1 (start N vs) H _ I hq) (fun fl s' hs => ?_) fun e s' hs => hs
 have fin : ∀ {σ' : St} {H' : Hp} {v : V} {u : Value}, Inv (cxOf CX P w K mg base N qual scope f cdv A outer s H E) [] σ' H' s' → RelV v u → Q v H' → CE outer P w H s Q u s' :=
  fun {σ' H' v u} J rv q => ⟨v, H', J.os, J.bare, J.base, J.hok, rv, q⟩
 cases fl with
 | ret u =>
  obtain ⟨v, σ', H', J, rv, q⟩ := hs
  exact fin J rv q
 | next =>
  obtain ⟨σ', H', J, q⟩ := hs
  exact fin (v := V.non) (u := Value.none) J rfl q
 | brk =>
  obtain ⟨_, _, _, q⟩ := hs
  exact False.elim q
 | cont =>
  obtain ⟨_, _, _, q⟩ := hs
  exact False.elim q
end L2
namespace L2
open PySem PySem.Spec PyProof.Rows
section
variable {X : Cx} {x : Str} {p pos : Pos} {e : Expr} {es : List Expr} {t : TA} {id T : String} {r : List V → Hp → VK → Prop}
noncomputable def tCB (r : List V → Hp → VK → Prop) (t : TA) : TE := fun σ H Q => t σ H fun vs H1 => r vs H1 Q
theorem QbP (hc : CallR X (.builtin id) r) (hg : Gl X x) (hm : X.mg x = none) (hv : bootBuiltins x = some (.builtin id)) (ha : PA X (e :: es) t) (hn : x ≠ "__name__" := by decide) (hdb : (x == ("__debug__" : Str)) = false := by decide)
  (he : starEach (e :: es) X.env = (false, eval e X.env) :: starEach es X.env := by rfl) (hpl : (backTo pos (starEach es X.env)).any (·.1) = false := by rfl) : PE X (.Call (.Name x p) (e :: es) [] pos) (tCB r t) := by
 intro pins s σ H Q I h
 refine wpAny_Call_Name_kw (Qay I hg hm hv ?_ hn hdb)
 exact PyProof.Rows.callWith_builtin1 (thn (ha pos pins s σ H _ I h) fun us s1 pq33 => by obtain ⟨vs, H1, I1, r1, q1⟩ := pq33; exact hc pins s1 σ H1 vs us Q I1 r1 q1) he hpl
theorem QbQ (hc : CallR X (.type T) r) (hg : Gl X x) (hm : X.mg x = none) (hv : bootBuiltins x = some (.type T)) (ha : PA X (e :: es) t) (hn : x ≠ "__name__" := by decide) (hdb : (x == ("__debug__" : Str)) = false := by decide)
  (he : starEach (e :: es) X.env = (false, eval e X.env) :: starEach es X.env := by rfl) (hpl : (backTo pos (starEach es X.env)).any (·.1) = false := by rfl) : PE X (.Call (.Name x p) (e :: es) [] pos) (tCB r t) := by
 intro pins s σ H Q I h
 refine wpAny_Call_Name_kw (Qay I hg hm hv ?_ hn hdb)
 exact PyProof.Rows.callWith_type1 (thn (ha pos pins s σ H _ I h) fun us s1 pq34 => by obtain ⟨vs, H1, I1, r1, q1⟩ := pq34; exact hc pins s1 σ H1 vs us Q I1 r1 q1) he hpl
end
end L2
namespace HT
open PySem PyProof.Rows
section
open PySem.SeqAt
open PySem.AutoSeq1 (wpAny_loadPart')
open PySem.MeetsSeq PySem.MeetsSeq2 PySem.MeetsSeq3
end
section
variable {prog : Program} {w : World} {A : Around} {E : Value → Shared → Prop} {s : Shared}
theorem cat_tup {t b : Addr} {vs ws : List Value} {Q : Value → Shared → Prop} (ht : IsTup s.heap t vs.toArray) (hb : IsTup s.heap b ws.toArray) (hv : vs ≠ [])
  (h1 : ws = [] → Q (.ref t) s) (h2 : ws ≠ [] → Q (.ref s.heap.objs.size) { s with heap := s.heap.push { cls := .type "tuple", data := .seq (vs ++ ws).toArray } })
  (hsz : vs.length + ws.length ≤ sizeLine) : wpAny (model prog w) A (binaryOp .Add (.ref t) (.ref b)) Q E s := by
 obtain ⟨⟨cls, dd, data, sl⟩, ho, hc, n, hd⟩ := id ht
 obtain ⟨⟨cls2, dd2, data2, sl2⟩, ho2, hc2, n2, hd2⟩ := id hb
 simp only at hc hd hc2 hd2
 subst hc hd hc2 hd2
 have e : vs.toArray ++ ws.toArray = (vs ++ ws).toArray := by simp
 by_cases hw : ws = []
 ·exact concat_meets ⟨_, ho, rfl⟩ ⟨_, ho2, rfl⟩ noFill_tuple_add seq_tuple_add PySem.F.slot_tuple_add PySem.F.entry_tuple_add (PySem.F.args_tuple_add_2 _ _)
    (tuple_addW1 t b vs.toArray ws.toArray n n2 dd dd2 sl sl2 (by simpa using hv) (by simp [hw])) ⟨ho, ho2, h1 hw⟩
 ·refine concat_meets ⟨_, ho, rfl⟩ ⟨_, ho2, rfl⟩ noFill_tuple_add seq_tuple_add PySem.F.slot_tuple_add PySem.F.entry_tuple_add (PySem.F.args_tuple_add_2 _ _)
    (tuple_addW2 t b vs.toArray ws.toArray n n2 dd dd2 sl sl2 (by simpa using hv) (by simpa using hw) (by rw [List.size_toArray, List.size_toArray]; exact hsz)) ⟨ho, ho2, ?_⟩
  rw [e]
  exact h2 hw
noncomputable def sIx (n d : Nat) : Option Int → Nat
 | none => d
 | some v => if v < 0 then (v + (n : Int)).toNat else min v.toNat n
end
end HT
namespace L2
open PySem PySem.Spec PyProof.Rows
noncomputable abbrev TO := St → Hp → (Option Int → Hp → Prop) → Prop
def PO (X : Cx) (e : Option Expr) (t : TO) : Prop :=
 ∀ (pins : List (Addr × Obj)) (s : Shared) (σ : St) (H : Hp) (Q : Option Int → Hp → Prop), Inv X pins σ H s → t σ H Q →
  wpAny (model X.prog X.w) X.A (evalPart e X.env) (fun u s' => ∃ o H', Inv X pins σ H' s' ∧ IsPart u o ∧ Q o H') X.xe s
noncomputable def tPart (t : TE) : TO := fun σ H Q => t σ H fun x H1 => ∃ i, x = .int i ∧ Q (some i) H1
theorem QbR {ns : List Int} : ∀ {us : List Value}, Vals (ns.map V.int) us → IntsAre us ns := by
 induction ns with
 | nil => intro us r; rw [List.map_nil] at r; cases r; exact .nil
 | cons n ns ih =>
  intro us r
  rw [List.map_cons] at r
  cases r with
  | cons r1 r2 =>
   obtain ⟨t, e⟩ := r1
   subst e
   exact .cons n t (ih r2)
section
variable {X : Cx} {e : Expr} {te : TE} {lo hi : Option Expr} {tl th : TO} {pos p2 : Pos}
theorem QbS (h : PE X e te) : PO X (some e) (tPart te) := by
 intro pins s σ H Q I hw
 rw [evalPart_some]
 refine thn (h pins s σ H _ I hw) fun u s1 pq35 => ?_
 obtain ⟨x, H1, I1, r1, q1⟩ := pq35
 obtain ⟨i, rfl, q⟩ := q1
 obtain ⟨t, rfl⟩ := r1
 exact ⟨some i, H1, I1, .int i t, q⟩
def SlR (X : Cx) (r : V → Option Int → Option Int → Hp → VK → Prop) : Prop :=
 ∀ (pins : List (Addr × Obj)) (s : Shared) (σ : St) (H : Hp) (x : V) (v vl vu : Value) (lo hi : Option Int) (sl : Addr) (Q : VK), Inv X pins σ H s → RelV x v → s.heap.IsSliceOf sl vl vu .none → IsPart vl lo → IsPart vu hi → r x lo hi H Q →
  ∃ T id, typeLookup (.type T) "__getitem__" = pure (some (.builtin id)) ∧ s.TypeIs v T ∧ wpAny (model X.prog X.w) X.A (getItem v (.ref sl)) (EP X pins σ Q) X.xe s
theorem SlR.or {r r' : V → Option Int → Option Int → Hp → VK → Prop} (h : SlR X r) (h' : SlR X r') : SlR X (fun x lo hi H Q => r x lo hi H Q ∨ r' x lo hi H Q) := by
 intro pins s σ H x v vl vu lo hi sl Q I rx hs pl pu q
 rcases q with q | q
 ·exact h pins s σ H x v vl vu lo hi sl Q I rx hs pl pu q
 ·exact h' pins s σ H x v vl vu lo hi sl Q I rx hs pl pu q
noncomputable def tSl (r : V → Option Int → Option Int → Hp → VK → Prop) (te : TE) (tl th : TO) : TE := fun σ H Q => te σ H fun x H1 => tl σ H1 fun l H2 => th σ H2 fun u H3 => r x l u H3 Q
theorem QbT {r : V → Option Int → Option Int → Hp → VK → Prop} (hr : SlR X r) (he : PE X e te) (hl : PO X lo tl) (hu : PO X hi th) : PE X (.Subscript e (.Slice lo hi none p2) pos) (tSl r te tl th) := by
 intro pins s σ H Q I h
 refine Subscript_ (thn (he pins s σ H _ I h) fun v s1 pq36 => ?_)
 obtain ⟨x, H1, I1, r1, q1⟩ := pq36
 refine wpAny_Slice (thn (hl pins s1 σ H1 _ I1 q1) fun vl s2 ⟨l, H2, I2, pl, q2⟩ => thn (hu pins s2 σ H2 _ I2 q2) fun vu s3 pq38 => ?_)
 obtain ⟨u, H3, I3, pu, q3⟩ := pq38
 rw [evalPart_none]
 refine wpAny_pure ?_
 have I4 : Inv X pins σ H3 { s3 with heap := s3.heap.push { cls := .type "slice", data := .fields #[vl, vu, .none] } } := I3.kept (t' := s3.toks) fun b ob q => Heap.get?_push_of_some _ q
 obtain ⟨T, id, hT, ht, hg⟩ := hr pins { s3 with heap := s3.heap.push { cls := .type "slice", data := .fields #[vl, vu, .none] } } σ H3 x v vl vu l u s3.heap.objs.size Q I4 r1 (Heap.IsSliceOf.new ..) pl pu q3
 show wpAny (model X.prog X.w) X.A (subscriptTail e (.Slice lo hi none p2) v (.ref s3.heap.objs.size)) (EP X pins σ Q) X.xe { s3 with heap := s3.heap.push { cls := .type "slice", data := .fields #[vl, vu, .none] } }
 exact tail_any (ops := [.ref s3.heap.objs.size, v]) ht hT hg (by with_unfolding_all rfl)
noncomputable def cutV (xs : List V) (lo hi : Option Int) : List V := (xs.drop (HT.sIx xs.length 0 lo)).take (HT.sIx xs.length xs.length hi - HT.sIx xs.length 0 lo)
theorem QbU (xs : List V) (lo hi : Option Int) : (cutV xs lo hi).length ≤ xs.length := by
 unfold cutV
 rw [List.length_take, List.length_drop]
 ac_nf
noncomputable def rCatT (K : PySem.W.Frag) : R2 := fun x y H Q => ∃ a b xs ys, x = .ref a ∧ y = .ref b ∧ SqT K H a xs ∧ SqT K H b ys ∧ xs ≠ [] ∧ xs.length + ys.length ≤ sizeLine ∧
 (ys = [] → Q (.ref a) H) ∧ (ys ≠ [] → ∀ p, H p = none → Q (.ref p) (upd H p (.tup (xs ++ ys))))
theorem Vals.nil_iff {xs : List V} {us : List Value} (r : Vals xs us) : us = [] ↔ xs = [] := by
 cases r with
 | nil => simp
 | cons _ _ => simp
theorem QbV : OpR X (binaryOp .Add) (rCatT X.K) := by
 intro pins s σ H x y v u Q I rx ry h
 obtain ⟨a, b, xs, ys, rfl, rfl, ha, hb, hx, hz, q1, q2⟩ := h
 cases rx
 cases ry
 obtain ⟨its, r1, p1, _⟩ := I.tuple ha
 obtain ⟨its2, r2, p2, _⟩ := I.tuple hb
 refine HT.cat_tup p1 p2 (fun z => hx (r1.nil_iff.mp z)) (fun z => ⟨.ref a, H, I, rfl, q1 (r2.nil_iff.mp z)⟩) (fun z => ?_) (by rw [← r1.length, ← r2.length]; exact hz)
 refine ⟨.ref s.heap.objs.size, _, I.laid (t' := s.toks) (o := .tup (xs ++ ys)) (fun b ob q => Heap.get?_push_of_some _ q) (Nat.le_refl _) ?_, rfl, q2 (fun w => z (r2.nil_iff.mpr w)) _ (I.hok.fresh (Nat.le_refl _))⟩
 exact ⟨by rw [List.length_append]; exact hz, _, r1.append r2, IsTup.new _ _⟩
end
end L2
namespace L2
open PySem PySem.Spec PyProof.Rows
noncomputable def ixN (n : Nat) (i : Int) : Option Nat := if 0 ≤ i then (if i < n then some i.toNat else none) else if -(n : Int) ≤ i then some (i + n).toNat else none
noncomputable def atI {α : Type} (xs : List α) (i : Int) : Option α := (ixN xs.length i).bind fun j => xs[j]?
theorem QbW {n : Nat} {i : Int} {j : Nat} (h : ixN n i = some j) : seqIndex? i n = some j ∧ j < n ∧ -(n : Int) ≤ i ∧ i < n := by
 unfold ixN at h
 by_cases h0 : 0 ≤ i
 ·rw [if_pos h0] at h
  by_cases h1 : i < n
  ·rw [if_pos h1] at h
   have e : i.toNat = j := Option.some.inj h
   exact ⟨by rw [seqIndex_of h0 h1, e], by ac_nf, by ac_nf, h1⟩
  ·rw [if_neg h1] at h; cases h
 ·rw [if_neg h0] at h
  by_cases h1 : -(n : Int) ≤ i
  ·rw [if_pos h1] at h
   have e : (i + n).toNat = j := Option.some.inj h
   exact ⟨by rw [seqIndex_neg (by ac_nf) h1, e], by ac_nf, h1, by ac_nf⟩
  ·rw [if_neg h1] at h; cases h
theorem QbX {α : Type} {xs : List α} {i : Int} {v : α} (h : atI xs i = some v) : ∃ j, seqIndex? i xs.length = some j ∧ xs[j]? = some v ∧ j < xs.length ∧ -(xs.length : Int) ≤ i ∧ i < xs.length := by
 unfold atI at h
 cases e : ixN xs.length i with
 | none => rw [e] at h; cases h
 | some j =>
  rw [e] at h
  obtain ⟨h1, h2, h3, h4⟩ := QbW e
  exact ⟨j, h1, h, h2, h3, h4⟩
def PlainIx (b : Expr) : Prop := ∀ o i, subscripted b false o i = operate [o, i] (getItem o i)
def IxR (X : Cx) (r : R2) : Prop :=
 ∀ (value slice : Expr) (pins : List (Addr × Obj)) (s : Shared) (σ : St) (H : Hp) (x y : V) (v u : Value) (Q : VK), Inv X pins σ H s → RelV x v → RelV y u → r x y H Q →
  subscripted slice false v u = operate [v, u] (getItem v u) → wpAny (model X.prog X.w) X.A (subscriptTail value slice v u) (EP X pins σ Q) X.xe s
def MtR (X : Cx) (id : String) (r : V → List V → Hp → VK → Prop) : Prop :=
 ∀ (pins : List (Addr × Obj)) (s : Shared) (σ : St) (H : Hp) (x : V) (xs : List V) (v : Value) (us : List Value) (Q : VK), Inv X pins σ H s → RelV x v → Vals xs us → r x xs H Q →
  wpAny (model X.prog X.w) X.A (call (.builtin id) (v :: us)) (EP X pins σ Q) X.xe s
section
variable {X : Cx} {a b : Expr} {ta tb : TE} {pos : Pos}
theorem IxR.or {r r' : R2} (h : IxR X r) (h' : IxR X r') : IxR X (fun x y H Q => r x y H Q ∨ r' x y H Q) := by
 intro value slice pins s σ H x y v u Q I rx ry q hs
 rcases q with q | q
 ·exact h value slice pins s σ H x y v u Q I rx ry q hs
 ·exact h' value slice pins s σ H x y v u Q I rx ry q hs
theorem MtR.or {id : String} {r r' : V → List V → Hp → VK → Prop} (h : MtR X id r) (h' : MtR X id r') : MtR X id (fun x xs H Q => r x xs H Q ∨ r' x xs H Q) := by
 intro pins s σ H x xs v us Q I rx rs q
 rcases q with q | q
 ·exact h pins s σ H x xs v us Q I rx rs q
 ·exact h' pins s σ H x xs v us Q I rx rs q
theorem QbY {r : R2} (hr : IxR X r) (ha : PE X a ta) (hb : PE X b tb) (hs : PlainIx b) : PE X (.Subscript a b pos) (tOp r ta tb) := by
 intro pins s σ H Q I h
 exact Subscript_ (binT ha hb I h fun v u s2 x y H2 I2 rx ry q => hr a b pins s2 σ H2 x y v u Q I2 rx ry q (hs _ _))
noncomputable def rIxL (K : PySem.W.Frag) : R2 := fun x y H Q => ∃ p xs i v, x = .ref p ∧ y = .int i ∧ SqL K H p xs ∧ atI xs i = some v ∧ Q v H
noncomputable def rIxT (K : PySem.W.Frag) : R2 := fun x y H Q => ∃ p xs i v, x = .ref p ∧ y = .int i ∧ SqT K H p xs ∧ atI xs i = some v ∧ Q v H
noncomputable def rIxS : R2 := fun x y H Q => ∃ z i c, x = .str z ∧ y = .int i ∧ z.length ≤ sizeLine ∧ atI z.cps.toList i = some c ∧ Q (.str ⟨#[c]⟩) H
theorem QbZ : IxR X (rIxL X.K) := by
 intro value slice pins s σ H x y v u Q I rx ry h hs
 obtain ⟨p, xs, i, z, rfl, rfl, hq, he, q⟩ := h
 cases rx
 obtain ⟨t, rfl⟩ := ry
 obtain ⟨its, r, pl, hz⟩ := I.list hq
 obtain ⟨j, h1, h2, h3, h4, h5⟩ := QbX he
 obtain ⟨w, ew, rw'⟩ := r.get h2
 have hl := r.length
 have hn := Qbr
 have fin : EP X pins σ Q w s := ⟨z, H, I, rw', q⟩
 by_cases h0 : 0 ≤ i
 ·have hj : i.toNat = j := by
    rw [seqIndex_of h0 h5] at h1
    exact Option.some.inj h1
  exact item_listR pl.isList h0 (by ac_nf) (by rw [hj]; simpa using ew) fin hs
 ·have hj : (i + (its.toArray.size : Int)).toNat = j := by
    rw [seqIndex_neg (by ac_nf) h4] at h1
    rw [List.size_toArray, ← hl]
    exact Option.some.inj h1
  exact subscriptTail_builtinR (x := w) pl.isList.typeIs slot_list_getitem.lookup
   (wpAny_getItem_list_neg (Q := fun r s' => r = w ∧ EP X pins σ Q r s') pl.isList (by ac_nf) (by rw [List.size_toArray] <;> ac_nf) (by ac_nf) (by rw [hj]; simpa using ew) ⟨rfl, fin⟩) hs
theorem Qb0 : IxR X (rIxT X.K) := by
 intro value slice pins s σ H x y v u Q I rx ry h hs
 obtain ⟨p, xs, i, z, rfl, rfl, hq, he, q⟩ := h
 cases rx
 obtain ⟨t, rfl⟩ := ry
 obtain ⟨its, r, pl, hz⟩ := I.tuple hq
 obtain ⟨j, h1, h2, h3, h4, h5⟩ := QbX he
 obtain ⟨w, ew, rw'⟩ := r.get h2
 have hl := r.length
 have hn := Qbr
 have fin : EP X pins σ Q w s := ⟨z, H, I, rw', q⟩
 exact subscriptTail_builtinR (x := w) pl.typeIs slot_tuple_getitem.lookup
  (getItem_tuple (j := j) (Q := fun r s' => r = w ∧ EP X pins σ Q r s') pl (by ac_nf) (by ac_nf) (by rw [List.size_toArray, ← hl]; exact h1) (by simpa using ew) ⟨rfl, fin⟩) hs
theorem Qb1 : IxR X rIxS := by
 intro value slice pins s σ H x y v u Q I rx ry h hs
 obtain ⟨z, i, c, rfl, rfl, hz, he, q⟩ := h
 obtain ⟨t, rfl⟩ := rx
 obtain ⟨t', rfl⟩ := ry
 obtain ⟨j, h1, h2, h3, h4, h5⟩ := QbX he
 have hl : z.cps.toList.length = z.length := by simp [Str.length]
 rw [hl] at h1 h4 h5
 have hn := Qbr
 exact tail_any (typeIs_str s z t) slot_str_getitem.lookup (getItem_str (c := c) (by
  have e1 : decide (i < -(2 ^ 63 : Int)) = false := decide_eq_false (by ac_nf)
  have e2 : decide (i ≥ 2 ^ 63) = false := decide_eq_false (by ac_nf)
  rw [e1, e2, Bool.or_false]) (by rw [h1]; simpa using h2) ⟨.str ⟨#[c]⟩, H, I.tok _, ⟨_, rfl⟩, q⟩) hs
noncomputable def rIx (K : PySem.W.Frag) : R2 := fun x y H Q => rIxL K x y H Q ∨ rIxT K x y H Q ∨ rIxS x y H Q
theorem Qb2 : IxR X (rIx X.K) := QbZ.or (Qb0.or Qb1)
theorem Qb3 (its : List Value) (n j : Nat) (u : Value) : Obj.mapSeq (·.setIfInBounds j u) { cls := .type "list", data := .seq its.toArray n } = { cls := .type "list", data := .seq (its.set j u).toArray n } := by
 simp [Obj.mapSeq]
theorem Inv.lst {pins : List (Addr × Obj)} {σ : St} {H : Hp} {s : Shared} {p : Addr} {xs : List V} (I : Inv X pins σ H s) (h : H p = some (.lst xs)) :
  ∃ (its : List Value) (n : Nat), Vals xs its ∧ s.heap.get? p = some { cls := .type "list", data := .seq its.toArray n } ∧ xs.length ≤ sizeLine := by
 obtain ⟨z, its, n, r, e⟩ := I.hok p _ h
 exact ⟨its, n, r, e, z⟩
theorem Inv.lstUpd {pins : List (Addr × Obj)} {σ : St} {H : Hp} {s : Shared} {p : Addr} {xs ys : List V} {its its' : List Value} {n n' : Nat} {f : Obj → Obj} (I : Inv X pins σ H s) (h : H p = some (.lst xs))
  (ho : s.heap.get? p = some { cls := .type "list", data := .seq its.toArray n }) (hf : f { cls := .type "list", data := .seq its.toArray n } = { cls := .type "list", data := .seq its'.toArray n' }) (r : Vals ys its') (hz : ys.length ≤ sizeLine) (t : Nat) :
  Inv X pins σ (upd H p (.lst ys)) { s with heap := s.heap.update p f, toks := t } := by
 have e : (s.heap.update p f).get? p = some { cls := .type "list", data := .seq its'.toArray n' } := by
  rw [Heap.get?_update_self f ho (by rw [hf] <;> rfl), hf]
 refine I.write (x := p) (e := p) (by rw [h]; trivial) (.inl rfl) (fun b u hb q => (Heap.get?_update_other _ _ (Ne.symm hb)).trans q) ⟨_, e⟩ ?_
 exact ⟨hz, its', n', r, e⟩
noncomputable def rSetL : V → V → V → Hp → (Hp → Prop) → Prop := fun o i v H Q => ∃ p xs k j, o = .ref p ∧ i = .int k ∧ H p = some (.lst xs) ∧ ixN xs.length k = some j ∧ Q (upd H p (.lst (xs.set j v)))
theorem Qb4 : PSet X rSetL := by
 intro pins s σ H o i v ov iv u Q I ro ri rv h
 obtain ⟨p, xs, k, j, rfl, rfl, hp, hj, q⟩ := h
 cases ro
 obtain ⟨t, rfl⟩ := ri
 obtain ⟨its, n, r, ho, hz⟩ := I.lst hp
 obtain ⟨h1, h2, h3, h4⟩ := QbW hj
 have hl := r.length
 have hn := Qbr
 have I' : Inv X pins σ (upd H p (.lst (xs.set j v))) { s with heap := s.heap.update p (Obj.mapSeq (·.setIfInBounds j u)) } :=
  I.lstUpd hp ho (Qb3 its n j u) (r.set rv j) (by rw [List.length_set]; exact hz) s.toks
 by_cases h0 : 0 ≤ k
 ·have hk : k.toNat = j := by
    rw [seqIndex_of h0 h4] at h1
    exact Option.some.inj h1
  exact PySem.W.ki_setAt ho h0 (by ac_nf) (by rw [List.size_toArray, ← hl]; exact h4) (by rw [hk]; exact ⟨_, I', q⟩)
 ·have hk : (k + (its.toArray.size : Int)).toNat = j := by
    rw [seqIndex_neg (by ac_nf) h3] at h1
    rw [List.size_toArray, ← hl]
    exact Option.some.inj h1
  exact PySem.W.ki_setBack ho (by ac_nf) (by rw [List.size_toArray, ← hl]; exact h3) (by ac_nf) (by rw [hk]; exact ⟨_, I', q⟩)
theorem Qb5 (lo hi : Option Int) (n : Nat) : (sliceBounds lo hi none n).1 = ((HT.sIx n 0 lo : Nat) : Int) ∧ (sliceBounds lo hi none n).2.1 = ((HT.sIx n n hi : Nat) : Int) ∧ (sliceBounds lo hi none n).2.2 = 1 := by
 refine ⟨?_, ?_, rfl⟩
 ·cases lo with
  | none => simp [sliceBounds, HT.sIx]
  | some i =>
   simp only [sliceBounds, HT.sIx, Option.getD_none, show (1 : Int) > 0 by decide, if_true]
   by_cases h : i < 0
   ·simp only [h, if_true] <;> ac_nf
   ·simp only [h, if_false] <;> ac_nf
 ·cases hi with
  | none => simp [sliceBounds, HT.sIx]
  | some i =>
   simp only [sliceBounds, HT.sIx, Option.getD_none, show (1 : Int) > 0 by decide, if_true]
   by_cases h : i < 0
   ·simp only [h, if_true] <;> ac_nf
   ·simp only [h, if_false] <;> ac_nf
theorem Qb6 (its : List Value) (lo hi : Option Int) : slicePick its.toArray lo hi none = ((its.drop (HT.sIx its.length 0 lo)).take (HT.sIx its.length its.length hi - HT.sIx its.length 0 lo)).toArray := by
 obtain ⟨h1, h2, h3⟩ := Qb5 lo hi its.toArray.size
 unfold slicePick
 rw [h1, h2, h3]
 simp only [sliceRange_one, pick_run, List.size_toArray] <;> rfl
noncomputable def rSlL (K : PySem.W.Frag) : V → Option Int → Option Int → Hp → VK → Prop := fun x lo hi H Q => ∃ a xs, x = .ref a ∧ SqL K H a xs ∧ ∀ p, H p = none → Q (.ref p) (upd H p (.lst (cutV xs lo hi)))
theorem Qb7 : SlR X (rSlL X.K) := by
 intro pins s σ H x v vl vu lo hi sl Q I rx hs pl pu h
 obtain ⟨a, xs, rfl, hx, q⟩ := h
 cases rx
 obtain ⟨its, r, ht, hz⟩ := I.list hx
 have hlen := r.length
 refine ⟨"list", _, slot_list_getitem.lookup, ht.isList.typeIs, ?_⟩
 refine wpAny_getItem_list_slice ht.isList hs pl pu .none (by simp) ?_ (by rw [List.size_toArray] <;> ac_nf)
 rw [Qb6, ← hlen]
 refine ⟨.ref s.heap.objs.size, _, I.laid (t' := s.toks) (o := .lst (cutV xs lo hi)) (fun b ob q => Heap.get?_push_of_some _ q) (Nat.le_refl _) ?_, rfl, q _ (I.hok.fresh (Nat.le_refl _))⟩
 exact ⟨Nat.le_trans (QbU xs lo hi) hz, _, 0, (r.drop (HT.sIx xs.length 0 lo)).take (HT.sIx xs.length xs.length hi - HT.sIx xs.length 0 lo), Heap.get?_push_size _ rfl⟩
noncomputable def flatV : V → Bool
 | .non => true
 | .bl _ => true
 | .int _ => true
 | .str _ => true
 | _ => false
noncomputable def eqV : V → V → Bool
 | .non, .non => true
 | .bl a, .bl b => a == b
 | .bl a, .int b => (if a then 1 else 0) == b
 | .int a, .bl b => a == (if b then 1 else 0)
 | .int a, .int b => a == b
 | .str a, .str b => a == b
 | _, _ => false
theorem Qb8 {A : Around} {s : Shared} {y x : V} {u v : Value} (ry : RelV y u) (rx : RelV x v) (fy : flatV y = true) (fx : flatV x = true) : SeqAt.EqAt A s u v (eqV y x) := by
 cases y with
 | non =>
  cases ry
  cases x with
  | non => cases rx; exact SeqAt.EqAt.same _
  | bl b => cases rx; exact SeqAt.EqAt.none_bool b
  | int b => obtain ⟨t, rfl⟩ := rx; exact SeqAt.EqAt.none_int b t
  | str b => obtain ⟨t, rfl⟩ := rx; exact SeqAt.EqAt.none_str b t
  | _ => exact absurd (show false = true from fx) Bool.false_ne_true
 | bl a =>
  cases ry
  cases x with
  | non => cases rx; exact SeqAt.EqAt.bool_none a
  | bl b => cases rx; exact SeqAt.EqAt.bool_bool a b
  | int b => obtain ⟨t, rfl⟩ := rx; exact SeqAt.EqAt.bool_int a b t
  | str b => obtain ⟨t, rfl⟩ := rx; exact SeqAt.EqAt.bool_str a b t
  | _ => exact absurd (show false = true from fx) Bool.false_ne_true
 | int a =>
  obtain ⟨t', rfl⟩ := ry
  cases x with
  | non => cases rx; exact SeqAt.EqAt.int_none a t'
  | bl b => cases rx; exact SeqAt.EqAt.int_bool a t' b
  | int b => obtain ⟨t, rfl⟩ := rx; exact SeqAt.EqAt.int_int a t' b t
  | str b => obtain ⟨t, rfl⟩ := rx; exact SeqAt.EqAt.int_str a t' b t
  | _ => exact absurd (show false = true from fx) Bool.false_ne_true
 | str a =>
  obtain ⟨t', rfl⟩ := ry
  cases x with
  | non => cases rx; exact SeqAt.EqAt.str_none a t'
  | bl b => cases rx; exact SeqAt.EqAt.str_bool a t' b
  | int b => obtain ⟨t, rfl⟩ := rx; exact SeqAt.EqAt.str_int a t' b t
  | str b => obtain ⟨t, rfl⟩ := rx; exact SeqAt.EqAt.str_str a t' b t
  | _ => exact absurd (show false = true from fx) Bool.false_ne_true
 | _ => exact absurd (show false = true from fy) Bool.false_ne_true
noncomputable def eqU (x : V) (u : Value) : Bool := match u with
 | .none => eqV .non x
 | .bool b => eqV (.bl b) x
 | .int i _ => eqV (.int i) x
 | .str z _ => eqV (.str z) x
 | _ => false
theorem Qb9 {x y : V} {u : Value} (r : RelV y u) (f : flatV y = true) : eqU x u = eqV y x := by
 cases y with
 | non => cases r; rfl
 | bl b => cases r; rfl
 | int i => obtain ⟨t, rfl⟩ := r; rfl
 | str z => obtain ⟨t, rfl⟩ := r; rfl
 | _ => exact absurd (show false = true from f) Bool.false_ne_true
theorem Qca {x : V} : ∀ {xs : List V} {us : List Value}, Vals xs us → xs.all flatV = true → us.any (eqU x) = xs.any fun y => eqV y x
 | _, _, .nil, _ => rfl
 | y :: xs, u :: us, .cons r t, f => by
  rw [List.all_cons, Bool.and_eq_true] at f
  rw [List.any_cons, List.any_cons, Qb9 r f.1, Qca t f.2]
theorem Qcb {A : Around} {s : Shared} {x : V} {v : Value} (rx : RelV x v) (fx : flatV x = true) : ∀ {xs : List V} {us : List Value}, Vals xs us → xs.all flatV = true → ∀ u ∈ us, SeqAt.EqAt A s u v (eqU x u)
 | _, _, .nil, _ => fun u hu => by cases hu
 | y :: xs, u :: us, .cons r t, f => fun u' hu => by
  rw [List.all_cons, Bool.and_eq_true] at f
  rcases List.mem_cons.mp hu with rfl | hu
  ·rw [Qb9 r f.1]; exact Qb8 r rx f.1 fx
  ·exact Qcb rx fx t f.2 u' hu
noncomputable def inV (x : V) (xs : List V) : Bool := xs.any fun y => eqV y x
noncomputable def rIn (K : PySem.W.Frag) (neg : Bool) : R2 := fun x y H Q => ∃ p xs, y = .ref p ∧ (SqL K H p xs ∨ SqT K H p xs) ∧ flatV x = true ∧ xs.all flatV = true ∧ Q (.bl (if neg then !inV x xs else inV x xs)) H
theorem Qcc : OpR X (compareOp .In) (rIn X.K false) := by
 intro pins s σ H x y v u Q I rx ry h
 obtain ⟨p, xs, rfl, hq, fx, fs, q⟩ := h
 cases ry
 rcases hq with hq | hq
 ·obtain ⟨its, r, pl, hz⟩ := I.list hq
  refine SeqAt.in_listAt (eqU x) pl.isList (fun w hw => Qcb rx fx r fs w (by simpa using hw)) ⟨.bl _, H, I, rfl, ?_⟩
  rw [show its.toArray.any (eqU x) = its.any (eqU x) by simp, Qca r fs]
  exact q
 ·obtain ⟨its, r, pl, hz⟩ := I.tuple hq
  refine SeqAt.in_tupleAt (eqU x) pl (fun w hw => Qcb rx fx r fs w (by simpa using hw)) ⟨.bl _, H, I, rfl, ?_⟩
  rw [show its.toArray.any (eqU x) = its.any (eqU x) by simp, Qca r fs]
  exact q
theorem Qcd : CallR X (.builtin "len") (fun xs H Q => ∃ p ys, xs = [.ref p] ∧ (SqL X.K H p ys ∨ SqT X.K H p ys) ∧ Q (.int ys.length) H) := by
 intro pins s σ H xs us Q I r h
 obtain ⟨p, ys, rfl, hq, q⟩ := h
 obtain ⟨u, rfl, rx⟩ := Qbv r
 cases rx
 have hn := Qbr
 rcases hq with hq | hq
 ·obtain ⟨its, r', pl, hz⟩ := I.list hq
  have hlen := r'.length
  exact Calls.call_len_list pl.isList (by simp only [List.size_toArray] <;> ac_nf) ⟨.int ys.length, H, I.tok _, ⟨s.toks + 1, by rw [List.size_toArray, hlen]⟩, q⟩
 ·obtain ⟨its, r', pl, hz⟩ := I.tuple hq
  have hlen := r'.length
  exact len_tuple pl (by simp only [List.size_toArray] <;> ac_nf) ⟨.int ys.length, H, I.tok _, ⟨s.toks + 1, by rw [List.size_toArray, hlen]⟩, q⟩
theorem Qce : CallR X (.builtin "len") (fun xs H Q => ∃ z, xs = [.str z] ∧ z.length ≤ sizeLine ∧ Q (.int z.length) H) := by
 intro pins s σ H xs us Q I r h
 obtain ⟨z, rfl, hz, q⟩ := h
 obtain ⟨u, rfl, t, rfl⟩ := Qbv r
 have hn := Qbr
 exact len_str (by ac_nf) ⟨.int z.length, H, I.tok _, ⟨_, rfl⟩, q⟩
theorem CallR.or {f : Value} {r r' : List V → Hp → VK → Prop} (h : CallR X f r) (h' : CallR X f r') : CallR X f (fun xs H Q => r xs H Q ∨ r' xs H Q) := by
 intro pins s σ H xs us Q I rs q
 rcases q with q | q
 ·exact h pins s σ H xs us Q I rs q
 ·exact h' pins s σ H xs us Q I rs q
theorem Qcf : CallR X (.type "tuple") (fun xs H Q => ∃ p ys, xs = [.ref p] ∧ ((SqL X.K H p ys ∧ ∀ l, H l = none → Q (.ref l) (upd H l (.tup ys))) ∨ (SqT X.K H p ys ∧ Q (.ref p) H))) := by
 intro pins s σ H xs us Q I r h
 obtain ⟨p, ys, rfl, h⟩ := h
 obtain ⟨u, rfl, rx⟩ := Qbv r
 cases rx
 rcases h with ⟨hq, q⟩ | ⟨hq, q⟩
 ·obtain ⟨its, r', pl, hz⟩ := I.list hq
  have hlen := r'.length
  refine call_tuple_list pl.isList (fun h' kp => ?_) (by simp only [List.size_toArray] <;> ac_nf)
  have I1 : Inv X pins σ H { s with heap := h' } := I.kept (t' := s.toks) kp
  have I2 : Inv X pins σ (upd H h'.objs.size (.tup ys)) { s with heap := h'.push { cls := .type "tuple", data := .seq its.toArray } } :=
   I1.laid (t' := s.toks) (fun b o e => Heap.get?_push_of_some _ e) (Nat.le_refl _) (show ObjOk X.prog X.w _ _ _ (.tup ys) from ⟨hz, its, r', IsTup.new _ _⟩)
  exact ⟨.ref h'.objs.size, _, I2, rfl, q _ (I1.hok.fresh (Nat.le_refl _))⟩
 ·obtain ⟨its, r', pl, hz⟩ := I.tuple hq
  exact call_tuple_same pl ⟨.ref p, H, I, rfl, q⟩
def tyV (K : PySem.W.Frag) (T : String) (x : V) (H : Hp) : Prop := match x with
 | .str _ => T = "str"
 | .int _ => T = "int"
 | .ref p => (T = "list" ∧ ∃ xs, SqL K H p xs) ∨ (T = "tuple" ∧ ∃ o, K.lookup p = some o ∧ o.cls = .type "tuple" ∧ o.dict = none) ∨
   (T = "dict" ∧ ((∃ kvs, H p = some (.dK kvs)) ∨ ∃ kvs, H p = some (.dT kvs))) ∨ (T = "set" ∧ ∃ S n, H p = some (.set S n))
 | _ => False
theorem Qcg {pins : List (Addr × Obj)} {σ : St} {H : Hp} {s : Shared} {T : String} {x : V} {v : Value} (I : Inv X pins σ H s) (r : RelV x v) (ty : tyV X.K T x H) :
  s.TypeIs v T ∧ ∀ a, v = .ref a → ∃ ob, s.heap.get? a = some ob ∧ ob.dict = none := by
 cases x with
 | str z =>
  obtain ⟨t, rfl⟩ := r
  cases (show T = "str" from ty)
  exact ⟨typeIs_str s z t, fun _ e => nomatch e⟩
 | int i =>
  obtain ⟨t, rfl⟩ := r
  cases (show T = "int" from ty)
  exact ⟨typeIs_int s i t, fun _ e => nomatch e⟩
 | ref p =>
  cases r
  rcases ty with ⟨rfl, xs, hq⟩ | ⟨rfl, o, hk, hc, hd⟩ | ⟨rfl, hk⟩ | ⟨rfl, S, n, hk⟩
  ·obtain ⟨its, _, pl, _⟩ := I.list hq
   refine ⟨pl.isList.typeIs, fun a e => ?_⟩
   cases e
   obtain ⟨o, n, e, c, hd, _⟩ := pl
   exact ⟨o, e, hd⟩
  ·refine ⟨⟨o, I.kIn p o hk, hc⟩, fun a e => ?_⟩
   cases e
   exact ⟨o, I.kIn _ o hk, hd⟩
  ·have z : ∃ o, s.heap.get? p = some o ∧ o.ExactDict := by
     rcases hk with ⟨kvs, hk⟩ | ⟨kvs, hk⟩
     ·obtain ⟨_, _, _, _, o, _, _, e, ex, _⟩ := I.hok p _ hk
      exact ⟨o, e, ex⟩
     ·obtain ⟨_, _, _, _, o, _, _, e, ex, _⟩ := I.hok p _ hk
      exact ⟨o, e, ex⟩
   obtain ⟨o, e, ex⟩ := z
   refine ⟨⟨o, e, ex.1⟩, fun a e2 => ?_⟩
   cases e2
   exact ⟨o, e, ex.2.1⟩
  ·obtain ⟨o, _, _, _, e, ex, _⟩ := I.hok p _ hk
   refine ⟨⟨o, e, ex.1⟩, fun a e2 => ?_⟩
   cases e2
   exact ⟨o, e, ex.2.1⟩
 | _ => exact False.elim ty
noncomputable def tBM0 (K : PySem.W.Frag) (T : String) (r : V → List V → Hp → VK → Prop) (to : TE) : TE := fun σ H Q => to σ H fun x H1 => tyV K T x H1 ∧ r x [] H1 Q
noncomputable def tBM (K : PySem.W.Frag) (T : String) (r : V → List V → Hp → VK → Prop) (to : TE) (t : TA) : TE := fun σ H Q => to σ H fun x H1 => tyV K T x H1 ∧ t σ H1 fun xs H2 => r x xs H2 Q
variable {o e : Expr} {es : List Expr} {to : TE} {t : TA} {name : Str} {apos cpos : Pos} {T id : String} {r : V → List V → Hp → VK → Prop}
theorem Qch (pa : PlainAttrs T) (slot : Slot T name id) (hty : typeOf (.builtin id) = pure (.type "method_descriptor")) (hm : MtR X id r) (ho : PE X o to)
  (hbase : attributeBase o name X.env (eval o X.env) = eval o X.env := by rfl) (hline : (apos.endLine == cpos.line) = true := by rfl) : PE X (.Call (.Attribute o name apos) [] [] cpos) (tBM0 X.K T r to) := by
 intro pins s σ H Q I h
 refine wpAny_Call_method0_late hbase hline (thn (ho pins s σ H _ I h) fun v s1 pq39 => ?_)
 obtain ⟨x, H1, I1, r1, ty, q1⟩ := pq39
 obtain ⟨h1, h2⟩ := Qcg I1 r1 ty
 exact ⟨T, id, pa, slot, hty, h1, h2, Calls.callWith_builtin rfl (PySem.evalArgs_none (hm pins s1 σ H1 x [] v [] Q I1 r1 .nil q1))⟩
theorem Qci (pa : PlainAttrs T) (slot : Slot T name id) (hty : typeOf (.builtin id) = pure (.type "method_descriptor")) (hm : MtR X id r) (ho : PE X o to) (ha : PA X (e :: es) t)
  (hbase : attributeBase o name X.env (eval o X.env) = eval o X.env := by rfl)
  (hfew : ((backTo cpos (starEach (e :: es) X.env)).all (fun x => !x.1) && (backToKw cpos (keywordEach [] X.env)).all (fun x => x.1.isSome)
   && decide ((e :: es).length + ([] : List Keyword).length + (if ([] : List Keyword).isEmpty then 0 else 1) < 30)) = true := by rfl)
  (hline : (apos.endLine == cpos.line) = true := by rfl) (hs : starEach (e :: es) X.env = (false, eval e X.env) :: starEach es X.env := by rfl) (hplain : (backTo cpos (starEach es X.env)).any (·.1) = false := by rfl) :
  PE X (.Call (.Attribute o name apos) (e :: es) [] cpos) (tBM X.K T r to t) := by
 intro pins s σ H Q I h
 refine wpAny_Call_method_late hbase hfew hline rfl (thn (ho pins s σ H _ I h) fun v s1 pq40 => ?_)
 obtain ⟨x, H1, I1, r1, ty, q1⟩ := pq40
 obtain ⟨h1, h2⟩ := Qcg I1 r1 ty
 refine ⟨T, id, pa, slot, hty, h1, h2, ?_⟩
 have hA := ha cpos pins s1 σ H1 _ I1 q1
 rw [hs] at hA ⊢
 refine Calls.callWith_builtin (by show (false || (backTo cpos (starEach es X.env)).any (·.1)) = false; rw [hplain] <;> rfl) (Calls.evalArgs_plain ?_)
 exact thn hA fun us s2 pq41 => by obtain ⟨vs, H2, I2, r2, q2⟩ := pq41; exact hm pins s2 σ H2 x vs v us Q I2 r1 r2 q2
/- xs.append(e), list.index on a module's tuple .. are MtR facts of 06m -/
end
end L2
namespace L2
open PySem PySem.Spec PyProof.Rows
def MtM (X : Cx) (id : String) (r : V → List V → Hp → VK → Prop) : Prop :=
 ∀ (pins : List (Addr × Obj)) (s : Shared) (σ : St) (H : Hp) (x : V) (xs : List V) (v : Value) (us : List Value) (Q : VK), Inv X pins σ H s → RelV x v → Vals xs us → r x xs H Q →
  wpAny (model X.prog X.w) X.A (call (.builtin id) (v :: us)) (EP X pins σ Q) X.xe s
theorem Vals.one {x : V} {us : List Value} (h : Vals [x] us) : ∃ u, us = [u] ∧ RelV x u := by
 cases h with
 | cons r h => cases h; exact ⟨_, rfl, r⟩
theorem Vals.two {x y : V} {us : List Value} (h : Vals [x, y] us) : ∃ u v, us = [u, v] ∧ RelV x u ∧ RelV y v := by
 cases h with
 | cons r h => cases h with
  | cons q h => cases h; exact ⟨_, _, rfl, r, q⟩
theorem Vals.zero : ∀ {us : List Value}, Vals [] us → us = []
 | _, .nil => rfl
theorem Vals.dropLast {xs : List V} {us : List Value} (h : Vals xs us) : Vals xs.dropLast us.dropLast := by
 induction h with
 | nil => exact .nil
 | cons r t ih =>
  cases t with
  | nil => exact .nil
  | cons q t' => exact .cons r ih
theorem Vals.eraseIdx : ∀ {xs : List V} {us : List Value} (i : Nat), Vals xs us → Vals (xs.eraseIdx i) (us.eraseIdx i)
 | _, _, _, .nil => .nil
 | _, _, 0, .cons _ t => t
 | _, _, i + 1, .cons r t => .cons r (Vals.eraseIdx i t)
theorem Vals.reverse {xs : List V} {us : List Value} (h : Vals xs us) : Vals xs.reverse us.reverse := by
 induction h with
 | nil => exact .nil
 | cons r t ih => rw [List.reverse_cons, List.reverse_cons]; exact Vals.append ih (.cons r .nil)
theorem Vals.rep {xs : List V} {us : List Value} (h : Vals xs us) : ∀ k : Nat, Vals (List.replicate k xs).flatten (List.replicate k us).flatten
 | 0 => .nil
 | k + 1 => by
  rw [List.replicate_succ, List.replicate_succ, List.flatten_cons, List.flatten_cons]
  exact Vals.append h (Vals.rep h k)
theorem Qcj {α : Type} (l : List α) : l.eraseIdx (l.length - 1) = l.dropLast := by
 induction l with
 | nil => rfl
 | cons a r ih =>
  cases r with
  | nil => rfl
  | cons b r =>
   have e : (a :: b :: r).length - 1 = ((b :: r).length - 1) + 1 := by
    have h1 : (a :: b :: r).length = r.length + 2 := rfl
    have h2 : (b :: r).length = r.length + 1 := rfl
    ac_nf
   rw [e, List.eraseIdx_cons_succ, ih]
   all_goals rfl
section
variable {X : Cx} {pins : List (Addr × Obj)} {σ : St} {H : Hp} {s : Shared} {l b : Addr} {xs ys zs : List V}
theorem Inv.lset {its its' : List Value} {n : Nat} {f : Array Value → Array Value} {t' : Nat} (I : Inv X pins σ H s) (hH : H l = some (.lst xs))
  (e : s.heap.get? l = some { cls := .type "list", data := .seq its.toArray n }) (hf : f its.toArray = its'.toArray) (hv : Vals ys its') (hz : ys.length ≤ sizeLine) :
  Inv X pins σ (upd H l (.lst ys)) { s with heap := s.heap.update l (Obj.mapSeq f), toks := t' } := by
 have q := PySem.IsL.update e f
 rw [hf] at q
 refine I.write (x := l) (e := l) (by rw [hH]; exact trivial) (.inl rfl) (fun b' u hb hu => (Heap.get?_update_other s.heap (Obj.mapSeq f) (Ne.symm hb)).trans hu) ⟨_, q⟩ ?_
 exact ⟨hz, its', _, hv, q⟩
theorem Inv.lnew {its : List Value} {t' : Nat} (I : Inv X pins σ H s) (hv : Vals ys its) (hz : ys.length ≤ sizeLine) :
  Inv X pins σ (upd H s.heap.objs.size (.lst ys)) { s with heap := s.heap.push { cls := .type "list", data := .seq its.toArray }, toks := t' } :=
 I.laid (fun _ _ q => Heap.get?_push_of_some _ q) (Nat.le_refl _) ⟨hz, its, 0, hv, Heap.get?_push_size _ rfl⟩
theorem Inv.fresh (I : Inv X pins σ H s) : H s.heap.objs.size = none := I.hok.fresh (Nat.le_refl _)
theorem Inv.lstM (I : Inv X pins σ H s) (hH : H l = some (.lst xs)) : xs.length ≤ sizeLine ∧ ∃ (its : List Value) (n : Nat), Vals xs its ∧ xs.length = its.length ∧ s.heap.get? l = some { cls := .type "list", data := .seq its.toArray n } := by
 obtain ⟨z, its, n, r, e⟩ := I.hok l _ hH
 exact ⟨z, its, n, r, r.length, e⟩
theorem Qck {n : Nat} (h : n ≤ sizeLine) : Builtin.List.listTooLong n = false := by
 unfold Builtin.List.listTooLong
 exact decide_eq_false (by ac_nf)
end
section
variable {X : Cx}
noncomputable def rAppend : V → List V → Hp → VK → Prop := fun x vs H Q => ∃ l xs y, x = .ref l ∧ vs = [y] ∧ H l = some (.lst xs) ∧ xs.length < sizeLine ∧ Q .non (upd H l (.lst (xs ++ [y])))
theorem Qcl : MtM X "list.append" rAppend := by
 intro pins s σ H x vs v us Q I rx rv h
 obtain ⟨l, xs, y, rfl, rfl, hH, hz, q⟩ := h
 cases rx
 obtain ⟨u, rfl, ru⟩ := rv.one
 obtain ⟨z, its, n, r, hl, e⟩ := I.lstM hH
 refine call_meets F.slot_list_append ⟨_, e, rfl⟩ F.entry_list_append (F.args_list_append_2 _ _) (PySem.list_append l its.toArray n u (by rw [List.size_toArray]; ac_nf)) ⟨e, ?_⟩
 refine ⟨.non, _, I.lset (its' := its ++ [u]) hH e (by simp) (r.append (.cons ru .nil)) ?_, rfl, q⟩
 rw [List.length_append, List.length_singleton]
 ac_nf
noncomputable def rPop : V → List V → Hp → VK → Prop := fun x vs H Q => ∃ l xs y, x = .ref l ∧ vs = [] ∧ H l = some (.lst xs) ∧ xs[xs.length - 1]? = some y ∧ Q y (upd H l (.lst xs.dropLast))
theorem Qcm : MtM X "list.pop" rPop := by
 intro pins s σ H x vs v us Q I rx rv h
 obtain ⟨l, xs, y, rfl, rfl, hH, hy, q⟩ := h
 cases rx
 have hus := rv.zero
 subst hus
 obtain ⟨z, its, n, r, hl, e⟩ := I.lstM hH
 obtain ⟨u, hu, ru⟩ := r.get hy
 have hy' : its.toArray[its.toArray.size - 1]? = some u := by
  show its.toArray[its.length - 1]? = some u
  rw [← Array.getElem?_toList, ← hl]
  exact hu
 refine call_meets F.slot_list_pop ⟨_, e, rfl⟩ F.entry_list_pop (F.args_list_pop_1 _) (MeetsSeq.list_pop_last l its.toArray n u hy' (by rw [List.size_toArray]; ac_nf)) ⟨e, ?_⟩
 refine ⟨y, _, I.lset (its' := its.dropLast) hH e ?_ r.dropLast ?_, ru, q⟩
 ·show its.toArray.eraseIdxIfInBounds (its.toArray.size - 1) = its.dropLast.toArray
  rw [List.size_toArray, List.eraseIdxIfInBounds_toArray, Qcj]
 ·rw [List.length_dropLast]
  ac_nf
noncomputable def rCat : R2 := fun x y H Q => ∃ l b xs zs, x = .ref l ∧ y = .ref b ∧ H l = some (.lst xs) ∧ H b = some (.lst zs) ∧ xs.length + zs.length ≤ sizeLine ∧ ∀ p, H p = none → Q (.ref p) (upd H p (.lst (xs ++ zs)))
theorem Qcn : OpR X (binaryOp .Add) rCat := by
 intro pins s σ H x y v u Q I rx ry h
 obtain ⟨l, b, xs, zs, rfl, rfl, hH, hB, hz, q⟩ := h
 cases rx
 cases ry
 obtain ⟨z, its, n, r, hl, e⟩ := I.lstM hH
 obtain ⟨z2, its2, n2, r2, hl2, e2⟩ := I.lstM hB
 refine PySem.P.add_list e e2 ?_ (by rw [List.size_toArray, List.size_toArray]; ac_nf)
 have ea : its.toArray ++ its2.toArray = (its ++ its2).toArray := by simp
 rw [ea]
 exact ⟨.ref _, _, I.lnew (t' := s.toks) (r.append r2) (by rw [List.length_append]; ac_nf), rfl, q _ I.fresh⟩
end
section
variable {prog : Program} {w : World} {A : Around} {E : Value → Shared → Prop} {s : Shared}
theorem Qco {a c n : Nat} (hac : a ≤ c) (hc : c ≤ n) : sliceBounds (some (a : Int)) (some (c : Int)) none n = ((a : Int), (c : Int), 1) := by
 simp only [sliceBounds, Option.getD_none]
 have h1 : ¬ ((a : Int) < 0) := by ac_nf
 have h2 : ¬ ((c : Int) < 0) := by ac_nf
 simp only [h1, h2, if_false, show (1 : Int) > 0 by decide, if_true]
 congr 1
 ·ac_nf
 ·congr 1; ac_nf
theorem Qcp {l b sl : Addr} {items new : Array Value} {n n2 : Nat} {vl vu : Value} {a c : Nat} {Q : Unit → Shared → Prop}
  (e : s.heap.get? l = some { cls := .type "list", data := .seq items n }) (e2 : s.heap.get? b = some { cls := .type "list", data := .seq new n2 }) (hne : l ≠ b)
  (hs : s.heap.IsSliceOf sl vl vu .none) (pl : IsPart vl (some (a : Int))) (pu : IsPart vu (some (c : Int))) (hac : a ≤ c) (hc : c ≤ items.size)
  (hsz : items.size + new.size ≤ sizeLine) (h : Q () { s with heap := s.heap.update l (Obj.mapSeq fun xs => xs.extract 0 a ++ new ++ xs.extract c xs.size) }) :
  wpAny (model prog w) A (setItem (.ref l) (.ref sl) (.ref b)) Q E s := by
 have hl : s.heap.IsList l items := PySem.IsL.isList e
 have hb : s.heap.IsList b new := PySem.IsL.isList e2
 obtain ⟨os, hos, hcs, hds⟩ := id hs
 have hTs : s.TypeIs (.ref sl) "slice" := ⟨os, hos, hcs⟩
 have hstep : ¬ ((rawPart none == rawInt 0) = true) := Bool.false_ne_true
 have hsame : Builtin.List.listSameRef (.ref l) (.ref b) = false := by
  unfold Builtin.List.listSameRef
  exact beq_eq_false_iff_ne.mpr hne
 have hmax : (max (a : Int) (c : Int)).toNat = c := by ac_nf
 have hz' : ((fun xs : Array Value => xs.extract 0 a ++ new ++ xs.extract c xs.size) items).size ≤ sizeLine + 1 := by
  simp only [Array.size_append, Array.size_extract]
  ac_nf
 unfold setItem
 try with_reducible refine wpAny_holding ?_
 first | refine wpAny_bind (wpAny_pure ?_) | skip
 refine wpAny_bind (wpAny_sequenceKey hl.typeIs (by decide) ?_)
 refine wpAny_bind (wpAny_callSpecial?_slot (name := Str.ofString "__setitem__") hl.typeIs slot_list_setitem
  (wpAny_call_entry slot_list_setitem hl.typeIs entry_list_setitem ?_ (args_list_setitem _ _ _)))
 show wpAny _ _ (Builtin.List.listSubscript? (.ref sl) >>= _) _ _ s
 refine wpAny_bind ?_
 unfold Builtin.List.listSubscript?
 refine wpAny_bind (wpAny_specialOf hTs slice_no_index ?_)
 simp only [Option.isNone_none, if_true]
 refine wpAny_pure ?_
 show wpAny _ _ (typeOf (.ref sl) >>= _) _ _ s
 refine wpAny_bind (wpAny_typeOf hTs ?_)
 first
  | rw [if_neg (by decide)]
  | refine PySem.W.KFB.if_not (by decide) ?_
 rw [listSliceParts_eq]
 refine wpAny_bind (wpAny_bind (wpAny_field hos hds (x := .none) rfl (wpAny_bind (wpAny_listPart .none ?_))))
 rw [if_neg hstep]
 refine wpAny_bind (wpAny_field hos hds (x := vl) rfl (wpAny_bind (wpAny_listPart pl ?_)))
 refine wpAny_bind (wpAny_field hos hds (x := vu) rfl (wpAny_bind (wpAny_listPart pu (wpAny_pure ?_))))
 first
  | simp only [hsame, Bool.false_eq_true, if_false]
  | refine PySem.W.KFB.if_not hsame ?_
  | (dsimp only
     rw [if_neg (by rw [hsame]; exact Bool.false_ne_true)])
 refine wpAny_bind (m := Builtin.List.listAllItems (.ref b) "must assign iterable to extended slice") ?_
 unfold Builtin.List.listAllItems
 refine wpAny_bind (wpAny_typeOf hb.typeIs ?_)
 first
  | refine PySem.W.KFB.if_so (by decide) ?_
  | rw [if_pos (by decide)]
  | simp only [beq_self_eq_true, Bool.true_or, if_true]
 unfold Builtin.List.listItems
 refine wpAny_bind (wpAny_seqItems e2 rfl (wpAny_pure ?_))
 refine wpAny_bind (wpAny_bind (wpAny_seqItems e rfl (wpAny_pure ?_)))
 refine wpAny_bind (wpAny_of_eq ((sliceIndices_raw (some (a : Int)) (some (c : Int)) none items.size (by simp)).trans (congrArg (pure : Int × Int × Int → Sem (Int × Int × Int)) (Qco hac hc))) ?_)
 show wpAny _ _ (if ((1 : Int) == 1) = true then _ else _) _ _ s
 rw [if_pos (by decide)]
 refine wpAny_bind (wpAny_rule ?_)
 first
  | simp only [Qck hsz, Bool.false_eq_true, if_false]
  | refine PySem.W.KFB.if_not (Qck hsz) ?_
 first | refine wpAny_bind (wpAny_pure ?_) | skip
 show wpAny _ _ (updateSeq l (fun xs => xs.extract 0 ((a : Int)).toNat ++ new ++ xs.extract (max (a : Int) (c : Int)).toNat xs.size) >>= _) _ _ s
 rw [hmax, Int.toNat_natCast]
 refine wpAny_bind (wpAny_updateSeq (hz := Nat.le_trans (Nat.le_add_right _ _) hsz) (_hz' := hz') e rfl ?_)
 refine wpAny_bind (wpAny_letGo ?_)
 first
  | exact wpAny_bind (wpAny_pure (wpAny_pure ⟨.none, rfl, wpAny_pure h⟩))
  | exact wpAny_pure ⟨.none, rfl, wpAny_pure h⟩
end
section
variable {X : Cx}
end
end L2
namespace Att
open PySem PySem.W PySem.Calls PyProof.Rows
theorem Qcq {P : Params} {h : Heap} : ∀ (ns : List Int) (vs : List Value), WellAll P h vs (ns.map WData.int) → IntsAre vs ns := by
 intro ns
 induction ns with
 | nil =>
  intro vs w
  rw [List.map_nil] at w
  cases w
  exact .nil
 | cons n ns ih =>
  intro vs w
  rw [List.map_cons] at w
  cases w with
  | cons a b =>
   cases a
   exact .cons _ _ (ih _ b)
theorem Qcr {l : OpenLaw} {n : Nat} (hn : l.most = some n) {P : Params} {h : Heap} {args : List WData} {vals : List Value}
  (hpre : l.row.toRowW.claim.pre args = true) (hwl : WellAll P h vals args) :
  ∃ a vs ns, vals = [Value.ref a] ∧ args = [WData.list (ns.map WData.int)] ∧ h.get? a = some { cls := .type "list", data := .seq vs.toArray } ∧ IntsAre vs ns ∧ ns.length ≤ n := by
 have hsh : WShape.hasAll [] args [.list .int] = true := (pre_splitW hpre).1
 have hc : l.pre.holds [] { args := args } = true := (pre_splitW hpre).2
 obtain ⟨d, r, rfl, h1, h2⟩ := hasAllW_cons hsh
 obtain rfl := hasAllW_nil h2
 obtain ⟨xs, rfl, h3⟩ := hasW_list h1
 obtain ⟨ns, rfl⟩ := items_int h3
 have hlen : ns.length ≤ n := by
  unfold OpenLaw.pre at hc
  have h4 : (WTm.not (.lt (.lit (.int (n : Int))) (.len (.arg 0)))).holds [] { args := [.list (ns.map .int)] } = true := by
   have h4 := (holds_andW hc).1
   rw [hn] at h4
   exact h4
  have h5 := condW_of h4 (w_not (w_lt w_lit (w_len_list (w_arg rfl))))
  rw [List.length_map] at h5
  refine Nat.le_of_not_lt fun q => ?_
  have q' : (n : Int) < ((ns.length : Nat) : Int) := by ac_nf
  first
   | (rw [decide_eq_true q'] at h5; exact absurd h5 (by decide))
   | (simp at h5; ac_nf)
 cases hwl with
 | cons w1 w2 =>
  cases w2
  cases w1 with
  | list ho hall => exact ⟨_, _, ns, rfl, rfl, ho, Qcq ns _ hall, hlen⟩
theorem Qcs (l : OpenLaw) (args : List WData) : l.row.toRowW.claim.post args (.bool true) args = true :=
 postW_of (r := l.row.toRowW) (X := (true == true))
  (show WShape.has [] (.bool true) .bool = true by first | rfl | decide | simp [WShape.has, WShape.arms, WShape.armsAll])
  (show (WTm.eq .res (.lit (.bool true))).value [] { args := args, res := some (.bool true), after := args } = some (.bool (true == true)) from w_eq_bool (w_res rfl) w_lit) rfl
theorem attach_call {l : OpenLaw} {n : Nat} {q : Program} {loose : List Str} {XP : (Str → Option Value) → Heap → Prop} {YP : World → Heap → Prop} {d : DefRec}
  (hn : l.most = some n) (hdf : d.params.defaults = [])
  (call : ∀ (w : World) (s₀ s₁ : Shared) (mg mb : Str → Option Value) (fa : Addr) (o : Obj) (pm cd doc : Value) (a : Addr) (vs : List Value) (ns : List Int),
   Ground q loose [] XP w s₀ mg mb s₁.heap → YP w s₁.heap →
   s₁.heap.get? fa = some o → o.data = .func (docDef d.name d.params d.body d.scope pm cd doc) → s₁.heap.CodeRec cd d.name → mg d.name = some (.ref fa) →
   s₁.heap.get? a = some { cls := .type "list", data := .seq vs.toArray } → IntsAre vs ns → ns.length ≤ n → s₁.gens = #[] →
   codeAny (model l.prog w) callerA (.call (.ref fa) ⟨[.ref a], []⟩) (fun r s' => r = .ok (.ret (.bool true)) ∧ OldK s₁.heap s'.heap ∧ s'.os = s₁.os ∧ AllBare s'.gens) s₁) :
  WalkO q loose XP YP l.row.toRowW d [] (fun f vs => PySem.call f vs) := by
 intro w s₀ s₁ mg mb G Y fa o pm cd doc dV kV ho hd hcd hD hmg hg args vals as hpre hlay hrd hwl hlo
 obtain rfl : dV = .none := Dflts.none hD hdf
 obtain rfl : kV = .none := Dflts.noKw hD
 obtain ⟨a, vs, ns, rfl, rfl, hobj, hints, hlen⟩ := Qcr hn hpre hwl
 refine enter_call (codeAny_mono (call w s₀ s₁ mg mb fa o pm cd doc a vs ns G Y ho (fd_plain hd) hcd hmg hobj hints hlen hg) fun r s' hq => ?_)
 obtain ⟨rfl, h2, h3, h4⟩ := hq
 exact ⟨.inl ⟨.bool true, .bool true, [], rfl, fun _ => rfl, .bool true, Qcs l _, fun _ => ⟨List.Pairwise.nil, fun _ hm => (nomatch hm)⟩⟩, h2, h3, h4⟩
section
variable {prog : Program} {w : World} {A : Around} {E : Value → Shared → Prop} {s : Shared} {K : Frag}
noncomputable def ledger (h : Heap) (L d : Addr) : List (Addr × Obj) := (List.range h.objs.size).filterMap fun a => if a = L ∨ a = d then none else (h.get? a).map fun o => (a, o)
end
end Att
namespace L2
open PySem PySem.Spec PyProof.Rows
theorem Qct : ∀ {vs : List Value} {ns : List Int}, IntsAre vs ns → Vals (ns.map V.int) vs
 | _, _, .nil => .nil
 | _, _, .cons n t h => .cons ⟨t, rfl⟩ (Qct h)
def Only (H : Hp) : Prop := ∀ b, H b = none ∨ ∃ o xs, H b = some (.frz o (.lst xs))
theorem Qcu {P : Program} {w : World} {K : PySem.W.Frag} {mg mb : Str → Option Value} {CX : CXT} {k : Nat} {fa a : Addr} {fd : FuncData} {x : Str} {sp : Sp} {s₁ : Shared} {vs : List Value} {ns : List Int}
  (KX : K.In s₁.heap) (hns : s₁.heap.Ns mainGlobals mg) (hb : s₁.heap.Ns builtinsNs mb) (hbb : ∀ x : Str, x ≠ "__name__" → mb x = bootBuiltins x) (hlim : s₁.heap.NoLimit) (hg : s₁.gens = #[])
  (ha : s₁.heap.get? a = some { cls := .type "list", data := .seq vs.toArray }) (hi : IntsAre vs ns) (hl : ns.length ≤ sizeLine) (hr : Room k callerA)
  (F : ∀ base : Heap, K.In base → base.Ns mainGlobals mg → FnOk P w K mg base CX k fa fd [x] sp) (hbind : ∀ (s : Shared) (u : Value), BindsTo s fd ⟨[u], []⟩ [(x, u)])
  (hsp : ∀ H : Hp, Only H → SqL K H a (ns.map V.int) → sp [.ref a] H (fun v _ => v = .bl true) fun _ _ _ => False)
  (hCX : ∀ H e s', CX [] H s₁ (fun _ _ _ => False) e s' → False) :
  codeAny (model P w) callerA (.call (.ref fa) ⟨[.ref a], []⟩) (fun r s' => r = .ok (.ret (.bool true)) ∧ OldK s₁.heap s'.heap ∧ s'.os = s₁.os ∧ AllBare s'.gens) s₁ := by
 have rv := Qct hi
 have lenV := hi.length
 have core : ∀ H : Hp, Only H → SqL K H a (ns.map V.int) → HOk P w H s₁.heap → (∀ b, H b ≠ none → b = a) → (H a ≠ none → K.lookup a = none) →
   codeAny (model P w) callerA (.call (.ref fa) ⟨[.ref a], []⟩) (fun r s' => r = .ok (.ret (.bool true)) ∧ OldK s₁.heap s'.heap ∧ s'.os = s₁.os ∧ AllBare s'.gens) s₁ := by
  intro H hO hS hok hA hK
  have base_of : ∀ {b : Addr} {o : Obj}, s₁.heap.get? b = some o → H b = none → (hidT s₁.heap H).get? b = some o := fun e n => Qan e n
  have noA : ∀ {b : Addr} {o : Obj} {es : Array DictEntry} {ep : Nat}, s₁.heap.get? b = some o → o.data = .dict es ep → H b = none := fun {b o es ep} e d => by
   cases q : H b with
   | none => rfl
   | some u =>
    have e' : b = a := hA b (by rw [q]; simp)
    subst e'
    rw [ha] at e; cases e
    have d' : Data.seq vs.toArray _ = Data.dict es ep := d
    cases d'
  have nsK : ∀ {b : Addr} {m : Str → Option Value}, s₁.heap.Ns b m → (hidT s₁.heap H).Ns b m := fun {b m} pq42 => by obtain ⟨o, es, ep, e, d, r⟩ := pq42; exact ⟨o, es, ep, base_of e (noA e d), d, r⟩
  have hKb : K.In (hidT s₁.heap H) := fun b o e => base_of (KX b o e) (by
   cases q : H b with
   | none => rfl
   | some u =>
    have e' : b = a := hA b (by rw [q]; simp)
    subst e'
    rw [hK (by rw [q]; simp)] at e; cases e)
  have hM : Mod K mg (hidT s₁.heap H) := ⟨hKb, nsK hns, ⟨mb, nsK hb, hbb⟩, let ⟨mc, h1, h2⟩ := hlim; ⟨mc, nsK h1, h2⟩⟩
  have e0 : Env0 P w K mg (hidT s₁.heap H) callerA [] s₁ H := ⟨rfl, hM, fun b o e => Qao e, Nat.le_of_eq (Qam _ _), trivial, fun b hb => absurd (show b ∈ ([] : List Addr) from hb) (by simp), hok, .of_eq hg⟩
  refine codeAny_mono ((F _ hKb (nsK hns)).run callerA [] s₁ H ⟨[.ref a], []⟩ [.ref a] [.ref a] _ _ hr e0 (hbind s₁ (.ref a)) (.cons rfl .nil) (hsp H hO hS)) fun r s' h => ?_
  cases r with
  | error e => exact (hCX H e s' h).elim
  | ok fl =>
   cases fl with
   | next => exact False.elim h
   | brk => exact False.elim h
   | cont => exact False.elim h
   | ret u =>
    obtain ⟨v, H', os, bare, un, hok', r', q⟩ := h
    have q' : v = .bl true := q
    subst q'
    obtain rfl : u = Value.bool true := r'
    refine ⟨rfl, OldK.of_keep fun b o e => ?_, os, bare⟩
    cases q : H b with
    | none => exact un.keep b o e q (by intro z; exact absurd (show b ∈ ([] : List Addr) from z) (by simp)) (by simp)
    | some u =>
     rcases hO b with z | ⟨ob, xs, z⟩
     ·rw [q] at z; cases z
     ·have z2 := un.frzs b ob _ z
      obtain ⟨e1, _⟩ := hok b _ z
      obtain ⟨e2, _⟩ := hok' b _ z2
      rw [e] at e1; cases e1
      exact e2
 cases hk : K.lookup a with
 | some o =>
  have e := KX a o hk
  rw [ha] at e
  cases e
  refine core (fun _ => none) (fun _ => .inl rfl) (.inr ⟨_, vs.toArray, _, hk, rfl, rfl, rfl, by rw [List.size_toArray, lenV]; exact hl, by simpa using rv⟩) (fun b u z => by have z' : (none : Option HO) = some u := z; cases z') (fun b z => absurd rfl z) fun z => absurd rfl z
 | none =>
  refine core (fun b => if b = a then some (.frz { cls := .type "list", data := .seq vs.toArray } (.lst (ns.map V.int))) else none) (fun b => ?_) (.inl (.inr ⟨{ cls := .type "list", data := .seq vs.toArray }, if_pos rfl⟩)) (fun b u z => ?_) (fun b z => ?_) fun _ => hk
  ·by_cases hb : b = a
   ·exact .inr ⟨_, _, if_pos hb⟩
   ·exact .inl (if_neg hb)
  ·by_cases hb : b = a
   ·have z' := (if_pos hb).symm.trans z
    cases z'
    subst hb
    exact ⟨ha, by rw [List.length_map]; exact hl, vs, _, rv, ha⟩
   ·have z' := (if_neg hb).symm.trans z
    cases z'
  ·by_cases hb : b = a
   ·exact hb
   ·exact absurd (if_neg hb) z
end L2
namespace L2
open PySem PySem.Spec PyProof.Rows
noncomputable abbrev KOf {K : PySem.W.Frag} {h : Heap} (_ : K.In h) : PySem.W.Frag := K
theorem walk_of {l : PySem.W.OpenLaw} {n k : Nat} {q : Program} {loose : List Str} {XP : (Str → Option Value) → Heap → Prop} {YP : World → Heap → Prop} {d : DefRec} {K : Params → PySem.W.Frag} {CX : World → CXT} {sp : World → Sp} {x : Str}
  (hn : l.most = some n) (hn2 : n ≤ sizeLine) (hdf : d.params.defaults = []) (hr : Room k callerA)
  (hY : ∀ (w : World) (h : Heap), YP w h → (K w.params).In h)
  (F : ∀ (w : World) (mg : Str → Option Value) (fa : Addr) (h : Heap), (K w.params).In h → h.Ns mainGlobals mg → mg d.name = some (.ref fa) →
   ∃ fd : FuncData, (∀ (s : Shared) (u : Value), BindsTo s fd ⟨[u], []⟩ [(x, u)]) ∧
    ∀ base : Heap, (K w.params).In base → base.Ns mainGlobals mg → FnOk l.prog w (K w.params) mg base (CX w) k fa fd [x] (sp w))
  (hsp : ∀ (w : World) (H : Hp) (a : Addr) (ns : List Int), ns.length ≤ n → Only H → SqL (K w.params) H a (ns.map V.int) → sp w [.ref a] H (fun v _ => v = .bl true) fun _ _ _ => False)
  (hCX : ∀ (w : World) (H : Hp) (s : Shared) (e : Value) (s' : Shared), CX w [] H s (fun _ _ _ => False) e s' → False) :
  PySem.W.WalkO q loose XP YP l.row.toRowW d [] (fun f vs => PySem.call f vs) := by
 refine Att.attach_call hn hdf fun w s₀ s₁ mg mb fa o pm cd doc a vs ns G Y ho hd hcd hmg hobj hints hlen hg => ?_
 have KX := hY w _ Y
 obtain ⟨fd, hb, hF⟩ := F w mg fa _ KX G.T.g hmg
 exact Qcu KX G.T.g G.T.b G.T.builtins G.T.nolimit hg hobj hints (Nat.le_trans hlen hn2) hr hF hb (fun H hO hS => hsp w H a ns hlen hO hS) fun H e s' => hCX w H s₁ e s'
theorem walk_ofK {l : PySem.W.OpenLaw} {n k : Nat} {q : Program} {loose : List Str} {XP : (Str → Option Value) → Heap → Prop} {YP : World → Heap → Prop} {d : DefRec} {K : Params → PySem.W.Frag} {CX : CXT} {sp : PySem.W.Frag → Sp} {x : Str}
  (hn : l.most = some n) (hn2 : n ≤ sizeLine) (hdf : d.params.defaults = []) (hr : Room k callerA)
  (hY : ∀ (w : World) (h : Heap), YP w h → (K w.params).In h)
  (F : ∀ (w : World) (mg : Str → Option Value) (fa : Addr) (h : Heap), (K w.params).In h → h.Ns mainGlobals mg → mg d.name = some (.ref fa) →
   ∃ fd : FuncData, (∀ (s : Shared) (u : Value), BindsTo s fd ⟨[u], []⟩ [(x, u)]) ∧
    ∀ base : Heap, (K w.params).In base → base.Ns mainGlobals mg → FnOk l.prog w (K w.params) mg base CX k fa fd [x] (sp (K w.params)))
  (hsp : ∀ (K : PySem.W.Frag) (H : Hp) (a : Addr) (ns : List Int), ns.length ≤ n → Only H → SqL K H a (ns.map V.int) → sp K [.ref a] H (fun v _ => v = .bl true) fun _ _ _ => False)
  (hCX : ∀ (H : Hp) (s : Shared) (e : Value) (s' : Shared), CX [] H s (fun _ _ _ => False) e s' → False) :
  PySem.W.WalkO q loose XP YP l.row.toRowW d [] (fun f vs => PySem.call f vs) :=
 walk_of (K := K) (CX := fun _ => CX) (sp := fun w => sp (K w.params)) hn hn2 hdf hr hY F (fun w H a ns h1 h2 h3 => hsp (K w.params) H a ns h1 h2 h3) fun _ H s e s' => hCX H s e s'
end L2
/- THE LAST THEOREM (shape; LID, My.* are yours):
  My.Adr: a structure of the addresses that your layer names (classes, functions); My.Txt K t: a structure (Prop) of the equations over K;
  My.txt_mk : {K} {implicit addresses ..} (e1 : nsIn K mainGlobals "law" = some (some (.ref f))) (e2 : K.lookup f = some ⟨oc, od, .func (fnOf "law" "law" params body scope dV kV doc pm an cdv ct), sl⟩) (e3 : codeIn K cdv "law" = true) .. : ∃ t, My.Txt K t
set_option maxHeartbeats 0 in
theorem PySem.Challenge.cw_LID_holds : PySem.Challenge.rw_LID.Holds := by
 w_on; o_law; k_head; (case hw => w_witness2)
 k_fill
 refine L2.walk_of (l := PySem.Challenge.rw_LID) (n := 63) (k := 40) (x := "script") (CX := fun w => ..) (sp := fun _ => My.sp_law) rfl (by decide) rfl ⟨rfl, by decide, by decide⟩ (fun w h Y => PySem.W.kIn_of Y) ?F ?S ?C
 case F =>
  intro w mg fa h KX G hmg
  have T : ∃ t, My.Txt (L2.KOf KX) t := by
   dsimp only [L2.KOf]                          -- K must stand as «<heap const> w.params» for k_is
   refine' My.txt_mk ?e1 ?e2 ?e3 ..
   (case e1 => PySem.W.k_is)                    -- in the order: a name -> its address -> its object -> its parts
   (case e2 => PySem.W.k_is)
   ..
  obtain ⟨t, T⟩ := T
  have e0 := hmg.symm.trans (PySem.W.mg_of KX G T.law)
  cases e0                                       -- fa is the law's own address
  exact ⟨_, fun s u => .of_eq rfl, fun base kb nb => My.law_fn T kb nb⟩     -- if «.of_eq rfl» comes too early: refine' ⟨_, ?b, fun base kb nb => My.law_fn T kb nb⟩; exact fun s u => .of_eq rfl
 case S => exact fun w H a ns hl hO hS => ..
 case C => exact ..
(the tactic k_is has no namespace: write k_is) -/
namespace L2
open PySem PySem.Spec PyProof.Rows
noncomputable def defArgs (s : Stmt) : Arguments := match s with
 | .FunctionDef _ a _ _ _ _ _ _ _ _ => a
 | _ => { posonlyargs := [], args := [], vararg := none, kwonlyargs := [], kw_defaults := [], kwarg := none, defaults := [] }
noncomputable def defBody (s : Stmt) : List Stmt := match s with
 | .FunctionDef _ _ b _ _ _ _ _ _ _ => b
 | _ => []
noncomputable def defScope (s : Stmt) : Scope := match s with
 | .FunctionDef _ _ _ _ _ _ sc _ _ _ => sc
 | _ => { kind := .function, names := [], isGenerator := false, isCoroutine := false }
noncomputable abbrev CX0 : CXT := fun _ _ _ _ _ _ => False
noncomputable abbrev E0 : XK := fun _ _ _ => False
theorem Qcv {X : Cx} : Passes CX0 X E0 := fun _ _ _ _ _ _ _ h => h.elim
structure Fun (K : PySem.W.Frag) (x qual : Str) (st : Stmt) (f : Addr) (fd : FuncData) : Prop where
 ex : ∃ (oc : Value) (od : Option Addr) (kV doc pm : Value) (an : Option Addr) (cdv ct : Value) (osl : Array (Option Value)),
  fd = PySem.W.fnOf x qual (defArgs st) (defBody st) (defScope st) .none kV doc pm an cdv ct ∧ K.lookup f = some ⟨oc, od, .func fd, osl⟩ ∧ PySem.W.codeIn K cdv qual = true
 kp : PySem.W.keepIn K (.ref f) = true
section
variable {P : Program} {w : World} {K : PySem.W.Frag} {mg : Str → Option Value} {base : Heap}
theorem Fun.ok {x qual : Str} {st : Stmt} {f : Addr} {fd : FuncData} {N ps : List Str} {k : Nat} {sp : Sp} (F : Fun K x qual st f fd) (S : FnScope N ps (defScope st)) (len : ∀ vs H Q E, sp vs H Q E → vs.length = ps.length)
  (hbody : ∀ (cdv : Value) (A : Around) (outer : List Env) (s : Shared) (H : Hp) (vs : List V) (Q : VK) (E : XK), Room k (A.deeper (envOfC qual (defScope st) s.heap.objs.size f cdv)) → sp vs H Q E →
   ∃ t, PSs (cxOf CX0 P w K mg base N qual (defScope st) f cdv A outer s H E).nox (defBody st) t ∧ t { nx := fun _ H' => Q .non H', rt := Q } (start N vs) H) : FnOk P w K mg base CX0 (k + 1) f fd ps sp := by
 obtain ⟨oc, od, kV, doc, pm, an, cdv, ct, osl, rfl, lk, hcd⟩ := F.ex
 refine QbO lk hcd S len fun A outer s H vs Q E hr hsp => ?_
 obtain ⟨t, h, q⟩ := hbody cdv A outer s H vs Q E hr hsp
 exact ⟨t, h.nox, q⟩
theorem Fun.binds {x qual : Str} {st : Stmt} {f : Addr} {fd : FuncData} {ps : List Str} (F : Fun K x qual st f fd)
  (h : ∀ (kV doc pm : Value) (an : Option Addr) (cdv ct : Value) (us : List Value), us.length = ps.length → bindArgs (PySem.W.fnOf x qual (defArgs st) (defBody st) (defScope st) .none kV doc pm an cdv ct) ⟨us, []⟩ = pure (ps.zip us)) : Binds K fd ps [] := by
 obtain ⟨oc, od, kV, doc, pm, an, cdv, ct, osl, rfl, lk, hcd⟩ := F.ex
 exact .all (h kV doc pm an cdv ct)
theorem Qcw {x qual : Str} {st : Stmt} {f : Addr} {oc : Value} {od an : Option Addr} {osl : Array (Option Value)} {kV doc pm cdv ct : Value} (l : K.lookup f = some ⟨oc, od, .func (PySem.W.fnOf x qual (defArgs st) (defBody st) (defScope st) .none kV doc pm an cdv ct), osl⟩)
  (c : PySem.W.codeIn K cdv qual = true) (k : PySem.W.keepIn K (.ref f) = true) : Fun K x qual st f (PySem.W.fnOf x qual (defArgs st) (defBody st) (defScope st) .none kV doc pm an cdv ct) := ⟨⟨oc, od, kV, doc, pm, an, cdv, ct, osl, rfl, l, c⟩, k⟩
end
section
variable {X : Cx}
end
def Same (H H' : Hp) : Prop := ∀ b o, H b = some o → H' b = some o
theorem Same.refl (H : Hp) : Same H H := fun _ _ h => h
theorem Same.trans {H H1 H2 : Hp} (a : Same H H1) (b : Same H1 H2) : Same H H2 := fun c o h => b c o (a c o h)
theorem Same.free {H H' : Hp} (e : Same H H') {l : Addr} (h : H' l = Option.none) : H l = Option.none := by
 cases q : H l with
 | none => rfl
 | some o =>
  rw [e l o q] at h
  cases h
theorem Same.seq {K : PySem.W.Frag} {H H' : Hp} {a : Addr} {xs : List V} (e : Same H H') (h : SqL K H a xs) : SqL K H' a xs := by
 rcases h with (h | ⟨o, h⟩) | h
 ·exact .inl (.inl (e _ _ h))
 ·exact .inl (.inr ⟨o, e _ _ h⟩)
 ·exact .inr h
end L2
namespace L2
open PySem PySem.Spec PyProof.Rows
section
variable {κ : Type} [DecidableEq κ]
noncomputable def valV (kvs : List (κ × V)) (k : κ) : Option V := (kvs.find? fun kv => decide (kv.1 = k)).map (·.2)
noncomputable def putK (kvs : List (κ × V)) (k : κ) (v : V) : List (κ × V) :=
 if (kvs.any fun kv => decide (kv.1 = k)) = true then kvs.map (fun kv => if kv.1 = k then (kv.1, v) else kv) else kvs ++ [(k, v)]
noncomputable def dropK (kvs : List (κ × V)) (k : κ) : List (κ × V) := kvs.filter fun kv => decide (kv.1 ≠ k)
theorem Qcx {p : κ × V} {r : List (κ × V)} {k : κ} (e : p.1 = k) : valV (p :: r) k = some p.2 := by simp [valV, List.find?_cons, e]
theorem Qcy {p : κ × V} {r : List (κ × V)} {k : κ} (e : ¬ p.1 = k) : valV (p :: r) k = valV r k := by simp [valV, List.find?_cons, e]
theorem Qcz (k : κ) : ∀ kvs : List (κ × V), (kvs.any fun kv => decide (kv.1 = k)) = (valV kvs k).isSome
 | [] => rfl
 | p :: r => by
  rw [List.any_cons]
  by_cases e : p.1 = k
  ·simp only [Qcx e, decide_eq_true e, Bool.true_or, Option.isSome_some]
  ·rw [Qcy e, decide_eq_false e, Bool.false_or]; exact Qcz k r
theorem QcA (kvs : List (κ × V)) (k : κ) (v : V) : (putK kvs k v).length ≤ kvs.length + 1 := by
 unfold putK
 split
 ·rw [List.length_map]; ac_nf
 ·rw [List.length_append, List.length_cons, List.length_nil]; ac_nf
theorem RelO.isSome_eq {o : Option V} {u : Option Value} (r : RelO o u) : o.isSome = u.isSome := by
 cases o with
 | none => cases u with
  | none => rfl
  | some _ => exact (show False from r).elim
 | some _ => cases u with
  | none => exact (show False from r).elim
  | some _ => rfl
theorem RelO.getD {o : Option V} {u : Option Value} {d : V} {d' : Value} (r : RelO o u) (rd : RelV d d') : RelV (o.getD d) (u.getD d') := by
 cases o with
 | none => cases u with
  | none => exact rd
  | some _ => exact (show False from r).elim
 | some _ => cases u with
  | none => exact (show False from r).elim
  | some _ => exact r
theorem KV.val {kvs : List (κ × V)} {vs : List (κ × Value)} (r : KV kvs vs) (k : κ) : RelO (valV kvs k) (valueAt vs k) := by
 unfold KV at r
 induction r with
 | nil => exact True.intro
 | @cons p q ps qs h t ih =>
  obtain ⟨h1, h2⟩ := h
  by_cases e : p.1 = k
  ·have e' : q.1 = k := h1.symm.trans e
   have b : valueAt (q :: qs) k = some q.2 := by simp [valueAt, List.find?_cons, e']
   rw [Qcx e, b]; exact h2
  ·have e' : ¬ q.1 = k := fun z => e (h1.trans z)
   have b : valueAt (q :: qs) k = valueAt qs k := by simp [valueAt, List.find?_cons, e']
   rw [Qcy e, b]; exact ih
theorem KV.any {kvs : List (κ × V)} {vs : List (κ × Value)} (r : KV kvs vs) (k : κ) : (kvs.any fun kv => decide (kv.1 = k)) = vs.any fun kv => decide (kv.1 = k) := by
 unfold KV at r
 induction r with
 | nil => rfl
 | cons h t ih => rw [List.any_cons, List.any_cons, ih, h.1]
theorem KV.repl {kvs : List (κ × V)} {vs : List (κ × Value)} (r : KV kvs vs) (k : κ) {y : V} {u : Value} (ry : RelV y u) :
  KV (kvs.map fun kv => if kv.1 = k then (kv.1, y) else kv) (vs.map fun kv => if kv.1 = k then (kv.1, u) else kv) := by
 unfold KV at r ⊢
 induction r with
 | nil => exact .nil
 | @cons p q ps qs h t ih =>
  rw [List.map_cons, List.map_cons]
  refine .cons ?_ ih
  obtain ⟨h1, h2⟩ := h
  by_cases e : p.1 = k
  ·rw [if_pos e, if_pos (h1.symm.trans e)]; exact ⟨h1, ry⟩
  ·rw [if_neg e, if_neg (fun z => e (h1.trans z))]; exact ⟨h1, h2⟩
theorem KV.put {kvs : List (κ × V)} {vs : List (κ × Value)} (r : KV kvs vs) (k : κ) {y : V} {u : Value} (ry : RelV y u) : KV (putK kvs k y) (stored vs k u) := by
 unfold putK stored
 rw [r.any k]
 by_cases e : (vs.any fun kv => decide (kv.1 = k)) = true
 ·rw [if_pos e, if_pos e]; exact r.repl k ry
 ·rw [if_neg e, if_neg e]; exact Paired.snoc r ⟨rfl, ry⟩
theorem KV.drop {kvs : List (κ × V)} {vs : List (κ × Value)} (r : KV kvs vs) (k : κ) : KV (dropK kvs k) (without vs k) := by
 unfold KV at r ⊢
 unfold dropK without
 induction r with
 | nil => exact .nil
 | @cons p q ps qs h t ih =>
  obtain ⟨h1, h2⟩ := h
  rw [List.filter_cons, List.filter_cons]
  by_cases e : p.1 = k
  ·have a : ¬ decide (p.1 ≠ k) = true := by simp [e]
   have b : ¬ decide (q.1 ≠ k) = true := by simp [h1.symm.trans e]
   rw [if_neg a, if_neg b]; exact ih
  ·have e' : ¬ q.1 = k := fun z => e (h1.trans z)
   have a : decide (p.1 ≠ k) = true := by simp [e]
   have b : decide (q.1 ≠ k) = true := by simp [e']
   rw [if_pos a, if_pos b]; exact .cons ⟨h1, h2⟩ ih
theorem KV.keys {kvs : List (κ × V)} {vs : List (κ × Value)} (r : KV kvs vs) : kvs.map (·.1) = vs.map (·.1) := by
 unfold KV at r
 induction r with
 | nil => rfl
 | cons h t ih => rw [List.map_cons, List.map_cons, ih, h.1]
theorem KV.length {kvs : List (κ × V)} {vs : List (κ × Value)} (r : KV kvs vs) : kvs.length = vs.length := Paired.length r
end
theorem QcB {P : Program} {w : World} {k : Key} {u : Value} (r : RelV (kV k) u) : (mixKind P w).is k u = true := by
 cases k with
 | inl i => obtain ⟨t, e⟩ := (show ∃ t, u = Value.int i t from r); subst e; exact Qag P w i t
 | inr x => obtain ⟨t, e⟩ := (show ∃ t, u = Value.str x t from r); subst e; exact Qah P w x t
theorem QcC {P : Program} {w : World} : ∀ {ks : List Key} {us : List Value}, Vals (ks.map kV) us → ItemsAre (mixKind P w) ks us
 | [], _, r => by rw [List.map_nil] at r; cases r; exact .nil
 | k :: ks, _, r => by
  rw [List.map_cons] at r
  cases r with
  | cons h t => exact .cons (QcB h) (QcC t)
noncomputable abbrev KT (H : Hp) : List (List Key × V) → List (List Key × Addr × Value) → Prop := Paired fun p q => p.1 = q.1 ∧ H q.2.1 = some (.tup (p.1.map kV)) ∧ RelV p.2 q.2.2
theorem KT.val {H : Hp} {kvs : List (List Key × V)} {xs : List (List Key × Addr × Value)} (r : KT H kvs xs) (k : List Key) : RelO (valV kvs k) ((atKey xs k).map (·.2)) := by
 induction r with
 | nil => exact True.intro
 | @cons p q ps qs h t ih =>
  obtain ⟨h1, _, h2⟩ := h
  by_cases e : p.1 = k
  ·have e' : q.1 = k := h1.symm.trans e
   have b : atKey (q :: qs) k = some q.2 := by simp [atKey, List.find?_cons, e']
   rw [Qcx e, b]; exact h2
  ·have e' : ¬ q.1 = k := fun z => e (h1.trans z)
   have b : atKey (q :: qs) k = atKey qs k := by simp [atKey, List.find?_cons, e']
   rw [Qcy e, b]; exact ih
theorem KT.repl {H : Hp} {kvs : List (List Key × V)} {xs : List (List Key × Addr × Value)} (r : KT H kvs xs) (k : List Key) {y : V} {u : Value} (ry : RelV y u) :
  KT H (kvs.map fun kv => if kv.1 = k then (kv.1, y) else kv) (xs.map (putAt k u)) := by
 induction r with
 | nil => exact .nil
 | @cons p q ps qs h t ih =>
  rw [List.map_cons, List.map_cons]
  refine .cons ?_ ih
  obtain ⟨h1, h2, h3⟩ := h
  unfold putAt
  by_cases e : p.1 = k
  ·rw [if_pos e, if_pos (h1.symm.trans e)]; exact ⟨h1, h2, ry⟩
  ·rw [if_neg e, if_neg (fun z => e (h1.trans z))]; exact ⟨h1, h2, h3⟩
theorem KT.put {H : Hp} {kvs : List (List Key × V)} {xs : List (List Key × Addr × Value)} (r : KT H kvs xs) (k : List Key) {b : Addr} {y : V} {u : Value} (hb : H b = some (.tup (k.map kV))) (ry : RelV y u) :
  KT H (putK kvs k y) (storedH xs k b u) := by
 have e : (kvs.any fun kv => decide (kv.1 = k)) = (atKey xs k).isSome := by
  rw [Qcz, (r.val k).isSome_eq, Option.isSome_map]
 unfold putK storedH
 rw [e]
 by_cases q : (atKey xs k).isSome = true
 ·rw [if_pos q, if_pos q]; exact r.repl k ry
 ·rw [if_neg q, if_neg q]; exact Paired.snoc r ⟨rfl, hb, ry⟩
theorem KT.keeps {H H' : Hp} {kvs : List (List Key × V)} {xs : List (List Key × Addr × Value)} (r : KT H kvs xs) (ht : ∀ b ys, H b = some (.tup ys) → H' b = some (.tup ys)) : KT H' kvs xs :=
 Paired.mapP r fun _ _ z => ⟨z.1, ht _ _ z.2.1, z.2.2⟩
section
variable {P : Program} {w : World} {H : Hp} {h : Heap} {a : Addr}
theorem QcD {u : HO} (ok : HOk P w H h) (e : Rd H a u) : ObjOk P w H h a u := e.ok ok
theorem QcE {kvs : List (Key × V)} (ok : HOk P w H h) (e : Rd H a (.dK kvs)) : kvs.length ≤ sizeLine ∧ (a == sysModules) = false ∧ ∃ vs, KV kvs vs ∧ h.DictOf (mixKind P w) a vs :=
 show ObjOk P w H h a (.dK kvs) from QcD ok e
theorem QcF {kvs : List (Key × V)} (ok : HOk P w H h) (e : H a = some (.dK kvs)) : kvs.length ≤ sizeLine ∧ (a == sysModules) = false ∧ ∃ vs, KV kvs vs ∧ h.DictOf (mixKind P w) a vs := QcE ok (.inl e)
theorem QcG {ks : List Key} (ok : HOk P w H h) (e : H a = some (.tup (ks.map kV))) : (tupleKind (mixKind P w)).is h ks a := by
 obtain ⟨_, its, r, o, h1, h2, n, h3⟩ := (show ObjOk P w H h a (.tup (ks.map kV)) from ok a _ e)
 exact ⟨o, its.toArray, n, h1, h2, h3, by simpa using QcC r⟩
theorem QcH {kvs : List (List Key × V)} (ok : HOk P w H h) (e : Rd H a (.dT kvs)) : kvs.length ≤ sizeLine ∧ (a == sysModules) = false ∧
  ∃ xs, KT H kvs xs ∧ h.DictOfH (tupleKind (mixKind P w)) a xs := by
 obtain ⟨z, y, xs, r, o, es, ep, h1, h2, h3, h4, h5⟩ := (show ObjOk P w H h a (.dT kvs) from QcD ok e)
 refine ⟨z, y, xs, r, o, es, ep, h1, h2, h3, h4, fun x hx => ?_, h5⟩
 have all : ∀ {l : List (List Key × V)} {m : List (List Key × Addr × Value)}, KT H l m → ∀ x ∈ m, (tupleKind (mixKind P w)).is h x.1 x.2.1 := by
  intro l m q
  induction q with
  | nil => intro x hx; exact nomatch hx
  | @cons p q ps qs hq t ih =>
   intro x hx
   rcases List.mem_cons.mp hx with e | hx
   ·subst e
    exact QcG ok (by rw [← hq.1]; exact hq.2.1)
   ·exact ih x hx
 exact all r x hx
theorem QcI {kvs : List (List Key × V)} (ok : HOk P w H h) (e : H a = some (.dT kvs)) : kvs.length ≤ sizeLine ∧ (a == sysModules) = false ∧
  ∃ xs, KT H kvs xs ∧ h.DictOfH (tupleKind (mixKind P w)) a xs := QcH ok (.inl e)
end
def DGet (H : Hp) (a : Addr) (y : V) (r : Option V) : Prop :=
 (∃ kvs k, Rd H a (.dK kvs) ∧ y = kV k ∧ r = valV kvs k) ∨ ∃ kvs k b, Rd H a (.dT kvs) ∧ y = .ref b ∧ H b = some (.tup (k.map kV)) ∧ r = valV kvs k
def DPut (H : Hp) (a : Addr) (y v : V) (H' : Hp) : Prop :=
 (∃ kvs k, H a = some (.dK kvs) ∧ y = kV k ∧ kvs.length < sizeLine ∧ H' = upd H a (.dK (putK kvs k v))) ∨
 ∃ kvs k b, H a = some (.dT kvs) ∧ y = .ref b ∧ H b = some (.tup (k.map kV)) ∧ kvs.length < sizeLine ∧ H' = upd H a (.dT (putK kvs k v))
theorem DGet.k {H : Hp} {a : Addr} {kvs : List (Key × V)} {k : Key} (e : H a = some (.dK kvs)) : DGet H a (kV k) (valV kvs k) := .inl ⟨kvs, k, .inl e, rfl, rfl⟩
theorem DGet.t {H : Hp} {a b : Addr} {kvs : List (List Key × V)} {k : List Key} (e : H a = some (.dT kvs)) (eb : H b = some (.tup (k.map kV))) : DGet H a (.ref b) (valV kvs k) := .inr ⟨kvs, k, b, .inl e, rfl, eb, rfl⟩
theorem DPut.k {H : Hp} {a : Addr} {kvs : List (Key × V)} {k : Key} {v : V} (e : H a = some (.dK kvs)) (hl : kvs.length < sizeLine) : DPut H a (kV k) v (upd H a (.dK (putK kvs k v))) := .inl ⟨kvs, k, e, rfl, hl, rfl⟩
theorem DPut.t {H : Hp} {a b : Addr} {kvs : List (List Key × V)} {k : List Key} {v : V} (e : H a = some (.dT kvs)) (eb : H b = some (.tup (k.map kV))) (hl : kvs.length < sizeLine) :
  DPut H a (.ref b) v (upd H a (.dT (putK kvs k v))) := .inr ⟨kvs, k, b, e, rfl, eb, hl, rfl⟩
section
variable {X : Cx} {pins : List (Addr × Obj)} {σ : St} {H : Hp} {s : Shared} {a : Addr} {y v : V} {u r : Value} {o : Option V} {A : Around} {E : Value → Shared → Prop}
theorem Inv.big (I : Inv X pins σ H s) : sysModules < s.heap.objs.size := by
 have h : mainGlobals < s.heap.objs.size := (I.mod.glob.keeps I.bk).lt
 exact Nat.lt_trans (by decide) h
theorem QcJ {Q : Value → Shared → Prop} (hu : A.units + 1 < cLine) (I : Inv X pins σ H s) (g : DGet H a y (some v)) (ry : RelV y u) (h : ∀ w' s', Inv X pins σ H s' → RelV v w' → Q w' s') :
  wpAny (model X.prog X.w) A (getItem (.ref a) u) Q E s := by
 rcases g with ⟨kvs, k, e, ey, l⟩ | ⟨kvs, k, b, e, ey, eb, l⟩
 ·subst ey
  obtain ⟨z, hd, vs, rel, dd⟩ := QcE I.hok e
  obtain ⟨w', hw, rw'⟩ := RelO.some_of (v := v) (o := valueAt vs k) (by rw [l]; exact rel.val k)
  exact wpAny_getItem_of (QcB ry) dd.mapOf hw (h w' _ (I.tok _) rw')
 ·subst ey
  cases (show u = Value.ref b from ry)
  obtain ⟨z, hd, xs, rel, dd⟩ := QcH I.hok e
  obtain ⟨w', hw, rw'⟩ := RelO.some_of (v := v) (o := (atKey xs k).map (·.2)) (by rw [l]; exact rel.val k)
  obtain ⟨p, hp, hp2⟩ := Option.map_eq_some_iff.mp hw
  refine wpAny_getItem_heap (tupleKind_room_in1 hu) (QcG I.hok eb) dd hp ?_
  rw [hp2]
  exact h w' _ (I.tok _) rw'
theorem d_in {Q : Value → Shared → Prop} (hu : A.units + 1 < cLine) (I : Inv X pins σ H s) (g : DGet H a y o) (ry : RelV y u) (h : ∀ s', Inv X pins σ H s' → Q (.bool o.isSome) s') :
  wpAny (model X.prog X.w) A (compareOp .In u (.ref a)) Q E s := by
 rcases g with ⟨kvs, k, e, ey, l⟩ | ⟨kvs, k, b, e, ey, eb, l⟩
 ·subst ey
  obtain ⟨z, hd, vs, rel, dd⟩ := QcE I.hok e
  refine wpAny_in_of (QcB ry) hd dd.mapOf ?_
  rw [← (rel.val k).isSome_eq, ← l]
  exact h _ (I.tok _)
 ·subst ey
  cases (show u = Value.ref b from ry)
  obtain ⟨z, hd, xs, rel, dd⟩ := QcH I.hok e
  refine wpAny_in_heap (tupleKind_room_in1 hu) (QcG I.hok eb) hd dd ?_
  have q := (rel.val k).isSome_eq
  rw [Option.isSome_map] at q
  rw [← q, ← l]
  exact h _ (I.tok _)
theorem QcK {h' : Heap} {t' : Nat} {ob : HO} (I : Inv X pins σ H s) (mu : Mut (H a)) (hs : Heap.SameBut a s.heap h') (he : ∃ q, h'.get? a = some q) (new : ObjOk X.prog X.w (upd H a ob) h' a ob) :
  Inv X pins σ (upd H a ob) { s with heap := h', toks := t' } :=
 I.write (x := a) (e := a) mu (.inl rfl) (fun b q hb z => (hs.2 b hb).trans z) he new
theorem QcL {P : Program} {w : World} {H' : Hp} {h' : Heap} {kvs : List (Key × V)} {vs : List (Key × Value)} (z : kvs.length ≤ sizeLine) (hd : (a == sysModules) = false) (rel : KV kvs vs) (dd : h'.DictOf (mixKind P w) a vs) :
  ObjOk P w H' h' a (.dK kvs) := ⟨z, hd, vs, rel, dd⟩
theorem QcM {H' : Hp} {Q : Unit → Shared → Prop} (hu : A.units + 1 < cLine) (I : Inv X pins σ H s) (g : DPut H a y v H') (ry : RelV y u) (rv : RelV v r) (h : ∀ s', Inv X pins σ H' s' → Q () s') :
  wpAny (model X.prog X.w) A (setItem (.ref a) u r) Q E s := by
 rcases g with ⟨kvs, k, e, ey, l, eH⟩ | ⟨kvs, k, b, e, ey, eb, l, eH⟩
 ·subst ey eH
  obtain ⟨z, hd, vs, rel, dd⟩ := QcF I.hok e
  have hz : vs.length ≤ sizeLine := by rw [← rel.length]; exact z
  have hl : (putK kvs k v).length ≤ sizeLine := by have := QcA kvs k v; ac_nf
  refine wpAny_setItem_pairs (hsz := hz) (QcB ry) dd fun h' dd' hs => h _ ?_
  have he : ∃ q, h'.get? a = some q := let ⟨q, _, _, hq, _⟩ := dd'; ⟨q, hq⟩
  exact QcK I (by rw [e]; exact True.intro) hs he (QcL hl hd (rel.put k rv) dd')
 ·subst ey eH
  cases (show u = Value.ref b from ry)
  obtain ⟨z, hd, xs, rel, dd⟩ := QcI I.hok e
  have hz : xs.length ≤ sizeLine := by rw [← Paired.length rel]; exact z
  have hl : (putK kvs k v).length ≤ sizeLine := by have := QcA kvs k v; ac_nf
  refine wpAny_setItem_heap (hsz := hz) (tupleKind_room_in1 hu) (QcG I.hok eb) dd fun h' dd' hs => h _ ?_
  obtain ⟨q, es, ep, hq, h2, h3, h4, _, h5⟩ := dd'
  refine QcK I (by rw [e]; exact True.intro) hs ⟨q, hq⟩ ⟨hl, hd, _, (rel.put k eb rv).keeps fun c ys ec => ?_, q, es, ep, hq, h2, h3, h4, h5⟩
  rw [Qaj (Qak ec e (fun z => nomatch z))]
  exact ec
end
section
variable {X : Cx} {pins : List (Addr × Obj)} {σ : St} {H : Hp} {s : Shared} {a : Addr} {kvs : List (Key × V)} {k : Key} {u : Value} {A : Around} {E : Value → Shared → Prop}
theorem QcN {Q : Value → Shared → Prop} (I : Inv X pins σ H s) (e : Rd H a (.dK kvs)) (h : ∀ t s', Inv X pins σ H s' → Q (.int kvs.length t) s') : wpAny (model X.prog X.w) A (call (.builtin "len") [.ref a]) Q E s := by
 obtain ⟨z, hd, vs, rel, dd⟩ := QcE I.hok e
 refine call_len_dict hd dd (by rw [← rel.length]; rw [sizeLine_eq] at z; ac_nf) ?_
 rw [← rel.length]
 exact h _ _ (I.tok _)
end
section
variable {X : Cx} {o i e value : Expr} {pos pos' tpos : Pos} {td ty tv : TE}
end
theorem QcO {P : Program} {w : World} {H : Hp} (h : Heap) (hb : sysModules < h.objs.size) : ObjOk P w H (h.push { cls := .type "dict", data := .dict #[] }) h.objs.size (.dK []) :=
 ⟨Nat.zero_le _, beq_eq_false_iff_ne.mpr (Ne.symm (Nat.ne_of_lt hb)), [], .nil, Heap.DictOf.new h⟩
section
variable {X : Cx} {pos : Pos}
end
noncomputable def tPairs : List (TE × TE) → St → Hp → (List (V × V) → Hp → Prop) → Prop
 | [], _, H, Q => Q [] H
 | (tk, tv) :: r, σ, H, Q => tk σ H fun x H1 => tv σ H1 fun y H2 => tPairs r σ H2 fun ps H3 => Q ((x, y) :: ps) H3
noncomputable abbrev VV : List (V × V) → List (Value × Value) → Prop := Paired fun p q => RelV p.1 q.1 ∧ RelV p.2 q.2
def PPs (X : Cx) (pos : Pos) (keys : List (Option Expr)) (values : List Expr) (trs : List (TE × TE)) : Prop :=
 ∀ (pins : List (Addr × Obj)) (s : Shared) (σ : St) (H : Hp) (Q : List (V × V) → Hp → Prop), Inv X pins σ H s → tPairs trs σ H Q →
  wpAny (model X.prog X.w) X.A (evalPairs (pairTrees keys values X.env pos)) (fun vs s' => ∃ ps H', Inv X pins σ H' s' ∧ VV ps vs ∧ Q ps H') X.xe s
theorem QcP {X : Cx} {pos : Pos} : PPs X pos [] [] [] := fun pins s σ H Q I h => pairTrees_nil_walk ⟨[], H, I, .nil, h⟩
theorem QcQ {X : Cx} {pos : Pos} {k v : Expr} {ks : List (Option Expr)} {vs : List Expr} {tk tv : TE} {trs : List (TE × TE)} (hk : PE X k tk) (hv : PE X v tv) (hr : PPs X pos ks vs trs) :
  PPs X pos (some k :: ks) (v :: vs) ((tk, tv) :: trs) := fun pins s σ H Q I h =>
 pairTrees_cons_walk (thn (hk pins s σ H _ I h) fun u s1 ⟨x, H1, I1, rx, q1⟩ => thn (hv pins s1 σ H1 _ I1 q1) fun w2 s2 ⟨y, H2, I2, ry, q2⟩ =>
  thn (hr pins s2 σ H2 _ I2 q2) fun ws s3 ⟨ps, H3, I3, rel, q3⟩ => ⟨(x, y) :: ps, H3, I3, .cons ⟨rx, ry⟩ rel, q3⟩)
noncomputable def mergeK (kvs more : List (Key × V)) : List (Key × V) := more.foldl (fun acc kv => putK acc kv.1 kv.2) kvs
theorem KV.merge : ∀ {more : List (Key × V)} {rs : List (Key × Value)} {kvs : List (Key × V)} {vs : List (Key × Value)}, KV more rs → KV kvs vs → KV (mergeK kvs more) (merged vs rs) := by
 intro more rs kvs vs r
 unfold KV at r
 induction r generalizing kvs vs with
 | nil => intro q; exact q
 | @cons p q ps qs h t ih =>
  intro r0
  have e : KV (putK kvs p.1 p.2) (stored vs q.1 q.2) := by
   have := r0.put p.1 h.2
   rw [← h.1]; exact this
  exact ih e
theorem QcR : ∀ (more kvs : List (Key × V)), (mergeK kvs more).length ≤ kvs.length + more.length
 | [], kvs => by show kvs.length ≤ kvs.length + 0; ac_nf
 | p :: r, kvs => by
  have h1 := QcR r (putK kvs p.1 p.2)
  have h2 := QcA kvs p.1 p.2
  show (mergeK (putK kvs p.1 p.2) r).length ≤ _
  rw [List.length_cons]; ac_nf
theorem QcS {P : Program} {w : World} : ∀ {kvs : List (Key × V)} {ws : List (Value × Value)}, VV (kvs.map fun kv => (kV kv.1, kv.2)) ws → ∃ rs, Carries (mixKind P w) ws rs ∧ KV kvs rs
 | [], _, r => by rw [List.map_nil] at r; cases r; exact ⟨[], True.intro, .nil⟩
 | p :: kvs, _, r => by
  rw [List.map_cons] at r
  cases r with
  | @cons a b as bs h t =>
   obtain ⟨rs, c, q⟩ := QcS (P := P) (w := w) t
   obtain ⟨b1, b2⟩ := b
   exact ⟨(p.1, b2) :: rs, ⟨QcB h.1, rfl, c⟩, .cons ⟨rfl, h.2⟩ q⟩
noncomputable def tDisp (trs : List (TE × TE)) : TE := fun σ H Q => ∀ p, H p = none → tPairs trs σ (upd H p (.dK [])) fun ps H2 => H2 p = some (.dK []) ∧ ∃ kvs : List (Key × V), ps = kvs.map (fun kv => (kV kv.1, kv.2)) ∧ kvs.length ≤ 15 ∧ Q (.ref p) (upd H2 p (.dK (mergeK [] kvs)))
theorem QcT {X : Cx} {pos : Pos} {keys : List (Option Expr)} {values : List Expr} {trs : List (TE × TE)} (h : PPs X pos keys values trs) (hall : keys.all (·.isSome) = true) (hl : keys.length = values.length) (h0 : keys ≠ [])
  (h15 : keys.length ≤ 15) : PE X (.Dict keys values pos) (tDisp trs) := by
 intro pins s σ H Q I q
 have hn := I.hok.fresh (Nat.le_refl s.heap.objs.size)
 have I1 := I.laid (a := s.heap.objs.size) (o := .dK []) (h' := s.heap.push { cls := .type "dict", data := .dict #[] }) (t' := s.toks) (fun _ _ q => Heap.get?_push_of_some _ q) (Nat.le_refl _) (QcO s.heap I.big)
 refine wpAny_Dict_walk (knd := mixKind X.prog X.w) hall hl h0 h15 (thn (h pins _ σ _ _ I1 (q _ hn)) fun ws s2 pq43 => ?_)
 obtain ⟨ps, H2, I2, rel, e, kvs, ep, lk, q2⟩ := pq43
 subst ep
 obtain ⟨rs, c, rk⟩ := QcS (P := X.prog) (w := X.w) rel
 obtain ⟨z, hd, vs0, r0, dd⟩ := QcF I2.hok e
 cases r0
 refine ⟨rs, c, dd, fun h' dd' hs => ⟨.ref s.heap.objs.size, _, ?_, rfl, q2⟩⟩
 have hz : (mergeK [] kvs).length ≤ sizeLine := by
  have h1 := QcR kvs []
  rw [List.length_nil] at h1
  rw [sizeLine_eq]; ac_nf
 have he : ∃ q, h'.get? s.heap.objs.size = some q := let ⟨q, _, _, hq, _⟩ := dd'; ⟨q, hq⟩
 exact QcK I2 (by rw [e]; exact True.intro) hs he (QcL hz hd (rk.merge .nil) dd')
structure M1 (X : Cx) (o : Expr) (m : Str) (apos : Pos) (e : Expr) (cpos : Pos) : Prop where
 base : attributeBase o m X.env (eval o X.env) = eval o X.env
 few : ((backTo cpos (starEach [e] X.env)).all (fun x => !x.1) && (backToKw cpos (keywordEach [] X.env)).all (fun x => x.1.isSome)
  && decide (([e] : List Expr).length + ([] : List Keyword).length + (if ([] : List Keyword).isEmpty then 0 else 1) < 30)) = true
 line : (apos.endLine == cpos.line) = true
 trees : backTo cpos (starEach [e] X.env) = [(false, eval e X.env)]
structure M2 (X : Cx) (o : Expr) (m : Str) (apos : Pos) (e f : Expr) (cpos : Pos) : Prop where
 base : attributeBase o m X.env (eval o X.env) = eval o X.env
 few : ((backTo cpos (starEach [e, f] X.env)).all (fun x => !x.1) && (backToKw cpos (keywordEach [] X.env)).all (fun x => x.1.isSome)
  && decide (([e, f] : List Expr).length + ([] : List Keyword).length + (if ([] : List Keyword).isEmpty then 0 else 1) < 30)) = true
 line : (apos.endLine == cpos.line) = true
 trees : backTo cpos (starEach [e, f] X.env) = [(false, eval e X.env), (false, eval f X.env)]
end L2
namespace MM
open PySem PySem.Spec PyProof.Rows L2
section
variable {prog : Program} {w : World} {K : Type} [DecidableEq K] (knd : KeyKind prog w K)
inductive TIts (h : Heap) : List (List K) → List Value → Prop
 | nil : TIts h [] []
 | cons {k : List K} {b : Addr} {ks : List (List K)} {vs : List Value} : IsTupleKey knd h k b → TIts h ks vs → TIts h (k :: ks) (.ref b :: vs)
def IsNestKey (h : Heap) (ks : List (List K)) (a : Addr) : Prop := ∃ o items n, h.get? a = some o ∧ o.cls = .type "tuple" ∧ o.data = .seq items n ∧ TIts knd h ks items.toList
variable {knd}
theorem TIts.inj {h : Heap} {x y : List (List K)} {vs : List Value} (a : TIts knd h x vs) (b : TIts knd h y vs) : x = y := by
 induction a generalizing y with
 | nil => cases b; rfl
 | cons a t ih => cases b with
  | cons b u => rw [a.inj b, ih u]
theorem IsNestKey.typeIs {s : Shared} {ks : List (List K)} {a : Addr} (x : IsNestKey knd s.heap ks a) : s.TypeIs (.ref a) "tuple" := let ⟨o, _, _, ho, hc, _⟩ := x; ⟨o, ho, hc⟩
theorem IsNestKey.inj {h : Heap} {a : Addr} {x y : List (List K)} (hx : IsNestKey knd h x a) (hy : IsNestKey knd h y a) : x = y := by
 obtain ⟨o, items, n, ho, _, hd, hi⟩ := hx
 obtain ⟨o', items', n', ho', _, hd', hi'⟩ := hy
 cases ho.symm.trans ho'
 rw [hd] at hd'
 injection hd' with h1 _
 subst h1
 exact hi.inj hi'
theorem TIts.keeps {h h' : Heap} {d : Addr} {o : Obj} {es ep} (ho : h.get? d = some o) (hd : o.data = .dict es ep) (hs : Heap.SameBut d h h') : ∀ {x : List (List K)} {vs : List Value}, TIts knd h x vs → TIts knd h' x vs
 | _, _, .nil => .nil
 | _, _, .cons a t => .cons (a.keeps ho hd hs) (TIts.keeps ho hd hs t)
theorem IsNestKey.keeps {h h' : Heap} {ks : List (List K)} {a d : Addr} {o : Obj} {es ep} (x : IsNestKey knd h ks a) (ho : h.get? d = some o) (hd : o.data = .dict es ep) (hs : Heap.SameBut d h h') :
  IsNestKey knd h' ks a := by
 obtain ⟨o', items, n, ho', hc, hd', hi⟩ := x
 have hne : a ≠ d := by
  rintro rfl
  obtain rfl : o' = o := Option.some.inj (ho'.symm.trans ho)
  rw [hd] at hd'; exact nomatch hd'
 exact ⟨o', items, n, (hs.2 a hne).trans ho', hc, hd', hi.keeps ho hd hs⟩
noncomputable def nestHash (knd : KeyKind prog w K) (ks : List (List K)) : Int := reduceHash (Builtin.Tuple.tupleHashOf (ks.map (tupleKeyHash knd)))
noncomputable def nestDraws : List (List K) → Nat
 | [] => 0
 | k :: ks => (k.length + 1) + nestDraws ks
variable {A : Around} {E : Value → Shared → Prop} {s : Shared}
theorem QcU (k : List K) : ∀ (l : List (List K)), nestDraws (l ++ [k]) = nestDraws l + (k.length + 1)
 | [] => by simp [nestDraws]
 | x :: l => by simp [nestDraws, QcU k l]; ac_nf
theorem QcV {ks : List (List K)} {a : Addr} {Q : Int → Shared → Prop} (hu : A.units + 1 < cLine) (hk : IsNestKey knd s.heap ks a) (h : Q (nestHash knd ks) { s with toks := s.toks + (nestDraws ks + 1) }) :
  wpAny (model prog w) A (pyHash (.ref a)) Q E s := by
 have hT := hk.typeIs
 obtain ⟨o, items, n, ho, _, hd, hi⟩ := hk
 unfold pyHash
 first | unfold pyHashByItsType | skip
 first | refine wpAny_bind (wpAny_cRoomFor_or (.inr (by ac_nf)) ?_) | skip
 refine wpAny_bind (wpAny_specialOf hT F.slot_tuple_hash.lookup ?_)
 show wpAny _ _ (if (some (Value.builtin "tuple.__hash__") == some Value.none) = true then _ else _) Q E s
 rw [if_neg (by rw [beq_builtin_none]; exact Bool.false_ne_true)]
 refine wpAny_bind (wpAny_specialOf hT F.slot_tuple_hash.lookup ?_)
 show wpAny _ _ (callSpecialIfBoundUnlessNone? (.ref a) "__hash__" _ >>= _) Q E s
 refine wpAny_bind (wpAny_callSpecialIfBoundUnlessNone?_slot hT F.slot_tuple_hash (wpAny_call_entry F.slot_tuple_hash hT F.entry_tuple_hash ?_ (F.args_tuple_hash_1 _)))
 show wpAny _ _ (Builtin.Tuple.tupleItemsOf (.ref a) >>= _) _ _ s
 refine wpAny_bind (wpAny_tupleItemsOf ho hd ?_)
 refine wpAny_bind ?_
 rw [← Array.forIn_toList]
 refine wpAny_forIn_list _
  (fun rest (b : Array Int) s' => ∃ done left, ks = done ++ left ∧ TIts knd s.heap left rest ∧ b.toList = done.map (tupleKeyHash knd) ∧ s' = { s with toks := s.toks + nestDraws done })
  _ ?_ ?_ _ _ ⟨[], ks, rfl, hi, rfl, rfl⟩
 ·rintro x rest b s' ⟨done, left, rfl, hl, hb, rfl⟩
  cases hl with
  | @cons k b' ks' _ h1 hl' =>
   refine wpAny_bind (wpAny_pyHash_tuple (knd := knd) (ks := k) hu h1 ?_)
   first
    | exact wpAny_pure ⟨done ++ [k], ks', by simp, hl', by simp [hb], by simp [QcU, Nat.add_assoc]⟩
    | exact wpAny_bind (wpAny_pure (wpAny_pure ⟨done ++ [k], ks', by simp, hl', by simp [hb], by simp [QcU, Nat.add_assoc]⟩))
 ·rintro b s' ⟨done, left, rfl, hl, hb, rfl⟩
  cases hl
  rw [List.append_nil] at h
  show wpAny _ _ (retInt (Builtin.Tuple.tupleHashOf b.toList)) _ _ _
  rw [hb]
  refine wpAny_ret_mkInt ?_
  show wpAny _ _ (if (decide (-(2 : Int) ^ 63 ≤ Builtin.Tuple.tupleHashOf (done.map (tupleKeyHash knd))) && decide (Builtin.Tuple.tupleHashOf (done.map (tupleKeyHash knd)) < 2 ^ 63)) = true then _ else _) Q E _
  unfold nestHash reduceHash at h
  by_cases hr : (decide (-(2 : Int) ^ 63 ≤ Builtin.Tuple.tupleHashOf (done.map (tupleKeyHash knd))) && decide (Builtin.Tuple.tupleHashOf (done.map (tupleKeyHash knd)) < 2 ^ 63)) = true
  ·rw [if_pos hr]
   rw [if_pos hr] at h
   exact wpAny_pure (by simpa [Nat.add_assoc] using h)
  ·rw [if_neg hr]
   rw [if_neg hr] at h
   exact wpAny_bind (wpAny_rule (wpAny_pure (by simpa [Nat.add_assoc] using h)))
theorem QcW {x y : List (List K)} {a b : Addr} {P : Fin → Shared → Prop} (hu : A.units < cLine) (hx : IsNestKey knd s.heap x a) (hy : IsNestKey knd s.heap y b) (h : P (.done (.ret (.bool (decide (x = y))))) s) :
  wpAny (model prog w) A (Builtin.«tuple.__eq__» ⟨[.ref a, .ref b], []⟩) P E s := by
 have hTb := hy.typeIs
 obtain ⟨oa, xs, na, hoa, _, hda, hia⟩ := hx
 obtain ⟨ob, ys, nb, hob, _, hdb, hib⟩ := hy
 show wpAny _ _ (isInstance (.ref b) (.type "tuple") >>= _) _ _ s
 refine wpAny_bind (wpAny_isInstance hTb isSubtype_tuple_tuple ?_)
 simp only [Bool.not_true, Bool.false_eq_true, if_false]
 refine wpAny_bind (wpAny_tupleItemsOf hoa hda ?_)
 refine wpAny_bind (wpAny_tupleItemsOf hob hdb ?_)
 refine wpAny_bind ?_
 refine wpAny_forIn_list _
  (fun rest r s' => r.1 = none ∧ s' = s ∧ ∃ x' y' xs' ys', rest = List.zip xs' ys' ∧ TIts knd s.heap x' xs' ∧ TIts knd s.heap y' ys' ∧ decide (x' = y') = decide (x = y) ∧ (xs'.length == ys'.length) = (xs.size == ys.size))
  _ ?_ ?_ _ _ ⟨rfl, rfl, x, y, xs.toList, ys.toList, rfl, hia, hib, rfl, by simp⟩
 ·rintro ⟨u, v⟩ rest r s' ⟨hr, rfl, x', y', xs', ys', hz, hx', hy', hdec, hlen⟩
  cases hx' with
  | nil => simp at hz
  | @cons k1 u' x'' xs'' h1 hx'' =>
   cases hy' with
   | nil => simp at hz
   | @cons k2 v' y'' ys'' h2 hy'' =>
    simp only [List.zip_cons_cons, List.cons.injEq, Prod.mk.injEq] at hz
    obtain ⟨⟨rfl, rfl⟩, rfl⟩ := hz
    refine wpAny_bind (wpAny_eqBool_tuple (knd := knd) (x := k1) (y := k2) hu h1 h2 ?_)
    by_cases hk : k1 = k2
    ·subst hk
     rw [decide_eq_true rfl]
     simp only [Bool.not_true, Bool.false_eq_true, if_false]
     refine wpAny_pure ⟨rfl, rfl, x'', y'', xs'', ys'', rfl, hx'', hy'', ?_, by simpa using hlen⟩
     rw [← hdec]
     by_cases hxy : x'' = y''
     ·simp [hxy]
     ·simp [hxy]
    ·rw [decide_eq_false hk]
     simp only [Bool.not_false, if_true]
     have hf : decide (x = y) = false := by rw [← hdec]; simp [hk]
     rw [hf] at h
     exact wpAny_bind (wpAny_pure (wpAny_pure (wpAny_pure h)))
 ·rintro ⟨r1, r2⟩ s' ⟨hr, rfl, x', y', xs', ys', hz, hx', hy', hdec, hlen⟩
  simp only at hr
  subst hr
  refine wpAny_pure ?_
  have hfin : (xs.size == ys.size) = decide (x = y) := by
   rw [← hdec, ← hlen]
   cases hx' with
   | nil =>
    cases hy' with
    | nil => simp
    | cons _ _ => simp
   | cons _ _ =>
    cases hy' with
    | nil => simp
    | cons _ _ => simp at hz
  show P (.done (.ret (.bool (xs.size == ys.size)))) s'
  rw [hfin]; exact h
theorem QcX {x y : List (List K)} {a b : Addr} {Q : Bool → Shared → Prop} (hu : A.units + 1 < cLine) (hx : IsNestKey knd s.heap x a) (hy : IsNestKey knd s.heap y b) (h : Q (decide (x = y)) s) :
  wpAny (model prog w) A (eqBool (.ref a) (.ref b)) Q E s := by
 unfold eqBool
 try with_reducible refine wpAny_holding ?_
 show wpAny _ _ (if (Value.ref a == Value.ref b) = true then _ else _) Q E s
 by_cases hab : (Value.ref a == Value.ref b) = true
 ·rw [if_pos hab]
  have e : a = b := by have := eq_of_beq hab; injection this
  subst e
  obtain rfl := hx.inj hy
  exact wpAny_bind (wpAny_rule (wpAny_pure (by simpa using h)))
 ·rw [if_neg hab]
  exact wpAny_bind (wpAny_richCompare_same_room (op := .Eq) hx.typeIs hy.typeIs F.slot_tuple_eq
   (wpAny_call_entry F.slot_tuple_eq hx.typeIs F.entry_tuple_eq (QcW (by exact hu) hx hy ⟨_, rfl, (fun e => nomatch e), wpAny_truthy_bool h⟩) (F.args_tuple_eq_2 _ _)) (by ac_nf))
theorem QcY {n : Nat} {ks : List K} {a : Addr} {Q : Bool → Shared → Prop} (hk : IsTupleKey knd s.heap ks a) (h : Q true s) : wpAny (model prog w) A (eqIsQuiet (n + 1) (.ref a)) Q E s := by
 have hT := hk.typeIs
 obtain ⟨o, items, n, ho, _, hd, hi⟩ := hk
 unfold eqIsQuiet
 refine wpAny_bind (wpAny_specialOf hT F.slot_tuple_eq.lookup ?_)
 show wpAny _ _ (isInstance (.ref a) (.type "tuple") >>= _) _ _ s
 refine wpAny_bind (wpAny_isInstance hT isSubtype_tuple_tuple ?_)
 simp only [Bool.not_true, Bool.false_eq_true, if_false]
 refine wpAny_bind (wpAny_seqItems ho hd ?_)
 refine wpAny_bind ?_
 show wpAny _ _ (forIn items _ _) _ _ s
 rw [← Array.forIn_toList]
 refine wpAny_forIn_list _ (fun rest r s' => r.1 = none ∧ s' = s ∧ ∀ v ∈ rest, carriedByValue v = true) _ ?_ ?_ _ _ ⟨rfl, rfl, hi.byValue⟩
 ·rintro v rest r s' ⟨hr, rfl, hall⟩
  rw [eqIsQuiet_byValue _ (hall v List.mem_cons_self)]
  refine wpAny_bind (wpAny_pure ?_)
  simp only [Bool.not_true, Bool.false_eq_true, if_false]
  exact wpAny_pure ⟨rfl, rfl, fun u hu' => hall u (List.mem_cons_of_mem _ hu')⟩
 ·rintro ⟨r1, r2⟩ s' ⟨hr, rfl, _⟩
  simp only at hr
  subst hr
  exact wpAny_pure h
theorem QcZ {ks : List (List K)} {a : Addr} {Q : Bool → Shared → Prop} (hk : IsNestKey knd s.heap ks a) (h : Q true s) : wpAny (model prog w) A (eqIsQuiet 8 (.ref a)) Q E s := by
 have hT := hk.typeIs
 obtain ⟨o, items, n, ho, _, hd, hi⟩ := hk
 unfold eqIsQuiet
 refine wpAny_bind (wpAny_specialOf hT F.slot_tuple_eq.lookup ?_)
 show wpAny _ _ (isInstance (.ref a) (.type "tuple") >>= _) _ _ s
 refine wpAny_bind (wpAny_isInstance hT isSubtype_tuple_tuple ?_)
 simp only [Bool.not_true, Bool.false_eq_true, if_false]
 refine wpAny_bind (wpAny_seqItems ho hd ?_)
 refine wpAny_bind ?_
 show wpAny _ _ (forIn items _ _) _ _ s
 rw [← Array.forIn_toList]
 refine wpAny_forIn_list _ (fun rest r s' => r.1 = none ∧ s' = s ∧ ∃ left, TIts knd s.heap left rest) _ ?_ ?_ _ _ ⟨rfl, rfl, ks, hi⟩
 ·rintro v rest r s' ⟨hr, rfl, left, hall⟩
  cases hall with
  | cons h1 hl =>
   refine wpAny_bind (QcY (n := 6) h1 ?_)
   simp only [Bool.not_true, Bool.false_eq_true, if_false]
   exact wpAny_pure ⟨rfl, rfl, _, hl⟩
 ·rintro ⟨r1, r2⟩ s' ⟨hr, rfl, _⟩
  simp only at hr
  subst hr
  exact wpAny_pure h
end
noncomputable def nestKind {prog : Program} {w : World} {K : Type} [DecidableEq K] (knd : KeyKind prog w K) : HeapKind prog w (List (List K)) where
 is := IsNestKey knd
 hash := nestHash knd
 draws := fun ks => nestDraws ks + 1
 room := fun A => A.units + 1 < cLine
 inj := fun hx hy => hx.inj hy
 keeps := fun x ho hd hs => x.keeps ho hd hs
 pyHash := fun hu hk h => QcV hu hk h
 eqBool := fun hu hx hy h => QcX hu hx hy h
 quiet := fun hk h => QcZ hk h
end MM
namespace MM
open PySem
inductive D where
 | non | bl (b : Bool) | int (i : Int) | str (x : Str) | tup (ds : List D) | lit (ds : List D) | ref (n : Nat) | dic (n : Nat)
inductive MO where
 | lst (ds : List D) | dct (b : Bool) (kvs : List (D × D))
noncomputable abbrev Sto := List MO
structure Exn where
 cls : Nat
 args : List D
inductive Rs (α : Type) where
 | ok (a : α) (s : Sto) | exc (x : Exn) (s : Sto) | bad
noncomputable def M (α : Type) := Sto → Rs α
section
variable {α β : Type}
noncomputable def ret (a : α) : M α := fun s => .ok a s
noncomputable def bnd (m : M α) (f : α → M β) : M β := fun s => match m s with
 | .ok a s' => f a s'
 | .exc x s' => .exc x s'
 | .bad => .bad
noncomputable def bad : M α := fun _ => .bad
@[irreducible] noncomputable def chk (c : Prop) [Decidable c] (m : M α) : M α := if c then m else bad
end
noncomputable abbrev Loc := List (Option D)
noncomputable abbrev CE := Loc → M D
noncomputable abbrev CT := Loc → M Bool
noncomputable abbrev CA := Loc → M (List D)
inductive Flw where
 | next (l : Loc) | ret (d : D) | brk (l : Loc) | cnt (l : Loc)
noncomputable abbrev CS := Loc → M Flw
noncomputable def lim : Nat := 2 ^ 24
noncomputable def alloc (o : MO) : M D := fun s => .ok (.ref s.length) (s ++ [o])
noncomputable def getL (n : Nat) : M (List D) := fun s => match s[n]? with
 | some (.lst ds) => .ok ds s
 | _ => .bad
noncomputable def putL (n : Nat) (ds : List D) : M Unit := fun s => match s[n]? with
 | some (.lst _) => .ok () (s.set n (.lst ds))
 | _ => .bad
noncomputable def getDc (n : Nat) : M (Bool × List (D × D)) := fun s => match s[n]? with
 | some (.dct b kvs) => .ok (b, kvs) s
 | _ => .bad
noncomputable def putDc (n : Nat) (b : Bool) (kvs : List (D × D)) : M Unit := fun s => match s[n]? with
 | some (.dct c _) => if b = c then .ok () (s.set n (.dct b kvs)) else .bad
 | _ => .bad
mutual
noncomputable def eqK : D → D → Bool
 | .int i, .int j => decide (i = j)
 | .str x, .str y => decide (x = y)
 | .tup xs, .tup ys => eqKs xs ys
 | _, _ => false
noncomputable def eqKs : List D → List D → Bool
 | [], [] => true
 | x :: xs, y :: ys => eqK x y && eqKs xs ys
 | _, _ => false
end
noncomputable def intsK : List D → Option (List Int)
 | [] => some []
 | .int i :: ds => (intsK ds).map (i :: ·)
 | _ => none
noncomputable def rowsK : List D → Option (List (List Int))
 | [] => some []
 | .tup xs :: ds => match intsK xs, rowsK ds with
  | some r, some rs => some (r :: rs)
  | _, _ => none
 | _ => none
noncomputable def stK : D → Option (List (List Int))
 | .tup ds => rowsK ds
 | _ => none
noncomputable def kOk : Bool → D → Bool
 | false, .int _ => true
 | false, .str _ => true
 | true, d => (stK d).isSome
 | _, _ => false
noncomputable def lkK (kvs : List (D × D)) (k : D) : Option D := (kvs.find? fun p => eqK p.1 k).map (·.2)
noncomputable def ptK (kvs : List (D × D)) (k v : D) : List (D × D) := if (kvs.any fun p => eqK p.1 k) = true then kvs.map fun p => if eqK p.1 k = true then (p.1, v) else p else kvs ++ [(k, v)]
noncomputable def mgK (kvs more : List (D × D)) : List (D × D) := more.foldl (fun acc p => ptK acc p.1 p.2) kvs
noncomputable def itemK (n : Nat) (k : D) : M D := bnd (getDc n) fun p => chk (kOk p.1 k = true) (match lkK p.2 k with
 | some d => ret d
 | none => bad)
noncomputable def storeK (n : Nat) (k v : D) : M Unit := bnd (getDc n) fun p => chk (kOk p.1 k = true ∧ p.2.length < lim) (putDc n p.1 (ptK p.2 k v))
noncomputable def hasK (n : Nat) (k : D) : M Bool := bnd (getDc n) fun p => chk (kOk p.1 k = true) (ret (lkK p.2 k).isSome)
noncomputable def seqOf : D → M (List D)
 | .tup ds => ret ds
 | .lit ds => ret ds
 | .ref n => getL n
 | _ => bad
noncomputable def ixN (n : Nat) (i : Int) : Option Nat := if 0 ≤ i then (if i < n then some i.toNat else none) else (if -(n : Int) ≤ i then some (i + n).toNat else none)
noncomputable def addD : D → D → M D
 | .int i, .int j => ret (.int (i + j))
 | .str x, .str y => chk (x.length + y.length ≤ lim) (ret (.str (x ++ y)))
 | .tup x, .tup y => chk (x.length + y.length ≤ lim) (ret (.tup (x ++ y)))
 | .ref a, .ref b => bnd (getL a) fun x => bnd (getL b) fun y => chk (x.length + y.length ≤ lim) (alloc (.lst (x ++ y)))
 | _, _ => bad
noncomputable def subD : D → D → M D
 | .int i, .int j => ret (.int (i - j))
 | _, _ => bad
def mulOk (i j : Int) : Prop := (-(2 ^ 64) < i ∧ i < 2 ^ 64) ∨ (-(2 ^ 64) < j ∧ j < 2 ^ 64)
noncomputable instance (i j : Int) : Decidable (mulOk i j) := by unfold mulOk; infer_instance
noncomputable def mulD : D → D → M D
 | .int i, .int j => chk (mulOk i j) (ret (.int (i * j)))
 | _, _ => bad
noncomputable def fdivD : D → D → M D
 | .int i, .int j => chk (0 < j ∧ j < 1073741824) (ret (.int (i / j)))
 | _, _ => bad
noncomputable def modD : D → D → M D
 | .int i, .int j => chk (0 < j) (ret (.int (i % j)))
 | _, _ => bad
noncomputable def powD : D → D → M D
 | .int i, .int j => chk (0 ≤ j ∧ j ≤ 1000000 ∧ i.natAbs < 2 ^ 64) (ret (.int (i ^ j.toNat)))
 | _, _ => bad
noncomputable def shlD : D → D → M D
 | .int i, .int j => chk (0 ≤ j ∧ j ≤ 1000000 ∧ i.natAbs < 2 ^ 64) (ret (.int (i * 2 ^ j.toNat)))
 | _, _ => bad
noncomputable def negD : D → M D
 | .int i => ret (.int (-i))
 | _ => bad
noncomputable def cmpI (p : Int → Int → Bool) : D → D → M D
 | .int i, .int j => ret (.bl (p i j))
 | _, _ => bad
noncomputable def ltD := cmpI fun i j => decide (i < j)
noncomputable def leD := cmpI fun i j => decide (i ≤ j)
noncomputable def gtD := cmpI fun i j => decide (j < i)
noncomputable def geD := cmpI fun i j => decide (j ≤ i)
noncomputable def allF (f : D → D → Option Bool) : List D → List D → Option Bool
 | [], [] => some true
 | x :: xs, y :: ys => match f x y with
  | some true => allF f xs ys
  | some false => (allF f xs ys).map fun _ => false
  | none => none
 | _ :: _, [] => some false
 | [], _ :: _ => some false
noncomputable def eqS (g : List D → List D → Option Bool) : D → D → Option Bool
 | .non, .non => some true
 | .non, .bl _ => some false
 | .non, .int _ => some false
 | .non, .str _ => some false
 | .non, .tup _ => some false
 | .bl _, .non => some false
 | .bl a, .bl b => some (a == b)
 | .bl a, .int b => some ((if a then 1 else 0) == b)
 | .bl _, .str _ => some false
 | .bl _, .tup _ => some false
 | .int _, .non => some false
 | .int a, .bl b => some (a == (if b then 1 else 0))
 | .int a, .int b => some (a == b)
 | .int _, .str _ => some false
 | .int _, .tup _ => some false
 | .str _, .non => some false
 | .str _, .bl _ => some false
 | .str _, .int _ => some false
 | .str a, .str b => some (a == b)
 | .str _, .tup _ => some false
 | .tup _, .non => some false
 | .tup _, .bl _ => some false
 | .tup _, .int _ => some false
 | .tup _, .str _ => some false
 | .tup xs, .tup ys => g xs ys
 | _, _ => none
noncomputable def eqF : Nat → D → D → Option Bool
 | 0, d, e => eqS (fun _ _ => none) d e
 | n + 1, d, e => eqS (allF (eqF n)) d e
noncomputable def eqB (d e : D) : M Bool := match d, e with
 | .ref a, .ref b => bnd (getL a) fun x => bnd (getL b) fun y => match (if x.length = y.length then allF (eqF 50) x y else some false) with
  | some r => ret r
  | none => bad
 | .ref a, .non => bnd (getL a) fun _ => ret false
 | .non, .ref a => bnd (getL a) fun _ => ret false
 | d, e => match eqF 50 d e with
  | some r => ret r
  | none => bad
noncomputable def eqD (d e : D) : M D := bnd (eqB d e) fun b => ret (.bl b)
noncomputable def neD (d e : D) : M D := bnd (eqB d e) fun b => ret (.bl !b)
noncomputable def isND : D → M D
 | .non => ret (.bl true)
 | _ => ret (.bl false)
noncomputable def notND : D → M D
 | .non => ret (.bl false)
 | _ => ret (.bl true)
noncomputable def itemD (ds : List D) (i : Int) : M D := match ixN ds.length i with
 | some k => match ds[k]? with
  | some d => ret d
  | none => bad
 | none => bad
noncomputable def subsD : D → D → M D
 | .tup ds, .int i => itemD ds i
 | .lit ds, .int i => itemD ds i
 | .ref n, .int i => bnd (getL n) fun ds => itemD ds i
 | .dic n, k => itemK n k
 | .str x, .int i => chk (x.length ≤ lim) (match ixN x.length i with
  | some k => match x.cps.toList[k]? with
   | some c => ret (.str ⟨#[c]⟩)
   | none => bad
  | none => bad)
 | _, _ => bad
noncomputable def truD : D → M Bool
 | .non => ret false
 | .bl b => ret b
 | .int i => ret (i != 0)
 | .str x => chk (x.length ≤ lim) (ret ((x.length : Int) != 0))
 | .tup ds => ret (!ds.isEmpty)
 | .lit ds => ret (!ds.isEmpty)
 | .ref n => bnd (getL n) fun ds => ret (!ds.isEmpty)
 | .dic _ => bad
noncomputable def cVar (i : Nat) : CE := fun l => match l[i]? with
 | some (some d) => ret d
 | _ => bad
noncomputable def cCon (d : D) : CE := fun _ => ret d
noncomputable def c1 (g : D → M D) (a : CE) : CE := fun l => bnd (a l) g
noncomputable def c2 (g : D → D → M D) (a b : CE) : CE := fun l => bnd (a l) fun x => bnd (b l) fun y => g x y
noncomputable def cNil : CA := fun _ => ret []
noncomputable def cCons (a : CE) (r : CA) : CA := fun l => bnd (a l) fun x => bnd (r l) fun xs => ret (x :: xs)
noncomputable def cTup (a : CA) : CE := fun l => bnd (a l) fun xs => chk (xs.length ≤ lim) (ret (.tup xs))
noncomputable def cChain (f g : D → D → M D) (a b c : CE) : CE := fun l => bnd (a l) fun x => bnd (b l) fun y => bnd (f x y) fun z => match z with
 | .bl true => bnd (c l) fun w => g y w
 | .bl false => ret (.bl false)
 | _ => bad
noncomputable def cAnd (a b : CE) : CE := fun l => bnd (a l) fun x => match x with
 | .bl true => b l
 | .bl false => ret (.bl false)
 | _ => bad
noncomputable def cOr (a b : CE) : CE := fun l => bnd (a l) fun x => match x with
 | .bl true => ret (.bl true)
 | .bl false => b l
 | _ => bad
noncomputable def cNot (a : CE) : CE := fun l => bnd (a l) fun x => match x with
 | .bl b => ret (.bl !b)
 | _ => bad
noncomputable def cIfE (t : CT) (a b : CE) : CE := fun l => bnd (t l) fun c => if c = true then a l else b l
noncomputable def cCall (g : List D → M D) (a : CA) : CE := fun l => bnd (a l) g
noncomputable def tVal (a : CE) : CT := fun l => bnd (a l) truD
noncomputable def tCmpB (a : CE) : CT := fun l => bnd (a l) fun x => match x with
 | .bl b => ret b
 | _ => bad
noncomputable def tAndB (a b : CT) : CT := fun l => bnd (a l) fun c => if c = true then b l else ret false
noncomputable def tOrB (a b : CT) : CT := fun l => bnd (a l) fun c => if c = true then ret true else b l
noncomputable def tNotB (a : CT) : CT := fun l => bnd (a l) fun c => ret !c
structure Wk where
 ds : List D
 same : Sto → Prop
noncomputable abbrev CI := Loc → M Wk
open Classical in
noncomputable def  chkS (p : Sto → Prop) : M Unit := fun s => if p s then .ok () s else .bad
noncomputable def anySt : Sto → Prop := fun _ => True
noncomputable def sameL (n : Nat) (ds : List D) : Sto → Prop := fun s => s[n]? = some (.lst ds)
noncomputable def iSeq (a : CE) : CI := fun l => bnd (a l) fun x => match x with
 | .tup ds => ret ⟨ds, anySt⟩
 | .lit ds => ret ⟨ds, anySt⟩
 | .ref n => bnd (getL n) fun ds => ret ⟨ds, sameL n ds⟩
 | _ => bad
noncomputable def rngD (lo : Int) (n : Nat) : List D := (List.range n).map fun k => .int (lo + (k : Nat))
noncomputable def iRng1 (a : CE) : CI := fun l => bnd (a l) fun x => match x with
 | .int j => chk (-(2 ^ 62) ≤ j ∧ j < 2 ^ 62) (ret ⟨rngD 0 j.toNat, anySt⟩)
 | _ => bad
noncomputable def iRng2 (a b : CE) : CI := fun l => bnd (a l) fun x => bnd (b l) fun y => match x, y with
 | .int i, .int j => chk ((-(2 ^ 62) ≤ i ∧ i < 2 ^ 62) ∧ (-(2 ^ 62) ≤ j ∧ j < 2 ^ 62)) (ret ⟨rngD i (j - i).toNat, anySt⟩)
 | _, _ => bad
noncomputable def iTmp (a : CA) : CI := fun l => bnd (a l) fun ds => ret ⟨ds, anySt⟩
noncomputable def iEnum (a : CE) : CI := fun l => bnd (a l) fun x => match x with
 | .tup ds => ret ⟨(rngD 0 ds.length).zipWith (fun i d => .tup [i, d]) ds, anySt⟩
 | _ => bad
noncomputable abbrev CG := D → Loc → M Loc
noncomputable def gVar (i : Nat) : CG := fun d l => ret (l.set i (some d))
noncomputable def gsNil : List D → Loc → M Loc
 | [], l => ret l
 | _, _ => bad
noncomputable def gsCons (g : CG) (r : List D → Loc → M Loc) : List D → Loc → M Loc
 | d :: ds, l => bnd (g d l) fun l' => r ds l'
 | _, _ => bad
noncomputable def gTupD (n : Nat) (r : List D → Loc → M Loc) : CG := fun d l => match d with
 | .tup ds => chk (ds.length = n) (r ds l)
 | _ => bad
noncomputable def capt (n : Nat) (caps : List Nat) (l : Loc) : Loc := List.replicate n none ++ caps.map fun i => (l[i]?).join
noncomputable def  collect (g : CG) (t : CT) (e : CE) (same : Sto → Prop) : List D → Loc → M (List D)
 | [], _ => bnd (chkS same) fun _ => ret []
 | d :: ds, l => bnd (chkS same) fun _ => bnd (g d l) fun l' => bnd (t l') fun b => if b = true then bnd (e l') fun x => bnd (collect g t e same ds l') fun xs => ret (x :: xs) else collect g t e same ds l'
noncomputable def  aComp (n : Nat) (caps : List Nat) (i : CI) (g : CG) (t : CT) (e : CE) : CA := fun l => bnd (i l) fun w => chk (w.ds.length ≤ lim) (collect g t e w.same w.ds (capt n caps l))
noncomputable def sIx (n d : Nat) : Option Int → Nat
 | none => d
 | some v => if v < 0 then (v + (n : Int)).toNat else min v.toNat n
noncomputable def cutD (xs : List D) (lo hi : Option Int) : List D := (xs.drop (sIx xs.length 0 lo)).take (sIx xs.length xs.length hi - sIx xs.length 0 lo)
noncomputable abbrev CO := Loc → M (Option Int)
noncomputable def oNone : CO := fun _ => ret none
noncomputable def oSome (a : CE) : CO := fun l => bnd (a l) fun x => match x with
 | .int i => ret (some i)
 | _ => bad
noncomputable def aSlice (a : CE) (lo hi : CO) : CA := fun l => bnd (a l) fun x => bnd (lo l) fun i => bnd (hi l) fun j => match x with
 | .lit ds => ret (cutD ds i j)
 | .ref n => bnd (getL n) fun ds => ret (cutD ds i j)
 | _ => bad
noncomputable def cSliceT (a : CE) (lo hi : CO) : CE := fun l => bnd (a l) fun x => bnd (lo l) fun i => bnd (hi l) fun j => match x with
 | .tup ds => chk (¬(sIx ds.length 0 i = 0 ∧ sIx ds.length ds.length j = ds.length)) (ret (.tup (cutD ds i j)))
 | _ => bad
noncomputable def tTrue : CT := fun _ => ret true
noncomputable def cKeep (a : CA) : CE := fun l => bnd (a l) fun ds => alloc (.lst ds)
noncomputable def aDisp (a : CA) : CA := fun l => bnd (a l) fun xs => chk (xs.length ≤ lim) (ret xs)
noncomputable def cTmpSub (a : CA) (b : CE) : CE := fun l => bnd (a l) fun ds => bnd (b l) fun i => match i with
 | .int k => itemD ds k
 | _ => bad
noncomputable def cTmp (g : List D → M D) (a : CA) : CE := fun l => bnd (a l) g
noncomputable def sNext : CS := fun l => ret (.next l)
noncomputable def sSeq (a b : CS) : CS := fun l => bnd (a l) fun f => match f with
 | .next l' => b l'
 | f => ret f
noncomputable def sAsg (g : CG) (a : CE) : CS := fun l => bnd (a l) fun d => bnd (g d l) fun l' => ret (.next l')
noncomputable def sRet (a : CE) : CS := fun l => bnd (a l) fun d => ret (.ret d)
noncomputable def sExp (a : CE) : CS := fun l => bnd (a l) fun _ => ret (.next l)
noncomputable def sIf (t : CT) (a b : CS) : CS := fun l => bnd (t l) fun c => if c = true then a l else b l
noncomputable def sBad : CS := fun _ => bad
noncomputable def  forD (g : CG) (b : CS) (same : Sto → Prop) : List D → CS
 | [], l => bnd (chkS same) fun _ => ret (.next l)
 | d :: ds, l => bnd (chkS same) fun _ => bnd (g d l) fun l' => bnd (b l') fun f => match f with
  | .next l2 => forD g b same ds l2
  | .cnt l2 => forD g b same ds l2
  | .brk l2 => ret (.next l2)
  | .ret d => ret (.ret d)
noncomputable def  sFor (i : CI) (g : CG) (b : CS) : CS := fun l => bnd (i l) fun w => forD g b w.same w.ds l
noncomputable def flwD : Flw → M D
 | .ret d => ret d
 | .next _ => ret .non
 | _ => bad
noncomputable def runDef (n : Nat) (body : CS) (ds : List D) : M D := bnd (body (ds.map some ++ List.replicate (n - ds.length) none)) flwD
noncomputable def setItemD (o i v : D) : M Unit := match o, i with
 | .ref n, .int k => bnd (getL n) fun ds => match ixN ds.length k with
  | some j => putL n (ds.set j v)
  | none => bad
 | .dic n, k => storeK n k v
 | _, _ => bad
noncomputable def gSubD (o i : CE) : CG := fun v l => bnd (o l) fun y => bnd (i l) fun z => bnd (setItemD y z v) fun _ => ret l
noncomputable def lenD : D → M D
 | .tup ds => ret (.int ds.length)
 | .lit ds => ret (.int ds.length)
 | .ref n => bnd (getL n) fun ds => ret (.int ds.length)
 | .str x => chk (x.length ≤ lim) (ret (.int x.length))
 | .dic n => bnd (getDc n) fun p => ret (.int p.2.length)
 | _ => bad
noncomputable def appendL (n : Nat) (v : D) : M D := bnd (getL n) fun ds => chk (ds.length < lim) (bnd (putL n (ds ++ [v])) fun _ => ret .non)
noncomputable def cAppend (a b : CE) : CE := fun l => bnd (a l) fun x => match x with
 | .ref n => bnd (b l) fun v => appendL n v
 | _ => bad
noncomputable def cClear (a : CE) : CE := fun l => bnd (a l) fun x => match x with
 | .ref n => bnd (putL n []) fun _ => ret .non
 | _ => bad
noncomputable def intD : D → M D
 | .int i => ret (.int i)
 | .bl b => ret (.int (if b then 1 else 0))
 | _ => bad
noncomputable def tupleD : D → M D
 | .tup ds => ret (.tup ds)
 | .lit ds => ret (.tup ds)
 | .ref n => bnd (getL n) fun ds => ret (.tup ds)
 | _ => bad
noncomputable def isTy : D → Option (List String)
 | .non => some ["NoneType"]
 | .bl _ => some ["bool", "int"]
 | .int _ => some ["int"]
 | .str _ => some ["str"]
 | .tup _ => some ["tuple"]
 | .lit _ => some ["list"]
 | .ref _ => some ["list"]
 | .dic _ => none
noncomputable def numsL : List D → Option (List Int)
 | [] => some []
 | .int i :: ds => (numsL ds).map (i :: ·)
 | _ => none
noncomputable def boolsL : List D → Option (List Bool)
 | [] => some []
 | .bl b :: ds => (boolsL ds).map (b :: ·)
 | _ => none
noncomputable def maxD (ds : List D) : M D := match numsL ds with
 | some (n :: ns) => ret (.int (ns.foldl max n))
 | _ => bad
noncomputable def allD (ds : List D) : M D := match boolsL ds with
 | some bs => ret (.bl (bs.all id))
 | _ => bad
noncomputable def tupL (ds : List D) : M D := ret (.tup ds)
noncomputable def lenL (ds : List D) : M D := ret (.int ds.length)
noncomputable def isInst (ts : List String) (d : D) : M D := match isTy d with
 | some us => ret (.bl (ts.any fun t => us.contains t))
 | none => bad
noncomputable def isD : D → D → M D
 | .bl a, .bl b => ret (.bl (a == b))
 | x, .non => isND x
 | _, _ => bad
noncomputable def isntD : D → D → M D
 | .bl a, .bl b => ret (.bl !(a == b))
 | x, .non => notND x
 | _, _ => bad
noncomputable def flatD : D → Bool
 | .non => true
 | .bl _ => true
 | .int _ => true
 | .str _ => true
 | _ => false
noncomputable def eqFl : D → D → Bool
 | .non, .non => true
 | .bl a, .bl b => a == b
 | .bl a, .int b => (if a then 1 else 0) == b
 | .int a, .bl b => a == (if b then 1 else 0)
 | .int a, .int b => a == b
 | .str a, .str b => a == b
 | _, _ => false
noncomputable def inL (x : D) (ds : List D) : M D := chk (flatD x = true ∧ ds.all flatD = true) (ret (.bl (ds.any fun d => eqFl d x)))
noncomputable def ninL (x : D) (ds : List D) : M D := chk (flatD x = true ∧ ds.all flatD = true) (ret (.bl !(ds.any fun d => eqFl d x)))
noncomputable def inD (x y : D) : M D := match y with
 | .dic n => bnd (hasK n x) fun b => ret (.bl b)
 | y => bnd (seqOf y) (inL x)
noncomputable def ninD (x y : D) : M D := match y with
 | .dic n => bnd (hasK n x) fun b => ret (.bl !b)
 | y => bnd (seqOf y) (ninL x)
noncomputable def allocK (b : Bool) (kvs : List (D × D)) : M D := fun s => .ok (.dic s.length) (s ++ [.dct b kvs])
noncomputable def cDNew (b : Bool) : CE := fun _ => allocK b []
noncomputable def cDisp (ks : List D) (vs : CA) : CE := fun l => bnd (vs l) fun xs => chk (ks.length = xs.length) (allocK false (mgK [] (ks.zip xs)))
noncomputable def aTimes (a : CA) (b : CE) : CA := fun l => bnd (a l) fun xs => bnd (b l) fun k => match k with
 | .int k => chk ((-(2 ^ 63) ≤ k ∧ k < 2 ^ 63) ∧ xs.length * k.toNat ≤ lim) (ret (List.replicate k.toNat xs).flatten)
 | _ => bad
noncomputable def aRev (a : CA) : CA := fun l => bnd (a l) fun ds => ret ds.reverse
noncomputable def cInTmp (g : D → List D → M D) (a : CE) (b : CA) : CE := fun l => bnd (a l) fun x => bnd (b l) fun ds => g x ds
noncomputable def min2D : D → D → M D
 | .int i, .int j => ret (.int (min i j))
 | _, _ => bad
noncomputable def max2D : D → D → M D
 | .int i, .int j => ret (.int (max i j))
 | _, _ => bad
noncomputable def listD (d : D) : M D := bnd (seqOf d) fun ds => alloc (.lst ds)
noncomputable def cPop (a : CE) : CE := fun l => bnd (a l) fun x => match x with
 | .ref n => bnd (getL n) fun ds => match ds.getLast? with
  | some d => bnd (putL n ds.dropLast) fun _ => ret d
  | none => bad
 | _ => bad
noncomputable def cReverse (a : CE) : CE := fun l => bnd (a l) fun x => match x with
 | .ref n => bnd (getL n) fun ds => bnd (putL n ds.reverse) fun _ => ret .non
 | _ => bad
noncomputable def aBack (a : CE) : CA := fun l => bnd (a l) fun x => match x with
 | .ref n => getL n |> fun m => bnd m fun ds => ret ds.reverse
 | _ => bad
noncomputable def whileN (t : CT) (b : CS) : Nat → CS
 | 0 => fun _ => bad
 | n + 1 => fun l => bnd (t l) fun c => if c = true then bnd (b l) fun f => match f with
   | .next l2 => whileN t b n l2
   | .cnt l2 => whileN t b n l2
   | .brk l2 => ret (.next l2)
   | .ret d => ret (.ret d) else ret (.next l)
open Classical in
noncomputable def  sWhile (t : CT) (b : CS) : CS := fun l s => if h : ∃ n, (∀ r, whileN t b n l s = r → r ≠ .bad) then whileN t b (choose h) l s else .bad
end MM
namespace MM
open PySem PySem.Spec PyProof.Rows L2
noncomputable abbrev St := L2.St
def FzL (K : PySem.W.Frag) (H : Hp) (a : Addr) (xs : List V) : Prop :=
 (∃ o, H a = some (.frz o (.lst xs))) ∨
  ∃ (o : Obj) (its : Array Value) (n : Nat), K.lookup a = some o ∧ o.cls = .type "list" ∧ o.dict = none ∧ o.data = .seq its n ∧ its.size ≤ sizeLine ∧ Vals xs its.toList
theorem FzL.seq {K : PySem.W.Frag} {H : Hp} {a : Addr} {xs : List V} (h : FzL K H a xs) : SqL K H a xs := by
 rcases h with ⟨o, h⟩ | h
 ·exact .inl (.inr ⟨o, h⟩)
 ·exact .inr h
noncomputable def kO : HO → Nat
 | .lst _ => 0
 | .dK _ => 1
 | .ext _ => 2
 | _ => 3
noncomputable abbrev NK := List (List Int)
noncomputable def nH (k : NK) : Int := reduceHash (Builtin.Tuple.tupleHashOf (k.map fun r => reduceHash (Builtin.Tuple.tupleHashOf (r.map hashInt))))
noncomputable def nEnt (x : NK × Addr × Value) : DictEntry := ⟨nH x.1, .ref x.2.1, x.2.2⟩
def NOk (a : Addr) (es : List (NK × Addr × V)) (h : Heap) : Prop := es.length ≤ sizeLine ∧ (a == sysModules) = false ∧ ∃ xs : List (NK × Addr × Value), Paired (fun (p : NK × Addr × V) (q : NK × Addr × Value) => p.1 = q.1 ∧ p.2.1 = q.2.1 ∧ RelV p.2.2 q.2.2) es xs ∧
 ∃ o es' ep, h.get? a = some o ∧ o.ExactDict ∧ o.data = .dict es' ep ∧ es'.toList = xs.map nEnt ∧ (xs.map (·.1)).Nodup
noncomputable def nstO (a : Addr) (es : List (NK × Addr × V)) : HO := .ext (NOk a es)
noncomputable def rowD (r : List Int) : D := .tup (r.map .int)
noncomputable def stD (k : NK) : D := .tup (k.map rowD)
noncomputable def keyD : Key → D
 | .inl i => .int i
 | .inr x => .str x
mutual
inductive Rep (K : PySem.W.Frag) (ρ : List Addr) (H : Hp) : V → D → Prop
 | non : Rep K ρ H .non .non
 | bl (b : Bool) : Rep K ρ H (.bl b) (.bl b)
 | int (i : Int) : Rep K ρ H (.int i) (.int i)
 | str (x : Str) : Rep K ρ H (.str x) (.str x)
 | tup {a : Addr} {vs : List V} {ds : List D} (h : SqT K H a vs) (r : Reps K ρ H vs ds) : Rep K ρ H (.ref a) (.tup ds)
 | lit {a : Addr} {vs : List V} {ds : List D} (h : FzL K H a vs) (r : Reps K ρ H vs ds) : Rep K ρ H (.ref a) (.lit ds)
 | ref {a : Addr} {n : Nat} (k : ∃ o, H a = some o ∧ kO o = 0) (h : ρ[n]? = some a) : Rep K ρ H (.ref a) (.ref n)
 | dic {a : Addr} {n : Nat} (k : ∃ o, H a = some o ∧ (kO o = 1 ∨ kO o = 2)) (h : ρ[n]? = some a) : Rep K ρ H (.ref a) (.dic n)
inductive Reps (K : PySem.W.Frag) (ρ : List Addr) (H : Hp) : List V → List D → Prop
 | nil : Reps K ρ H [] []
 | cons {v : V} {d : D} {vs : List V} {ds : List D} (r : Rep K ρ H v d) (t : Reps K ρ H vs ds) : Reps K ρ H (v :: vs) (d :: ds)
end
noncomputable def ObR (K : PySem.W.Frag) (ρ : List Addr) (H : Hp) (a : Addr) : MO → Prop
 | .lst ds => ∃ vs, H a = some (.lst vs) ∧ Reps K ρ H vs ds
 | .dct false kvs => ∃ es, H a = some (.dK es) ∧ Paired (fun (p : Key × V) (q : D × D) => keyD p.1 = q.1 ∧ Rep K ρ H p.2 q.2) es kvs
 | .dct true kvs => ∃ es, H a = some (nstO a es) ∧ Paired (fun (p : NK × Addr × V) (q : D × D) => stD p.1 = q.1 ∧ Rep K ρ H (.ref p.2.1) q.1 ∧ Rep K ρ H p.2.2 q.2) es kvs
structure SR (K : PySem.W.Frag) (ρ : List Addr) (H : Hp) (st : Sto) : Prop where
 len : ρ.length = st.length
 nd : ρ.Nodup
 ob : ∀ (n : Nat) (a : Addr) (o : MO), ρ[n]? = some a → st[n]? = some o → ObR K ρ H a o
def LR (K : PySem.W.Frag) (ρ : List Addr) (H : Hp) (σ : St) (l : Loc) : Prop :=
 σ.length = l.length ∧ ∀ (i : Nat) (d : D), l[i]? = some (some d) → ∃ v, σ[i]? = some (some v) ∧ Rep K ρ H v d
structure Ex (ρ : List Addr) (H : Hp) (ρ' : List Addr) (H' : Hp) : Prop where
 pre : ∃ τ, ρ' = ρ ++ τ ∧ ∀ a ∈ τ, H a = none
 fix : ∀ a o, kO o = 3 → H a = some o → H' a = some o
 oth : ∀ a o, a ∉ ρ → H a = some o → H' a = some o
 knd : ∀ a o, H a = some o → ∃ o', H' a = some o' ∧ kO o' = kO o
structure Up (ρ : List Addr) (H : Hp) (ρ' : List Addr) (H' : Hp) : Prop where
 pre : ∃ τ, ρ' = ρ ++ τ
 fix : ∀ a o, kO o = 3 → H a = some o → H' a = some o
 knd : ∀ a o, H a = some o → ∃ o', H' a = some o' ∧ kO o' = kO o
section
variable {K : PySem.W.Frag} {ρ ρ1 ρ2 : List Addr} {H H1 H2 : Hp} {st st1 : Sto} {v : V} {d : D} {vs : List V} {ds : List D} {a : Addr}
theorem Ex.lst (x : Ex ρ H ρ1 H1) (a : Addr) (xs : List V) (na : a ∉ ρ) (h : H a = some (.lst xs)) : H1 a = some (.lst xs) := x.oth a _ na h
theorem Ex.trk (x : Ex ρ H ρ1 H1) (a : Addr) (o : HO) (h : H a = some o) : H1 a ≠ none := by
 obtain ⟨o', e, _⟩ := x.knd a o h
 rw [e]; exact fun z => nomatch z
theorem Ex.up (x : Ex ρ H ρ1 H1) : Up ρ H ρ1 H1 := ⟨let ⟨τ, e, _⟩ := x.pre; ⟨τ, e⟩, x.fix, x.knd⟩
theorem Up.grow {τ : List Addr} : Up ρ H (ρ ++ τ) H := ⟨⟨τ, rfl⟩, fun _ _ _ e => e, fun _ o e => ⟨o, e, rfl⟩⟩
theorem Ex.refl : Ex ρ H ρ H := ⟨⟨[], by simp, by simp⟩, fun _ _ _ e => e, fun _ _ _ e => e, fun _ o e => ⟨o, e, rfl⟩⟩
theorem Ex.trans (x : Ex ρ H ρ1 H1) (y : Ex ρ1 H1 ρ2 H2) : Ex ρ H ρ2 H2 := by
 obtain ⟨τ1, rfl, f1⟩ := x.pre
 obtain ⟨τ2, rfl, f2⟩ := y.pre
 refine ⟨⟨τ1 ++ τ2, by simp, fun a ha => ?_⟩, fun a o no e => y.fix a o no (x.fix a o no e), fun a o na e => ?_, fun a o e => ?_⟩
 ·rcases List.mem_append.mp ha with ha | ha
  ·exact f1 a ha
  ·cases q : H a with
   | none => rfl
   | some o => exact absurd (f2 a ha) (x.trk a o q)
 ·refine y.oth a o (fun z => ?_) (x.oth a o na e)
  rcases List.mem_append.mp z with z | z
  ·exact na z
  ·rw [f1 a z] at e; cases e
 ·obtain ⟨o1, e1, k1⟩ := x.knd a o e
  obtain ⟨o2, e2, k2⟩ := y.knd a o1 e1
  exact ⟨o2, e2, k2.trans k1⟩
theorem Ex.new {o : HO} (h : H a = none) : Ex ρ H ρ (upd H a o) :=
 ⟨⟨[], by simp, by simp⟩, fun b u _ e => by rw [Qaj (Qal e h)]; exact e, fun b u _ e => by rw [Qaj (Qal e h)]; exact e,
  fun b u e => ⟨u, by rw [Qaj (Qal e h)]; exact e, rfl⟩⟩
theorem Ex.newO {o : HO} (h : H a = none) : Ex ρ H (ρ ++ [a]) (upd H a o) :=
 ⟨⟨[a], rfl, fun b hb => by rw [List.mem_singleton] at hb; rw [hb]; exact h⟩, (Ex.new (ρ := ρ) h).fix, (Ex.new (ρ := ρ) h).oth, (Ex.new (ρ := ρ) h).knd⟩
theorem Ex.newL {vs : List V} (h : H a = none) : Ex ρ H (ρ ++ [a]) (upd H a (.lst vs)) := Ex.newO h
theorem SqT.mono (x : Up ρ H ρ1 H1) (h : SqT K H a vs) : SqT K H1 a vs := by
 rcases h with h | h
 ·rcases h with h | ⟨o, h⟩
  ·exact .inl (.inl (x.fix a _ rfl h))
  ·exact .inl (.inr ⟨o, x.fix a _ rfl h⟩)
 ·exact .inr h
theorem FzL.mono (x : Up ρ H ρ1 H1) (h : FzL K H a vs) : FzL K H1 a vs := by
 rcases h with ⟨o, h⟩ | h
 ·exact .inl ⟨o, x.fix a _ rfl h⟩
 ·exact .inr h
theorem Qc0 {α : Type} {l τ : List α} {n : Nat} {a : α} (h : l[n]? = some a) : (l ++ τ)[n]? = some a := by
 rw [List.getElem?_append_left (List.getElem?_eq_some_iff.mp h).1]; exact h
mutual
theorem Rep.up (x : Up ρ H ρ1 H1) : ∀ {v : V} {d : D}, Rep K ρ H v d → Rep K ρ1 H1 v d
 | _, _, .non => .non
 | _, _, .bl b => .bl b
 | _, _, .int i => .int i
 | _, _, .str y => .str y
 | _, _, .tup h r => .tup (SqT.mono x h) (Reps.up x r)
 | _, _, .lit h r => .lit (FzL.mono x h) (Reps.up x r)
 | _, _, .ref ⟨o, ho, hk⟩ h => by
  obtain ⟨τ, e⟩ := x.pre
  obtain ⟨o', ho', hk'⟩ := x.knd _ o ho
  exact .ref ⟨o', ho', hk'.trans hk⟩ (by rw [e]; exact Qc0 h)
 | _, _, .dic ⟨o, ho, hk⟩ h => by
  obtain ⟨τ, e⟩ := x.pre
  obtain ⟨o', ho', hk'⟩ := x.knd _ o ho
  exact .dic ⟨o', ho', by rw [hk']; exact hk⟩ (by rw [e]; exact Qc0 h)
theorem Reps.up (x : Up ρ H ρ1 H1) : ∀ {vs : List V} {ds : List D}, Reps K ρ H vs ds → Reps K ρ1 H1 vs ds
 | _, _, .nil => .nil
 | _, _, .cons r t => .cons (Rep.up x r) (Reps.up x t)
end
theorem Rep.mono (r : Rep K ρ H v d) (x : Ex ρ H ρ1 H1) : Rep K ρ1 H1 v d := r.up x.up
theorem Reps.mono (r : Reps K ρ H vs ds) (x : Ex ρ H ρ1 H1) : Reps K ρ1 H1 vs ds := r.up x.up
theorem Reps.length : ∀ {vs : List V} {ds : List D}, Reps K ρ H vs ds → vs.length = ds.length
 | _, _, .nil => rfl
 | _, _, .cons _ t => by simp [Reps.length t]
theorem Reps.get : ∀ {vs : List V} {ds : List D} {i : Nat} {d : D}, Reps K ρ H vs ds → ds[i]? = some d → ∃ v, vs[i]? = some v ∧ Rep K ρ H v d
 | _, _, _, _, .nil, e => by simp at e
 | _, _, 0, _, .cons r _, e => by simp at e; subst e; exact ⟨_, rfl, r⟩
 | _, _, i + 1, _, .cons _ t, e => by
  obtain ⟨v, h1, h2⟩ := Reps.get (i := i) t (by simpa using e)
  exact ⟨v, by simpa using h1, h2⟩
theorem Reps.app : ∀ {vs ws : List V} {ds es : List D}, Reps K ρ H vs ds → Reps K ρ H ws es → Reps K ρ H (vs ++ ws) (ds ++ es)
 | _, _, _, _, .nil, s => s
 | _, _, _, _, .cons r t, s => .cons r (Reps.app t s)
theorem Reps.set : ∀ {vs : List V} {ds : List D} {v : V} {d : D} (i : Nat), Reps K ρ H vs ds → Rep K ρ H v d → Reps K ρ H (vs.set i v) (ds.set i d)
 | _, _, _, _, _, .nil, _ => .nil
 | _, _, _, _, 0, .cons _ t, r => .cons r t
 | _, _, _, _, i + 1, .cons q t, r => .cons q (Reps.set i t r)
theorem Reps.take : ∀ {vs : List V} {ds : List D} (n : Nat), Reps K ρ H vs ds → Reps K ρ H (vs.take n) (ds.take n)
 | _, _, 0, _ => .nil
 | _, _, _ + 1, .nil => .nil
 | _, _, n + 1, .cons r t => .cons r (Reps.take n t)
theorem Reps.drop : ∀ {vs : List V} {ds : List D} (n : Nat), Reps K ρ H vs ds → Reps K ρ H (vs.drop n) (ds.drop n)
 | _, _, 0, r => r
 | _, _, _ + 1, .nil => .nil
 | _, _, n + 1, .cons _ t => Reps.drop n t
theorem LR.mono {σ : St} {l : Loc} (x : Ex ρ H ρ1 H1) (h : LR K ρ H σ l) : LR K ρ1 H1 σ l :=
 ⟨h.1, fun i d e => let ⟨v, e1, r⟩ := h.2 i d e; ⟨v, e1, r.mono x⟩⟩
theorem SR.at (s : SR K ρ H st) {n : Nat} {o : MO} (e : st[n]? = some o) : ∃ a, ρ[n]? = some a ∧ ObR K ρ H a o := by
 have hl : n < ρ.length := by rw [s.len]; exact (List.getElem?_eq_some_iff.mp e).1
 have q : ρ[n]? = some ρ[n] := List.getElem?_eq_getElem hl
 exact ⟨_, q, s.ob n _ o q e⟩
theorem SR.seq (s : SR K ρ H st) {n : Nat} (e : st[n]? = some (.lst ds)) : ∃ a vs, ρ[n]? = some a ∧ H a = some (.lst vs) ∧ Reps K ρ H vs ds := by
 obtain ⟨a, h, vs, q, r⟩ := s.at e
 exact ⟨a, vs, h, q, r⟩
theorem ObR.ex {o : MO} (h : ObR K ρ H a o) : ∃ u, H a = some u := by
 cases o with
 | lst ds => obtain ⟨vs, q, _⟩ := h; exact ⟨_, q⟩
 | dct b kvs => cases b <;> (obtain ⟨vs, q, _⟩ := h; exact ⟨_, q⟩)
theorem SR.fresh (s : SR K ρ H st) (h : H a = none) : a ∉ ρ := fun z => by
 obtain ⟨n, hn⟩ := List.getElem?_of_mem z
 have hl : n < st.length := by rw [← s.len]; exact (List.getElem?_eq_some_iff.mp hn).1
 obtain ⟨u, q⟩ := ObR.ex (s.ob n a _ hn (List.getElem?_eq_getElem hl))
 rw [h] at q; cases q
theorem Qc1 {n : Nat} {xs : List D} {s' : Sto} (h : getL n st = .ok xs s') : s' = st ∧ st[n]? = some (.lst xs) := by
 unfold getL at h
 cases e : st[n]? with
 | none => rw [e] at h; cases h
 | some o =>
  rw [e] at h
  cases o with
  | lst ds => cases h; exact ⟨rfl, rfl⟩
  | dct _ _ => cases h
theorem Paired.mapS {α β : Type} {F G : α → β → Prop} : ∀ {l₁ : List α} {l₂ : List β}, Paired F l₁ l₂ → (∀ a b, F a b → G a b) → Paired G l₁ l₂
 | _, _, .nil, _ => .nil
 | _, _, .cons r t, f => .cons (f _ _ r) (Paired.mapS t f)
theorem ObR.mono {o : MO} (x : Up ρ H ρ1 H1) (h : ObR K ρ H a o) (hk : ∀ u, H a = some u → H1 a = some u) : ObR K ρ1 H1 a o := by
 cases o with
 | lst ds =>
  obtain ⟨vs, q, r⟩ := h
  exact ⟨vs, hk _ q, r.up x⟩
 | dct b kvs =>
  cases b with
  | false =>
   obtain ⟨es, q, r⟩ := h
   exact ⟨es, hk _ q, Paired.mapS r fun p q z => ⟨z.1, z.2.up x⟩⟩
  | true =>
   obtain ⟨es, q, r⟩ := h
   exact ⟨es, hk _ q, Paired.mapS r fun p q z => ⟨z.1, z.2.1.up x, z.2.2.up x⟩⟩
theorem SR.new {o : HO} (s : SR K ρ H st) (h : H a = none) : SR K ρ (upd H a o) st :=
 ⟨s.len, s.nd, fun n b ob e1 e2 => ObR.mono (o := ob) (Ex.new (ρ := ρ) h).up (s.ob n b ob e1 e2) fun vs q => by rw [Qaj (Qal q h)]; exact q⟩
theorem SR.keepO {o' : MO} (s : SR K ρ H st) (na : a ∉ ρ) (r : ObR K ρ H a o') : SR K (ρ ++ [a]) H (st ++ [o']) := by
 have hl := s.len
 have old : ∀ (n : Nat) (b : Addr), (ρ ++ [a])[n]? = some b → (n < ρ.length ∧ ρ[n]? = some b) ∨ (n = ρ.length ∧ b = a) := fun n b e => by
  by_cases hn : n < ρ.length
  ·rw [List.getElem?_append_left hn] at e; exact .inl ⟨hn, e⟩
  ·rw [List.getElem?_append_right (by ac_nf)] at e
   have hz : n - ρ.length = 0 := by
    cases q : n - ρ.length with
    | zero => rfl
    | succ k => rw [q] at e; simp at e
   rw [hz] at e
   simp at e
   exact .inr ⟨by ac_nf, e.symm⟩
 refine ⟨by simp [hl], List.nodup_append.mpr ⟨s.nd, by simp, fun x hx y hy => ?_⟩, fun n b o e1 e2 => ?_⟩
 ·rw [List.mem_singleton] at hy
  subst hy
  exact fun z => na (z ▸ hx)
 ·rcases old n b e1 with ⟨hn, f1⟩ | ⟨hn, f1⟩
  ·rw [List.getElem?_append_left (by ac_nf)] at e2
   exact ObR.mono (o := o) Up.grow (s.ob n b o f1 e2) fun _ q => q
  ·subst f1
   have : o = o' := by
    rw [hn, hl, List.getElem?_append_right (Nat.le_refl _)] at e2
    simp at e2; exact e2.symm
   subst this
   exact ObR.mono (o := o) Up.grow r fun _ q => q
theorem SR.keep (s : SR K ρ H st) (h : H a = some (.lst vs)) (na : a ∉ ρ) (r : Reps K ρ H vs ds) : SR K (ρ ++ [a]) H (st ++ [.lst ds]) := s.keepO na ⟨vs, h, r⟩
theorem SR.putO (s : SR K ρ H st) {n : Nat} {o' : MO} {u u' : HO} (hl : n < st.length) (ha : ρ[n]? = some a) (hu : H a = some u) (k3 : kO u ≠ 3) (hk : kO u' = kO u) (r : ObR K ρ (upd H a u') a o') :
  SR K ρ (upd H a u') (st.set n o') ∧ Ex ρ H ρ (upd H a u') := by
 have x : Ex ρ H ρ (upd H a u') := by
  refine ⟨⟨[], by simp, by simp⟩, fun b o no q => ?_, fun b xs nb q => ?_, fun b o q => ?_⟩
  ·have : b ≠ a := fun z => by subst z; rw [hu] at q; cases q; exact k3 no
   rw [Qaj this]; exact q
  ·have : b ≠ a := fun z => by subst z; exact nb (List.mem_of_getElem? ha)
   rw [Qaj this]; exact q
  ·by_cases z : b = a
   ·subst z; rw [hu] at q; cases q; exact ⟨u', Qai, hk⟩
   ·exact ⟨o, by rw [Qaj z]; exact q, rfl⟩
 refine ⟨⟨by simp [s.len], s.nd, fun m b o e1 e2 => ?_⟩, x⟩
 by_cases z : m = n
 ·subst z
  rw [ha] at e1; cases e1
  rw [List.getElem?_set_self hl] at e2; cases e2
  exact r
 ·rw [List.getElem?_set_ne (Ne.symm z)] at e2
  refine ObR.mono (o := o) x.up (s.ob m b o e1 e2) fun us q => ?_
  have : b ≠ a := fun w => by
   subst w
   exact z ((List.getElem?_inj (List.getElem?_eq_some_iff.mp e1).1 s.nd).mp (e1.trans ha.symm))
  rw [Qaj this]; exact q
theorem SR.put (s : SR K ρ H st) {n : Nat} {ws : List V} (hl : n < st.length) (ha : ρ[n]? = some a) (hw : H a = some (.lst ws)) (r : Reps K ρ H vs ds) :
  SR K ρ (upd H a (.lst vs)) (st.set n (.lst ds)) ∧ Ex ρ H ρ (upd H a (.lst vs)) := by
 have u : Up ρ H ρ (upd H a (.lst vs)) := by
  refine ⟨⟨[], by simp⟩, fun b o no q => ?_, fun b o q => ?_⟩
  ·have : b ≠ a := fun z => by subst z; rw [hw] at q; cases q; exact nomatch no
   rw [Qaj this]; exact q
  ·by_cases z : b = a
   ·subst z; rw [hw] at q; cases q; exact ⟨_, Qai, rfl⟩
   ·exact ⟨o, by rw [Qaj z]; exact q, rfl⟩
 exact s.putO hl ha hw (by show (0 : Nat) ≠ 3; decide) rfl ⟨vs, Qai, r.up u⟩
def Post {α : Type} (K : PySem.W.Frag) (ρ : List Addr) (H : Hp) (r : Rs α) (R : α → Sto → List Addr → Hp → Prop) : Prop := match r with
 | .ok a st => ∀ ρ' H', Ex ρ H ρ' H' → SR K ρ' H' st → R a st ρ' H'
 | _ => False
theorem Post.left {α : Type} {r : Rs α} {R : α → Sto → List Addr → Hp → Prop} (x : Ex ρ H ρ1 H1) (h : Post K ρ H r R) : Post K ρ1 H1 r R := by
 cases r with
 | ok a st => exact fun ρ' H' y s => h ρ' H' (x.trans y) s
 | exc _ _ => exact h
 | bad => exact h
theorem Post.imp {α : Type} {r : Rs α} {R R' : α → Sto → List Addr → Hp → Prop} (h : Post K ρ H r R) (f : ∀ a st ρ' H', Ex ρ H ρ' H' → SR K ρ' H' st → R a st ρ' H' → R' a st ρ' H') : Post K ρ H r R' := by
 cases r with
 | ok a st => exact fun ρ' H' y s => f a st ρ' H' y s (h ρ' H' y s)
 | exc _ _ => exact h
 | bad => exact h
theorem Post.bnd {α β : Type} {m : M α} {f : α → M β} {R : β → Sto → List Addr → Hp → Prop} (h : Post K ρ H (bnd m f st) R) : Post K ρ H (m st) fun a st' ρ' H' => Post K ρ' H' (f a st') R := by
 unfold MM.bnd at h
 cases e : m st with
 | ok a s' =>
  rw [e] at h
  exact fun ρ' H' y s => h.left y
 | exc _ _ => rw [e] at h; exact h
 | bad => rw [e] at h; exact h
theorem Post.ret {α : Type} {a : α} {R : α → Sto → List Addr → Hp → Prop} (h : Post K ρ H (MM.ret a st) R) (s : SR K ρ H st) : R a st ρ H := h ρ H Ex.refl s
theorem Post.chk {α : Type} {c : Prop} [Decidable c] {m : M α} {R : α → Sto → List Addr → Hp → Prop} (h : Post K ρ H (MM.chk c m st) R) : c ∧ Post K ρ H (m st) R := by
 unfold MM.chk at h
 by_cases hc : c
 ·rw [if_pos hc] at h; exact ⟨hc, h⟩
 ·rw [if_neg hc] at h; exact h.elim
theorem Post.getL {n : Nat} {R : List D → Sto → List Addr → Hp → Prop} (h : Post K ρ H (MM.getL n st) R) (s : SR K ρ H st) : ∃ xs, st[n]? = some (.lst xs) ∧ R xs st ρ H := by
 cases e : MM.getL n st with
 | ok xs s' =>
  obtain ⟨rfl, q⟩ := Qc1 e
  rw [e] at h
  exact ⟨xs, q, h ρ H Ex.refl s⟩
 | exc _ _ => rw [e] at h; exact h.elim
 | bad => rw [e] at h; exact h.elim
noncomputable def tOf (K : PySem.W.Frag) (f : CE) : TE := fun σ H Q => ∃ ρ l st, LR K ρ H σ l ∧ SR K ρ H st ∧ Post K ρ H (f l st) fun d _ ρ' H' => ∀ v, Rep K ρ' H' v d → Q v H'
noncomputable def ttOf (K : PySem.W.Frag) (f : CT) : TT := fun σ H Q => ∃ ρ l st, LR K ρ H σ l ∧ SR K ρ H st ∧ Post K ρ H (f l st) fun b _ _ H' => Q b H'
noncomputable def taOf (K : PySem.W.Frag) (f : CA) : TA := fun σ H Q => ∃ ρ l st, LR K ρ H σ l ∧ SR K ρ H st ∧ Post K ρ H (f l st) fun ds _ ρ' H' => ∀ vs, Reps K ρ' H' vs ds → Q vs H'
noncomputable def tlOf (K : PySem.W.Frag) (f : CA) : TE := fun σ H Q => ∃ ρ l st, LR K ρ H σ l ∧ SR K ρ H st ∧ Post K ρ H (f l st) fun ds _ ρ' H' => ∀ a vs, H a = none → a ∉ ρ' → H' a = some (.lst vs) → Reps K ρ' H' vs ds → Q (.ref a) H'
noncomputable def tsOf (K : PySem.W.Frag) (c : CS) : TS := fun G σ H => ∃ ρ l st, LR K ρ H σ l ∧ SR K ρ H st ∧ Post K ρ H (c l st) fun f _ ρ' H' => match f with
 | .next l' => ∀ σ', LR K ρ' H' σ' l' → G.nx σ' H'
 | .ret d => ∀ v, Rep K ρ' H' v d → G.rt v H'
 | .brk l' => ∀ σ', LR K ρ' H' σ' l' → G.bk σ' H'
 | .cnt l' => ∀ σ', LR K ρ' H' σ' l' → G.ct σ' H'
noncomputable def tgOf (K : PySem.W.Frag) (g : CG) : TG := fun v σ H Q => ∃ ρ l st d, LR K ρ H σ l ∧ SR K ρ H st ∧ Rep K ρ H v d ∧ Post K ρ H (g d l st) fun l' _ ρ' H' => ∀ σ', LR K ρ' H' σ' l' → Q σ' H'
noncomputable def tgsOf (K : PySem.W.Frag) (g : List D → Loc → M Loc) : TGs := fun vs σ H Q => ∃ ρ l st ds, LR K ρ H σ l ∧ SR K ρ H st ∧ Reps K ρ H vs ds ∧ Post K ρ H (g ds l st) fun l' _ ρ' H' => ∀ σ', LR K ρ' H' σ' l' → Q σ' H'
noncomputable def rOf (K : PySem.W.Frag) (g : D → D → M D) : R2 := fun x y H Q => ∃ ρ st d e, SR K ρ H st ∧ Rep K ρ H x d ∧ Rep K ρ H y e ∧ Post K ρ H (g d e st) fun r _ ρ' H' => ∀ v, Rep K ρ' H' v r → Q v H'
noncomputable def uOf (K : PySem.W.Frag) (g : D → M D) : V → Hp → VK → Prop := fun x H Q => ∃ ρ st d, SR K ρ H st ∧ Rep K ρ H x d ∧ Post K ρ H (g d st) fun r _ ρ' H' => ∀ v, Rep K ρ' H' v r → Q v H'
noncomputable def kOf (K : PySem.W.Frag) (g : List D → M D) : List V → Hp → VK → Prop := fun xs H Q => ∃ ρ st ds, SR K ρ H st ∧ Reps K ρ H xs ds ∧ Post K ρ H (g ds st) fun r _ ρ' H' => ∀ v, Rep K ρ' H' v r → Q v H'
noncomputable def spOf (K : PySem.W.Frag) (n : Nat) (g : List D → M D) : Sp := fun vs H Q _ => vs.length = n ∧ kOf K g vs H Q
end
section
variable {X : Cx} {a b c : Expr} {pos : Pos}
abbrev SE (X : Cx) (e : Expr) (f : CE) : Prop := PE X e (tOf X.K f)
abbrev SL (X : Cx) (e : Expr) (f : CA) : Prop := PE X e (tlOf X.K f)
abbrev ST (X : Cx) (e : Expr) (f : CT) : Prop := PT X e (ttOf X.K f)
abbrev SA (X : Cx) (es : List Expr) (f : CA) : Prop := PA X es (taOf X.K f)
abbrev SS (X : Cx) (s : Stmt) (f : CS) : Prop := PS X s (tsOf X.K f)
abbrev SSs (X : Cx) (s : List Stmt) (f : CS) : Prop := PSs X s (tsOf X.K f)
theorem _root_.L2.PE.of {e : Expr} {t t' : TE} (h : PE X e t) (f : ∀ σ H Q, t' σ H Q → t σ H Q) : PE X e t' := fun pins s σ H Q I q => h pins s σ H Q I (f σ H Q q)
theorem _root_.L2.PT.of {e : Expr} {t t' : TT} (h : PT X e t) (f : ∀ σ H Q, t' σ H Q → t σ H Q) : PT X e t' := fun pins s σ H Q I q => h pins s σ H Q I (f σ H Q q)
theorem _root_.L2.PA.of {e : List Expr} {t t' : TA} (h : PA X e t) (f : ∀ σ H Q, t' σ H Q → t σ H Q) : PA X e t' := fun pos pins s σ H Q I q => h pos pins s σ H Q I (f σ H Q q)
theorem _root_.L2.PS.of {e : Stmt} {t t' : TS} (h : PS X e t) (f : ∀ D σ H, t' D σ H → t D σ H) : PS X e t' := fun pins s σ H D I q => h pins s σ H D I (f D σ H q)
theorem _root_.L2.PSs.of {e : List Stmt} {t t' : TS} (h : PSs X e t) (f : ∀ D σ H, t' D σ H → t D σ H) : PSs X e t' := fun pins s σ H D I q => h pins s σ H D I (f D σ H q)
theorem _root_.L2.PG.of {e : Expr} {t t' : TG} (h : PG X e t) (f : ∀ v σ H Q, t' v σ H Q → t v σ H Q) : PG X e t' := fun pins s σ H v u Q I r q => h pins s σ H v u Q I r (f v σ H Q q)
theorem _root_.L2.PGs.of {e : List Expr} {t t' : TGs} (h : PGs X e t) (f : ∀ v σ H Q, t' v σ H Q → t v σ H Q) : PGs X e t' := fun pins s σ H v u Q I r q => h pins s σ H v u Q I r (f v σ H Q q)
theorem _root_.L2.OpR.of {f : Value → Value → Sem Value} {r r' : R2} (h : OpR X f r) (g : ∀ x y H Q, r' x y H Q → r x y H Q) : OpR X f r' := fun pins s σ H x y v u Q I rx ry q => h pins s σ H x y v u Q I rx ry (g x y H Q q)
theorem _root_.L2.CallR.of {f : Value} {r r' : List V → Hp → VK → Prop} (h : CallR X f r) (g : ∀ x H Q, r' x H Q → r x H Q) : CallR X f r' := fun pins s σ H x u Q I rx q => h pins s σ H x u Q I rx (g x H Q q)
variable {fa fb fc : CE}
theorem Qc2 (i : Nat) {x : Str} (h : PE X (.Name x pos) (tVar i)) : SE X (.Name x pos) (cVar i) := h.of fun σ H Q pq44 => by
 obtain ⟨ρ, l, st, lr, sr, p⟩ := pq44
 unfold cVar at p
 cases e : l[i]? with
 | none => rw [e] at p; exact p.elim
 | some o =>
  rw [e] at p
  cases o with
  | none => exact p.elim
  | some d =>
   obtain ⟨v, e1, r⟩ := lr.2 i d e
   exact ⟨v, e1, p.ret sr v r⟩
theorem Qc3 {i : Int} {j : Nat} : SE X (.Constant (.int i) j pos) (cCon (.int i)) := (Qat (i := i) (j := j) (pos := pos)).of fun σ H Q pq45 => by obtain ⟨ρ, l, st, lr, sr, p⟩ := pq45; exact p.ret sr _ (.int i)
theorem Qc4 {i : Bool} {j : Nat} : SE X (.Constant (.bool i) j pos) (cCon (.bl i)) := (Qau (b := i) (j := j) (pos := pos)).of fun σ H Q pq46 => by obtain ⟨ρ, l, st, lr, sr, p⟩ := pq46; exact p.ret sr _ (.bl i)
theorem Qc5 {j : Nat} : SE X (.Constant .none j pos) (cCon .non) := (Qav (j := j) (pos := pos)).of fun σ H Q pq47 => by obtain ⟨ρ, l, st, lr, sr, p⟩ := pq47; exact p.ret sr _ .non
theorem Qc6 {i : Str} {j : Nat} : SE X (.Constant (.str i) j pos) (cCon (.str i)) := (Qaw (x := i) (j := j) (pos := pos)).of fun σ H Q pq48 => by obtain ⟨ρ, l, st, lr, sr, p⟩ := pq48; exact p.ret sr _ (.str i)
theorem Qc7 {g : D → D → M D} {r : R2} (hr : ∀ x y H Q, rOf X.K g x y H Q → r x y H Q) : ∀ σ H Q, tOf X.K (c2 g fa fb) σ H Q → tOp r (tOf X.K fa) (tOf X.K fb) σ H Q := fun σ H Q pq49 =>
 by obtain ⟨ρ, l, st, lr, sr, p⟩ := pq49; exact ⟨ρ, l, st, lr, sr, p.bnd.imp fun d st1 ρ1 H1 x1 s1 p1 v rv => ⟨ρ1, l, st1, lr.mono x1, s1, p1.bnd.imp fun e st2 ρ2 H2 x2 s2 p2 u ru => hr _ _ _ _ ⟨ρ2, st2, d, e, s2, rv.mono x2, ru, p2⟩⟩⟩
theorem Qc8 {op : Operator} {g : D → D → M D} (ho : OpR X (binaryOp op) (rOf X.K g)) (ha : SE X a fa) (hb : SE X b fb) : SE X (.BinOp a op b pos) (c2 g fa fb) :=
 (Qa6 ho ha hb).of (Qc7 fun _ _ _ _ h => h)
theorem Qc9 {op : CmpOp} {g : D → D → M D} (ho : OpR X (compareOp op) (rOf X.K g)) (ha : SE X a fa) (hb : SE X b fb) (hm : behindInMarks op b = false) : SE X (.Compare a [op] [b] pos) (c2 g fa fb) :=
 (Qbl ho ha hb hm).of (Qc7 fun _ _ _ _ h => h)
end
theorem _root_.Exists.el {α β γ : Type} {A B C : α → β → γ → Prop} {G : Prop} (h : ∃ a b c, A a b c ∧ B a b c ∧ C a b c) (k : ∀ a b c, A a b c → B a b c → C a b c → G) : G := by
 obtain ⟨ρ, l, st, a, b, c⟩ := h; exact k ρ l st a b c
theorem tOf.el {K : PySem.W.Frag} {f : CE} {σ : St} {H : Hp} {Q : VK} {C : Prop} (h : tOf K f σ H Q) (k : ∀ ρ l st, LR K ρ H σ l → SR K ρ H st → Post K ρ H (f l st) (fun d _ ρ' H' => ∀ v, Rep K ρ' H' v d → Q v H') → C) : C := by
 obtain ⟨ρ, l, st, a, b, c⟩ := h; exact k ρ l st a b c
theorem ttOf.el {K : PySem.W.Frag} {f : CT} {σ : St} {H : Hp} {Q : Bool → Hp → Prop} {C : Prop} (h : ttOf K f σ H Q) (k : ∀ ρ l st, LR K ρ H σ l → SR K ρ H st → Post K ρ H (f l st) (fun b _ _ H' => Q b H') → C) : C := by
 obtain ⟨ρ, l, st, a, b, c⟩ := h; exact k ρ l st a b c
theorem tsOf.el {K : PySem.W.Frag} {c : CS} {σ : St} {H : Hp} {G : Ends} {C : Prop} (h : tsOf K c G σ H) (k : ∀ ρ l st, LR K ρ H σ l → SR K ρ H st → Post K ρ H (c l st) (fun f _ ρ' H' => match f with
 | .next l' => ∀ σ', LR K ρ' H' σ' l' → G.nx σ' H'
 | .ret d => ∀ v, Rep K ρ' H' v d → G.rt v H'
 | .brk l' => ∀ σ', LR K ρ' H' σ' l' → G.bk σ' H'
 | .cnt l' => ∀ σ', LR K ρ' H' σ' l' → G.ct σ' H') → C) : C := by
 obtain ⟨ρ, l, st, a, b, c⟩ := h; exact k ρ l st a b c
end MM
namespace MM
open PySem PySem.Spec PyProof.Rows L2
theorem Qda : ∀ (a b : List Int), eqKs (a.map .int) (b.map .int) = decide (a = b)
 | [], [] => by simp [eqKs]
 | [], _ :: _ => by simp [eqKs]
 | _ :: _, [] => by simp [eqKs]
 | x :: xs, y :: ys => by
  rw [List.map_cons, List.map_cons]
  show (eqK (.int x) (.int y) && eqKs _ _) = _
  rw [Qda xs ys]
  show (decide (x = y) && _) = _
  simp [Bool.decide_and]
theorem Qdb : ∀ (a b : List (List Int)), eqKs (a.map rowD) (b.map rowD) = decide (a = b)
 | [], [] => by simp [eqKs]
 | [], _ :: _ => by simp [eqKs]
 | _ :: _, [] => by simp [eqKs]
 | x :: xs, y :: ys => by
  rw [List.map_cons, List.map_cons]
  show (eqK (rowD x) (rowD y) && eqKs _ _) = _
  rw [Qdb xs ys]
  show (eqKs (x.map .int) (y.map .int) && _) = _
  rw [Qda]
  simp [Bool.decide_and]
theorem Qdc (a b : NK) : eqK (stD a) (stD b) = decide (a = b) := Qdb a b
theorem Qdd (a b : Key) : eqK (keyD a) (keyD b) = decide (a = b) := by
 cases a <;> cases b <;> simp [keyD, eqK]
theorem Qde : ∀ {ds : List D} {r : List Int}, intsK ds = some r → ds = r.map .int
 | [], r, h => by simp [intsK] at h; subst h; rfl
 | d :: ds, r, h => by
  cases d with
  | int i =>
   unfold intsK at h
   cases e : intsK ds with
   | none => rw [e] at h; cases h
   | some q =>
    rw [e] at h
    cases h
    rw [List.map_cons, Qde e]
  | _ => cases h
theorem Qdf : ∀ {ds : List D} {r : NK}, rowsK ds = some r → ds = r.map rowD
 | [], r, h => by simp [rowsK] at h; subst h; rfl
 | d :: ds, r, h => by
  cases d with
  | tup xs =>
   unfold rowsK at h
   cases e : intsK xs with
   | none => rw [e] at h; cases h
   | some q =>
    cases e2 : rowsK ds with
    | none => rw [e, e2] at h; cases h
    | some q2 =>
     rw [e, e2] at h
     cases h
     rw [List.map_cons, ← Qdf e2]
     show _ = D.tup (q.map .int) :: ds
     rw [← Qde e]
  | _ => cases h
theorem Qdg {d : D} {r : NK} (h : stK d = some r) : d = stD r := by
 cases d with
 | tup ds => show D.tup ds = D.tup _; rw [Qdf h]
 | _ => cases h
theorem Qdh {d : D} (h : kOk true d = true) : ∃ k, d = stD k := by
 cases e : stK d with
 | none =>
  have : kOk true d = (stK d).isSome := by cases d <;> rfl
  rw [this, e] at h; cases h
 | some k => exact ⟨k, Qdg e⟩
theorem Qdi {d : D} (h : kOk false d = true) : ∃ k, d = keyD k := by
 cases d with
 | int i => exact ⟨.inl i, rfl⟩
 | str x => exact ⟨.inr x, rfl⟩
 | _ => cases h
section
variable {X : Cx} {K : PySem.W.Frag} {ρ : List Addr} {H : Hp} {st : Sto} {pins : List (Addr × Obj)} {σ : St} {s : Shared} {a b : Addr}
theorem Qdj {k : Key} {v : V} (r : Rep K ρ H v (keyD k)) : v = kV k := by
 cases k with
 | inl i => cases r; rfl
 | inr x => cases r; rfl
noncomputable abbrev KR (K : PySem.W.Frag) (ρ : List Addr) (H : Hp) : List (Key × V) → List (D × D) → Prop := Paired fun (p : Key × V) (q : D × D) => keyD p.1 = q.1 ∧ Rep K ρ H p.2 q.2
noncomputable def RO (K : PySem.W.Frag) (ρ : List Addr) (H : Hp) : Option V → Option D → Prop
 | some v, some d => Rep K ρ H v d
 | none, none => True
 | _, _ => False
theorem RO.some_of {o : Option V} {d : D} (h : RO K ρ H o (some d)) : ∃ v, o = some v ∧ Rep K ρ H v d := by
 cases o with
 | none => exact h.elim
 | some v => exact ⟨v, rfl, h⟩
theorem RO.isSome_eq {o : Option V} {d : Option D} (h : RO K ρ H o d) : o.isSome = d.isSome := by
 cases o <;> cases d <;> first | rfl | exact h.elim
theorem KR.val {es : List (Key × V)} {kvs : List (D × D)} (r : KR K ρ H es kvs) (k : Key) : RO K ρ H (valV es k) (lkK kvs (keyD k)) := by
 induction r with
 | nil => exact True.intro
 | @cons p q ps qs h t ih =>
  obtain ⟨h1, h2⟩ := h
  unfold lkK
  rw [List.find?_cons, ← h1, Qdd]
  by_cases e : p.1 = k
  ·rw [Qcx e, decide_eq_true e]; exact h2
  ·rw [Qcy e, decide_eq_false e]; exact ih
theorem KR.any {es : List (Key × V)} {kvs : List (D × D)} (r : KR K ρ H es kvs) (k : Key) : (es.any fun kv => decide (kv.1 = k)) = kvs.any fun p => eqK p.1 (keyD k) := by
 induction r with
 | nil => rfl
 | @cons p q ps qs h t ih => rw [List.any_cons, List.any_cons, ih, ← h.1, Qdd]
theorem KR.put {es : List (Key × V)} {kvs : List (D × D)} (r : KR K ρ H es kvs) (k : Key) {v : V} {d : D} (rv : Rep K ρ H v d) : KR K ρ H (L2.putK es k v) (ptK kvs (keyD k) d) := by
 unfold L2.putK ptK
 rw [r.any k]
 by_cases e : (kvs.any fun p => eqK p.1 (keyD k)) = true
 ·rw [if_pos e, if_pos e]
  clear e
  induction r with
  | nil => exact .nil
  | @cons p q ps qs h t ih =>
   rw [List.map_cons, List.map_cons]
   refine .cons ?_ ih
   rw [← h.1, Qdd]
   by_cases e : p.1 = k
   ·rw [if_pos e, if_pos (decide_eq_true e)]; exact ⟨rfl, rv⟩
   ·rw [if_neg e, if_neg (by rw [decide_eq_false e]; exact Bool.false_ne_true)]; exact h
 ·rw [if_neg e, if_neg e]
  exact Paired.snoc r ⟨rfl, rv⟩
theorem KR.up {ρ1 : List Addr} {H1 : Hp} (x : Up ρ H ρ1 H1) {es : List (Key × V)} {kvs : List (D × D)} (r : KR K ρ H es kvs) : KR K ρ1 H1 es kvs := Paired.mapS r fun _ _ z => ⟨z.1, z.2.up x⟩
theorem KR.length {es : List (Key × V)} {kvs : List (D × D)} (r : KR K ρ H es kvs) : es.length = kvs.length := Paired.length r
noncomputable abbrev NR (K : PySem.W.Frag) (ρ : List Addr) (H : Hp) : List (NK × Addr × V) → List (D × D) → Prop := Paired fun (p : NK × Addr × V) (q : D × D) => stD p.1 = q.1 ∧ Rep K ρ H (.ref p.2.1) q.1 ∧ Rep K ρ H p.2.2 q.2
noncomputable abbrev NX : List (NK × Addr × V) → List (NK × Addr × Value) → Prop := Paired fun (p : NK × Addr × V) (q : NK × Addr × Value) => p.1 = q.1 ∧ p.2.1 = q.2.1 ∧ RelV p.2.2 q.2.2
noncomputable abbrev nkd (X : Cx) : HeapKind X.prog X.w NK := nestKind (intKind X.prog X.w)
theorem Qdk {P : Program} {w : World} : ∀ {r : List Int} {vs : List V} {us : List Value}, Reps K ρ H vs (r.map .int) → Vals vs us → ItemsAre (intKind P w) r us
 | [], _, _, h, g => by cases h; cases g; exact .nil
 | i :: r, _, _, h, g => by
  cases h with
  | cons h1 ht =>
   cases h1
   cases g with
   | cons g1 gt =>
    obtain ⟨t, e⟩ := g1
    subst e
    exact .cons (by show Value.isInt i (Value.int i t) = true; simp [Value.isInt]) (Qdk ht gt)
theorem Qdl {r : List Int} {v : V} {u : Value} (I : Inv X pins σ H s) (h : Rep X.K ρ H v (rowD r)) (g : RelV v u) : ∃ b, u = .ref b ∧ IsTupleKey (intKind X.prog X.w) s.heap r b := by
 cases h with
 | @tup b vs ds h q =>
  have e : u = Value.ref b := g
  subst e
  obtain ⟨its, rv, ⟨o, h1, h2, n, h3⟩, _⟩ := I.tuple h
  exact ⟨b, rfl, o, its.toArray, n, h1, h2, h3, by simpa using Qdk q rv⟩
theorem Qdm (I : Inv X pins σ H s) : ∀ {k : NK} {vs : List V} {us : List Value}, Reps X.K ρ H vs (k.map rowD) → Vals vs us → TIts (intKind X.prog X.w) s.heap k us
 | [], _, _, h, g => by cases h; cases g; exact .nil
 | r :: k, _, _, h, g => by
  cases h with
  | cons h1 ht =>
   cases g with
   | cons g1 gt =>
    obtain ⟨b, e, hb⟩ := Qdl I h1 g1
    subst e
    exact .cons hb (Qdm I ht gt)
theorem Qdn {k : NK} {v : V} {u : Value} (I : Inv X pins σ H s) (h : Rep X.K ρ H v (stD k)) (g : RelV v u) : ∃ b, v = .ref b ∧ u = .ref b ∧ (nkd X).is s.heap k b := by
 cases h with
 | @tup b vs ds h q =>
  have e : u = Value.ref b := g
  subst e
  obtain ⟨its, rv, ⟨o, h1, h2, n, h3⟩, _⟩ := I.tuple h
  exact ⟨b, rfl, rfl, o, its.toArray, n, h1, h2, h3, by simpa using Qdm I q rv⟩
theorem Qdo {es : List (NK × Addr × V)} {kvs : List (D × D)} (I : Inv X pins σ H s) (e : H a = some (nstO a es)) (r : NR X.K ρ H es kvs) :
  es.length ≤ sizeLine ∧ (a == sysModules) = false ∧ ∃ xs, NX es xs ∧ s.heap.DictOfH (nkd X) a xs := by
 obtain ⟨⟨z, y, xs, rx, o, es', ep, h1, h2, h3, h4, h5⟩, w1, w2⟩ := (show ObjOk X.prog X.w H s.heap a (nstO a es) from I.hok a _ e)
 refine ⟨z, y, xs, rx, o, es', ep, h1, h2, h3, h4, ?_, h5⟩
 clear h1 h2 h3 h4 h5 e z y w1 w2
 induction rx generalizing kvs with
 | nil => intro x hx; exact nomatch hx
 | @cons p q ps qs h t ih =>
  cases r with
  | cons g gt =>
   intro x hx
   rcases List.mem_cons.mp hx with e | hx
   ·subst e
    obtain ⟨b, e1, _, hb⟩ := Qdn I (by rw [g.1]; exact g.2.1) (show RelV (.ref p.2.1) (.ref p.2.1) from rfl)
    cases e1
    rw [← h.1, ← h.2.1]
    exact hb
   ·exact ih gt x hx
theorem Qdp {H' : Hp} {h' : Heap} {P : Program} {w : World} {es : List (NK × Addr × V)} {xs : List (NK × Addr × Value)} (z : es.length ≤ sizeLine) (y : (a == sysModules) = false) (r : NX es xs) (dd : h'.DictOfH (nestKind (intKind P w)) a xs) :
  ObjOk P w H' h' a (nstO a es) := by
 obtain ⟨o, es', ep, h1, h2, h3, h4, _, h5⟩ := dd
 refine ⟨⟨z, y, xs, r, o, es', ep, h1, h2, h3, h4, h5⟩, ⟨o, h1⟩, ?_⟩
 rintro g1 g2 ⟨z, y, xs, r, o, es', ep, h1, h2⟩ k
 exact ⟨z, y, xs, r, o, es', ep, k o h1, h2⟩
noncomputable def valN (es : List (NK × Addr × V)) (k : NK) : Option V := (es.find? fun p => decide (p.1 = k)).map (·.2.2)
noncomputable def putN (es : List (NK × Addr × V)) (k : NK) (b : Addr) (v : V) : List (NK × Addr × V) := if (es.any fun p => decide (p.1 = k)) = true then es.map (fun p => if p.1 = k then (p.1, p.2.1, v) else p) else es ++ [(k, b, v)]
theorem NR.val {es : List (NK × Addr × V)} {kvs : List (D × D)} (r : NR K ρ H es kvs) (k : NK) : RO K ρ H (valN es k) (lkK kvs (stD k)) := by
 induction r with
 | nil => exact True.intro
 | @cons p q ps qs h t ih =>
  obtain ⟨h1, _, h2⟩ := h
  unfold lkK valN
  rw [List.find?_cons, List.find?_cons, ← h1, Qdc]
  by_cases e : p.1 = k
  ·rw [decide_eq_true e]; exact h2
  ·rw [decide_eq_false e]; exact ih
theorem NX.val {es : List (NK × Addr × V)} {xs : List (NK × Addr × Value)} (r : NX es xs) (k : NK) : RelO (valN es k) ((atKey xs k).map (·.2)) := by
 induction r with
 | nil => exact True.intro
 | @cons p q ps qs h t ih =>
  obtain ⟨h1, _, h2⟩ := h
  unfold atKey valN
  rw [List.find?_cons, List.find?_cons, ← h1]
  by_cases e : p.1 = k
  ·rw [decide_eq_true e]; exact h2
  ·rw [decide_eq_false e]; exact ih
theorem NX.put {es : List (NK × Addr × V)} {xs : List (NK × Addr × Value)} (r : NX es xs) (k : NK) (b : Addr) {v : V} {u : Value} (rv : RelV v u) : NX (putN es k b v) (storedH xs k b u) := by
 have e : (es.any fun p => decide (p.1 = k)) = (atKey xs k).isSome := by
  clear rv
  induction r with
  | nil => rfl
  | @cons p q ps qs h t ih =>
   rw [List.any_cons, ih]
   unfold atKey
   rw [List.find?_cons, ← h.1]
   by_cases e : p.1 = k
   ·rw [decide_eq_true e]; rfl
   ·rw [decide_eq_false e]; rfl
 unfold putN storedH
 rw [e]
 by_cases q : (atKey xs k).isSome = true
 ·rw [if_pos q, if_pos q]
  clear q e
  induction r with
  | nil => exact .nil
  | @cons p q ps qs h t ih =>
   rw [List.map_cons, List.map_cons]
   refine .cons ?_ ih
   unfold putAt
   by_cases e : p.1 = k
   ·rw [if_pos e, if_pos (h.1.symm.trans e)]; exact ⟨h.1, h.2.1, rv⟩
   ·rw [if_neg e, if_neg (fun z => e (h.1.trans z))]; exact h
 ·rw [if_neg q, if_neg q]; exact Paired.snoc r ⟨rfl, rfl, rv⟩
theorem NR.put {es : List (NK × Addr × V)} {kvs : List (D × D)} (r : NR K ρ H es kvs) (k : NK) (b : Addr) {v : V} {d : D} (rk : Rep K ρ H (.ref b) (stD k)) (rv : Rep K ρ H v d) : NR K ρ H (putN es k b v) (ptK kvs (stD k) d) := by
 have e : (es.any fun p => decide (p.1 = k)) = kvs.any fun p => eqK p.1 (stD k) := by
  clear rk rv
  induction r with
  | nil => rfl
  | @cons p q ps qs h t ih => rw [List.any_cons, List.any_cons, ih, ← h.1, Qdc]
 unfold putN ptK
 rw [e]
 clear e
 by_cases e : (kvs.any fun p => eqK p.1 (stD k)) = true
 ·rw [if_pos e, if_pos e]
  clear e
  induction r with
  | nil => exact .nil
  | @cons p q ps qs h t ih =>
   rw [List.map_cons, List.map_cons]
   refine .cons ?_ ih
   by_cases e : p.1 = k
   ·have z : eqK q.1 (stD k) = true := by rw [← h.1, Qdc]; exact decide_eq_true e
    rw [if_pos e, if_pos z]; exact ⟨h.1, h.2.1, rv⟩
   ·have z : ¬ eqK q.1 (stD k) = true := by rw [← h.1, Qdc, decide_eq_false e]; exact Bool.false_ne_true
    rw [if_neg e, if_neg z]; exact h
 ·rw [if_neg e, if_neg e]
  exact Paired.snoc r ⟨rfl, rk, rv⟩
theorem NR.up {ρ1 : List Addr} {H1 : Hp} (x : Up ρ H ρ1 H1) {es : List (NK × Addr × V)} {kvs : List (D × D)} (r : NR K ρ H es kvs) : NR K ρ1 H1 es kvs := Paired.mapS r fun _ _ z => ⟨z.1, z.2.1.up x, z.2.2.up x⟩
theorem NR.length {es : List (NK × Addr × V)} {kvs : List (D × D)} (r : NR K ρ H es kvs) : es.length = kvs.length := Paired.length r
theorem Qdq (es : List (NK × Addr × V)) (k : NK) (b : Addr) (v : V) : (putN es k b v).length ≤ es.length + 1 := by
 unfold putN
 split
 ·rw [List.length_map]; ac_nf
 ·rw [List.length_append, List.length_cons, List.length_nil]; ac_nf
theorem Qdr {n : Nat} {p : Bool × List (D × D)} {s' : Sto} (h : getDc n st = .ok p s') : s' = st ∧ st[n]? = some (.dct p.1 p.2) := by
 unfold getDc at h
 cases e : st[n]? with
 | none => rw [e] at h; cases h
 | some o =>
  rw [e] at h
  cases o with
  | lst ds => cases h
  | dct b kvs => cases h; exact ⟨rfl, rfl⟩
theorem Post.getDc {n : Nat} {R : Bool × List (D × D) → Sto → List Addr → Hp → Prop} (h : Post K ρ H (MM.getDc n st) R) (s : SR K ρ H st) : ∃ b kvs, st[n]? = some (.dct b kvs) ∧ R (b, kvs) st ρ H := by
 cases e : MM.getDc n st with
 | ok xs s' =>
  obtain ⟨rfl, q⟩ := Qdr e
  rw [e] at h
  exact ⟨xs.1, xs.2, q, h ρ H Ex.refl s⟩
 | exc _ _ => rw [e] at h; exact h.elim
 | bad => rw [e] at h; exact h.elim
theorem Qds {b : Bool} {kvs : List (D × D)} {k d : D} {y : V} {u : Value} {Q : Value → Shared → Prop} {E : Value → Shared → Prop} {A : Around} (hu : A.units + 2 < cLine) (I : Inv X pins σ H s) (g : ObR X.K ρ H a (.dct b kvs)) (rk : Rep X.K ρ H y k) (hk : kOk b k = true) (hl : lkK kvs k = some d) (ry : RelV y u)
  (h : ∀ v w' s', Inv X pins σ H s' → Rep X.K ρ H v d → RelV v w' → Q w' s') : wpAny (model X.prog X.w) A (getItem (.ref a) u) Q E s := by
 cases b with
 | false =>
  obtain ⟨es, e, r⟩ := g
  obtain ⟨k, rfl⟩ := Qdi hk
  cases Qdj rk
  have q := KR.val r k
  rw [hl] at q
  obtain ⟨v, e1, rv⟩ := q.some_of
  exact QcJ (by ac_nf) I (by have := DGet.k (k := k) e; rw [e1] at this; exact this) ry fun w' s' I' rw' => h v w' s' I' rv rw'
 | true =>
  obtain ⟨es, e, r⟩ := g
  obtain ⟨k, rfl⟩ := Qdh hk
  have q := NR.val r k
  rw [hl] at q
  obtain ⟨v, e1, rv⟩ := q.some_of
  obtain ⟨_, hd, xs, rx, dd⟩ := Qdo I e r
  obtain ⟨c, e2, e3, hc⟩ := Qdn I rk ry
  subst e3
  obtain ⟨w', hw, rw'⟩ := RelO.some_of (v := v) (o := (atKey xs k).map (·.2)) (by rw [← e1]; exact NX.val rx k)
  obtain ⟨p, hp, hp2⟩ := Option.map_eq_some_iff.mp hw
  refine wpAny_getItem_heap (knd := nkd X) (show A.in1.units + 1 < cLine from hu) hc dd hp ?_
  rw [hp2]
  exact h v w' _ (I.tok _) rv rw'
theorem Qdt {b : Bool} {kvs : List (D × D)} {k : D} {y : V} {u : Value} {Q : Value → Shared → Prop} {E : Value → Shared → Prop} {A : Around} (hu : A.units + 2 < cLine) (I : Inv X pins σ H s) (g : ObR X.K ρ H a (.dct b kvs)) (rk : Rep X.K ρ H y k) (hk : kOk b k = true) (ry : RelV y u)
  (h : ∀ s', Inv X pins σ H s' → Q (.bool (lkK kvs k).isSome) s') : wpAny (model X.prog X.w) A (compareOp .In u (.ref a)) Q E s := by
 cases b with
 | false =>
  obtain ⟨es, e, r⟩ := g
  obtain ⟨k, rfl⟩ := Qdi hk
  cases Qdj rk
  rw [← (KR.val r k).isSome_eq] at h
  exact d_in (by ac_nf) I (DGet.k (k := k) e) ry h
 | true =>
  obtain ⟨es, e, r⟩ := g
  obtain ⟨k, rfl⟩ := Qdh hk
  rw [← (NR.val r k).isSome_eq] at h
  obtain ⟨_, hd, xs, rx, dd⟩ := Qdo I e r
  obtain ⟨c, e2, e3, hc⟩ := Qdn I rk ry
  subst e3
  refine wpAny_in_heap (knd := nkd X) (show A.in1.units + 1 < cLine from hu) hc hd dd ?_
  have q := (NX.val rx k).isSome_eq
  rw [Option.isSome_map] at q
  rw [← q]
  exact h _ (I.tok _)
theorem Qdu {n : Nat} {b : Bool} {kvs : List (D × D)} {k d : D} {y v : V} {u r' : Value} {Q : Unit → Shared → Prop} {E : Value → Shared → Prop} {A : Around} (hu : A.units + 2 < cLine) (I : Inv X pins σ H s) (sr : SR X.K ρ H st) (ha : ρ[n]? = some a) (hn : st[n]? = some (.dct b kvs))
  (rk : Rep X.K ρ H y k) (hk : kOk b k = true) (hl : kvs.length < sizeLine) (rv : Rep X.K ρ H v d) (ry : RelV y u) (rr : RelV v r')
  (h : ∀ H' s', Inv X pins σ H' s' → SR X.K ρ H' (st.set n (.dct b (ptK kvs k d))) → Ex ρ H ρ H' → Q () s') : wpAny (model X.prog X.w) A (setItem (.ref a) u r') Q E s := by
 have hlt := (List.getElem?_eq_some_iff.mp hn).1
 have g := sr.ob n a _ ha hn
 cases b with
 | false =>
  obtain ⟨es, e, r⟩ := g
  obtain ⟨k, rfl⟩ := Qdi hk
  cases Qdj rk
  have w := sr.putO (o' := .dct false (ptK kvs (keyD k) d)) (u' := .dK (L2.putK es k v)) hlt ha e (by show (1 : Nat) ≠ 3; decide) rfl ⟨_, Qai, (KR.put r k rv).up ?_⟩
  ·exact QcM (by ac_nf) I (DPut.k (k := k) e (by rw [KR.length r]; exact hl)) ry rr fun s' I' => h _ s' I' w.1 w.2
  ·refine ⟨⟨[], by simp⟩, fun c o no q => ?_, fun c o q => ?_⟩
   ·rw [Qaj fun z => by subst z; rw [e] at q; cases q; exact nomatch no]; exact q
   ·by_cases z : c = a
    ·subst z; rw [e] at q; cases q; exact ⟨_, Qai, rfl⟩
    ·exact ⟨o, by rw [Qaj z]; exact q, rfl⟩
 | true =>
  obtain ⟨es, e, r⟩ := g
  obtain ⟨k, rfl⟩ := Qdh hk
  obtain ⟨_, hd, xs, rx, dd⟩ := Qdo I e r
  obtain ⟨c, e2, e3, hc⟩ := Qdn I rk ry
  subst e2 e3
  have w := sr.putO (o' := .dct true (ptK kvs (stD k) d)) (u' := nstO a (putN es k c v)) hlt ha e (by show (2 : Nat) ≠ 3; decide) rfl ⟨_, Qai, (NR.put r k c rk rv).up ?_⟩
  ·have hz : xs.length ≤ sizeLine := by
     rw [← Paired.length rx, NR.length r]; ac_nf
   refine wpAny_setItem_heap (knd := nkd X) (hsz := hz) (show A.in1.units + 1 < cLine from hu) hc dd fun h' dd' hs => h _ _ ?_ w.1 w.2
   have he : ∃ q, h'.get? a = some q := let ⟨q, _, _, hq, _⟩ := dd'; ⟨q, hq⟩
   refine QcK I (by rw [e]; exact True.intro) hs he (Qdp ?_ hd (NX.put rx k c rr) dd')
   have := Qdq es k c v
   rw [NR.length r] at this
   ac_nf
  ·refine ⟨⟨[], by simp⟩, fun c o no q => ?_, fun c o q => ?_⟩
   ·rw [Qaj fun z => by subst z; rw [e] at q; cases q; exact nomatch no]; exact q
   ·by_cases z : c = a
    ·subst z; rw [e] at q; cases q; exact ⟨_, Qai, rfl⟩
    ·exact ⟨o, by rw [Qaj z]; exact q, rfl⟩
end
end MM
namespace MM
open PySem PySem.Spec PyProof.Rows L2
noncomputable abbrev NoE : Value → Shared → Prop := fun _ _ => False
noncomputable def tests (ifs : List Expr) (env : Env) : Sem Bool := forIn ifs true fun c r => if r = true then do let ok ← isTrue c env (eval c env); pure (ForInStep.yield ok) else pure (ForInStep.yield r)
section
variable {prog : Program} {w : World} {A : Around} {R : Result → Shared → Prop} {s : Shared}
theorem Qdv {elt target iter : Expr} {ifs : List Expr} {scope : Scope} {pos : Pos} {it acc : Value} {env : Env} (I : Nat → Shared → Prop)
  (turn : ∀ n s, I n s → wpAny (model prog w) A (pyNext it) (fun r s₁ => match r with
   | none => R (.ok .next) s₁
   | some v => wpAny (model prog w) A (letOwnedTupleGo target it v) (fun _ s₁' => wpAny (model prog w) A (assign target env v) (fun _ s₂ =>
     wpAny (model prog w) A (tests ifs env) (fun ok s₃ =>
      if ok = true then wpAny (model prog w) A (eval elt env) (fun x s₄ =>
       wpAny (model prog w) A (call (.builtin "list.append") [acc, x]) (fun _ s₅ => ∃ m, m < n ∧ I m s₅) NoE s₄) NoE s₃
      else ∃ m, m < n ∧ I m s₃) NoE s₂) NoE s₁') NoE s₁) NoE s)
  (n : Nat) (h : I n s) : codeAny (model prog w) A (.compLoop (.ListComp elt [⟨target, iter, ifs, 0⟩] scope pos) 0 it acc env) R s := by
 refine codeAny_loop rfl I (fun n s hI => ?_) n h
 show wpAny _ A ((compTurn (.ListComp elt [⟨target, iter, ifs, 0⟩] scope pos) 0 it acc env).onRaise (fun x => do noteFrame x env; theTreesLotGoes x)) _ _ s
 refine wpAny_noted ?_
 rw [compTurn_list]
 refine wpAny_bind (wpAny_standAt (wpAny_bind (wpAny_mono (turn n s hI) (fun r s₁ h₁ => ?_) fun _ _ h' => h'.elim)))
 cases r with
 | none => exact wpAny_pure h₁
 | some v =>
  refine wpAny_bind (wpAny_mono h₁ (fun _ s₁' h₁' => ?_) fun _ _ h' => h'.elim)
  refine wpAny_bind (wpAny_mono h₁' (fun _ s₂ h₂ => wpAny_bind (wpAny_mono h₂ (fun ok s₃ h₃ => ?_) fun _ _ h' => h'.elim)) fun _ _ h' => h'.elim)
  cases ok with
  | false => exact wpAny_pure ⟨rfl, h₃⟩
  | true =>
   exact wpAny_bind (wpAny_bind (wpAny_mono h₃ (fun x s₄ h₄ => wpAny_bind (wpAny_mono h₄ (fun _ s₅ h₅ => wpAny_pure (wpAny_pure ⟨rfl, h₅⟩)) fun _ _ h' => h'.elim)) fun _ _ h' => h'.elim))
end
noncomputable def clOf : List (Str × NameKind) → List (Str × Addr) → List (Str × Addr) → List (Str × Addr)
 | [], _, acc => acc
 | (n, k) :: r, cells, acc => clOf r cells (if k == .free then (match cells.lookup n with | some c => (n, c) :: acc | none => acc) else acc)
theorem Qdw {env : Env} : ∀ (names : List (Str × NameKind)) (acc : List (Str × Addr)), (∀ x, (x, NameKind.free) ∈ names → ∃ c, env.cells.lookup x = some c) →
  (forIn names acc fun (x : Str × NameKind) r => if (x.2 == NameKind.free) = true then (do let a ← cellOf env x.1; pure (ForInStep.yield ((x.1, a) :: r)) : Sem _) else pure (ForInStep.yield r)) = (pure (clOf names env.cells acc) : Sem _)
 | [], acc, _ => rfl
 | (n, k) :: r, acc, h => by
  rw [List.forIn_cons]
  by_cases hk : (k == NameKind.free) = true
  ·have e : k = .free := by simpa using hk
   subst e
   obtain ⟨c, hc⟩ := h n List.mem_cons_self
   have q : cellOf env n = pure c := by unfold cellOf; rw [hc]
   simp only [beq_self_eq_true, if_true, q]
   unfold clOf
   simp only [beq_self_eq_true, if_true, hc]
   exact Qdw r ((n, c) :: acc) fun x hx => h x (List.mem_cons_of_mem _ hx)
  ·simp only [hk, if_false]
   unfold clOf
   simp only [hk, if_false]
   exact Qdw r acc fun x hx => h x (List.mem_cons_of_mem _ hx)
theorem Qdx {scope : Scope} {env : Env} (h : ∀ x, (x, NameKind.free) ∈ scope.names → ∃ c, env.cells.lookup x = some c) : closureFor scope env = pure (clOf scope.names env.cells []) := by
 have q := Qdw (env := env) scope.names [] h
 simp only [closureFor]
 exact congrArg (fun m => m >>= fun cs => pure cs) q
theorem Qdy {α : Type} {x y : Str} {v : α} {r : List (Str × α)} (h : x ≠ y) : List.lookup x ((y, v) :: r) = r.lookup x := by
 rw [List.lookup_cons]
 have : (x == y) = false := beq_eq_false_iff_ne.mpr h
 rw [this]
theorem Qdz {α : Type} {x : Str} {v : α} {r : List (Str × α)} : List.lookup x ((x, v) :: r) = some v := by
 rw [List.lookup_cons, beq_self_eq_true]
theorem clOf_of {cells : List (Str × Addr)} {x : Str} {c : Addr} : ∀ (names : List (Str × NameKind)) (acc : List (Str × Addr)), (clOf names cells acc).lookup x = some c → cells.lookup x = some c ∨ acc.lookup x = some c
 | [], acc, h => .inr h
 | (n, k) :: r, acc, h => by
  unfold clOf at h
  rcases clOf_of r _ h with q | q
  ·exact .inl q
  ·split at q
   ·split at q
    ·rename_i c' hc
     by_cases hx : x = n
     ·subst hx
      rw [Qdz] at q
      cases q
      exact .inl hc
     ·rw [Qdy hx] at q; exact .inr q
    ·exact .inr q
   ·exact .inr q
theorem QdA {cells : List (Str × Addr)} {x : Str} {c : Addr} (hc : cells.lookup x = some c) : ∀ (names : List (Str × NameKind)) (acc : List (Str × Addr)), ((x, NameKind.free) ∈ names ∨ acc.lookup x = some c) → (∀ d, acc.lookup x = some d → d = c) → (clOf names cells acc).lookup x = some c
 | [], acc, h, _ => by
  rcases h with h | h
  ·cases h
  ·exact h
 | (n, k) :: r, acc, h, ha => by
  unfold clOf
  by_cases hx : x = n
  ·subst hx
   by_cases hk : (k == NameKind.free) = true
   ·rw [if_pos hk, hc]
    exact QdA hc r _ (.inr Qdz) fun d hd => by rw [Qdz] at hd; cases hd; rfl
   ·rw [if_neg hk]
    refine QdA hc r _ ?_ ha
    rcases h with h | h
    ·rcases List.mem_cons.mp h with e | e
     ·cases e; exact absurd rfl hk
     ·exact .inl e
    ·exact .inr h
  ·have step : ∀ acc', acc'.lookup x = acc.lookup x → (clOf r cells acc').lookup x = some c := fun acc' e => by
     refine QdA hc r acc' ?_ (by rw [e]; exact ha)
     rcases h with h | h
     ·rcases List.mem_cons.mp h with z | z
      ·cases z; exact absurd rfl hx
      ·exact .inl z
     ·exact .inr (by rw [e]; exact h)
   refine step _ ?_
   split
   ·split
    ·exact Qdy hx
    ·rfl
   ·rfl
theorem cellsFrom_of {x : Str} {c : Addr} : ∀ (names : List (Str × NameKind)) (n : Nat) (acc : List (Str × Addr)), (cellsFrom n names acc).lookup x = some c → n ≤ c ∨ acc.lookup x = some c
 | [], _, _, h => .inr h
 | (y, k) :: r, n, acc, h => by
  unfold cellsFrom at h
  split at h
  ·rcases cellsFrom_of r (n + 1) _ h with q | q
   ·exact .inl (by ac_nf)
   ·by_cases hx : x = y
    ·subst hx; rw [Qdz] at q; cases q; exact .inl (Nat.le_refl _)
    ·rw [Qdy hx] at q; exact .inr q
  ·exact cellsFrom_of r n acc h
theorem QdB : ∀ (names : List (Str × NameKind)) (n : Nat) (acc : List (Str × Addr)), (∀ x y c, acc.lookup x = some c → acc.lookup y = some c → x = y) → (∀ x c, acc.lookup x = some c → c < n) →
  ∀ x y c, (cellsFrom n names acc).lookup x = some c → (cellsFrom n names acc).lookup y = some c → x = y
 | [], _, _, hi, _ => hi
 | (z, k) :: r, n, acc, hi, hb => by
  unfold cellsFrom
  split
  ·refine QdB r (n + 1) _ (fun x y c h1 h2 => ?_) (fun x c h => ?_)
   ·by_cases hx : x = z
    ·subst hx
     rw [Qdz] at h1; cases h1
     by_cases hy : y = x
     ·exact hy.symm
     ·rw [Qdy hy] at h2
      exact absurd (hb y _ h2) (Nat.lt_irrefl _)
    ·rw [Qdy hx] at h1
     by_cases hy : y = z
     ·subst hy
      rw [Qdz] at h2; cases h2
      exact absurd (hb x _ h1) (Nat.lt_irrefl _)
     ·rw [Qdy hy] at h2; exact hi x y c h1 h2
   ·by_cases hx : x = z
    ·subst hx; rw [Qdz] at h; cases h; exact Nat.lt_succ_self _
    ·rw [Qdy hx] at h; exact Nat.lt_succ_of_lt (hb x c h)
  ·exact QdB r n acc hi hb
theorem cellsFrom_cell {x : Str} {c : Addr} : ∀ (names : List (Str × NameKind)) (h : Heap) (acc : List (Str × Addr)), (cellsFrom h.objs.size names acc).lookup x = some c → acc.lookup x = some c ∨ ((pushCells h names).IsCell c none ∧ h.objs.size ≤ c)
 | [], _, _, q => .inl q
 | (y, k) :: r, h, acc, q => by
  unfold cellsFrom at q
  unfold pushCells
  split at q
  ·rename_i hk
   rw [if_pos hk]
   rw [← Heap.size_push h { cls := .type "cell", data := .cell none }] at q
   rcases cellsFrom_cell r _ _ q with z | z
   ·by_cases hx : x = y
    ·subst hx; rw [Qdz] at z; cases z
     refine .inr ⟨?_, Nat.le_refl _⟩
     refine ⟨{ cls := .type "cell", data := .cell none }, pushCells_keeps r _ _ _ (Heap.get?_push_size _ rfl), rfl⟩
    ·rw [Qdy hx] at z; exact .inl z
   ·refine .inr ⟨z.1, ?_⟩
    have := z.2
    rw [Heap.size_push] at this
    ac_nf
  ·rename_i hk
   rw [if_neg hk]
   exact cellsFrom_cell r h acc q
theorem QdC {x : Str} : ∀ (names : List (Str × NameKind)) (n : Nat) (acc : List (Str × Addr)), (x, NameKind.cell) ∉ names → (cellsFrom n names acc).lookup x = acc.lookup x
 | [], _, _, _ => rfl
 | (y, k) :: r, n, acc, h => by
  unfold cellsFrom
  split
  ·rename_i hk
   have e : k = .cell := by simpa using hk
   subst e
   have hx : x ≠ y := fun z => h (by rw [z]; exact List.mem_cons_self)
   rw [QdC r (n + 1) _ fun z => h (List.mem_cons_of_mem _ z), Qdy hx]
  ·exact QdC r n acc fun z => h (List.mem_cons_of_mem _ z)
theorem QdD {α β : Type} (f : Str → α → β) (x : Str) : ∀ (l : List (Str × α)), (l.map fun p => (p.1, f p.1 p.2)).lookup x = (l.lookup x).map (f x)
 | [] => rfl
 | (y, v) :: r => by
  by_cases hx : x = y
  ·subst hx
   rw [List.map_cons, Qdz, Qdz]; rfl
  ·rw [List.map_cons, Qdy hx, Qdy hx]; exact QdD f x r
theorem QdE (scope : Scope) (env : Env) (x : Str) :
  (relabel scope env).names.lookup x = (scope.names.lookup x).map fun k => if (k == NameKind.free && env.scope.kind == .function && env.kindOf x == some .cell) = true then .cell else k := by
 have e : (relabel scope env).names = scope.names.map fun p => (p.1, (fun (n : Str) k => if (k == NameKind.free && env.scope.kind == .function && env.kindOf n == some .cell) = true then NameKind.cell else k) p.1 p.2) := by
  show scope.names.map _ = _
  congr 1
  funext p
  obtain ⟨n, k⟩ := p
  dsimp only
  split <;> rfl
 rw [e]
 exact QdD (fun (n : Str) k => if (k == NameKind.free && env.scope.kind == .function && env.kindOf n == some .cell) = true then NameKind.cell else k) x scope.names
theorem QdF {M : Model} {A : Around} {E : Value → Shared → Prop} {s : Shared} {scope : Scope} {globals : Addr} {cl : List (Str × Addr)} {qual : Str} {env : Env} {Q : Env → Shared → Prop}
  (h : Q { scope := scope, locals := s.heap.objs.size, globals := globals, cells := cellsFrom (s.heap.objs.size + 1) scope.names cl, qual := qual, func := none, code := env.code, frame := env.frame, builtins := env.builtins }
   { s with heap := pushCells (s.heap.push { cls := .type "dict", data := .dict #[] }) scope.names }) : wpAny M A (newFunctionEnv scope globals cl [] qual none .none (some env)) Q E s := by
 simp only [newFunctionEnv, Option.isSome_some, if_true]
 refine wpAny_bind (wpAny_alloc ?_)
 refine wpAny_bind (wpAny_layCells _ (fun name kind cells => by cases hkc : kind == NameKind.cell <;> simp [hkc]) _ _ _ _ ?_)
 rw [show ({ s with heap := s.heap.push { cls := .type "dict", data := .dict #[] } } : Shared).heap.objs.size = s.heap.objs.size + 1 from Heap.size_push ..]
 exact wpAny_bind (wpAny_pure (wpAny_pure h))
noncomputable def cxC (X : Cx) (N : List Str) (scope : Scope) (fp : List Addr) (s : Shared) (H : Hp) : Cx where
 prog := X.prog
 w := X.w
 K := X.K
 mg := X.mg
 base := X.base
 A := X.A
 N := N
 s₀ := s
 H₀ := H
 env := compEnvC scope (cellsFrom (s.heap.objs.size + 1) scope.names (clOf scope.names X.env.cells [])) s.heap.objs.size X.env
 outer := X.stack
 stack := X.stack
 ex := fp
 fn := fun x => decide (scope.names.lookup x = some .local ∨ scope.names.lookup x = some .cell)
 calm := X.calm
 pn := []
 xe := NoE
structure CompScope (X : Cx) (scope : Scope) : Prop where
 kind : scope.kind = .function
 names : ∀ x ∈ scope.names, x.2 = .local → scope.names.lookup x.1 = some .local
 free : ∀ x, (x, NameKind.free) ∈ scope.names → X.env.kindOf x = some .cell ∨ X.env.kindOf x = some .free
 once : ∀ x, (x, NameKind.free) ∈ scope.names → (x, NameKind.cell) ∉ scope.names
 own : ∀ x, (x, NameKind.free) ∈ scope.names → scope.names.lookup x ≠ some .local
noncomputable def capV (n : Nat) (ix : List Nat) (σ : St) : St := List.replicate n none ++ ix.map fun i => (σ[i]?).join
structure CompNames (X : Cx) (scope : Scope) (N : List Str) (n : Nat) (ix : List Nat) : Prop where
 len : N.length = n + ix.length
 cap : ∀ (j i : Nat) (x : Str), ix[j]? = some i → N[n + j]? = some x → X.N[i]? = some x ∧ scope.names.lookup x = some .free
theorem clOf_mem {cells : List (Str × Addr)} {x : Str} {c : Addr} : ∀ (names : List (Str × NameKind)) (acc : List (Str × Addr)), (clOf names cells acc).lookup x = some c → (x, NameKind.free) ∈ names ∨ acc.lookup x = some c
 | [], acc, h => .inr h
 | (n, k) :: r, acc, h => by
  unfold clOf at h
  rcases clOf_mem r _ h with q | q
  ·exact .inl (List.mem_cons_of_mem _ q)
  ·split at q
   ·rename_i hk
    have e : k = .free := by simpa using hk
    subst e
    split at q
    ·by_cases hx : x = n
     ·subst hx; exact .inl List.mem_cons_self
     ·rw [Qdy hx] at q; exact .inr q
    ·exact .inr q
   ·exact .inr q
theorem QdG {X : Cx} {scope : Scope} {cells : List (Str × Addr)} {x : Str} {c : Addr} (h : (clOf scope.names cells []).lookup x = some c) (hf : scope.names.lookup x = some .local ∨ scope.names.lookup x = some .cell) (S : CompScope X scope) : False := by
 rcases clOf_mem _ _ h with q | q
 ·rcases hf with z | z
  ·exact S.own x q z
  ·exact S.once x q (PySem.mem_of_lookup z)
 ·cases q
section
variable {X : Cx} {pins : List (Addr × Obj)} {σ : St} {H : Hp} {s : Shared} {scope : Scope} {N : List Str} {fp : List Addr}
theorem QdH (I : Inv X pins σ H s) {x : Str} {c : Addr} (h : (clOf scope.names X.env.cells []).lookup x = some c) : X.env.cells.lookup x = some c ∧ c < s.heap.objs.size ∧ (∃ v, s.heap.IsCell c v) ∧ H c = none := by
 rcases clOf_of _ _ h with q | q
 ·obtain ⟨v, z⟩ := I.cell x c q
  exact ⟨q, z.lt, ⟨v, z⟩, I.freeC x c q⟩
 ·cases q
theorem QdI (I : Inv X pins σ H s) (S : CompScope X scope) (hfp : ∀ b ∈ fp, FpOk X pins H b) (hlt : ∀ b ∈ fp, b < s.heap.objs.size) : (cxC X N scope fp s H).Ok := by
 have inj : ∀ x y c, (cellsFrom (s.heap.objs.size + 1) scope.names (clOf scope.names X.env.cells [])).lookup x = some c → (cellsFrom (s.heap.objs.size + 1) scope.names (clOf scope.names X.env.cells [])).lookup y = some c → x = y :=
  QdB scope.names _ _ (fun x y c h1 h2 => I.ok.inj x y c (QdH I h1).1 (QdH I h2).1) fun x c h => Nat.lt_succ_of_lt (QdH I h).2.1
 refine ⟨I.ok.mod, S.kind, I.ok.glob, I.ok.blt, Nat.le_refl _, inj, fun x hx => ?_, fun x c hf hc => ?_, I.ok.hd, I.ok.frames, .inl rfl, fun b hb => ?_, I.bs, Nat.le_trans I.ok.bsz I.sz, fun b o e hb => ?_, fun b hb z => ?_, I.stack, I.stkFree⟩
 ·have hx' : (relabel scope X.env).names.lookup x = some .cell ∨ (relabel scope X.env).names.lookup x = some .free := hx
  rw [QdE] at hx'
  cases e : scope.names.lookup x with
  | none => rw [e] at hx'; rcases hx' with z | z <;> cases z
  | some k =>
   refine Option.isSome_iff_exists.mp (PySem.W.cellsFrom_some scope.names _ _ ?_)
   cases k with
   | cell => exact .inl e
   | free =>
    have hm := PySem.mem_of_lookup e
    obtain ⟨c, hc⟩ := I.ok.has x (S.free x hm)
    exact .inr (by rw [QdA hc scope.names [] (.inl hm) fun d hd => by cases hd]; rfl)
   | _ =>
    rw [e] at hx'
    rcases hx' with z | z <;> (simp at z)
 ·have hc' : (cellsFrom (s.heap.objs.size + 1) scope.names (clOf scope.names X.env.cells [])).lookup x = some c := hc
  rcases cellsFrom_of _ _ _ hc' with q | q
  ·exact Nat.le_of_succ_le q
  ·exfalso
   have hf' : scope.names.lookup x = some .local ∨ scope.names.lookup x = some .cell := of_decide_eq_true hf
   exact QdG q hf' S
 ·obtain ⟨f0, f1, f2, f3, f4, f5⟩ := hfp b hb
  refine ⟨Nat.ne_of_lt (hlt b hb), fun x c hc z => ?_⟩
  have hc' : (cellsFrom (s.heap.objs.size + 1) scope.names (clOf scope.names X.env.cells [])).lookup x = some c := hc
  rcases cellsFrom_of _ _ _ hc' with q | q
  ·rw [z] at q
   exact absurd (Nat.lt_of_lt_of_le (Nat.lt_succ_of_lt (hlt b hb)) q) (Nat.lt_irrefl _)
  ·exact f4 x c (QdH I q).1 z
 ·obtain ⟨f0, f1, f2, f3, f4, f5⟩ := hfp b hb
  rcases f3 with z | z
  ·exact I.ok.noex b o e z
  ·exact absurd (Nat.lt_of_lt_of_le (Nat.lt_of_lt_of_le (Heap.lt_size e) I.ok.bsz) z) (Nat.lt_irrefl _)
 ·obtain ⟨f0, f1, f2, f3, f4, f5⟩ := hfp b hb
  rcases List.mem_cons.mp (I.stkSub b z) with q | q
  ·exact f1 q
  ·exact f2 q
noncomputable abbrev heapC (h : Heap) (scope : Scope) : Heap := pushCells (h.push { cls := .type "dict", data := .dict #[] }) scope.names
theorem QdJ (h : Heap) (scope : Scope) : ∀ b o, h.get? b = some o → (heapC h scope).get? b = some o := fun b o e => pushCells_keeps _ _ b o (Heap.get?_push_of_some _ e)
theorem QdK {n : Nat} {ix : List Nat} (I : Inv X pins σ H s) (S : CompScope X scope) (T : CompNames X scope N n ix) (hfp : ∀ b ∈ fp, FpOk X pins H b) (hlt : ∀ b ∈ fp, b < s.heap.objs.size) :
  Inv (cxC X N scope fp s H) [] (capV n ix σ) H { s with heap := heapC s.heap scope } := by
 have kp := QdJ s.heap scope
 have hns : (heapC s.heap scope).Ns s.heap.objs.size fun _ => none := (Heap.Ns.new s.heap (.type "dict")).keeps (pushCells_keeps _ _)
 have cells : ∀ x c, (cellsFrom (s.heap.objs.size + 1) scope.names (clOf scope.names X.env.cells [])).lookup x = some c →
   (∃ v, (heapC s.heap scope).IsCell c v) ∧ H c = none := fun x c h => by
  have h' : (cellsFrom (s.heap.push { cls := .type "dict", data := .dict #[] }).objs.size scope.names (clOf scope.names X.env.cells [])).lookup x = some c := by rw [Heap.size_push]; exact h
  rcases cellsFrom_cell _ _ _ h' with q | ⟨q, z⟩
  ·obtain ⟨_, _, ⟨v, hv⟩, hn⟩ := QdH I q
   exact ⟨⟨v, hv.keeps kp⟩, hn⟩
  ·refine ⟨⟨none, q⟩, I.hok.fresh ?_⟩
   rw [Heap.size_push] at z
   ac_nf
 refine ⟨QdI I S hfp hlt, rfl, I.bare, Un.kept kp, ⟨_, hns, fun i x v h1 h2 h3 => ?_⟩, fun x c h => (cells x c h).1, I.hok.fresh (Nat.le_refl _), fun x c h => (cells x c h).2, fun p hp => absurd (show p ∈ ([] : List (Addr × Obj)) from hp) (by simp), I.hok.kept kp, ?_⟩
 ·have h1' : N[i]? = some x := h1
  have h2' : (List.replicate n none ++ ix.map fun i => (σ[i]?).join)[i]? = some (some v) := h2
  have hi : n ≤ i := Nat.le_of_not_lt fun z => by
   rw [List.getElem?_append_left (by simpa using z), List.getElem?_replicate] at h2'
   split at h2' <;> cases h2'
  rw [List.getElem?_append_right (by simpa using hi), List.length_replicate, List.getElem?_map] at h2'
  cases e : ix[i - n]? with
  | none => rw [e] at h2'; cases h2'
  | some k =>
   rw [e] at h2'
   have hj : (σ[k]?).join = some v := Option.some.inj h2'
   have hk : σ[k]? = some (some v) := by
    cases q : σ[k]? with
    | none => rw [q] at hj; cases hj
    | some o => rw [q] at hj; exact congrArg some hj
   obtain ⟨hN, hfr⟩ := T.cap (i - n) k x e (by rw [show n + (i - n) = i by ac_nf]; exact h1')
   have hm := PySem.mem_of_lookup hfr
   have kx := S.free x hm
   obtain ⟨m, hn, hl⟩ := I.loc
   obtain ⟨u, ru, lk⟩ := hl k x v hN hk (by
    rcases kx with z | z
    ·exact .inr (.inl z)
    ·exact .inr (.inr z))
   have lk2 : ∃ c, X.env.cells.lookup x = some c ∧ s.heap.IsCell c (some u) := by
    rcases lk with ⟨z, _⟩ | ⟨_, c, hc, q⟩
    ·rcases kx with y | y <;> (rw [y] at z; cases z)
    ·exact ⟨c, hc, q⟩
   obtain ⟨c, hc, q⟩ := lk2
   refine ⟨u, ru, .inr ⟨?_, c, ?_, q.keeps kp⟩⟩
   ·show (relabel scope X.env).names.lookup x = some .cell ∨ (relabel scope X.env).names.lookup x = some .free
    rw [QdE, hfr, Option.map_some]
    by_cases hq : (NameKind.free == NameKind.free && X.env.scope.kind == .function && X.env.kindOf x == some .cell) = true
    ·rw [if_pos hq]; exact .inl rfl
    ·rw [if_neg hq]; exact .inr rfl
   ·show (cellsFrom (s.heap.objs.size + 1) scope.names (clOf scope.names X.env.cells [])).lookup x = some c
    rw [QdC _ _ _ (S.once x hm)]
    exact QdA hc scope.names [] (.inl hm) fun d hd => by cases hd
 ·show (List.replicate n none ++ ix.map fun i => (σ[i]?).join).length = N.length
  rw [List.length_append, List.length_replicate, List.length_map, T.len]
noncomputable def tComp (wi : TI) (n : Nat) (ix : List Nat) (g : TG) (tt : TT) (te : TE) : TE := fun σ H Q => wi σ H fun J H1 => ∀ l, H1 l = none → ∃ W : Nat → Nat → St → Hp → Prop, (∃ m, W 0 m (capV n ix σ) (upd H1 l (.lst []))) ∧
 ∀ i m σ' H', W i m σ' H' → (J.stop i H' ∧ Q (.ref l) H') ∨ (J.go i H' ∧ ∀ x H2, J.yld i H' x H2 → g x σ' H2 fun σ2 H3 => tt σ2 H3 fun b H4 =>
  if b = true then te σ2 H4 fun v H5 => ∃ ys, H5 l = some (.lst ys) ∧ ys.length < sizeLine ∧ ∃ m', m' < m ∧ W (i + 1) m' σ2 (upd H5 l (.lst (ys ++ [v]))) else ∃ m', m' < m ∧ W (i + 1) m' σ2 H4)
def PIfs (X : Cx) (ifs : List Expr) (tt : TT) : Prop :=
 ∀ (pins : List (Addr × Obj)) (s : Shared) (σ : St) (H : Hp) (Q : Bool → Hp → Prop), Inv X pins σ H s → tt σ H Q → wpAny (model X.prog X.w) X.A (tests ifs X.env) (TP X pins σ Q) X.xe s
theorem QdL : PIfs X [] (fun _ H Q => Q true H) := fun pins s σ H Q I h => wpAny_tests_nil ⟨H, I, h⟩
theorem QdM {c : Expr} {tt : TT} (h : PT X c tt) : PIfs X [c] tt := fun pins s σ H Q I q => wpAny_tests_one (h pins s σ H Q I q)
structure CFree (X : Cx) (pins : List (Addr × Obj)) (C : Addr) (H : Hp) (s : Shared) : Prop where
 ns : ∃ m, s.heap.Ns C m
 free : H C = none
 loc : C ≠ X.env.locals
 cell : ∀ x c, X.env.cells.lookup x = some c → c ≠ C
 sz : X.s₀.heap.objs.size ≤ C
 pin : ∀ p ∈ X.pn ++ pins, p.1 ≠ C
theorem CFree.go {C : Addr} {h' : Heap} (c : CFree X pins C H s) (I : Inv X pins σ H s) (hs : Heap.SameBut C s.heap h') : Inv X pins σ H { s with heap := h' } :=
 I.turned (t' := s.toks) (fun b o hb e => (hs.2 b hb).trans e) c.free c.loc (.inr c.sz) c.cell c.pin
theorem QdN {elt target iter : Expr} {ifs : List Expr} {pos : Pos} {n : Nat} {ix : List Nat} {wi : TI} {g : TG} {tt : TT} {te : TE} {use : Option (Value → Sem Unit)} {Q : Value → Shared → Prop} {QH : VK}
  (hc : X.calm = true) (S : CompScope X scope) (T : CompNames X scope N n ix) (hi : PI X target iter wi)
  (blk : ∀ (fp : List Addr) (s : Shared) (H : Hp), PG (cxC X N scope fp s H) target g ∧ PIfs (cxC X N scope fp s H) ifs tt ∧ PE (cxC X N scope fp s H) elt te)
  (hs : ∀ x, foldedSetIterable iter X.env x = pure x) (I : Inv X pins σ H s) (h : tComp wi n ix g tt te σ H QH)
  (fin : ∀ (l C : Addr) (H' : Hp) (s' : Shared), Inv X pins σ H' s' → QH (.ref l) H' → CFree X pins C H' s' → compPost (model X.prog X.w) X.A X.xe use Q (.ref l) C (.ok .next) s') :
  wpAny (model X.prog X.w) X.A (comprehension (.ListComp elt [⟨target, iter, ifs, 0⟩] scope pos) scope X.env (firstIterPos [⟨target, iter, ifs, 0⟩] pos) (newList []) false (eval iter X.env) use) Q X.xe s := by
 have hclos : closureFor scope X.env = pure (clOf scope.names X.env.cells []) := Qdx fun x hx => I.ok.has x (S.free x hx)
 refine wpAny_comprehension_free rfl hs hclos S.kind S.names ?_
 refine thn (hi pins s σ H _ I h) fun v s1 h1 => thn h1 fun itv s2 h2 => ?_
 obtain ⟨it, fp, tn, J, H2, rfl, I2, TT, st2, f2, rest⟩ := h2
 refine wpAny_newObj_type (hd := by size_fits) ?_
 have hf2 : H2 s2.heap.objs.size = none := I2.hok.fresh (Nat.le_refl _)
 obtain ⟨W, ⟨m0, w0⟩, turn⟩ := rest _ hf2
 have fl : ∀ b ∈ fp, b < s2.heap.objs.size := fun b hb => by
  obtain ⟨o, e, _⟩ := TT.obj _ _ st2 b hb
  exact Heap.lt_size e
 have f3 : ∀ b ∈ fp, FpOk X pins (upd H2 s2.heap.objs.size (.lst [])) b := fun b hb => by
  obtain ⟨f0, fr⟩ := f2 b hb
  refine ⟨?_, fr⟩
  rw [Qaj (Nat.ne_of_lt (fl b hb))]
  exact f0
 have I3 : Inv X pins σ (upd H2 s2.heap.objs.size (.lst [])) { s2 with heap := s2.heap.push { cls := .type "list", dict := none, data := .seq ([] : List Value).toArray } } :=
  I2.laid (t' := s2.toks) (fun b o e => Heap.get?_push_of_some _ e) (Nat.le_refl _) ⟨Nat.zero_le _, [], 0, .nil, Heap.get?_push_size _ rfl⟩
 have tn3 : tn 0 (s2.heap.push { cls := .type "list", dict := none, data := .seq ([] : List Value).toArray }) := TT.keep _ _ _ st2 fun b hb o e => Heap.get?_push_of_some _ e
 have fl3 : ∀ b ∈ fp, b < (s2.heap.push { cls := .type "list", dict := none, data := .seq ([] : List Value).toArray }).objs.size := fun b hb => by
  rw [Heap.size_push]; exact Nat.lt_succ_of_lt (fl b hb)
 generalize s2.heap.objs.size = l at *
 generalize hs3 : ({ s2 with heap := s2.heap.push { cls := .type "list", dict := none, data := .seq ([] : List Value).toArray } } : Shared) = s3 at *
 have e3 : s2.heap.push { cls := .type "list", dict := none, data := .seq ([] : List Value).toArray } = s3.heap := by rw [← hs3]
 rw [e3] at tn3 fl3
 generalize upd H2 l (.lst []) = H3 at *
 refine QdF ?_
 have I4 := QdK (N := N) (n := n) (ix := ix) I3 S T f3 fl3
 obtain ⟨bg, bt, be⟩ := blk fp s3 H3
 have tn4 : tn 0 (heapC s3.heap scope) := TT.keep _ _ _ tn3 fun b hb o e => QdJ _ _ _ _ e
 have fr4 : ∀ b ∈ fp, H3 b = none := fun b hb => (f3 b hb).1
 show codeAny (model X.prog X.w) X.A (.compStart (.ListComp elt [⟨target, iter, ifs, 0⟩] scope pos) 0 (.ref it) (.ref l) (cxC X N scope fp s3 H3).env) (compPost (model X.prog X.w) X.A X.xe use Q (.ref l) s3.heap.objs.size) { s3 with heap := heapC s3.heap scope }
 have fpx : ∀ {σ' : St} {H' : Hp} {s' : Shared}, Inv (cxC X N scope fp s3 H3) [] σ' H' s' → (∀ b ∈ fp, H' b = none) → ∀ b ∈ fp, FpOk (cxC X N scope fp s3 H3) [] H' b := fun I' hn b hb => by
  have q := I'.ok.exf b hb
  exact ⟨hn b hb, q.1, I'.ok.exfs b hb, .inl hb, q.2, fun p hp => absurd (show p ∈ ([] : List (Addr × Obj)) from hp) (by simp)⟩
 have hc' : (cxC X N scope fp s3 H3).calm = true := hc
 have loop : codeAny (model X.prog X.w) X.A (.compLoop (.ListComp elt [⟨target, iter, ifs, 0⟩] scope pos) 0 (.ref it) (.ref l) (cxC X N scope fp s3 H3).env) (compPost (model X.prog X.w) X.A X.xe use Q (.ref l) s3.heap.objs.size) { s3 with heap := heapC s3.heap scope } := by
  refine Qdv (fun k s' => ∃ i σ' H', Inv (cxC X N scope fp s3 H3) [] σ' H' s' ∧ tn i s'.heap ∧ (∀ b ∈ fp, H' b = none) ∧ W i k σ' H') ?_ m0 ⟨0, _, H3, I4, tn4, fr4, w0⟩
  rintro k s5 ⟨i, σ5, H5, I5, tn5, fr5, w5⟩
  rcases turn i k σ5 H5 w5 with ⟨stop, q⟩ | ⟨go, step⟩
  ·refine thn (TT.done (cxC X N scope fp s3 H3) rfl rfl rfl hc' i [] s5 σ5 H5 NoE I5 (fpx I5 fr5) tn5 stop) fun r s6 pq50 => ?_
   obtain ⟨hr, I6⟩ := pq50
   subst hr
   have J6 : Inv X pins σ H5 s6 := I3.call' I6.os I6.base I6.hok I6.bare fun b hb => by
    obtain ⟨g0, g1, g2, g3, g4, g5⟩ := f3 b hb
    exact ⟨g3, g1, g4, g5⟩
   obtain ⟨m, hn, _⟩ := I6.loc
   refine fin l s3.heap.objs.size H5 s6 J6 q ⟨⟨m, hn⟩, I6.free, Nat.ne_of_gt I3.lt, fun x c e => ?_, I3.sz, fun p hp => ?_⟩
   ·obtain ⟨v, z⟩ := I3.cell x c e
    exact Nat.ne_of_lt z.lt
   ·exact Nat.ne_of_lt (Heap.lt_size (I3.pin p hp).1)
  ·refine thn (TT.item (cxC X N scope fp s3 H3) rfl rfl rfl hc' i [] s5 σ5 H5 NoE I5 (fpx I5 fr5) tn5 go) fun r s6 pq51 => ?_
   obtain ⟨u, hr, h6⟩ := pq51
   subst hr
   refine thn h6 fun _ s7 pq52 => ?_
   obtain ⟨x, H7, I7, r7, y7, tn7, fr7⟩ := pq52
   have I7' := I7.pinned (fpx I7 fr7) (TT.obj _ _ tn7)
   refine thn (bg _ s7 σ5 H7 x u _ I7' r7 (step x H7 y7)) fun _ s8 pq53 => ?_
   obtain ⟨σ8, H8, I8, q8⟩ := pq53
   refine thn (bt _ s8 σ8 H8 _ I8 q8) fun ok s9 pq54 => ?_
   obtain ⟨H9, I9, q9⟩ := pq54
   have again : ∀ {s' : Shared} {H' : Hp}, Inv (cxC X N scope fp s3 H3) ([] ++ pinsAt fp s7.heap) σ8 H' s' → (∃ m', m' < k ∧ W (i + 1) m' σ8 H') →
     ∃ m, m < k ∧ ∃ i σ' H', Inv (cxC X N scope fp s3 H3) [] σ' H' s' ∧ tn i s'.heap ∧ (∀ b ∈ fp, H' b = none) ∧ W i m σ' H' := fun {s' H'} I' pq55 => by
    obtain ⟨m', hm, w'⟩ := pq55
    refine ⟨m', hm, i + 1, σ8, H', I'.unpinned, TT.keep _ _ _ tn7 fun b hb o e => (I'.pin (b, o) (List.mem_append_right _ (List.mem_append_right _ (Qa3 hb e)))).1, fun b hb => ?_, w'⟩
    obtain ⟨o, e, d⟩ := TT.obj _ _ tn7 b hb
    exact (I'.pin (b, o) (List.mem_append_right _ (List.mem_append_right _ (Qa3 hb e)))).2.1
   cases ok with
   | false => exact again I9 q9
   | true =>
    refine thn (be _ s9 σ8 H9 _ I9 q9) fun xv s10 pq56 => ?_
    obtain ⟨v, H10, I10, r10, ys, hy, hz, q10⟩ := pq56
    refine thn (Qcl (X := cxC X N scope fp s3 H3) _ s10 σ8 H10 (.ref l) [v] (.ref l) [xv] (fun _ H' => H' = upd H10 l (.lst (ys ++ [v]))) I10 rfl (.cons r10 .nil) ⟨l, ys, v, rfl, rfl, hy, hz, rfl⟩) fun _ s11 pq57 => ?_
    obtain ⟨_, H11, I11, _, e⟩ := pq57
    subst e
    exact again I11 q10
 exact codeAny_compStart_list loop (TT.self _ 0 _ _ _ tn4 loop)
theorem QdO {elt target iter : Expr} {ifs : List Expr} {pos : Pos} {n : Nat} {ix : List Nat} {wi : TI} {g : TG} {tt : TT} {te : TE}
  (hc : X.calm = true) (S : CompScope X scope) (T : CompNames X scope N n ix) (hi : PI X target iter wi)
  (blk : ∀ (fp : List Addr) (s : Shared) (H : Hp), PG (cxC X N scope fp s H) target g ∧ PIfs (cxC X N scope fp s H) ifs tt ∧ PE (cxC X N scope fp s H) elt te)
  (hs : ∀ x, foldedSetIterable iter X.env x = pure x := by intro _; rfl) : PE X (.ListComp elt [⟨target, iter, ifs, 0⟩] scope pos) (tComp wi n ix g tt te) := by
 intro pins s σ H Q I h
 rw [eval_ListComp]
 refine QdN (use := none) hc S T hi blk hs I h fun l C H' s' I' q c => ?_
 obtain ⟨m, hn⟩ := c.ns
 exact ⟨m, hn, fun h' hs' => ⟨.ref l, H', c.go I' hs', rfl, q⟩⟩
theorem QdP {elt target iter : Expr} {ifs : List Expr} {pos pos' spos : Pos} {n i : Nat} {ix : List Nat} {wi : TI} {g : TG} {tt : TT} {te : TE} {x : Str}
  (hN : X.N.Nodup) (hi' : X.N[i]? = some x) (hx : L2.Loc X.env.scope x) (hf : X.fn x = true ∨ X.env.scope.names.lookup x = some .local)
  (hc : X.calm = true) (S : CompScope X scope) (T : CompNames X scope N n ix) (hi : PI X target iter wi)
  (blk : ∀ (fp : List Addr) (s : Shared) (H : Hp), PG (cxC X N scope fp s H) target g ∧ PIfs (cxC X N scope fp s H) ifs tt ∧ PE (cxC X N scope fp s H) elt te)
  (hsw : swapsWith (.ListComp elt [⟨target, iter, ifs, 0⟩] scope pos) (some (.Name x pos')) spos.line X.env = pure true)
  (hs : ∀ x, foldedSetIterable iter X.env x = pure x := by intro _; rfl) : PS X (.Assign [.Name x pos'] (.ListComp elt [⟨target, iter, ifs, 0⟩] scope pos) spos) (tAsg (tComp wi n ix g tt te) (gName i)) := by
 intro pins s σ H D I h
 rw [exec_Assign_Name_used _ _ _ _ hsw]
 refine wpAny_bind (wpAny_standAt (wpAny_bind ?_))
 show wpAny _ _ (comprehension (.ListComp elt [⟨target, iter, ifs, 0⟩] scope pos) scope X.env _ (newList []) false (eval iter X.env) (some (assign (.Name x pos') X.env)) >>= fun _ => pure ()) _ _ s
 refine wpAny_bind (wpAny_mono (QdN (use := some (assign (.Name x pos') X.env)) (Q := fun _ s' => SP X pins D .next s') hc S T hi blk hs I h fun l C H' s' I' q c => ?_) (fun _ s' hq => wpAny_pure (wpAny_pure hq)) fun _ _ e => e)
 obtain ⟨m, hn⟩ := c.ns
 refine wpAny_assign_Name (Qaq I' hN hi' hx (v := .ref l) rfl (fun s2 I2 ⟨b, hb, hb2⟩ => ?_) hf)
 have hbC : b ≠ C := by
  rcases hb2 with z | z
  ·rw [z]; exact c.loc.symm
  ·exact c.cell x b z
 refine ⟨m, hn.sameBut hb hbC.symm, fun h' hs' => ⟨_, H', ?_, q⟩⟩
 exact CFree.go ⟨⟨m, hn.sameBut hb hbC.symm⟩, c.free, c.loc, c.cell, c.sz, c.pin⟩ I2 hs'
end
end MM
namespace MM
open PySem PySem.Spec PyProof.Rows L2
section
variable {X : Cx} {a b c e : Expr} {es : List Expr} {pos : Pos} {fa fb fc : CE} {ca cb : CA} {K : PySem.W.Frag} {ρ : List Addr} {H : Hp} {st : Sto}
theorem QdQ {K : PySem.W.Frag} {g : D → D → M D} {x y : V} {H : Hp} {Q : VK} (hg : ∀ d e, (∃ i j, d = D.int i ∧ e = D.int j) ∨ g d e = bad) (h : rOf K g x y H Q) :
  ∃ (i j : Int) (ρ : List Addr) (st : Sto), x = .int i ∧ y = .int j ∧ SR K ρ H st ∧ Post K ρ H (g (.int i) (.int j) st) (fun r _ ρ' H' => ∀ v, Rep K ρ' H' v r → Q v H') := by
 obtain ⟨ρ, st, d, e, sr, rx, ry, p⟩ := h
 rcases hg d e with ⟨i, j, e1, e2⟩ | hb
 ·subst e1 e2; cases rx; cases ry; exact ⟨_, _, ρ, st, rfl, rfl, sr, p⟩
 ·rw [hb] at p; exact p.elim
theorem QdR : OpR X (binaryOp .Sub) (rOf X.K subD) := Qa8.of fun x y H Q h => by
 obtain ⟨i, j, ρ, st, rfl, rfl, sr, p⟩ := QdQ (by intro d e; cases d <;> cases e <;> first | exact .inl ⟨_, _, rfl, rfl⟩ | exact .inr rfl) h
 exact ⟨_, _, rfl, rfl, p.ret sr _ (.int _)⟩
theorem QdS : OpR X (binaryOp .Mult) (rOf X.K mulD) := Qa9.of fun x y H Q h => by
 obtain ⟨i, j, ρ, st, rfl, rfl, sr, p⟩ := QdQ (by intro d e; cases d <;> cases e <;> first | exact .inl ⟨_, _, rfl, rfl⟩ | exact .inr rfl) h
 exact ⟨_, _, rfl, rfl, p.chk.1, p.chk.2.ret sr _ (.int _)⟩
theorem QdT : OpR X (binaryOp .FloorDiv) (rOf X.K fdivD) := Qba.of fun x y H Q h => by
 obtain ⟨i, j, ρ, st, rfl, rfl, sr, p⟩ := QdQ (by intro d e; cases d <;> cases e <;> first | exact .inl ⟨_, _, rfl, rfl⟩ | exact .inr rfl) h
 exact ⟨_, _, rfl, rfl, p.chk.1, p.chk.2.ret sr _ (.int _)⟩
theorem QdU : OpR X (binaryOp .Mod) (rOf X.K modD) := Qbb.of fun x y H Q h => by
 obtain ⟨i, j, ρ, st, rfl, rfl, sr, p⟩ := QdQ (by intro d e; cases d <;> cases e <;> first | exact .inl ⟨_, _, rfl, rfl⟩ | exact .inr rfl) h
 exact ⟨_, _, rfl, rfl, p.chk.1, p.chk.2.ret sr _ (.int _)⟩
theorem QdV : OpR X (binaryOp .Pow) (rOf X.K powD) := Qbc.of fun x y H Q h => by
 obtain ⟨i, j, ρ, st, rfl, rfl, sr, p⟩ := QdQ (by intro d e; cases d <;> cases e <;> first | exact .inl ⟨_, _, rfl, rfl⟩ | exact .inr rfl) h
 exact ⟨_, _, rfl, rfl, p.chk.1, p.chk.2.ret sr _ (.int _)⟩
theorem QdW : OpR X (compareOp .Lt) (rOf X.K ltD) := Qbe.of fun x y H Q h => by
 obtain ⟨i, j, ρ, st, rfl, rfl, sr, p⟩ := QdQ (by intro d e; cases d <;> cases e <;> first | exact .inl ⟨_, _, rfl, rfl⟩ | exact .inr rfl) h
 exact ⟨_, _, rfl, rfl, p.ret sr _ (.bl _)⟩
theorem QdX : OpR X (compareOp .LtE) (rOf X.K leD) := Qbf.of fun x y H Q h => by
 obtain ⟨i, j, ρ, st, rfl, rfl, sr, p⟩ := QdQ (by intro d e; cases d <;> cases e <;> first | exact .inl ⟨_, _, rfl, rfl⟩ | exact .inr rfl) h
 exact ⟨_, _, rfl, rfl, p.ret sr _ (.bl _)⟩
theorem QdY : OpR X (compareOp .Gt) (rOf X.K gtD) := Qbg.of fun x y H Q h => by
 obtain ⟨i, j, ρ, st, rfl, rfl, sr, p⟩ := QdQ (by intro d e; cases d <;> cases e <;> first | exact .inl ⟨_, _, rfl, rfl⟩ | exact .inr rfl) h
 exact ⟨_, _, rfl, rfl, p.ret sr _ (.bl _)⟩
theorem QdZ : OpR X (compareOp .GtE) (rOf X.K geD) := Qbh.of fun x y H Q h => by
 obtain ⟨i, j, ρ, st, rfl, rfl, sr, p⟩ := QdQ (by intro d e; cases d <;> cases e <;> first | exact .inl ⟨_, _, rfl, rfl⟩ | exact .inr rfl) h
 exact ⟨_, _, rfl, rfl, p.ret sr _ (.bl _)⟩
theorem Qd0 : SA X [] cNil := QbC.of fun σ H Q h_ => h_.el fun ρ l st lr sr p => p.ret sr [] .nil
theorem Qd1 (ha : SE X e fa) (hr : SA X es ca) (hs : starEach (e :: es) X.env = (false, eval e X.env) :: starEach es X.env := by rfl) : SA X (e :: es) (cCons fa ca) :=
 (QbD ha hr hs).of fun σ H Q h_ => h_.el fun ρ l st lr sr p => ⟨ρ, l, st, lr, sr, p.bnd.imp fun d st1 ρ1 H1 x1 s1 p1 v rv => ⟨ρ1, l, st1, lr.mono x1, s1, p1.bnd.imp fun ds st2 ρ2 H2 x2 s2 p2 vs rvs => p2.ret s2 _ (.cons (rv.mono x2) rvs)⟩⟩
theorem Qd2 {k : Nat} (h : SA X es ca) : SE X (.Tuple es k pos) (cTup ca) := (QbE h).of fun σ H Q h_ => h_.el fun ρ l st lr sr p => ⟨ρ, l, st, lr, sr, p.bnd.imp fun ds st1 ρ1 H1 x1 s1 p1 vs rvs => by
 obtain ⟨hl, p2⟩ := p1.chk
 refine ⟨by rw [rvs.length]; exact hl, fun q hq => ?_⟩
 exact p2 ρ1 _ (Ex.new hq) (s1.new hq) _ (.tup (SqT.of Qai) (rvs.mono (Ex.new hq)))⟩
theorem Qd3 (h : SA X es ca) : SL X (.List es pos) (aDisp ca) := (QbF h).of fun σ H Q h_ => h_.el fun ρ l st lr sr p => ⟨ρ, l, st, lr, sr, p.bnd.imp fun ds st1 ρ1 H1 x1 s1 p1 vs rvs => by
 obtain ⟨hl, p2⟩ := p1.chk
 refine ⟨by rw [rvs.length]; exact hl, fun q hq => ?_⟩
 have hn : H q = none := by
  cases z : H q with
  | none => rfl
  | some o => exact absurd hq (x1.trk q o z)
 exact p2 ρ1 _ (Ex.new hq) (s1.new hq) q vs hn (s1.fresh hq) Qai (rvs.mono (Ex.new hq))⟩
theorem Post.bnd0 {α β : Type} {m : M α} {f : α → M β} {R : β → Sto → List Addr → Hp → Prop} (h : Post K ρ H (MM.bnd m f st) R) : Post K ρ H (m st) fun a st' _ _ => Post K ρ H (f a st') R := by
 unfold MM.bnd at h
 cases e : m st with
 | ok a s' =>
  rw [e] at h
  exact fun ρ' H' y s => h
 | exc _ _ => rw [e] at h; exact h
 | bad => rw [e] at h; exact h
theorem Qd4 (h : SL X e ca) : SE X e (cKeep ca) := h.of fun σ H Q h_ => h_.el fun ρ l st lr sr p => ⟨ρ, l, st, lr, sr, p.bnd0.imp fun ds st1 ρ1 H1 x1 s1 p1 a vs ha na hv rvs => by
 have x : Ex ρ H (ρ1 ++ [a]) H1 := by
  obtain ⟨τ, e, f⟩ := x1.pre
  refine ⟨⟨τ ++ [a], by rw [e, List.append_assoc], fun b hb => ?_⟩, x1.fix, x1.oth, x1.knd⟩
  rcases List.mem_append.mp hb with hb | hb
  ·exact f b hb
  ·rw [List.mem_singleton] at hb; rw [hb]; exact ha
 refine p1 (ρ1 ++ [a]) H1 x (s1.keep hv na rvs) _ (.ref ⟨_, hv, rfl⟩ ?_)
 rw [← s1.len]; simp⟩
theorem _root_.L2.IxR.of {r r' : R2} (h : IxR X r) (g : ∀ x y H Q, r' x y H Q → r x y H Q) : IxR X r' := fun value slice pins s σ H x y v u Q I rx ry q hs => h value slice pins s σ H x y v u Q I rx ry (g x y H Q q) hs
theorem Post.item {ds : List D} {i : Int} {R : D → Sto → List Addr → Hp → Prop} (h : Post K ρ H (itemD ds i st) R) (s : SR K ρ H st) : ∃ k d, L2.ixN ds.length i = some k ∧ ds[k]? = some d ∧ R d st ρ H := by
 unfold itemD at h
 cases e : MM.ixN ds.length i with
 | none => rw [e] at h; exact h.elim
 | some k =>
  rw [e] at h
  cases e2 : ds[k]? with
  | none => dsimp only at h; rw [e2] at h; exact h.elim
  | some d => dsimp only at h; rw [e2] at h; exact ⟨k, d, e, e2, h.ret s⟩
theorem Qd5 {vs : List V} {ds : List D} {i : Int} {k : Nat} {d : D} (r : Reps K ρ H vs ds) (h1 : L2.ixN ds.length i = some k) (h2 : ds[k]? = some d) : ∃ v, atI vs i = some v ∧ Rep K ρ H v d := by
 obtain ⟨v, e, rv⟩ := r.get h2
 refine ⟨v, ?_, rv⟩
 unfold atI
 rw [r.length, h1]
 exact e
theorem Post.itemK {n : Nat} {k : D} {R : D → Sto → List Addr → Hp → Prop} (h : Post K ρ H (MM.itemK n k st) R) (s : SR K ρ H st) : ∃ b kvs d, st[n]? = some (.dct b kvs) ∧ kOk b k = true ∧ lkK kvs k = some d ∧ R d st ρ H := by
 obtain ⟨b, kvs, e, p1⟩ := Post.getDc (Post.bnd h) s
 obtain ⟨hk, p2⟩ := Post.chk p1
 cases e2 : lkK kvs k with
 | none => dsimp only at p2; rw [e2] at p2; exact p2.elim
 | some d => dsimp only at p2; rw [e2] at p2; exact ⟨b, kvs, d, e, hk, e2, p2.ret s⟩
theorem ObR.dictIs {X : Cx} {pins : List (Addr × Obj)} {σ : St} {s : Shared} {a : Addr} {b : Bool} {kvs : List (D × D)} (I : Inv X pins σ H s) (g : ObR X.K ρ H a (.dct b kvs)) : s.TypeIs (.ref a) "dict" := by
 cases b with
 | false =>
  obtain ⟨es, e, r⟩ := g
  obtain ⟨_, _, vs, _, dd⟩ := QcF I.hok e
  exact dd.typeIs
 | true =>
  obtain ⟨es, e, r⟩ := g
  obtain ⟨_, _, xs, _, dd⟩ := Qdo I e r
  exact dd.typeIs
theorem Qd6 (hu : X.A.units + 60 < cLine) : IxR X (fun x y H Q => ∃ (ρ : List Addr) (st : Sto) (n : Nat) (a : Addr) (b : Bool) (kvs : List (D × D)) (k d : D), x = .ref a ∧ SR X.K ρ H st ∧ ρ[n]? = some a ∧ st[n]? = some (.dct b kvs) ∧ Rep X.K ρ H y k ∧ kOk b k = true ∧ lkK kvs k = some d ∧ ∀ v, Rep X.K ρ H v d → Q v H) := by
 intro value slice pins s σ H x y v u Q I rx ry pq113 hs; obtain ⟨ρ, st, n, a, b, kvs, k, d, ex, sr, ha, hn, rk, hk, hl, q⟩ := pq113
 subst ex
 cases rx
 have g := sr.ob n a _ ha hn
 exact tail_any (ObR.dictIs I g) PySem.F.slot_dict_getitem.lookup (Qds (by ac_nf) I g rk hk hl ry fun v w' s' I' rv rw' => ⟨v, H, I', rw', q v rv⟩) hs
theorem Qd7 {x y : V} {d e : D} {Q : VK} (sr : SR K ρ H st) (rx : Rep K ρ H x d) (ry : Rep K ρ H y e) (hd : ∀ n, d ≠ .dic n) (p : Post K ρ H (subsD d e st) fun r _ ρ' H' => ∀ v, Rep K ρ' H' v r → Q v H') : rIx K x y H Q := by
 cases ry with
 | int i =>
  cases rx with
  | dic _ _ => exact absurd rfl (hd _)
  | tup h r =>
   obtain ⟨k, d, h1, h2, q⟩ := Post.item p sr
   obtain ⟨v, h3, rv⟩ := Qd5 r h1 h2
   exact .inr (.inl ⟨_, _, i, v, rfl, rfl, h, h3, q v rv⟩)
  | lit h r =>
   obtain ⟨k, d, h1, h2, q⟩ := Post.item p sr
   obtain ⟨v, h3, rv⟩ := Qd5 r h1 h2
   exact .inl ⟨_, _, i, v, rfl, rfl, h.seq, h3, q v rv⟩
  | ref _ h =>
   obtain ⟨xs, e, p1⟩ := Post.getL (Post.bnd p) sr
   obtain ⟨a, vs, ha, hv, r⟩ := sr.seq e
   rw [h] at ha; cases ha
   obtain ⟨k, d, h1, h2, q⟩ := Post.item p1 sr
   obtain ⟨v, h3, rv⟩ := Qd5 r h1 h2
   exact .inl ⟨_, _, i, v, rfl, rfl, SqL.of hv, h3, q v rv⟩
  | str z =>
   obtain ⟨hz, p1⟩ := Post.chk p
   cases e : MM.ixN z.length i with
   | none => rw [e] at p1; exact p1.elim
   | some k =>
    rw [e] at p1
    cases e2 : z.cps.toList[k]? with
    | none => dsimp only at p1; rw [e2] at p1; exact p1.elim
    | some c =>
     dsimp only at p1
     rw [e2] at p1
     refine .inr (.inr ⟨z, i, c, rfl, rfl, hz, ?_, p1.ret sr _ (.str _)⟩)
     unfold atI
     rw [show z.cps.toList.length = z.length by simp [Str.length]]
     show (L2.ixN z.length i).bind _ = _
     rw [show L2.ixN z.length i = some k from e]
     exact e2
  | _ => exact p.elim
 | _ => cases rx <;> first | exact absurd rfl (hd _) | exact p.elim
theorem ixd (hu : X.A.units + 60 < cLine) : IxR X (rOf X.K subsD) := (Qb2.or (Qd6 hu)).of fun x y H Q pq59 => by
 obtain ⟨ρ, st, d, e, sr, rx, ry, p⟩ := pq59
 by_cases hd : ∃ n, d = .dic n
 ·obtain ⟨n, rfl⟩ := hd
  cases rx with
  | @dic a n _ h =>
   have p' : Post X.K ρ H (itemK n e st) fun r _ ρ' H' => ∀ (v : V), Rep X.K ρ' H' v r → Q v H' := by cases ry <;> exact p
   obtain ⟨b, kvs, d, e1, hk, hl, q⟩ := Post.itemK p' sr
   exact .inr ⟨ρ, st, n, a, b, kvs, e, d, rfl, sr, h, e1, ry, hk, hl, q⟩
 ·exact .inl (Qd7 sr rx ry (fun n z => hd ⟨n, z⟩) p)
theorem Qd8 (hu : X.A.units + 60 < cLine) (ha : SE X a fa) (hb : SE X b fb) (hs : PlainIx b) : SE X (.Subscript a b pos) (c2 subsD fa fb) := (QbY (ixd hu) ha hb hs).of (Qc7 fun _ _ _ _ h => h)
theorem Qd9 (ha : SL X a ca) (hb : SE X b fb) (hs : PlainIx b) : SE X (.Subscript a b pos) (cTmpSub ca fb) := (QbY QbZ ha hb hs).of fun σ H Q h_ => h_.el fun ρ l st lr sr p =>
 ⟨ρ, l, st, lr, sr, p.bnd.imp fun ds st1 ρ1 H1 x1 s1 p1 a vs ha na hv rvs => ⟨ρ1, l, st1, lr.mono x1, s1, p1.bnd.imp fun e st2 ρ2 H2 x2 s2 p2 u ru => by
  cases ru with
  | int i =>
   obtain ⟨k, d, h1, h2, q⟩ := Post.item p2 s2
   obtain ⟨v, h3, rv⟩ := Qd5 (rvs.mono x2) h1 h2
   exact ⟨a, vs, i, v, rfl, rfl, SqL.of (x2.lst a vs na hv), h3, q v rv⟩
  | _ => exact p2.elim⟩⟩
theorem Qea {CX : CXT} {k n : Nat} {f : Addr} {fd : FuncData} {ps : List Str} {g : List D → M D} {x : Str} {p : Pos} (F : FnOk X.prog X.w X.K X.mg X.base CX k f fd ps (spOf X.K n g)) (hr : Room k X.A) (hg : Gl X x) (hm : X.mg x = some (.ref f))
  (hk : PySem.W.keepIn X.K (.ref f) = true) (hb : Binds X.K fd ps []) (hx : Passes CX X E0) (ha : SA X (e :: es) ca) (hn : ∀ l st ds st', ca l st = .ok ds st' → ds.length = n) (hdb : (x == ("__debug__" : Str)) = false := by decide)
  (he : starEach (e :: es) X.env = (false, eval e X.env) :: starEach es X.env := by rfl) (hpl : (backTo pos (starEach es X.env)).any (·.1) = false := by rfl) : SE X (.Call (.Name x p) (e :: es) [] pos) (cCall g ca) :=
 (QbH F hr hg hm hk hb .nil hx ha hdb he hpl).of fun σ H Q h_ => h_.el fun ρ l st lr sr p => ⟨ρ, l, st, lr, sr, by
  have q := Post.bnd p
  cases ec : ca l st with
  | bad => rw [ec] at q; exact q
  | exc _ _ => rw [ec] at q; exact q
  | ok ds st1 =>
   rw [ec] at q
   intro ρ1 H1 x1 s1 vs rvs
   refine ⟨by rw [List.append_nil, rvs.length]; exact hn l st ds st1 ec, ρ1, st1, ds, s1, by rw [List.append_nil]; exact rvs, q ρ1 H1 x1 s1⟩⟩
variable {ta tb : CT}
theorem Qeb {d : D} {v : V} {R : Bool → Sto → List Addr → Hp → Prop} (p : Post K ρ H (truD d st) R) (sr : SR K ρ H st) (rv : Rep K ρ H v d) : ∃ k, TruV K v H k ∧ R k st ρ H := by
 cases rv with
 | non => exact ⟨false, rfl, p.ret sr⟩
 | bl b => exact ⟨b, rfl, p.ret sr⟩
 | int i => exact ⟨_, rfl, p.ret sr⟩
 | str x => exact ⟨_, ⟨(Post.chk p).1, rfl⟩, (Post.chk p).2.ret sr⟩
 | @tup a vs ds h r =>
  refine ⟨!vs.isEmpty, .inr (.inl ⟨vs, h, rfl⟩), ?_⟩
  have : vs.isEmpty = ds.isEmpty := by
   have := r.length
   cases vs <;> cases ds <;> simp_all
  rw [this]; exact p.ret sr
 | @lit a vs ds h r =>
  refine ⟨!vs.isEmpty, .inl ⟨vs, h.seq, rfl⟩, ?_⟩
  have : vs.isEmpty = ds.isEmpty := by
   have := r.length
   cases vs <;> cases ds <;> simp_all
  rw [this]; exact p.ret sr
 | ref _ h =>
  obtain ⟨ds, e, p1⟩ := Post.getL (Post.bnd p) sr
  obtain ⟨a, vs, ha, hv, r⟩ := sr.seq e
  rw [h] at ha; cases ha
  refine ⟨!vs.isEmpty, .inl ⟨vs, SqL.of hv, rfl⟩, ?_⟩
  have : vs.isEmpty = ds.isEmpty := by
   have := r.length
   cases vs <;> cases ds <;> simp_all
  rw [this]; exact p1.ret sr
 | dic _ _ => exact p.elim
theorem Qec (ha : SE X a fa) (he : ∀ whole, isTrue a X.env whole = (do let v ← whole; standAt a.pos; holding [v] (truthy v)) := by intro _; rfl) : ST X a (tVal fa) :=
 (Qbt ha he).of fun σ H Q h_ => h_.el fun ρ l st lr sr p => ⟨ρ, l, st, lr, sr, p.bnd.imp fun d st1 ρ1 H1 x1 s1 p1 v rv => Qeb p1 s1 rv⟩
theorem Qed {op : CmpOp} {g : D → D → M D} (ho : OpR X (compareOp op) (rOf X.K g)) (ha : SE X a fa) (hb : SE X b fb) (hm : behindInMarks op b = false) : ST X (.Compare a [op] [b] pos) (tCmpB (c2 g fa fb)) :=
 (Qbm ho ha hb hm).of fun σ H Q h_ => h_.el fun ρ l st lr sr p => Qc7 (X := X) (fun _ _ _ _ h => h) _ _ _ ⟨ρ, l, st, lr, sr, p.bnd.imp fun d st1 ρ1 H1 x1 s1 p1 v rv => by
  cases rv with
  | bl k => exact ⟨k, rfl, p1.ret s1⟩
  | _ => exact p1.elim⟩
theorem Qee (ha : ST X a ta) : PW X (.BoolOp .And [a] pos) (ttOf X.K ta) := QaA ha
theorem Qef (ha : ST X a ta) : PW X (.BoolOp .Or [a] pos) (ttOf X.K ta) := QaB ha
theorem _root_.L2.PW.of {e : Expr} {t t' : TT} (h : PW X e t) (f : ∀ σ H Q, t' σ H Q → t σ H Q) : PW X e t' := fun whole pins s σ H Q I q => h whole pins s σ H Q I (f σ H Q q)
theorem Qeg {rest : List Expr} (ha : ST X a ta) (hb : PW X (.BoolOp .And (b :: rest) pos) (ttOf X.K tb)) : PW X (.BoolOp .And (a :: b :: rest) pos) (ttOf X.K (tAndB ta tb)) :=
 (QaC ha hb).of fun σ H Q h_ => h_.el fun ρ l st lr sr p => ⟨ρ, l, st, lr, sr, p.bnd.imp fun c st1 ρ1 H1 x1 s1 p1 => by
  cases c with
  | true => exact ⟨ρ1, l, st1, lr.mono x1, s1, p1⟩
  | false => exact p1.ret s1⟩
theorem Qeh {rest : List Expr} (ha : ST X a ta) (hb : PW X (.BoolOp .Or (b :: rest) pos) (ttOf X.K tb)) : PW X (.BoolOp .Or (a :: b :: rest) pos) (ttOf X.K (tOrB ta tb)) :=
 (QaD ha hb).of fun σ H Q h_ => h_.el fun ρ l st lr sr p => ⟨ρ, l, st, lr, sr, p.bnd.imp fun c st1 ρ1 H1 x1 s1 p1 => by
  cases c with
  | true => exact p1.ret s1
  | false => exact ⟨ρ1, l, st1, lr.mono x1, s1, p1⟩⟩
theorem Qei (ha : ST X a ta) : ST X (.UnaryOp .Not a pos) (tNotB ta) := (QaE ha).of fun σ H Q h_ => h_.el fun ρ l st lr sr p => ⟨ρ, l, st, lr, sr, p.bnd.imp fun c st1 ρ1 H1 x1 s1 p1 => p1.ret s1⟩
theorem Qej {op : BoolOp} (h : SE X a fa) : SE X (.BoolOp op [a] pos) fa := QaF h
theorem Qek {rest : List Expr} (ha : SE X a fa) (hb : SE X (.BoolOp .And (b :: rest) pos) fb) : SE X (.BoolOp .And (a :: b :: rest) pos) (cAnd fa fb) :=
 (QaG ha hb).of fun σ H Q h_ => h_.el fun ρ l st lr sr p => ⟨ρ, l, st, lr, sr, p.bnd.imp fun d st1 ρ1 H1 x1 s1 p1 v rv => by
  cases rv with
  | bl c =>
   refine ⟨c, rfl, ?_⟩
   cases c with
   | true => exact ⟨ρ1, l, st1, lr.mono x1, s1, p1⟩
   | false => exact p1.ret s1 _ (.bl false)
  | _ => exact p1.elim⟩
theorem Qel {rest : List Expr} (ha : SE X a fa) (hb : SE X (.BoolOp .Or (b :: rest) pos) fb) : SE X (.BoolOp .Or (a :: b :: rest) pos) (cOr fa fb) :=
 (QaH ha hb).of fun σ H Q h_ => h_.el fun ρ l st lr sr p => ⟨ρ, l, st, lr, sr, p.bnd.imp fun d st1 ρ1 H1 x1 s1 p1 v rv => by
  cases rv with
  | bl c =>
   refine ⟨c, rfl, ?_⟩
   cases c with
   | true => exact p1.ret s1 _ (.bl true)
   | false => exact ⟨ρ1, l, st1, lr.mono x1, s1, p1⟩
  | _ => exact p1.elim⟩
theorem Qem {f g : D → D → M D} : ∀ σ H Q, tOf X.K (cChain f g fa fb fc) σ H Q → tChain (rOf X.K f) (rOf X.K g) (tOf X.K fa) (tOf X.K fb) (tOf X.K fc) σ H Q := fun σ H Q h_ => h_.el fun ρ l st lr sr p =>
 ⟨ρ, l, st, lr, sr, p.bnd.imp fun d st1 ρ1 H1 x1 s1 p1 v rv => ⟨ρ1, l, st1, lr.mono x1, s1, p1.bnd.imp fun e st2 ρ2 H2 x2 s2 p2 u ru => ⟨ρ2, st2, d, e, s2, rv.mono x2, ru, p2.bnd.imp fun z st3 ρ3 H3 x3 s3 p3 w rw' => by
  cases rw' with
  | bl k =>
   refine ⟨k, rfl, ?_⟩
   cases k with
   | true => exact ⟨ρ3, l, st3, (lr.mono x1).mono (x2.trans x3), s3, p3.bnd.imp fun t st4 ρ4 H4 x4 s4 p4 q rq => ⟨ρ4, st4, e, t, s4, (ru.mono x3).mono x4, rq, p4⟩⟩
   | false => exact p3.ret s3 _ (.bl false)
  | _ => exact p3.elim⟩⟩⟩
theorem Qen {op op' : CmpOp} {f g : D → D → M D} (ho : OpR X (compareOp op) (rOf X.K f)) (ho' : OpR X (compareOp op') (rOf X.K g)) (ha : SE X a fa) (hb : SE X b fb) (hc : SE X c fc)
  (hm : lastMarks [op, op'] [b, c] = false := by with_unfolding_all rfl) : SE X (.Compare a [op, op'] [b, c] pos) (cChain f g fa fb fc) := (Qbn ho ho' ha hb hc hm).of Qem
theorem Qeo {op op' : CmpOp} {f g : D → D → M D} (ho : OpR X (compareOp op) (rOf X.K f)) (ho' : OpR X (compareOp op') (rOf X.K g)) (ha : SE X a fa) (hb : SE X b fb) (hc : SE X c fc)
  (hm : lastMarks [op, op'] [b, c] = false := by with_unfolding_all rfl) : ST X (.Compare a [op, op'] [b, c] pos) (tCmpB (cChain f g fa fb fc)) :=
 (Qbo ho ho' ha hb hc hm).of fun σ H Q h_ => h_.el fun ρ l st lr sr p => Qem _ _ _ ⟨ρ, l, st, lr, sr, p.bnd.imp fun d st1 ρ1 H1 x1 s1 p1 v rv => by
  cases rv with
  | bl k => exact ⟨k, rfl, p1.ret s1⟩
  | _ => exact p1.elim⟩
end
end MM
namespace MM
open PySem PySem.Spec PyProof.Rows L2
theorem LR.set {K : PySem.W.Frag} {ρ : List Addr} {H : Hp} {σ : St} {l : Loc} {v : V} {d : D} (h : LR K ρ H σ l) (i : Nat) (r : Rep K ρ H v d) : LR K ρ H (σ.set i (some v)) (l.set i (some d)) := by
 refine ⟨by simp [h.1], fun j e q => ?_⟩
 by_cases z : i = j
 ·subst z
  by_cases hl : i < l.length
  ·rw [List.getElem?_set_self hl] at q
   cases q
   exact ⟨v, by rw [List.getElem?_set_self (by rw [h.1]; exact hl)], r⟩
  ·rw [List.getElem?_eq_none (by simp; ac_nf)] at q; cases q
 ·rw [List.getElem?_set_ne z] at q
  obtain ⟨w, e1, r1⟩ := h.2 j e q
  exact ⟨w, by rw [List.getElem?_set_ne z]; exact e1, r1⟩
theorem LR.start {K : PySem.W.Frag} {ρ : List Addr} {H : Hp} {N : List Str} {vs : List V} {ds : List D} (r : Reps K ρ H vs ds) : LR K ρ H (L2.start N vs) (ds.map some ++ List.replicate (N.length - ds.length) none) := by
 have hl := r.length
 unfold L2.start
 refine ⟨by simp [hl], fun i d e => ?_⟩
 by_cases hi : i < ds.length
 ·rw [List.getElem?_append_left (by simpa using hi), List.getElem?_map] at e
  cases q : ds[i]? with
  | none => rw [q] at e; cases e
  | some d' =>
   rw [q] at e
   have e' : d' = d := Option.some.inj (Option.some.inj e)
   subst e'
   obtain ⟨v, hv, rv⟩ := r.get q
   refine ⟨v, ?_, rv⟩
   rw [List.getElem?_append_left (by simp; ac_nf), List.getElem?_map, hv]; rfl
 ·rw [List.getElem?_append_right (by simpa using hi), List.getElem?_replicate] at e
  split at e <;> cases e
section
variable {X : Cx} {a b c e tg : Expr} {es : List Expr} {s : Stmt} {ss : List Stmt} {pos : Pos} {fa fb fc : CE} {ca cb : CA} {ta tb : CT} {cs cr : CS} {K : PySem.W.Frag} {ρ : List Addr} {H : Hp} {st : Sto}
abbrev SG (X : Cx) (e : Expr) (g : CG) : Prop := PG X e (tgOf X.K g)
abbrev SGs (X : Cx) (e : List Expr) (g : List D → Loc → M Loc) : Prop := PGs X e (tgsOf X.K g)
theorem Qep {i : Nat} {x : Str} (h : PG X (.Name x pos) (gName i)) : SG X (.Name x pos) (gVar i) := h.of fun v σ H Q pq60 => by obtain ⟨ρ, l, st, d, lr, sr, rv, p⟩ := pq60; exact p.ret sr _ (lr.set i rv)
theorem Qeq : SGs X [] gsNil := QaO.of fun vs σ H Q pq61 => by
 obtain ⟨ρ, l, st, ds, lr, sr, rvs, p⟩ := pq61
 cases rvs with
 | nil => exact ⟨rfl, p.ret sr σ lr⟩
 | cons _ _ => exact p.elim
theorem Qer {g : CG} {r : List D → Loc → M Loc} (h1 : SG X e g) (h2 : SGs X es r) (hs : (assignEach (e :: es) X.env).map (·.2) = assign e X.env :: (assignEach es X.env).map (·.2) := by rfl) : SGs X (e :: es) (gsCons g r) :=
 (QaP h1 h2 hs).of fun vs σ H Q pq62 => by
  obtain ⟨ρ, l, st, ds, lr, sr, rvs, p⟩ := pq62
  cases rvs with
  | nil => exact p.elim
  | cons rv rt => exact ⟨_, _, rfl, ρ, l, st, _, lr, sr, rv, (Post.bnd p).imp fun l1 st1 ρ1 H1 x1 s1 p1 σ1 lr1 => ⟨ρ1, l1, st1, _, lr1, s1, rt.mono x1, p1⟩⟩
theorem Qes {k n : Nat} {r : List D → Loc → M Loc} (hc : X.calm = true) (h : SGs X es r) (hn : (assignEach es X.env).length = n := by rfl) (hst : (assignEach es X.env).findIdx? (·.1) = none := by rfl) : SG X (.Tuple es k pos) (gTupD n r) :=
 (QaQ hc h hn hst).of fun v σ H Q pq63 => by
  obtain ⟨ρ, l, st, d, lr, sr, rv, p⟩ := pq63
  cases rv with
  | tup h r => exact ⟨_, _, rfl, h, by rw [r.length]; exact (Post.chk p).1, ρ, l, st, _, lr, sr, r, (Post.chk p).2⟩
  | _ => exact p.elim
theorem Qet : SSs X [] sNext := QaI.of fun G σ H h_ => h_.el fun ρ l st lr sr p => p.ret sr σ lr
theorem Qeu (h1 : SS X s cs) (h2 : SSs X ss cr) : SSs X (s :: ss) (sSeq cs cr) := (QaJ h1 h2).of fun G σ H h_ => h_.el fun ρ l st lr sr p => ⟨ρ, l, st, lr, sr, p.bnd.imp fun f st1 ρ1 H1 x1 s1 p1 => by
 cases f with
 | next l' => exact fun σ' lr' => ⟨ρ1, l', st1, lr', s1, p1⟩
 | ret d => exact p1.ret s1
 | brk l' => exact p1.ret s1
 | cnt l' => exact p1.ret s1⟩
theorem Qev : SS X s sBad := QaM.of fun G σ H h_ => h_.el fun ρ l st lr sr p => p.elim
theorem Qew (h : SE X e fa) : SS X (.Return (some e) pos) (sRet fa) := (QaK h).of fun G σ H h_ => h_.el fun ρ l st lr sr p => ⟨ρ, l, st, lr, sr, p.bnd.imp fun d st1 ρ1 H1 x1 s1 p1 v rv => p1.ret s1 v rv⟩
theorem Qex (hc : ST X c ta) (ha : SSs X ss cs) {sr : List Stmt} (hb : SSs X sr cr) : SS X (.If c ss sr pos) (sIf ta cs cr) := (QaL hc ha hb).of fun G σ H h_ => h_.el fun ρ l st lr sr p =>
 ⟨ρ, l, st, lr, sr, p.bnd.imp fun k st1 ρ1 H1 x1 s1 p1 => by
  cases k with
  | true => exact ⟨ρ1, l, st1, lr.mono x1, s1, p1⟩
  | false => exact ⟨ρ1, l, st1, lr.mono x1, s1, p1⟩⟩
theorem Qey {g : CG} {te : TE} {tg : TG} (he : ∀ σ H Q, tOf X.K fa σ H Q → te σ H Q) (hg : ∀ v σ H Q, tgOf X.K g v σ H Q → tg v σ H Q) : ∀ G σ H, tsOf X.K (sAsg g fa) G σ H → tAsg te tg G σ H := fun G σ H h_ => h_.el fun ρ l st lr sr p =>
 he _ _ _ ⟨ρ, l, st, lr, sr, p.bnd.imp fun d st1 ρ1 H1 x1 s1 p1 v rv => hg _ _ _ _ ⟨ρ1, l, st1, d, lr.mono x1, s1, rv, p1.bnd.imp fun l2 st2 ρ2 H2 x2 s2 p2 σ2 lr2 => p2.ret s2 σ2 lr2⟩⟩
theorem Qez {i : Nat} : ∀ v σ H Q, tgOf X.K (gVar i) v σ H Q → gName i v σ H Q := fun v σ H Q pq64 => by obtain ⟨ρ, l, st, d, lr, sr, rv, p⟩ := pq64; exact p.ret sr _ (lr.set i rv)
theorem QeA {i : Nat} {x : Str} {pos' : Pos} (hN : X.N.Nodup) (hi : X.N[i]? = some x) (hx : L2.Loc X.env.scope x) (he : SE X e fa) (hs : swapsWith e (some (.Name x pos')) pos.line X.env = pure false := by rfl)
  (hf : X.fn x = true ∨ X.env.scope.names.lookup x = some .local := by first | exact .inl rfl | exact .inr rfl | assumption) : SS X (.Assign [.Name x pos'] e pos) (sAsg (gVar i) fa) :=
 (QaT hN hi hx he hs hf).of (Qey (fun _ _ _ h => h) Qez)
theorem QeB {g : CG} (he : SE X e fa) (hg : SG X tg g) (hs : swapsWithSole [tg] e pos.line X.env = pure false := by rfl) (hw : swappedStores [tg] e X.env = pure none := by rfl)
  (h1 : (assignEach [tg] X.env).map (·.2) = [assign tg X.env] := by rfl) : SS X (.Assign [tg] e pos) (sAsg g fa) := (QaS he hg hs hw h1).of (Qey (fun _ _ _ h => h) fun _ _ _ _ h => h)
theorem Post.storeK {n : Nat} {k v : D} {R : Unit → Sto → List Addr → Hp → Prop} (h : Post K ρ H (MM.storeK n k v st) R) (s : SR K ρ H st) : ∃ b kvs, st[n]? = some (.dct b kvs) ∧ kOk b k = true ∧ kvs.length < lim ∧ Post K ρ H (.ok () (st.set n (.dct b (ptK kvs k v)))) R := by
 obtain ⟨b, kvs, e, p1⟩ := Post.getDc (Post.bnd h) s
 obtain ⟨⟨hk, hl⟩, p2⟩ := Post.chk p1
 refine ⟨b, kvs, e, hk, hl, ?_⟩
 unfold putDc at p2
 rw [e] at p2
 simpa using p2
noncomputable def rSetD (X : Cx) : V → V → V → Hp → (Hp → Prop) → Prop := fun o i v H Q => ∃ (ρ : List Addr) (st : Sto) (n : Nat) (a : Addr) (b : Bool) (kvs : List (D × D)) (k d : D), o = .ref a ∧ SR X.K ρ H st ∧ ρ[n]? = some a ∧ st[n]? = some (.dct b kvs) ∧ Rep X.K ρ H i k ∧ kOk b k = true ∧ kvs.length < sizeLine ∧ Rep X.K ρ H v d ∧
 ∀ H', SR X.K ρ H' (st.set n (.dct b (ptK kvs k d))) → Ex ρ H ρ H' → Q H'
theorem QeC (hu : X.A.units + 60 < cLine) : PSet X (rSetD X) := by
 intro pins s σ H o i v ov iv u Q I ro ri rv pq114; obtain ⟨ρ, st, n, a, b, kvs, k, d, eo, sr, ha, hn, rk, hk, hl, rd, q⟩ := pq114
 subst eo
 cases ro
 exact Qdu (by ac_nf) I sr ha hn rk hk hl rd ri rv fun H' s' I' s3 x3 => ⟨H', I', q H' s3 x3⟩
theorem _root_.L2.PSet.or {t t' : TSet} (h : PSet X t) (h' : PSet X t') : PSet X (fun o i v H Q => t o i v H Q ∨ t' o i v H Q) := by
 intro pins s σ H o i v ov iv u Q I ro ri rv q
 rcases q with q | q
 ·exact h pins s σ H o i v ov iv u Q I ro ri rv q
 ·exact h' pins s σ H o i v ov iv u Q I ro ri rv q
theorem QeD {to ti : CE} {o i : Expr} (hu : X.A.units + 60 < cLine) (ho : SE X o to) (hi : SE X i ti)
  (ha : ∀ v, assign (.Subscript o i pos) X.env v = (do
   let ov ← holding [v] (eval o X.env)
   let iv ← holding [v, ov] (eval i X.env)
   standAt pos
   holding [v, ov, iv] (setItem ov iv v)
   release [v, ov, iv] []) := by intro _; rfl) : SG X (.Subscript o i pos) (gSubD to ti) :=
 (QaR ho hi (Qb4.or (QeC hu)) ha).of fun v σ H Q pq65 => by obtain ⟨ρ, l, st, d, lr, sr, rv, p⟩ := pq65; exact ⟨ρ, l, st, lr, sr, p.bnd.imp fun y st1 ρ1 H1 x1 s1 p1 u ru => ⟨ρ1, l, st1, lr.mono x1, s1, p1.bnd.imp fun z st2 ρ2 H2 x2 s2 p2 w rw' => by
  have ru2 := ru.mono x2
  have rd : Rep X.K ρ2 H2 v d := (rv.mono x1).mono x2
  cases ru2 with
  | ref _ h =>
   cases rw' with
   | int k =>
    obtain ⟨ds, e, p3⟩ := Post.getL (Post.bnd (Post.bnd p2)) s2
    obtain ⟨a, vs, ha, hv, r⟩ := s2.seq e
    rw [h] at ha; cases ha
    cases e2 : MM.ixN ds.length k with
    | none => rw [e2] at p3; exact p3.elim
    | some j =>
     rw [e2] at p3
     have hl := (List.getElem?_eq_some_iff.mp e).1
     obtain ⟨s3, x3⟩ := s2.put hl h hv (r.set j rd)
     refine .inl ⟨_, vs, k, j, rfl, rfl, hv, by rw [r.length]; exact e2, ?_⟩
     have p4 : Post X.K ρ2 H2 (putL _ (ds.set j d) st2) _ := p3
     unfold putL at p4
     rw [e] at p4
     exact (p4 ρ2 _ x3 s3).ret s3 σ (((lr.mono x1).mono x2).mono x3)
   | _ => exact (Post.bnd p2).elim
  | @dic a n _ h =>
   have p' : Post X.K ρ2 H2 (storeK n z d st2) fun a st' ρ' H' => Post X.K ρ' H' (MM.ret l st') fun l' _ ρ' H' => ∀ σ', LR X.K ρ' H' σ' l' → Q σ' H' := by cases rw' <;> exact Post.bnd p2
   obtain ⟨b, kvs, e1, hk, hl, q⟩ := Post.storeK p' s2
   exact .inr ⟨ρ2, st2, n, a, b, kvs, z, d, rfl, s2, h, e1, rw', hk, hl, rd, fun H3 s3 x3 => (q ρ2 H3 x3 s3).ret s3 σ (((lr.mono x1).mono x2).mono x3)⟩
  | _ => exact (Post.bnd p2).elim⟩⟩
theorem QeE {P : Program} {w : World} {K : PySem.W.Frag} {mg : Str → Option Value} {base : Heap} {x qual : Str} {sd : Stmt} {f : Addr} {fd : FuncData} {N ps : List Str} {k : Nat} {body : CS} (F : Fun K x qual sd f fd) (S : FnScope N ps (defScope sd))
  (hbody : ∀ (cdv : Value) (A : Around) (outer : List Env) (s : Shared) (H : Hp) (E : XK), Room k (A.deeper (envOfC qual (defScope sd) s.heap.objs.size f cdv)) → SSs (cxOf CX0 P w K mg base N qual (defScope sd) f cdv A outer s H E).nox (defBody sd) body) :
  FnOk P w K mg base CX0 (k + 1) f fd ps (spOf K ps.length (runDef N.length body)) := by
 refine F.ok S (fun vs H Q E h => h.1) (fun cdv A outer s H vs Q E hr h => ⟨_, hbody cdv A outer s H E hr, ?_⟩)
 obtain ⟨hl, ρ, st, ds, sr, rvs, p⟩ := h
 refine ⟨ρ, _, st, LR.start rvs, sr, ?_⟩
 unfold runDef at p
 exact p.bnd.imp fun f st1 ρ1 H1 x1 s1 p1 => by
  cases f with
  | next l => exact fun σ' _ => p1.ret s1 _ .non
  | ret d => exact fun v rv => p1.ret s1 v rv
  | brk l => exact p1.elim
  | cnt l => exact p1.elim
def ItR (K : PySem.W.Frag) (ρ0 : List Addr) (H0 : Hp) (w : Wk) (J : It) : Prop := ∀ ρ H st, Ex ρ0 H0 ρ H → SR K ρ H st → w.same st → J.stop w.ds.length H ∧ ∀ (i : Nat) (d : D), w.ds[i]? = some d → J.go i H ∧ ∀ x H', J.yld i H x H' → Ex ρ H ρ H' ∧ SR K ρ H' st ∧ Rep K ρ H' x d
noncomputable def tiOf (K : PySem.W.Frag) (f : CI) : TI := fun σ H R => ∃ ρ l st, LR K ρ H σ l ∧ SR K ρ H st ∧ Post K ρ H (f l st) fun w _ ρ' H' => ∀ J, ItR K ρ' H' w J → R J H'
abbrev SI (X : Cx) (tg e : Expr) (f : CI) : Prop := PI X tg e (tiOf X.K f)
theorem _root_.L2.PI.of {tg e : Expr} {t t' : TI} (h : PI X tg e t) (f : ∀ σ H R, t' σ H R → t σ H R) : PI X tg e t' := fun pins s σ H R I q => h pins s σ H R I (f σ H R q)
theorem QeF {ρ0 : List Addr} {H0 : Hp} {ds : List D} {p : Sto → Prop} {a : Addr} (h : ∀ ρ H st, Ex ρ0 H0 ρ H → SR K ρ H st → p st → ∃ vs, SqL K H a vs ∧ Reps K ρ H vs ds) : ItR K ρ0 H0 ⟨ds, p⟩ (Itl K a) := fun ρ H st x s q => by
 obtain ⟨vs, hv, r⟩ := h ρ H st x s q
 refine ⟨⟨vs, hv, by rw [r.length]; exact Nat.le_refl _⟩, fun i d e => ?_⟩
 obtain ⟨v, e1, rv⟩ := r.get e
 refine ⟨⟨vs, v, hv, e1⟩, fun y H' pq66 => ?_⟩
 obtain ⟨e2, e3⟩ := pq66
 subst e2
 have := e3 vs hv
 rw [e1] at this; cases this
 exact ⟨Ex.refl, s, rv⟩
theorem QeG {ρ0 : List Addr} {H0 : Hp} {ds : List D} {p : Sto → Prop} {a : Addr} (h : ∀ ρ H st, Ex ρ0 H0 ρ H → SR K ρ H st → p st → ∃ vs, SqT K H a vs ∧ Reps K ρ H vs ds) : ItR K ρ0 H0 ⟨ds, p⟩ (Itt K a) := fun ρ H st x s q => by
 obtain ⟨vs, hv, r⟩ := h ρ H st x s q
 refine ⟨⟨vs, hv, by rw [r.length]; exact Nat.le_refl _⟩, fun i d e => ?_⟩
 obtain ⟨v, e1, rv⟩ := r.get e
 refine ⟨⟨vs, v, hv, e1⟩, fun y H' pq67 => ?_⟩
 obtain ⟨e2, e3⟩ := pq67
 subst e2
 have := e3 vs hv
 rw [e1] at this; cases this
 exact ⟨Ex.refl, s, rv⟩
theorem QeH {ρ0 : List Addr} {H0 : Hp} {lo : Int} {n : Nat} : ItR K ρ0 H0 ⟨rngD lo n, anySt⟩ (Itr lo n) := fun ρ H st x s _ => by
 refine ⟨by show n ≤ (rngD lo n).length; unfold rngD; simp, fun i d e => ?_⟩
 have hi : i < n := by
  have := (List.getElem?_eq_some_iff.mp e).1
  simpa [rngD] using this
 refine ⟨hi, fun y H' pq68 => ?_⟩
 obtain ⟨e2, e3⟩ := pq68
 subst e2 e3
 have : d = .int (lo + (i : Nat)) := by
  unfold rngD at e
  rw [List.getElem?_map, List.getElem?_range hi] at e
  exact (Option.some.inj e).symm
 subst this
 exact ⟨Ex.refl, s, .int _⟩
theorem QeI {l : Expr} {tl : TE} (hl : PE X l tl) : PI X tg l (fun σ H R => tl σ H fun x H1 => ∃ a, x = .ref a ∧ ((∃ xs, SqL X.K H1 a xs) ∧ R (Itl X.K a) H1 ∨ (∃ xs, SqT X.K H1 a xs) ∧ R (Itt X.K a) H1)) := by
 intro pins s σ H R I h
 refine thn (hl pins s σ H _ I h) fun v s1 pq69 => ?_
 obtain ⟨x, H1, I1, r1, a, e, q⟩ := pq69
 subst e
 cases r1
 rcases q with ⟨⟨xs, hq⟩, q⟩ | ⟨⟨xs, hq⟩, q⟩
 ·obtain ⟨its, rv, p, hz⟩ := I1.list hq
  refine wpAny_pyIter_list p.isList ?_
  refine ⟨s1.heap.objs.size, [s1.heap.objs.size], _, _, H1, rfl, I1.kept (t' := s1.toks) fun b o e => Heap.get?_push_of_some _ e, QaW a _, ⟨_, Heap.get?_push_size _ rfl, rfl, rfl⟩, fun b hb => ?_, q⟩
  have e : b = s1.heap.objs.size := by simpa using hb
  subst e
  exact I1.fpOk (Nat.le_refl _) (I1.hok.fresh (Nat.le_refl _))
 ·obtain ⟨its, rv, p, hz⟩ := I1.tuple hq
  refine wpAny_pyIter_tuple (show s1.heap.IsTuple a its.toArray from p) ?_
  refine ⟨s1.heap.objs.size, [s1.heap.objs.size], _, _, H1, rfl, I1.kept (t' := s1.toks) fun b o e => Heap.get?_push_of_some _ e, QaX a _, ⟨_, Heap.get?_push_size _ rfl, rfl, rfl⟩, fun b hb => ?_, q⟩
  have e : b = s1.heap.objs.size := by simpa using hb
  subst e
  exact I1.fpOk (Nat.le_refl _) (I1.hok.fresh (Nat.le_refl _))
theorem QeJ (h : SE X e fa) : SI X tg e (iSeq fa) := (QeI h).of fun σ H R h_ => h_.el fun ρ l st lr sr p => ⟨ρ, l, st, lr, sr, p.bnd.imp fun d st1 ρ1 H1 x1 s1 p1 v rv => by
 cases rv with
 | @tup a vs ds h r => exact ⟨a, rfl, .inr ⟨⟨vs, h⟩, p1.ret s1 _ (QeG fun ρ H st x s _ => ⟨vs, SqT.mono x.up h, r.mono x⟩)⟩⟩
 | @lit a vs ds h r => exact ⟨a, rfl, .inl ⟨⟨vs, h.seq⟩, p1.ret s1 _ (QeF fun ρ H st x s _ => ⟨vs, (FzL.mono x.up h).seq, r.mono x⟩)⟩⟩
 | @ref a n _ h =>
  obtain ⟨ds, e, p2⟩ := Post.getL (Post.bnd p1) s1
  obtain ⟨a', vs, ha, hv, r⟩ := s1.seq e
  rw [h] at ha; cases ha
  refine ⟨a, rfl, .inl ⟨⟨vs, SqL.of hv⟩, p2.ret s1 _ (QeF fun ρ H st x s q => ?_)⟩⟩
  obtain ⟨a2, ws, ha2, hw, rw'⟩ := s.seq q
  obtain ⟨τ, eτ, _⟩ := x.pre
  rw [eτ, Qc0 h] at ha2; cases ha2
  exact ⟨ws, SqL.of hw, rw'⟩
 | _ => exact p1.elim⟩
theorem QeK (h : SL X e ca) : SI X tg e (iTmp ca) := (QaZ h).of fun σ H R h_ => h_.el fun ρ l st lr sr p => ⟨ρ, l, st, lr, sr, p.bnd.imp fun ds st1 ρ1 H1 x1 s1 p1 a vs ha na hv rvs =>
 ⟨a, rfl, ⟨vs, SqL.of hv⟩, p1.ret s1 _ (QeF fun ρ H st x s _ => ⟨vs, SqL.of (x.lst a vs na hv), rvs.mono x⟩)⟩⟩
theorem QeL {p : Pos} (hg : Gl X "range") (hm : X.mg "range" = none) (h : SE X a fa) (hs : starEach [a] X.env = [(false, eval a X.env)] := by rfl) : SI X tg (.Call (.Name "range" p) [a] [] pos) (MM.iRng1 fa) :=
 (Qa1 (tg := tg) (p := p) (pos := pos) hg hm (Qd1 h Qd0 hs) hs).of fun σ H R h_ => h_.el fun ρ l st lr sr p => ⟨ρ, l, st, lr, sr, by
  have q := Post.bnd p
  unfold cCons
  show Post X.K ρ H (bnd (fa l) _ st) _
  unfold MM.bnd
  cases e : fa l st with
  | bad => rw [e] at q; exact q
  | exc _ _ => rw [e] at q; exact q
  | ok d st1 =>
   rw [e] at q
   show ∀ ρ' H', Ex ρ H ρ' H' → SR X.K ρ' H' st1 → _
   intro ρ1 H1 x1 s1 vs rvs
   have p1 := q ρ1 H1 x1 s1
   cases rvs with
   | cons rv rt =>
    cases rt
    cases rv with
    | int j =>
     obtain ⟨⟨h1, h2⟩, p2⟩ := Post.chk p1
     exact ⟨j, rfl, h1, h2, p2.ret s1 _ QeH⟩
    | _ => exact p1.elim⟩
theorem Post.chkS {p : Sto → Prop} {R : Unit → Sto → List Addr → Hp → Prop} (h : Post K ρ H (MM.chkS p st) R) (s : SR K ρ H st) : p st ∧ R () st ρ H := by
 unfold MM.chkS at h
 by_cases hp : p st
 ·rw [if_pos hp] at h; exact ⟨hp, h ρ H Ex.refl s⟩
 ·rw [if_neg hp] at h; exact h.elim
theorem QeM {iter : Expr} {body : List Stmt} {ci : CI} {g : CG} {cb : CS} (hp : PassesOwn (model X.prog X.w) X.A X.env X.xe) (hc : X.calm = true) (hi : SI X tg iter ci) (hg : SG X tg g) (hb : SSs X body cb)
  (hs : ∀ x, foldedSetIterable iter X.env x = pure x := by intro _; rfl) : SS X (.For tg iter body [] pos) (sFor ci g cb) := (Qa5 hp hc hi hg hb hs).of fun G σ H h_ => h_.el fun ρ l st lr sr p =>
 ⟨ρ, l, st, lr, sr, p.bnd.imp fun w st1 ρ1 H1 x1 s1 p1 J hJ => by
  refine ⟨fun i m σ' H' => m = w.ds.length - i ∧ i ≤ w.ds.length ∧ ∃ ρ' l' st', Ex ρ1 H1 ρ' H' ∧ LR X.K ρ' H' σ' l' ∧ SR X.K ρ' H' st' ∧ Post X.K ρ' H' (forD g cb w.same (w.ds.drop i) l' st') fun f _ ρ' H' => match f with
   | .next l' => ∀ σ', LR X.K ρ' H' σ' l' → G.nx σ' H'
   | .ret d => ∀ v, Rep X.K ρ' H' v d → G.rt v H'
   | .brk l' => ∀ σ', LR X.K ρ' H' σ' l' → G.bk σ' H'
   | .cnt l' => ∀ σ', LR X.K ρ' H' σ' l' → G.ct σ' H', ⟨w.ds.length, by simp, Nat.zero_le _, ρ1, l, st1, Ex.refl, lr.mono x1, s1, p1⟩, ?_⟩
  rintro i m σ2 H2 ⟨rfl, hi, ρ2, l2, st2, x2, lr2, s2, p2⟩
  by_cases hlt : i < w.ds.length
  ·have ed : w.ds.drop i = w.ds[i] :: w.ds.drop (i + 1) := List.drop_eq_getElem_cons hlt
   rw [ed] at p2
   unfold forD at p2
   obtain ⟨sm, p3⟩ := Post.chkS (Post.bnd p2) s2
   obtain ⟨_, go⟩ := hJ ρ2 H2 st2 x2 s2 sm
   obtain ⟨g1, g2⟩ := go i w.ds[i] (List.getElem?_eq_getElem hlt)
   refine .inr ⟨g1, fun σ3 H3 => ∃ ρ3 l3 st3, Ex ρ1 H1 ρ3 H3 ∧ LR X.K ρ3 H3 σ3 l3 ∧ SR X.K ρ3 H3 st3 ∧ Post X.K ρ3 H3 (forD g cb w.same (w.ds.drop (i + 1)) l3 st3) fun f _ ρ' H' => match f with
    | .next l' => ∀ σ', LR X.K ρ' H' σ' l' → G.nx σ' H'
    | .ret d => ∀ v, Rep X.K ρ' H' v d → G.rt v H'
    | .brk l' => ∀ σ', LR X.K ρ' H' σ' l' → G.bk σ' H'
    | .cnt l' => ∀ σ', LR X.K ρ' H' σ' l' → G.ct σ' H', fun σ3 H3 q => ⟨_, by ac_nf, rfl, hlt, q⟩, fun y H3 hy => ?_⟩
   obtain ⟨x3, s3, rv⟩ := g2 y H3 hy
   refine ⟨ρ2, l2, st2, _, lr2.mono x3, s3, rv, (Post.left x3 (Post.bnd p3)).imp fun l4 st4 ρ4 H4 x4 s4 p4 σ4 lr4 => ⟨ρ4, l4, st4, lr4, s4, (Post.bnd p4).imp fun f st5 ρ5 H5 x5 s5 p5 => ?_⟩⟩
   have x5' : Ex ρ1 H1 ρ5 H5 := (x2.trans x3).trans (x4.trans x5)
   cases f with
   | next l5 => exact fun σ5 lr5 => ⟨ρ5, l5, st5, x5', lr5, s5, p5⟩
   | cnt l5 => exact fun σ5 lr5 => ⟨ρ5, l5, st5, x5', lr5, s5, p5⟩
   | brk l5 => exact fun σ5 lr5 => p5.ret s5 σ5 lr5
   | ret d => exact fun v rv => p5.ret s5 v rv
  ·have e : i = w.ds.length := by ac_nf
   subst e
   rw [List.drop_length] at p2
   unfold forD at p2
   obtain ⟨sm, p3⟩ := Post.chkS (Post.bnd p2) s2
   obtain ⟨g1, _⟩ := hJ ρ2 H2 st2 x2 s2 sm
   exact .inl ⟨g1, p3.ret s2 σ2 lr2⟩⟩
end
end MM
namespace MM
open PySem PySem.Spec PyProof.Rows L2
section
variable {X : Cx} {a b c e tg : Expr} {es : List Expr} {pos : Pos} {fa fb fc : CE} {ca cb : CA} {ta tb : CT} {K : PySem.W.Frag} {ρ : List Addr} {H : Hp} {st : Sto} {x : Str} {p : Pos} {id T : String}
theorem QeN {n : Nat} {ix : List Nat} {σ : St} {l : Loc} (h : LR K ρ H σ l) : LR K ρ H (capV n ix σ) (capt n ix l) := by
 unfold capV capt
 refine ⟨by simp, fun i d e => ?_⟩
 have hi : n ≤ i := Nat.le_of_not_lt fun z => by
  rw [List.getElem?_append_left (by simpa using z), List.getElem?_replicate] at e
  split at e <;> cases e
 rw [List.getElem?_append_right (by simpa using hi), List.length_replicate, List.getElem?_map] at e
 cases q : ix[i - n]? with
 | none => rw [q] at e; cases e
 | some k =>
  rw [q] at e
  have hj : (l[k]?).join = some d := Option.some.inj e
  have hk : l[k]? = some (some d) := by
   cases z : l[k]? with
   | none => rw [z] at hj; cases hj
   | some o => rw [z] at hj; exact congrArg some hj
  obtain ⟨v, hv, rv⟩ := h.2 k d hk
  refine ⟨v, ?_, rv⟩
  rw [List.getElem?_append_right (by simpa using hi), List.length_replicate, List.getElem?_map, q]
  show some ((σ[k]?).join) = some (some v)
  rw [hv]; rfl
abbrev SIfs (X : Cx) (ifs : List Expr) (t : CT) : Prop := PIfs X ifs (ttOf X.K t)
theorem QeO : SIfs X [] tTrue := fun pins s σ H Q I h_ => h_.el fun ρ l st lr sr p => QdL pins s σ H Q I (p.ret sr)
theorem QeP (h : ST X c ta) : SIfs X [c] ta := QdM h
theorem Ex.own {ρ' : List Addr} {H' : Hp} {q : Addr} {ws : List V} (x : Ex ρ H ρ' H') (h : H q = none) : Ex ρ H ρ' (upd H' q (.lst ws)) := by
 have ne : ∀ b o, H b = some o → b ≠ q := fun b o e z => by rw [z, h] at e; cases e
 exact ⟨x.pre, fun b o no e => by rw [Qaj (ne b o e)]; exact x.fix b o no e, fun b xs nb e => by rw [Qaj (ne b _ e)]; exact x.oth b xs nb e, fun b o e => by rw [Qaj (ne b o e)]; exact x.knd b o e⟩
theorem Up.own {ρ' : List Addr} {H' : Hp} {q : Addr} {vs ws : List V} (h : H' q = some (.lst vs)) : Up ρ' H' ρ' (upd H' q (.lst ws)) :=
 ⟨⟨[], by simp⟩, fun b o no e => by rw [Qaj fun z => by subst z; rw [h] at e; cases e; exact nomatch no]; exact e,
  fun b o e => by
   by_cases z : b = q
   ·subst z; rw [h] at e; cases e; exact ⟨_, Qai, rfl⟩
   ·exact ⟨o, by rw [Qaj z]; exact e, rfl⟩⟩
theorem LR.up {ρ' : List Addr} {H' : Hp} {σ : St} {l : Loc} (x : Up ρ H ρ' H') (h : LR K ρ H σ l) : LR K ρ' H' σ l := ⟨h.1, fun i d e => let ⟨v, e1, r⟩ := h.2 i d e; ⟨v, e1, r.up x⟩⟩
theorem SR.own {q : Addr} {vs ws : List V} (s : SR K ρ H st) (h : H q = some (.lst vs)) (nq : q ∉ ρ) : SR K ρ (upd H q (.lst ws)) st :=
 ⟨s.len, s.nd, fun n b o e1 e2 => ObR.mono (o := o) (Up.own h) (s.ob n b o e1 e2) fun us e => by rw [Qaj (fun (z : b = q) => nq (by rw [← z]; exact List.mem_of_getElem? e1))]; exact e⟩
theorem QeQ {ci : CI} {g : CG} {n : Nat} {ix : List Nat} : ∀ σ H Q, tlOf K (aComp n ix ci g ta fa) σ H Q → tComp (tiOf K ci) n ix (tgOf K g) (ttOf K ta) (tOf K fa) σ H Q := fun σ H Q h_ => h_.el fun ρ l st lr sr p =>
 ⟨ρ, l, st, lr, sr, p.bnd0.imp fun w st1 ρ1 H1 x1 s1 p1 J hJ q hq => by
  obtain ⟨hz, p2⟩ := Post.chk p1
  have hn : H q = none := by
   cases z : H q with
   | none => rfl
   | some o => exact absurd hq (x1.trk q o z)
  refine ⟨fun i m σ' H' => m = w.ds.length - i ∧ i ≤ w.ds.length ∧ ∃ ρ' l' st' done vs, Ex ρ H ρ' H' ∧ Ex ρ1 H1 ρ' H' ∧ LR K ρ' H' σ' l' ∧ SR K ρ' H' st' ∧ q ∉ ρ' ∧ H' q = some (.lst vs) ∧ Reps K ρ' H' vs done ∧ done.length ≤ i ∧
   Post K ρ H (collect g ta fa w.same (w.ds.drop i) l' st') (fun rest st2 ρ2 H2 => ∀ a ws, H a = none → a ∉ ρ2 → H2 a = some (.lst ws) → Reps K ρ2 H2 ws (done ++ rest) → Q (.ref a) H2),
   ⟨w.ds.length, by simp, Nat.zero_le _, ρ1, capt n ix l, st1, [], [], x1.trans (Ex.new hq), Ex.new hq, QeN ((lr.mono x1).mono (Ex.new hq)), s1.new hq, s1.fresh hq, Qai, .nil, Nat.zero_le _, p2⟩, ?_⟩
  rintro i m σ2 H2 ⟨rfl, hi, ρ2, l2, st2, done, vs, x2, y2, lr2, s2, nq, hv, rvs, hd, p3⟩
  by_cases hlt : i < w.ds.length
  ·have ed : w.ds.drop i = w.ds[i] :: w.ds.drop (i + 1) := List.drop_eq_getElem_cons hlt
   rw [ed] at p3
   unfold collect at p3
   obtain ⟨sm, p4⟩ := Post.chkS (p3.bnd0.left x2) s2
   obtain ⟨_, go⟩ := hJ ρ2 H2 st2 y2 s2 sm
   obtain ⟨g1, g2⟩ := go i w.ds[i] (List.getElem?_eq_getElem hlt)
   refine .inr ⟨g1, fun y H3 hy => ?_⟩
   obtain ⟨x3, s3, rv⟩ := g2 y H3 hy
   refine ⟨ρ2, l2, st2, _, lr2.mono x3, s3, rv, (p4.bnd0.left (x2.trans x3)).imp fun l4 st4 ρ4 H4 x4 s4 p5 σ4 lr4 => ⟨ρ4, l4, st4, lr4, s4, (p5.bnd0.left (x2.trans (x3.trans x4))).imp fun b st5 ρ5 H5 x5 s5 p6 => ?_⟩⟩
   have y5 : Ex ρ2 H2 ρ5 H5 := x3.trans (x4.trans x5)
   have out : ∀ {ρ' : List Addr} {H' : Hp}, Ex ρ2 H2 ρ' H' → q ∉ ρ' := fun z hm => by
    obtain ⟨τ, e, f⟩ := z.pre
    rw [e] at hm
    rcases List.mem_append.mp hm with hm | hm
    ·exact nq hm
    ·rw [f q hm] at hv; cases hv
   cases b with
   | false => exact ⟨_, by ac_nf, rfl, hlt, ρ5, l4, st5, done, vs, x2.trans y5, y2.trans y5, lr4.mono x5, s5, out y5, y5.lst q vs nq hv, rvs.mono y5, Nat.le_succ_of_le hd, p6⟩
   | true =>
    refine ⟨ρ5, l4, st5, lr4.mono x5, s5, (p6.bnd0.left (x2.trans y5)).imp fun d st6 ρ6 H6 x6 s6 p7 v rv6 => ?_⟩
    have y6 : Ex ρ2 H2 ρ6 H6 := y5.trans x6
    have hv6 := y6.lst q vs nq hv
    have u6 : Up ρ6 H6 ρ6 (upd H6 q (.lst (vs ++ [v]))) := Up.own hv6
    refine ⟨vs, hv6, ?_, _, by ac_nf, rfl, hlt, ρ6, l4, st6, done ++ [d], vs ++ [v], (x2.trans y6).own hn, (y2.trans y6).own hq, LR.up u6 ((lr4.mono x5).mono x6), s6.own hv6 (out y6), out y6, Qai,
     Reps.app ((rvs.mono y6).up u6) (.cons (rv6.up u6) .nil), by simp; ac_nf, ?_⟩
    ·have e1 := rvs.length
     have e2 : w.ds.length ≤ sizeLine := hz
     ac_nf
    ·refine p7.bnd0.imp fun rest st8 ρ8 H8 x8 s8 p8 a ws ha na hw rws => ?_
     exact p8 ρ8 H8 x8 s8 a ws ha na hw (by rw [List.append_cons]; exact rws)
  ·have e : i = w.ds.length := by ac_nf
   subst e
   rw [List.drop_length] at p3
   unfold collect at p3
   obtain ⟨sm, p4⟩ := Post.chkS (p3.bnd0.left x2) s2
   obtain ⟨g1, _⟩ := hJ ρ2 H2 st2 y2 s2 sm
   refine .inl ⟨g1, p4 ρ2 H2 x2 s2 q vs hn nq hv (by rw [List.append_nil]; exact rvs)⟩⟩
theorem QeR {scope : Scope} {N : List Str} {ifs : List Expr} {n : Nat} {ix : List Nat} {ci : CI} {g : CG} (hc : X.calm = true) (S : CompScope X scope) (T : CompNames X scope N n ix) (hi : SI X tg b ci)
  (blk : ∀ (fp : List Addr) (s : Shared) (H : Hp), SG (cxC X N scope fp s H) tg g ∧ SIfs (cxC X N scope fp s H) ifs ta ∧ SE (cxC X N scope fp s H) e fa)
  (hs : ∀ x, foldedSetIterable b X.env x = pure x := by intro _; rfl) : SL X (.ListComp e [⟨tg, b, ifs, 0⟩] scope pos) (aComp n ix ci g ta fa) := (QdO hc S T hi blk hs).of QeQ
theorem QeS {scope : Scope} {N : List Str} {ifs : List Expr} {n i : Nat} {ix : List Nat} {ci : CI} {g : CG} {y : Str} {pos' spos : Pos}
  (hN : X.N.Nodup) (hi' : X.N[i]? = some y) (hy : L2.Loc X.env.scope y) (hf : X.fn y = true ∨ X.env.scope.names.lookup y = some .local)
  (hc : X.calm = true) (S : CompScope X scope) (T : CompNames X scope N n ix) (hi : SI X tg b ci)
  (blk : ∀ (fp : List Addr) (s : Shared) (H : Hp), SG (cxC X N scope fp s H) tg g ∧ SIfs (cxC X N scope fp s H) ifs ta ∧ SE (cxC X N scope fp s H) e fa)
  (hsw : swapsWith (.ListComp e [⟨tg, b, ifs, 0⟩] scope pos) (some (.Name y pos')) spos.line X.env = pure true)
  (hs : ∀ x, foldedSetIterable b X.env x = pure x := by intro _; rfl) : SS X (.Assign [.Name y pos'] (.ListComp e [⟨tg, b, ifs, 0⟩] scope pos) spos) (sAsg (gVar i) (cKeep (aComp n ix ci g ta fa))) :=
 (QdP hN hi' hy hf hc S T hi blk hsw hs).of (Qey (fun σ H Q h_ => h_.el fun ρ l st lr sr p => QeQ _ _ _ ⟨ρ, l, st, lr, sr, p.bnd0.imp fun ds st1 ρ1 H1 x1 s1 p1 a vs ha na hv rvs => by
  have x : Ex ρ H (ρ1 ++ [a]) H1 := by
   obtain ⟨τ, e, f⟩ := x1.pre
   refine ⟨⟨τ ++ [a], by rw [e, List.append_assoc], fun b hb => ?_⟩, x1.fix, x1.oth, x1.knd⟩
   rcases List.mem_append.mp hb with hb | hb
   ·exact f b hb
   ·rw [List.mem_singleton] at hb; rw [hb]; exact ha
  refine p1 (ρ1 ++ [a]) H1 x (s1.keep hv na rvs) _ (.ref ⟨_, hv, rfl⟩ ?_)
  rw [← s1.len]; simp⟩) Qez)
theorem QeT {g : D → M D} (hc : CallR X (.builtin id) (fun xs H Q => ∃ v, xs = [v] ∧ uOf X.K g v H Q)) (hg : Gl X x) (hm : X.mg x = none) (hv : bootBuiltins x = some (.builtin id)) (ha : SE X e fa) (hn : x ≠ "__name__" := by decide) (hdb : (x == ("__debug__" : Str)) = false := by decide)
  (he : starEach [e] X.env = [(false, eval e X.env)] := by rfl) : SE X (.Call (.Name x p) [e] [] pos) (c1 g fa) :=
 (QbP hc hg hm hv (QbD ha QbC he) hn hdb he rfl).of fun σ H Q h_ => h_.el fun ρ l st lr sr p => ⟨ρ, l, st, lr, sr, p.bnd.imp fun d st1 ρ1 H1 x1 s1 p1 v rv => ⟨v, rfl, ρ1, st1, d, s1, rv, p1⟩⟩
theorem QeU {g : D → M D} (hc : CallR X (.type T) (fun xs H Q => ∃ v, xs = [v] ∧ uOf X.K g v H Q)) (hg : Gl X x) (hm : X.mg x = none) (hv : bootBuiltins x = some (.type T)) (ha : SE X e fa) (hn : x ≠ "__name__" := by decide) (hdb : (x == ("__debug__" : Str)) = false := by decide)
  (he : starEach [e] X.env = [(false, eval e X.env)] := by rfl) : SE X (.Call (.Name x p) [e] [] pos) (c1 g fa) :=
 (QbQ hc hg hm hv (QbD ha QbC he) hn hdb he rfl).of fun σ H Q h_ => h_.el fun ρ l st lr sr p => ⟨ρ, l, st, lr, sr, p.bnd.imp fun d st1 ρ1 H1 x1 s1 p1 v rv => ⟨v, rfl, ρ1, st1, d, s1, rv, p1⟩⟩
noncomputable def lOf (K : PySem.W.Frag) (g : List D → M D) : List V → Hp → VK → Prop := fun xs H Q => ∃ a vs ρ st ds, xs = [.ref a] ∧ SqL K H a vs ∧ SR K ρ H st ∧ Reps K ρ H vs ds ∧ Post K ρ H (g ds st) fun r _ ρ' H' => ∀ v, Rep K ρ' H' v r → Q v H'
theorem QeV {g : List D → M D} (hc : CallR X (.builtin id) (lOf X.K g)) (hg : Gl X x) (hm : X.mg x = none) (hv : bootBuiltins x = some (.builtin id)) (ha : SL X e ca) (hn : x ≠ "__name__" := by decide) (hdb : (x == ("__debug__" : Str)) = false := by decide)
  (he : starEach [e] X.env = [(false, eval e X.env)] := by rfl) : SE X (.Call (.Name x p) [e] [] pos) (cTmp g ca) :=
 (QbP hc hg hm hv (QbD ha QbC he) hn hdb he rfl).of fun σ H Q h_ => h_.el fun ρ l st lr sr p => ⟨ρ, l, st, lr, sr, p.bnd.imp fun ds st1 ρ1 H1 x1 s1 p1 a vs ha na hv rvs => ⟨a, vs, ρ1, st1, ds, rfl, SqL.of hv, s1, rvs, p1⟩⟩
theorem QeW {g : List D → M D} (hc : CallR X (.type T) (lOf X.K g)) (hg : Gl X x) (hm : X.mg x = none) (hv : bootBuiltins x = some (.type T)) (ha : SL X e ca) (hn : x ≠ "__name__" := by decide) (hdb : (x == ("__debug__" : Str)) = false := by decide)
  (he : starEach [e] X.env = [(false, eval e X.env)] := by rfl) : SE X (.Call (.Name x p) [e] [] pos) (cTmp g ca) :=
 (QbQ hc hg hm hv (QbD ha QbC he) hn hdb he rfl).of fun σ H Q h_ => h_.el fun ρ l st lr sr p => ⟨ρ, l, st, lr, sr, p.bnd.imp fun ds st1 ρ1 H1 x1 s1 p1 a vs ha na hv rvs => ⟨a, vs, ρ1, st1, ds, rfl, SqL.of hv, s1, rvs, p1⟩⟩
theorem QeX {prog : Program} {w : World} {A : Around} {E : Value → Shared → Prop} {s : Shared} {K : Type} [DecidableEq K] {knd : HeapKind prog w K} {d : Addr} {xs : List (K × Addr × Value)} {Q : Value → Shared → Prop} (hd : (d == sysModules) = false) (hm : s.heap.DictOfH knd d xs) (hfit : (xs.length : Int) < 2 ^ 63)
  (h : Q (.int xs.length (s.toks + 1)) { s with toks := s.toks + 1 + 1 }) : wpAny (model prog w) A (call (.builtin "len") [.ref d]) Q E s := by
 refine Calls.call_function_entry kind_len plain_len entry_len (args_len1 _) ?_
 unfold Builtin.«len»
 have meet : MeetsIn prog w (Builtin.«dict.__len__» ⟨[.ref d], []⟩) (fun _ R s => ∃ xs, s.heap.DictOfH knd d xs ∧ R (.ok (.ret (.int xs.length s.toks))) { s with toks := s.toks + 1 }) := .of_wp fun A R s pq70 => by
  obtain ⟨xs, hm, h⟩ := pq70
  obtain ⟨o, es, ep, ho, hc, hdat, he, _, hn⟩ := hm
  show wpAny _ _ (dictSize d >>= _) _ _ s
  unfold dictSize
  refine wpAny_bind (wpAny_bind (wpAny_dictEntries ho hdat (wpAny_pure ?_)))
  show wpAny _ _ (Builtin.Dict.pendingCount d >>= _) _ _ s
  refine wpAny_bind (wpAny_pendingCount_other hd ?_)
  refine wpAny_ret_mkInt ?_
  rw [Nat.add_zero, size_of_entries he]; exact h
 refine wpAny_bind (m := oneArg "len" _) (wpAny_pure ?_)
 refine wpAny_bind (m := callSpecial? (.ref d) (Str.ofString "__len__")) (wpAny_callSpecial?_slot (name := Str.ofString "__len__") hm.typeIs F.slot_dict_len
  (call_meetsIn F.slot_dict_len hm.typeIs F.entry_dict_len (F.args_dict_len_1 _) meet ⟨xs, hm, ?_⟩))
 show wpAny _ _ _ _ _ { s with toks := s.toks + 1 }
 refine wpAny_bind (wpAny_holding (wpAny_pure ?_))
 refine wpAny_bind (wpAny_letGo ?_)
 show wpAny _ _ (if ((xs.length : Nat) : Int) < 0 then _ else _) _ _ _
 rw [if_neg (by ac_nf)]
 show wpAny _ _ (if ((xs.length : Nat) : Int) ≥ 2 ^ 63 then _ else _) _ _ _
 rw [if_neg (by ac_nf)]
 exact wpAny_bind (wpAny_mkInt (wpAny_pure ⟨_, rfl, h⟩))
theorem QeY : CallR X (.builtin "len") (fun xs H Q => ∃ (ρ : List Addr) (st : Sto) (n : Nat) (a : Addr) (b : Bool) (kvs : List (D × D)), xs = [.ref a] ∧ SR X.K ρ H st ∧ ρ[n]? = some a ∧ st[n]? = some (.dct b kvs) ∧ Q (.int kvs.length) H) := by
 intro pins s σ H xs us Q I r pq115; obtain ⟨ρ, st, n, a, b, kvs, e, sr, ha, hn, q⟩ := pq115
 subst e
 obtain ⟨u, rfl, ru⟩ := Qbv r
 cases ru
 have g := sr.ob n a _ ha hn
 cases b with
 | false =>
  obtain ⟨es, e, r⟩ := g
  rw [← KR.length r] at q
  exact QcN I (.inl e) fun t s' I' => ⟨.int es.length, H, I', ⟨t, rfl⟩, q⟩
 | true =>
  obtain ⟨es, e, r⟩ := g
  obtain ⟨z, hd, xs, rx, dd⟩ := Qdo I e r
  rw [← NR.length r, Paired.length rx] at q
  have hz : xs.length ≤ sizeLine := by rw [← Paired.length rx]; exact z
  exact QeX hd dd (by rw [sizeLine_eq] at hz; ac_nf) ⟨.int xs.length, H, I.tok _, ⟨_, rfl⟩, q⟩
theorem QeZ : CallR X (.builtin "len") (fun xs H Q => ∃ v, xs = [v] ∧ uOf X.K lenD v H Q) := ((Qcd.or Qce).or QeY).of fun xs H Q pq71 => by
 obtain ⟨v, e, ρ, st, d, sr, rv, p⟩ := pq71
 cases rv with
 | @tup a vs ds h r => exact .inl (.inl ⟨a, vs, e, .inr h, by rw [r.length]; exact p.ret sr _ (.int _)⟩)
 | @lit a vs ds h r => exact .inl (.inl ⟨a, vs, e, .inl h.seq, by rw [r.length]; exact p.ret sr _ (.int _)⟩)
 | @ref a n _ h =>
  obtain ⟨ds, e2, p1⟩ := Post.getL (Post.bnd p) sr
  obtain ⟨a', vs, ha, hv, r⟩ := sr.seq e2
  rw [h] at ha; cases ha
  exact .inl (.inl ⟨a, vs, e, .inl (SqL.of hv), by rw [r.length]; exact p1.ret sr _ (.int _)⟩)
 | str z => exact .inl (.inr ⟨z, e, (Post.chk p).1, (Post.chk p).2.ret sr _ (.int _)⟩)
 | @dic a n _ h =>
  obtain ⟨b, kvs, e2, p1⟩ := Post.getDc (Post.bnd p) sr
  exact .inr ⟨ρ, st, n, a, b, kvs, e, sr, h, e2, p1.ret sr _ (.int _)⟩
 | _ => exact p.elim
theorem Qe0 : CallR X (.type "int") (fun xs H Q => ∃ v, xs = [v] ∧ uOf X.K intD v H Q) := Qby.of fun xs H Q pq72 => by
 obtain ⟨v, e, ρ, st, d, sr, rv, p⟩ := pq72
 cases rv with
 | int i => exact .inl ⟨i, e, p.ret sr _ (.int _)⟩
 | bl k => exact .inr ⟨k, e, p.ret sr _ (.int _)⟩
 | _ => exact p.elim
theorem Qe1 : CallR X (.type "tuple") (lOf X.K tupL) := Qcf.of fun xs H Q pq73 =>
 by obtain ⟨a, vs, ρ, st, ds, e, hv, sr, r, p⟩ := pq73; exact ⟨a, vs, e, .inl ⟨hv, fun l hl => p ρ _ (Ex.new hl) (sr.new hl) _ (.tup (SqT.of Qai) (r.mono (Ex.new hl)))⟩⟩
end
end MM
namespace MM
open PySem PySem.Spec PyProof.Rows L2
section
variable {X : Cx} {a b c e tg : Expr} {es : List Expr} {pos : Pos} {fa fb fc : CE} {ca cb : CA} {ta tb : CT} {K : PySem.W.Frag} {ρ : List Addr} {H : Hp} {st : Sto} {x : Str} {p : Pos} {T : String}
theorem Qe2 {ds : List D} {ns : List Int} {vs : List V} (h : numsL ds = some ns) (g : Reps K ρ H vs ds) : vs = ns.map V.int := by
 induction ds generalizing ns vs with
 | nil => cases g; cases h; rfl
 | cons d ds ih =>
  cases g with
  | cons r t =>
   cases r with
   | int i =>
    unfold numsL at h
    cases q : numsL ds with
    | none => rw [q] at h; cases h
    | some ms =>
     rw [q] at h
     have h' : i :: ms = _ := Option.some.inj h
     subst h'
     rw [ih q t]; rfl
   | _ => cases h
theorem Qe3 : ∀ {ds : List D} {ns : List Bool} {vs : List V}, boolsL ds = some ns → Reps K ρ H vs ds → vs = ns.map V.bl
 | [], _, _, h, .nil => by cases h; rfl
 | .bl i :: ds, _, _, h, .cons r t => by
  unfold boolsL at h
  cases q : boolsL ds with
  | none => rw [q] at h; cases h
  | some ms =>
   rw [q] at h
   have h' : i :: ms = _ := Option.some.inj h
   subst h'
   cases r
   rw [Qe3 q t]; rfl
 | .non :: _, _, _, h, _ => by cases h
 | .int _ :: _, _, _, h, _ => by cases h
 | .str _ :: _, _, _, h, _ => by cases h
 | .tup _ :: _, _, _, h, _ => by cases h
 | .lit _ :: _, _, _, h, _ => by cases h
 | .ref _ :: _, _, _, h, _ => by cases h
theorem Qe4 : ∀ {bs : List Bool} {us : List Value}, Vals (bs.map V.bl) us → us = bs.map Value.bool
 | [], _, .nil => rfl
 | _ :: _, _, .cons r t => by cases r; rw [Qe4 t]; rfl
theorem Qe5 (hc : X.calm = true) : CallR X (.builtin "all") (fun xs H Q => ∃ (l : Addr) (bs : List Bool), xs = [.ref l] ∧ SqL X.K H l (bs.map V.bl) ∧ Q (.bl (bs.all id)) H) := by
 intro pins s σ H xs us Q I r h
 obtain ⟨l, bs, rfl, hq, q⟩ := h
 obtain ⟨u, rfl, rx⟩ := Qbv r
 cases rx
 obtain ⟨its, rv, pl, hz⟩ := I.list hq
 have ei := Qe4 rv
 subst ei
 refine call_all_walk (wpAny_pyIter_list pl.isList ?_)
 have hlt : l < s.heap.objs.size := by
  obtain ⟨o, ho, _⟩ := pl.isList
  exact Heap.lt_size ho
 refine ⟨s.heap.objs.size, _, _, _, _, _, fun i => (bs[i]?).getD true, rfl, Walks.list (A := X.A.in1) (I.ok.hd hc) s.heap.objs.size l (Nat.ne_of_lt hlt) (bs.map Value.bool).toArray, ⟨⟨_, Heap.get?_push_size _ rfl, rfl, rfl⟩, ?_⟩, ?_, fun h' tk hk => ?_⟩
 ·obtain ⟨o, ho, hr⟩ := pl.isList
  exact ⟨o, Heap.get?_push_of_some _ ho, hr⟩
 ·intro i v s' Q' E' hv hQ
  have hv' : (bs.map Value.bool)[i]? = some v := by simpa using hv
  rw [List.getElem?_map] at hv'
  dsimp only at hQ
  cases e : bs[i]? with
  | none => rw [e] at hv'; cases hv'
  | some k =>
   rw [e] at hv' hQ
   have : v = Value.bool k := (Option.some.inj hv').symm
   subst this
   exact wpAny_truthy_bool hQ
 ·have e : (List.range (bs.map Value.bool).toArray.size).all (fun i => (bs[i]?).getD true) = bs.all id := by
    have hs : (bs.map Value.bool).toArray.size = bs.length := by simp
    rw [hs, Bool.eq_iff_iff, List.all_eq_true, List.all_eq_true]
    constructor
    ·intro hh k hk
     obtain ⟨i, hi⟩ := List.getElem?_of_mem hk
     have := hh i (List.mem_range.mpr (List.getElem?_eq_some_iff.mp hi).1)
     rw [hi] at this; exact this
    ·intro hh i hi
     have hl := List.mem_range.mp hi
     rw [List.getElem?_eq_getElem hl]
     exact hh _ (List.getElem_mem hl)
  rw [e]
  exact ⟨.bl _, H, I.kept (t' := tk) fun b o hb => hk b o (by simp; exact Nat.ne_of_lt (Heap.lt_size hb)) (Heap.get?_push_of_some _ hb), rfl, q⟩
theorem Qe6 : ∀ (ns : List Int) (n : Int), ns.foldl max n ∈ n :: ns ∧ ∀ a ∈ n :: ns, a ≤ ns.foldl max n
 | [], n => ⟨by simp, by simp⟩
 | m :: ns, n => by
  obtain ⟨h1, h2⟩ := Qe6 ns (max n m)
  rw [List.foldl_cons]
  refine ⟨?_, fun a ha => ?_⟩
  ·rcases List.mem_cons.mp h1 with e | e
   ·rw [e]
    by_cases hm : n ≤ m
    ·rw [Int.max_eq_right hm]; simp
    ·rw [Int.max_eq_left (by ac_nf)]; simp
   ·exact List.mem_cons_of_mem _ (List.mem_cons_of_mem _ e)
  ·have hx := h2 (max n m) List.mem_cons_self
   rcases List.mem_cons.mp ha with e | e
   ·subst e; exact Int.le_trans (Int.le_max_left ..) hx
   ·rcases List.mem_cons.mp e with e | e
    ·subst e; exact Int.le_trans (Int.le_max_right ..) hx
    ·exact h2 a (List.mem_cons_of_mem _ e)
theorem Qe7 {vs : List Value} {ns : List Int} (hi : IntsAre vs ns) : ∃ xs, vs.toArray = intItems xs ∧ ns = xs.toList.map (·.1) := by
 obtain ⟨xs, e⟩ := hi.allInts.items
 exact ⟨xs, e, by rw [← hi.numsOf, ← nums_intItems, ← e]⟩
theorem Qe8 (hc : X.calm = true) : CallR X (.builtin "max") (fun xs H Q => ∃ (l : Addr) (n : Int) (ns : List Int), xs = [.ref l] ∧ SqL X.K H l ((n :: ns).map V.int) ∧ Q (.int (ns.foldl max n)) H) := by
 intro pins s σ H xs us Q I r h
 obtain ⟨l, n, ns, rfl, hq, q⟩ := h
 obtain ⟨u, rfl, rx⟩ := Qbv r
 cases rx
 obtain ⟨its, rv, pl, hz⟩ := I.list hq
 obtain ⟨ys, e, en⟩ := Qe7 (QbR rv)
 have hl := pl.isList
 rw [e] at hl
 have hsz : ys.size = ns.length + 1 := by have := congrArg List.length en; simpa using this.symm
 refine max_intList (I.ok.hd hc) hl (by ac_nf) fun v h' tk hv hk => ?_
 obtain ⟨t, rfl⟩ := intItems_at hv
 obtain ⟨b1, b2⟩ := argBest_gt (numAt ys) (ys.size - 1)
 obtain ⟨f1, f2⟩ := Qe6 ns n
 generalize argBest (fun i j => decide (numAt ys i > numAt ys j)) (ys.size - 1) = k at b1 b2 ⊢
 have hin : numAt ys k ∈ n :: ns := by
  rw [en, numAt_eq]
  exact getD_mem (by rw [← en]; simp; ac_nf)
 have hge : ns.foldl max n ≤ numAt ys k := by
  rw [en] at f1
  obtain ⟨j, hj, ej⟩ := mem_getD f1
  rw [← ej, ← numAt_eq]
  exact b2 j (by rw [← en] at hj; simp at hj; ac_nf)
 have hM : numAt ys k = ns.foldl max n := Int.le_antisymm (f2 _ hin) hge
 rw [hM]
 exact ⟨.int _, H, I.kept (t' := tk) hk, ⟨t, rfl⟩, q⟩
theorem Qe9 (hc : X.calm = true) : CallR X (.builtin "all") (lOf X.K allD) := (Qe5 hc).of fun xs H Q pq74 => by
 obtain ⟨a, vs, ρ, st, ds, e, hv, sr, r, p⟩ := pq74
 unfold allD at p
 cases q : boolsL ds with
 | none => rw [q] at p; exact p.elim
 | some bs =>
  rw [q] at p
  have := Qe3 q r
  subst this
  exact ⟨a, bs, e, hv, p.ret sr _ (.bl _)⟩
theorem Qfa (hc : X.calm = true) : CallR X (.builtin "max") (lOf X.K maxD) := (Qe8 hc).of fun xs H Q pq75 => by
 obtain ⟨a, vs, ρ, st, ds, e, hv, sr, r, p⟩ := pq75
 unfold maxD at p
 cases q : numsL ds with
 | none => rw [q] at p; exact p.elim
 | some ns =>
  rw [q] at p
  have := Qe2 q r
  subst this
  cases ns with
  | nil => exact p.elim
  | cons n ns => exact ⟨a, n, ns, e, hv, p.ret sr _ (.int _)⟩
structure TyTab (T : String) : Prop where
 non : ∀ K, PySem.W.kitOne K (.type "NoneType") (.type T) = some (["NoneType"].contains T)
 bl : ∀ K, PySem.W.kitOne K (.type "bool") (.type T) = some (["bool", "int"].contains T)
 int : ∀ K, PySem.W.kitOne K (.type "int") (.type T) = some (["int"].contains T)
 str : ∀ K, PySem.W.kitOne K (.type "str") (.type T) = some (["str"].contains T)
 tup : ∀ K, PySem.W.kitOne K (.type "tuple") (.type T) = some (["tuple"].contains T)
 lst : ∀ K, PySem.W.kitOne K (.type "list") (.type T) = some (["list"].contains T)
end
end MM
namespace MM
open PySem PySem.Spec PyProof.Rows L2
section
variable {X : Cx} {K : PySem.W.Frag} {ρ : List Addr} {H : Hp} {st : Sto} {pins : List (Addr × Obj)} {σ : St} {s : Shared}
theorem Qfb {f : D → D → Option Bool} : ∀ {xs ys : List D} {r : Bool}, allF f xs ys = some r → ∀ (j : Nat) (x y : D), xs[j]? = some x → ys[j]? = some y → ∃ k, f x y = some k
 | [], _, _, _, j, x, y, h, _ => by cases j <;> cases h
 | _ :: _, [], _, _, j, x, y, _, h => by cases j <;> cases h
 | a :: xs, b :: ys, r, h, j, x, y, hx, hy => by
  unfold allF at h
  cases e : f a b with
  | none => rw [e] at h; cases h
  | some k =>
   cases j with
   | zero => cases hx; cases hy; exact ⟨k, e⟩
   | succ j =>
    rw [e] at h
    have hx' : xs[j]? = some x := hx
    have hy' : ys[j]? = some y := hy
    cases k with
    | true => exact Qfb h j x y hx' hy'
    | false =>
     cases e2 : allF f xs ys with
     | none => rw [e2] at h; cases h
     | some r' => exact Qfb e2 j x y hx' hy'
noncomputable def itE (f : D → D → Option Bool) (xs ys : List D) (j : Nat) : Bool := match xs[j]?, ys[j]? with
 | some x, some y => (f x y).getD false
 | _, _ => true
theorem Qfc {f : D → D → Option Bool} : ∀ {xs ys : List D} {r : Bool}, allF f xs ys = some r → r = ((List.range (min xs.length ys.length)).all (itE f xs ys) && xs.length == ys.length)
 | [], [], _, h => by cases h; rfl
 | _ :: _, [], _, h => by cases h; simp
 | [], _ :: _, _, h => by cases h; simp
 | a :: xs, b :: ys, r, h => by
  have step : (List.range (min (a :: xs).length (b :: ys).length)).all (itE f (a :: xs) (b :: ys)) = ((f a b).getD false && (List.range (min xs.length ys.length)).all (itE f xs ys)) := by
   have e : min (a :: xs).length (b :: ys).length = min xs.length ys.length + 1 := by simp only [List.length_cons]; ac_nf
   rw [e, List.range_succ_eq_map, List.all_cons, List.all_map]
   rfl
  rw [step]
  unfold allF at h
  cases e : f a b with
  | none => rw [e] at h; cases h
  | some k =>
   rw [e] at h
   cases k with
   | true =>
    have := Qfc h
    simp only [Option.getD_some, Bool.true_and, List.length_cons]
    rw [this]
    congr 1
    rw [Bool.eq_iff_iff]; simp
   | false =>
    simp only [Option.getD_some, Bool.false_and]
    cases e2 : allF f xs ys with
    | none => rw [e2] at h; cases h
    | some r' => rw [e2] at h; cases h; rfl
theorem Vals.at {vs : List V} {us : List Value} {j : Nat} {u : Value} (r : Vals vs us) (h : us[j]? = some u) : ∃ v, vs[j]? = some v ∧ RelV v u := by
 have hl := r.length
 have hj : j < vs.length := by rw [hl]; exact (List.getElem?_eq_some_iff.mp h).1
 obtain ⟨u', e, ru⟩ := r.get (List.getElem?_eq_getElem hj)
 rw [h] at e; cases e
 exact ⟨_, List.getElem?_eq_getElem hj, ru⟩
theorem Reps.at {vs : List V} {ds : List D} {j : Nat} {v : V} (r : Reps K ρ H vs ds) (h : vs[j]? = some v) : ∃ d, ds[j]? = some d ∧ Rep K ρ H v d := by
 have hl := r.length
 have hj : j < ds.length := by rw [← hl]; exact (List.getElem?_eq_some_iff.mp h).1
 obtain ⟨v', e, rv⟩ := r.get (List.getElem?_eq_getElem hj)
 rw [h] at e; cases e
 exact ⟨_, List.getElem?_eq_getElem hj, rv⟩
theorem Qfd {g : List D → List D → Option Bool} {v : V} {d e : D} {r : Bool} (I : Inv X pins σ H s) (hg : ∀ xs ys vs k, Reps X.K ρ H vs xs → Reps X.K ρ H vs ys → g xs ys = some k → k = true) (h : eqS g d e = some r) (r1 : Rep X.K ρ H v d) (r2 : Rep X.K ρ H v e) : r = true := by
 cases r1 with
 | non => cases r2; cases h; rfl
 | bl b => cases r2; cases h; simp
 | int b => cases r2; cases h; simp
 | str b => cases r2; cases h; simp
 | tup h1 q1 =>
  cases r2 with
  | tup h2 q2 =>
   have := I.tuple_inj h1 h2
   subst this
   exact hg _ _ _ _ q1 q2 h
  | _ => cases h
 | lit _ _ => cases r2 <;> cases h
 | ref _ _ => cases r2 <;> cases h
 | dic _ _ => cases r2 <;> cases h
theorem Qfe {f : D → D → Option Bool} (hf : ∀ v d e k, Rep K ρ H v d → Rep K ρ H v e → f d e = some k → k = true) {xs ys : List D} {vs : List V} {k : Bool} (h1 : Reps K ρ H vs xs) (h2 : Reps K ρ H vs ys) (h : allF f xs ys = some k) : k = true := by
 induction xs generalizing ys vs k with
 | nil => cases h1; cases h2; cases h; rfl
 | cons x xs ih =>
  cases h1 with
  | cons a b => cases h2 with
   | cons c d =>
    unfold allF at h
    cases e : f _ _ with
    | none => rw [e] at h; cases h
    | some k =>
     rw [e] at h
     have := hf _ _ _ _ a c e
     subst this
     exact ih b d h
theorem Qff (I : Inv X pins σ H s) : ∀ (n : Nat) {v : V} {d e : D} {r : Bool}, eqF n d e = some r → Rep X.K ρ H v d → Rep X.K ρ H v e → r = true
 | 0, _, _, _, _, h, r1, r2 => Qfd I (fun _ _ _ _ _ _ z => by cases z) h r1 r2
 | n + 1, _, _, _, _, h, r1, r2 => Qfd I (fun xs ys vs k q1 q2 z => Qfe (fun v d e k a b c => Qff I n c a b) q1 q2 z) h r1 r2
open SeqAt in
theorem Qfg {g : List D → List D → Option Bool} {A : Around} {v w : V} {u1 u2 : Value} {d e : D} {r : Bool} (I : Inv X pins σ H s) (hu : A.units < cLine)
  (hg : ∀ xs ys k, g xs ys = some k → ∀ vs ws its its2, Reps X.K ρ H vs xs → Reps X.K ρ H ws ys → Vals vs its → Vals ws its2 →
   ∃ e : Nat → Bool, k = ((List.range (min its.length its2.length)).all e && its.length == its2.length) ∧ ∀ (j : Nat) x y, its[j]? = some x → its2[j]? = some y → EqAt A.in1 s x y (e j))
  (hs : ∀ xs ys vs k, Reps X.K ρ H vs xs → Reps X.K ρ H vs ys → g xs ys = some k → k = true)
  (h : eqS g d e = some r) (r1 : Rep X.K ρ H v d) (r2 : Rep X.K ρ H w e) (v1 : RelV v u1) (v2 : RelV w u2) : RcAt A s u1 u2 r ∧ RcNeAt A s u1 u2 (!r) ∧ EqAt A s u1 u2 r := by
 cases r1 with
 | lit _ _ => cases r2 <;> cases h
 | ref _ _ => cases r2 <;> cases h
 | dic _ _ => cases r2 <;> cases h
 | non =>
  cases (show u1 = Value.none from v1)
  cases r2 with
  | non => cases (show u2 = Value.none from v2); cases h; exact ⟨.none_none, .none_none, .same _⟩
  | bl b => cases (show u2 = Value.bool b from v2); cases h; exact ⟨.none_bool b, .none_bool b, .none_bool b⟩
  | int b => obtain ⟨t, rfl⟩ := (show ∃ t, u2 = Value.int b t from v2); cases h; exact ⟨.none_int b t, .none_int b t, .none_int b t⟩
  | str b => obtain ⟨t, rfl⟩ := (show ∃ t, u2 = Value.str b t from v2); cases h; exact ⟨.none_str b t, .none_str b t, .none_str b t⟩
  | tup h2 q2 => cases (show u2 = Value.ref _ from v2); cases h; obtain ⟨_, _, p, _⟩ := I.tuple h2; exact ⟨.none_tuple p hu, .none_tuple p hu, .none_tuple p hu⟩
  | _ => cases h
 | bl a =>
  cases (show u1 = Value.bool a from v1)
  cases r2 with
  | non => cases (show u2 = Value.none from v2); cases h; exact ⟨.bool_none a, .bool_none a, .bool_none a⟩
  | bl b => cases (show u2 = Value.bool b from v2); cases h; exact ⟨.bool_bool a b, .bool_bool a b, .bool_bool a b⟩
  | int b => obtain ⟨t, rfl⟩ := (show ∃ t, u2 = Value.int b t from v2); cases h; exact ⟨.bool_int a b t, .bool_int a b t, .bool_int a b t⟩
  | str b => obtain ⟨t, rfl⟩ := (show ∃ t, u2 = Value.str b t from v2); cases h; exact ⟨.bool_str a b t, .bool_str a b t, .bool_str a b t⟩
  | tup h2 q2 => cases (show u2 = Value.ref _ from v2); cases h; obtain ⟨_, _, p, _⟩ := I.tuple h2; exact ⟨.bool_tuple a p hu, .bool_tuple a p hu, .bool_tuple a p hu⟩
  | _ => cases h
 | int a =>
  obtain ⟨t1, rfl⟩ := (show ∃ t, u1 = Value.int a t from v1)
  cases r2 with
  | non => cases (show u2 = Value.none from v2); cases h; exact ⟨.int_none a t1, .int_none a t1, .int_none a t1⟩
  | bl b => cases (show u2 = Value.bool b from v2); cases h; exact ⟨.int_bool a t1 b, .int_bool a t1 b, .int_bool a t1 b⟩
  | int b => obtain ⟨t, rfl⟩ := (show ∃ t, u2 = Value.int b t from v2); cases h; exact ⟨.int_int a t1 b t, .int_int a t1 b t, .int_int a t1 b t⟩
  | str b => obtain ⟨t, rfl⟩ := (show ∃ t, u2 = Value.str b t from v2); cases h; exact ⟨.int_str a t1 b t, .int_str a t1 b t, .int_str a t1 b t⟩
  | tup h2 q2 => cases (show u2 = Value.ref _ from v2); cases h; obtain ⟨_, _, p, _⟩ := I.tuple h2; exact ⟨.int_tuple a t1 p hu, .int_tuple a t1 p hu, .int_tuple a t1 p hu⟩
  | _ => cases h
 | str a =>
  obtain ⟨t1, rfl⟩ := (show ∃ t, u1 = Value.str a t from v1)
  cases r2 with
  | non => cases (show u2 = Value.none from v2); cases h; exact ⟨.str_none a t1, .str_none a t1, .str_none a t1⟩
  | bl b => cases (show u2 = Value.bool b from v2); cases h; exact ⟨.str_bool a t1 b, .str_bool a t1 b, .str_bool a t1 b⟩
  | int b => obtain ⟨t, rfl⟩ := (show ∃ t, u2 = Value.int b t from v2); cases h; exact ⟨.str_int a t1 b t, .str_int a t1 b t, .str_int a t1 b t⟩
  | str b => obtain ⟨t, rfl⟩ := (show ∃ t, u2 = Value.str b t from v2); cases h; exact ⟨.str_str a t1 b t, .str_str a t1 b t, .str_str a t1 b t⟩
  | tup h2 q2 => cases (show u2 = Value.ref _ from v2); cases h; obtain ⟨_, _, p, _⟩ := I.tuple h2; exact ⟨.str_tuple a t1 p hu, .str_tuple a t1 p hu, .str_tuple a t1 p hu⟩
  | _ => cases h
 | @tup l1 vs xs h1 q1 =>
  cases (show u1 = Value.ref _ from v1)
  obtain ⟨its, rv, p, _⟩ := I.tuple h1
  cases r2 with
  | non => cases (show u2 = Value.none from v2); cases h; exact ⟨.tuple_none p hu, .tuple_none p hu, .tuple_none p hu⟩
  | bl b => cases (show u2 = Value.bool b from v2); cases h; exact ⟨.tuple_bool b p hu, .tuple_bool b p hu, .tuple_bool b p hu⟩
  | int b => obtain ⟨t, rfl⟩ := (show ∃ t, u2 = Value.int b t from v2); cases h; exact ⟨.tuple_int b t p hu, .tuple_int b t p hu, .tuple_int b t p hu⟩
  | str b => obtain ⟨t, rfl⟩ := (show ∃ t, u2 = Value.str b t from v2); cases h; exact ⟨.tuple_str b t p hu, .tuple_str b t p hu, .tuple_str b t p hu⟩
  | @tup l2 ws ys h2 q2 =>
   cases (show u2 = Value.ref _ from v2)
   obtain ⟨its2, rw', p2, _⟩ := I.tuple h2
   obtain ⟨ef, ek, he⟩ := hg xs ys r h vs ws its its2 q1 q2 rv rw'
   have hit : ∀ j (a1 : j < its.toArray.size) (a2 : j < its2.toArray.size), EqAt A.in1 s its.toArray[j] its2.toArray[j] (ef j) := fun j a1 a2 =>
    he j _ _ (by rw [List.getElem_toArray]; exact List.getElem?_eq_getElem (by simpa using a1)) (by rw [List.getElem_toArray]; exact List.getElem?_eq_getElem (by simpa using a2))
   have k1 := RcAt.tuples (A := A) (s := s) p p2 hu hit
   have k2 := RcNeAt.tuples (A := A) (s := s) p p2 hu hit
   simp only [List.size_toArray] at k1 k2
   rw [← ek] at k1 k2
   refine ⟨k1, k2, ?_⟩
   by_cases hl : l1 = l2
   ·subst hl
    have := I.tuple_inj h1 h2
    subst this
    rw [hs xs ys vs r q1 q2 h]
    exact .same _
   ·exact .of_refs hl k1
  | _ => cases h
open SeqAt in
theorem Qfh {n : Nat} {A : Around} (I : Inv X pins σ H s)
  (ih : ∀ {v w : V} {u1 u2 : Value} {d e : D} {r : Bool}, eqF n d e = some r → Rep X.K ρ H v d → Rep X.K ρ H w e → RelV v u1 → RelV w u2 → EqAt A s u1 u2 r)
  {xs ys : List D} {k : Bool} (h : allF (eqF n) xs ys = some k) {vs ws : List V} {its its2 : List Value} (q1 : Reps X.K ρ H vs xs) (q2 : Reps X.K ρ H ws ys) (rv : Vals vs its) (rw' : Vals ws its2) :
  ∃ e : Nat → Bool, k = ((List.range (min its.length its2.length)).all e && its.length == its2.length) ∧ ∀ (j : Nat) x y, its[j]? = some x → its2[j]? = some y → EqAt A s x y (e j) := by
 refine ⟨itE (eqF n) xs ys, ?_, fun j x y hx hy => ?_⟩
 ·have l1 := rv.length
  have l2 := rw'.length
  have l3 := q1.length
  have l4 := q2.length
  rw [← l1, ← l2, l3, l4]
  exact Qfc h
 ·obtain ⟨v, hv, ru⟩ := Vals.at rv hx
  obtain ⟨w, hw, rw2⟩ := Vals.at rw' hy
  obtain ⟨d, hd, rd⟩ := Reps.at q1 hv
  obtain ⟨e, he, re⟩ := Reps.at q2 hw
  obtain ⟨r, hr⟩ := Qfb h j d e hd he
  have : itE (eqF n) xs ys j = r := by unfold itE; rw [hd, he]; dsimp only; rw [hr]; rfl
  rw [this]
  exact ih hr rd re ru rw2
open SeqAt in
theorem Qfi (I : Inv X pins σ H s) : ∀ (n : Nat) {A : Around} {v w : V} {u1 u2 : Value} {d e : D} {r : Bool}, A.units + n < cLine → eqF n d e = some r → Rep X.K ρ H v d → Rep X.K ρ H w e → RelV v u1 → RelV w u2 → RcAt A s u1 u2 r ∧ RcNeAt A s u1 u2 (!r) ∧ EqAt A s u1 u2 r
 | 0, _, _, _, _, _, _, _, _, hu, h, r1, r2, v1, v2 => Qfg I hu (fun _ _ _ z => by cases z) (fun _ _ _ _ _ _ z => by cases z) h r1 r2 v1 v2
 | n + 1, A, _, _, _, _, _, _, _, hu, h, r1, r2, v1, v2 => Qfg I (by ac_nf)
   (fun xs ys k z vs ws its its2 q1 q2 rv rw' => Qfh I (fun h r1 r2 v1 v2 => (Qfi I n (A := A.in1) (by show A.units + 1 + n < cLine; ac_nf) h r1 r2 v1 v2).2.2) z q1 q2 rv rw')
   (fun xs ys vs k q1 q2 z => Qfe (fun v d e k a b c => Qff I n c a b) q1 q2 z) h r1 r2 v1 v2
end
end MM
namespace MM
open PySem PySem.Spec PyProof.Rows L2
section
variable {X : Cx} {K : PySem.W.Frag} {ρ : List Addr} {H : Hp} {st : Sto} {pins : List (Addr × Obj)} {σ : St} {s : Shared}
open SeqAt in
theorem Qfj (hu : X.A.units + 60 < cLine) (I : Inv X pins σ H s) (sr : SR X.K ρ H st) {d e : D} {x y : V} {v u : Value} {R : Bool → Sto → List Addr → Hp → Prop} (r1 : Rep X.K ρ H x d) (r2 : Rep X.K ρ H y e) (rx : RelV x v) (ry : RelV y u)
  (p : Post X.K ρ H (eqB d e st) R) : ∃ r, R r st ρ H ∧ RcAt X.A s v u r ∧ RcNeAt X.A s v u (!r) := by
 have hu' : X.A.units < cLine := by ac_nf
 have gen : Post X.K ρ H ((match eqF 50 d e with | some r => ret r | none => bad : M Bool) st) R → ∃ r, R r st ρ H ∧ RcAt X.A s v u r ∧ RcNeAt X.A s v u (!r) := fun q => by
  cases h : eqF 50 d e with
  | none => rw [h] at q; exact q.elim
  | some r =>
   rw [h] at q
   obtain ⟨k1, k2, _⟩ := Qfi I 50 (A := X.A) (by ac_nf) h r1 r2 rx ry
   exact ⟨r, q.ret sr, k1, k2⟩
 cases r1 with
 | non =>
  cases r2 with
  | @ref a n _ h =>
   obtain ⟨ds, e2, p1⟩ := Post.getL (Post.bnd p) sr
   obtain ⟨a', vs, ha, hv, r⟩ := sr.seq e2
   rw [h] at ha; cases ha
   cases (show v = Value.none from rx)
   cases (show u = Value.ref a from ry)
   obtain ⟨_, _, pl, _⟩ := I.list (SqL.of hv)
   exact ⟨false, p1.ret sr, .none_list pl.isList hu', .none_list pl.isList hu'⟩
  | _ => exact gen p
 | @ref a n _ h =>
  cases r2 with
  | non =>
   obtain ⟨ds, e2, p1⟩ := Post.getL (Post.bnd p) sr
   obtain ⟨a', vs, ha, hv, r⟩ := sr.seq e2
   rw [h] at ha; cases ha
   cases (show u = Value.none from ry)
   cases (show v = Value.ref a from rx)
   obtain ⟨_, _, pl, _⟩ := I.list (SqL.of hv)
   exact ⟨false, p1.ret sr, .list_none pl.isList hu', .list_none pl.isList hu'⟩
  | @ref b m _ h' =>
   obtain ⟨xs, e2, p1⟩ := Post.getL (Post.bnd p) sr
   obtain ⟨ys, e3, p2⟩ := Post.getL (Post.bnd p1) sr
   obtain ⟨a', vs, ha, hv, q1⟩ := sr.seq e2
   obtain ⟨b', ws, hb, hw, q2⟩ := sr.seq e3
   rw [h] at ha; cases ha
   rw [h'] at hb; cases hb
   cases (show v = Value.ref a from rx)
   cases (show u = Value.ref b from ry)
   obtain ⟨its, rv, pl, _⟩ := I.list (SqL.of hv)
   obtain ⟨its2, rw', pl2, _⟩ := I.list (SqL.of hw)
   have l1 := rv.length
   have l2 := rw'.length
   have l3 := q1.length
   have l4 := q2.length
   by_cases hl : xs.length = ys.length
   ·rw [if_pos hl] at p2
    cases h2 : allF (eqF 50) xs ys with
    | none => rw [h2] at p2; exact p2.elim
    | some r =>
     rw [h2] at p2
     obtain ⟨ef, ek, he⟩ := Qfh (A := X.A.in1) I (fun h r1 r2 v1 v2 => (Qfi I 50 (A := X.A.in1) (by show X.A.units + 1 + 50 < cLine; ac_nf) h r1 r2 v1 v2).2.2) h2 q1 q2 rv rw'
     have hsz : its.toArray.size = its2.toArray.size := by rw [List.size_toArray, List.size_toArray]; ac_nf
     have hit : ∀ j (a1 : j < its.toArray.size) (a2 : j < its2.toArray.size), EqAt X.A.in1 s its.toArray[j] its2.toArray[j] (ef j) := fun j a1 a2 =>
      he j _ _ (by rw [List.getElem_toArray]; exact List.getElem?_eq_getElem (by simpa using a1)) (by rw [List.getElem_toArray]; exact List.getElem?_eq_getElem (by simpa using a2))
     have ek2 : (List.range its.toArray.size).all ef = r := by
      rw [ek, List.size_toArray]
      have : its.length = its2.length := by ac_nf
      rw [this]; simp
     have k1 := RcAt.lists (A := X.A) (s := s) pl.isList pl2.isList hsz hu' hit
     have k2 := RcNeAt.lists (A := X.A) (s := s) pl.isList pl2.isList hsz hu' hit
     rw [ek2] at k1 k2
     exact ⟨r, p2.ret sr, k1, k2⟩
   ·rw [if_neg hl] at p2
    have hne : (its.toArray.size != its2.toArray.size) = true := by
     rw [List.size_toArray, List.size_toArray]
     simp
     ac_nf
    exact ⟨false, p2.ret sr, .lists_lengths pl.isList pl2.isList hne hu', .lists_lengths pl.isList pl2.isList hne hu'⟩
  | _ => exact gen p
 | _ => cases r2 <;> exact gen p
theorem Qfk (hu : X.A.units + 60 < cLine) : OpR X (compareOp .Eq) (rOf X.K eqD) := by
 intro pins s σ H x y v u Q I rx ry pq116; obtain ⟨ρ, st, d, e, sr, r1, r2, p⟩ := pq116
 obtain ⟨r, q, k1, _⟩ := Qfj hu I sr r1 r2 rx ry p.bnd
 exact k1 _ _ _ _ ⟨.bl r, H, I, rfl, q.ret sr _ (.bl _)⟩
theorem Qfl (hu : X.A.units + 60 < cLine) : OpR X (compareOp .NotEq) (rOf X.K neD) := by
 intro pins s σ H x y v u Q I rx ry pq117; obtain ⟨ρ, st, d, e, sr, r1, r2, p⟩ := pq117
 obtain ⟨r, q, _, k2⟩ := Qfj hu I sr r1 r2 rx ry p.bnd
 exact k2 _ _ _ _ ⟨.bl (!r), H, I, rfl, q.ret sr _ (.bl _)⟩
end
section
variable {X : Cx} {a b c e o tg : Expr} {es : List Expr} {pos apos cpos : Pos} {fa fb fc : CE} {ca cb : CA} {ta tb : CT} {K : PySem.W.Frag} {ρ : List Addr} {H : Hp} {st : Sto} {x : Str} {p : Pos} {T : String}
theorem Qfm : OpR X (binaryOp .Add) (rOf X.K addD) := by
 intro pins s σ H x y v u Q I rx ry pq118; obtain ⟨ρ, st, d, e, sr, r1, r2, p⟩ := pq118
 cases r1 with
 | int i =>
  cases r2 with
  | int j => exact Qa7 pins s σ H _ _ v u Q I rx ry ⟨i, j, rfl, rfl, p.ret sr _ (.int _)⟩
  | _ => exact p.elim
 | str i =>
  cases r2 with
  | str j => exact Qbu pins s σ H _ _ v u Q I rx ry ⟨i, j, rfl, rfl, (Post.chk p).1, (Post.chk p).2.ret sr _ (.str _)⟩
  | _ => exact p.elim
 | ref _ h =>
  cases r2 with
  | ref _ h' =>
   obtain ⟨xs, e2, p1⟩ := Post.getL (Post.bnd p) sr
   obtain ⟨ys, e3, p2⟩ := Post.getL (Post.bnd p1) sr
   obtain ⟨a', vs, ha, hv, q1⟩ := sr.seq e2
   obtain ⟨b', ws, hb, hw, q2⟩ := sr.seq e3
   rw [h] at ha; cases ha
   rw [h'] at hb; cases hb
   obtain ⟨hz, p3⟩ := Post.chk p2
   refine Qcn pins s σ H _ _ v u Q I rx ry ⟨_, _, vs, ws, rfl, rfl, hv, hw, by rw [q1.length, q2.length]; exact hz, fun q hq => ?_⟩
   have nq := sr.fresh hq
   have x1 : Ex ρ H (ρ ++ [q]) (upd H q (.lst (vs ++ ws))) := Ex.newL hq
   refine p3 _ _ x1 ((sr.new hq).keep Qai nq ((Reps.app q1 q2).mono (Ex.new hq))) _ (.ref ⟨_, Qai, rfl⟩ ?_)
   rw [← sr.len]; simp
  | _ => exact p.elim
 | tup h1 q1 =>
  cases r2 with
  | tup h2 q2 =>
   obtain ⟨hz, p2⟩ := Post.chk p
   rename_i a1 vs xs b1 ws ys
   by_cases hx : vs = []
   ·subst hx
    cases q1
    obtain ⟨its, v1, ht, _⟩ := I.tuple h1
    obtain ⟨its2, v2, hb, _⟩ := I.tuple h2
    cases v1
    have ev : v = Value.ref a1 := rx
    have eu : u = Value.ref b1 := ry
    subst ev eu
    obtain ⟨⟨cls, dd, data, sl⟩, ho, hc, n, hd⟩ := ht
    obtain ⟨⟨cls2, dd2, data2, sl2⟩, ho2, hc2, n2, hd2⟩ := hb
    simp only at hc hd hc2 hd2
    subst hc hd hc2 hd2
    refine concat_meets (E := X.xe) ⟨_, ho, rfl⟩ ⟨_, ho2, rfl⟩ noFill_tuple_add seq_tuple_add PySem.F.slot_tuple_add PySem.F.entry_tuple_add (PySem.F.args_tuple_add_2 _ _) (tuple_addW0 a1 b1 _ _ n n2 dd dd2 sl sl2 (by simp)) ⟨ho, ho2, ?_⟩
    exact ⟨.ref b1, H, I, rfl, p2.ret sr _ (.tup h2 q2)⟩
   ·refine QbV pins s σ H _ _ v u Q I rx ry ⟨_, _, vs, ws, rfl, rfl, h1, h2, hx, by rw [q1.length, q2.length]; exact hz, fun he => ?_, fun _ q hq => ?_⟩
    ·subst he
     cases q2
     rw [List.append_nil] at p2
     exact p2.ret sr _ (.tup h1 q1)
    ·exact p2 _ _ (Ex.new hq) (sr.new hq) _ (.tup (SqT.of Qai) ((Reps.app q1 q2).mono (Ex.new hq)))
  | _ => exact p.elim
 | _ => cases r2 <;> exact p.elim
theorem _root_.L2.SlR.of {r r' : V → Option Int → Option Int → Hp → VK → Prop} (h : SlR X r) (g : ∀ x lo hi H Q, r' x lo hi H Q → r x lo hi H Q) : SlR X r' := fun pins s σ H x v vl vu lo hi sl Q I rx hs pl pu q => h pins s σ H x v vl vu lo hi sl Q I rx hs pl pu (g x lo hi H Q q)
noncomputable def toOf (K : PySem.W.Frag) (f : CO) : TO := fun σ H Q => ∃ ρ l st, LR K ρ H σ l ∧ SR K ρ H st ∧ Post K ρ H (f l st) fun o _ _ H' => Q o H'
abbrev SO (X : Cx) (e : Option Expr) (f : CO) : Prop := PO X e (toOf X.K f)
theorem Qfn (h : SE X e fa) : SO X (some e) (oSome fa) := fun pins s σ H Q I h_ => h_.el fun ρ l st lr sr p => QbS h pins s σ H Q I ⟨ρ, l, st, lr, sr, p.bnd.imp fun d st1 ρ1 H1 x1 s1 p1 v rv => by
 cases rv with
 | int i => exact ⟨i, rfl, p1.ret s1⟩
 | _ => exact p1.elim⟩
theorem Reps.cut {vs : List V} {ds : List D} (r : Reps K ρ H vs ds) (lo hi : Option Int) : Reps K ρ H (cutV vs lo hi) (cutD ds lo hi) := by
 unfold cutV cutD
 have e : ∀ n d o, HT.sIx n d o = MM.sIx n d o := fun n d o => by cases o <;> rfl
 rw [e, e, r.length]
 exact (r.drop _).take _
theorem Qfo {lo hi : Option Expr} {fl fh : CO} {p2 : Pos} (h : SE X e fa) (hl : SO X lo fl) (hh : SO X hi fh) : SL X (.Subscript e (.Slice lo hi none p2) pos) (aSlice fa fl fh) :=
 (QbT Qb7 h hl hh).of fun σ H Q h_ => h_.el fun ρ l st lr sr p => ⟨ρ, l, st, lr, sr, p.bnd0.imp fun d st1 ρ1 H1 x1 s1 p1 v rv => ⟨ρ1, l, st1, lr.mono x1, s1, (p1.bnd0.left x1).imp fun i st2 ρ2 H2 x2 s2 p2 => ⟨ρ2, l, st2, (lr.mono x1).mono x2, s2, (p2.bnd0.left (x1.trans x2)).imp fun j st3 ρ3 H3 x3 s3 p3 => by
  have rv3 := (rv.mono x2).mono x3
  have x03 := x1.trans (x2.trans x3)
  have fin : ∀ {a : Addr} {vs : List V} {ds : List D}, SqL X.K H3 a vs → Reps X.K ρ3 H3 vs ds → Post X.K ρ H (ret (cutD ds i j) st3) (fun ds _ ρ' H' => ∀ a vs, H a = none → a ∉ ρ' → H' a = some (.lst vs) → Reps X.K ρ' H' vs ds → Q (.ref a) H') → rSlL X.K (.ref a) i j H3 Q := fun {a vs ds} hs r q =>
   ⟨a, vs, rfl, hs, fun q1 hq1 => by
    have hn : H q1 = none := by
     cases z : H q1 with
     | none => rfl
     | some o => exact absurd hq1 (x03.trk q1 o z)
    exact q ρ3 _ (x03.trans (Ex.new hq1)) (s3.new hq1) q1 _ hn (s3.fresh hq1) Qai ((Reps.cut r i j).mono (Ex.new hq1))⟩
  cases rv3 with
  | lit h r => exact fin h.seq r p3
  | ref _ h =>
   obtain ⟨ds, e2, p4⟩ := Post.getL (p3.bnd0.left x03) s3
   obtain ⟨a', vs, ha, hv, r⟩ := s3.seq e2
   rw [h] at ha; cases ha
   exact fin (SqL.of hv) r p4
  | _ => exact p3.elim⟩⟩⟩
end
end MM
namespace MM
open PySem PySem.Spec PyProof.Rows L2
open PySem.AutoSeq1 (wpAny_loadPart')
theorem Qfp (l : Addr) (items : Array Value) (n : Nat) (dct : Option Addr) (sl : Array (Option Value)) :
  Meets (Builtin.«enumerate.__new__» ⟨[.type "enumerate", .ref l], []⟩) (fun _ R s => s.heap.get? l = some { cls := .type "tuple", dict := dct, data := .seq items n, slots := sl } ∧
   R (.ok (.ret (.ref (s.heap.push { cls := .type "tuple_iterator", data := .fields #[.ref l, .int 0 0] }).objs.size)))
    { s with heap := (s.heap.push { cls := .type "tuple_iterator", data := .fields #[.ref l, .int 0 0] }).push { cls := .type "enumerate", data := .fields #[.none, .bool false, .ref s.heap.objs.size, rawInt 0, .none, .none] } }) :=
 .of_wp fun prog w A R s h => by
  obtain ⟨hp, g, d, tk, os⟩ := s; obtain ⟨hl, h⟩ := h; have hsub := sub_enumerate
  have hT : Heap.IsTuple (Shared.heap ⟨hp, g, d, tk, os⟩) l items := ⟨_, hl, rfl, n, rfl⟩
  wp_walk using wpAny_loadPart' hl; refine wpAny_stack_any fun st => wpAny_pure ?_; split
  ·rename_i c _ _ _ _ _; cases (c == Value.type "enumerate") <;> (wp_walk using wpAny_loadPart' hl, wpAny_pyIter_tuple hT; exact ⟨_, rfl, h⟩)
  ·wp_walk using wpAny_loadPart' hl, wpAny_pyIter_tuple hT; exact ⟨_, rfl, h⟩
section
variable {prog : Program} {w : World} {A : Around} {E : Value → Shared → Prop} {s : Shared}
theorem Qfq {l : Addr} {items : Array Value} {Q : Value → Shared → Prop} (hL : s.heap.IsTuple l items)
  (h : ∀ h', IsEnum h' (s.heap.objs.size + 1) s.heap.objs.size 0 .none → h'.IsTupleIter s.heap.objs.size l 0 → h'.objs.size = s.heap.objs.size + 2 → (∀ b o, s.heap.get? b = some o → h'.get? b = some o) → Q (.ref (s.heap.objs.size + 1)) { s with heap := h' }) :
  wpAny (model prog w) A (call (.type "enumerate") [.ref l]) Q E s := by
 obtain ⟨⟨c, dct, dt, sl⟩, hl, hc, n, hd⟩ := hL
 replace hc : c = .type "tuple" := hc
 replace hd : dt = .seq items n := hd
 subst hc hd
 refine callType_new F.called_enumerate (by decide) (F.typeCall_enumerate_1 _) (F.newCall_enumerate_1 _) (fun obj => F.args_object_init_2 obj _) F.entry_enumerate_new (Qfp l items n dct sl) ⟨hl, ?_⟩
 have hz : (s.heap.push { cls := .type "tuple_iterator", data := .fields #[.ref l, .int 0 0] }).objs.size = s.heap.objs.size + 1 := Heap.size_push ..
 show _ ∧ _; rw [hz]
 have he : IsEnum ((s.heap.push { cls := .type "tuple_iterator", data := .fields #[.ref l, .int 0 0] }).push { cls := .type "enumerate", data := .fields #[.none, .bool false, .ref s.heap.objs.size, rawInt 0, .none, .none] }) (s.heap.objs.size + 1) s.heap.objs.size 0 .none := by
  have q := Heap.get?_push_size (s.heap.push { cls := .type "tuple_iterator", data := .fields #[.ref l, .int 0 0] }) (o := { cls := .type "enumerate", data := .fields #[.none, .bool false, .ref s.heap.objs.size, rawInt 0, .none, .none] }) rfl
  rw [hz] at q; exact q
 exact ⟨⟨_, he, rfl⟩, h _ he ⟨_, Heap.get?_push_of_some _ (Heap.get?_push_size _ rfl), rfl, rfl⟩ (by rw [Heap.size_push, hz]) fun b o x => Heap.get?_push_of_some _ (Heap.get?_push_of_some _ x)⟩
theorem Qfr {it l : Addr} {i : Nat} {items} {x : Value} {Q : Value → Shared → Prop} (hit : s.heap.IsTupleIter it l i) (hl : s.heap.IsTuple l items) (hx : items[i]? = some x)
  (hQ : ∀ h', h'.IsTupleIter it l (i + 1) → Heap.SameBut it s.heap h' → Q x { s with heap := h' }) : wpAny (model prog w) A (Builtin.SmallTypes.nextOf (.ref it)) Q E s := by
 obtain ⟨o, ho, hc, hd⟩ := id hit; obtain ⟨ol, hol, _, nl, hdl⟩ := hl
 unfold Builtin.SmallTypes.nextOf
 refine wpAny_bind (wpAny_callSpecial?_slot (name := Str.ofString "__next__") hit.typeIs F.slot_tuple_iterator_next (wpAny_call_entry F.slot_tuple_iterator_next hit.typeIs F.entry_tuple_iterator_next ?_ (F.args_tuple_iterator_next_1 _)))
 show wpAny _ _ (field (.ref it) 0 >>= _) _ _ s; refine wpAny_bind (wpAny_field ho hd (x := .ref l) rfl ?_)
 show wpAny _ _ (if (Value.ref l == Value.none) = true then _ else _) _ _ s; rw [if_neg (show ¬ ((Value.ref l == Value.none) = true) from Bool.false_ne_true)]
 show wpAny _ _ (field (.ref it) 1 >>= _) _ _ s; refine wpAny_bind (wpAny_field ho hd (x := .int i 0) rfl ?_)
 show wpAny _ _ (seqItems? (.ref l) >>= _) _ _ s; refine wpAny_bind (wpAny_seqItems hol hdl ?_); simp only [Int.toNat_natCast, hx]
 refine wpAny_bind (wpAny_setField ho hd (by simp) (wpAny_pure ⟨x, rfl, wpAny_pure (hQ _ ⟨_, Heap.get?_update_self _ ho (Obj.isFreed_of_fields (Obj.data_mapFields hd _)), (Obj.cls_mapFields ..).trans hc, ?_⟩ (Heap.SameBut.update ..))⟩))
 rw [Obj.data_mapFields hd]; simp [rawInt]
theorem Qfs {it l : Addr} {i : Nat} {items} {Q : Value → Shared → Prop} (hh : A.handled = none) (hit : s.heap.IsTupleIter it l i) (hl : s.heap.IsTuple l items) (hx : items[i]? = none)
  (hE : ∀ h' e, Heap.ExtBut it s.heap h' → (∃ o, h'.get? e = some o ∧ o.cls = .type "StopIteration") → E (.ref e) { s with heap := h' }) : wpAny (model prog w) A (Builtin.SmallTypes.nextOf (.ref it)) Q E s := by
 obtain ⟨o, ho, hc, hd⟩ := id hit; obtain ⟨ol, hol, _, nl, hdl⟩ := hl
 unfold Builtin.SmallTypes.nextOf
 refine wpAny_bind (wpAny_callSpecial?_slot (name := Str.ofString "__next__") hit.typeIs F.slot_tuple_iterator_next (wpAny_call_entry F.slot_tuple_iterator_next hit.typeIs F.entry_tuple_iterator_next ?_ (F.args_tuple_iterator_next_1 _)))
 show wpAny _ _ (field (.ref it) 0 >>= _) _ _ s; refine wpAny_bind (wpAny_field ho hd (x := .ref l) rfl ?_)
 show wpAny _ _ (if (Value.ref l == Value.none) = true then _ else _) _ _ s; rw [if_neg (show ¬ ((Value.ref l == Value.none) = true) from Bool.false_ne_true)]
 show wpAny _ _ (field (.ref it) 1 >>= _) _ _ s; refine wpAny_bind (wpAny_field ho hd (x := .int i 0) rfl ?_)
 show wpAny _ _ (seqItems? (.ref l) >>= _) _ _ s; refine wpAny_bind (wpAny_seqItems hol hdl ?_); simp only [Int.toNat_natCast, hx]
 refine wpAny_bind (wpAny_rule (wpAny_bind (wpAny_setField ho hd (by simp) ?_))); show wpAny _ _ (newExc (.type "StopIteration") [] >>= _) _ _ _
 refine wpAny_bind ?_; simp only [newExc, newTuple]; refine wpAny_bind (wpAny_newObj_type ?_ (by size_fits))
 refine wpAny_bind (m := firstArgMember _ _) (wpAny_of_eq (a := Value.none) (by first | rfl | (simp only [firstArgMember]; rfl)) (wpAny_newObj_type ?_ (by size_fits)))
 simp only [raiseNew]; refine wpAny_bind (wpAny_handled ?_); first | rw [show A.in1.handled = none from hh] | rw [hh]
 exact wpAny_bind (wpAny_pure (wpAny_throw (hE _ _ (((Heap.SameBut.update ..).extBut.push _).push _) ⟨_, Heap.get?_push_size _ rfl, rfl⟩)))
end
theorem Qft {prog : Program} {w : World} {A : Around} (hh : A.handled = none) (it l : Addr) (hne : l ≠ it) (items : Array Value) :
  Draws prog w A it [it, l] items.size (fun i v => items[i]? = some v) (fun i h => h.IsTupleIter it l i ∧ h.IsTuple l items) where
 live := fun _ _ st => let ⟨o, ho, _⟩ := st.1; ⟨o, ho⟩
 frame := fun _ _ _ st hk => ⟨let ⟨o, e, r⟩ := st.1; ⟨o, hk it (by simp) o e, r⟩, let ⟨o, e, r⟩ := st.2; ⟨o, hk l (by simp) o e, r⟩⟩
 item := fun i s Q E hi st hQ => Qfr st.1 st.2 (x := items[i]) (by simp [hi]) fun h' hit' hs' => hQ _ h' s.toks (by simp [hi]) ⟨hit', st.2.extBut hs'.extBut hne⟩ hs'
 done := fun s Q E st hE => Qfs hh st.1 st.2 (by simp) hE
noncomputable def Ite (K : PySem.W.Frag) (a : Addr) : It :=
 ⟨fun i H => ∃ xs x, SqT K H a xs ∧ xs[i]? = some x, fun i H x H' => ∃ T v, x = .ref T ∧ H T = none ∧ (∀ xs, SqT K H a xs → xs[i]? = some v) ∧ H' = upd H T (.tup [.int i, v]), fun i H => ∃ xs, SqT K H a xs ∧ xs.length ≤ i⟩
section
variable {X : Cx} {tg : Expr} {es : List Expr} {pos : Pos} {fa : CE} {K : PySem.W.Frag} {ρ : List Addr} {H : Hp} {st : Sto}
theorem Qfu {P : Program} {w : World} {k : Nat} (a e it : Addr) (hei : e ≠ it) : Turn P w K (.Tuple es k pos) (Ite K a) [e, it] e (fun i h => (∃ old, IsEnum h e it i old) ∧ h.IsTupleIter it a i) where
 mem := by simp
 obj := fun i h pq76 b hb => by
  obtain ⟨⟨old, he⟩, hit⟩ := pq76
  rcases List.mem_cons.mp hb with z | z
  ·subst z; exact ⟨_, he, fun v q => by cases q⟩
  ·have z' : b = it := by simpa using z
   subst z'
   obtain ⟨o, e, c, d⟩ := hit
   exact ⟨o, e, fun v q => by rw [d] at q; cases q⟩
 keep := fun i h h' pq77 kp => by obtain ⟨⟨old, he⟩, hit⟩ := pq77; exact ⟨⟨old, kp e (by simp) _ he⟩, let ⟨o, x, r⟩ := hit; ⟨o, kp it (by simp) o x, r⟩⟩
 item := by
  intro X hP hw hK hc i pins s σ H E I hf pq119 hg; obtain ⟨⟨old, he⟩, hit⟩ := pq119
  subst hP hw hK
  obtain ⟨xs, x, hq, hx⟩ := hg
  obtain ⟨its, rv, p, hz⟩ := I.tuple hq
  obtain ⟨u, hu, ru⟩ := rv.get hx
  have hlt : i < its.toArray.size := by rw [List.size_toArray]; exact (List.getElem?_eq_some_iff.mp hu).1
  obtain ⟨f0, f1, f2, f3, f4, f5⟩ := hf e (by simp)
  obtain ⟨g0, g1, g2, g3, g4, g5⟩ := hf it (by simp)
  have hai : a ≠ it := fun z => by
   obtain ⟨o, e1, c, _⟩ := hit
   obtain ⟨o', e2, c', _⟩ := p
   rw [z, e1] at e2; cases e2; rw [c] at c'; exact absurd (Value.type.inj c') (by decide)
  have hae : a ≠ e := fun z => by
   obtain ⟨o', e2, c', _⟩ := p
   rw [z, he] at e2; cases e2; exact absurd (Value.type.inj c') (by decide)
  have D := Qft (prog := X.prog) (w := X.w) (A := X.A.in1) (I.ok.hd hc) it a hai its.toArray
  refine wpAny_pyNext_enum_itemD D he ⟨hit, p⟩ hlt hei (by simp; exact ⟨hei, hae.symm⟩) fun y h' tk hP ho hst hT hsz hk => ?_
  have ey : y = u := by
   have : its.toArray[i]? = some u := by simpa using hu
   rw [this] at hP; cases hP; rfl
  subst ey
  refine ⟨_, rfl, wpAny_letOwnedTupleGo_enum ho fun h2 he2 hs2 => ?_⟩
  have helt : e < s.heap.objs.size := Heap.lt_size he
  have hTn : H s.heap.objs.size = none := I.hok.fresh (Nat.le_refl _)
  have keep : ∀ b o, b ≠ e → b ≠ it → s.heap.get? b = some o → h2.get? b = some o := fun b o hb1 hb2 e1 => (hs2.2 b hb1).trans (hk b o hb1 hb2 e1)
  have hT2 : h2.get? s.heap.objs.size = some { cls := .type "tuple", data := .seq #[.int i tk, y] } := (hs2.2 _ (Nat.ne_of_gt helt)).trans hT
  have I2 : Inv X pins σ (upd H s.heap.objs.size (.tup [.int i, x])) { s with heap := h2, toks := tk + 1 } := by
   have ne : ∀ b o, H b = some o → b ≠ e ∧ b ≠ it := fun b o q => ⟨fun z => (by rw [z, f0] at q; cases q), fun z => (by rw [z, g0] at q; cases q)⟩
   refine I.step (g' := s.gens) (d' := s.drawn) (ch := [e, it]) (fun b hb => ?_) (fun b o _ _ hc' e1 _ => keep b o (fun z => hc' (by simp [z])) (fun z => hc' (by simp [z])) e1)
    (fun b o _ _ hc' e1 _ => ⟨o.slots, keep b o (fun z => hc' (by simp [z])) (fun z => hc' (by simp [z])) e1⟩) (fun b o hc' e1 n1 => by rw [Qaj (Nat.ne_of_lt (Heap.lt_size e1))]; exact n1) (fun b o hc' e1 => ⟨o, keep b o (fun z => hc' (by simp [z])) (fun z => hc' (by simp [z])) e1⟩)
    (fun b ys q => by rw [Qaj (Qal q hTn)]; exact q) (fun b o ys q => by rw [Qaj (Qal q hTn)]; exact q) (fun b ps q => ⟨#[], by rw [Qaj (Qal q hTn), q]; simp⟩) (fun m hm => ?_) ?_ I.bare
   ·rcases List.mem_cons.mp hb with z | z
    ·subst z; exact ⟨f3, f1, f4, f5⟩
    ·have z' : b = it := by simpa using z
     subst z'; exact ⟨g3, g1, g4, g5⟩
   ·obtain ⟨o, es', ep, e1, r⟩ := hm
    exact ⟨o, es', ep, keep _ o f1.symm g1.symm e1, r⟩
   ·intro b o q
    by_cases hb : b = s.heap.objs.size
    ·subst hb
     rw [Qai] at q; cases q
     exact ⟨by show 2 ≤ sizeLine; decide, [.int i tk, y], .cons ⟨tk, rfl⟩ (.cons ru .nil), ⟨_, hT2, rfl, _, rfl⟩⟩
    ·rw [Qaj hb] at q
     have := ne b o q
     refine (I.hok b o q).stay (fun c v hc' r => keep c v ?_ ?_ r) (fun c q' => by rw [Qaj (Qal q' hTn)]; exact q') fun c ys q' => by rw [Qaj (Qal q' hTn)]; exact q'
     ·rcases hc' with z | z
      ·rw [z]; exact this.1
      ·exact (ne c _ z).1
     ·rcases hc' with z | z
      ·rw [z]; exact this.2
      ·exact (ne c _ z).2
  refine ⟨.ref s.heap.objs.size, _, I2, rfl, ⟨_, x, rfl, hTn, fun ys hy => by rw [I.tuple_inj hy hq]; exact hx, rfl⟩, ⟨⟨y, by simpa using he2⟩, let ⟨o, x1, r⟩ := hst.1; ⟨o, (hs2.2 it hei.symm).trans x1, r⟩⟩, fun b hb => ?_⟩
  rw [Qaj]
  ·exact (hf b hb).1
  ·intro z
   have : b < s.heap.objs.size := by
    rcases List.mem_cons.mp hb with q | q
    ·rw [q]; exact helt
    ·have q' : b = it := by simpa using q
     rw [q']; obtain ⟨o, x1, _⟩ := hit; exact Heap.lt_size x1
   exact absurd this (by rw [z]; exact Nat.lt_irrefl _)
 done := by
  intro X hP hw hK hc i pins s σ H E I hf pq120 hg; obtain ⟨⟨old, he⟩, hit⟩ := pq120
  subst hP hw hK
  obtain ⟨xs, hq, hx⟩ := hg
  obtain ⟨its, rv, p, hz⟩ := I.tuple hq
  obtain ⟨g0, g1, g2, g3, g4, g5⟩ := hf it (by simp)
  have hl := rv.length
  have hT : s.TypeIs (.ref e) "enumerate" := ⟨_, he, rfl⟩
  unfold pyNext
  refine wpAny_bind (wpAny_attempt (wpAny_callSpecial?_slot (name := Str.ofString "__next__") hT F.slot_enumerate_next (wpAny_call_entry F.slot_enumerate_next hT F.entry_enumerate_next ?_ (F.args_enumerate_next_1 _))))
  show wpAny _ _ (field (.ref e) 2 >>= _) _ _ _; refine wpAny_bind (wpAny_field he rfl (x := .ref it) rfl ?_)
  refine wpAny_bind (Qfs (A := X.A.in1) (I.ok.hd hc) hit p (by simp; ac_nf) fun h' x he' pq78 => ?_)
  obtain ⟨o, ho, hc'⟩ := pq78
  exact wpAny_bind (wpAny_isInstance (T := "StopIteration") (b := true) ⟨o, ho, hc'⟩ isSubtype_stop (wpAny_pure ⟨rfl, I.turned (t' := s.toks) (fun b o hb e => he' b o hb e) g0 g1 g3 g4 g5⟩))
 self := fun _ _ _ _ _ pq79 h => by obtain ⟨⟨old, he⟩, _⟩ := pq79; exact wpAny_pyIter_enum he h
theorem Qfv {b : Expr} {p tpos : Pos} {k : Nat} (hg : Gl X "enumerate") (hm : X.mg "enumerate" = none) (h : SE X b fa) (hs : starEach [b] X.env = [(false, eval b X.env)] := by rfl) :
  SI X (.Tuple es k tpos) (.Call (.Name "enumerate" p) [b] [] pos) (iEnum fa) := by
 intro pins s σ H R I pq121; obtain ⟨ρ, l, st, lr, sr, q⟩ := pq121
 refine Call_ (Qay I hg hm boot_enumerate (PyProof.Rows.callWith_type1 (thn (Qd1 h Qd0 hs pos pins s σ H (fun vs H1 => ∃ a xs, vs = [.ref a] ∧ SqT X.K H1 a xs ∧ R (Ite X.K a) H1) I ⟨ρ, l, st, lr, sr, ?_⟩) fun us s1 ⟨vs, H1, I1, r1, q1⟩ => ?_) hs rfl))
 ·have q' := Post.bnd q
  show Post X.K ρ H (MM.bnd (fa l) _ st) _
  unfold MM.bnd
  cases e : fa l st with
  | bad => rw [e] at q'; exact q'
  | exc _ _ => rw [e] at q'; exact q'
  | ok d st1 =>
   rw [e] at q'
   show ∀ ρ' H', Ex ρ H ρ' H' → SR X.K ρ' H' st1 → _
   intro ρ1 H1 x1 s1 vs rvs
   have p1 := q' ρ1 H1 x1 s1
   cases rvs with
   | cons rv rt =>
    cases rt
    cases rv with
    | @tup a ws ds ht r =>
     refine ⟨a, ws, rfl, ht, p1.ret s1 _ ?_⟩
     intro ρ2 H2 st2 x2 s2 _
     have hl := r.length
     have ht2 : SqT X.K H2 a ws := SqT.mono x2.up ht
     have len : ((rngD 0 ds.length).zipWith (fun i d => D.tup [i, d]) ds).length = ds.length := by simp [rngD]
     refine ⟨⟨ws, ht2, by rw [len, hl]; exact Nat.le_refl _⟩, fun i d e1 => ?_⟩
     have hi : i < ds.length := by rw [← len]; exact (List.getElem?_eq_some_iff.mp e1).1
     have ed : d = .tup [.int i, ds[i]] := by
      rw [List.getElem?_zipWith, rngD, List.getElem?_map, List.getElem?_range hi, List.getElem?_eq_getElem hi] at e1
      have := Option.some.inj e1
      rw [← this]; simp
     subst ed
     obtain ⟨v, hv, rv⟩ := (r.mono x2).get (List.getElem?_eq_getElem hi)
     refine ⟨⟨ws, v, ht2, hv⟩, fun y H3 pq81 => ?_⟩
     obtain ⟨T, w, ey, hn, hw, eH⟩ := pq81
     subst ey eH
     have ew := hw ws ht2
     rw [hv] at ew; cases ew
     have x3 : Ex ρ2 H2 ρ2 (upd H2 T (.tup [.int i, v])) := Ex.new hn
     exact ⟨x3, s2.new hn, .tup (SqT.of Qai) (.cons (.int _) (.cons (rv.mono x3) .nil))⟩
    | _ => exact p1.elim
 ·obtain ⟨a, xs, e, hq, hR⟩ := q1
  subst e
  obtain ⟨u, rfl, ru⟩ := Qbv r1
  cases ru
  obtain ⟨its, rv, p1, hz⟩ := I1.tuple hq
  refine Qfq p1 fun h' he hit hsz kp => wpAny_pyIter_enum he ?_
  have I2 : Inv X pins σ H1 { s1 with heap := h' } := I1.kept (t' := s1.toks) kp
  refine ⟨s1.heap.objs.size + 1, [s1.heap.objs.size + 1, s1.heap.objs.size], _, Ite X.K a, H1, rfl, I2, Qfu a (s1.heap.objs.size + 1) s1.heap.objs.size (Nat.succ_ne_self _), ⟨⟨_, he⟩, hit⟩, fun b hb => ?_, hR⟩
  have hle : s1.heap.objs.size ≤ b := by
   rcases List.mem_cons.mp hb with z | z
   ·rw [z]; exact Nat.le_succ _
   ·have z' : b = s1.heap.objs.size := by simpa using z
    rw [z']; exact Nat.le_refl _
  exact I1.fpOk hle (I1.hok.fresh hle)
end
end MM
namespace MM
open PySem PySem.Spec PyProof.Rows L2
section
variable {X : Cx} {K : PySem.W.Frag} {ρ : List Addr} {H : Hp} {st : Sto}
theorem Qfw : OpR X (compareOp .IsNot) (rOf X.K isntD) := by
 intro pins s σ H x y v u Q I rx ry pq122; obtain ⟨ρ, st, d, e, sr, r1, r2, p⟩ := pq122
 cases r2 with
 | non =>
  refine Qbj pins s σ H x .non v u Q I rx ry ⟨rfl, ?_⟩
  cases r1 with
  | non => exact p.ret sr _ (.bl false)
  | bl b => exact p.ret sr _ (.bl true)
  | int b => exact p.ret sr _ (.bl true)
  | str b => exact p.ret sr _ (.bl true)
  | tup h r => exact p.ret sr _ (.bl true)
  | lit h r => exact p.ret sr _ (.bl true)
  | ref _ h => exact p.ret sr _ (.bl true)
  | dic _ h => exact p.ret sr _ (.bl true)
 | bl b =>
  cases r1 with
  | bl a =>
   cases (show v = Value.bool a from rx)
   cases (show u = Value.bool b from ry)
   refine wpAny_isNot_plain rfl ⟨.bl (!(a == b)), H, I, ?_, p.ret sr _ (.bl _)⟩
   cases a <;> cases b <;> rfl
  | _ => exact p.elim
 | _ => cases r1 <;> exact p.elim
theorem Qfx {v : V} {d : D} (r : Rep K ρ H v d) (h : flatD d = true) : flatV v = true := by
 cases r <;> first | rfl | cases h
theorem Qfy : ∀ {vs : List V} {ds : List D}, Reps K ρ H vs ds → ds.all flatD = true → vs.all flatV = true
 | _, _, .nil, _ => rfl
 | _, _, .cons r t, h => by
  rw [List.all_cons, Bool.and_eq_true] at h
  rw [List.all_cons, Bool.and_eq_true]
  exact ⟨Qfx r h.1, Qfy t h.2⟩
theorem Qfz {v w : V} {d e : D} (r : Rep K ρ H v d) (q : Rep K ρ H w e) (h : flatD d = true) (h' : flatD e = true) : eqV v w = eqFl d e := by
 cases r <;> first | (cases q <;> first | rfl | cases h') | cases h
theorem QfA {w : V} {e : D} (q : Rep K ρ H w e) (h' : flatD e = true) : ∀ {vs : List V} {ds : List D}, Reps K ρ H vs ds → ds.all flatD = true → inV w vs = ds.any fun d => eqFl d e
 | _, _, .nil, _ => rfl
 | _, _, .cons r t, h => by
  rw [List.all_cons, Bool.and_eq_true] at h
  have := QfA q h' t h.2
  unfold inV at this ⊢
  rw [List.any_cons, List.any_cons, this, Qfz r q h.1 h']
theorem Post.hasK {n : Nat} {k : D} {R : Bool → Sto → List Addr → Hp → Prop} (h : Post K ρ H (MM.hasK n k st) R) (s : SR K ρ H st) : ∃ b kvs, st[n]? = some (.dct b kvs) ∧ kOk b k = true ∧ R (lkK kvs k).isSome st ρ H := by
 obtain ⟨b, kvs, e, p1⟩ := Post.getDc (Post.bnd h) s
 obtain ⟨hk, p2⟩ := Post.chk p1
 exact ⟨b, kvs, e, hk, p2.ret s⟩
theorem _root_.L2.OpR.orO {f : Value → Value → Sem Value} {r r' : R2} (h : OpR X f r) (h' : OpR X f r') : OpR X f (fun x y H Q => r x y H Q ∨ r' x y H Q) := by
 intro pins s σ H x y v u Q I rx ry q
 rcases q with q | q
 ·exact h pins s σ H x y v u Q I rx ry q
 ·exact h' pins s σ H x y v u Q I rx ry q
theorem QfB (hu : X.A.units + 60 < cLine) : OpR X (compareOp .In) (fun x y H Q => ∃ (ρ : List Addr) (st : Sto) (n : Nat) (a : Addr) (b : Bool) (kvs : List (D × D)) (k : D), y = .ref a ∧ SR X.K ρ H st ∧ ρ[n]? = some a ∧ st[n]? = some (.dct b kvs) ∧ Rep X.K ρ H x k ∧ kOk b k = true ∧ Q (.bl (lkK kvs k).isSome) H) := by
 intro pins s σ H x y v u Q I rx ry pq123; obtain ⟨ρ, st, n, a, b, kvs, k, e, sr, ha, hn, rk, hk, q⟩ := pq123
 subst e
 cases ry
 exact Qdt (by ac_nf) I (sr.ob n a _ ha hn) rk hk rx fun s' I' => ⟨.bl _, H, I', rfl, q⟩
theorem QfC (hu : X.A.units + 60 < cLine) : OpR X (compareOp .In) (rOf X.K inD) := (Qcc.orO (QfB hu)).of fun x y H Q pq82 => by
 obtain ⟨ρ, st, d, e, sr, r1, r2, p⟩ := pq82
 have fin : ∀ {a : Addr} {vs : List V} {ds : List D} (hq : SqL X.K H a vs ∨ SqT X.K H a vs) (r : Reps X.K ρ H vs ds) (p1 : Post X.K ρ H (inL d ds st) fun r _ ρ' H' => ∀ v, Rep X.K ρ' H' v r → Q v H'), rIn X.K false x (.ref a) H Q := fun hq r p1 => by
  obtain ⟨⟨h1, h2⟩, p2⟩ := Post.chk p1
  refine ⟨_, _, rfl, hq, Qfx r1 h1, Qfy r h2, ?_⟩
  rw [if_neg (by simp), QfA r1 h1 r h2]
  exact p2.ret sr _ (.bl _)
 cases r2 with
 | tup h r => exact .inl (fin (.inr h) r ((Post.bnd p).ret sr))
 | lit h r => exact .inl (fin (.inl h.seq) r ((Post.bnd p).ret sr))
 | ref _ h =>
  obtain ⟨ds, e2, p1⟩ := Post.getL (Post.bnd p) sr
  obtain ⟨a', vs, ha, hv, r⟩ := sr.seq e2
  rw [h] at ha; cases ha
  exact .inl (fin (.inl (SqL.of hv)) r p1)
 | @dic a n _ h =>
  obtain ⟨b, kvs, e1, hk, q⟩ := Post.hasK (Post.bnd p) sr
  exact .inr ⟨ρ, st, n, a, b, kvs, d, rfl, sr, h, e1, r1, hk, (q.ret sr) _ (.bl _)⟩
 | _ => exact (show False from p).elim
end
section
variable {X : Cx} {a b c e o tg : Expr} {es : List Expr} {pos apos cpos : Pos} {fa fb fc : CE} {ca cb : CA} {ta tb : CT} {K : PySem.W.Frag} {ρ : List Addr} {H : Hp} {st : Sto} {x : Str} {p : Pos} {T id : String} {body : List Stmt} {cs : CS}
theorem QfD {g : D → D → M D} (hc : CallR X (.builtin id) (fun xs H Q => ∃ v w, xs = [v, w] ∧ rOf X.K g v w H Q)) (hg : Gl X x) (hm : X.mg x = none) (hv : bootBuiltins x = some (.builtin id)) (ha : SE X a fa) (hb : SE X b fb) (hn : x ≠ "__name__" := by decide) (hdb : (x == ("__debug__" : Str)) = false := by decide)
  (he1 : starEach [a, b] X.env = (false, eval a X.env) :: starEach [b] X.env := by rfl) (he2 : starEach [b] X.env = (false, eval b X.env) :: starEach [] X.env := by rfl) (hpl : (backTo pos (starEach [b] X.env)).any (fun x => x.fst) = false := by rfl) : SE X (.Call (.Name x p) [a, b] [] pos) (c2 g fa fb) :=
 (QbP hc hg hm hv (QbD ha (QbD hb QbC he2) he1) hn hdb he1 hpl).of fun σ H Q h_ => h_.el fun ρ l st lr sr p => ⟨ρ, l, st, lr, sr, p.bnd.imp fun d st1 ρ1 H1 x1 s1 p1 v rv => ⟨ρ1, l, st1, lr.mono x1, s1, p1.bnd.imp fun e st2 ρ2 H2 x2 s2 p2 w rw' => ⟨v, w, rfl, ρ2, st2, d, e, s2, rv.mono x2, rw', p2⟩⟩⟩
theorem QfE (hc : X.calm = true) : CallR X (.builtin "max") (fun xs H Q => ∃ v w, xs = [v, w] ∧ rOf X.K max2D v w H Q) := (Qbx hc).of fun xs H Q pq83 => by
 obtain ⟨v, w, e, ρ, st, d1, d2, sr, r1, r2, p⟩ := pq83
 cases r1 with
 | int i =>
  cases r2 with
  | int j =>
   refine ⟨i, j, e, ?_⟩
   have : (if j > i then j else i) = max i j := by ac_nf
   rw [this]; exact p.ret sr _ (.int _)
  | _ => exact p.elim
 | _ => exact p.elim
theorem QfF (ho : SE X o fa) (hbase : attributeBase o "pop" X.env (eval o X.env) = eval o X.env := by rfl) (hline : (apos.endLine == cpos.line) = true := by rfl) : SE X (.Call (.Attribute o "pop" apos) [] [] cpos) (cPop fa) :=
 (Qch PySem.F.plainAttrs_list PySem.F.slot_list_pop PySem.F.type_list_pop Qcm ho hbase hline).of fun σ H Q h_ => h_.el fun ρ l st lr sr p => ⟨ρ, l, st, lr, sr, p.bnd.imp fun d st1 ρ1 H1 x1 s1 p1 v rv => by
  cases rv with
  | @ref a n _ h =>
   obtain ⟨ds, e2, p2⟩ := Post.getL (Post.bnd p1) s1
   obtain ⟨a', vs, ha, hv, r⟩ := s1.seq e2
   rw [h] at ha; cases ha
   cases e3 : ds.getLast? with
   | none => rw [e3] at p2; exact p2.elim
   | some d =>
    rw [e3] at p2
    have hl := (List.getElem?_eq_some_iff.mp e2).1
    have e4 : ds[ds.length - 1]? = some d := by rw [← List.getLast?_eq_getElem?]; exact e3
    obtain ⟨y, hy, ry⟩ := r.get e4
    have rd : Reps X.K ρ1 H1 vs.dropLast ds.dropLast := by
     rw [List.dropLast_eq_take, List.dropLast_eq_take, r.length]; exact r.take _
    obtain ⟨s3, x3⟩ := s1.put hl h hv rd
    refine ⟨.inl ⟨rfl, vs, SqL.of hv⟩, a, vs, y, rfl, rfl, hv, by rw [r.length]; exact hy, ?_⟩
    have p5 := Post.bnd p2
    unfold putL at p5
    rw [e2] at p5
    exact (p5 ρ1 _ x3 s3).ret s3 _ (ry.mono x3)
  | _ => exact p1.elim⟩
theorem Reps.rev : ∀ {vs : List V} {ds : List D}, Reps K ρ H vs ds → Reps K ρ H vs.reverse ds.reverse
 | _, _, .nil => .nil
 | _, _, .cons r t => by
  rw [List.reverse_cons, List.reverse_cons]; exact Reps.app (Reps.rev t) (.cons r .nil)
theorem QfG {p : Pos} (hg : Gl X "range") (hm : X.mg "range" = none) (h : SE X a fa) (h' : SE X b fb) (he1 : starEach [a, b] X.env = (false, eval a X.env) :: starEach [b] X.env := by rfl) (he2 : starEach [b] X.env = (false, eval b X.env) :: starEach [] X.env := by rfl)
  (hs : starEach [a, b] X.env = [(false, eval a X.env), (false, eval b X.env)] := by rfl) (hs2 : starEach [b] X.env = [(false, eval b X.env)] := by rfl) : SI X tg (.Call (.Name "range" p) [a, b] [] pos) (MM.iRng2 fa fb) :=
 (Qa2 (tg := tg) (p := p) (pos := pos) hg hm (QbD h (QbD h' QbC he2) he1) hs hs2).of fun σ H R h_ => h_.el fun ρ l st lr sr p => ⟨ρ, l, st, lr, sr, p.bnd.imp fun d st1 ρ1 H1 x1 s1 p1 v rv => ⟨ρ1, l, st1, lr.mono x1, s1, p1.bnd.imp fun e st2 ρ2 H2 x2 s2 p2 w rw' => by
  have rv2 := rv.mono x2
  cases rv2 with
  | int i =>
   cases rw' with
   | int j =>
    obtain ⟨⟨⟨h1, h2⟩, h3, h4⟩, p3⟩ := Post.chk p2
    exact ⟨i, j, rfl, ⟨h1, h2, h3, h4⟩, p3.ret s2 _ QeH⟩
   | _ => exact p2.elim
  | _ => cases rw' <;> exact p2.elim⟩⟩
theorem QfH (hp : PassesOwn (model X.prog X.w) X.A X.env X.xe) (hc : ST X c ta) (hb : SSs X body cs) : SS X (.While c body [] pos) (sWhile ta cs) := (QaU hp hc hb).of fun G σ H h_ => h_.el fun ρ l st lr sr p => by
 unfold sWhile at p
 by_cases h : ∃ n, ∀ r, whileN ta cs n l st = r → r ≠ .bad
 ·rw [dif_pos h] at p
  generalize Classical.choose h = n at p
  refine ⟨fun m σ H => ∃ ρ l st, LR X.K ρ H σ l ∧ SR X.K ρ H st ∧ Post X.K ρ H (whileN ta cs m l st) fun f _ ρ' H' => match f with
   | .next l' => ∀ σ', LR X.K ρ' H' σ' l' → G.nx σ' H'
   | .ret d => ∀ v, Rep X.K ρ' H' v d → G.rt v H'
   | .brk l' => ∀ σ', LR X.K ρ' H' σ' l' → G.bk σ' H'
   | .cnt l' => ∀ σ', LR X.K ρ' H' σ' l' → G.ct σ' H', ⟨n, ρ, l, st, lr, sr, p⟩, ?_⟩
  intro m σ1 H1 pq124; obtain ⟨ρ1, l1, st1, lr1, sr1, p1⟩ := pq124
  cases m with
  | zero => exact p1.elim
  | succ m =>
   refine ⟨ρ1, l1, st1, lr1, sr1, (Post.bnd p1).imp fun k st2 ρ2 H2 x2 s2 p2 => ?_⟩
   cases k with
   | false => exact p2.ret s2 _ (lr1.mono x2)
   | true =>
    refine ⟨fun σ' H' => ∃ ρ l st, LR X.K ρ H' σ' l ∧ SR X.K ρ H' st ∧ Post X.K ρ H' (whileN ta cs m l st) _, fun σ' H' q => ⟨m, Nat.lt_succ_self m, q⟩, ρ2, l1, st2, lr1.mono x2, s2, (Post.bnd p2).imp fun f st3 ρ3 H3 x3 s3 p3 => ?_⟩
    cases f with
    | next l' => exact fun σ' lr' => ⟨ρ3, l', st3, lr', s3, p3⟩
    | ret d => exact p3.ret s3
    | brk l' => exact p3.ret s3
    | cnt l' => exact fun σ' lr' => ⟨ρ3, l', st3, lr', s3, p3⟩
 ·rw [dif_neg h] at p; exact p.elim
end
end MM
namespace MM
open PySem PySem.Spec PyProof.Rows L2
section
variable {X : Cx} {e st : Expr} {pos p2 p3 p4 : Pos} {fa : CE} {te : TE} {j : Nat}
end
end MM
namespace MM
open PySem
end MM
namespace MM
open PySem PySem.Spec PyProof.Rows L2
section
variable {prog : Program} {w : World} {A : Around} {s : Shared} {Q : Bool → Shared → Prop}
end
section
variable {X : Cx} {K : PySem.W.Frag} {ρ : List Addr} {H : Hp} {st : Sto}
theorem Reps.pick : ∀ {vs : List V} {ds : List D} (i : Nat), Reps K ρ H vs ds → Rep K ρ H (vs.getD i .non) (ds.getD i .non)
 | _, _, _, .nil => by simp; exact .non
 | _, _, 0, .cons r t => by simpa using r
 | _, _, i + 1, .cons r t => by simpa using Reps.pick i t
theorem Vals.pick : ∀ {vs : List V} {us : List Value} (i : Nat), Vals vs us → RelV (vs.getD i .non) (us.getD i .none)
 | _, _, _, .nil => by simp; rfl
 | _, _, 0, .cons r t => by simpa using r
 | _, _, i + 1, .cons r t => by simpa using Vals.pick i t
theorem Reps.picks {vs : List V} {ds : List D} (r : Reps K ρ H vs ds) : ∀ (p : List Nat), Reps K ρ H (p.map fun i => vs.getD i .non) (p.map fun i => ds.getD i .non)
 | [] => .nil
 | i :: p => .cons (Reps.pick i r) (Reps.picks r p)
theorem Vals.picks {vs : List V} {us : List Value} (r : Vals vs us) : ∀ (p : List Nat), Vals (p.map fun i => vs.getD i .non) (p.map fun i => us.getD i .none)
 | [] => .nil
 | i :: p => .cons (Vals.pick i r) (Vals.picks r p)
end
end MM
namespace MM
open PySem PySem.Spec PyProof.Rows L2
section
variable {X : Cx} {pins : List (Addr × Obj)} {σ : St} {H : Hp} {s : Shared} {h' : Heap} {ch : List Addr}
end
section
variable {X : Cx} {tg : Expr} {es : List Expr} {pos : Pos} {fa fb : CE} {K : PySem.W.Frag} {ρ : List Addr} {H : Hp} {st : Sto}
end
end MM
namespace MM
open PySem PySem.Spec PyProof.Rows L2
structure Src (prog : Program) (w : World) (A : Around) (it src : Addr) (val : Nat → Option Value) (P : Nat → Heap → Prop) : Prop where
 there : ∀ k h, P k h → ∃ o, h.get? it = some o
 keep : ∀ k h h', P k h → (∀ b, b = it ∨ b = src → ∀ o, h.get? b = some o → h'.get? b = some o) → P k h'
 item : ∀ k x (s : Shared) (Q : Value → Shared → Prop) (E : Value → Shared → Prop), P k s.heap → val k = some x → (∀ h', P (k + 1) h' → Heap.SameBut it s.heap h' → Q x { s with heap := h' }) → wpAny (model prog w) A (Builtin.SmallTypes.nextOf (.ref it)) Q E s
 done : ∀ k (s : Shared) (Q : Value → Shared → Prop) (E : Value → Shared → Prop), P k s.heap → val k = none → (∀ h' e, Heap.ExtBut it s.heap h' → (∃ o, h'.get? e = some o ∧ o.cls = .type "StopIteration") → E (.ref e) { s with heap := h' }) → wpAny (model prog w) A (Builtin.SmallTypes.nextOf (.ref it)) Q E s
section
variable {prog : Program} {w : World} {A : Around} {E : Value → Shared → Prop} {s : Shared} {z tI tO i1 i2 l1 l2 : Addr} {v1 v2 : Nat → Option Value} {P1 P2 : Nat → Heap → Prop} {k : Nat} {u v : Value}
end
section
variable {prog : Program} {w : World} {A : Around} {E : Value → Shared → Prop} {s : Shared}
end
section
variable {X : Cx} {tg : Expr} {es : List Expr} {pos : Pos} {fa fb : CE} {K : PySem.W.Frag} {ρ : List Addr} {H : Hp} {st : Sto}
theorem atI {h h' : Heap} {it l : Addr} {k : Nat} (x : h.IsTupleIter it l k) (e : ∀ o, h.get? it = some o → h'.get? it = some o) : h'.IsTupleIter it l k := let ⟨o, e1, r⟩ := x; ⟨o, e o e1, r⟩
end
end MM
namespace PySem.F
theorem nolen_lri : typeLookup (.type "list_reverseiterator") "__len__" = pure none := by rw [typeLookup_type, builtinLookup_eq_fast]; kernel_rfl
theorem hint_lri : typeLookup (.type "list_reverseiterator") "__length_hint__" = pure (some (.builtin "list_reverseiterator.__length_hint__")) := by rw [typeLookup_type, builtinLookup_eq_fast]; kernel_rfl
end PySem.F
namespace MM
open PySem PySem.Spec PyProof.Rows L2
section
variable {prog : Program} {w : World} {A : Around} {E : Value → Shared → Prop} {s : Shared} {r : Addr}
theorem QfI {Q : Bool → Shared → Prop} (hT : s.TypeIs (.ref r) "list_reverseiterator") (h : Q false s) : wpAny (model prog w) A (Builtin.List.listLengthHint (.ref r)) Q E s := by
 unfold Builtin.List.listLengthHint
 refine wpAny_bind (wpAny_specialOf hT PySem.F.nolen_lri ?_)
 show wpAny _ A (specialOf (Value.ref r) (Str.ofString "__length_hint__") >>= _) _ _ _
 refine wpAny_bind (wpAny_specialOf hT PySem.F.hint_lri ?_)
 generalize hid : ("list_reverseiterator.__length_hint__" : String) = id0
 wp_delta
 rw [show splitId id0 = some ("list_reverseiterator", "__length_hint__") from by subst hid; decide +kernel]
 subst hid
 refine wpAny_bind (wpAny_isInstance (b := true) hT (by rw [isSubtype_type]; kernel_rfl) ?_)
 exact wpAny_pure h
theorem QfJ {R : Result → Shared → Prop} {I l : Addr} {items : Array Value} (hh : A.handled = none) (hit : s.heap.IsRevIter I l ((items.size : Int) - 1)) (hl : s.heap.IsList l items) (hne : l ≠ I) (S : Addr) (hSI : S ≠ I) (hSl : S ≠ l) (res : Value) (c₀ : Nat) (hS : s.heap.get? S = some { cls := .type "list", data := .seq #[] c₀ })
  (hR : ∀ h' tk acc' c', (∀ b o, b ≠ S → b ≠ I → s.heap.get? b = some o → h'.get? b = some o) → h'.get? S = some { cls := .type "list", dict := none, data := .seq acc' c', slots := #[] } → ItemsOf (fun i v => items[items.size - 1 - i]? = some v) acc' items.size → R (.ok (.ret res)) { s with heap := h', toks := tk }) (hn : items.size ≤ sizeLine) :
  wpAny (model prog w) A.in1 (Builtin.List.listExtendWith (.ref S) (.ref I) res)
   (fun fin s' => match fin with | .done f => R (.ok f) s' | .again c' => c'.quiet = true ∧ codeAny (model prog w) A c' R s') (fun e s' => R (.error e) s') s := by
 have W := Walks.listRev (prog := prog) (w := w) (A := A.in1) hh I l hne items
 have hSf : S ∉ [I, l] := by simp only [List.mem_cons, List.not_mem_nil, or_false, not_or]; exact ⟨hSI, hSl⟩
 have st0 : 0 ≤ items.size ∧ s.heap.IsRevIter I l ((items.size : Int) - 1 - ((0 : Nat) : Int)) ∧ s.heap.IsList l items := ⟨Nat.zero_le _, by rw [show (items.size : Int) - 1 - ((0 : Nat) : Int) = (items.size : Int) - 1 by ac_nf]; exact hit, hl⟩
 unfold Builtin.List.listExtendWith
 refine wpAny_bind (wpAny_typeOf hit.typeIs ?_)
 have h1 : Builtin.List.listSameRef (.ref S) (.ref I) = false := by simp [Builtin.List.listSameRef, hSI]
 rw [if_neg (by rw [h1]; decide)]
 refine wpAny_bind (wpAny_pyIter_revIter hit ?_)
 refine wpAny_bind (wpAny_holding (QfI hit.typeIs ?_))
 rw [if_neg (by decide)]
 refine wpAny_pure ⟨plainId_quiet PySem.F.plain_extend_loop _, codeAny_extend_loopS W.toS hn S hSf res items.size 0 _ #[] c₀ rfl (Nat.zero_le _) st0 hS (ItemsOf.nil _) fun s' acc' c' hm hS' hacc => ?_⟩
 rw [Moved.eq_with hm]
 refine hR s'.heap s'.toks acc' c' (fun b o hb hbI e => hm.heap b o (fun hmem => ?_) e) hS' hacc
 rcases List.mem_cons.mp hmem with e' | hmem
 ·exact hb e'
 ·exact hbI (List.mem_singleton.mp hmem)
theorem QfK {Q : Value → Shared → Prop} {I l : Addr} {items : Array Value} (hh : A.handled = none) (hit : s.heap.IsRevIter I l ((items.size : Int) - 1)) (hl : s.heap.IsList l items) (hne : l ≠ I) (hn : items.size ≤ sizeLine)
  (hQ : ∀ h' tk acc' c', (∀ b o, b ≠ I → s.heap.get? b = some o → h'.get? b = some o) → h'.get? s.heap.objs.size = some { cls := .type "list", dict := none, data := .seq acc' c', slots := #[] } → ItemsOf (fun i v => items[items.size - 1 - i]? = some v) acc' items.size → Q (.ref s.heap.objs.size) { s with heap := h', toks := tk }) :
  wpAny (model prog w) A (call (.type "list") [.ref I]) Q E s := by
 refine callType_codes (Q₁ := fun obj s₁ => obj = .ref s.heap.objs.size ∧ s₁ = { s with heap := s.heap.push { cls := .type "list", data := .seq #[] } }) PySem.F.called_list (PySem.F.typeCall_list_1 _) PySem.F.entry_list_init
  (code_list_new _ ⟨rfl, rfl⟩) fun obj s₁ h₁ => ?_
 obtain ⟨rfl, rfl⟩ := h₁
 have hS : (s.heap.push { cls := .type "list", data := .seq #[] }).get? s.heap.objs.size = some { cls := .type "list", data := .seq #[] } := Heap.get?_push_size _ rfl
 have hI : I < s.heap.objs.size := let ⟨_, e, _⟩ := hit; Heap.lt_size e
 have hL : l < s.heap.objs.size := let ⟨_, e, _⟩ := hl; Heap.lt_size e
 have hit1 : (s.heap.push { cls := .type "list", data := .seq #[] }).IsRevIter I l ((items.size : Int) - 1) := let ⟨o, e, x⟩ := hit; ⟨o, Heap.get?_push_of_some _ e, x⟩
 have hl1 : (s.heap.push { cls := .type "list", data := .seq #[] }).IsList l items := let ⟨o, e, x⟩ := hl; ⟨o, Heap.get?_push_of_some _ e, x⟩
 refine ⟨⟨_, hS, rfl⟩, PySem.F.args_list_init_2 _ _, ?_⟩
 show wpAny _ A.in1.in1 (do let old ← Builtin.List.listItems (.ref s.heap.objs.size); Builtin.List.listUpdate (.ref s.heap.objs.size) (fun _ => #[]); letGo old.toList.reverse; Builtin.List.listExtendWith (.ref s.heap.objs.size) (.ref I) .none) _ _ _
 refine wpAny_bind ?_
 unfold Builtin.List.listItems
 refine wpAny_bind (wpAny_seqItems hS rfl (wpAny_pure ?_))
 show wpAny _ _ (updateSeq s.heap.objs.size (fun _ => #[]) >>= fun _ => letGo (#[] : Array Value).toList.reverse >>= fun _ => Builtin.List.listExtendWith (.ref s.heap.objs.size) (.ref I) .none) _ _ _
 refine wpAny_bind (wpAny_updateSeq hS rfl ?_)
 have hS₂ := Heap.get?_update_self (Obj.mapSeq (fun _ => (#[] : Array Value))) hS rfl
 have oth : ∀ b o, b ≠ s.heap.objs.size → (s.heap.push { cls := .type "list", data := .seq #[] }).get? b = some o → ((s.heap.push { cls := .type "list", data := .seq #[] }).update s.heap.objs.size (Obj.mapSeq (fun _ => (#[] : Array Value)))).get? b = some o :=
  fun b o hb e => (Heap.get?_update_other _ _ (Ne.symm hb)).trans e
 refine wpAny_bind (wpAny_letGo ?_)
 refine QfJ (A := A.in1) hh (let ⟨o, e, x⟩ := hit1; ⟨o, oth _ _ (Nat.ne_of_lt hI) e, x⟩) (let ⟨o, e, x⟩ := hl1; ⟨o, oth _ _ (Nat.ne_of_lt hL) e, x⟩) hne s.heap.objs.size (Nat.ne_of_gt hI) (Nat.ne_of_gt hL) .none _ hS₂ (fun h' tk acc' c' hk hS' hacc => ?_) hn
 exact ⟨rfl, hQ h' tk acc' c' (fun b o hbI e => hk b o (Nat.ne_of_lt (Heap.lt_size e)) hbI (oth b o (Nat.ne_of_lt (Heap.lt_size e)) (Heap.get?_push_of_some _ e))) hS' hacc⟩
end
theorem QfL {vs : List Value} {acc : Array Value} (h : ItemsOf (fun i v => vs.toArray[vs.toArray.size - 1 - i]? = some v) acc vs.toArray.size) : acc = vs.reverse.toArray := by
 apply Array.ext'
 apply List.ext_getElem?
 intro i
 have hs : acc.size = vs.length := by have := h.1; simpa using this
 by_cases hi : i < vs.length
 ·have e1 : acc[i]? = some (acc[i]'(by ac_nf)) := Array.getElem?_eq_getElem (by ac_nf)
  have e2 := h.2 i _ e1
  rw [Array.getElem?_toList, e1]
  simp only [List.getElem?_toArray, List.size_toArray] at e2
  rw [List.getElem?_reverse hi]
  exact e2.symm
 ·rw [List.getElem?_eq_none (by simp; ac_nf), List.getElem?_eq_none (by simp; ac_nf)]
theorem Vals.reverse : ∀ {xs : List V} {us : List Value}, Vals xs us → Vals xs.reverse us.reverse
 | _, _, .nil => .nil
 | _, _, .cons r t => by
  rw [List.reverse_cons, List.reverse_cons]; exact L2.Vals.append (Vals.reverse t) (.cons r .nil)
section
variable {X : Cx} {a b c e o tg : Expr} {es : List Expr} {pos pos' apos cpos p p' : Pos} {fa fb fc : CE} {ca cb : CA} {K : PySem.W.Frag} {ρ : List Addr} {H : Hp} {st : Sto} {te : TE}
theorem QfM (hc : X.calm = true) (hg : Gl X "list") (hm : X.mg "list" = none) (hv : bootBuiltins "list" = some (.type "list")) (hg2 : Gl X "reversed") (hm2 : X.mg "reversed" = none) (hv2 : bootBuiltins "reversed" = some (.type "reversed")) (ha : PE X e te)
  (he : starEach [e] X.env = [(false, eval e X.env)] := by rfl) (he2 : starEach [.Call (.Name "reversed" p') [e] [] pos'] X.env = [(false, eval (.Call (.Name "reversed" p') [e] [] pos') X.env)] := by rfl) :
  PE X (.Call (.Name "list" p) [.Call (.Name "reversed" p') [e] [] pos'] [] pos) (fun σ H Q => te σ H fun x H1 => ∃ a xs, x = .ref a ∧ SqL X.K H1 a xs ∧ ∀ q, H1 q = none → Q (.ref q) (upd H1 q (.lst xs.reverse))) := by
 intro pins s σ H Q I h
 refine wpAny_Call_Name_kw (Qay I hg hm hv ?_ (by decide) (by decide))
 refine PyProof.Rows.callWith_type1 ?_ he2 rfl
 rw [he2]
 show wpAny _ _ (spliced [(false, eval (.Call (.Name "reversed" p') [e] [] pos') X.env)]) _ _ s
 refine Calls.spliced_cons ?_
 refine wpAny_Call_Name_kw (Qay I hg2 hm2 hv2 ?_ (by decide) (by decide))
 refine PyProof.Rows.callWith_type1 ?_ he rfl
 rw [he]
 show wpAny _ _ (spliced [(false, eval e X.env)]) _ _ s
 refine Calls.spliced_cons (thn (ha pins s σ H _ I h) fun u s1 ⟨x, H1, I1, r1, a, xs, ex, hx, q⟩ => Calls.spliced_nil ?_)
 subst ex
 cases r1
 obtain ⟨its, rv, pl, hz⟩ := I1.list hx
 have hlen := rv.length
 refine call_reversed_list pl.isList (Calls.spliced_nil ?_)
 have hlt : a < s1.heap.objs.size := let ⟨_, e, _⟩ := pl.isList; Heap.lt_size e
 refine QfK (l := a) (items := its.toArray) (I1.ok.hd hc) ⟨_, Heap.get?_push_size _ rfl, rfl, rfl⟩ (let ⟨o, e, x⟩ := pl.isList; ⟨o, Heap.get?_push_of_some _ e, x⟩) (Nat.ne_of_lt hlt) (by simp only [List.size_toArray]; ac_nf) fun h' tk acc c hk hS hacc => ?_
 rw [QfL hacc] at hS
 have kp : ∀ b u, s1.heap.get? b = some u → h'.get? b = some u := fun b u e => hk b u (Nat.ne_of_lt (Heap.lt_size e)) (Heap.get?_push_of_some _ e)
 have hp : s1.heap.objs.size ≤ (s1.heap.push (revObj a ((its.toArray.size : Int) - 1))).objs.size := by simp [Heap.push]
 refine ⟨.ref _, _, I1.laid (t' := tk) (o := .lst xs.reverse) kp hp ?_, rfl, q _ (I1.hok.fresh hp)⟩
 exact ⟨by rw [List.length_reverse]; exact hz, its.reverse, c, rv.reverse, hS⟩
theorem QfN (hc : X.calm = true) (hg : Gl X "list") (hm : X.mg "list" = none) (hv : bootBuiltins "list" = some (.type "list")) (hg2 : Gl X "reversed") (hm2 : X.mg "reversed" = none) (hv2 : bootBuiltins "reversed" = some (.type "reversed")) (ha : SL X e ca)
  (he : starEach [e] X.env = [(false, eval e X.env)] := by rfl) (he2 : starEach [.Call (.Name "reversed" p') [e] [] pos'] X.env = [(false, eval (.Call (.Name "reversed" p') [e] [] pos') X.env)] := by rfl) :
  SL X (.Call (.Name "list" p) [.Call (.Name "reversed" p') [e] [] pos'] [] pos) (aRev ca) :=
 (QfM hc hg hm hv hg2 hm2 hv2 ha he he2).of fun σ H Q h_ => h_.el fun ρ l st lr sr p => ⟨ρ, l, st, lr, sr, p.bnd0.imp fun ds st1 ρ1 H1 x1 s1 p1 a vs ha na hv rvs => by
  refine ⟨a, vs, rfl, SqL.of hv, fun q hq => ?_⟩
  have hn : H q = none := by
   cases z : H q with
   | none => rfl
   | some o => exact absurd hq (x1.trk q o z)
  exact p1 ρ1 _ (x1.trans (Ex.new hq)) (s1.new hq) q _ hn (s1.fresh hq) Qai ((Reps.rev rvs).mono (Ex.new hq))⟩
theorem Reps.rep {vs : List V} {ds : List D} (h : Reps K ρ H vs ds) : ∀ k : Nat, Reps K ρ H (List.replicate k vs).flatten (List.replicate k ds).flatten
 | 0 => .nil
 | k + 1 => by
  rw [List.replicate_succ, List.replicate_succ, List.flatten_cons, List.flatten_cons]
  exact Reps.app h (Reps.rep h k)
def SDs (X : Cx) (pos : Pos) (keys : List (Option Expr)) (values : List Expr) (ks : List Key) (ca : CA) : Prop := ∃ trs, PPs X pos keys values trs ∧
 ∀ σ H (Q : List (V × V) → Hp → Prop), (∃ ρ l st, LR X.K ρ H σ l ∧ SR X.K ρ H st ∧ Post X.K ρ H (ca l st) fun ds _ ρ' H' => ks.length = ds.length ∧ ∀ vs, Reps X.K ρ' H' vs ds → Q ((ks.zip vs).map fun kv => (kV kv.1, kv.2)) H') → tPairs trs σ H Q
theorem QfO : SDs X pos [] [] [] cNil := ⟨[], QcP, fun σ H Q h_ => h_.el fun ρ l st lr sr p => (p.ret sr).2 [] .nil⟩
theorem QfP {x : Str} {j : Nat} {v : Expr} {ks : List (Option Expr)} {vs : List Expr} {kk : List Key} (hv : SE X v fa) (hr : SDs X pos ks vs kk ca) :
  SDs X pos (some (.Constant (.str x) j cpos) :: ks) (v :: vs) (.inr x :: kk) (cCons fa ca) := by
 obtain ⟨trs, h1, h2⟩ := hr
 refine ⟨_, QcQ Qaw hv h1, fun σ H Q h_ => h_.el fun ρ l st lr sr p => ?_⟩
 refine ⟨ρ, l, st, lr, sr, p.bnd.imp fun d st1 ρ1 H1 x1 s1 p1 v rv => h2 _ _ _ ⟨ρ1, l, st1, lr.mono x1, s1, p1.bnd.imp fun ds st2 ρ2 H2 x2 s2 p2 => ?_⟩⟩
 obtain ⟨hl, q⟩ := p2.ret s2
 refine ⟨by simpa using hl, fun vs rvs => ?_⟩
 exact q (v :: vs) (.cons (rv.mono x2) rvs)
theorem KR.zip : ∀ {ks : List Key} {vs : List V} {ds : List D}, Reps K ρ H vs ds → KR K ρ H (ks.zip vs) ((ks.map keyD).zip ds)
 | [], _, _, _ => .nil
 | k :: ks, _, _, .nil => .nil
 | k :: ks, _, _, .cons r t => .cons ⟨rfl, r⟩ (KR.zip t)
theorem KR.merge : ∀ {more : List (Key × V)} {rs : List (D × D)} {es : List (Key × V)} {kvs : List (D × D)}, KR K ρ H more rs → KR K ρ H es kvs → KR K ρ H (mergeK es more) (mgK kvs rs)
 | _, _, _, _, .nil, q => q
 | _, _, es, kvs, .cons (a := p) (b := q) (l₁ := ps) (l₂ := qs) h t, r => by
  have z := KR.put r p.1 h.2
  rw [h.1] at z
  show KR K ρ H (mergeK (L2.putK es p.1 p.2) ps) (mgK (ptK kvs q.1 q.2) qs)
  exact KR.merge (more := ps) (rs := qs) t z
theorem QfQ {keys : List (Option Expr)} {values : List Expr} {ks : List Key} (h : SDs X pos keys values ks ca) (hall : keys.all (·.isSome) = true := by rfl) (hl : keys.length = values.length := by rfl) (h0 : keys ≠ [] := by simp) (h15 : keys.length ≤ 15 := by decide) (hk : ks.length ≤ 15 := by decide) :
  SE X (.Dict keys values pos) (cDisp (ks.map keyD) ca) := by
 obtain ⟨trs, h1, h2⟩ := h
 refine (QcT h1 hall hl h0 h15).of fun σ H Q ⟨ρ, l, st, lr, sr, p⟩ q hq => h2 _ _ _ ?_
 have hn := sr.fresh hq
 refine ⟨ρ, l, st, lr.mono (Ex.new hq), sr.new hq, (p.bnd0.left (Ex.new hq)).imp fun ds st1 ρ1 H1 x1 s1 p1 => ?_⟩
 obtain ⟨hlen, p2⟩ := Post.chk p1
 rw [List.length_map] at hlen
 have hq1 : H1 q = some (.dK []) := x1.oth q _ hn Qai
 refine ⟨hlen, fun vs rvs => ⟨hq1, ks.zip vs, rfl, by simp; ac_nf, ?_⟩⟩
 have ne : ∀ b o, H b = some o → b ≠ q := fun b o e z => by rw [z, hq] at e; cases e
 have nq1 : q ∉ ρ1 := by
  obtain ⟨τ, e, f⟩ := x1.pre
  rw [e]
  intro z
  rcases List.mem_append.mp z with z | z
  ·exact hn z
  ·have := f q z; rw [Qai] at this; cases this
 have up : Up ρ1 H1 ρ1 (upd H1 q (.dK (mergeK [] (ks.zip vs)))) := by
  refine ⟨⟨[], by simp⟩, fun c o no w => ?_, fun c o w => ?_⟩
  ·rw [Qaj fun z => by subst z; rw [hq1] at w; cases w; exact nomatch no]; exact w
  ·by_cases z : c = q
   ·subst z; rw [hq1] at w; cases w; exact ⟨_, Qai, rfl⟩
   ·exact ⟨o, by rw [Qaj z]; exact w, rfl⟩
 have s2 : SR X.K ρ1 (upd H1 q (.dK (mergeK [] (ks.zip vs)))) st1 := ⟨s1.len, s1.nd, fun n b o e1 e2 => ObR.mono (o := o) up (s1.ob n b o e1 e2) fun u w => by
  rw [Qaj (fun (z : b = q) => nq1 (by rw [← z]; exact List.mem_of_getElem? e1))]; exact w⟩
 have x2 : Ex ρ H (ρ1 ++ [q]) (upd H1 q (.dK (mergeK [] (ks.zip vs)))) := by
  obtain ⟨τ, e, f⟩ := x1.pre
  refine ⟨⟨τ ++ [q], by rw [e, List.append_assoc], fun b hb => ?_⟩, fun b o no e => ?_, fun b o nb e => ?_, fun b o e => ?_⟩
  ·rcases List.mem_append.mp hb with hb | hb
   ·have z := f b hb
    by_cases w : b = q
    ·subst w; exact hq
    ·rw [Qaj w] at z; exact z
   ·rw [List.mem_singleton] at hb; rw [hb]; exact hq
  ·rw [Qaj (ne b o e)]; exact x1.fix b o no (by rw [Qaj (ne b o e)]; exact e)
  ·rw [Qaj (ne b o e)]; exact x1.oth b o nb (by rw [Qaj (ne b o e)]; exact e)
  ·obtain ⟨o', e', k'⟩ := x1.knd b o (by rw [Qaj (ne b o e)]; exact e)
   exact ⟨o', by rw [Qaj (ne b o e)]; exact e', k'⟩
 have p3 : ∀ ρ' H', Ex ρ H ρ' H' → SR X.K ρ' H' (st1 ++ [.dct false (mgK [] ((ks.map keyD).zip ds))]) → ∀ v, Rep X.K ρ' H' v (.dic st1.length) → Q v H' := p2
 refine p3 _ _ x2 (s2.keepO nq1 ⟨_, Qai, KR.merge (KR.zip (rvs.up up)) .nil⟩) _ (.dic ⟨_, Qai, .inl rfl⟩ ?_)
 rw [← s1.len]; simp
end
end MM
namespace MM
end MM
namespace MM
open PySem PySem.Spec PyProof.Rows L2
mutual
theorem QfR : ∀ {a b c : D}, eqK a b = true → eqK b c = true → eqK a c = true
 | .int i, b, c, h1, h2 => by
  obtain ⟨j, rfl⟩ : ∃ j, b = .int j := by cases b <;> simp [eqK] at h1 ⊢
  obtain ⟨k, rfl⟩ : ∃ j, c = .int j := by cases c <;> simp [eqK] at h2 ⊢
  simp [eqK] at h1 h2 ⊢; ac_nf
 | .str i, b, c, h1, h2 => by
  obtain ⟨j, rfl⟩ : ∃ j, b = .str j := by cases b <;> simp [eqK] at h1 ⊢
  obtain ⟨k, rfl⟩ : ∃ j, c = .str j := by cases c <;> simp [eqK] at h2 ⊢
  simp [eqK] at h1 h2 ⊢; rw [h1, h2]
 | .tup xs, b, c, h1, h2 => by
  obtain ⟨ys, rfl⟩ : ∃ j, b = .tup j := by cases b <;> simp [eqK] at h1 ⊢
  obtain ⟨zs, rfl⟩ : ∃ j, c = .tup j := by cases c <;> simp [eqK] at h2 ⊢
  rw [eqK] at h1 h2 ⊢
  exact eqKs_trans h1 h2
 | .non, _, _, h1, _ => by simp [eqK] at h1
 | .bl _, _, _, h1, _ => by simp [eqK] at h1
 | .lit _, _, _, h1, _ => by simp [eqK] at h1
 | .ref _, _, _, h1, _ => by simp [eqK] at h1
 | .dic _, _, _, h1, _ => by simp [eqK] at h1
theorem eqKs_trans : ∀ {a b c : List D}, eqKs a b = true → eqKs b c = true → eqKs a c = true
 | [], b, c, h1, h2 => by
  cases b with
  | nil => exact h2
  | cons _ _ => simp [eqKs] at h1
 | x :: xs, b, c, h1, h2 => by
  cases b with
  | nil => simp [eqKs] at h1
  | cons y ys =>
   cases c with
   | nil => simp [eqKs] at h2
   | cons z zs =>
    rw [eqKs, Bool.and_eq_true] at h1 h2 ⊢
    exact ⟨QfR h1.1 h2.1, eqKs_trans h1.2 h2.2⟩
end
section
variable {X : Cx} {pins : List (Addr × Obj)} {σ : St} {H : Hp} {s : Shared} {ρ : List Addr}
end
end MM
namespace MM
open PySem PyProof.Rows L2
section
variable {prog : Program} {w : World} {K : Type} [DecidableEq K] {knd : HeapKind prog w K} {A : Around} {E : Value → Shared → Prop} {s : Shared} {d a : Addr} {k : K} {xs : List (K × Addr × Value)}
end
section
variable {X : Cx} {pins : List (Addr × Obj)} {σ : St} {H : Hp} {s : Shared} {ρ : List Addr} {st : Sto} {a : Addr}
end
end MM
namespace MM
open PySem PySem.W PyProof.Rows L2
section
variable {prog : Program} {w : World} {A : Around} {E : Value → Shared → Prop} {s : Shared} {d it : Addr} {es : Array DictEntry} {ep i : Nat}
def EnAt (h : Heap) (d : Addr) (es : Array DictEntry) (ep : Nat) : Prop := ∃ o, h.get? d = some o ∧ o.ExactDict ∧ o.data = .dict es ep
theorem EnAt.typeIs (x : EnAt s.heap d es ep) : s.TypeIs (.ref d) "dict" := by
 obtain ⟨o, g, c, _⟩ := x
 exact ⟨o, g, c.1⟩
theorem EnAt.keep {h h' : Heap} (x : EnAt h d es ep) (k : ∀ o, h.get? d = some o → h'.get? d = some o) : EnAt h' d es ep := by
 obtain ⟨o, g, r⟩ := x
 exact ⟨o, k o g, r⟩
theorem EnAt.lt {h : Heap} (x : EnAt h d es ep) : d < h.objs.size := by
 obtain ⟨o, g, _⟩ := x
 exact Heap.lt_size g
end
end MM
namespace MM
open PySem
end MM
namespace MM
open PySem PySem.W PyProof.Rows L2
section
variable {X : Cx}
theorem NR.keys {K : PySem.W.Frag} {ρ : List Addr} {H : Hp} {es : List (NK × Addr × V)} {kvs : List (D × D)} (r : NR K ρ H es kvs) : Reps K ρ H (es.map fun p => V.ref p.2.1) (kvs.map (·.1)) := by
 induction r with
 | nil => exact .nil
 | cons h t ih => exact .cons h.2.1 ih
end
end MM
namespace MM
open PySem PyProof.Rows L2
noncomputable def  strD : D → M D
 | .int i => chk (i.natAbs.log2 < 1920) (ret (.str (Str.ofString (toString i))))
 | _ => bad
noncomputable def  intTD : D → M D
 | .str x => match intText? x with
  | some n => chk (x.length ≤ 640) (ret (.int n))
  | none => bad
 | _ => bad
noncomputable def  inTD : D → D → M D
 | .str x, .str y => ret (.bl (!(Builtin.Str.occurrences y x 0 y.length 1).isEmpty))
 | _, _ => bad
section
variable {X : Cx}
theorem QfS : CallR X (.type "int") (fun xs H Q => ∃ x n, xs = [.str x] ∧ intText? x = some n ∧ x.length ≤ 640 ∧ Q (.int n) H) := by
 intro pins s σ H xs us Q I r h
 obtain ⟨x, n, rfl, hn, hl, q⟩ := h
 obtain ⟨u, rfl, t, rfl⟩ := Qbv r
 exact PySem.W.KIN.call_text hn hl ⟨.int n, H, I.tok _, ⟨_, rfl⟩, q⟩
theorem QfT : CallR X (.type "int") (fun xs H Q => ∃ v, xs = [v] ∧ uOf X.K intTD v H Q) := QfS.of fun xs H Q z => by
 obtain ⟨v, e, ρ, st, d, sr, rv, p⟩ := z
 cases rv with
 | str x =>
  cases en : intText? x with
  | none => unfold intTD at p; dsimp only at p; rw [en] at p; exact p.elim
  | some n =>
   unfold intTD at p
   dsimp only at p
   rw [en] at p
   obtain ⟨hz, p1⟩ := Post.chk p
   exact ⟨x, n, e, en, hz, p1.ret sr _ (.int _)⟩
 | _ => exact p.elim
theorem QfU : OpR X (compareOp .In) (rOf X.K inTD) := Qbi.of fun x y H Q z => by
 obtain ⟨ρ, st, d, e, sr, r1, r2, p⟩ := z
 cases r1 with
 | str a =>
  cases r2 with
  | str b => exact ⟨a, b, rfl, rfl, p.ret sr _ (.bl _)⟩
  | _ => exact p.elim
 | _ => first | exact p.elim | (cases r2 <;> exact p.elim)
end
section
open PySem.Builtin.Str
variable {prog : Program} {w : World} {A : Around} {E : Value → Shared → Prop} {s : Shared}
theorem QfV {x y : Str} {t u : Tok} {Q : Value → Shared → Prop} (hy : (y.length == 0) = false) (hsz : x.length + 2 ≤ sizeLine)
  (h : ∀ l k, l.map (·.1) = Txt.split x y → Q (.ref s.heap.objs.size) { s with heap := s.heap.push { cls := .type "list", data := .seq (strValues l).toArray }, toks := k }) :
  wpAny (model prog w) A (call (.builtin "str.split") [.str x t, .str y u]) Q E s := by
 have hn : (partsBetween x (occurrences x y 0 x.length (x.length + 1)) y.length).length ≤ sizeLine := by
  have e1 := StrLaws.occ_length_le x y 0 x.length (x.length + 1)
  rw [length_partsBetween]; ac_nf
 cases h1 : (decide (x.length < y.length) || decide (strKind x < strKind y)) with
 | true => exact call_meets F.slot_str_split (typeIs_str _ _ _) F.entry_str_split (F.args_str_split_2 _ _) (meets_str_split_cannot_occur x y t u h1) (h [(x, t)] s.toks (if_pos h1).symm)
 | false =>
  cases hf : (occurrences x y 0 x.length (x.length + 1)).isEmpty with
  | true => exact call_meets F.slot_str_split (typeIs_str _ _ _) F.entry_str_split (F.args_str_split_2 _ _) (meets_str_split_not_found x y t u h1 hy hf) (h [(x, t)] s.toks ((if_neg (ne_true_of_eq_false h1)).trans (if_pos hf)).symm)
  | false =>
   refine call_meets F.slot_str_split (typeIs_str _ _ _) F.entry_str_split (F.args_str_split_2 _ _) (meets_str_split_sep x y t u h1 hy hf (by ac_nf) hn) ?_
   show wants Q E _ { s with toks := _, heap := s.heap.push { cls := .type "list", data := .seq (strsFrom s.toks (partsBetween x (occurrences x y 0 x.length (x.length + 1)) y.length)).toArray } }
   rw [strsFrom_eq]
   exact h (numbered s.toks _) _ ((numbered_texts _ _).trans ((if_neg (ne_true_of_eq_false h1)).trans (if_neg (ne_true_of_eq_false hf))).symm)
end
section
variable {X : Cx}
theorem QfW : ∀ l : List (Str × Tok), L2.Vals ((l.map (·.1)).map V.str) (strValues l)
 | [] => .nil
 | p :: l => .cons ⟨p.2, rfl⟩ (QfW l)
noncomputable def rSplit : V → List V → Hp → VK → Prop := fun x vs H Q => ∃ a b, x = .str a ∧ vs = [.str b] ∧ (b.length == 0) = false ∧ a.length + 2 ≤ sizeLine ∧ (Txt.split a b).length ≤ sizeLine ∧ ∀ l, H l = none → Q (.ref l) (upd H l (.lst ((Txt.split a b).map V.str)))
theorem QfX : MtR X "str.split" rSplit := by
 intro pins s σ H x vs v us Q I rx rv h
 obtain ⟨a, b, rfl, rfl, hb, ha, hl, q⟩ := h
 obtain ⟨t, rfl⟩ := rx
 obtain ⟨u, rfl, ru⟩ := rv.one
 obtain ⟨t', rfl⟩ := ru
 refine QfV hb ha fun l k e => ?_
 have rv' := QfW l
 rw [e] at rv'
 exact ⟨.ref s.heap.objs.size, _, I.laid (t' := k) (o := .lst ((Txt.split a b).map V.str)) (fun b o e => Heap.get?_push_of_some _ e) (Nat.le_refl _) ⟨by rw [List.length_map]; exact hl, _, 0, rv', Heap.get?_push_size _ rfl⟩, rfl, q _ (I.hok.fresh (Nat.le_refl _))⟩
theorem QfY : ∀ {ys : List Str} {us : List Value}, L2.Vals (ys.map V.str) us → StrsAre us ys
 | [], _, .nil => .nil
 | y :: ys, _, .cons r t => by
  obtain ⟨k, e⟩ := r
  subst e
  exact .cons y k (QfY t)
noncomputable def rJoin (K : PySem.W.Frag) : V → List V → Hp → VK → Prop := fun x vs H Q => ∃ (a : Str) (p : Addr) (ys : List Str), x = .str a ∧ vs = [.ref p] ∧ SqL K H p (ys.map V.str) ∧ (ys.map (·.length)).sum + ys.length * a.length ≤ 16777216 ∧ Q (.str (Txt.join a ys)) H
theorem QfZ : MtR X "str.join" (rJoin X.K) := by
 intro pins s σ H x vs v us Q I rx rv h
 obtain ⟨a, p, ys, rfl, rfl, hq, hz, q⟩ := h
 obtain ⟨t, rfl⟩ := rx
 obtain ⟨u, rfl, ru⟩ := rv.one
 cases ru
 obtain ⟨its, rv', pl, _⟩ := I.list hq
 exact join_list pl.isList (QfY rv') hz fun t' k => ⟨.str _, H, I.kept (t' := k) (fun b o e => e), ⟨_, rfl⟩, q⟩
end
end MM
namespace MM
open PySem PyProof.Rows L2
noncomputable def strsOf : List D → Option (List Str)
 | [] => some []
 | .str x :: ds => (strsOf ds).map (x :: ·)
 | _ :: _ => none
noncomputable def  cSplit (a b : CE) : CE := fun l => bnd (a l) fun x => match x with
 | .str x => bnd (b l) fun y => match y with
  | .str y => chk ((y.length == 0) = false ∧ x.length + 2 ≤ lim ∧ (Txt.split x y).length ≤ lim) (alloc (.lst ((Txt.split x y).map .str)))
  | _ => bad
 | _ => bad
noncomputable def  cJoin (a b : CE) : CE := fun l => bnd (a l) fun x => match x with
 | .str x => bnd (b l) fun y => match y with
  | .ref n => bnd (getL n) fun ds => match strsOf ds with
   | some ys => chk ((ys.map (·.length)).sum + ys.length * x.length ≤ 16777216) (ret (.str (Txt.join x ys)))
   | none => bad
  | _ => bad
 | _ => bad
section
variable {X : Cx} {K : PySem.W.Frag} {ρ : List Addr} {H : Hp} {st : Sto}
theorem Qf0 : ∀ ys : List Str, Reps K ρ H (ys.map V.str) (ys.map D.str)
 | [] => .nil
 | y :: ys => .cons (.str y) (Qf0 ys)
theorem Qf1 {ds : List D} {ys : List Str} {vs : List V} (h : strsOf ds = some ys) (r : Reps K ρ H vs ds) : vs = ys.map V.str := by
 induction ds generalizing ys vs with
 | nil => cases r; cases h; rfl
 | cons d ds ih =>
  cases r with
  | cons a t =>
   cases a with
   | str x =>
    unfold strsOf at h
    cases e : strsOf ds with
    | none => rw [e] at h; cases h
    | some zs =>
     rw [e] at h
     cases h
     rw [ih e t]; rfl
   | _ => cases h
theorem Qf2 {o e : Expr} {fa fb : CE} {apos cpos : Pos} (ho : SE X o fa) (ha : SE X e fb) (hbase : attributeBase o "split" X.env (eval o X.env) = eval o X.env := by rfl)
  (hfew : ((backTo cpos (starEach [e] X.env)).all (fun x => !x.1) && (backToKw cpos (keywordEach [] X.env)).all (fun x => x.1.isSome) && decide ([e].length + ([] : List Keyword).length + (if ([] : List Keyword).isEmpty then 0 else 1) < 30)) = true := by rfl)
  (hline : (apos.endLine == cpos.line) = true := by rfl) (hs : starEach [e] X.env = (false, eval e X.env) :: starEach [] X.env := by rfl) (hplain : (backTo cpos (starEach [] X.env)).any (·.1) = false := by rfl) :
  SE X (.Call (.Attribute o "split" apos) [e] [] cpos) (cSplit fa fb) :=
 (Qci PySem.F.plainAttrs_str PySem.F.slot_str_split PySem.F.type_str_split QfX ho (QbD ha QbC hs) hbase hfew hline hs hplain).of fun σ H Q h_ => h_.el fun ρ l st lr sr p => ⟨ρ, l, st, lr, sr, p.bnd.imp fun d st1 ρ1 H1 x1 s1 p1 v rv => by
  cases rv with
  | str x =>
   refine ⟨rfl, ρ1, l, st1, lr.mono x1, s1, (Post.bnd p1).imp fun y st2 ρ2 H2 x2 s2 p2 w rw' => ?_⟩
   cases rw' with
   | str y =>
    obtain ⟨⟨hb, hl1, hl2⟩, p3⟩ := Post.chk p2
    refine ⟨x, y, rfl, rfl, hb, hl1, hl2, fun q hq => ?_⟩
    have nl := s2.fresh hq
    have s3 : SR X.K (ρ2 ++ [q]) (upd H2 q (.lst ((Txt.split x y).map V.str))) (st2 ++ [.lst ((Txt.split x y).map D.str)]) := (s2.new hq).keep Qai nl (Qf0 _)
    refine p3 _ _ (Ex.newL hq) s3 _ (.ref ⟨_, Qai, rfl⟩ ?_)
    rw [← s2.len]; simp
   | _ => exact p2.elim
  | _ => exact p1.elim⟩
theorem Qf3 {o e : Expr} {fa fb : CE} {apos cpos : Pos} (ho : SE X o fa) (ha : SE X e fb) (hbase : attributeBase o "join" X.env (eval o X.env) = eval o X.env := by rfl)
  (hfew : ((backTo cpos (starEach [e] X.env)).all (fun x => !x.1) && (backToKw cpos (keywordEach [] X.env)).all (fun x => x.1.isSome) && decide ([e].length + ([] : List Keyword).length + (if ([] : List Keyword).isEmpty then 0 else 1) < 30)) = true := by rfl)
  (hline : (apos.endLine == cpos.line) = true := by rfl) (hs : starEach [e] X.env = (false, eval e X.env) :: starEach [] X.env := by rfl) (hplain : (backTo cpos (starEach [] X.env)).any (·.1) = false := by rfl) :
  SE X (.Call (.Attribute o "join" apos) [e] [] cpos) (cJoin fa fb) :=
 (Qci PySem.F.plainAttrs_str PySem.F.slot_str_join PySem.F.type_str_join QfZ ho (QbD ha QbC hs) hbase hfew hline hs hplain).of fun σ H Q h_ => h_.el fun ρ l st lr sr p => ⟨ρ, l, st, lr, sr, p.bnd.imp fun d st1 ρ1 H1 x1 s1 p1 v rv => by
  cases rv with
  | str x =>
   refine ⟨rfl, ρ1, l, st1, lr.mono x1, s1, (Post.bnd p1).imp fun y st2 ρ2 H2 x2 s2 p2 w rw' => ?_⟩
   cases rw' with
   | @ref b m kk2 hb =>
    obtain ⟨ds, e2, p3⟩ := Post.getL (Post.bnd p2) s2
    obtain ⟨a', vs, ha, hv, r⟩ := s2.seq e2
    rw [hb] at ha; cases ha
    cases es : strsOf ds with
    | none => rw [es] at p3; exact p3.elim
    | some ys =>
     rw [es] at p3
     obtain ⟨hz, p4⟩ := Post.chk p3
     have ev := Qf1 es r
     subst ev
     exact ⟨x, b, ys, rfl, rfl, SqL.of hv, hz, p4.ret s2 _ (.str _)⟩
   | _ => exact p2.elim
  | _ => exact p1.elim⟩
end
end MM
namespace MM
open PySem PyProof.Rows L2
noncomputable abbrev CF := Str → Loc → M D
noncomputable def  fNil : CF := fun out _ => chk (out.length ≤ lim) (ret (.str out))
noncomputable def  fCons (a : CE) (r : CF) : CF := fun out l => bnd (a l) fun x => match x with
 | .str y => chk ((out ++ y).length ≤ lim) (r (out ++ y) l)
 | _ => bad
noncomputable def  cFmt (r : CF) : CE := fun l => r Str.empty l
section
variable {X : Cx} {e : Expr} {es : List Expr} {pos : Pos} {fa : CE} {r : CF} {te : TE}
theorem Qf4 (he : PE X e te) : PE X (.FormattedValue e (-1) none pos) (fun σ H Q => te σ H fun x H1 => ∃ i, x = .int i ∧ i.natAbs.log2 < 1920 ∧ Q (.str (Str.ofString (toString i))) H1) := by
 intro pins s σ H Q I h
 refine FormattedValue_plain (thn (he pins s σ H _ I h) fun v s1 z => ?_)
 obtain ⟨x, H1, I1, r1, i, rfl, hz, q⟩ := z
 obtain ⟨t, rfl⟩ := r1
 exact formatField_int_small hz ⟨.str _, H1, I1.tok _, ⟨_, rfl⟩, q⟩
theorem Qf5 (ha : SE X e fa) : SE X (.FormattedValue e (-1) none pos) (c1 strD fa) := (Qf4 ha).of fun σ H Q h_ => h_.el fun ρ l st lr sr p => ⟨ρ, l, st, lr, sr, p.bnd.imp fun d st1 ρ1 H1 x1 s1 p1 v rv => by
 cases rv with
 | int i =>
  obtain ⟨hz, p2⟩ := Post.chk p1
  exact ⟨i, rfl, hz, p2.ret s1 _ (.str _)⟩
 | _ => exact p1.elim⟩
def SJ (X : Cx) (es : List Expr) (r : CF) : Prop := ∀ (out : Str) (pins : List (Addr × Obj)) (s : Shared) (σ : L2.St) (H : Hp) (Q : VK), Inv X pins σ H s → tOf X.K (r out) σ H Q → wpAny (model X.prog X.w) X.A (joinParts out (evalEach es X.env)) (EP X pins σ Q) X.xe s
theorem Qf6 : SJ X [] fNil := fun out pins s σ H Q I h => by
 obtain ⟨ρ, l, st, lr, sr, p⟩ := h
 obtain ⟨hz, p1⟩ := Post.chk p
 exact joinParts_nil ⟨.str out, H, I.tok _, ⟨_, rfl⟩, p1.ret sr _ (.str _)⟩ hz
theorem Qf7 (ha : SE X e fa) (hr : SJ X es r) (he : evalEach (e :: es) X.env = eval e X.env :: evalEach es X.env := by rfl) : SJ X (e :: es) (fCons fa r) := fun out pins s σ H Q I h => by
 rw [he]
 obtain ⟨ρ, l, st, lr, sr, p⟩ := h
 refine joinParts_cons (thn (ha pins s σ H (fun x H1 => ∃ y, x = .str y ∧ (out ++ y).length ≤ sizeLine ∧ tOf X.K (r (out ++ y)) σ H1 Q) I ⟨ρ, l, st, lr, sr, (Post.bnd p).imp fun d st1 ρ1 H1 x1 s1 p1 v rv => ?_⟩) fun v s1 z => ?_)
 ·cases rv with
  | str y =>
   obtain ⟨hz, p2⟩ := Post.chk p1
   exact ⟨y, rfl, hz, ρ1, l, st1, lr.mono x1, s1, p2⟩
  | _ => exact p1.elim
 ·obtain ⟨x, H1, I1, r1, y, rfl, hz, q⟩ := z
  obtain ⟨t, rfl⟩ := r1
  exact ⟨hz, hr (out ++ y) pins s1 σ H1 Q I1 q⟩
theorem Qf8 {e2 : Expr} (h : SJ X (e :: e2 :: es) r) (he : evalEach (e :: e2 :: es) X.env = eval e X.env :: eval e2 X.env :: evalEach es X.env := by rfl) : SE X (.JoinedStr (e :: e2 :: es) pos) (cFmt r) := fun pins s σ H Q I q => by
 have := h Str.empty pins s σ H Q I q
 rw [he] at this
 exact JoinedStr_many this
end
end MM
namespace MM
open PySem PyProof.Rows L2
noncomputable def signs (x : Str) : List D := x.cps.toList.map fun c => .str ⟨#[c]⟩
noncomputable def  iStr (a : CE) : CI := fun l => bnd (a l) fun x => match x with
 | .str x => chk (x.cps.all (· < 128) = true) (ret ⟨signs x, anySt⟩)
 | _ => bad
noncomputable def Itx (x : Str) : It where
 go := fun i _ => ∃ c, x.cps[i]? = some c
 yld := fun i H v H' => H' = H ∧ ∃ c, x.cps[i]? = some c ∧ v = .str ⟨#[c]⟩
 stop := fun i _ => x.cps[i]? = none
theorem Qf9 {P : Program} {w : World} {K : PySem.W.Frag} {tg : Expr} (x : Str) (t : Tok) (it : Addr) : Turn P w K tg (Itx x) [it] it (fun i h => h.IsStrIter it "str_ascii_iterator" x t i) where
 mem := by simp
 obj := fun i h st b hb => by
  have e : b = it := by simpa using hb
  subst e
  obtain ⟨o, e, c, d⟩ := st
  exact ⟨o, e, fun v z => by rw [d] at z; cases z⟩
 keep := fun i h h' st k => by
  obtain ⟨o, e, r⟩ := st
  exact ⟨o, k it (by simp) o e, r⟩
 item := by
  intro X hP hw hK hc i pins s σ H E I hf st hg
  subst hP hw hK
  obtain ⟨c, hx⟩ := hg
  obtain ⟨f0, f1, f2, f3, f4, f5⟩ := hf it (by simp)
  refine wpAny_pyNext_ascii_item st hx fun h' st' sb => ?_
  have I1 : Inv X pins σ H { s with heap := h', toks := s.toks + 1 } := I.turned (t' := s.toks + 1) (fun b o hb e => (sb.2 b hb).trans e) f0 f1 f3 f4 f5
  obtain ⟨o, e, cl, d⟩ := id st'
  exact ⟨_, rfl, QaV (s := { s with heap := h', toks := s.toks + 1 }) e cl d (by decide) ⟨.str ⟨#[c]⟩, H, I1, ⟨_, rfl⟩, ⟨rfl, c, hx, rfl⟩, st', fun b hb => (hf b hb).1⟩⟩
 done := by
  intro X hP hw hK hc i pins s σ H E I hf st hg
  subst hP hw hK
  obtain ⟨f0, f1, f2, f3, f4, f5⟩ := hf it (by simp)
  exact wpAny_pyNext_ascii_end (I.ok.hd hc) st hg fun h' eb => ⟨rfl, I.turned (t' := s.toks) (fun b o hb e => eb b o hb e) f0 f1 f3 f4 f5⟩
 self := fun _ _ _ _ _ st h => wpAny_pyIter_striter_ascii st h
section
variable {X : Cx} {K : PySem.W.Frag} {tg e : Expr} {fa : CE} {te : TE}
theorem Qga (he : PE X e te) : PI X tg e (fun σ H R => te σ H fun x H1 => ∃ z, x = .str z ∧ z.cps.all (· < 128) = true ∧ R (Itx z) H1) := by
 intro pins s σ H R I h
 refine thn (he pins s σ H _ I h) fun v s1 y => ?_
 obtain ⟨x, H1, I1, r1, z, rfl, hz, q⟩ := y
 obtain ⟨t, rfl⟩ := r1
 refine wpAny_pyIter_ascii hz ?_
 refine ⟨s1.heap.objs.size, [s1.heap.objs.size], _, _, H1, rfl, I1.kept (t' := s1.toks) fun b o e => Heap.get?_push_of_some _ e, Qf9 z t _, ⟨_, Heap.get?_push_size _ rfl, rfl, rfl⟩, fun b hb => ?_, q⟩
 have eb : b = s1.heap.objs.size := by simpa using hb
 subst eb
 exact I1.fpOk (Nat.le_refl _) (I1.hok.fresh (Nat.le_refl _))
theorem Qgb {ρ0 : List Addr} {H0 : Hp} {x : Str} : ItR K ρ0 H0 ⟨signs x, anySt⟩ (Itx x) := fun ρ H st y s _ => by
 refine ⟨?_, fun i d e => ?_⟩
 ·show x.cps[(signs x).length]? = none
  unfold signs
  simp
 ·unfold signs at e
  rw [List.getElem?_map, Array.getElem?_toList] at e
  cases ec : x.cps[i]? with
  | none => rw [ec] at e; cases e
  | some c =>
   rw [ec] at e
   cases e
   refine ⟨⟨c, ec⟩, fun v H' z => ?_⟩
   obtain ⟨e2, c', e3, e4⟩ := z
   subst e2
   rw [ec] at e3; cases e3
   subst e4
   exact ⟨Ex.refl, s, .str _⟩
theorem Qgc (h : SE X e fa) : SI X tg e (iStr fa) := (Qga h).of fun σ H R h_ => h_.el fun ρ l st lr sr p => ⟨ρ, l, st, lr, sr, p.bnd.imp fun d st1 ρ1 H1 x1 s1 p1 v rv => by
 cases rv with
 | str x =>
  obtain ⟨hz, p2⟩ := Post.chk p1
  exact ⟨x, rfl, hz, p2.ret s1 _ Qgb⟩
 | _ => exact p1.elim⟩
end
end MM
namespace MM
open PySem PySem.StrLaws Builtin.Str
structure Mrk (y : Str) (m k : Nat) : Prop where
 lt : k < y.length
 at_ : y.cps.toList[k]? = some m
 un : ∀ j, y.cps.toList[j]? = some m → j = k
 kind : Builtin.Str.strKind y ≤ 1
theorem At.mark {x y : Str} {m k i : Nat} (h : Mrk y m k) (a : At x y x.length i) : x.cps.toList[i + k]? = some m := by
 have e := a.2
 rw [subAt_eq, beq_iff_eq] at e
 have e2 : ((x.cps.toList.drop i).take y.length)[k]? = some m := by rw [e]; exact h.at_
 rw [List.getElem?_take_of_lt h.lt, List.getElem?_drop] at e2
 exact e2
theorem Qgd {l r : List Nat} {a t : Nat} (e : l.drop a = r) : l[a + t]? = r[t]? := by rw [← e, List.getElem?_drop]
theorem Qge (p : Str) : p.cps.toList.length = p.length := by simp [Str.length]
theorem Qgf {x y : Str} {m k : Nat} (hm : Mrk y m k) : ∀ (ps : List Str) (a : Nat) (cuts : List Nat) (f : Nat), ps ≠ [] → (∀ p ∈ ps, m ∉ p.cps.toList) → x.cps.toList.drop a = (Str.join y ps).cps.toList → a ≤ x.length →
  ChainG x y x.length a cuts f → (∀ j, f ≤ j → ¬ At x y x.length j) → partsFrom x y.length a cuts = ps
 | [], _, _, _, h, _, _, _, _, _ => absurd rfl h
 | [p], a, cuts, f, _, hp, e, ha, hc, hf => by
  have no : ∀ j, a ≤ j → ¬ At x y x.length j := fun j hj hA => by
   have e1 := At.mark hm hA
   rw [show j + k = a + (j - a + k) by ac_nf, Qgd e] at e1
   exact hp p (by simp) (List.mem_of_getElem? e1)
  cases cuts with
  | cons c r => exact absurd hc.2.1 (no c hc.1)
  | nil =>
   show [strSub x a x.length] = [p]
   congr 1
   apply Str.ext'
   apply Array.toList_inj.mp
   rw [strSub_toList, e]
   have e2 : (x.cps.toList.drop a).length = p.cps.toList.length := by rw [e]; rfl
   rw [List.length_drop, Qge] at e2
   exact List.take_of_length_le (Nat.le_of_eq e2.symm)
 | p :: q :: r, a, cuts, f, _, hp, e, ha, hc, hf => by
  have ej : (Str.join y (p :: q :: r)).cps.toList = p.cps.toList ++ (y.cps.toList ++ (Str.join y (q :: r)).cps.toList) := by
   show (p ++ y ++ Str.join y (q :: r)).cps.toList = _
   rw [Str.cps_append, Str.cps_append]
   simp
  rw [ej] at e
  have pl := Qge p
  have yl := Qge y
  have e0 : ∀ t, x.cps.toList[a + t]? = _ := fun t => Qgd e
  have hxl : x.length = a + p.length + y.length + (Str.join y (q :: r)).length := by
   have := congrArg List.length e
   rw [List.length_drop, List.length_append, List.length_append, Qge, Qge, Qge, Qge] at this
   have := hm.lt
   ac_nf
  have yes : At x y x.length (a + p.length) := by
   refine ⟨by ac_nf, ?_⟩
   rw [subAt_eq, beq_iff_eq, ← List.drop_drop, e, ← pl, List.drop_left, ← yl, List.take_left]
  have no : ∀ j, a ≤ j → j < a + p.length → ¬ At x y x.length j := fun j hj hl hA => by
   have e1 := At.mark hm hA
   rw [show j + k = a + (j - a + k) by ac_nf, e0] at e1
   by_cases h1 : j - a + k < p.length
   ·rw [List.getElem?_append_left (by ac_nf)] at e1
    exact hp p (by simp) (List.mem_of_getElem? e1)
   ·have := hm.lt
    rw [List.getElem?_append_right (by ac_nf), List.getElem?_append_left (by ac_nf)] at e1
    have := hm.un _ e1
    ac_nf
  cases cuts with
  | nil =>
   have : f = a := hc
   exact absurd yes (hf _ (by ac_nf))
  | cons c cs =>
   have ec : c = a + p.length := by
    rcases Nat.lt_trichotomy c (a + p.length) with h | h | h
    ·exact absurd hc.2.1 (no c hc.1 h)
    ·exact h
    ·exact absurd yes (hc.2.2.1 _ (by ac_nf) h)
   subst ec
   show strSub x a (a + p.length) :: partsFrom x y.length (a + p.length + y.length) cs = _
   congr 1
   ·apply Str.ext'
    apply Array.toList_inj.mp
    rw [strSub_toList, e, show a + p.length - a = p.cps.toList.length by ac_nf, List.take_left]
   ·refine Qgf hm (q :: r) _ cs f (by simp) (fun z hz => hp z (List.mem_cons_of_mem _ hz)) ?_ (by ac_nf) hc.2.2.2 hf
    rw [← List.drop_drop, ← List.drop_drop, e, ← pl, List.drop_left, ← yl, List.drop_left]
theorem Qgg (x : Str) : 1 ≤ Builtin.Str.strKind x := by
 unfold Builtin.Str.strKind
 split
 ·exact Nat.le_refl _
 ·split <;> decide
theorem Qgh {y : Str} {m k : Nat} (hm : Mrk y m k) {ps : List Str} (h0 : ps ≠ []) (hp : ∀ p ∈ ps, m ∉ p.cps.toList) : Txt.split (Txt.join y ps) y = ps := by
 have ej : Txt.join y ps = Str.join y ps := glued_eq_join y ps
 rw [ej]
 generalize hx : Str.join y ps = x
 have hk := Qgg x
 obtain ⟨f, hG, hn⟩ := occ_tight x y (by have := hm.lt; ac_nf)
 have fin := Qgf hm ps 0 _ f h0 hp (by rw [hx]; rfl) (Nat.zero_le _) hG hn
 unfold Txt.split
 split
 ·rename_i hc
  rw [Bool.or_eq_true, decide_eq_true_eq, decide_eq_true_eq] at hc
  have hl : x.length < y.length := by have := hm.kind; ac_nf
  match ps, h0, hx with
  | [p], _, hx => rw [← hx]; rfl
  | p :: q :: r, _, hx =>
   have : x.length = (p ++ y ++ Str.join y (q :: r)).length := by rw [← hx]; rfl
   rw [Str.length_append, Str.length_append] at this
   ac_nf
 ·split
  ·rename_i he
   rw [List.isEmpty_iff.mp he] at fin
   have : [strSub x 0 x.length] = ps := fin
   rw [sub_whole] at this
   exact this
  ·rw [partsBetween_eq]
   exact fin
end MM
namespace MM
open PySem PySem.Spec PyProof.Rows L2
structure NameOk (x : Str) : Prop where
 d : (x == ("__debug__" : Str)) = false
 c : (x == ("__classdict__" : Str)) = false
 n : x ≠ "__name__"
theorem nok {x : Str} (h : ((x == ("__debug__" : Str)) || (x == ("__classdict__" : Str)) || decide (x = ("__name__" : Str))) = false) : NameOk x := by
 rw [Bool.or_eq_false_iff, Bool.or_eq_false_iff] at h
 exact ⟨h.1.1, h.1.2, of_decide_eq_false h.2⟩
structure Sc (X : Cx) (sc : Scope) : Prop where
 vis : ∀ x k, sc.names.lookup x = some k → (k = .local ∨ k = .cell ∨ k = .free) → Vis X.env.scope x
 cel : ∀ x, (sc.names.lookup x = some .cell ∨ sc.names.lookup x = some .free) → (X.env.kindOf x = some .cell ∨ X.env.kindOf x = some .free)
 glo : ∀ x, sc.names.lookup x = some .globalImplicit → Gl X x
 loc : ∀ x k, sc.names.lookup x = some k → (k = .local ∨ k = .cell) → L2.Loc X.env.scope x ∧ (X.fn x = true ∨ X.env.scope.names.lookup x = some .local)
 calm : X.calm = true
theorem Qgi {P : Program} {w : World} {K : PySem.W.Frag} {mg : Str → Option Value} {base : Heap} {N : List Str} {qual : Str} {sc : Scope} {f : Addr} {cdv : Value} {A : Around} {outer : List Env} {s : Shared} {H : Hp} {E : XK} :
  Sc (cxOf CX0 P w K mg base N qual sc f cdv A outer s H E).nox sc where
 vis := fun x k h hk => by
  rcases hk with z | z | z <;> subst z
  ·exact .inl h
  ·exact .inr (.inl h)
  ·exact .inr (.inr h)
 cel := fun x h => h
 glo := fun x h => h
 loc := fun x k h hk => ⟨by rcases hk with z | z <;> subst z; exact .inl h; exact .inr h, .inl rfl⟩
 calm := rfl
theorem Qgj {X : Cx} {N : List Str} {scope : Scope} {fp : List Addr} {s : Shared} {H : Hp} (hc : X.calm = true) : Sc (cxC X N scope fp s H) scope where
 vis := fun x k h hk => by
  show (relabel scope X.env).names.lookup x = _ ∨ (relabel scope X.env).names.lookup x = _ ∨ (relabel scope X.env).names.lookup x = _
  rw [QdE, h, Option.map_some]
  rcases hk with z | z | z <;> subst z
  ·exact .inl rfl
  ·exact .inr (.inl rfl)
  ·by_cases hq : (NameKind.free == NameKind.free && X.env.scope.kind == .function && X.env.kindOf x == some .cell) = true
   ·rw [if_pos hq]; exact .inr (.inl rfl)
   ·rw [if_neg hq]; exact .inr (.inr rfl)
 cel := fun x h => by
  show (relabel scope X.env).names.lookup x = _ ∨ (relabel scope X.env).names.lookup x = _
  rcases h with h | h <;> rw [QdE, h, Option.map_some]
  ·exact .inl rfl
  ·by_cases hq : (NameKind.free == NameKind.free && X.env.scope.kind == .function && X.env.kindOf x == some .cell) = true
   ·rw [if_pos hq]; exact .inl rfl
   ·rw [if_neg hq]; exact .inr rfl
 glo := fun x h => by
  show (relabel scope X.env).names.lookup x = _
  rw [QdE, h, Option.map_some]; rfl
 loc := fun x k h hk => by
  refine ⟨?_, .inl ?_⟩
  ·show (relabel scope X.env).names.lookup x = _ ∨ (relabel scope X.env).names.lookup x = _
   rw [QdE, h, Option.map_some]
   rcases hk with z | z <;> subst z
   ·exact .inl rfl
   ·exact .inr rfl
  ·show decide (scope.names.lookup x = some .local ∨ scope.names.lookup x = some .cell) = true
   rw [h]
   rcases hk with z | z <;> subst z <;> decide
 calm := hc
noncomputable def compChk (sc scope : Scope) : Bool :=
 (scope.kind == .function) && scope.names.all (fun p => p.2 != .local || scope.names.lookup p.1 == some .local) &&
 scope.names.all (fun p => p.2 != .free || ((sc.names.lookup p.1 == some .cell || sc.names.lookup p.1 == some .free) && !scope.names.contains (p.1, .cell) && scope.names.lookup p.1 != some .local))
theorem Qgk {X : Cx} {sc scope : Scope} (S : Sc X sc) (h : compChk sc scope = true) : CompScope X scope := by
 unfold compChk at h
 rw [Bool.and_eq_true, Bool.and_eq_true] at h
 obtain ⟨⟨h1, h2⟩, h3⟩ := h
 rw [List.all_eq_true] at h2 h3
 have fr : ∀ x, (x, NameKind.free) ∈ scope.names → (sc.names.lookup x = some .cell ∨ sc.names.lookup x = some .free) ∧ (x, NameKind.cell) ∉ scope.names ∧ scope.names.lookup x ≠ some .local := fun x hx => by
  have q := h3 _ hx
  simp only [bne_self_eq_false, Bool.false_or, Bool.and_eq_true, Bool.or_eq_true, beq_iff_eq, Bool.not_eq_true', bne_iff_ne, ne_eq] at q
  obtain ⟨⟨q1, q2⟩, q3⟩ := q
  refine ⟨q1, fun z => ?_, q3⟩
  have : scope.names.contains (x, NameKind.cell) = true := List.contains_iff_mem.mpr z
  rw [this] at q2; cases q2
 refine ⟨by simpa using h1, fun p hp hl => ?_, fun x hx => S.cel x (fr x hx).1, fun x hx => (fr x hx).2.1, fun x hx => (fr x hx).2.2⟩
 have q := h2 p hp
 rw [hl] at q
 simpa using q
noncomputable def namesChk (N0 : List Str) (scope : Scope) (N : List Str) (n : Nat) (ix : List Nat) : Bool :=
 N.length == n + ix.length && (List.range ix.length).all fun j => match ix[j]?, N[n + j]? with
  | some i, some x => N0[i]? == some x && scope.names.lookup x == some .free
  | _, _ => false
theorem Qgl {X : Cx} {N0 : List Str} {scope : Scope} {N : List Str} {n : Nat} {ix : List Nat} (hX : X.N = N0) (h : namesChk N0 scope N n ix = true) : CompNames X scope N n ix := by
 unfold namesChk at h
 rw [Bool.and_eq_true, List.all_eq_true] at h
 refine ⟨by simpa using h.1, fun j i x hj hx => ?_⟩
 have q := h.2 j (List.mem_range.mpr (List.getElem?_eq_some_iff.mp hj).1)
 rw [hj, hx] at q
 simp only [Bool.and_eq_true, beq_iff_eq] at q
 rw [hX]
 exact q
section
variable {X : Cx} {sc : Scope} {a b c e o tg : Expr} {es : List Expr} {pos p : Pos} {fa fb fc : CE} {ca cb : CA} {x : Str} {T id : String}
theorem Qgm (S : Sc X sc) (i : Nat) (hN : X.N[i]? = some x) {k : NameKind} (h : sc.names.lookup x = some k) (n : NameOk x) (hk : k = .local ∨ k = .cell ∨ k = .free := by decide) : SE X (.Name x pos) (cVar i) := Qc2 i (Qas hN (S.vis x k h hk) n.d n.c)
theorem Qgn (S : Sc X sc) (i : Nat) (nd : X.N.Nodup) (hN : X.N[i]? = some x) {k : NameKind} (h : sc.names.lookup x = some k) (hk : k = .local ∨ k = .cell := by decide) : SG X (.Name x pos) (gVar i) :=
 Qep (QaN nd hN (S.loc x k h hk).1 (S.loc x k h hk).2)
theorem Qgo (S : Sc X sc) (i : Nat) (nd : X.N.Nodup) (hN : X.N[i]? = some x) {k : NameKind} (h : sc.names.lookup x = some k) {pos' : Pos} (he : SE X e fa) (hk : k = .local ∨ k = .cell := by decide) (hs : swapsWith e (some (.Name x pos')) pos.line X.env = pure false := by rfl) :
  SS X (.Assign [.Name x pos'] e pos) (sAsg (gVar i) fa) := QeA nd hN (S.loc x k h hk).1 he hs (S.loc x k h hk).2
theorem Qgp {v : V} {d : D} {u : Value} (S : Sc X sc) (h : sc.names.lookup x = some .globalImplicit) (hm : X.mg x = some u) (r : RelV v u) (n : NameOk x) (q : ∀ ρ H, Rep X.K ρ H v d) : SE X (.Name x pos) (cCon d) :=
 (Qaz (S.glo x h) hm r n.d).of fun σ H Q h_ => h_.el fun ρ l st lr sr p => p.ret sr _ (q _ _)
theorem Qgq {n : Nat} (h : ∀ l st ds st', ca l st = .ok ds st' → ds.length = n) : ∀ l st ds st', cCons fa ca l st = .ok ds st' → ds.length = n + 1 := fun l st ds st' e => by
 unfold cCons bnd at e
 cases q : fa l st with
 | ok d s1 =>
  rw [q] at e
  dsimp only at e
  cases q2 : ca l s1 with
  | ok es s2 =>
   rw [q2] at e
   have := h l s1 es s2 q2
   cases e
   simp [this]
  | exc _ _ => rw [q2] at e; cases e
  | bad => rw [q2] at e; cases e
 | exc _ _ => rw [q] at e; cases e
 | bad => rw [q] at e; cases e
theorem Qgr : ∀ l st ds st', cNil l st = .ok ds st' → ds.length = 0 := fun l st ds st' e => by cases e; rfl
theorem Qgs {k n : Nat} {f : Addr} {fd : FuncData} {ps : List Str} {g : List D → M D} (S : Sc X sc) (h : sc.names.lookup x = some .globalImplicit) (F : FnOk X.prog X.w X.K X.mg X.base CX0 k f fd ps (spOf X.K n g)) (hr : Room k X.A) (hm : X.mg x = some (.ref f))
  (hk : PySem.W.keepIn X.K (.ref f) = true) (hb : Binds X.K fd ps []) (nk : NameOk x) (ha : SA X (e :: es) ca) (hn : ∀ l st ds st', ca l st = .ok ds st' → ds.length = n)
  (he : starEach (e :: es) X.env = (false, eval e X.env) :: starEach es X.env := by rfl) (hpl : (backTo pos (starEach es X.env)).any (·.1) = false := by rfl) : SE X (.Call (.Name x p) (e :: es) [] pos) (cCall g ca) :=
 Qea F hr (S.glo x h) hm hk hb Qcv ha hn nk.d he hpl
end
theorem Qgt {k : Nat} {X : Cx} (h : Room k X.A) : X.A.units + 60 < cLine := by have := h.units; ac_nf
end MM
namespace MM
open PySem PySem.Spec PyProof.Rows L2
theorem Qgu {P : Program} {w : World} {K : PySem.W.Frag} {mg : Str → Option Value} {base : Heap} {x qual : Str} {sd : Stmt} {f : Addr} {fd : FuncData} {N ps : List Str} {k n m : Nat} {body : CS} (F : Fun K x qual sd f fd) (S : FnScope N ps (defScope sd)) (hn : ps.length = n) (hm : N.length = m)
  (hbody : ∀ (cdv : Value) (A : Around) (outer : List Env) (s : Shared) (H : Hp) (E : XK), Room k (A.deeper (envOfC qual (defScope sd) s.heap.objs.size f cdv)) → SSs (cxOf CX0 P w K mg base N qual (defScope sd) f cdv A outer s H E).nox (defBody sd) body) :
  FnOk P w K mg base CX0 (k + 1) f fd ps (spOf K n (runDef m body)) := by
 subst hn hm
 exact QeE F S hbody
end MM
namespace MM
open PySem PySem.Spec PyProof.Rows L2
theorem Qgv {K : PySem.W.Frag} {ρ : List Addr} {H : Hp} : ∀ (ns : List Int), Reps K ρ H (ns.map V.int) (ns.map D.int)
 | [] => .nil
 | n :: ns => .cons (.int n) (Qgv ns)
theorem Qgw {K : PySem.W.Frag} {H : Hp} {a : Addr} {ns : List Int} {g : List D → M D} (hO : Only H) (hS : SqL K H a (ns.map V.int)) (h : ∃ st', g [.lit (ns.map D.int)] [] = .ok (.bl true) st') :
  spOf K 1 g [.ref a] H (fun v _ => v = .bl true) fun _ _ _ => False := by
 obtain ⟨st', e⟩ := h
 have fz : FzL K H a (ns.map V.int) := by
  rcases hS with (h | ⟨o, h⟩) | h
  ·rcases hO a with z | ⟨ob, xs, z⟩ <;> (rw [z] at h; cases h)
  ·exact .inl ⟨o, h⟩
  ·exact .inr h
 refine ⟨rfl, [], [], _, ⟨rfl, List.nodup_nil, fun n b o z => by cases z⟩, .cons (.lit fz (Qgv ns)) .nil, ?_⟩
 rw [e]
 intro ρ' H' _ _ v rv
 cases rv
 rfl
abbrev LK (st : Stmt) (x : Str) (k : NameKind) : Prop := (defScope st).names.lookup x = some k
@[elab_as_elim] theorem le1 {A : Type} {P : List A → Prop} (h : ∀ a, P [a]) (us : List A) (hl : us.length = 1) : P us := by
 cases us with
 | nil => cases hl
 | cons a t => cases t with
  | nil => exact h a
  | cons b u => simp at hl
@[elab_as_elim] theorem le2 {A : Type} {P : List A → Prop} (h : ∀ a0 a1, P [a0, a1]) (us : List A) (hl : us.length = 2) : P us := by
 cases us with
 | nil => cases hl
 | cons a t => exact le1 (P := fun t => P (a :: t)) (h a) t (Nat.succ.inj hl)
@[elab_as_elim] theorem le3 {A : Type} {P : List A → Prop} (h : ∀ a0 a1 a2, P [a0, a1, a2]) (us : List A) (hl : us.length = 3) : P us := by
 cases us with
 | nil => cases hl
 | cons a t => exact le2 (P := fun t => P (a :: t)) (h a) t (Nat.succ.inj hl)
@[elab_as_elim] theorem le4 {A : Type} {P : List A → Prop} (h : ∀ a0 a1 a2 a3, P [a0, a1, a2, a3]) (us : List A) (hl : us.length = 4) : P us := by
 cases us with
 | nil => cases hl
 | cons a t => exact le3 (P := fun t => P (a :: t)) (h a) t (Nat.succ.inj hl)
end MM
namespace MM
open PySem PySem.Spec PyProof.Rows L2
structure FunD (K : PySem.W.Frag) (x qual : Str) (st : Stmt) (f : Addr) (fd : FuncData) (u : Value) : Prop where
 ex : ∃ (oc : Value) (od : Option Addr) (kV doc pm : Value) (an : Option Addr) (cdv ct : Value) (osl : Array (Option Value)) (T : Addr) (o : Obj) (n : Nat),
  fd = PySem.W.fnOf x qual (defArgs st) (defBody st) (defScope st) (.ref T) kV doc pm an cdv ct ∧ K.lookup f = some ⟨oc, od, .func fd, osl⟩ ∧ PySem.W.codeIn K cdv qual = true ∧ K.lookup T = some o ∧ o.data = .seq #[u] n
 kp : PySem.W.keepIn K (.ref f) = true
section
variable {P : Program} {w : World} {K : PySem.W.Frag} {mg : Str → Option Value} {base : Heap} {x qual : Str} {st : Stmt} {f : Addr} {fd : FuncData} {u : Value} {ps : List Str}
theorem FunD.binds {ds : List Value} (F : FunD K x qual st f fd u)
  (h : ∀ (T : Addr) (kV doc pm : Value) (an : Option Addr) (cdv ct : Value) (us : List Value), (us ++ ds).length = ps.length → ∃ k : Option (Array Value) → Sem (List (Str × Value)), bindArgs (PySem.W.fnOf x qual (defArgs st) (defBody st) (defScope st) (.ref T) kV doc pm an cdv ct) ⟨us, []⟩ = seqItems? (.ref T) >>= k ∧ k (some #[u]) = pure (ps.zip (us ++ ds))) : Binds K fd ps ds := by
 obtain ⟨oc, od, kV, doc, pm, an, cdv, ct, osl, T, o, n, rfl, lk, hcd, lt, ht⟩ := F.ex
 intro s us KX hl
 obtain ⟨k, h1, h2⟩ := h T kV doc pm an cdv ct us hl
 exact BindsTo.of_defaults (T := T) rfl (KX T o lt) ht h1 h2
end
section
variable {X : Cx} {sc : Scope} {e : Expr} {es : List Expr} {pos p : Pos} {ca : CA} {x : Str}
end
end MM
namespace MM
open PySem
noncomputable abbrev At {α : Type} (_ : α → Sto → Prop) : Type := Sto
inductive wp {α : Type} (m : M α) (Q : α → Sto → Prop) (s : At Q) : Prop
 | intro (a : α) (s' : Sto) (h : m s = .ok a s') (q : Q a s') : wp m Q s
theorem Qgx {α : Type} {m : M α} {Q : α → Sto → Prop} {s : Sto} : wp m Q s = (match m s with
 | .ok a s' => Q a s'
 | _ => False) := by
 apply propext
 constructor
 ·rintro ⟨a, s', h, q⟩; rw [h]; exact q
 ·intro h
  cases e : m s with
  | ok a s' => rw [e] at h; exact ⟨a, s', e, h⟩
  | exc _ _ => rw [e] at h; exact h.elim
  | bad => rw [e] at h; exact h.elim
section
variable {α β : Type} {Q : α → Sto → Prop} {s : Sto}
theorem wp_eq {m : M α} {a : α} {s' : Sto} (h : m s = .ok a s') : wp m Q s = Q a s' := by rw [Qgx, h]
theorem wp_no {m : M α} (h : m s = .bad) : wp m Q s = False := by rw [Qgx, h]
theorem wp_cg {m : M β} {Q Q' : β → Sto → Prop} {s : Sto} (h : ∀ a s', Q a s' = Q' a s') : wp m Q s = wp m Q' s := by
 rw [show Q = Q' from funext fun a => funext fun t => h a t]
theorem wp_ret {a : α} : wp (ret a) Q s = Q a s := wp_eq rfl
theorem wp_bad : wp (bad : M α) Q s = False := wp_no rfl
theorem Qgy {m : M β} {f : β → M α} : wp (bnd m f) Q s = wp m (fun a s' => wp (f a) Q s') s := by
 simp only [Qgx]
 unfold bnd
 cases m s <;> rfl
theorem wp_chk {c : Prop} [Decidable c] {m : M α} : wp (chk c m) Q s = (c ∧ wp m Q s) := by
 unfold chk
 by_cases h : c
 ·simp [h]
 ·simp [h, wp_bad]
theorem wp_alloc {o : MO} {Q : D → Sto → Prop} : wp (alloc o) Q s = Q (.ref s.length) (s ++ [o]) := wp_eq rfl
theorem Qgz {n : Nat} {ds : List D} {Q : List D → Sto → Prop} (h : s[n]? = some (.lst ds)) : wp (getL n) Q s = Q ds s := by
 rw [Qgx]; unfold getL; rw [h]
theorem QgA {n : Nat} {ds es : List D} {Q : Unit → Sto → Prop} (h : s[n]? = some (.lst ds)) : wp (putL n es) Q s = Q () (s.set n (.lst es)) := by
 rw [Qgx]; unfold putL; rw [h]
theorem QgB {m : M α} {Q' : α → Sto → Prop} (h : wp m Q s) (f : ∀ a s', Q a s' → Q' a s') : wp m Q' s := by
 simp only [Qgx] at *
 cases e : m s with
 | ok a s' => rw [e] at h; exact f a s' h
 | exc _ _ => rw [e] at h; exact h
 | bad => rw [e] at h; exact h
theorem QgC {c : Prop} [Decidable c] {m n : M α} : wp (if c then m else n) Q s = if c then wp m Q s else wp n Q s := by split <;> rfl
end
theorem QgD {ds : List D} {i : Int} {d : D} (h0 : 0 ≤ i) (h : ds[i.toNat]? = some d) : itemD ds i = ret d := by
 have hl : i.toNat < ds.length := (List.getElem?_eq_some_iff.mp h).1
 unfold itemD MM.ixN
 rw [if_pos h0, if_pos (by ac_nf)]
 dsimp only
 rw [h]
theorem wp_run {n : Nat} {b : CS} {ds : List D} {Q : D → Sto → Prop} {s : Sto} : wp (runDef n b ds) Q s = wp (b (ds.map some ++ List.replicate (n - ds.length) none)) (fun f s' => wp (flwD f) Q s') s := by
 unfold runDef; rw [Qgy]
theorem QgE {g : CG} {b : CS} {same : Sto → Prop} {Q : Flw → Sto → Prop} (W : List D → Loc → Sto → Prop)
  (hend : ∀ l s, W [] l s → wp (chkS same) (fun _ s' => Q (.next l) s') s)
  (hstep : ∀ d ds l s, W (d :: ds) l s → wp (chkS same) (fun _ s1 => wp (g d l) (fun l1 s2 => wp (b l1) (fun f s3 => match f with
   | .next l2 => W ds l2 s3
   | .cnt l2 => W ds l2 s3
   | .brk l2 => Q (.next l2) s3
   | .ret d => Q (.ret d) s3) s2) s1) s) : ∀ ds l s, W ds l s → wp (forD g b same ds l) Q s := by
 intro ds
 induction ds with
 | nil =>
  intro l s h
  unfold forD
  rw [Qgy]
  exact QgB (hend l s h) fun _ s' q => by rw [wp_ret]; exact q
 | cons d ds ih =>
  intro l s h
  unfold forD
  rw [Qgy]
  refine QgB (hstep d ds l s h) fun _ s1 q => ?_
  rw [Qgy]
  refine QgB q fun l1 s2 q => ?_
  rw [Qgy]
  refine QgB q fun f s3 q => ?_
  cases f with
  | next l2 => exact ih l2 s3 q
  | cnt l2 => exact ih l2 s3 q
  | brk l2 => show wp (ret _) _ _; rw [wp_ret]; exact q
  | ret d => show wp (ret _) _ _; rw [wp_ret]; exact q
theorem QgF {g : CG} {t : CT} {e : CE} {same : Sto → Prop} {Q : List D → Sto → Prop} (W : List D → List D → Loc → Sto → Prop)
  (hend : ∀ out l s, W out [] l s → wp (chkS same) (fun _ s' => Q out s') s)
  (hstep : ∀ out d ds l s, W out (d :: ds) l s → wp (chkS same) (fun _ s1 => wp (g d l) (fun l1 s2 => wp (t l1) (fun b s3 => if b = true then wp (e l1) (fun x s4 => W (out ++ [x]) ds l1 s4) s3 else W out ds l1 s3) s2) s1) s) :
  ∀ ds out l s, W out ds l s → wp (collect g t e same ds l) (fun xs s' => Q (out ++ xs) s') s := by
 intro ds
 induction ds with
 | nil =>
  intro out l s h
  unfold collect
  rw [Qgy]
  exact QgB (hend out l s h) fun _ s' q => by rw [wp_ret, List.append_nil]; exact q
 | cons d ds ih =>
  intro out l s h
  unfold collect
  rw [Qgy]
  refine QgB (hstep out d ds l s h) fun _ s1 q => ?_
  rw [Qgy]
  refine QgB q fun l1 s2 q => ?_
  rw [Qgy]
  refine QgB q fun b s3 q => ?_
  cases b with
  | false => exact ih out l1 s3 q
  | true =>
   show wp (bnd (e l1) _) _ s3
   rw [Qgy]
   refine QgB q fun x s4 q => ?_
   rw [Qgy]
   refine QgB (ih (out ++ [x]) l1 s4 q) fun xs s5 q => ?_
   rw [wp_ret]
   rw [List.append_assoc] at q
   exact q
theorem QgG {e : CE} {xs : List D} {same : Sto → Prop} {caps : Loc} {s : Sto} {Q : List D → Sto → Prop} (W : Nat → List D → Sto → Prop) (hs : ∀ i out s, W i out s → same s) (h0 : W 0 [] s)
  (hstep : ∀ (i : Nat) d out s, xs[i]? = some d → W i out s → wp (e (some d :: caps)) (fun x s' => W (i + 1) (out ++ [x]) s') s) (hend : ∀ out s, W xs.length out s → Q out s) :
  wp (collect (gVar 0) tTrue e same xs (none :: caps)) Q s := by
 have chk : ∀ {s : Sto} {R : Unit → Sto → Prop}, same s → R () s → wp (chkS same) R s := fun h r => by rw [Qgx]; unfold chkS; rw [if_pos h]; exact r
 refine QgF (Q := Q) (fun out ds l s => ∃ i x0, ds = xs.drop i ∧ i ≤ xs.length ∧ l = x0 :: caps ∧ W i out s) (fun out l s ⟨i, x0, e1, hi, _, w⟩ => ?_) (fun out d ds l s ⟨i, x0, e1, hi, el, w⟩ => ?_) xs [] _ s ⟨0, none, by simp, Nat.zero_le _, rfl, h0⟩
 ·have : i = xs.length := by
    have := congrArg List.length e1
    simp at this; ac_nf
  subst this
  exact chk (hs _ _ _ w) (hend out s w)
 ·subst el
  have hlt : i < xs.length := by
   have := congrArg List.length e1
   simp at this; ac_nf
  rw [List.drop_eq_getElem_cons hlt] at e1
  obtain ⟨e2, e3⟩ := List.cons.inj e1
  refine chk (hs _ _ _ w) ?_
  show wp (ret _) _ s
  rw [wp_ret]
  show wp (ret true) _ s
  rw [wp_ret]
  show wp (e (some d :: caps)) _ s
  exact QgB (hstep i d out s (by rw [e2]; exact List.getElem?_eq_getElem hlt) w) fun x s' q => ⟨i + 1, some d, e3, hlt, rfl, q⟩
theorem QgH {n i : Nat} (h : i < n) : (rngD 0 n)[i]? = some (.int i) := by
 unfold rngD
 rw [List.getElem?_map, List.getElem?_range h]; simp
theorem QgI {n : Nat} (h : n ≤ 1000) : n ≤ lim := Nat.le_trans h (by decide)
theorem QgJ {n : Nat} (h : n ≤ 1000) : n < lim := Nat.lt_of_le_of_lt h (by decide)
theorem QgK {g : CG} {b : CS} {same : Sto → Prop} {xs : List D} {l : Loc} {s : Sto} {Q : Flw → Sto → Prop} (W : Nat → Loc → Sto → Prop) (hs : ∀ i l s, W i l s → same s) (h0 : W 0 l s)
  (hstep : ∀ (i : Nat) d l s, xs[i]? = some d → W i l s → wp (g d l) (fun l1 s2 => wp (b l1) (fun f s3 => match f with
   | .next l2 => W (i + 1) l2 s3
   | .cnt l2 => W (i + 1) l2 s3
   | .brk l2 => Q (.next l2) s3
   | .ret d => Q (.ret d) s3) s2) s) (hend : ∀ l s, W xs.length l s → Q (.next l) s) : wp (forD g b same xs l) Q s := by
 have chk : ∀ {s : Sto} {R : Unit → Sto → Prop}, same s → R () s → wp (chkS same) R s := fun h r => by rw [Qgx]; unfold chkS; rw [if_pos h]; exact r
 refine QgE (fun ds l s => ∃ i, ds = xs.drop i ∧ i ≤ xs.length ∧ W i l s) (fun l s ⟨i, e1, hi, w⟩ => ?_) (fun d ds l s ⟨i, e1, hi, w⟩ => ?_) xs l s ⟨0, by simp, Nat.zero_le _, h0⟩
 ·have : i = xs.length := by
    have := congrArg List.length e1
    simp at this; ac_nf
  subst this
  exact chk (hs _ _ _ w) (hend l s w)
 ·have hlt : i < xs.length := by
    have := congrArg List.length e1
    simp at this; ac_nf
  rw [List.drop_eq_getElem_cons hlt] at e1
  obtain ⟨e2, e3⟩ := List.cons.inj e1
  refine chk (hs _ _ _ w) ?_
  refine QgB (hstep i d l s (by rw [e2]; exact List.getElem?_eq_getElem hlt) w) fun l1 s2 q => QgB q fun f s3 q => ?_
  cases f with
  | next l2 => exact ⟨i + 1, e3, hlt, q⟩
  | cnt l2 => exact ⟨i + 1, e3, hlt, q⟩
  | brk l2 => exact q
  | ret d => exact q
end MM
local macro_rules | `(tactic| bv_omega) => `(tactic| first | rfl | exact MM.wp_eq rfl | exact MM.wp_no rfl)
local macro_rules | `(tactic| ac_rfl) => `(tactic| first | rfl | simp only [MM.wp_ret, MM.wp_alloc, MM.wp_bad] | (refine MM.wp_cg fun _ _ => ?_; simp only [MM.wp_ret, MM.wp_alloc, MM.wp_bad]))
namespace MM
open PySem
theorem nr {α : Sort u} {a b : α} (h : a = b) : a = b := h
section
variable {Q : D → Sto → Prop} {R : Flw → Sto → Prop} {T : Bool → Sto → Prop} {A : List D → Sto → Prop} {G : Loc → Sto → Prop} {I : Wk → Sto → Prop} {s : Sto} {l : Loc}
theorem x_seq {a b : CS} : wp (sSeq a b l) R s = wp (a l) (fun f s' => match f with
  | .next l' => wp (b l') R s'
  | .ret d => R (.ret d) s'
  | .brk l' => R (.brk l') s'
  | .cnt l' => R (.cnt l') s') s := by
 unfold sSeq; rw [Qgy]; congr 1; funext f s'; cases f <;> first | bv_omega
theorem x_next : wp (sNext l) R s = R (.next l) s := wp_eq rfl
theorem x_asg {g : CG} {a : CE} : wp (sAsg g a l) R s = wp (a l) (fun d s' => wp (g d l) (fun l' s'' => R (.next l') s'') s') s := by
 unfold sAsg; rw [Qgy]; congr 1; funext d s'; rw [Qgy]; ac_rfl
theorem x_ret {a : CE} : wp (sRet a l) R s = wp (a l) (fun d s' => R (.ret d) s') s := by
 unfold sRet; rw [Qgy]; ac_rfl
theorem x_exp {a : CE} : wp (sExp a l) R s = wp (a l) (fun d s' => R (.next l) s') s := by
 unfold sExp; rw [Qgy]; ac_rfl
theorem x_if {t : CT} {a b : CS} : wp (sIf t a b l) R s = wp (t l) (fun c s' => if c = true then wp (a l) R s' else wp (b l) R s') s := by
 unfold sIf; rw [Qgy]; congr 1; funext c s'; rw [QgC]
theorem x_cmp {a : CE} : wp (tCmpB a l) T s = wp (a l) (fun x s' => match x with
  | .bl b => T b s'
  | _ => False) s := by
 unfold tCmpB; rw [Qgy]; congr 1; funext x s'; cases x <;> first | bv_omega
theorem x_val {a : CE} : wp (tVal a l) T s = wp (a l) (fun x s' => wp (truD x) T s') s := by unfold tVal; rw [Qgy]
theorem x_not {a : CT} : wp (tNotB a l) T s = wp (a l) (fun x s' => T (!x) s') s := by unfold tNotB; rw [Qgy]; ac_rfl
theorem x_and {a b : CT} : wp (tAndB a b l) T s = wp (a l) (fun c s' => if c = true then wp (b l) T s' else T false s') s := by
 unfold tAndB; rw [Qgy]; congr 1; funext c s'; rw [QgC]; ac_rfl
theorem x_or {a b : CT} : wp (tOrB a b l) T s = wp (a l) (fun c s' => if c = true then T true s' else wp (b l) T s') s := by
 unfold tOrB; rw [Qgy]; congr 1; funext c s'; rw [QgC]; ac_rfl
theorem x_gvar {i : Nat} {d : D} : wp (gVar i d l) G s = G (l.set i (some d)) s := wp_eq rfl
theorem x_g0 {d : D} {b : Option D} {r : Loc} {Q : Loc → Sto → Prop} : wp (gVar 0 d (b :: r)) Q s = Q (some d :: r) s := x_gvar
theorem x_g1 {a0 : Option D} {d : D} {b : Option D} {r : Loc} {Q : Loc → Sto → Prop} : wp (gVar 1 d (a0 :: b :: r)) Q s = Q (a0 :: some d :: r) s := x_gvar
theorem x_g2 {a0 a1 : Option D} {d : D} {b : Option D} {r : Loc} {Q : Loc → Sto → Prop} : wp (gVar 2 d (a0 :: a1 :: b :: r)) Q s = Q (a0 :: a1 :: some d :: r) s := x_gvar
theorem x_g3 {a0 a1 a2 : Option D} {d : D} {b : Option D} {r : Loc} {Q : Loc → Sto → Prop} : wp (gVar 3 d (a0 :: a1 :: a2 :: b :: r)) Q s = Q (a0 :: a1 :: a2 :: some d :: r) s := x_gvar
theorem x_g4 {a0 a1 a2 a3 : Option D} {d : D} {b : Option D} {r : Loc} {Q : Loc → Sto → Prop} : wp (gVar 4 d (a0 :: a1 :: a2 :: a3 :: b :: r)) Q s = Q (a0 :: a1 :: a2 :: a3 :: some d :: r) s := x_gvar
theorem x_g5 {a0 a1 a2 a3 a4 : Option D} {d : D} {b : Option D} {r : Loc} {Q : Loc → Sto → Prop} : wp (gVar 5 d (a0 :: a1 :: a2 :: a3 :: a4 :: b :: r)) Q s = Q (a0 :: a1 :: a2 :: a3 :: a4 :: some d :: r) s := x_gvar
theorem x_g6 {a0 a1 a2 a3 a4 a5 : Option D} {d : D} {b : Option D} {r : Loc} {Q : Loc → Sto → Prop} : wp (gVar 6 d (a0 :: a1 :: a2 :: a3 :: a4 :: a5 :: b :: r)) Q s = Q (a0 :: a1 :: a2 :: a3 :: a4 :: a5 :: some d :: r) s := x_gvar
theorem x_g7 {a0 a1 a2 a3 a4 a5 a6 : Option D} {d : D} {b : Option D} {r : Loc} {Q : Loc → Sto → Prop} : wp (gVar 7 d (a0 :: a1 :: a2 :: a3 :: a4 :: a5 :: a6 :: b :: r)) Q s = Q (a0 :: a1 :: a2 :: a3 :: a4 :: a5 :: a6 :: some d :: r) s := x_gvar
theorem x_g8 {a0 a1 a2 a3 a4 a5 a6 a7 : Option D} {d : D} {b : Option D} {r : Loc} {Q : Loc → Sto → Prop} : wp (gVar 8 d (a0 :: a1 :: a2 :: a3 :: a4 :: a5 :: a6 :: a7 :: b :: r)) Q s = Q (a0 :: a1 :: a2 :: a3 :: a4 :: a5 :: a6 :: a7 :: some d :: r) s := x_gvar
theorem x_g9 {a0 a1 a2 a3 a4 a5 a6 a7 a8 : Option D} {d : D} {b : Option D} {r : Loc} {Q : Loc → Sto → Prop} : wp (gVar 9 d (a0 :: a1 :: a2 :: a3 :: a4 :: a5 :: a6 :: a7 :: a8 :: b :: r)) Q s = Q (a0 :: a1 :: a2 :: a3 :: a4 :: a5 :: a6 :: a7 :: a8 :: some d :: r) s := x_gvar
theorem x_g10 {a0 a1 a2 a3 a4 a5 a6 a7 a8 a9 : Option D} {d : D} {b : Option D} {r : Loc} {Q : Loc → Sto → Prop} : wp (gVar 10 d (a0 :: a1 :: a2 :: a3 :: a4 :: a5 :: a6 :: a7 :: a8 :: a9 :: b :: r)) Q s = Q (a0 :: a1 :: a2 :: a3 :: a4 :: a5 :: a6 :: a7 :: a8 :: a9 :: some d :: r) s := x_gvar
theorem x_g11 {a0 a1 a2 a3 a4 a5 a6 a7 a8 a9 a10 : Option D} {d : D} {b : Option D} {r : Loc} {Q : Loc → Sto → Prop} : wp (gVar 11 d (a0 :: a1 :: a2 :: a3 :: a4 :: a5 :: a6 :: a7 :: a8 :: a9 :: a10 :: b :: r)) Q s = Q (a0 :: a1 :: a2 :: a3 :: a4 :: a5 :: a6 :: a7 :: a8 :: a9 :: a10 :: some d :: r) s := x_gvar
theorem x_g12 {a0 a1 a2 a3 a4 a5 a6 a7 a8 a9 a10 a11 : Option D} {d : D} {b : Option D} {r : Loc} {Q : Loc → Sto → Prop} : wp (gVar 12 d (a0 :: a1 :: a2 :: a3 :: a4 :: a5 :: a6 :: a7 :: a8 :: a9 :: a10 :: a11 :: b :: r)) Q s = Q (a0 :: a1 :: a2 :: a3 :: a4 :: a5 :: a6 :: a7 :: a8 :: a9 :: a10 :: a11 :: some d :: r) s := x_gvar
theorem x_g13 {a0 a1 a2 a3 a4 a5 a6 a7 a8 a9 a10 a11 a12 : Option D} {d : D} {b : Option D} {r : Loc} {Q : Loc → Sto → Prop} : wp (gVar 13 d (a0 :: a1 :: a2 :: a3 :: a4 :: a5 :: a6 :: a7 :: a8 :: a9 :: a10 :: a11 :: a12 :: b :: r)) Q s = Q (a0 :: a1 :: a2 :: a3 :: a4 :: a5 :: a6 :: a7 :: a8 :: a9 :: a10 :: a11 :: a12 :: some d :: r) s := x_gvar
theorem x_g14 {a0 a1 a2 a3 a4 a5 a6 a7 a8 a9 a10 a11 a12 a13 : Option D} {d : D} {b : Option D} {r : Loc} {Q : Loc → Sto → Prop} : wp (gVar 14 d (a0 :: a1 :: a2 :: a3 :: a4 :: a5 :: a6 :: a7 :: a8 :: a9 :: a10 :: a11 :: a12 :: a13 :: b :: r)) Q s = Q (a0 :: a1 :: a2 :: a3 :: a4 :: a5 :: a6 :: a7 :: a8 :: a9 :: a10 :: a11 :: a12 :: a13 :: some d :: r) s := x_gvar
theorem x_gsub {o i : CE} {d : D} : wp (gSubD o i d l) G s = wp (o l) (fun y s1 => wp (i l) (fun z s2 => wp (setItemD y z d) (fun _ s3 => G l s3) s2) s1) s := by
 unfold gSubD; rw [Qgy]; congr 1; funext y s1; rw [Qgy]; congr 1; funext z s2; rw [Qgy]; ac_rfl
theorem x_var {i : Nat} : wp (cVar i l) Q s = match l[i]? with
  | some (some d) => Q d s
  | _ => False := by
 unfold cVar; rcases l[i]? with _ | _ | d <;> first | bv_omega
theorem x_v0 {d : D} {r : Loc} : wp (cVar 0 (some d :: r)) Q s = Q d s := x_var
theorem x_v1 {a0 : Option D} {d : D} {r : Loc} : wp (cVar 1 (a0 :: some d :: r)) Q s = Q d s := x_var
theorem x_v2 {a0 a1 : Option D} {d : D} {r : Loc} : wp (cVar 2 (a0 :: a1 :: some d :: r)) Q s = Q d s := x_var
theorem x_v3 {a0 a1 a2 : Option D} {d : D} {r : Loc} : wp (cVar 3 (a0 :: a1 :: a2 :: some d :: r)) Q s = Q d s := x_var
theorem x_v4 {a0 a1 a2 a3 : Option D} {d : D} {r : Loc} : wp (cVar 4 (a0 :: a1 :: a2 :: a3 :: some d :: r)) Q s = Q d s := x_var
theorem x_v5 {a0 a1 a2 a3 a4 : Option D} {d : D} {r : Loc} : wp (cVar 5 (a0 :: a1 :: a2 :: a3 :: a4 :: some d :: r)) Q s = Q d s := x_var
theorem x_v6 {a0 a1 a2 a3 a4 a5 : Option D} {d : D} {r : Loc} : wp (cVar 6 (a0 :: a1 :: a2 :: a3 :: a4 :: a5 :: some d :: r)) Q s = Q d s := x_var
theorem x_v7 {a0 a1 a2 a3 a4 a5 a6 : Option D} {d : D} {r : Loc} : wp (cVar 7 (a0 :: a1 :: a2 :: a3 :: a4 :: a5 :: a6 :: some d :: r)) Q s = Q d s := x_var
theorem x_v8 {a0 a1 a2 a3 a4 a5 a6 a7 : Option D} {d : D} {r : Loc} : wp (cVar 8 (a0 :: a1 :: a2 :: a3 :: a4 :: a5 :: a6 :: a7 :: some d :: r)) Q s = Q d s := x_var
theorem x_v9 {a0 a1 a2 a3 a4 a5 a6 a7 a8 : Option D} {d : D} {r : Loc} : wp (cVar 9 (a0 :: a1 :: a2 :: a3 :: a4 :: a5 :: a6 :: a7 :: a8 :: some d :: r)) Q s = Q d s := x_var
theorem x_v10 {a0 a1 a2 a3 a4 a5 a6 a7 a8 a9 : Option D} {d : D} {r : Loc} : wp (cVar 10 (a0 :: a1 :: a2 :: a3 :: a4 :: a5 :: a6 :: a7 :: a8 :: a9 :: some d :: r)) Q s = Q d s := x_var
theorem x_v11 {a0 a1 a2 a3 a4 a5 a6 a7 a8 a9 a10 : Option D} {d : D} {r : Loc} : wp (cVar 11 (a0 :: a1 :: a2 :: a3 :: a4 :: a5 :: a6 :: a7 :: a8 :: a9 :: a10 :: some d :: r)) Q s = Q d s := x_var
theorem x_v12 {a0 a1 a2 a3 a4 a5 a6 a7 a8 a9 a10 a11 : Option D} {d : D} {r : Loc} : wp (cVar 12 (a0 :: a1 :: a2 :: a3 :: a4 :: a5 :: a6 :: a7 :: a8 :: a9 :: a10 :: a11 :: some d :: r)) Q s = Q d s := x_var
theorem x_v13 {a0 a1 a2 a3 a4 a5 a6 a7 a8 a9 a10 a11 a12 : Option D} {d : D} {r : Loc} : wp (cVar 13 (a0 :: a1 :: a2 :: a3 :: a4 :: a5 :: a6 :: a7 :: a8 :: a9 :: a10 :: a11 :: a12 :: some d :: r)) Q s = Q d s := x_var
theorem x_v14 {a0 a1 a2 a3 a4 a5 a6 a7 a8 a9 a10 a11 a12 a13 : Option D} {d : D} {r : Loc} : wp (cVar 14 (a0 :: a1 :: a2 :: a3 :: a4 :: a5 :: a6 :: a7 :: a8 :: a9 :: a10 :: a11 :: a12 :: a13 :: some d :: r)) Q s = Q d s := x_var
theorem x_con {d : D} : wp (cCon d l) Q s = Q d s := wp_eq rfl
theorem x_c1 {g : D → M D} {a : CE} : wp (c1 g a l) Q s = wp (a l) (fun x s' => wp (g x) Q s') s := by unfold c1; rw [Qgy]
theorem x_c2 {g : D → D → M D} {a b : CE} : wp (c2 g a b l) Q s = wp (a l) (fun x s' => wp (b l) (fun y s'' => wp (g x y) Q s'') s') s := by
 unfold c2; rw [Qgy]; congr 1; funext x s'; rw [Qgy]
theorem x_call {g : List D → M D} {a : CA} : wp (cCall g a l) Q s = wp (a l) (fun x s' => wp (g x) Q s') s := by unfold cCall; rw [Qgy]
theorem x_nil : wp (cNil l) A s = A [] s := wp_eq rfl
theorem x_cons {a : CE} {r : CA} : wp (cCons a r l) A s = wp (a l) (fun x s' => wp (r l) (fun xs s'' => A (x :: xs) s'') s') s := by
 unfold cCons; rw [Qgy]; congr 1; funext x s'; rw [Qgy]; ac_rfl
theorem x_tup {a : CA} : wp (cTup a l) Q s = wp (a l) (fun xs s' => xs.length ≤ lim ∧ Q (.tup xs) s') s := by
 unfold cTup; rw [Qgy]; congr 1; funext x s'; rw [wp_chk]; ac_rfl
theorem x_disp {a : CA} : wp (aDisp a l) A s = wp (a l) (fun xs s' => xs.length ≤ lim ∧ A xs s') s := by
 unfold aDisp; rw [Qgy]; congr 1; funext x s'; rw [wp_chk]; ac_rfl
theorem x_keep {a : CA} : wp (cKeep a l) Q s = wp (a l) (fun xs s' => Q (.ref s'.length) (s' ++ [.lst xs])) s := by
 unfold cKeep; rw [Qgy]; ac_rfl
theorem x_tmp {g : List D → M D} {a : CA} : wp (cTmp g a l) Q s = wp (a l) (fun x s' => wp (g x) Q s') s := by unfold cTmp; rw [Qgy]
theorem x_comp {n : Nat} {caps : List Nat} {i : CI} {g : CG} {t : CT} {e : CE} : wp (aComp n caps i g t e l) A s = wp (i l) (fun w s' => w.ds.length ≤ lim ∧ wp (collect g t e w.same w.ds (capt n caps l)) A s') s := by
 unfold aComp; rw [Qgy]; congr 1; funext x s'; rw [wp_chk]
theorem x_for {i : CI} {g : CG} {b : CS} : wp (sFor i g b l) R s = wp (i l) (fun w s' => wp (forD g b w.same w.ds l) R s') s := by
 unfold sFor; rw [Qgy]
theorem x_rng {a : CE} : wp (MM.iRng1 a l) I s = wp (a l) (fun x s' => match x with
  | .int j => (-(2 ^ 62) ≤ j ∧ j < 2 ^ 62) ∧ I ⟨rngD 0 j.toNat, anySt⟩ s'
  | _ => False) s := by
 unfold MM.iRng1; rw [Qgy]; congr 1; funext x s'; cases x <;> first | bv_omega | (dsimp only; rw [wp_chk]; ac_rfl)
theorem x_iseq {a : CE} : wp (iSeq a l) I s = wp (a l) (fun x s' => match x with
  | .tup ds => I ⟨ds, anySt⟩ s'
  | .lit ds => I ⟨ds, anySt⟩ s'
  | .ref n => wp (getL n) (fun ds s'' => I ⟨ds, sameL n ds⟩ s'') s'
  | _ => False) s := by
 unfold iSeq; rw [Qgy]; congr 1; funext x s'; cases x <;> first | bv_omega | (dsimp only; rw [Qgy]; ac_rfl)
theorem x_add {i j : Int} : wp (addD (.int i) (.int j)) Q s = Q (.int (i + j)) s := wp_eq rfl
theorem x_sub {i j : Int} : wp (subD (.int i) (.int j)) Q s = Q (.int (i - j)) s := wp_eq rfl
theorem x_mul {i j : Int} : wp (mulD (.int i) (.int j)) Q s = (mulOk i j ∧ Q (.int (i * j)) s) := by unfold mulD; rw [wp_chk]; ac_rfl
theorem x_div {i j : Int} : wp (fdivD (.int i) (.int j)) Q s = ((0 < j ∧ j < 1073741824) ∧ Q (.int (i / j)) s) := by unfold fdivD; rw [wp_chk]; ac_rfl
theorem x_mod {i j : Int} : wp (modD (.int i) (.int j)) Q s = (0 < j ∧ Q (.int (i % j)) s) := by unfold modD; rw [wp_chk]; ac_rfl
theorem x_lt {i j : Int} : wp (ltD (.int i) (.int j)) Q s = Q (.bl (decide (i < j))) s := wp_eq rfl
theorem x_le {i j : Int} : wp (leD (.int i) (.int j)) Q s = Q (.bl (decide (i ≤ j))) s := wp_eq rfl
theorem x_gt {i j : Int} : wp (gtD (.int i) (.int j)) Q s = Q (.bl (decide (j < i))) s := wp_eq rfl
theorem x_ge {i j : Int} : wp (geD (.int i) (.int j)) Q s = Q (.bl (decide (j ≤ i))) s := wp_eq rfl
theorem x_eq {i j : Int} : wp (eqD (.int i) (.int j)) Q s = Q (.bl (i == j)) s := wp_eq rfl
theorem x_ne {i j : Int} : wp (neD (.int i) (.int j)) Q s = Q (.bl !(i == j)) s := wp_eq rfl
theorem x_subsT {ds : List D} {i : Int} : wp (subsD (.tup ds) (.int i)) Q s = wp (itemD ds i) Q s := nr rfl
theorem x_subsL {ds : List D} {i : Int} : wp (subsD (.lit ds) (.int i)) Q s = wp (itemD ds i) Q s := nr rfl
theorem x_subsR {n : Nat} {i : Int} : wp (subsD (.ref n) (.int i)) Q s = wp (getL n) (fun ds s' => wp (itemD ds i) Q s') s := by
 unfold subsD; rw [Qgy]
theorem x_lenT {ds : List D} : wp (lenD (.tup ds)) Q s = Q (.int ds.length) s := wp_eq rfl
theorem x_lenL {ds : List D} : wp (lenD (.lit ds)) Q s = Q (.int ds.length) s := wp_eq rfl
theorem x_lenR {n : Nat} : wp (lenD (.ref n)) Q s = wp (getL n) (fun ds s' => Q (.int ds.length) s') s := by unfold lenD; rw [Qgy]; ac_rfl
theorem x_intB {b : Bool} : wp (intD (.bl b)) Q s = Q (.int (if b then 1 else 0)) s := wp_eq rfl
theorem x_intI {i : Int} : wp (intD (.int i)) Q s = Q (.int i) s := wp_eq rfl
theorem x_setR {n : Nat} {i : Int} {v : D} {U : Unit → Sto → Prop} : wp (setItemD (.ref n) (.int i) v) U s = wp (getL n) (fun ds s' => wp (match MM.ixN ds.length i with
  | some j => putL n (ds.set j v)
  | none => bad) U s') s := by
 unfold setItemD; rw [Qgy] <;> congr 1
theorem x_retF {d : D} : wp (flwD (.ret d)) Q s = Q d s := wp_eq rfl
theorem x_nextF : wp (flwD (.next l)) Q s = Q .non s := wp_eq rfl
end
end MM
namespace MM
open PySem
theorem x_slice {a : CE} {lo hi : CO} {A : List D → Sto → Prop} {s : Sto} {l : Loc} : wp (aSlice a lo hi l) A s = wp (a l) (fun x s1 => wp (lo l) (fun i s2 => wp (hi l) (fun j s3 => match x with
  | .lit ds => A (cutD ds i j) s3
  | .ref n => wp (getL n) (fun ds s4 => A (cutD ds i j) s4) s3
  | _ => False) s2) s1) s := by
 unfold aSlice; rw [Qgy]; congr 1; funext x s1; rw [Qgy]; congr 1; funext i s2; rw [Qgy]; congr 1; funext j s3; cases x <;> first | bv_omega | (dsimp only; rw [Qgy]; ac_rfl)
theorem x_none {A : Option Int → Sto → Prop} {s : Sto} {l : Loc} : wp (oNone l) A s = A none s := wp_eq rfl
theorem x_some {a : CE} {A : Option Int → Sto → Prop} {s : Sto} {l : Loc} : wp (oSome a l) A s = wp (a l) (fun x s1 => match x with
  | .int i => A (some i) s1
  | _ => False) s := by
 unfold oSome; rw [Qgy]; congr 1; funext x s1; cases x <;> first | bv_omega
theorem x_enum {a : CE} {I : Wk → Sto → Prop} {s : Sto} {l : Loc} : wp (iEnum a l) I s = wp (a l) (fun x s' => match x with
  | .tup ds => I ⟨(rngD 0 ds.length).zipWith (fun i d => .tup [i, d]) ds, anySt⟩ s'
  | _ => False) s := by
 unfold iEnum; rw [Qgy]; congr 1; funext x s'; cases x <;> first | bv_omega
theorem x_gtup {n : Nat} {r : List D → Loc → M Loc} {ds : List D} {G : Loc → Sto → Prop} {s : Sto} {l : Loc} : wp (gTupD n r (.tup ds) l) G s = (ds.length = n ∧ wp (r ds l) G s) := by
 unfold gTupD; rw [wp_chk]
theorem x_gcons {g : CG} {r : List D → Loc → M Loc} {d : D} {ds : List D} {G : Loc → Sto → Prop} {s : Sto} {l : Loc} : wp (gsCons g r (d :: ds) l) G s = wp (g d l) (fun l' s' => wp (r ds l') G s') s := by
 unfold gsCons; rw [Qgy]
theorem x_gnil {G : Loc → Sto → Prop} {s : Sto} {l : Loc} : wp (gsNil [] l) G s = G l s := wp_eq rfl
def Ext (s s' : Sto) : Prop := ∃ t, s' = s ++ t
theorem Ext.refl (s : Sto) : Ext s s := ⟨[], by simp⟩
theorem Ext.snoc {s s' : Sto} (h : Ext s s') (o : MO) : Ext s (s' ++ [o]) := by obtain ⟨t, e⟩ := h; exact ⟨t ++ [o], by rw [e]; simp⟩
theorem Ext.trans {s s' s2 : Sto} (h : Ext s s') (k : Ext s' s2) : Ext s s2 := by obtain ⟨t, e⟩ := h; obtain ⟨u, f⟩ := k; exact ⟨t ++ u, by rw [f, e]; simp⟩
theorem Ext.at_ {s s' : Sto} {n : Nat} {o : MO} (h : Ext s s') (k : s[n]? = some o) : s'[n]? = some o := by
 obtain ⟨t, e⟩ := h
 rw [e, List.getElem?_append_left (List.getElem?_eq_some_iff.mp k).1]; exact k
theorem QgL {α : Type} (f : α → Int) (xs : List α) : numsL (xs.map fun x => .int (f x)) = some (xs.map f) := by
 induction xs with
 | nil => rfl
 | cons x xs ih => simp only [List.map_cons, numsL, ih]; ac_rfl
theorem QgM {α : Type} {m : M α} {v : α} {s : Sto} {Q : α → Sto → Prop} (h : wp m (fun a s' => a = v ∧ s' = s) s) : wp m Q s = Q v s := by
 simp only [Qgx] at *
 cases e : m s with
 | ok a s' => rw [e] at h; obtain ⟨h1, h2⟩ := h; subst h1; subst h2; ac_rfl
 | exc _ _ => rw [e] at h; exact h.elim
 | bad => rw [e] at h; exact h.elim
def andB (x : D) (p q : Prop) : Prop := match x with
 | .bl true => p
 | .bl false => q
 | _ => False
theorem andB_t {p q : Prop} : andB (.bl true) p q = p := nr rfl
theorem andB_f {p q : Prop} : andB (.bl false) p q = q := nr rfl
section
variable {Q : D → Sto → Prop} {T : Bool → Sto → Prop} {R : Flw → Sto → Prop} {s : Sto} {l : Loc}
theorem x_andE {a b : CE} : wp (cAnd a b l) Q s = wp (a l) (fun x s' => andB x (wp (b l) Q s') (Q (.bl false) s')) s := by
 unfold cAnd; rw [Qgy]; congr 1; funext x s'; rcases x with _ | b | _ | _ | _ | _ | _ | _ <;> first | bv_omega | (cases b <;> first | bv_omega)
theorem x_orE {a b : CE} : wp (cOr a b l) Q s = wp (a l) (fun x s' => andB x (Q (.bl true) s') (wp (b l) Q s')) s := by
 unfold cOr; rw [Qgy]; congr 1; funext x s'; rcases x with _ | b | _ | _ | _ | _ | _ | _ <;> first | bv_omega | (cases b <;> first | bv_omega)
theorem x_notE {a : CE} : wp (cNot a l) Q s = wp (a l) (fun x s' => match x with
  | .bl b => Q (.bl !b) s'
  | _ => False) s := by
 unfold cNot; rw [Qgy]; congr 1; funext x s'; cases x <;> first | bv_omega
theorem x_ifE {t : CT} {a b : CE} : wp (cIfE t a b l) Q s = wp (t l) (fun c s' => if c = true then wp (a l) Q s' else wp (b l) Q s') s := by
 unfold cIfE; rw [Qgy]; congr 1; funext c s'; rw [QgC]
theorem x_truB {b : Bool} : wp (truD (.bl b)) T s = T b s := wp_eq rfl
theorem x_isB {b : Bool} : wp (isInst ["bool"] (.bl b)) Q s = Q (.bl true) s := wp_eq rfl
theorem x_eqB {a b : Bool} : wp (eqD (.bl a) (.bl b)) Q s = Q (.bl (a == b)) s := wp_eq rfl
theorem x_neB {a b : Bool} : wp (neD (.bl a) (.bl b)) Q s = Q (.bl !(a == b)) s := wp_eq rfl
theorem x_tupL {ds : List D} : wp (tupL ds) Q s = Q (.tup ds) s := wp_eq rfl
theorem x_lenLL {ds : List D} : wp (lenL ds) Q s = Q (.int ds.length) s := wp_eq rfl
theorem x_item0 {d : D} {ds : List D} : wp (itemD (d :: ds) 0) Q s = Q d s := by
 rw [QgD (d := d) (by ac_nf) rfl, wp_ret]
theorem x_item1 {d e : D} {ds : List D} : wp (itemD (d :: e :: ds) 1) Q s = Q e s := by
 rw [QgD (d := e) (by ac_nf) rfl, wp_ret]
theorem x_item2 {d e f : D} {ds : List D} : wp (itemD (d :: e :: f :: ds) 2) Q s = Q f s := by
 rw [QgD (d := f) (by ac_nf) rfl, wp_ret]
theorem x_item3 {d e f g : D} {ds : List D} : wp (itemD (d :: e :: f :: g :: ds) 3) Q s = Q g s := by
 rw [QgD (d := g) (by ac_nf) rfl, wp_ret]
theorem QgN {ds : List D} {i : Nat} {d : D} (h : ds[i]? = some d) : wp (itemD ds i) Q s = Q d s := by
 rw [QgD (d := d) (by ac_nf) (by simpa using h), wp_ret]
theorem x_tTrue : wp (tTrue l) T s = T true s := wp_eq rfl
theorem x_iTmp {a : CA} {I : Wk → Sto → Prop} : wp (iTmp a l) I s = wp (a l) (fun ds s' => I ⟨ds, anySt⟩ s') s := by unfold iTmp; rw [Qgy]; ac_rfl
end
noncomputable def  bP (p : Prop) : Bool := @decide p (Classical.propDecidable p)
theorem QgO {p : Prop} : bP p = true ↔ p := by unfold bP; exact @decide_eq_true_iff p (Classical.propDecidable p)
theorem QgP {p : Prop} (h : p) : bP p = true := QgO.mpr h
theorem QgQ {p : Prop} (h : ¬p) : bP p = false := by
 cases e : bP p with
 | false => rfl
 | true => exact (h (QgO.mp e)).elim
theorem QgR {b : Bool} {p : Prop} (h : b = true ↔ p) : b = bP p := by
 cases b with
 | true => exact (QgP (h.mp rfl)).symm
 | false => exact (QgQ fun k => by cases h.mpr k).symm
theorem QgS {p q : Prop} : (bP p || bP q) = bP (p ∨ q) := QgR (by rw [Bool.or_eq_true, QgO, QgO])
theorem QgT {p q : Prop} : (bP p && bP q) = bP (p ∧ q) := QgR (by rw [Bool.and_eq_true, QgO, QgO])
theorem andB_or {p q : Prop} {Q : D → Sto → Prop} {s : Sto} : andB (.bl (bP p)) (Q (.bl true) s) (Q (.bl (bP q)) s) = Q (.bl (bP (p ∨ q))) s := by
 rw [← QgS]
 cases bP p <;> simp [andB]
theorem andB_and {p q : Prop} {Q : D → Sto → Prop} {s : Sto} : andB (.bl (bP p)) (Q (.bl (bP q)) s) (Q (.bl false) s) = Q (.bl (bP (p ∧ q))) s := by
 rw [← QgT]
 cases bP p <;> simp [andB]
noncomputable def upto {α : Type} (n : Nat) (f : Nat → α) : List α := (List.range n).map f
theorem QgU {α : Type} {n i : Nat} {f : Nat → α} (h : i < n) : (upto n f)[i]? = some (f i) := by unfold upto; rw [List.getElem?_map, List.getElem?_range h]; ac_rfl
theorem QgV {α : Type} {n i : Nat} {f : Nat → α} {x : α} (h : (upto n f)[i]? = some x) : i < n ∧ x = f i := by
 have hi : i < n := by
  have := (List.getElem?_eq_some_iff.mp h).1
  simpa [upto] using this
 rw [QgU hi] at h; cases h; exact ⟨hi, rfl⟩
theorem QgW {α : Type} {n : Nat} {f : Nat → α} : (upto n f).length = n := by simp [upto]
theorem QgX {α : Type} {n : Nat} {f : Nat → α} : upto (n + 1) f = upto n f ++ [f n] := by unfold upto; rw [List.range_succ, List.map_append]; ac_rfl
theorem QgY {α : Type} {n : Nat} {xs : List α} {f : Nat → α} (hl : xs.length = n) (h : ∀ i, i < n → xs[i]? = some (f i)) : xs = upto n f := by
 apply List.ext_getElem?
 intro i
 by_cases hi : i < n
 ·rw [h i hi, QgU hi]
 ·rw [List.getElem?_eq_none (by ac_nf), List.getElem?_eq_none (by rw [QgW]; ac_nf)]
theorem QgZ {α : Type} {n : Nat} {f g : Nat → α} (h : ∀ i, i < n → f i = g i) : upto n f = upto n g :=
 QgY QgW fun i hi => by rw [QgU hi, h i hi]
theorem Qg0 {α β : Type} {n : Nat} {f : Nat → α} {g : α → β} : (upto n f).map g = upto n fun i => g (f i) := by unfold upto; rw [List.map_map]; ac_rfl
theorem Qg1 {n : Nat} : rngD 0 n = upto n fun i => .int i := by unfold rngD upto; congr 1; funext k; simp
theorem Qg2 {n : Nat} {f : Nat → Bool} : boolsL (upto n fun i => .bl (f i)) = some (upto n f) := by
 have : ∀ (xs : List Nat), boolsL (xs.map fun i => .bl (f i)) = some (xs.map f) := by
  intro xs
  induction xs with
  | nil => rfl
  | cons x xs ih => simp only [List.map_cons, boolsL, ih]; ac_rfl
 exact this _
theorem Qg3 {n : Nat} {p : Nat → Prop} {Q : D → Sto → Prop} {s : Sto} : wp (allD (upto n fun i => .bl (bP (p i)))) Q s = Q (.bl (bP (∀ i, i < n → p i))) s := by
 unfold allD; rw [Qg2]
 have : (upto n fun i => bP (p i)).all id = bP (∀ i, i < n → p i) := QgR (by simp [upto, List.all_map, QgO])
 dsimp only; rw [this, wp_ret]
theorem Qg4 {g : CG} {e : CE} {same : Sto → Prop} {ds : List D} {l0 : Loc} {f : Nat → D} {Q : List D → Sto → Prop} {s : Sto} (I : Loc → Prop) (hs : same s) (h0 : I l0)
  (h : ∀ i d l, ds[i]? = some d → I l → ∃ l', (∀ G, wp (g d l) G s = G l' s) ∧ I l' ∧ ∀ Q, wp (e l') Q s = Q (f i) s) :
  wp (collect g tTrue e same ds l0) Q s = Q (upto ds.length f) s := by
 have chk : ∀ {R : Unit → Sto → Prop}, R () s → wp (chkS same) R s := fun r => by rw [Qgx]; unfold chkS; rw [if_pos hs]; exact r
 apply QgM
 refine QgF (Q := fun out s' => out = upto ds.length f ∧ s' = s) (fun out xs l s' => ∃ i, xs = ds.drop i ∧ i ≤ ds.length ∧ I l ∧ out = upto i f ∧ s' = s) (fun out l s' ⟨i, e1, hi, _, e2, es⟩ => ?_) (fun out d xs l s' ⟨i, e1, hi, hI, e2, es⟩ => ?_) ds [] _ s ⟨0, by simp, Nat.zero_le _, h0, rfl, rfl⟩
 ·have : i = ds.length := by
    have := congrArg List.length e1
    simp at this; ac_nf
  subst this
  subst es
  exact chk ⟨e2, rfl⟩
 ·have hlt : i < ds.length := by
    have := congrArg List.length e1
    simp at this; ac_nf
  rw [List.drop_eq_getElem_cons hlt] at e1
  obtain ⟨e3, e4⟩ := List.cons.inj e1
  obtain ⟨l', q1, q2, q3⟩ := h i d l (by rw [e3]; exact List.getElem?_eq_getElem hlt) hI
  subst es
  refine chk ?_
  rw [q1]
  show wp (ret true) _ s'
  rw [wp_ret]
  show wp (e l') _ s'
  rw [q3]
  exact ⟨i + 1, e4, hlt, q2, by rw [e2, QgX], rfl⟩
theorem Qg5 {e : CE} {same : Sto → Prop} {ds : List D} {caps : Loc} {f : Nat → D} {Q : List D → Sto → Prop} {s : Sto} (hs : same s) (h : ∀ i d, ds[i]? = some d → ∀ Q, wp (e (some d :: caps)) Q s = Q (f i) s) :
  wp (collect (gVar 0) tTrue e same ds (none :: caps)) Q s = Q (upto ds.length f) s :=
 Qg4 (fun l => ∃ x, l = x :: caps) hs ⟨none, rfl⟩ fun i d l hd pq92 => by obtain ⟨x, el⟩ := pq92; exact ⟨some d :: caps, fun G => by rw [el, x_gvar]; rfl, ⟨_, rfl⟩, h i d hd⟩
theorem Qg6 {e : CE} {same : Sto → Prop} {ds : List D} {caps : Loc} {f : Nat → D} {Q : List D → Sto → Prop} {s : Sto} (hs : same s) (h : ∀ i d, ds[i]? = some d → ∃ a b, d = .tup [a, b] ∧ ∀ Q, wp (e (some a :: some b :: caps)) Q s = Q (f i) s) :
  wp (collect (gTupD 2 (gsCons (gVar 0) (gsCons (gVar 1) gsNil))) tTrue e same ds (none :: none :: caps)) Q s = Q (upto ds.length f) s :=
 Qg4 (fun l => ∃ x y, l = x :: y :: caps) hs ⟨none, none, rfl⟩ fun i d l hd pq93 => by
  obtain ⟨x, y, el⟩ := pq93
  obtain ⟨a, b, ed, q⟩ := h i d hd
  refine ⟨some a :: some b :: caps, fun G => ?_, ⟨_, _, rfl⟩, q⟩
  rw [ed, el, x_gtup, x_gcons, x_gvar, x_gcons, x_gvar, x_gnil]
  exact propext ⟨fun h => h.2, fun h => ⟨rfl, h⟩⟩
section
variable {n : Nat} {f : Nat → D} {Q : D → Sto → Prop} {s : Sto}
theorem Qg7 {i : Nat} (h : i < n) : wp (itemD (upto n f) (i : Int)) Q s = Q (f i) s := QgN (QgU h)
theorem Qg8 (h : 0 < n) : wp (itemD (upto n f) 0) Q s = Q (f 0) s := by
 have := @QgN Q s (upto n f) 0 (f 0) (QgU h); simpa using this
end
theorem Qg9 {s : Sto} : anySt s := trivial
theorem Qha {g : CG} {b : CS} {same : Sto → Prop} {n : Nat} {f : Nat → D} {l : Loc} {s : Sto} {Q : Flw → Sto → Prop} (W : Nat → Loc → Sto → Prop) (hs : ∀ i l s, W i l s → same s) (h0 : W 0 l s)
  (hstep : ∀ (i : Nat) l s, i < n → W i l s → wp (g (f i) l) (fun l1 s2 => wp (b l1) (fun f s3 => match f with
   | .next l2 => W (i + 1) l2 s3
   | .cnt l2 => W (i + 1) l2 s3
   | .brk l2 => Q (.next l2) s3
   | .ret d => Q (.ret d) s3) s2) s) (hend : ∀ l s, W n l s → Q (.next l) s) : wp (forD g b same (upto n f) l) Q s :=
 QgK W hs h0 (fun i d l s hd w => by obtain ⟨hi, e⟩ := QgV hd; subst e; exact hstep i l s hi w) (fun l s w => hend l s (by rw [QgW] at w; exact w))
theorem Qhb {e : CE} {n : Nat} {f : Nat → D} {same : Sto → Prop} {caps : Loc} {s : Sto} {Q : List D → Sto → Prop} (W : Nat → List D → Sto → Prop) (hs : ∀ i out s, W i out s → same s) (h0 : W 0 [] s)
  (hstep : ∀ (i : Nat) out s, i < n → W i out s → wp (e (some (f i) :: caps)) (fun x s' => W (i + 1) (out ++ [x]) s') s) (hend : ∀ out s, W n out s → Q out s) :
  wp (collect (gVar 0) tTrue e same (upto n f) (none :: caps)) Q s :=
 QgG W hs h0 (fun i d out s hd w => by obtain ⟨hi, e⟩ := QgV hd; subst e; exact hstep i out s hi w) (fun out s w => hend out s (by rw [QgW] at w; exact w))
theorem Qhc {e : CE} {same : Sto → Prop} {n : Nat} {g : Nat → D} {caps : Loc} {f : Nat → D} {Q : List D → Sto → Prop} {s : Sto} (hs : same s) (h : ∀ i, i < n → ∀ Q, wp (e (some (g i) :: caps)) Q s = Q (f i) s) :
  wp (collect (gVar 0) tTrue e same (upto n g) (none :: caps)) Q s = Q (upto n f) s := by
 rw [Qg5 (f := f) hs (fun i d hd => by obtain ⟨hi, e⟩ := QgV hd; subst e; exact h i hi), QgW]
theorem Qhd {a b : Nat} : ((a : Int) == (b : Int)) = bP (a = b) := QgR (by rw [beq_iff_eq]; ac_nf)
theorem Qhe {n : Nat} {f : Nat → D} : (rngD 0 n).zipWith (fun i d => D.tup [i, d]) (upto n f) = upto n fun i => .tup [.int i, f i] := by
 apply QgY
 ·simp [rngD, upto]
 ·intro i hi
  rw [List.getElem?_zipWith, QgH hi, QgU hi]
theorem Qhf {e : CE} {same : Sto → Prop} {n : Nat} {a b : Nat → D} {caps : Loc} {f : Nat → D} {Q : List D → Sto → Prop} {s : Sto} (hs : same s) (h : ∀ i, i < n → ∀ Q, wp (e (some (a i) :: some (b i) :: caps)) Q s = Q (f i) s) :
  wp (collect (gTupD 2 (gsCons (gVar 0) (gsCons (gVar 1) gsNil))) tTrue e same (upto n fun i => .tup [a i, b i]) (none :: none :: caps)) Q s = Q (upto n f) s := by
 rw [Qg6 (f := f) hs (fun i d hd => by obtain ⟨hi, e⟩ := QgV hd; exact ⟨_, _, e, h i hi⟩), QgW]
end MM
namespace MM
open PySem
section
variable {Q : D → Sto → Prop} {T : Bool → Sto → Prop} {R : Flw → Sto → Prop} {A : List D → Sto → Prop} {s : Sto} {l : Loc}
theorem x_chain {f g : D → D → M D} {a b c : CE} : wp (cChain f g a b c l) Q s = wp (a l) (fun x s1 => wp (b l) (fun y s2 => wp (f x y) (fun z s3 => andB z (wp (c l) (fun w s4 => wp (g y w) Q s4) s3) (Q (.bl false) s3)) s2) s1) s := by
 unfold cChain; rw [Qgy]; congr 1; funext x s1; rw [Qgy]; congr 1; funext y s2; rw [Qgy]; congr 1; funext z s3
 rcases z with _ | b | _ | _ | _ | _ | _ | _ <;> first | bv_omega | (cases b <;> first | bv_omega | (dsimp only; rw [Qgy]; first | ac_rfl | (refine congrArg _ ?_; refine wp_cg fun _ _ => ?_; simp only [wp_ret, wp_alloc, wp_bad])))
theorem x_append {a b : CE} : wp (cAppend a b l) Q s = wp (a l) (fun x s1 => match x with
  | .ref n => wp (b l) (fun v s2 => wp (getL n) (fun ds s3 => ds.length < lim ∧ wp (putL n (ds ++ [v])) (fun _ s4 => Q .non s4) s3) s2) s1
  | _ => False) s := by
 unfold cAppend; rw [Qgy]; congr 1; funext x s1
 cases x <;> first | bv_omega | (dsimp only; rw [Qgy]; congr 1; funext v s2; unfold appendL; rw [Qgy]; congr 1; funext ds s3; rw [wp_chk, Qgy]; first | ac_rfl | (refine congrArg _ ?_; refine wp_cg fun _ _ => ?_; simp only [wp_ret, wp_alloc, wp_bad]))
theorem x_clear {a : CE} : wp (cClear a l) Q s = wp (a l) (fun x s1 => match x with
  | .ref n => wp (putL n []) (fun _ s4 => Q .non s4) s1
  | _ => False) s := by
 unfold cClear; rw [Qgy]; congr 1; funext x s1
 cases x <;> first | bv_omega | (dsimp only; rw [Qgy]; first | ac_rfl | (refine congrArg _ ?_; refine wp_cg fun _ _ => ?_; simp only [wp_ret, wp_alloc, wp_bad]))
theorem x_pop {a : CE} : wp (cPop a l) Q s = wp (a l) (fun x s1 => match x with
  | .ref n => wp (getL n) (fun ds s2 => match ds.getLast? with
   | some d => wp (putL n ds.dropLast) (fun _ s4 => Q d s4) s2
   | none => False) s1
  | _ => False) s := by
 unfold cPop; rw [Qgy]; congr 1; funext x s1
 cases x <;> first | bv_omega | (dsimp only; rw [Qgy]; congr 1; funext ds s2; cases ds.getLast? <;> first | bv_omega | (dsimp only; rw [Qgy]; first | ac_rfl | (refine congrArg _ ?_; refine wp_cg fun _ _ => ?_; simp only [wp_ret, wp_alloc, wp_bad])))
theorem x_reverse {a : CE} : wp (cReverse a l) Q s = wp (a l) (fun x s1 => match x with
  | .ref n => wp (getL n) (fun ds s2 => wp (putL n ds.reverse) (fun _ s4 => Q .non s4) s2) s1
  | _ => False) s := by
 unfold cReverse; rw [Qgy]; congr 1; funext x s1
 cases x <;> first | bv_omega | (dsimp only; rw [Qgy]; congr 1; funext ds s2; rw [Qgy]; first | ac_rfl | (refine congrArg _ ?_; refine wp_cg fun _ _ => ?_; simp only [wp_ret, wp_alloc, wp_bad]))
theorem x_back {a : CE} : wp (aBack a l) A s = wp (a l) (fun x s1 => match x with
  | .ref n => wp (getL n) (fun ds s2 => A ds.reverse s2) s1
  | _ => False) s := by
 unfold aBack; rw [Qgy]; congr 1; funext x s1
 cases x <;> first | bv_omega | (dsimp only; rw [Qgy]; first | ac_rfl | (refine congrArg _ ?_; refine wp_cg fun _ _ => ?_; simp only [wp_ret, wp_alloc, wp_bad]))
theorem x_listT {ds : List D} : wp (listD (.tup ds)) Q s = Q (.ref s.length) (s ++ [.lst ds]) := wp_eq rfl
theorem x_listR {n : Nat} : wp (listD (.ref n)) Q s = wp (getL n) (fun ds s1 => Q (.ref s1.length) (s1 ++ [.lst ds])) s := by unfold listD seqOf; rw [Qgy]; (try dsimp only); (try rw [Qgy]); refine wp_cg fun _ _ => ?_; simp only [wp_ret, wp_alloc, wp_bad]
theorem x_tupleT {ds : List D} : wp (tupleD (.tup ds)) Q s = Q (.tup ds) s := wp_eq rfl
theorem x_tupleR {n : Nat} : wp (tupleD (.ref n)) Q s = wp (getL n) (fun ds s1 => Q (.tup ds) s1) s := by unfold tupleD; rw [Qgy]; (try dsimp only); (try rw [Qgy]); refine wp_cg fun _ _ => ?_; simp only [wp_ret, wp_alloc, wp_bad]
theorem x_isntB {a b : Bool} : wp (isntD (.bl a) (.bl b)) Q s = Q (.bl !(a == b)) s := wp_eq rfl
theorem x_isB2 {a b : Bool} : wp (isD (.bl a) (.bl b)) Q s = Q (.bl (a == b)) s := wp_eq rfl
theorem x_inTu {x : D} {ds : List D} : wp (inD x (.tup ds)) Q s = wp (inL x ds) Q s := nr rfl
theorem x_eqStr {a b : Str} : wp (eqD (.str a) (.str b)) Q s = Q (.bl (a == b)) s := wp_eq rfl
theorem x_neStr {a b : Str} : wp (neD (.str a) (.str b)) Q s = Q (.bl !(a == b)) s := wp_eq rfl
theorem x_isiL {n : Nat} : wp (isInst ["list"] (.ref n)) Q s = Q (.bl true) s := wp_eq rfl
theorem x_isiT {ds : List D} : wp (isInst ["tuple"] (.tup ds)) Q s = Q (.bl true) s := wp_eq rfl
theorem x_isiI {i : Int} : wp (isInst ["int"] (.int i)) Q s = Q (.bl true) s := wp_eq rfl
theorem x_isiB {i : Int} : wp (isInst ["bool"] (.int i)) Q s = Q (.bl false) s := wp_eq rfl
theorem x_isiBN : wp (isInst ["bool"] .non) Q s = Q (.bl false) s := wp_eq rfl
theorem x_neg {i : Int} : wp (negD (.int i)) Q s = Q (.int (-i)) s := wp_eq rfl
theorem x_min2 {i j : Int} : wp (min2D (.int i) (.int j)) Q s = Q (.int (min i j)) s := wp_eq rfl
theorem x_max2 {i j : Int} : wp (max2D (.int i) (.int j)) Q s = Q (.int (max i j)) s := wp_eq rfl
theorem x_rng2 {a b : CE} {I : Wk → Sto → Prop} : wp (MM.iRng2 a b l) I s = wp (a l) (fun x s1 => wp (b l) (fun y s2 => match x, y with
  | .int i, .int j => ((-(2 ^ 62) ≤ i ∧ i < 2 ^ 62) ∧ (-(2 ^ 62) ≤ j ∧ j < 2 ^ 62)) ∧ I ⟨rngD i (j - i).toNat, anySt⟩ s2
  | _, _ => False) s1) s := by
 unfold MM.iRng2; rw [Qgy]; congr 1; funext x s1; rw [Qgy]; congr 1; funext y s2
 cases x <;> cases y <;> first | bv_omega | (dsimp only; rw [wp_chk]; first | ac_rfl | (refine congrArg _ ?_; refine wp_cg fun _ _ => ?_; simp only [wp_ret, wp_alloc, wp_bad]))
theorem x_shl {i j : Int} : wp (shlD (.int i) (.int j)) Q s = ((0 ≤ j ∧ j ≤ 1000000 ∧ i.natAbs < 2 ^ 64) ∧ Q (.int (i * 2 ^ j.toNat)) s) := by unfold shlD; rw [wp_chk]; first | ac_rfl | (refine congrArg _ ?_; refine wp_cg fun _ _ => ?_; simp only [wp_ret, wp_alloc, wp_bad])
theorem x_addT {x y : List D} : wp (addD (.tup x) (.tup y)) Q s = (x.length + y.length ≤ lim ∧ Q (.tup (x ++ y)) s) := by unfold addD; rw [wp_chk]; first | ac_rfl | (refine congrArg _ ?_; refine wp_cg fun _ _ => ?_; simp only [wp_ret, wp_alloc, wp_bad])
theorem x_tmpSub {a : CA} {b : CE} : wp (cTmpSub a b l) Q s = wp (a l) (fun ds s1 => wp (b l) (fun i s2 => match i with
  | .int k => wp (itemD ds k) Q s2
  | _ => False) s1) s := by
 unfold cTmpSub; rw [Qgy]; congr 1; funext ds s1; rw [Qgy]; congr 1; funext i s2; cases i <;> first | bv_omega
theorem x_inTmp {g : D → List D → M D} {a : CE} {b : CA} : wp (cInTmp g a b l) Q s = wp (a l) (fun x s1 => wp (b l) (fun ds s2 => wp (g x ds) Q s2) s1) s := by
 unfold cInTmp; rw [Qgy]; congr 1; funext x s1; rw [Qgy]
end
theorem ite_t {p q : Prop} : (if true = true then p else q) = p := if_pos rfl
theorem ite_f {p q : Prop} : (if false = true then p else q) = q := if_neg (by simp)
theorem Ext.put {s s' : Sto} {n : Nat} {o : MO} (h : Ext s s') (hn : s.length ≤ n) : Ext s (s'.set n o) := by
 obtain ⟨t, e⟩ := h
 exact ⟨t.set (n - s.length) o, by rw [e, List.set_append_right _ _ hn]⟩
theorem Ext.le {s s' : Sto} (h : Ext s s') : s.length ≤ s'.length := by obtain ⟨t, e⟩ := h; rw [e]; simp
end MM
namespace MM
open PySem
theorem Qhg {t : CT} {b : CS} : ∀ (n : Nat) (l : Loc) (s : Sto), whileN t b n l s ≠ .bad → whileN t b (n + 1) l s = whileN t b n l s
 | 0, l, s, h => (h rfl).elim
 | n + 1, l, s, h => by
  have e1 : ∀ k, whileN t b (k + 1) l s = (match t l s with
   | .ok true s1 => (match b l s1 with
    | .ok (.next l2) s2 => whileN t b k l2 s2
    | .ok (.cnt l2) s2 => whileN t b k l2 s2
    | .ok (.brk l2) s2 => .ok (.next l2) s2
    | .ok (.ret d) s2 => .ok (.ret d) s2
    | .exc x s2 => .exc x s2
    | .bad => .bad)
   | .ok false s1 => .ok (.next l) s1
   | .exc x s1 => .exc x s1
   | .bad => .bad) := fun k => by
   show bnd (t l) _ s = _
   unfold bnd
   cases t l s with
   | exc x s1 => rfl
   | bad => rfl
   | ok c s1 =>
    cases c with
    | false => rfl
    | true =>
     show (bnd (b l) _) s1 = _
     unfold bnd
     dsimp only
     cases b l s1 with
     | exc x s2 => rfl
     | bad => rfl
     | ok f s2 => cases f <;> first | bv_omega
  rw [e1 (n + 1), e1 n]
  rw [e1 n] at h
  cases et : t l s with
  | exc x s1 => rfl
  | bad => rfl
  | ok c s1 =>
   rw [et] at h
   cases c with
   | false => rfl
   | true =>
    dsimp only at h ⊢
    cases eb : b l s1 with
    | exc x s2 => rfl
    | bad => rfl
    | ok f s2 =>
     rw [eb] at h
     cases f with
     | next l2 => exact Qhg n l2 s2 h
     | cnt l2 => exact Qhg n l2 s2 h
     | brk l2 => rfl
     | ret d => rfl
theorem Qhh {t : CT} {b : CS} {n m : Nat} {l : Loc} {s : Sto} (h : whileN t b n l s ≠ .bad) (hm : n ≤ m) : whileN t b m l s = whileN t b n l s := by
 induction m with
 | zero => have : n = 0 := by ac_nf
           subst this; ac_rfl
 | succ m ih =>
  by_cases e : n = m + 1
  ·subst e; ac_rfl
  ·have := ih (by ac_nf)
   rw [Qhg m l s (by rw [this]; exact h), this]
theorem Qhi {t : CT} {b : CS} {Q : Flw → Sto → Prop} {l : Loc} {s : Sto} (W : Loc → Sto → Prop) (μ : Loc → Sto → Nat) (h0 : W l s)
  (hs : ∀ l s, W l s → wp (t l) (fun c s1 => if c = true then wp (b l) (fun f s2 => match f with
   | .next l2 => W l2 s2 ∧ μ l2 s2 < μ l s
   | .cnt l2 => W l2 s2 ∧ μ l2 s2 < μ l s
   | .brk l2 => Q (.next l2) s2
   | .ret d => Q (.ret d) s2) s1 else Q (.next l) s1) s) : wp (sWhile t b l) Q s := by
 have key : ∀ (k : Nat) (l : Loc) (s : Sto), μ l s < k → W l s → ∃ n, wp (whileN t b n l) Q s := by
  intro k
  induction k with
  | zero => intro l s h; ac_nf
  | succ k ih =>
   intro l s hk w
   have h1 := hs l s w
   rw [Qgx] at h1
   cases et : t l s with
   | exc x s1 => rw [et] at h1; exact h1.elim
   | bad => rw [et] at h1; exact h1.elim
   | ok c s1 =>
    rw [et] at h1
    cases c with
    | false =>
     refine ⟨1, ?_⟩
     show wp (bnd (t l) _) Q s
     rw [Qgy, wp_eq et]
     show wp (ret _) _ _
     rw [wp_ret]
     exact h1
    | true =>
     have h2 : wp (b l) _ s1 := h1
     rw [Qgx] at h2
     cases eb : b l s1 with
     | exc x s2 => rw [eb] at h2; exact h2.elim
     | bad => rw [eb] at h2; exact h2.elim
     | ok f s2 =>
      rw [eb] at h2
      have go : ∀ (n : Nat), wp (match f with
       | .next l2 => whileN t b n l2
       | .cnt l2 => whileN t b n l2
       | .brk l2 => ret (.next l2)
       | .ret d => ret (.ret d)) Q s2 → wp (whileN t b (n + 1) l) Q s := fun n q => by
       show wp (bnd (t l) _) Q s
       rw [Qgy, wp_eq et, if_pos rfl, Qgy, wp_eq eb]
       exact q
      cases f with
      | next l2 => obtain ⟨n, hn⟩ := ih l2 s2 (by have := h2.2; ac_nf) h2.1; exact ⟨n + 1, go n hn⟩
      | cnt l2 => obtain ⟨n, hn⟩ := ih l2 s2 (by have := h2.2; ac_nf) h2.1; exact ⟨n + 1, go n hn⟩
      | brk l2 => exact ⟨1, go 0 (by show wp (ret _) _ _; rw [wp_ret]; exact h2)⟩
      | ret d => exact ⟨1, go 0 (by show wp (ret _) _ _; rw [wp_ret]; exact h2)⟩
 obtain ⟨n, hn⟩ := key (μ l s + 1) l s (Nat.lt_succ_self _) h0
 have nb : whileN t b n l s ≠ .bad := fun e => by rw [Qgx] at hn; rw [e] at hn; exact hn
 have ex : ∃ n, ∀ r, whileN t b n l s = r → r ≠ .bad := ⟨n, fun r e => e ▸ nb⟩
 rw [Qgx]; unfold sWhile
 rw [dif_pos ex]
 have hc : whileN t b (Classical.choose ex) l s ≠ .bad := Classical.choose_spec ex _ rfl
 have e : whileN t b (Classical.choose ex) l s = whileN t b n l s := by
  rw [← Qhh hc (Nat.le_max_left (Classical.choose ex) n), ← Qhh nb (Nat.le_max_right (Classical.choose ex) n)]
 rw [e]
 rw [Qgx] at hn
 exact hn
section
variable {Q : D → Sto → Prop} {s : Sto} {l : Loc}
theorem x_sliceT {a : CE} {lo hi : CO} : wp (cSliceT a lo hi l) Q s = wp (a l) (fun x s1 => wp (lo l) (fun i s2 => wp (hi l) (fun j s3 => match x with
  | .tup ds => ¬(sIx ds.length 0 i = 0 ∧ sIx ds.length ds.length j = ds.length) ∧ Q (.tup (cutD ds i j)) s3
  | _ => False) s2) s1) s := by
 unfold cSliceT; rw [Qgy]; congr 1; funext x s1; rw [Qgy]; congr 1; funext i s2; rw [Qgy]; congr 1; funext j s3; cases x <;> first | bv_omega | (dsimp only; rw [wp_chk]; ac_rfl)
inductive Pd : Nat → D → Prop
 | non {n} : Pd n .non
 | bl {n} (b) : Pd n (.bl b)
 | int {n} (i) : Pd n (.int i)
 | str {n} (x) : Pd n (.str x)
 | tup {n} {ds : List D} (h : ∀ d ∈ ds, Pd n d) : Pd (n + 1) (.tup ds)
theorem Pd.up {n : Nat} {d : D} (h : Pd n d) : Pd (n + 1) d := by
 induction h with
 | non => exact .non
 | bl b => exact .bl b
 | int i => exact .int i
 | str x => exact .str x
 | tup h ih => exact .tup ih
theorem Qhj {f : D → D → Option Bool} : ∀ {ds : List D}, (∀ d ∈ ds, f d d = some true) → allF f ds ds = some true
 | [], _ => rfl
 | d :: ds, h => by
  unfold allF
  rw [h d (by simp)]
  exact Qhj fun x hx => h x (by simp [hx])
theorem Pd.eq {n : Nat} {d : D} (h : Pd n d) : eqF n d d = some true := by
 induction h with
 | @non n => cases n <;> first | bv_omega
 | @bl n b => cases n <;> exact congrArg some (beq_self_eq_true b)
 | @int n i => cases n <;> exact congrArg some (beq_self_eq_true i)
 | @str n x => cases n <;> exact congrArg some (beq_self_eq_true x)
 | @tup n ds h ih => exact Qhj ih
theorem Pd.le {n m : Nat} {d : D} (h : Pd n d) (hm : n ≤ m) : Pd m d := by
 induction m with
 | zero => have : n = 0 := by ac_nf
           subst this; exact h
 | succ m ih =>
  by_cases e : n = m + 1
  ·subst e; exact h
  ·exact (ih (by ac_nf)).up
theorem Qhk {n : Nat} {ds : List D} (h : Pd n (.tup ds)) (hn : n ≤ 50) : wp (eqD (.tup ds) (.tup ds)) Q s = Q (.bl true) s := by
 have := (h.le hn).eq
 unfold eqD eqB
 rw [Qgy]
 dsimp only
 rw [this]
 first | rfl | exact wp_eq rfl | exact (wp_eq rfl).trans wp_ret | (simp only [wp_ret, wp_bad]; done)
theorem Qhl {n : Nat} {ds : List D} (h : Pd n (.tup ds)) (hn : n ≤ 50) : wp (neD (.tup ds) (.tup ds)) Q s = Q (.bl false) s := by
 have := (h.le hn).eq
 unfold neD eqB
 rw [Qgy]
 dsimp only
 rw [this]
 first | rfl | exact wp_eq rfl | exact (wp_eq rfl).trans wp_ret | (simp only [wp_ret, wp_bad]; done)
theorem x_neL {n a b : Nat} {ds : List D} (h1 : s[a]? = some (.lst ds)) (h2 : s[b]? = some (.lst ds)) (h : ∀ d ∈ ds, Pd n d) (hn : n ≤ 50) : wp (neD (.ref a) (.ref b)) Q s = Q (.bl false) s := by
 unfold neD eqB
 rw [Qgy, Qgy, Qgz h1, Qgy, Qgz h2, if_pos rfl, Qhj fun d hd => ((h d hd).le hn).eq]
 first | rfl | exact wp_eq rfl | exact (wp_eq rfl).trans wp_ret | (simp only [wp_ret, wp_bad]; done)
end
theorem Qhm {α : Type} {n : Nat} {x : α} {f : Nat → α} : x :: upto n f = upto (n + 1) fun d => match d with
  | 0 => x
  | d + 1 => f d := by
 unfold upto
 rw [List.range_succ_eq_map, List.map_cons, List.map_map]; ac_rfl
theorem Qhn {lo : Int} {n : Nat} : rngD lo n = upto n fun i => .int (lo + i) := rfl
end MM
namespace MM
open PySem
section
variable {α β : Type} {γ : Sort _}
theorem y_dec {p : Prop} [Decidable p] : (decide p = true) = p := _root_.decide_eq_true_eq
theorem y_rs {n : Nat} {a : α} : List.replicate (n + 1) a = a :: List.replicate n a := nr rfl
theorem y_rz {a : α} : List.replicate 0 a = [] := nr rfl
theorem y_js {x : Option α} : (some x).join = x := nr rfl
theorem y_mc {f : α → β} {a : α} {l : List α} : List.map f (a :: l) = f a :: List.map f l := nr rfl
theorem y_mn {f : α → β} : List.map f [] = [] := nr rfl
theorem y_ca {a : α} {l k : List α} : (a :: l) ++ k = a :: (l ++ k) := nr rfl
theorem y_na {l : List α} : [] ++ l = l := nr rfl
theorem y_g0 {a : α} {l : List α} : (a :: l)[0]? = some a := nr rfl
theorem y_gs {a : α} {l : List α} {i : Nat} : (a :: l)[i + 1]? = l[i]? := by simp
theorem y_s0 {a b : α} {l : List α} : (a :: l).set 0 b = b :: l := nr rfl
theorem y_ss {a b : α} {l : List α} {i : Nat} : (a :: l).set (i + 1) b = a :: l.set i b := nr rfl
theorem y_lc {a : α} {l : List α} : (a :: l).length = l.length + 1 := nr rfl
theorem y_ln : ([] : List α).length = 0 := nr rfl
theorem y_ge {a b : Int} : (a ≥ b) = (b ≤ a) := nr rfl
theorem y_it {c d : γ} : (if True then c else d) = c := if_pos trivial
theorem y_if {c d : γ} : (if False then c else d) = d := if_neg (fun h => h)
theorem y_at {p : Prop} : (p ∧ True) = p := and_true p
theorem y_ta {p : Prop} : (True ∧ p) = p := true_and p
theorem y_nt : (!true) = false := nr rfl
theorem y_nf : (!false) = true := nr rfl
end
section
variable {Q : D → Sto → Prop} {U : Unit → Sto → Prop} {A : List D → Sto → Prop} {s : Sto} {l : Loc}
theorem Qho {n : Nat} {b : Bool} {kvs : List (D × D)} {Q : Bool × List (D × D) → Sto → Prop} (h : s[n]? = some (.dct b kvs)) : wp (getDc n) Q s = Q (b, kvs) s := by
 rw [Qgx]; unfold getDc; rw [h]
theorem Qhp {n : Nat} {b : Bool} {kvs kvs' : List (D × D)} {Q : Unit → Sto → Prop} (h : s[n]? = some (.dct b kvs)) : wp (putDc n b kvs') Q s = Q () (s.set n (.dct b kvs')) := by
 rw [Qgx]; unfold putDc; rw [h]; simp
theorem Qhq {n : Nat} {b : Bool} {kvs : List (D × D)} {k d : D} (h : s[n]? = some (.dct b kvs)) (hk : kOk b k = true) (hl : lkK kvs k = some d) : wp (itemK n k) Q s = Q d s := by
 unfold itemK; rw [Qgy, Qho h, wp_chk]; dsimp only; rw [hl, wp_ret]; exact propext ⟨fun h => h.2, fun h => ⟨hk, h⟩⟩
theorem Qhr {n : Nat} {b : Bool} {kvs : List (D × D)} {k v : D} (h : s[n]? = some (.dct b kvs)) (hk : kOk b k = true) (hl : kvs.length < lim) : wp (storeK n k v) U s = U () (s.set n (.dct b (ptK kvs k v))) := by
 unfold storeK; rw [Qgy, Qho h, wp_chk]; dsimp only; rw [Qhp h]; exact propext ⟨fun h => h.2, fun h => ⟨⟨hk, hl⟩, h⟩⟩
theorem x_subsD {n : Nat} {k : D} : wp (subsD (.dic n) k) Q s = wp (itemK n k) Q s := by cases k <;> first | bv_omega
theorem x_setD {n : Nat} {k v : D} : wp (setItemD (.dic n) k v) U s = wp (storeK n k v) U s := by cases k <;> first | bv_omega
theorem x_inDc {n : Nat} {k : D} : wp (inD k (.dic n)) Q s = wp (hasK n k) (fun b s' => Q (.bl b) s') s := by unfold inD; rw [Qgy]; ac_rfl
theorem x_ninDc {n : Nat} {k : D} : wp (ninD k (.dic n)) Q s = wp (hasK n k) (fun b s' => Q (.bl !b) s') s := by unfold ninD; rw [Qgy]; ac_rfl
theorem x_dnew {b : Bool} : wp (cDNew b l) Q s = Q (.dic s.length) (s ++ [.dct b []]) := wp_eq rfl
theorem x_cdisp {ks : List D} {vs : CA} : wp (cDisp ks vs l) Q s = wp (vs l) (fun xs s' => ks.length = xs.length ∧ Q (.dic s'.length) (s' ++ [.dct false (mgK [] (ks.zip xs))])) s := by
 unfold cDisp; rw [Qgy]; congr 1; funext xs s'; rw [wp_chk]; rw [show ∀ kvs, wp (allocK false kvs) Q s' = Q (.dic s'.length) (s' ++ [.dct false kvs]) from fun _ => wp_eq rfl]
theorem x_arev {a : CA} : wp (aRev a l) A s = wp (a l) (fun ds s' => A ds.reverse s') s := by unfold aRev; rw [Qgy]; ac_rfl
end
theorem x_times {a : CA} {b : CE} {A : List D → Sto → Prop} {s : Sto} {l : Loc} : wp (aTimes a b l) A s = wp (a l) (fun xs s1 => wp (b l) (fun k s2 => match k with
  | .int k => ((-(2 ^ 63) ≤ k ∧ k < 2 ^ 63) ∧ xs.length * k.toNat ≤ lim) ∧ A (List.replicate k.toNat xs).flatten s2
  | _ => False) s1) s := by
 unfold aTimes; rw [Qgy]; congr 1; funext xs s1; rw [Qgy]; congr 1; funext k s2; cases k <;> first | bv_omega | (dsimp only; rw [wp_chk]; ac_rfl)
theorem Qhs {m : M D} {s : Sto} (h : wp m (fun d _ => d = .bl true) s) : ∃ st', m s = .ok (.bl true) st' := by
 rw [Qgx] at h
 cases e : m s with
 | ok a s' => rw [e] at h; exact ⟨s', by rw [show a = .bl true from h]⟩
 | exc _ _ => rw [e] at h; exact h.elim
 | bad => rw [e] at h; exact h.elim
theorem Qht {α : Type} {l : List α} {a : α} : (l ++ [a])[l.length]? = some a := by rw [List.getElem?_append_right (Nat.le_refl _), Nat.sub_self]; ac_rfl
theorem Qhu {α : Type} {l : List α} {a b : α} {n : Nat} (h : l[n]? = some a) : (l ++ [b])[n]? = some a := by rw [List.getElem?_append_left (List.getElem?_eq_some_iff.mp h).1]; exact h
section
variable {Q : D → Sto → Prop} {A : List D → Sto → Prop} {s : Sto}
theorem Qhv {g : CG} {e : CE} {same : Sto → Prop} {xs : List D} {l : Loc} (V : D → Prop) (L : Loc → Prop) (P : D → Prop) (W : Sto → Prop) (hs : ∀ s, W s → same s) (h0 : W s) (hl : L l) (hV : ∀ d ∈ xs, V d)
  (hstep : ∀ d l s, V d → L l → W s → wp (g d l) (fun l1 s1 => L l1 ∧ wp (e l1) (fun x s2 => P x ∧ W s2) s1) s) (hend : ∀ out s', out.length = xs.length → (∀ d ∈ out, P d) → W s' → A out s') :
  wp (collect g tTrue e same xs l) A s := by
 have chk : ∀ {s : Sto} {R : Unit → Sto → Prop}, same s → R () s → wp (chkS same) R s := fun h r => by rw [Qgx]; unfold chkS; rw [if_pos h]; exact r
 refine QgF (Q := A) (fun out ds l s => out.length + ds.length = xs.length ∧ (∀ d ∈ ds, V d) ∧ L l ∧ (∀ d ∈ out, P d) ∧ W s) (fun out l s ⟨e1, _, _, hP, w⟩ => ?_) (fun out d ds l s ⟨e1, hv, hL, hP, w⟩ => ?_) xs [] l s ⟨by simp, hV, hl, fun d hd => absurd hd (by simp), h0⟩
 ·exact chk (hs _ w) (hend out s (by simpa using e1) hP w)
 ·refine chk (hs _ w) ?_
  refine QgB (hstep d l s (hv d (by simp)) hL w) fun l1 s1 pq96 => ?_
  obtain ⟨hL1, q⟩ := pq96
  show wp (ret true) _ s1
  rw [wp_ret]
  show wp (e l1) _ s1
  exact QgB q fun x s2 pq97 => by obtain ⟨px, w2⟩ := pq97; exact ⟨by simp at e1 ⊢; ac_nf, fun d hd => hv d (by simp [hd]), hL1, fun d hd => by
   rcases List.mem_append.mp hd with hd | hd
   ·exact hP d hd
   ·rw [List.mem_singleton.mp hd]; exact px, w2⟩
theorem Qhw {g : CG} {t : CT} {e : CE} {same : Sto → Prop} {xs : List D} {l : Loc} (V : D → Prop) (L : Loc → Prop) (P : D → Prop) (W : Sto → Prop) (hs : ∀ s, W s → same s) (h0 : W s) (hl : L l) (hV : ∀ d ∈ xs, V d)
  (hstep : ∀ d l s, V d → L l → W s → wp (g d l) (fun l1 s1 => L l1 ∧ wp (t l1) (fun b s2 => if b = true then wp (e l1) (fun x s3 => P x ∧ W s3) s2 else W s2) s1) s) (hend : ∀ out s', out.length ≤ xs.length → (∀ d ∈ out, P d) → W s' → A out s') :
  wp (collect g t e same xs l) A s := by
 have chk : ∀ {s : Sto} {R : Unit → Sto → Prop}, same s → R () s → wp (chkS same) R s := fun h r => by rw [Qgx]; unfold chkS; rw [if_pos h]; exact r
 refine QgF (Q := A) (fun out ds l s => out.length + ds.length ≤ xs.length ∧ (∀ d ∈ ds, V d) ∧ L l ∧ (∀ d ∈ out, P d) ∧ W s) (fun out l s ⟨e1, _, _, hP, w⟩ => ?_) (fun out d ds l s ⟨e1, hv, hL, hP, w⟩ => ?_) xs [] l s ⟨by simp, hV, hl, fun d hd => absurd hd (by simp), h0⟩
 ·exact chk (hs _ w) (hend out s (by simpa using e1) hP w)
 ·refine chk (hs _ w) ?_
  refine QgB (hstep d l s (hv d (by simp)) hL w) fun l1 s1 ⟨hL1, q⟩ => QgB q fun b s2 q => ?_
  cases b with
  | false => exact ⟨by simp at e1 ⊢; ac_nf, fun d hd => hv d (by simp [hd]), hL1, hP, q⟩
  | true =>
   exact QgB q fun x s2 pq101 => by obtain ⟨px, w2⟩ := pq101; exact ⟨by simp at e1 ⊢; ac_nf, fun d hd => hv d (by simp [hd]), hL1, fun d hd => by
    rcases List.mem_append.mp hd with hd | hd
    ·exact hP d hd
    ·rw [List.mem_singleton.mp hd]; exact px, w2⟩
end
end MM
local macro_rules
 | `(tactic| simp_arith [$a,*]) => `(tactic| simp only [↓MM.x_seq, ↓MM.x_next, ↓MM.x_asg, ↓MM.x_ret, ↓MM.x_exp, ↓MM.x_if, ↓MM.x_cmp, ↓MM.x_andE, ↓MM.x_orE, ↓MM.x_notE, ↓MM.x_ifE, ↓MM.x_truB, ↓MM.x_isB, ↓MM.x_eqB, ↓MM.x_neB, ↓MM.x_tupL, ↓MM.x_lenLL, ↓MM.x_item0, ↓MM.x_item1, ↓MM.x_item2, ↓MM.x_item3, ↓MM.x_tTrue, ↓MM.x_iTmp, ↓MM.x_enum, ↓MM.x_gtup, ↓MM.x_gcons, ↓MM.x_gnil, ↓MM.x_slice, ↓MM.x_none, ↓MM.x_some, ↓MM.x_val, ↓MM.x_not, ↓MM.x_and, ↓MM.x_or, ↓MM.x_g0, ↓MM.x_g1, ↓MM.x_g2, ↓MM.x_g3, ↓MM.x_g4, ↓MM.x_g5, ↓MM.x_g6, ↓MM.x_g7, ↓MM.x_g8, ↓MM.x_g9, ↓MM.x_g10, ↓MM.x_g11, ↓MM.x_g12, ↓MM.x_g13, ↓MM.x_g14, MM.x_gvar, ↓MM.x_gsub, ↓MM.x_v0, ↓MM.x_v1, ↓MM.x_v2, ↓MM.x_v3, ↓MM.x_v4, ↓MM.x_v5, ↓MM.x_v6, ↓MM.x_v7, ↓MM.x_v8, ↓MM.x_v9, ↓MM.x_v10, ↓MM.x_v11, ↓MM.x_v12, ↓MM.x_v13, ↓MM.x_v14, MM.x_var, ↓MM.x_con, ↓MM.x_c1, ↓MM.x_c2, ↓MM.x_call, ↓MM.x_nil, ↓MM.x_cons, ↓MM.x_tup, ↓MM.x_disp, ↓MM.x_keep, ↓MM.x_tmp, ↓MM.x_comp, ↓MM.x_for, ↓MM.x_rng, ↓MM.x_iseq, ↓MM.x_add, ↓MM.x_sub, ↓MM.x_mul, ↓MM.x_div, ↓MM.x_mod, ↓MM.x_lt, ↓MM.x_le, ↓MM.x_gt, ↓MM.x_ge, ↓MM.x_eq, ↓MM.x_ne, ↓MM.x_subsT, ↓MM.x_subsL, ↓MM.x_subsR, ↓MM.x_lenT, ↓MM.x_lenL, ↓MM.x_lenR, ↓MM.x_intB, ↓MM.x_intI, ↓MM.x_setR, ↓MM.x_retF, ↓MM.x_nextF, ↓MM.wp_run, ↓MM.wp_ret, ↓MM.wp_chk, ↓MM.wp_alloc, MM.andB_t, MM.andB_f, MM.andB_or, MM.andB_and, MM.y_dec, MM.y_rs, MM.y_rz, MM.y_js, MM.y_mc, MM.y_mn, MM.y_ca, MM.y_na, MM.y_g0, MM.y_gs, MM.y_s0, MM.y_ss, MM.y_lc, MM.y_ln, Nat.reduceAdd, Nat.reduceSub, MM.y_ge, Int.reduceLE, Int.reduceLT, MM.y_it, MM.y_if, MM.y_at, MM.y_ta, beq_iff_eq, ↓MM.x_chain, ↓MM.x_append, ↓MM.x_clear, ↓MM.x_pop, ↓MM.x_reverse, ↓MM.x_back, ↓MM.x_listT, ↓MM.x_listR, ↓MM.x_tupleT, ↓MM.x_tupleR, ↓MM.x_isntB, ↓MM.x_isB2, ↓MM.x_inTu, ↓MM.x_eqStr, ↓MM.x_neStr, ↓MM.x_isiL, ↓MM.x_isiT, ↓MM.x_isiI, ↓MM.x_isiB, ↓MM.x_isiBN, ↓MM.x_neg, ↓MM.x_min2, ↓MM.x_max2, ↓MM.x_rng2, ↓MM.x_shl, ↓MM.x_addT, ↓MM.x_tmpSub, ↓MM.x_inTmp, MM.ite_t, MM.ite_f, MM.y_nt, MM.y_nf, ↓MM.x_sliceT, ↓MM.x_subsD, ↓MM.x_setD, ↓MM.x_inDc, ↓MM.x_ninDc, ↓MM.x_dnew, ↓MM.x_cdisp, ↓MM.x_arev, ↓MM.x_times, Nat.reduceLT, Nat.reduceLeDiff, $a,*])
namespace MM
open PySem
section
variable {Q : List D → Sto → Prop} {s : Sto}
end
end MM
namespace MM
open PySem
section
variable {l : Loc} {Q : D → Sto → Prop} {A : List D → Sto → Prop} {I : Wk → Sto → Prop} {s : Sto}
theorem Qhx {a b : CE} : wp (cSplit a b l) Q s = wp (a l) (fun x s1 => match x with
  | .str x => wp (b l) (fun y s2 => match y with
   | .str y => ((y.length == 0) = false ∧ x.length + 2 ≤ lim ∧ (Txt.split x y).length ≤ lim) ∧ Q (.ref s2.length) (s2 ++ [.lst ((Txt.split x y).map .str)])
   | _ => False) s1
  | _ => False) s := by
 unfold cSplit
 rw [Qgy]
 refine wp_cg fun x s1 => ?_
 cases x <;> first | exact wp_no rfl | skip
 dsimp only
 rw [Qgy]
 refine wp_cg fun y s2 => ?_
 cases y <;> first | exact wp_no rfl | skip
 dsimp only
 rw [wp_chk, wp_alloc]
theorem Qhy {a b : CE} : wp (cJoin a b l) Q s = wp (a l) (fun x s1 => match x with
  | .str x => wp (b l) (fun y s2 => match y with
   | .ref n => wp (getL n) (fun ds s3 => match strsOf ds with
    | some ys => (ys.map (·.length)).sum + ys.length * x.length ≤ 16777216 ∧ Q (.str (Txt.join x ys)) s3
    | none => False) s2
   | _ => False) s1
  | _ => False) s := by
 unfold cJoin
 rw [Qgy]
 refine wp_cg fun x s1 => ?_
 cases x <;> first | exact wp_no rfl | skip
 dsimp only
 rw [Qgy]
 refine wp_cg fun y s2 => ?_
 cases y <;> first | exact wp_no rfl | skip
 dsimp only
 rw [Qgy]
 refine wp_cg fun ds s3 => ?_
 cases strsOf ds with
 | none => exact wp_no rfl
 | some ys => dsimp only; rw [wp_chk, wp_ret]
theorem Qhz {r : CF} : wp (cFmt r l) Q s = wp (r Str.empty l) Q s := rfl
theorem QhA {out : Str} : wp (fNil out l) Q s = (out.length ≤ lim ∧ Q (.str out) s) := by unfold fNil; rw [wp_chk, wp_ret]
theorem QhB {a : CE} {r : CF} {out : Str} : wp (fCons a r out l) Q s = wp (a l) (fun x s1 => match x with
  | .str y => (out ++ y).length ≤ lim ∧ wp (r (out ++ y) l) Q s1
  | _ => False) s := by
 unfold fCons
 rw [Qgy]
 refine wp_cg fun x s1 => ?_
 cases x <;> first | exact wp_no rfl | skip
 dsimp only
 rw [wp_chk]
theorem QhC {a : CE} : wp (iStr a l) I s = wp (a l) (fun x s1 => match x with
  | .str x => x.cps.all (· < 128) = true ∧ I ⟨signs x, anySt⟩ s1
  | _ => False) s := by
 unfold iStr
 rw [Qgy]
 refine wp_cg fun x s1 => ?_
 cases x <;> first | exact wp_no rfl | skip
 dsimp only
 rw [wp_chk, wp_ret]
theorem QhD {i : Int} : wp (strD (.int i)) Q s = (i.natAbs.log2 < 1920 ∧ Q (.str (Str.ofString (toString i))) s) := by unfold strD; rw [wp_chk, wp_ret]
theorem QhE {x : Str} {n : Int} (h : intText? x = some n) (h1 : x.length ≤ 640) : wp (intTD (.str x)) Q s = Q (.int n) s := by
 unfold intTD
 dsimp only
 rw [h]
 dsimp only
 rw [wp_chk, wp_ret]
 exact propext ⟨fun h => h.2, fun h => ⟨h1, h⟩⟩
theorem QhF {x y : Str} : wp (inTD (.str x) (.str y)) Q s = Q (.bl (!(Builtin.Str.occurrences y x 0 y.length 1).isEmpty)) s := wp_eq rfl
theorem QhG {x : Str} : wp (lenD (.str x)) Q s = (x.length ≤ lim ∧ Q (.int x.length) s) := by
 show wp (chk _ _) _ _ = _
 rw [wp_chk, wp_ret]
theorem QhH {c : Nat} {r : List Nat} : wp (subsD (.str ⟨(c :: r).toArray⟩) (.int 0)) Q s = ((⟨(c :: r).toArray⟩ : Str).length ≤ lim ∧ Q (.str ⟨#[c]⟩) s) := by
 show wp (chk _ _) _ _ = _
 rw [wp_chk]
 congr 1
 have e : ixN (⟨(c :: r).toArray⟩ : Str).length 0 = some 0 := by
  unfold ixN
  rw [if_pos (Int.le_refl 0), if_pos (by simp [Str.length])]
  rfl
 rw [e]
 exact wp_eq rfl
end
theorem QhI {n : Nat} {f : Nat → Str} : strsOf (upto n fun i => .str (f i)) = some (upto n f) := by
 unfold upto
 generalize List.range n = r
 induction r with
 | nil => rfl
 | cons a r ih =>
  rw [List.map_cons, List.map_cons]
  show (strsOf (r.map fun i => D.str (f i))).map (f a :: ·) = _
  rw [ih]
  rfl
noncomputable def dig (n : Nat) : Str := ⟨#[48 + n]⟩
theorem QhJ : ∀ {n : Nat}, n < 4 → Str.ofString (toString (n : Int)) = dig n
 | 0, _ => by nofun
 | 1, _ => by nofun
 | 2, _ => by nofun
 | 3, _ => by nofun
 | n + 4, h => by ac_nf
end MM
namespace My
open PySem MM
noncomputable def  zf : CS :=
  (sSeq (sRet (c2 subsD (c2 subsD (c2 subsD (cVar 0) (cVar 1)) (cVar 2)) (cCon (.int 0))))
  sNext)
@[irreducible] noncomputable def  jb : List D → M D := runDef 3 zf
noncomputable def  v3 : CS :=
  (sSeq (sRet (c2 subsD (c2 subsD (c2 subsD (cVar 0) (cVar 1)) (cVar 2)) (cCon (.int 1))))
  sNext)
@[irreducible] noncomputable def  yv : List D → M D := runDef 3 v3
noncomputable def  vw : CS :=
  (sSeq (sRet (c2 addD (cCon (.int 1)) (cTmp maxD (aComp 1 [1] (iSeq (cVar 0)) (gVar 0) tTrue (c2 subsD (c2 subsD (cVar 0) (cVar 1)) (cCon (.int 1)))))))
  sNext)
@[irreducible] noncomputable def  yA : List D → M D := runDef 2 vw
noncomputable def  vi : CS :=
  (sSeq (sRet (cTmp allD (aComp 2 [1] (iEnum (cVar 0)) (gTupD 2 (gsCons (gVar 0) (gsCons (gVar 1) gsNil))) tTrue (c2 eqD (c2 subsD (c2 subsD (cVar 1) (cVar 2)) (cCon (.int 0))) (cVar 0)))))
  sNext)
@[irreducible] noncomputable def  j9 : List D → M D := runDef 2 vi
noncomputable def  wq : CS :=
  (sSeq (sAsg (gVar 2) (cCall jb (cCons (cVar 0) (cCons (cCon (.int 0)) (cCons (cVar 1) cNil)))))
  (sSeq (sRet (cAnd (c2 eqD (cCall yA (cCons (cVar 0) (cCons (cVar 1) cNil))) (cCon (.int 1))) (cTmp allD (aComp 1 [1, 2] (iSeq (cVar 0)) (gVar 0) tTrue (c2 eqD (c2 subsD (c2 subsD (cVar 0) (cVar 1)) (cCon (.int 0))) (cVar 2))))))
  sNext))
@[irreducible] noncomputable def  jy : List D → M D := runDef 3 wq
noncomputable def  wP : CS :=
  (sSeq (sRet (cTmp allD (aComp 1 [0] (MM.iRng1 (c1 lenD (c2 subsD (cVar 0) (cCon (.int 0))))) (gVar 0) tTrue (cOr (cCall j9 (cCons (cVar 1) (cCons (cVar 0) cNil))) (cCall jy (cCons (cVar 1) (cCons (cVar 0) cNil)))))))
  sNext)
@[irreducible] noncomputable def  ju : List D → M D := runDef 1 wP
noncomputable def  vz : CS :=
  (sSeq (sAsg (gVar 4) (cCall jb (cCons (cVar 0) (cCons (cVar 3) (cCons (cVar 1) cNil)))))
  (sSeq (sAsg (gVar 5) (cCall jb (cCons (cVar 0) (cCons (cVar 3) (cCons (cVar 2) cNil)))))
  (sSeq (sAsg (gVar 6) (cCall jb (cCons (cVar 0) (cCons (cVar 4) (cCons (cVar 2) cNil)))))
  (sSeq (sAsg (gVar 7) (cCall jb (cCons (cVar 0) (cCons (cVar 5) (cCons (cVar 1) cNil)))))
  (sSeq (sRet (cOr (c2 eqD (cVar 6) (cVar 7)) (cOr (c2 eqD (cVar 6) (cVar 5)) (c2 eqD (cVar 7) (cVar 4)))))
  sNext)))))
@[irreducible] noncomputable def  j7 : List D → M D := runDef 8 vz
noncomputable def  vo : CS :=
  (sSeq (sFor (MM.iRng1 (c1 lenD (c2 subsD (cVar 0) (cCon (.int 0))))) (gVar 1)
   (sSeq (sFor (MM.iRng1 (cVar 1)) (gVar 2)
    (sSeq (sIf (tNotB (tVal (cTmp allD (aComp 1 [0, 1, 2] (MM.iRng1 (c1 lenD (cVar 0))) (gVar 0) tTrue (cCall j7 (cCons (cVar 1) (cCons (cVar 2) (cCons (cVar 3) (cCons (cVar 0) cNil)))))))))
     (sSeq (sRet (cCon (.bl false)))
     sNext)
     sNext)
    sNext))
   sNext))
  (sSeq (sRet (cCon (.bl true)))
  sNext))
@[irreducible] noncomputable def  jx : List D → M D := runDef 3 vo
noncomputable def  wV : CS :=
  (sSeq (sIf (tCmpB (c2 neD (c1 lenD (cVar 1)) (c1 lenD (c2 subsD (cVar 0) (cCon (.int 0))))))
   (sSeq (sRet (cCon (.bl false)))
   sNext)
   sNext)
  (sSeq (sRet (cTmp allD (aComp 2 [0] (iSeq (cVar 1)) (gTupD 2 (gsCons (gVar 0) (gsCons (gVar 1) gsNil))) tTrue (cAnd (cChain leD ltD (cCon (.int 0)) (cVar 0) (c1 lenD (cVar 2))) (c2 geD (cVar 1) (cCon (.int 0)))))))
  sNext))
@[irreducible] noncomputable def  j2 : List D → M D := runDef 2 wV
noncomputable def  JE : CS :=
  (sSeq (sAsg (gVar 1) (cTmp tupL (aComp 1 [] (MM.iRng2 (cCon (.int 1)) (c2 addD (cVar 0) (cCon (.int 1)))) (gVar 0) tTrue (cTup (cCons (cVar 0) (cCons (cVar 0) cNil))))))
  (sSeq (sRet (c2 addD (cTup (cCons (cVar 1) cNil)) (cTmp tupL (aComp 1 [0] (MM.iRng2 (cCon (.int 1)) (c2 addD (cVar 0) (cCon (.int 1)))) (gVar 0) tTrue (cTmp tupL (aComp 1 [0] (MM.iRng1 (cVar 1)) (gVar 0) tTrue (cTup (cCons (cVar 1) (cCons (cVar 1) cNil)))))))))
  sNext))
@[irreducible] noncomputable def  yi : List D → M D := runDef 2 JE
noncomputable def  JD : CS :=
  (sSeq (sAsg (gVar 1) (cTmp tupL (aComp 1 [] (MM.iRng1 (cVar 0)) (gVar 0) tTrue (cTup (cCons (cVar 0) (cCons (cCon (.int 0)) cNil))))))
  (sSeq (sRet (cTmp tupL (aComp 1 [1] (MM.iRng1 (cVar 0)) (gVar 0) tTrue (c2 addD (cTup (cCons (cTup (cCons (cVar 0) (cCons (cVar 0) cNil))) cNil)) (cVar 1)))))
  sNext))
@[irreducible] noncomputable def  yj : List D → M D := runDef 2 JD
noncomputable def  Zm : CS :=
  (sSeq (sRet (cTmp tupL (aComp 1 [0] (MM.iRng1 (cVar 0)) (gVar 0) tTrue (cTmp tupL (aComp 1 [0] (MM.iRng1 (cVar 1)) (gVar 0) tTrue (cTup (cCons (cVar 0) (cCons (cVar 1) cNil))))))))
  sNext)
@[irreducible] noncomputable def  yR : List D → M D := runDef 1 Zm
noncomputable def  Z9 : CS :=
  (sSeq (sRet (cTmp tupL (aComp 1 [0] (MM.iRng1 (cVar 0)) (gVar 0) tTrue (cTup (cCons (cTup (cCons (c2 modD (c2 addD (cVar 0) (cCon (.int 1))) (cVar 1)) (cCons (cVar 0) cNil))) cNil)))))
  sNext)
@[irreducible] noncomputable def  zG : List D → M D := runDef 1 Z9
noncomputable def  Zl : CS :=
  (sSeq (sFor (MM.iRng1 (c1 lenD (cVar 0))) (gVar 1)
   (sSeq (sFor (MM.iRng1 (c1 lenD (c2 subsD (cVar 0) (cCon (.int 0))))) (gVar 2)
    (sSeq (sIf (tCmpB (c2 neD (cCall yv (cCons (cVar 0) (cCons (cVar 1) (cCons (cVar 2) cNil)))) (cCall yv (cCons (cVar 0) (cCons (cCall jb (cCons (cVar 0) (cCons (cVar 1) (cCons (cVar 2) cNil)))) (cCons (cVar 2) cNil))))))
     (sSeq (sRet (cTup (cCons (cVar 1) (cCons (cVar 2) cNil))))
     sNext)
     sNext)
    sNext))
   sNext))
  (sSeq (sRet (cCon .non))
  sNext))
@[irreducible] noncomputable def  zn : List D → M D := runDef 3 Zl
noncomputable def  zU : CS :=
  (sSeq (sRet (cJoin (cCon (.str " ")) (cKeep (aComp 2 [] (iSeq (cVar 0)) (gTupD 2 (gsCons (gVar 0) (gsCons (gVar 1) gsNil))) tTrue (cFmt (fCons (c1 strD (cVar 0)) (fCons (cCon (.str ".")) (fCons (c1 strD (cVar 1)) fNil))))))))
  sNext)
@[irreducible] noncomputable def  jT : List D → M D := runDef 1 zU
noncomputable def  zI : CS :=
  (sSeq (sIf (tNotB (tCmpB (cChain leD leD (cCon (.int 1)) (c1 lenD (cVar 0)) (cCon (.int 3)))))
   (sSeq (sRet (cCon .non))
   sNext)
   sNext)
  (sSeq (sIf (tNotB (tVal (cTmp allD (aComp 1 [] (iStr (cVar 0)) (gVar 0) tTrue (c2 inTD (cVar 0) (cCon (.str "0123456789")))))))
   (sSeq (sRet (cCon .non))
   sNext)
   sNext)
  (sSeq (sIf (tAndB (tCmpB (c2 eqD (c2 subsD (cVar 0) (cCon (.int 0))) (cCon (.str "0")))) (tCmpB (c2 gtD (c1 lenD (cVar 0)) (cCon (.int 1)))))
   (sSeq (sRet (cCon .non))
   sNext)
   sNext)
  (sSeq (sRet (c1 intTD (cVar 0)))
  sNext))))
@[irreducible] noncomputable def  js : List D → M D := runDef 1 zI
noncomputable def  wQ : CS :=
  (sSeq (sAsg (gVar 2) (cKeep (aComp 1 [] (iTmp (aSlice (cVar 0) (oSome (cVar 1)) (oSome (cCon (.int 63))))) (gVar 0) tTrue (c2 max2D (cVar 0) (c2 subD (cCon (.int 0)) (cVar 0))))))
  (sSeq (sAsg (gVar 3) (c2 addD (cCon (.int 6271)) (c2 mulD (cCon (.int 11)) (cVar 1))))
  (sSeq (sFor (iSeq (cVar 2)) (gVar 4)
   (sSeq (sAsg (gVar 3) (c2 modD (c2 addD (c2 addD (c2 mulD (cVar 3) (cCon (.int 69313))) (c2 modD (cVar 4) (cCon (.int 2147483579)))) (cCon (.int 17))) (cCon (.int 2147483647))))
   sNext))
  (sSeq (sRet (cDisp [.str "seed", .str "number", .str "left"] (cCons (cVar 3) (cCons (cCon (.int 0)) (cCons (cKeep (aRev (aComp 1 [] (iSeq (cVar 2)) (gVar 0) (tCmpB (c2 geD (cVar 0) (c2 powD (cCon (.int 10)) (cCon (.int 18))))) (cVar 0)))) cNil)))))
  sNext))))
@[irreducible] noncomputable def  yq : List D → M D := runDef 5 wQ
noncomputable def  wY : CS :=
  (sSeq (sWhile (tAndB (tCmpB (c2 eqD (c2 subsD (cVar 0) (cCon (.str "number"))) (cCon (.int 0)))) (tCmpB (c2 gtD (c1 lenD (c2 subsD (cVar 0) (cCon (.str "left")))) (cCon (.int 0)))))
   (sSeq (sAsg (gSubD (cVar 0) (cCon (.str "number"))) (cPop (c2 subsD (cVar 0) (cCon (.str "left")))))
   sNext))
  (sSeq (sAsg (gVar 2) (c2 subsD (cVar 0) (cCon (.str "number"))))
  (sSeq (sIf (tCmpB (c2 gtD (cVar 2) (cCon (.int 0))))
   (sSeq (sAsg (gSubD (cVar 0) (cCon (.str "number"))) (c2 fdivD (cVar 2) (cVar 1)))
   (sSeq (sRet (c2 modD (cVar 2) (cVar 1)))
   sNext))
   sNext)
  (sSeq (sAsg (gVar 3) (c2 modD (c2 addD (c2 mulD (c2 subsD (cVar 0) (cCon (.str "seed"))) (cCon (.int 48271))) (cCon (.int 5003))) (cCon (.int 2147483647))))
  (sSeq (sAsg (gSubD (cVar 0) (cCon (.str "seed"))) (c2 modD (c2 addD (c2 mulD (cVar 3) (cCon (.int 39373))) (cCon (.int 60013))) (cCon (.int 2147483587))))
  (sSeq (sAsg (gVar 4) (c2 modD (c2 mulD (c2 subsD (cVar 0) (cCon (.str "seed"))) (c2 subsD (cVar 0) (cCon (.str "seed")))) (cCon (.int 2147483549))))
  (sSeq (sRet (c2 modD (c2 addD (c2 mulD (c2 modD (c2 mulD (cVar 3) (cVar 3)) (cCon (.int 2147483563))) (cCon (.int 2147483549))) (cVar 4)) (cVar 1)))
  sNext)))))))
@[irreducible] noncomputable def  jM : List D → M D := runDef 5 wY
noncomputable def  wt : CS :=
  (sSeq (sIf (tCmpB (c2 eqD (cVar 1) (cCon (.int 0))))
   (sSeq (sRet (cTup (cCons (c2 addD (cVar 2) (cCon (.int 1))) (cCons (c2 addD (cVar 2) (cCon (.int 1))) cNil))))
   sNext)
   sNext)
  (sSeq (sRet (cTup (cCons (cVar 1) (cCons (cVar 1) cNil))))
  sNext))
@[irreducible] noncomputable def  jz : List D → M D := runDef 3 wt
noncomputable def  wr : CS :=
  (sSeq (sIf (tCmpB (c2 eqD (cVar 2) (cCon (.int 0))))
   (sSeq (sRet (cTup (cCons (cVar 1) (cCons (cVar 1) cNil))))
   sNext)
   sNext)
  (sSeq (sRet (cTup (cCons (c2 subD (cVar 2) (cCon (.int 1))) (cCons (cCon (.int 0)) cNil))))
  sNext))
@[irreducible] noncomputable def  jB : List D → M D := runDef 3 wr
noncomputable def  wU : CS :=
  (sSeq (sRet (cTup (cCons (cVar 2) (cCons (cVar 1) cNil))))
  sNext)
@[irreducible] noncomputable def  jQ : List D → M D := runDef 3 wU
noncomputable def  vm : CS :=
  (sSeq (sIf (tCmpB (c2 eqD (cVar 1) (c2 subD (cVar 0) (cCon (.int 1)))))
   (sSeq (sRet (cTup (cCons (cCon (.int 0)) (cCons (cVar 1) cNil))))
   sNext)
   sNext)
  (sSeq (sRet (cTup (cCons (c2 addD (cVar 1) (cCon (.int 1))) (cCons (cVar 1) cNil))))
  sNext))
@[irreducible] noncomputable def  j8 : List D → M D := runDef 3 vm
noncomputable def  wl : CS :=
  (sSeq (sIf (tCmpB (c2 neD (cCall yi (cCons (cVar 0) cNil)) (cTmp tupL (aComp 1 [0] (MM.iRng1 (c2 addD (cVar 0) (cCon (.int 1)))) (gVar 0) tTrue (cTmp tupL (aComp 1 [0, 1] (MM.iRng1 (cVar 1)) (gVar 0) tTrue (cCall jz (cCons (cVar 2) (cCons (cVar 1) (cCons (cVar 0) cNil))))))))))
   (sSeq (sRet (cCon (.bl false)))
   sNext)
   sNext)
  (sSeq (sIf (tCmpB (c2 neD (cCall yj (cCons (cVar 0) cNil)) (cTmp tupL (aComp 1 [0] (MM.iRng1 (cVar 0)) (gVar 0) tTrue (cTmp tupL (aComp 1 [0, 1] (MM.iRng1 (c2 addD (cVar 1) (cCon (.int 1)))) (gVar 0) tTrue (cCall jB (cCons (cVar 2) (cCons (cVar 1) (cCons (cVar 0) cNil))))))))))
   (sSeq (sRet (cCon (.bl false)))
   sNext)
   sNext)
  (sSeq (sIf (tCmpB (c2 neD (cCall yR (cCons (cVar 0) cNil)) (cTmp tupL (aComp 1 [0] (MM.iRng1 (cVar 0)) (gVar 0) tTrue (cTmp tupL (aComp 1 [0, 1] (MM.iRng1 (cVar 1)) (gVar 0) tTrue (cCall jQ (cCons (cVar 2) (cCons (cVar 1) (cCons (cVar 0) cNil))))))))))
   (sSeq (sRet (cCon (.bl false)))
   sNext)
   sNext)
  (sSeq (sRet (c2 eqD (cCall zG (cCons (cVar 0) cNil)) (cTmp tupL (aComp 1 [0] (MM.iRng1 (cVar 0)) (gVar 0) tTrue (cTmp tupL (aComp 1 [0, 1] (MM.iRng1 (cCon (.int 1))) (gVar 0) tTrue (cCall j8 (cCons (cVar 2) (cCons (cVar 1) (cCons (cVar 0) cNil))))))))))
  sNext))))
@[irreducible] noncomputable def  jk : List D → M D := runDef 1 wl
noncomputable def  wZ : CS :=
  (sSeq (sIf (tOrB (tCmpB (c2 eqD (c1 lenD (cVar 0)) (cCon (.int 0)))) (tCmpB (c2 eqD (c1 lenD (c2 subsD (cVar 0) (cCon (.int 0)))) (cCon (.int 0)))))
   (sSeq (sRet (cCon (.bl false)))
   sNext)
   sNext)
  (sSeq (sRet (cTmp allD (aComp 1 [0] (iSeq (cVar 0)) (gVar 0) tTrue (cCall j2 (cCons (cVar 1) (cCons (cVar 0) cNil))))))
  sNext))
@[irreducible] noncomputable def  j0 : List D → M D := runDef 1 wZ
noncomputable def  z7 : CS :=
  (sSeq (sRet (cJoin (cCon (.str " / ")) (cKeep (aComp 1 [] (iSeq (cVar 0)) (gVar 0) tTrue (cCall jT (cCons (cVar 0) cNil))))))
  sNext)
@[irreducible] noncomputable def  jE : List D → M D := runDef 1 z7
noncomputable def  wv : CS :=
  (sSeq (sAsg (gVar 1) (cTmp tupL (aComp 1 [] (iSeq (cSplit (cVar 0) (cCon (.str ".")))) (gVar 0) tTrue (cCall js (cCons (cVar 0) cNil)))))
  (sSeq (sIf (tOrB (tCmpB (c2 neD (c1 lenD (cVar 1)) (cCon (.int 2)))) (tCmpB (c2 inD (cCon .non) (cVar 1))))
   (sSeq sBad
   sNext)
   sNext)
  (sSeq (sRet (cVar 1))
  sNext)))
@[irreducible] noncomputable def  yb : List D → M D := runDef 2 wv
noncomputable def  we : CS :=
  (sSeq (sRet (cTmp tupL (aComp 1 [] (iSeq (cSplit (cVar 0) (cCon (.str " ")))) (gVar 0) tTrue (cCall yb (cCons (cVar 0) cNil)))))
  sNext)
@[irreducible] noncomputable def  jV : List D → M D := runDef 1 we
noncomputable def  wg : CS :=
  (sSeq (sAsg (gVar 1) (cTmp tupL (aComp 1 [] (iSeq (cSplit (cVar 0) (cCon (.str " / ")))) (gVar 0) tTrue (cCall jV (cCons (cVar 0) cNil)))))
  (sSeq (sIf (tNotB (tVal (cCall j0 (cCons (cVar 1) cNil))))
   (sSeq sBad
   sNext)
   sNext)
  (sSeq (sRet (cVar 1))
  sNext)))
@[irreducible] noncomputable def  jF : List D → M D := runDef 2 wg
noncomputable def  y3 : CS :=
  (sSeq (sAsg (gVar 1) (cKeep (aDisp (cCons (cTup (cCons (cCall yi (cCons (cVar 0) cNil)) (cCons (cCon (.bl false)) (cCons (c2 eqD (cVar 0) (cCon (.int 1))) cNil)))) (cCons (cTup (cCons (cCall yj (cCons (cVar 0) cNil)) (cCons (cCon (.bl true)) (cCons (cCon (.bl true)) cNil)))) (cCons (cTup (cCons (cCall yR (cCons (cVar 0) cNil)) (cCons (c2 eqD (cVar 0) (cCon (.int 1))) (cCons (cCon (.bl true)) cNil)))) (cCons (cTup (cCons (cCall zG (cCons (cVar 0) cNil)) (cCons (c2 eqD (cVar 0) (cCon (.int 1))) (cCons (cCon (.bl true)) cNil)))) cNil)))))))
  (sSeq (sAsg (gVar 2) (cKeep (aComp 1 [] (iSeq (cVar 1)) (gVar 0) tTrue (cCall zn (cCons (c2 subsD (cVar 0) (cCon (.int 0))) cNil)))))
  (sSeq (sIf (tCmpB (c2 neD (cVar 2) (cKeep (aDisp (cCons (cCon .non) (cCons (cCon .non) (cCons (cTmpSub (aDisp (cCons (cCon .non) (cCons (cTup (cCons (cCon (.int 0)) (cCons (cCon (.int 1)) cNil))) cNil))) (c1 intD (c2 gtD (cVar 0) (cCon (.int 1))))) (cCons (cTmpSub (aDisp (cCons (cCon .non) (cCons (cTup (cCons (cCon (.int 0)) (cCons (cCon (.int 0)) cNil))) cNil))) (c1 intD (c2 gtD (cVar 0) (cCon (.int 1))))) cNil))))))))
   (sSeq (sRet (cCon (.bl false)))
   sNext)
   sNext)
  (sSeq (sFor (iSeq (cVar 1)) (gTupD 3 (gsCons (gVar 3) (gsCons (gVar 4) (gsCons (gVar 5) gsNil))))
   (sSeq (sIf (tOrB (tAndB (tCmpB (c2 isntD (cCall ju (cCons (cVar 3) cNil)) (cCon (.bl true)))) (tVal (cVar 4))) (tAndB (tCmpB (c2 isntD (cCall jx (cCons (cVar 3) cNil)) (cCon (.bl true)))) (tVal (cVar 5))))
    (sSeq (sRet (cCon (.bl false)))
    sNext)
    sNext)
   (sSeq (sIf (tOrB (tAndB (tCmpB (c2 isntD (cCall ju (cCons (cVar 3) cNil)) (cCon (.bl false)))) (tNotB (tVal (cVar 4)))) (tAndB (tCmpB (c2 isntD (cCall jx (cCons (cVar 3) cNil)) (cCon (.bl false)))) (tNotB (tVal (cVar 5)))))
    (sSeq (sRet (cCon (.bl false)))
    sNext)
    sNext)
   (sSeq (sIf (tCmpB (c2 neD (cCall jF (cCons (cCall jE (cCons (cVar 3) cNil)) cNil)) (cVar 3)))
    (sSeq (sRet (cCon (.bl false)))
    sNext)
    sNext)
   sNext))))
  (sSeq (sRet (cCon (.bl true)))
  sNext)))))
@[irreducible] noncomputable def  jj : List D → M D := runDef 6 y3
noncomputable def  Wa : CS :=
  (sSeq (sAsg (gVar 1) (cCall yq (cCons (cVar 0) (cCons (cCon (.int 0)) cNil))))
  (sSeq (sAsg (gVar 2) (c2 addD (cCon (.int 1)) (cCall jM (cCons (cVar 1) (cCons (cCon (.int 4)) cNil)))))
  (sSeq (sAsg (gVar 3) (c2 addD (cCon (.int 1)) (cCall jM (cCons (cVar 1) (cCons (cCon (.int 4)) cNil)))))
  (sSeq (sRet (cAnd (cCall jk (cCons (cVar 2) cNil)) (cAnd (cCall jk (cCons (cVar 3) cNil)) (cAnd (cCall jj (cCons (cVar 2) cNil)) (cAnd (cCall jj (cCons (cVar 3) cNil)) (cCall jk (cCons (cVar 2) cNil)))))))
  sNext))))
@[irreducible] noncomputable def  vj : List D → M D := runDef 4 Wa
end My
namespace My
open PySem PySem.Spec PyProof.Rows L2 MM
noncomputable def top (i : Nat) : Stmt := PySem.Challenge.pw_pactboards_k54_known_tables.main.body.getD i (.Pass ⟨0, 0, 0, 0⟩)
noncomputable abbrev jD : Stmt := top 4
noncomputable abbrev yF : Stmt := top 5
noncomputable abbrev yB : Stmt := top 6
noncomputable abbrev yt : Stmt := top 7
noncomputable abbrev jr : Stmt := top 8
noncomputable abbrev jN : Stmt := top 9
noncomputable abbrev jq : Stmt := top 10
noncomputable abbrev jI : Stmt := top 11
noncomputable abbrev jO : Stmt := top 13
noncomputable abbrev yU : Stmt := top 15
noncomputable abbrev yV : Stmt := top 16
noncomputable abbrev zV : Stmt := top 17
noncomputable abbrev wW : Stmt := top 18
noncomputable abbrev yy : Stmt := top 19
noncomputable abbrev yf : Stmt := top 24
noncomputable abbrev jo : Stmt := top 28
noncomputable abbrev jt : Stmt := top 30
noncomputable abbrev jw : Stmt := top 31
noncomputable abbrev j6 : Stmt := top 32
noncomputable abbrev ya : Stmt := top 33
noncomputable abbrev yn : Stmt := top 34
noncomputable abbrev yC : Stmt := top 35
noncomputable abbrev jp : Stmt := top 36
noncomputable abbrev j3 : Stmt := top 12
noncomputable abbrev yd : Stmt := top 23
noncomputable abbrev jA : Stmt := top 27
noncomputable abbrev jS : Stmt := top 26
noncomputable abbrev jv : Stmt := top 25
noncomputable abbrev ja : Stmt := top 37
noncomputable abbrev yZ : Stmt := top 38
theorem jaH : NameOk "FIGURES" := nok (by nofun)
theorem Zs : NameOk "MOST_FIGURES" := nok (by nofun)
theorem jat : NameOk "_law_add" := nok (by nofun)
theorem JV : NameOk "_law_base" := nok (by nofun)
theorem zD : NameOk "_law_cell" := nok (by nofun)
theorem Jz : NameOk "_law_cells" := nok (by nofun)
theorem yE : NameOk "_law_d" := nok (by nofun)
theorem jag : NameOk "_law_deal" := nok (by nofun)
theorem jg : NameOk "_law_deal_here" := nok (by nofun)
theorem JU : NameOk "_law_draw" := nok (by nofun)
theorem Wx : NameOk "_law_first" := nok (by nofun)
theorem va : NameOk "_law_handed_on" := nok (by nofun)
theorem Jf : NameOk "_law_looked" := nok (by nofun)
theorem vC : NameOk "_law_many" := nok (by nofun)
theorem WO : NameOk "_law_marks" := nok (by nofun)
theorem JQ : NameOk "_law_meek" := nok (by nofun)
theorem je : NameOk "_law_n" := nok (by nofun)
theorem yM : NameOk "_law_number" := nok (by nofun)
theorem v4 : NameOk "_law_one" := nok (by nofun)
theorem vb : NameOk "_law_other" := nok (by nofun)
theorem Ww : NameOk "_law_plain" := nok (by nofun)
theorem w6 : NameOk "_law_right" := nok (by nofun)
theorem jaB : NameOk "_law_row" := nok (by nofun)
theorem JT : NameOk "_law_rows" := nok (by nofun)
theorem jG : NameOk "_law_s" := nok (by nofun)
theorem Jd : NameOk "_law_script" := nok (by nofun)
theorem jac : NameOk "_law_swap" := nok (by nofun)
theorem yx : NameOk "_law_table" := nok (by nofun)
theorem jaW : NameOk "add" := nok (by nofun)
theorem ZM : NameOk "answer" := nok (by nofun)
theorem jaC : NameOk "answers" := nok (by nofun)
theorem ZO : NameOk "by_one" := nok (by nofun)
theorem JP : NameOk "by_other" := nok (by nofun)
theorem yc : NameOk "deed" := nok (by nofun)
theorem jbc : NameOk "empty" := nok (by nofun)
theorem WE : NameOk "first" := nok (by nofun)
theorem Zx : NameOk "goal" := nok (by nofun)
theorem Wz : NameOk "is_laying" := nok (by nofun)
theorem jaz : NameOk "is_look" := nok (by nofun)
theorem Zq : NameOk "is_meek" := nok (by nofun)
theorem JS : NameOk "is_plain" := nok (by nofun)
theorem W3 : NameOk "is_state" := nok (by nofun)
theorem WU : NameOk "is_table" := nok (by nofun)
theorem jaP : NameOk "layings" := nok (by nofun)
theorem jbf : NameOk "mark" := nok (by nofun)
theorem jaQ : NameOk "meek_at" := nok (by nofun)
theorem nk_n : NameOk "n" := nok (by nofun)
theorem yh : NameOk "next_state" := nok (by nofun)
theorem Zb : NameOk "one" := nok (by nofun)
theorem Jp : NameOk "one_first" := nok (by nofun)
theorem J4 : NameOk "other" := nok (by nofun)
theorem vO : NameOk "other_first" := nok (by nofun)
theorem Zy : NameOk "pair" := nok (by nofun)
theorem jal : NameOk "part" := nok (by nofun)
theorem Wy : NameOk "plain" := nok (by nofun)
theorem ZD : NameOk "read_number" := nok (by nofun)
theorem WI : NameOk "read_pair" := nok (by nofun)
theorem ZR : NameOk "read_state" := nok (by nofun)
theorem ZP : NameOk "read_table" := nok (by nofun)
theorem wB : NameOk "row" := nok (by nofun)
theorem jbd : NameOk "sign" := nok (by nofun)
theorem jC : NameOk "state" := nok (by nofun)
theorem ZY : NameOk "state_text" := nok (by nofun)
theorem jap : NameOk "swap" := nok (by nofun)
theorem jd : NameOk "table" := nok (by nofun)
theorem Z7 : NameOk "table_text" := nok (by nofun)
theorem jao : NameOk "text" := nok (by nofun)
theorem jam : NameOk "told" := nok (by nofun)
theorem nk_v : NameOk "v" := nok (by nofun)
theorem wk : NameOk "word" := nok (by nofun)
theorem ve : bootBuiltins ("all" : Str) = some (.builtin "all") := by nofun
theorem Wg : bootBuiltins ("int" : Str) = some (.type "int") := by nofun
theorem ym : bootBuiltins ("len" : Str) = some (.builtin "len") := by nofun
theorem jbe : bootBuiltins ("list" : Str) = some (.type "list") := by nofun
theorem ja0 : bootBuiltins ("max" : Str) = some (.builtin "max") := by nofun
theorem jaa : bootBuiltins ("reversed" : Str) = some (.type "reversed") := by nofun
theorem jn : bootBuiltins ("tuple" : Str) = some (.type "tuple") := by nofun
set_option genInjectivity false in
structure Txt (K : PySem.W.Frag) (mg : Str → Option Value) where
 zh : Addr
 yP : FuncData
 jH : Fun K "next_state" "next_state" jD zh yP
 jb : mg "next_state" = some (.ref zh)
 vd : Addr
 wD : FuncData
 vf : Fun K "answer" "answer" yF vd wD
 yv : mg "answer" = some (.ref vd)
 wz : Addr
 wb : FuncData
 vn : Fun K "answers" "answers" yB wz wb
 yA : mg "answers" = some (.ref wz)
 wH : Addr
 z3 : FuncData
 vv : Fun K "is_look" "is_look" yt wH z3
 j9 : mg "is_look" = some (.ref wH)
 zy : Addr
 zb : FuncData
 wo : Fun K "is_laying" "is_laying" jr zy zb
 jy : mg "is_laying" = some (.ref zy)
 zS : Addr
 zA : FuncData
 z6 : Fun K "is_plain" "is_plain" jN zS zA
 ju : mg "is_plain" = some (.ref zS)
 wG : Addr
 z0 : FuncData
 vp : Fun K "meek_at" "meek_at" jq wG z0
 j7 : mg "meek_at" = some (.ref wG)
 wE : Addr
 zR : FuncData
 wI : Fun K "is_meek" "is_meek" jI wE zR
 jx : mg "is_meek" = some (.ref wE)
 zW : Addr
 zC : FuncData
 wR : Fun K "is_state" "is_state" jO zW zC
 j2 : mg "is_state" = some (.ref zW)
 vR : Addr
 vc : FuncData
 vT : Fun K "first" "first" yU vR vc
 yi : mg "first" = some (.ref vR)
 vV : Addr
 fd_plain : FuncData
 vN : Fun K "plain" "plain" yV vV fd_plain
 yj : mg "plain" = some (.ref vV)
 Jn : Addr
 vU : FuncData
 Jr : Fun K "swap" "swap" zV Jn vU
 yR : mg "swap" = some (.ref Jn)
 Zo : Addr
 Ju : FuncData
 Zr : Fun K "add" "add" wW Zo Ju
 zG : mg "add" = some (.ref Zo)
 Jy : Addr
 vK : FuncData
 Ze : Fun K "mark" "mark" yy Jy vK
 zn : mg "mark" = some (.ref Jy)
 zd : Addr
 yO : FuncData
 z4 : Fun K "state_text" "state_text" yf zd yO
 jT : mg "state_text" = some (.ref zd)
 yQ : Addr
 yz : FuncData
 zH : Fun K "read_number" "read_number" jo yQ yz
 js : mg "read_number" = some (.ref yQ)
 wj : Addr
 zt : FuncData
 wS : Fun K "_law_deal" "_law_deal" jt wj zt
 yq : mg "_law_deal" = some (.ref wj)
 zT : Addr
 zF : FuncData
 z5 : Fun K "_law_draw" "_law_draw" jw zT zF
 jM : mg "_law_draw" = some (.ref zT)
 zB : Addr
 zo : FuncData
 wm : Fun K "_law_first" "_law_first" j6 zB zo
 jz : mg "_law_first" = some (.ref zB)
 zu : Addr
 zl : FuncData
 wn : Fun K "_law_plain" "_law_plain" ya zu zl
 jB : mg "_law_plain" = some (.ref zu)
 z9 : Addr
 zz : FuncData
 wX : Fun K "_law_swap" "_law_swap" yn z9 zz
 jQ : mg "_law_swap" = some (.ref z9)
 wA : Addr
 wc : FuncData
 vy : Fun K "_law_add" "_law_add" yC wA wc
 j8 : mg "_law_add" = some (.ref wA)
 zw : Addr
 y9 : FuncData
 yT : Fun K "_law_right" "_law_right" jp zw y9
 jk : mg "_law_right" = some (.ref zw)
 wf : Addr
 zx : FuncData
 wT : Fun K "is_table" "is_table" j3 wf zx
 j0 : mg "is_table" = some (.ref wf)
 zi : Addr
 yK : FuncData
 wd : Fun K "table_text" "table_text" yd zi yK
 jE : mg "table_text" = some (.ref zi)
 zE : Addr
 za : FuncData
 wu : Fun K "read_pair" "read_pair" jA zE za
 yb : mg "read_pair" = some (.ref zE)
 zj : Addr
 yL : FuncData
 zQ : Fun K "read_state" "read_state" jS zj yL
 jV : mg "read_state" = some (.ref zj)
 zg : Addr
 yS : FuncData
 zZ : Fun K "read_table" "read_table" jv zg yS
 jF : mg "read_table" = some (.ref zg)
 yp : Addr
 ye : FuncData
 yk : Fun K "_law_handed_on" "_law_handed_on" ja yp ye
 jj : mg "_law_handed_on" = some (.ref yp)
 Jb : Addr
 Jv : FuncData
 jaA : Fun K "law" "law" yZ Jb Jv
 vj : mg "law" = some (.ref Jb)
 zK : mg "all" = none
 yW : mg "enumerate" = none
 vx : mg "int" = none
 j5 : mg "len" = none
 vL : mg "list" = none
 v5 : mg "max" = none
 ji : mg "range" = none
 zp : mg "reversed" = none
 jl : mg "tuple" = none
 k_FIGURES : Tok
 g_FIGURES : mg "FIGURES" = some (.str "0123456789" k_FIGURES)
 k_MOST_FIGURES : Tok
 g_MOST_FIGURES : mg "MOST_FIGURES" = some (.int 3 k_MOST_FIGURES)
section
variable {P : Program} {w : World} {K : PySem.W.Frag} {mg : Str → Option Value} {base : Heap}
theorem Jm : LK jD "deed" .local := by nofun
theorem Jg : LK jD "state" .local := by nofun
theorem Jh : LK jD "table" .local := by nofun
theorem Z5 : FnScope ["table", "state", "deed"] ["table", "state", "deed"] (defScope jD) := ⟨rfl, rfl, rfl, by nofun, rfl, by nofun, by nofun⟩
theorem wM (T : Txt K mg) : L2.Binds K T.yP ["table", "state", "deed"] [] := T.jH.binds (ps := ["table", "state", "deed"]) fun _ _ _ _ _ _ us hl => le3 (fun _ _ _ => rfl) us hl
theorem wN (T : Txt K mg) : FnOk P w K mg base CX0 1 T.zh T.yP ["table", "state", "deed"] (spOf K 3 jb) := by
 have q : FnOk P w K mg base CX0 (0 + 1) T.zh T.yP ["table", "state", "deed"] (spOf K 3 (runDef 3 zf)) := by
  refine Qgu (k := 0) (N := ["table", "state", "deed"]) (body := zf) T.jH Z5 rfl rfl (fun cdv A outer s H E hr => ?_)
  exact (@Qeu _ _ _ _ _ (@Qew _ _ _ _ (Qd8 (Qgt hr) (Qd8 (Qgt hr) (Qd8 (Qgt hr) (Qgm Qgi 0 rfl Jh jd) (Qgm Qgi 1 rfl Jg jC) (fun _ _ => rfl)) (Qgm Qgi 2 rfl Jm yc) (fun _ _ => rfl)) Qc3 (fun _ _ => rfl)))
  Qet)
 unfold jb
 exact q
theorem ZG : LK yF "deed" .local := by nofun
theorem Zh : LK yF "state" .local := by nofun
theorem J9 : LK yF "table" .local := by nofun
theorem ja9 : FnScope ["table", "state", "deed"] ["table", "state", "deed"] (defScope yF) := ⟨rfl, rfl, rfl, by nofun, rfl, by nofun, by nofun⟩
theorem ja4 (T : Txt K mg) : L2.Binds K T.wD ["table", "state", "deed"] [] := T.vf.binds (ps := ["table", "state", "deed"]) fun _ _ _ _ _ _ us hl => le3 (fun _ _ _ => rfl) us hl
theorem ja6 (T : Txt K mg) : FnOk P w K mg base CX0 1 T.vd T.wD ["table", "state", "deed"] (spOf K 3 yv) := by
 have q : FnOk P w K mg base CX0 (0 + 1) T.vd T.wD ["table", "state", "deed"] (spOf K 3 (runDef 3 v3)) := by
  refine Qgu (k := 0) (N := ["table", "state", "deed"]) (body := v3) T.vf ja9 rfl rfl (fun cdv A outer s H E hr => ?_)
  exact (@Qeu _ _ _ _ _ (@Qew _ _ _ _ (Qd8 (Qgt hr) (Qd8 (Qgt hr) (Qd8 (Qgt hr) (Qgm Qgi 0 rfl J9 jd) (Qgm Qgi 1 rfl Zh jC) (fun _ _ => rfl)) (Qgm Qgi 2 rfl ZG yc) (fun _ _ => rfl)) Qc3 (fun _ _ => rfl)))
  Qet)
 unfold yv
 exact q
theorem ZJ : LK yB "max" .globalImplicit := by nofun
theorem JW : LK yB "table" .local := by nofun
theorem jau : FnScope ["table", "deed"] ["table", "deed"] (defScope yB) := ⟨rfl, rfl, rfl, by nofun, rfl, by nofun, by nofun⟩
theorem jaE (T : Txt K mg) : L2.Binds K T.wb ["table", "deed"] [] := T.vn.binds (ps := ["table", "deed"]) fun _ _ _ _ _ _ us hl => le2 (fun _ _ => rfl) us hl
theorem jaG (T : Txt K mg) : FnOk P w K mg base CX0 1 T.wz T.wb ["table", "deed"] (spOf K 2 yA) := by
 have q : FnOk P w K mg base CX0 (0 + 1) T.wz T.wb ["table", "deed"] (spOf K 2 (runDef 2 vw)) := by
  refine Qgu (k := 0) (N := ["table", "deed"]) (body := vw) T.vn jau rfl rfl (fun cdv A outer s H E hr => ?_)
  exact (@Qeu _ _ _ _ _ (@Qew _ _ _ _ (@Qc8 _ _ _ _ _ _ _ _ (@Qfm _) Qc3 (@QeV _ _ _ _ _ _ _ _ (@Qfa _ rfl) (Qgi.glo _ ZJ) T.v5 ja0 (@QeR _ _ _ _ _ _ _ _ _ _ _ _ _ _ rfl (@Qgk _ _ _ Qgi (by nofun)) (@Qgl _ ["table", "deed"] _ ["row", "deed"] 1 [1] rfl (by nofun)) (@QeJ _ _ _ _ (Qgm Qgi 0 rfl JW jd)) (fun _ _ _ => ⟨(@Qgn _ _ _ _ (Qgj (rfl)) 0 (show List.Nodup (["row", "deed"] : List Str) by nofun) rfl .local (by nofun) (by decide)), (@QeO _), (Qd8 (Qgt hr) (Qd8 (Qgt hr) (Qgm (k := .local) (Qgj (rfl)) 0 rfl (by nofun) wB) (Qgm (k := .free) (Qgj (rfl)) 1 rfl (by nofun) yc) (fun _ _ => rfl)) Qc3 (fun _ _ => rfl))⟩) (by intros; rfl)) (by decide) (by decide) (by rfl))))
  Qet)
 unfold yA
 exact q
theorem ZE : LK yt "all" .globalImplicit := by nofun
theorem v9 : LK yt "enumerate" .globalImplicit := by nofun
theorem J7 : LK yt "table" .local := by nofun
theorem jaD : FnScope ["table", "deed"] ["table", "deed"] (defScope yt) := ⟨rfl, rfl, rfl, by nofun, rfl, by nofun, by nofun⟩
theorem jaT (T : Txt K mg) : L2.Binds K T.z3 ["table", "deed"] [] := T.vv.binds (ps := ["table", "deed"]) fun _ _ _ _ _ _ us hl => le2 (fun _ _ => rfl) us hl
theorem jaq (T : Txt K mg) : FnOk P w K mg base CX0 1 T.wH T.z3 ["table", "deed"] (spOf K 2 j9) := by
 have q : FnOk P w K mg base CX0 (0 + 1) T.wH T.z3 ["table", "deed"] (spOf K 2 (runDef 2 vi)) := by
  refine Qgu (k := 0) (N := ["table", "deed"]) (body := vi) T.vv jaD rfl rfl (fun cdv A outer s H E hr => ?_)
  exact (@Qeu _ _ _ _ _ (@Qew _ _ _ _ (@QeV _ _ _ _ _ _ _ _ (@Qe9 _ rfl) (Qgi.glo _ ZE) T.zK ve (@QeR _ _ _ _ _ _ _ _ _ _ _ _ _ _ rfl (@Qgk _ _ _ Qgi (by nofun)) (@Qgl _ ["table", "deed"] _ ["state", "row", "deed"] 2 [1] rfl (by nofun)) (@Qfv _ _ _ _ _ _ _ _ (Qgi.glo _ v9) T.yW (Qgm Qgi 0 rfl J7 jd) (by rfl)) (fun _ _ _ => ⟨(@Qes _ _ _ _ _ _ rfl (@Qer _ _ _ _ _ (@Qgn _ _ _ _ (Qgj (rfl)) 0 (show List.Nodup (["state", "row", "deed"] : List Str) by nofun) rfl .local (by nofun) (by decide)) (@Qer _ _ _ _ _ (@Qgn _ _ _ _ (Qgj (rfl)) 1 (show List.Nodup (["state", "row", "deed"] : List Str) by nofun) rfl .local (by nofun) (by decide)) (@Qeq _) (by rfl)) (by rfl)) (by rfl) (by rfl)), (@QeO _), (Qc9 (Qfk (Qgt hr)) (Qd8 (Qgt hr) (Qd8 (Qgt hr) (Qgm (k := .local) (Qgj (rfl)) 1 rfl (by nofun) wB) (Qgm (k := .free) (Qgj (rfl)) 2 rfl (by nofun) yc) (fun _ _ => rfl)) Qc3 (fun _ _ => rfl)) (Qgm (k := .local) (Qgj (rfl)) 0 rfl (by nofun) jC) (Qbk _))⟩) (by intros; rfl)) (by decide) (by decide) (by rfl)))
  Qet)
 unfold j9
 exact q
theorem JY : LK jr "all" .globalImplicit := by nofun
theorem v7 : LK jr "answers" .globalImplicit := by nofun
theorem wO : LK jr "deed" .cell := by nofun
theorem JF : LK jr "goal" .cell := by nofun
theorem vg : LK jr "next_state" .globalImplicit := by nofun
theorem zc : LK jr "table" .local := by nofun
theorem Jq : FnScope ["table", "deed", "goal"] ["table", "deed"] (defScope jr) := ⟨rfl, rfl, rfl, by nofun, rfl, by nofun, by nofun⟩
theorem WL (T : Txt K mg) : L2.Binds K T.zb ["table", "deed"] [] := T.wo.binds (ps := ["table", "deed"]) fun _ _ _ _ _ _ us hl => le2 (fun _ _ => rfl) us hl
theorem Wo (T : Txt K mg) : FnOk P w K mg base CX0 2 T.zy T.zb ["table", "deed"] (spOf K 2 jy) := by
 have ja3 := jaG (P := P) (w := w) (base := base) T
 have ja5 := jaE T
 have jW := wN (P := P) (w := w) (base := base) T
 have jR := wM T
 have q : FnOk P w K mg base CX0 (1 + 1) T.zy T.zb ["table", "deed"] (spOf K 2 (runDef 3 wq)) := by
  refine Qgu (k := 1) (N := ["table", "deed", "goal"]) (body := wq) T.wo Jq rfl rfl (fun cdv A outer s H E hr => ?_)
  exact (@Qeu _ _ _ _ _ (@Qgo _ _ _ _ _ _ Qgi 2 Jq.nd rfl _ JF _ (Qgs Qgi vg jW (hr.mono (by decide)) T.jb T.jH.kp jR yh (Qd1 (Qgm Qgi 0 rfl zc jd) (Qd1 Qc3 (Qd1 (Qgm Qgi 1 rfl wO yc) Qd0))) (Qgq (Qgq (Qgq Qgr)))) (by decide) (by rfl))
  (@Qeu _ _ _ _ _ (@Qew _ _ _ _ (@Qek _ _ _ _ _ _ _ (Qc9 (Qfk (Qgt hr)) (Qgs Qgi v7 ja3 (hr.mono (by decide)) T.yA T.vn.kp ja5 jaC (Qd1 (Qgm Qgi 0 rfl zc jd) (Qd1 (Qgm Qgi 1 rfl wO yc) Qd0)) (Qgq (Qgq Qgr))) Qc3 (Qbk _)) (Qej (@QeV _ _ _ _ _ _ _ _ (@Qe9 _ rfl) (Qgi.glo _ JY) T.zK ve (@QeR _ _ _ _ _ _ _ _ _ _ _ _ _ _ rfl (@Qgk _ _ _ Qgi (by nofun)) (@Qgl _ ["table", "deed", "goal"] _ ["row", "deed", "goal"] 1 [1, 2] rfl (by nofun)) (@QeJ _ _ _ _ (Qgm Qgi 0 rfl zc jd)) (fun _ _ _ => ⟨(@Qgn _ _ _ _ (Qgj (rfl)) 0 (show List.Nodup (["row", "deed", "goal"] : List Str) by nofun) rfl .local (by nofun) (by decide)), (@QeO _), (Qc9 (Qfk (Qgt hr)) (Qd8 (Qgt hr) (Qd8 (Qgt hr) (Qgm (k := .local) (Qgj (rfl)) 0 rfl (by nofun) wB) (Qgm (k := .free) (Qgj (rfl)) 1 rfl (by nofun) yc) (fun _ _ => rfl)) Qc3 (fun _ _ => rfl)) (Qgm (k := .free) (Qgj (rfl)) 2 rfl (by nofun) Zx) (Qbk _))⟩) (by intros; rfl)) (by decide) (by decide) (by rfl)))))
  Qet))
 unfold jy
 exact q
theorem Zf : LK jN "all" .globalImplicit := by nofun
theorem Zv : LK jN "len" .globalImplicit := by nofun
theorem JG : LK jN "range" .globalImplicit := by nofun
theorem JL : LK jN "table" .cell := by nofun
theorem WT : FnScope ["table"] ["table"] (defScope jN) := ⟨rfl, rfl, rfl, by nofun, rfl, by nofun, by nofun⟩
theorem W8 (T : Txt K mg) : L2.Binds K T.zA ["table"] [] := T.z6.binds (ps := ["table"]) fun _ _ _ _ _ _ us hl => le1 (fun _ => rfl) us hl
theorem W6 (T : Txt K mg) : FnOk P w K mg base CX0 3 T.zS T.zA ["table"] (spOf K 1 ju) := by
 have jai := Wo (P := P) (w := w) (base := base) T
 have WY := WL T
 have jaX := jaq (P := P) (w := w) (base := base) T
 have ja2 := jaT T
 have q : FnOk P w K mg base CX0 (2 + 1) T.zS T.zA ["table"] (spOf K 1 (runDef 1 wP)) := by
  refine Qgu (k := 2) (N := ["table"]) (body := wP) T.z6 WT rfl rfl (fun cdv A outer s H E hr => ?_)
  exact (@Qeu _ _ _ _ _ (@Qew _ _ _ _ (@QeV _ _ _ _ _ _ _ _ (@Qe9 _ rfl) (Qgi.glo _ Zf) T.zK ve (@QeR _ _ _ _ _ _ _ _ _ _ _ _ _ _ rfl (@Qgk _ _ _ Qgi (by nofun)) (@Qgl _ ["table"] _ ["deed", "table"] 1 [0] rfl (by nofun)) (@QeL _ _ _ _ _ _ (Qgi.glo _ JG) T.ji (@QeT _ _ _ _ _ _ _ _ (@QeZ _) (Qgi.glo _ Zv) T.j5 ym (Qd8 (Qgt hr) (Qgm Qgi 0 rfl JL jd) Qc3 (fun _ _ => rfl)) (by decide) (by decide) (by rfl)) (by rfl)) (fun _ _ _ => ⟨(@Qgn _ _ _ _ (Qgj (rfl)) 0 (show List.Nodup (["deed", "table"] : List Str) by nofun) rfl .local (by nofun) (by decide)), (@QeO _), (@Qel _ _ _ _ _ _ _ (Qgs (Qgj (rfl)) (by nofun) jaX (hr.mono (by decide)) T.j9 T.vv.kp ja2 jaz (Qd1 (Qgm (k := .free) (Qgj (rfl)) 1 rfl (by nofun) jd) (Qd1 (Qgm (k := .local) (Qgj (rfl)) 0 rfl (by nofun) yc) Qd0)) (Qgq (Qgq Qgr))) (Qej (Qgs (Qgj (rfl)) (by nofun) jai (hr.mono (by decide)) T.jy T.wo.kp WY Wz (Qd1 (Qgm (k := .free) (Qgj (rfl)) 1 rfl (by nofun) jd) (Qd1 (Qgm (k := .local) (Qgj (rfl)) 0 rfl (by nofun) yc) Qd0)) (Qgq (Qgq Qgr)))))⟩) (by intros; rfl)) (by decide) (by decide) (by rfl)))
  Qet)
 unfold ju
 exact q
theorem zr : LK jq "by_one" .local := by nofun
theorem yY : LK jq "by_other" .local := by nofun
theorem jY : LK jq "next_state" .globalImplicit := by nofun
theorem vX : LK jq "one" .local := by nofun
theorem yI : LK jq "one_first" .local := by nofun
theorem w4 : LK jq "other" .local := by nofun
theorem yu : LK jq "other_first" .local := by nofun
theorem w9 : LK jq "state" .local := by nofun
theorem yJ : LK jq "table" .local := by nofun
theorem wa : FnScope ["table", "one", "other", "state", "by_one", "by_other", "one_first", "other_first"] ["table", "one", "other", "state"] (defScope jq) := ⟨rfl, rfl, rfl, by nofun, rfl, by nofun, by nofun⟩
theorem jaF (T : Txt K mg) : L2.Binds K T.z0 ["table", "one", "other", "state"] [] := T.vp.binds (ps := ["table", "one", "other", "state"]) fun _ _ _ _ _ _ us hl => le4 (fun _ _ _ _ => rfl) us hl
theorem jaR (T : Txt K mg) : FnOk P w K mg base CX0 2 T.wG T.z0 ["table", "one", "other", "state"] (spOf K 4 j7) := by
 have jW := wN (P := P) (w := w) (base := base) T
 have jR := wM T
 have q : FnOk P w K mg base CX0 (1 + 1) T.wG T.z0 ["table", "one", "other", "state"] (spOf K 4 (runDef 8 vz)) := by
  refine Qgu (k := 1) (N := ["table", "one", "other", "state", "by_one", "by_other", "one_first", "other_first"]) (body := vz) T.vp wa rfl rfl (fun cdv A outer s H E hr => ?_)
  exact (@Qeu _ _ _ _ _ (@Qgo _ _ _ _ _ _ Qgi 4 wa.nd rfl _ zr _ (Qgs Qgi jY jW (hr.mono (by decide)) T.jb T.jH.kp jR yh (Qd1 (Qgm Qgi 0 rfl yJ jd) (Qd1 (Qgm Qgi 3 rfl w9 jC) (Qd1 (Qgm Qgi 1 rfl vX Zb) Qd0))) (Qgq (Qgq (Qgq Qgr)))) (by decide) (by rfl))
  (@Qeu _ _ _ _ _ (@Qgo _ _ _ _ _ _ Qgi 5 wa.nd rfl _ yY _ (Qgs Qgi jY jW (hr.mono (by decide)) T.jb T.jH.kp jR yh (Qd1 (Qgm Qgi 0 rfl yJ jd) (Qd1 (Qgm Qgi 3 rfl w9 jC) (Qd1 (Qgm Qgi 2 rfl w4 J4) Qd0))) (Qgq (Qgq (Qgq Qgr)))) (by decide) (by rfl))
  (@Qeu _ _ _ _ _ (@Qgo _ _ _ _ _ _ Qgi 6 wa.nd rfl _ yI _ (Qgs Qgi jY jW (hr.mono (by decide)) T.jb T.jH.kp jR yh (Qd1 (Qgm Qgi 0 rfl yJ jd) (Qd1 (Qgm Qgi 4 rfl zr ZO) (Qd1 (Qgm Qgi 2 rfl w4 J4) Qd0))) (Qgq (Qgq (Qgq Qgr)))) (by decide) (by rfl))
  (@Qeu _ _ _ _ _ (@Qgo _ _ _ _ _ _ Qgi 7 wa.nd rfl _ yu _ (Qgs Qgi jY jW (hr.mono (by decide)) T.jb T.jH.kp jR yh (Qd1 (Qgm Qgi 0 rfl yJ jd) (Qd1 (Qgm Qgi 5 rfl yY JP) (Qd1 (Qgm Qgi 1 rfl vX Zb) Qd0))) (Qgq (Qgq (Qgq Qgr)))) (by decide) (by rfl))
  (@Qeu _ _ _ _ _ (@Qew _ _ _ _ (@Qel _ _ _ _ _ _ _ (Qc9 (Qfk (Qgt hr)) (Qgm Qgi 6 rfl yI Jp) (Qgm Qgi 7 rfl yu vO) (Qbk _)) (@Qel _ _ _ _ _ _ _ (Qc9 (Qfk (Qgt hr)) (Qgm Qgi 6 rfl yI Jp) (Qgm Qgi 5 rfl yY JP) (Qbk _)) (Qej (Qc9 (Qfk (Qgt hr)) (Qgm Qgi 7 rfl yu vO) (Qgm Qgi 4 rfl zr ZO) (Qbk _))))))
  Qet)))))
 unfold j7
 exact q
theorem ZI : LK jI "all" .globalImplicit := by nofun
theorem vW : LK jI "len" .globalImplicit := by nofun
theorem vS : LK jI "one" .cell := by nofun
theorem J3 : LK jI "other" .cell := by nofun
theorem zN : LK jI "range" .globalImplicit := by nofun
theorem w8 : LK jI "table" .cell := by nofun
theorem v6 : FnScope ["table", "one", "other"] ["table"] (defScope jI) := ⟨rfl, rfl, rfl, by nofun, rfl, by nofun, by nofun⟩
theorem jaU (T : Txt K mg) : L2.Binds K T.zR ["table"] [] := T.wI.binds (ps := ["table"]) fun _ _ _ _ _ _ us hl => le1 (fun _ => rfl) us hl
theorem jay (T : Txt K mg) : FnOk P w K mg base CX0 3 T.wE T.zR ["table"] (spOf K 1 jx) := by
 have ja1 := jaR (P := P) (w := w) (base := base) T
 have ja8 := jaF T
 have q : FnOk P w K mg base CX0 (2 + 1) T.wE T.zR ["table"] (spOf K 1 (runDef 3 vo)) := by
  refine Qgu (k := 2) (N := ["table", "one", "other"]) (body := vo) T.wI v6 rfl rfl (fun cdv A outer s H E hr => ?_)
  exact (@Qeu _ _ _ _ _ (@QeM _ _ _ _ _ _ _ _ PassesOwn.never rfl (@QeL _ _ _ _ _ _ (Qgi.glo _ zN) T.ji (@QeT _ _ _ _ _ _ _ _ (@QeZ _) (Qgi.glo _ vW) T.j5 ym (Qd8 (Qgt hr) (Qgm Qgi 0 rfl w8 jd) Qc3 (fun _ _ => rfl)) (by decide) (by decide) (by rfl)) (by rfl)) (@Qgn _ _ _ _ Qgi 1 v6.nd rfl .cell vS (by decide))
   (@Qeu _ _ _ _ _ (@QeM _ _ _ _ _ _ _ _ PassesOwn.never rfl (@QeL _ _ _ _ _ _ (Qgi.glo _ zN) T.ji (Qgm Qgi 1 rfl vS Zb) (by rfl)) (@Qgn _ _ _ _ Qgi 2 v6.nd rfl .cell J3 (by decide))
    (@Qeu _ _ _ _ _ (@Qex _ _ _ _ _ _ _ (@Qei _ _ _ _ (@Qec _ _ _ (@QeV _ _ _ _ _ _ _ _ (@Qe9 _ rfl) (Qgi.glo _ ZI) T.zK ve (@QeR _ _ _ _ _ _ _ _ _ _ _ _ _ _ rfl (@Qgk _ _ _ Qgi (by nofun)) (@Qgl _ ["table", "one", "other"] _ ["state", "table", "one", "other"] 1 [0, 1, 2] rfl (by nofun)) (@QeL _ _ _ _ _ _ (Qgi.glo _ zN) T.ji (@QeT _ _ _ _ _ _ _ _ (@QeZ _) (Qgi.glo _ vW) T.j5 ym (Qgm Qgi 0 rfl w8 jd) (by decide) (by decide) (by rfl)) (by rfl)) (fun _ _ _ => ⟨(@Qgn _ _ _ _ (Qgj (rfl)) 0 (show List.Nodup (["state", "table", "one", "other"] : List Str) by nofun) rfl .local (by nofun) (by decide)), (@QeO _), (Qgs (Qgj (rfl)) (by nofun) ja1 (hr.mono (by decide)) T.j7 T.vp.kp ja8 jaQ (Qd1 (Qgm (k := .free) (Qgj (rfl)) 1 rfl (by nofun) jd) (Qd1 (Qgm (k := .free) (Qgj (rfl)) 2 rfl (by nofun) Zb) (Qd1 (Qgm (k := .free) (Qgj (rfl)) 3 rfl (by nofun) J4) (Qd1 (Qgm (k := .local) (Qgj (rfl)) 0 rfl (by nofun) jC) Qd0)))) (Qgq (Qgq (Qgq (Qgq Qgr)))))⟩) (by intros; rfl)) (by decide) (by decide) (by rfl)) (by intros; rfl)))
     (@Qeu _ _ _ _ _ (@Qew _ _ _ _ (@Qc4 _ _ _ _))
     Qet) _
     Qet)
    Qet) (by intros; rfl))
   Qet) (by intros; rfl))
  (@Qeu _ _ _ _ _ (@Qew _ _ _ _ (@Qc4 _ _ _ _))
  Qet))
 unfold jx
 exact q
theorem Zd : LK jO "all" .globalImplicit := by nofun
theorem vk : LK jO "len" .globalImplicit := by nofun
theorem vh : LK jO "row" .local := by nofun
theorem JN : LK jO "table" .cell := by nofun
theorem WS : FnScope ["table", "row"] ["table", "row"] (defScope jO) := ⟨rfl, rfl, rfl, by nofun, rfl, by nofun, by nofun⟩
theorem W9 (T : Txt K mg) : L2.Binds K T.zC ["table", "row"] [] := T.wR.binds (ps := ["table", "row"]) fun _ _ _ _ _ _ us hl => le2 (fun _ _ => rfl) us hl
theorem jad (T : Txt K mg) : FnOk P w K mg base CX0 1 T.zW T.zC ["table", "row"] (spOf K 2 j2) := by
 have q : FnOk P w K mg base CX0 (0 + 1) T.zW T.zC ["table", "row"] (spOf K 2 (runDef 2 wV)) := by
  refine Qgu (k := 0) (N := ["table", "row"]) (body := wV) T.wR WS rfl rfl (fun cdv A outer s H E hr => ?_)
  exact (@Qeu _ _ _ _ _ (@Qex _ _ _ _ _ _ _ (@Qed _ _ _ _ _ _ _ _ (Qfl (Qgt hr)) (@QeT _ _ _ _ _ _ _ _ (@QeZ _) (Qgi.glo _ vk) T.j5 ym (Qgm Qgi 1 rfl vh wB) (by decide) (by decide) (by rfl)) (@QeT _ _ _ _ _ _ _ _ (@QeZ _) (Qgi.glo _ vk) T.j5 ym (Qd8 (Qgt hr) (Qgm Qgi 0 rfl JN jd) Qc3 (fun _ _ => rfl)) (by decide) (by decide) (by rfl)) (Qbk _))
   (@Qeu _ _ _ _ _ (@Qew _ _ _ _ (@Qc4 _ _ _ _))
   Qet) _
   Qet)
  (@Qeu _ _ _ _ _ (@Qew _ _ _ _ (@QeV _ _ _ _ _ _ _ _ (@Qe9 _ rfl) (Qgi.glo _ Zd) T.zK ve (@QeR _ _ _ _ _ _ _ _ _ _ _ _ _ _ rfl (@Qgk _ _ _ Qgi (by nofun)) (@Qgl _ ["table", "row"] _ ["goal", "told", "table"] 2 [0] rfl (by nofun)) (@QeJ _ _ _ _ (Qgm Qgi 1 rfl vh wB)) (fun _ _ _ => ⟨(@Qes _ _ _ _ _ _ rfl (@Qer _ _ _ _ _ (@Qgn _ _ _ _ (Qgj (rfl)) 0 (show List.Nodup (["goal", "told", "table"] : List Str) by nofun) rfl .local (by nofun) (by decide)) (@Qer _ _ _ _ _ (@Qgn _ _ _ _ (Qgj (rfl)) 1 (show List.Nodup (["goal", "told", "table"] : List Str) by nofun) rfl .local (by nofun) (by decide)) (@Qeq _) (by rfl)) (by rfl)) (by rfl) (by rfl)), (@QeO _), (@Qek _ _ _ _ _ _ _ (@Qen _ _ _ _ _ _ _ _ _ _ _ _ (@QdX _) QdW Qc3 (Qgm (k := .local) (Qgj (rfl)) 0 rfl (by nofun) Zx) (@QeT _ _ _ _ _ _ _ _ (@QeZ _) ((Qgj (rfl)).glo _ (by nofun)) T.j5 ym (Qgm (k := .free) (Qgj (rfl)) 2 rfl (by nofun) jd) (by decide) (by decide) (by rfl)) (by with_unfolding_all rfl)) (Qej (Qc9 (@QdZ _) (Qgm (k := .local) (Qgj (rfl)) 1 rfl (by nofun) jam) Qc3 (Qbk _))))⟩) (by intros; rfl)) (by decide) (by decide) (by rfl)))
  Qet))
 unfold j2
 exact q
theorem v0 : LK yU "empty" .local := by nofun
theorem Zg : LK yU "n" .cell := by nofun
theorem vP : LK yU "range" .globalImplicit := by nofun
theorem vM : LK yU "tuple" .globalImplicit := by nofun
theorem WQ : FnScope ["n", "empty"] ["n"] (defScope yU) := ⟨rfl, rfl, rfl, by nofun, rfl, by nofun, by nofun⟩
theorem WG (T : Txt K mg) : L2.Binds K T.vc ["n"] [] := T.vT.binds (ps := ["n"]) fun _ _ _ _ _ _ us hl => le1 (fun _ => rfl) us hl
theorem Wr (T : Txt K mg) : FnOk P w K mg base CX0 1 T.vR T.vc ["n"] (spOf K 1 yi) := by
 have q : FnOk P w K mg base CX0 (0 + 1) T.vR T.vc ["n"] (spOf K 1 (runDef 2 JE)) := by
  refine Qgu (k := 0) (N := ["n", "empty"]) (body := JE) T.vT WQ rfl rfl (fun cdv A outer s H E hr => ?_)
  exact (@Qeu _ _ _ _ _ (@Qgo _ _ _ _ _ _ Qgi 1 WQ.nd rfl _ v0 _ (@QeW _ _ _ _ _ _ _ _ (@Qe1 _) (Qgi.glo _ vM) T.jl jn (@QeR _ _ _ _ _ _ _ _ _ _ _ _ _ _ rfl (@Qgk _ _ _ Qgi (by nofun)) (@Qgl _ ["n", "empty"] _ ["v"] 1 [] rfl (by nofun)) (@QfG _ _ _ _ _ _ _ _ (Qgi.glo _ vP) T.ji Qc3 (@Qc8 _ _ _ _ _ _ _ _ (@Qfm _) (Qgm Qgi 0 rfl Zg nk_n) Qc3) (by rfl) (by rfl) (by rfl) (by rfl)) (fun _ _ _ => ⟨(@Qgn _ _ _ _ (Qgj (rfl)) 0 (show List.Nodup (["v"] : List Str) by nofun) rfl .local (by nofun) (by decide)), (@QeO _), (@Qd2 _ _ _ _ _ (Qd1 (Qgm (k := .local) (Qgj (rfl)) 0 rfl (by nofun) nk_v) (Qd1 (Qgm (k := .local) (Qgj (rfl)) 0 rfl (by nofun) nk_v) Qd0)))⟩) (by intros; rfl)) (by decide) (by decide) (by rfl)) (by decide) (by rfl))
  (@Qeu _ _ _ _ _ (@Qew _ _ _ _ (@Qc8 _ _ _ _ _ _ _ _ (@Qfm _) (@Qd2 _ _ _ _ _ (Qd1 (Qgm Qgi 1 rfl v0 jbc) Qd0)) (@QeW _ _ _ _ _ _ _ _ (@Qe1 _) (Qgi.glo _ vM) T.jl jn (@QeR _ _ _ _ _ _ _ _ _ _ _ _ _ _ rfl (@Qgk _ _ _ Qgi (by nofun)) (@Qgl _ ["n", "empty"] _ ["v", "n"] 1 [0] rfl (by nofun)) (@QfG _ _ _ _ _ _ _ _ (Qgi.glo _ vP) T.ji Qc3 (@Qc8 _ _ _ _ _ _ _ _ (@Qfm _) (Qgm Qgi 0 rfl Zg nk_n) Qc3) (by rfl) (by rfl) (by rfl) (by rfl)) (fun _ _ _ => ⟨(@Qgn _ _ _ _ (Qgj (rfl)) 0 (show List.Nodup (["v", "n"] : List Str) by nofun) rfl .cell (by nofun) (by decide)), (@QeO _), (@QeW _ _ _ _ _ _ _ _ (@Qe1 _) ((Qgj (rfl)).glo _ (by nofun)) T.jl jn (@QeR _ _ _ _ _ _ _ _ _ _ _ _ _ _ rfl (@Qgk _ _ _ (Qgj (rfl)) (by nofun)) (@Qgl _ ["v", "n"] _ ["deed", "v"] 1 [0] rfl (by nofun)) (@QeL _ _ _ _ _ _ ((Qgj (rfl)).glo _ (by nofun)) T.ji (Qgm (k := .free) (Qgj (rfl)) 1 rfl (by nofun) nk_n) (by rfl)) (fun _ _ _ => ⟨(@Qgn _ _ _ _ (Qgj (rfl)) 0 (show List.Nodup (["deed", "v"] : List Str) by nofun) rfl .local (by nofun) (by decide)), (@QeO _), (@Qd2 _ _ _ _ _ (Qd1 (Qgm (k := .free) (Qgj (rfl)) 1 rfl (by nofun) nk_v) (Qd1 (Qgm (k := .free) (Qgj (rfl)) 1 rfl (by nofun) nk_v) Qd0)))⟩) (by intros; rfl)) (by decide) (by decide) (by rfl))⟩) (by intros; rfl)) (by decide) (by decide) (by rfl))))
  Qet))
 unfold yi
 exact q
theorem J0 : LK yV "layings" .cell := by nofun
theorem Zt : LK yV "n" .local := by nofun
theorem vY : LK yV "range" .globalImplicit := by nofun
theorem vQ : LK yV "tuple" .globalImplicit := by nofun
theorem Wt : FnScope ["n", "layings"] ["n"] (defScope yV) := ⟨rfl, rfl, rfl, by nofun, rfl, by nofun, by nofun⟩
theorem WP (T : Txt K mg) : L2.Binds K T.fd_plain ["n"] [] := T.vN.binds (ps := ["n"]) fun _ _ _ _ _ _ us hl => le1 (fun _ => rfl) us hl
theorem Wh (T : Txt K mg) : FnOk P w K mg base CX0 1 T.vV T.fd_plain ["n"] (spOf K 1 yj) := by
 have q : FnOk P w K mg base CX0 (0 + 1) T.vV T.fd_plain ["n"] (spOf K 1 (runDef 2 JD)) := by
  refine Qgu (k := 0) (N := ["n", "layings"]) (body := JD) T.vN Wt rfl rfl (fun cdv A outer s H E hr => ?_)
  exact (@Qeu _ _ _ _ _ (@Qgo _ _ _ _ _ _ Qgi 1 Wt.nd rfl _ J0 _ (@QeW _ _ _ _ _ _ _ _ (@Qe1 _) (Qgi.glo _ vQ) T.jl jn (@QeR _ _ _ _ _ _ _ _ _ _ _ _ _ _ rfl (@Qgk _ _ _ Qgi (by nofun)) (@Qgl _ ["n", "layings"] _ ["v"] 1 [] rfl (by nofun)) (@QeL _ _ _ _ _ _ (Qgi.glo _ vY) T.ji (Qgm Qgi 0 rfl Zt nk_n) (by rfl)) (fun _ _ _ => ⟨(@Qgn _ _ _ _ (Qgj (rfl)) 0 (show List.Nodup (["v"] : List Str) by nofun) rfl .local (by nofun) (by decide)), (@QeO _), (@Qd2 _ _ _ _ _ (Qd1 (Qgm (k := .local) (Qgj (rfl)) 0 rfl (by nofun) nk_v) (Qd1 Qc3 Qd0)))⟩) (by intros; rfl)) (by decide) (by decide) (by rfl)) (by decide) (by rfl))
  (@Qeu _ _ _ _ _ (@Qew _ _ _ _ (@QeW _ _ _ _ _ _ _ _ (@Qe1 _) (Qgi.glo _ vQ) T.jl jn (@QeR _ _ _ _ _ _ _ _ _ _ _ _ _ _ rfl (@Qgk _ _ _ Qgi (by nofun)) (@Qgl _ ["n", "layings"] _ ["state", "layings"] 1 [1] rfl (by nofun)) (@QeL _ _ _ _ _ _ (Qgi.glo _ vY) T.ji (Qgm Qgi 0 rfl Zt nk_n) (by rfl)) (fun _ _ _ => ⟨(@Qgn _ _ _ _ (Qgj (rfl)) 0 (show List.Nodup (["state", "layings"] : List Str) by nofun) rfl .local (by nofun) (by decide)), (@QeO _), (@Qc8 _ _ _ _ _ _ _ _ (@Qfm _) (@Qd2 _ _ _ _ _ (Qd1 (@Qd2 _ _ _ _ _ (Qd1 (Qgm (k := .local) (Qgj (rfl)) 0 rfl (by nofun) jC) (Qd1 (Qgm (k := .local) (Qgj (rfl)) 0 rfl (by nofun) jC) Qd0))) Qd0)) (Qgm (k := .free) (Qgj (rfl)) 1 rfl (by nofun) jaP))⟩) (by intros; rfl)) (by decide) (by decide) (by rfl)))
  Qet))
 unfold yj
 exact q
theorem jaY : LK zV "n" .cell := by nofun
theorem Z3 : LK zV "range" .globalImplicit := by nofun
theorem ZX : LK zV "tuple" .globalImplicit := by nofun
theorem jbg : FnScope ["n"] ["n"] (defScope zV) := ⟨rfl, rfl, rfl, by nofun, rfl, by nofun, by nofun⟩
theorem jan (T : Txt K mg) : L2.Binds K T.vU ["n"] [] := T.Jr.binds (ps := ["n"]) fun _ _ _ _ _ _ us hl => le1 (fun _ => rfl) us hl
theorem jak (T : Txt K mg) : FnOk P w K mg base CX0 1 T.Jn T.vU ["n"] (spOf K 1 yR) := by
 have q : FnOk P w K mg base CX0 (0 + 1) T.Jn T.vU ["n"] (spOf K 1 (runDef 1 Zm)) := by
  refine Qgu (k := 0) (N := ["n"]) (body := Zm) T.Jr jbg rfl rfl (fun cdv A outer s H E hr => ?_)
  exact (@Qeu _ _ _ _ _ (@Qew _ _ _ _ (@QeW _ _ _ _ _ _ _ _ (@Qe1 _) (Qgi.glo _ ZX) T.jl jn (@QeR _ _ _ _ _ _ _ _ _ _ _ _ _ _ rfl (@Qgk _ _ _ Qgi (by nofun)) (@Qgl _ ["n"] _ ["state", "n"] 1 [0] rfl (by nofun)) (@QeL _ _ _ _ _ _ (Qgi.glo _ Z3) T.ji (Qgm Qgi 0 rfl jaY nk_n) (by rfl)) (fun _ _ _ => ⟨(@Qgn _ _ _ _ (Qgj (rfl)) 0 (show List.Nodup (["state", "n"] : List Str) by nofun) rfl .cell (by nofun) (by decide)), (@QeO _), (@QeW _ _ _ _ _ _ _ _ (@Qe1 _) ((Qgj (rfl)).glo _ (by nofun)) T.jl jn (@QeR _ _ _ _ _ _ _ _ _ _ _ _ _ _ rfl (@Qgk _ _ _ (Qgj (rfl)) (by nofun)) (@Qgl _ ["state", "n"] _ ["v", "state"] 1 [0] rfl (by nofun)) (@QeL _ _ _ _ _ _ ((Qgj (rfl)).glo _ (by nofun)) T.ji (Qgm (k := .free) (Qgj (rfl)) 1 rfl (by nofun) nk_n) (by rfl)) (fun _ _ _ => ⟨(@Qgn _ _ _ _ (Qgj (rfl)) 0 (show List.Nodup (["v", "state"] : List Str) by nofun) rfl .local (by nofun) (by decide)), (@QeO _), (@Qd2 _ _ _ _ _ (Qd1 (Qgm (k := .local) (Qgj (rfl)) 0 rfl (by nofun) nk_v) (Qd1 (Qgm (k := .free) (Qgj (rfl)) 1 rfl (by nofun) jC) Qd0)))⟩) (by intros; rfl)) (by decide) (by decide) (by rfl))⟩) (by intros; rfl)) (by decide) (by decide) (by rfl)))
  Qet)
 unfold yR
 exact q
theorem jbb : LK wW "n" .cell := by nofun
theorem WH : LK wW "range" .globalImplicit := by nofun
theorem Wn : LK wW "tuple" .globalImplicit := by nofun
theorem jbj : FnScope ["n"] ["n"] (defScope wW) := ⟨rfl, rfl, rfl, by nofun, rfl, by nofun, by nofun⟩
theorem jaV (T : Txt K mg) : L2.Binds K T.Ju ["n"] [] := T.Zr.binds (ps := ["n"]) fun _ _ _ _ _ _ us hl => le1 (fun _ => rfl) us hl
theorem jba (T : Txt K mg) : FnOk P w K mg base CX0 1 T.Zo T.Ju ["n"] (spOf K 1 zG) := by
 have q : FnOk P w K mg base CX0 (0 + 1) T.Zo T.Ju ["n"] (spOf K 1 (runDef 1 Z9)) := by
  refine Qgu (k := 0) (N := ["n"]) (body := Z9) T.Zr jbj rfl rfl (fun cdv A outer s H E hr => ?_)
  exact (@Qeu _ _ _ _ _ (@Qew _ _ _ _ (@QeW _ _ _ _ _ _ _ _ (@Qe1 _) (Qgi.glo _ Wn) T.jl jn (@QeR _ _ _ _ _ _ _ _ _ _ _ _ _ _ rfl (@Qgk _ _ _ Qgi (by nofun)) (@Qgl _ ["n"] _ ["state", "n"] 1 [0] rfl (by nofun)) (@QeL _ _ _ _ _ _ (Qgi.glo _ WH) T.ji (Qgm Qgi 0 rfl jbb nk_n) (by rfl)) (fun _ _ _ => ⟨(@Qgn _ _ _ _ (Qgj (rfl)) 0 (show List.Nodup (["state", "n"] : List Str) by nofun) rfl .local (by nofun) (by decide)), (@QeO _), (@Qd2 _ _ _ _ _ (Qd1 (@Qd2 _ _ _ _ _ (Qd1 (@Qc8 _ _ _ _ _ _ _ _ (@QdU _) (@Qc8 _ _ _ _ _ _ _ _ (@Qfm _) (Qgm (k := .local) (Qgj (rfl)) 0 rfl (by nofun) jC) Qc3) (Qgm (k := .free) (Qgj (rfl)) 1 rfl (by nofun) nk_n)) (Qd1 (Qgm (k := .local) (Qgj (rfl)) 0 rfl (by nofun) jC) Qd0))) Qd0))⟩) (by intros; rfl)) (by decide) (by decide) (by rfl)))
  Qet)
 unfold zG
 exact q
theorem vJ : LK yy "answer" .globalImplicit := by nofun
theorem zk : LK yy "deed" .local := by nofun
theorem JR : LK yy "len" .globalImplicit := by nofun
theorem Js : LK yy "next_state" .globalImplicit := by nofun
theorem Jc : LK yy "range" .globalImplicit := by nofun
theorem zJ : LK yy "state" .local := by nofun
theorem yN : LK yy "table" .local := by nofun
theorem Zz : FnScope ["table", "state", "deed"] ["table"] (defScope yy) := ⟨rfl, rfl, rfl, by nofun, rfl, by nofun, by nofun⟩
theorem jbh (T : Txt K mg) : L2.Binds K T.vK ["table"] [] := T.Ze.binds (ps := ["table"]) fun _ _ _ _ _ _ us hl => le1 (fun _ => rfl) us hl
theorem jbi (T : Txt K mg) : FnOk P w K mg base CX0 2 T.Jy T.vK ["table"] (spOf K 1 zn) := by
 have WK := ja6 (P := P) (w := w) (base := base) T
 have WM := ja4 T
 have jW := wN (P := P) (w := w) (base := base) T
 have jR := wM T
 have q : FnOk P w K mg base CX0 (1 + 1) T.Jy T.vK ["table"] (spOf K 1 (runDef 3 Zl)) := by
  refine Qgu (k := 1) (N := ["table", "state", "deed"]) (body := Zl) T.Ze Zz rfl rfl (fun cdv A outer s H E hr => ?_)
  exact (@Qeu _ _ _ _ _ (@QeM _ _ _ _ _ _ _ _ PassesOwn.never rfl (@QeL _ _ _ _ _ _ (Qgi.glo _ Jc) T.ji (@QeT _ _ _ _ _ _ _ _ (@QeZ _) (Qgi.glo _ JR) T.j5 ym (Qgm Qgi 0 rfl yN jd) (by decide) (by decide) (by rfl)) (by rfl)) (@Qgn _ _ _ _ Qgi 1 Zz.nd rfl .local zJ (by decide))
   (@Qeu _ _ _ _ _ (@QeM _ _ _ _ _ _ _ _ PassesOwn.never rfl (@QeL _ _ _ _ _ _ (Qgi.glo _ Jc) T.ji (@QeT _ _ _ _ _ _ _ _ (@QeZ _) (Qgi.glo _ JR) T.j5 ym (Qd8 (Qgt hr) (Qgm Qgi 0 rfl yN jd) Qc3 (fun _ _ => rfl)) (by decide) (by decide) (by rfl)) (by rfl)) (@Qgn _ _ _ _ Qgi 2 Zz.nd rfl .local zk (by decide))
    (@Qeu _ _ _ _ _ (@Qex _ _ _ _ _ _ _ (@Qed _ _ _ _ _ _ _ _ (Qfl (Qgt hr)) (Qgs Qgi vJ WK (hr.mono (by decide)) T.yv T.vf.kp WM ZM (Qd1 (Qgm Qgi 0 rfl yN jd) (Qd1 (Qgm Qgi 1 rfl zJ jC) (Qd1 (Qgm Qgi 2 rfl zk yc) Qd0))) (Qgq (Qgq (Qgq Qgr)))) (Qgs Qgi vJ WK (hr.mono (by decide)) T.yv T.vf.kp WM ZM (Qd1 (Qgm Qgi 0 rfl yN jd) (Qd1 (Qgs Qgi Js jW (hr.mono (by decide)) T.jb T.jH.kp jR yh (Qd1 (Qgm Qgi 0 rfl yN jd) (Qd1 (Qgm Qgi 1 rfl zJ jC) (Qd1 (Qgm Qgi 2 rfl zk yc) Qd0))) (Qgq (Qgq (Qgq Qgr)))) (Qd1 (Qgm Qgi 2 rfl zk yc) Qd0))) (Qgq (Qgq (Qgq Qgr)))) (Qbk _))
     (@Qeu _ _ _ _ _ (@Qew _ _ _ _ (@Qd2 _ _ _ _ _ (Qd1 (Qgm Qgi 1 rfl zJ jC) (Qd1 (Qgm Qgi 2 rfl zk yc) Qd0))))
     Qet) _
     Qet)
    Qet) (by intros; rfl))
   Qet) (by intros; rfl))
  (@Qeu _ _ _ _ _ (@Qew _ _ _ _ (@Qc5 _ _ _))
  Qet))
 unfold zn
 exact q
theorem JM : LK yf "row" .local := by nofun
theorem ZS : FnScope ["row"] ["row"] (defScope yf) := ⟨rfl, rfl, rfl, by nofun, rfl, by nofun, by nofun⟩
theorem ZZ (T : Txt K mg) : L2.Binds K T.yO ["row"] [] := T.z4.binds (ps := ["row"]) fun _ _ _ _ _ _ us hl => le1 (fun _ => rfl) us hl
theorem Z4 (T : Txt K mg) : FnOk P w K mg base CX0 1 T.zd T.yO ["row"] (spOf K 1 jT) := by
 have q : FnOk P w K mg base CX0 (0 + 1) T.zd T.yO ["row"] (spOf K 1 (runDef 1 zU)) := by
  refine Qgu (k := 0) (N := ["row"]) (body := zU) T.z4 ZS rfl rfl (fun cdv A outer s H E hr => ?_)
  exact (@Qeu _ _ _ _ _ (@Qew _ _ _ _ (Qf3 Qc6 (@Qd4 _ _ _ (@QeR _ _ _ _ _ _ _ _ _ _ _ _ _ _ rfl (@Qgk _ _ _ Qgi (by nofun)) (@Qgl _ ["row"] _ ["goal", "told"] 2 [] rfl (by nofun)) (@QeJ _ _ _ _ (Qgm Qgi 0 rfl JM wB)) (fun _ _ _ => ⟨(@Qes _ _ _ _ _ _ rfl (@Qer _ _ _ _ _ (@Qgn _ _ _ _ (Qgj (rfl)) 0 (show List.Nodup (["goal", "told"] : List Str) by nofun) rfl .local (by nofun) (by decide)) (@Qer _ _ _ _ _ (@Qgn _ _ _ _ (Qgj (rfl)) 1 (show List.Nodup (["goal", "told"] : List Str) by nofun) rfl .local (by nofun) (by decide)) (@Qeq _) (by rfl)) (by rfl)) (by rfl) (by rfl)), (@QeO _), (Qf8 (Qf7 (Qf5 (Qgm (k := .local) (Qgj (rfl)) 0 rfl (by nofun) Zx)) (Qf7 Qc6 (Qf7 (Qf5 (Qgm (k := .local) (Qgj (rfl)) 1 rfl (by nofun) jam)) Qf6))))⟩) (by intros; rfl)))))
  Qet)
 unfold jT
 exact q
theorem wK : LK jo "MOST_FIGURES" .globalImplicit := by nofun
theorem JA : LK jo "all" .globalImplicit := by nofun
theorem Jl : LK jo "int" .globalImplicit := by nofun
theorem wy : LK jo "len" .globalImplicit := by nofun
theorem jJ : LK jo "word" .local := by nofun
theorem ZK : FnScope ["word"] ["word"] (defScope jo) := ⟨rfl, rfl, rfl, by nofun, rfl, by nofun, by nofun⟩
theorem ZF (T : Txt K mg) : L2.Binds K T.yz ["word"] [] := T.zH.binds (ps := ["word"]) fun _ _ _ _ _ _ us hl => le1 (fun _ => rfl) us hl
theorem Zw (T : Txt K mg) : FnOk P w K mg base CX0 1 T.yQ T.yz ["word"] (spOf K 1 js) := by
 have q : FnOk P w K mg base CX0 (0 + 1) T.yQ T.yz ["word"] (spOf K 1 (runDef 1 zI)) := by
  refine Qgu (k := 0) (N := ["word"]) (body := zI) T.zH ZK rfl rfl (fun cdv A outer s H E hr => ?_)
  exact (@Qeu _ _ _ _ _ (@Qex _ _ _ _ _ _ _ (@Qei _ _ _ _ (@Qeo _ _ _ _ _ _ _ _ _ _ _ _ (@QdX _) (@QdX _) Qc3 (@QeT _ _ _ _ _ _ _ _ (@QeZ _) (Qgi.glo _ wy) T.j5 ym (Qgm Qgi 0 rfl jJ wk) (by decide) (by decide) (by rfl)) (Qgp (v := .int 3) Qgi wK T.g_MOST_FIGURES ⟨_, rfl⟩ Zs (fun _ _ => .int _)) (by with_unfolding_all rfl)))
   (@Qeu _ _ _ _ _ (@Qew _ _ _ _ (@Qc5 _ _ _))
   Qet) _
   Qet)
  (@Qeu _ _ _ _ _ (@Qex _ _ _ _ _ _ _ (@Qei _ _ _ _ (@Qec _ _ _ (@QeV _ _ _ _ _ _ _ _ (@Qe9 _ rfl) (Qgi.glo _ JA) T.zK ve (@QeR _ _ _ _ _ _ _ _ _ _ _ _ _ _ rfl (@Qgk _ _ _ Qgi (by nofun)) (@Qgl _ ["word"] _ ["sign"] 1 [] rfl (by nofun)) (Qgc (Qgm Qgi 0 rfl jJ wk)) (fun _ _ _ => ⟨(@Qgn _ _ _ _ (Qgj (rfl)) 0 (show List.Nodup (["sign"] : List Str) by nofun) rfl .local (by nofun) (by decide)), (@QeO _), (Qc9 QfU (Qgm (k := .local) (Qgj (rfl)) 0 rfl (by nofun) jbd) (Qgp (v := .str "0123456789") (Qgj (rfl)) (by nofun) T.g_FIGURES ⟨_, rfl⟩ jaH (fun _ _ => .str _)) rfl)⟩) (by intros; rfl)) (by decide) (by decide) (by rfl)) (by intros; rfl)))
   (@Qeu _ _ _ _ _ (@Qew _ _ _ _ (@Qc5 _ _ _))
   Qet) _
   Qet)
  (@Qeu _ _ _ _ _ (@Qex _ _ _ _ _ _ _ (L2.PW.pt (@Qeg _ _ _ _ _ _ _ (@Qed _ _ _ _ _ _ _ _ (Qfk (Qgt hr)) (Qd8 (Qgt hr) (Qgm Qgi 0 rfl jJ wk) Qc3 (fun _ _ => rfl)) Qc6 (Qbk _)) (@Qee _ _ _ _ (@Qed _ _ _ _ _ _ _ _ (@QdY _) (@QeT _ _ _ _ _ _ _ _ (@QeZ _) (Qgi.glo _ wy) T.j5 ym (Qgm Qgi 0 rfl jJ wk) (by decide) (by decide) (by rfl)) Qc3 (Qbk _)))))
   (@Qeu _ _ _ _ _ (@Qew _ _ _ _ (@Qc5 _ _ _))
   Qet) _
   Qet)
  (@Qeu _ _ _ _ _ (@Qew _ _ _ _ (@QeU _ _ _ _ _ _ _ _ QfT (Qgi.glo _ Jl) T.vx Wg (Qgm Qgi 0 rfl jJ wk) (by decide) (by decide) (by rfl)))
  Qet))))
 unfold js
 exact q
theorem zX : LK jt "_law_base" .local := by nofun
theorem z1 : LK jt "_law_cell" .local := by nofun
theorem jX : LK jt "_law_cells" .local := by nofun
theorem jL : LK jt "_law_number" .local := by nofun
theorem vD : LK jt "_law_script" .local := by nofun
theorem JZ : LK jt "list" .globalImplicit := by nofun
theorem Ja : LK jt "reversed" .globalImplicit := by nofun
theorem zv : FnScope ["_law_script", "_law_base", "_law_cells", "_law_number", "_law_cell"] ["_law_script", "_law_base"] (defScope jt) := ⟨rfl, rfl, rfl, by nofun, rfl, by nofun, by nofun⟩
theorem WR (T : Txt K mg) : L2.Binds K T.zt ["_law_script", "_law_base"] [] := T.wS.binds (ps := ["_law_script", "_law_base"]) fun _ _ _ _ _ _ us hl => le2 (fun _ _ => rfl) us hl
theorem W2 (T : Txt K mg) : FnOk P w K mg base CX0 1 T.wj T.zt ["_law_script", "_law_base"] (spOf K 2 yq) := by
 have q : FnOk P w K mg base CX0 (0 + 1) T.wj T.zt ["_law_script", "_law_base"] (spOf K 2 (runDef 5 wQ)) := by
  refine Qgu (k := 0) (N := ["_law_script", "_law_base", "_law_cells", "_law_number", "_law_cell"]) (body := wQ) T.wS zv rfl rfl (fun cdv A outer s H E hr => ?_)
  exact (@Qeu _ _ _ _ _ (@QeS _ _ _ _ _ _ _ _ _ _ _ 2 _ _ _ _ _ _ zv.nd rfl (Qgi.loc _ _ jX (by decide)).1 (Qgi.loc _ _ jX (by decide)).2 rfl (@Qgk _ _ _ Qgi (by nofun)) (@Qgl _ ["_law_script", "_law_base", "_law_cells", "_law_number", "_law_cell"] _ ["_law_cell"] 1 [] rfl (by nofun)) (@QeK _ _ _ _ (@Qfo _ _ _ _ _ _ _ _ _ (Qgm Qgi 0 rfl vD Jd) (@Qfn _ _ _ (Qgm Qgi 1 rfl zX JV)) (@Qfn _ _ _ Qc3))) (fun _ _ _ => ⟨(@Qgn _ _ _ _ (Qgj (rfl)) 0 (show List.Nodup (["_law_cell"] : List Str) by nofun) rfl .local (by nofun) (by decide)), (@QeO _), (@QfD _ _ _ _ _ _ _ _ _ _ (@QfE _ rfl) ((Qgj (rfl)).glo _ (by nofun)) T.v5 ja0 (Qgm (k := .local) (Qgj (rfl)) 0 rfl (by nofun) zD) (@Qc8 _ _ _ _ _ _ _ _ (@QdR _) Qc3 (Qgm (k := .local) (Qgj (rfl)) 0 rfl (by nofun) zD)) (by decide) (by decide) (by rfl) (by rfl) (by rfl))⟩) (by rfl) (by intros; rfl))
  (@Qeu _ _ _ _ _ (@Qgo _ _ _ _ _ _ Qgi 3 zv.nd rfl _ jL _ (@Qc8 _ _ _ _ _ _ _ _ (@Qfm _) Qc3 (@Qc8 _ _ _ _ _ _ _ _ (@QdS _) Qc3 (Qgm Qgi 1 rfl zX JV))) (by decide) (by rfl))
  (@Qeu _ _ _ _ _ (@QeM _ _ _ _ _ _ _ _ PassesOwn.never rfl (@QeJ _ _ _ _ (Qgm Qgi 2 rfl jX Jz)) (@Qgn _ _ _ _ Qgi 4 zv.nd rfl .local z1 (by decide))
   (@Qeu _ _ _ _ _ (@Qgo _ _ _ _ _ _ Qgi 3 zv.nd rfl _ jL _ (@Qc8 _ _ _ _ _ _ _ _ (@QdU _) (@Qc8 _ _ _ _ _ _ _ _ (@Qfm _) (@Qc8 _ _ _ _ _ _ _ _ (@Qfm _) (@Qc8 _ _ _ _ _ _ _ _ (@QdS _) (Qgm Qgi 3 rfl jL yM) Qc3) (@Qc8 _ _ _ _ _ _ _ _ (@QdU _) (Qgm Qgi 4 rfl z1 zD) Qc3)) Qc3) Qc3) (by decide) (by rfl))
   Qet) (by intros; rfl))
  (@Qeu _ _ _ _ _ (@Qew _ _ _ _ (@QfQ _ _ _ _ _ _ (@QfP _ _ _ _ _ _ _ _ _ _ _ (Qgm Qgi 3 rfl jL yM) (@QfP _ _ _ _ _ _ _ _ _ _ _ Qc3 (@QfP _ _ _ _ _ _ _ _ _ _ _ (@Qd4 _ _ _ (@QfN _ _ _ _ _ _ _ rfl (Qgi.glo _ JZ) T.vL jbe (Qgi.glo _ Ja) T.zp jaa (@QeR _ _ _ _ _ _ _ _ _ _ _ _ _ _ rfl (@Qgk _ _ _ Qgi (by nofun)) (@Qgl _ ["_law_script", "_law_base", "_law_cells", "_law_number", "_law_cell"] _ ["_law_cell"] 1 [] rfl (by nofun)) (@QeJ _ _ _ _ (Qgm Qgi 2 rfl jX Jz)) (fun _ _ _ => ⟨(@Qgn _ _ _ _ (Qgj (rfl)) 0 (show List.Nodup (["_law_cell"] : List Str) by nofun) rfl .local (by nofun) (by decide)), (@QeP _ _ _ (@Qed _ _ _ _ _ _ _ _ (@QdZ _) (Qgm (k := .local) (Qgj (rfl)) 0 rfl (by nofun) zD) (@Qc8 _ _ _ _ _ _ _ _ (@QdV _) Qc3 Qc3) (Qbk _))), (Qgm (k := .local) (Qgj (rfl)) 0 rfl (by nofun) zD)⟩) (by intros; rfl)) (by rfl) (by rfl))) (@QfO _ _)))) (by rfl) (by rfl) (by simp) (by decide) (by decide)))
  Qet))))
 unfold yq
 exact q
theorem jc : LK jw "_law_deal_here" .local := by nofun
theorem yH : LK jw "_law_many" .local := by nofun
theorem jP : LK jw "_law_number" .local := by nofun
theorem yg : LK jw "_law_one" .local := by nofun
theorem zO : LK jw "_law_other" .local := by nofun
theorem Za : LK jw "len" .globalImplicit := by nofun
theorem ww : FnScope ["_law_deal_here", "_law_many", "_law_number", "_law_one", "_law_other"] ["_law_deal_here", "_law_many"] (defScope jw) := ⟨rfl, rfl, rfl, by nofun, rfl, by nofun, by nofun⟩
theorem W5 (T : Txt K mg) : L2.Binds K T.zF ["_law_deal_here", "_law_many"] [] := T.z5.binds (ps := ["_law_deal_here", "_law_many"]) fun _ _ _ _ _ _ us hl => le2 (fun _ _ => rfl) us hl
theorem WX (T : Txt K mg) : FnOk P w K mg base CX0 1 T.zT T.zF ["_law_deal_here", "_law_many"] (spOf K 2 jM) := by
 have q : FnOk P w K mg base CX0 (0 + 1) T.zT T.zF ["_law_deal_here", "_law_many"] (spOf K 2 (runDef 5 wY)) := by
  refine Qgu (k := 0) (N := ["_law_deal_here", "_law_many", "_law_number", "_law_one", "_law_other"]) (body := wY) T.z5 ww rfl rfl (fun cdv A outer s H E hr => ?_)
  exact (@Qeu _ _ _ _ _ (@QfH _ _ _ _ _ _ PassesOwn.never (L2.PW.pt (@Qeg _ _ _ _ _ _ _ (@Qed _ _ _ _ _ _ _ _ (Qfk (Qgt hr)) (Qd8 (Qgt hr) (Qgm Qgi 0 rfl jc jg) Qc6 (fun _ _ => rfl)) Qc3 (Qbk _)) (@Qee _ _ _ _ (@Qed _ _ _ _ _ _ _ _ (@QdY _) (@QeT _ _ _ _ _ _ _ _ (@QeZ _) (Qgi.glo _ Za) T.j5 ym (Qd8 (Qgt hr) (Qgm Qgi 0 rfl jc jg) Qc6 (fun _ _ => rfl)) (by decide) (by decide) (by rfl)) Qc3 (Qbk _)))))
   (@Qeu _ _ _ _ _ (@QeB _ _ _ _ _ _ (@QfF _ _ _ _ _ (Qd8 (Qgt hr) (Qgm Qgi 0 rfl jc jg) Qc6 (fun _ _ => rfl)) (by rfl) (by rfl)) (@QeD _ _ _ _ _ _ (Qgt hr) (Qgm Qgi 0 rfl jc jg) Qc6 (by intros; rfl)) (by rfl) (by rfl) (by rfl))
   Qet))
  (@Qeu _ _ _ _ _ (@Qgo _ _ _ _ _ _ Qgi 2 ww.nd rfl _ jP _ (Qd8 (Qgt hr) (Qgm Qgi 0 rfl jc jg) Qc6 (fun _ _ => rfl)) (by decide) (by rfl))
  (@Qeu _ _ _ _ _ (@Qex _ _ _ _ _ _ _ (@Qed _ _ _ _ _ _ _ _ (@QdY _) (Qgm Qgi 2 rfl jP yM) Qc3 (Qbk _))
   (@Qeu _ _ _ _ _ (@QeB _ _ _ _ _ _ (@Qc8 _ _ _ _ _ _ _ _ (@QdT _) (Qgm Qgi 2 rfl jP yM) (Qgm Qgi 1 rfl yH vC)) (@QeD _ _ _ _ _ _ (Qgt hr) (Qgm Qgi 0 rfl jc jg) Qc6 (by intros; rfl)) (by rfl) (by rfl) (by rfl))
   (@Qeu _ _ _ _ _ (@Qew _ _ _ _ (@Qc8 _ _ _ _ _ _ _ _ (@QdU _) (Qgm Qgi 2 rfl jP yM) (Qgm Qgi 1 rfl yH vC)))
   Qet)) _
   Qet)
  (@Qeu _ _ _ _ _ (@Qgo _ _ _ _ _ _ Qgi 3 ww.nd rfl _ yg _ (@Qc8 _ _ _ _ _ _ _ _ (@QdU _) (@Qc8 _ _ _ _ _ _ _ _ (@Qfm _) (@Qc8 _ _ _ _ _ _ _ _ (@QdS _) (Qd8 (Qgt hr) (Qgm Qgi 0 rfl jc jg) Qc6 (fun _ _ => rfl)) Qc3) Qc3) Qc3) (by decide) (by rfl))
  (@Qeu _ _ _ _ _ (@QeB _ _ _ _ _ _ (@Qc8 _ _ _ _ _ _ _ _ (@QdU _) (@Qc8 _ _ _ _ _ _ _ _ (@Qfm _) (@Qc8 _ _ _ _ _ _ _ _ (@QdS _) (Qgm Qgi 3 rfl yg v4) Qc3) Qc3) Qc3) (@QeD _ _ _ _ _ _ (Qgt hr) (Qgm Qgi 0 rfl jc jg) Qc6 (by intros; rfl)) (by rfl) (by rfl) (by rfl))
  (@Qeu _ _ _ _ _ (@Qgo _ _ _ _ _ _ Qgi 4 ww.nd rfl _ zO _ (@Qc8 _ _ _ _ _ _ _ _ (@QdU _) (@Qc8 _ _ _ _ _ _ _ _ (@QdS _) (Qd8 (Qgt hr) (Qgm Qgi 0 rfl jc jg) Qc6 (fun _ _ => rfl)) (Qd8 (Qgt hr) (Qgm Qgi 0 rfl jc jg) Qc6 (fun _ _ => rfl))) Qc3) (by decide) (by rfl))
  (@Qeu _ _ _ _ _ (@Qew _ _ _ _ (@Qc8 _ _ _ _ _ _ _ _ (@QdU _) (@Qc8 _ _ _ _ _ _ _ _ (@Qfm _) (@Qc8 _ _ _ _ _ _ _ _ (@QdS _) (@Qc8 _ _ _ _ _ _ _ _ (@QdU _) (@Qc8 _ _ _ _ _ _ _ _ (@QdS _) (Qgm Qgi 3 rfl yg v4) (Qgm Qgi 3 rfl yg v4)) Qc3) Qc3) (Qgm Qgi 4 rfl zO vb)) (Qgm Qgi 1 rfl yH vC)))
  Qet)))))))
 unfold jM
 exact q
theorem wC : LK j6 "_law_d" .local := by nofun
theorem zm : LK j6 "_law_s" .local := by nofun
theorem Wc : FnScope ["_law_n", "_law_s", "_law_d"] ["_law_n", "_law_s", "_law_d"] (defScope j6) := ⟨rfl, rfl, rfl, by nofun, rfl, by nofun, by nofun⟩
theorem Wj (T : Txt K mg) : L2.Binds K T.zo ["_law_n", "_law_s", "_law_d"] [] := T.wm.binds (ps := ["_law_n", "_law_s", "_law_d"]) fun _ _ _ _ _ _ us hl => le3 (fun _ _ _ => rfl) us hl
theorem Wu (T : Txt K mg) : FnOk P w K mg base CX0 1 T.zB T.zo ["_law_n", "_law_s", "_law_d"] (spOf K 3 jz) := by
 have q : FnOk P w K mg base CX0 (0 + 1) T.zB T.zo ["_law_n", "_law_s", "_law_d"] (spOf K 3 (runDef 3 wt)) := by
  refine Qgu (k := 0) (N := ["_law_n", "_law_s", "_law_d"]) (body := wt) T.wm Wc rfl rfl (fun cdv A outer s H E hr => ?_)
  exact (@Qeu _ _ _ _ _ (@Qex _ _ _ _ _ _ _ (@Qed _ _ _ _ _ _ _ _ (Qfk (Qgt hr)) (Qgm Qgi 1 rfl zm jG) Qc3 (Qbk _))
   (@Qeu _ _ _ _ _ (@Qew _ _ _ _ (@Qd2 _ _ _ _ _ (Qd1 (@Qc8 _ _ _ _ _ _ _ _ (@Qfm _) (Qgm Qgi 2 rfl wC yE) Qc3) (Qd1 (@Qc8 _ _ _ _ _ _ _ _ (@Qfm _) (Qgm Qgi 2 rfl wC yE) Qc3) Qd0))))
   Qet) _
   Qet)
  (@Qeu _ _ _ _ _ (@Qew _ _ _ _ (@Qd2 _ _ _ _ _ (Qd1 (Qgm Qgi 1 rfl zm jG) (Qd1 (Qgm Qgi 1 rfl zm jG) Qd0))))
  Qet))
 unfold jz
 exact q
theorem wx : LK ya "_law_d" .local := by nofun
theorem wJ : LK ya "_law_s" .local := by nofun
theorem WN : FnScope ["_law_n", "_law_s", "_law_d"] ["_law_n", "_law_s", "_law_d"] (defScope ya) := ⟨rfl, rfl, rfl, by nofun, rfl, by nofun, by nofun⟩
theorem Wp (T : Txt K mg) : L2.Binds K T.zl ["_law_n", "_law_s", "_law_d"] [] := T.wn.binds (ps := ["_law_n", "_law_s", "_law_d"]) fun _ _ _ _ _ _ us hl => le3 (fun _ _ _ => rfl) us hl
theorem Wm (T : Txt K mg) : FnOk P w K mg base CX0 1 T.zu T.zl ["_law_n", "_law_s", "_law_d"] (spOf K 3 jB) := by
 have q : FnOk P w K mg base CX0 (0 + 1) T.zu T.zl ["_law_n", "_law_s", "_law_d"] (spOf K 3 (runDef 3 wr)) := by
  refine Qgu (k := 0) (N := ["_law_n", "_law_s", "_law_d"]) (body := wr) T.wn WN rfl rfl (fun cdv A outer s H E hr => ?_)
  exact (@Qeu _ _ _ _ _ (@Qex _ _ _ _ _ _ _ (@Qed _ _ _ _ _ _ _ _ (Qfk (Qgt hr)) (Qgm Qgi 2 rfl wx yE) Qc3 (Qbk _))
   (@Qeu _ _ _ _ _ (@Qew _ _ _ _ (@Qd2 _ _ _ _ _ (Qd1 (Qgm Qgi 1 rfl wJ jG) (Qd1 (Qgm Qgi 1 rfl wJ jG) Qd0))))
   Qet) _
   Qet)
  (@Qeu _ _ _ _ _ (@Qew _ _ _ _ (@Qd2 _ _ _ _ _ (Qd1 (@Qc8 _ _ _ _ _ _ _ _ (@QdR _) (Qgm Qgi 2 rfl wx yE) Qc3) (Qd1 Qc3 Qd0))))
  Qet))
 unfold jB
 exact q
theorem JJ : LK yn "_law_d" .local := by nofun
theorem JH : LK yn "_law_s" .local := by nofun
theorem jaj : FnScope ["_law_n", "_law_s", "_law_d"] ["_law_n", "_law_s", "_law_d"] (defScope yn) := ⟨rfl, rfl, rfl, by nofun, rfl, by nofun, by nofun⟩
theorem jaf (T : Txt K mg) : L2.Binds K T.zz ["_law_n", "_law_s", "_law_d"] [] := T.wX.binds (ps := ["_law_n", "_law_s", "_law_d"]) fun _ _ _ _ _ _ us hl => le3 (fun _ _ _ => rfl) us hl
theorem W1 (T : Txt K mg) : FnOk P w K mg base CX0 1 T.z9 T.zz ["_law_n", "_law_s", "_law_d"] (spOf K 3 jQ) := by
 have q : FnOk P w K mg base CX0 (0 + 1) T.z9 T.zz ["_law_n", "_law_s", "_law_d"] (spOf K 3 (runDef 3 wU)) := by
  refine Qgu (k := 0) (N := ["_law_n", "_law_s", "_law_d"]) (body := wU) T.wX jaj rfl rfl (fun cdv A outer s H E hr => ?_)
  exact (@Qeu _ _ _ _ _ (@Qew _ _ _ _ (@Qd2 _ _ _ _ _ (Qd1 (Qgm Qgi 2 rfl JJ yE) (Qd1 (Qgm Qgi 1 rfl JH jG) Qd0))))
  Qet)
 unfold jQ
 exact q
theorem J5 : LK yC "_law_n" .local := by nofun
theorem yG : LK yC "_law_s" .local := by nofun
theorem jar : FnScope ["_law_n", "_law_s", "_law_d"] ["_law_n", "_law_s", "_law_d"] (defScope yC) := ⟨rfl, rfl, rfl, by nofun, rfl, by nofun, by nofun⟩
theorem jaS (T : Txt K mg) : L2.Binds K T.wc ["_law_n", "_law_s", "_law_d"] [] := T.vy.binds (ps := ["_law_n", "_law_s", "_law_d"]) fun _ _ _ _ _ _ us hl => le3 (fun _ _ _ => rfl) us hl
theorem jav (T : Txt K mg) : FnOk P w K mg base CX0 1 T.wA T.wc ["_law_n", "_law_s", "_law_d"] (spOf K 3 j8) := by
 have q : FnOk P w K mg base CX0 (0 + 1) T.wA T.wc ["_law_n", "_law_s", "_law_d"] (spOf K 3 (runDef 3 vm)) := by
  refine Qgu (k := 0) (N := ["_law_n", "_law_s", "_law_d"]) (body := vm) T.vy jar rfl rfl (fun cdv A outer s H E hr => ?_)
  exact (@Qeu _ _ _ _ _ (@Qex _ _ _ _ _ _ _ (@Qed _ _ _ _ _ _ _ _ (Qfk (Qgt hr)) (Qgm Qgi 1 rfl yG jG) (@Qc8 _ _ _ _ _ _ _ _ (@QdR _) (Qgm Qgi 0 rfl J5 je) Qc3) (Qbk _))
   (@Qeu _ _ _ _ _ (@Qew _ _ _ _ (@Qd2 _ _ _ _ _ (Qd1 Qc3 (Qd1 (Qgm Qgi 1 rfl yG jG) Qd0))))
   Qet) _
   Qet)
  (@Qeu _ _ _ _ _ (@Qew _ _ _ _ (@Qd2 _ _ _ _ _ (Qd1 (@Qc8 _ _ _ _ _ _ _ _ (@Qfm _) (Qgm Qgi 1 rfl yG jG) Qc3) (Qd1 (Qgm Qgi 1 rfl yG jG) Qd0))))
  Qet))
 unfold j8
 exact q
theorem jm : LK jp "_law_n" .cell := by nofun
theorem JX : LK jp "add" .globalImplicit := by nofun
theorem Jw : LK jp "first" .globalImplicit := by nofun
theorem JB : LK jp "plain" .globalImplicit := by nofun
theorem yr : LK jp "range" .globalImplicit := by nofun
theorem JK : LK jp "swap" .globalImplicit := by nofun
theorem yo : LK jp "tuple" .globalImplicit := by nofun
theorem Wf : FnScope ["_law_n"] ["_law_n"] (defScope jp) := ⟨rfl, rfl, rfl, by nofun, rfl, by nofun, by nofun⟩
theorem Wl (T : Txt K mg) : L2.Binds K T.y9 ["_law_n"] [] := T.yT.binds (ps := ["_law_n"]) fun _ _ _ _ _ _ us hl => le1 (fun _ => rfl) us hl
theorem Ws (T : Txt K mg) : FnOk P w K mg base CX0 2 T.zw T.y9 ["_law_n"] (spOf K 1 jk) := by
 have ja7 := jav (P := P) (w := w) (base := base) T
 have jaZ := jaS T
 have jae := Wu (P := P) (w := w) (base := base) T
 have W4 := Wj T
 have WW := Wm (P := P) (w := w) (base := base) T
 have WZ := Wp T
 have jaI := W1 (P := P) (w := w) (base := base) T
 have jaM := jaf T
 have jaK := jba (P := P) (w := w) (base := base) T
 have jaw := jaV T
 have ZC := Wr (P := P) (w := w) (base := base) T
 have ZB := WG T
 have ZA := Wh (P := P) (w := w) (base := base) T
 have ZH := WP T
 have WA := jak (P := P) (w := w) (base := base) T
 have Wd := jan T
 have q : FnOk P w K mg base CX0 (1 + 1) T.zw T.y9 ["_law_n"] (spOf K 1 (runDef 1 wl)) := by
  refine Qgu (k := 1) (N := ["_law_n"]) (body := wl) T.yT Wf rfl rfl (fun cdv A outer s H E hr => ?_)
  exact (@Qeu _ _ _ _ _ (@Qex _ _ _ _ _ _ _ (@Qed _ _ _ _ _ _ _ _ (Qfl (Qgt hr)) (Qgs Qgi Jw ZC (hr.mono (by decide)) T.yi T.vT.kp ZB WE (Qd1 (Qgm Qgi 0 rfl jm je) Qd0) (Qgq Qgr)) (@QeW _ _ _ _ _ _ _ _ (@Qe1 _) (Qgi.glo _ yo) T.jl jn (@QeR _ _ _ _ _ _ _ _ _ _ _ _ _ _ rfl (@Qgk _ _ _ Qgi (by nofun)) (@Qgl _ ["_law_n"] _ ["_law_s", "_law_n"] 1 [0] rfl (by nofun)) (@QeL _ _ _ _ _ _ (Qgi.glo _ yr) T.ji (@Qc8 _ _ _ _ _ _ _ _ (@Qfm _) (Qgm Qgi 0 rfl jm je) Qc3) (by rfl)) (fun _ _ _ => ⟨(@Qgn _ _ _ _ (Qgj (rfl)) 0 (show List.Nodup (["_law_s", "_law_n"] : List Str) by nofun) rfl .cell (by nofun) (by decide)), (@QeO _), (@QeW _ _ _ _ _ _ _ _ (@Qe1 _) ((Qgj (rfl)).glo _ (by nofun)) T.jl jn (@QeR _ _ _ _ _ _ _ _ _ _ _ _ _ _ rfl (@Qgk _ _ _ (Qgj (rfl)) (by nofun)) (@Qgl _ ["_law_s", "_law_n"] _ ["_law_d", "_law_s", "_law_n"] 1 [0, 1] rfl (by nofun)) (@QeL _ _ _ _ _ _ ((Qgj (rfl)).glo _ (by nofun)) T.ji (Qgm (k := .free) (Qgj (rfl)) 1 rfl (by nofun) je) (by rfl)) (fun _ _ _ => ⟨(@Qgn _ _ _ _ (Qgj (rfl)) 0 (show List.Nodup (["_law_d", "_law_s", "_law_n"] : List Str) by nofun) rfl .local (by nofun) (by decide)), (@QeO _), (Qgs (Qgj (rfl)) (by nofun) jae (hr.mono (by decide)) T.jz T.wm.kp W4 Wx (Qd1 (Qgm (k := .free) (Qgj (rfl)) 2 rfl (by nofun) je) (Qd1 (Qgm (k := .free) (Qgj (rfl)) 1 rfl (by nofun) jG) (Qd1 (Qgm (k := .local) (Qgj (rfl)) 0 rfl (by nofun) yE) Qd0))) (Qgq (Qgq (Qgq Qgr))))⟩) (by intros; rfl)) (by decide) (by decide) (by rfl))⟩) (by intros; rfl)) (by decide) (by decide) (by rfl)) (Qbk _))
   (@Qeu _ _ _ _ _ (@Qew _ _ _ _ (@Qc4 _ _ _ _))
   Qet) _
   Qet)
  (@Qeu _ _ _ _ _ (@Qex _ _ _ _ _ _ _ (@Qed _ _ _ _ _ _ _ _ (Qfl (Qgt hr)) (Qgs Qgi JB ZA (hr.mono (by decide)) T.yj T.vN.kp ZH Wy (Qd1 (Qgm Qgi 0 rfl jm je) Qd0) (Qgq Qgr)) (@QeW _ _ _ _ _ _ _ _ (@Qe1 _) (Qgi.glo _ yo) T.jl jn (@QeR _ _ _ _ _ _ _ _ _ _ _ _ _ _ rfl (@Qgk _ _ _ Qgi (by nofun)) (@Qgl _ ["_law_n"] _ ["_law_s", "_law_n"] 1 [0] rfl (by nofun)) (@QeL _ _ _ _ _ _ (Qgi.glo _ yr) T.ji (Qgm Qgi 0 rfl jm je) (by rfl)) (fun _ _ _ => ⟨(@Qgn _ _ _ _ (Qgj (rfl)) 0 (show List.Nodup (["_law_s", "_law_n"] : List Str) by nofun) rfl .cell (by nofun) (by decide)), (@QeO _), (@QeW _ _ _ _ _ _ _ _ (@Qe1 _) ((Qgj (rfl)).glo _ (by nofun)) T.jl jn (@QeR _ _ _ _ _ _ _ _ _ _ _ _ _ _ rfl (@Qgk _ _ _ (Qgj (rfl)) (by nofun)) (@Qgl _ ["_law_s", "_law_n"] _ ["_law_d", "_law_s", "_law_n"] 1 [0, 1] rfl (by nofun)) (@QeL _ _ _ _ _ _ ((Qgj (rfl)).glo _ (by nofun)) T.ji (@Qc8 _ _ _ _ _ _ _ _ (@Qfm _) (Qgm (k := .free) (Qgj (rfl)) 1 rfl (by nofun) je) Qc3) (by rfl)) (fun _ _ _ => ⟨(@Qgn _ _ _ _ (Qgj (rfl)) 0 (show List.Nodup (["_law_d", "_law_s", "_law_n"] : List Str) by nofun) rfl .local (by nofun) (by decide)), (@QeO _), (Qgs (Qgj (rfl)) (by nofun) WW (hr.mono (by decide)) T.jB T.wn.kp WZ Ww (Qd1 (Qgm (k := .free) (Qgj (rfl)) 2 rfl (by nofun) je) (Qd1 (Qgm (k := .free) (Qgj (rfl)) 1 rfl (by nofun) jG) (Qd1 (Qgm (k := .local) (Qgj (rfl)) 0 rfl (by nofun) yE) Qd0))) (Qgq (Qgq (Qgq Qgr))))⟩) (by intros; rfl)) (by decide) (by decide) (by rfl))⟩) (by intros; rfl)) (by decide) (by decide) (by rfl)) (Qbk _))
   (@Qeu _ _ _ _ _ (@Qew _ _ _ _ (@Qc4 _ _ _ _))
   Qet) _
   Qet)
  (@Qeu _ _ _ _ _ (@Qex _ _ _ _ _ _ _ (@Qed _ _ _ _ _ _ _ _ (Qfl (Qgt hr)) (Qgs Qgi JK WA (hr.mono (by decide)) T.yR T.Jr.kp Wd jap (Qd1 (Qgm Qgi 0 rfl jm je) Qd0) (Qgq Qgr)) (@QeW _ _ _ _ _ _ _ _ (@Qe1 _) (Qgi.glo _ yo) T.jl jn (@QeR _ _ _ _ _ _ _ _ _ _ _ _ _ _ rfl (@Qgk _ _ _ Qgi (by nofun)) (@Qgl _ ["_law_n"] _ ["_law_s", "_law_n"] 1 [0] rfl (by nofun)) (@QeL _ _ _ _ _ _ (Qgi.glo _ yr) T.ji (Qgm Qgi 0 rfl jm je) (by rfl)) (fun _ _ _ => ⟨(@Qgn _ _ _ _ (Qgj (rfl)) 0 (show List.Nodup (["_law_s", "_law_n"] : List Str) by nofun) rfl .cell (by nofun) (by decide)), (@QeO _), (@QeW _ _ _ _ _ _ _ _ (@Qe1 _) ((Qgj (rfl)).glo _ (by nofun)) T.jl jn (@QeR _ _ _ _ _ _ _ _ _ _ _ _ _ _ rfl (@Qgk _ _ _ (Qgj (rfl)) (by nofun)) (@Qgl _ ["_law_s", "_law_n"] _ ["_law_d", "_law_s", "_law_n"] 1 [0, 1] rfl (by nofun)) (@QeL _ _ _ _ _ _ ((Qgj (rfl)).glo _ (by nofun)) T.ji (Qgm (k := .free) (Qgj (rfl)) 1 rfl (by nofun) je) (by rfl)) (fun _ _ _ => ⟨(@Qgn _ _ _ _ (Qgj (rfl)) 0 (show List.Nodup (["_law_d", "_law_s", "_law_n"] : List Str) by nofun) rfl .local (by nofun) (by decide)), (@QeO _), (Qgs (Qgj (rfl)) (by nofun) jaI (hr.mono (by decide)) T.jQ T.wX.kp jaM jac (Qd1 (Qgm (k := .free) (Qgj (rfl)) 2 rfl (by nofun) je) (Qd1 (Qgm (k := .free) (Qgj (rfl)) 1 rfl (by nofun) jG) (Qd1 (Qgm (k := .local) (Qgj (rfl)) 0 rfl (by nofun) yE) Qd0))) (Qgq (Qgq (Qgq Qgr))))⟩) (by intros; rfl)) (by decide) (by decide) (by rfl))⟩) (by intros; rfl)) (by decide) (by decide) (by rfl)) (Qbk _))
   (@Qeu _ _ _ _ _ (@Qew _ _ _ _ (@Qc4 _ _ _ _))
   Qet) _
   Qet)
  (@Qeu _ _ _ _ _ (@Qew _ _ _ _ (Qc9 (Qfk (Qgt hr)) (Qgs Qgi JX jaK (hr.mono (by decide)) T.zG T.Zr.kp jaw jaW (Qd1 (Qgm Qgi 0 rfl jm je) Qd0) (Qgq Qgr)) (@QeW _ _ _ _ _ _ _ _ (@Qe1 _) (Qgi.glo _ yo) T.jl jn (@QeR _ _ _ _ _ _ _ _ _ _ _ _ _ _ rfl (@Qgk _ _ _ Qgi (by nofun)) (@Qgl _ ["_law_n"] _ ["_law_s", "_law_n"] 1 [0] rfl (by nofun)) (@QeL _ _ _ _ _ _ (Qgi.glo _ yr) T.ji (Qgm Qgi 0 rfl jm je) (by rfl)) (fun _ _ _ => ⟨(@Qgn _ _ _ _ (Qgj (rfl)) 0 (show List.Nodup (["_law_s", "_law_n"] : List Str) by nofun) rfl .cell (by nofun) (by decide)), (@QeO _), (@QeW _ _ _ _ _ _ _ _ (@Qe1 _) ((Qgj (rfl)).glo _ (by nofun)) T.jl jn (@QeR _ _ _ _ _ _ _ _ _ _ _ _ _ _ rfl (@Qgk _ _ _ (Qgj (rfl)) (by nofun)) (@Qgl _ ["_law_s", "_law_n"] _ ["_law_d", "_law_s", "_law_n"] 1 [0, 1] rfl (by nofun)) (@QeL _ _ _ _ _ _ ((Qgj (rfl)).glo _ (by nofun)) T.ji Qc3 (by rfl)) (fun _ _ _ => ⟨(@Qgn _ _ _ _ (Qgj (rfl)) 0 (show List.Nodup (["_law_d", "_law_s", "_law_n"] : List Str) by nofun) rfl .local (by nofun) (by decide)), (@QeO _), (Qgs (Qgj (rfl)) (by nofun) ja7 (hr.mono (by decide)) T.j8 T.vy.kp jaZ jat (Qd1 (Qgm (k := .free) (Qgj (rfl)) 2 rfl (by nofun) je) (Qd1 (Qgm (k := .free) (Qgj (rfl)) 1 rfl (by nofun) jG) (Qd1 (Qgm (k := .local) (Qgj (rfl)) 0 rfl (by nofun) yE) Qd0))) (Qgq (Qgq (Qgq Qgr))))⟩) (by intros; rfl)) (by decide) (by decide) (by rfl))⟩) (by intros; rfl)) (by decide) (by decide) (by rfl)) (Qbk _)))
  Qet))))
 unfold jk
 exact q
theorem Zi : LK j3 "all" .globalImplicit := by nofun
theorem vA : LK j3 "len" .globalImplicit := by nofun
theorem zq : LK j3 "table" .cell := by nofun
theorem jab : FnScope ["table"] ["table"] (defScope j3) := ⟨rfl, rfl, rfl, by nofun, rfl, by nofun, by nofun⟩
theorem W0 (T : Txt K mg) : L2.Binds K T.zx ["table"] [] := T.wT.binds (ps := ["table"]) fun _ _ _ _ _ _ us hl => le1 (fun _ => rfl) us hl
theorem jah (T : Txt K mg) : FnOk P w K mg base CX0 2 T.wf T.zx ["table"] (spOf K 1 j0) := by
 have jas := jad (P := P) (w := w) (base := base) T
 have jaJ := W9 T
 have q : FnOk P w K mg base CX0 (1 + 1) T.wf T.zx ["table"] (spOf K 1 (runDef 1 wZ)) := by
  refine Qgu (k := 1) (N := ["table"]) (body := wZ) T.wT jab rfl rfl (fun cdv A outer s H E hr => ?_)
  exact (@Qeu _ _ _ _ _ (@Qex _ _ _ _ _ _ _ (L2.PW.pt (@Qeh _ _ _ _ _ _ _ (@Qed _ _ _ _ _ _ _ _ (Qfk (Qgt hr)) (@QeT _ _ _ _ _ _ _ _ (@QeZ _) (Qgi.glo _ vA) T.j5 ym (Qgm Qgi 0 rfl zq jd) (by decide) (by decide) (by rfl)) Qc3 (Qbk _)) (@Qef _ _ _ _ (@Qed _ _ _ _ _ _ _ _ (Qfk (Qgt hr)) (@QeT _ _ _ _ _ _ _ _ (@QeZ _) (Qgi.glo _ vA) T.j5 ym (Qd8 (Qgt hr) (Qgm Qgi 0 rfl zq jd) Qc3 (fun _ _ => rfl)) (by decide) (by decide) (by rfl)) Qc3 (Qbk _)))))
   (@Qeu _ _ _ _ _ (@Qew _ _ _ _ (@Qc4 _ _ _ _))
   Qet) _
   Qet)
  (@Qeu _ _ _ _ _ (@Qew _ _ _ _ (@QeV _ _ _ _ _ _ _ _ (@Qe9 _ rfl) (Qgi.glo _ Zi) T.zK ve (@QeR _ _ _ _ _ _ _ _ _ _ _ _ _ _ rfl (@Qgk _ _ _ Qgi (by nofun)) (@Qgl _ ["table"] _ ["row", "table"] 1 [0] rfl (by nofun)) (@QeJ _ _ _ _ (Qgm Qgi 0 rfl zq jd)) (fun _ _ _ => ⟨(@Qgn _ _ _ _ (Qgj (rfl)) 0 (show List.Nodup (["row", "table"] : List Str) by nofun) rfl .local (by nofun) (by decide)), (@QeO _), (Qgs (Qgj (rfl)) (by nofun) jas (hr.mono (by decide)) T.j2 T.wR.kp jaJ W3 (Qd1 (Qgm (k := .free) (Qgj (rfl)) 1 rfl (by nofun) jd) (Qd1 (Qgm (k := .local) (Qgj (rfl)) 0 rfl (by nofun) wB) Qd0)) (Qgq (Qgq Qgr)))⟩) (by intros; rfl)) (by decide) (by decide) (by rfl)))
  Qet))
 unfold j0
 exact q
theorem Ji : LK yd "table" .local := by nofun
theorem ZW : FnScope ["table"] ["table"] (defScope yd) := ⟨rfl, rfl, rfl, by nofun, rfl, by nofun, by nofun⟩
theorem ZQ (T : Txt K mg) : L2.Binds K T.yK ["table"] [] := T.wd.binds (ps := ["table"]) fun _ _ _ _ _ _ us hl => le1 (fun _ => rfl) us hl
theorem ZU (T : Txt K mg) : FnOk P w K mg base CX0 2 T.zi T.yK ["table"] (spOf K 1 jE) := by
 have Wi := Z4 (P := P) (w := w) (base := base) T
 have Wq := ZZ T
 have q : FnOk P w K mg base CX0 (1 + 1) T.zi T.yK ["table"] (spOf K 1 (runDef 1 z7)) := by
  refine Qgu (k := 1) (N := ["table"]) (body := z7) T.wd ZW rfl rfl (fun cdv A outer s H E hr => ?_)
  exact (@Qeu _ _ _ _ _ (@Qew _ _ _ _ (Qf3 Qc6 (@Qd4 _ _ _ (@QeR _ _ _ _ _ _ _ _ _ _ _ _ _ _ rfl (@Qgk _ _ _ Qgi (by nofun)) (@Qgl _ ["table"] _ ["row"] 1 [] rfl (by nofun)) (@QeJ _ _ _ _ (Qgm Qgi 0 rfl Ji jd)) (fun _ _ _ => ⟨(@Qgn _ _ _ _ (Qgj (rfl)) 0 (show List.Nodup (["row"] : List Str) by nofun) rfl .local (by nofun) (by decide)), (@QeO _), (Qgs (Qgj (rfl)) (by nofun) Wi (hr.mono (by decide)) T.jT T.z4.kp Wq ZY (Qd1 (Qgm (k := .local) (Qgj (rfl)) 0 rfl (by nofun) wB) Qd0) (Qgq Qgr))⟩) (by intros; rfl)))))
  Qet)
 unfold jE
 exact q
theorem J1 : LK jA "len" .globalImplicit := by nofun
theorem yw : LK jA "pair" .local := by nofun
theorem Jx : LK jA "tuple" .globalImplicit := by nofun
theorem JO : LK jA "word" .local := by nofun
theorem Jo : FnScope ["word", "pair"] ["word"] (defScope jA) := ⟨rfl, rfl, rfl, by nofun, rfl, by nofun, by nofun⟩
theorem WB (T : Txt K mg) : L2.Binds K T.za ["word"] [] := T.wu.binds (ps := ["word"]) fun _ _ _ _ _ _ us hl => le1 (fun _ => rfl) us hl
theorem WF (T : Txt K mg) : FnOk P w K mg base CX0 2 T.zE T.za ["word"] (spOf K 1 yb) := by
 have ZV := Zw (P := P) (w := w) (base := base) T
 have ZT := ZF T
 have q : FnOk P w K mg base CX0 (1 + 1) T.zE T.za ["word"] (spOf K 1 (runDef 2 wv)) := by
  refine Qgu (k := 1) (N := ["word", "pair"]) (body := wv) T.wu Jo rfl rfl (fun cdv A outer s H E hr => ?_)
  exact (@Qeu _ _ _ _ _ (@Qgo _ _ _ _ _ _ Qgi 1 Jo.nd rfl _ yw _ (@QeW _ _ _ _ _ _ _ _ (@Qe1 _) (Qgi.glo _ Jx) T.jl jn (@QeR _ _ _ _ _ _ _ _ _ _ _ _ _ _ rfl (@Qgk _ _ _ Qgi (by nofun)) (@Qgl _ ["word", "pair"] _ ["part"] 1 [] rfl (by nofun)) (@QeJ _ _ _ _ (Qf2 (Qgm Qgi 0 rfl JO wk) Qc6)) (fun _ _ _ => ⟨(@Qgn _ _ _ _ (Qgj (rfl)) 0 (show List.Nodup (["part"] : List Str) by nofun) rfl .local (by nofun) (by decide)), (@QeO _), (Qgs (Qgj (rfl)) (by nofun) ZV (hr.mono (by decide)) T.js T.zH.kp ZT ZD (Qd1 (Qgm (k := .local) (Qgj (rfl)) 0 rfl (by nofun) jal) Qd0) (Qgq Qgr))⟩) (by intros; rfl)) (by decide) (by decide) (by rfl)) (by decide) (by rfl))
  (@Qeu _ _ _ _ _ (@Qex _ _ _ _ _ _ _ (L2.PW.pt (@Qeh _ _ _ _ _ _ _ (@Qed _ _ _ _ _ _ _ _ (Qfl (Qgt hr)) (@QeT _ _ _ _ _ _ _ _ (@QeZ _) (Qgi.glo _ J1) T.j5 ym (Qgm Qgi 1 rfl yw Zy) (by decide) (by decide) (by rfl)) Qc3 (Qbk _)) (@Qef _ _ _ _ (@Qed _ _ _ _ _ _ _ _ (@QfC _ (Qgt hr)) (@Qc5 _ _ _) (Qgm Qgi 1 rfl yw Zy) rfl))))
   (@Qeu _ _ _ _ _ (@Qev _ _)
   Qet) _
   Qet)
  (@Qeu _ _ _ _ _ (@Qew _ _ _ _ (Qgm Qgi 1 rfl yw Zy))
  Qet)))
 unfold yb
 exact q
theorem JC : LK jS "text" .local := by nofun
theorem Jk : LK jS "tuple" .globalImplicit := by nofun
theorem Z8 : FnScope ["text"] ["text"] (defScope jS) := ⟨rfl, rfl, rfl, by nofun, rfl, by nofun, by nofun⟩
theorem Z0 (T : Txt K mg) : L2.Binds K T.yL ["text"] [] := T.zQ.binds (ps := ["text"]) fun _ _ _ _ _ _ us hl => le1 (fun _ => rfl) us hl
theorem Z6 (T : Txt K mg) : FnOk P w K mg base CX0 3 T.zj T.yL ["text"] (spOf K 1 jV) := by
 have W7 := WF (P := P) (w := w) (base := base) T
 have WV := WB T
 have q : FnOk P w K mg base CX0 (2 + 1) T.zj T.yL ["text"] (spOf K 1 (runDef 1 we)) := by
  refine Qgu (k := 2) (N := ["text"]) (body := we) T.zQ Z8 rfl rfl (fun cdv A outer s H E hr => ?_)
  exact (@Qeu _ _ _ _ _ (@Qew _ _ _ _ (@QeW _ _ _ _ _ _ _ _ (@Qe1 _) (Qgi.glo _ Jk) T.jl jn (@QeR _ _ _ _ _ _ _ _ _ _ _ _ _ _ rfl (@Qgk _ _ _ Qgi (by nofun)) (@Qgl _ ["text"] _ ["word"] 1 [] rfl (by nofun)) (@QeJ _ _ _ _ (Qf2 (Qgm Qgi 0 rfl JC jao) Qc6)) (fun _ _ _ => ⟨(@Qgn _ _ _ _ (Qgj (rfl)) 0 (show List.Nodup (["word"] : List Str) by nofun) rfl .local (by nofun) (by decide)), (@QeO _), (Qgs (Qgj (rfl)) (by nofun) W7 (hr.mono (by decide)) T.yb T.wu.kp WV WI (Qd1 (Qgm (k := .local) (Qgj (rfl)) 0 rfl (by nofun) wk) Qd0) (Qgq Qgr))⟩) (by intros; rfl)) (by decide) (by decide) (by rfl)))
  Qet)
 unfold jV
 exact q
theorem vE : LK jv "is_table" .globalImplicit := by nofun
theorem yX : LK jv "table" .local := by nofun
theorem Jt : LK jv "text" .local := by nofun
theorem Jj : LK jv "tuple" .globalImplicit := by nofun
theorem Je : FnScope ["text", "table"] ["text"] (defScope jv) := ⟨rfl, rfl, rfl, by nofun, rfl, by nofun, by nofun⟩
theorem Z1 (T : Txt K mg) : L2.Binds K T.yS ["text"] [] := T.zZ.binds (ps := ["text"]) fun _ _ _ _ _ _ us hl => le1 (fun _ => rfl) us hl
theorem Z2 (T : Txt K mg) : FnOk P w K mg base CX0 4 T.zg T.yS ["text"] (spOf K 1 jF) := by
 have jax := jah (P := P) (w := w) (base := base) T
 have jaN := W0 T
 have WJ := Z6 (P := P) (w := w) (base := base) T
 have WC := Z0 T
 have q : FnOk P w K mg base CX0 (3 + 1) T.zg T.yS ["text"] (spOf K 1 (runDef 2 wg)) := by
  refine Qgu (k := 3) (N := ["text", "table"]) (body := wg) T.zZ Je rfl rfl (fun cdv A outer s H E hr => ?_)
  exact (@Qeu _ _ _ _ _ (@Qgo _ _ _ _ _ _ Qgi 1 Je.nd rfl _ yX _ (@QeW _ _ _ _ _ _ _ _ (@Qe1 _) (Qgi.glo _ Jj) T.jl jn (@QeR _ _ _ _ _ _ _ _ _ _ _ _ _ _ rfl (@Qgk _ _ _ Qgi (by nofun)) (@Qgl _ ["text", "table"] _ ["part"] 1 [] rfl (by nofun)) (@QeJ _ _ _ _ (Qf2 (Qgm Qgi 0 rfl Jt jao) Qc6)) (fun _ _ _ => ⟨(@Qgn _ _ _ _ (Qgj (rfl)) 0 (show List.Nodup (["part"] : List Str) by nofun) rfl .local (by nofun) (by decide)), (@QeO _), (Qgs (Qgj (rfl)) (by nofun) WJ (hr.mono (by decide)) T.jV T.zQ.kp WC ZR (Qd1 (Qgm (k := .local) (Qgj (rfl)) 0 rfl (by nofun) jal) Qd0) (Qgq Qgr))⟩) (by intros; rfl)) (by decide) (by decide) (by rfl)) (by decide) (by rfl))
  (@Qeu _ _ _ _ _ (@Qex _ _ _ _ _ _ _ (@Qei _ _ _ _ (@Qec _ _ _ (Qgs Qgi vE jax (hr.mono (by decide)) T.j0 T.wT.kp jaN WU (Qd1 (Qgm Qgi 1 rfl yX jd) Qd0) (Qgq Qgr)) (by intros; rfl)))
   (@Qeu _ _ _ _ _ (@Qev _ _)
   Qet) _
   Qet)
  (@Qeu _ _ _ _ _ (@Qew _ _ _ _ (Qgm Qgi 1 rfl yX jd))
  Qet)))
 unfold jF
 exact q
theorem jU : LK ja "_law_looked" .local := by nofun
theorem jZ : LK ja "_law_marks" .local := by nofun
theorem j1 : LK ja "_law_meek" .local := by nofun
theorem jf : LK ja "_law_n" .local := by nofun
theorem j4 : LK ja "_law_rows" .local := by nofun
theorem jh : LK ja "_law_table" .local := by nofun
theorem v8 : LK ja "add" .globalImplicit := by nofun
theorem vF : LK ja "first" .globalImplicit := by nofun
theorem zP : LK ja "int" .globalImplicit := by nofun
theorem ze : LK ja "is_meek" .globalImplicit := by nofun
theorem y8 : LK ja "is_plain" .globalImplicit := by nofun
theorem vI : LK ja "plain" .globalImplicit := by nofun
theorem wL : LK ja "read_table" .globalImplicit := by nofun
theorem vZ : LK ja "swap" .globalImplicit := by nofun
theorem wF : LK ja "table_text" .globalImplicit := by nofun
theorem jK : FnScope ["_law_n", "_law_rows", "_law_marks", "_law_table", "_law_looked", "_law_meek"] ["_law_n"] (defScope ja) := ⟨rfl, rfl, rfl, by nofun, rfl, by nofun, by nofun⟩
theorem J2 (T : Txt K mg) : L2.Binds K T.ye ["_law_n"] [] := T.yk.binds (ps := ["_law_n"]) fun _ _ _ _ _ _ us hl => le1 (fun _ => rfl) us hl
theorem J8 (T : Txt K mg) : FnOk P w K mg base CX0 5 T.yp T.ye ["_law_n"] (spOf K 1 jj) := by
 have jaK := jba (P := P) (w := w) (base := base) T
 have jaw := jaV T
 have ZC := Wr (P := P) (w := w) (base := base) T
 have ZB := WG T
 have ZL := jay (P := P) (w := w) (base := base) T
 have ZN := jaU T
 have Zp := W6 (P := P) (w := w) (base := base) T
 have Zn := W8 T
 have jbk := jbi (P := P) (w := w) (base := base) T
 have jbm := jbh T
 have ZA := Wh (P := P) (w := w) (base := base) T
 have ZH := WP T
 have Wb := Z2 (P := P) (w := w) (base := base) T
 have We := Z1 T
 have WA := jak (P := P) (w := w) (base := base) T
 have Wd := jan T
 have WD := ZU (P := P) (w := w) (base := base) T
 have Wv := ZQ T
 have q : FnOk P w K mg base CX0 (4 + 1) T.yp T.ye ["_law_n"] (spOf K 1 (runDef 6 y3)) := by
  refine Qgu (k := 4) (N := ["_law_n", "_law_rows", "_law_marks", "_law_table", "_law_looked", "_law_meek"]) (body := y3) T.yk jK rfl rfl (fun cdv A outer s H E hr => ?_)
  exact (@Qeu _ _ _ _ _ (@Qgo _ _ _ _ _ _ Qgi 1 jK.nd rfl _ j4 _ (@Qd4 _ _ _ (@Qd3 _ _ _ _ (Qd1 (@Qd2 _ _ _ _ _ (Qd1 (Qgs Qgi vF ZC (hr.mono (by decide)) T.yi T.vT.kp ZB WE (Qd1 (Qgm Qgi 0 rfl jf je) Qd0) (Qgq Qgr)) (Qd1 (@Qc4 _ _ _ _) (Qd1 (Qc9 (Qfk (Qgt hr)) (Qgm Qgi 0 rfl jf je) Qc3 (Qbk _)) Qd0)))) (Qd1 (@Qd2 _ _ _ _ _ (Qd1 (Qgs Qgi vI ZA (hr.mono (by decide)) T.yj T.vN.kp ZH Wy (Qd1 (Qgm Qgi 0 rfl jf je) Qd0) (Qgq Qgr)) (Qd1 (@Qc4 _ _ _ _) (Qd1 (@Qc4 _ _ _ _) Qd0)))) (Qd1 (@Qd2 _ _ _ _ _ (Qd1 (Qgs Qgi vZ WA (hr.mono (by decide)) T.yR T.Jr.kp Wd jap (Qd1 (Qgm Qgi 0 rfl jf je) Qd0) (Qgq Qgr)) (Qd1 (Qc9 (Qfk (Qgt hr)) (Qgm Qgi 0 rfl jf je) Qc3 (Qbk _)) (Qd1 (@Qc4 _ _ _ _) Qd0)))) (Qd1 (@Qd2 _ _ _ _ _ (Qd1 (Qgs Qgi v8 jaK (hr.mono (by decide)) T.zG T.Zr.kp jaw jaW (Qd1 (Qgm Qgi 0 rfl jf je) Qd0) (Qgq Qgr)) (Qd1 (Qc9 (Qfk (Qgt hr)) (Qgm Qgi 0 rfl jf je) Qc3 (Qbk _)) (Qd1 (@Qc4 _ _ _ _) Qd0)))) Qd0)))))) (by decide) (by rfl))
  (@Qeu _ _ _ _ _ (@QeS _ _ _ _ _ _ _ _ _ _ _ 2 _ _ _ _ _ _ jK.nd rfl (Qgi.loc _ _ jZ (by decide)).1 (Qgi.loc _ _ jZ (by decide)).2 rfl (@Qgk _ _ _ Qgi (by nofun)) (@Qgl _ ["_law_n", "_law_rows", "_law_marks", "_law_table", "_law_looked", "_law_meek"] _ ["_law_row"] 1 [] rfl (by nofun)) (@QeJ _ _ _ _ (Qgm Qgi 1 rfl j4 JT)) (fun _ _ _ => ⟨(@Qgn _ _ _ _ (Qgj (rfl)) 0 (show List.Nodup (["_law_row"] : List Str) by nofun) rfl .local (by nofun) (by decide)), (@QeO _), (Qgs (Qgj (rfl)) (by nofun) jbk (hr.mono (by decide)) T.zn T.Ze.kp jbm jbf (Qd1 (Qd8 (Qgt hr) (Qgm (k := .local) (Qgj (rfl)) 0 rfl (by nofun) jaB) Qc3 (fun _ _ => rfl)) Qd0) (Qgq Qgr))⟩) (by rfl) (by intros; rfl))
  (@Qeu _ _ _ _ _ (@Qex _ _ _ _ _ _ _ (@Qed _ _ _ _ _ _ _ _ (Qfl (Qgt hr)) (Qgm Qgi 2 rfl jZ WO) (@Qd4 _ _ _ (@Qd3 _ _ _ _ (Qd1 (@Qc5 _ _ _) (Qd1 (@Qc5 _ _ _) (Qd1 (@Qd9 _ _ _ _ _ _ (@Qd3 _ _ _ _ (Qd1 (@Qc5 _ _ _) (Qd1 (@Qd2 _ _ _ _ _ (Qd1 Qc3 (Qd1 Qc3 Qd0))) Qd0))) (@QeU _ _ _ _ _ _ _ _ (@Qe0 _) (Qgi.glo _ zP) T.vx Wg (Qc9 (@QdY _) (Qgm Qgi 0 rfl jf je) Qc3 (Qbk _)) (by decide) (by decide) (by rfl)) (fun _ _ => rfl)) (Qd1 (@Qd9 _ _ _ _ _ _ (@Qd3 _ _ _ _ (Qd1 (@Qc5 _ _ _) (Qd1 (@Qd2 _ _ _ _ _ (Qd1 Qc3 (Qd1 Qc3 Qd0))) Qd0))) (@QeU _ _ _ _ _ _ _ _ (@Qe0 _) (Qgi.glo _ zP) T.vx Wg (Qc9 (@QdY _) (Qgm Qgi 0 rfl jf je) Qc3 (Qbk _)) (by decide) (by decide) (by rfl)) (fun _ _ => rfl)) Qd0)))))) (Qbk _))
   (@Qeu _ _ _ _ _ (@Qew _ _ _ _ (@Qc4 _ _ _ _))
   Qet) _
   Qet)
  (@Qeu _ _ _ _ _ (@QeM _ _ _ _ _ _ _ _ PassesOwn.never rfl (@QeJ _ _ _ _ (Qgm Qgi 1 rfl j4 JT)) (@Qes _ _ _ _ _ _ rfl (@Qer _ _ _ _ _ (@Qgn _ _ _ _ Qgi 3 jK.nd rfl .local jh (by decide)) (@Qer _ _ _ _ _ (@Qgn _ _ _ _ Qgi 4 jK.nd rfl .local jU (by decide)) (@Qer _ _ _ _ _ (@Qgn _ _ _ _ Qgi 5 jK.nd rfl .local j1 (by decide)) (@Qeq _) (by rfl)) (by rfl)) (by rfl)) (by rfl) (by rfl))
   (@Qeu _ _ _ _ _ (@Qex _ _ _ _ _ _ _ (L2.PW.pt (@Qeh _ _ _ _ _ _ _ (L2.PW.pt (@Qeg _ _ _ _ _ _ _ (@Qed _ _ _ _ _ _ _ _ (@Qfw _) (Qgs Qgi y8 Zp (hr.mono (by decide)) T.ju T.z6.kp Zn JS (Qd1 (Qgm Qgi 3 rfl jh yx) Qd0) (Qgq Qgr)) (@Qc4 _ _ _ _) (Qbk _)) (@Qee _ _ _ _ (@Qec _ _ _ (Qgm Qgi 4 rfl jU Jf) (by intros; rfl))))) (@Qef _ _ _ _ (L2.PW.pt (@Qeg _ _ _ _ _ _ _ (@Qed _ _ _ _ _ _ _ _ (@Qfw _) (Qgs Qgi ze ZL (hr.mono (by decide)) T.jx T.wI.kp ZN Zq (Qd1 (Qgm Qgi 3 rfl jh yx) Qd0) (Qgq Qgr)) (@Qc4 _ _ _ _) (Qbk _)) (@Qee _ _ _ _ (@Qec _ _ _ (Qgm Qgi 5 rfl j1 JQ) (by intros; rfl))))))))
    (@Qeu _ _ _ _ _ (@Qew _ _ _ _ (@Qc4 _ _ _ _))
    Qet) _
    Qet)
   (@Qeu _ _ _ _ _ (@Qex _ _ _ _ _ _ _ (L2.PW.pt (@Qeh _ _ _ _ _ _ _ (L2.PW.pt (@Qeg _ _ _ _ _ _ _ (@Qed _ _ _ _ _ _ _ _ (@Qfw _) (Qgs Qgi y8 Zp (hr.mono (by decide)) T.ju T.z6.kp Zn JS (Qd1 (Qgm Qgi 3 rfl jh yx) Qd0) (Qgq Qgr)) (@Qc4 _ _ _ _) (Qbk _)) (@Qee _ _ _ _ (@Qei _ _ _ _ (@Qec _ _ _ (Qgm Qgi 4 rfl jU Jf) (by intros; rfl)))))) (@Qef _ _ _ _ (L2.PW.pt (@Qeg _ _ _ _ _ _ _ (@Qed _ _ _ _ _ _ _ _ (@Qfw _) (Qgs Qgi ze ZL (hr.mono (by decide)) T.jx T.wI.kp ZN Zq (Qd1 (Qgm Qgi 3 rfl jh yx) Qd0) (Qgq Qgr)) (@Qc4 _ _ _ _) (Qbk _)) (@Qee _ _ _ _ (@Qei _ _ _ _ (@Qec _ _ _ (Qgm Qgi 5 rfl j1 JQ) (by intros; rfl)))))))))
    (@Qeu _ _ _ _ _ (@Qew _ _ _ _ (@Qc4 _ _ _ _))
    Qet) _
    Qet)
   (@Qeu _ _ _ _ _ (@Qex _ _ _ _ _ _ _ (@Qed _ _ _ _ _ _ _ _ (Qfl (Qgt hr)) (Qgs Qgi wL Wb (hr.mono (by decide)) T.jF T.zZ.kp We ZP (Qd1 (Qgs Qgi wF WD (hr.mono (by decide)) T.jE T.wd.kp Wv Z7 (Qd1 (Qgm Qgi 3 rfl jh yx) Qd0) (Qgq Qgr)) Qd0) (Qgq Qgr)) (Qgm Qgi 3 rfl jh yx) (Qbk _))
    (@Qeu _ _ _ _ _ (@Qew _ _ _ _ (@Qc4 _ _ _ _))
    Qet) _
    Qet)
   Qet))) (by intros; rfl))
  (@Qeu _ _ _ _ _ (@Qew _ _ _ _ (@Qc4 _ _ _ _))
  Qet)))))
 unfold jj
 exact q
theorem Zk : LK yZ "_law_deal" .globalImplicit := by nofun
theorem yD : LK yZ "_law_deal_here" .local := by nofun
theorem vt : LK yZ "_law_draw" .globalImplicit := by nofun
theorem z8 : LK yZ "_law_handed_on" .globalImplicit := by nofun
theorem zY : LK yZ "_law_n" .local := by nofun
theorem zL : LK yZ "_law_other" .local := by nofun
theorem zM : LK yZ "_law_right" .globalImplicit := by nofun
theorem JI : LK yZ "_law_script" .local := by nofun
theorem Zj : FnScope ["_law_script", "_law_deal_here", "_law_n", "_law_other"] ["_law_script"] (defScope yZ) := ⟨rfl, rfl, rfl, by nofun, rfl, by nofun, by nofun⟩
theorem jbl (T : Txt K mg) : FnOk P w K mg base CX0 6 T.Jb T.Jv ["_law_script"] (spOf K 1 vj) := by
 have jaO := W2 (P := P) (w := w) (base := base) T
 have jaL := WR T
 have Zc := WX (P := P) (w := w) (base := base) T
 have Zu := W5 T
 have vB := J8 (P := P) (w := w) (base := base) T
 have vq := J2 T
 have vG := Ws (P := P) (w := w) (base := base) T
 have vH := Wl T
 have q : FnOk P w K mg base CX0 (5 + 1) T.Jb T.Jv ["_law_script"] (spOf K 1 (runDef 4 Wa)) := by
  refine Qgu (k := 5) (N := ["_law_script", "_law_deal_here", "_law_n", "_law_other"]) (body := Wa) T.jaA Zj rfl rfl (fun cdv A outer s H E hr => ?_)
  exact (@Qeu _ _ _ _ _ (@Qgo _ _ _ _ _ _ Qgi 1 Zj.nd rfl _ yD _ (Qgs Qgi Zk jaO (hr.mono (by decide)) T.yq T.wS.kp jaL jag (Qd1 (Qgm Qgi 0 rfl JI Jd) (Qd1 Qc3 Qd0)) (Qgq (Qgq Qgr))) (by decide) (by rfl))
  (@Qeu _ _ _ _ _ (@Qgo _ _ _ _ _ _ Qgi 2 Zj.nd rfl _ zY _ (@Qc8 _ _ _ _ _ _ _ _ (@Qfm _) Qc3 (Qgs Qgi vt Zc (hr.mono (by decide)) T.jM T.z5.kp Zu JU (Qd1 (Qgm Qgi 1 rfl yD jg) (Qd1 Qc3 Qd0)) (Qgq (Qgq Qgr)))) (by decide) (by rfl))
  (@Qeu _ _ _ _ _ (@Qgo _ _ _ _ _ _ Qgi 3 Zj.nd rfl _ zL _ (@Qc8 _ _ _ _ _ _ _ _ (@Qfm _) Qc3 (Qgs Qgi vt Zc (hr.mono (by decide)) T.jM T.z5.kp Zu JU (Qd1 (Qgm Qgi 1 rfl yD jg) (Qd1 Qc3 Qd0)) (Qgq (Qgq Qgr)))) (by decide) (by rfl))
  (@Qeu _ _ _ _ _ (@Qew _ _ _ _ (@Qek _ _ _ _ _ _ _ (Qgs Qgi zM vG (hr.mono (by decide)) T.jk T.yT.kp vH w6 (Qd1 (Qgm Qgi 2 rfl zY je) Qd0) (Qgq Qgr)) (@Qek _ _ _ _ _ _ _ (Qgs Qgi zM vG (hr.mono (by decide)) T.jk T.yT.kp vH w6 (Qd1 (Qgm Qgi 3 rfl zL vb) Qd0) (Qgq Qgr)) (@Qek _ _ _ _ _ _ _ (Qgs Qgi z8 vB (hr.mono (by decide)) T.jj T.yk.kp vq va (Qd1 (Qgm Qgi 2 rfl zY je) Qd0) (Qgq Qgr)) (@Qek _ _ _ _ _ _ _ (Qgs Qgi z8 vB (hr.mono (by decide)) T.jj T.yk.kp vq va (Qd1 (Qgm Qgi 3 rfl zL vb) Qd0) (Qgq Qgr)) (Qej (Qgs Qgi zM vG (hr.mono (by decide)) T.jk T.yT.kp vH w6 (Qd1 (Qgm Qgi 2 rfl zY je) Qd0) (Qgq Qgr))))))))
  Qet))))
 unfold vj
 exact q
end
end My
namespace My
open MM
open PySem (Str)
theorem QhK {s : Sto} {n : Nat} {o : MO} (h : s[n]? = some o) : n < s.length := (List.getElem?_eq_some_iff.mp h).1
noncomputable def dealK (x c : Int) (q : Nat) : List (D × D) := [(.str "seed", .int x), (.str "number", .int c), (.str "left", .ref q)]
section
variable {x c y : Int} {q : Nat}
theorem QhL : lkK (dealK x c q) (.str "seed") = some (.int x) := by simp [lkK, dealK, eqK]
theorem QhM : lkK (dealK x c q) (.str "number") = some (.int c) := by
 have h : ¬ (("seed" : Str) = "number") := by decide
 simp [lkK, dealK, eqK, h]
theorem QhN : lkK (dealK x c q) (.str "left") = some (.ref q) := by
 have h : ¬ (("seed" : Str) = "left") := by decide
 have h2 : ¬ (("number" : Str) = "left") := by decide
 simp [lkK, dealK, eqK, h, h2]
theorem QhO : ptK (dealK x c q) (.str "seed") (.int y) = dealK y c q := by
 have h : ¬ (("number" : Str) = "seed") := by decide
 have h2 : ¬ (("left" : Str) = "seed") := by decide
 simp [ptK, dealK, eqK, h, h2]
theorem QhP : ptK (dealK x c q) (.str "number") (.int y) = dealK x y q := by
 have h : ¬ (("seed" : Str) = "number") := by decide
 have h2 : ¬ (("left" : Str) = "number") := by decide
 simp [ptK, dealK, eqK, h, h2]
theorem QhQ : mgK [] [(.str "seed", .int x), (.str "number", .int c), (.str "left", .ref q)] = dealK x c q := by
 have h : ¬ (("seed" : Str) = "number") := by decide
 have h2 : ¬ (("seed" : Str) = "left") := by decide
 have h3 : ¬ (("number" : Str) = "left") := by decide
 simp [mgK, ptK, dealK, eqK, h, h2, h3]
theorem QhR : (dealK x c q).length < lim := QgJ (by simp [dealK])
end
structure PotAt (s : Sto) (p q : Nat) : Prop where
 ne : p ≠ q
 ex : ∃ (x c : Int) (cs : List D), s[p]? = some (.dct false (dealK x c q)) ∧ s[q]? = some (.lst cs) ∧ 0 ≤ x ∧ x < 2147483648 ∧ ∀ d ∈ cs, ∃ i : Int, d = .int i
structure Kept (p q : Nat) (s s' : Sto) : Prop where
 le : s.length ≤ s'.length
 at_ : ∀ n, n < s.length → n ≠ p → n ≠ q → s'[n]? = s[n]?
section
variable {p q : Nat} {s s1 s2 : Sto} {Q : D → Sto → Prop}
theorem Kept.refl : Kept p q s s := ⟨Nat.le_refl _, fun _ _ _ _ => rfl⟩
theorem Kept.trans (h : Kept p q s s1) (k : Kept p q s1 s2) : Kept p q s s2 := ⟨Nat.le_trans h.le k.le, fun n hn hp hq => (k.at_ n (Nat.lt_of_lt_of_le hn h.le) hp hq).trans (h.at_ n hn hp hq)⟩
theorem Kept.same {n : Nat} {o : MO} (h : Kept p q s s1) (hp : n ≠ p) (hq : n ≠ q) (g : s[n]? = some o) : s1[n]? = some o := (h.at_ n (QhK g) hp hq).trans g
theorem Kept.snoc {o : MO} (h : Kept p q s s1) : Kept p q s (s1 ++ [o]) := h.trans ⟨by simp, fun n hn _ _ => List.getElem?_append_left hn⟩
theorem Kept.put {n : Nat} {o : MO} (h : Kept p q s s1) (hn : s.length ≤ n) : Kept p q s (s1.set n o) :=
 ⟨by simp; exact h.le, fun m hm hp hq => by rw [List.getElem?_set_ne (by ac_nf)]; exact h.at_ m hm hp hq⟩
theorem PotAt.lt (h : PotAt s p q) : p < s.length ∧ q < s.length := by obtain ⟨x, c, cs, a, b, _⟩ := h.ex; exact ⟨QhK a, QhK b⟩
theorem PotAt.snoc {o : MO} (h : PotAt s p q) : PotAt (s ++ [o]) p q := by
 obtain ⟨x, c, cs, a, b, r⟩ := h.ex
 exact ⟨h.ne, x, c, cs, by rw [List.getElem?_append_left (QhK a)]; exact a, by rw [List.getElem?_append_left (QhK b)]; exact b, r⟩
theorem PotAt.put {n : Nat} {o : MO} (h : PotAt s p q) (hp : n ≠ p) (hq : n ≠ q) : PotAt (s.set n o) p q := by
 obtain ⟨x, c, cs, a, b, r⟩ := h.ex
 exact ⟨h.ne, x, c, cs, by rw [List.getElem?_set_ne hp]; exact a, by rw [List.getElem?_set_ne hq]; exact b, r⟩
theorem QhS {k : Int} (hp : PotAt s p q) (hk : 0 < k) (hk2 : k < 1073741824) (h : ∀ r s', 0 ≤ r → r < k → PotAt s' p q → Kept p q s s' → Q (.int r) s') : wp (jM [.dic p, .int k]) Q s := by
 obtain ⟨x, c, cs, e1, e2, hx0, hx1, hcs⟩ := hp.ex
 have hne := hp.ne
 (simp_arith [jM]; simp_arith [wY])
 refine Qhi (fun l s' => l = [some (.dic p), some (.int k), none, none, none] ∧ ∃ c cs, s'[p]? = some (.dct false (dealK x c q)) ∧ s'[q]? = some (.lst cs) ∧ (∀ d ∈ cs, ∃ i : Int, d = .int i) ∧ Kept p q s s')
  (fun l s' => match s'[q]? with
   | some (.lst cs) => cs.length
   | _ => 0) ⟨rfl, c, cs, e1, e2, hcs, Kept.refl⟩ (fun l s' hZ0 => ?_)
 obtain ⟨el, c, cs, e1, e2, hcs, hk'⟩ := hZ0
 subst el
 have gs : ∀ Q, wp (itemK p (.str "seed")) Q s' = Q (.int x) s' := fun Q => Qhq e1 rfl QhL
 have gn : ∀ Q, wp (itemK p (.str "number")) Q s' = Q (.int c) s' := fun Q => Qhq e1 rfl QhM
 have gl : ∀ Q, wp (itemK p (.str "left")) Q s' = Q (.ref q) s' := fun Q => Qhq e1 rfl QhN
 have g2 : ∀ Q, wp (getL q) Q s' = Q cs s' := fun Q => Qgz e2
 simp_arith [↓gn, ↓gl, ↓g2]
 by_cases hc : c = 0 ∧ 0 < cs.length
 ·obtain ⟨hc0, hcl⟩ := hc
  subst hc0
  rw [if_pos rfl, if_pos (by ac_nf)]
  obtain ⟨d, hd⟩ : ∃ d, cs.getLast? = some d := ⟨_, List.getLast?_eq_some_getLast (by intro e; rw [e] at hcl; simp at hcl)⟩
  obtain ⟨i, ei⟩ := hcs d (List.mem_of_getLast? hd)
  subst ei
  have q2 : ∀ es Q, wp (putL q es) Q s' = Q () (s'.set q (.lst es)) := fun es Q => QgA e2
  have e3 : (s'.set q (.lst cs.dropLast))[p]? = some (.dct false (dealK x 0 q)) := by rw [List.getElem?_set_ne (Ne.symm hne)]; exact e1
  have e4 : (s'.set q (.lst cs.dropLast))[q]? = some (.lst cs.dropLast) := List.getElem?_set_self (QhK e2)
  have q3 : ∀ v Q, wp (storeK p (.str "number") v) Q (s'.set q (.lst cs.dropLast)) = Q () ((s'.set q (.lst cs.dropLast)).set p (.dct false (ptK (dealK x 0 q) (.str "number") v))) := fun v Q => Qhr e3 rfl QhR
  simp_arith [↓gl, ↓g2, hd, ↓q2, ↓q3, QhP]
  have e5 : ((s'.set q (.lst cs.dropLast)).set p (.dct false (dealK x i q)))[p]? = some (.dct false (dealK x i q)) := List.getElem?_set_self (QhK e3)
  have e6 : ((s'.set q (.lst cs.dropLast)).set p (.dct false (dealK x i q)))[q]? = some (.lst cs.dropLast) := by rw [List.getElem?_set_ne hne]; exact e4
  refine ⟨⟨i, cs.dropLast, e5, e6, fun d hd => hcs d (List.dropLast_subset _ hd), ⟨by simp; exact hk'.le, fun n hn hp' hq' => ?_⟩⟩, ?_⟩
  ·rw [List.getElem?_set_ne (Ne.symm hp'), List.getElem?_set_ne (Ne.symm hq')]; exact hk'.at_ n hn hp' hq'
  ·rw [e6, e2]
   simp only [List.length_dropLast]; ac_nf
 ·have fin : ∀ (A B : Prop), (if c = 0 then (if 0 < (cs.length : Int) then A else B) else B) = B := fun A B => by
    by_cases h1 : c = 0
    ·rw [if_pos h1, if_neg (by ac_nf)]
    ·rw [if_neg h1]
  rw [fin]
  have q3 : ∀ v Q, wp (storeK p (.str "number") v) Q s' = Q () (s'.set p (.dct false (ptK (dealK x c q) (.str "number") v))) := fun v Q => Qhr e1 rfl QhR
  have q4 : ∀ v Q, wp (storeK p (.str "seed") v) Q s' = Q () (s'.set p (.dct false (ptK (dealK x c q) (.str "seed") v))) := fun v Q => Qhr e1 rfl QhR
  have kp : ∀ o, Kept p q s (s'.set p o) := fun o => ⟨by simp; exact hk'.le, fun n hn hp' hq' => by rw [List.getElem?_set_ne (Ne.symm hp')]; exact hk'.at_ n hn hp' hq'⟩
  have pt : ∀ (x' c' : Int), 0 ≤ x' → x' < 2147483648 → PotAt (s'.set p (.dct false (dealK x' c' q))) p q := fun x' c' h0 h1 => ⟨hne, x', c', cs, List.getElem?_set_self (QhK e1), by rw [List.getElem?_set_ne hne]; exact e2, h0, h1, hcs⟩
  have g5 : ∀ x' Q, wp (itemK p (.str "seed")) Q (s'.set p (.dct false (dealK x' c q))) = Q (.int x') (s'.set p (.dct false (dealK x' c q))) := fun x' Q => Qhq (List.getElem?_set_self (QhK e1)) rfl QhL
  have m2 : ∀ a b : Int, 0 ≤ b → b < 10000000000 → mulOk a b := fun a b h1 h2 => .inr ⟨by ac_nf, by ac_nf⟩
  by_cases h0 : 0 < c
  ·rw [if_pos h0]
   simp_arith [↓q3, QhP]
   exact ⟨⟨hk, hk2⟩, hk, h _ _ (Int.emod_nonneg _ (by ac_nf)) (Int.emod_lt_of_pos _ hk) (pt _ _ hx0 hx1) (kp _)⟩
  ·rw [if_neg h0]
   simp only [↓x_seq, ↓x_asg, ↓x_c2, ↓x_var, ↓x_con, ↓x_subsD, ↓gs, ↓x_mul, ↓x_add, ↓x_mod, word_snoc]
   refine ⟨m2 _ _ (by ac_nf) (by ac_nf), by ac_nf, ?_⟩
   have one0 := Int.emod_nonneg (x * 48271 + 5003) (show (2147483647 : Int) ≠ 0 by ac_nf)
   have one1 := Int.emod_lt_of_pos (x * 48271 + 5003) (show (0 : Int) < 2147483647 by ac_nf)
   generalize (x * 48271 + 5003) % 2147483647 = one at one0 one1 ⊢
   have y0 := Int.emod_nonneg (one * 39373 + 60013) (show (2147483587 : Int) ≠ 0 by ac_nf)
   have y1 := Int.emod_lt_of_pos (one * 39373 + 60013) (show (0 : Int) < 2147483587 by ac_nf)
   simp_arith [↓q4, QhO, ↓g5]
   refine ⟨m2 _ _ (by ac_nf) (by ac_nf), ?_⟩
   generalize (one * 39373 + 60013) % 2147483587 = y at y0 y1 ⊢
   refine ⟨m2 _ _ (by ac_nf) (by ac_nf), m2 _ _ (by ac_nf) (by ac_nf), m2 _ _ (by ac_nf) (by ac_nf), hk, h _ _ (Int.emod_nonneg _ (by ac_nf)) (Int.emod_lt_of_pos _ hk) (pt _ _ y0 (by ac_nf)) (kp _)⟩
theorem QhT {ns : List Int} (h : ∀ p q s', PotAt s' p q → s.length ≤ p → s.length ≤ q → Kept p q s s' → Q (.dic p) s') : wp (yq [.lit (ns.map D.int), .int 0]) Q s := by
 have l0 : 0 ≤ lim := Nat.zero_le _
 have m2 : ∀ a b : Int, 0 ≤ b → b < 10000000000 → mulOk a b := fun a b h1 h2 => .inr ⟨by ac_nf, by ac_nf⟩
 have pw : ∀ Q s, wp (powD (.int 10) (.int 18)) Q s = Q (.int 1000000000000000000) s := fun Q s => by unfold powD; rw [wp_chk, wp_ret]; exact propext ⟨fun h => h.2, fun h => ⟨by decide, h⟩⟩
 generalize (1000000000000000000 : Int) = big at pw
 (simp_arith [yq]; simp_arith [wQ, capt])
 have hcut : ∀ d ∈ cutD (ns.map D.int) (some 0) (some 63), ∃ i : Int, d = .int i := fun d hd => by
  unfold cutD at hd
  obtain ⟨i, _, e⟩ := List.mem_map.mp (List.mem_of_mem_drop (List.mem_of_mem_take hd))
  exact ⟨i, e.symm⟩
 have hlen : (cutD (ns.map D.int) (some 0) (some 63)).length ≤ 63 := by
  unfold cutD sIx; simp; ac_nf
 generalize cutD (ns.map D.int) (some 0) (some 63) = cells at hcut hlen
 refine ⟨QgI (by ac_nf), ?_⟩
 refine Qhv (fun d => ∃ i : Int, d = .int i) (fun l => l.length = 1) (fun d => ∃ i : Int, d = .int i) (fun s' => s = s') (fun _ _ => trivial) rfl rfl hcut (fun d l s' hZ0 hl es => ?_) fun out s' ho hP es => ?_
 ·obtain ⟨i, ei⟩ := hZ0
  subst ei
  subst es
  match l, hl with
  | [x0], _ => simp_arith []; exact ⟨_, rfl⟩
 ·subst es
  have g : ∀ Q : List D → Sto → Prop, wp (getL s.length) Q (s ++ [.lst out]) = Q out (s ++ [.lst out]) := fun Q => Qgz (by simp)
  simp_arith [↓g]
  refine ⟨m2 _ _ (by ac_nf) (by ac_nf), ?_⟩
  refine QgK (fun i l s' => ∃ x y4, l = [some (.lit (ns.map D.int)), some (.int 0), some (.ref s.length), some (.int x), y4] ∧ 0 ≤ x ∧ x < 2147483648 ∧ s' = s ++ [.lst out]) (fun i l s' ⟨_, _, _, _, _, e⟩ => by subst e; show (s ++ [MO.lst out])[s.length]? = some (.lst out); simp) ⟨_, _, rfl, ?_, ?_, rfl⟩ (fun i d l s' hd hZ0 => ?_) (fun l s' hZ0 => ?_)
  ·ac_nf
  ·ac_nf
  ·obtain ⟨x, y4, el, x0, x1, es⟩ := hZ0
   subst el es
   obtain ⟨v, ev⟩ := hP d (List.mem_of_getElem? hd)
   subst ev
   simp_arith []
   exact ⟨m2 _ _ (by ac_nf) (by ac_nf), _, _, rfl, Int.emod_nonneg _ (by ac_nf), Int.lt_trans (Int.emod_lt_of_pos _ (by ac_nf)) (by ac_nf)⟩
  ·obtain ⟨x, y4, el, x0, x1, es⟩ := hZ0
   subst el es
   simp_arith [↓g, ↓pw, capt]
   refine ⟨QgI (by ac_nf), ?_⟩
   refine Qhw (fun d => ∃ i : Int, d = .int i) (fun l => l.length = 1) (fun d => ∃ i : Int, d = .int i) (fun s' => s ++ [.lst out] = s') (fun s' es => by subst es; show (s ++ [MO.lst out])[s.length]? = some (.lst out); simp) rfl rfl hP (fun d l s' hZ0 hl es => ?_) fun o s' hol ho es => ?_
   ·obtain ⟨v, ev⟩ := hZ0
    subst ev
    subst es
    match l, hl with
    | [z], _ =>
     simp_arith [↓pw]
     by_cases hb : big ≤ v
     ·rw [if_pos hb]; exact ⟨_, rfl⟩
     ·rw [if_neg hb]; trivial
   ·subst es
    simp_arith [List.zip_cons_cons, List.zip_nil_right, QhQ]
    refine h _ _ _ ⟨by simp, x, 0, o.reverse, Qht, Qhu Qht, x0, x1, fun d hd => ho d (List.mem_reverse.mp hd)⟩ (by simp <;> ac_nf) (by simp) ((Kept.refl.snoc).snoc.snoc)
end
end My
namespace My
open MM
open PySem (Str)
theorem QhU {n : Nat} (h : n < 5) : Str.ofString (toString (n : Int)) = dig n := by
 by_cases e : n = 4
 ·subst e; decide +kernel
 ·exact QhJ (by ac_nf)
theorem QhV {n : Nat} (h : n < 5) : PySem.intText? (dig n) = some (n : Int) := by
 rw [← QhU h]
 exact PySem.W.KIN.num_reads (by ac_nf) (by ac_nf)
theorem spl : (" " : Str).length = 1 := by nofun
theorem sll : (" / " : Str).length = 3 := by nofun
noncomputable def pairS (g u : Nat) : Str := ⟨#[48 + g, 46, 48 + u]⟩
noncomputable def  rowS (dn : Nat) (p : Nat → Nat × Nat) : Str := PySem.Txt.join (" " : Str) (upto dn fun d => pairS (p d).1 (p d).2)
noncomputable def  tabS (S dn : Nat) (p : Nat → Nat → Nat × Nat) : Str := PySem.Txt.join (" / " : Str) (upto S fun s => rowS dn (p s))
noncomputable def rowD (dn : Nat) (p : Nat → Nat × Nat) : D := .tup (upto dn fun d => .tup [.int ((p d).1 : Nat), .int ((p d).2 : Nat)])
theorem QhW : ("." : Str) = ⟨#[46]⟩ := by nofun
theorem QhX : (" " : Str) = ⟨#[32]⟩ := by nofun
theorem QhY : (" / " : Str) = ⟨#[32, 47, 32]⟩ := by nofun
theorem QhZ {g u : Nat} : Str.empty ++ dig g ++ ("." : Str) ++ dig u = pairS g u := by
 rw [QhW]; exact Str.ext' (by simp [Str.cps_append, Str.empty, dig, pairS])
theorem Qh0 {n : Nat} (h : n < 5) : (n : Int).natAbs.log2 < 1920 := Nat.lt_of_le_of_lt (Nat.log2_le_self _) (by ac_nf)
theorem Qh1 {n k : Nat} {f : Nat → Nat} (h : ∀ i, i < n → f i ≤ k) : (upto n f).sum ≤ n * k := by
 induction n with
 | zero => simp [upto]
 | succ n ih =>
  rw [QgX, List.sum_append, Nat.succ_mul]
  have := ih fun i hi => h i (by ac_nf)
  have := h n (by ac_nf)
  simp
  ac_nf
theorem Qh2 {dn : Nat} {p : Nat → Nat × Nat} : (rowS dn p).length ≤ dn * 4 := by
 unfold rowS
 show (PySem.Builtin.Str.glued _ _).length ≤ _
 rw [PySem.StrLaws.glued_eq_join]
 refine Nat.le_trans (PySem.StrLaws.join_length_le _ _) ?_
 rw [Qg0, QgW]
 have h1 : (upto dn fun d => (pairS (p d).1 (p d).2).length).sum ≤ dn * 3 := Qh1 fun i hi => Nat.le_refl 3
 have h2 : ((" " : Str)).length = 1 := by nofun
 rw [h2]
 ac_nf
theorem Qh3 {S dn : Nat} {p : Nat → Nat → Nat × Nat} : (tabS S dn p).length ≤ S * (dn * 4 + 3) := by
 unfold tabS
 show (PySem.Builtin.Str.glued _ _).length ≤ _
 rw [PySem.StrLaws.glued_eq_join]
 refine Nat.le_trans (PySem.StrLaws.join_length_le _ _) ?_
 rw [Qg0, QgW]
 have h1 : (upto S fun s => (rowS dn (p s)).length).sum ≤ S * (dn * 4) := Qh1 fun i hi => Qh2
 have h2 : ((" / " : Str)).length = 3 := by nofun
 rw [h2, Nat.mul_add]
 ac_nf
theorem Qh4 {n : Nat} {Q : D → Sto → Prop} {s : Sto} (h : n < 5) : wp (strD (.int (n : Nat))) Q s = Q (.str (dig n)) s := by
 rw [QhD, QhU h]
 exact propext ⟨fun h => h.2, fun q => ⟨Qh0 h, q⟩⟩
theorem dotl : ("." : Str).length = 1 := by nofun
theorem Qh5 {dn : Nat} {p : Nat → Nat × Nat} {Q : D → Sto → Prop} {s : Sto} (hd : dn ≤ 5) (hp : ∀ d, d < dn → (p d).1 < 5 ∧ (p d).2 < 5) (h : ∀ o, Q (.str (rowS dn p)) (s ++ [o])) : wp (jT [rowD dn p]) Q s := by
 unfold rowD
 (simp_arith [jT]; simp_arith [zU, ↓Qhy, QgW])
 refine ⟨QgI (by ac_nf), ?_⟩
 rw [show ∀ l, capt 2 [] l = [none, none] from fun _ => rfl, Qhf (caps := []) (f := fun d => .str (pairS (p d).1 (p d).2)) trivial fun d hd' Q => ?_]
 ·have g1 : ∀ (ds : List D) Q, wp (getL s.length) Q (s ++ [MO.lst ds]) = Q ds (s ++ [MO.lst ds]) := fun ds Q => Qgz (by simp)
  simp_arith [↓g1, QhI, Qg0, QgW]
  have h1 : (upto dn fun d => (pairS (p d).1 (p d).2).length).sum ≤ dn * 3 := Qh1 fun i hi => Nat.le_refl 3
  have h2 : ((" " : Str)).length = 1 := by nofun
  exact ⟨by rw [h2]; ac_nf, h _⟩
 ·obtain ⟨h1, h2⟩ := hp d hd'
  have e1 : ∀ Q s, wp (strD (.int ((p d).1 : Nat))) Q s = Q (.str (dig (p d).1)) s := fun Q s => Qh4 h1
  have e2 : ∀ Q s, wp (strD (.int ((p d).2 : Nat))) Q s = Q (.str (dig (p d).2)) s := fun Q s => Qh4 h2
  simp_arith [↓Qhz, ↓QhB, ↓QhA, ↓e1, ↓e2, QhZ]
  have l1 : (Str.empty ++ dig (p d).1).length ≤ lim := QgI (by rw [Str.length_append]; exact Nat.le_of_ble_eq_true rfl)
  have l2 : (Str.empty ++ dig (p d).1 ++ ("." : Str)).length ≤ lim := QgI (by rw [Str.length_append, dotl]; exact Nat.le_of_ble_eq_true rfl)
  have l3 : (pairS (p d).1 (p d).2).length ≤ lim := QgI (Nat.le_of_ble_eq_true rfl)
  exact propext ⟨fun h => h.2.2.2.2, fun h => ⟨l1, l2, l3, l3, h⟩⟩
theorem Qh6 {S dn : Nat} {p : Nat → Nat → Nat × Nat} {Q : D → Sto → Prop} {s : Sto} (hS : S ≤ 5) (hd : dn ≤ 5) (hp : ∀ i d, i < S → d < dn → (p i d).1 < 5 ∧ (p i d).2 < 5) (h : ∀ s', Ext s s' → Q (.str (tabS S dn p)) s') : wp (jE [.tup (upto S fun i => rowD dn (p i))]) Q s := by
 (simp_arith [jE]; simp_arith [z7, ↓Qhy, QgW])
 refine ⟨QgI (by ac_nf), ?_⟩
 refine Qhb (caps := []) (fun i out s' => out = upto i (fun i => D.str (rowS dn (p i))) ∧ Ext s s') (fun _ _ _ _ => trivial) ⟨rfl, Ext.refl _⟩ (fun i out s' hi ⟨a1, a2⟩ => ?_) (fun out s' ⟨a1, a2⟩ => ?_)
 ·simp_arith []
  refine Qh5 hd (fun d hd' => hp i d hi hd') fun o => ⟨?_, a2.snoc _⟩
  rw [a1, QgX]
 ·have g1 : ∀ (ds : List D) Q, wp (getL s'.length) Q (s' ++ [MO.lst ds]) = Q ds (s' ++ [MO.lst ds]) := fun ds Q => Qgz (by simp)
  subst a1
  simp_arith [↓g1, QhI, Qg0, QgW]
  have h1 : (upto S fun s => (rowS dn (p s)).length).sum ≤ S * 20 := Qh1 fun i hi => by have := Qh2 (dn := dn) (p := p i); ac_nf
  have h2 : ((" / " : Str)).length = 3 := by nofun
  exact ⟨by rw [h2]; ac_nf, h _ (a2.snoc _)⟩
end My
namespace My
open MM
open PySem (Str)
theorem Qh7 : Mrk ("." : Str) 46 0 := by
 rw [QhW]
 exact ⟨by decide, rfl, (fun j h => by
  cases j with
  | zero => rfl
  | succ j => cases h), by nofun⟩
theorem Qh8 : Mrk (" " : Str) 32 0 := by
 rw [QhX]
 exact ⟨by decide, rfl, (fun j h => by
  cases j with
  | zero => rfl
  | succ j => cases h), by nofun⟩
theorem Qh9 : Mrk (" / " : Str) 47 1 := by
 rw [QhY]
 exact ⟨by decide, rfl, (fun j h => by
  match j, h with
  | 1, _ => rfl
  | 0, h => cases h
  | 2, h => cases h
  | j + 3, h => cases h), by nofun⟩
theorem Qia {g u : Nat} (hg : g < 5) (hu : u < 5) : PySem.Txt.split (pairS g u) ("." : Str) = [dig g, dig u] := by
 have e : pairS g u = PySem.Txt.join ("." : Str) [dig g, dig u] := by
  rw [QhW]
  exact Str.ext' (by simp [pairS, dig, PySem.Txt.join, PySem.Builtin.Str.glued])
 rw [e]
 refine Qgh Qh7 (by simp) fun p hp => ?_
 rcases List.mem_cons.mp hp with h | h
 ·subst h; simp [dig]; ac_nf
 ·rw [List.mem_singleton] at h; subst h; simp [dig]; ac_nf
theorem Qib {α : Type} {n : Nat} {f : Nat → α} (h : 1 ≤ n) : upto n f ≠ [] := fun e => by
 have := congrArg List.length e
 rw [QgW, List.length_nil] at this
 ac_nf
theorem Qic {α : Type} {n : Nat} {f : Nat → α} {x : α} (h : x ∈ upto n f) : ∃ i, i < n ∧ x = f i := by
 obtain ⟨i, hi⟩ := List.getElem?_of_mem h
 exact ⟨i, QgV hi⟩
theorem Qid {dn : Nat} {p : Nat → Nat × Nat} (h1 : 1 ≤ dn) (hp : ∀ d, d < dn → (p d).1 < 5 ∧ (p d).2 < 5) : PySem.Txt.split (rowS dn p) (" " : Str) = upto dn fun d => pairS (p d).1 (p d).2 := by
 refine Qgh Qh8 (Qib h1) fun q hq => ?_
 obtain ⟨i, hi, e⟩ := Qic hq
 obtain ⟨a, b⟩ := hp i hi
 subst e
 simp [pairS]
 ac_nf
theorem mem_join {y : Str} {c : Nat} : ∀ {ps : List Str}, c ∈ (Str.join y ps).cps.toList → c ∈ y.cps.toList ∨ ∃ p ∈ ps, c ∈ p.cps.toList
 | [], h => by cases h
 | [p], h => .inr ⟨p, by simp, h⟩
 | p :: q :: r, h => by
  have h : c ∈ (p ++ y ++ Str.join y (q :: r)).cps.toList := h
  rw [Str.cps_append, Str.cps_append, Array.toList_append, Array.toList_append, List.mem_append, List.mem_append] at h
  rcases h with (h | h) | h
  ·exact .inr ⟨p, by simp, h⟩
  ·exact .inl h
  ·rcases mem_join h with h | ⟨z, hz, h⟩
   ·exact .inl h
   ·exact .inr ⟨z, List.mem_cons_of_mem _ hz, h⟩
theorem Qie {dn c : Nat} {p : Nat → Nat × Nat} (h : c ∈ (rowS dn p).cps.toList) (hp : ∀ d, d < dn → (p d).1 < 5 ∧ (p d).2 < 5) : c ≠ 47 := by
 unfold rowS at h
 have h : c ∈ (PySem.Builtin.Str.glued _ _).cps.toList := h
 rw [PySem.StrLaws.glued_eq_join] at h
 rcases mem_join h with h | ⟨z, hz, h⟩
 ·rw [QhX] at h
  simp at h
  ac_nf
 ·obtain ⟨i, hi, e⟩ := Qic hz
  obtain ⟨a, b⟩ := hp i hi
  subst e
  simp [pairS] at h
  ac_nf
theorem Qif {S dn : Nat} {p : Nat → Nat → Nat × Nat} (h1 : 1 ≤ S) (hp : ∀ i d, i < S → d < dn → (p i d).1 < 5 ∧ (p i d).2 < 5) : PySem.Txt.split (tabS S dn p) (" / " : Str) = upto S fun i => rowS dn (p i) := by
 refine Qgh Qh9 (Qib h1) fun q hq hm => ?_
 obtain ⟨i, hi, e⟩ := Qic hq
 subst e
 exact Qie hm (fun d hd => hp i d hi hd) rfl
theorem Qig : ("0123456789" : Str) = ⟨#[48, 49, 50, 51, 52, 53, 54, 55, 56, 57]⟩ := by nofun
theorem Qih {n : Nat} (h : n < 5) : (!(PySem.Builtin.Str.occurrences ("0123456789" : Str) ⟨#[48 + n]⟩ 0 ("0123456789" : Str).length 1).isEmpty) = true := by
 rw [PySem.StrLaws.found_one, Qig]
 apply decide_eq_true
 simp
 ac_nf
theorem Qii {n : Nat} {Q : D → Sto → Prop} {s : Sto} (h : n < 5) : wp (js [.str (dig n)]) Q s = Q (.int (n : Nat)) s := by
 have l1 : (dig n).length ≤ lim := QgI (Nat.le_of_ble_eq_true rfl)
 have l2 : ((dig n).length : Int) = 1 := rfl
 have l3 : (dig n).cps.all (· < 128) = true := by simp [dig]; ac_nf
 have l4 : signs (dig n) = upto 1 fun _ => .str ⟨#[48 + n]⟩ := rfl
 have c1 : ∀ Q s, wp (collect (gVar 0) tTrue (c2 inTD (cVar 0) (cCon (.str "0123456789"))) anySt (upto 1 fun _ => .str ⟨#[48 + n]⟩) [none]) Q s = Q (upto 1 fun i => .bl (bP True)) s := fun Q s => Qhc trivial fun i hi Q => by
  simp_arith [↓QhF, Qih h]
  rw [QgR (b := true) (p := True) (by simp)]
 have c0 : ∀ l, capt 1 [] l = [none] := fun _ => rfl
 have s0 : ∀ Q s, wp (subsD (.str (dig n)) (.int 0)) Q s = Q (.str ⟨#[48 + n]⟩) s := fun Q s => by
  rw [show dig n = ⟨[48 + n].toArray⟩ from rfl, QhH]
  exact propext ⟨fun h => h.2, fun h => ⟨QgI (Nat.le_of_ble_eq_true rfl), h⟩⟩
 have i0 : ∀ Q s, wp (intTD (.str (dig n))) Q s = Q (.int (n : Nat)) s := fun Q s => QhE (QhV h) (Nat.le_of_ble_eq_true rfl)
 apply QgM
 (simp_arith [js]; simp_arith [zI, ↓QhG, l1, l2, l3, l4, c0, QgW, ↓c1, ↓Qg3, ↓s0, ↓i0, ↓QhC])
 rw [QgP (fun _ _ => trivial), decide_true, andB_t, if_neg (by decide)]
 refine ⟨QgI (by decide), ?_⟩
 rw [if_neg (by decide)]
 split <;> trivial
theorem Qij {g u : Nat} {Q : D → Sto → Prop} {s : Sto} (hg : g < 5) (hu : u < 5) (h : ∀ s', Ext s s' → Q (.tup [.int (g : Nat), .int (u : Nat)]) s') : wp (yb [.str (pairS g u)]) Q s := by
 have l1 : (pairS g u).length = 3 := rfl
 have l2 : ("." : Str).length = 1 := dotl
 have c0 : ∀ l, capt 1 [] l = [none] := fun _ => rfl
 have e0 : [dig g, dig u].map D.str = upto 2 fun i => .str (dig (if i = 0 then g else u)) := rfl
 have g1 : ∀ (ds : List D) Q, wp (getL s.length) Q (s ++ [MO.lst ds]) = Q ds (s ++ [MO.lst ds]) := fun ds Q => Qgz (by simp)
 (simp_arith [yb]; simp_arith [wv, ↓Qhx, Qia hg hu, e0, ↓g1, c0, QgW, l1, l2])
 have cw : ∀ Q, wp (collect (gVar 0) tTrue (cCall js (cCons (cVar 0) cNil)) (sameL s.length (upto 2 fun i => .str (dig (if i = 0 then g else u)))) (upto 2 fun i => .str (dig (if i = 0 then g else u))) [none]) Q (s ++ [MO.lst (upto 2 fun i => .str (dig (if i = 0 then g else u)))]) = Q (upto 2 fun i => .int ((if i = 0 then g else u : Nat) : Nat)) (s ++ [MO.lst (upto 2 fun i => .str (dig (if i = 0 then g else u)))]) := fun Q => Qhc (by show _ = _; simp) fun i hi Q => by
  have hn : (if i = 0 then g else u) < 5 := by split <;> ac_nf
  have r : ∀ Q s, wp (js [.str (dig (if i = 0 then g else u))]) Q s = Q (.int ((if i = 0 then g else u : Nat) : Nat)) s := fun Q s => Qii hn
  simp_arith [↓r]
 refine ⟨⟨rfl, QgI (by decide), QgI (by decide)⟩, QgI (by decide), ?_⟩
 rw [cw]
 have e1 : (upto 2 fun i => D.int ((if i = 0 then g else u : Nat) : Nat)) = [.int (g : Nat), .int (u : Nat)] := rfl
 rw [e1]
 have i1 : ∀ Q s, wp (inL .non [.int (g : Nat), .int (u : Nat)]) Q s = Q (.bl false) s := fun Q s => by
  unfold inL
  rw [wp_chk, wp_ret]
  exact propext ⟨fun h => h.2, fun h => ⟨⟨rfl, rfl⟩, h⟩⟩
 simp_arith [↓i1]
 rw [if_neg (by decide)]
 exact h _ (Ext.snoc (Ext.refl _) _)
theorem Qik {dn : Nat} {p : Nat → Nat × Nat} {Q : D → Sto → Prop} {s : Sto} (hd1 : 1 ≤ dn) (hd : dn ≤ 5) (hp : ∀ d, d < dn → (p d).1 < 5 ∧ (p d).2 < 5) (h : ∀ s', Ext s s' → Q (rowD dn p) s') : wp (jV [.str (rowS dn p)]) Q s := by
 have rl := Qh2 (dn := dn) (p := p)
 have c0 : ∀ l, capt 1 [] l = [none] := fun _ => rfl
 have g1 : ∀ (ds : List D) Q, wp (getL s.length) Q (s ++ [MO.lst ds]) = Q ds (s ++ [MO.lst ds]) := fun ds Q => Qgz (by simp)
 have l2 : (" " : Str).length = 1 := spl
 (simp_arith [jV]; simp_arith [we, ↓Qhx, Qid hd1 hp, Qg0, ↓g1, c0, QgW, l2])
 refine ⟨⟨rfl, QgI (by ac_nf), QgI (by ac_nf)⟩, QgI (by ac_nf), ?_⟩
 have g2 : (s ++ [MO.lst (upto dn fun i => .str (pairS (p i).1 (p i).2))])[s.length]? = some (.lst (upto dn fun i => .str (pairS (p i).1 (p i).2))) := by simp
 have e2 : Ext s (s ++ [MO.lst (upto dn fun i => .str (pairS (p i).1 (p i).2))]) := Ext.snoc (Ext.refl _) _
 generalize s ++ [MO.lst (upto dn fun i => .str (pairS (p i).1 (p i).2))] = s1 at *
 refine Qhb (caps := []) (fun i out s' => out = upto i (fun i => D.tup [.int ((p i).1 : Nat), .int ((p i).2 : Nat)]) ∧ Ext s1 s') (fun _ _ s' w => w.2.at_ g2) ⟨rfl, Ext.refl _⟩ (fun i out s' hi w => ?_) (fun out s' w => ?_)
 ·obtain ⟨a1, a2⟩ := w
  obtain ⟨h1, h2⟩ := hp i hi
  simp_arith []
  refine Qij h1 h2 fun s2 x2 => ⟨?_, a2.trans x2⟩
  rw [a1, QgX]
 ·obtain ⟨a1, a2⟩ := w
  subst a1
  simp_arith []
  exact h _ (e2.trans a2)
theorem Qil {dn : Nat} {p : Nat → Nat × Nat} {Q : D → Sto → Prop} {s : Sto} : wp (lenD (rowD dn p)) Q s = Q (.int (dn : Nat)) s := by
 unfold rowD
 simp_arith [QgW]
theorem Qim {S dn : Nat} {p : Nat → Nat → Nat × Nat} {i : Nat} {Q : D → Sto → Prop} {s : Sto} (hS1 : 1 ≤ S) (hd : dn ≤ 5) (hi : i < S) (hp : ∀ d, d < dn → (p i d).1 < S) : wp (j2 [.tup (upto S fun i => rowD dn (p i)), rowD dn (p i)]) Q s = Q (.bl true) s := by
 have i0 : ∀ Q s, wp (itemD (upto S fun i => rowD dn (p i)) 0) Q s = Q (rowD dn (p 0)) s := fun Q s => Qg8 (by ac_nf)
 apply QgM
 (simp_arith [j2]; simp_arith [wV, ↓i0, ↓Qil])
 rw [if_neg (by simp)]
 have er : rowD dn (p i) = .tup (upto dn fun d => .tup [.int ((p i d).1 : Nat), .int ((p i d).2 : Nat)]) := rfl
 generalize rowD dn (p i) = r at *
 subst er
 simp_arith [QgW]
 refine ⟨QgI (by ac_nf), ?_⟩
 rw [show ∀ t u, capt 2 [0] [some t, some u] = [none, none, some t] from fun _ _ => rfl]
 rw [Qhf (f := fun d => .bl (bP True)) trivial fun d hd' Q => ?_]
 ·simp_arith [↓Qg3]
  rw [QgP (fun _ _ => trivial)]
 ·have h1 := hp d hd'
  simp_arith [QgW]
  rw [decide_eq_true (by ac_nf), andB_t, decide_eq_true (by ac_nf), andB_t, decide_eq_true (by ac_nf), QgP trivial]
theorem Qin {S dn : Nat} {p : Nat → Nat → Nat × Nat} {Q : D → Sto → Prop} {s : Sto} (hS1 : 1 ≤ S) (hS : S ≤ 5) (hd1 : 1 ≤ dn) (hd : dn ≤ 5) (hp : ∀ i d, i < S → d < dn → (p i d).1 < S) : wp (j0 [.tup (upto S fun i => rowD dn (p i))]) Q s = Q (.bl true) s := by
 have i0 : ∀ Q s, wp (itemD (upto S fun i => rowD dn (p i)) 0) Q s = Q (rowD dn (p 0)) s := fun Q s => Qg8 (by ac_nf)
 have c0 : ∀ t, capt 1 [0] [some t] = [none, some t] := fun _ => rfl
 apply QgM
 (simp_arith [j0]; simp_arith [wZ, ↓i0, ↓Qil, QgW, c0])
 rw [if_neg (by ac_nf)]
 rw [if_neg (by ac_nf)]
 refine ⟨QgI (by ac_nf), ?_⟩
 rw [Qhc (f := fun d => .bl (bP True)) trivial fun i hi Q => ?_]
 ·simp_arith [↓Qg3]
  rw [QgP (fun _ _ => trivial)]
 ·have w : ∀ Q s, wp (j2 [.tup (upto S fun i => rowD dn (p i)), rowD dn (p i)]) Q s = Q (.bl true) s := fun Q s => Qim hS1 hd hi (fun d hd' => hp i d hi hd')
  simp_arith [↓w]
  rw [QgP trivial]
theorem Qio {S dn : Nat} {p : Nat → Nat → Nat × Nat} {Q : D → Sto → Prop} {s : Sto} (hS1 : 1 ≤ S) (hS : S ≤ 5) (hd1 : 1 ≤ dn) (hd : dn ≤ 5) (hp : ∀ i d, i < S → d < dn → (p i d).1 < S ∧ (p i d).2 < 5) (h : ∀ s', Ext s s' → Q (.tup (upto S fun i => rowD dn (p i))) s') : wp (jF [.str (tabS S dn p)]) Q s := by
 have hp4 : ∀ i d, i < S → d < dn → (p i d).1 < 5 ∧ (p i d).2 < 5 := fun i d hi hd' => by have := hp i d hi hd'; ac_nf
 have tl := Qh3 (S := S) (dn := dn) (p := p)
 have t2 : S * (dn * 4 + 3) ≤ 5 * 23 := Nat.mul_le_mul hS (by ac_nf)
 have c0 : ∀ l, capt 1 [] l = [none] := fun _ => rfl
 have g1 : ∀ (ds : List D) Q, wp (getL s.length) Q (s ++ [MO.lst ds]) = Q ds (s ++ [MO.lst ds]) := fun ds Q => Qgz (by simp)
 have l2 : (" / " : Str).length = 3 := sll
 (simp_arith [jF]; simp_arith [wg, ↓Qhx, Qif hS1 hp4, Qg0, ↓g1, c0, QgW, l2])
 refine ⟨⟨rfl, QgI (by ac_nf), QgI (by ac_nf)⟩, QgI (by ac_nf), ?_⟩
 have g2 : (s ++ [MO.lst (upto S fun i => .str (rowS dn (p i)))])[s.length]? = some (.lst (upto S fun i => .str (rowS dn (p i)))) := by simp
 have e2 : Ext s (s ++ [MO.lst (upto S fun i => .str (rowS dn (p i)))]) := Ext.snoc (Ext.refl _) _
 generalize s ++ [MO.lst (upto S fun i => .str (rowS dn (p i)))] = s1 at *
 refine Qhb (caps := []) (fun i out s' => out = upto i (fun i => rowD dn (p i)) ∧ Ext s1 s') (fun _ _ s' w => w.2.at_ g2) ⟨rfl, Ext.refl _⟩ (fun i out s' hi w => ?_) (fun out s' w => ?_)
 ·obtain ⟨a1, a2⟩ := w
  simp_arith []
  refine Qik hd1 hd (fun d hd' => hp4 i d hi hd') fun s2 x2 => ⟨?_, a2.trans x2⟩
  rw [a1, QgX]
 ·obtain ⟨a1, a2⟩ := w
  subst a1
  have w : ∀ Q s, wp (j0 [.tup (upto S fun i => rowD dn (p i))]) Q s = Q (.bl true) s := fun Q s => Qin hS1 hS hd1 hd (fun i d hi hd' => (hp i d hi hd').1)
  simp_arith [↓w]
  exact h _ (e2.trans a2)
end My
namespace My
open MM
open PySem (Str)
noncomputable def tabD (S dn : Nat) (nx un : Nat → Nat → Nat) : D := .tup (upto S fun s => .tup (upto dn fun d => .tup [.int (nx s d : Nat), .int (un s d : Nat)]))
theorem rngb {m : Int} (h0 : 0 ≤ m) (h : m ≤ 1000) : (-(2 ^ 62) ≤ m ∧ m < 2 ^ 62) := by ac_nf
section
variable {S dn : Nat} {nx un : Nat → Nat → Nat} {Q : D → Sto → Prop} {s : Sto}
theorem Qip {i j : Nat} (hi : i < S) (hj : j < dn) : wp (jb [tabD S dn nx un, .int i, .int j]) Q s = Q (.int (nx i j : Nat)) s := by
 (simp_arith [jb]; simp_arith [zf, tabD, ↓Qg7 hi, ↓Qg7 hj])
theorem Qiq {j : Nat} (hi : 0 < S) (hj : j < dn) : wp (jb [tabD S dn nx un, .int 0, .int j]) Q s = Q (.int (nx 0 j : Nat)) s := by
 (simp_arith [jb]; simp_arith [zf, tabD, ↓Qg8 hi, ↓Qg7 hj])
theorem Qir {j : Nat} (hS : S ≤ 5) (hj : j < dn) : wp (j9 [tabD S dn nx un, .int j]) Q s = Q (.bl (bP (∀ i, i < S → nx i j = i))) s := by
 have w : ∀ Q s, wp (collect (gTupD 2 (gsCons (gVar 0) (gsCons (gVar 1) gsNil))) tTrue (c2 eqD (c2 subsD (c2 subsD (cVar 1) (cVar 2)) (cCon (.int 0))) (cVar 0)) anySt (upto S fun i => .tup [.int i, .tup (upto dn fun d => D.tup [.int (nx i d : Nat), .int (un i d : Nat)])]) [none, none, some (.int j)]) Q s = Q (upto S fun i => .bl (bP (nx i j = i))) s := fun Q s => Qhf Qg9 fun i hi Q => by
  simp_arith [↓Qg7 hj, Qhd]
 have hl : S ≤ lim := QgI (by ac_nf)
 (simp_arith [j9]; simp_arith [vi, tabD, capt, Qhe, QgW, ↓w, ↓Qg3, hl])
theorem Qis {j : Nat} (hS1 : 1 ≤ S) (hS : S ≤ 5) (hj : j < dn) : ∃ m : Nat, ((m = 1 ↔ ∀ i, i < S → un i j = 0) ∧ ∀ Q s, wp (yA [tabD S dn nx un, .int j]) Q s = Q (.int m) s) := by
 have w : ∀ Q s, wp (collect (gVar 0) tTrue (c2 subsD (c2 subsD (cVar 0) (cVar 1)) (cCon (.int 1))) anySt (upto S fun s => .tup (upto dn fun d => D.tup [.int (nx s d : Nat), .int (un s d : Nat)])) [none, some (.int j)]) Q s = Q (upto S fun i => .int (un i j : Nat)) s := fun Q s => Qhc Qg9 fun i hi Q => by
  simp_arith [↓Qg7 hj]
 obtain ⟨k, rfl⟩ : ∃ k, S = k + 1 := ⟨S - 1, by ac_nf⟩
 have hm : ∀ (xs : List Nat) (a : Nat), ∃ m : Nat, (xs.map fun (i : Nat) => ((un i j : Nat) : Int)).foldl max (a : Int) = m ∧ (m = 0 ↔ a = 0 ∧ ∀ i ∈ xs, un i j = 0) := by
  intro xs
  induction xs with
  | nil => intro a; exact ⟨a, rfl, by simp⟩
  | cons x xs ih =>
   intro a
   obtain ⟨m, e1, e2⟩ := ih (max a (un x j))
   refine ⟨m, ?_, ?_⟩
   ·rw [← e1]; simp only [List.map_cons, List.foldl_cons]; congr 1; ac_nf
   ·rw [e2]
    constructor
    ·intro pq125; obtain ⟨h1, h2⟩ := pq125
     exact ⟨by ac_nf, fun i hi => by rcases List.mem_cons.mp hi with e | e; · subst e; ac_nf
                                     ·exact h2 i e⟩
    ·intro pq126; obtain ⟨h1, h2⟩ := pq126
     have := h2 x (by simp)
     exact ⟨by ac_nf, fun i hi => h2 i (by simp [hi])⟩
 obtain ⟨m, e1, e2⟩ := hm ((List.range k).map (· + 1)) (un 0 j)
 have mw : ∀ Q s, wp (maxD (upto (k + 1) fun i => .int (un i j : Nat))) Q s = Q (.int (m : Nat)) s := fun Q s => by
  unfold maxD upto
  rw [QgL (fun i => ((un i j : Nat) : Int)), List.range_succ_eq_map, List.map_cons]
  dsimp only
  rw [wp_ret, ← e1, List.map_map]
 refine ⟨1 + m, ?_, fun Q s => ?_⟩
 ·constructor
  ·intro h i hi
   obtain ⟨h1, h2⟩ := e2.mp (by ac_nf)
   cases i with
   | zero => exact h1
   | succ i => exact h2 (i + 1) (List.mem_map.mpr ⟨i, List.mem_range.mpr (by ac_nf), rfl⟩)
  ·intro h
   have : m = 0 := e2.mpr ⟨h 0 (by ac_nf), fun i hi => by
    obtain ⟨x, hx, e⟩ := List.mem_map.mp hi
    have := List.mem_range.mp hx
    exact h i (by ac_nf)⟩
   ac_nf
 ·have hl : k + 1 ≤ lim := QgI (by ac_nf)
  have ec : ((1 + m : Nat) : Int) = 1 + (m : Int) := by ac_nf
  rw [ec]
  (simp_arith [yA]; simp_arith [vw, tabD, capt, QgW, ↓w, ↓mw, hl])
theorem Qit {j : Nat} (hS1 : 1 ≤ S) (hS : S ≤ 5) (hj : j < dn) : wp (jy [tabD S dn nx un, .int j]) Q s = Q (.bl (bP ((∀ i, i < S → un i j = 0) ∧ ∀ i, i < S → nx i j = nx 0 j))) s := by
 obtain ⟨m, hm, aw⟩ := Qis (nx := nx) (un := un) hS1 hS hj
 have n0 : ∀ Q s, wp (jb [tabD S dn nx un, .int 0, .int j]) Q s = Q (.int (nx 0 j : Nat)) s := fun Q s => Qiq (by ac_nf) hj
 have w : ∀ Q s, wp (collect (gVar 0) tTrue (c2 eqD (c2 subsD (c2 subsD (cVar 0) (cVar 1)) (cCon (.int 0))) (cVar 2)) anySt (upto S fun s => .tup (upto dn fun d => D.tup [.int (nx s d : Nat), .int (un s d : Nat)])) [none, some (.int j), some (.int (nx 0 j : Nat))]) Q s = Q (upto S fun i => .bl (bP (nx i j = nx 0 j))) s := fun Q s => Qhc Qg9 fun i hi Q => by
  simp_arith [↓Qg7 hj, Qhd]
 have hl : S ≤ lim := QgI (by ac_nf)
 have e1 : ((m : Int) == 1) = bP (∀ i, i < S → un i j = 0) := QgR (by rw [← hm, beq_iff_eq]; ac_nf)
 unfold tabD at n0 aw ⊢
 (simp_arith [jy]; simp_arith [wq, ↓n0, ↓aw, e1, capt, QgW, ↓w, ↓Qg3, hl])
theorem Qiu (hS1 : 1 ≤ S) (hS : S ≤ 5) (hd : dn ≤ 5) : wp (ju [tabD S dn nx un]) Q s = Q (.bl (bP (∀ j, j < dn → (∀ i, i < S → nx i j = i) ∨ ((∀ i, i < S → un i j = 0) ∧ ∀ i, i < S → nx i j = nx 0 j)))) s := by
 have w : ∀ Q s, wp (collect (gVar 0) tTrue (cOr (cCall j9 (cCons (cVar 1) (cCons (cVar 0) cNil))) (cCall jy (cCons (cVar 1) (cCons (cVar 0) cNil)))) anySt (upto dn fun i => .int i) [none, some (tabD S dn nx un)]) Q s = Q (upto dn fun j => .bl (bP ((∀ i, i < S → nx i j = i) ∨ ((∀ i, i < S → un i j = 0) ∧ ∀ i, i < S → nx i j = nx 0 j)))) s := fun Q s => Qhc Qg9 fun j hj Q => by
  have lk : ∀ Q s, wp (j9 [tabD S dn nx un, .int j]) Q s = Q (.bl (bP (∀ i, i < S → nx i j = i))) s := fun Q s => Qir hS hj
  have ly : ∀ Q s, wp (jy [tabD S dn nx un, .int j]) Q s = Q (.bl (bP ((∀ i, i < S → un i j = 0) ∧ ∀ i, i < S → nx i j = nx 0 j))) s := fun Q s => Qit hS1 hS hj
  simp_arith [↓lk, ↓ly]
 have hl : dn ≤ lim := QgI (by ac_nf)
 have hb : (-(2 ^ 62) ≤ (dn : Int) ∧ (dn : Int) < 2 ^ 62) := by ac_nf
 have w0 : ∀ Q s, wp (itemD (upto S fun s => D.tup (upto dn fun d => D.tup [.int (nx s d : Nat), .int (un s d : Nat)])) 0) Q s = Q (D.tup (upto dn fun d => D.tup [.int (nx 0 d : Nat), .int (un 0 d : Nat)])) s := fun Q s => Qg8 (by ac_nf)
 have tb : wp (subsD (tabD S dn nx un) (.int 0)) = fun Q s => Q (D.tup (upto dn fun d => D.tup [.int (nx 0 d : Nat), .int (un 0 d : Nat)])) s := by
  funext Q s; unfold tabD; rw [x_subsT, w0]
 (simp_arith [ju]; simp_arith [wP, ↓tb, capt, QgW, Int.toNat_natCast, Qg1, ↓w, ↓Qg3, hl, hb])
def Mk (nx : Nat → Nat → Nat) (a b i : Nat) : Prop := nx (nx i a) b = nx (nx i b) a ∨ nx (nx i a) b = nx i b ∨ nx (nx i b) a = nx i a
theorem Qiv {a b i : Nat} (hn : ∀ s d, s < S → d < dn → nx s d < S) (ha : a < dn) (hb : b < dn) (hi : i < S) : wp (j7 [tabD S dn nx un, .int a, .int b, .int i]) Q s = Q (.bl (bP (Mk nx a b i))) s := by
 have n1 : ∀ Q s, wp (jb [tabD S dn nx un, .int i, .int a]) Q s = Q (.int (nx i a : Nat)) s := fun Q s => Qip hi ha
 have n2 : ∀ Q s, wp (jb [tabD S dn nx un, .int i, .int b]) Q s = Q (.int (nx i b : Nat)) s := fun Q s => Qip hi hb
 have n3 : ∀ Q s, wp (jb [tabD S dn nx un, .int (nx i a : Nat), .int b]) Q s = Q (.int (nx (nx i a) b : Nat)) s := fun Q s => Qip (hn _ _ hi ha) hb
 have n4 : ∀ Q s, wp (jb [tabD S dn nx un, .int (nx i b : Nat), .int a]) Q s = Q (.int (nx (nx i b) a : Nat)) s := fun Q s => Qip (hn _ _ hi hb) ha
 (simp_arith [j7]; simp_arith [vz, ↓n1, ↓n2, ↓n3, ↓n4, Qhd, Mk])
theorem Qiw (hn : ∀ s d, s < S → d < dn → nx s d < S) (hS1 : 1 ≤ S) (hS : S ≤ 5) (hd : dn ≤ 5) : wp (jx [tabD S dn nx un]) Q s = Q (.bl (bP (∀ a, a < dn → ∀ b, b < a → ∀ i, i < S → Mk nx a b i))) s := by
 apply QgM
 have hb : (-(2 ^ 62) ≤ (dn : Int) ∧ (dn : Int) < 2 ^ 62) := by ac_nf
 have hc : (-(2 ^ 62) ≤ (S : Int) ∧ (S : Int) < 2 ^ 62) := by ac_nf
 have hl : S ≤ lim := QgI (by ac_nf)
 have w0 : wp (subsD (tabD S dn nx un) (.int 0)) = fun Q s => Q (D.tup (upto dn fun d => D.tup [.int (nx 0 d : Nat), .int (un 0 d : Nat)])) s := by
  funext Q s; unfold tabD; rw [x_subsT, Qg8 (by ac_nf)]
 have w1 : wp (lenD (tabD S dn nx un)) = fun Q s => Q (.int S) s := by
  funext Q s; unfold tabD; rw [x_lenT, QgW]
 (simp_arith [jx]; simp_arith [vo, ↓w0, QgW, Int.toNat_natCast, Qg1, hb])
 refine Qha (fun a l s' => s' = s ∧ (∃ x1 x2, l = [some (tabD S dn nx un), x1, x2]) ∧ ∀ a', a' < a → ∀ b, b < a' → ∀ i, i < S → Mk nx a' b i) (fun _ _ _ _ => trivial) ⟨rfl, ⟨_, _, rfl⟩, fun a h => by ac_nf⟩ (fun a l s' ha ⟨es, ⟨x1, x2, el⟩, hm⟩ => ?_) (fun l s' ⟨es, ⟨x1, x2, el⟩, hm⟩ => ?_)
 ·subst es
  subst el
  have hb2 : (-(2 ^ 62) ≤ (a : Int) ∧ (a : Int) < 2 ^ 62) := by ac_nf
  simp_arith [Int.toNat_natCast, Qg1, hb2]
  refine Qha (fun b l s2 => s2 = s' ∧ (∃ x2, l = [some (tabD S dn nx un), some (.int a), x2]) ∧ ∀ b', b' < b → ∀ i, i < S → Mk nx a b' i) (fun _ _ _ _ => trivial) ⟨rfl, ⟨_, rfl⟩, fun a h => by ac_nf⟩ (fun b l s2 hb3 ⟨es, ⟨x2, el⟩, hm2⟩ => ?_) (fun l s2 ⟨es, ⟨x2, el⟩, hm2⟩ => ?_)
  ·subst es
   subst el
   have w : ∀ Q s, wp (collect (gVar 0) tTrue (cCall j7 (cCons (cVar 1) (cCons (cVar 2) (cCons (cVar 3) (cCons (cVar 0) cNil))))) anySt (upto S fun i => .int i) [none, some (tabD S dn nx un), some (.int a), some (.int b)]) Q s = Q (upto S fun i => .bl (bP (Mk nx a b i))) s := fun Q s => Qhc Qg9 fun i hi Q => by
    have q : ∀ Q s, wp (j7 [tabD S dn nx un, .int a, .int b, .int i]) Q s = Q (.bl (bP (Mk nx a b i))) s := fun Q s => Qiv hn ha (by ac_nf) hi
    simp_arith [↓q]
   simp_arith [↓w1, capt, QgW, Int.toNat_natCast, Qg1, hc, hl, ↓w, ↓Qg3]
   by_cases h : ∀ i, i < S → Mk nx a b i
   ·rw [QgP h, if_neg (by simp)]
    refine ⟨⟨_, rfl⟩, fun b' hb' => ?_⟩
    rcases Nat.lt_succ_iff_lt_or_eq.mp hb' with h1 | h1
    ·exact hm2 b' h1
    ·subst h1; exact h
   ·rw [QgQ h, if_pos (by simp)]
    congr 1
    exact (QgQ fun z => h (z a ha b hb3)).symm
  ·subst es
   subst el
   simp_arith []
   refine ⟨⟨_, _, rfl⟩, fun a' ha' => ?_⟩
   rcases Nat.lt_succ_iff_lt_or_eq.mp ha' with h1 | h1
   ·exact hm a' h1
   ·subst h1; exact hm2
 ·subst es
  subst el
  simp_arith []
  rw [QgP hm]
theorem Qix {a d : Nat} (ha : a < S) (hd : d < dn) : wp (yv [tabD S dn nx un, .int a, .int d]) Q s = Q (.int (un a d : Nat)) s := by
 unfold tabD
 (simp_arith [yv]; simp_arith [v3, ↓Qg7 ha, ↓Qg7 hd])
def Al (nx un : Nat → Nat → Nat) (a d : Nat) : Prop := un a d = un (nx a d) d
def MarkIs (S dn : Nat) (nx un : Nat → Nat → Nat) (r : D) : Prop := (r = .non ∧ ∀ a d, a < S → d < dn → Al nx un a d) ∨
 ∃ a d, a < S ∧ d < dn ∧ r = .tup [.int (a : Nat), .int (d : Nat)] ∧ ¬ Al nx un a d ∧ (∀ a' d', a' < a → d' < dn → Al nx un a' d') ∧ ∀ d', d' < d → Al nx un a d'
theorem Qiy {r r' : D} (h : MarkIs S dn nx un r) (h' : MarkIs S dn nx un r') : r = r' := by
 rcases h with ⟨e, h⟩ | ⟨a, d, ha, hd, e, h1, h2, h3⟩
 ·rcases h' with ⟨e', h'⟩ | ⟨a', d', ha', hd', e', h1', _⟩
  ·rw [e, e']
  ·exact absurd (h a' d' ha' hd') h1'
 ·rcases h' with ⟨e', h'⟩ | ⟨a', d', ha', hd', e', h1', h2', h3'⟩
  ·exact absurd (h' a d ha hd) h1
  ·have ea : a = a' := by
     rcases Nat.lt_trichotomy a a' with z | z | z
     ·exact absurd (h2' a d z hd) h1
     ·exact z
     ·exact absurd (h2 a' d' z hd') h1'
   subst ea
   have ed : d = d' := by
    rcases Nat.lt_trichotomy d d' with z | z | z
    ·exact absurd (h3' d z) h1
    ·exact z
    ·exact absurd (h3 d' z) h1'
   subst ed
   rw [e, e']
theorem Qiz (hS1 : 1 ≤ S) (hS2 : S ≤ 5) (hn1 : 1 ≤ dn) (hn2 : dn ≤ 5) (hb : ∀ s d, s < S → d < dn → nx s d < S) (h : ∀ r, MarkIs S dn nx un r → Q r s) : wp (zn [tabD S dn nx un]) Q s := by
 have l0 : ∀ Q : D → Sto → Prop, ∀ s, wp (lenD (tabD S dn nx un)) Q s = Q (.int (S : Nat)) s := fun Q s => by unfold tabD; rw [x_lenT, QgW]
 have s0 : ∀ Q : D → Sto → Prop, ∀ s, wp (subsD (tabD S dn nx un) (.int 0)) Q s = Q (.tup (upto dn fun d => .tup [.int (nx 0 d : Nat), .int (un 0 d : Nat)])) s := fun Q s => by unfold tabD; rw [x_subsT, Qg8 (by ac_nf)]
 (simp_arith [zn]; simp_arith [Zl, ↓l0, Int.toNat_natCast, Qg1])
 refine ⟨rngb (by ac_nf) (by ac_nf), ?_⟩
 refine Qha (fun i l s' => ∃ y1 y2, l = [some (tabD S dn nx un), y1, y2] ∧ s = s' ∧ ∀ a d, a < i → d < dn → Al nx un a d) (fun _ _ _ _ => trivial) ⟨_, _, rfl, rfl, fun a d ha => absurd ha (Nat.not_lt_zero _)⟩ (fun a l s' ha ⟨y1, y2, el, es, hA⟩ => ?_) (fun l s' ⟨y1, y2, el, es, hA⟩ => ?_)
 ·subst el es
  simp_arith [↓s0, QgW, Int.toNat_natCast, Qg1]
  refine ⟨rngb (by ac_nf) (by ac_nf), ?_⟩
  refine Qha (fun d l s' => ∃ y2, l = [some (tabD S dn nx un), some (.int a), y2] ∧ s = s' ∧ ∀ d', d' < d → Al nx un a d') (fun _ _ _ _ => trivial) ⟨_, rfl, rfl, fun d hd => absurd hd (Nat.not_lt_zero _)⟩ (fun d l s' hd ⟨y2, el, es, hD⟩ => ?_) (fun l s' ⟨y2, el, es, hD⟩ => ?_)
  ·subst el es
   have hb2 := hb a d ha hd
   simp_arith [↓Qix ha hd, ↓Qip ha hd, ↓Qix hb2 hd]
   by_cases c : Al nx un a d
   ·have c' : un a d = un (nx a d) d := c
    rw [if_neg (by rw [c']; simp)]
    refine ⟨_, rfl, fun d' hd' => ?_⟩
    by_cases e : d' = d
    ·subst e; exact c
    ·exact hD d' (by ac_nf)
   ·have c' : ¬ un a d = un (nx a d) d := c
    rw [if_pos (by simp; ac_nf)]
    exact ⟨QgI (by ac_nf), h _ (.inr ⟨a, d, ha, hd, rfl, c, hA, hD⟩)⟩
  ·subst el es
   simp_arith []
   refine ⟨_, _, rfl, fun a' d' ha' hd' => ?_⟩
   by_cases e : a' = a
   ·subst e; exact hD d' hd'
   ·exact hA a' d' (by ac_nf) hd'
 ·subst el es
  simp_arith []
  exact h _ (.inl ⟨rfl, hA⟩)
end
end My
namespace My
open MM
open PySem (Str)
noncomputable def nF (s d : Nat) : Nat := if s = 0 then d + 1 else s
noncomputable def nP (s d : Nat) : Nat := if d = 0 then s else d - 1
noncomputable def uP (s d : Nat) : Nat := if d = 0 then s else 0
noncomputable def nS (s d : Nat) : Nat := d
noncomputable def uS (s d : Nat) : Nat := s
noncomputable def nA (n s d : Nat) : Nat := if s = n - 1 then 0 else s + 1
section
variable {n i j : Nat} {Q : D → Sto → Prop} {s : Sto}
theorem QiA : (1 + (i : Int)) = ((i + 1 : Nat) : Int) := by ac_nf
theorem QiB : ((i : Int) + 1) = ((i + 1 : Nat) : Int) := by ac_nf
theorem l2 : 2 ≤ lim := QgI (by ac_nf)
theorem l1 : 1 ≤ lim := QgI (by ac_nf)
theorem QiC {k : D} : wp (jz [k, .int (i : Nat), .int (j : Nat)]) Q s = Q (.tup [.int (nF i j : Nat), .int (nF i j : Nat)]) s := by
 apply QgM
 (simp_arith [jz]; simp_arith [wt, QiB, l2, nF])
 by_cases h : i = 0
 ·rw [if_pos (by ac_nf), if_pos h]; try rfl
 ·rw [if_neg (by ac_nf), if_neg h]; try rfl
theorem QiD {k : D} : wp (jB [k, .int (i : Nat), .int (j : Nat)]) Q s = Q (.tup [.int (nP i j : Nat), .int (uP i j : Nat)]) s := by
 apply QgM
 (simp_arith [jB]; simp_arith [wr, l2, nP, uP])
 by_cases h : j = 0
 ·rw [if_pos (by ac_nf), if_pos h, if_pos h]; try rfl
 ·rw [if_neg (by ac_nf), if_neg h, if_neg h, show ((j : Int) - 1) = ((j - 1 : Nat) : Int) by ac_nf]; try rfl
theorem QiE {k : D} : wp (jQ [k, .int (i : Nat), .int (j : Nat)]) Q s = Q (.tup [.int (nS i j : Nat), .int (uS i j : Nat)]) s := by
 apply QgM
 (simp_arith [jQ]; simp_arith [wU, l2, nS, uS])
theorem QiF (hn : 1 ≤ n) : wp (j8 [.int (n : Nat), .int (i : Nat), .int (j : Nat)]) Q s = Q (.tup [.int (nA n i j : Nat), .int (uS i j : Nat)]) s := by
 apply QgM
 (simp_arith [j8]; simp_arith [vm, l2, nA, uS, QiB])
 by_cases h : i = n - 1
 ·rw [if_pos (by ac_nf), if_pos h]; try rfl
 ·rw [if_neg (by ac_nf), if_neg h]; try rfl
theorem QiG (h1 : 1 ≤ n) (h4 : n ≤ 4) : wp (yi [.int (n : Nat)]) Q s = Q (tabD (n + 1) n nF nF) s := by
 apply QgM
 have e1 : ((n : Int) + 1 - 1).toNat = n := by ac_nf
 have ln : n ≤ lim := QgI (by ac_nf)
 have hb : (-(2 ^ 62) ≤ (1 : Int) ∧ (1 : Int) < 2 ^ 62) := by ac_nf
 have hc : (-(2 ^ 62) ≤ (n : Int) + 1 ∧ (n : Int) + 1 < 2 ^ 62) := by ac_nf
 have hd : (-(2 ^ 62) ≤ (n : Int) ∧ (n : Int) < 2 ^ 62) := by ac_nf
 have c0 : ∀ l, capt 1 [] l = [none] := fun _ => rfl
 have c1 : ∀ x y, capt 1 [0] [x, y] = [none, x] := fun _ _ => rfl
 have w1 : ∀ Q s, wp (collect (gVar 0) tTrue (cTup (cCons (cVar 0) (cCons (cVar 0) cNil))) anySt (upto n fun i => .int (1 + i)) [none]) Q s = Q (upto n fun i => .tup [.int (1 + i), .int (1 + i)]) s := fun Q s => Qhc Qg9 fun i hi Q => by
  simp_arith [l2]
 have w2 : ∀ Q s, wp (collect (gVar 0) tTrue (cTmp tupL (aComp 1 [0] (MM.iRng1 (cVar 1)) (gVar 0) tTrue (cTup (cCons (cVar 1) (cCons (cVar 1) cNil))))) anySt (upto n fun i => .int (1 + i)) [none, some (.int n)]) Q s = Q (upto n fun i => .tup (upto n fun _ => .tup [.int (1 + i), .int (1 + i)])) s := fun Q s => Qhc Qg9 fun i hi Q => by
  have w3 : ∀ Q s, wp (collect (gVar 0) tTrue (cTup (cCons (cVar 1) (cCons (cVar 1) cNil))) anySt (upto n fun i => .int i) [none, some (.int (1 + i))]) Q s = Q (upto n fun _ => .tup [.int (1 + i), .int (1 + i)]) s := fun Q s => Qhc Qg9 fun j hj Q => by
   simp_arith [l2]
  simp_arith [Int.toNat_natCast, Qg1, hd, c1, QgW, ln, ↓w3]
 (simp_arith [yi]; simp_arith [JE, e1, Qhn, hb, hc, c0, c1, QgW, ln, ↓w1, l1, ↓w2, ↓x_addT])
 refine ⟨QgI (by ac_nf), ?_⟩
 unfold tabD
 rw [Qhm]
 congr 1
 refine QgZ fun i hi => ?_
 cases i with
 | zero => exact congrArg _ (QgZ fun d hd => by rw [QiA]; rfl)
 | succ i => exact congrArg _ (QgZ fun d hd => by rw [QiA]; rfl)
theorem QiH (h1 : 1 ≤ n) (h4 : n ≤ 4) : wp (yj [.int (n : Nat)]) Q s = Q (tabD n (n + 1) nP uP) s := by
 apply QgM
 have ln : n ≤ lim := QgI (by ac_nf)
 have hd : (-(2 ^ 62) ≤ (n : Int) ∧ (n : Int) < 2 ^ 62) := by ac_nf
 have c0 : ∀ l, capt 1 [] l = [none] := fun _ => rfl
 have c1 : ∀ x y, capt 1 [1] [x, y] = [none, y] := fun _ _ => rfl
 have w1 : ∀ Q s, wp (collect (gVar 0) tTrue (cTup (cCons (cVar 0) (cCons (cCon (.int 0)) cNil))) anySt (upto n fun i => .int i) [none]) Q s = Q (upto n fun i => .tup [.int i, .int 0]) s := fun Q s => Qhc Qg9 fun i hi Q => by
  simp_arith [l2]
 have w2 : ∀ Q s, wp (collect (gVar 0) tTrue (c2 addD (cTup (cCons (cTup (cCons (cVar 0) (cCons (cVar 0) cNil))) cNil)) (cVar 1)) anySt (upto n fun i => .int i) [none, some (.tup (upto n fun i => .tup [.int i, .int 0]))]) Q s = Q (upto n fun i => .tup (upto (n + 1) fun d => .tup [.int (nP i d : Nat), .int (uP i d : Nat)])) s := fun Q s => Qhc Qg9 fun i hi Q => by
  apply QgM
  simp_arith [l2, l1, ↓x_addT]
  refine ⟨QgI (by simp only [QgW, List.length_cons, List.length_nil]; ac_nf), ?_⟩
  rw [Qhm]
  congr 1
  refine QgZ fun d hd => ?_
  cases d with
  | zero => rfl
  | succ d => rfl
 (simp_arith [yj]; simp_arith [JD, Int.toNat_natCast, Qg1, hd, c0, c1, QgW, ln, ↓w1, ↓w2])
 try rfl
theorem QiI (h1 : 1 ≤ n) (h4 : n ≤ 4) : wp (yR [.int (n : Nat)]) Q s = Q (tabD n n nS uS) s := by
 apply QgM
 have ln : n ≤ lim := QgI (by ac_nf)
 have hd : (-(2 ^ 62) ≤ (n : Int) ∧ (n : Int) < 2 ^ 62) := by ac_nf
 have c1 : ∀ x y, capt 1 [0] (x :: y) = [none, x] := fun _ _ => rfl
 have w2 : ∀ Q s, wp (collect (gVar 0) tTrue (cTmp tupL (aComp 1 [0] (MM.iRng1 (cVar 1)) (gVar 0) tTrue (cTup (cCons (cVar 0) (cCons (cVar 1) cNil))))) anySt (upto n fun i => .int i) [none, some (.int n)]) Q s = Q (upto n fun i => .tup (upto n fun d => .tup [.int (nS i d : Nat), .int (uS i d : Nat)])) s := fun Q s => Qhc Qg9 fun i hi Q => by
  have w3 : ∀ Q s, wp (collect (gVar 0) tTrue (cTup (cCons (cVar 0) (cCons (cVar 1) cNil))) anySt (upto n fun i => .int i) [none, some (.int i)]) Q s = Q (upto n fun d => .tup [.int (nS i d : Nat), .int (uS i d : Nat)]) s := fun Q s => Qhc Qg9 fun j hj Q => by
   simp_arith [l2, nS, uS]
  simp_arith [Int.toNat_natCast, Qg1, hd, c1, QgW, ln, ↓w3]
 (simp_arith [yR]; simp_arith [Zm, Int.toNat_natCast, Qg1, hd, c1, QgW, ln, ↓w2])
 try rfl
theorem QiJ (h1 : 1 ≤ n) (h4 : n ≤ 4) : wp (zG [.int (n : Nat)]) Q s = Q (tabD n 1 (nA n) uS) s := by
 apply QgM
 have ln : n ≤ lim := QgI (by ac_nf)
 have hd : (-(2 ^ 62) ≤ (n : Int) ∧ (n : Int) < 2 ^ 62) := by ac_nf
 have n0 : (0 : Int) < n := by ac_nf
 have c1 : ∀ x y, capt 1 [0] (x :: y) = [none, x] := fun _ _ => rfl
 have w2 : ∀ Q s, wp (collect (gVar 0) tTrue (cTup (cCons (cTup (cCons (c2 modD (c2 addD (cVar 0) (cCon (.int 1))) (cVar 1)) (cCons (cVar 0) cNil))) cNil)) anySt (upto n fun i => .int i) [none, some (.int n)]) Q s = Q (upto n fun i => .tup (upto 1 fun d => .tup [.int (nA n i d : Nat), .int (uS i d : Nat)])) s := fun Q s => Qhc Qg9 fun i hi Q => by
  have e : ((i : Int) + 1) % n = (nA n i 0 : Nat) := by
   unfold nA
   by_cases h : i = n - 1
   ·rw [if_pos h, show ((i : Int) + 1) = n by ac_nf]; simp
   ·rw [if_neg h]; rw [Int.emod_eq_of_lt (by ac_nf) (by ac_nf)]; ac_nf
  apply QgM
  simp_arith [l2, l1, e]
  refine ⟨by ac_nf, ?_⟩
  try rfl
 (simp_arith [zG]; simp_arith [Z9, Int.toNat_natCast, Qg1, hd, c1, QgW, ln, ↓w2])
 try rfl
theorem QiK {S dn : Nat} {nx un : Nat → Nat → Nat} : Pd 3 (.tup (upto S fun s => .tup (upto dn fun d => .tup [.int (nx s d : Nat), .int (un s d : Nat)]))) := .tup fun d hd => by
 obtain ⟨i, hi, e⟩ := Qic hd
 subst e
 refine .tup fun d hd => ?_
 obtain ⟨j, hj, e⟩ := Qic hd
 subst e
 refine .tup fun d hd => ?_
 rcases List.mem_cons.mp hd with h | h
 ·subst h; exact .int _
 ·rw [List.mem_singleton] at h; subst h; exact .int _
theorem QiL (h1 : 1 ≤ n) (h4 : n ≤ 4) : wp (jk [.int (n : Nat)]) Q s = Q (.bl true) s := by
 have c1 : ∀ x y, capt 1 [0] (x :: y) = [none, x] := fun _ _ => rfl
 have c2 : ∀ x y z, capt 1 [0, 1] (x :: y :: z) = [none, x, y] := fun _ _ _ => rfl
 have row : ∀ {m : Nat} {i : Nat} {f : List D → M D} {nx un : Nat → Nat → Nat}, (∀ j Q s, wp (f [.int (n : Nat), .int (i : Nat), .int (j : Nat)]) Q s = Q (.tup [.int (nx i j : Nat), .int (un i j : Nat)]) s) → ∀ Q s, wp (collect (gVar 0) tTrue (cCall f (cCons (cVar 2) (cCons (cVar 1) (cCons (cVar 0) cNil)))) anySt (upto m fun i => .int i) [none, some (.int (i : Nat)), some (.int (n : Nat))]) Q s = Q (upto m fun d => .tup [.int (nx i d : Nat), .int (un i d : Nat)]) s := fun {m i f nx un} hf Q s => Qhc Qg9 fun j hj Q => by
  simp_arith [↓hf]
 have lk : ∀ k : Nat, k ≤ 5 → k ≤ lim := fun k hk => QgI (by ac_nf)
 have hd : ∀ k : Nat, k ≤ 5 → (-(2 ^ 62) ≤ (k : Int) ∧ (k : Int) < 2 ^ 62) := fun k hk => by ac_nf
 have hd1 : (-(2 ^ 62) ≤ (1 : Int) ∧ (1 : Int) < 2 ^ 62) := by ac_nf
 have t1 : (1 : Int).toNat = 1 := rfl
 have tabF : ∀ Q s, wp (collect (gVar 0) tTrue (cTmp tupL (aComp 1 [0, 1] (MM.iRng1 (cVar 1)) (gVar 0) tTrue (cCall jz (cCons (cVar 2) (cCons (cVar 1) (cCons (cVar 0) cNil)))))) anySt (upto (n + 1) fun i => .int i) [none, some (.int (n : Nat))]) Q s = Q (upto (n + 1) fun i => .tup (upto n fun d => .tup [.int (nF i d : Nat), .int (nF i d : Nat)])) s := fun Q s => Qhc Qg9 fun i hi Q => by
  have r : ∀ Q s, _ := row (m := n) (i := i) (f := jz) (nx := nF) (un := nF) fun j Q s => QiC
  simp_arith [Int.toNat_natCast, Qg1, hd n (by ac_nf), c2, QgW, lk n (by ac_nf), ↓r]
 have tabP : ∀ Q s, wp (collect (gVar 0) tTrue (cTmp tupL (aComp 1 [0, 1] (MM.iRng1 (MM.c2 addD (cVar 1) (cCon (.int 1)))) (gVar 0) tTrue (cCall jB (cCons (cVar 2) (cCons (cVar 1) (cCons (cVar 0) cNil)))))) anySt (upto n fun i => .int i) [none, some (.int (n : Nat))]) Q s = Q (upto n fun i => .tup (upto (n + 1) fun d => .tup [.int (nP i d : Nat), .int (uP i d : Nat)])) s := fun Q s => Qhc Qg9 fun i hi Q => by
  have r : ∀ Q s, _ := row (m := n + 1) (i := i) (f := jB) (nx := nP) (un := uP) fun j Q s => QiD
  simp_arith [QiB, Int.toNat_natCast, Qg1, hd (n + 1) (by ac_nf), c2, QgW, lk (n + 1) (by ac_nf), ↓r]
 have tabS : ∀ Q s, wp (collect (gVar 0) tTrue (cTmp tupL (aComp 1 [0, 1] (MM.iRng1 (cVar 1)) (gVar 0) tTrue (cCall jQ (cCons (cVar 2) (cCons (cVar 1) (cCons (cVar 0) cNil)))))) anySt (upto n fun i => .int i) [none, some (.int (n : Nat))]) Q s = Q (upto n fun i => .tup (upto n fun d => .tup [.int (nS i d : Nat), .int (uS i d : Nat)])) s := fun Q s => Qhc Qg9 fun i hi Q => by
  have r : ∀ Q s, _ := row (m := n) (i := i) (f := jQ) (nx := nS) (un := uS) fun j Q s => QiE
  simp_arith [Int.toNat_natCast, Qg1, hd n (by ac_nf), c2, QgW, lk n (by ac_nf), ↓r]
 have tabA : ∀ Q s, wp (collect (gVar 0) tTrue (cTmp tupL (aComp 1 [0, 1] (MM.iRng1 (cCon (.int 1))) (gVar 0) tTrue (cCall j8 (cCons (cVar 2) (cCons (cVar 1) (cCons (cVar 0) cNil)))))) anySt (upto n fun i => .int i) [none, some (.int (n : Nat))]) Q s = Q (upto n fun i => .tup (upto 1 fun d => .tup [.int (nA n i d : Nat), .int (uS i d : Nat)])) s := fun Q s => Qhc Qg9 fun i hi Q => by
  have r : ∀ Q s, _ := row (m := 1) (i := i) (f := j8) (nx := nA n) (un := uS) fun j Q s => QiF h1
  have z : rngD 0 1 = upto 1 fun i => .int i := Qg1
  simp_arith [t1, z, hd1, c2, QgW, l1, ↓r]
 have f1 : ∀ Q s, wp (yi [.int (n : Nat)]) Q s = Q (tabD (n + 1) n nF nF) s := fun Q s => QiG h1 h4
 have f2 : ∀ Q s, wp (yj [.int (n : Nat)]) Q s = Q (tabD n (n + 1) nP uP) s := fun Q s => QiH h1 h4
 have f3 : ∀ Q s, wp (yR [.int (n : Nat)]) Q s = Q (tabD n n nS uS) s := fun Q s => QiI h1 h4
 have f4 : ∀ Q s, wp (zG [.int (n : Nat)]) Q s = Q (tabD n 1 (nA n) uS) s := fun Q s => QiJ h1 h4
 unfold tabD at f1 f2 f3 f4
 have e1 : ∀ {S dn : Nat} {nx un : Nat → Nat → Nat} Q s, _ := fun {S dn nx un} Q s => Qhl (Q := Q) (s := s) (QiK (S := S) (dn := dn) (nx := nx) (un := un)) (by ac_nf)
 have e2 : ∀ {S dn : Nat} {nx un : Nat → Nat → Nat} Q s, _ := fun {S dn nx un} Q s => Qhk (Q := Q) (s := s) (QiK (S := S) (dn := dn) (nx := nx) (un := un)) (by ac_nf)
 apply QgM
 (simp_arith [jk]; simp_arith [wl, ↓f1, ↓f2, ↓f3, ↓f4, QiB, Int.toNat_natCast, Qg1, hd n (by ac_nf), hd (n + 1) (by ac_nf), c1, QgW, lk n (by ac_nf), lk (n + 1) (by ac_nf), ↓tabF, ↓tabP, ↓tabS, ↓tabA, ↓e1, ↓e2])
end
end My
namespace My
open MM
open PySem (Str)
section
variable {n : Nat} {Q : D → Sto → Prop} {s : Sto}
structure Kn (S dn : Nat) (nx un : Nat → Nat → Nat) (mk : D) (a b : Bool) : Prop where
 S1 : 1 ≤ S
 S5 : S ≤ 5
 d1 : 1 ≤ dn
 d5 : dn ≤ 5
 ok : ∀ s d, s < S → d < dn → nx s d < S ∧ un s d < 5
 mark : MarkIs S dn nx un mk
 plain : bP (∀ j, j < dn → (∀ i, i < S → nx i j = i) ∨ ((∀ i, i < S → un i j = 0) ∧ ∀ i, i < S → nx i j = nx 0 j)) = a
 meek : bP (∀ a, a < dn → ∀ b, b < a → ∀ i, i < S → Mk nx a b i) = b
theorem knF (h1 : 1 ≤ n) (h4 : n ≤ 4) : Kn (n + 1) n nF nF .non false (decide (n = 1)) where
 S1 := by ac_nf
 S5 := by ac_nf
 d1 := by ac_nf
 d5 := by ac_nf
 ok s d hs hd := by unfold nF; split <;> ac_nf
 mark := .inl ⟨rfl, fun a d ha hd => by unfold Al nF; split <;> simp_all⟩
 plain := QgQ fun h => by
  rcases h 0 (by ac_nf) with z | z
  ·exact absurd (z 0 (by ac_nf)) (by simp [nF])
  ·exact absurd (z.1 0 (by ac_nf)) (by simp [nF])
 meek := by
  by_cases e : n = 1
  ·rw [QgP, decide_eq_true e]
   intro a ha b hb; ac_nf
  ·rw [QgQ, decide_eq_false e]
   intro h
   have := h 1 (by ac_nf) 0 (by ac_nf) 0 (by ac_nf)
   simp [Mk, nF] at this
theorem knP (h1 : 1 ≤ n) (h4 : n ≤ 4) : Kn n (n + 1) nP uP .non true true where
 S1 := by ac_nf
 S5 := by ac_nf
 d1 := by ac_nf
 d5 := by ac_nf
 ok s d hs hd := by unfold nP uP; split <;> ac_nf
 mark := .inl ⟨rfl, fun a d ha hd => by unfold Al nP uP; split <;> simp_all⟩
 plain := QgP fun j hj => by
  by_cases e : j = 0
  ·left; intro i _; unfold nP; rw [if_pos e]
  ·right
   exact ⟨fun i _ => by unfold uP; rw [if_neg e], fun i _ => by unfold nP; rw [if_neg e, if_neg e]⟩
 meek := QgP fun a ha b hb i hi => by
  unfold Mk nP
  by_cases e : a = 0 <;> by_cases f : b = 0 <;> simp [e, f]
theorem knS (h1 : 1 ≤ n) (h4 : n ≤ 4) : Kn n n nS uS (if n = 1 then .non else .tup [.int 0, .int 1]) (decide (n = 1)) true where
 S1 := by ac_nf
 S5 := by ac_nf
 d1 := by ac_nf
 d5 := by ac_nf
 ok s d hs hd := by unfold nS uS; ac_nf
 mark := by
  by_cases e : n = 1
  ·rw [if_pos e]
   exact .inl ⟨rfl, fun a d ha hd => by unfold Al nS uS; ac_nf⟩
  ·rw [if_neg e]
   exact .inr ⟨0, 1, by ac_nf, by ac_nf, rfl, by unfold Al nS uS; ac_nf, fun a' d' h => by ac_nf, fun d' h => by unfold Al nS uS; ac_nf⟩
 plain := by
  by_cases e : n = 1
  ·rw [QgP, decide_eq_true e]
   intro j hj; left; intro i hi; unfold nS; ac_nf
  ·rw [QgQ, decide_eq_false e]
   intro h
   rcases h 0 (by ac_nf) with z | z
   ·exact absurd (z 1 (by ac_nf)) (by simp [nS])
   ·exact absurd (z.1 1 (by ac_nf)) (by simp [uS])
 meek := QgP fun a ha b hb i hi => by
  right; left; rfl
theorem knA (h1 : 1 ≤ n) (h4 : n ≤ 4) : Kn n 1 (nA n) uS (if n = 1 then .non else .tup [.int 0, .int 0]) (decide (n = 1)) true where
 S1 := by ac_nf
 S5 := by ac_nf
 d1 := by ac_nf
 d5 := by ac_nf
 ok s d hs hd := by unfold nA uS; split <;> ac_nf
 mark := by
  by_cases e : n = 1
  ·rw [if_pos e]
   exact .inl ⟨rfl, fun a d ha hd => by unfold Al nA uS; split <;> ac_nf⟩
  ·rw [if_neg e]
   exact .inr ⟨0, 0, by ac_nf, by ac_nf, rfl, by unfold Al nA uS; split <;> ac_nf, fun a' d' h => by ac_nf, fun d' h => by ac_nf⟩
 plain := by
  by_cases e : n = 1
  ·rw [QgP, decide_eq_true e]
   intro j hj; left; intro i hi; unfold nA; split <;> ac_nf
  ·rw [QgQ, decide_eq_false e]
   intro h
   rcases h 0 (by ac_nf) with z | z
   ·exact absurd (z 0 (by ac_nf)) (by unfold nA; split <;> ac_nf)
   ·exact absurd (z.1 1 (by ac_nf)) (by simp [uS])
 meek := QgP fun a ha b hb i hi => by ac_nf
theorem QiM {S dn : Nat} {nx un : Nat → Nat → Nat} {mk : D} {a b : Bool} (k : Kn S dn nx un mk a b) : wp (zn [tabD S dn nx un]) Q s = Q mk s :=
 QgM (Qiz k.S1 k.S5 k.d1 k.d5 (fun s d hs hd => (k.ok s d hs hd).1) fun r hr => ⟨Qiy hr k.mark, rfl⟩)
noncomputable def  bodyH : CS := (sSeq (sIf (tOrB (tAndB (tCmpB (c2 isntD (cCall ju (cCons (cVar 3) cNil)) (cCon (.bl true)))) (tVal (cVar 4))) (tAndB (tCmpB (c2 isntD (cCall jx (cCons (cVar 3) cNil)) (cCon (.bl true)))) (tVal (cVar 5))))
   (sSeq (sRet (cCon (.bl false)))
   sNext)
   sNext)
   (sSeq (sIf (tOrB (tAndB (tCmpB (c2 isntD (cCall ju (cCons (cVar 3) cNil)) (cCon (.bl false)))) (tNotB (tVal (cVar 4)))) (tAndB (tCmpB (c2 isntD (cCall jx (cCons (cVar 3) cNil)) (cCon (.bl false)))) (tNotB (tVal (cVar 5)))))
    (sSeq (sRet (cCon (.bl false)))
    sNext)
    sNext)
   (sSeq (sIf (tCmpB (c2 neD (cCall jF (cCons (cCall jE (cCons (cVar 3) cNil)) cNil)) (cVar 3)))
    (sSeq (sRet (cCon (.bl false)))
    sNext)
    sNext)
   sNext)))
theorem QiN {S dn : Nat} {nx un : Nat → Nat → Nat} {mk : D} {a b : Bool} {x0 x1 x2 : Option D} {P : Flw → Sto → Prop} (k : Kn S dn nx un mk a b)
  (h : ∀ s', Ext s s' → P (.next [x0, x1, x2, some (tabD S dn nx un), some (.bl a), some (.bl b)]) s') : wp (bodyH [x0, x1, x2, some (tabD S dn nx un), some (.bl a), some (.bl b)]) P s := by
 have p1 : ∀ Q s, wp (ju [tabD S dn nx un]) Q s = Q (.bl a) s := fun Q s => by rw [Qiu k.S1 k.S5 k.d5, k.plain]
 have p2 : ∀ Q s, wp (jx [tabD S dn nx un]) Q s = Q (.bl b) s := fun Q s => by rw [Qiw (fun s d hs hd => (k.ok s d hs hd).1) k.S1 k.S5 k.d5, k.meek]
 have ne : ∀ Q s, wp (neD (tabD S dn nx un) (tabD S dn nx un)) Q s = Q (.bl false) s := fun Q s => Qhl QiK (by ac_nf)
 have k5 : ∀ i d, i < S → d < dn → nx i d < 5 ∧ un i d < 5 := fun i d hi hd => by
  have z := k.ok i d hi hd
  have := k.S5
  ac_nf
 have e : (D.tup (upto S fun i => rowD dn fun d => (nx i d, un i d))) = tabD S dn nx un := rfl
 have b1 : (!(false == true)) = true := rfl
 have b2 : (!(true == true)) = false := rfl
 have b3 : (!(false == false)) = false := rfl
 have b4 : (!(true == false)) = true := rfl
 unfold bodyH
 cases a <;> cases b <;> simp_arith [↓p1, ↓p2, b1, b2, b3, b4, Bool.false_eq_true, if_false, if_true] <;> (
  refine Qh6 (p := fun i d => (nx i d, un i d)) k.S5 k.d5 k5 fun s1 e1 => ?_
  simp_arith []
  refine Qio (p := fun i d => (nx i d, un i d)) k.S1 k.S5 k.d1 k.d5 k.ok fun s2 e2 => ?_
  rw [e]
  simp_arith [↓ne]
  exact h _ (e1.trans e2))
noncomputable def  tDn (n : Nat) : Nat → D
 | 0 => tabD (n + 1) n nF nF
 | 1 => tabD n (n + 1) nP uP
 | 2 => tabD n n nS uS
 | _ => tabD n 1 (nA n) uS
noncomputable def  mDn (n : Nat) : Nat → D
 | 0 => .non
 | 1 => .non
 | 2 => if n = 1 then .non else .tup [.int 0, .int 1]
 | _ => if n = 1 then .non else .tup [.int 0, .int 0]
noncomputable def aDn (n : Nat) : Nat → Bool
 | 0 => false
 | 1 => true
 | 2 => decide (n = 1)
 | _ => decide (n = 1)
noncomputable def bDn (n : Nat) : Nat → Bool
 | 0 => decide (n = 1)
 | _ => true
theorem QiO {i : Nat} (h1 : 1 ≤ n) (h4 : n ≤ 4) : ∃ S dn nx un, tDn n i = tabD S dn nx un ∧ Kn S dn nx un (mDn n i) (aDn n i) (bDn n i) :=
 match i with
 | 0 => ⟨_, _, _, _, rfl, knF h1 h4⟩
 | 1 => ⟨_, _, _, _, rfl, knP h1 h4⟩
 | 2 => ⟨_, _, _, _, rfl, knS h1 h4⟩
 | i + 3 => ⟨_, _, _, _, rfl, knA h1 h4⟩
theorem x_neL {n a b : Nat} {ds : List D} (h1 : s[a]? = some (.lst ds)) (h2 : s[b]? = some (.lst ds)) (h : ∀ d ∈ ds, Pd n d) (hn : n ≤ 50) : wp (neD (.ref a) (.ref b)) Q s = Q (.bl false) s := by
 unfold neD eqB
 rw [Qgy, Qgy, Qgz h1, Qgy, Qgz h2, if_pos rfl, Qhj fun d hd => ((h d hd).le hn).eq]
 first | rfl | exact wp_eq rfl | exact (wp_eq rfl).trans wp_ret | (simp only [wp_ret, wp_bad]; done)
theorem QiP (h1 : 1 ≤ n) (h4 : n ≤ 4) (h : ∀ s', Q (.bl true) s') : wp (jj [.int (n : Nat)]) Q s := by
 have f1 : ∀ Q s, wp (yi [.int (n : Nat)]) Q s = Q (tabD (n + 1) n nF nF) s := fun Q s => QiG h1 h4
 have f2 : ∀ Q s, wp (yj [.int (n : Nat)]) Q s = Q (tabD n (n + 1) nP uP) s := fun Q s => QiH h1 h4
 have f3 : ∀ Q s, wp (yR [.int (n : Nat)]) Q s = Q (tabD n n nS uS) s := fun Q s => QiI h1 h4
 have f4 : ∀ Q s, wp (zG [.int (n : Nat)]) Q s = Q (tabD n 1 (nA n) uS) s := fun Q s => QiJ h1 h4
 have l3 : 3 ≤ lim := QgI (by ac_nf)
 have l4 : 4 ≤ lim := QgI (by ac_nf)
 have c0 : ∀ l, capt 1 [] l = [none] := fun _ => rfl
 (simp_arith [jj]; simp_arith [y3, ↓f1, ↓f2, ↓f3, ↓f4, l3, l4, c0])
 have en : ((n : Int) == 1) = decide (n = 1) := by
  by_cases e : n = 1
  ·subst e; rfl
  ·rw [decide_eq_false e]; simp; ac_nf
 have er : [D.tup [tabD (n + 1) n nF nF, .bl false, .bl ((n : Int) == 1)], .tup [tabD n (n + 1) nP uP, .bl true, .bl true], .tup [tabD n n nS uS, .bl ((n : Int) == 1), .bl true], .tup [tabD n 1 (nA n) uS, .bl ((n : Int) == 1), .bl true]] = upto 4 fun i => .tup [tDn n i, .bl (aDn n i), .bl (bDn n i)] := by
  rw [en]; rfl
 rw [er]
 have g1 : (s ++ [MO.lst (upto 4 fun i => .tup [tDn n i, .bl (aDn n i), .bl (bDn n i)])])[s.length]? = some (.lst (upto 4 fun i => .tup [tDn n i, .bl (aDn n i), .bl (bDn n i)])) := by simp
 generalize s ++ [MO.lst (upto 4 fun i => .tup [tDn n i, .bl (aDn n i), .bl (bDn n i)])] = s1 at *
 have q1 : ∀ Q, wp (getL s.length) Q s1 = Q (upto 4 fun i => .tup [tDn n i, .bl (aDn n i), .bl (bDn n i)]) s1 := fun Q => Qgz g1
 have cw : ∀ Q, wp (collect (gVar 0) tTrue (cCall zn (cCons (c2 subsD (cVar 0) (cCon (D.int 0))) cNil)) (sameL s.length (upto 4 fun i => .tup [tDn n i, .bl (aDn n i), .bl (bDn n i)])) (upto 4 fun i => .tup [tDn n i, .bl (aDn n i), .bl (bDn n i)]) [none]) Q s1 = Q (upto 4 (mDn n)) s1 := fun Q => Qhc g1 fun i hi Q => by
  obtain ⟨S, dn, nx, un, e, k⟩ := QiO (i := i) h1 h4
  have m : ∀ Q s, wp (zn [tDn n i]) Q s = Q (mDn n i) s := fun Q s => by rw [e]; exact QiM k
  simp_arith [↓m]
 simp_arith [↓q1, QgW, l4, c0]
 rw [cw]
 have gt : ∀ Q s, wp (gtD (.int (n : Nat)) (.int 1)) Q s = Q (.bl (decide (¬ n = 1))) s := fun Q s => by
  rw [show (decide (¬ n = 1)) = decide ((1 : Int) < n) from decide_eq_decide.mpr (by ac_nf)]; exact wp_eq rfl
 have it : ∀ (x : D) Q s, wp (itemD [.non, x] (if (decide (¬ n = 1)) = true then 1 else 0)) Q s = Q (if n = 1 then .non else x) s := fun x Q s => by
  by_cases e : n = 1
  ·rw [if_neg (by simp [e]), if_pos e]; exact wp_eq rfl
  ·rw [if_pos (by simp [e]), if_neg e]; exact wp_eq rfl
 simp_arith [l2, l4, ↓gt, ↓it]
 have em : [D.non, .non, (if n = 1 then .non else .tup [.int 0, .int 1]), (if n = 1 then .non else .tup [.int 0, .int 0])] = upto 4 (mDn n) := rfl
 rw [em]
 have pm : ∀ d ∈ upto 4 (mDn n), Pd 1 d := fun d hd => by
  have ht : ∀ a b : Int, Pd 1 (.tup [.int a, .int b]) := fun a b => .tup fun d hd => by
   rcases List.mem_cons.mp hd with h | h
   ·subst h; exact .int _
   ·rw [List.mem_singleton] at h; subst h; exact .int _
  obtain ⟨i, hi, e⟩ := Qic hd
  subst e
  unfold mDn
  split
  ·exact .non
  ·exact .non
  ·split
   ·exact .non
   ·exact ht _ _
  ·split
   ·exact .non
   ·exact ht _ _
 have g2 : (s1 ++ [MO.lst (upto 4 (mDn n))])[s.length]? = some (.lst (upto 4 fun i => .tup [tDn n i, .bl (aDn n i), .bl (bDn n i)])) := (Ext.snoc (Ext.refl _) _).at_ g1
 rw [x_neL (ds := upto 4 (mDn n)) (List.getElem?_append_left (by simp) |>.trans (by simp)) (by simp) pm (by ac_nf)]
 have g3 : (s1 ++ [MO.lst (upto 4 (mDn n))] ++ [MO.lst (upto 4 (mDn n))])[s.length]? = some (.lst (upto 4 fun i => .tup [tDn n i, .bl (aDn n i), .bl (bDn n i)])) := (Ext.snoc (Ext.refl _) _).at_ g2
 generalize s1 ++ [MO.lst (upto 4 (mDn n))] ++ [MO.lst (upto 4 (mDn n))] = s2 at *
 have q2 : ∀ Q, wp (getL s.length) Q s2 = Q (upto 4 fun i => .tup [tDn n i, .bl (aDn n i), .bl (bDn n i)]) s2 := fun Q => Qgz g3
 simp only [Bool.false_eq_true, if_false]
 rw [show sNext = sNext from rfl]
 simp_arith [↓q2]
 refine Qha (fun i l s' => Ext s2 s' ∧ ∃ x1 x2 x3, l = [some (.int (n : Nat)), some (.ref s.length), some (.ref s1.length), x1, x2, x3]) (fun i l s' w => w.1.at_ g3) ⟨Ext.refl _, _, _, _, rfl⟩ (fun i l s' hi w => ?_) (fun l s' w => ?_)
 ·obtain ⟨ex, x1, x2, x3, el⟩ := w
  subst el
  obtain ⟨S, dn, nx, un, e, k⟩ := QiO (i := i) h1 h4
  have r3 : ∀ {x0 x1 x2 x3 x4 x5 : Option D} {a b c : D} {Q : Loc → Sto → Prop} {s : Sto}, wp (gTupD 3 (gsCons (gVar 3) (gsCons (gVar 4) (gsCons (gVar 5) gsNil))) (.tup [a, b, c]) [x0, x1, x2, x3, x4, x5]) Q s = Q [x0, x1, x2, some a, some b, some c] s := fun {_ _ _ _ _ _ _ _ _ _ _} => by simp_arith []
  rw [r3, e]
  exact QiN k fun s' e' => ⟨ex.trans e', _, _, _, rfl⟩
 ·obtain ⟨ex, x1, x2, x3, el⟩ := w
  subst el
  simp_arith []
  exact h _
theorem QiQ {i : Int} (h1 : 1 ≤ i) (h4 : i ≤ 4) (h : ∀ s', Q (.bl true) s') : wp (jj [.int i]) Q s := by
 obtain ⟨n, rfl⟩ : ∃ n : Nat, i = n := ⟨i.toNat, by ac_nf⟩
 exact QiP (by ac_nf) (by ac_nf) h
theorem QiR {i : Int} (h1 : 1 ≤ i) (h4 : i ≤ 4) : wp (jk [.int i]) Q s = Q (.bl true) s := by
 obtain ⟨n, rfl⟩ : ∃ n : Nat, i = n := ⟨i.toNat, by ac_nf⟩
 exact QiL (by ac_nf) (by ac_nf)
theorem QiS (ns : List Int) : wp (vj [.lit (ns.map D.int)]) (fun d _ => d = .bl true) [] := by
 (simp_arith [vj]; simp_arith [Wa])
 refine QhT fun p q s1 hp _ _ k1 => ?_
 simp_arith []
 refine QhS hp (by ac_nf) (by ac_nf) fun r1 s2 a0 a1 hp2 _ => ?_
 simp_arith []
 refine QhS hp2 (by ac_nf) (by ac_nf) fun r2 s3 b0 b1 hp3 _ => ?_
 have w1 : ∀ Q s, wp (jk [.int (1 + r1)]) Q s = Q (.bl true) s := fun Q s => QiR (by ac_nf) (by ac_nf)
 have w2 : ∀ Q s, wp (jk [.int (1 + r2)]) Q s = Q (.bl true) s := fun Q s => QiR (by ac_nf) (by ac_nf)
 simp_arith [↓w1, ↓w2]
 refine QiQ (by ac_nf) (by ac_nf) fun s4 => ?_
 simp_arith []
 refine QiQ (by ac_nf) (by ac_nf) fun s5 => ?_
 simp_arith [↓w1]
theorem law_true (ns : List Int) (h : ns.length ≤ 63) : ∃ st', vj [.lit (ns.map D.int)] [] = .ok (.bl true) st' := Qhs (QiS ns)
end
end My
namespace My
open PySem PySem.Spec PyProof.Rows L2 MM
theorem txt_mk {K : PySem.W.Frag} {h : Heap} {mg : Str → Option Value} {fa : Addr} (X : K.In h) (G : h.Ns mainGlobals mg) (hfa : mg "law" = some (.ref fa))
  {f0 f1 f2 f3 f4 f5 f6 f7 f8 f9 f10 f11 f12 f13 f14 f15 f16 f17 f18 f19 f20 f21 f22 f23 f24 f25 f26 f27 f28 f29 : Addr} {od0 an0 od1 an1 od2 an2 od3 an3 od4 an4 od5 an5 od6 an6 od7 an7 od8 an8 od9 an9 od10 an10 od11 an11 od12 an12 od13 an13 od14 an14 od15 an15 od16 an16 od17 an17 od18 an18 od19 an19 od20 an20 od21 an21 od22 an22 od23 an23 od24 an24 od25 an25 od26 an26 od27 an27 od28 an28 od29 an29 : Option Addr} {sl0 sl1 sl2 sl3 sl4 sl5 sl6 sl7 sl8 sl9 sl10 sl11 sl12 sl13 sl14 sl15 sl16 sl17 sl18 sl19 sl20 sl21 sl22 sl23 sl24 sl25 sl26 sl27 sl28 sl29 : Array (Option Value)} {oc0 kV0 dc0 pm0 cd0 ct0 oc1 kV1 dc1 pm1 cd1 ct1 oc2 kV2 dc2 pm2 cd2 ct2 oc3 kV3 dc3 pm3 cd3 ct3 oc4 kV4 dc4 pm4 cd4 ct4 oc5 kV5 dc5 pm5 cd5 ct5 oc6 kV6 dc6 pm6 cd6 ct6 oc7 kV7 dc7 pm7 cd7 ct7 oc8 kV8 dc8 pm8 cd8 ct8 oc9 kV9 dc9 pm9 cd9 ct9 oc10 kV10 dc10 pm10 cd10 ct10 oc11 kV11 dc11 pm11 cd11 ct11 oc12 kV12 dc12 pm12 cd12 ct12 oc13 kV13 dc13 pm13 cd13 ct13 oc14 kV14 dc14 pm14 cd14 ct14 oc15 kV15 dc15 pm15 cd15 ct15 oc16 kV16 dc16 pm16 cd16 ct16 oc17 kV17 dc17 pm17 cd17 ct17 oc18 kV18 dc18 pm18 cd18 ct18 oc19 kV19 dc19 pm19 cd19 ct19 oc20 kV20 dc20 pm20 cd20 ct20 oc21 kV21 dc21 pm21 cd21 ct21 oc22 kV22 dc22 pm22 cd22 ct22 oc23 kV23 dc23 pm23 cd23 ct23 oc24 kV24 dc24 pm24 cd24 ct24 oc25 kV25 dc25 pm25 cd25 ct25 oc26 kV26 dc26 pm26 cd26 ct26 oc27 kV27 dc27 pm27 cd27 ct27 oc28 kV28 dc28 pm28 cd28 ct28 oc29 kV29 dc29 pm29 cd29 ct29 : Value}
  (a0 : PySem.W.nsIn K mainGlobals "next_state" = some (some (.ref f0))) (l0 : K.lookup f0 = some ⟨oc0, od0, .func (PySem.W.fnOf "next_state" "next_state" (defArgs jD) (defBody jD) (defScope jD) .none kV0 dc0 pm0 an0 cd0 ct0), sl0⟩) (c0 : PySem.W.codeIn K cd0 "next_state" = true) (k0 : PySem.W.keepIn K (.ref f0) = true)
  (a1 : PySem.W.nsIn K mainGlobals "answer" = some (some (.ref f1))) (l1 : K.lookup f1 = some ⟨oc1, od1, .func (PySem.W.fnOf "answer" "answer" (defArgs yF) (defBody yF) (defScope yF) .none kV1 dc1 pm1 an1 cd1 ct1), sl1⟩) (c1 : PySem.W.codeIn K cd1 "answer" = true) (k1 : PySem.W.keepIn K (.ref f1) = true)
  (a2 : PySem.W.nsIn K mainGlobals "answers" = some (some (.ref f2))) (l2 : K.lookup f2 = some ⟨oc2, od2, .func (PySem.W.fnOf "answers" "answers" (defArgs yB) (defBody yB) (defScope yB) .none kV2 dc2 pm2 an2 cd2 ct2), sl2⟩) (c2 : PySem.W.codeIn K cd2 "answers" = true) (k2 : PySem.W.keepIn K (.ref f2) = true)
  (a3 : PySem.W.nsIn K mainGlobals "is_look" = some (some (.ref f3))) (l3 : K.lookup f3 = some ⟨oc3, od3, .func (PySem.W.fnOf "is_look" "is_look" (defArgs yt) (defBody yt) (defScope yt) .none kV3 dc3 pm3 an3 cd3 ct3), sl3⟩) (c3 : PySem.W.codeIn K cd3 "is_look" = true) (k3 : PySem.W.keepIn K (.ref f3) = true)
  (a4 : PySem.W.nsIn K mainGlobals "is_laying" = some (some (.ref f4))) (l4 : K.lookup f4 = some ⟨oc4, od4, .func (PySem.W.fnOf "is_laying" "is_laying" (defArgs jr) (defBody jr) (defScope jr) .none kV4 dc4 pm4 an4 cd4 ct4), sl4⟩) (c4 : PySem.W.codeIn K cd4 "is_laying" = true) (k4 : PySem.W.keepIn K (.ref f4) = true)
  (a5 : PySem.W.nsIn K mainGlobals "is_plain" = some (some (.ref f5))) (l5 : K.lookup f5 = some ⟨oc5, od5, .func (PySem.W.fnOf "is_plain" "is_plain" (defArgs jN) (defBody jN) (defScope jN) .none kV5 dc5 pm5 an5 cd5 ct5), sl5⟩) (c5 : PySem.W.codeIn K cd5 "is_plain" = true) (k5 : PySem.W.keepIn K (.ref f5) = true)
  (a6 : PySem.W.nsIn K mainGlobals "meek_at" = some (some (.ref f6))) (l6 : K.lookup f6 = some ⟨oc6, od6, .func (PySem.W.fnOf "meek_at" "meek_at" (defArgs jq) (defBody jq) (defScope jq) .none kV6 dc6 pm6 an6 cd6 ct6), sl6⟩) (c6 : PySem.W.codeIn K cd6 "meek_at" = true) (k6 : PySem.W.keepIn K (.ref f6) = true)
  (a7 : PySem.W.nsIn K mainGlobals "is_meek" = some (some (.ref f7))) (l7 : K.lookup f7 = some ⟨oc7, od7, .func (PySem.W.fnOf "is_meek" "is_meek" (defArgs jI) (defBody jI) (defScope jI) .none kV7 dc7 pm7 an7 cd7 ct7), sl7⟩) (c7 : PySem.W.codeIn K cd7 "is_meek" = true) (k7 : PySem.W.keepIn K (.ref f7) = true)
  (a8 : PySem.W.nsIn K mainGlobals "is_state" = some (some (.ref f8))) (l8 : K.lookup f8 = some ⟨oc8, od8, .func (PySem.W.fnOf "is_state" "is_state" (defArgs jO) (defBody jO) (defScope jO) .none kV8 dc8 pm8 an8 cd8 ct8), sl8⟩) (c8 : PySem.W.codeIn K cd8 "is_state" = true) (k8 : PySem.W.keepIn K (.ref f8) = true)
  (a9 : PySem.W.nsIn K mainGlobals "first" = some (some (.ref f9))) (l9 : K.lookup f9 = some ⟨oc9, od9, .func (PySem.W.fnOf "first" "first" (defArgs yU) (defBody yU) (defScope yU) .none kV9 dc9 pm9 an9 cd9 ct9), sl9⟩) (c9 : PySem.W.codeIn K cd9 "first" = true) (k9 : PySem.W.keepIn K (.ref f9) = true)
  (a10 : PySem.W.nsIn K mainGlobals "plain" = some (some (.ref f10))) (l10 : K.lookup f10 = some ⟨oc10, od10, .func (PySem.W.fnOf "plain" "plain" (defArgs yV) (defBody yV) (defScope yV) .none kV10 dc10 pm10 an10 cd10 ct10), sl10⟩) (c10 : PySem.W.codeIn K cd10 "plain" = true) (k10 : PySem.W.keepIn K (.ref f10) = true)
  (a11 : PySem.W.nsIn K mainGlobals "swap" = some (some (.ref f11))) (l11 : K.lookup f11 = some ⟨oc11, od11, .func (PySem.W.fnOf "swap" "swap" (defArgs zV) (defBody zV) (defScope zV) .none kV11 dc11 pm11 an11 cd11 ct11), sl11⟩) (c11 : PySem.W.codeIn K cd11 "swap" = true) (k11 : PySem.W.keepIn K (.ref f11) = true)
  (a12 : PySem.W.nsIn K mainGlobals "add" = some (some (.ref f12))) (l12 : K.lookup f12 = some ⟨oc12, od12, .func (PySem.W.fnOf "add" "add" (defArgs wW) (defBody wW) (defScope wW) .none kV12 dc12 pm12 an12 cd12 ct12), sl12⟩) (c12 : PySem.W.codeIn K cd12 "add" = true) (k12 : PySem.W.keepIn K (.ref f12) = true)
  (a13 : PySem.W.nsIn K mainGlobals "mark" = some (some (.ref f13))) (l13 : K.lookup f13 = some ⟨oc13, od13, .func (PySem.W.fnOf "mark" "mark" (defArgs yy) (defBody yy) (defScope yy) .none kV13 dc13 pm13 an13 cd13 ct13), sl13⟩) (c13 : PySem.W.codeIn K cd13 "mark" = true) (k13 : PySem.W.keepIn K (.ref f13) = true)
  (a14 : PySem.W.nsIn K mainGlobals "state_text" = some (some (.ref f14))) (l14 : K.lookup f14 = some ⟨oc14, od14, .func (PySem.W.fnOf "state_text" "state_text" (defArgs yf) (defBody yf) (defScope yf) .none kV14 dc14 pm14 an14 cd14 ct14), sl14⟩) (c14 : PySem.W.codeIn K cd14 "state_text" = true) (k14 : PySem.W.keepIn K (.ref f14) = true)
  (a15 : PySem.W.nsIn K mainGlobals "read_number" = some (some (.ref f15))) (l15 : K.lookup f15 = some ⟨oc15, od15, .func (PySem.W.fnOf "read_number" "read_number" (defArgs jo) (defBody jo) (defScope jo) .none kV15 dc15 pm15 an15 cd15 ct15), sl15⟩) (c15 : PySem.W.codeIn K cd15 "read_number" = true) (k15 : PySem.W.keepIn K (.ref f15) = true)
  (a16 : PySem.W.nsIn K mainGlobals "_law_deal" = some (some (.ref f16))) (l16 : K.lookup f16 = some ⟨oc16, od16, .func (PySem.W.fnOf "_law_deal" "_law_deal" (defArgs jt) (defBody jt) (defScope jt) .none kV16 dc16 pm16 an16 cd16 ct16), sl16⟩) (c16 : PySem.W.codeIn K cd16 "_law_deal" = true) (k16 : PySem.W.keepIn K (.ref f16) = true)
  (a17 : PySem.W.nsIn K mainGlobals "_law_draw" = some (some (.ref f17))) (l17 : K.lookup f17 = some ⟨oc17, od17, .func (PySem.W.fnOf "_law_draw" "_law_draw" (defArgs jw) (defBody jw) (defScope jw) .none kV17 dc17 pm17 an17 cd17 ct17), sl17⟩) (c17 : PySem.W.codeIn K cd17 "_law_draw" = true) (k17 : PySem.W.keepIn K (.ref f17) = true)
  (a18 : PySem.W.nsIn K mainGlobals "_law_first" = some (some (.ref f18))) (l18 : K.lookup f18 = some ⟨oc18, od18, .func (PySem.W.fnOf "_law_first" "_law_first" (defArgs j6) (defBody j6) (defScope j6) .none kV18 dc18 pm18 an18 cd18 ct18), sl18⟩) (c18 : PySem.W.codeIn K cd18 "_law_first" = true) (k18 : PySem.W.keepIn K (.ref f18) = true)
  (a19 : PySem.W.nsIn K mainGlobals "_law_plain" = some (some (.ref f19))) (l19 : K.lookup f19 = some ⟨oc19, od19, .func (PySem.W.fnOf "_law_plain" "_law_plain" (defArgs ya) (defBody ya) (defScope ya) .none kV19 dc19 pm19 an19 cd19 ct19), sl19⟩) (c19 : PySem.W.codeIn K cd19 "_law_plain" = true) (k19 : PySem.W.keepIn K (.ref f19) = true)
  (a20 : PySem.W.nsIn K mainGlobals "_law_swap" = some (some (.ref f20))) (l20 : K.lookup f20 = some ⟨oc20, od20, .func (PySem.W.fnOf "_law_swap" "_law_swap" (defArgs yn) (defBody yn) (defScope yn) .none kV20 dc20 pm20 an20 cd20 ct20), sl20⟩) (c20 : PySem.W.codeIn K cd20 "_law_swap" = true) (k20 : PySem.W.keepIn K (.ref f20) = true)
  (a21 : PySem.W.nsIn K mainGlobals "_law_add" = some (some (.ref f21))) (l21 : K.lookup f21 = some ⟨oc21, od21, .func (PySem.W.fnOf "_law_add" "_law_add" (defArgs yC) (defBody yC) (defScope yC) .none kV21 dc21 pm21 an21 cd21 ct21), sl21⟩) (c21 : PySem.W.codeIn K cd21 "_law_add" = true) (k21 : PySem.W.keepIn K (.ref f21) = true)
  (a22 : PySem.W.nsIn K mainGlobals "_law_right" = some (some (.ref f22))) (l22 : K.lookup f22 = some ⟨oc22, od22, .func (PySem.W.fnOf "_law_right" "_law_right" (defArgs jp) (defBody jp) (defScope jp) .none kV22 dc22 pm22 an22 cd22 ct22), sl22⟩) (c22 : PySem.W.codeIn K cd22 "_law_right" = true) (k22 : PySem.W.keepIn K (.ref f22) = true)
  (a23 : PySem.W.nsIn K mainGlobals "is_table" = some (some (.ref f23))) (l23 : K.lookup f23 = some ⟨oc23, od23, .func (PySem.W.fnOf "is_table" "is_table" (defArgs j3) (defBody j3) (defScope j3) .none kV23 dc23 pm23 an23 cd23 ct23), sl23⟩) (c23 : PySem.W.codeIn K cd23 "is_table" = true) (k23 : PySem.W.keepIn K (.ref f23) = true)
  (a24 : PySem.W.nsIn K mainGlobals "table_text" = some (some (.ref f24))) (l24 : K.lookup f24 = some ⟨oc24, od24, .func (PySem.W.fnOf "table_text" "table_text" (defArgs yd) (defBody yd) (defScope yd) .none kV24 dc24 pm24 an24 cd24 ct24), sl24⟩) (c24 : PySem.W.codeIn K cd24 "table_text" = true) (k24 : PySem.W.keepIn K (.ref f24) = true)
  (a25 : PySem.W.nsIn K mainGlobals "read_pair" = some (some (.ref f25))) (l25 : K.lookup f25 = some ⟨oc25, od25, .func (PySem.W.fnOf "read_pair" "read_pair" (defArgs jA) (defBody jA) (defScope jA) .none kV25 dc25 pm25 an25 cd25 ct25), sl25⟩) (c25 : PySem.W.codeIn K cd25 "read_pair" = true) (k25 : PySem.W.keepIn K (.ref f25) = true)
  (a26 : PySem.W.nsIn K mainGlobals "read_state" = some (some (.ref f26))) (l26 : K.lookup f26 = some ⟨oc26, od26, .func (PySem.W.fnOf "read_state" "read_state" (defArgs jS) (defBody jS) (defScope jS) .none kV26 dc26 pm26 an26 cd26 ct26), sl26⟩) (c26 : PySem.W.codeIn K cd26 "read_state" = true) (k26 : PySem.W.keepIn K (.ref f26) = true)
  (a27 : PySem.W.nsIn K mainGlobals "read_table" = some (some (.ref f27))) (l27 : K.lookup f27 = some ⟨oc27, od27, .func (PySem.W.fnOf "read_table" "read_table" (defArgs jv) (defBody jv) (defScope jv) .none kV27 dc27 pm27 an27 cd27 ct27), sl27⟩) (c27 : PySem.W.codeIn K cd27 "read_table" = true) (k27 : PySem.W.keepIn K (.ref f27) = true)
  (a28 : PySem.W.nsIn K mainGlobals "_law_handed_on" = some (some (.ref f28))) (l28 : K.lookup f28 = some ⟨oc28, od28, .func (PySem.W.fnOf "_law_handed_on" "_law_handed_on" (defArgs ja) (defBody ja) (defScope ja) .none kV28 dc28 pm28 an28 cd28 ct28), sl28⟩) (c28 : PySem.W.codeIn K cd28 "_law_handed_on" = true) (k28 : PySem.W.keepIn K (.ref f28) = true)
  (a29 : PySem.W.nsIn K mainGlobals "law" = some (some (.ref f29))) (l29 : K.lookup f29 = some ⟨oc29, od29, .func (PySem.W.fnOf "law" "law" (defArgs yZ) (defBody yZ) (defScope yZ) .none kV29 dc29 pm29 an29 cd29 ct29), sl29⟩) (c29 : PySem.W.codeIn K cd29 "law" = true) (k29 : PySem.W.keepIn K (.ref f29) = true)
  {k_FIGURES : Tok} (g_FIGURES : PySem.W.nsIn K mainGlobals "FIGURES" = some (some (.str "0123456789" k_FIGURES)))
  {k_MOST_FIGURES : Tok} (g_MOST_FIGURES : PySem.W.nsIn K mainGlobals "MOST_FIGURES" = some (some (.int 3 k_MOST_FIGURES)))
  (zK : PySem.W.nsIn K mainGlobals "all" = some none)
  (yW : PySem.W.nsIn K mainGlobals "enumerate" = some none)
  (vx : PySem.W.nsIn K mainGlobals "int" = some none)
  (j5 : PySem.W.nsIn K mainGlobals "len" = some none)
  (vL : PySem.W.nsIn K mainGlobals "list" = some none)
  (v5 : PySem.W.nsIn K mainGlobals "max" = some none)
  (ji : PySem.W.nsIn K mainGlobals "range" = some none)
  (zp : PySem.W.nsIn K mainGlobals "reversed" = some none)
  (jl : PySem.W.nsIn K mainGlobals "tuple" = some none) :
  ∃ T : Txt K mg, T.Jb = fa := by
 have e : some (Value.ref fa) = some (Value.ref f29) := hfa.symm.trans (PySem.W.mg_of X G a29)
 have e2 : fa = f29 := by injection e with e1; injection e1
 exact ⟨{ zh := f0, yP := _, jH := Qcw (st := jD) l0 c0 k0, jb := PySem.W.mg_of X G a0, vd := f1, wD := _, vf := Qcw (st := yF) l1 c1 k1, yv := PySem.W.mg_of X G a1, wz := f2, wb := _, vn := Qcw (st := yB) l2 c2 k2, yA := PySem.W.mg_of X G a2, wH := f3, z3 := _, vv := Qcw (st := yt) l3 c3 k3, j9 := PySem.W.mg_of X G a3, zy := f4, zb := _, wo := Qcw (st := jr) l4 c4 k4, jy := PySem.W.mg_of X G a4, zS := f5, zA := _, z6 := Qcw (st := jN) l5 c5 k5, ju := PySem.W.mg_of X G a5, wG := f6, z0 := _, vp := Qcw (st := jq) l6 c6 k6, j7 := PySem.W.mg_of X G a6, wE := f7, zR := _, wI := Qcw (st := jI) l7 c7 k7, jx := PySem.W.mg_of X G a7, zW := f8, zC := _, wR := Qcw (st := jO) l8 c8 k8, j2 := PySem.W.mg_of X G a8, vR := f9, vc := _, vT := Qcw (st := yU) l9 c9 k9, yi := PySem.W.mg_of X G a9, vV := f10, fd_plain := _, vN := Qcw (st := yV) l10 c10 k10, yj := PySem.W.mg_of X G a10, Jn := f11, vU := _, Jr := Qcw (st := zV) l11 c11 k11, yR := PySem.W.mg_of X G a11, Zo := f12, Ju := _, Zr := Qcw (st := wW) l12 c12 k12, zG := PySem.W.mg_of X G a12, Jy := f13, vK := _, Ze := Qcw (st := yy) l13 c13 k13, zn := PySem.W.mg_of X G a13, zd := f14, yO := _, z4 := Qcw (st := yf) l14 c14 k14, jT := PySem.W.mg_of X G a14, yQ := f15, yz := _, zH := Qcw (st := jo) l15 c15 k15, js := PySem.W.mg_of X G a15, wj := f16, zt := _, wS := Qcw (st := jt) l16 c16 k16, yq := PySem.W.mg_of X G a16, zT := f17, zF := _, z5 := Qcw (st := jw) l17 c17 k17, jM := PySem.W.mg_of X G a17, zB := f18, zo := _, wm := Qcw (st := j6) l18 c18 k18, jz := PySem.W.mg_of X G a18, zu := f19, zl := _, wn := Qcw (st := ya) l19 c19 k19, jB := PySem.W.mg_of X G a19, z9 := f20, zz := _, wX := Qcw (st := yn) l20 c20 k20, jQ := PySem.W.mg_of X G a20, wA := f21, wc := _, vy := Qcw (st := yC) l21 c21 k21, j8 := PySem.W.mg_of X G a21, zw := f22, y9 := _, yT := Qcw (st := jp) l22 c22 k22, jk := PySem.W.mg_of X G a22, wf := f23, zx := _, wT := Qcw (st := j3) l23 c23 k23, j0 := PySem.W.mg_of X G a23, zi := f24, yK := _, wd := Qcw (st := yd) l24 c24 k24, jE := PySem.W.mg_of X G a24, zE := f25, za := _, wu := Qcw (st := jA) l25 c25 k25, yb := PySem.W.mg_of X G a25, zj := f26, yL := _, zQ := Qcw (st := jS) l26 c26 k26, jV := PySem.W.mg_of X G a26, zg := f27, yS := _, zZ := Qcw (st := jv) l27 c27 k27, jF := PySem.W.mg_of X G a27, yp := f28, ye := _, yk := Qcw (st := ja) l28 c28 k28, jj := PySem.W.mg_of X G a28, Jb := f29, Jv := _, jaA := Qcw (st := yZ) l29 c29 k29, vj := PySem.W.mg_of X G a29, k_FIGURES := _, g_FIGURES := PySem.W.mg_of X G g_FIGURES, k_MOST_FIGURES := _, g_MOST_FIGURES := PySem.W.mg_of X G g_MOST_FIGURES, zK := PySem.W.mg_none_of X G zK, yW := PySem.W.mg_none_of X G yW, vx := PySem.W.mg_none_of X G vx, j5 := PySem.W.mg_none_of X G j5, vL := PySem.W.mg_none_of X G vL, v5 := PySem.W.mg_none_of X G v5, ji := PySem.W.mg_none_of X G ji, zp := PySem.W.mg_none_of X G zp, jl := PySem.W.mg_none_of X G jl }, e2.symm⟩
theorem walk {l : PySem.W.OpenLaw} {q : Program} {loose : List Str} {XP : (Str → Option Value) → Heap → Prop} {YP : World → Heap → Prop} {d : DefRec} {K : Params → PySem.W.Frag} (hn : l.most = some 63) (hdf : d.params.defaults = [])
  (hY : ∀ (w : World) (h : Heap), YP w h → (K w.params).In h) (F : ∀ (w : World) (mg : Str → Option Value) (fa : Addr) (h : Heap), (K w.params).In h → h.Ns mainGlobals mg → mg d.name = some (.ref fa) → ∃ T : Txt (K w.params) mg, T.Jb = fa) :
  PySem.W.WalkO q loose XP YP l.row.toRowW d [] (fun f vs => PySem.call f vs) := by
 refine L2.walk_ofK (n := 63) (k := 6) (x := "_law_script") (CX := CX0) (K := K) (sp := fun K => spOf K 1 vj) hn (by decide) hdf ⟨rfl, by decide, by decide⟩ hY (fun w mg fa h kin ns hmg => ?_) (fun K H a ns hl hO hS => Qgw hO hS (law_true ns hl)) (fun _ _ _ _ z => z)
 obtain ⟨T, e⟩ := F w mg fa h kin ns hmg
 subst e
 refine ⟨T.Jv, fun s u => ?_, fun base _ _ => jbl T⟩
 obtain ⟨oc, od, kV, doc, pm, an, cdv, ct, osl, e, lk, hcd⟩ := T.jaA.ex
 rw [e]
 exact .of_eq rfl
end My
noncomputable def  PySem.W.Fast.tw16090485285055006612 : PySem.Program := PySem.Challenge.pw_pactboards_k54_known_tables
theorem PySem.W.Fast.te16090485285055006612 : PySem.Challenge.pw_pactboards_k54_known_tables = PySem.W.Fast.tw16090485285055006612 := rfl
open PySem PySem.W PyProof.Rows
set_option maxHeartbeats 0 in
theorem PySem.Challenge.cw_pactboards_k54_known_tables_holds : PySem.Challenge.rw_pactboards_k54_known_tables.Holds := by
 w_on; o_law; k_head; (case hw => w_witness2)
 k_fill
 refine My.walk (l := PySem.Challenge.rw_pactboards_k54_known_tables) rfl rfl (fun w h Y => PySem.W.kIn_of Y) ?F
 case F =>
  intro w mg fa h KX G hmg
  refine' My.txt_mk KX G hmg ?a0 ?l0 ?c0 ?k0 ?a1 ?l1 ?c1 ?k1 ?a2 ?l2 ?c2 ?k2 ?a3 ?l3 ?c3 ?k3 ?a4 ?l4 ?c4 ?k4 ?a5 ?l5 ?c5 ?k5 ?a6 ?l6 ?c6 ?k6 ?a7 ?l7 ?c7 ?k7 ?a8 ?l8 ?c8 ?k8 ?a9 ?l9 ?c9 ?k9 ?a10 ?l10 ?c10 ?k10 ?a11 ?l11 ?c11 ?k11 ?a12 ?l12 ?c12 ?k12 ?a13 ?l13 ?c13 ?k13 ?a14 ?l14 ?c14 ?k14 ?a15 ?l15 ?c15 ?k15 ?a16 ?l16 ?c16 ?k16 ?a17 ?l17 ?c17 ?k17 ?a18 ?l18 ?c18 ?k18 ?a19 ?l19 ?c19 ?k19 ?a20 ?l20 ?c20 ?k20 ?a21 ?l21 ?c21 ?k21 ?a22 ?l22 ?c22 ?k22 ?a23 ?l23 ?c23 ?k23 ?a24 ?l24 ?c24 ?k24 ?a25 ?l25 ?c25 ?k25 ?a26 ?l26 ?c26 ?k26 ?a27 ?l27 ?c27 ?k27 ?a28 ?l28 ?c28 ?k28 ?a29 ?l29 ?c29 ?k29 ?g_FIGURES ?g_MOST_FIGURES ?zK ?yW ?vx ?j5 ?vL ?v5 ?ji ?zp ?jl
  case a0 | l0 | c0 | k0 | a1 | l1 | c1 | k1 | a2 | l2 | c2 | k2 | a3 | l3 | c3 | k3 | a4 | l4 | c4 | k4 | a5 | l5 | c5 | k5 | a6 | l6 | c6 | k6 | a7 | l7 | c7 | k7 | a8 | l8 | c8 | k8 | a9 | l9 | c9 | k9 | a10 | l10 | c10 | k10 | a11 | l11 | c11 | k11 | a12 | l12 | c12 | k12 | a13 | l13 | c13 | k13 | a14 | l14 | c14 | k14 | a15 | l15 | c15 | k15 | a16 | l16 | c16 | k16 | a17 | l17 | c17 | k17 | a18 | l18 | c18 | k18 | a19 | l19 | c19 | k19 | a20 | l20 | c20 | k20 | a21 | l21 | c21 | k21 | a22 | l22 | c22 | k22 | a23 | l23 | c23 | k23 | a24 | l24 | c24 | k24 | a25 | l25 | c25 | k25 | a26 | l26 | c26 | k26 | a27 | l27 | c27 | k27 | a28 | l28 | c28 | k28 | a29 | l29 | c29 | k29 | g_FIGURES | g_MOST_FIGURES | zK | yW | vx | j5 | vL | v5 | ji | zp | jl => k_is